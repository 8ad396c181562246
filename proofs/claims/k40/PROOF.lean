import PyProof.Rows.All
import Wide.All
import OpenK.AllK
import Wide.FinOn
import Lean
import PyProof.EqAt
import PyProof.EqKinds
import PyProof.TupleCall
import PySem.Challenge.RW_fewrooms_k40_cuts_shown
open Array renaming length_toList→C0,getD_eq_getD_getElem?→D6,getElem?_eq_getElem→D8,getElem?_toList→M9,perm_iff_toList_perm→j9,getElem?_setIfInBounds_ne→r8,getElem?_eq_some_iff→A09,size_map→A18,mem_of_getElem?→A67,toList_zip→B42,toList_map→B43,replicate→B57,mem_def→B74,toList→B79
open Bool renaming false_ne_true→C3,and_eq_true→C7,false_eq_true→J3,true_and→L8,eq_false_iff→L9,false_and→P3,and_false→P7,eq_iff_iff→Q2,and_true→V4,not_true→m9,or_eq_true→A65,and_eq_true_iff→A83,not_false→A86,not_eq_true'→B28,false_or→B71
open Classical renaming byContradiction→P9
open False renaming elim→i7
open ForInStep renaming yield→O5,done→T9
open Int renaming le_refl→J7,toNat_natCast→O6,emod_lt_of_pos→V2,emod_nonneg→Y6,fdiv_eq_ediv_of_nonneg→A04,fmod_eq_emod_of_nonneg→A05,le_of_lt→B33
open List renaming length_map→A0,getElem?_eq_getElem→A5,getElem?_eq_some_iff→A6,length_append→B0,mem_singleton→B2,mem_cons_of_mem→B4,mem_cons_self→B5,map_append→B6,size_toArray→B7,length_singleton→C1,mem_append→C2,getElem?_map→C4,mem_of_getElem?→C5,mem_cons→C9,take_add_one→D4,length_take→D7,length_cons→D9,mem_map→E1,all_eq_true→E5,map_cons→E7,length_drop→F2,take_length→F4,getElem?_append_left→F7,getElem?_eq_none→G0,mem_range→J4,mem_append_right→J8,getElem?_append_right→L6,take_of_length_le→L7,getD_eq_getElem?_getD→M6,getElem?_of_mem→M7,length_eq_zero_iff→M8,range→N9,nodup_cons→O0,nodup_append→O8,map_congr_left→O9,length_nil→P0,replicate→P4,flatten_cons→P5,append_assoc→P6,mem_of_mem_drop→Q0,getLastD_eq_getLast?→Q8,pairwise_map→R5,append_nil→R8,pairwise_cons→R9,mem_append_left→S0,mem_iff_getElem→T4,mem_reverse→T5,mem_filter→V0,lookup_cons_self→V1,pairwise_append→V3,forIn_cons→W2,length_pos_iff→W6,not_mem_nil→W8,any_eq_true→W9,filter_cons→X0,take_append_drop→X3,map_map→X5,mem_erase_of_ne→Y0,getElem?_take_of_lt→Y1,foldl_cons→Y2,find?_cons→Y3,length_erase_of_mem→Y7,replicate_succ→b9,length_reverse→c6,sum_cons→c7,mem_flatten→c9,getLast?_eq_some_getLast→d3,pairwise_lt_range→d6,find?_cons_of_neg→d7,mem_filterMap→d8,eq_nil_or_concat→i5,concat_eq_append→i6,take_sublist→i8,any_cons→i9,reverse_cons→j4,ext_getElem?→j8,mem_of_mem_take→k4,getElem_toArray→k6,pairwise_iff_getElem→k8,lookup_cons→l9,getElem_mem→m4,filterMap_cons→m5,filter_append→o5,eraseIdxIfInBounds_toArray→o8,eraseIdx_eq_take_drop_succ→t5,map_nil→t8,all_map→u7,length_filter_le→u8,all_cons→x6,mem_map_of_mem→z8,flatMap_append→A03,perm_append_singleton→A08,nodup_iff_pairwise_ne→A10,zip_cons_cons→A12,getElem?_drop→A16,drop_sublist→A25,getElem?_inj→A30,flatMap_cons→A31,getLast?_map→A32,eraseIdx_cons_succ→A35,pairwise_filterMap→A39,getLast?_cons_cons→A40,nodup_range→A45,perm_middle→A46,map_reverse→A49,isEmpty_iff→A50,getElem?_set_self→A51,range_succ_eq_map→A58,length_pos_of_mem→A60,find?_cons_of_pos→A61,of_mem_zip→A64,all_append→A74,getElem?_set_ne→A76,getLast?_append→A81,reverse_reverse→A82,foldl_nil→A85,drop_zero→A89,toList_toArray→A97,map_eq_nil_iff→A98,reverse_append→A99,filterMap_map→B03,findIdx?→B09,getElem_take→B17,getElem_drop→B18,foldl_append→B21,mapM_toArray→B26,reverse_perm→B29,flatMap_nil→B46,map→B47,length→B50,length_set→B51,map_id→B59,range_succ→B60,forIn_nil→B63,mapM_cons→B64,foldl→B67,map_take→B75,map_drop→B76
open List.Nodup renaming length_le_of_subset→F0
open List.Perm renaming append_left→u6
open List.cons renaming inj→X6
open Nat renaming le_refl→B3,ne_of_lt→E2,zero_le→F5,lt_of_lt_of_le→J2,le_trans→M5,lt_succ_of_lt→P8,pow_succ→V5,strongRecOn→W5,lt_of_le_of_lt→X2,le_of_lt→Y8,mul_comm→Y9,sub_self→a9,lt_irrefl→b7,mul_assoc→c5,le_of_not_lt→c8,mod_lt→d5,ne_of_gt→f9,le_succ→h9,add_comm→m6,not_lt_zero→o1,lt_trans→t9,pow_le_pow_right→x5,mul_add→y9,min_eq_left→A01,zero_add→A13,add_sub_cancel→A14,mul_left_comm→A29,le_add_right→A41,lt_succ_self→A42,succ_ne_self→A43,eq_zero_of_not_pos→A57,zero_div→A68,add_zero→A69,add_mod→A95,mul_mod→A96,lt_or_eq_of_le→B07,lt_trichotomy→B27,sub_zero→B34,mod_eq_of_lt→B41,min_eq_right→B44,le_antisymm→B53,add_mul→B54,one_mul→B55,two_pow_pos→B56
open Ne renaming symm→O1
open Option renaming toList_some→E3,map_some→Y4,isSome_map→Y5,some→b0,getD_some→w6,isSome_iff_exists→A22,map_eq_some_iff→A56,getD_none→B36,none→B85
open Option.some renaming inj→J5
open Or renaming inl→E8,inr→B31
open PyProof renaming noPylong_small→A52
open PyProof.Rows renaming slot_tuple_getitem→O7,callWith_type1→R7
open PyProof.Rows.IntsAre renaming int_at→i3
open PySem renaming mem_of_lookup→T6,call→B68
open PySem.Around renaming under_plainId→O3,under_plain→B11
open PySem.AutoSeq1 renaming sub_tuple_tuple→A23
open PySem.Builtin.Builtins renaming bindParams→A00
open PySem.Builtin.Frozenset renaming updateFrom→x8,sizeOf→A26,slot0→A37,newClass→B61
open PySem.Builtin.List renaming listTooLong→R4,listLengthHint→y4
open PySem.Builtin.Range renaming rangeSize→b8,small→A93
open PySem.Builtin.Slice renaming slicePlaces→X8,sliceAdjust→k7,sliceApplied→A06
open PySem.Builtin.SmallTypes renaming ownedTupleIsFree→W4,nextOf→X9,newRecord→d9,calledThroughType→l0,ownedTupleFields→A94
open PySem.Builtin.Tuple renaming tupleExact→R3,tupleItemsOf→A07
open PySem.Calls renaming call_function_entry→k9,callWith_builtin→A55
open PySem.ClassData renaming mk→B78
open PySem.Code renaming quiet_builtin→B10
open PySem.Data renaming cell→A63,fields→A90,seq→B86
open PySem.F renaming plainAttrs_list→E4,slot_list_append→K0,type_list_append→L5,called_set→Q3,slot_tuple_iterator_next→W7,plain_min_loop→X1,slot_zip_next→i4,slot_list_extend→m7,type_list_extend→m8,slot_list_pop→u9,type_list_pop→w5,args_tuple_iterator_next_1→x9,slot_set_iter→y3,entry_tuple_iterator_next→y8,args_tuple_add_2→A24,args_zip_next_1→A27,entry_tuple_add→A34,plain_list_iadd→A38,entry_zip_next→A44,entry_min_loop→A48,slot_tuple_add→A54,slot_tuple_lt→A71,args_list_extend_2→A77,sub_list_frozenset→A78,args_object_init_2→A79,called_tuple→A87,entry_list_extend→A91,slot_list_extend→B06,entry_type_call→B22,args_set_iter_1→B23,plain_tuple_new→B24,typeCall_set_1→B39,entry_set_init→B40
open PySem.Heap renaming get?_push_of_some→A8,lt_size→B8,get?_push_size→B9,get?_update_other→F9,size_push→O2,get?_update_self→O4,get?_push_ne→t7,size_update→x4
open PySem.Heap.IsSliceOf renaming new→B04
open PySem.Heap.SameBut renaming update→Q9,refl→B19
open PySem.MeetsSeq.EqGives renaming int→B82
open PySem.NameKind renaming free→Q5,cell→B72
open PySem.Obj renaming data_mapFields→Q1,mapSeq→W1,isFreed_of_fields→X4,cls_mapFields→j7,mapFields→A36,putSet→B20,mk→B65
open PySem.Paired renaming length→C8,snoc→o9
open PySem.PassesOwn renaming never→F3
open PySem.PyData renaming int→Q6,depthAll→A02,leavesShortAll→A73,showableAll→B12,hasDictAll→B30,weightAll→B45
open PySem.SeqAt renaming eq_tupleAt→A59,notIn_listAt→B05
open PySem.SeqAt.EqAt renaming int_int→A11,int_str→B00,str_int→B01,same→B52
open PySem.SeqAt.RcNeAt renaming lists_lengths→o6,tuples→A19,lists→A28
open PySem.SetTable renaming below→C6,insertAt→D5,bits→J6,runEnd→P2,turns→V6,fits→c4,fill→j6,sizeAbove→n9,has→A66,grown→A88,orStandIn→B08,freeSlot→B16,layClean→B25,advance→B37,tooFull→B38,probe→B62,slot→B73,put→B81
open PySem.SetTable.below renaming go→q0
open PySem.SetTable.layClean renaming free→M4
open PySem.SetTable.probe renaming go→F6
open PySem.SetTable.sizeAbove renaming go→A70
open PySem.Str renaming ofString→J9,empty→g7
open PySem.Value renaming ref→E6,int→R0,none→V7,bool→V8,type→V9,isInt→A33,str→B48,isStrOf→B70
open PySem.W renaming nsIn→D3,mg_of→E9,mg_none_of→I0,kia_one→Q7,kitOne→R6,findIn→T8,keepIn→X7,fnOf→g9,codeIn→A17,methodObj→A20,specialIn→A21,cellsFrom_some→A53,instObj→A62,kat_nil→A72,kas_first_eq→A80,lookIn→A84,kdu_collect→A92,mroIn→B02,hasDictIn→B13,kitx_list→B14,kitx_dict→B15,plainGet→B35,takesIn→B49,kHook→B69,isFn→B80
open PySem.W.Looks renaming here→A15,ld→A47
open PySem.W.OpenLaw renaming wellSaid→B66,row→B83
open PySem.W.OpenRow renaming toRowW→B77
open PySem.Walks renaming list→A75
open PySem.pickOrder renaming go→B32
open StateT renaming run_pure→B58
open Sum renaming inl→J1,inr→Q4
open Sum.inl renaming inj→o7
open Sum.inr renaming inj→B84
open True renaming intro→d4
set_option Elab.async false
set_option linter.all false
set_option maxRecDepth 100000
set_option maxHeartbeats 0
namespace Fw
open PySem
def top (i:Nat):Stmt:=PySem.Challenge.pw_fewrooms_k40_cuts_shown.main.body.getD i (.Pass ⟨0,0,0,0⟩)
abbrev qES:Stmt:=top 4
abbrev qFZ:Stmt:=top 5
abbrev qDB:Stmt:=top 10
abbrev qEW:Stmt:=top 11
abbrev qEQ:Stmt:=top 12
abbrev qET:Stmt:=top 13
abbrev qFX:Stmt:=top 14
abbrev qDV:Stmt:=top 15
abbrev qH4:Stmt:=top 16
abbrev qFY:Stmt:=top 17
abbrev qH5:Stmt:=top 18
abbrev qDA:Stmt:=top 19
abbrev qDW:Stmt:=top 21
abbrev qER:Stmt:=top 22
abbrev qEU:Stmt:=top 24
abbrev qEV:Stmt:=top 25
abbrev qIZ:Stmt:=top 27
abbrev qLC:Stmt:=top 28
abbrev qDC:Stmt:=top 29
abbrev qEX:Stmt:=top 30
abbrev qPO:Stmt:=top 31
abbrev qIY:Stmt:=top 32
abbrev qPP:Stmt:=top 33
abbrev qG0:Stmt:=top 34
abbrev qDX:Stmt:=top 35
abbrev qH6:Stmt:=top 36
abbrev qIX:Stmt:=top 37
abbrev qEY:Stmt:=top 38
abbrev qLD:Stmt:=top 39
abbrev qKD:Stmt:=top 40
def dA (s:Stmt):Arguments:=match s with
 | .FunctionDef _ a _ _ _ _ _ _ _ _=>a
 | _=>{ posonlyargs:=[],args:=[],vararg:=none,kwonlyargs:=[],kw_defaults:=[],kwarg:=none,defaults:=[] }
def dB (s:Stmt):List Stmt:=match s with
 | .FunctionDef _ _ b _ _ _ _ _ _ _=>b
 | _=>[]
def dS (s:Stmt):Scope:=match s with
 | .FunctionDef _ _ _ _ _ _ sc _ _ _=>sc
 | _=>{ kind:=.function,names:=[],isGenerator:=false,isCoroutine:=false }
abbrev so (s:String):Str:=PySem.Str.ofString s
abbrev kh (P:Params) (s:Str):Int:=PySem.PyData.keyHash P s
abbrev hde (P:Params) (s:String) (n:Nat) (v:Value):DictEntry:=⟨kh P (so s),.str (so s) n,v⟩
abbrev hvs (s:String) (n:Nat):Value:=.str (so s) n
abbrev hcut (n:Nat):Value:=hvs "/claim/cut.py" n
abbrev hfd (x q:String) (s:Stmt) (a b c d:Value) (e:Option Addr) (f g:Value) (i:Addr):FuncData:=⟨so x,so q,dA s,.stmts (dB s),dS s,3,[],a,b,c,d,e,f,g,i⟩
abbrev htp (d:Data) (s:Array (Option Value)):Obj:=⟨.type "tuple",none,d,s⟩
abbrev hcd (d:Data) (s:Array (Option Value)):Obj:=⟨.type "code",none,d,s⟩
abbrev hfn (d:Data) (s:Array (Option Value)):Obj:=⟨.type "function",none,d,s⟩
def hpK:Params->PySem.W.Frag:=fun P=>
 (nat_lit 2,B65 .none .none (.dict #[]) #[]) ::
 (nat_lit 3,B65 (.type "dict") .none (.dict #[hde P "__name__" 165 (hvs "law_fewrooms_k40_cuts_shown" 389),hde P "__doc__" 166 .none,hde P "__package__" 167 .none,hde P "__loader__" 168 (.builtin "__main__.__loader__#opaque"),hde P "__spec__" 169 .none,hde P "__annotations__" 170 (.ref 6),hde P "__builtins__" 171 (.ref 4),hde P "__file__" 173 (hcut 172),hde P "__cached__" 174 .none,hde P "RoomError" 206 (.ref 24),hde P "TooMany" 222 (.ref 37),hde P "is_number" 231 (.ref 46),hde P "is_below" 239 (.ref 53),hde P "MOST_PATHS" 243 (.int 300 242),hde P "SOURCE" 246 (.int (-1) 245),hde P "GOAL" 249 (.int (-2) 248),hde P "count_paths" 255 (.ref 58),hde P "all_paths" 268 (.ref 65),hde P "side_ends" 279 (.ref 72),hde P "free_ways" 292 (.ref 79),hde P "way_back" 304 (.ref 86),hde P "turn_round" 314 (.ref 93),hde P "side_to" 324 (.ref 100),hde P "sides_of" 330 (.ref 105),hde P "is_path" 336 (.ref 110),hde P "shows_sides" 349 (.ref 117),hde P "shows_pair" 361 (.ref 124),hde P "shows_cut" 374 (.ref 131),hde P "cut_paper" 382 (.ref 136),hde P "cut_bound" 388 (.ref 141),hde P "_law_begin" 398 (.ref 148),hde P "_law_take" 411 (.ref 155),hde P "_law_some_needs" 422 (.ref 162),hde P "_law_tree_net" 434 (.ref 169),hde P "_law_net" 440 (.ref 174),hde P "_law_paths" 446 (.ref 179),hde P "_law_hit" 452 (.ref 184),hde P "_law_is_side" 458 (.ref 189),hde P "_law_are_sides" 464 (.ref 194),hde P "_law_is_way" 470 (.ref 199),hde P "_law_takes" 476 (.ref 204),hde P "_law_bent_row" 482 (.ref 209),hde P "_law_bent" 494 (.ref 216),hde P "law" 512 (.ref 223)] 44) #[]) ::
 (nat_lit 15,htp (.seq #[.type "ValueError"]) #[]) ::
 (nat_lit 22,htp (.seq #[]) #[]) ::
 (nat_lit 23,B65 (.type "dict") .none (.dict #[hde P "__module__" 196 (hvs "fewrooms.errors" 187),hde P "__firstlineno__" 200 (.int 2 199),hde P "__static_attributes__" 201 (.ref 22),hde P "__weakref__" 203 (.ref 25),hde P "__doc__" 204 .none] 3) #[]) ::
 (nat_lit 24,B65 (.type "type") .none (.cls (B78 (so "RoomError") [.type "ValueError"] [.ref 24,.type "ValueError",.type "Exception",.type "BaseException",.type "object"] 23 (so "RoomError") .true [] [.ref 37] .false .none .false)) #[b0 (.ref 15),.none,b0 (hvs "RoomError" 189),b0 (hvs "RoomError" 197),b0 (.builtin "ValueError.__new__"),b0 (.bool .true)]) ::
 (nat_lit 25,B65 (.type "getset_descriptor") .none (.fields #[hvs "__weakref__" 202,.ref 24,.builtin "ExceptionGroup.__weakref__",.none]) #[]) ::
 (nat_lit 28,htp (.seq #[.ref 24]) #[]) ::
 (nat_lit 35,htp (.seq #[]) #[]) ::
 (nat_lit 36,B65 (.type "dict") .none (.dict #[hde P "__module__" 214 (hvs "fewrooms.errors" 187),hde P "__firstlineno__" 218 (.int 4 217),hde P "__static_attributes__" 219 (.ref 35),hde P "__doc__" 220 .none] 2) #[]) ::
 (nat_lit 37,B65 (.type "type") .none (.cls (B78 (so "TooMany") [.ref 24] [.ref 37,.ref 24,.type "ValueError",.type "Exception",.type "BaseException",.type "object"] 36 (so "TooMany") .true [] [] .false .none .false)) #[b0 (.ref 28),.none,b0 (hvs "TooMany" 207),b0 (hvs "TooMany" 215),b0 (.builtin "ValueError.__new__"),b0 (.bool .true)]) ::
 (nat_lit 40,htp (.seq #[]) #[]) ::
 (nat_lit 42,htp (.seq #[hvs "thing" 228]) #[]) ::
 (nat_lit 43,htp (.seq #[]) #[]) ::
 (nat_lit 45,hcd (.fields #[hvs "is_number" 225,hvs "is_number" 226,hcut 227,.int 7 0,.int 1 0,.int 0 0,.int 0 0,.int 3 0,.ref 40,.bool .true,.int 181 0,.ref 41,.none,.ref 42,.ref 43,.ref 44,.int 229 0,.int 7 0,hcut 230]) #[]) ::
 (nat_lit 46,hfn (.func (hfd "is_number" "is_number" qES .none .none .none (hvs "fewrooms.kinds" 223) .none (.ref 45) .none 0)) #[]) ::
 (nat_lit 47,htp (.seq #[]) #[]) ::
 (nat_lit 49,htp (.seq #[hvs "thing" 235,hvs "end" 236]) #[]) ::
 (nat_lit 50,htp (.seq #[]) #[]) ::
 (nat_lit 52,hcd (.fields #[hvs "is_below" 232,hvs "is_below" 233,hcut 234,.int 9 0,.int 2 0,.int 0 0,.int 0 0,.int 3 0,.ref 47,.bool .true,.int 181 0,.ref 48,.none,.ref 49,.ref 50,.ref 51,.int 237 0,.int 9 0,hcut 238]) #[]) ::
 (nat_lit 53,hfn (.func (hfd "is_below" "is_below" qFZ .none .none .none (hvs "fewrooms.kinds" 223) .none (.ref 52) .none 0)) #[]) ::
 (nat_lit 54,htp (.seq #[]) #[]) ::
 (nat_lit 57,hcd (.fields #[hvs "count_paths" 250,hvs "count_paths" 251,hcut 252,.int 15 0,.int 2 0,.int 0 0,.int 0 0,.int 3 0,.ref 54,.bool .true,.int 181 0,.ref 55,.none,.none,.none,.ref 56,.int 253 0,.int 15 0,hcut 254]) #[]) ::
 (nat_lit 58,hfn (.func (hfd "count_paths" "count_paths" qDB .none .none .none (hvs "fewrooms.paths" 240) .none (.ref 57) .none 0)) #[]) ::
 (nat_lit 59,htp (.seq #[]) #[]) ::
 (nat_lit 61,htp (.seq #[hvs "net" 259,hvs "work" 260,hvs "paths" 261,hvs "begun" 262,hvs "path" 263,hvs "needs" 264,hvs "need" 265]) #[]) ::
 (nat_lit 62,htp (.seq #[]) #[]) ::
 (nat_lit 64,hcd (.fields #[hvs "all_paths" 256,hvs "all_paths" 257,hcut 258,.int 21 0,.int 2 0,.int 0 0,.int 0 0,.int 3 0,.ref 59,.bool .true,.int 181 0,.ref 60,.none,.ref 61,.ref 62,.ref 63,.int 266 0,.int 21 0,hcut 267]) #[]) ::
 (nat_lit 65,hfn (.func (hfd "all_paths" "all_paths" qEW .none .none .none (hvs "fewrooms.paths" 240) .none (.ref 64) .none 0)) #[]) ::
 (nat_lit 66,htp (.seq #[]) #[]) ::
 (nat_lit 68,htp (.seq #[hvs "net" 272,hvs "path" 273,hvs "ends" 274,hvs "work" 275,hvs "need" 276]) #[]) ::
 (nat_lit 69,htp (.seq #[]) #[]) ::
 (nat_lit 71,hcd (.fields #[hvs "side_ends" 269,hvs "side_ends" 270,hcut 271,.int 34 0,.int 2 0,.int 0 0,.int 0 0,.int 3 0,.ref 66,.bool .true,.int 181 0,.ref 67,.none,.ref 68,.ref 69,.ref 70,.int 277 0,.int 34 0,hcut 278]) #[]) ::
 (nat_lit 72,hfn (.func (hfd "side_ends" "side_ends" qEQ .none .none .none (hvs "fewrooms.paths" 240) .none (.ref 71) .none 0)) #[]) ::
 (nat_lit 73,htp (.seq #[]) #[]) ::
 (nat_lit 75,htp (.seq #[hvs "net" 283,hvs "path" 284,hvs "ends" 285,hvs "ways" 286,hvs "work" 287,hvs "needs" 288,hvs "need" 289]) #[]) ::
 (nat_lit 76,htp (.seq #[]) #[]) ::
 (nat_lit 78,hcd (.fields #[hvs "free_ways" 280,hvs "free_ways" 281,hcut 282,.int 41 0,.int 2 0,.int 0 0,.int 0 0,.int 3 0,.ref 73,.bool .true,.int 181 0,.ref 74,.none,.ref 75,.ref 76,.ref 77,.int 290 0,.int 41 0,hcut 291]) #[]) ::
 (nat_lit 79,hfn (.func (hfd "free_ways" "free_ways" qET .none .none .none (hvs "fewrooms.paths" 240) .none (.ref 78) .none 0)) #[]) ::
 (nat_lit 80,htp (.seq #[]) #[]) ::
 (nat_lit 82,htp (.seq #[hvs "ways" 296,hvs "came_from" 297,hvs "due" 298,hvs "stop" 299,hvs "further" 300,hvs "stops" 301]) #[]) ::
 (nat_lit 83,htp (.seq #[]) #[]) ::
 (nat_lit 85,hcd (.fields #[hvs "way_back" 293,hvs "way_back" 294,hcut 295,.int 55 0,.int 1 0,.int 0 0,.int 0 0,.int 3 0,.ref 80,.bool .true,.int 181 0,.ref 81,.none,.ref 82,.ref 83,.ref 84,.int 302 0,.int 55 0,hcut 303]) #[]) ::
 (nat_lit 86,hfn (.func (hfd "way_back" "way_back" qFX .none .none .none (hvs "fewrooms.paths" 240) .none (.ref 85) .none 0)) #[]) ::
 (nat_lit 87,htp (.seq #[]) #[]) ::
 (nat_lit 89,htp (.seq #[hvs "ways" 308,hvs "stops" 309,hvs "further" 310,hvs "stop" 311]) #[]) ::
 (nat_lit 90,htp (.seq #[]) #[]) ::
 (nat_lit 92,hcd (.fields #[hvs "turn_round" 305,hvs "turn_round" 306,hcut 307,.int 70 0,.int 2 0,.int 0 0,.int 0 0,.int 3 0,.ref 87,.bool .true,.int 181 0,.ref 88,.none,.ref 89,.ref 90,.ref 91,.int 312 0,.int 70 0,hcut 313]) #[]) ::
 (nat_lit 93,hfn (.func (hfd "turn_round" "turn_round" qDV .none .none .none (hvs "fewrooms.paths" 240) .none (.ref 92) .none 0)) #[]) ::
 (nat_lit 94,htp (.seq #[]) #[]) ::
 (nat_lit 96,htp (.seq #[hvs "ways" 318,hvs "work" 319,hvs "side" 320,hvs "stop" 321]) #[]) ::
 (nat_lit 97,htp (.seq #[]) #[]) ::
 (nat_lit 99,hcd (.fields #[hvs "side_to" 315,hvs "side_to" 316,hcut 317,.int 74 0,.int 2 0,.int 0 0,.int 0 0,.int 3 0,.ref 94,.bool .true,.int 181 0,.ref 95,.none,.ref 96,.ref 97,.ref 98,.int 322 0,.int 74 0,hcut 323]) #[]) ::
 (nat_lit 100,hfn (.func (hfd "side_to" "side_to" qH4 .none .none .none (hvs "fewrooms.paths" 240) .none (.ref 99) .none 0)) #[]) ::
 (nat_lit 101,htp (.seq #[]) #[]) ::
 (nat_lit 104,hcd (.fields #[hvs "sides_of" 325,hvs "sides_of" 326,hcut 327,.int 81 0,.int 2 0,.int 0 0,.int 0 0,.int 3 0,.ref 101,.bool .true,.int 181 0,.ref 102,.none,.none,.none,.ref 103,.int 328 0,.int 81 0,hcut 329]) #[]) ::
 (nat_lit 105,hfn (.func (hfd "sides_of" "sides_of" qFY .none .none .none (hvs "fewrooms.paths" 240) .none (.ref 104) .none 0)) #[]) ::
 (nat_lit 106,htp (.seq #[]) #[]) ::
 (nat_lit 109,hcd (.fields #[hvs "is_path" 331,hvs "is_path" 332,hcut 333,.int 88 0,.int 2 0,.int 0 0,.int 0 0,.int 3 0,.ref 106,.bool .true,.int 181 0,.ref 107,.none,.none,.none,.ref 108,.int 334 0,.int 88 0,hcut 335]) #[]) ::
 (nat_lit 110,hfn (.func (hfd "is_path" "is_path" qH5 .none .none .none (hvs "fewrooms.paths" 240) .none (.ref 109) .none 0)) #[]) ::
 (nat_lit 111,htp (.seq #[]) #[]) ::
 (nat_lit 113,htp (.seq #[hvs "net" 340,hvs "path" 341,hvs "thing" 342,hvs "ends" 343,hvs "taken" 344,hvs "work" 345,hvs "side" 346]) #[]) ::
 (nat_lit 114,htp (.seq #[]) #[]) ::
 (nat_lit 116,hcd (.fields #[hvs "shows_sides" 337,hvs "shows_sides" 338,hcut 339,.int 97 0,.int 3 0,.int 0 0,.int 0 0,.int 3 0,.ref 111,.bool .true,.int 181 0,.ref 112,.none,.ref 113,.ref 114,.ref 115,.int 347 0,.int 97 0,hcut 348]) #[]) ::
 (nat_lit 117,hfn (.func (hfd "shows_sides" "shows_sides" qDA .none .none .none (hvs "fewrooms.paths" 240) .none (.ref 116) .none 0)) #[]) ::
 (nat_lit 118,htp (.seq #[]) #[]) ::
 (nat_lit 120,htp (.seq #[hvs "net" 355,hvs "work" 356,hvs "many" 357,hvs "thing" 358]) #[]) ::
 (nat_lit 121,htp (.seq #[]) #[]) ::
 (nat_lit 123,hcd (.fields #[hvs "shows_pair" 352,hvs "shows_pair" 353,hcut 354,.int 113 0,.int 4 0,.int 0 0,.int 0 0,.int 3 0,.ref 118,.bool .true,.int 181 0,.ref 119,.none,.ref 120,.ref 121,.ref 122,.int 359 0,.int 113 0,hcut 360]) #[]) ::
 (nat_lit 124,hfn (.func (hfd "shows_pair" "shows_pair" qDW .none .none .none (hvs "fewrooms.cutcheck" 350) .none (.ref 123) .none 0)) #[]) ::
 (nat_lit 125,htp (.seq #[]) #[]) ::
 (nat_lit 127,htp (.seq #[hvs "net" 365,hvs "work" 366,hvs "rooms" 367,hvs "thing" 368,hvs "paths" 369,hvs "seen" 370,hvs "pair" 371]) #[]) ::
 (nat_lit 128,htp (.seq #[]) #[]) ::
 (nat_lit 130,hcd (.fields #[hvs "shows_cut" 362,hvs "shows_cut" 363,hcut 364,.int 119 0,.int 4 0,.int 0 0,.int 0 0,.int 3 0,.ref 125,.bool .true,.int 181 0,.ref 126,.none,.ref 127,.ref 128,.ref 129,.int 372 0,.int 119 0,hcut 373]) #[]) ::
 (nat_lit 131,hfn (.func (hfd "shows_cut" "shows_cut" qER .none .none .none (hvs "fewrooms.cutcheck" 350) .none (.ref 130) .none 0)) #[]) ::
 (nat_lit 132,htp (.seq #[]) #[]) ::
 (nat_lit 135,hcd (.fields #[hvs "cut_paper" 377,hvs "cut_paper" 378,hcut 379,.int 132 0,.int 2 0,.int 0 0,.int 0 0,.int 3 0,.ref 132,.bool .true,.int 181 0,.ref 133,.none,.none,.none,.ref 134,.int 380 0,.int 132 0,hcut 381]) #[]) ::
 (nat_lit 136,hfn (.func (hfd "cut_paper" "cut_paper" qEU .none .none .none (hvs "fewrooms.cuts" 375) .none (.ref 135) .none 0)) #[]) ::
 (nat_lit 137,htp (.seq #[]) #[]) ::
 (nat_lit 140,hcd (.fields #[hvs "cut_bound" 383,hvs "cut_bound" 384,hcut 385,.int 134 0,.int 2 0,.int 0 0,.int 0 0,.int 3 0,.ref 137,.bool .true,.int 181 0,.ref 138,.none,.none,.none,.ref 139,.int 386 0,.int 134 0,hcut 387]) #[]) ::
 (nat_lit 141,hfn (.func (hfd "cut_bound" "cut_bound" qEV .none .none .none (hvs "fewrooms.cuts" 375) .none (.ref 140) .none 0)) #[]) ::
 (nat_lit 142,htp (.seq #[]) #[]) ::
 (nat_lit 144,htp (.seq #[hvs "_law_script" 394,hvs "_law_cells" 395]) #[]) ::
 (nat_lit 145,htp (.seq #[]) #[]) ::
 (nat_lit 147,hcd (.fields #[hvs "_law_begin" 391,hvs "_law_begin" 392,hcut 393,.int 139 0,.int 1 0,.int 0 0,.int 0 0,.int 3 0,.ref 142,.bool .true,.int 181 0,.ref 143,.none,.ref 144,.ref 145,.ref 146,.int 396 0,.int 139 0,hcut 397]) #[]) ::
 (nat_lit 148,hfn (.func (hfd "_law_begin" "_law_begin" qIZ .none .none .none (hvs "law_fewrooms_k40_cuts_shown" 389) .none (.ref 147) .none 0)) #[]) ::
 (nat_lit 149,htp (.seq #[]) #[]) ::
 (nat_lit 151,htp (.seq #[hvs "_law_state" 402,hvs "_law_many" 403,hvs "_law_turn" 404,hvs "_law_place" 405,hvs "_law_cell" 406,hvs "_law_digit" 407,hvs "_law_mixed" 408]) #[]) ::
 (nat_lit 152,htp (.seq #[]) #[]) ::
 (nat_lit 154,hcd (.fields #[hvs "_law_take" 399,hvs "_law_take" 400,hcut 401,.int 144 0,.int 2 0,.int 0 0,.int 0 0,.int 3 0,.ref 149,.bool .true,.int 181 0,.ref 150,.none,.ref 151,.ref 152,.ref 153,.int 409 0,.int 144 0,hcut 410]) #[]) ::
 (nat_lit 155,hfn (.func (hfd "_law_take" "_law_take" qLC .none .none .none (hvs "law_fewrooms_k40_cuts_shown" 389) .none (.ref 154) .none 0)) #[]) ::
 (nat_lit 156,htp (.seq #[]) #[]) ::
 (nat_lit 158,htp (.seq #[hvs "_law_state" 415,hvs "_law_k" 416,hvs "_law_found" 417,hvs "_law_turn" 418,hvs "_law_far" 419]) #[]) ::
 (nat_lit 159,htp (.seq #[]) #[]) ::
 (nat_lit 161,hcd (.fields #[hvs "_law_some_needs" 412,hvs "_law_some_needs" 413,hcut 414,.int 155 0,.int 2 0,.int 0 0,.int 0 0,.int 3 0,.ref 156,.bool .true,.int 181 0,.ref 157,.none,.ref 158,.ref 159,.ref 160,.int 420 0,.int 155 0,hcut 421]) #[]) ::
 (nat_lit 162,hfn (.func (hfd "_law_some_needs" "_law_some_needs" qDC .none .none .none (hvs "law_fewrooms_k40_cuts_shown" 389) .none (.ref 161) .none 0)) #[]) ::
 (nat_lit 163,htp (.seq #[]) #[]) ::
 (nat_lit 165,htp (.seq #[hvs "_law_state" 426,hvs "_law_many" 427,hvs "_law_open_ones" 428,hvs "_law_found" 429,hvs "_law_k" 430,hvs "_law_so_many" 431]) #[]) ::
 (nat_lit 166,htp (.seq #[]) #[]) ::
 (nat_lit 168,hcd (.fields #[hvs "_law_tree_net" 423,hvs "_law_tree_net" 424,hcut 425,.int 162 0,.int 2 0,.int 0 0,.int 0 0,.int 3 0,.ref 163,.bool .true,.int 181 0,.ref 164,.none,.ref 165,.ref 166,.ref 167,.int 432 0,.int 162 0,hcut 433]) #[]) ::
 (nat_lit 169,hfn (.func (hfd "_law_tree_net" "_law_tree_net" qEX .none .none .none (hvs "law_fewrooms_k40_cuts_shown" 389) .none (.ref 168) .none 0)) #[]) ::
 (nat_lit 170,htp (.seq #[]) #[]) ::
 (nat_lit 173,hcd (.fields #[hvs "_law_net" 435,hvs "_law_net" 436,hcut 437,.int 170 0,.int 2 0,.int 0 0,.int 0 0,.int 3 0,.ref 170,.bool .true,.int 181 0,.ref 171,.none,.none,.none,.ref 172,.int 438 0,.int 170 0,hcut 439]) #[]) ::
 (nat_lit 174,hfn (.func (hfd "_law_net" "_law_net" qPO .none .none .none (hvs "law_fewrooms_k40_cuts_shown" 389) .none (.ref 173) .none 0)) #[]) ::
 (nat_lit 175,htp (.seq #[]) #[]) ::
 (nat_lit 178,hcd (.fields #[hvs "_law_paths" 441,hvs "_law_paths" 442,hcut 443,.int 185 0,.int 2 0,.int 0 0,.int 0 0,.int 3 0,.ref 175,.bool .true,.int 181 0,.ref 176,.none,.none,.none,.ref 177,.int 444 0,.int 185 0,hcut 445]) #[]) ::
 (nat_lit 179,hfn (.func (hfd "_law_paths" "_law_paths" qIY .none .none .none (hvs "law_fewrooms_k40_cuts_shown" 389) .none (.ref 178) .none 0)) #[]) ::
 (nat_lit 180,htp (.seq #[]) #[]) ::
 (nat_lit 183,hcd (.fields #[hvs "_law_hit" 447,hvs "_law_hit" 448,hcut 449,.int 194 0,.int 2 0,.int 0 0,.int 0 0,.int 3 0,.ref 180,.bool .true,.int 181 0,.ref 181,.none,.none,.none,.ref 182,.int 450 0,.int 194 0,hcut 451]) #[]) ::
 (nat_lit 184,hfn (.func (hfd "_law_hit" "_law_hit" qPP .none .none .none (hvs "law_fewrooms_k40_cuts_shown" 389) .none (.ref 183) .none 0)) #[]) ::
 (nat_lit 185,htp (.seq #[]) #[]) ::
 (nat_lit 188,hcd (.fields #[hvs "_law_is_side" 453,hvs "_law_is_side" 454,hcut 455,.int 199 0,.int 3 0,.int 0 0,.int 0 0,.int 3 0,.ref 185,.bool .true,.int 181 0,.ref 186,.none,.none,.none,.ref 187,.int 456 0,.int 199 0,hcut 457]) #[]) ::
 (nat_lit 189,hfn (.func (hfd "_law_is_side" "_law_is_side" qG0 .none .none .none (hvs "law_fewrooms_k40_cuts_shown" 389) .none (.ref 188) .none 0)) #[]) ::
 (nat_lit 190,htp (.seq #[]) #[]) ::
 (nat_lit 193,hcd (.fields #[hvs "_law_are_sides" 459,hvs "_law_are_sides" 460,hcut 461,.int 207 0,.int 3 0,.int 0 0,.int 0 0,.int 3 0,.ref 190,.bool .true,.int 181 0,.ref 191,.none,.none,.none,.ref 192,.int 462 0,.int 207 0,hcut 463]) #[]) ::
 (nat_lit 194,hfn (.func (hfd "_law_are_sides" "_law_are_sides" qDX .none .none .none (hvs "law_fewrooms_k40_cuts_shown" 389) .none (.ref 193) .none 0)) #[]) ::
 (nat_lit 195,htp (.seq #[]) #[]) ::
 (nat_lit 198,hcd (.fields #[hvs "_law_is_way" 465,hvs "_law_is_way" 466,hcut 467,.int 214 0,.int 2 0,.int 0 0,.int 0 0,.int 3 0,.ref 195,.bool .true,.int 181 0,.ref 196,.none,.none,.none,.ref 197,.int 468 0,.int 214 0,hcut 469]) #[]) ::
 (nat_lit 199,hfn (.func (hfd "_law_is_way" "_law_is_way" qH6 .none .none .none (hvs "law_fewrooms_k40_cuts_shown" 389) .none (.ref 198) .none 0)) #[]) ::
 (nat_lit 200,htp (.seq #[]) #[]) ::
 (nat_lit 203,hcd (.fields #[hvs "_law_takes" 471,hvs "_law_takes" 472,hcut 473,.int 218 0,.int 4 0,.int 0 0,.int 0 0,.int 3 0,.ref 200,.bool .true,.int 181 0,.ref 201,.none,.none,.none,.ref 202,.int 474 0,.int 218 0,hcut 475]) #[]) ::
 (nat_lit 204,hfn (.func (hfd "_law_takes" "_law_takes" qIX .none .none .none (hvs "law_fewrooms_k40_cuts_shown" 389) .none (.ref 203) .none 0)) #[]) ::
 (nat_lit 205,htp (.seq #[]) #[]) ::
 (nat_lit 208,hcd (.fields #[hvs "_law_bent_row" 477,hvs "_law_bent_row" 478,hcut 479,.int 231 0,.int 3 0,.int 0 0,.int 0 0,.int 3 0,.ref 205,.bool .true,.int 181 0,.ref 206,.none,.none,.none,.ref 207,.int 480 0,.int 231 0,hcut 481]) #[]) ::
 (nat_lit 209,hfn (.func (hfd "_law_bent_row" "_law_bent_row" qEY .none .none .none (hvs "law_fewrooms_k40_cuts_shown" 389) .none (.ref 208) .none 0)) #[]) ::
 (nat_lit 210,htp (.seq #[]) #[]) ::
 (nat_lit 212,htp (.seq #[hvs "_law_state" 486,hvs "_law_net_here" 487,hvs "_law_paper" 488,hvs "_law_way" 489,hvs "_law_k" 490,hvs "_law_some" 491]) #[]) ::
 (nat_lit 213,htp (.seq #[]) #[]) ::
 (nat_lit 215,hcd (.fields #[hvs "_law_bent" 483,hvs "_law_bent" 484,hcut 485,.int 239 0,.int 3 0,.int 0 0,.int 0 0,.int 3 0,.ref 210,.bool .true,.int 181 0,.ref 211,.none,.ref 212,.ref 213,.ref 214,.int 492 0,.int 239 0,hcut 493]) #[]) ::
 (nat_lit 216,hfn (.func (hfd "_law_bent" "_law_bent" qLD .none .none .none (hvs "law_fewrooms_k40_cuts_shown" 389) .none (.ref 215) .none 0)) #[]) ::
 (nat_lit 217,htp (.seq #[]) #[]) ::
 (nat_lit 219,htp (.seq #[hvs "_law_script" 498,hvs "_law_state" 499,hvs "_law_turn" 500,hvs "_law_net_here" 501,hvs "_law_work" 502,hvs "_law_bound" 503,hvs "_law_paper" 504,hvs "_law_more" 505,hvs "_law_thing" 506,hvs "_law_rooms" 507,hvs "_law_written" 508,hvs "_law_found" 509]) #[]) ::
 (nat_lit 220,htp (.seq #[]) #[]) ::
 (nat_lit 222,hcd (.fields #[hvs "law" 495,hvs "law" 496,hcut 497,.int 254 0,.int 1 0,.int 0 0,.int 0 0,.int 3 0,.ref 217,.bool .true,.int 181 0,.ref 218,.none,.ref 219,.ref 220,.ref 221,.int 510 0,.int 254 0,hcut 511]) #[]) ::
 (nat_lit 223,hfn (.func (hfd "law" "law" qKD .none .none .none (hvs "law_fewrooms_k40_cuts_shown" 389) .none (.ref 222) .none 0)) #[]) ::
 []
def hpA:List Addr:=[2,3,15,22,23,24,25,28,35,36,37,40,42,43,45,46,47,49,50,52,53,54,57,58,59,61,62,64,65,66,68,69,71,72,73,75,76,78,79,80,82,83,85,86,87,89,90,92,93,94,96,97,99,100,101,104,105,106,109,110,111,113,114,116,117,118,120,121,123,124,125,127,128,130,131,132,135,136,137,140,141,142,144,145,147,148,149,151,152,154,155,156,158,159,161,162,163,165,166,168,169,170,173,174,175,178,179,180,183,184,185,188,189,190,193,194,195,198,199,200,203,204,205,208,209,210,212,213,215,216,217,219,220,222,223]
def hpQ:Program:=PySem.W.view PySem.Challenge.pw_fewrooms_k40_cuts_shown [1,2,4,5,7,8,9,10,11,12,13,14,15,16,17,18,19,21,22,24,25,27,28,29,30,31,32,33,34,35,36,37,38,39,40]
def hpN:Nat:=2918
theorem hpE (P:Params):hpA=(hpK P).map (·.1):=by kernel_rfl
def hpX (s:Shared):Bool:=PySem.W.xlAt hpQ [] s && PySem.W.recOk (PySem.W.RowW.records (B77 (B83 PySem.Challenge.rw_fewrooms_k40_cuts_shown))) s
theorem hpLeft:PySem.W.LeftO PySem.Challenge.pw_fewrooms_k40_cuts_shown hpQ [] hpX (B69 hpK hpA hpE).obs (B69 hpK hpA hpE).val hpN:=fun w=>by kernel_rfl
theorem hpSaid:B66 PySem.Challenge.rw_fewrooms_k40_cuts_shown=true:=by kernel_rfl
end Fw
namespace L2
open PySem PySem.Spec PyProof.Rows
abbrev Key:=Sum Int Str
def qRD:Key->Value->Bool
 | .inl k,v=>A33 k v
 | .inr x,v=>B70 x v
def keyH (w:World):Key->Int
 | .inl k=>hashInt k
 | .inr x=>hashStr w x
theorem qBN:∀ {k:Key} {v:Value},qRD k v=true->(∃ i t,k=J1 i/\v=R0 i t)\/(∃ x t,k=Q4 x/\v=B48 x t)
 | .inl i,v,h=>by
  obtain ⟨t,e⟩:=Value.isInt_shape (k:=i) (v:=v) h;exact .inl ⟨i,t,rfl,e⟩
 | .inr x,v,h=>by
  obtain ⟨t,e⟩:=Value.isStrOf_shape (x:=x) (v:=v) h;exact .inr ⟨x,t,rfl,e⟩
theorem qTN (i:Int) (t:Tok):qRD (.inl i) (.int i t)=true:=by simp [qRD,A33]
theorem qTM (x:Str) (t:Tok):qRD (.inr x) (.str x t)=true:=by simp [qRD,B70]
theorem qaA (a b:Int):decide ((J1 a:Key)=J1 b)=(a == b):=by
 by_cases e:a=b
 ·subst e;simp
 ·have h:¬ (J1 a:Key)=J1 b:=fun q=>e (o7 q);rw [decide_eq_false h];exact (beq_eq_false_iff_ne.mpr e).symm
theorem qa7 (a b:Str):decide ((Q4 a:Key)=Q4 b)=decide (a=b):=by
 by_cases e:a=b
 ·subst e;simp
 ·have h:¬ (Q4 a:Key)=Q4 b:=fun q=>e (B84 q);rw [decide_eq_false h,decide_eq_false e]
theorem qa9 (a:Int) (b:Str):decide ((J1 a:Key)=Q4 b)=false:=decide_eq_false (fun q=>nomatch q)
theorem qa8 (a:Str) (b:Int):decide ((Q4 a:Key)=J1 b)=false:=decide_eq_false (fun q=>nomatch q)
def qC2 (prog:Program) (w:World):PySem.KeyKind prog w Key where
 is:=qRD
 hash:=keyH w
 inj:=fun v a b ha hb=>by
  rcases qBN ha with ⟨i,t,rfl,rfl⟩ | ⟨x,t,rfl,rfl⟩
  ·rcases qBN hb with ⟨j,u,rfl,e⟩ | ⟨y,u,rfl,e⟩
   ·injection e with e1 _;rw [e1]
   ·exact nomatch e
  ·rcases qBN hb with ⟨j,u,rfl,e⟩ | ⟨y,u,rfl,e⟩
   ·exact nomatch e
   ·injection e with e1 _;rw [e1]
 byValue:=fun k v h=>by
  rcases qBN h with ⟨i,t,rfl,rfl⟩ | ⟨x,t,rfl,rfl⟩ <;> rfl
 pyHash:=fun hv h=>by
  rcases qBN hv with ⟨i,t,rfl,rfl⟩ | ⟨x,t,rfl,rfl⟩
  ·exact wpAny_pyHash_int h
  ·exact wpAny_pyHash_str h
 eqBool:=fun hu hv h=>by
  rcases qBN hu with ⟨i,t,rfl,rfl⟩ | ⟨x,t,rfl,rfl⟩
  ·rcases qBN hv with ⟨j,u,rfl,rfl⟩ | ⟨y,u,rfl,rfl⟩
   ·rw [qaA] at h;exact wpAny_eqBool_int h
   ·rw [qa9] at h;exact B00 i t y u _ _ _ _ h
  ·rcases qBN hv with ⟨j,u,rfl,rfl⟩ | ⟨y,u,rfl,rfl⟩
   ·rw [qa8] at h;exact B01 x t j u _ _ _ _ h
   ·rw [qa7] at h;exact wpAny_eqBool_str h
 «strs»:=fun k x t v h=>by
  rcases qBN h with ⟨i,u,rfl,e⟩ | ⟨y,u,rfl,e⟩
  ·exact nomatch e
  ·injection e with e1 _
   subst e1;cases v <;> rfl
theorem qOE (prog:Program) (w:World) (i:Int) (t:Tok):(qC2 prog w).is (.inl i) (.int i t)=true:=qTN i t
theorem qOD (prog:Program) (w:World) (x:Str) (t:Tok):(qC2 prog w).is (.inr x) (.str x t)=true:=qTM x t
inductive V where
 | non | bl (b:Bool) | int (i:Int) | str (x:Str) | byt (b:Array UInt8) | flt (b:UInt64) | ref (a:Addr) | ty (n:String)
 deriving DecidableEq
def RelV:V->Value->Prop
 | .non,u=>u=V7
 | .bl b,u=>u=V8 b
 | .int i,u=>∃ t,u=R0 i t
 | .str x,u=>∃ t,u=B48 x t
 | .byt b,u=>∃ t,u=Value.bytes b t
 | .flt b,u=>∃ t,u=Value.float b t
 | .ref a,u=>u=E6 a
 | .ty n,u=>u=V9 n
abbrev Vals:List V->List Value->Prop:=Paired RelV
theorem Vals.length {xs:List V} {us:List Value} (r:Vals xs us):xs.length=us.length:=C8 r
theorem Vals.get:∀ {xs:List V} {us:List Value} {i:Nat} {x:V},Vals xs us->xs[i]?=some x->∃ u,us[i]?=some u/\RelV x u
 | _,_,_,_,.nil,e=>by simp at e
 | _,_,0,_,.cons r _,e=>by simp at e;subst e;exact ⟨_,rfl,r⟩
 | _,_,i+1,x,.cons _ t,e=>by
  obtain ⟨u,h1,h2⟩:=Vals.get (i:=i) (x:=x) t (by simpa using e)
  exact ⟨u,by simpa using h1,h2⟩
theorem Vals.set {x:V} {u:Value} (r:RelV x u):∀ {xs:List V} {us:List Value} (i:Nat),Vals xs us->Vals (xs.set i x) (us.set i u)
 | _,_,_,.nil=>.nil
 | _,_,0,.cons _ t=>.cons r t
 | _,_,i+1,.cons q t=>.cons q (Vals.set r i t)
theorem Vals.append:∀ {xs ys:List V} {us ws:List Value},Vals xs us->Vals ys ws->Vals (xs++ys) (us++ws)
 | _,_,_,_,.nil,s=>s
 | _,_,_,_,.cons r t,s=>.cons r (Vals.append t s)
theorem Vals.take:∀ {xs:List V} {us:List Value} (n:Nat),Vals xs us->Vals (xs.take n) (us.take n)
 | _,_,0,_=>.nil
 | _,_,_+1,.nil=>.nil
 | _,_,n+1,.cons r t=>.cons r (Vals.take n t)
theorem Vals.drop:∀ {xs:List V} {us:List Value} (n:Nat),Vals xs us->Vals (xs.drop n) (us.drop n)
 | _,_,0,r=>r
 | _,_,_+1,.nil=>.nil
 | _,_,n+1,.cons _ t=>Vals.drop n t
def RelO:Option V->Option Value->Prop
 | some v,some u=>RelV v u
 | none,none=>True
 | _,_=>False
def KV {κ:Type}:List (κ × V)->List (κ × Value)->Prop:=Paired fun (p:κ × V) (q:κ × Value)=>p.1=q.1/\RelV p.2 q.2
inductive CTb where
 | tab (q:Str)
 | cod (q:Str)
def kV:Key->V
 | .inl i=>.int i
 | .inr x=>.str x
inductive HO where
 | lst (xs:List V)
 | tup (xs:List V)
 | dK (Af:List (Key × V)) | dT (Af:List (List Key × V))
 | set (S:Int->Bool) (n:Nat)
 | ins (C dx:Addr) (fs:List (Str × V))
 | own (x:Addr)
 | xd (fs:List (Str × V))
 | met (f x:Addr)
 | rng (lo hi:Int)
 | frz (o:Obj) (u:HO)
 | tbl (t:CTb)
 | ext (φ:Heap->Prop)
abbrev Hp:=Addr->Option HO
def Ag (H:Hp) (a:Addr) (o:HO):Hp:=fun b=>if b=a then some o else H b
theorem qA1 {H:Hp} {a:Addr} {o:HO}:Ag H a o a=some o:=by unfold Ag;rw [if_pos rfl]
theorem qA9 {H:Hp} {a b:Addr} {o:HO} (h:b ≠ a):Ag H a o b=H b:=by unfold Ag;rw [if_neg h]
theorem qHY {H:Hp} {a:Addr} {o u:HO}:Ag (Ag H a o) a u=Ag H a u:=by
 funext b;unfold Ag;split <;> rfl
theorem qCL {H:Hp} {a b:Addr} {o u:HO} (h:H a=some o) (h':H b=some u) (d:o ≠ u):a ≠ b:=by
 intro e;subst e;rw [h] at h';exact d (J5 h')
theorem qA8 {H:Hp} {a b:Addr} {o:HO} (h:H a=some o) (h':H b=none):a ≠ b:=by
 intro e;subst e;rw [h] at h';cases h'
section
variable (P:Program) (w:World)
def ObjOk (H:Hp) (h:Heap) (a:Addr):HO->Prop
 | .lst xs=>xs.length<=sizeLine/\∃ (its:List Value) (n:Nat),Vals xs its/\h.get? a=some { cls:=.type "list",data:=.seq its.toArray n }
 | .tup xs=>xs.length<=sizeLine/\∃ its:List Value,Vals xs its/\IsTup h a its.toArray
 | .dK Af=>Af.length<=sizeLine/\(a == sysModules)=false/\∃ vs,KV Af vs/\h.DictOf (qC2 P w) a vs
 | .dT Af=>Af.length<=sizeLine/\(a == sysModules)=false/\∃ xs:List (List Key × Addr × Value),
   Paired (fun (p:List Key × V) (q:List Key × Addr × Value)=>p.1=q.1/\H q.2.1=some (.tup (p.1.map kV))/\RelV p.2 q.2.2) Af xs/\
   ∃ o es ep,h.get? a=some o/\o.ExactDict/\o.data=.dict es ep/\es.toList=xs.map (entryOfKey (tupleKind (qC2 P w)))/\(xs.map (·.1)).Nodup
 | .set S n=>h.SetOf (intKind P w) a S n
 | .ins C dx fs=>H dx=some (.own a)/\fs.length<=1000/\dx ≠ a/\h.get? a=some (A62 C dx)/\
   ∃ mA,h.Ns1 dx mA/\(∀ f,RelO (fs.lookup f) (mA f))/\PySem.Within mA (fs.map (·.1))
 | .own _=>∃ o,h.get? a=some o
 | .xd fs=>∃ mA,h.Ns1 a mA/\∀ f,RelO (fs.lookup f) (mA f)
 | .rng lo hi=>∃ t u v,h.get? a=some { cls:=.type "range",data:=.fields #[.int lo t,.int hi u,.int 1 v] }
 | .frz o u=>h.get? a=some o/\ObjOk H h a u
 | .tbl (.tab q)=>∃ more:Array Value,h.get? a=some { cls:=.none,data:=.fields more }/\TriplesOk more.toList/\∀ pos cv,codeAmong pos more.toList=some cv->∃ c,cv=.ref c/\H c=some (.tbl (.cod q))
 | .tbl (.cod q)=>h.CodeRec (.ref a) q
 | .met f x=>h.get? a=some (A20 (.ref f) (.ref x))
 | .ext φ=>φ h/\(∃ o,h.get? a=some o)/\∀ h1 h2:Heap,φ h1->(∀ o,h1.get? a=some o->h2.get? a=some o)->φ h2
def HOk (H:Hp) (h:Heap):Prop:=∀ a o,H a=some o->ObjOk P w H h a o
end
section
variable {P:Program} {w:World} {H H':Hp} {h h':Heap} {a:Addr} {o:HO}
theorem ObjOk.lt (x:ObjOk P w H h a o):a<h.objs.size:=by
 cases o with
 | lst xs=>obtain ⟨_,_,_,_,e⟩:=x;exact B8 e
 | tup xs=>obtain ⟨_,_,_,p⟩:=x;exact p.lt
 | dK Af=>obtain ⟨_,_,_,_,o,_,_,e,_⟩:=x;exact B8 e
 | dT Af=>obtain ⟨_,_,_,_,o,_,_,e,_⟩:=x;exact B8 e
 | set S n=>obtain ⟨o,_,_,_,e,_⟩:=x;exact B8 e
 | ins C dx fs=>obtain ⟨_,_,_,e,_⟩:=x;exact B8 e
 | own y=>obtain ⟨_,e⟩:=x;exact B8 e
 | xd fs=>obtain ⟨_,⟨_,_,_,e,_⟩,_⟩:=x;exact B8 e
 | rng lo hi=>obtain ⟨_,_,_,e⟩:=x;exact B8 e
 | frz ob u=>obtain ⟨e,_⟩:=x;exact B8 e
 | tbl t=>
  cases t with
  | tab q=>obtain ⟨_,e,_⟩:=x;exact B8 e
  | cod q=>obtain ⟨c,o,_,_,e,g,_⟩:=x;cases e;exact B8 g
 | met f y=>exact B8 (show h.get? a=some _ from x)
 | ext φ=>obtain ⟨_,⟨_,e⟩,_⟩:=x;exact B8 e
theorem Paired.mapP {α β:Type} {F G:α->β->Prop}:∀ {l₁:List α} {l₂:List β},Paired F l₁ l₂->(∀ a b,F a b->G a b)->Paired G l₁ l₂
 | _,_,.nil,_=>.nil
 | _,_,.cons r t,f=>.cons (f _ _ r) (Paired.mapP t f)
theorem ObjOk.stay (x:ObjOk P w H h a o) (k:∀ b u,(b=a\/H b=some (.own a))->h.get? b=some u->h'.get? b=some u)
  (ho:∀ b,H b=some (.own a)->H' b=some (.own a)) (ht:∀ b xs,H b=some (.tup xs)->H' b=some (.tup xs)) (hb:∀ b t,H b=some (.tbl t)->H' b=some (.tbl t):=by exact fun _ _ q=>q):ObjOk P w H' h' a o:=by
 induction o with
 | lst xs=>obtain ⟨z,its,n,r,e⟩:=x;exact ⟨z,its,n,r,k _ _ (.inl rfl) e⟩
 | tup xs=>obtain ⟨z,its,r,ob,e,c⟩:=x;exact ⟨z,its,r,ob,k _ _ (.inl rfl) e,c⟩
 | dK Af=>obtain ⟨z,y,vs,r,ob,es,ep,e,c⟩:=x;exact ⟨z,y,vs,r,ob,es,ep,k _ _ (.inl rfl) e,c⟩
 | dT Af=>
  obtain ⟨z,y,xs,r,ob,es,ep,e,c⟩:=x;exact ⟨z,y,xs,Paired.mapP r fun p q z=>⟨z.1,ht _ _ z.2.1,z.2.2⟩,ob,es,ep,k _ _ (.inl rfl) e,c⟩
 | set S n=>obtain ⟨ob,es,ep,t,e,c⟩:=x;exact ⟨ob,es,ep,t,k _ _ (.inl rfl) e,c⟩
 | ins C dx fs=>
  obtain ⟨d,z,ne,e,mA,⟨od,es,ep,e2,c⟩,r⟩:=x;exact ⟨ho _ d,z,ne,k _ _ (.inl rfl) e,mA,⟨od,es,ep,k _ _ (.inr d) e2,c⟩,r⟩
 | own y=>obtain ⟨ob,e⟩:=x;exact ⟨ob,k _ _ (.inl rfl) e⟩
 | xd fs=>obtain ⟨mA,⟨od,es,ep,e,c⟩,r⟩:=x;exact ⟨mA,⟨od,es,ep,k _ _ (.inl rfl) e,c⟩,r⟩
 | rng lo hi=>obtain ⟨t,u,v,e⟩:=x;exact ⟨t,u,v,k _ _ (.inl rfl) e⟩
 | frz ob u ih=>obtain ⟨e,q⟩:=x;exact ⟨k _ _ (.inl rfl) e,ih q⟩
 | tbl t=>
  cases t with
  | tab q=>obtain ⟨m,e,tr,c⟩:=x;exact ⟨m,k a _ (.inl rfl) e,tr,fun pos cv z=>let ⟨c',e1,e2⟩:=c pos cv z;⟨c',e1,hb _ _ e2⟩⟩
  | cod q=>obtain ⟨c,o,vs,t,e,g,r⟩:=x;cases e;exact ⟨a,o,vs,t,rfl,k a _ (.inl rfl) g,r⟩
 | met f y=>
  have e:h.get? a=some (A20 (.ref f) (.ref y)):=x;show h'.get? a=some (A20 (.ref f) (.ref y));exact k a _ (.inl rfl) e
 | ext φ=>obtain ⟨p,⟨o,e⟩,st⟩:=x;exact ⟨st _ _ p fun o q=>k _ _ (.inl rfl) q,⟨o,k _ _ (.inl rfl) e⟩,st⟩
theorem HOk.lt (x:HOk P w H h) (e:H a=some o):a<h.objs.size:=(x a o e).lt
theorem HOk.fresh (x:HOk P w H h) (e:h.objs.size<=a):H a=none:=by
 cases q:H a with
 | none=>rfl
 | some u=>exact absurd (J2 (x.lt q) e) (b7 _)
theorem HOk.kept (x:HOk P w H h) (k:∀ b u,h.get? b=some u->h'.get? b=some u):HOk P w H h':=fun a o e=>
 (x a o e).stay (fun b u _ q=>k b u q) (fun _ q=>q) fun _ _ q=>q
theorem HOk.laid (x:HOk P w H h) (k:∀ b u,h.get? b=some u->h'.get? b=some u) (hp:h.objs.size<=a) (new:ObjOk P w (Ag H a o) h' a o):HOk P w (Ag H a o) h':=fun b u e=>by
 have hn:=x.fresh hp;by_cases hb:b=a
 ·subst hb;rw [qA1] at e;cases e;exact new
 ·rw [qA9 hb] at e;exact (x b u e).stay (fun c v _ q=>k c v q) (fun c q=>by rw [qA9 (qA8 q hn)];exact q) (fun c xs q=>by rw [qA9 (qA8 q hn)];exact q) fun c t q=>by rw [qA9 (qA8 q hn)];exact q
end
def Rd (H:Hp) (a:Addr) (u:HO):Prop:=H a=some u\/∃ o,H a=some (.frz o u)
theorem Rd.ok {P:Program} {w:World} {H:Hp} {h:Heap} {a:Addr} {u:HO} (r:Rd H a u) (x:HOk P w H h):ObjOk P w H h a u:=by
 rcases r with r | ⟨o,r⟩
 ·exact x a u r
 ·obtain ⟨_,q⟩:=x a _ r;exact q
def Mut:Option HO->Prop
 | some (.lst _)=>True
 | some (.dK _)=>True
 | some (.dT _)=>True
 | some (.set _ _)=>True
 | some (.ins _ _ _)=>True
 | some (.ext _)=>True
 | _=>False
section
variable {P:Program} {w:World} {H:Hp} {h h':Heap} {x e:Addr} {o':HO}
theorem HOk.write (ok:HOk P w H h) (mu:Mut (H x)) (he:e=x\/H e=some (.own x)) (k:∀ b u,b ≠ e->h.get? b=some u->h'.get? b=some u) (heo:∃ u,h'.get? e=some u)
  (new:ObjOk P w (Ag H x o') h' x o'):HOk P w (Ag H x o') h':=fun b u q=>by
 have nown:∀ c y,H c=some (.own y)->c ≠ x:=fun c y r z=>by subst z;rw [r] at mu;exact mu
 have ntup:∀ c xs,H c=some (.tup xs)->c ≠ x:=fun c xs r z=>by subst z;rw [r] at mu;exact mu
 by_cases hb:b=x
 ·subst hb;rw [qA1] at q;cases q;exact new
 ·rw [qA9 hb] at q;by_cases hbe:b=e
  ·have q':H b=some (.own x):=by
    rcases he with z | z
    ·exact absurd (hbe.trans z) hb
    ·rw [hbe];exact z
   rw [q] at q';cases q';obtain ⟨v,hv⟩:=heo;exact ⟨v,by rw [hbe];exact hv⟩
  ·refine (ok b u q).stay (fun c v hc r=>k c v ?_ r) (fun c r=>by rw [qA9 (nown c b r)];exact r) (fun c xs r=>by rw [qA9 (ntup c xs r)];exact r) fun c t r=>by rw [qA9 (fun z=>by subst z;rw [r] at mu;exact mu)];exact r
   rcases hc with rfl | hc
   ·exact hbe
   ·rintro rfl;rcases he with z | z
    ·exact nown c b hc z
    ·rw [hc] at z;cases z;exact hb rfl
end
structure Un (fs ex:List Addr) (H H':Hp) (h h':Heap):Prop where
 keep:∀ b o,h.get? b=some o->H b=none->b ∉ fs->b ∉ ex->h'.get? b=some o
 slot:∀ b o,h.get? b=some o->H b=none->b ∈ fs->b ∉ ex->∃ sl,h'.get? b=some { o with slots:=sl }
 free:∀ b o,h.get? b=some o->H b=none->b ∉ ex->H' b=none
 there:∀ b o,h.get? b=some o->b ∉ ex->∃ o',h'.get? b=some o'
 tups:∀ b xs,H b=some (.tup xs)->H' b=some (.tup xs)
 frzs:∀ b o u,H b=some (.frz o u)->H' b=some (.frz o u)
 tbls:∀ b ps,H b=some (.tbl ps)->H' b=some (.tbl ps)
section
variable {fs fs' ex ex':List Addr} {H H1 H2:Hp} {h h1 h2 h':Heap} {a x e:Addr} {o:HO}
theorem Un.any (u:Un fs ex H H1 h h1) {b:Addr} {ob:Obj} (q:h.get? b=some ob) (n:H b=none) (hx:b ∉ ex):∃ sl,h1.get? b=some { ob with slots:=sl }:=by
 by_cases hb:b ∈ fs
 ·exact u.slot b ob q n hb hx
 ·exact ⟨ob.slots,u.keep b ob q n hb hx⟩
theorem Un.kept (k:∀ b u,h.get? b=some u->h'.get? b=some u):Un fs ex H H h h':=
 ⟨fun b ob q _ _ _=>k b ob q,fun b ob q _ _ _=>⟨ob.slots,k b ob q⟩,fun _ _ _ n _=>n,fun b ob q _=>⟨ob,k b ob q⟩,fun _ _ q=>q,fun _ _ _ q=>q,fun _ _ q=>q⟩
theorem Un.refl:Un fs ex H H h h:=Un.kept fun _ _ q=>q
theorem Un.laid (k:∀ b u,h.get? b=some u->h'.get? b=some u) (hp:h.objs.size<=a) (hn:H a=none):Un fs ex H (Ag H a o) h h' where
 keep:=fun b u q _ _ _=>k b u q
 slot:=fun b u q _ _ _=>⟨u.slots,k b u q⟩
 free:=fun b u q n _=>by rw [qA9 (E2 (J2 (B8 q) hp))];exact n
 there:=fun b u q _=>⟨u,k b u q⟩
 tups:=fun b xs q=>by rw [qA9 (qA8 q hn)];exact q
 frzs:=fun b u xs q=>by rw [qA9 (qA8 q hn)];exact q
 tbls:=fun b ps q=>by rw [qA9 (qA8 q hn)];exact q
theorem Un.write (mu:Mut (H x)) (he:e=x\/H e=some (.own x)) (k:∀ b u,b ≠ e->h.get? b=some u->h'.get? b=some u) (heo:∃ u,h'.get? e=some u):Un fs ex H (Ag H x o) h h':=by
 have hx:∀ b,H b=none->b ≠ x:=fun b n z=>by subst z;rw [n] at mu;exact mu
 have hb:∀ b,H b=none->b ≠ e:=fun b n z=>by
  subst z;rcases he with r | r
  ·exact hx b n r
  ·rw [n] at r;cases r
 have hm:∀ b u,H b=some u->¬ Mut (some u)->b ≠ x:=fun b u q nm z=>by subst z;rw [q] at mu;exact nm mu
 refine ⟨fun b u q n _ _=>k b u (hb b n) q,fun b u q n _ _=>⟨u.slots,k b u (hb b n) q⟩,fun b u q n _=>by rw [qA9 (hx b n)];exact n,fun b u q _=>?_,
  fun b xs q=>by rw [qA9 (hm b _ q fun z=>z)];exact q,fun b u xs q=>by rw [qA9 (hm b _ q fun z=>z)];exact q,fun b ps q=>by rw [qA9 (hm b _ q fun z=>z)];exact q⟩
 by_cases hbe:b=e
 ·subst hbe;exact heo
 ·exact ⟨u,k b u hbe q⟩
end
def trk (h:Heap) (H:Hp):List Addr:=(N9 h.objs.size).filter fun a=>(H a).isSome
def hidT (h:Heap) (H:Hp):Heap:=PySem.W.hideAll h (trk h H)
theorem qTT (h:Heap) (H:Hp):(hidT h H).objs.size=h.objs.size:=PySem.W.hideAll_size _ _
theorem qW2 {h:Heap} {H:Hp} {b:Addr} {o:Obj} (e:h.get? b=some o) (n:H b=none):(hidT h H).get? b=some o:=
 PySem.W.hideAll_get _ e fun hm=>by
  have q:(H b).isSome=true:=(V0.mp hm).2;rw [n] at q;simp at q
theorem qY5 {h:Heap} {H:Hp} {b:Addr} {o:Obj} (e:(hidT h H).get? b=some o):h.get? b=some o/\H b=none:=by
 have e':h.get? b=some o:=PySem.W.of_hideAll (trk h H) e;refine ⟨e',?_⟩;cases q:H b with
 | none=>rfl
 | some x=>
  have hm:b ∈ trk h H:=V0.mpr ⟨J4.mpr (B8 e'),by simp [q]⟩
  have z:(hidT h H).get? b=none:=PySem.W.hideAll_none (trk h H) hm;rw [z] at e;cases e
def qZ0 (g h:Heap) (L:Addr):List (Addr × Obj):=(N9 h.objs.size).filterMap fun a=>if a=L\/(g.get? a).isSome=true then none else (h.get? a).map fun o=>(a,o)
def rest (g h:Heap) (L d:Addr):List (Addr × Obj):=(qZ0 g h L).filter fun p=>decide (p.1 ≠ d)
structure Mod (K:PySem.W.Frag) (mg:Str->Option Value) (base:Heap):Prop where
 kin:K.In base
 glob:base.Ns mainGlobals mg
 blt:∃ mb,base.Ns builtinsNs mb/\∀ x:Str,x ≠ "__name__"->mb x=bootBuiltins x
 nolimit:base.NoLimit
structure Cx where
 prog:Program
 w:World
 K:PySem.W.Frag
 mg:Str->Option Value
 base:Heap
 A:Around
 N:List Str
 s₀:Shared
 H₀:Hp
 env:Env
 outer:List Env
 stack:List Env
 ex:List Addr
 fn:Str->Bool
 calm:Bool
 pn:List (Addr × Obj)
 xe:Value->Shared->Prop
def frs (l:List Env):List Addr:=l.filterMap (·.frame)
abbrev Cx.fs (X:Cx):List Addr:=frs X.outer
def Vis (sc:Scope) (x:Str):Prop:=sc.names.lookup x=some .local\/sc.names.lookup x=some .cell\/sc.names.lookup x=some .free
def Loc (sc:Scope) (x:Str):Prop:=sc.names.lookup x=some .local\/sc.names.lookup x=some .cell
def Look (env:Env) (h:Heap) (m:Str->Option Value) (x:Str) (u:Value):Prop:=
 (env.kindOf x=some .local/\m x=some u)\/((env.kindOf x=some .cell\/env.kindOf x=some .free)/\∃ c,env.cells.lookup x=some c/\h.IsCell c (some u))
structure Cx.Ok (X:Cx):Prop where
 mod:Mod X.K X.mg X.base
 kind:X.env.scope.kind=.function
 glob:X.env.globals=mainGlobals
 blt:X.env.builtins=builtinsNs
 above:X.s₀.heap.objs.size<=X.env.locals
 inj:∀ x y c,X.env.cells.lookup x=some c->X.env.cells.lookup y=some c->x=y
 has:∀ x,(X.env.kindOf x=some .cell\/X.env.kindOf x=some .free)->∃ c,X.env.cells.lookup x=some c
 cab:∀ x c,X.fn x=true->X.env.cells.lookup x=some c->X.s₀.heap.objs.size<=c
 hd:X.calm=true->X.A.handled=none
 frames:X.A.frames=some X.stack
 stk:X.stack=X.outer\/(X.stack=X.env::X.outer/\X.env.frame=some X.env.locals)
 exf:∀ b ∈ X.ex,b ≠ X.env.locals/\∀ x c,X.env.cells.lookup x=some c->c ≠ b
 bs:∀ b o,X.base.get? b=some o->X.s₀.heap.get? b=some o/\X.H₀ b=none
 bsz:X.base.objs.size<=X.s₀.heap.objs.size
 noex:∀ b o,X.base.get? b=some o->b ∉ X.ex
 exfs:∀ b ∈ X.ex,b ∉ X.fs
 funs:X.s₀.heap.FunFrames X.base X.outer
 frf:∀ b ∈ X.fs,X.H₀ b=none
structure Inv (X:Cx) (Ab:List (Addr × Obj)) (σ:List (Option V)) (H:Hp) (s:Shared):Prop where
 ok:X.Ok
 os:s.os=X.s₀.os
 bare:AllBare s.gens
 base:Un X.fs X.ex X.H₀ H X.s₀.heap s.heap
 loc:∃ m,s.heap.Ns X.env.locals m/\∀ (i:Nat) (x:Str) (v:V),X.N[i]?=some x->σ[i]?=some (some v)->Vis X.env.scope x->∃ u,RelV v u/\Look X.env s.heap m x u
 cell:∀ x c,X.env.cells.lookup x=some c->∃ v,s.heap.IsCell c v
 free:H X.env.locals=none
 freeC:∀ x c,X.env.cells.lookup x=some c->H c=none
 pin:∀ p ∈ X.pn++Ab,s.heap.get? p.1=some p.2/\H p.1=none/\p.1 ≠ X.env.locals/\p.1 ∉ X.fs/\∀ v,p.2.data ≠ .cell v
 hok:HOk X.prog X.w H s.heap
 len:σ.length=X.N.length
section
variable {X:Cx} {Ab:List (Addr × Obj)} {σ:List (Option V)} {H H':Hp} {s:Shared} {h':Heap}
theorem Cx.Ok.nofr (ok:X.Ok) {b:Addr} {o:Obj} (e:X.base.get? b=some o):b ∉ X.fs:=fun hb=>by
 have:=(ok.funs.mem hb).1;rw [e] at this;cases this
theorem Inv.bs (I:Inv X Ab σ H s):∀ b o,X.base.get? b=some o->s.heap.get? b=some o/\H b=none:=fun b o e=>
 ⟨I.base.keep b o (I.ok.bs b o e).1 (I.ok.bs b o e).2 (I.ok.nofr e) (I.ok.noex b o e),I.base.free b o (I.ok.bs b o e).1 (I.ok.bs b o e).2 (I.ok.noex b o e)⟩
theorem Inv.bk (I:Inv X Ab σ H s):∀ b o,X.base.get? b=some o->s.heap.get? b=some o:=fun b o e=>(I.bs b o e).1
theorem Inv.mod (I:Inv X Ab σ H s):Mod X.K X.mg X.base:=I.ok.mod
theorem Inv.kIn (I:Inv X Ab σ H s):X.K.In s.heap:=I.ok.mod.kin.keeps I.bk
theorem Inv.lt (I:Inv X Ab σ H s):X.env.locals<s.heap.objs.size:=let ⟨_,hn,_⟩:=I.loc;hn.lt
theorem Inv.sz (I:Inv X Ab σ H s):X.s₀.heap.objs.size<=s.heap.objs.size:=M5 I.ok.above (Y8 I.lt)
theorem Inv.nofs (I:Inv X Ab σ H s) {a:Addr} (h:s.heap.objs.size<=a):a ∉ X.fs:=fun hb=>by
 obtain ⟨_,o,ho,_⟩:=I.ok.funs.mem hb;exact absurd (J2 (B8 ho) (M5 I.sz h)) (b7 _)
theorem Inv.cne (I:Inv X Ab σ H s):∀ x c,X.env.cells.lookup x=some c->c ≠ X.env.locals:=fun x c e z=>by
 obtain ⟨v,o,ho,hd⟩:=I.cell x c e;obtain ⟨m,⟨o',es,ep,ho',hd',_⟩,_⟩:=I.loc;rw [z,ho'] at ho;cases ho;rw [hd'] at hd;cases hd
theorem Inv.funs (I:Inv X Ab σ H s):s.heap.FunFrames X.base X.outer:=by
 have all:∀ (l:List Env),(∀ b ∈ frs l,b ∈ X.fs)->X.s₀.heap.FunFrames X.base l->s.heap.FunFrames X.base l:=by
  intro l
  induction l with
  | nil=>intro _ _;trivial
  | cons env r ih=>
   intro hs hl;obtain ⟨hk,⟨L,o,hf,hn,ho,hd⟩,hr⟩:=hl;have hL:L ∈ X.fs:=hs L (by unfold frs;rw [m5,hf];exact B5)
   obtain ⟨sl,e⟩:=I.base.slot L o ho (I.ok.frf L hL) hL fun z=>I.ok.exfs L z hL;exact ⟨hk,⟨L,_,hf,hn,e,hd⟩,ih (fun b hb=>hs b (by unfold frs;rw [m5,hf];exact B4 _ hb)) hr⟩
 exact all X.outer (fun _ hb=>hb) I.ok.funs
theorem Inv.stack (I:Inv X Ab σ H s):s.heap.FunFrames X.base X.stack:=by
 rcases I.ok.stk with e | ⟨e,hf⟩
 ·rw [e];exact I.funs
 ·rw [e];obtain ⟨m,hn,_⟩:=I.loc;refine .cons (by rw [I.ok.kind];decide) hf hn ?_ I.funs
  exact Heap.get?_none_of_le (M5 I.ok.bsz I.ok.above)
theorem Inv.stkSub (I:Inv X Ab σ H s):∀ b ∈ frs X.stack,b ∈ X.env.locals::X.fs:=fun b hb=>by
 rcases I.ok.stk with e | ⟨e,hf⟩
 ·rw [e] at hb;exact B4 _ hb
 ·rw [e] at hb;unfold frs at hb;rw [m5,hf] at hb;exact hb
theorem Inv.stkFree (I:Inv X Ab σ H s):∀ b ∈ frs X.stack,H b=none:=fun b hb=>by
 rcases C9.mp (I.stkSub b hb) with e | hb
 ·rw [e];exact I.free
 ·obtain ⟨_,o,ho,_⟩:=I.ok.funs.mem hb;exact I.base.free b o ho (I.ok.frf b hb) fun z=>I.ok.exfs b z hb
theorem Inv.step {g':Array GenState} {t':Nat} {d':Drawn} {ch:List Addr} (I:Inv X Ab σ H s)
  (hch:∀ b ∈ ch,(b ∈ X.ex\/X.s₀.heap.objs.size<=b)/\b ≠ X.env.locals/\(∀ x c,X.env.cells.lookup x=some c->c ≠ b)/\∀ p ∈ X.pn++Ab,p.1 ≠ b)
  (keep:∀ b o,b ≠ X.env.locals->b ∉ X.fs->b ∉ ch->s.heap.get? b=some o->H b=none->h'.get? b=some o)
  (slot:∀ b o,b ≠ X.env.locals->b ∈ X.fs->b ∉ ch->s.heap.get? b=some o->H b=none->∃ sl,h'.get? b=some { o with slots:=sl }) (free:∀ b o,b ∉ ch->s.heap.get? b=some o->H b=none->H' b=none)
  (there:∀ b o,b ∉ ch->s.heap.get? b=some o->∃ o',h'.get? b=some o')
  (tups:∀ b xs,H b=some (.tup xs)->H' b=some (.tup xs)) (frzs:∀ b o u,H b=some (.frz o u)->H' b=some (.frz o u)) (tbls:∀ b ps,H b=some (.tbl ps)->H' b=some (.tbl ps))
  (ns:∀ m,s.heap.Ns X.env.locals m->h'.Ns X.env.locals m) (hok:HOk X.prog X.w H' h') (hg:AllBare g') :
  Inv X Ab σ H' { s with heap:=h',gens:=g',drawn:=d',toks:=t' }:=by
 have neL:∀ b o,X.s₀.heap.get? b=some o->b ≠ X.env.locals:=fun b o e=>E2 (J2 (B8 e) I.ok.above);have neC:∀ b o,X.s₀.heap.get? b=some o->b ∉ X.ex->b ∉ ch:=fun b o e hx hb=>by
  rcases (hch b hb).1 with z | z
  ·exact hx z
  ·exact absurd (J2 (B8 e) z) (b7 _)
 have cellK:∀ x c,X.env.cells.lookup x=some c->∀ v,s.heap.IsCell c v->h'.IsCell c v:=fun x c e v ⟨o,ho,hd⟩=>by
  have nch:c ∉ ch:=fun z=>(hch c z).2.2.1 x c e rfl;by_cases hc:c ∈ X.fs
  ·obtain ⟨sl,q⟩:=slot c o (I.cne x c e) hc nch ho (I.freeC x c e);exact ⟨_,q,hd⟩
  ·exact ⟨o,keep c o (I.cne x c e) hc nch ho (I.freeC x c e),hd⟩
 refine ⟨I.ok,I.os,hg,⟨fun b o e n hb hx=>?_,fun b o e n hb hx=>?_,fun b o e n hx=>?_,fun b o e hx=>?_,fun b xs e=>tups b xs (I.base.tups b xs e),fun b o xs e=>frzs b o xs (I.base.frzs b o xs e),fun b ps e=>?_⟩,?_,fun x c e=>?_,?_,fun x c e=>?_,fun p hp=>?_,hok,I.len⟩
 ·exact keep b o (neL b o e) hb (neC b o e hx) (I.base.keep b o e n hb hx) (I.base.free b o e n hx)
 ·obtain ⟨sl,e1⟩:=I.base.slot b o e n hb hx;obtain ⟨sl',e2⟩:=slot b _ (neL b o e) hb (neC b o e hx) e1 (I.base.free b o e n hx);exact ⟨sl',e2⟩
 ·obtain ⟨o',e1⟩:=I.base.there b o e hx;exact free b o' (neC b o e hx) e1 (I.base.free b o e n hx)
 ·obtain ⟨o',e1⟩:=I.base.there b o e hx;exact there b o' (neC b o e hx) e1
 ·exact tbls b ps (I.base.tbls b ps e)
 ·obtain ⟨m,hn,hl⟩:=I.loc;refine ⟨m,ns m hn,fun i x v e1 e2 e3=>?_⟩;obtain ⟨u,r,l⟩:=hl i x v e1 e2 e3;refine ⟨u,r,?_⟩;rcases l with l | ⟨k,c,e,z⟩
  ·exact .inl l
  ·exact .inr ⟨k,c,e,cellK x c e _ z⟩
 ·obtain ⟨v,z⟩:=I.cell x c e;exact ⟨v,cellK x c e v z⟩
 ·obtain ⟨m,⟨o,_,_,ho,_⟩,_⟩:=I.loc;exact free _ o (fun z=>(hch _ z).2.1 rfl) ho I.free
 ·obtain ⟨v,o,ho,hd⟩:=I.cell x c e;exact free c o (fun z=>(hch c z).2.2.1 x c e rfl) ho (I.freeC x c e)
 ·obtain ⟨e,n,ne,nf,d⟩:=I.pin p hp;have nch:p.1 ∉ ch:=fun z=>(hch p.1 z).2.2.2 p hp rfl;exact ⟨keep p.1 p.2 ne nf nch e n,free p.1 p.2 nch e n,ne,nf,d⟩
theorem Inv.un {t':Nat} (I:Inv X Ab σ H s) (u:Un X.fs [] H H' s.heap h') (hok:HOk X.prog X.w H' h'):Inv X Ab σ H' { s with heap:=h',toks:=t' }:=by
 obtain ⟨m,⟨o,es,ep,ho,r⟩,_⟩:=id I.loc;obtain ⟨sl,hL⟩:=u.any ho I.free (by simp)
 exact I.step (g':=s.gens) (d':=s.drawn) (ch:=[]) (fun _ z=>nomatch z) (fun b o _ hb _ e n=>u.keep b o e n hb (by simp)) (fun b o _ hb _ e n=>u.slot b o e n hb (by simp)) (fun b o _ e n=>u.free b o e n (by simp)) (fun b o _ e=>u.there b o e (by simp)) u.tups u.frzs u.tbls (fun m' hm=>by
  obtain ⟨o',es',ep',ho',r'⟩:=hm;rw [ho] at ho';cases ho';exact ⟨_,es',ep',hL,r'⟩) hok I.bare
theorem Inv.call {g':Array GenState} {t':Nat} {d':Drawn} {ch:List Addr} (I:Inv X Ab σ H s) (u:Un (frs X.stack) ch H H' s.heap h') (hok:HOk X.prog X.w H' h') (hg:AllBare g')
  (hch:∀ b ∈ ch,(b ∈ X.ex\/X.s₀.heap.objs.size<=b)/\b ≠ X.env.locals/\(∀ x c,X.env.cells.lookup x=some c->c ≠ b)/\∀ p ∈ X.pn++Ab,p.1 ≠ b) :
  Inv X Ab σ H' { s with heap:=h',gens:=g',drawn:=d',toks:=t' }:=by
 obtain ⟨m,⟨o,es,ep,ho,r⟩,_⟩:=id I.loc;obtain ⟨sl,hL⟩:=u.any ho I.free fun z=>(hch _ z).2.1 rfl;exact I.step (ch:=ch) hch (fun b o hL hb hc e n=>u.keep b o e n (fun z=>(C9.mp (I.stkSub b z)).elim hL hb) hc) (fun b o _ _ hc e n=>u.any e n hc) (fun b o hc e n=>u.free b o e n hc) (fun b o hc e=>u.there b o e hc) u.tups u.frzs u.tbls (fun m' hm=>by
  obtain ⟨o',es',ep',ho',r'⟩:=hm;rw [ho] at ho';cases ho';exact ⟨_,es',ep',hL,r'⟩) hok hg
theorem Inv.turned {t':Nat} {it:Addr} (I:Inv X Ab σ H s) (k:∀ b o,b ≠ it->s.heap.get? b=some o->h'.get? b=some o) (hn:H it=none) (hL:it ≠ X.env.locals)
  (h1:it ∈ X.ex\/X.s₀.heap.objs.size<=it) (h2:∀ x c,X.env.cells.lookup x=some c->c ≠ it) (h3:∀ p ∈ X.pn++Ab,p.1 ≠ it):Inv X Ab σ H { s with heap:=h',toks:=t' }:=by
 have nit:∀ b u,H b=some u->b ≠ it:=fun b u e z=>by rw [z,hn] at e;cases e
 refine I.step (g':=s.gens) (d':=s.drawn) (ch:=[it]) (fun b hb=>?_) (fun b o _ _ hc e _=>k b o (fun z=>hc (by simp [z])) e) (fun b o _ _ hc e _=>⟨o.slots,k b o (fun z=>hc (by simp [z])) e⟩) (fun _ _ _ _ n=>n)
  (fun b o hc e=>⟨o,k b o (fun z=>hc (by simp [z])) e⟩) (fun _ _ e=>e) (fun _ _ _ e=>e) (fun _ _ e=>e) (fun m hm=>?_) (fun b u e=>?_) I.bare
 ·have e:b=it:=by simpa using hb
  subst e;exact ⟨h1,hL,h2,h3⟩
 ·obtain ⟨o,es,ep,ho,r⟩:=hm;exact ⟨o,es,ep,k _ o (O1 hL) ho,r⟩
 ·refine (I.hok b u e).stay (fun c v hc q=>k c v ?_ q) (fun _ q=>q) fun _ _ q=>q;rcases hc with z | z
  ·rw [z];exact nit b u e
  ·exact nit c _ z
theorem Inv.tok (I:Inv X Ab σ H s) (t:Nat):Inv X Ab σ H { s with toks:=t }:=I.un (h':=s.heap) (t':=t) Un.refl I.hok
theorem Inv.kept {t':Nat} (I:Inv X Ab σ H s) (k:∀ b u,s.heap.get? b=some u->h'.get? b=some u):Inv X Ab σ H { s with heap:=h',toks:=t' }:=I.un (Un.kept k) (I.hok.kept k)
theorem Inv.laid {a:Addr} {o:HO} {t':Nat} (I:Inv X Ab σ H s) (k:∀ b u,s.heap.get? b=some u->h'.get? b=some u) (hp:s.heap.objs.size<=a) (new:ObjOk X.prog X.w (Ag H a o) h' a o) :
  Inv X Ab σ (Ag H a o) { s with heap:=h',toks:=t' }:=I.un (Un.laid k hp (I.hok.fresh hp)) (I.hok.laid k hp new)
theorem Inv.write {x e:Addr} {o:HO} {t':Nat} (I:Inv X Ab σ H s) (mu:Mut (H x)) (he:e=x\/H e=some (.own x)) (k:∀ b u,b ≠ e->s.heap.get? b=some u->h'.get? b=some u) (heo:∃ u,h'.get? e=some u)
  (new:ObjOk X.prog X.w (Ag H x o) h' x o):Inv X Ab σ (Ag H x o) { s with heap:=h',toks:=t' }:=I.un (Un.write mu he k heo) (I.hok.write mu he k heo new)
theorem Inv.pins_of {pins':List (Addr × Obj)} (I:Inv X Ab σ H s) (h:∀ p ∈ pins',s.heap.get? p.1=some p.2/\H p.1=none/\p.1 ≠ X.env.locals/\p.1 ∉ X.fs/\∀ v,p.2.data ≠ .cell v):Inv X pins' σ H s:=
 ⟨I.ok,I.os,I.bare,I.base,I.loc,I.cell,I.free,I.freeC,fun p hp=>(C2.mp hp).elim (fun z=>I.pin p (S0 _ z)) (h p),I.hok,I.len⟩
theorem qQ1 {N:List Str} (hN:N.Nodup) {i j:Nat} {x:Str} (a:N[i]?=some x) (b:N[j]?=some x):i=j:=by
 obtain ⟨h1,e1⟩:=A6.mp a;obtain ⟨h2,e2⟩:=A6.mp b;exact (List.getElem_inj hN).mp (e1.trans e2.symm)
theorem qMB {M:Model} {A:Around} {E:Value->Shared->Prop} {i:Nat} {x:Str} {v:V} {u:Value} {Q:Unit->Shared->Prop} (I:Inv X Ab σ H s) (hN:X.N.Nodup) (hi:X.N[i]?=some x) (hx:Loc X.env.scope x) (r:RelV v u)
  (h:∀ s',Inv X Ab (σ.set i (some v)) H s'->(∃ a,Heap.SameBut a s.heap s'.heap/\(a=X.env.locals\/X.env.cells.lookup x=some a))->Q () s') (hf:X.fn x=true\/X.env.scope.names.lookup x=some .local:=by first | exact .inl rfl | exact .inr rfl | assumption):wpAny M A (storeName X.env x u) Q E s:=by
 obtain ⟨m,hn,hl⟩:=id I.loc;have hcls:(X.env.scope.kind == .class || (X.env.scope.kind == .module && X.env.locals != X.env.globals))=false:=by rw [I.ok.kind];rfl
 have hiσ:i<σ.length:=by rw [I.len];exact (A6.mp hi).1
 have cne:=I.cne;have tracked:∀ {a:Addr} {h':Heap},(∃ o,s.heap.get? a=some o/\H a=none)->Heap.SameBut a s.heap h'->HOk X.prog X.w H h':=fun {a h'} ha hs b ob e=>by
  obtain ⟨_,_,hfree⟩:=ha;refine (I.hok b ob e).stay (fun c w' hc q=>(hs.2 c ?_).trans q) (fun _ q=>q) fun _ _ q=>q;rintro rfl;rcases hc with rfl | hc
  ·rw [hfree] at e;cases e
  ·rw [hfree] at hc;cases hc
 rcases hx with hk | hk
 ·refine wpAny_storeName_local hk hn (fun h' hn' hs=>?_) hcls;obtain ⟨oL,_,_,hoL,_⟩:=id hn;refine h _ ⟨I.ok,I.os,I.bare,⟨fun b o e n hb hx=>?_,fun b o e n hb hx=>?_,I.base.free,fun b o e hx=>?_,I.base.tups,I.base.frzs,I.base.tbls⟩,⟨_,hn',fun j y v' e1 e2 e3=>?_⟩,fun y c e=>?_,I.free,I.freeC,fun p hp=>?_,tracked ⟨oL,hoL,I.free⟩ hs,by simpa using I.len⟩ ⟨_,hs,.inl rfl⟩
  ·exact (hs.2 b (E2 (J2 (B8 e) I.ok.above))).trans (I.base.keep b o e n hb hx)
  ·obtain ⟨sl,e1⟩:=I.base.slot b o e n hb hx;exact ⟨sl,(hs.2 b (E2 (J2 (B8 e) I.ok.above))).trans e1⟩
  ·obtain ⟨o',e1⟩:=I.base.there b o e hx;exact ⟨o',(hs.2 b (E2 (J2 (B8 e) I.ok.above))).trans e1⟩
  ·by_cases hj:j=i
   ·subst hj;rw [hi] at e1;cases e1;rw [A51 hiσ] at e2;cases e2;exact ⟨u,r,.inl ⟨hk,by simp⟩⟩
   ·rw [A76 (O1 hj)] at e2;obtain ⟨u',r',q⟩:=hl j y v' e1 e2 e3;refine ⟨u',r',?_⟩;rcases q with ⟨k,e⟩ | ⟨k,c,e,z⟩
    ·refine .inl ⟨k,?_⟩;have:y ≠ x:=fun e=>hj (qQ1 hN e1 (e ▸ hi));simp [this,e]
    ·exact .inr ⟨k,c,e,z.sameBut hs (cne y c e)⟩
  ·obtain ⟨w',z⟩:=I.cell y c e;exact ⟨w',z.sameBut hs (cne y c e)⟩
  ·obtain ⟨e,n,ne,nf,d⟩:=I.pin p hp;exact ⟨(hs.2 p.1 ne).trans e,n,ne,nf,d⟩
 ·have hfn:X.fn x=true:=by
   rcases hf with z | z
   ·exact z
   ·rw [z] at hk;cases hk
  obtain ⟨c,hc⟩:=I.ok.has x (.inl hk);obtain ⟨w',z⟩:=I.cell x c hc;refine wpAny_storeName_cell I.ok.kind hk hc z (fun h' hc' hs=>?_);obtain ⟨oc,hoc,hocd⟩:=id z;refine h { s with heap:=h' } ⟨I.ok,I.os,I.bare,⟨fun b o e n hb hx=>?_,fun b o e n hb hx=>?_,I.base.free,fun b o e hx=>?_,I.base.tups,I.base.frzs,I.base.tbls⟩,⟨m,hn.sameBut hs (O1 (cne x c hc)),fun j y v' e1 e2 e3=>?_⟩,fun y c' e=>?_,I.free,I.freeC,fun p hp=>?_,tracked ⟨oc,hoc,I.freeC x c hc⟩ hs,by simpa using I.len⟩ ⟨c,hs,.inr hc⟩
  ·exact (hs.2 b (E2 (J2 (B8 e) (I.ok.cab x c hfn hc)))).trans (I.base.keep b o e n hb hx)
  ·obtain ⟨sl,e1⟩:=I.base.slot b o e n hb hx;exact ⟨sl,(hs.2 b (E2 (J2 (B8 e) (I.ok.cab x c hfn hc)))).trans e1⟩
  ·obtain ⟨o',e1⟩:=I.base.there b o e hx;exact ⟨o',(hs.2 b (E2 (J2 (B8 e) (I.ok.cab x c hfn hc)))).trans e1⟩
  ·by_cases hj:j=i
   ·subst hj;rw [hi] at e1;cases e1;rw [A51 hiσ] at e2;cases e2;exact ⟨u,r,.inr ⟨.inl hk,c,hc,hc'⟩⟩
   ·rw [A76 (O1 hj)] at e2;obtain ⟨u',r',q⟩:=hl j y v' e1 e2 e3;refine ⟨u',r',?_⟩;rcases q with q | ⟨k,c',e,z'⟩
    ·exact .inl q
    ·refine .inr ⟨k,c',e,z'.sameBut hs ?_⟩;rintro rfl;exact hj (qQ1 hN e1 (I.ok.inj _ _ _ e hc ▸ hi))
  ·by_cases hcc:c'=c
   ·subst hcc;exact ⟨_,hc'⟩
   ·obtain ⟨w2,z2⟩:=I.cell y c' e;exact ⟨w2,z2.sameBut hs hcc⟩
  ·obtain ⟨e,n,ne,nf,d⟩:=I.pin p hp;refine ⟨(hs.2 p.1 ?_).trans e,n,ne,nf,d⟩;intro q;rw [q,hoc] at e;have q':oc=p.2:=J5 e;exact d w' (by rw [<- q'];exact hocd)
theorem qPI {M:Model} {A:Around} {E:Value->Shared->Prop} {i:Nat} {x:Str} {v:V} {u:Value} {Q:Unit->Shared->Prop} (I:Inv X Ab σ H s) (hN:X.N.Nodup) (hi:X.N[i]?=some x) (hx:Loc X.env.scope x) (r:RelV v u)
  (h:∀ s',Inv X Ab (σ.set i (some v)) H s'->Q () s') (hf:X.fn x=true\/X.env.scope.names.lookup x=some .local:=by first | exact .inl rfl | exact .inr rfl | assumption):wpAny M A (storeName X.env x u) Q E s:=
 qMB I hN hi hx r (fun s' I' _=>h s' I') hf
theorem Inv.call' {s':Shared} {ch:List Addr} (I:Inv X Ab σ H s) (ho:s'.os=s.os) (u:Un (frs X.stack) ch H H' s.heap s'.heap) (hok:HOk X.prog X.w H' s'.heap) (hg:AllBare s'.gens)
  (hch:∀ b ∈ ch,(b ∈ X.ex\/X.s₀.heap.objs.size<=b)/\b ≠ X.env.locals/\(∀ x c,X.env.cells.lookup x=some c->c ≠ b)/\∀ p ∈ X.pn++Ab,p.1 ≠ b):Inv X Ab σ H' s':=by
 obtain ⟨h',g',d',t',o'⟩:=s';have e:o'=s.os:=ho;subst e;exact I.call (g':=g') (t':=t') (d':=d') u hok hg hch
end
abbrev XK:=Value->Option Addr->Hp->Prop
abbrev St:=List (Option V)
abbrev VK:=V->Hp->Prop
abbrev TE:=St->Hp->VK->Prop
abbrev TT:=St->Hp->(Bool->Hp->Prop)->Prop
abbrev TA:=St->Hp->(List V->Hp->Prop)->Prop
structure Ends where
 nx:St->Hp->Prop
 rt:VK
 bk:St->Hp->Prop:=fun _ _=>False
 ct:St->Hp->Prop:=fun _ _=>False
abbrev TS:=Ends->St->Hp->Prop
def EP (X:Cx) (Ab:List (Addr × Obj)) (σ:St) (Q:VK) (u:Value) (s':Shared):Prop:=∃ v H',Inv X Ab σ H' s'/\RelV v u/\Q v H'
def TP (X:Cx) (Ab:List (Addr × Obj)) (σ:St) (Q:Bool->Hp->Prop) (b:Bool) (s':Shared):Prop:=∃ H',Inv X Ab σ H' s'/\Q b H'
def AP (X:Cx) (Ab:List (Addr × Obj)) (σ:St) (Q:List V->Hp->Prop) (us:List Value) (s':Shared):Prop:=∃ vs H',Inv X Ab σ H' s'/\Vals vs us/\Q vs H'
def SP (X:Cx) (Ab:List (Addr × Obj)) (D:Ends) (f:Flow) (s':Shared):Prop:=
 match f with
 | .next=>∃ σ' H',Inv X Ab σ' H' s'/\D.nx σ' H'
 | .brk=>∃ σ' H',Inv X Ab σ' H' s'/\D.bk σ' H'
 | .cont=>∃ σ' H',Inv X Ab σ' H' s'/\D.ct σ' H'
 | .ret u=>∃ v σ' H',Inv X Ab σ' H' s'/\RelV v u/\D.rt v H'
def PE (X:Cx) (e:Expr) (t:TE):Prop:=
 ∀ (Ab:List (Addr × Obj)) (s:Shared) (σ:St) (H:Hp) (Q:VK),Inv X Ab σ H s->t σ H Q->wpAny (model X.prog X.w) X.A (eval e X.env) (EP X Ab σ Q) X.xe s
def PT (X:Cx) (e:Expr) (t:TT):Prop:=
 ∀ (Ab:List (Addr × Obj)) (s:Shared) (σ:St) (H:Hp) (Q:Bool->Hp->Prop),Inv X Ab σ H s->t σ H Q->wpAny (model X.prog X.w) X.A (isTrue e X.env (eval e X.env)) (TP X Ab σ Q) X.xe s
def PW (X:Cx) (e:Expr) (t:TT):Prop:=
 ∀ (whole:Sem Value) (Ab:List (Addr × Obj)) (s:Shared) (σ:St) (H:Hp) (Q:Bool->Hp->Prop),Inv X Ab σ H s->t σ H Q->wpAny (model X.prog X.w) X.A (isTrue e X.env whole) (TP X Ab σ Q) X.xe s
theorem PW.pt {X:Cx} {e:Expr} {t:TT} (h:PW X e t):PT X e t:=h _
def PA (X:Cx) (es:List Expr) (t:TA):Prop:=
 ∀ (pos:Pos) (Ab:List (Addr × Obj)) (s:Shared) (σ:St) (H:Hp) (Q:List V->Hp->Prop),Inv X Ab σ H s->t σ H Q->wpAny (model X.prog X.w) X.A (spliced (backTo pos (starEach es X.env))) (AP X Ab σ Q) X.xe s
def PS (X:Cx) (st:Stmt) (t:TS):Prop:=
 ∀ (Ab:List (Addr × Obj)) (s:Shared) (σ:St) (H:Hp) (D:Ends),Inv X Ab σ H s->t D σ H->wpAny (model X.prog X.w) X.A (exec st X.env) (SP X Ab D) X.xe s
def PSs (X:Cx) (st:List Stmt) (t:TS):Prop:=
 ∀ (Ab:List (Addr × Obj)) (s:Shared) (σ:St) (H:Hp) (D:Ends),Inv X Ab σ H s->t D σ H->wpAny (model X.prog X.w) X.A (execs st X.env) (SP X Ab D) X.xe s
theorem thn {α:Type} {t:Sem α} {Q Q':α->Shared->Prop} {M:Model} {A:Around} {E:Value->Shared->Prop} {s:Shared} (h:wpAny M A t Q E s) (hQ:∀ a s,Q a s->Q' a s):wpAny M A t Q' E s:=wpAny_mono h hQ fun _ _ x=>x
section
variable {X:Cx}
theorem bin {a b:Expr} {ta tb:TE} (ha:PE X a ta) (hb:PE X b tb) {Ab:List (Addr × Obj)} {s:Shared} {σ:St} {H:Hp} {R:V->V->Hp->Prop} (I:Inv X Ab σ H s) (h:ta σ H fun x H1=>tb σ H1 fun y H2=>R x y H2)
  {α:Type} {Q:α->Shared->Prop} {f:Value->Value->Sem α}
  (hf:∀ v u s2 x y H2,Inv X Ab σ H2 s2->RelV x v->RelV y u->R x y H2->wpAny (model X.prog X.w) X.A (f v u) Q X.xe s2) :
  wpAny (model X.prog X.w) X.A (eval a X.env) (fun v s₁=>wpAny (model X.prog X.w) X.A (eval b X.env) (fun u s₂=>wpAny (model X.prog X.w) X.A (f v u) Q X.xe s₂) X.xe s₁) X.xe s:=by
 refine thn (ha Ab s σ H _ I h) fun v s1 ⟨x,H1,I1,r1,q1⟩=>?_;refine thn (hb Ab s1 σ H1 _ I1 q1) fun u s2 ⟨y,H2,I2,r2,q2⟩=>?_;exact hf v u s2 x y H2 I2 r1 r2 q2
def tVar (i:Nat):TE:=fun σ H Q=>∃ v,σ[i]?=some (some v)/\Q v H
def tC (v:V):TE:=fun _ H Q=>Q v H
theorem qZW {i:Nat} {x:Str} {pos:Pos} (hN:X.N[i]?=some x) (hv:Vis X.env.scope x) (hd:(x == ("__debug__" : Str))=false:=by decide) (hcd:(x == ("__classdict__" : Str))=false:=by decide):PE X (.Name x pos) (tVar i):=by
 intro Ab s σ H Q I h;obtain ⟨v,e,h⟩:=h;obtain ⟨m,hn,hl⟩:=I.loc;obtain ⟨u,r,l⟩:=hl i x v hN e hv;have fin:EP X Ab σ Q u s:=⟨v,H,I,r,h⟩;rcases l with ⟨hk,hm⟩ | ⟨hk,c,hc,hcell⟩
 ·exact wpAny_Name (wpAny_loadName_local I.ok.kind hk hn hm fin) hd
 ·rcases hk with hk | hk
  ·exact wpAny_Name (wpAny_loadName_cell I.ok.kind hk hc hcell fin) hd
  ·exact wpAny_Name (wpAny_loadName_free I.ok.kind hk hc hcell fin hcd) hd
theorem qA5 {i j pos}:PE X (.Constant (.int i) j pos) (tC (.int i)):=fun _ _ _ H _ I h=>wpAny_Constant_int ⟨.int i,H,I.tok _,⟨_,rfl⟩,h⟩
theorem qCH {b j pos}:PE X (.Constant (.bool b) j pos) (tC (.bl b)):=fun _ _ _ H _ I h=>Constant_bool ⟨.bl b,H,I,rfl,h⟩
theorem qPV {j pos}:PE X (.Constant .none j pos) (tC .non):=fun _ _ _ H _ I h=>Constant_none ⟨.non,H,I,rfl,h⟩
theorem qII {x j pos}:PE X (.Constant (.str x) j pos) (tC (.str x)):=fun _ _ _ H _ I h=>Calls.Constant_str ⟨.str x,H,I.tok _,⟨_,rfl⟩,h⟩
def Gl (X:Cx) (x:Str):Prop:=X.env.kindOf x=some .globalImplicit
theorem qTI {E:Value->Shared->Prop} {Ab:List (Addr × Obj)} {s:Shared} {σ:St} {H:Hp} {x:Str} {u:Value} {pos:Pos} {Q:Value->Shared->Prop} (I:Inv X Ab σ H s) (hg:Gl X x) (hm:X.mg x=some u) (h:Q u s)
  (hd:(x == ("__debug__" : Str))=false:=by decide):wpAny (model X.prog X.w) X.A (eval (.Name x pos) X.env) Q E s:=
 Calls.Name_function_global I.ok.kind hg (Calls.loadGlobal_global (by rw [I.ok.glob];exact I.mod.glob.keeps I.bk) hm h) hd
theorem qJN {E:Value->Shared->Prop} {Ab:List (Addr × Obj)} {s:Shared} {σ:St} {H:Hp} {x:Str} {u:Value} {pos:Pos} {Q:Value->Shared->Prop} (I:Inv X Ab σ H s) (hg:Gl X x) (hm:X.mg x=none) (hv:bootBuiltins x=some u) (h:Q u s)
  (hn:x ≠ "__name__":=by decide) (hd:(x == ("__debug__" : Str))=false:=by decide):wpAny (model X.prog X.w) X.A (eval (.Name x pos) X.env) Q E s:=by
 obtain ⟨mb,h1,h2⟩:=I.mod.blt;exact Calls.Name_function_global I.ok.kind hg (Calls.loadGlobal_builtin (by rw [I.ok.glob];exact I.mod.glob.keeps I.bk) hm (by rw [I.ok.blt];exact h1.keeps I.bk) ((h2 x hn).trans hv) h) hd
theorem qCK {x:Str} {v:V} {u:Value} {pos:Pos} (hg:Gl X x) (hm:X.mg x=some u) (r:RelV v u) (hd:(x == ("__debug__" : Str))=false:=by decide):PE X (.Name x pos) (tC v):=
 fun _ _ _ H _ I h=>qTI I hg hm ⟨v,H,I,r,h⟩ hd
theorem qC1 {x:Str} {v:V} {u:Value} {pos:Pos} (hg:Gl X x) (hm:X.mg x=none) (hv:bootBuiltins x=some u) (r:RelV v u) (hn:x ≠ "__name__":=by decide) (hd:(x == ("__debug__" : Str))=false:=by decide):PE X (.Name x pos) (tC v):=
 fun _ _ _ H _ I h=>qJN I hg hm hv ⟨v,H,I,r,h⟩ hn hd
variable {a b:Expr} {ta tb:TE} {pos:Pos}
def PC (X:Cx) (op:CmpOp) (a b:Expr) (t:TE):Prop:=
 ∀ (Ab:List (Addr × Obj)) (s:Shared) (σ:St) (H:Hp) (Q:VK),Inv X Ab σ H s->t σ H Q->
  wpAny (model X.prog X.w) X.A (eval a X.env) (fun v s₁=>wpAny (model X.prog X.w) X.A (eval b X.env) (fun u s₂=>wpAny (model X.prog X.w) X.A (compareOp op v u) (EP X Ab σ Q) X.xe s₂) X.xe s₁) X.xe s
theorem qVR (b:Expr) {op:CmpOp} (h:op ≠ .In) (h2:op ≠ .NotIn):behindInMarks op b=false:=by
 have e1:(op == CmpOp.In)=false:=by cases op <;> first | rfl | exact absurd rfl h
 have e2:(op == CmpOp.NotIn)=false:=by cases op <;> first | rfl | exact absurd rfl h2
 cases b <;> simp [behindInMarks,e1,e2]
def tB (t:TE):TT:=fun σ H Q=>t σ H fun x H1=>∃ c,x=.bl c/\Q c H1
theorem qJG {op:CmpOp} {t:TE} (h:PC X op a b t) (h1:behindInMarks op b=false:=by first | exact qVR _ (by decide) (by decide) | rfl):PT X (.Compare a [op] [b] pos) (tB t):=by
 intro Ab s σ H Q I hw;refine wpAny_isTrue_Compare1 (thn (h Ab s σ H _ I hw) fun v s1 h1=>thn h1 fun u s2 h2=>thn h2 fun c s3 ⟨x,H1,I1,r1,q1⟩=>?_) h1;obtain ⟨d,rfl,q⟩:=q1;cases r1;exact wpAny_truthy_bool ⟨H1,I1,q⟩
theorem qCJ {e:Expr} {t:TE} (h:PE X e t) (he:∀ whole,isTrue e X.env whole=(do let v <- whole;standAt e.pos;holding [v] (truthy v)):=by intro _;rfl):PT X e (tB t):=by
 intro Ab s σ H Q I hw;refine isTrue_plain (thn (h Ab s σ H _ I hw) fun v s1 ⟨x,H1,I1,r1,q1⟩=>?_) (he _);obtain ⟨d,rfl,q⟩:=q1;cases r1;exact wpAny_truthy_bool ⟨H1,I1,q⟩
variable {tA tB':TT} {rest:List Expr}
def tAnd (t u:TT):TT:=fun σ H Q=>t σ H fun c H1=>if c=true then u σ H1 Q else Q false H1
def tOr (t u:TT):TT:=fun σ H Q=>t σ H fun c H1=>if c=true then Q true H1 else u σ H1 Q
def tNot (t:TT):TT:=fun σ H Q=>t σ H fun c H1=>Q (!c) H1
theorem qSR (ha:PT X a tA):PW X (.BoolOp .And [a] pos) tA:=by
 intro wh Ab s σ H Q I h;refine isTrue_and (thn (ha Ab s σ H Q I h) fun c s1 e=>?_);cases c with
 | true=>exact isTrue_and_nil e
 | false=>exact e
theorem qFJ (ha:PT X a tA):PW X (.BoolOp .Or [a] pos) tA:=by
 intro wh Ab s σ H Q I h;refine isTrue_or (thn (ha Ab s σ H Q I h) fun c s1 e=>?_);cases c with
 | false=>exact isTrue_or_nil e
 | true=>exact e
theorem qWW (ha:PT X a tA) (hb:PW X (.BoolOp .And (b::rest) pos) tB'):PW X (.BoolOp .And (a::b::rest) pos) (tAnd tA tB'):=by
 intro wh Ab s σ H Q I h;refine isTrue_and (thn (ha Ab s σ H _ I h) fun c s1 ⟨H1,I1,q1⟩=>?_);cases c with
 | true=>exact hb wh Ab s1 σ H1 Q I1 q1
 | false=>exact ⟨H1,I1,q1⟩
theorem qH9 (ha:PT X a tA) (hb:PW X (.BoolOp .Or (b::rest) pos) tB'):PW X (.BoolOp .Or (a::b::rest) pos) (tOr tA tB'):=by
 intro wh Ab s σ H Q I h;refine isTrue_or (thn (ha Ab s σ H _ I h) fun c s1 ⟨H1,I1,q1⟩=>?_);cases c with
 | true=>exact ⟨H1,I1,q1⟩
 | false=>exact hb wh Ab s1 σ H1 Q I1 q1
theorem qBZ (ha:PT X a tA):PT X (.UnaryOp .Not a pos) (tNot tA):=by
 intro Ab s σ H Q I h;exact isTrue_not (ha Ab s σ H (fun c H1=>Q (!c) H1) I h)
def qb8 (ta tb:TE):TE:=fun σ H Q=>ta σ H fun x H1=>∃ c,x=.bl c/\if c=true then tb σ H1 Q else Q (.bl false) H1
def qb0 (ta:TE):TE:=fun σ H Q=>ta σ H fun x H1=>∃ c,x=.bl c/\Q (.bl (!c)) H1
theorem qMW {op} {t:TE} (h:PE X a t):PE X (.BoolOp op [a] pos) t:=fun Ab s σ H Q I hw=>BoolOp_one (h Ab s σ H Q I hw)
theorem qKP (ha:PE X a ta) (hb:PE X (.BoolOp .And (b::rest) pos) tb):PE X (.BoolOp .And (a::b::rest) pos) (qb8 ta tb):=by
 intro Ab s σ H Q I h;refine BoolOp_and (thn (ha Ab s σ H _ I h) fun v s1 ⟨x,H1,I1,r1,q1⟩=>?_);obtain ⟨c,rfl,q1⟩:=q1;cases r1;refine wpAny_truthy_bool ?_;cases c with
 | true=>exact hb Ab s1 σ H1 Q I1 q1
 | false=>exact ⟨.bl false,H1,I1,rfl,q1⟩
theorem qT0 (ha:PE X a ta):PE X (.UnaryOp .Not a pos) (qb0 ta):=by
 intro Ab s σ H Q I h;refine UnaryOp_ (thn (ha Ab s σ H _ I h) fun v s1 ⟨x,H1,I1,r1,q1⟩=>?_);obtain ⟨c,rfl,q1⟩:=q1;cases r1;exact not_of (wpAny_truthy_bool ⟨.bl (!c),H1,I1,rfl,q1⟩)
def tIf (t:TT) (ta tb:TE):TE:=fun σ H Q=>t σ H fun c H1=>if c=true then ta σ H1 Q else tb σ H1 Q
theorem qJ0 {c:Expr} (hc:PT X c tA) (ha:PE X a ta) (hb:PE X b tb):PE X (.IfExp c a b pos) (tIf tA ta tb):=by
 intro Ab s σ H Q I h;refine wpAny_IfExp (thn (hc Ab s σ H _ I h) fun d s1 ⟨H1,I1,q1⟩=>?_);cases d with
 | true=>exact ha Ab s1 σ H1 Q I1 q1
 | false=>exact hb Ab s1 σ H1 Q I1 q1
end
def SqL (K:PySem.W.Frag) (H:Hp) (a:Addr) (xs:List V):Prop:=
 Rd H a (.lst xs)\/
  ∃ (o:Obj) (its:Array Value) (n:Nat),K.lookup a=some o/\o.cls=.type "list"/\o.dict=none/\o.data=.seq its n/\its.size<=sizeLine/\Vals xs its.toList
def SqT (K:PySem.W.Frag) (H:Hp) (a:Addr) (xs:List V):Prop:=
 Rd H a (.tup xs)\/
  ∃ (o:Obj) (its:Array Value) (n:Nat),K.lookup a=some o/\o.cls=.type "tuple"/\o.data=.seq its n/\its.size<=sizeLine/\Vals xs its.toList
def absV:Value->Option V
 | .none=>some .non
 | .bool b=>some (.bl b)
 | .int i _=>some (.int i)
 | .str x _=>some (.str x)
 | .bytes b _=>some (.byt b)
 | .float b _=>some (.flt b)
 | .ref a=>some (.ref a)
 | .type n=>some (.ty n)
 | _=>none
theorem RelV.abs {x:V} {u:Value} (r:RelV x u):absV u=some x:=by
 cases x with
 | non=>cases r;rfl
 | bl _=>cases r;rfl
 | int _=>obtain ⟨t,rfl⟩:=r;rfl
 | str _=>obtain ⟨t,rfl⟩:=r;rfl
 | byt _=>obtain ⟨t,rfl⟩:=r;rfl
 | flt _=>obtain ⟨t,rfl⟩:=r;rfl
 | ref _=>cases r;rfl
 | ty _=>cases r;rfl
theorem RelV.inj {x y:V} {u:Value} (r:RelV x u) (q:RelV y u):x=y:=J5 (r.abs.symm.trans q.abs)
theorem Vals.inj:∀ {xs ys:List V} {us:List Value},Vals xs us->Vals ys us->xs=ys
 | _,_,_,.nil,.nil=>rfl
 | _,_,_,.cons r t,.cons r' t'=>by rw [r.inj r',Vals.inj t t']
section
variable {X:Cx} {Ab:List (Addr × Obj)} {σ:St} {H:Hp} {s:Shared} {a:Addr} {xs ys:List V}
theorem SqL.of {K:PySem.W.Frag} (h:H a=some (.lst xs)):SqL K H a xs:=.inl (.inl h)
theorem SqT.of {K:PySem.W.Frag} (h:H a=some (.tup xs)):SqT K H a xs:=.inl (.inl h)
theorem Inv.list (I:Inv X Ab σ H s) (h:SqL X.K H a xs):∃ its:List Value,Vals xs its/\PlainL s.heap a its.toArray/\xs.length<=sizeLine:=by
 rcases h with h | ⟨o,its,n,hk,hc,hd,hs,hz,r⟩
 ·obtain ⟨z,its,n,r,e⟩:=h.ok I.hok;exact ⟨its,r,⟨_,n,e,rfl,rfl,rfl⟩,z⟩
 ·refine ⟨its.toList,r,⟨o,n,I.kIn a o hk,hc,hd,by simpa using hs⟩,?_⟩
  have e:=r.length;simp only [C0] at e;omega
theorem Inv.tuple (I:Inv X Ab σ H s) (h:SqT X.K H a xs):∃ its:List Value,Vals xs its/\IsTup s.heap a its.toArray/\xs.length<=sizeLine:=by
 rcases h with h | ⟨o,its,n,hk,hc,hs,hz,r⟩
 ·obtain ⟨z,its,r,p⟩:=h.ok I.hok;exact ⟨its,r,p,z⟩
 ·refine ⟨its.toList,r,⟨o,I.kIn a o hk,hc,n,by simpa using hs⟩,?_⟩
  have e:=r.length;simp only [C0] at e;omega
theorem Inv.list_inj (I:Inv X Ab σ H s) (h:SqL X.K H a xs) (h':SqL X.K H a ys):xs=ys:=by
 obtain ⟨its,r,⟨o,n,e,_,_,d⟩,_⟩:=I.list h;obtain ⟨its',r',⟨o',n',e',_,_,d'⟩,_⟩:=I.list h';rw [e] at e';cases e';rw [d] at d'
 injection d' with d1 _
 have:its=its':=by simpa using congrArg B79 d1
 subst this;exact r.inj r'
theorem Inv.tuple_inj (I:Inv X Ab σ H s) (h:SqT X.K H a xs) (h':SqT X.K H a ys):xs=ys:=by
 obtain ⟨its,r,⟨o,e,_,n,d⟩,_⟩:=I.tuple h;obtain ⟨its',r',⟨o',e',_,n',d'⟩,_⟩:=I.tuple h';rw [e] at e';cases e';rw [d] at d'
 injection d' with d1 _
 have:its=its':=by simpa using congrArg B79 d1
 subst this;exact r.inj r'
end
abbrev Cx.wish (X:Cx) (E:Value->Shared->Prop):Cx:={ X with xe:=E }
abbrev Cx.nox (X:Cx):Cx:=X.wish fun _ _=>False
theorem Cx.Ok.wish {X:Cx} (ok:X.Ok) (E:Value->Shared->Prop):(X.wish E).Ok:=
 ⟨ok.mod,ok.kind,ok.glob,ok.blt,ok.above,ok.inj,ok.has,ok.cab,ok.hd,ok.frames,ok.stk,ok.exf,ok.bs,ok.bsz,ok.noex,ok.exfs,ok.funs,ok.frf⟩
theorem Cx.Ok.unwish {X:Cx} {E:Value->Shared->Prop} (ok:(X.wish E).Ok):X.Ok:=
 ⟨ok.mod,ok.kind,ok.glob,ok.blt,ok.above,ok.inj,ok.has,ok.cab,ok.hd,ok.frames,ok.stk,ok.exf,ok.bs,ok.bsz,ok.noex,ok.exfs,ok.funs,ok.frf⟩
section
variable {X:Cx} {Ab:List (Addr × Obj)} {σ:St} {H:Hp} {s:Shared} {E:Value->Shared->Prop}
theorem Inv.wish (I:Inv X Ab σ H s) (E:Value->Shared->Prop):Inv (X.wish E) Ab σ H s:=⟨I.ok.wish E,I.os,I.bare,I.base,I.loc,I.cell,I.free,I.freeC,I.pin,I.hok,I.len⟩
theorem Inv.unwish (I:Inv (X.wish E) Ab σ H s):Inv X Ab σ H s:=⟨I.ok.unwish,I.os,I.bare,I.base,I.loc,I.cell,I.free,I.freeC,I.pin,I.hok,I.len⟩
theorem SP.unwish {D:Ends} {f:Flow} {s':Shared} (h:SP (X.wish E) Ab D f s'):SP X Ab D f s':=by
 cases f with
 | next=>obtain ⟨σ',H',I,q⟩:=h;exact ⟨σ',H',I.unwish,q⟩
 | brk=>obtain ⟨σ',H',I,q⟩:=h;exact ⟨σ',H',I.unwish,q⟩
 | cont=>obtain ⟨σ',H',I,q⟩:=h;exact ⟨σ',H',I.unwish,q⟩
 | ret u=>obtain ⟨v,σ',H',I,r,q⟩:=h;exact ⟨v,σ',H',I.unwish,r,q⟩
theorem PSs.nox {st:List Stmt} {t:TS} (h:PSs X.nox st t):PSs X st t:=fun Ab s σ H D I hw=>
 wpAny_mono (h Ab s σ H D (I.wish _) hw) (fun _ _ q=>q.unwish) fun _ _ z=>i7 z
end
section
variable {X:Cx} {st:Stmt} {rest:List Stmt} {t u:TS} {e:Expr} {te:TE} {pos:Pos}
def qb1:TS:=fun D σ H=>D.nx σ H
def tSeq (t u:TS):TS:=fun D σ H=>t { D with nx:=u D } σ H
theorem qAH:PSs X [] qb1:=fun _ _ σ H _ I h=>wpAny_execs_nil ⟨σ,H,I,h⟩
theorem qA4 (h1:PS X st t) (h2:PSs X rest u):PSs X (st::rest) (tSeq t u):=by
 intro Ab s σ H D I h;refine wpAny_execs_cons (thn (h1 Ab s σ H { D with nx:=u D } I h) fun f s1 q=>?_);cases f with
 | next=>
  obtain ⟨σ',H',I',q⟩:=q;exact h2 Ab s1 σ' H' D I' q
 | ret v=>exact q
 | brk=>exact q
 | cont=>exact q
theorem qA6 (h1:PS X st t):PSs X [st] t:=by
 intro Ab s σ H D I h;refine wpAny_execs_cons (thn (h1 Ab s σ H D I h) fun f s1 q=>?_);cases f with
 | next=>exact wpAny_execs_nil q
 | ret v=>exact q
 | brk=>exact q
 | cont=>exact q
def qb6:TS:=fun D σ H=>D.ct σ H
theorem qO7:PS X (.Continue pos) qb6:=fun _ _ σ H _ I h=>wpAny_Continue ⟨σ,H,I,h⟩
theorem Inv.quiet {Ab:List (Addr × Obj)} {σ:St} {H:Hp} {s:Shared} (I:Inv X Ab σ H s):interactive X.env=false:=by simp [interactive,I.ok.kind]
def qb3 (te:TE):TS:=fun D σ H=>te σ H fun _ H1=>D.nx σ H1
theorem qC0 (he:PE X e te) (hs:swapsWith e none pos.line X.env=pure false:=by rfl):PS X (.Expr e pos) (qb3 te):=by
 intro Ab s σ H D I h;exact wpAny_Expr_any (thn (he Ab s σ H _ I h) fun v s1 ⟨x,H1,I1,r1,q1⟩=>⟨σ,H1,I1,q1⟩) I.quiet hs
def tRet (te:TE):TS:=fun D σ H=>te σ H D.rt
theorem qAF (he:PE X e te):PS X (.Return (some e) pos) (tRet te):=by
 intro Ab s σ H D I h;exact wpAny_Return_some (thn (he Ab s σ H _ I h) fun v s1 ⟨x,H1,I1,r1,q1⟩=>⟨x,σ,H1,I1,r1,q1⟩)
def tIfS (c:TT) (t u:TS):TS:=fun D σ H=>c σ H fun b H1=>if b=true then t D σ H1 else u D σ H1
theorem qBB {c:Expr} {a b:List Stmt} {tc:TT} (hc:PT X c tc) (ha:PSs X a t) (hb:PSs X b u):PS X (.If c a b pos) (tIfS tc t u):=by
 intro Ab s σ H D I h;refine wpAny_If (thn (hc Ab s σ H _ I h) fun d s1 ⟨H1,I1,q1⟩=>?_);cases d with
 | true=>exact ha Ab s1 σ H1 D I1 q1
 | false=>exact hb Ab s1 σ H1 D I1 q1
def qZC:TS:=fun _ _ _=>False
theorem qSS {sts:List Stmt}:PSs X sts qZC:=fun _ _ _ _ _ _ h=>h.elim
end
abbrev TG:=V->St->Hp->(St->Hp->Prop)->Prop
abbrev TGs:=List V->St->Hp->(St->Hp->Prop)->Prop
def PG (X:Cx) (target:Expr) (t:TG):Prop:=
 ∀ (Ab:List (Addr × Obj)) (s:Shared) (σ:St) (H:Hp) (v:V) (u:Value) (Q:St->Hp->Prop),Inv X Ab σ H s->RelV v u->t v σ H Q->
  wpAny (model X.prog X.w) X.A (assign target X.env u) (fun _ s'=>∃ σ' H',Inv X Ab σ' H' s'/\Q σ' H') X.xe s
def PGs (X:Cx) (ts:List Expr) (t:TGs):Prop:=
 ∀ (Ab:List (Addr × Obj)) (s:Shared) (σ:St) (H:Hp) (vs:List V) (us:List Value) (Q:St->Hp->Prop),Inv X Ab σ H s->Vals vs us->t vs σ H Q->
  wpAny (model X.prog X.w) X.A (assignInOrder ((assignEach ts X.env).map (·.2)) us) (fun _ s'=>∃ σ' H',Inv X Ab σ' H' s'/\Q σ' H') X.xe s
abbrev TSet:=V->V->V->Hp->(Hp->Prop)->Prop
def PSet (X:Cx) (t:TSet):Prop:=
 ∀ (Ab:List (Addr × Obj)) (s:Shared) (σ:St) (H:Hp) (o i v:V) (ov iv u:Value) (Q:Hp->Prop),Inv X Ab σ H s->RelV o ov->RelV i iv->RelV v u->t o i v H Q->
  wpAny (model X.prog X.w) X.A (setItem ov iv u) (fun _ s'=>∃ H',Inv X Ab σ H' s'/\Q H') X.xe s
section
variable {X:Cx} {pos:Pos}
def qW8 (i:Nat):TG:=fun v σ H Q=>Q (σ.set i (some v)) H
theorem qAD {i:Nat} {x:Str} (hN:X.N.Nodup) (hi:X.N[i]?=some x) (hx:Loc X.env.scope x) (hf:X.fn x=true\/X.env.scope.names.lookup x=some .local:=by first | exact .inl rfl | exact .inr rfl | assumption):PG X (.Name x pos) (qW8 i):=by
 intro Ab s σ H v u Q I r h;exact wpAny_assign_Name (qPI I hN hi hx r (fun s' I'=>⟨_,H,I',h⟩) hf)
def gNil:TGs:=fun vs σ H Q=>vs=[]/\Q σ H
def qbJ (t:TG) (u:TGs):TGs:=fun vs σ H Q=>∃ v r,vs=v::r/\t v σ H fun σ' H'=>u r σ' H' Q
theorem qGK:PGs X [] gNil:=by
 intro Ab s σ H vs us Q I r h;obtain ⟨e,h⟩:=h;subst e;cases r;exact assignInOrder_nil ⟨σ,H,I,h⟩
theorem qBQ {e:Expr} {es:List Expr} {t:TG} {u:TGs} (h1:PG X e t) (h2:PGs X es u)
  (hs:(assignEach (e::es) X.env).map (·.2)=assign e X.env::(assignEach es X.env).map (·.2):=by rfl):PGs X (e::es) (qbJ t u):=by
 intro Ab s σ H vs us Q I r h;obtain ⟨v,vr,e1,h⟩:=h;subst e1;cases r with
 | cons r rr=>
  rw [hs];refine assignInOrder_cons (thn (h1 Ab s σ H _ _ _ I r h) fun _ s1 ⟨σ1,H1,I1,q1⟩=>?_);exact h2 Ab s1 σ1 H1 _ _ Q I1 rr q1
def gTup (K:PySem.W.Frag) (n:Nat) (t:TGs):TG:=fun v σ H Q=>∃ a xs,v=.ref a/\SqT K H a xs/\xs.length=n/\t xs σ H Q
theorem qKO {es:List Expr} {k:Nat} {t:TGs} {n:Nat} (hc:X.calm=true) (h:PGs X es t)
  (hn:(assignEach es X.env).length=n:=by rfl) (hst:(assignEach es X.env).findIdx? (·.1)=none:=by rfl):PG X (.Tuple es k pos) (gTup X.K n t):=by
 intro Ab s σ H v u Q I r hw;obtain ⟨a,xs,e1,hq,hl,hw⟩:=hw;subst e1;cases r;obtain ⟨its,rv,ht,hz⟩:=I.tuple hq;refine assign_Tuple_tuple (I.ok.hd hc) ht (by simp [hn,<- hl,rv.length]) hst fun h' hx=>?_
 have I1:Inv X Ab σ H { s with heap:=h' }:=I.kept (t':=s.toks) fun b o e=>hx b o (E2 (B8 e)) e;exact h Ab _ σ H xs _ Q I1 (by simpa using rv) hw
def gSub (to ti:TE) (t:TSet):TG:=fun v σ H Q=>to σ H fun o H1=>ti σ H1 fun i H2=>t o i v H2 fun H3=>Q σ H3
theorem qZV {o i:Expr} {to ti:TE} {t:TSet} (ho:PE X o to) (hi:PE X i ti) (hs:PSet X t)
  (ha:∀ v,assign (.Subscript o i pos) X.env v=(do
   let ov <- holding [v] (eval o X.env)
   let iv <- holding [v,ov] (eval i X.env)
   standAt pos
   holding [v,ov,iv] (setItem ov iv v)
   release [v,ov,iv] []):=by intro _;rfl):PG X (.Subscript o i pos) (gSub to ti t):=by
 intro Ab s σ H v u Q I r h;rw [ha];refine wpAny_bind (wpAny_holding (thn (ho Ab s σ H _ I h) fun ov s1 ⟨x,H1,I1,r1,q1⟩=>?_));refine wpAny_bind (wpAny_holding (thn (hi Ab s1 σ H1 _ I1 q1) fun iv s2 ⟨y,H2,I2,r2,q2⟩=>?_));refine wpAny_bind (wpAny_standAt (wpAny_bind (wpAny_holding (thn (hs Ab s2 σ H2 x y v ov iv u _ I2 r1 r2 r q2) fun _ s3 ⟨H3,I3,q3⟩=>?_))));exact wpAny_release ⟨σ,H3,I3,q3⟩
def tAsg (te:TE) (g:TG):TS:=fun D σ H=>te σ H fun x H1=>g x σ H1 D.nx
theorem qX0 {tg e:Expr} {te:TE} {g:TG} (he:PE X e te) (hg:PG X tg g) (hs:swapsWithSole [tg] e pos.line X.env=pure false:=by rfl) (hw:swappedStores [tg] e X.env=pure none:=by rfl)
  (h1:(assignEach [tg] X.env).map (·.2)=[assign tg X.env]:=by rfl):PS X (.Assign [tg] e pos) (tAsg te g):=by
 intro Ab s σ H D I h;refine wpAny_Assign_stores (thn (he Ab s σ H _ I h) fun v s1 ⟨x,H1,I1,r1,q1⟩=>?_) hs hw;rw [h1];exact thn (hg Ab s1 σ H1 x v _ I1 r1 q1) fun _ s2 q=>q
theorem qAG {i:Nat} {x:Str} {e:Expr} {te:TE} {pos':Pos} (hN:X.N.Nodup) (hi:X.N[i]?=some x) (hx:Loc X.env.scope x) (he:PE X e te) (hs:swapsWith e (some (.Name x pos')) pos.line X.env=pure false:=by rfl) (hf:X.fn x=true\/X.env.scope.names.lookup x=some .local:=by first | exact .inl rfl | exact .inr rfl | assumption) :
  PS X (.Assign [.Name x pos'] e pos) (tAsg te (qW8 i)):=by
 intro Ab s σ H D I h;refine wpAny_Assign_Name (thn (he Ab s σ H _ I h) fun v s1 ⟨y,H1,I1,r1,q1⟩=>?_) hs;exact qPI I1 hN hi hx r1 (fun s2 I2=>⟨_,H1,I2,q1⟩) hf
def qZB (c:TT) (tb:TS):TS:=fun D σ H=>∃ W:Nat->St->Hp->Prop,(∃ m,W m σ H)/\∀ m σ H,W m σ H->
 c σ H fun b H1=>if b=true then ∃ N:St->Hp->Prop,(∀ σ' H',N σ' H'->∃ m',m'<m/\W m' σ' H')/\tb { D with nx:=N,ct:=N,bk:=D.nx } σ H1 else D.nx σ H1
theorem qG1 {c:Expr} {body:List Stmt} {tc:TT} {tb:TS} (hp:PassesOwn (model X.prog X.w) X.A X.env X.xe) (hc:PT X c tc) (hb:PSs X body tb):PS X (.While c body [] pos) (qZB tc tb):=by
 intro Ab s σ H D I h;obtain ⟨W,⟨m0,w0⟩,turn⟩:=h;refine wpAny_While (codeAny_whileLoop (fun n s'=>∃ σ' H',Inv X Ab σ' H' s'/\W n σ' H') ?_ m0 ⟨σ,H,I,w0⟩);rintro n s1 ⟨σ1,H1,I1,w1⟩;refine wpAny_passesOwn hp (thn (hc Ab s1 σ1 H1 _ I1 (turn n σ1 H1 w1)) fun b s2 ⟨H2,I2,q2⟩=>?_);cases b with
 | true=>
  obtain ⟨N,hN,q2⟩:=q2;rw [if_pos rfl];refine wpAny_passesOwn hp (thn (hb Ab s2 σ1 H2 _ I2 q2) fun f s3 q3=>?_);cases f with
  | next=>
   obtain ⟨σ3,H3,I3,n3⟩:=q3;obtain ⟨m',hm,w3⟩:=hN σ3 H3 n3;exact ⟨m',hm,σ3,H3,I3,w3⟩
  | cont=>
   obtain ⟨σ3,H3,I3,n3⟩:=q3;obtain ⟨m',hm,w3⟩:=hN σ3 H3 n3;exact ⟨m',hm,σ3,H3,I3,w3⟩
  | brk=>exact q3
  | ret v=>exact q3
 | false=>
  rw [if_neg C3];exact wpAny_execs_nil ⟨σ1,H2,I2,q2⟩
end
structure It where
 go:Nat->Hp->Prop
 yld:Nat->Hp->V->Hp->Prop
 stop:Nat->Hp->Prop
def FpOk (X:Cx) (Ab:List (Addr × Obj)) (H:Hp) (b:Addr):Prop:=
 H b=none/\b ≠ X.env.locals/\b ∉ X.fs/\(b ∈ X.ex\/X.s₀.heap.objs.size<=b)/\(∀ x c,X.env.cells.lookup x=some c->c ≠ b)/\∀ p ∈ X.pn++Ab,p.1 ≠ b
theorem Inv.fpOk {X:Cx} {Ab:List (Addr × Obj)} {σ:St} {H H':Hp} {s:Shared} {b:Addr} (I:Inv X Ab σ H s) (hb:s.heap.objs.size<=b) (hn:H' b=none):FpOk X Ab H' b:=by
 refine ⟨hn,f9 (J2 I.lt hb),I.nofs hb,.inr (M5 I.sz hb),fun x c e z=>?_,fun p hp z=>?_⟩
 ·obtain ⟨v,q⟩:=I.cell x c e;exact absurd (J2 q.lt (by rw [z];exact hb)) (b7 _)
 ·exact absurd (J2 (B8 (I.pin p hp).1) (by rw [z];exact hb)) (b7 _)
structure Turn (P:Program) (w:World) (K:PySem.W.Frag) (tg:Expr) (J:It) (fp:List Addr) (it:Addr) (tn:Nat->Heap->Prop):Prop where
 mem:it ∈ fp
 obj:∀ i h,tn i h->∀ b ∈ fp,∃ o,h.get? b=some o/\∀ v,o.data ≠ .cell v
 keep:∀ i h h',tn i h->(∀ b ∈ fp,∀ o,h.get? b=some o->h'.get? b=some o)->tn i h'
 item:∀ (X:Cx),X.prog=P->X.w=w->X.K=K->X.calm=true->∀ (i:Nat) (Ab:List (Addr × Obj)) (s:Shared) (σ:St) (H:Hp) (E:Value->Shared->Prop),Inv X Ab σ H s->(∀ b ∈ fp,FpOk X Ab H b)->tn i s.heap->J.go i H->
  wpAny (model P w) X.A (pyNext (.ref it)) (fun r s1=>∃ u,r=some u/\
   wpAny (model P w) X.A (letOwnedTupleGo tg (.ref it) u) (fun _ s2=>∃ x H',Inv X Ab σ H' s2/\RelV x u/\J.yld i H x H'/\tn (i+1) s2.heap/\∀ b ∈ fp,H' b=none) E s1) E s
 done:∀ (X:Cx),X.prog=P->X.w=w->X.K=K->X.calm=true->∀ (i:Nat) (Ab:List (Addr × Obj)) (s:Shared) (σ:St) (H:Hp) (E:Value->Shared->Prop),Inv X Ab σ H s->(∀ b ∈ fp,FpOk X Ab H b)->tn i s.heap->J.stop i H->
  wpAny (model P w) X.A (pyNext (.ref it)) (fun r s1=>r=none/\Inv X Ab σ H s1) E s
 self:∀ (A:Around) (i:Nat) (s:Shared) (Q:Value->Shared->Prop) (E:Value->Shared->Prop),tn i s.heap->Q (.ref it) s->wpAny (model P w) A (pyIter (.ref it)) Q E s
abbrev TI:=St->Hp->(It->Hp->Prop)->Prop
def PIE (X:Cx) (Ab:List (Addr × Obj)) (σ:St) (tg:Expr) (R:It->Hp->Prop) (itv:Value) (s2:Shared):Prop:=
 ∃ (it:Addr) (fp:List Addr) (tn:Nat->Heap->Prop) (J:It) (H':Hp),itv=.ref it/\Inv X Ab σ H' s2/\Turn X.prog X.w X.K tg J fp it tn/\tn 0 s2.heap/\(∀ b ∈ fp,FpOk X Ab H' b)/\R J H'
def PI (X:Cx) (tg iter:Expr) (wi:TI):Prop:=
 ∀ (Ab:List (Addr × Obj)) (s:Shared) (σ:St) (H:Hp) (R:It->Hp->Prop),Inv X Ab σ H s->wi σ H R->
  wpAny (model X.prog X.w) X.A (eval iter X.env) (fun v s1=>wpAny (model X.prog X.w) X.A (pyIter v) (PIE X Ab σ tg R) X.xe s1) X.xe s
theorem qYQ {M:Model} {A:Around} {E:Value->Shared->Prop} {s:Shared} {tg:Expr} {it:Addr} {u:Value} {o:Obj} {n:String} {vs:Array Value} {Q:Unit->Shared->Prop} (ho:s.heap.get? it=some o) (hc:o.cls=.type n) (hd:o.data=.fields vs)
  (hn:["enumerate","zip","dict_itemiterator","dict_reverseitemiterator","odict_iterator","itertools.zip_longest","itertools.pairwise"].contains n=false) (hQ:Q () s):wpAny M A (letOwnedTupleGo tg (.ref it) u) Q E s:=by
 unfold letOwnedTupleGo;cases tg <;> first
  | exact wpAny_pure hQ
  | (cases u <;> first
    | exact wpAny_pure hQ
    | (refine wpAny_bind (wpAny_load ho ?_)
       rw [hc,hd];show wpAny M A (if (["enumerate","zip","dict_itemiterator","dict_reverseitemiterator","odict_iterator","itertools.zip_longest","itertools.pairwise"].contains n && vs[0]? == some (rawInt _))=true then _ else _) Q E s
       rw [if_neg (by intro h;rw [hn,P3] at h;cases h)]
       exact wpAny_pure hQ))
def Itl (K:PySem.W.Frag) (a:Addr):It:=
 ⟨fun i H=>∃ xs x,SqL K H a xs/\xs[i]?=some x,fun i H x H'=>H'=H/\∀ xs,SqL K H a xs->xs[i]?=some x,fun i H=>∃ xs,SqL K H a xs/\xs.length<=i⟩
def Itt (K:PySem.W.Frag) (a:Addr):It:=
 ⟨fun i H=>∃ xs x,SqT K H a xs/\xs[i]?=some x,fun i H x H'=>H'=H/\∀ xs,SqT K H a xs->xs[i]?=some x,fun i H=>∃ xs,SqT K H a xs/\xs.length<=i⟩
def Itr (lo:Int) (n:Nat):It:=⟨fun i _=>i<n,fun i H x H'=>H'=H/\x=.int (lo+i),fun i _=>n<=i⟩
theorem qS6 {P:Program} {w:World} {K:PySem.W.Frag} {tg:Expr} (a it:Addr):Turn P w K tg (Itl K a) [it] it (fun i h=>h.IsListIter it a i) where
 mem:=by simp
 obj:=fun i h st b hb=>by
  have e:b=it:=by simpa using hb
  subst e;obtain ⟨o,e,c,d⟩:=st;exact ⟨o,e,fun v z=>by rw [d] at z;cases z⟩
 keep:=fun i h h' st k=>st.at fun o e=>k it (by simp) o e
 item:=by
  intro X hP hw hK hc i Ab s σ H E I hf st hg;subst hP hw hK;obtain ⟨xs,x,hq,hx⟩:=hg;obtain ⟨its,rv,p,hz⟩:=I.list hq;obtain ⟨u,hu,ru⟩:=rv.get hx;obtain ⟨f0,f1,f2,f3,f4,f5⟩:=hf it (by simp)
  refine wpAny_pyNext_list_item st p.isList (x:=u) (by simpa using hu) fun h' st' sb=>?_
  have I1:Inv X Ab σ H { s with heap:=h' }:=I.turned (t':=s.toks) (fun b o hb e=>(sb.2 b hb).trans e) f0 f1 f3 f4 f5;obtain ⟨o,e,c,d⟩:=id st';exact ⟨u,rfl,qYQ (s:={ s with heap:=h' }) e c d (by decide) ⟨x,H,I1,ru,⟨rfl,fun ys hy=>by rw [I.list_inj hy hq];exact hx⟩,st',fun b hb=>(hf b hb).1⟩⟩
 done:=by
  intro X hP hw hK hc i Ab s σ H E I hf st hg;subst hP hw hK;obtain ⟨xs,hq,hx⟩:=hg;obtain ⟨its,rv,p,hz⟩:=I.list hq;obtain ⟨f0,f1,f2,f3,f4,f5⟩:=hf it (by simp)
  have hl:=rv.length;exact wpAny_pyNext_list_end (I.ok.hd hc) st p.isList (by simp;omega) fun h' eb=>⟨rfl,I.turned (t':=s.toks) (fun b o hb e=>eb b o hb e) f0 f1 f3 f4 f5⟩
 self:=fun _ _ _ _ _ st h=>wpAny_pyIter_listiter st h
theorem qQS {P:Program} {w:World} {K:PySem.W.Frag} {tg:Expr} (a it:Addr):Turn P w K tg (Itt K a) [it] it (fun i h=>h.IsTupleIter it a i) where
 mem:=by simp
 obj:=fun i h st b hb=>by
  have e:b=it:=by simpa using hb
  subst e;obtain ⟨o,e,c,d⟩:=st;exact ⟨o,e,fun v z=>by rw [d] at z;cases z⟩
 keep:=fun i h h' st k=>st.at fun o e=>k it (by simp) o e
 item:=by
  intro X hP hw hK hc i Ab s σ H E I hf st hg;subst hP hw hK;obtain ⟨xs,x,hq,hx⟩:=hg;obtain ⟨its,rv,p,hz⟩:=I.tuple hq;obtain ⟨u,hu,ru⟩:=rv.get hx;obtain ⟨f0,f1,f2,f3,f4,f5⟩:=hf it (by simp)
  refine wpAny_pyNext_tuple_item st (show s.heap.IsTuple a its.toArray from p) (x:=u) (by simpa using hu) fun h' st' sb=>?_
  have I1:Inv X Ab σ H { s with heap:=h' }:=I.turned (t':=s.toks) (fun b o hb e=>(sb.2 b hb).trans e) f0 f1 f3 f4 f5;obtain ⟨o,e,c,d⟩:=id st';exact ⟨u,rfl,qYQ (s:={ s with heap:=h' }) e c d (by decide) ⟨x,H,I1,ru,⟨rfl,fun ys hy=>by rw [I.tuple_inj hy hq];exact hx⟩,st',fun b hb=>(hf b hb).1⟩⟩
 done:=by
  intro X hP hw hK hc i Ab s σ H E I hf st hg;subst hP hw hK;obtain ⟨xs,hq,hx⟩:=hg;obtain ⟨its,rv,p,hz⟩:=I.tuple hq;obtain ⟨f0,f1,f2,f3,f4,f5⟩:=hf it (by simp)
  have hl:=rv.length;exact wpAny_pyNext_tuple_end (I.ok.hd hc) st (show s.heap.IsTuple a its.toArray from p) (by simp;omega) fun h' eb=>⟨rfl,I.turned (t':=s.toks) (fun b o hb e=>eb b o hb e) f0 f1 f3 f4 f5⟩
 self:=fun _ _ _ _ _ st h=>wpAny_pyIter_tupleiter st h
theorem qQT {P:Program} {w:World} {K:PySem.W.Frag} {tg:Expr} (it:Addr) (lo:Int) (n:Nat):Turn P w K tg (Itr lo n) [it] it (fun i h=>IsRangeIter h it (lo+(i:Nat) * 1) ((n:Int) - (i:Nat)) 1) where
 mem:=by simp
 obj:=fun i h st b hb=>by
  have e:b=it:=by simpa using hb
  subst e;exact ⟨_,st,fun v z=>by
   have z':A90 _=A63 v:=z;cases z'⟩
 keep:=fun i h h' st k=>k it (by simp) _ st
 item:=by
  intro X hP hw hK hc i Ab s σ H E I hf st hg;subst hP hw hK;obtain ⟨f0,f1,f2,f3,f4,f5⟩:=hf it (by simp)
  have W:=Walks.range (prog:=X.prog) (w:=X.w) (I.ok.hd hc) it lo 1 n;refine W.item i s _ _ hg st fun v h' tk hv st' kk=>?_;obtain ⟨t,rfl⟩:=hv;have I1:Inv X Ab σ H { s with heap:=h',toks:=tk }:=I.turned (fun b o hb e=>kk b o (by simpa using hb) e) f0 f1 f3 f4 f5
  refine ⟨_,rfl,qYQ (s:={ s with heap:=h',toks:=tk }) (n:="range_iterator") st' rfl rfl (by decide) ⟨.int (lo+i),H,I1,⟨t,?_⟩,⟨rfl,rfl⟩,st',fun b hb=>(hf b hb).1⟩⟩
  rw [Int.mul_one]
 done:=by
  intro X hP hw hK hc i Ab s σ H E I hf st hg;subst hP hw hK;obtain ⟨f0,f1,f2,f3,f4,f5⟩:=hf it (by simp)
  exact wpAny_pyNext_range_end (I.ok.hd hc) st (by have:n<=i:=hg;omega) fun h' eb=>⟨rfl,I.turned (t':=s.toks) (fun b o hb e=>eb b o hb e) f0 f1 f3 f4 f5⟩
 self:=fun _ _ _ _ _ st h=>wpAny_pyIter_rangeiter st h
section
variable {X:Cx} {tg:Expr}
def qbH (K:PySem.W.Frag) (tl:TE):TI:=fun σ H R=>tl σ H fun x H1=>∃ a,x=.ref a/\(∃ xs,SqL K H1 a xs)/\R (Itl K a) H1
def iTup (K:PySem.W.Frag) (tl:TE):TI:=fun σ H R=>tl σ H fun x H1=>∃ a,x=.ref a/\(∃ xs,SqT K H1 a xs)/\R (Itt K a) H1
theorem qCR {l:Expr} {tl:TE} (hl:PE X l tl):PI X tg l (qbH X.K tl):=by
 intro Ab s σ H R I h;refine thn (hl Ab s σ H _ I h) fun v s1 ⟨x,H1,I1,r1,q1⟩=>?_;obtain ⟨a,e,⟨xs,hq⟩,q⟩:=q1;subst e;cases r1;obtain ⟨its,rv,p,hz⟩:=I1.list hq;refine wpAny_pyIter_list p.isList ?_;refine ⟨s1.heap.objs.size,[s1.heap.objs.size],_,_,H1,rfl,I1.kept (t':=s1.toks) fun b o e=>A8 _ e,qS6 a _,⟨_,B9 _ rfl,rfl,rfl⟩,fun b hb=>?_,q⟩;have e:b=s1.heap.objs.size:=by simpa using hb
 subst e;exact I1.fpOk (B3 _) (I1.hok.fresh (B3 _))
theorem qD0 {l:Expr} {tl:TE} (hl:PE X l tl):PI X tg l (iTup X.K tl):=by
 intro Ab s σ H R I h;refine thn (hl Ab s σ H _ I h) fun v s1 ⟨x,H1,I1,r1,q1⟩=>?_;obtain ⟨a,e,⟨xs,hq⟩,q⟩:=q1;subst e;cases r1;obtain ⟨its,rv,p,hz⟩:=I1.tuple hq;refine wpAny_pyIter_tuple (show s1.heap.IsTuple a its.toArray from p) ?_;refine ⟨s1.heap.objs.size,[s1.heap.objs.size],_,_,H1,rfl,I1.kept (t':=s1.toks) fun b o e=>A8 _ e,qQS a _,⟨_,B9 _ rfl,rfl,rfl⟩,fun b hb=>?_,q⟩;have e:b=s1.heap.objs.size:=by simpa using hb
 subst e;exact I1.fpOk (B3 _) (I1.hok.fresh (B3 _))
theorem range_it {Ab:List (Addr × Obj)} {σ:St} {H:Hp} {s:Shared} {R:It->Hp->Prop} {E:Value->Shared->Prop} {lo hi:Int} {t u v:Tok} {tk:Nat} (I:Inv X Ab σ H s) (h1 : -(2 ^ 62)<=lo) (h2:lo<2 ^ 62) (h3 : -(2 ^ 62)<=hi) (h4:hi<2 ^ 62)
  (q:R (Itr lo (hi - lo).toNat) H):wpAny (model X.prog X.w) X.A (pyIter (.ref s.heap.objs.size)) (PIE X Ab σ tg R) E { s with heap:=s.heap.push { cls:=.type "range",data:=.fields #[.int lo t,.int hi u,.int 1 v] },toks:=tk }:=by
 refine wpAny_pyIter_range (IsRange.new ..) (small_one h1 h2 h3 h4) ?_;have I1:Inv X Ab σ H { s with heap:=s.heap.push { cls:=.type "range",data:=.fields #[.int lo t,.int hi u,.int 1 v] },toks:=tk }:=I.kept fun b o e=>A8 _ e;refine ⟨(s.heap.push { cls:=.type "range",data:=.fields #[.int lo t,.int hi u,.int 1 v] }).objs.size,[(s.heap.push { cls:=.type "range",data:=.fields #[.int lo t,.int hi u,.int 1 v] }).objs.size],_,_,H,rfl,
  I1.kept (t':=tk) fun b o e=>A8 _ e,qQT _ lo (hi - lo).toNat,?_,fun b hb=>?_,q⟩
 ·have e1:lo+((0:Nat):Int) * 1=lo:=by simp
  have e2:(((hi - lo).toNat:Nat):Int) - ((0:Nat):Int)=b8 lo hi 1:=by rw [rangeSize_one];split <;> omega
  show IsRangeIter _ _ (lo+((0:Nat):Int) * 1) ((((hi - lo).toNat:Nat):Int) - ((0:Nat):Int)) 1;rw [e1,e2];exact B9 _ rfl
 ·have e:b=(s.heap.push { cls:=.type "range",data:=.fields #[.int lo t,.int hi u,.int 1 v] }).objs.size:=by simpa using hb
  subst e;exact I1.fpOk (B3 _) (I1.hok.fresh (B3 _))
def qbG (ta:TA):TI:=fun σ H R=>ta σ H fun vs H1=>∃ j:Int,vs=[.int j]/\-(2 ^ 62)<=j/\j<2 ^ 62/\R (Itr 0 j.toNat) H1
theorem qD1 {a:Expr} {ta:TA} {p pos:Pos} (hg:Gl X "range") (hm:X.mg "range" = none) (ha:PA X [a] ta) (hs:starEach [a] X.env=[(false,eval a X.env)]:=by rfl):PI X tg (.Call (.Name "range" p) [a] [] pos) (qbG ta):=by
 intro Ab s σ H R I h;refine Call_ (qJN I hg hm boot_range (R7 (thn (ha pos Ab s σ H _ I h) fun us s1 ⟨vs,H1,I1,r1,q1⟩=>?_) hs rfl));obtain ⟨j,e,q1,q2,q⟩:=q1;subst e;cases r1 with
 | cons r rr=>
  cases rr;obtain ⟨t,rfl⟩:=r;exact call_range_1 (range_it I1 (by omega) (by omega) q1 q2 (by simpa using q))
def tFor (wi:TI) (g:TG) (tb:TS):TS:=fun D σ H=>wi σ H fun J H1=>∃ W:Nat->Nat->St->Hp->Prop,(∃ m,W 0 m σ H1)/\∀ i m σ H,W i m σ H->
 (J.stop i H/\D.nx σ H)\/(J.go i H/\∃ N:St->Hp->Prop,(∀ σ' H',N σ' H'->∃ m',m'<m/\W (i+1) m' σ' H')/\∀ x H',J.yld i H x H'->g x σ H' fun σ2 H2=>tb { D with nx:=N,ct:=N,bk:=D.nx } σ2 H2)
def qMV (fp:List Addr) (h:Heap):List (Addr × Obj):=fp.filterMap fun b=>(h.get? b).map fun o=>(b,o)
theorem qG2 {fp:List Addr} {h:Heap} {b:Addr} {o:Obj} (hb:b ∈ fp) (e:h.get? b=some o):(b,o) ∈ qMV fp h:=d8.mpr ⟨b,hb,by rw [e];rfl⟩
theorem qT8 {fp:List Addr} {h:Heap} {p:Addr × Obj} (hp:p ∈ qMV fp h):p.1 ∈ fp/\h.get? p.1=some p.2:=by
 obtain ⟨b,hb,e⟩:=d8.mp hp;cases q:h.get? b with
 | none=>rw [q] at e;cases e
 | some o=>
  rw [q] at e;have e':(b,o)=p:=J5 e;subst e';exact ⟨hb,q⟩
theorem Inv.pinned {Ab:List (Addr × Obj)} {σ:St} {H:Hp} {s:Shared} {fp:List Addr} (I:Inv X Ab σ H s) (hf:∀ b ∈ fp,FpOk X Ab H b) (ho:∀ b ∈ fp,∃ o,s.heap.get? b=some o/\∀ v,o.data ≠ .cell v):Inv X (Ab++qMV fp s.heap) σ H s:=
 I.pins_of fun p hp=>(C2.mp hp).elim (fun z=>I.pin p (J8 _ z)) fun z=>by
  obtain ⟨hb,e⟩:=qT8 z;obtain ⟨f0,f1,f2,_⟩:=hf p.1 hb;obtain ⟨o,e',d⟩:=ho p.1 hb;rw [e] at e';cases e';exact ⟨e,f0,f1,f2,d⟩
theorem Inv.unpinned {Ab pl:List (Addr × Obj)} {σ:St} {H:Hp} {s:Shared} (I:Inv X (Ab++pl) σ H s):Inv X Ab σ H s:=I.pins_of fun p hp=>I.pin p (J8 _ (S0 _ hp))
theorem qCE {iter:Expr} {body:List Stmt} {wi:TI} {g:TG} {tb:TS} {pos:Pos} (hp:PassesOwn (model X.prog X.w) X.A X.env X.xe) (hc:X.calm=true) (hi:PI X tg iter wi) (hg:PG X tg g) (hb:PSs X body tb)
  (hs:∀ x,foldedSetIterable iter X.env x=pure x:=by intro _;rfl):PS X (.For tg iter body [] pos) (tFor wi g tb):=by
 intro Ab s σ H D I h;refine wpAny_For (thn (hi Ab s σ H _ I h) fun v s1 h1=>thn h1 fun itv s2 h2=>?_) hs;obtain ⟨it,fp,tn,J,H2,e,I2,T,st2,f2,W,⟨m0,w0⟩,turn⟩:=h2;subst e
 -- what stays true of the iterator's objects through the loop
 have stat:∀ {H':Hp},(∀ b ∈ fp,H' b=none)->∀ b ∈ fp,FpOk X Ab H' b:=fun hn b hb=>⟨hn b hb,(f2 b hb).2⟩;refine codeAny_forLoop_any (fun n s'=>∃ i σ' H',Inv X Ab σ' H' s'/\tn i s'.heap/\(∀ b ∈ fp,H' b=none)/\W i n σ' H') ?_ m0 ⟨0,σ,H2,I2,st2,fun b hb=>(f2 b hb).1,w0⟩;rintro n s3 ⟨i,σ3,H3,I3,st3,fr3,w3⟩;rcases turn i n σ3 H3 w3 with ⟨stop,qn⟩ | ⟨go,N,hN,step⟩
 ·refine wpAny_passesOwn hp (thn (T.done X rfl rfl rfl hc i Ab s3 σ3 H3 X.xe I3 (stat fr3) st3 stop) fun r s4 ⟨hr,I4⟩=>?_);subst hr;exact wpAny_execs_nil ⟨σ3,H3,I4,qn⟩
 ·refine wpAny_passesOwn hp (thn (T.item X rfl rfl rfl hc i Ab s3 σ3 H3 X.xe I3 (stat fr3) st3 go) fun r s4 ⟨u,hr,h4⟩=>?_);subst hr;refine wpAny_passesOwn hp (thn h4 fun _ s5 ⟨x,H5,I5,r5,y5,st5,fr5⟩=>?_);have I5':=I5.pinned (stat fr5) (T.obj _ _ st5);refine wpAny_passesOwn hp (thn (hg _ s5 σ3 H5 x u _ I5' r5 (step x H5 y5)) fun _ s6 ⟨σ6,H6,I6,q6⟩=>?_);refine wpAny_passesOwn hp (thn (hb _ s6 σ6 H6 _ I6 q6) fun f s7 q7=>?_);have again:∀ {σ7:St} {H7:Hp},Inv X (Ab++qMV fp s5.heap) σ7 H7 s7->N σ7 H7->∃ m,m<n/\∃ i σ' H',Inv X Ab σ' H' s7/\tn i s7.heap/\(∀ b ∈ fp,H' b=none)/\W i m σ' H':=fun {σ7 H7} I7 n7=>by
   obtain ⟨m',hm,w7⟩:=hN σ7 H7 n7;refine ⟨m',hm,i+1,σ7,H7,I7.unpinned,T.keep _ _ _ st5 fun b hb o e=>(I7.pin (b,o) (J8 _ (J8 _ (qG2 hb e)))).1,fun b hb=>?_,w7⟩;obtain ⟨o,e,d⟩:=T.obj _ _ st5 b hb;exact (I7.pin (b,o) (J8 _ (J8 _ (qG2 hb e)))).2.1
  cases f with
  | next=>obtain ⟨σ7,H7,I7,n7⟩:=q7;exact again I7 n7
  | cont=>obtain ⟨σ7,H7,I7,n7⟩:=q7;exact again I7 n7
  | brk=>obtain ⟨σ7,H7,I7,q7⟩:=q7;exact ⟨σ7,H7,I7.unpinned,q7⟩
  | ret v=>obtain ⟨x7,σ7,H7,I7,r7,q7⟩:=q7;exact ⟨x7,σ7,H7,I7.unpinned,r7,q7⟩
end
theorem qHM {K:PySem.W.Frag} {a:Addr} {xs:List V} {g:TG} {tb:TS} {D:Ends} {σ:St} {H:Hp} (Pv:Nat->St->Hp->Prop) (h0:Pv 0 σ H) (hl:∀ i σ H,i<=xs.length->Pv i σ H->SqL K H a xs)
  (hs:∀ i x σ H,xs[i]?=some x->Pv i σ H->g x σ H fun σ2 H2=>tb { D with nx:=Pv (i+1),ct:=Pv (i+1),bk:=D.nx } σ2 H2) (hd:∀ σ H,Pv xs.length σ H->D.nx σ H) :
  ∃ W:Nat->Nat->St->Hp->Prop,(∃ m,W 0 m σ H)/\∀ i m σ H,W i m σ H->
   ((Itl K a).stop i H/\D.nx σ H)\/((Itl K a).go i H/\∃ N:St->Hp->Prop,(∀ σ' H',N σ' H'->∃ m',m'<m/\W (i+1) m' σ' H')/\∀ x H',(Itl K a).yld i H x H'->g x σ H' fun σ2 H2=>tb { D with nx:=N,ct:=N,bk:=D.nx } σ2 H2):=by
 refine ⟨fun i m σ H=>m=xs.length - i/\i<=xs.length/\Pv i σ H,⟨xs.length,by simp,F5 _,h0⟩,?_⟩
 rintro i m σ H ⟨rfl,hi,p⟩;have q:=hl i σ H hi p;by_cases hlt:i<xs.length
 ·refine .inr ⟨⟨xs,xs[i],q,by simp [hlt]⟩,Pv (i+1),fun σ' H' p'=>⟨xs.length - (i+1),by omega,rfl,hlt,p'⟩,fun x H' y=>?_⟩
  obtain ⟨e,y⟩:=y;subst e;exact hs i x σ _ (y xs q) p
 ·have e:i=xs.length:=by omega
  subst e;exact .inl ⟨⟨xs,q,B3 _⟩,hd σ H p⟩
theorem qFR {K:PySem.W.Frag} {a:Addr} {xs:List V} {g:TG} {tb:TS} {D:Ends} {σ:St} {H:Hp} (Pv:Nat->St->Hp->Prop) (h0:Pv 0 σ H) (hl:∀ i σ H,i<=xs.length->Pv i σ H->SqT K H a xs)
  (hs:∀ i x σ H,xs[i]?=some x->Pv i σ H->g x σ H fun σ2 H2=>tb { D with nx:=Pv (i+1),ct:=Pv (i+1),bk:=D.nx } σ2 H2) (hd:∀ σ H,Pv xs.length σ H->D.nx σ H) :
  ∃ W:Nat->Nat->St->Hp->Prop,(∃ m,W 0 m σ H)/\∀ i m σ H,W i m σ H->
   ((Itt K a).stop i H/\D.nx σ H)\/((Itt K a).go i H/\∃ N:St->Hp->Prop,(∀ σ' H',N σ' H'->∃ m',m'<m/\W (i+1) m' σ' H')/\∀ x H',(Itt K a).yld i H x H'->g x σ H' fun σ2 H2=>tb { D with nx:=N,ct:=N,bk:=D.nx } σ2 H2):=by
 refine ⟨fun i m σ H=>m=xs.length - i/\i<=xs.length/\Pv i σ H,⟨xs.length,by simp,F5 _,h0⟩,?_⟩
 rintro i m σ H ⟨rfl,hi,p⟩;have q:=hl i σ H hi p;by_cases hlt:i<xs.length
 ·refine .inr ⟨⟨xs,xs[i],q,by simp [hlt]⟩,Pv (i+1),fun σ' H' p'=>⟨xs.length - (i+1),by omega,rfl,hlt,p'⟩,fun x H' y=>?_⟩
  obtain ⟨e,y⟩:=y;subst e;exact hs i x σ _ (y xs q) p
 ·have e:i=xs.length:=by omega
  subst e;exact .inl ⟨⟨xs,q,B3 _⟩,hd σ H p⟩
theorem qHL {lo:Int} {n:Nat} {g:TG} {tb:TS} {D:Ends} {σ:St} {H:Hp} (Pv:Nat->St->Hp->Prop) (h0:Pv 0 σ H)
  (hs:∀ i σ H,i<n->Pv i σ H->g (.int (lo+i)) σ H fun σ2 H2=>tb { D with nx:=Pv (i+1),ct:=Pv (i+1),bk:=D.nx } σ2 H2) (hd:∀ σ H,Pv n σ H->D.nx σ H) :
  ∃ W:Nat->Nat->St->Hp->Prop,(∃ m,W 0 m σ H)/\∀ i m σ H,W i m σ H->
   ((Itr lo n).stop i H/\D.nx σ H)\/((Itr lo n).go i H/\∃ N:St->Hp->Prop,(∀ σ' H',N σ' H'->∃ m',m'<m/\W (i+1) m' σ' H')/\∀ x H',(Itr lo n).yld i H x H'->g x σ H' fun σ2 H2=>tb { D with nx:=N,ct:=N,bk:=D.nx } σ2 H2):=by
 refine ⟨fun i m σ H=>m=n - i/\i<=n/\Pv i σ H,⟨n,by simp,F5 _,h0⟩,?_⟩
 rintro i m σ H ⟨rfl,hi,p⟩;by_cases hlt:i<n
 ·refine .inr ⟨hlt,Pv (i+1),fun σ' H' p'=>⟨n - (i+1),by omega,rfl,hlt,p'⟩,fun x H' y=>?_⟩
  obtain ⟨e,y⟩:=y;subst e y;exact hs i σ _ hlt p
 ·have e:i=n:=by omega
  subst e;exact .inl ⟨B3 _,hd σ H p⟩
abbrev R2:=V->V->Hp->VK->Prop
def OpR (X:Cx) (f:Value->Value->Sem Value) (r:R2):Prop:=
 ∀ (Ab:List (Addr × Obj)) (s:Shared) (σ:St) (H:Hp) (x y:V) (v u:Value) (Q:VK),Inv X Ab σ H s->RelV x v->RelV y u->r x y H Q->
  wpAny (model X.prog X.w) X.A (f v u) (EP X Ab σ Q) X.xe s
def UnR (X:Cx) (f:Value->Sem Value) (r:V->Hp->VK->Prop):Prop:=
 ∀ (Ab:List (Addr × Obj)) (s:Shared) (σ:St) (H:Hp) (x:V) (v:Value) (Q:VK),Inv X Ab σ H s->RelV x v->r x H Q->
  wpAny (model X.prog X.w) X.A (f v) (EP X Ab σ Q) X.xe s
def qCN (X:Cx) (f:Value) (r:List V->Hp->VK->Prop):Prop:=
 ∀ (Ab:List (Addr × Obj)) (s:Shared) (σ:St) (H:Hp) (xs:List V) (us:List Value) (Q:VK),Inv X Ab σ H s->Vals xs us->r xs H Q->
  wpAny (model X.prog X.w) X.A (call f us) (EP X Ab σ Q) X.xe s
def TruR (X:Cx) (r:V->Hp->(Bool->Hp->Prop)->Prop):Prop:=
 ∀ (Ab:List (Addr × Obj)) (s:Shared) (σ:St) (H:Hp) (x:V) (v:Value) (Q:Bool->Hp->Prop),Inv X Ab σ H s->RelV x v->r x H Q->
  wpAny (model X.prog X.w) X.A (truthy v) (TP X Ab σ Q) X.xe s
def tOp (r:R2) (ta tb:TE):TE:=fun σ H Q=>ta σ H fun x H1=>tb σ H1 fun y H2=>r x y H2 Q
def tUn (r:V->Hp->VK->Prop) (ta:TE):TE:=fun σ H Q=>ta σ H fun x H1=>r x H1 Q
def rI (C:Int->Int->Prop) (g:Int->Int->V):R2:=fun x y H Q=>∃ i j,x=.int i/\y=.int j/\C i j/\Q (g i j) H
def rI0 (g:Int->Int->V):R2:=fun x y H Q=>∃ i j,x=.int i/\y=.int j/\Q (g i j) H
def rU (g:Int->V):V->Hp->VK->Prop:=fun x H Q=>∃ i,x=.int i/\Q (g i) H
section
variable {X:Cx} {a b c:Expr} {ta tb tc:TE} {pos:Pos}
theorem binT (ha:PE X a ta) (hb:PE X b tb) {Ab:List (Addr × Obj)} {s:Shared} {σ:St} {H:Hp} {R:V->V->Hp->Prop} (I:Inv X Ab σ H s)
  (h:ta σ H fun x H1=>tb σ H1 fun y H2=>R x y H2) {Q:Value->Shared->Prop} {f:Value->Value->Sem Value}
  (hf:∀ v u s2 x y H2,Inv X Ab σ H2 s2->RelV x v->RelV y u->R x y H2->wpAny (model X.prog X.w) X.A (f v u) Q X.xe s2) :
  wpAny (model X.prog X.w) X.A (eval a X.env) (fun v s₁=>wpAny (model X.prog X.w) X.A (eval b X.env) (fun u s₂=>wpAny (model X.prog X.w) X.A (f v u) Q X.xe s₂) X.xe s₁) X.xe s:=by
 refine thn (ha Ab s σ H _ I h) fun v s1 ⟨x,H1,I1,r1,q1⟩=>?_;refine thn (hb Ab s1 σ H1 _ I1 q1) fun u s2 ⟨y,H2,I2,r2,q2⟩=>?_;exact hf v u s2 x y H2 I2 r1 r2 q2
theorem qAM {op:Operator} {r:R2} (ho:OpR X (binaryOp op) r) (ha:PE X a ta) (hb:PE X b tb):PE X (.BinOp a op b pos) (tOp r ta tb):=by
 intro Ab s σ H Q I h;exact wpAny_BinOp (binT ha hb I h fun v u s2 x y H2 I2 rx ry q=>ho Ab s2 σ H2 x y v u Q I2 rx ry q)
theorem qR3 {op:UnaryOp} {r:V->Hp->VK->Prop} (ho:UnR X (unaryOp op) r) (ha:PE X a ta):PE X (.UnaryOp op a pos) (tUn r ta):=by
 intro Ab s σ H Q I h;exact UnaryOp_ (thn (ha Ab s σ H _ I h) fun v s1 ⟨x,H1,I1,r1,q1⟩=>ho Ab s1 σ H1 x v Q I1 r1 q1)
theorem opI {f:Value->Value->Sem Value} {C:Int->Int->Prop} {g:Int->Int->Int}
  (rule:∀ (i j:Int) (t u:Tok) (s:Shared) (Q:Value->Shared->Prop) (E:Value->Shared->Prop),C i j->Q (.int (g i j) s.toks) { s with toks:=s.toks+1 }->wpAny (model X.prog X.w) X.A (f (.int i t) (.int j u)) Q E s) :
  OpR X f (rI C fun i j=>.int (g i j)):=by
 intro Ab s σ H x y v u Q I rx ry h;obtain ⟨i,j,rfl,rfl,hc,q⟩:=h;obtain ⟨t,rfl⟩:=rx;obtain ⟨t',rfl⟩:=ry;exact rule i j t t' s _ _ hc ⟨.int (g i j),H,I.tok _,⟨_,rfl⟩,q⟩
theorem opI0 {f:Value->Value->Sem Value} {g:Int->Int->Int}
  (rule:∀ (i j:Int) (t u:Tok) (s:Shared) (Q:Value->Shared->Prop) (E:Value->Shared->Prop),Q (.int (g i j) s.toks) { s with toks:=s.toks+1 }->wpAny (model X.prog X.w) X.A (f (.int i t) (.int j u)) Q E s) :
  OpR X f (rI0 fun i j=>.int (g i j)):=by
 intro Ab s σ H x y v u Q I rx ry h;obtain ⟨i,j,rfl,rfl,q⟩:=h;obtain ⟨t,rfl⟩:=rx;obtain ⟨t',rfl⟩:=ry;exact rule i j t t' s _ _ ⟨.int (g i j),H,I.tok _,⟨_,rfl⟩,q⟩
theorem opB0 {f:Value->Value->Sem Value} {g:Int->Int->Bool}
  (rule:∀ (i j:Int) (t u:Tok) (s:Shared) (Q:Value->Shared->Prop) (E:Value->Shared->Prop),Q (.bool (g i j)) s->wpAny (model X.prog X.w) X.A (f (.int i t) (.int j u)) Q E s) :
  OpR X f (rI0 fun i j=>.bl (g i j)):=by
 intro Ab s σ H x y v u Q I rx ry h;obtain ⟨i,j,rfl,rfl,q⟩:=h;obtain ⟨t,rfl⟩:=rx;obtain ⟨t',rfl⟩:=ry;exact rule i j t t' s _ _ ⟨.bl (g i j),H,I,rfl,q⟩
def CDiv (i j:Int):Prop:=0<j/\j<1073741824
def CPow (i j:Int):Prop:=0<=j/\j<=1000000/\i.natAbs<2 ^ 64
def CMul (i j:Int):Prop:=(-(2 ^ 64)<i/\i<2 ^ 64)\/(-(2 ^ 64)<j/\j<2 ^ 64)
theorem CMul.ok {i j:Int} (h:CMul i j):IntMulOk i j:=by
 rcases h with ⟨h1,h2⟩ | ⟨h1,h2⟩
 ·exact .of_left (intBits_le_64 h1 h2)
 ·exact .of_right (intBits_le_64 h1 h2)
theorem qCG:OpR X (binaryOp .Add) (rI0 fun i j=>.int (i+j)):=opI0 fun _ _ _ _ _ _ _ q=>add_int q
theorem qDQ:OpR X (binaryOp .Sub) (rI0 fun i j=>.int (i - j)):=opI0 fun _ _ _ _ _ _ _ q=>sub_int q
theorem qE0:OpR X (binaryOp .Mult) (rI CMul fun i j=>.int (i * j)):=opI fun _ _ _ _ _ _ _ hc q=>mul_int q hc.ok
theorem qJK:OpR X (binaryOp .FloorDiv) (rI CDiv fun i j=>.int (i / j)):=opI fun i j _ _ _ _ _ hc q=>by
 have h1:(0:Int)<j:=hc.1;have h2:j<1073741824:=hc.2;exact floordiv_int (by omega) (by rw [A04 i (by omega)];exact q) (.inl (A52 (by omega)))
theorem qJJ:OpR X (binaryOp .Mod) (rI (fun _ j=>0<j) fun i j=>.int (i % j)):=opI fun i j _ _ _ _ _ hc q=>by
 have h1:(0:Int)<j:=hc;exact mod_int' (by omega) (by rw [A05 i (by omega)];exact q)
theorem qZX:OpR X (binaryOp .Pow) (rI CPow fun i j=>.int (i ^ j.toNat)):=opI fun _ _ _ _ _ _ _ hc q=>pow_int_small hc.1 hc.2.1 hc.2.2 q
theorem unI {f:Value->Sem Value} {g:Int->Int}
  (rule:∀ (i:Int) (t:Tok) (s:Shared) (Q:Value->Shared->Prop) (E:Value->Shared->Prop),Q (.int (g i) s.toks) { s with toks:=s.toks+1 }->wpAny (model X.prog X.w) X.A (f (.int i t)) Q E s) :
  UnR X f (rU fun i=>.int (g i)):=by
 intro Ab s σ H x v Q I rx h;obtain ⟨i,rfl,q⟩:=h;obtain ⟨t,rfl⟩:=rx;exact rule i t s _ _ ⟨.int (g i),H,I.tok _,⟨_,rfl⟩,q⟩
theorem qKJ:UnR X (unaryOp .USub) (rU fun i=>.int (-i)):=unI fun _ _ _ _ _ q=>neg_int q
end
def scal:V->V->Bool
 | .non,.non=>true | .non,.int _=>true | .int _,.non=>true | .non,.bl _=>true | .bl _,.non=>true | .non,.str _=>true | .str _,.non=>true
 | .int _,.int _=>true | .bl _,.bl _=>true | .str _,.str _=>true | .byt _,.byt _=>true
 | .int _,.str _=>true | .str _,.int _=>true | .bl _,.str _=>true | .str _,.bl _=>true
 | _,_=>false
def rEq:R2:=fun x y H Q=>scal x y=true/\Q (.bl (decide (x=y))) H
def rNe:R2:=fun x y H Q=>scal x y=true/\Q (.bl (!decide (x=y))) H
theorem qUB {i j:Int}:decide (V.int i=V.int j)=(i == j):=by
 rw [Q2];simp
theorem qXE {i j:Bool}:decide (V.bl i=V.bl j)=(i == j):=by
 rw [Q2];simp
theorem qUA {i j:Str}:decide (V.str i=V.str j)=(i == j):=by
 rw [Q2];simp
theorem qUC {i j:Array UInt8}:decide (V.byt i=V.byt j)=(i.toList == j.toList):=by
 rw [Q2];cases i;cases j;simp
section
variable {X:Cx} {a b c:Expr} {ta tb tc:TE} {pos:Pos}
theorem qB9 {Ab:List (Addr × Obj)} {σ:St} {H:Hp} {s:Shared} {Q:VK} {k k':Bool} (I:Inv X Ab σ H s) (q:Q (.bl k) H) (e:k=k'):EP X Ab σ Q (.bool k') s:=by
 subst e;exact ⟨.bl k,H,I,rfl,q⟩
theorem qHC:OpR X (compareOp .Eq) rEq:=by
 intro Ab s σ H x y v u Q I rx ry h;obtain ⟨hs,q⟩:=h;cases x with
 | non=>
  cases rx;cases y with
  | non=>cases ry;exact PySem.EqNone.eq_none_none (qB9 I q (by simp))
  | bl j=>cases ry;exact PySem.EqNone.eq_none_bool (qB9 I q (by simp))
  | int j=>obtain ⟨t',rfl⟩:=ry;exact PySem.EqNone.eq_none_int (qB9 I q (by simp))
  | str j=>obtain ⟨t',rfl⟩:=ry;exact PySem.EqNone.eq_none_str (qB9 I q (by simp))
  | _=>exact absurd (show false=true from hs) C3
 | bl i=>
  cases rx;cases y with
  | non=>cases ry;exact PySem.EqNone.eq_bool_none (qB9 I q (by simp))
  | bl j=>cases ry;exact eq_bool (qB9 I q qXE)
  | str j=>obtain ⟨t',rfl⟩:=ry;exact PySem.EqMixed.eq_bool_str (qB9 I q (by simp))
  | _=>exact absurd (show false=true from hs) C3
 | int i=>
  obtain ⟨t,rfl⟩:=rx;cases y with
  | non=>cases ry;exact PySem.EqNone.eq_int_none (qB9 I q (by simp))
  | int j=>obtain ⟨t',rfl⟩:=ry;exact eq_int (qB9 I q qUB)
  | str j=>obtain ⟨t',rfl⟩:=ry;exact PySem.EqMixed.eq_int_str (qB9 I q (by simp))
  | _=>exact absurd (show false=true from hs) C3
 | str i=>
  obtain ⟨t,rfl⟩:=rx;cases y with
  | non=>cases ry;exact PySem.EqNone.eq_str_none (qB9 I q (by simp))
  | bl j=>cases ry;exact PySem.EqMixed.eq_str_bool (qB9 I q (by simp))
  | int j=>obtain ⟨t',rfl⟩:=ry;exact PySem.EqMixed.eq_str_int (qB9 I q (by simp))
  | str j=>obtain ⟨t',rfl⟩:=ry;exact eq_str (qB9 I q qUA)
  | _=>exact absurd (show false=true from hs) C3
 | byt i=>
  obtain ⟨t,rfl⟩:=rx;cases y with
  | byt j=>obtain ⟨t',rfl⟩:=ry;exact PySem.W.eq_bytes (qB9 I q qUC)
  | _=>exact absurd (show false=true from hs) C3
 | _=>cases y <;> exact absurd (show false=true from hs) C3
theorem qLG:OpR X (compareOp .NotEq) rNe:=by
 intro Ab s σ H x y v u Q I rx ry h;obtain ⟨hs,q⟩:=h;cases x with
 | non=>
  cases rx;cases y with
  | non=>cases ry;exact PySem.EqNone.ne_none_none (qB9 I q (by simp))
  | bl j=>cases ry;exact PySem.EqNone.ne_none_bool (qB9 I q (by simp))
  | int j=>obtain ⟨t',rfl⟩:=ry;exact PySem.EqNone.ne_none_int (qB9 I q (by simp))
  | str j=>obtain ⟨t',rfl⟩:=ry;exact PySem.EqNone.ne_none_str (qB9 I q (by simp))
  | _=>exact absurd (show false=true from hs) C3
 | bl i=>
  cases rx;cases y with
  | non=>cases ry;exact PySem.EqNone.ne_bool_none (qB9 I q (by simp))
  | bl j=>cases ry;exact ne_bool (qB9 I q (congrArg not qXE))
  | str j=>obtain ⟨t',rfl⟩:=ry;exact PySem.EqMixed.ne_bool_str (qB9 I q (by simp))
  | _=>exact absurd (show false=true from hs) C3
 | int i=>
  obtain ⟨t,rfl⟩:=rx;cases y with
  | non=>cases ry;exact PySem.EqNone.ne_int_none (qB9 I q (by simp))
  | int j=>obtain ⟨t',rfl⟩:=ry;exact ne_int (qB9 I q (congrArg not qUB))
  | str j=>obtain ⟨t',rfl⟩:=ry;exact PySem.EqMixed.ne_int_str (qB9 I q (by simp))
  | _=>exact absurd (show false=true from hs) C3
 | str i=>
  obtain ⟨t,rfl⟩:=rx;cases y with
  | non=>cases ry;exact PySem.EqNone.ne_str_none (qB9 I q (by simp))
  | bl j=>cases ry;exact PySem.EqMixed.ne_str_bool (qB9 I q (by simp))
  | int j=>obtain ⟨t',rfl⟩:=ry;exact PySem.EqMixed.ne_str_int (qB9 I q (by simp))
  | str j=>obtain ⟨t',rfl⟩:=ry;exact ne_str (qB9 I q (congrArg not qUA))
  | _=>exact absurd (show false=true from hs) C3
 | byt i=>
  obtain ⟨t,rfl⟩:=rx;cases y with
  | byt j=>obtain ⟨t',rfl⟩:=ry;exact PySem.W.ne_bytes (qB9 I q (congrArg not qUC))
  | _=>exact absurd (show false=true from hs) C3
 | _=>cases y <;> exact absurd (show false=true from hs) C3
theorem qVO:OpR X (compareOp .Lt) (rI0 fun i j=>.bl (decide (i<j))):=opB0 fun _ _ _ _ _ _ _ q=>lt_int q
theorem qZY:OpR X (compareOp .LtE) (rI0 fun i j=>.bl (decide (i<=j))):=opB0 fun _ _ _ _ _ _ _ q=>le_int q
theorem qY4:OpR X (compareOp .Gt) (rI0 fun i j=>.bl (decide (j<i))):=opB0 fun _ _ _ _ _ _ _ q=>gt_int q
theorem qVP:OpR X (compareOp .GtE) (rI0 fun i j=>.bl (decide (j<=i))):=opB0 fun _ _ _ _ _ _ _ q=>ge_int q
theorem qAU (b:Expr) {op:CmpOp} (h:op ≠ .In:=by decide) (h2:op ≠ .NotIn:=by decide):behindInMarks op b=false:=by
 have e1:(op == CmpOp.In)=false:=by cases op <;> first | rfl | exact absurd rfl h
 have e2:(op == CmpOp.NotIn)=false:=by cases op <;> first | rfl | exact absurd rfl h2
 cases b <;> simp [behindInMarks,e1,e2]
theorem qEF {op:CmpOp} {r:R2} (ho:OpR X (compareOp op) r) (ha:PE X a ta) (hb:PE X b tb) (hm:behindInMarks op b=false):PE X (.Compare a [op] [b] pos) (tOp r ta tb):=by
 intro Ab s σ H Q I h;exact wpAny_Compare1 (binT ha hb I h fun v u s2 x y H2 I2 rx ry q=>ho Ab s2 σ H2 x y v u Q I2 rx ry q) hm
def qaY (t:TE):TT:=fun σ H Q=>t σ H fun x H'=>∃ k,x=.bl k/\Q k H'
theorem qAO {op:CmpOp} {r:R2} (ho:OpR X (compareOp op) r) (ha:PE X a ta) (hb:PE X b tb) (hm:behindInMarks op b=false):PT X (.Compare a [op] [b] pos) (qaY (tOp r ta tb)):=by
 intro Ab s σ H Q I h;refine wpAny_isTrue_Compare1 (thn (ha Ab s σ H _ I h) fun v s1 ⟨x,H1,I1,r1,q1⟩=>thn (hb Ab s1 σ H1 _ I1 q1) fun u s2 ⟨y,H2,I2,r2,q2⟩=>
  thn (ho Ab s2 σ H2 x y v u _ I2 r1 r2 q2) fun c s3 ⟨z,H3,I3,r3,k,e,q3⟩=>?_) hm
 subst e;cases r3;exact wpAny_truthy_bool ⟨H3,I3,q3⟩
def qZF (r r':R2) (ta tb tc:TE):TE:=fun σ H Q=>ta σ H fun x H1=>tb σ H1 fun y H2=>r x y H2 fun z H3=>∃ k,z=.bl k/\
 (if k=true then tc σ H3 fun w' H4=>r' y w' H4 Q else Q (.bl false) H3)
theorem qPX {op op':CmpOp} {r r':R2} (ho:OpR X (compareOp op) r) (ho':OpR X (compareOp op') r') (ha:PE X a ta) (hb:PE X b tb) (hc:PE X c tc)
  (hm:lastMarks [op,op'] [b,c]=false:=by with_unfolding_all rfl):PE X (.Compare a [op,op'] [b,c] pos) (qZF r r' ta tb tc):=by
 intro Ab s σ H Q I h;refine Compare_chain (thn (ha Ab s σ H _ I h) fun v s1 ⟨x,H1,I1,r1,q1⟩=>chain_link (thn (hb Ab s1 σ H1 _ I1 q1) fun u s2 ⟨y,H2,I2,r2,q2⟩=>
  thn (ho Ab s2 σ H2 x y v u _ I2 r1 r2 q2) fun d s3 ⟨z,H3,I3,r3,k,e,q3⟩=>?_)) hm
 subst e;cases r3;refine wpAny_truthy_bool ?_;cases k with
 | false=>exact ite_ff ⟨.bl false,H3,I3,rfl,q3⟩
 | true=>exact ite_tt (chain_last (thn (hc Ab s3 σ H3 _ I3 q3) fun w' s4 ⟨z',H4,I4,r4,q4⟩=>ho' Ab s4 σ H4 y z' u w' Q I4 r2 r4 q4))
def TruV (K:PySem.W.Frag) (x:V) (H:Hp) (k:Bool):Prop:=
 match x with
 | .non=>k=false
 | .bl b=>k=b
 | .int i=>k=(i != 0)
 | .str y=>y.length<=sizeLine/\k=((y.length:Int) != 0)
 | .byt y=>y.size<=sizeLine/\k=((y.size:Int) != 0)
 | .ref p=>(∃ xs,SqL K H p xs/\k=!xs.isEmpty)\/(∃ xs,SqT K H p xs/\k=!xs.isEmpty)\/∃ Af,H p=some (.dK Af)/\k=!Af.isEmpty
 | _=>False
theorem qRF {κ:Type} {Af:List (κ × V)} {vs:List (κ × Value)} (r:KV Af vs):(!vs.isEmpty)=!Af.isEmpty:=by
 cases r <;> rfl
theorem qKV {xs:List V} {its:List Value} (r:Vals xs its):(!its.toArray.isEmpty)=!xs.isEmpty:=by
 cases r <;> simp
theorem qN6:(sizeLine:Nat)<2 ^ 63:=by rw [sizeLine_eq];decide
theorem qZA:TruR X (fun x H Q=>∃ k,TruV X.K x H k/\Q k H):=by
 intro Ab s σ H x v Q I rx h;obtain ⟨k,e,q⟩:=h;have hl:=qN6;have hs:sizeLine=16777216:=sizeLine_eq;cases x with
 | non=>
  cases rx;have e':k=false:=e;subst e';exact truthy_none ⟨H,I,q⟩
 | bl b=>
  cases rx;have e':k=b:=e;subst e';exact wpAny_truthy_bool ⟨H,I,q⟩
 | int i=>
  obtain ⟨t,rfl⟩:=rx;have e':k=(i != 0):=e;subst e';exact PySem.P.truthy_int ⟨H,I,q⟩
 | str y=>
  obtain ⟨t,rfl⟩:=rx;obtain ⟨hy,e'⟩:y.length<=sizeLine/\k=((y.length:Int) != 0):=e;subst e';exact PySem.P.truthy_str (by omega) ⟨H,I.tok _,q⟩
 | byt y=>
  obtain ⟨t,rfl⟩:=rx;obtain ⟨hy,e'⟩:y.size<=sizeLine/\k=((y.size:Int) != 0):=e;subst e';exact PySem.W.truthy_bytes (by omega) ⟨H,I.tok _,q⟩
 | ref p=>
  cases rx;have e':(∃ xs,SqL X.K H p xs/\k=!xs.isEmpty)\/(∃ xs,SqT X.K H p xs/\k=!xs.isEmpty)\/∃ Af,H p=some (.dK Af)/\k=!Af.isEmpty:=e;rcases e' with ⟨xs,hx,e'⟩ | ⟨xs,hx,e'⟩ | ⟨Af,hx,e'⟩
  ·subst e';obtain ⟨its,r,pl,hz⟩:=I.list hx;have hlen:=r.length;exact wpAny_truthy_list pl.isList (by simp only [B7];omega) ⟨H,I.tok _,by rw [qKV r];exact q⟩
  ·subst e';obtain ⟨its,r,pl,hz⟩:=I.tuple hx;have hlen:=r.length;exact truthy_tuple pl (by simp only [B7];omega) ⟨H,I.tok _,by rw [qKV r];exact q⟩
  ·subst e';obtain ⟨hz,hS,vs,r,m⟩:Af.length<=sizeLine/\(p == sysModules)=false/\∃ vs,KV Af vs/\s.heap.DictOf (qC2 X.prog X.w) p vs:=I.hok p _ hx;have hlen:Af.length=vs.length:=C8 r;exact wpAny_truthy_dict hS m (by omega) ⟨H,I.tok _,by rw [qRF r];exact q⟩
 | _=>exact (show False from e).elim
theorem qDZ (ha:PE X a ta) (he:∀ whole,isTrue a X.env whole=(do let v <- whole;standAt a.pos;holding [v] (truthy v))) :
  PT X a (fun σ H Q=>ta σ H fun x H'=>∃ k,TruV X.K x H' k/\Q k H'):=by
 intro Ab s σ H Q I h;exact isTrue_plain (thn (ha Ab s σ H _ I h) fun v s1 ⟨x,H1,I1,r1,q1⟩=>qZA Ab s1 σ H1 x v Q I1 r1 q1) (he _)
theorem qEP {x:V} {us:List Value} (r:Vals [x] us):∃ u,us=[u]/\RelV x u:=by
 cases r with
 | cons r1 r2=>cases r2;exact ⟨_,rfl,r1⟩
theorem qQR {x y:V} {us:List Value} (r:Vals [x,y] us):∃ u w',us=[u,w']/\RelV x u/\RelV y w':=by
 cases r with
 | cons r1 r2=>
  cases r2 with
  | cons r3 r4=>cases r4;exact ⟨_,_,rfl,r1,r3⟩
theorem qK5 (hc:X.calm=true):qCN X (.builtin "max") (fun xs H Q=>∃ i j,xs=[.int i,.int j]/\Q (.int (if j > i then j else i)) H):=by
 intro Ab s σ H xs us Q I r h;obtain ⟨i,j,rfl,q⟩:=h;obtain ⟨u,w',rfl,⟨t,rfl⟩,⟨t',rfl⟩⟩:=qQR r;refine max_two_ints (I.ok.hd hc) fun h' tk k=>⟨_,H,I.kept k,?_,q⟩;by_cases hj:j > i
 ·rw [if_pos hj,if_pos hj];exact ⟨_,rfl⟩
 ·rw [if_neg hj,if_neg hj];exact ⟨_,rfl⟩
theorem qK4 (hc:X.calm=true):qCN X (.builtin "min") (fun xs H Q=>∃ i j,xs=[.int i,.int j]/\Q (.int (if j<i then j else i)) H):=by
 intro Ab s σ H xs us Q I r h;obtain ⟨i,j,rfl,q⟩:=h;obtain ⟨u,w',rfl,⟨t,rfl⟩,⟨t',rfl⟩⟩:=qQR r;refine min_two_ints (I.ok.hd hc) fun h' tk k=>⟨_,H,I.kept k,?_,q⟩;by_cases hj:j<i
 ·rw [if_pos hj,if_pos hj];exact ⟨_,rfl⟩
 ·rw [if_neg hj,if_neg hj];exact ⟨_,rfl⟩
theorem qNN:qCN X (.type "int") (fun xs H Q=>(∃ i,xs=[.int i]/\Q (.int i) H)\/∃ k,xs=[.bl k]/\Q (.int (if k then 1 else 0)) H):=by
 intro Ab s σ H xs us Q I r h;rcases h with ⟨i,rfl,q⟩ | ⟨k,rfl,q⟩
 ·obtain ⟨u,rfl,t,rfl⟩:=qEP r;exact call_int_int ⟨.int i,H,I,⟨_,rfl⟩,q⟩
 ·obtain ⟨u,rfl,r1⟩:=qEP r;cases r1;exact call_int_bool ⟨.int (if k then 1 else 0),H,I.tok _,⟨_,rfl⟩,q⟩
theorem qOW:qCN X (.builtin "divmod") (fun xs H Q=>∃ i j,xs=[.int i,.int j]/\CDiv i j/\∀ p,H p=none->Q (.ref p) (Ag H p (.tup [.int (i / j),.int (i % j)]))):=by
 intro Ab s σ H xs us Q I r h;obtain ⟨i,j,rfl,⟨h1,h2⟩,q⟩:=h;obtain ⟨u,w',rfl,⟨t,rfl⟩,⟨t',rfl⟩⟩:=qQR r;refine divmod_int (by omega) ?_ (.inl (A52 (by omega)))
 rw [A04 i (by omega),A05 i (by omega)]
 have hn:H s.heap.objs.size=none:=I.hok.fresh (B3 _);refine ⟨.ref s.heap.objs.size,_,?_,rfl,q _ hn⟩;refine I.laid (fun b o e=>A8 _ e) (B3 _) ⟨by simp only [D9,P0];rw [sizeLine_eq];decide,[.int (i / j) s.toks,.int (i % j) (s.toks+1)],.cons ⟨_,rfl⟩ (.cons ⟨_,rfl⟩ .nil),?_⟩
 exact ⟨_,B9 s.heap rfl,rfl,0,rfl⟩
end
structure ObjM (h:Heap) (x dx C:Addr) (mA:Str->Option Value):Prop where
 obj:h.get? x=some (A62 C dx)
 ns:h.Ns1 dx mA
 ne:dx ≠ x
theorem qTH {h:Heap} {dx:Addr} {mA:Str->Option Value} (n:h.Ns1 dx mA):∃ od,h.get? dx=some od/\∀ name,A84 name od=some (mA name):=by
 obtain ⟨o,es,ep,ho,hd,hk,_,hm⟩:=n;refine ⟨o,ho,fun name=>?_⟩;have e:=hm name;unfold nsFind findBy at e;rw [<- Array.find?_toList] at e;unfold A84;rw [hd];dsimp only
 split
 ·rename_i y q
  rw [q] at e;exact congrArg some e
 ·rename_i q
  rw [q] at e;have a:es.toList.any (·.refKey)=false:=by
   rw [List.any_eq_false];intro y hy;obtain ⟨z,t,hkey⟩:=hk y (Array.mem_toList_iff.mp hy);simp [DictEntry.refKey,hkey]
  have a':¬ es.toList.any (·.refKey)=true:=by rw [a];exact C3
  rw [if_neg a'];exact congrArg some e
theorem ObjM.look {h:Heap} {x dx C:Addr} {mA:Str->Option Value} (I:ObjM h x dx C mA):∃ od,PySem.W.InstAt h x (A62 C dx) C (some od)/\∀ name,A84 name od=some (mA name):=
 let ⟨od,ho,hl⟩:=qTH I.ns
 ⟨od,⟨I.obj,rfl,rfl,ho⟩,hl⟩
section
variable {prog:Program} {w:World} {A:Around} {E:Value->Shared->Prop} {s:Shared} {K:PySem.W.Frag} {x dx C f:Addr} {mA:Str->Option Value} {name:Str} {v:Value}
end
def putF (f:Str) (v:V):List (Str × V)->List (Str × V)
 | []=>[(f,v)]
 | (g,x)::r=>if g=f then (g,v)::r else (g,x)::putF f v r
theorem RelO.some_of {v:V} {o:Option Value} (r:RelO (some v) o):∃ u,o=some u/\RelV v u:=by
 cases o with
 | none=>exact (show False from r).elim
 | some u=>exact ⟨u,rfl,r⟩
section
variable {P:Program} {w:World} {H H':Hp} {h h':Heap} {a C dx:Addr} {fs fs':List (Str × V)}
theorem qYN (hok:HOk P w H h) (e:H a=some (.ins C dx fs)):∃ mA,ObjM h a dx C mA/\(∀ f,RelO (fs.lookup f) (mA f))/\PySem.Within mA (fs.map (·.1))/\fs.length<=1000/\H dx=some (.own a):=by
 obtain ⟨d,z,ne,ob,mA,n,r,q⟩:=(show ObjOk P w H h a (.ins C dx fs) from hok a _ e);exact ⟨mA,⟨ob,n,ne⟩,r,q,z,d⟩
end
structure Cls (K:PySem.W.Frag) (C:Addr):Prop where
 pg:B35 K C g7=true
 hd:B13 K C=true
 po:PySem.W.plainOver K C=true
 sa:T8 K (.ref C) "__setattr__" = some (some (.builtin "object.__setattr__"))
theorem Cls.get {K:PySem.W.Frag} {C:Addr} (c:Cls K C) (f:Str):B35 K C f=true:=c.pg
def qQM (K:PySem.W.Frag) (C:Addr) (f:Str):Prop:=T8 K (.ref C) f=some none
structure Con (K:PySem.W.Frag) (C:Addr) (f:Str) (v:V) (u:Value):Prop where
 at_:T8 K (.ref C) f=some (some u)
 rel:RelV v u
 get:A21 K u "__get__" = some none
 cp:PySem.W.copiedNames.contains f=false
structure Meth (K:PySem.W.Frag) (C:Addr) (m:Str) (f:Addr):Prop where
 at_:T8 K (.ref C) m=some (some (.ref f))
 fn:B80 K (.ref f)=true
 kp:X7 K (.ref f)=true
section
variable {X:Cx} {Ab:List (Addr × Obj)} {σ:St} {H:Hp} {s:Shared} {a C dx:Addr} {fs:List (Str × V)} {f:Str} {v:V} {A:Around} {E:Value->Shared->Prop}
end
section
variable {X:Cx} {o e value:Expr} {f:Str} {pos pos' tpos:Pos} {ta tv:TE}
end
section
variable {X:Cx} {Ab:List (Addr × Obj)} {σ:St} {H:Hp} {s:Shared} {A:Around} {E:Value->Shared->Prop} {Q:Value->Shared->Prop} {c:Value} {b:Bool}
inductive TyOf (K:PySem.W.Frag) (H:Hp):V->Value->Prop where
 | non:TyOf K H .non (.type "NoneType")
 | bl (x:Bool):TyOf K H (.bl x) (.type "bool")
 | int (i:Int):TyOf K H (.int i) (.type "int")
 | str (x:Str):TyOf K H (.str x) (.type "str")
 | flt (x:UInt64):TyOf K H (.flt x) (.type "float")
 | lst {a:Addr} {xs:List V} (e:H a=some (.lst xs)):TyOf K H (.ref a) (.type "list")
 | frz {a:Addr} {o:Obj} {xs:List V} (e:H a=some (.frz o (.lst xs))):TyOf K H (.ref a) (.type "list")
 | tup {a:Addr} {xs:List V} (e:H a=some (.tup xs)):TyOf K H (.ref a) (.type "tuple")
 | dK {a:Addr} {Af:List (Key × V)} (e:H a=some (.dK Af)):TyOf K H (.ref a) (.type "dict")
 | dT {a:Addr} {Af:List (List Key × V)} (e:H a=some (.dT Af)):TyOf K H (.ref a) (.type "dict")
 | ins {a C dx:Addr} {fs:List (Str × V)} (e:H a=some (.ins C dx fs)) (cl:Cls K C) (ha:T8 K (.ref C) "__class__" = some (some (.builtin "object.__class__")))
   (hn:A21 K (.builtin "object.__class__") "__get__" = some (some (.builtin "getset_descriptor.__get__"))) (htk:B49 K (.builtin "object.__class__")=some true)
   (hm:B02 K C (.type "object")=some true):TyOf K H (.ref a) (.ref C)
theorem qTQ {x:V} {u t:Value} (I:Inv X Ab σ H s) (rx:RelV x u) (ty:TyOf X.K H x t) (e:R6 X.K t c=some b) (h:∀ tk,Q (.bool b) { s with toks:=tk }) :
  wpAny (model X.prog X.w) A (call (.builtin "isinstance") [u,c]) Q E s:=by
 cases ty with
 | non=>cases (show u=V7 from rx);exact Q7 PySem.W.kitx_none I.kIn d4 e (fun z=>nomatch z) h
 | bl y=>cases (show u=V8 y from rx);exact Q7 PySem.W.kitx_bool I.kIn d4 e (fun z=>nomatch z) h
 | int i=>obtain ⟨t,q⟩:=(show ∃ t,u=R0 i t from rx);cases q;exact Q7 PySem.W.kitx_int I.kIn d4 e (fun z=>nomatch z) h
 | str y=>obtain ⟨t,q⟩:=(show ∃ t,u=B48 y t from rx);cases q;exact Q7 PySem.W.kitx_str I.kIn d4 e (fun z=>nomatch z) h
 | flt y=>obtain ⟨t,q⟩:=(show ∃ t,u=Value.float y t from rx);cases q;exact Q7 PySem.W.kitx_float I.kIn d4 e (fun z=>nomatch z) h
 | @lst a xs ea=>
  cases (show u=E6 a from rx);obtain ⟨_,_,n,_,h1⟩:=(show ObjOk X.prog X.w H s.heap a (.lst xs) from I.hok a _ ea);exact Q7 B14 I.kIn ⟨_,h1,rfl⟩ e (fun z=>nomatch z) h
 | @frz a ob xs ea=>
  cases (show u=E6 a from rx);obtain ⟨_,_,_,n,_,h1⟩:=(show ObjOk X.prog X.w H s.heap a (.frz ob (.lst xs)) from I.hok a _ ea);exact Q7 B14 I.kIn ⟨_,h1,rfl⟩ e (fun z=>nomatch z) h
 | @tup a xs ea=>
  cases (show u=E6 a from rx);obtain ⟨_,_,_,p⟩:=(show ObjOk X.prog X.w H s.heap a (.tup xs) from I.hok a _ ea);obtain ⟨o,h1,h2,_⟩:=p;exact Q7 PySem.W.kitx_tuple I.kIn ⟨o,h1,h2⟩ e (fun z=>nomatch z) h
 | @dK a Af ea=>
  cases (show u=E6 a from rx);obtain ⟨_,_,vs,_,p⟩:=(show ObjOk X.prog X.w H s.heap a (.dK Af) from I.hok a _ ea);obtain ⟨o,es,ep,h1,h2,_⟩:=p;exact Q7 B15 I.kIn ⟨o,h1,h2.1⟩ e (fun z=>nomatch z) h
 | @dT a Af ea=>
  cases (show u=E6 a from rx);obtain ⟨_,_,xs,_,o,es,ep,h1,h2,_⟩:=(show ObjOk X.prog X.w H s.heap a (.dT Af) from I.hok a _ ea);exact Q7 B15 I.kIn ⟨o,h1,h2.1⟩ e (fun z=>nomatch z) h
 | @ins a C dx fs ea cl ha hn htk hm=>
  cases (show u=E6 a from rx);obtain ⟨mA,O,_⟩:=qYN I.hok ea;obtain ⟨od,J,_⟩:=O.look;exact Q7 (PySem.W.kitx_own (cl.get _) cl.hd ha hn htk hm) I.kIn J e (fun z=>nomatch z) h
end
structure Room (k:Nat) (A:Around):Prop where
 hd:A.handled=none
 dp:A.depth+3 * k+5<recursionLimit
 un:A.units+16 * k+200<cLine
 gd:A.guards=some []
theorem Room.mono {j k:Nat} {A:Around} (r:Room k A) (h:j<=k):Room j A:=⟨r.hd,by have:=r.dp;omega,by have:=r.un;omega,r.gd⟩
theorem Room.deeper {k:Nat} {A:Around} (r:Room (k+1) A) (env:Env):Room k (A.deeper env):=
 ⟨r.hd,by have:=r.dp;show A.depth+1+3 * k+5<_;omega,by have:=r.un;show A.units+3+16 * k+200<_;omega,r.gd⟩
theorem Room.depth {k:Nat} {A:Around} (r:Room k A):A.depth<recursionLimit:=by have:=r.dp;omega
theorem Room.units {k:Nat} {A:Around} (r:Room k A):A.units+64<cLine:=by have:=r.un;omega
theorem Room.units0 {k:Nat} {A:Around} (r:Room k A):A.units<cLine:=by have:=r.un;omega
def tNil:TA:=fun _ H Q=>Q [] H
def qb7 (ta:TE) (tr:TA):TA:=fun σ H Q=>ta σ H fun x H1=>tr σ H1 fun xs H2=>Q (x::xs) H2
section
variable {X:Cx} {e:Expr} {es:List Expr} {te:TE} {t:TA} {pos:Pos}
theorem qA3:PA X [] tNil:=fun _ _ _ _ H Q I h=>Calls.spliced_nil ⟨[],H,I,.nil,h⟩
theorem qA0 (ha:PE X e te) (hr:PA X es t) (hs:starEach (e::es) X.env=(false,eval e X.env)::starEach es X.env:=by rfl):PA X (e::es) (qb7 te t):=by
 intro pos Ab s σ H Q I h;rw [hs];show wpAny _ _ (spliced ((false,eval e X.env)::backTo pos (starEach es X.env))) _ _ s;refine Calls.spliced_cons (thn (ha Ab s σ H _ I h) fun u s1 ⟨x,H1,I1,r1,q1⟩=>?_);exact thn (hr pos Ab s1 σ H1 _ I1 q1) fun us s2 ⟨xs,H2,I2,r2,q2⟩=>⟨x::xs,H2,I2,.cons r1 r2,q2⟩
def tTup (t:TA):TE:=fun σ H Q=>t σ H fun xs H1=>xs.length<=sizeLine/\∀ p,H1 p=none->Q (.ref p) (Ag H1 p (.tup xs))
def tLst (t:TA):TE:=fun σ H Q=>t σ H fun xs H1=>xs.length<=sizeLine/\∀ p,H1 p=none->Q (.ref p) (Ag H1 p (.lst xs))
theorem qBF {x1} (h:PA X es t):PE X (.Tuple es x1 pos) (tTup t):=by
 intro Ab s σ H Q I hq;refine wpAny_Tuple_spliced (thn (h pos Ab s σ H _ I hq) fun us s1 ⟨xs,H1,I1,r,z,q⟩=>⟨by rw [<- r.length];exact z,?_⟩)
 have hf:H1 s1.heap.objs.size=none:=I1.hok.fresh (B3 _);refine ⟨.ref s1.heap.objs.size,Ag H1 s1.heap.objs.size (.tup xs),I1.laid (t':=s1.toks) (fun b u e=>A8 _ e) (B3 _) ?_,rfl,q _ hf⟩;exact ⟨z,us,r,⟨_,B9 _ rfl,rfl,_,rfl⟩⟩
theorem qAR (h:PA X es t):PE X (.List es pos) (tLst t):=by
 intro Ab s σ H Q I hq;refine wpAny_List_spliced (thn (h pos Ab s σ H _ I hq) fun us s1 ⟨xs,H1,I1,r,z,q⟩=>⟨by rw [<- r.length];exact z,?_⟩)
 have hf:H1 s1.heap.objs.size=none:=I1.hok.fresh (B3 _);refine ⟨.ref s1.heap.objs.size,Ag H1 s1.heap.objs.size (.lst xs),I1.laid (t':=s1.toks) (fun b u e=>A8 _ e) (B3 _) ?_,rfl,q _ hf⟩;exact ⟨z,us,0,r,B9 _ rfl⟩
end
abbrev Sp:=List V->Hp->VK->XK->Prop
abbrev CXT:=List Env->Hp->Shared->XK->Value->Shared->Prop
structure Env0 (P:Program) (w:World) (K:PySem.W.Frag) (mg:Str->Option Value) (base:Heap) (A:Around) (outer:List Env) (s:Shared) (H:Hp):Prop where
 frames:A.frames=some outer
 mod:Mod K mg base
 bs:∀ b o,base.get? b=some o->s.heap.get? b=some o/\H b=none
 bsz:base.objs.size<=s.heap.objs.size
 funs:s.heap.FunFrames base outer
 frf:∀ b ∈ frs outer,H b=none
 hok:HOk P w H s.heap
 bare:AllBare s.gens
def CE (outer:List Env) (P:Program) (w:World) (H:Hp) (s:Shared) (Q:VK) (u:Value) (s':Shared):Prop:=
 ∃ v H',s'.os=s.os/\AllBare s'.gens/\Un (frs outer) [] H H' s.heap s'.heap/\HOk P w H' s'.heap/\RelV v u/\Q v H'
def CR (CX:CXT) (outer:List Env) (P:Program) (w:World) (H:Hp) (s:Shared) (Q:VK) (E:XK) (r:Result) (s':Shared):Prop:=
 match r with
 | .ok (.ret u)=>CE outer P w H s Q u s'
 | .ok _=>False
 | .error e=>CX outer H s E e s'
structure FnOk (P:Program) (w:World) (K:PySem.W.Frag) (mg:Str->Option Value) (base:Heap) (CX:CXT) (k:Nat) (f:Addr) (fd:FuncData) (ps:List Str) (sp:Sp):Prop where
 len:∀ vs H Q E,sp vs H Q E->vs.length=ps.length
 run:∀ (A:Around) (outer:List Env) (s:Shared) (H:Hp) (args:Args) (us:List Value) (vs:List V) (Q:VK) (E:XK),Room k A->Env0 P w K mg base A outer s H->BindsTo s fd args (ps.zip us)->Vals vs us->sp vs H Q E->
  codeAny (model P w) A (.call (.ref f) args) (CR CX outer P w H s Q E) s
section
variable {X:Cx} {Ab:List (Addr × Obj)} {σ:St} {H:Hp} {s s':Shared}
theorem Inv.env0 (I:Inv X Ab σ H s):Env0 X.prog X.w X.K X.mg X.base X.A X.stack s H:=
 ⟨I.ok.frames,I.ok.mod,I.bs,M5 I.ok.bsz I.sz,I.stack,I.stkFree,I.hok,I.bare⟩
theorem Inv.after {Q:VK} {u:Value} (I:Inv X Ab σ H s) (h:CE X.stack X.prog X.w H s Q u s'):EP X Ab σ Q u s':=by
 obtain ⟨v,H',os,bare,un,hok,r,q⟩:=h;obtain ⟨hh,g,d,t,os'⟩:=s';obtain rfl:os'=s.os:=os;exact ⟨v,H',I.call (h':=hh) (g':=g) (d':=d) (t':=t) (ch:=[]) un hok bare (fun b z=>absurd z (by simp)),r,q⟩
end
def qXQ (sp:Sp) (dvs:List V) (E:XK) (t:TA):TE:=fun σ H Q=>t σ H fun vs H1=>sp (vs++dvs) H1 Q E
def Binds (K:PySem.W.Frag) (fd:FuncData) (ps:List Str) (ds:List Value):Prop:=
 ∀ (s:Shared) (us:List Value),K.In s.heap->(us++ds).length=ps.length->BindsTo s fd ⟨us,[]⟩ (ps.zip (us++ds))
theorem Binds.all {K:PySem.W.Frag} {fd:FuncData} {ps:List Str} (h:∀ us:List Value,us.length=ps.length->bindArgs fd ⟨us,[]⟩=pure (ps.zip us)):Binds K fd ps []:=fun s us _ hl=>by
 rw [R8] at hl ⊢;exact .of_eq (h us hl)
def qV3 (CX:CXT) (X:Cx) (E:XK):Prop:=∀ (Ab:List (Addr × Obj)) (σ:St) (H:Hp) (s:Shared) (e:Value) (s':Shared),Inv X Ab σ H s->CX X.stack H s E e s'->X.xe e s'
section
variable {X:Cx} {CX:CXT} {k:Nat} {f C:Addr} {fd:FuncData} {ps:List Str} {sp:Sp} {dvs:List V} {ds:List Value} {E:XK} {x m:Str} {p pos apos:Pos} {e o:Expr} {es:List Expr} {ta:TE} {t:TA}
theorem qZQ {Ab:List (Addr × Obj)} {σ:St} {H:Hp} {s:Shared} {Q:VK} {us:List Value} {vs:List V} (F:FnOk X.prog X.w X.K X.mg X.base CX k f fd ps sp) (hr:Room k X.A) (hb:Binds X.K fd ps ds) (hd:Vals dvs ds) (hx:qV3 CX X E)
  (I:Inv X Ab σ H s) (r:Vals vs us) (h:sp (vs++dvs) H Q E):wpAny (model X.prog X.w) X.A (call (.ref f) us) (EP X Ab σ Q) X.xe s:=by
 have r2:Vals (vs++dvs) (us++ds):=r.append hd;have hl:(us++ds).length=ps.length:=by rw [<- r2.length];exact F.len _ _ _ _ h
 refine wpAny_call (codeAny_mono (F.run X.A X.stack s H ⟨us,[]⟩ (us++ds) (vs++dvs) Q E hr I.env0 (hb s us I.kIn hl) r2 h) fun r s' hq=>?_);cases r with
 | error e=>exact hx Ab σ H s e s' I hq
 | ok fl=>
  cases fl with
  | ret u=>exact I.after hq
  | next=>exact i7 hq
  | brk=>exact i7 hq
  | cont=>exact i7 hq
theorem qY2 (F:FnOk X.prog X.w X.K X.mg X.base CX k f fd ps sp) (hr:Room k X.A) (hg:Gl X x) (hm:X.mg x=some (.ref f)) (hk:X7 X.K (.ref f)=true) (hb:Binds X.K fd ps ds) (hd:Vals dvs ds) (hx:qV3 CX X E)
  (ha:PA X (e::es) t) (hdb:(x == ("__debug__" : Str))=false:=by decide) (he:starEach (e::es) X.env=(false,eval e X.env)::starEach es X.env:=by rfl) (hpl:(backTo pos (starEach es X.env)).any (·.1)=false:=by rfl) :
  PE X (.Call (.Name x p) (e::es) [] pos) (qXQ sp dvs E t):=by
 intro Ab s σ H Q I h;refine wpAny_Call_Name_kw (qTI I hg hm ?_ hdb);refine PySem.W.callWith_K (h₀:=X.base) I.ok.mod.kin hk (thn (ha pos Ab s σ H _ I h) fun us s1 ⟨vs,H1,I1,r,q⟩=>⟨I1.kIn,?_⟩) he hpl;exact qZQ F hr hb hd hx I1 r q
structure Mk (K:PySem.W.Frag) (C f:Addr):Prop where
 makes:PySem.W.makesIn K C=true
 init:T8 K (.ref C) "__init__" = some (some (.ref f))
 fn:B80 K (.ref f)=true
 kp:X7 K (.ref C)=true
end
section
variable {X:Cx} {CX:CXT} {k:Nat} {f C:Addr} {fd:FuncData} {ps ks:List Str} {sp:Sp} {E:XK} {x m:Str} {p pos apos kpos:Pos} {e o:Expr} {es:List Expr} {kws:List Keyword} {te ta:TE} {t tk:TA} {nm:Option Str}
structure KBinds (K:PySem.W.Frag) (fd:FuncData) (ps ks:List Str) (g:List Value->List Value->List Value) (gV:List V->List V->List V):Prop where
 to:∀ (s:Shared) (us ws:List Value),K.In s.heap->(g us ws).length=ps.length->BindsTo s fd ⟨us,ks.zip ws⟩ (ps.zip (g us ws))
 rel:∀ {vs:List V} {us:List Value} {zs:List V} {ws:List Value},Vals vs us->Vals zs ws->Vals (gV vs zs) (g us ws)
variable {g:List Value->List Value->List Value} {gV:List V->List V->List V}
end
structure FnScope (N P:List Str) (sc:Scope):Prop where
 kind:sc.kind=.function
 co:sc.isCoroutine=false
 gen:sc.isGenerator=false
 nd:N.Nodup
 pre:N.take P.length=P
 par:∀ x ∈ P,sc.names.lookup x=some .local\/sc.names.lookup x=some .cell
 nofree:∀ y ∈ sc.names,y.2 ≠ .free
theorem qNP {kindOf:Str->Option NameKind} {x:Str}:∀ {binds:List (Str × Value)} {m:Str->Option Value},(∀ v,(x,v) ∉ binds)->bindL kindOf binds m x=m x
 | [],_,_=>rfl
 | (n,v)::r,m,h=>by
  unfold bindL;rw [qNP fun w hw=>h w (B4 _ hw)]
  split
  ·have:x ≠ n:=by rintro rfl;exact h v B5
   simp [this]
  ·rfl
theorem qNR {kindOf:Str->Option NameKind} {x:Str}:∀ {binds:List (Str × Value)} {m:Str->Option Value},(∀ v,(x,v) ∉ binds)->bindC kindOf binds m x=m x
 | [],_,_=>rfl
 | (n,v)::r,m,h=>by
  unfold bindC;rw [qNR fun w hw=>h w (B4 _ hw)]
  split
  ·rfl
  ·have:x ≠ n:=by rintro rfl;exact h v B5
   simp [this]
theorem qNQ {kindOf:Str->Option NameKind} {x:Str} {v:Value}:∀ {P:List Str} {vs:List Value} {i:Nat} {m:Str->Option Value},P.Nodup->P[i]?=some x->vs[i]?=some v->kindOf x=some .local->
  bindL kindOf (P.zip vs) m x=some v
 | [],_,_,_,_,h,_,_=>by simp at h
 | _::_,[],_,_,_,_,h,_=>by simp at h
 | p::P,w::vs,0,m,nd,h1,h2,hk=>by
  simp at h1 h2;subst h1;subst h2;show bindL kindOf ((p,w)::P.zip vs) m p=_;unfold bindL;rw [qNP fun v hv=>(O0.mp nd).1 (A64 hv).1,if_pos hk];simp
 | p::P,w::vs,i+1,m,nd,h1,h2,hk=>by
  show bindL kindOf ((p,w)::P.zip vs) m x=_;unfold bindL;exact qNQ (i:=i) (O0.mp nd).2 (by simpa using h1) (by simpa using h2) hk
theorem qNS {kindOf:Str->Option NameKind} {x:Str} {v:Value}:∀ {P:List Str} {vs:List Value} {i:Nat} {m:Str->Option Value},P.Nodup->P[i]?=some x->vs[i]?=some v->kindOf x ≠ some .local->
  bindC kindOf (P.zip vs) m x=some v
 | [],_,_,_,_,h,_,_=>by simp at h
 | _::_,[],_,_,_,_,h,_=>by simp at h
 | p::P,w::vs,0,m,nd,h1,h2,hk=>by
  simp at h1 h2;subst h1;subst h2;show bindC kindOf ((p,w)::P.zip vs) m p=_;unfold bindC;rw [qNR fun v hv=>(O0.mp nd).1 (A64 hv).1,if_neg hk];simp
 | p::P,w::vs,i+1,m,nd,h1,h2,hk=>by
  show bindC kindOf ((p,w)::P.zip vs) m x=_;unfold bindC;exact qNS (i:=i) (O0.mp nd).2 (by simpa using h1) (by simpa using h2) hk
def start (N:List Str) (vs:List V):St:=vs.map some++P4 (N.length - vs.length) none
def cxOf (CX:CXT) (P:Program) (w:World) (K:PySem.W.Frag) (mg:Str->Option Value) (base:Heap) (N:List Str) (qual:Str) (scope:Scope) (f:Addr) (cd:Value) (A:Around) (outer:List Env) (s:Shared) (H:Hp) (E:XK):Cx where
 prog:=P
 w:=w
 K:=K
 mg:=mg
 base:=base
 A:=A.deeper (envOfC qual scope s.heap.objs.size f cd)
 N:=N
 s₀:=s
 H₀:=H
 env:=envOfC qual scope s.heap.objs.size f cd
 outer:=outer
 stack:=envOfC qual scope s.heap.objs.size f cd::outer
 ex:=[]
 calm:=true
 fn:=fun _=>true
 pn:=[]
 xe:=fun e s'=>wpAny (model P w) (A.deeper (envOfC qual scope s.heap.objs.size f cd)) (leaving (envOfC qual scope s.heap.objs.size f cd) e) (fun _ s''=>CX outer H s E e s'') (fun e' s''=>CX outer H s E e' s'') s'
theorem qQG {sc:Scope} {n:Nat} {x:Str} (h:sc.names.lookup x=some .cell):∃ c,(cellsFrom n sc.names []).lookup x=some c:=by
 have q:=A53 sc.names n [] (.inl h);exact A22.mp q
theorem qTR {CX:CXT} {P:Program} {w:World} {K:PySem.W.Frag} {mg:Str->Option Value} {base:Heap} {N ps:List Str} {qual:Str} {scope:Scope} {f:Addr} {cd:Value} {A:Around} {outer:List Env} {s s1:Shared} {H:Hp} {E:XK} {us:List Value} {vs:List V}
  (S:FnScope N ps scope) (hd:A.handled=none) (e0:Env0 P w K mg base A outer s H) (hl:vs.length=ps.length) (r:Vals vs us)
  (x:InCallC s s.heap.objs.size (bindL (envOfC qual scope s.heap.objs.size f cd).kindOf (ps.zip us) fun _=>none) (cellsFrom (s.heap.objs.size+1) scope.names []) (bindC (envOfC qual scope s.heap.objs.size f cd).kindOf (ps.zip us) fun _=>none) s1) :
  Inv (cxOf CX P w K mg base N qual scope f cd A outer s H E) [] (start N vs) H s1:=by
 have hpl:ps.length<=N.length:=by have:=congrArg B50 S.pre;rw [D7] at this;omega
 obtain ⟨h1,tk,rfl,hk⟩:=x.done;have noA:∀ b:Addr,b ∉ (cxOf CX P w K mg base N qual scope f cd A outer s H E).ex:=fun b z=>absurd (show b ∈ ([]:List Addr) from z) (by simp)
 refine ⟨⟨e0.mod,S.kind,rfl,rfl,B3 _,fun y z c h1 h2=>?_,fun y hy=>?_,fun y c _ h=>?_,fun _=>hd,Around.frames_deeper e0.frames,.inr ⟨rfl,rfl⟩,fun b z=>absurd z (noA b),e0.bs,e0.bsz,fun b _ _=>noA b,fun b z=>absurd z (noA b),e0.funs,e0.frf⟩,
  rfl,e0.bare,Un.kept hk,⟨_,x.toInCall.ns,fun i y v h1 h2 h3=>?_⟩,fun y c h=>⟨_,x.cell y c h⟩,e0.hok.fresh (B3 _),fun y c h=>?_,fun p hp=>absurd (show p ∈ ([]:List (Addr × Obj)) from hp) (by simp),e0.hok.kept hk,?_⟩
 ·exact name_of_addr x.apart (T6 h1) (T6 h2)
 ·have hy:scope.names.lookup y=some .cell\/scope.names.lookup y=some .free:=hy;rcases hy with hy | hy
  ·exact qQG hy
  ·exact absurd rfl (S.nofree _ (T6 hy))
 ·exact Y8 (x.above y c (T6 h))
 ·have hi:i<vs.length:=by
   unfold start at h2;by_cases hi:i<vs.length
   ·exact hi
   ·rw [L6 (by simpa using hi)] at h2
    rw [List.getElem?_replicate] at h2
    split at h2 <;> cases h2
  have ha:vs[i]?=some v:=by
   unfold start at h2;rw [F7 (by simpa using hi),C4] at h2
   cases e:vs[i]? with
   | none=>rw [e] at h2;cases h2
   | some a=>rw [e] at h2;cases h2;rfl
  obtain ⟨u,hu,rv⟩:=r.get ha;have hp:ps[i]?=some y:=by
   rw [<- S.pre,Y1 (by omega)];exact h1
  have ndP:ps.Nodup:=by rw [<- S.pre];exact S.nd.sublist (i8 _ _)
  refine ⟨u,rv,?_⟩;rcases S.par y (C5 hp) with k | k
  ·exact .inl ⟨k,qNQ ndP hp hu k⟩
  ·obtain ⟨c,e⟩:=qQG (n:=s.heap.objs.size+1) k;refine .inr ⟨.inl k,c,e,?_⟩;have q:=x.cell y c e;rw [qNS ndP hp hu (by show scope.names.lookup y ≠ _;rw [k];decide)] at q
   exact q
 ·exact e0.hok.fresh (Y8 (x.above y c (T6 h)))
 ·unfold start;show _=N.length;rw [B0,A0,List.length_replicate];omega
theorem qbM {CX:CXT} {P:Program} {w:World} {K:PySem.W.Frag} {mg:Str->Option Value} {base:Heap} {k:Nat} {f:Addr} {name qual:Str} {params:Arguments} {body:List Stmt} {scope:Scope} {dV kV doc pm cdv ct oc:Value} {an od:Option Addr}
  {osl:Array (Option Value)} {N ps:List Str} {sp:Sp} (lk:K.lookup f=some ⟨oc,od,.func (g9 name qual params body scope dV kV doc pm an cdv ct),osl⟩) (hcd:A17 K cdv qual=true) (S:FnScope N ps scope)
  (len:∀ vs H Q E,sp vs H Q E->vs.length=ps.length)
  (hbody:∀ (A:Around) (outer:List Env) (s:Shared) (H:Hp) (vs:List V) (Q:VK) (E:XK),Room k (A.deeper (envOfC qual scope s.heap.objs.size f cdv))->sp vs H Q E->
   ∃ t,PSs (cxOf CX P w K mg base N qual scope f cdv A outer s H E) body t/\t { nx:=fun _ H'=>Q .non H',rt:=Q } (start N vs) H) :
  FnOk P w K mg base CX (k+1) f (g9 name qual params body scope dV kV doc pm an cdv ct) ps sp:=by
 refine ⟨len,fun A outer s H args us vs Q E hr e0 hb r hsp=>?_⟩;have hl:=len _ _ _ _ hsp;have KX:K.In s.heap:=e0.mod.kin.keeps fun b o e=>(e0.bs b o e).1;have lim:s.heap.NoLimit:=e0.mod.nolimit.keeps fun b o e=>(e0.bs b o e).1;have hkind:∀ y ∈ ps.zip us,scope.names.lookup y.1=some .local\/(scope.names.lookup y.1=some .cell/\((cellsFrom (s.heap.objs.size+1) scope.names []).lookup y.1).isSome=true):=fun ⟨n,v⟩ hy=>by
  rcases S.par n (A64 hy).1 with q | q
  ·exact .inl q
  ·exact .inr ⟨q,A53 _ _ _ (.inl q)⟩
 refine codeAny_call_function hr.depth (KX _ _ lk) rfl S.co S.gen rfl (PySem.W.codeRec_of KX hcd) (hb _ _ _ _ ?_);refine wpAny_newFunctionEnv_cells S.kind hkind fun env he s1 x=>?_;subst he;refine ⟨lim.keeps x.toInCall.keep,codeAny_func ?_⟩;obtain ⟨t,ht,hq⟩:=hbody A outer s H vs Q E (hr.deeper _) hsp;have I:Inv (cxOf CX P w K mg base N qual scope f cdv A outer s H E) [] (start N vs) H s1:=qTR S hr.hd e0 hl r x;refine wpAny_mono (ht [] s1 (start N vs) H _ I hq) (fun fl s' hs=>?_) fun e s' hs=>hs;have fin:∀ {σ':St} {H':Hp} {v:V} {u:Value},Inv (cxOf CX P w K mg base N qual scope f cdv A outer s H E) [] σ' H' s'->RelV v u->Q v H'->CE outer P w H s Q u s':=
  fun {σ' H' v u} J rv q=>⟨v,H',J.os,J.bare,J.base,J.hok,rv,q⟩
 cases fl with
 | ret u=>
  obtain ⟨v,σ',H',J,rv,q⟩:=hs;exact fin J rv q
 | next=>
  obtain ⟨σ',H',J,q⟩:=hs;exact fin (v:=V.non) (u:=V7) J rfl q
 | brk=>
  obtain ⟨_,_,_,q⟩:=hs;exact i7 q
 | cont=>
  obtain ⟨_,_,_,q⟩:=hs;exact i7 q
section
variable {X:Cx} {x:Str} {p pos:Pos} {e:Expr} {es:List Expr} {t:TA} {id T:String} {r:List V->Hp->VK->Prop}
def tCB (r:List V->Hp->VK->Prop) (t:TA):TE:=fun σ H Q=>t σ H fun vs H1=>r vs H1 Q
theorem qAA (hc:qCN X (.builtin id) r) (hg:Gl X x) (hm:X.mg x=none) (hv:bootBuiltins x=some (.builtin id)) (ha:PA X (e::es) t) (hn:x ≠ "__name__":=by decide) (hdb:(x == ("__debug__" : Str))=false:=by decide)
  (he:starEach (e::es) X.env=(false,eval e X.env)::starEach es X.env:=by rfl) (hpl:(backTo pos (starEach es X.env)).any (·.1)=false:=by rfl):PE X (.Call (.Name x p) (e::es) [] pos) (tCB r t):=by
 intro Ab s σ H Q I h;refine wpAny_Call_Name_kw (qJN I hg hm hv ?_ hn hdb);exact PyProof.Rows.callWith_builtin1 (thn (ha pos Ab s σ H _ I h) fun us s1 ⟨vs,H1,I1,r1,q1⟩=>hc Ab s1 σ H1 vs us Q I1 r1 q1) he hpl
theorem qAN (hc:qCN X (.type T) r) (hg:Gl X x) (hm:X.mg x=none) (hv:bootBuiltins x=some (.type T)) (ha:PA X (e::es) t) (hn:x ≠ "__name__":=by decide) (hdb:(x == ("__debug__" : Str))=false:=by decide)
  (he:starEach (e::es) X.env=(false,eval e X.env)::starEach es X.env:=by rfl) (hpl:(backTo pos (starEach es X.env)).any (·.1)=false:=by rfl):PE X (.Call (.Name x p) (e::es) [] pos) (tCB r t):=by
 intro Ab s σ H Q I h;refine wpAny_Call_Name_kw (qJN I hg hm hv ?_ hn hdb);exact R7 (thn (ha pos Ab s σ H _ I h) fun us s1 ⟨vs,H1,I1,r1,q1⟩=>hc Ab s1 σ H1 vs us Q I1 r1 q1) he hpl
end
end L2
namespace HT
open PySem PyProof.Rows
def lexLt:List Int->List Int->Bool
 | [],[]=>false
 | [],_::_=>true
 | _::_,[]=>false
 | x::xs,y::ys=>if x=y then lexLt xs ys else decide (x<y)
theorem lexLt_cons (x y:Int) (xs ys:List Int):lexLt (x::xs) (y::ys)=if x=y then lexLt xs ys else decide (x<y):=rfl
theorem qLL:lexLt [] []=false:=rfl
theorem qKE (y:Int) (ys:List Int):lexLt [] (y::ys)=true:=rfl
theorem qKF (x:Int) (xs:List Int):lexLt (x::xs) []=false:=rfl
theorem qWB (A:Around) (s:Shared) (a:Int) (t:Tok) (c:Int) (u:Tok):∃ e,SeqAt.EqAt A s (.int a t) (.int c u) e/\(e=true ↔ a=c):=
 ⟨(a == c),A11 a t c u,by simp⟩
theorem qVI (A:Around) (s:Shared) (a:Int) (t:Tok) (c:Int) (u:Tok) (prog:Program) (w:World) (E:Value->Shared->Prop) (Q:Value->Shared->Prop) (h:Q (.bool (decide (a<c))) s) :
  wpAny (model prog w) A (richCompare .Lt (.int a t) (.int c u)) Q E s:=
 (PyProof.Rows.lt_int h:wpAny (model prog w) A (compareOp .Lt (.int a t) (.int c u)) Q E s)
section
open PySem.SeqAt
open PySem.AutoSeq1 (wpAny_loadPart')
open PySem.MeetsSeq PySem.MeetsSeq2 PySem.MeetsSeq3
theorem tuple_lt_ints (l b:Addr) (items items2:Array Value) (n n2:Nat) (dd dd2:Option Addr) (sl sl2:Array (Option Value)) (ns ms:List Int) (hi:IntsAre items.toList ns) (hj:IntsAre items2.toList ms) :
  Meets (Builtin.«tuple.__lt__» ⟨[.ref l,.ref b],[]⟩)
   (fun _ R s=>s.heap.get? l=some { cls:=.type "tuple",dict:=dd,data:=.seq items n,slots:=sl }/\s.heap.get? b=some { cls:=.type "tuple",dict:=dd2,data:=.seq items2 n2,slots:=sl2 }/\
    R (.ok (.ret (.bool (lexLt ns ms)))) s):=
 .of_wp fun prog w A R s h=>by
  obtain ⟨hp,g,d,tk,os⟩:=s;obtain ⟨hl,hb,h⟩:=h;have f2:=A23;have z1:items.size=ns.length:=by rw [<- hi.length];simp
  have z2:items2.size=ms.length:=by rw [<- hj.length];simp
  wp_walk using wpAny_loadPart' hl,wpAny_loadPart' hb,wpAny_forIn_list _ (fun rest b s'=>b.1=none/\s'=⟨hp,g,d,tk,os⟩/\∃ (vs ws:List Value) (ns' ms':List Int),rest=vs.zip ws/\
   IntsAre vs ns'/\IntsAre ws ms'/\ns'.length+items2.size=ms'.length+items.size/\R (.ok (.ret (.bool (lexLt ns' ms')))) ⟨hp,g,d,tk,os⟩) _
  case turn=>
   rintro ⟨y,x⟩ rest b s' ⟨hb',rfl,vs,ws,ns',ms',hz,hvi,hwi,hlen,hR⟩;cases hvi with
   | nil=>rw [List.zip_nil_left] at hz;cases hz
   | cons a t hvi'=>
    cases hwi with
    | nil=>rw [List.zip_nil_right] at hz;cases hz
    | cons c u hwi'=>
     rw [A12] at hz
     injection hz with hyx hrest
     injection hyx with hy hx
     subst hy hx;rw [lexLt_cons] at hR;simp only [D9] at hlen;obtain ⟨e,he,hiff⟩:=qWB A.in1 ⟨hp,g,d,tk,os⟩ a t c u;refine wpAny_bind (he prog w _ _ ?_);cases e with
     | true=>
      rw [if_pos (hiff.mp rfl)] at hR
      wp_walk
      exact ⟨rfl,rfl,_,_,_,_,hrest,hvi',hwi',by omega,hR⟩
     | false=>
      rw [if_neg (fun q=>absurd (hiff.mpr q) C3)] at hR;have hri:=qVI A.in1 ⟨hp,g,d,tk,os⟩ a t c u prog w
      wp_walk using hri
      exact ⟨_,rfl,by simpa using hR⟩
  case fin=>
   rintro ⟨b1,b2⟩ s' ⟨hb',rfl,vs,ws,ns',ms',hz,hvi,hwi,hlen,hR⟩;simp only at hb';subst hb';have hv:lexLt ns' ms'=decide (items.size<items2.size):=by
    cases hvi with
    | nil=>
     cases hwi with
     | nil=>
      simp only [P0] at hlen;rw [qLL];exact (decide_eq_false (by omega)).symm
     | cons c u hw=>
      simp only [P0,D9] at hlen;rw [qKE];exact (decide_eq_true (by omega)).symm
    | cons a t hv=>
     cases hwi with
     | nil=>
      simp only [P0,D9] at hlen;rw [qKF];exact (decide_eq_false (by omega)).symm
     | cons c u hw=>
      rw [A12] at hz;cases hz
   rw [hv] at hR
   wp_walk
   exact ⟨_,rfl,by simpa [Builtin.Tuple.tupleCompareSizes] using hR⟩
  case h=>
   exact ⟨rfl,rfl,items.toList,items2.toList,ns,ms,rfl,hi,hj,by omega,h⟩
end
section
variable {prog:Program} {w:World} {A:Around} {E:Value->Shared->Prop} {s:Shared}
theorem cat_tup {t b:Addr} {vs ws:List Value} {Q:Value->Shared->Prop} (ht:IsTup s.heap t vs.toArray) (hb:IsTup s.heap b ws.toArray) (hv:vs ≠ [])
  (h1:ws=[]->Q (.ref t) s) (h2:ws ≠ []->Q (.ref s.heap.objs.size) { s with heap:=s.heap.push { cls:=.type "tuple",data:=.seq (vs++ws).toArray } })
  (hsz:vs.length+ws.length<=sizeLine):wpAny (model prog w) A (binaryOp .Add (.ref t) (.ref b)) Q E s:=by
 obtain ⟨⟨cls,dd,data,sl⟩,ho,hc,n,hd⟩:=id ht;obtain ⟨⟨cls2,dd2,data2,sl2⟩,ho2,hc2,n2,hd2⟩:=id hb;simp only at hc hd hc2 hd2;subst hc hd hc2 hd2;have e:vs.toArray++ws.toArray=(vs++ws).toArray:=by simp
 by_cases hw:ws=[]
 ·exact concat_meets ⟨_,ho,rfl⟩ ⟨_,ho2,rfl⟩ noFill_tuple_add seq_tuple_add A54 A34 (A24 _ _)
   (tuple_addW1 t b vs.toArray ws.toArray n n2 dd dd2 sl sl2 (by simpa using hv) (by simp [hw])) ⟨ho,ho2,h1 hw⟩
 ·refine concat_meets ⟨_,ho,rfl⟩ ⟨_,ho2,rfl⟩ noFill_tuple_add seq_tuple_add A54 A34 (A24 _ _)
   (tuple_addW2 t b vs.toArray ws.toArray n n2 dd dd2 sl sl2 (by simpa using hv) (by simpa using hw) (by rw [B7,B7];exact hsz)) ⟨ho,ho2,?_⟩
  rw [e];exact h2 hw
def sIx (n d:Nat):Option Int->Nat
 | none=>d
 | some v=>if v<0 then (v+(n:Int)).toNat else min v.toNat n
theorem sIx_none (n d:Nat):sIx n d none=d:=rfl
theorem sIx_nat (n d k:Nat):sIx n d (some (k:Int))=min k n:=by
 show (if (k:Int)<0 then ((k:Int)+(n:Int)).toNat else min (k:Int).toNat n)=min k n
 rw [if_neg (by omega),O6]
theorem qZP (n d:Nat) (hd:d<=n) (o:Option Int):sIx n d o<=n:=by
 cases o with
 | none=>exact hd
 | some v=>
  show (if v<0 then (v+(n:Int)).toNat else min v.toNat n)<=n
  by_cases hv:v<0
  ·rw [if_pos hv];omega
  ·rw [if_neg hv];exact Nat.min_le_right _ _
theorem qUK (v:Int) (n d:Nat):(if v<0 then max (v+(n:Int)) 0 else min v (n:Int))=((sIx n d (some v):Nat):Int):=by
 show (if v<0 then max (v+(n:Int)) 0 else min v (n:Int))=(((if v<0 then (v+(n:Int)).toNat else min v.toNat n):Nat):Int)
 by_cases hv:v<0
 ·simp only [if_pos hv];omega
 ·simp only [if_neg hv];omega
theorem qRX (lo hi:Option Int) (n:Nat):k7 lo hi 1 (n:Int)=(((sIx n 0 lo:Nat):Int),((sIx n n hi:Nat):Int)):=by
 have h1:¬ ((1:Int)<0):=by omega
 unfold k7;simp only [h1,if_false];refine Prod.ext ?_ ?_
 ·cases lo with
  | none=>rfl
  | some v=>exact qUK v n 0
 ·cases hi with
  | none=>rfl
  | some v=>exact qUK v n n
theorem qR2 (i j:Nat):X8 (i:Int) (j:Int) 1=j - i:=by
 unfold X8;have h1:(1:Int) > 0:=by omega
 simp only [h1,if_true,Int.ediv_one]
 split <;> omega
theorem qKL {v:Value} {o:Option Int} {Q:Option Int->Shared->Prop} (p:IsPart v o) (h:Q o s):wpAny (model prog w) A (Builtin.Slice.slicePartIndex v) Q E s:=by
 cases p with
 | none=>exact slicePart_none h
 | int i t=>exact slicePart_int h
theorem qFI {sl:Addr} {vl vu:Value} {lo hi:Option Int} {n:Nat} {Q:Int × Int × Nat->Shared->Prop} (hs:s.heap.IsSliceOf sl vl vu .none) (pl:IsPart vl lo) (pu:IsPart vu hi)
  (h:Q (((sIx n 0 lo:Nat):Int),1,sIx n n hi - sIx n 0 lo) s):wpAny (model prog w) A (A06 (.ref sl) (pure (n:Int))) Q E s:=by
 obtain ⟨os,hos,hcs,hds⟩:=id hs;unfold A06 Builtin.Slice.sliceFields;refine wpAny_bind (wpAny_bind (wpAny_field hos hds (x:=vl) rfl (wpAny_bind (wpAny_field hos hds (x:=vu) rfl (wpAny_bind (wpAny_field hos hds (x:=.none) rfl (wpAny_pure ?_)))))));refine wpAny_bind (slicePart_none ?_);show wpAny _ _ (if ((1:Int) == 0)=true then _ else _) _ _ s
 rw [if_neg (by decide)]
 refine wpAny_bind (qKL pl (wpAny_bind (qKL pu (wpAny_bind (wpAny_pure ?_)))));show wpAny _ _ (match k7 lo hi 1 (n:Int) with | (lo,hi)=>pure (lo,(1:Int),X8 lo hi 1)) _ _ s
 rw [qRX lo hi n];show wpAny _ _ (pure (((sIx n 0 lo:Nat):Int),(1:Int),X8 ((sIx n 0 lo:Nat):Int) ((sIx n n hi:Nat):Int) 1)) _ _ s;rw [qR2];exact wpAny_pure h
theorem qVL (xs:Array Value) (i k:Nat):((N9 k).filterMap fun (m:Nat)=>xs[((i:Int)+(m:Int) * 1).toNat]?).toArray=((xs.toList.drop i).take k).toArray:=by
 have e:(fun (m:Nat)=>xs[((i:Int)+(m:Int) * 1).toNat]?)=fun m=>xs[i+m]?:=by
  funext m
  have:((i:Int)+(m:Int) * 1).toNat=i+m:=by omega
  rw [this]
 rw [e];have:=pick_run xs i k;rw [B03] at this;have e2:((fun x=>xs[x]?) ∘ fun x=>i+x)=fun m=>xs[i+m]?:=rfl;rw [e2] at this;rw [this]
theorem getItem_tuple_cut {t sl:Addr} {items:Array Value} {vl vu:Value} {lo hi:Option Int} {Q:Value->Shared->Prop} (ht:IsTup s.heap t items) (hs:s.heap.IsSliceOf sl vl vu .none) (pl:IsPart vl lo) (pu:IsPart vu hi)
  (hw:¬ (sIx items.size 0 lo=0/\sIx items.size items.size hi=items.size))
  (h:Q (.ref s.heap.objs.size) { s with heap:=s.heap.push { cls:=.type "tuple",data:=.seq ((items.toList.drop (sIx items.size 0 lo)).take (sIx items.size items.size hi - sIx items.size 0 lo)).toArray } })
  (hsz:items.size<=sizeLine):wpAny (model prog w) A (getItem (.ref t) (.ref sl)) Q E s:=by
 have htake:sizeOk (.seq ((items.toList.drop (sIx items.size 0 lo)).take (sIx items.size items.size hi - sIx items.size 0 lo)).toArray):=by
  show ((items.toList.drop (sIx items.size 0 lo)).take (sIx items.size items.size hi - sIx items.size 0 lo)).toArray.size<=sizeLine;rw [B7,D7,F2,C0];omega
 have hj:sIx items.size items.size hi<=items.size:=qZP _ _ (B3 _) hi;obtain ⟨os,hos,hcs,hds⟩:=id hs;have hTs:s.TypeIs (.ref sl) "slice":=⟨os,hos,hcs⟩;unfold getItem
 try with_reducible refine wpAny_holding ?_
 first | refine wpAny_bind (wpAny_pure ?_) | skip
 refine wpAny_bind (wpAny_sequenceKey ht.typeIs (by decide) ?_)
 refine wpAny_bind (wpAny_callSpecial?_slot (name:=J9 "__getitem__") ht.typeIs O7
  (wpAny_call_entry O7 ht.typeIs entry_tuple_getitem ?_ (args_tuple_getitem _ _)))
 show wpAny _ _ (A07 (.ref t) >>= _) _ _ s;refine wpAny_bind (tupleItemsOf_ ht ?_);refine wpAny_bind (wpAny_typeOf hTs ?_);rw [if_pos (by decide)]
 refine wpAny_bind (qFI hs pl pu ?_);have hno:¬ ((((sIx items.size 0 lo:Nat):Int) == 0 && (1:Int) == 1 && (sIx items.size items.size hi - sIx items.size 0 lo) == items.size)=true):=by
  intro q;rw [C7,C7] at q;have q1:((sIx items.size 0 lo:Nat):Int)=0:=eq_of_beq q.1.1;have q2:sIx items.size items.size hi - sIx items.size 0 lo=items.size:=eq_of_beq q.2;exact hw ⟨by omega,by omega⟩
 show wpAny _ _ (if (((sIx items.size 0 lo:Nat):Int) == 0 && (1:Int) == 1 && (sIx items.size items.size hi - sIx items.size 0 lo) == items.size)=true then _ else _) _ _ s
 rw [if_neg hno,qVL]
 first
  | exact wpAny_bind (m:=R3 _) (wpAny_newObj_type (wpAny_pure ⟨_,rfl,wpAny_pure h⟩) htake)
  | exact wpAny_bind (m:=R3 _) (wpAny_newObj_type (wpAny_bind (wpAny_pure (wpAny_pure ⟨_,rfl,wpAny_pure h⟩))) htake)
  | exact wpAny_bind (wpAny_bind (m:=R3 _) (wpAny_newObj_type (wpAny_pure (wpAny_pure ⟨_,rfl,wpAny_pure h⟩)) htake))
  | exact wpAny_bind (wpAny_bind (m:=R3 _) (wpAny_newObj_type (wpAny_pure ⟨_,rfl,wpAny_pure h⟩) htake))
end
end HT
namespace L2
open PySem PySem.Spec PyProof.Rows
abbrev TO:=St->Hp->(Option Int->Hp->Prop)->Prop
def PO (X:Cx) (e:Option Expr) (t:TO):Prop:=
 ∀ (Ab:List (Addr × Obj)) (s:Shared) (σ:St) (H:Hp) (Q:Option Int->Hp->Prop),Inv X Ab σ H s->t σ H Q->
  wpAny (model X.prog X.w) X.A (evalPart e X.env) (fun u s'=>∃ o H',Inv X Ab σ H' s'/\IsPart u o/\Q o H') X.xe s
def qXO:TO:=fun _ H Q=>Q none H
def qaZ (t:TE):TO:=fun σ H Q=>t σ H fun x H1=>∃ i,x=.int i/\Q (some i) H1
theorem qRH {ns:List Int}:∀ {us:List Value},Vals (ns.map V.int) us->IntsAre us ns:=by
 induction ns with
 | nil=>intro us r;rw [t8] at r;cases r;exact .nil
 | cons n ns ih=>
  intro us r;rw [E7] at r;cases r with
  | cons r1 r2=>
   obtain ⟨t,e⟩:=r1;subst e;exact .cons n t (ih r2)
section
variable {X:Cx} {e:Expr} {te:TE} {lo hi:Option Expr} {tl th:TO} {pos p2:Pos}
theorem qBK:PO X none qXO:=by
 intro Ab s σ H Q I h;rw [evalPart_none];exact wpAny_pure ⟨none,H,I,.none,h⟩
theorem qBD (h:PE X e te):PO X (some e) (qaZ te):=by
 intro Ab s σ H Q I hw;rw [evalPart_some];refine thn (h Ab s σ H _ I hw) fun u s1 ⟨x,H1,I1,r1,q1⟩=>?_;obtain ⟨i,rfl,q⟩:=q1;obtain ⟨t,rfl⟩:=r1;exact ⟨some i,H1,I1,.int i t,q⟩
def SlR (X:Cx) (r:V->Option Int->Option Int->Hp->VK->Prop):Prop:=
 ∀ (Ab:List (Addr × Obj)) (s:Shared) (σ:St) (H:Hp) (x:V) (v vl vu:Value) (lo hi:Option Int) (sl:Addr) (Q:VK),Inv X Ab σ H s->RelV x v->s.heap.IsSliceOf sl vl vu .none->IsPart vl lo->IsPart vu hi->r x lo hi H Q->
  ∃ T id,typeLookup (.type T) "__getitem__" = pure (some (.builtin id))/\s.TypeIs v T/\wpAny (model X.prog X.w) X.A (getItem v (.ref sl)) (EP X Ab σ Q) X.xe s
def tSl (r:V->Option Int->Option Int->Hp->VK->Prop) (te:TE) (tl th:TO):TE:=fun σ H Q=>te σ H fun x H1=>tl σ H1 fun l H2=>th σ H2 fun u H3=>r x l u H3 Q
theorem qB2 {r:V->Option Int->Option Int->Hp->VK->Prop} (hr:SlR X r) (he:PE X e te) (hl:PO X lo tl) (hu:PO X hi th):PE X (.Subscript e (.Slice lo hi none p2) pos) (tSl r te tl th):=by
 intro Ab s σ H Q I h;refine Subscript_ (thn (he Ab s σ H _ I h) fun v s1 ⟨x,H1,I1,r1,q1⟩=>?_);refine wpAny_Slice (thn (hl Ab s1 σ H1 _ I1 q1) fun vl s2 ⟨l,H2,I2,pl,q2⟩=>thn (hu Ab s2 σ H2 _ I2 q2) fun vu s3 ⟨u,H3,I3,pu,q3⟩=>?_);rw [evalPart_none];refine wpAny_pure ?_;have I4:Inv X Ab σ H3 { s3 with heap:=s3.heap.push { cls:=.type "slice",data:=.fields #[vl,vu,.none] } }:=I3.kept (t':=s3.toks) fun b ob q=>A8 _ q;obtain ⟨T,id,hT,ht,hg⟩:=hr Ab { s3 with heap:=s3.heap.push { cls:=.type "slice",data:=.fields #[vl,vu,.none] } } σ H3 x v vl vu l u s3.heap.objs.size Q I4 r1 (B04 ..) pl pu q3;show wpAny (model X.prog X.w) X.A (subscriptTail e (.Slice lo hi none p2) v (.ref s3.heap.objs.size)) (EP X Ab σ Q) X.xe { s3 with heap:=s3.heap.push { cls:=.type "slice",data:=.fields #[vl,vu,.none] } };exact tail_any (ops:=[.ref s3.heap.objs.size,v]) ht hT hg (by with_unfolding_all rfl)
def cutV (xs:List V) (lo hi:Option Int):List V:=(xs.drop (HT.sIx xs.length 0 lo)).take (HT.sIx xs.length xs.length hi - HT.sIx xs.length 0 lo)
theorem qJW (xs:List V) (lo hi:Option Int):(cutV xs lo hi).length<=xs.length:=by
 unfold cutV;rw [D7,F2];omega
def rSlT (K:PySem.W.Frag):V->Option Int->Option Int->Hp->VK->Prop:=fun x lo hi H Q=>∃ a xs,x=.ref a/\SqT K H a xs/\
 ¬ (HT.sIx xs.length 0 lo=0/\HT.sIx xs.length xs.length hi=xs.length)/\∀ p,H p=none->Q (.ref p) (Ag H p (.tup (cutV xs lo hi)))
theorem qKM:SlR X (rSlT X.K):=by
 intro Ab s σ H x v vl vu lo hi sl Q I rx hs pl pu h;obtain ⟨a,xs,rfl,hx,hw,q⟩:=h;cases rx;obtain ⟨its,r,ht,hz⟩:=I.tuple hx;have hlen:its.toArray.size=xs.length:=by rw [B7];exact r.length.symm
 refine ⟨"tuple",_,O7.lookup,ht.typeIs,?_⟩;refine HT.getItem_tuple_cut ht hs pl pu (by rw [hlen];exact hw) ?_ (by rw [hlen];exact hz)
 rw [hlen];refine ⟨.ref s.heap.objs.size,_,I.laid (t':=s.toks) (o:=.tup (cutV xs lo hi)) (fun b ob q=>A8 _ q) (B3 _) ?_,rfl,q _ (I.hok.fresh (B3 _))⟩;exact ⟨M5 (qJW xs lo hi) hz,_,(r.drop (HT.sIx xs.length 0 lo)).take (HT.sIx xs.length xs.length hi - HT.sIx xs.length 0 lo),IsTup.new _ _⟩
def qZT (K:PySem.W.Frag):R2:=fun x y H Q=>∃ a b xs ys,x=.ref a/\y=.ref b/\SqT K H a xs/\SqT K H b ys/\xs ≠ []/\xs.length+ys.length<=sizeLine/\
 (ys=[]->Q (.ref a) H)/\(ys ≠ []->∀ p,H p=none->Q (.ref p) (Ag H p (.tup (xs++ys))))
theorem Vals.nil_iff {xs:List V} {us:List Value} (r:Vals xs us):us=[] ↔ xs=[]:=by
 cases r with
 | nil=>simp
 | cons _ _=>simp
theorem qOB:OpR X (binaryOp .Add) (qZT X.K):=by
 intro Ab s σ H x y v u Q I rx ry h;obtain ⟨a,b,xs,ys,rfl,rfl,ha,hb,hx,hz,q1,q2⟩:=h;cases rx;cases ry;obtain ⟨its,r1,p1,_⟩:=I.tuple ha;obtain ⟨its2,r2,p2,_⟩:=I.tuple hb;refine HT.cat_tup p1 p2 (fun z=>hx (r1.nil_iff.mp z)) (fun z=>⟨.ref a,H,I,rfl,q1 (r2.nil_iff.mp z)⟩) (fun z=>?_) (by rw [<- r1.length,<- r2.length];exact hz)
 refine ⟨.ref s.heap.objs.size,_,I.laid (t':=s.toks) (o:=.tup (xs++ys)) (fun b ob q=>A8 _ q) (B3 _) ?_,rfl,q2 (fun w=>z (r2.nil_iff.mpr w)) _ (I.hok.fresh (B3 _))⟩;exact ⟨by rw [B0];exact hz,_,r1.append r2,IsTup.new _ _⟩
end
def ixN (n:Nat) (i:Int):Option Nat:=if 0<=i then (if i<n then some i.toNat else none) else if -(n:Int)<=i then some (i+n).toNat else none
def atI {α:Type} (xs:List α) (i:Int):Option α:=(ixN xs.length i).bind fun j=>xs[j]?
theorem qTO {n:Nat} {i:Int} {j:Nat} (h:ixN n i=some j):seqIndex? i n=some j/\j<n/\-(n:Int)<=i/\i<n:=by
 unfold ixN at h;by_cases h0:0<=i
 ·rw [if_pos h0] at h;by_cases h1:i<n
  ·rw [if_pos h1] at h;have e:i.toNat=j:=J5 h;exact ⟨by rw [seqIndex_of h0 h1,e],by omega,by omega,h1⟩
  ·rw [if_neg h1] at h;cases h
 ·rw [if_neg h0] at h;by_cases h1 : -(n:Int)<=i
  ·rw [if_pos h1] at h;have e:(i+n).toNat=j:=J5 h;exact ⟨by rw [seqIndex_neg (by omega) h1,e],by omega,h1,by omega⟩
  ·rw [if_neg h1] at h;cases h
theorem qV0 {α:Type} {xs:List α} {i:Int} {v:α} (h:atI xs i=some v):∃ j,seqIndex? i xs.length=some j/\xs[j]?=some v/\j<xs.length/\-(xs.length:Int)<=i/\i<xs.length:=by
 unfold atI at h;cases e:ixN xs.length i with
 | none=>rw [e] at h;cases h
 | some j=>
  rw [e] at h;obtain ⟨h1,h2,h3,h4⟩:=qTO e;exact ⟨j,h1,h,h2,h3,h4⟩
theorem qUZ {α:Type} {xs:List α} {j:Nat} {v:α} (h:xs[j]?=some v):atI xs (j:Int)=some v:=by
 have hj:j<xs.length:=(A6.mp h).1;have e:ixN xs.length (j:Int)=some j:=by
  unfold ixN;rw [if_pos (by omega),if_pos (by omega)];simp
 unfold atI;rw [e];exact h
theorem qM1 {α:Type} (xs:List α) (v:α):atI (xs++[v]) (-1)=some v:=by
 have hl:(xs++[v]).length=xs.length+1:=by simp
 have e:ixN (xs++[v]).length (-1)=some xs.length:=by
  unfold ixN;rw [hl,if_neg (by decide),if_pos (by omega)]
  congr 1;omega
 unfold atI;rw [e];show (xs++[v])[xs.length]?=some v;simp
def qZ3 (b:Expr):Prop:=∀ o i,subscripted b false o i=operate [o,i] (getItem o i)
def IxR (X:Cx) (r:R2):Prop:=
 ∀ (value slice:Expr) (Ab:List (Addr × Obj)) (s:Shared) (σ:St) (H:Hp) (x y:V) (v u:Value) (Q:VK),Inv X Ab σ H s->RelV x v->RelV y u->r x y H Q->
  subscripted slice false v u=operate [v,u] (getItem v u)->wpAny (model X.prog X.w) X.A (subscriptTail value slice v u) (EP X Ab σ Q) X.xe s
def MtR (X:Cx) (id:String) (r:V->List V->Hp->VK->Prop):Prop:=
 ∀ (Ab:List (Addr × Obj)) (s:Shared) (σ:St) (H:Hp) (x:V) (xs:List V) (v:Value) (us:List Value) (Q:VK),Inv X Ab σ H s->RelV x v->Vals xs us->r x xs H Q->
  wpAny (model X.prog X.w) X.A (call (.builtin id) (v::us)) (EP X Ab σ Q) X.xe s
section
variable {X:Cx} {a b:Expr} {ta tb:TE} {pos:Pos}
theorem qB0 {r:R2} (hr:IxR X r) (ha:PE X a ta) (hb:PE X b tb) (hs:qZ3 b):PE X (.Subscript a b pos) (tOp r ta tb):=by
 intro Ab s σ H Q I h;exact Subscript_ (binT ha hb I h fun v u s2 x y H2 I2 rx ry q=>hr a b Ab s2 σ H2 x y v u Q I2 rx ry q (hs _ _))
def rIxL (K:PySem.W.Frag):R2:=fun x y H Q=>∃ p xs i v,x=.ref p/\y=.int i/\SqL K H p xs/\atI xs i=some v/\Q v H
def rIxT (K:PySem.W.Frag):R2:=fun x y H Q=>∃ p xs i v,x=.ref p/\y=.int i/\SqT K H p xs/\atI xs i=some v/\Q v H
theorem qC3:IxR X (rIxL X.K):=by
 intro value slice Ab s σ H x y v u Q I rx ry h hs;obtain ⟨p,xs,i,z,rfl,rfl,hq,he,q⟩:=h;cases rx;obtain ⟨t,rfl⟩:=ry;obtain ⟨its,r,pl,hz⟩:=I.list hq;obtain ⟨j,h1,h2,h3,h4,h5⟩:=qV0 he;obtain ⟨w,ew,rw'⟩:=r.get h2;have hl:=r.length;have hn:=qN6;have fin:EP X Ab σ Q w s:=⟨z,H,I,rw',q⟩;by_cases h0:0<=i
 ·have hj:i.toNat=j:=by
   rw [seqIndex_of h0 h5] at h1;exact J5 h1
  exact item_listR pl.isList h0 (by omega) (by rw [hj];simpa using ew) fin hs
 ·have hj:(i+(its.toArray.size:Int)).toNat=j:=by
   rw [seqIndex_neg (by omega) h4] at h1
   rw [B7,<- hl];exact J5 h1
  exact subscriptTail_builtinR (x:=w) pl.isList.typeIs slot_list_getitem.lookup
   (wpAny_getItem_list_neg (Q:=fun r s'=>r=w/\EP X Ab σ Q r s') pl.isList (by omega) (by rw [B7] <;> omega) (by omega) (by rw [hj];simpa using ew) ⟨rfl,fin⟩) hs
theorem qB3:IxR X (rIxT X.K):=by
 intro value slice Ab s σ H x y v u Q I rx ry h hs;obtain ⟨p,xs,i,z,rfl,rfl,hq,he,q⟩:=h;cases rx;obtain ⟨t,rfl⟩:=ry;obtain ⟨its,r,pl,hz⟩:=I.tuple hq;obtain ⟨j,h1,h2,h3,h4,h5⟩:=qV0 he;obtain ⟨w,ew,rw'⟩:=r.get h2;have hl:=r.length;have hn:=qN6;have fin:EP X Ab σ Q w s:=⟨z,H,I,rw',q⟩;exact subscriptTail_builtinR (x:=w) pl.typeIs slot_tuple_getitem.lookup
  (getItem_tuple (j:=j) (Q:=fun r s'=>r=w/\EP X Ab σ Q r s') pl (by omega) (by omega) (by rw [B7,<- hl];exact h1) (by simpa using ew) ⟨rfl,fin⟩) hs
theorem qR6 (its:List Value) (n j:Nat) (u:Value):W1 (·.setIfInBounds j u) { cls:=.type "list",data:=.seq its.toArray n }={ cls:=.type "list",data:=.seq (its.set j u).toArray n }:=by
 simp [W1]
theorem Inv.lst {Ab:List (Addr × Obj)} {σ:St} {H:Hp} {s:Shared} {p:Addr} {xs:List V} (I:Inv X Ab σ H s) (h:H p=some (.lst xs)) :
  ∃ (its:List Value) (n:Nat),Vals xs its/\s.heap.get? p=some { cls:=.type "list",data:=.seq its.toArray n }/\xs.length<=sizeLine:=by
 obtain ⟨z,its,n,r,e⟩:=I.hok p _ h;exact ⟨its,n,r,e,z⟩
theorem Inv.lstUpd {Ab:List (Addr × Obj)} {σ:St} {H:Hp} {s:Shared} {p:Addr} {xs ys:List V} {its its':List Value} {n n':Nat} {f:Obj->Obj} (I:Inv X Ab σ H s) (h:H p=some (.lst xs))
  (ho:s.heap.get? p=some { cls:=.type "list",data:=.seq its.toArray n }) (hf:f { cls:=.type "list",data:=.seq its.toArray n }={ cls:=.type "list",data:=.seq its'.toArray n' }) (r:Vals ys its') (hz:ys.length<=sizeLine) (t:Nat) :
  Inv X Ab σ (Ag H p (.lst ys)) { s with heap:=s.heap.update p f,toks:=t }:=by
 have e:(s.heap.update p f).get? p=some { cls:=.type "list",data:=.seq its'.toArray n' }:=by
  rw [O4 f ho (by rw [hf] <;> rfl),hf]
 refine I.write (x:=p) (e:=p) (by rw [h];trivial) (.inl rfl) (fun b u hb q=>(F9 _ _ (O1 hb)).trans q) ⟨_,e⟩ ?_
 exact ⟨hz,its',n',r,e⟩
def qbC:V->V->V->Hp->(Hp->Prop)->Prop:=fun o i v H Q=>∃ p xs k j,o=.ref p/\i=.int k/\H p=some (.lst xs)/\ixN xs.length k=some j/\Q (Ag H p (.lst (xs.set j v)))
theorem qVD:PSet X qbC:=by
 intro Ab s σ H o i v ov iv u Q I ro ri rv h;obtain ⟨p,xs,k,j,rfl,rfl,hp,hj,q⟩:=h;cases ro;obtain ⟨t,rfl⟩:=ri;obtain ⟨its,n,r,ho,hz⟩:=I.lst hp;obtain ⟨h1,h2,h3,h4⟩:=qTO hj;have hl:=r.length;have hn:=qN6;have I':Inv X Ab σ (Ag H p (.lst (xs.set j v))) { s with heap:=s.heap.update p (W1 (·.setIfInBounds j u)) }:=
  I.lstUpd hp ho (qR6 its n j u) (r.set rv j) (by rw [B51];exact hz) s.toks
 by_cases h0:0<=k
 ·have hk:k.toNat=j:=by
   rw [seqIndex_of h0 h4] at h1;exact J5 h1
  exact PySem.W.ki_setAt ho h0 (by omega) (by rw [B7,<- hl];exact h4) (by rw [hk];exact ⟨_,I',q⟩)
 ·have hk:(k+(its.toArray.size:Int)).toNat=j:=by
   rw [seqIndex_neg (by omega) h3] at h1
   rw [B7,<- hl];exact J5 h1
  exact PySem.W.ki_setBack ho (by omega) (by rw [B7,<- hl];exact h3) (by omega) (by rw [hk];exact ⟨_,I',q⟩)
theorem qME (lo hi:Option Int) (n:Nat):(sliceBounds lo hi none n).1=((HT.sIx n 0 lo:Nat):Int)/\(sliceBounds lo hi none n).2.1=((HT.sIx n n hi:Nat):Int)/\(sliceBounds lo hi none n).2.2=1:=by
 refine ⟨?_,?_,rfl⟩
 ·cases lo with
  | none=>simp [sliceBounds,HT.sIx]
  | some i=>
   simp only [sliceBounds,HT.sIx,B36,show (1:Int) > 0 by decide,if_true]
   by_cases h:i<0
   ·simp only [h,if_true] <;> omega
   ·simp only [h,if_false] <;> omega
 ·cases hi with
  | none=>simp [sliceBounds,HT.sIx]
  | some i=>
   simp only [sliceBounds,HT.sIx,B36,show (1:Int) > 0 by decide,if_true]
   by_cases h:i<0
   ·simp only [h,if_true] <;> omega
   ·simp only [h,if_false] <;> omega
theorem qLA (its:List Value) (lo hi:Option Int):slicePick its.toArray lo hi none=((its.drop (HT.sIx its.length 0 lo)).take (HT.sIx its.length its.length hi - HT.sIx its.length 0 lo)).toArray:=by
 obtain ⟨h1,h2,h3⟩:=qME lo hi its.toArray.size;unfold slicePick;rw [h1,h2,h3];simp only [sliceRange_one,pick_run,B7] <;> rfl
def rSlL (K:PySem.W.Frag):V->Option Int->Option Int->Hp->VK->Prop:=fun x lo hi H Q=>∃ a xs,x=.ref a/\SqL K H a xs/\∀ p,H p=none->Q (.ref p) (Ag H p (.lst (cutV xs lo hi)))
theorem qCI:SlR X (rSlL X.K):=by
 intro Ab s σ H x v vl vu lo hi sl Q I rx hs pl pu h;obtain ⟨a,xs,rfl,hx,q⟩:=h;cases rx;obtain ⟨its,r,ht,hz⟩:=I.list hx;have hlen:=r.length;refine ⟨"list",_,slot_list_getitem.lookup,ht.isList.typeIs,?_⟩;refine wpAny_getItem_list_slice ht.isList hs pl pu .none (by simp) ?_ (by rw [B7] <;> omega)
 rw [qLA,<- hlen];refine ⟨.ref s.heap.objs.size,_,I.laid (t':=s.toks) (o:=.lst (cutV xs lo hi)) (fun b ob q=>A8 _ q) (B3 _) ?_,rfl,q _ (I.hok.fresh (B3 _))⟩;exact ⟨M5 (qJW xs lo hi) hz,_,0,(r.drop (HT.sIx xs.length 0 lo)).take (HT.sIx xs.length xs.length hi - HT.sIx xs.length 0 lo),B9 _ rfl⟩
def qLP:V->Bool
 | .non=>true
 | .bl _=>true
 | .int _=>true
 | .str _=>true
 | _=>false
def eqV:V->V->Bool
 | .non,.non=>true
 | .bl a,.bl b=>a == b
 | .bl a,.int b=>(if a then 1 else 0) == b
 | .int a,.bl b=>a == (if b then 1 else 0)
 | .int a,.int b=>a == b
 | .str a,.str b=>a == b
 | _,_=>false
theorem qaM {A:Around} {s:Shared} {y x:V} {u v:Value} (ry:RelV y u) (rx:RelV x v) (fy:qLP y=true) (fx:qLP x=true):SeqAt.EqAt A s u v (eqV y x):=by
 cases y with
 | non=>
  cases ry;cases x with
  | non=>cases rx;exact B52 _
  | bl b=>cases rx;exact SeqAt.EqAt.none_bool b
  | int b=>obtain ⟨t,rfl⟩:=rx;exact SeqAt.EqAt.none_int b t
  | str b=>obtain ⟨t,rfl⟩:=rx;exact SeqAt.EqAt.none_str b t
  | _=>exact absurd (show false=true from fx) C3
 | bl a=>
  cases ry;cases x with
  | non=>cases rx;exact SeqAt.EqAt.bool_none a
  | bl b=>cases rx;exact SeqAt.EqAt.bool_bool a b
  | int b=>obtain ⟨t,rfl⟩:=rx;exact SeqAt.EqAt.bool_int a b t
  | str b=>obtain ⟨t,rfl⟩:=rx;exact SeqAt.EqAt.bool_str a b t
  | _=>exact absurd (show false=true from fx) C3
 | int a=>
  obtain ⟨t',rfl⟩:=ry;cases x with
  | non=>cases rx;exact SeqAt.EqAt.int_none a t'
  | bl b=>cases rx;exact SeqAt.EqAt.int_bool a t' b
  | int b=>obtain ⟨t,rfl⟩:=rx;exact A11 a t' b t
  | str b=>obtain ⟨t,rfl⟩:=rx;exact B00 a t' b t
  | _=>exact absurd (show false=true from fx) C3
 | str a=>
  obtain ⟨t',rfl⟩:=ry;cases x with
  | non=>cases rx;exact SeqAt.EqAt.str_none a t'
  | bl b=>cases rx;exact SeqAt.EqAt.str_bool a t' b
  | int b=>obtain ⟨t,rfl⟩:=rx;exact B01 a t' b t
  | str b=>obtain ⟨t,rfl⟩:=rx;exact SeqAt.EqAt.str_str a t' b t
  | _=>exact absurd (show false=true from fx) C3
 | _=>exact absurd (show false=true from fy) C3
def eqU (x:V) (u:Value):Bool:=match u with
 | .none=>eqV .non x
 | .bool b=>eqV (.bl b) x
 | .int i _=>eqV (.int i) x
 | .str z _=>eqV (.str z) x
 | _=>false
theorem qXB {x y:V} {u:Value} (r:RelV y u) (f:qLP y=true):eqU x u=eqV y x:=by
 cases y with
 | non=>cases r;rfl
 | bl b=>cases r;rfl
 | int i=>obtain ⟨t,rfl⟩:=r;rfl
 | str z=>obtain ⟨t,rfl⟩:=r;rfl
 | _=>exact absurd (show false=true from f) C3
theorem qK7 {x:V}:∀ {xs:List V} {us:List Value},Vals xs us->xs.all qLP=true->us.any (eqU x)=xs.any fun y=>eqV y x
 | _,_,.nil,_=>rfl
 | y::xs,u::us,.cons r t,f=>by
  rw [x6,C7] at f;rw [i9,i9,qXB r f.1,qK7 t f.2]
theorem qHE {A:Around} {s:Shared} {x:V} {v:Value} (rx:RelV x v) (fx:qLP x=true):∀ {xs:List V} {us:List Value},Vals xs us->xs.all qLP=true->∀ u ∈ us,SeqAt.EqAt A s u v (eqU x u)
 | _,_,.nil,_=>fun u hu=>by cases hu
 | y::xs,u::us,.cons r t,f=>fun u' hu=>by
  rw [x6,C7] at f;rcases C9.mp hu with rfl | hu
  ·rw [qXB r f.1];exact qaM r rx f.1 fx
  ·exact qHE rx fx t f.2 u' hu
def inV (x:V) (xs:List V):Bool:=xs.any fun y=>eqV y x
def rIn (K:PySem.W.Frag) (neg:Bool):R2:=fun x y H Q=>∃ p xs,y=.ref p/\(SqL K H p xs\/SqT K H p xs)/\qLP x=true/\xs.all qLP=true/\Q (.bl (if neg then !inV x xs else inV x xs)) H
theorem qMY:OpR X (compareOp .In) (rIn X.K false):=by
 intro Ab s σ H x y v u Q I rx ry h;obtain ⟨p,xs,rfl,hq,fx,fs,q⟩:=h;cases ry;rcases hq with hq | hq
 ·obtain ⟨its,r,pl,hz⟩:=I.list hq;refine SeqAt.in_listAt (eqU x) pl.isList (fun w hw=>qHE rx fx r fs w (by simpa using hw)) ⟨.bl _,H,I,rfl,?_⟩
  rw [show its.toArray.any (eqU x)=its.any (eqU x) by simp,qK7 r fs]
  exact q
 ·obtain ⟨its,r,pl,hz⟩:=I.tuple hq;refine SeqAt.in_tupleAt (eqU x) pl (fun w hw=>qHE rx fx r fs w (by simpa using hw)) ⟨.bl _,H,I,rfl,?_⟩
  rw [show its.toArray.any (eqU x)=its.any (eqU x) by simp,qK7 r fs]
  exact q
theorem qD2:OpR X (compareOp .NotIn) (rIn X.K true):=by
 intro Ab s σ H x y v u Q I rx ry h;obtain ⟨p,xs,rfl,hq,fx,fs,q⟩:=h;cases ry;rcases hq with hq | hq
 ·obtain ⟨its,r,pl,hz⟩:=I.list hq;refine B05 (eqU x) pl.isList (fun w hw=>qHE rx fx r fs w (by simpa using hw)) ⟨.bl _,H,I,rfl,?_⟩
  rw [show its.toArray.any (eqU x)=its.any (eqU x) by simp,qK7 r fs]
  exact q
 ·obtain ⟨its,r,pl,hz⟩:=I.tuple hq;refine SeqAt.notIn_tupleAt (eqU x) pl (fun w hw=>qHE rx fx r fs w (by simpa using hw)) ⟨.bl _,H,I,rfl,?_⟩
  rw [show its.toArray.any (eqU x)=its.any (eqU x) by simp,qK7 r fs]
  exact q
theorem qAI:qCN X (.builtin "len") (fun xs H Q=>∃ p ys,xs=[.ref p]/\(SqL X.K H p ys\/SqT X.K H p ys)/\Q (.int ys.length) H):=by
 intro Ab s σ H xs us Q I r h;obtain ⟨p,ys,rfl,hq,q⟩:=h;obtain ⟨u,rfl,rx⟩:=qEP r;cases rx;have hn:=qN6;rcases hq with hq | hq
 ·obtain ⟨its,r',pl,hz⟩:=I.list hq;have hlen:=r'.length;exact Calls.call_len_list pl.isList (by simp only [B7] <;> omega) ⟨.int ys.length,H,I.tok _,⟨s.toks+1,by rw [B7,hlen]⟩,q⟩
 ·obtain ⟨its,r',pl,hz⟩:=I.tuple hq;have hlen:=r'.length;exact len_tuple pl (by simp only [B7] <;> omega) ⟨.int ys.length,H,I.tok _,⟨s.toks+1,by rw [B7,hlen]⟩,q⟩
theorem qFS:qCN X (.type "list") (fun xs H Q=>∃ p ys,xs=[.ref p]/\(SqL X.K H p ys\/SqT X.K H p ys)/\∀ l,H l=none->Q (.ref l) (Ag H l (.lst ys))):=by
 intro Ab s σ H xs us Q I r h;obtain ⟨p,ys,rfl,hq,q⟩:=h;obtain ⟨u,rfl,rx⟩:=qEP r;cases rx;have fin:∀ (its:List Value),Vals ys its->ys.length<=sizeLine->∀ (h':Heap) (c':Nat),(∀ b o',s.heap.get? b=some o'->h'.get? b=some o')->
   h'.get? s.heap.objs.size=some { cls:=.type "list",dict:=none,data:=.seq its.toArray c',slots:=#[] }->EP X Ab σ Q (.ref s.heap.objs.size) { s with heap:=h' }:=fun its r' hz h' c' kp e=>
  ⟨.ref s.heap.objs.size,_,I.laid (t':=s.toks) kp (B3 _) (show ObjOk X.prog X.w _ h' _ (.lst ys) from ⟨hz,its,c',r',e⟩),rfl,q _ (I.hok.fresh (B3 _))⟩
 rcases hq with hq | hq
 ·obtain ⟨its,r',pl,hz⟩:=I.list hq;have hlen:=r'.length;obtain ⟨o,ho,hc,n,hd⟩:=pl.isList;exact call_list_seq p (.inl rfl) ho hc hd (fun h' c' kp e=>fin its r' hz h' c' kp e) (by simp only [B7] <;> omega)
 ·obtain ⟨its,r',pl,hz⟩:=I.tuple hq;have hlen:=r'.length;obtain ⟨o,ho,hc,n,hd⟩:=pl;exact call_list_seq p (.inr rfl) ho hc hd (fun h' c' kp e=>fin its r' hz h' c' kp e) (by simp only [B7] <;> omega)
theorem qAS:qCN X (.type "tuple") (fun xs H Q=>∃ p ys,xs=[.ref p]/\((SqL X.K H p ys/\∀ l,H l=none->Q (.ref l) (Ag H l (.tup ys)))\/(SqT X.K H p ys/\Q (.ref p) H))):=by
 intro Ab s σ H xs us Q I r h;obtain ⟨p,ys,rfl,h⟩:=h;obtain ⟨u,rfl,rx⟩:=qEP r;cases rx;rcases h with ⟨hq,q⟩ | ⟨hq,q⟩
 ·obtain ⟨its,r',pl,hz⟩:=I.list hq;have hlen:=r'.length;refine call_tuple_list pl.isList (fun h' kp=>?_) (by simp only [B7] <;> omega)
  have I1:Inv X Ab σ H { s with heap:=h' }:=I.kept (t':=s.toks) kp;have I2:Inv X Ab σ (Ag H h'.objs.size (.tup ys)) { s with heap:=h'.push { cls:=.type "tuple",data:=.seq its.toArray } }:=
   I1.laid (t':=s.toks) (fun b o e=>A8 _ e) (B3 _) (show ObjOk X.prog X.w _ _ _ (.tup ys) from ⟨hz,its,r',IsTup.new _ _⟩)
  exact ⟨.ref h'.objs.size,_,I2,rfl,q _ (I1.hok.fresh (B3 _))⟩
 ·obtain ⟨its,r',pl,hz⟩:=I.tuple hq;exact call_tuple_same pl ⟨.ref p,H,I,rfl,q⟩
def tyV (K:PySem.W.Frag) (T:String) (x:V) (H:Hp):Prop:=match x with
 | .str _=>T = "str"
 | .int _=>T = "int"
 | .ref p=>(T = "list"/\∃ xs,SqL K H p xs)\/(T = "tuple"/\∃ o,K.lookup p=some o/\o.cls=.type "tuple"/\o.dict=none)\/
   (T = "dict"/\((∃ Af,H p=some (.dK Af))\/∃ Af,H p=some (.dT Af)))\/(T = "set"/\∃ S n,H p=some (.set S n))
 | _=>False
theorem qWQ {Ab:List (Addr × Obj)} {σ:St} {H:Hp} {s:Shared} {T:String} {x:V} {v:Value} (I:Inv X Ab σ H s) (r:RelV x v) (ty:tyV X.K T x H) :
  s.TypeIs v T/\∀ a,v=.ref a->∃ ob,s.heap.get? a=some ob/\ob.dict=none:=by
 cases x with
 | str z=>
  obtain ⟨t,rfl⟩:=r;cases (show T = "str" from ty);exact ⟨typeIs_str s z t,fun _ e=>nomatch e⟩
 | int i=>
  obtain ⟨t,rfl⟩:=r;cases (show T = "int" from ty);exact ⟨typeIs_int s i t,fun _ e=>nomatch e⟩
 | ref p=>
  cases r;rcases ty with ⟨rfl,xs,hq⟩ | ⟨rfl,o,hk,hc,hd⟩ | ⟨rfl,hk⟩ | ⟨rfl,S,n,hk⟩
  ·obtain ⟨its,_,pl,_⟩:=I.list hq;refine ⟨pl.isList.typeIs,fun a e=>?_⟩;cases e;obtain ⟨o,n,e,c,hd,_⟩:=pl;exact ⟨o,e,hd⟩
  ·refine ⟨⟨o,I.kIn p o hk,hc⟩,fun a e=>?_⟩;cases e;exact ⟨o,I.kIn _ o hk,hd⟩
  ·have z:∃ o,s.heap.get? p=some o/\o.ExactDict:=by
    rcases hk with ⟨Af,hk⟩ | ⟨Af,hk⟩
    ·obtain ⟨_,_,_,_,o,_,_,e,ex,_⟩:=I.hok p _ hk;exact ⟨o,e,ex⟩
    ·obtain ⟨_,_,_,_,o,_,_,e,ex,_⟩:=I.hok p _ hk;exact ⟨o,e,ex⟩
   obtain ⟨o,e,ex⟩:=z;refine ⟨⟨o,e,ex.1⟩,fun a e2=>?_⟩;cases e2;exact ⟨o,e,ex.2.1⟩
  ·obtain ⟨o,_,_,_,e,ex,_⟩:=I.hok p _ hk;refine ⟨⟨o,e,ex.1⟩,fun a e2=>?_⟩;cases e2;exact ⟨o,e,ex.2.1⟩
 | _=>exact i7 ty
def tBM0 (K:PySem.W.Frag) (T:String) (r:V->List V->Hp->VK->Prop) (to:TE):TE:=fun σ H Q=>to σ H fun x H1=>tyV K T x H1/\r x [] H1 Q
def tBM (K:PySem.W.Frag) (T:String) (r:V->List V->Hp->VK->Prop) (to:TE) (t:TA):TE:=fun σ H Q=>to σ H fun x H1=>tyV K T x H1/\t σ H1 fun xs H2=>r x xs H2 Q
variable {o e:Expr} {es:List Expr} {to:TE} {t:TA} {name:Str} {apos cpos:Pos} {T id:String} {r:V->List V->Hp->VK->Prop}
theorem qT1 (pa:PlainAttrs T) (slot:Slot T name id) (hty:typeOf (.builtin id)=pure (.type "method_descriptor")) (hm:MtR X id r) (ho:PE X o to)
  (hbase:attributeBase o name X.env (eval o X.env)=eval o X.env:=by rfl) (hline:(apos.endLine == cpos.line)=true:=by rfl):PE X (.Call (.Attribute o name apos) [] [] cpos) (tBM0 X.K T r to):=by
 intro Ab s σ H Q I h;refine wpAny_Call_method0_late hbase hline (thn (ho Ab s σ H _ I h) fun v s1 ⟨x,H1,I1,r1,ty,q1⟩=>?_);obtain ⟨h1,h2⟩:=qWQ I1 r1 ty;exact ⟨T,id,pa,slot,hty,h1,h2,A55 rfl (PySem.evalArgs_none (hm Ab s1 σ H1 x [] v [] Q I1 r1 .nil q1))⟩
theorem qGL (pa:PlainAttrs T) (slot:Slot T name id) (hty:typeOf (.builtin id)=pure (.type "method_descriptor")) (hm:MtR X id r) (ho:PE X o to) (ha:PA X (e::es) t)
  (hbase:attributeBase o name X.env (eval o X.env)=eval o X.env:=by rfl)
  (hfew:((backTo cpos (starEach (e::es) X.env)).all (fun x=>!x.1) && (backToKw cpos (keywordEach [] X.env)).all (fun x=>x.1.isSome)
   && decide ((e::es).length+([]:List Keyword).length+(if ([]:List Keyword).isEmpty then 0 else 1)<30))=true:=by rfl)
  (hline:(apos.endLine == cpos.line)=true:=by rfl) (hs:starEach (e::es) X.env=(false,eval e X.env)::starEach es X.env:=by rfl) (hplain:(backTo cpos (starEach es X.env)).any (·.1)=false:=by rfl) :
  PE X (.Call (.Attribute o name apos) (e::es) [] cpos) (tBM X.K T r to t):=by
 intro Ab s σ H Q I h;refine wpAny_Call_method_late hbase hfew hline rfl (thn (ho Ab s σ H _ I h) fun v s1 ⟨x,H1,I1,r1,ty,q1⟩=>?_);obtain ⟨h1,h2⟩:=qWQ I1 r1 ty;refine ⟨T,id,pa,slot,hty,h1,h2,?_⟩;have hA:=ha cpos Ab s1 σ H1 _ I1 q1;rw [hs] at hA ⊢;refine A55 (by show (false || (backTo cpos (starEach es X.env)).any (·.1))=false;rw [hplain] <;> rfl) (Calls.evalArgs_plain ?_)
 exact thn hA fun us s2 ⟨vs,H2,I2,r2,q2⟩=>hm Ab s2 σ H2 x vs v us Q I2 r1 r2 q2
end
def MtM (X:Cx) (id:String) (r:V->List V->Hp->VK->Prop):Prop:=
 ∀ (Ab:List (Addr × Obj)) (s:Shared) (σ:St) (H:Hp) (x:V) (xs:List V) (v:Value) (us:List Value) (Q:VK),Inv X Ab σ H s->RelV x v->Vals xs us->r x xs H Q->
  wpAny (model X.prog X.w) X.A (call (.builtin id) (v::us)) (EP X Ab σ Q) X.xe s
theorem Vals.one:∀ {x:V} {us:List Value},Vals [x] us->∃ u,us=[u]/\RelV x u
 | _,_,.cons r .nil=>⟨_,rfl,r⟩
theorem Vals.zero:∀ {us:List Value},Vals [] us->us=[]
 | _,.nil=>rfl
theorem Vals.dropLast {xs:List V} {us:List Value} (h:Vals xs us):Vals xs.dropLast us.dropLast:=by
 induction h with
 | nil=>exact .nil
 | cons r t ih=>
  cases t with
  | nil=>exact .nil
  | cons q t'=>exact .cons r ih
theorem Vals.eraseIdx:∀ {xs:List V} {us:List Value} (i:Nat),Vals xs us->Vals (xs.eraseIdx i) (us.eraseIdx i)
 | _,_,_,.nil=>.nil
 | _,_,0,.cons _ t=>t
 | _,_,i+1,.cons r t=>.cons r (Vals.eraseIdx i t)
theorem Vals.reverse {xs:List V} {us:List Value} (h:Vals xs us):Vals xs.reverse us.reverse:=by
 induction h with
 | nil=>exact .nil
 | cons r t ih=>rw [j4,j4];exact Vals.append ih (.cons r .nil)
theorem Vals.rep {xs:List V} {us:List Value} (h:Vals xs us):∀ k:Nat,Vals (P4 k xs).flatten (P4 k us).flatten
 | 0=>.nil
 | k+1=>by
  rw [b9,b9,P5,P5];exact Vals.append h (Vals.rep h k)
theorem qRL {α:Type} (l:List α):l.eraseIdx (l.length - 1)=l.dropLast:=by
 induction l with
 | nil=>rfl
 | cons a r ih=>
  cases r with
  | nil=>rfl
  | cons b r=>
   have e:(a::b::r).length - 1=((b::r).length - 1)+1:=by
    have h1:(a::b::r).length=r.length+2:=rfl;have h2:(b::r).length=r.length+1:=rfl;omega
   rw [e,A35,ih]
   all_goals rfl
theorem qN7 {α:Type}:∀ (l:List α) (i:Nat),(l.eraseIdx i).length<=l.length
 | [],_=>B3 _
 | _::_,0=>h9 _
 | _::r,i+1=>Nat.succ_le_succ (qN7 r i)
theorem qNC (its:List Value):∀ (k:Nat) (acc:List Value),
  B67 (fun x1 x2=>x1++x2) acc.toArray (P4 k its.toArray)=(acc++(P4 k its).flatten).toArray
 | 0,acc=>by simp
 | k+1,acc=>by
  have e:acc.toArray++its.toArray=(acc++its).toArray:=by simp
  have e2:(acc++its)++(P4 k its).flatten=acc++(P4 (k+1) its).flatten:=by
   rw [b9,P5,P6]
  rw [<- e2,<- qNC its k (acc++its),<- e,b9,Y2]
section
variable {X:Cx} {Ab:List (Addr × Obj)} {σ:St} {H:Hp} {s:Shared} {l b:Addr} {xs ys zs:List V}
theorem Inv.lset {its its':List Value} {n:Nat} {f:Array Value->Array Value} {t':Nat} (I:Inv X Ab σ H s) (hH:H l=some (.lst xs))
  (e:s.heap.get? l=some { cls:=.type "list",data:=.seq its.toArray n }) (hf:f its.toArray=its'.toArray) (hv:Vals ys its') (hz:ys.length<=sizeLine) :
  Inv X Ab σ (Ag H l (.lst ys)) { s with heap:=s.heap.update l (W1 f),toks:=t' }:=by
 have q:=PySem.IsL.update e f;rw [hf] at q;refine I.write (x:=l) (e:=l) (by rw [hH];exact trivial) (.inl rfl) (fun b' u hb hu=>(F9 s.heap (W1 f) (O1 hb)).trans hu) ⟨_,q⟩ ?_
 exact ⟨hz,its',_,hv,q⟩
theorem Inv.lnew {its:List Value} {t':Nat} (I:Inv X Ab σ H s) (hv:Vals ys its) (hz:ys.length<=sizeLine) :
  Inv X Ab σ (Ag H s.heap.objs.size (.lst ys)) { s with heap:=s.heap.push { cls:=.type "list",data:=.seq its.toArray },toks:=t' }:=
 I.laid (fun _ _ q=>A8 _ q) (B3 _) ⟨hz,its,0,hv,B9 _ rfl⟩
theorem Inv.fresh (I:Inv X Ab σ H s):H s.heap.objs.size=none:=I.hok.fresh (B3 _)
theorem Inv.lstM (I:Inv X Ab σ H s) (hH:H l=some (.lst xs)):xs.length<=sizeLine/\∃ (its:List Value) (n:Nat),Vals xs its/\xs.length=its.length/\s.heap.get? l=some { cls:=.type "list",data:=.seq its.toArray n }:=by
 obtain ⟨z,its,n,r,e⟩:=I.hok l _ hH;exact ⟨z,its,n,r,r.length,e⟩
theorem qLH {n:Nat} (h:n<=sizeLine):R4 n=false:=by
 unfold R4;exact decide_eq_false (by omega)
end
section
variable {X:Cx}
def qXY:V->List V->Hp->VK->Prop:=fun x vs H Q=>∃ l xs y,x=.ref l/\vs=[y]/\H l=some (.lst xs)/\xs.length<sizeLine/\Q .non (Ag H l (.lst (xs++[y])))
theorem qBP:MtM X "list.append" qXY:=by
 intro Ab s σ H x vs v us Q I rx rv h;obtain ⟨l,xs,y,rfl,rfl,hH,hz,q⟩:=h;cases rx;obtain ⟨u,rfl,ru⟩:=rv.one;obtain ⟨z,its,n,r,hl,e⟩:=I.lstM hH;refine call_meets F.slot_list_append ⟨_,e,rfl⟩ F.entry_list_append (F.args_list_append_2 _ _) (PySem.list_append l its.toArray n u (by rw [B7];omega)) ⟨e,?_⟩
 refine ⟨.non,_,I.lset (its':=its++[u]) hH e (by simp) (r.append (.cons ru .nil)) ?_,rfl,q⟩
 rw [B0,C1];omega
def qXX:V->List V->Hp->VK->Prop:=fun x vs H Q=>∃ l b xs zs,x=.ref l/\vs=[.ref b]/\H l=some (.lst xs)/\H b=some (.lst zs)/\xs.length+zs.length<=sizeLine/\Q .non (Ag H l (.lst (xs++zs)))
theorem qN1:MtM X "list.extend" qXX:=by
 intro Ab s σ H x vs v us Q I rx rv h;obtain ⟨l,b,xs,zs,rfl,rfl,hH,hB,hz,q⟩:=h;cases rx;obtain ⟨u,rfl,ru⟩:=rv.one;cases ru;obtain ⟨z,its,n,r,hl,e⟩:=I.lstM hH;obtain ⟨z2,its2,n2,r2,hl2,e2⟩:=I.lstM hB;have hsz:its.toArray.size+its2.toArray.size<=sizeLine:=by rw [B7,B7];omega
 have hlong:¬ (!its.toArray.isEmpty && R4 (its.toArray.size+its2.toArray.size))=true:=by
  rw [qLH hsz,P7];exact C3
 refine call_meets B06 ⟨_,e,rfl⟩ A91 (A77 _ _)
  (AutoSeq1.list_extend_list_list_0 l its.toArray n b its2.toArray n2 hlong (by rw [B7];omega) (by omega)) ⟨e,e2,?_⟩
 refine ⟨.non,_,I.lset (its':=its++its2) hH e (by simp) (r.append r2) ?_,rfl,q⟩
 rw [B0];omega
def rPop:V->List V->Hp->VK->Prop:=fun x vs H Q=>∃ l xs y,x=.ref l/\vs=[]/\H l=some (.lst xs)/\xs[xs.length - 1]?=some y/\Q y (Ag H l (.lst xs.dropLast))
theorem qTA:MtM X "list.pop" rPop:=by
 intro Ab s σ H x vs v us Q I rx rv h;obtain ⟨l,xs,y,rfl,rfl,hH,hy,q⟩:=h;cases rx;have hus:=rv.zero;subst hus;obtain ⟨z,its,n,r,hl,e⟩:=I.lstM hH;obtain ⟨u,hu,ru⟩:=r.get hy;have hy':its.toArray[its.toArray.size - 1]?=some u:=by
  show its.toArray[its.length - 1]?=some u;rw [<- M9,<- hl];exact hu
 refine call_meets F.slot_list_pop ⟨_,e,rfl⟩ F.entry_list_pop (F.args_list_pop_1 _) (MeetsSeq.list_pop_last l its.toArray n u hy' (by rw [B7];omega)) ⟨e,?_⟩
 refine ⟨y,_,I.lset (its':=its.dropLast) hH e ?_ r.dropLast ?_,ru,q⟩
 ·show its.toArray.eraseIdxIfInBounds (its.toArray.size - 1)=its.dropLast.toArray;rw [B7,o8,qRL]
 ·rw [List.length_dropLast];omega
def rCat:R2:=fun x y H Q=>∃ l b xs zs,x=.ref l/\y=.ref b/\H l=some (.lst xs)/\H b=some (.lst zs)/\xs.length+zs.length<=sizeLine/\∀ p,H p=none->Q (.ref p) (Ag H p (.lst (xs++zs)))
theorem qD8:OpR X (binaryOp .Add) rCat:=by
 intro Ab s σ H x y v u Q I rx ry h;obtain ⟨l,b,xs,zs,rfl,rfl,hH,hB,hz,q⟩:=h;cases rx;cases ry;obtain ⟨z,its,n,r,hl,e⟩:=I.lstM hH;obtain ⟨z2,its2,n2,r2,hl2,e2⟩:=I.lstM hB;refine PySem.P.add_list e e2 ?_ (by rw [B7,B7];omega)
 have ea:its.toArray++its2.toArray=(its++its2).toArray:=by simp
 rw [ea];exact ⟨.ref _,_,I.lnew (t':=s.toks) (r.append r2) (by rw [B0];omega),rfl,q _ I.fresh⟩
def rRep:R2:=fun x y H Q=>∃ l k xs,x=.ref l/\y=.int k/\H l=some (.lst xs)/\-(2 ^ 63)<=k/\k<2 ^ 63/\xs.length * k.toNat<=sizeLine/\
 ∀ p,H p=none->Q (.ref p) (Ag H p (.lst (P4 k.toNat xs).flatten))
theorem qYF {α:Type} (xs:List α) (k:Nat):(P4 k xs).flatten.length=k * xs.length:=by
 induction k with
 | zero=>simp
 | succ k ih=>rw [b9,P5,B0,ih,Nat.succ_mul,m6]
theorem qX2:OpR X (binaryOp .Mult) rRep:=by
 intro Ab s σ H x y v u Q I rx ry h;obtain ⟨l,k,xs,rfl,rfl,hH,h1,h2,hz,q⟩:=h;cases rx;obtain ⟨t,rfl⟩:=ry;obtain ⟨z,its,n,r,hl,e⟩:=I.lstM hH;have hlen:its.toArray.size * k.toNat<=sizeLine:=by rw [B7,<- hl];exact hz
 have hcap:¬ its.toArray.size * k.toNat > (2 ^ 63 - 1) / 8:=by
  have:(sizeLine:Nat)<=(2 ^ 63 - 1) / 8:=by decide
  omega
 have hfit:¬ (!Builtin.List.listFitsIndex k)=true:=by
  rw [fitsIndex_both h1 h2];exact C3
 have hlong:¬ R4 (its.toArray.size * k.toNat)=true:=by
  rw [qLH hlen];exact C3
 have hnew:B67 (fun x1 x2=>x1++x2) #[] (P4 (if its.toArray.isEmpty=true then 0 else k.toNat) its.toArray)=(P4 k.toNat its).flatten.toArray:=by
  have f0:∀ m:Nat,B67 (fun x1 x2=>x1++x2) #[] (P4 m its.toArray)=(P4 m its).flatten.toArray:=fun m=>by
   have:=qNC its m [];rw [List.nil_append] at this;exact this
  rw [f0];cases its with
  | nil=>simp
  | cons a r'=>rw [if_neg (by simp)]
 refine wpAny_binaryOp_repeat_ref (T:="list") (U:="int") (by decide) ⟨_,e,rfl⟩ (fun s'=>typeIs_int s' k t) noFill_list_mul F.fills_int_mul F.slot_int_rmul repeat_list F.slot_int_index.lookup
  (call_meets F.slot_int_rmul (typeIs_int s k t) F.entry_int_rmul (F.args_int_rmul_2 _ _) (int___rmul___int_list k t l its.toArray n)
   ⟨e,rfl,⟨_,e,rfl⟩,call_meets F.slot_list_mul ⟨_,e,rfl⟩ F.entry_list_mul (F.args_list_mul_2 _ _) (AutoListH.list___mul___list_int_3 l its.toArray n k t hfit hcap hlong) ⟨e,?_⟩⟩)
 rw [hnew];exact ⟨.ref _,_,I.lnew (t':=s.toks) (r.rep k.toNat) (by rw [qYF,Y9];exact hz),rfl,q _ I.fresh⟩
end
section
variable {prog:Program} {w:World} {A:Around} {E:Value->Shared->Prop} {s:Shared}
set_option maxRecDepth 100000 in
end
section
variable {X:Cx}
end
end L2
namespace Att
open PySem PySem.W PySem.Calls PyProof.Rows
theorem qJQ {P:Params} {h:Heap}:∀ (ns:List Int) (vs:List Value),WellAll P h vs (ns.map WData.int)->IntsAre vs ns:=by
 intro ns
 induction ns with
 | nil=>
  intro vs w;rw [t8] at w;cases w;exact .nil
 | cons n ns ih=>
  intro vs w;rw [E7] at w;cases w with
  | cons a b=>
   cases a;exact .cons _ _ (ih _ b)
theorem qSO {l:OpenLaw} {n:Nat} (hn:l.most=some n) {P:Params} {h:Heap} {args:List WData} {vals:List Value}
  (hpre:l.row.toRowW.claim.pre args=true) (hwl:WellAll P h vals args) :
  ∃ a vs ns,vals=[E6 a]/\args=[WData.list (ns.map WData.int)]/\h.get? a=some { cls:=.type "list",data:=.seq vs.toArray }/\IntsAre vs ns/\ns.length<=n:=by
 have hsh:WShape.hasAll [] args [.list .int]=true:=(pre_splitW hpre).1;have hc:l.pre.holds [] { args:=args }=true:=(pre_splitW hpre).2;obtain ⟨d,r,rfl,h1,h2⟩:=hasAllW_cons hsh;obtain rfl:=hasAllW_nil h2;obtain ⟨xs,rfl,h3⟩:=hasW_list h1;obtain ⟨ns,rfl⟩:=items_int h3;have hlen:ns.length<=n:=by
  unfold OpenLaw.pre at hc;have h4:(WTm.not (.lt (.lit (.int (n:Int))) (.len (.arg 0)))).holds [] { args:=[.list (ns.map .int)] }=true:=by
   have h4:=(holds_andW hc).1;rw [hn] at h4;exact h4
  have h5:=condW_of h4 (w_not (w_lt w_lit (w_len_list (w_arg rfl))));rw [A0] at h5;refine c8 fun q=>?_;have q':(n:Int)<((ns.length:Nat):Int):=by omega
  first
   | (rw [decide_eq_true q'] at h5;exact absurd h5 (by decide))
   | (simp at h5;omega)
 cases hwl with
 | cons w1 w2=>
  cases w2;cases w1 with
  | list ho hall=>exact ⟨_,_,ns,rfl,rfl,ho,qJQ ns _ hall,hlen⟩
theorem qST (l:OpenLaw) (args:List WData):l.row.toRowW.claim.post args (.bool true) args=true:=
 postW_of (r:=l.row.toRowW) (X:=(true == true))
  (show WShape.has [] (.bool true) .bool=true by first | rfl | decide | simp [WShape.has,WShape.arms,WShape.armsAll])
  (show (WTm.eq .res (.lit (.bool true))).value [] { args:=args,res:=some (.bool true),after:=args }=some (.bool (true == true)) from w_eq_bool (w_res rfl) w_lit) rfl
theorem attach_call {l:OpenLaw} {n:Nat} {q:Program} {loose:List Str} {XP:(Str->Option Value)->Heap->Prop} {YP:World->Heap->Prop} {d:DefRec}
  (hn:l.most=some n) (hdf:d.params.defaults=[])
  (call:∀ (w:World) (s₀ s₁:Shared) (mg mb:Str->Option Value) (fa:Addr) (o:Obj) (pm cd doc:Value) (a:Addr) (vs:List Value) (ns:List Int),
   Ground q loose [] XP w s₀ mg mb s₁.heap->YP w s₁.heap->
   s₁.heap.get? fa=some o->o.data=.func (docDef d.name d.params d.body d.scope pm cd doc)->s₁.heap.CodeRec cd d.name->mg d.name=some (.ref fa)->
   s₁.heap.get? a=some { cls:=.type "list",data:=.seq vs.toArray }->IntsAre vs ns->ns.length<=n->s₁.gens=#[]->
   codeAny (model l.prog w) callerA (.call (.ref fa) ⟨[.ref a],[]⟩) (fun r s'=>r=.ok (.ret (.bool true))/\OldK s₁.heap s'.heap/\s'.os=s₁.os/\AllBare s'.gens) s₁) :
  WalkO q loose XP YP l.row.toRowW d [] (fun f vs=>B68 f vs):=by
 intro w s₀ s₁ mg mb G Y fa o pm cd doc dV kV ho hd hcd hD hmg hg args vals as hpre hlay hrd hwl hlo;obtain rfl:dV=.none:=Dflts.none hD hdf;obtain rfl:kV=.none:=Dflts.noKw hD;obtain ⟨a,vs,ns,rfl,rfl,hobj,hints,hlen⟩:=qSO hn hpre hwl;refine enter_call (codeAny_mono (call w s₀ s₁ mg mb fa o pm cd doc a vs ns G Y ho (fd_plain hd) hcd hmg hobj hints hlen hg) fun r s' hq=>?_);obtain ⟨rfl,h2,h3,h4⟩:=hq;exact ⟨.inl ⟨.bool true,.bool true,[],rfl,fun _=>rfl,.bool true,qST l _,fun _=>⟨List.Pairwise.nil,fun _ hm=>(nomatch hm)⟩⟩,h2,h3,h4⟩
section
variable {prog:Program} {w:World} {A:Around} {E:Value->Shared->Prop} {s:Shared} {K:Frag}
end
end Att
namespace L2
open PySem PySem.Spec PyProof.Rows
theorem qJC:∀ {vs:List Value} {ns:List Int},IntsAre vs ns->Vals (ns.map V.int) vs
 | _,_,.nil=>.nil
 | _,_,.cons n t h=>.cons ⟨t,rfl⟩ (qJC h)
def Only (H:Hp):Prop:=∀ b,H b=none\/∃ o xs,H b=some (.frz o (.lst xs))
theorem qVZ {P:Program} {w:World} {K:PySem.W.Frag} {mg mb:Str->Option Value} {CX:CXT} {k:Nat} {fa a:Addr} {fd:FuncData} {x:Str} {sp:Sp} {s₁:Shared} {vs:List Value} {ns:List Int}
  (KX:K.In s₁.heap) (hns:s₁.heap.Ns mainGlobals mg) (hb:s₁.heap.Ns builtinsNs mb) (hbb:∀ x:Str,x ≠ "__name__"->mb x=bootBuiltins x) (hlim:s₁.heap.NoLimit) (hg:s₁.gens=#[])
  (ha:s₁.heap.get? a=some { cls:=.type "list",data:=.seq vs.toArray }) (hi:IntsAre vs ns) (hl:ns.length<=sizeLine) (hr:Room k callerA)
  (F:∀ base:Heap,K.In base->base.Ns mainGlobals mg->FnOk P w K mg base CX k fa fd [x] sp) (hbind:∀ (s:Shared) (u:Value),BindsTo s fd ⟨[u],[]⟩ [(x,u)])
  (hsp:∀ H:Hp,Only H->SqL K H a (ns.map V.int)->sp [.ref a] H (fun v _=>v=.bl true) fun _ _ _=>False)
  (hCX:∀ H e s',CX [] H s₁ (fun _ _ _=>False) e s'->False) :
  codeAny (model P w) callerA (.call (.ref fa) ⟨[.ref a],[]⟩) (fun r s'=>r=.ok (.ret (.bool true))/\OldK s₁.heap s'.heap/\s'.os=s₁.os/\AllBare s'.gens) s₁:=by
 have rv:=qJC hi;have lenV:=hi.length
 -- from an abstract heap in which nothing but the script may be tracked
 have core:∀ H:Hp,Only H->SqL K H a (ns.map V.int)->HOk P w H s₁.heap->(∀ b,H b ≠ none->b=a)->(H a ≠ none->K.lookup a=none)->
   codeAny (model P w) callerA (.call (.ref fa) ⟨[.ref a],[]⟩) (fun r s'=>r=.ok (.ret (.bool true))/\OldK s₁.heap s'.heap/\s'.os=s₁.os/\AllBare s'.gens) s₁:=by
  intro H hO hS hok hA hK;have base_of:∀ {b:Addr} {o:Obj},s₁.heap.get? b=some o->H b=none->(hidT s₁.heap H).get? b=some o:=fun e n=>qW2 e n;have noA:∀ {b:Addr} {o:Obj} {es:Array DictEntry} {ep:Nat},s₁.heap.get? b=some o->o.data=.dict es ep->H b=none:=fun {b o es ep} e d=>by
   cases q:H b with
   | none=>rfl
   | some u=>
    have e':b=a:=hA b (by rw [q];simp)
    subst e';rw [ha] at e;cases e;have d':B86 vs.toArray _=Data.dict es ep:=d;cases d'
  have nsK:∀ {b:Addr} {m:Str->Option Value},s₁.heap.Ns b m->(hidT s₁.heap H).Ns b m:=fun {b m} ⟨o,es,ep,e,d,r⟩=>⟨o,es,ep,base_of e (noA e d),d,r⟩;have hKb:K.In (hidT s₁.heap H):=fun b o e=>base_of (KX b o e) (by
   cases q:H b with
   | none=>rfl
   | some u=>
    have e':b=a:=hA b (by rw [q];simp)
    subst e';rw [hK (by rw [q];simp)] at e;cases e)
  have hM:Mod K mg (hidT s₁.heap H):=⟨hKb,nsK hns,⟨mb,nsK hb,hbb⟩,let ⟨mc,h1,h2⟩:=hlim;⟨mc,nsK h1,h2⟩⟩
  have e0:Env0 P w K mg (hidT s₁.heap H) callerA [] s₁ H:=⟨rfl,hM,fun b o e=>qY5 e,Nat.le_of_eq (qTT _ _),trivial,fun b hb=>absurd (show b ∈ ([]:List Addr) from hb) (by simp),hok,.of_eq hg⟩
  refine codeAny_mono ((F _ hKb (nsK hns)).run callerA [] s₁ H ⟨[.ref a],[]⟩ [.ref a] [.ref a] _ _ hr e0 (hbind s₁ (.ref a)) (.cons rfl .nil) (hsp H hO hS)) fun r s' h=>?_;cases r with
  | error e=>exact (hCX H e s' h).elim
  | ok fl=>
   cases fl with
   | next=>exact i7 h
   | brk=>exact i7 h
   | cont=>exact i7 h
   | ret u=>
    obtain ⟨v,H',os,bare,un,hok',r',q⟩:=h;have q':v=.bl true:=q;subst q';obtain rfl:u=V8 true:=r';refine ⟨rfl,OldK.of_keep fun b o e=>?_,os,bare⟩;cases q:H b with
    | none=>exact un.keep b o e q (by intro z;exact absurd (show b ∈ ([]:List Addr) from z) (by simp)) (by simp)
    | some u=>
     rcases hO b with z | ⟨ob,xs,z⟩
     ·rw [q] at z;cases z
     ·have z2:=un.frzs b ob _ z;obtain ⟨e1,_⟩:=hok b _ z;obtain ⟨e2,_⟩:=hok' b _ z2;rw [e] at e1;cases e1;exact e2
 cases hk:K.lookup a with
 | some o=>
  -- the script is one of the module's own objects
  have e:=KX a o hk;rw [ha] at e;cases e;refine core (fun _=>none) (fun _=>.inl rfl) (.inr ⟨_,vs.toArray,_,hk,rfl,rfl,rfl,by rw [B7,lenV];exact hl,by simpa using rv⟩) (fun b u z=>by have z':(none:Option HO)=some u:=z;cases z') (fun b z=>absurd rfl z) fun z=>absurd rfl z
 | none=>
  refine core (fun b=>if b=a then some (.frz { cls:=.type "list",data:=.seq vs.toArray } (.lst (ns.map V.int))) else none) (fun b=>?_) (.inl (.inr ⟨{ cls:=.type "list",data:=.seq vs.toArray },if_pos rfl⟩)) (fun b u z=>?_) (fun b z=>?_) fun _=>hk
  ·by_cases hb:b=a
   ·exact .inr ⟨_,_,if_pos hb⟩
   ·exact .inl (if_neg hb)
  ·by_cases hb:b=a
   ·have z':=(if_pos hb).symm.trans z;cases z';subst hb;exact ⟨ha,by rw [A0];exact hl,vs,_,rv,ha⟩
   ·have z':=(if_neg hb).symm.trans z;cases z'
  ·by_cases hb:b=a
   ·exact hb
   ·exact absurd (if_neg hb) z
theorem walk_of {l:PySem.W.OpenLaw} {n k:Nat} {q:Program} {loose:List Str} {XP:(Str->Option Value)->Heap->Prop} {YP:World->Heap->Prop} {d:DefRec} {K:Params->PySem.W.Frag} {CX:World->CXT} {sp:World->Sp} {x:Str}
  (hn:l.most=some n) (hn2:n<=sizeLine) (hdf:d.params.defaults=[]) (hr:Room k callerA)
  (hY:∀ (w:World) (h:Heap),YP w h->(K w.params).In h)
  (F:∀ (w:World) (mg:Str->Option Value) (fa:Addr) (h:Heap),(K w.params).In h->h.Ns mainGlobals mg->mg d.name=some (.ref fa)->
   ∃ fd:FuncData,(∀ (s:Shared) (u:Value),BindsTo s fd ⟨[u],[]⟩ [(x,u)])/\
    ∀ base:Heap,(K w.params).In base->base.Ns mainGlobals mg->FnOk l.prog w (K w.params) mg base (CX w) k fa fd [x] (sp w))
  (hsp:∀ (w:World) (H:Hp) (a:Addr) (ns:List Int),ns.length<=n->Only H->SqL (K w.params) H a (ns.map V.int)->sp w [.ref a] H (fun v _=>v=.bl true) fun _ _ _=>False)
  (hCX:∀ (w:World) (H:Hp) (s:Shared) (e:Value) (s':Shared),CX w [] H s (fun _ _ _=>False) e s'->False) :
  PySem.W.WalkO q loose XP YP l.row.toRowW d [] (fun f vs=>B68 f vs):=by
 refine Att.attach_call hn hdf fun w s₀ s₁ mg mb fa o pm cd doc a vs ns G Y ho hd hcd hmg hobj hints hlen hg=>?_;have KX:=hY w _ Y;obtain ⟨fd,hb,hF⟩:=F w mg fa _ KX G.T.g hmg;exact qVZ KX G.T.g G.T.b G.T.builtins G.T.nolimit hg hobj hints (M5 hlen hn2) hr hF hb (fun H hO hS=>hsp w H a ns hlen hO hS) fun H e s'=>hCX w H s₁ e s'
def qI5 (s:Stmt):Arguments:=match s with
 | .FunctionDef _ a _ _ _ _ _ _ _ _=>a
 | _=>{ posonlyargs:=[],args:=[],vararg:=none,kwonlyargs:=[],kw_defaults:=[],kwarg:=none,defaults:=[] }
def qGQ (s:Stmt):List Stmt:=match s with
 | .FunctionDef _ _ b _ _ _ _ _ _ _=>b
 | _=>[]
def qAE (s:Stmt):Scope:=match s with
 | .FunctionDef _ _ _ _ _ _ sc _ _ _=>sc
 | _=>{ kind:=.function,names:=[],isGenerator:=false,isCoroutine:=false }
abbrev CX0:CXT:=fun _ _ _ _ _ _=>False
abbrev E0:XK:=fun _ _ _=>False
theorem qbF {X:Cx}:qV3 CX0 X E0:=fun _ _ _ _ _ _ _ h=>h.elim
structure Fun (K:PySem.W.Frag) (x qual:Str) (st:Stmt) (f:Addr) (fd:FuncData):Prop where
 ex:∃ (oc:Value) (od:Option Addr) (kV doc pm:Value) (an:Option Addr) (cdv ct:Value) (osl:Array (Option Value)),
  fd=g9 x qual (qI5 st) (qGQ st) (qAE st) .none kV doc pm an cdv ct/\K.lookup f=some ⟨oc,od,.func fd,osl⟩/\A17 K cdv qual=true
 kp:X7 K (.ref f)=true
section
variable {P:Program} {w:World} {K:PySem.W.Frag} {mg:Str->Option Value} {base:Heap}
theorem Fun.ok {x qual:Str} {st:Stmt} {f:Addr} {fd:FuncData} {N ps:List Str} {k:Nat} {sp:Sp} (F:Fun K x qual st f fd) (S:FnScope N ps (qAE st)) (len:∀ vs H Q E,sp vs H Q E->vs.length=ps.length)
  (hbody:∀ (cdv:Value) (A:Around) (outer:List Env) (s:Shared) (H:Hp) (vs:List V) (Q:VK) (E:XK),Room k (A.deeper (envOfC qual (qAE st) s.heap.objs.size f cdv))->sp vs H Q E->
   ∃ t,PSs (cxOf CX0 P w K mg base N qual (qAE st) f cdv A outer s H E).nox (qGQ st) t/\t { nx:=fun _ H'=>Q .non H',rt:=Q } (start N vs) H):FnOk P w K mg base CX0 (k+1) f fd ps sp:=by
 obtain ⟨oc,od,kV,doc,pm,an,cdv,ct,osl,rfl,lk,hcd⟩:=F.ex;refine qbM lk hcd S len fun A outer s H vs Q E hr hsp=>?_;obtain ⟨t,h,q⟩:=hbody cdv A outer s H vs Q E hr hsp;exact ⟨t,h.nox,q⟩
theorem Fun.binds {x qual:Str} {st:Stmt} {f:Addr} {fd:FuncData} {ps:List Str} (F:Fun K x qual st f fd)
  (h:∀ (kV doc pm:Value) (an:Option Addr) (cdv ct:Value) (us:List Value),us.length=ps.length->bindArgs (g9 x qual (qI5 st) (qGQ st) (qAE st) .none kV doc pm an cdv ct) ⟨us,[]⟩=pure (ps.zip us)):Binds K fd ps []:=by
 obtain ⟨oc,od,kV,doc,pm,an,cdv,ct,osl,rfl,lk,hcd⟩:=F.ex;exact .all (h kV doc pm an cdv ct)
theorem fun_mk {x qual:Str} {st:Stmt} {f:Addr} {oc:Value} {od an:Option Addr} {osl:Array (Option Value)} {kV doc pm cdv ct:Value} (l:K.lookup f=some ⟨oc,od,.func (g9 x qual (qI5 st) (qGQ st) (qAE st) .none kV doc pm an cdv ct),osl⟩)
  (c:A17 K cdv qual=true) (k:X7 K (.ref f)=true):Fun K x qual st f (g9 x qual (qI5 st) (qGQ st) (qAE st) .none kV doc pm an cdv ct):=⟨⟨oc,od,kV,doc,pm,an,cdv,ct,osl,rfl,l,c⟩,k⟩
end
theorem qGD {A:Around} {k:Nat} (hr:Room k A):A.units+1<cLine:=X2 (Nat.add_le_add_left (by decide:1<=64) _) hr.units
theorem qBJ {n:Nat} (h:n<=1000):n<sizeLine:=X2 h (by decide)
section
variable {X:Cx}
theorem pv (i:Nat) {x:Str} {pos:Pos} (hN:X.N[i]?=some x:=by rfl) (hv:Vis X.env.scope x:=by first | exact E8 rfl | exact B31 (E8 rfl) | exact B31 (B31 rfl)) (hd:(x == ("__debug__" : Str))=false:=by decide)
  (hcd:(x == ("__classdict__" : Str))=false:=by decide):PE X (.Name x pos) (tVar i):=qZW hN hv hd hcd
end
theorem iteF {A B:Prop} (h:B):if false=true then A else B:=by
 rw [if_neg C3];exact h
theorem iteT {A B:Prop} (h:A):if true=true then A else B:=by
 rw [if_pos rfl];exact h
theorem ite2 {c A B:Prop} [Decidable c] (h1:c->A) (h2:¬ c->B):if c then A else B:=by
 by_cases h:c
 ·rw [if_pos h];exact h1 h
 ·rw [if_neg h];exact h2 h
def Same (H H':Hp):Prop:=∀ b o,H b=some o->H' b=some o
theorem Same.refl (H:Hp):Same H H:=fun _ _ h=>h
theorem Same.trans {H H1 H2:Hp} (a:Same H H1) (b:Same H1 H2):Same H H2:=fun c o h=>b c o (a c o h)
theorem Same.free {H H':Hp} (e:Same H H') {l:Addr} (h:H' l=B85):H l=B85:=by
 cases q:H l with
 | none=>rfl
 | some o=>
  rw [e l o q] at h;cases h
section
variable {κ:Type} [DecidableEq κ]
def valV (Af:List (κ × V)) (k:κ):Option V:=(Af.find? fun kv=>decide (kv.1=k)).map (·.2)
def putK (Af:List (κ × V)) (k:κ) (v:V):List (κ × V):=
 if (Af.any fun kv=>decide (kv.1=k))=true then Af.map (fun kv=>if kv.1=k then (kv.1,v) else kv) else Af++[(k,v)]
theorem qBX {p:κ × V} {r:List (κ × V)} {k:κ} (e:p.1=k):valV (p::r) k=some p.2:=by simp [valV,Y3,e]
theorem qC9 {p:κ × V} {r:List (κ × V)} {k:κ} (e:¬ p.1=k):valV (p::r) k=valV r k:=by simp [valV,Y3,e]
theorem qIV (k:κ):∀ Af:List (κ × V),(Af.any fun kv=>decide (kv.1=k))=(valV Af k).isSome
 | []=>rfl
 | p::r=>by
  rw [i9];by_cases e:p.1=k
  ·simp only [qBX e,decide_eq_true e,Bool.true_or,Option.isSome_some]
  ·rw [qC9 e,decide_eq_false e,B71];exact qIV k r
theorem qPD (k j:κ) (y:V):∀ Af:List (κ × V),valV (Af.map fun kv=>if kv.1=k then (kv.1,y) else kv) j=(valV Af j).map fun x=>if j=k then y else x
 | []=>rfl
 | p::r=>by
  have ih:=qPD k j y r;rw [E7];by_cases h:p.1=k
  ·rw [if_pos h];by_cases e:p.1=j
   ·rw [qBX (p:=(p.1,y)) e,qBX e,Y4,if_pos (e.symm.trans h)]
   ·rw [qC9 (p:=(p.1,y)) e,qC9 e,ih]
  ·rw [if_neg h];by_cases e:p.1=j
   ·rw [qBX (p:=p) e,qBX e,Y4,if_neg (fun z=>h (e.trans z))]
   ·rw [qC9 (p:=p) e,qC9 e,ih]
theorem qM8 (k j:κ) (y:V):∀ Af:List (κ × V),valV Af k=none->valV (Af++[(k,y)]) j=if j=k then some y else valV Af j
 | [],_=>by
  by_cases e:k=j
  ·rw [if_pos e.symm];exact qBX (p:=(k,y)) e
  ·rw [if_neg (fun z=>e z.symm)];exact qC9 (p:=(k,y)) e
 | p::r,hn=>by
  rw [List.cons_append];have hk:¬ p.1=k:=fun z=>by rw [qBX z] at hn;cases hn
  rw [qC9 hk] at hn;have ih:=qM8 k j y r hn;by_cases e:p.1=j
  ·rw [qBX e,qBX e,if_neg (fun z=>hk (e.trans z))]
  ·rw [qC9 e,qC9 e,ih]
theorem qH2 (Af:List (κ × V)) (k j:κ) (y:V):valV (putK Af k y) j=if j=k then some y else valV Af j:=by
 unfold putK;by_cases a:(Af.any fun kv=>decide (kv.1=k))=true
 ·rw [if_pos a,qPD];rw [qIV] at a;by_cases e:j=k
  ·obtain ⟨x,hx⟩:=A22.mp a;rw [if_pos e,e,hx,Y4,if_pos rfl]
  ·rw [if_neg e];cases valV Af j with
   | none=>rfl
   | some x=>rw [Y4,if_neg e]
 ·rw [if_neg a];refine qM8 k j y Af ?_;rw [qIV] at a;cases q:valV Af k with
  | none=>rfl
  | some x=>rw [q] at a;exact (a rfl).elim
theorem qBR (Af:List (κ × V)) (k:κ) (v:V):(putK Af k v).length<=Af.length+1:=by
 unfold putK
 split
 ·rw [A0];omega
 ·rw [B0,D9,P0];omega
theorem RelO.isSome_eq {o:Option V} {u:Option Value} (r:RelO o u):o.isSome=u.isSome:=by
 cases o with
 | none=>cases u with
  | none=>rfl
  | some _=>exact (show False from r).elim
 | some _=>cases u with
  | none=>exact (show False from r).elim
  | some _=>rfl
theorem KV.val {Af:List (κ × V)} {vs:List (κ × Value)} (r:KV Af vs) (k:κ):RelO (valV Af k) (valueAt vs k):=by
 unfold KV at r
 induction r with
 | nil=>exact d4
 | @cons p q ps qs h t ih=>
  obtain ⟨h1,h2⟩:=h;by_cases e:p.1=k
  ·have e':q.1=k:=h1.symm.trans e;have b:valueAt (q::qs) k=some q.2:=by simp [valueAt,Y3,e']
   rw [qBX e,b];exact h2
  ·have e':¬ q.1=k:=fun z=>e (h1.trans z);have b:valueAt (q::qs) k=valueAt qs k:=by simp [valueAt,Y3,e']
   rw [qC9 e,b];exact ih
theorem KV.any {Af:List (κ × V)} {vs:List (κ × Value)} (r:KV Af vs) (k:κ):(Af.any fun kv=>decide (kv.1=k))=vs.any fun kv=>decide (kv.1=k):=by
 unfold KV at r
 induction r with
 | nil=>rfl
 | cons h t ih=>rw [i9,i9,ih,h.1]
theorem KV.repl {Af:List (κ × V)} {vs:List (κ × Value)} (r:KV Af vs) (k:κ) {y:V} {u:Value} (ry:RelV y u) :
  KV (Af.map fun kv=>if kv.1=k then (kv.1,y) else kv) (vs.map fun kv=>if kv.1=k then (kv.1,u) else kv):=by
 unfold KV at r ⊢
 induction r with
 | nil=>exact .nil
 | @cons p q ps qs h t ih=>
  rw [E7,E7];refine .cons ?_ ih;obtain ⟨h1,h2⟩:=h;by_cases e:p.1=k
  ·rw [if_pos e,if_pos (h1.symm.trans e)];exact ⟨h1,ry⟩
  ·rw [if_neg e,if_neg (fun z=>e (h1.trans z))];exact ⟨h1,h2⟩
theorem KV.put {Af:List (κ × V)} {vs:List (κ × Value)} (r:KV Af vs) (k:κ) {y:V} {u:Value} (ry:RelV y u):KV (putK Af k y) (stored vs k u):=by
 unfold putK stored;rw [r.any k];by_cases e:(vs.any fun kv=>decide (kv.1=k))=true
 ·rw [if_pos e,if_pos e];exact r.repl k ry
 ·rw [if_neg e,if_neg e];exact o9 r ⟨rfl,ry⟩
theorem KV.length {Af:List (κ × V)} {vs:List (κ × Value)} (r:KV Af vs):Af.length=vs.length:=C8 r
end
theorem qRE {P:Program} {w:World} {k:Key} {u:Value} (r:RelV (kV k) u):(qC2 P w).is k u=true:=by
 cases k with
 | inl i=>obtain ⟨t,e⟩:=(show ∃ t,u=R0 i t from r);subst e;exact qOE P w i t
 | inr x=>obtain ⟨t,e⟩:=(show ∃ t,u=B48 x t from r);subst e;exact qOD P w x t
theorem qN9 {P:Program} {w:World}:∀ {ks:List Key} {us:List Value},Vals (ks.map kV) us->ItemsAre (qC2 P w) ks us
 | [],_,r=>by rw [t8] at r;cases r;exact .nil
 | k::ks,_,r=>by
  rw [E7] at r;cases r with
  | cons h t=>exact .cons (qRE h) (qN9 t)
abbrev KT (H:Hp):List (List Key × V)->List (List Key × Addr × Value)->Prop:=Paired fun p q=>p.1=q.1/\H q.2.1=some (.tup (p.1.map kV))/\RelV p.2 q.2.2
theorem KT.val {H:Hp} {Af:List (List Key × V)} {xs:List (List Key × Addr × Value)} (r:KT H Af xs) (k:List Key):RelO (valV Af k) ((atKey xs k).map (·.2)):=by
 induction r with
 | nil=>exact d4
 | @cons p q ps qs h t ih=>
  obtain ⟨h1,_,h2⟩:=h;by_cases e:p.1=k
  ·have e':q.1=k:=h1.symm.trans e;have b:atKey (q::qs) k=some q.2:=by simp [atKey,Y3,e']
   rw [qBX e,b];exact h2
  ·have e':¬ q.1=k:=fun z=>e (h1.trans z);have b:atKey (q::qs) k=atKey qs k:=by simp [atKey,Y3,e']
   rw [qC9 e,b];exact ih
theorem KT.repl {H:Hp} {Af:List (List Key × V)} {xs:List (List Key × Addr × Value)} (r:KT H Af xs) (k:List Key) {y:V} {u:Value} (ry:RelV y u) :
  KT H (Af.map fun kv=>if kv.1=k then (kv.1,y) else kv) (xs.map (putAt k u)):=by
 induction r with
 | nil=>exact .nil
 | @cons p q ps qs h t ih=>
  rw [E7,E7];refine .cons ?_ ih;obtain ⟨h1,h2,h3⟩:=h;unfold putAt;by_cases e:p.1=k
  ·rw [if_pos e,if_pos (h1.symm.trans e)];exact ⟨h1,h2,ry⟩
  ·rw [if_neg e,if_neg (fun z=>e (h1.trans z))];exact ⟨h1,h2,h3⟩
theorem KT.put {H:Hp} {Af:List (List Key × V)} {xs:List (List Key × Addr × Value)} (r:KT H Af xs) (k:List Key) {b:Addr} {y:V} {u:Value} (hb:H b=some (.tup (k.map kV))) (ry:RelV y u) :
  KT H (putK Af k y) (storedH xs k b u):=by
 have e:(Af.any fun kv=>decide (kv.1=k))=(atKey xs k).isSome:=by
  rw [qIV,(r.val k).isSome_eq,Y5]
 unfold putK storedH;rw [e];by_cases q:(atKey xs k).isSome=true
 ·rw [if_pos q,if_pos q];exact r.repl k ry
 ·rw [if_neg q,if_neg q];exact o9 r ⟨rfl,hb,ry⟩
theorem KT.keeps {H H':Hp} {Af:List (List Key × V)} {xs:List (List Key × Addr × Value)} (r:KT H Af xs) (ht:∀ b ys,H b=some (.tup ys)->H' b=some (.tup ys)):KT H' Af xs:=
 Paired.mapP r fun _ _ z=>⟨z.1,ht _ _ z.2.1,z.2.2⟩
section
variable {P:Program} {w:World} {H:Hp} {h:Heap} {a:Addr}
theorem qZS {u:HO} (ok:HOk P w H h) (e:Rd H a u):ObjOk P w H h a u:=e.ok ok
theorem qU7 {Af:List (Key × V)} (ok:HOk P w H h) (e:Rd H a (.dK Af)):Af.length<=sizeLine/\(a == sysModules)=false/\∃ vs,KV Af vs/\h.DictOf (qC2 P w) a vs:=
 show ObjOk P w H h a (.dK Af) from qZS ok e
theorem qaN {Af:List (Key × V)} (ok:HOk P w H h) (e:H a=some (.dK Af)):Af.length<=sizeLine/\(a == sysModules)=false/\∃ vs,KV Af vs/\h.DictOf (qC2 P w) a vs:=qU7 ok (.inl e)
theorem qN8 {ks:List Key} (ok:HOk P w H h) (e:H a=some (.tup (ks.map kV))):(tupleKind (qC2 P w)).is h ks a:=by
 obtain ⟨_,its,r,o,h1,h2,n,h3⟩:=(show ObjOk P w H h a (.tup (ks.map kV)) from ok a _ e);exact ⟨o,its.toArray,n,h1,h2,h3,by simpa using qN9 r⟩
theorem qU6 {Af:List (List Key × V)} (ok:HOk P w H h) (e:Rd H a (.dT Af)):Af.length<=sizeLine/\(a == sysModules)=false/\
  ∃ xs,KT H Af xs/\h.DictOfH (tupleKind (qC2 P w)) a xs:=by
 obtain ⟨z,y,xs,r,o,es,ep,h1,h2,h3,h4,h5⟩:=(show ObjOk P w H h a (.dT Af) from qZS ok e);refine ⟨z,y,xs,r,o,es,ep,h1,h2,h3,h4,fun x hx=>?_,h5⟩;have all:∀ {l:List (List Key × V)} {m:List (List Key × Addr × Value)},KT H l m->∀ x ∈ m,(tupleKind (qC2 P w)).is h x.1 x.2.1:=by
  intro l m q
  induction q with
  | nil=>intro x hx;exact nomatch hx
  | @cons p q ps qs hq t ih=>
   intro x hx;rcases C9.mp hx with e | hx
   ·subst e;exact qN8 ok (by rw [<- hq.1];exact hq.2.1)
   ·exact ih x hx
 exact all r x hx
theorem qbN {Af:List (List Key × V)} (ok:HOk P w H h) (e:H a=some (.dT Af)):Af.length<=sizeLine/\(a == sysModules)=false/\
  ∃ xs,KT H Af xs/\h.DictOfH (tupleKind (qC2 P w)) a xs:=qU6 ok (.inl e)
end
def DGet (H:Hp) (a:Addr) (y:V) (r:Option V):Prop:=
 (∃ Af k,Rd H a (.dK Af)/\y=kV k/\r=valV Af k)\/∃ Af k b,Rd H a (.dT Af)/\y=.ref b/\H b=some (.tup (k.map kV))/\r=valV Af k
def DPut (H:Hp) (a:Addr) (y v:V) (H':Hp):Prop:=
 (∃ Af k,H a=some (.dK Af)/\y=kV k/\Af.length<sizeLine/\H'=Ag H a (.dK (putK Af k v)))\/
 ∃ Af k b,H a=some (.dT Af)/\y=.ref b/\H b=some (.tup (k.map kV))/\Af.length<sizeLine/\H'=Ag H a (.dT (putK Af k v))
theorem DGet.k {H:Hp} {a:Addr} {Af:List (Key × V)} {k:Key} (e:H a=some (.dK Af)):DGet H a (kV k) (valV Af k):=.inl ⟨Af,k,.inl e,rfl,rfl⟩
theorem DPut.k {H:Hp} {a:Addr} {Af:List (Key × V)} {k:Key} {v:V} (e:H a=some (.dK Af)) (hl:Af.length<sizeLine):DPut H a (kV k) v (Ag H a (.dK (putK Af k v))):=.inl ⟨Af,k,e,rfl,hl,rfl⟩
theorem DPut.t {H:Hp} {a b:Addr} {Af:List (List Key × V)} {k:List Key} {v:V} (e:H a=some (.dT Af)) (eb:H b=some (.tup (k.map kV))) (hl:Af.length<sizeLine) :
  DPut H a (.ref b) v (Ag H a (.dT (putK Af k v))):=.inr ⟨Af,k,b,e,rfl,eb,hl,rfl⟩
section
variable {X:Cx} {Ab:List (Addr × Obj)} {σ:St} {H:Hp} {s:Shared} {a:Addr} {y v:V} {u r:Value} {o:Option V} {A:Around} {E:Value->Shared->Prop}
theorem Inv.big (I:Inv X Ab σ H s):sysModules<s.heap.objs.size:=by
 have h:mainGlobals<s.heap.objs.size:=(I.mod.glob.keeps I.bk).lt;exact t9 (by decide) h
theorem qUE {Q:Value->Shared->Prop} (hu:A.units+1<cLine) (I:Inv X Ab σ H s) (g:DGet H a y (some v)) (ry:RelV y u) (h:∀ w' s',Inv X Ab σ H s'->RelV v w'->Q w' s') :
  wpAny (model X.prog X.w) A (getItem (.ref a) u) Q E s:=by
 rcases g with ⟨Af,k,e,ey,l⟩ | ⟨Af,k,b,e,ey,eb,l⟩
 ·subst ey;obtain ⟨z,hd,vs,rel,dd⟩:=qU7 I.hok e;obtain ⟨w',hw,rw'⟩:=RelO.some_of (v:=v) (o:=valueAt vs k) (by rw [l];exact rel.val k)
  exact wpAny_getItem_of (qRE ry) dd.mapOf hw (h w' _ (I.tok _) rw')
 ·subst ey;cases (show u=E6 b from ry);obtain ⟨z,hd,xs,rel,dd⟩:=qU6 I.hok e;obtain ⟨w',hw,rw'⟩:=RelO.some_of (v:=v) (o:=(atKey xs k).map (·.2)) (by rw [l];exact rel.val k)
  obtain ⟨p,hp,hp2⟩:=A56.mp hw;refine wpAny_getItem_heap (tupleKind_room_in1 hu) (qN8 I.hok eb) dd hp ?_;rw [hp2];exact h w' _ (I.tok _) rw'
theorem d_in {Q:Value->Shared->Prop} (hu:A.units+1<cLine) (I:Inv X Ab σ H s) (g:DGet H a y o) (ry:RelV y u) (h:∀ s',Inv X Ab σ H s'->Q (.bool o.isSome) s') :
  wpAny (model X.prog X.w) A (compareOp .In u (.ref a)) Q E s:=by
 rcases g with ⟨Af,k,e,ey,l⟩ | ⟨Af,k,b,e,ey,eb,l⟩
 ·subst ey;obtain ⟨z,hd,vs,rel,dd⟩:=qU7 I.hok e;refine wpAny_in_of (qRE ry) hd dd.mapOf ?_;rw [<- (rel.val k).isSome_eq,<- l];exact h _ (I.tok _)
 ·subst ey;cases (show u=E6 b from ry);obtain ⟨z,hd,xs,rel,dd⟩:=qU6 I.hok e;refine wpAny_in_heap (tupleKind_room_in1 hu) (qN8 I.hok eb) hd dd ?_;have q:=(rel.val k).isSome_eq;rw [Y5] at q;rw [<- q,<- l];exact h _ (I.tok _)
theorem qYU {Q:Value->Shared->Prop} (hu:A.units+1<cLine) (I:Inv X Ab σ H s) (g:DGet H a y o) (ry:RelV y u) (h:∀ s',Inv X Ab σ H s'->Q (.bool (!o.isSome)) s') :
  wpAny (model X.prog X.w) A (compareOp .NotIn u (.ref a)) Q E s:=by
 rcases g with ⟨Af,k,e,ey,l⟩ | ⟨Af,k,b,e,ey,eb,l⟩
 ·subst ey;obtain ⟨z,hd,vs,rel,dd⟩:=qU7 I.hok e;refine wpAny_notIn_of (qRE ry) hd dd.mapOf ?_;rw [<- (rel.val k).isSome_eq,<- l];exact h _ (I.tok _)
 ·subst ey;cases (show u=E6 b from ry);obtain ⟨z,hd,xs,rel,dd⟩:=qU6 I.hok e;refine wpAny_notIn_heap (tupleKind_room_in1 hu) (qN8 I.hok eb) hd dd ?_;have q:=(rel.val k).isSome_eq;rw [Y5] at q;rw [<- q,<- l];exact h _ (I.tok _)
theorem qOU {h':Heap} {t':Nat} {ob:HO} (I:Inv X Ab σ H s) (mu:Mut (H a)) (hs:Heap.SameBut a s.heap h') (he:∃ q,h'.get? a=some q) (new:ObjOk X.prog X.w (Ag H a ob) h' a ob) :
  Inv X Ab σ (Ag H a ob) { s with heap:=h',toks:=t' }:=
 I.write (x:=a) (e:=a) mu (.inl rfl) (fun b q hb z=>(hs.2 b hb).trans z) he new
theorem qXD {P:Program} {w:World} {H':Hp} {h':Heap} {Af:List (Key × V)} {vs:List (Key × Value)} (z:Af.length<=sizeLine) (hd:(a == sysModules)=false) (rel:KV Af vs) (dd:h'.DictOf (qC2 P w) a vs) :
  ObjOk P w H' h' a (.dK Af):=⟨z,hd,vs,rel,dd⟩
theorem qUD {H':Hp} {Q:Unit->Shared->Prop} (hu:A.units+1<cLine) (I:Inv X Ab σ H s) (g:DPut H a y v H') (ry:RelV y u) (rv:RelV v r) (h:∀ s',Inv X Ab σ H' s'->Q () s') :
  wpAny (model X.prog X.w) A (setItem (.ref a) u r) Q E s:=by
 rcases g with ⟨Af,k,e,ey,l,eH⟩ | ⟨Af,k,b,e,ey,eb,l,eH⟩
 ·subst ey eH;obtain ⟨z,hd,vs,rel,dd⟩:=qaN I.hok e;have hz:vs.length<=sizeLine:=by rw [<- rel.length];exact z
  have hl:(putK Af k v).length<=sizeLine:=by have:=qBR Af k v;omega
  refine wpAny_setItem_pairs (hsz:=hz) (qRE ry) dd fun h' dd' hs=>h _ ?_;have he:∃ q,h'.get? a=some q:=let ⟨q,_,_,hq,_⟩:=dd';⟨q,hq⟩
  exact qOU I (by rw [e];exact d4) hs he (qXD hl hd (rel.put k rv) dd')
 ·subst ey eH;cases (show u=E6 b from ry);obtain ⟨z,hd,xs,rel,dd⟩:=qbN I.hok e;have hz:xs.length<=sizeLine:=by rw [<- C8 rel];exact z
  have hl:(putK Af k v).length<=sizeLine:=by have:=qBR Af k v;omega
  refine wpAny_setItem_heap (hsz:=hz) (tupleKind_room_in1 hu) (qN8 I.hok eb) dd fun h' dd' hs=>h _ ?_;obtain ⟨q,es,ep,hq,h2,h3,h4,_,h5⟩:=dd';refine qOU I (by rw [e];exact d4) hs ⟨q,hq⟩ ⟨hl,hd,_,(rel.put k eb rv).keeps fun c ys ec=>?_,q,es,ep,hq,h2,h3,h4,h5⟩
  rw [qA9 (qCL ec e (fun z=>nomatch z))];exact ec
end
section
variable {X:Cx} {Ab:List (Addr × Obj)} {σ:St} {H:Hp} {s:Shared} {a:Addr} {Af:List (Key × V)} {k:Key} {u:Value} {A:Around} {E:Value->Shared->Prop}
end
def NoSl (i:Expr):Prop:=∀ ov iv,subscripted i false ov iv=operate [ov,iv] (getItem ov iv)
theorem qXR {prog:Program} {w:World} {A:Around} {E:Value->Shared->Prop} {s:Shared} {env:Env} {value slice:Expr} {pos:Pos} {T id:String} {Q:Value->Shared->Prop}
  (hl:typeLookup (.type T) "__getitem__" = pure (some (.builtin id))) (hs:NoSl slice)
  (h:wpAny (model prog w) A (eval value env) (fun o s₁=>wpAny (model prog w) A (eval slice env) (fun i s₂=>s₂.TypeIs o T/\wpAny (model prog w) A (getItem o i) Q E s₂) E s₁) E s) :
  wpAny (model prog w) A (eval (.Subscript value slice pos) env) Q E s:=by
 refine Subscript_ (wpAny_mono h (fun o s₁ h₁=>wpAny_mono h₁ (fun i s₂ h₂=>?_) fun _ _ x=>x) fun _ _ x=>x);obtain ⟨hT,h₂⟩:=h₂;unfold subscriptTail;refine wpAny_bind ?_;rw [getitemInPython_of_ne hT.not_modules];refine wpAny_bind (wpAny_specialOf hT hl ?_);have fin:wpAny (model prog w) A (subscripted slice false o i) (fun r s₃=>wpAny (model prog w) A (letTemporaryGo value o r >>= fun _=>pure r) Q E s₃) E s₂:=by
  rw [hs o i];exact wpAny_operating (wpAny_mono h₂ (fun r s₃ h₃=>wpAny_bind (wpAny_letTemporaryGo (wpAny_pure h₃))) fun _ _ x=>x)
 first
  | exact wpAny_pure (wpAny_bind fin)
  | exact wpAny_bind (wpAny_pure (wpAny_bind fin))
  | exact wpAny_bind fin
theorem qOT {X:Cx} {Ab:List (Addr × Obj)} {σ:St} {H:Hp} {s:Shared} {a:Addr} {y:V} {o:Option V} (I:Inv X Ab σ H s) (g:DGet H a y o):s.TypeIs (.ref a) "dict":=by
 rcases g with ⟨Af,k,e,_,_⟩ | ⟨Af,k,b,e,_,_,_⟩
 ·obtain ⟨_,_,vs,_,dd⟩:=qU7 I.hok e;exact dd.typeIs
 ·obtain ⟨_,_,xs,_,dd⟩:=qU6 I.hok e;exact dd.typeIs
def qb5 (td ty:TE):TE:=fun σ H Q=>td σ H fun x H1=>ty σ H1 fun y H2=>∃ a v,x=.ref a/\DGet H2 a y (some v)/\Q v H2
def tDIn (ty td:TE):TE:=fun σ H Q=>ty σ H fun y H1=>td σ H1 fun x H2=>∃ a o,x=.ref a/\DGet H2 a y o/\Q (.bl o.isSome) H2
def qXP (ty td:TE):TE:=fun σ H Q=>ty σ H fun y H1=>td σ H1 fun x H2=>∃ a o,x=.ref a/\DGet H2 a y o/\Q (.bl (!o.isSome)) H2
def qb9 (td ty tv:TE):TS:=fun D σ H=>tv σ H fun v H1=>td σ H1 fun x H2=>ty σ H2 fun y H3=>∃ a H4,x=.ref a/\DPut H3 a y v H4/\D.nx σ H4
section
variable {X:Cx} {o i e value:Expr} {pos pos' tpos:Pos} {td ty tv:TE}
theorem qCS (hu:X.A.units+1<cLine) (ho:PE X o td) (hi:PE X i ty) (hs:NoSl i):PE X (.Subscript o i pos) (qb5 td ty):=by
 intro Ab s σ H Q I h;refine qXR PySem.F.slot_dict_getitem.lookup hs (thn (ho Ab s σ H _ I h) fun u s1 ⟨x,H1,I1,rx,q1⟩=>thn (hi Ab s1 σ H1 _ I1 q1) fun iv s2 ⟨y,H2,I2,ry,a,v,ex,g,q2⟩=>?_);subst ex;obtain rfl:u=E6 a:=rx;exact ⟨qOT I2 g,qUE hu I2 g ry fun w' s3 I3 rw'=>⟨v,H2,I3,rw',q2⟩⟩
theorem qT2 (hu:X.A.units+1<cLine) (hi:PE X i ty) (ho:PE X o td):PC X .In i o (tDIn ty td):=by
 intro Ab s σ H Q I h;refine thn (hi Ab s σ H _ I h) fun iv s1 ⟨y,H1,I1,ry,q1⟩=>thn (ho Ab s1 σ H1 _ I1 q1) fun u s2 ⟨x,H2,I2,rx,a,ov,ex,g,q2⟩=>?_;subst ex;obtain rfl:u=E6 a:=rx;exact d_in hu I2 g ry fun s3 I3=>⟨.bl ov.isSome,H2,I3,rfl,q2⟩
theorem qHB (hu:X.A.units+1<cLine) (hi:PE X i ty) (ho:PE X o td):PC X .NotIn i o (qXP ty td):=by
 intro Ab s σ H Q I h;refine thn (hi Ab s σ H _ I h) fun iv s1 ⟨y,H1,I1,ry,q1⟩=>thn (ho Ab s1 σ H1 _ I1 q1) fun u s2 ⟨x,H2,I2,rx,a,ov,ex,g,q2⟩=>?_;subst ex;obtain rfl:u=E6 a:=rx;exact qYU hu I2 g ry fun s3 I3=>⟨.bl (!ov.isSome),H2,I3,rfl,q2⟩
theorem qFM (hu:X.A.units+1<cLine) (ho:PE X o td) (hi:PE X i ty) (hv:PE X value tv) (hs:swapsWith value (some (.Subscript o i pos')) pos.line X.env=pure false) :
  PS X (.Assign [.Subscript o i pos'] value pos) (qb9 td ty tv):=by
 intro Ab s σ H D I h;refine wpAny_Assign_Subscript (thn (hv Ab s σ H _ I h) fun r s1 ⟨v,H1,I1,rv,q1⟩=>thn (ho Ab s1 σ H1 _ I1 q1) fun u s2 ⟨x,H2,I2,rx,q2⟩=>thn (hi Ab s2 σ H2 _ I2 q2) fun iv s3 ⟨y,H3,I3,ry,a,H4,ex,g,q3⟩=>?_) hs;subst ex;obtain rfl:u=E6 a:=rx;exact qUD hu I3 g ry rv fun s4 I4=>⟨σ,H4,I4,q3⟩
end
theorem qQE {P:Program} {w:World} {H:Hp} (h:Heap) (hb:sysModules<h.objs.size):ObjOk P w H (h.push { cls:=.type "dict",data:=.dict #[] }) h.objs.size (.dK []):=
 ⟨F5 _,beq_eq_false_iff_ne.mpr (O1 (E2 hb)),[],.nil,Heap.DictOf.new h⟩
theorem qWC {P:Program} {w:World} {H:Hp} (h:Heap) (hb:sysModules<h.objs.size):ObjOk P w H (h.push { cls:=.type "dict",data:=.dict #[] }) h.objs.size (.dT []):=
 ⟨F5 _,beq_eq_false_iff_ne.mpr (O1 (E2 hb)),[],.nil,_,#[],0,B9 _ rfl,⟨rfl,rfl,rfl⟩,rfl,rfl,List.nodup_nil⟩
def qZE:TE:=fun _ H Q=>∀ p,H p=none->Q (.ref p) (Ag H p (.dK []))
def qZD:TE:=fun _ H Q=>∀ p,H p=none->Q (.ref p) (Ag H p (.dT []))
section
variable {X:Cx} {pos:Pos}
theorem qPW:PE X (.Dict [] [] pos) qZE:=fun Ab s σ H Q I h=>
 wpAny_Dict_empty ⟨.ref s.heap.objs.size,_,I.laid (a:=s.heap.objs.size) (o:=.dK []) (t':=s.toks) (fun _ _ q=>A8 _ q) (B3 _) (qQE s.heap I.big),rfl,h _ (I.hok.fresh (B3 _))⟩
theorem qVN:PE X (.Dict [] [] pos) qZD:=fun Ab s σ H Q I h=>
 wpAny_Dict_empty ⟨.ref s.heap.objs.size,_,I.laid (a:=s.heap.objs.size) (o:=.dT []) (t':=s.toks) (fun _ _ q=>A8 _ q) (B3 _) (qWC s.heap I.big),rfl,h _ (I.hok.fresh (B3 _))⟩
end
def qSA:List (TE × TE)->St->Hp->(List (V × V)->Hp->Prop)->Prop
 | [],_,H,Q=>Q [] H
 | (tk,tv)::r,σ,H,Q=>tk σ H fun x H1=>tv σ H1 fun y H2=>qSA r σ H2 fun ps H3=>Q ((x,y)::ps) H3
abbrev VV:List (V × V)->List (Value × Value)->Prop:=Paired fun p q=>RelV p.1 q.1/\RelV p.2 q.2
def PPs (X:Cx) (pos:Pos) (keys:List (Option Expr)) (values:List Expr) (trs:List (TE × TE)):Prop:=
 ∀ (Ab:List (Addr × Obj)) (s:Shared) (σ:St) (H:Hp) (Q:List (V × V)->Hp->Prop),Inv X Ab σ H s->qSA trs σ H Q->
  wpAny (model X.prog X.w) X.A (evalPairs (pairTrees keys values X.env pos)) (fun vs s'=>∃ ps H',Inv X Ab σ H' s'/\VV ps vs/\Q ps H') X.xe s
theorem qO8 {X:Cx} {pos:Pos}:PPs X pos [] [] []:=fun Ab s σ H Q I h=>pairTrees_nil_walk ⟨[],H,I,.nil,h⟩
theorem qHA {X:Cx} {pos:Pos} {k v:Expr} {ks:List (Option Expr)} {vs:List Expr} {tk tv:TE} {trs:List (TE × TE)} (hk:PE X k tk) (hv:PE X v tv) (hr:PPs X pos ks vs trs) :
  PPs X pos (some k::ks) (v::vs) ((tk,tv)::trs):=fun Ab s σ H Q I h=>
 pairTrees_cons_walk (thn (hk Ab s σ H _ I h) fun u s1 ⟨x,H1,I1,rx,q1⟩=>thn (hv Ab s1 σ H1 _ I1 q1) fun w2 s2 ⟨y,H2,I2,ry,q2⟩=>
  thn (hr Ab s2 σ H2 _ I2 q2) fun ws s3 ⟨ps,H3,I3,rel,q3⟩=>⟨(x,y)::ps,H3,I3,.cons ⟨rx,ry⟩ rel,q3⟩)
def qFO (Af more:List (Key × V)):List (Key × V):=more.foldl (fun acc kv=>putK acc kv.1 kv.2) Af
theorem KV.merge:∀ {more:List (Key × V)} {rs:List (Key × Value)} {Af:List (Key × V)} {vs:List (Key × Value)},KV more rs->KV Af vs->KV (qFO Af more) (merged vs rs):=by
 intro more rs Af vs r;unfold KV at r
 induction r generalizing Af vs with
 | nil=>intro q;exact q
 | @cons p q ps qs h t ih=>
  intro r0;have e:KV (putK Af p.1 p.2) (stored vs q.1 q.2):=by
   have:=r0.put p.1 h.2;rw [<- h.1];exact this
  exact ih e
theorem qHF:∀ (more Af:List (Key × V)),(qFO Af more).length<=Af.length+more.length
 | [],Af=>by show Af.length<=Af.length+0;omega
 | p::r,Af=>by
  have h1:=qHF r (putK Af p.1 p.2);have h2:=qBR Af p.1 p.2;show (qFO (putK Af p.1 p.2) r).length<=_;rw [D9];omega
theorem qL1 {P:Program} {w:World}:∀ {Af:List (Key × V)} {ws:List (Value × Value)},VV (Af.map fun kv=>(kV kv.1,kv.2)) ws->∃ rs,Carries (qC2 P w) ws rs/\KV Af rs
 | [],_,r=>by rw [t8] at r;cases r;exact ⟨[],d4,.nil⟩
 | p::Af,_,r=>by
  rw [E7] at r;cases r with
  | @cons a b as bs h t=>
   obtain ⟨rs,c,q⟩:=qL1 (P:=P) (w:=w) t;obtain ⟨b1,b2⟩:=b;exact ⟨(p.1,b2)::rs,⟨qRE h.1,rfl,c⟩,.cons ⟨rfl,h.2⟩ q⟩
def qb4 (trs:List (TE × TE)):TE:=fun σ H Q=>∀ p,H p=none->qSA trs σ (Ag H p (.dK [])) fun ps H2=>H2 p=some (.dK [])/\∃ Af:List (Key × V),ps=Af.map (fun kv=>(kV kv.1,kv.2))/\Af.length<=15/\Q (.ref p) (Ag H2 p (.dK (qFO [] Af)))
theorem qO9 {X:Cx} {pos:Pos} {keys:List (Option Expr)} {values:List Expr} {trs:List (TE × TE)} (h:PPs X pos keys values trs) (hall:keys.all (·.isSome)=true) (hl:keys.length=values.length) (h0:keys ≠ [])
  (h15:keys.length<=15):PE X (.Dict keys values pos) (qb4 trs):=by
 intro Ab s σ H Q I q;have hn:=I.hok.fresh (B3 s.heap.objs.size);have I1:=I.laid (a:=s.heap.objs.size) (o:=.dK []) (h':=s.heap.push { cls:=.type "dict",data:=.dict #[] }) (t':=s.toks) (fun _ _ q=>A8 _ q) (B3 _) (qQE s.heap I.big);refine wpAny_Dict_walk (knd:=qC2 X.prog X.w) hall hl h0 h15 (thn (h Ab _ σ _ _ I1 (q _ hn)) fun ws s2 ⟨ps,H2,I2,rel,e,Af,ep,lk,q2⟩=>?_);subst ep;obtain ⟨rs,c,rk⟩:=qL1 (P:=X.prog) (w:=X.w) rel;obtain ⟨z,hd,vs0,r0,dd⟩:=qaN I2.hok e;cases r0;refine ⟨rs,c,dd,fun h' dd' hs=>⟨.ref s.heap.objs.size,_,?_,rfl,q2⟩⟩;have hz:(qFO [] Af).length<=sizeLine:=by
  have h1:=qHF Af [];rw [P0] at h1;rw [sizeLine_eq];omega
 have he:∃ q,h'.get? s.heap.objs.size=some q:=let ⟨q,_,_,hq,_⟩:=dd';⟨q,hq⟩
 exact qOU I2 (by rw [e];exact d4) hs he (qXD hz hd (rk.merge .nil) dd')
structure M1 (X:Cx) (o:Expr) (m:Str) (apos:Pos) (e:Expr) (cpos:Pos):Prop where
 base:attributeBase o m X.env (eval o X.env)=eval o X.env
 few:((backTo cpos (starEach [e] X.env)).all (fun x=>!x.1) && (backToKw cpos (keywordEach [] X.env)).all (fun x=>x.1.isSome)
  && decide (([e]:List Expr).length+([]:List Keyword).length+(if ([]:List Keyword).isEmpty then 0 else 1)<30))=true
 line:(apos.endLine == cpos.line)=true
 trees:backTo cpos (starEach [e] X.env)=[(false,eval e X.env)]
structure M2 (X:Cx) (o:Expr) (m:Str) (apos:Pos) (e f:Expr) (cpos:Pos):Prop where
 base:attributeBase o m X.env (eval o X.env)=eval o X.env
 few:((backTo cpos (starEach [e,f] X.env)).all (fun x=>!x.1) && (backToKw cpos (keywordEach [] X.env)).all (fun x=>x.1.isSome)
  && decide (([e,f]:List Expr).length+([]:List Keyword).length+(if ([]:List Keyword).isEmpty then 0 else 1)<30))=true
 line:(apos.endLine == cpos.line)=true
 trees:backTo cpos (starEach [e,f] X.env)=[(false,eval e X.env),(false,eval f X.env)]
section
variable {X:Cx} {Ab:List (Addr × Obj)} {σ:St} {H:Hp} {s:Shared} {a:Addr} {y d:V} {u r:Value} {o:Option V} {A:Around} {E:Value->Shared->Prop}
end
section
variable {X:Cx} {o e f:Expr} {apos cpos:Pos} {td ty tx:TE}
end
section
variable {X:Cx} {Ab:List (Addr × Obj)} {σ:St} {H:Hp} {s:Shared} {a:Addr} {Af:List (Key × V)} {A:Around} {E:Value->Shared->Prop}
end
section
variable {X:Cx} {Ab:List (Addr × Obj)} {σ:St} {H:Hp} {s:Shared} {a:Addr} {y:V} {u:Value} {A:Around} {E:Value->Shared->Prop}
end
section
variable {X:Cx}
end
section
variable {κ:Type} [DecidableEq κ]
theorem qJL:∀ {l:List κ} {k:κ},l.Nodup->¬ k ∈ l->(l++[k]).Nodup
 | [],k,_,_=>by simp
 | a::r,k,h,hk=>by
  obtain ⟨h1,h2⟩:=O0.mp h;show (a::(r++[k])).Nodup;refine O0.mpr ⟨fun m=>?_,qJL h2 fun m=>hk (C9.mpr (B31 m))⟩;rcases C2.mp m with q | q
  ·exact h1 q
  ·exact hk (C9.mpr (E8 (B2.mp q).symm))
end
def noX:Value->Shared->Prop:=fun _ _=>False
def qIT (env:Env):List (Str × NameKind)->List (Str × Addr)->List (Str × Addr)
 | [],acc=>acc
 | (n,k)::r,acc=>qIT env r (if (k == Q5)=true then (n,(env.cells.lookup n).getD 0)::acc else acc)
theorem qK0 {env:Env}:∀ {names:List (Str × NameKind)} {acc:List (Str × Addr)},(∀ x,(x,Q5) ∈ names->∃ c,env.cells.lookup x=some c)->(∀ x c,acc.lookup x=some c->env.cells.lookup x=some c)->
  ∀ x c,(qIT env names acc).lookup x=some c->env.cells.lookup x=some c
 | [],acc,_,ha,x,c,h=>ha x c h
 | (n,k)::r,acc,hf,ha,x,c,h=>by
  refine qK0 (names:=r) (fun y hy=>hf y (B4 _ hy)) (fun y d hd=>?_) x c h
  split at hd
  ·rename_i hk
   have hk':k=Q5:=by simpa using hk
   subst hk';obtain ⟨e,he⟩:=hf n B5;by_cases hyn:y=n
   ·subst hyn;rw [V1,he] at hd;rw [he];exact hd
   ·rw [l9,beq_eq_false_iff_ne.mpr hyn] at hd;exact ha y d hd
  ·exact ha y d hd
theorem qK1 {env:Env}:∀ {names:List (Str × NameKind)} {acc:List (Str × Addr)} {x:Str},((x,Q5) ∈ names\/∃ c,acc.lookup x=some c)->∃ c,(qIT env names acc).lookup x=some c
 | [],acc,x,h=>by
  rcases h with h | h
  ·exact absurd h (by simp)
  ·exact h
 | (n,k)::r,acc,x,h=>by
  refine qK1 (names:=r) ?_;rcases h with h | ⟨c,h⟩
  ·rcases C9.mp h with e | h
   ·cases e;refine .inr ⟨(env.cells.lookup n).getD 0,?_⟩;rw [if_pos (by rfl),V1]
   ·exact .inl h
  ·refine .inr ?_
   split
   ·by_cases hyn:x=n
    ·subst hyn;exact ⟨_,V1⟩
    ·refine ⟨c,?_⟩;rw [l9,beq_eq_false_iff_ne.mpr hyn];exact h
   ·exact ⟨c,h⟩
theorem qJZ {env:Env} (f:Str × NameKind->List (Str × Addr)->Sem (ForInStep (List (Str × Addr))))
  (hf:∀ n k c,f (n,k) c=(if (k == Q5)=true then (do let a <- cellOf env n;pure (O5 ((n,a)::c))) else pure (O5 c))) :
  ∀ (names:List (Str × NameKind)) (acc:List (Str × Addr)),(∀ x,(x,Q5) ∈ names->∃ c,env.cells.lookup x=some c)->forIn names acc f=(pure (qIT env names acc):Sem _)
 | [],acc,_=>rfl
 | (n,k)::r,acc,h=>by
  have ih:=fun acc=>qJZ f hf r acc fun x hx=>h x (B4 _ hx);rw [W2,hf];by_cases hk:(k == Q5)=true
  ·have hk':k=Q5:=by simpa using hk
   subst hk';obtain ⟨c,hc⟩:=h n B5;rw [if_pos hk];unfold cellOf qIT;rw [hc,if_pos hk];exact ih _
  ·rw [if_neg hk];unfold qIT;rw [if_neg hk];exact ih _
theorem qRN {scope:Scope} {env:Env} (h:∀ x,(x,Q5) ∈ scope.names->∃ c,env.cells.lookup x=some c):closureFor scope env=pure (qIT env scope.names []):=by
 unfold closureFor;dsimp only;rw [qJZ (env:=env) _ (fun n k c=>?_) scope.names [] h]
 ·rfl
 ·rfl
theorem qED {env:Env} {x:Str}:∀ {names:List (Str × NameKind)},
  (names.map fun (n,k)=>if (k == Q5 && env.scope.kind == .function && env.kindOf n == some .cell)=true then (n,B72) else (n,k)).lookup x =
   (names.lookup x).map fun k=>if (k == Q5 && env.scope.kind == .function && env.kindOf x == some .cell)=true then B72 else k
 | []=>rfl
 | (n,k)::r=>by
  have ih:=@qED env x r;rw [E7];by_cases hx:x=n
  ·subst hx;dsimp only;rw [V1 (b:=k),Y4]
   split
   ·rw [V1]
   ·rw [V1]
  ·have hb:(x == n)=false:=beq_eq_false_iff_ne.mpr hx;dsimp only;rw [l9 (k:=n) (b:=k),hb];dsimp only;rw [<- ih]
   split
   ·rw [l9,hb]
   ·rw [l9,hb]
structure LcZ where
 L:Addr
 cl:List (Str × Addr)
 ex:List Addr
 s₀:Shared
 H₀:Hp
def lcCx (X:Cx) (scope:Scope) (own:List Str) (fv:List Nat) (z:LcZ):Cx where
 prog:=X.prog
 w:=X.w
 K:=X.K
 mg:=X.mg
 base:=X.base
 A:=X.A
 N:=own++fv.map fun i=>X.N.getD i g7
 s₀:=z.s₀
 H₀:=z.H₀
 env:=compEnvC scope z.cl z.L X.env
 outer:=X.stack
 stack:=X.stack
 ex:=z.ex
 fn:=fun _=>false
 calm:=X.calm
 pn:=[]
 xe:=noX
structure LcScope (X:Cx) (scope:Scope) (own:List Str) (fv:List Nat):Prop where
 kind:scope.kind=.function
 nocell:∀ y ∈ scope.names,y.2 ≠ .cell
 names:∀ y ∈ scope.names,y.2=.local->scope.names.lookup y.1=some .local
 free:∀ y ∈ scope.names,y.2=.free->X.env.kindOf y.1=some .cell\/X.env.kindOf y.1=some .free
 nd:(own++fv.map fun i=>X.N.getD i g7).Nodup
 fvs:∀ i ∈ fv,i<X.N.length/\scope.names.lookup (X.N.getD i g7)=some .free
def qJO (own:List Str) (fv:List Nat) (σ:St):St:=(own.map fun _=>none)++fv.map fun i=>(σ[i]?).join
theorem qNI {prog:Program} {w:World} {A:Around} {R:Result->Shared->Prop} {s:Shared} {elt target iter:Expr} {ifs:List Expr} {scope:Scope} {pos:Pos} {it acc:Value} {env:Env} (I:Nat->Shared->Prop)
  (turn:∀ n s,I n s->wpAny (model prog w) A (pyNext it) (fun r s₁=>match r with
   | none=>R (.ok .next) s₁
   | some v=>wpAny (model prog w) A (letOwnedTupleGo target it v) (fun _ s₁=>wpAny (model prog w) A (assign target env v) (fun _ s₂=>
     wpAny (model prog w) A (forIn ifs true fun c r=>if r=true then do let ok <- isTrue c env (eval c env);pure (O5 ok) else pure (O5 r)) (fun ok s₃=>
      if ok=true then wpAny (model prog w) A (eval elt env) (fun x s₄=>
       wpAny (model prog w) A (call (.builtin "list.append") [acc,x]) (fun _ s₅=>∃ m,m<n/\I m s₅) noX s₄) noX s₃
      else ∃ m,m<n/\I m s₃) noX s₂) noX s₁) noX s₁) noX s)
  (n:Nat) (h:I n s) :
  codeAny (model prog w) A (.compLoop (.ListComp elt [⟨target,iter,ifs,0⟩] scope pos) 0 it acc env) R s:=by
 refine codeAny_loop rfl I (fun n s hI=>?_) n h;show wpAny _ A ((compTurn (.ListComp elt [⟨target,iter,ifs,0⟩] scope pos) 0 it acc env).onRaise (fun x=>do noteFrame x env;theTreesLotGoes x)) _ _ s
 refine wpAny_noted ?_;rw [compTurn_list];refine wpAny_bind (wpAny_standAt (wpAny_bind (wpAny_mono (turn n s hI) (fun r s₁ h₁=>?_) fun _ _ h'=>h'.elim)));cases r with
 | none=>exact wpAny_pure h₁
 | some v=>
  refine wpAny_bind (wpAny_mono h₁ (fun _ s₁ h₁=>?_) fun _ _ h'=>h'.elim);refine wpAny_bind (wpAny_mono h₁ (fun _ s₂ h₂=>wpAny_bind (wpAny_mono h₂ (fun ok s₃ h₃=>?_) fun _ _ h'=>h'.elim)) fun _ _ h'=>h'.elim);cases ok with
  | false=>exact wpAny_pure ⟨rfl,h₃⟩
  | true=>
   exact wpAny_bind (wpAny_bind (wpAny_mono h₃ (fun x s₄ h₄=>wpAny_bind (wpAny_mono h₄ (fun _ s₅ h₅=>wpAny_pure (wpAny_pure ⟨rfl,h₅⟩)) fun _ _ h'=>h'.elim)) fun _ _ h'=>h'.elim))
section
variable {X:Cx} {Ab:List (Addr × Obj)} {σ:St} {H:Hp} {s:Shared}
theorem Inv.other {h':Heap} {L:Addr} {n:Nat} (I:Inv X Ab σ H s) (hb:X.s₀.heap.objs.size<=L) (h0:H L=none) (h1:L ≠ X.env.locals) (h2:∀ x c,X.env.cells.lookup x=some c->c ≠ L) (h3:∀ p ∈ X.pn++Ab,p.1 ≠ L)
  (k:Heap.SameBut L s.heap h'):Inv X Ab σ H { s with heap:=h' }:=
 I.turned (t':=s.toks) (fun b o hb e=>(k.2 b hb).trans e) h0 h1 (.inr hb) h2 h3
theorem qa4 {scope:Scope} {own:List Str} {fv:List Nat} {fp:List Addr} (I:Inv X Ab σ H s) (S:LcScope X scope own fv) (hf:∀ b ∈ fp,FpOk X Ab H b) (hsz:∀ b ∈ fp,b<s.heap.objs.size) :
  (lcCx X scope own fv ⟨s.heap.objs.size,qIT X.env scope.names [],fp,s,H⟩).Ok:=by
 have hfr:∀ x,(x,Q5) ∈ scope.names->∃ c,X.env.cells.lookup x=some c:=fun x hx=>I.ok.has x (S.free _ hx rfl);have sub:=qK0 (env:=X.env) (names:=scope.names) (acc:=[]) hfr (fun x c z=>by simp at z)
 refine ⟨I.ok.mod,S.kind,I.ok.glob,I.ok.blt,B3 _,fun x y c h1 h2=>I.ok.inj x y c (sub _ _ h1) (sub _ _ h2),fun x hx=>?_,fun x c hx=>?_,I.ok.hd,I.ok.frames,.inl rfl,fun b hb=>⟨?_,fun x c e=>?_⟩,I.bs,M5 I.ok.bsz I.sz,fun b o e hb=>?_,fun b hb hb'=>?_,I.stack,I.stkFree⟩
 ·refine qK1 (.inl ?_);have hx':(relabel scope X.env).names.lookup x=some .cell\/(relabel scope X.env).names.lookup x=some .free:=hx;unfold relabel at hx';rw [qED] at hx';cases e:scope.names.lookup x with
  | none=>rw [e] at hx';simp at hx'
  | some k=>
   have hm:=T6 e;have nc:=S.nocell _ hm;rw [e] at hx';simp only [Y4,b0.injEq] at hx';cases k with
   | free=>exact hm
   | cell=>exact absurd rfl nc
   | _=>simp at hx'
 ·cases hx
 ·exact E2 (hsz b hb)
 ·exact (hf b hb).2.2.2.2.1 x c (sub _ _ e)
 ·rcases (hf b hb).2.2.2.1 with z | z
  ·exact I.ok.noex b o e z
  ·exact absurd (J2 (B8 (I.ok.bs b o e).1) z) (b7 _)
 ·rcases C9.mp (I.stkSub b hb') with z | z
  ·exact (hf b hb).2.1 z
  ·exact (hf b hb).2.2.1 z
theorem qVY {scope:Scope} {own:List Str} {fv:List Nat} {fp:List Addr} {h₁:Heap} {tk:Nat} (I:Inv X Ab σ H s) (S:LcScope X scope own fv) (hf:∀ b ∈ fp,FpOk X Ab H b) (hsz:∀ b ∈ fp,b<s.heap.objs.size)
  (hns:h₁.Ns s.heap.objs.size (fun _=>none)) (hk:∀ b o,s.heap.get? b=some o->h₁.get? b=some o) :
  Inv (lcCx X scope own fv ⟨s.heap.objs.size,qIT X.env scope.names [],fp,s,H⟩) [] (qJO own fv σ) H { s with heap:=h₁,toks:=tk }:=by
 have hfr:∀ x,(x,Q5) ∈ scope.names->∃ c,X.env.cells.lookup x=some c:=fun x hx=>I.ok.has x (S.free _ hx rfl);have sub:=qK0 (env:=X.env) (names:=scope.names) (acc:=[]) hfr (fun x c z=>by simp at z)
 refine ⟨qa4 I S hf hsz,rfl,I.bare,Un.kept hk,⟨_,hns,fun i x v h1 h2 h3=>?_⟩,fun x c e=>?_,I.hok.fresh (B3 _),fun x c e=>I.freeC x c (sub _ _ e),fun p hp=>absurd (show p ∈ ([]:List (Addr × Obj)) from hp) (by simp),I.hok.kept hk,?_⟩
 ·have h1:(own++fv.map fun i=>X.N.getD i g7)[i]?=some x:=h1;unfold qJO at h2;have hi:own.length<=i:=by
   apply c8;intro hi;rw [F7 (by simpa using hi),C4] at h2
   cases e:own[i]? with
   | none=>rw [e] at h2;cases h2
   | some z=>rw [e] at h2;cases h2
  rw [L6 (by simpa using hi),A0,C4] at h2
  rw [L6 hi,C4] at h1;cases e:fv[i - own.length]? with
  | none=>rw [e] at h1;cases h1
  | some j=>
   rw [e] at h1 h2;have hj:=S.fvs j (C5 e);have h1:X.N.getD j g7=x:=J5 h1;have h2:(σ[j]?).join=some v:=J5 h2;have h2':σ[j]?=some (some v):=by
    cases q:σ[j]? with
    | none=>rw [q] at h2;cases h2
    | some y=>rw [q] at h2;exact congrArg some h2
   have hx:X.N[j]?=some x:=by
    rw [M6] at h1;rw [A5 hj.1] at h1 ⊢;exact congrArg some h1
   have hlk:scope.names.lookup x=some .free:=h1 ▸ hj.2;have hmem:=T6 hlk;obtain ⟨m,hn,hl⟩:=id I.loc;have hkd:=S.free _ hmem rfl;obtain ⟨u,ru,lk⟩:=hl j x v hx h2' (by
    rcases hkd with z | z
    ·exact .inr (.inl z)
    ·exact .inr (.inr z))
   refine ⟨u,ru,?_⟩;rcases lk with ⟨z,_⟩ | ⟨_,c,e1,z⟩
   ·rcases hkd with y | y
    ·have y':X.env.kindOf x=some .cell:=y;rw [z] at y';cases y'
    ·have y':X.env.kindOf x=some .free:=y;rw [z] at y';cases y'
   ·obtain ⟨c',e2⟩:=qK1 (env:=X.env) (names:=scope.names) (acc:=[]) (x:=x) (.inl hmem);have e3:=sub _ _ e2;rw [e1] at e3;cases e3;obtain ⟨o,ho,hd⟩:=z;refine .inr ⟨?_,c,e2,o,hk _ _ ho,hd⟩;show (relabel scope X.env).names.lookup x=some .cell\/(relabel scope X.env).names.lookup x=some .free;unfold relabel;rw [qED,hlk,Y4]
    split
    ·exact .inl rfl
    ·exact .inr rfl
 ·obtain ⟨v,o,ho,hd⟩:=I.cell x c (sub _ _ e);exact ⟨v,o,hk _ _ ho,hd⟩
 ·unfold qJO;show _=(own++fv.map fun i=>X.N.getD i g7).length;rw [B0,B0,A0,A0,A0]
theorem qYI {scope:Scope} {own:List Str} {fv:List Nat} {fp:List Addr} {pins':List (Addr × Obj)} {σ':St} {H':Hp} {s':Shared} {cl:List (Str × Addr)} (I:Inv X Ab σ H s) (hf:∀ b ∈ fp,FpOk X Ab H b)
  (J:Inv (lcCx X scope own fv ⟨s.heap.objs.size,cl,fp,s,H⟩) pins' σ' H' s'):Inv X Ab σ H' s':=
 I.call' (ch:=fp) J.os J.base J.hok J.bare fun b hb=>⟨(hf b hb).2.2.2.1,(hf b hb).2.1,(hf b hb).2.2.2.2.1,(hf b hb).2.2.2.2.2⟩
end
def PTs (X:Cx) (ifs:List Expr) (t:TT):Prop:=
 ∀ (Ab:List (Addr × Obj)) (s:Shared) (σ:St) (H:Hp) (Q:Bool->Hp->Prop),Inv X Ab σ H s->t σ H Q->
  wpAny (model X.prog X.w) X.A (forIn ifs true fun c r=>if r=true then do let ok <- isTrue c X.env (eval c X.env);pure (O5 ok) else pure (O5 r)) (TP X Ab σ Q) X.xe s
def qaX:TT:=fun _ H Q=>Q true H
theorem qBA {X:Cx}:PTs X [] qaX:=fun Ab s σ H Q I h=>wpAny_tests_nil ⟨H,I,h⟩
theorem qXZ {X:Cx} {c:Expr} {t:TT} (h:PT X c t):PTs X [c] t:=fun Ab s σ H Q I hq=>wpAny_tests_one (h Ab s σ H Q I hq)
def qa5 (own:List Str) (fv:List Nat) (wi:TI) (g:TG) (tc:TT) (te:TE) (K:Addr->Hp->Prop):St->Hp->Prop:=fun σ H=>wi σ H fun J H1=>∀ p,H1 p=none->
 ∃ W:Nat->Nat->St->Hp->Prop,(∃ m,W 0 m (qJO own fv σ) (Ag H1 p (.lst [])))/\∀ i m σ H,W i m σ H->
  (J.stop i H/\K p H)\/(J.go i H/\∃ N:St->Hp->Prop,(∀ σ' H',N σ' H'->∃ m',m'<m/\W (i+1) m' σ' H')/\∀ x H',J.yld i H x H'->g x σ H' fun σ2 H2=>tc σ2 H2 fun b H3=>
   if b=true then te σ2 H3 fun y H4=>∃ ys,H4 p=some (.lst ys)/\ys.length<sizeLine/\N σ2 (Ag H4 p (.lst (ys++[y])))
   else N σ2 H3)
def tLc (own:List Str) (fv:List Nat) (wi:TI) (g:TG) (tc:TT) (te:TE):TE:=fun σ H Q=>qa5 own fv wi g tc te (fun p H'=>Q (.ref p) H') σ H
section
variable {X:Cx} {tg iter elt:Expr} {ifs:List Expr} {scope:Scope} {pos:Pos} {own:List Str} {fv:List Nat} {wi:TI} {g:TG} {tc:TT} {te:TE}
theorem qTJ {Ab:List (Addr × Obj)} {s:Shared} {σ:St} {H:Hp} {K:Addr->Hp->Prop} {use:Option (Value->Sem Unit)} {Q:Value->Shared->Prop} {E:Value->Shared->Prop} (hc:X.calm=true) (S:LcScope X scope own fv) (hi:PI X tg iter wi)
  (hg:∀ z,PG (lcCx X scope own fv z) tg g) (ht:∀ z,PTs (lcCx X scope own fv z) ifs tc) (he:∀ z,PE (lcCx X scope own fv z) elt te)
  (I:Inv X Ab σ H s) (h:qa5 own fv wi g tc te K σ H) (hxe:∀ e s,X.xe e s->E e s)
  (fin:∀ (p:Addr) (L:Addr) (H':Hp) (s':Shared) (m:Str->Option Value),Inv X Ab σ H' s'->K p H'->s'.heap.Ns L m->X.s₀.heap.objs.size<=L->H' L=none->L ≠ X.env.locals->(∀ x c,X.env.cells.lookup x=some c->c ≠ L)->(∀ q ∈ X.pn++Ab,q.1 ≠ L)->
   compPost (model X.prog X.w) X.A E use Q (.ref p) L (.ok .next) s') (hs:∀ x,foldedSetIterable iter X.env x=pure x:=by intro _;rfl) :
  wpAny (model X.prog X.w) X.A (comprehension (.ListComp elt [⟨tg,iter,ifs,0⟩] scope pos) scope X.env (firstIterPos [⟨tg,iter,ifs,0⟩] pos) (newList []) false (eval iter X.env) use) Q E s:=by
 have hfr:∀ x,(x,Q5) ∈ scope.names->∃ c,X.env.cells.lookup x=some c:=fun x hx=>I.ok.has x (S.free _ hx rfl);refine wpAny_comprehension_free rfl hs (qRN hfr) S.kind S.names (wpAny_mono (hi Ab s σ H _ I h) (fun v s1 h1=>wpAny_mono h1 (fun itv s2 h2=>?_) hxe) hxe);obtain ⟨it,fp,tn,J,H2,e,I2,T,st2,f2,q2⟩:=h2;subst e
 -- the list
 refine wpAny_newObj_type ?_;have fresh2:H2 s2.heap.objs.size=none:=I2.hok.fresh (B3 _);have I3:Inv X Ab σ (Ag H2 s2.heap.objs.size (.lst [])) { s2 with heap:=s2.heap.push { cls:=.type "list",dict:=none,data:=.seq ([]:List Value).toArray } }:=
  I2.laid (t':=s2.toks) (fun b u e=>A8 _ e) (B3 _) ⟨F5 _,[],0,.nil,B9 _ rfl⟩
 obtain ⟨W,⟨m0,w0⟩,turn⟩:=q2 s2.heap.objs.size fresh2;have lt2:∀ b ∈ fp,b<s2.heap.objs.size:=fun b hb=>by
  obtain ⟨o,e,_⟩:=T.obj 0 _ st2 b hb;exact B8 e
 have f3:∀ b ∈ fp,FpOk X Ab (Ag H2 s2.heap.objs.size (.lst [])) b:=fun b hb=>⟨by rw [qA9 (E2 (lt2 b hb))];exact (f2 b hb).1,(f2 b hb).2⟩
 generalize hp:s2.heap.objs.size=p at *;generalize hH3:Ag H2 p (.lst [])=H3 at *;have st3:tn 0 (s2.heap.push { cls:=.type "list",dict:=none,data:=.seq ([]:List Value).toArray }):=T.keep _ _ _ st2 fun b _ o e=>A8 _ e;have lt3:∀ b ∈ fp,b<(s2.heap.push { cls:=.type "list",dict:=none,data:=.seq ([]:List Value).toArray }).objs.size:=fun b hb=>by
  rw [O2];have:=lt2 b hb;rw [hp];exact P8 this
 generalize hs3:({ s2 with heap:=s2.heap.push { cls:=.type "list",dict:=none,data:=.seq ([]:List Value).toArray } }:Shared)=s3 at *;have st3':tn 0 s3.heap:=by rw [<- hs3];exact st3
 have lt3':∀ b ∈ fp,b<s3.heap.objs.size:=by rw [<- hs3];exact lt3
 -- the block's frame
 refine wpAny_newFunctionEnv S.nocell (by intro y hy;simp at hy) (fun h₁ hns₁ hsb₁=>?_) S.kind
 have keep1:∀ b o,s3.heap.get? b=some o->h₁.get? b=some o:=fun b o e=>hsb₁.extBut b o (E2 (B8 e)) (A8 _ e);have J0:Inv (lcCx X scope own fv ⟨s3.heap.objs.size,qIT X.env scope.names [],fp,s3,H3⟩) [] (qJO own fv σ) H3 { s3 with heap:=h₁,toks:=s3.toks+([]:List (Str × Value)).length }:=qVY I3 S f3 lt3' hns₁ keep1;have cOk:=qa4 I3 S f3 lt3';generalize hz:(⟨s3.heap.objs.size,qIT X.env scope.names [],fp,s3,H3⟩:LcZ)=z at *;have st4:tn 0 h₁:=T.keep _ _ _ st3' fun b _ o e=>keep1 b o e;have fr4:∀ b ∈ fp,H3 b=none:=fun b hb=>(f3 b hb).1;have stat:∀ {H':Hp},(∀ b ∈ fp,H' b=none)->∀ b ∈ fp,FpOk (lcCx X scope own fv z) [] H' b:=fun hn b hb=>by
  subst hz;refine ⟨hn b hb,(cOk.exf b hb).1,cOk.exfs b hb,.inl hb,(cOk.exf b hb).2,fun q hq=>absurd (show q ∈ ([]:List (Addr × Obj)) from hq) (by simp)⟩
 have envE:({ newEnv scope s3.heap.objs.size X.env.globals (qIT X.env scope.names []) X.env.qual none .none (some X.env) builtinsNs with scope:=relabel scope X.env }:Env)=(lcCx X scope own fv z).env:=by
  subst hz
  rfl
 have loop:∀ sA:Shared,sA={ s3 with heap:=h₁,toks:=s3.toks+([]:List (Str × Value)).length }->codeAny (model X.prog X.w) X.A (.compLoop (.ListComp elt [⟨tg,iter,ifs,0⟩] scope pos) 0 (.ref it) (.ref p) (lcCx X scope own fv z).env)
   (compPost (model X.prog X.w) X.A E use Q (.ref p) s3.heap.objs.size) sA:=by
  rintro sA rfl;refine qNI (fun n s'=>∃ i σ' H',Inv (lcCx X scope own fv z) [] σ' H' s'/\tn i s'.heap/\(∀ b ∈ fp,H' b=none)/\W i n σ' H') ?_ m0 ⟨0,_,H3,J0,st4,fr4,w0⟩;rintro n s4 ⟨i,σ4,H4,I4,st4,fr4,w4⟩;rcases turn i n σ4 H4 w4 with ⟨stop,qn⟩ | ⟨go,Nx,hNx,step⟩
  ·refine thn (T.done (lcCx X scope own fv z) rfl rfl rfl hc i [] s4 σ4 H4 noX I4 (stat fr4) st4 stop) fun r s5 ⟨hr,I5⟩=>?_;subst hr;subst hz;have I6:Inv X Ab σ H4 s5:=qYI I3 f3 I5;obtain ⟨m,hn,_⟩:=id I5.loc;have fpL:=I3.fpOk (H':=H4) (b:=s3.heap.objs.size) (B3 _) I5.free;refine fin p s3.heap.objs.size H4 s5 m I6 qn hn I3.sz fpL.1 fpL.2.1 fpL.2.2.2.2.1 fpL.2.2.2.2.2
  ·refine thn (T.item (lcCx X scope own fv z) rfl rfl rfl hc i [] s4 σ4 H4 noX I4 (stat fr4) st4 go) fun r s5 ⟨u,hr,h5⟩=>?_;subst hr;refine thn h5 fun _ s6 ⟨x,H6,I6,r6,y6,st6,fr6⟩=>?_;have I6':=I6.pinned (stat fr6) (T.obj _ _ st6);have again:∀ {σ7:St} {H7:Hp} {s7:Shared} {m':Nat},m'<n->Inv (lcCx X scope own fv z) ([]++qMV fp s6.heap) σ7 H7 s7->W (i+1) m' σ7 H7->
     ∃ m,m<n/\∃ i σ' H',Inv (lcCx X scope own fv z) [] σ' H' s7/\tn i s7.heap/\(∀ b ∈ fp,H' b=none)/\W i m σ' H':=fun {σ7 H7 s7 m'} hm I7 w7=>by
    refine ⟨m',hm,i+1,σ7,H7,I7.unpinned,T.keep _ _ _ st6 fun b hb o e=>(I7.pin (b,o) (J8 _ (J8 _ (qG2 hb e)))).1,fun b hb=>?_,w7⟩;obtain ⟨o,e,d⟩:=T.obj _ _ st6 b hb;exact (I7.pin (b,o) (J8 _ (J8 _ (qG2 hb e)))).2.1
   refine thn (hg z _ s6 σ4 H6 x u _ I6' r6 (step x H6 y6)) fun _ s7 ⟨σ7,H7,I7,q7⟩=>?_;refine thn (ht z _ s7 σ7 H7 _ I7 q7) fun b s8 ⟨H8,I8,q8⟩=>?_;cases b with
   | false=>
    obtain ⟨m',hm,w8⟩:=hNx _ _ q8;exact again hm I8 w8
   | true=>
    refine thn (he z _ s8 σ7 H8 _ I8 q8) fun v s9 ⟨y,H9,I9,r9,ys,ep,hl,w9⟩=>?_;refine thn (qBP (X:=lcCx X scope own fv z) _ s9 σ7 H9 (.ref p) [y] (.ref p) [v] (fun _ H'=>Nx σ7 H') I9 rfl (.cons r9 .nil) ⟨p,ys,y,rfl,rfl,ep,hl,w9⟩) fun _ s10 ⟨_,H10,I10,_,q10⟩=>?_;obtain ⟨m',hm,w10⟩:=hNx _ _ q10;exact again hm I10 w10
 rw [envE];exact codeAny_compStart_list (loop _ rfl) (T.self _ _ _ _ _ st4 (loop _ rfl))
theorem qEE (hc:X.calm=true) (S:LcScope X scope own fv) (hi:PI X tg iter wi) (hg:∀ z,PG (lcCx X scope own fv z) tg g) (ht:∀ z,PTs (lcCx X scope own fv z) ifs tc) (he:∀ z,PE (lcCx X scope own fv z) elt te)
  (hs:∀ x,foldedSetIterable iter X.env x=pure x:=by intro _;rfl):PE X (.ListComp elt [⟨tg,iter,ifs,0⟩] scope pos) (tLc own fv wi g tc te):=by
 intro Ab s σ H Q I h;rw [eval_ListComp];refine qTJ (use:=none) (K:=fun p H'=>Q (.ref p) H') hc S hi hg ht he I h (fun _ _ q=>q) (fun p L H' s' m I' q hn h1 h2 h3 h4 h5=>?_) hs;exact ⟨m,hn,fun h' hs'=>⟨.ref p,H',I'.other (n:=0) h1 h2 h3 h4 h5 hs',rfl,q⟩⟩
theorem qZU {i:Nat} {x:Str} {pos' spos:Pos} (hN:X.N.Nodup) (hx:X.N[i]?=some x) (hl:X.env.scope.names.lookup x=some .local) (hc:X.calm=true) (S:LcScope X scope own fv) (hi:PI X tg iter wi) (hg:∀ z,PG (lcCx X scope own fv z) tg g)
  (ht:∀ z,PTs (lcCx X scope own fv z) ifs tc) (he:∀ z,PE (lcCx X scope own fv z) elt te) (hsw:swapsWith (.ListComp elt [⟨tg,iter,ifs,0⟩] scope pos) (some (.Name x pos')) spos.line X.env=pure true)
  (hs:∀ x,foldedSetIterable iter X.env x=pure x:=by intro _;rfl):PS X (.Assign [.Name x pos'] (.ListComp elt [⟨tg,iter,ifs,0⟩] scope pos) spos) (tAsg (tLc own fv wi g tc te) (qW8 i)):=by
 intro Ab s σ H D I h;rw [exec_Assign_Name_used _ _ _ _ hsw];refine wpAny_bind (wpAny_standAt (wpAny_bind ?_));show wpAny _ X.A (do let _ <- comprehension (.ListComp elt [⟨tg,iter,ifs,0⟩] scope pos) scope X.env _ (newList []) false (eval iter X.env) (some (assign (.Name x pos') X.env))) _ _ s
 refine wpAny_bind (wpAny_mono (qTJ (use:=some (assign (.Name x pos') X.env)) (K:=fun p H'=>D.nx (σ.set i (some (.ref p))) H') (Q:=fun _ s'=>SP X Ab D .next s') (E:=X.xe) hc S hi hg ht he I h (fun _ _ q=>q) (fun p L H' s' m I' q hn h1 h2 h3 h4 h5=>?_) hs)
  (fun _ s' hq=>wpAny_pure (wpAny_pure hq)) fun _ _ e=>e)
 show wpAny _ X.A (assign (.Name x pos') X.env (.ref p)) _ _ _;refine wpAny_assign_Name (qMB (v:=.ref p) I' hN hx (.inl hl) rfl (fun s2 I2 ⟨a,hsb,ha⟩=>?_) (.inr hl));have hLa:L ≠ a:=by
  rcases ha with z | z
  ·rw [z];exact h3
  ·exact fun y=>h4 x a z y.symm
 exact ⟨m,hn.sameBut hsb hLa,fun h' hs'=>⟨_,H',I2.other (n:=0) h1 h2 h3 h4 h5 hs',q⟩⟩
end
theorem qJ1 {lo:Int} {n:Nat} {g:TG} {tc:TT} {te:TE} {Kf:Hp->Prop} {σ0:St} {H0:Hp} {p:Addr} (Pv:Nat->St->Hp->Prop) (h0:Pv 0 σ0 H0)
  (hs:∀ i σ H,i<n->Pv i σ H->g (.int (lo+i)) σ H fun σ2 H2=>tc σ2 H2 fun b H3=>if b=true then te σ2 H3 fun y H4=>∃ ys,H4 p=some (.lst ys)/\ys.length<sizeLine/\Pv (i+1) σ2 (Ag H4 p (.lst (ys++[y]))) else Pv (i+1) σ2 H3)
  (hd:∀ σ H,Pv n σ H->Kf H) :
  ∃ W:Nat->Nat->St->Hp->Prop,(∃ m,W 0 m σ0 H0)/\∀ i m σ H,W i m σ H->
   ((Itr lo n).stop i H/\Kf H)\/((Itr lo n).go i H/\∃ N:St->Hp->Prop,(∀ σ' H',N σ' H'->∃ m',m'<m/\W (i+1) m' σ' H')/\∀ x H',(Itr lo n).yld i H x H'->g x σ H' fun σ2 H2=>tc σ2 H2 fun b H3=>
    if b=true then te σ2 H3 fun y H4=>∃ ys,H4 p=some (.lst ys)/\ys.length<sizeLine/\N σ2 (Ag H4 p (.lst (ys++[y]))) else N σ2 H3):=by
 refine ⟨fun i m σ H=>m=n - i/\i<=n/\Pv i σ H,⟨n,by simp,F5 _,h0⟩,?_⟩
 rintro i m σ H ⟨rfl,hi,q⟩;by_cases hlt:i<n
 ·refine .inr ⟨hlt,Pv (i+1),fun σ' H' p'=>⟨n - (i+1),by omega,rfl,hlt,p'⟩,fun x H' y=>?_⟩
  obtain ⟨e,y⟩:=y;subst e y;exact hs i σ _ hlt q
 ·have e:i=n:=by omega
  subst e;exact .inl ⟨B3 _,hd σ H q⟩
theorem qFP {K:PySem.W.Frag} {a:Addr} {xs:List V} {g:TG} {tc:TT} {te:TE} {Kf:Hp->Prop} {σ0:St} {H0:Hp} {p:Addr} (Pv:Nat->St->Hp->Prop) (h0:Pv 0 σ0 H0) (hl:∀ i σ H,i<=xs.length->Pv i σ H->SqL K H a xs)
  (hs:∀ i x σ H,xs[i]?=some x->Pv i σ H->g x σ H fun σ2 H2=>tc σ2 H2 fun b H3=>if b=true then te σ2 H3 fun y H4=>∃ ys,H4 p=some (.lst ys)/\ys.length<sizeLine/\Pv (i+1) σ2 (Ag H4 p (.lst (ys++[y]))) else Pv (i+1) σ2 H3)
  (hd:∀ σ H,Pv xs.length σ H->Kf H) :
  ∃ W:Nat->Nat->St->Hp->Prop,(∃ m,W 0 m σ0 H0)/\∀ i m σ H,W i m σ H->
   ((Itl K a).stop i H/\Kf H)\/((Itl K a).go i H/\∃ N:St->Hp->Prop,(∀ σ' H',N σ' H'->∃ m',m'<m/\W (i+1) m' σ' H')/\∀ x H',(Itl K a).yld i H x H'->g x σ H' fun σ2 H2=>tc σ2 H2 fun b H3=>
    if b=true then te σ2 H3 fun y H4=>∃ ys,H4 p=some (.lst ys)/\ys.length<sizeLine/\N σ2 (Ag H4 p (.lst (ys++[y]))) else N σ2 H3):=by
 refine ⟨fun i m σ H=>m=xs.length - i/\i<=xs.length/\Pv i σ H,⟨xs.length,by simp,F5 _,h0⟩,?_⟩
 rintro i m σ H ⟨rfl,hi,q⟩;have hq:=hl i σ H hi q;by_cases hlt:i<xs.length
 ·refine .inr ⟨⟨xs,xs[i],hq,by simp [hlt]⟩,Pv (i+1),fun σ' H' p'=>⟨xs.length - (i+1),by omega,rfl,hlt,p'⟩,fun x H' y=>?_⟩
  obtain ⟨e,y⟩:=y;subst e;exact hs i x σ _ (y xs hq) q
 ·have e:i=xs.length:=by omega
  subst e;exact .inl ⟨⟨xs,hq,B3 _⟩,hd σ H q⟩
theorem qHH {K:PySem.W.Frag} {a:Addr} {xs:List V} {g:TG} {tc:TT} {te:TE} {Kf:Hp->Prop} {σ0:St} {H0:Hp} {p:Addr} (Pv:Nat->St->Hp->Prop) (h0:Pv 0 σ0 H0) (hl:∀ i σ H,i<=xs.length->Pv i σ H->SqT K H a xs)
  (hs:∀ i x σ H,xs[i]?=some x->Pv i σ H->g x σ H fun σ2 H2=>tc σ2 H2 fun b H3=>if b=true then te σ2 H3 fun y H4=>∃ ys,H4 p=some (.lst ys)/\ys.length<sizeLine/\Pv (i+1) σ2 (Ag H4 p (.lst (ys++[y]))) else Pv (i+1) σ2 H3)
  (hd:∀ σ H,Pv xs.length σ H->Kf H) :
  ∃ W:Nat->Nat->St->Hp->Prop,(∃ m,W 0 m σ0 H0)/\∀ i m σ H,W i m σ H->
   ((Itt K a).stop i H/\Kf H)\/((Itt K a).go i H/\∃ N:St->Hp->Prop,(∀ σ' H',N σ' H'->∃ m',m'<m/\W (i+1) m' σ' H')/\∀ x H',(Itt K a).yld i H x H'->g x σ H' fun σ2 H2=>tc σ2 H2 fun b H3=>
    if b=true then te σ2 H3 fun y H4=>∃ ys,H4 p=some (.lst ys)/\ys.length<sizeLine/\N σ2 (Ag H4 p (.lst (ys++[y]))) else N σ2 H3):=by
 refine ⟨fun i m σ H=>m=xs.length - i/\i<=xs.length/\Pv i σ H,⟨xs.length,by simp,F5 _,h0⟩,?_⟩
 rintro i m σ H ⟨rfl,hi,q⟩;have hq:=hl i σ H hi q;by_cases hlt:i<xs.length
 ·refine .inr ⟨⟨xs,xs[i],hq,by simp [hlt]⟩,Pv (i+1),fun σ' H' p'=>⟨xs.length - (i+1),by omega,rfl,hlt,p'⟩,fun x H' y=>?_⟩
  obtain ⟨e,y⟩:=y;subst e;exact hs i x σ _ (y xs hq) q
 ·have e:i=xs.length:=by omega
  subst e;exact .inl ⟨⟨xs,hq,B3 _⟩,hd σ H q⟩
def qTK (scope:Scope) (own:List Str) (fv:List Nat) (osc:Scope) (N:List Str):Bool:=
 decide (scope.kind=.function) && scope.names.all (fun y=>decide (y.2 ≠ .cell)) && scope.names.all (fun y=>decide (y.2 ≠ .local) || decide (scope.names.lookup y.1=some .local)) &&
 scope.names.all (fun y=>decide (y.2 ≠ .free) || (decide (osc.names.lookup y.1=some .cell) || decide (osc.names.lookup y.1=some .free))) && decide ((own++fv.map fun i=>N.getD i g7).Nodup) &&
 fv.all fun i=>decide (i<N.length) && decide (scope.names.lookup (N.getD i g7)=some .free)
theorem lcs {X:Cx} {scope:Scope} {own:List Str} {fv:List Nat} (h:qTK scope own fv X.env.scope X.N=true):LcScope X scope own fv:=by
 unfold qTK at h;simp only [C7,decide_eq_true_eq,E5,A65] at h;obtain ⟨⟨⟨⟨⟨h1,h2⟩,h3⟩,h4⟩,h5⟩,h6⟩:=h;exact ⟨h1,h2,fun y hy e=>(h3 y hy).resolve_left fun z=>z e,fun y hy e=>(h4 y hy).resolve_left fun z=>z e,h5,h6⟩
theorem qD7 {N:List Str} (h:decide N.Nodup=true):N.Nodup:=of_decide_eq_true h
theorem qSX {X:Cx} {K:PySem.W.Frag} {es:List Expr} {k n:Nat} {t:TGs} {pos:Pos} (hK:X.K=K) (hc:X.calm=true) (h:PGs X es t) (hn:(assignEach es X.env).length=n) (hst:(assignEach es X.env).findIdx? (·.1)=none):PG X (.Tuple es k pos) (gTup K n t):=by
 subst hK hn;exact qKO hc h rfl hst
theorem qY0 {X:Cx} {K:PySem.W.Frag} {tg l:Expr} {tl:TE} (hK:X.K=K) (hl:PE X l tl):PI X tg l (iTup K tl):=by subst hK;exact qD0 hl
theorem qLM {X:Cx} {K:PySem.W.Frag} (hK:X.K=K):IxR X (rIxT K):=by subst hK;exact qB3
theorem qW0 {X:Cx} {K:PySem.W.Frag} (hK:X.K=K):IxR X (rIxL K):=by subst hK;exact qC3
theorem qX3 {X:Cx} {K:PySem.W.Frag} (hK:X.K=K):OpR X (compareOp .In) (rIn K false):=by subst hK;exact qMY
theorem qT4 {X:Cx} {K:PySem.W.Frag} (hK:X.K=K):OpR X (compareOp .NotIn) (rIn K true):=by subst hK;exact qD2
theorem qHS {X:Cx} {K:PySem.W.Frag} (hK:X.K=K):qCN X (.builtin "len") (fun xs H Q=>∃ p ys,xs=[.ref p]/\(SqL K H p ys\/SqT K H p ys)/\Q (.int ys.length) H):=by subst hK;exact qAI
theorem qRR {X:Cx} {K:PySem.W.Frag} (hK:X.K=K):qCN X (.type "list") (fun xs H Q=>∃ p ys,xs=[.ref p]/\(SqL K H p ys\/SqT K H p ys)/\∀ l,H l=none->Q (.ref l) (Ag H l (.lst ys))):=by subst hK;exact qFS
theorem qK2 {X:Cx} {K:PySem.W.Frag} (hK:X.K=K):qCN X (.type "tuple") (fun xs H Q=>∃ p ys,xs=[.ref p]/\((SqL K H p ys/\∀ l,H l=none->Q (.ref l) (Ag H l (.tup ys)))\/(SqT K H p ys/\Q (.ref p) H))):=by subst hK;exact qAS
theorem qLX {xs:Array Nat} {j:Nat} (up:∀ a b,a<b->b<xs.size->xs.getD a j<xs.getD b j):∀ (fuel lo hi:Nat),lo<=hi->hi<=xs.size->hi - lo<=fuel->(∀ i,i<lo->xs.getD i j<j)->(∀ i,hi<=i->i<xs.size->j<=xs.getD i j)->
  q0 xs j fuel lo hi<=xs.size/\(∀ i,i<q0 xs j fuel lo hi->xs.getD i j<j)/\(∀ i,q0 xs j fuel lo hi<=i->i<xs.size->j<=xs.getD i j)
 | 0,lo,hi,h1,h2,h3,a,b=>by
  have e:lo=hi:=by omega
  subst e;exact ⟨h2,a,b⟩
 | fuel+1,lo,hi,h1,h2,h3,a,b=>by
  unfold q0;by_cases hlt:lo<hi
  ·rw [if_pos hlt];dsimp only;have hm1:lo<=(lo+hi) / 2:=by omega
   have hm2:(lo+hi) / 2<hi:=by omega
   by_cases hc:xs.getD ((lo+hi) / 2) j<j
   ·rw [if_pos hc];refine qLX up fuel _ _ (by omega) h2 (by omega) (fun i hi'=>?_) b
    by_cases e:i=(lo+hi) / 2
    ·rw [e];exact hc
    ·exact t9 (up i ((lo+hi) / 2) (by omega) (by omega)) hc
   ·rw [if_neg hc];refine qLX up fuel _ _ (by omega) (by omega) (by omega) a (fun i hi' hs=>?_)
    by_cases e:i=(lo+hi) / 2
    ·rw [e];omega
    ·have:=up ((lo+hi) / 2) i (by omega) hs
     omega
  ·rw [if_neg hlt];have e:lo=hi:=by omega
   subst e;exact ⟨h2,a,b⟩
theorem qS4 {xs:Array Nat} (j:Nat) (h:xs.toList.Pairwise (·<·)):∀ a b,a<b->b<xs.size->xs.getD a j<xs.getD b j:=fun a b hab hb=>by
 have:=k8.mp h a b (by simpa using t9 hab hb) (by simpa using hb) hab
 rw [D6,D6,D8 (t9 hab hb),D8 hb];simpa using this
theorem qDK {xs:Array Nat} {j:Nat} (h:xs.toList.Pairwise (·<·)):C6 xs j<=xs.size/\(∀ i,i<C6 xs j->xs.getD i j<j)/\(∀ i,C6 xs j<=i->i<xs.size->j<=xs.getD i j):=by
 unfold C6;exact qLX (qS4 j h) xs.size 0 xs.size (F5 _) (B3 _) (by omega) (fun i hi=>absurd hi (by omega)) (fun i hi hs=>absurd hs (by omega))
theorem qB8 {α:Type} (xs:Array α) (p:Nat) (x:α):(D5 xs p x).toList=xs.toList.take p++x::xs.toList.drop p:=by
 unfold D5;simp [Array.toList_extract,L7]
structure T7 (byText:Bool) (t:SetTable) (n:Nat):Prop where
 mask:t.mask=7
 dum:t.dummies=#[]
 plain:t.plain=true
 led:t.led=!byText
 size:t.place.size=n
 up:t.place.toList.Pairwise (·<·)
 le:∀ j ∈ t.place.toList,j<=7
section
variable {byText:Bool} {t:SetTable} {n:Nat}
theorem T7.slot (T:T7 byText t n) (j:Nat):(t.slot j=.empty/\j ∉ t.place.toList)\/(∃ i,t.slot j=.live i/\j ∈ t.place.toList):=by
 unfold B73;dsimp only;have hd:A66 t.dummies j=false:=by rw [T.dum];rfl
 obtain ⟨b1,b2,b3⟩:=qDK (j:=j) T.up;by_cases hc:t.place[C6 t.place j]?=some j
 ·rw [if_pos (by rw [hc];simp)]
  exact .inr ⟨_,rfl,by rw [<- B74];exact A67 hc⟩
 ·rw [if_neg (by simpa using hc),hd,if_neg (by simp)]
  refine .inl ⟨rfl,fun hm=>?_⟩;obtain ⟨i,hi,he⟩:=T4.mp hm;have hi':i<t.place.size:=by simpa using hi
  have he':t.place.getD i j=j:=by
   rw [D6,D8 hi'];simpa using he
  have h1:¬ i<C6 t.place j:=fun z=>by have:=b2 i z;omega
  have h2:C6 t.place j=i:=by
   apply B53 (c8 h1);apply c8;intro z;have:=b3 (C6 t.place j) (B3 _) (by omega)
   have:=qS4 j T.up _ _ z hi';omega
  apply hc;rw [h2,D8 hi'];simpa using he
def pr (i pt:Nat):SetTable.Probe:={ j:=i,more:=0,i:=i,perturb:=pt,dummy:=none }
theorem T7.adv (T:T7 byText t n) (i pt:Nat):t.advance (pr i pt)=pr ((i * 5+1+pt / 32) % 8) (pt / 32):=by
 unfold B37 pr SetTable.leap P2;rw [T.mask];dsimp only;rw [if_neg (by omega),if_neg (by omega),a9]
theorem T7.go1 (T:T7 byText t n) (h:Int) (f i pt:Nat) :
  (F6 t (fun _=>h+1) h (f+1) (pr i pt)=some (.empty i none)/\i ∉ t.place.toList)\/
  (F6 t (fun _=>h+1) h (f+1) (pr i pt)=F6 t (fun _=>h+1) h f (pr ((i * 5+1+pt / 32) % 8) (pt / 32))/\i ∈ t.place.toList):=by
 rcases T.slot i with ⟨e,m⟩ | ⟨k,e,m⟩
 ·left
  refine ⟨?_,m⟩;unfold F6;rw [show (pr i pt).j=i from rfl,e]
  rfl
 ·right
  refine ⟨?_,m⟩;rw [F6];rw [show (pr i pt).j=i from rfl,e];dsimp only;rw [if_neg (by simp;omega),T.adv]
def F8 (i:Nat):Nat:=(i * 5+1) % 8
def F8n:Nat->Nat->Nat
 | 0,i=>i
 | m+1,i=>F8n m (F8 i)
theorem T7.go0 (T:T7 byText t n) (h:Int) (f:Nat):∀ (m i:Nat),(∃ j,F6 t (fun _=>h+1) h (m+f) (pr i 0)=some (.empty j none)/\j ∉ t.place.toList/\∃ q,q<m/\j=F8n q i)\/(∀ q,q<m->F8n q i ∈ t.place.toList)
 | 0,i=>.inr fun q hq=>absurd hq (by omega)
 | m+1,i=>by
  rcases T.go1 h (m+f) i 0 with ⟨e,z⟩ | ⟨e,z⟩
  ·exact .inl ⟨i,by rw [show m+1+f=m+f+1 by omega];exact e,z,0,by omega,rfl⟩
  ·rw [show m+1+f=m+f+1 by omega,e]
   have e2:(i * 5+1+0 / 32) % 8=F8 i:=by unfold F8;omega
   rw [e2];rcases T.go0 h f m (F8 i) with ⟨j,e3,z3,q,hq,e4⟩ | e3
   ·exact .inl ⟨j,e3,z3,q+1,by omega,e4⟩
   ·refine .inr fun q hq=>?_;cases q with
    | zero=>exact z
    | succ q=>exact e3 q (by omega)
theorem qaW:∀ i:_root_.Fin 8,∀ j:_root_.Fin 8,∃ q:_root_.Fin 8,F8n q.1 i.1=j.1:=by decide
theorem qaV:∀ (q i:Nat),i<8->F8n q i<8
 | 0,i,h=>h
 | q+1,i,h=>qaV q (F8 i) (d5 _ (by decide))
theorem T7.goK (T:T7 byText t n) (hn:n<=7) (h:Int) (f:Nat):∀ (k i pt:Nat),i<8->pt<32 ^ k->∃ j,F6 t (fun _=>h+1) h (k+(8+f)) (pr i pt)=some (.empty j none)/\j ∉ t.place.toList/\j<=7
 | 0,i,pt,hi,hp=>by
  have e:pt=0:=by omega
  subst e;rw [A13];rcases T.go0 h f 8 i with ⟨j,e,z,q,hq,e2⟩ | e
  ·exact ⟨j,e,z,by have:=qaV q i hi;omega⟩
  ·exfalso
   have sub:[0,1,2,3,4,5,6,7] ⊆ t.place.toList:=fun j hj=>by
    have hj8:j<8:=by
     simp at hj;omega
    obtain ⟨q,hq⟩:=qaW ⟨i,hi⟩ ⟨j,hj8⟩;rw [<- show F8n q.1 i=j from hq];exact e q.1 q.2
   have:=F0 (by decide:[0,1,2,3,4,5,6,7].Nodup) sub
   have hs:=T.size;simp at this;omega
 | k+1,i,pt,hi,hp=>by
  rw [show k+1+(8+f)=k+(8+f)+1 by omega]
  rcases T.go1 h (k+(8+f)) i pt with ⟨e,z⟩ | ⟨e,z⟩
  ·exact ⟨i,e,z,by omega⟩
  ·rw [e];refine T.goK hn h f k _ _ (d5 _ (by decide)) ?_
   rw [V5] at hp;omega
theorem T7.free (T:T7 byText t n) (hn:n<=7) (h:Int):∃ j,t.freeSlot h=some (j,false)/\j ∉ t.place.toList/\j<=7:=by
 have hb:J6 h<32 ^ 13:=by
  unfold J6;have h1:0<=h % (2 ^ 64:Int):=Y6 _ (by decide)
  have h2:h % (2 ^ 64:Int)<2 ^ 64:=V2 _ (by decide)
  have:((2:Int) ^ 64)=18446744073709551616:=by decide
  rw [this] at h1 h2 ⊢;have h3:(32:Nat) ^ 13=36893488147419103232:=by decide
  omega
 obtain ⟨j,e,z,l⟩:=T.goK hn h 199 13 (J6 h % 8) (J6 h) (d5 _ (by decide)) hb
 refine ⟨j,?_,z,l⟩;have hst:t.probeStart h=pr (J6 h % 8) (J6 h):=by
  unfold SetTable.probeStart pr P2;rw [T.mask];dsimp only;rw [if_neg (by omega),a9]
 unfold B16 B62;rw [hst,show 10 * V6 t.mask=13+(8+199) by rw [T.mask];rfl,e]
 rfl
theorem T7.lay (T:T7 byText t n) (hn:n<=3) {es:Array (Int × Value)} (he:es.size=n) (h:Int) (x:Value) :
  ∃ p t',layNew t es h x=(D5 es p (h,x),t',false,false)/\T7 byText t' (n+1)/\t'.tooFull=false/\p<=es.size:=by
 obtain ⟨j,e,z,l⟩:=T.free (by omega) h
 obtain ⟨b1,b2,b3⟩:=qDK (j:=j) T.up;have hd:A66 t.dummies j=false:=by rw [T.dum];rfl
 have tl:(D5 t.place (C6 t.place j) j).toList=t.place.toList.take (C6 t.place j)++j::t.place.toList.drop (C6 t.place j):=qB8 _ _ _;have sz:(D5 t.place (C6 t.place j) j).size=n+1:=by
  rw [<- C0,tl,B0,D9,D7,F2,C0,T.size];rw [T.size] at b1;omega
 have T':T7 byText { t with place:=D5 t.place (C6 t.place j) j,dummies:=t.dummies } (n+1):=by
  refine ⟨T.mask,T.dum,T.plain,T.led,sz,?_,?_⟩
  ·show (D5 t.place (C6 t.place j) j).toList.Pairwise (·<·);rw [tl];have geti:∀ i,i<t.place.size->t.place.getD i j=t.place.toList.getD i j:=fun i hi=>by
    rw [D6,M6,M9]
   have lo:∀ a ∈ t.place.toList.take (C6 t.place j),a<j:=fun a ha=>by
    obtain ⟨i,hi,hai⟩:=T4.mp ha;rw [D7,C0] at hi;have hi1:i<C6 t.place j:=by omega
    have hi2:i<t.place.size:=by omega
    have:=b2 i hi1;rw [D6,D8 hi2] at this;rw [B17] at hai;rw [<- hai];simpa using this
   have hi:∀ a ∈ t.place.toList.drop (C6 t.place j),j<a:=fun a ha=>by
    have hm:a ∈ t.place.toList:=Q0 ha;obtain ⟨i,hi,hai⟩:=T4.mp ha;rw [F2,C0] at hi;have hi2:C6 t.place j+i<t.place.size:=by omega
    have:=b3 _ (A41 _ i) hi2;rw [D6,D8 hi2] at this;rw [B18] at hai;have h3:j<=a:=by
     rw [<- hai];simpa using this
    rcases B07 h3 with h4 | h4
    ·exact h4
    ·exact absurd (h4 ▸ hm) z
   refine V3.mpr ⟨T.up.sublist (i8 _ _),R9.mpr ⟨hi,T.up.sublist (A25 _ _)⟩,fun a ha b hb=>?_⟩;rcases C9.mp hb with e | hb
   ·rw [e];exact lo a ha
   ·exact t9 (lo a ha) (hi b hb)
  ·show ∀ i ∈ (D5 t.place (C6 t.place j) j).toList,i<=7;rw [tl];intro i hi;rcases C2.mp hi with hi | hi
   ·exact T.le i (k4 hi)
   ·rcases C9.mp hi with e | hi
    ·omega
    ·exact T.le i (Q0 hi)
 have fits:c4 { t with place:=D5 t.place (C6 t.place j) j,dummies:=t.dummies } (n+1)=true:=by
  unfold c4 j6;dsimp only;rw [sz,T.dum,T.mask];have:((#[]:Array Nat)).size=0:=rfl;simp only [this,beq_self_eq_true,L8,decide_eq_true_eq];omega
 have szE:(D5 es (C6 t.place j) (h,x)).size=n+1:=by
  rw [<- C0,qB8,B0,D9,D7,F2,C0];rw [T.size] at b1;omega
 refine ⟨C6 t.place j,{ t with place:=D5 t.place (C6 t.place j) j,dummies:=t.dummies },?_,T',?_,by rw [he,<- T.size];exact b1⟩
 ·unfold layNew;rw [e];dsimp only;unfold B81;rw [hd];dsimp only;rw [szE];unfold B08;simp only [J3,if_false];rw [fits];simp
 ·unfold B38 j6;dsimp only;rw [sz,T.dum,T.mask];have:((#[]:Array Nat)).size=0:=rfl;rw [this];exact decide_eq_false (by omega)
end
theorem qKZ {α:Type}:∀ (l:List α) (i:Nat) (h:i<l.length),(l[i]::l.eraseIdx i).Perm l
 | [],i,h=>absurd h (by simp)
 | a::r,0,h=>.refl _
 | a::r,i+1,h=>by
  have hi:i<r.length:=by simpa using h
  have ih:=qKZ r i hi;show (r[i]::a::r.eraseIdx i).Perm (a::r);exact (List.Perm.swap _ _ _).trans (ih.cons a)
theorem qSV {α:Type} (next:Nat->Nat):∀ (fuel k:Nat) (left:List α) (out:Array α),fuel=left.length->(B32 next fuel k left out).toList.Perm (out.toList++left)
 | 0,k,left,out,h=>by
  have:left=[]:=M8.mp h.symm;subst this;unfold B32;simp
 | fuel+1,k,left,out,h=>by
  have hl:0<left.length:=by omega
  have hm:next k % left.length<left.length:=d5 _ hl;unfold B32;rw [A5 hm];dsimp only;refine (qSV next fuel (k+1) _ _ (by rw [List.length_eraseIdx_of_lt hm];omega)).trans ?_
  rw [Array.toList_push,P6];exact u6 _ (qKZ left _ hm)
theorem qSU {α:Type} (next:Nat->Nat) (xs:Array α):(pickOrder next xs).toList.Perm xs.toList:=by
 unfold pickOrder;have:=qSV next xs.size 0 xs.toList #[] (by simp)
 simpa using this
abbrev Ents:List Int->List (Int × Value)->Prop:=Paired fun k e=>∃ tk,e=(hashInt k,R0 k tk)
theorem Ents.perm:∀ {es es':List (Int × Value)} {ks:List Int},Ents ks es->es'.Perm es->∃ ks',Ents ks' es'/\ks'.Perm ks:=by
 intro es es' ks h p;have key:∀ {a b:List (Int × Value)},a.Perm b->∀ ks,Ents ks b->∃ ks',Ents ks' a/\ks'.Perm ks:=by
  intro a b p
  induction p with
  | nil=>intro ks h;exact ⟨ks,h,.refl _⟩
  | cons x p ih=>
   intro ks h;cases h with
   | cons r t=>
    obtain ⟨ks',h1,h2⟩:=ih _ t;exact ⟨_::ks',.cons r h1,h2.cons _⟩
  | swap x y l=>
   intro ks h;cases h with
   | cons r t=>
    cases t with
    | cons r' t'=>exact ⟨_,.cons r' (.cons r t'),.swap _ _ _⟩
  | trans p q ih1 ih2=>
   intro ks h;obtain ⟨k1,h1,h2⟩:=ih2 ks h;obtain ⟨k2,h3,h4⟩:=ih1 k1 h1;exact ⟨k2,h3,h4.trans h2⟩
 exact key p ks h
theorem Ents.elems {prog:Program} {w:World} {es:List (Int × Value)} {ks:List Int} (h:Ents ks es):ElemsOf (intKind prog w) es:=by
 intro e he;have key:∀ {ks:List Int} {es:List (Int × Value)},Ents ks es->∀ e ∈ es,∃ k tk,e=(hashInt k,R0 k tk):=by
  intro ks es h
  induction h with
  | nil=>intro e he;cases he
  | cons r t ih=>
   intro e he;rcases C9.mp he with z | z
   ·subst z;obtain ⟨tk,e⟩:=r;exact ⟨_,tk,e⟩
   ·exact ih e z
 obtain ⟨k,tk,rfl⟩:=key h e he;exact ⟨⟨k,by simp [intKind,A33],rfl⟩,rfl⟩
theorem Ents.find {prog:Program} {w:World} {k:Int}:∀ {es:List (Int × Value)} {ks:List Int},Ents ks es->((B09 (fun e=>(intKind prog w).is k e.2) es).isSome=true ↔ k ∈ ks)
 | _,_,.nil=>by simp
 | _,_,.cons r t=>by
  obtain ⟨tk,rfl⟩:=r
  rename_i k' ks' es'
  have ih:=Ents.find (prog:=prog) (w:=w) (k:=k) t;rw [List.findIdx?_cons,C9];have hi:(intKind prog w).is k (R0 k' tk)=decide (k=k'):=by
   by_cases e:k=k'
   ·simp [intKind,A33,e]
   ·have e':¬ k'=k:=fun z=>e z.symm;simp [intKind,A33,e,e']
  dsimp only;rw [hi];by_cases e:k=k'
  ·simp [e]
  ·simp only [e,decide_false,J3,if_false,false_or,Y5];exact ih
def byT (w:World):Bool:=w.params.followText "set-order"
def SetI (w:World) (a:Addr) (zs:List Int) (h:Heap):Prop:=
 ∃ (es:Array (Int × Value)) (ep:Nat) (t:SetTable) (ks:List Int),h.get? a=some { cls:=.type "set",data:=.set es ep t }/\T7 (byT w) t es.size/\Ents ks es.toList/\ks.Perm zs/\zs.Nodup/\zs.length<=4
theorem SetI.at {w:World} {a:Addr} {zs:List Int} {h h':Heap} (x:SetI w a zs h) (k:∀ o,h.get? a=some o->h'.get? a=some o):SetI w a zs h':=
 let ⟨es,ep,t,ks,h1,r⟩:=x;⟨es,ep,t,ks,k _ h1,r⟩
theorem T7.fits {b:Bool} {t:SetTable} {n:Nat} (T:T7 b t n) (hn:n<=7):t.fits n=true:=by
 unfold c4 j6;rw [T.size,T.dum,T.mask];have:((#[]:Array Nat)).size=0:=rfl;simp only [this,beq_self_eq_true,L8,decide_eq_true_eq];omega
def addI (zs:List Int) (k:Int):List Int:=if k ∈ zs then zs else zs++[k]
section
variable {prog:Program} {w:World} {A:Around} {E:Value->Shared->Prop} {s:Shared}
theorem SetI.size {a:Addr} {zs:List Int} {h:Heap} {es:Array (Int × Value)} {ks:List Int} (he:Ents ks es.toList) (hp:ks.Perm zs):es.size=zs.length:=by
 rw [<- hp.length_eq,C8 he,C0]
theorem qVE {a:Addr} {zs:List Int} {k:Int} {tk:Tok} {Q:Bool->Shared->Prop} (hS:SetI w a zs s.heap) (hroom:zs.length<=3\/k ∈ zs)
  (h:∀ h',Heap.SameBut a s.heap h'->SetI w a (addI zs k) h'->∀ b,Q b { s with heap:=h' }):wpAny (model prog w) A (setAddHashed a (.int k tk) (hashInt k)) Q E s:=by
 obtain ⟨es,ep,t,ks,ho,T,he,hp,hnd,hlen⟩:=id hS;have hsz:es.size=zs.length:=SetI.size (a:=a) (h:=s.heap) he hp;have hel:ElemsOf (intKind prog w) es.toList:=he.elems;have hb:es.size<scanBound:=by rw [hsz];unfold scanBound;omega
 have hf:t.fits es.size=true:=T.fits (by omega)
 unfold setAddHashed setAddHashedIn;refine wpAny_holding (wpAny_bind (wpAny_setState_of ho rfl hf ?_));dsimp only;rw [byScan_of (knd:=intKind prog w) (x:=.int k tk) rfl hb hel];simp only [↓reduceIte];unfold setAddByScan;refine wpAny_bind ?_;refine wpAny_bind (wpAny_rule ?_);refine wpAny_bind (wpAny_setScan_of (knd:=intKind prog w) (k:=k) (intKind_is _ _ _ _) ho rfl hf hel ?_);have hfd:=Ents.find (prog:=prog) (w:=w) (k:=k) he;cases hr:B09 (fun e=>(intKind prog w).is k e.2) es.toList with
 | some j=>
  dsimp only;rw [hr] at hfd;have hk:k ∈ zs:=hp.mem_iff.mp (hfd.mp rfl);refine wpAny_pure (wpAny_pure ?_);have e:s={ s with heap:=s.heap }:=by cases s;rfl
  rw [e];refine h s.heap (B19 a s.heap) ?_ _;unfold addI;rw [if_pos hk];exact hS
 | none=>
  dsimp only;rw [hr] at hfd;have hk:¬ k ∈ zs:=fun z=>by have:=hfd.mpr (hp.mem_iff.mpr z);cases this
  have h3:zs.length<=3:=hroom.resolve_right hk;obtain ⟨p,t',e1,T',tf,hpe⟩:=T.lay (by omega) rfl (hashInt k) (.int k tk)
  rw [e1];dsimp only;refine wpAny_bind (wpAny_pure ?_);rw [T'.plain];simp only [↓reduceIte];rw [hashByValue_scannable 8 (x:=.int k tk) rfl];refine wpAny_bind (wpAny_pure ?_);have hszE:(D5 es p (hashInt k,R0 k tk)).size=es.size+1:=by
   rw [<- C0,qB8,B0,D9,D7,F2,C0];omega
  rw [show plainKind (R0 k tk)=true from rfl];simp only [↓reduceIte];show wpAny _ _ (storeSet a (D5 es p (hashInt k,.int k tk)) t' >>= _) _ _ _;refine wpAny_bind (wpAny_storeSet_of ho rfl ?_ (by rw [hszE,hsz,sizeLine_eq];omega))
  rw [tf];simp only [P7,J3,↓reduceIte];refine wpAny_pure (wpAny_pure ?_);refine h _ (Q9 s.heap a _) ?_ _;have hg:(s.heap.update a (B20 (D5 es p (hashInt k,.int k tk)) t')).get? a=some { cls:=.type "set",data:=.set (D5 es p (hashInt k,.int k tk)) (ep+1) t' }:=by
   have:=O4 (B20 (D5 es p (hashInt k,.int k tk)) t') ho (by rw [putSet_of _ _ (ep:=ep) (es:=es) (t:=t) rfl];rfl)
   rw [putSet_of _ _ (ep:=ep) (es:=es) (t:=t) rfl] at this;exact this
  have hpm:(D5 es p (hashInt k,R0 k tk)).toList.Perm (es.toList++[(hashInt k,.int k tk)]):=by
   rw [qB8];have e3:es.toList++[(hashInt k,R0 k tk)]=es.toList.take p++(es.toList.drop p++[(hashInt k,R0 k tk)]):=by
    rw [<- P6,X3]
   rw [e3];exact u6 _ (A08 _ _).symm
  obtain ⟨ks',h4,h5⟩:=Ents.perm (ks:=ks++[k]) (o9 he ⟨tk,rfl⟩) hpm;refine ⟨_,_,t',ks',hg,by rw [hszE];exact T',h4,?_,?_,?_⟩
  ·unfold addI;rw [if_neg hk];exact h5.trans (hp.append_right _)
  ·unfold addI;rw [if_neg hk];exact qJL hnd hk
  ·unfold addI;rw [if_neg hk,B0,C1];omega
end
def dedI:List Int->List Int:=fun l=>l.foldl addI []
theorem qWM (zs:List Int) (k:Int):(addI zs k).length<=zs.length+1:=by
 unfold addI
 split <;> simp
theorem qC7:∀ (l zs:List Int),(l.foldl addI zs).length<=zs.length+l.length
 | [],zs=>by simp
 | k::r,zs=>by
  have h1:=qC7 r (addI zs k);have h2:=qWM zs k;rw [Y2,D9];omega
section
variable {prog:Program} {w:World} {A:Around} {R:Result->Shared->Prop} {I:Addr} {fp wr:List Addr} {G:Array GenState->Array GenState->Prop} {n:Nat} {P:Nat->Value->Prop} {St:Nat->Shared->Prop}
theorem qMH (W:WalksS prog w A.in1 I fp wr G n P St) (S:Addr) (hSf:S ∉ fp) (ns:List Int) (hnn:ns.length=n) (h4:n<=4) (hval:∀ i v,P i v->∃ t,v=.int (ns.getD i 0) t) :
  ∀ (k i:Nat) (s:Shared),n - i=k->i<=n->St i s->SetI w S (dedI (ns.take i)) s.heap->
   (∀ s',Moved (S::wr) G s s'->SetI w S (dedI ns) s'.heap->R (.ok (.ret .none)) s')->
   codeAny (model prog w) A (.builtin "set.update.loop" ⟨[.ref S,.ref I],[]⟩) R s:=by
 have hSw:S ∉ wr:=fun h=>hSf (W.sub _ h);have hsub:∀ b ∈ wr,b ∈ S::wr:=fun b hb=>B4 _ hb;intro k
 induction k with
 | zero=>
  intro i s hk hi hst hS hR;have hin:i=n:=by omega
  subst hin;refine codeAny_builtin F.entry_set_update_loop ?_;rw [O3 F.plain_set_update_loop _];show wpAny _ A.in1 (pyNext (.ref I) >>= _) _ _ s;refine wpAny_bind (W.done s _ _ hst fun s' hm=>?_);show wpAny _ A.in1 (ret V7) _ _ s';rw [L7 (by omega)] at hS
  exact wpAny_pure (hR s' (hm.mono hsub) (hS.at fun o e=>hm.heap S _ hSw e))
 | succ k ih=>
  intro i s hk hi hst hS hR;have hlt:i<n:=by omega
  refine codeAny_builtin F.entry_set_update_loop ?_;rw [O3 F.plain_set_update_loop _];show wpAny _ A.in1 (pyNext (.ref I) >>= _) _ _ s;refine wpAny_bind (W.item i s _ _ hlt hst fun v s' hP hst' hm=>?_);obtain ⟨t,rfl⟩:=hval i v hP;have hS':SetI w S (dedI (ns.take i)) s'.heap:=hS.at fun o e=>hm.heap S _ hSw e;show wpAny _ A.in1 (holding [R0 (ns.getD i 0) t] (setAdd S (.int (ns.getD i 0) t)) >>= _) _ _ s';refine wpAny_bind (wpAny_holding ?_);unfold setAdd;refine wpAny_holding ?_;refine wpAny_bind ((intKind prog w).pyHash (k:=ns.getD i 0) (intKind_is _ _ _ _) ?_);have hroom:(dedI (ns.take i)).length<=3:=by
   have:=qC7 (ns.take i) [];rw [D7] at this;unfold dedI;simp at this;omega
  refine qVE (s:={ s' with toks:=s'.toks+1 }) hS' (.inl hroom) fun h' hsb hS2 b=>?_;have e2:addI (dedI (ns.take i)) (ns.getD i 0)=dedI (ns.take (i+1)):=by
   have hi':i<ns.length:=by omega
   rw [D4,A5 hi',E3];unfold dedI;rw [B21,Y2,A85,M6,A5 hi',w6]
  rw [e2] at hS2;refine wpAny_pure ⟨plainId_quiet F.plain_set_update_loop _,ih (i+1) _ (by omega) hlt (W.frame _ s' _ _ hst' (h9 _) fun b hb o e=>?_) hS2 fun s'' hm'' hS''=>?_⟩
  ·rw [hsb.2 b (fun h:b=S=>hSf (by rw [<- h];exact hb))];exact e
  ·refine hR s'' (Moved.trans W.gtrans ((hm.mono hsub).then_heap (h9 _) fun b o hb e=>?_) hm'') hS'';rw [hsb.2 b (fun h:b=S=>hb (by rw [h];exact B5))];exact e
end
abbrev qAZ (w:World):Obj:={ cls:=.type "set",dict:=none,data:=.set #[] 0 (.fresh 0 0 (!byT w)) }
section
variable {prog:Program} {w:World} {A:Around} {E:Value->Shared->Prop} {s:Shared}
theorem qMJ (a:Value) {Q₁:Value->Shared->Prop} (h:Q₁ (.ref s.heap.objs.size) { s with heap:=s.heap.push (qAZ w) }) :
  codeAny (model prog w) A (.call (.builtin "set.__new__") ⟨[.type "set",a],[]⟩) (wants Q₁ E) s:=by
 refine codeAny_of_tree ?_;show wpAny _ A.in1 (do checkBuiltinCall "set.__new__" ⟨[.type "set",a],[]⟩;again (.builtin "set.__new__" ⟨[.type "set",a],[]⟩)) _ _ s
 refine wpAny_bind (wpAny_of_eq (F.newCall_set_1 a) (wpAny_pure ⟨plainId_quiet F.plain_set_new _,codeAny_builtin F.entry_set_new ?_⟩));rw [O3 F.plain_set_new _];unfold Builtin.«set.__new__» B61;have hsub:=sub_set_self;obtain ⟨hp,g,d,tk,os⟩:=s;dsimp only
 wp_walk
 refine wpAny_askSetting (wpAny_pure ?_);dsimp only;simp only [newObj];refine wpAny_bind (wpAny_alloc (wpAny_pure ?_));exact wpAny_pure h
theorem SetI.fresh {a:Addr} {h:Heap} (e:h.get? a=some (qAZ w)):SetI w a [] h:=
 ⟨#[],0,_,[],e,⟨rfl,rfl,rfl,rfl,rfl,.nil,fun _ z=>nomatch z⟩,.nil,.refl _,.nil,F5 _⟩
set_option maxHeartbeats 3200000 in
theorem qRP {l:Addr} {items:Array Value} {ns:List Int} {Q:Value->Shared->Prop} (hh:A.handled=none) (hl:s.heap.IsList l items) (hi:IntsAre items.toList ns) (h4:items.size<=4)
  (h:∀ (h':Heap) (tk:Nat),SetI w s.heap.objs.size (dedI ns) h'->(∀ b o,s.heap.get? b=some o->h'.get? b=some o)->Q (.ref s.heap.objs.size) { s with heap:=h',toks:=tk }) :
  wpAny (model prog w) A (call (.type "set") [.ref l]) Q E s:=by
 have hlen:ns.length=items.size:=by have:=IntsAre.length hi;simpa using this.symm
 obtain ⟨c,tl,hmro⟩:=Q3.mro;have hmade:=Q3.made;have hsub:=Q3.sub;refine wpAny_call (codeAny_of_tree ?_);show wpAny _ _ (callAny (.type "set") _) _ _ _;refine wpAny_pure ⟨B10 _ (by decide +kernel),codeAny_builtin B22 ?_⟩
 rw [B11 (weight_type_call_type "set" [.ref l] []) rfl];have h1:=Q3.notType;have h2:=Q3.canCreate;have hct:=B39 (.ref l)
 repeat (any_goals (first | assumption | wp_step))
 refine codeAny_mono (qMJ (.ref l) (E:=E) (Q₁:=fun obj s₁=>obj=.ref s.heap.objs.size/\s₁={ s with heap:=s.heap.push (qAZ w) }) ⟨rfl,rfl⟩) fun r s₁ hr=>?_;cases r with
 | error e=>exact hr
 | ok fl=>
  cases fl with
  | ret obj=>
   obtain ⟨rfl,rfl⟩:=hr;have hS:(s.heap.push (qAZ w)).get? s.heap.objs.size=some (qAZ w):=B9 _ rfl;have hT:Shared.TypeIs { s with heap:=s.heap.push (qAZ w) } (.ref s.heap.objs.size) "set":=⟨_,hS,rfl⟩;have hli:=Q3.init.lookup;have hbi:=Q3.init.bind (.ref s.heap.objs.size)
   repeat (any_goals (first | assumption | wp_step))
   refine codeAny_mono (codeAny_call_builtin (R:=wants (fun r s₂=>r=.none/\∃ h' tk,s₂={ s with heap:=h',toks:=tk }/\SetI w s.heap.objs.size (dedI ns) h'/\
     (∀ b o,s.heap.get? b=some o->h'.get? b=some o)) E) Q3.init.plain B40 (check_set_init_1 hT ?_)) fun r₂ s₂ hr₂=>?_
   ·obtain ⟨ol,hol,hcl,nl,hdl⟩:=hl;obtain ⟨ocls,odict,odata,oslots⟩:=ol;simp only at hcl hdl;subst hcl;subst hdl;have hol':(s.heap.push (qAZ w)).get? l=some { cls:=.type "list",dict:=odict,data:=.seq items nl,slots:=oslots }:=A8 _ hol;have hsls:=F.sub_list_set;have hslf:=A78;have hne:(V9 "list" == V9 "dict")=false:=by decide
    have hl1:(s.heap.push (qAZ w)).IsList l items:=⟨_,hol',rfl,nl,rfl⟩;unfold Builtin.«set.__init__» noKeywords x8;generalize hPI:pyIter=PI
    wp_walk
    subst hPI;refine wpAny_pyIter_list hl1 ?_;refine wpAny_bind (wpAny_runValue ?_);have hlS:l<s.heap.objs.size:=B8 hol;have hh3:A.in1.in1.in1.handled=none:=by simp [hh]
    have hneI:l ≠ (s.heap.push (qAZ w)).objs.size:=by
     rw [O2];exact E2 (P8 hlS)
    have hSf:s.heap.objs.size ∉ [(s.heap.push (qAZ w)).objs.size,l]:=by
     rw [O2];simp only [C9,B2,W8,or_false,not_or];exact ⟨E2 (A42 _),f9 hlS⟩
    have hval:∀ (i:Nat) (v:Value),items[i]?=some v->∃ t,v=.int (ns.getD i 0) t:=fun i v hv=>
     i3 hi i v (by rw [M9];exact hv)
    refine qMH ((A75 hh3 _ l hneI items).toS) s.heap.objs.size hSf ns hlen h4 hval (items.size - 0) 0 _ (by omega) (F5 _)
     ⟨⟨_,B9 _ rfl,rfl,rfl⟩,(hl1.push _)⟩ ?hS0 ?hR
    case hS0=>exact SetI.fresh (A8 _ hS)
    case hR=>
     intro s' hm hS';obtain ⟨h',g',d',tk',os'⟩:=s';have eg:g'=s.gens:=hm.gens;have ed:d'=s.drawn:=hm.drawn;have eo:os'=s.os:=hm.os;subst eg;subst ed;subst eo;show wpAny _ _ _ _ _ _;refine wpAny_pure ?_;show wpAny _ _ (ret V7) _ _ _;refine wpAny_pure ⟨rfl,h',tk',rfl,hS',fun b o e=>?_⟩;have hb:=B8 e;have hb1:b ≠ s.heap.objs.size:=E2 hb;have hb2:b ≠ (s.heap.push (qAZ w)).objs.size:=by
      rw [O2];exact E2 (P8 hb)
     exact hm.heap b o (by simp only [C9,B2,W8,or_false,not_or];exact ⟨hb1,hb2⟩) (A8 _ (A8 _ e))
   ·cases r₂ with
    | error e=>exact hr₂
    | ok fl₂=>
     cases fl₂ with
     | ret r=>
      obtain ⟨rfl,h',tk,rfl,hS',hk'⟩:=hr₂
      repeat (any_goals (first | assumption | wp_step))
      exact h _ _ hS' hk'
     | next=>exact hr₂
     | brk=>exact hr₂
     | cont=>exact hr₂
  | next=>exact hr
  | brk=>exact hr
  | cont=>exact hr
end
theorem slot_si_next:Slot "set_iterator" "__next__" "set_iterator.__next__":=
 .of (owner:="set_iterator") (n:="__next__") (by rw [typeLookup_type,builtinLookup_eq_fast];kernel_rfl) (by decide +kernel) (by decide +kernel) (by decide +kernel)
  (by first | exact .inl (by decide +kernel) | exact .inr (by decide +kernel)) (by rw [isSubtype_type];kernel_rfl)
theorem qIF:Slot "set_iterator" "__iter__" "set_iterator.__iter__":=
 .of (owner:="set_iterator") (n:="__iter__") (by rw [typeLookup_type,builtinLookup_eq_fast];kernel_rfl) (by decide +kernel) (by decide +kernel) (by decide +kernel)
  (by first | exact .inl (by decide +kernel) | exact .inr (by decide +kernel)) (by rw [isSubtype_type];kernel_rfl)
theorem qDG:entryFor table "set_iterator.__next__" = some Builtin.«set_iterator.__next__»:=entryFor_of_tree (by kernel_rfl)
theorem qLS:entryFor table "set_iterator.__iter__" = some Builtin.«dict_keyiterator.__iter__»:=
 entryFor_alias (id':="dict_keyiterator.__iter__") (by kernel_rfl) rfl (by decide +kernel) (by kernel_rfl)
theorem qGH:entryFor table "set.__iter__" = some Builtin.«frozenset.__iter__»:=
 entryFor_alias (id':="frozenset.__iter__") (by kernel_rfl) rfl (by decide +kernel) (by kernel_rfl)
theorem qPZ:Manifest.owners.lookup (String.ofList "set_iterator".toList.reverse.reverse)=some Manifest.sig_set_iterator:=by kernel_rfl
theorem qE8 (a:Value):argsOk "set_iterator.__next__" ⟨[a],[]⟩:=by
 unfold argsOk;rw [signature?_of (id:="set_iterator.__next__") (n:="__next__".toList.reverse) (o:="set_iterator".toList.reverse) (by kernel_rfl) qPZ];kernel_rfl
theorem qNW (a:Value):argsOk "set_iterator.__iter__" ⟨[a],[]⟩:=by
 unfold argsOk;rw [signature?_of (id:="set_iterator.__iter__") (n:="__iter__".toList.reverse) (o:="set_iterator".toList.reverse) (by kernel_rfl) qPZ];kernel_rfl
def qCC (w:World) (a:Addr) (ep:Nat) (es:Array (Int × Value)):List (Int × Value):=if byT w=true then (pickOrder (w.params.setOrder a ep) es).toList else es.toList
def qC5 (w:World) (t:SetTable) (i:Nat):Nat:=if byT w=true then 0 else if i=0 then 0 else t.place.getD (i - 1) 0+1
theorem qC4 (w:World) (a:Addr) (ep:Nat) (es:Array (Int × Value)):(qCC w a ep es).Perm es.toList:=by
 unfold qCC
 split
 ·exact qSU _ _
 ·exact .refl _
theorem T7.below_at {b:Bool} {t:SetTable} {n:Nat} (T:T7 b t n) (i:Nat) (hi:i<=n):C6 t.place (if i=0 then 0 else t.place.getD (i - 1) 0+1)=i:=by
 obtain ⟨b1,b2,b3⟩:=qDK (j:=if i=0 then 0 else t.place.getD (i - 1) 0+1) T.up
 have hs:=T.size;have gd:∀ a c d,a<t.place.size->t.place.getD a c=t.place.getD a d:=fun a c d ha=>by
  rw [D6,D6,D8 ha]
  rfl
 by_cases h0:i=0
 ·rw [if_pos h0] at b1 b2 b3 ⊢;subst h0;apply A57;intro z;have:=b2 0 z;omega
 ·rw [if_neg h0] at b1 b2 b3 ⊢;have h1:¬ C6 t.place (t.place.getD (i - 1) 0+1)<i:=fun z=>by
   have:=b3 (i - 1) (by omega) (by omega)
   rw [gd (i - 1) (t.place.getD (i - 1) 0+1) 0 (by omega)] at this
   omega
  have h2:¬ i<C6 t.place (t.place.getD (i - 1) 0+1):=fun z=>by
   have q:=b2 i z;have:=qS4 0 T.up (i - 1) i (by omega) (by omega)
   rw [gd i (t.place.getD (i - 1) 0+1) 0 (by omega)] at q
   omega
  omega
def SetIt (w:World) (a I:Addr) (es:Array (Int × Value)) (ep:Nat) (t:SetTable) (i:Nat) (h:Heap):Prop:=
 (∃ o,h.get? I=some o/\o.cls=.type "set_iterator"/\o.data=.fields #[.int (qC5 w t i) 0,.int i 0,.ref a,.int es.size 0,.int ep 0])/\h.get? a=some { cls:=.type "set",data:=.set es ep t }
section
variable {prog:Program} {w:World} {A:Around} {E:Value->Shared->Prop} {s:Shared} {a I:Addr} {es:Array (Int × Value)} {ep:Nat} {t:SetTable} {i:Nat}
theorem SetIt.typeIs (x:SetIt w a I es ep t i s.heap):s.TypeIs (.ref I) "set_iterator":=let ⟨⟨o,h1,h2,_⟩,_⟩:=x;⟨o,h1,h2⟩
theorem qMK {Q:Option (Value × Nat)->Shared->Prop} (T:T7 (byT w) t es.size) (h8:es.size<=7) (ho:s.heap.get? a=some { cls:=.type "set",data:=.set es ep t }) (hi:i<=es.size)
  (h:Q (match (qCC w a ep es)[i]? with | some e=>some (e.2,qC5 w t (i+1)) | none=>none) s):wpAny (model prog w) A (setNext a (qC5 w t i) i ep) Q E s:=by
 have hf:=T.fits h8;unfold setNext;refine wpAny_bind (wpAny_setState_of ho rfl hf ?_);dsimp only;unfold setsByText;refine wpAny_bind (wpAny_bind (wpAny_askSetting (wpAny_pure ?_)));show wpAny _ _ (if byT w=true then _ else _) _ _ _
 cases hb:byT w with
 | true=>
  rw [if_pos rfl];simp only [bne_self_eq_false,J3,if_false];refine wpAny_bind ?_;unfold setWalk;refine wpAny_bind (wpAny_setState_of ho rfl hf ?_);dsimp only;unfold setsByText;refine wpAny_bind (wpAny_bind (wpAny_askSetting (wpAny_pure ?_)));show wpAny _ _ (if byT w=true then _ else _) _ _ _
  rw [hb,if_pos rfl];refine wpAny_bind (wpAny_askSetting (wpAny_pure (wpAny_pure ?_)));have e:qCC w a ep es=(pickOrder (w.params.setOrder a ep) es).toList:=by unfold qCC;rw [if_pos hb]
  have e2:∀ j,qC5 w t j=0:=fun j=>by unfold qC5;rw [if_pos hb]
  rw [e,M9,e2] at h;rw [e2];show Q (Option.map _ (pickOrder (w.params.setOrder a ep) es)[i]?) s;cases hx:(pickOrder (w.params.setOrder a ep) es)[i]? with
  | none=>rw [hx] at h;exact h
  | some v=>rw [hx] at h;exact h
 | false=>
  rw [if_neg (by simp)]
  show wpAny _ _ (if (!t.plain && decide (es.size > 1))=true then _ else _) _ _ _
  rw [T.plain];simp only [m9,P3,J3,if_false];refine wpAny_bind ?_;show wpAny _ _ (if (!t.led && !es.isEmpty)=true then _ else _) _ _ _
  rw [T.led,hb];simp only [A86,m9,P3,J3,if_false];refine wpAny_pure (wpAny_pure ?_);have e:qCC w a ep es=es.toList:=by unfold qCC;rw [if_neg (by rw [hb];simp)]
  have e2:∀ j,qC5 w t j=if j=0 then 0 else t.place.getD (j - 1) 0+1:=fun j=>by unfold qC5;rw [if_neg (by rw [hb];simp)]
  rw [e,M9] at h;rw [e2,T.below_at i hi];cases hx:es[i]? with
  | none=>rw [hx] at h;exact h
  | some v=>
   rw [hx] at h;have hlt:i<t.place.size:=by rw [T.size];exact (A09.mp hx).1
   rw [D8 hlt];dsimp only at h ⊢;have e3:qC5 w t (i+1)=t.place[i]+1:=by
    rw [e2,if_neg (by omega),A14,D6,D8 hlt]
    rfl
   rw [e3] at h;exact h
theorem qXT {Q:Option Value->Shared->Prop} (T:T7 (byT w) t es.size) (h8:es.size<=7) (hit:SetIt w a I es ep t i s.heap) (hne:a ≠ I) {e:Int × Value} (hx:(qCC w a ep es)[i]?=some e)
  (hQ:∀ h',SetIt w a I es ep t (i+1) h'->(∀ b o,b ≠ I->s.heap.get? b=some o->h'.get? b=some o)->Q (some e.2) { s with heap:=h' }):wpAny (model prog w) A (pyNext (.ref I)) Q E s:=by
 obtain ⟨⟨o,ho,hc,hd⟩,hs⟩:=id hit;have hi:i<es.size:=by
  have:=(A6.mp hx).1;rw [(qC4 w a ep es).length_eq,C0] at this;exact this
 unfold pyNext;refine wpAny_bind (wpAny_attempt (wpAny_callSpecial?_slot (name:=J9 "__next__") hit.typeIs slot_si_next (wpAny_call_entry slot_si_next hit.typeIs qDG ?_ (qE8 _))));unfold Builtin.«set_iterator.__next__»;refine wpAny_bind (wpAny_pure ?_);refine wpAny_bind (wpAny_fieldsOf ho hd ?_);dsimp only;unfold setEntries;refine wpAny_bind (wpAny_bind (wpAny_setState_of hs rfl (T.fits h8) (wpAny_pure ?_)));rw [if_neg (by simp)]
 simp only [O6];refine wpAny_bind (qMK T h8 hs (Y8 hi) ?_);rw [hx];dsimp only;show wpAny _ _ (setField (.ref I) 0 (rawInt _) >>= _) _ _ s;refine wpAny_bind (wpAny_setField ho hd (by simp) ?_)
 have g1:=O4 (A36 (·.setIfInBounds 0 (rawInt ((qC5 w t (i+1):Nat):Int)))) ho (X4 (Q1 hd _));have d1:=Q1 hd (·.setIfInBounds 0 (rawInt ((qC5 w t (i+1):Nat):Int)));refine wpAny_bind (wpAny_setField g1 d1 (by simp) ?_)
 have g2:=O4 (A36 (·.setIfInBounds 1 (rawInt ((i:Int)+1)))) g1 (X4 (Q1 d1 _));have d2:=Q1 d1 (·.setIfInBounds 1 (rawInt ((i:Int)+1)));refine wpAny_pure ⟨_,rfl,wpAny_pure (hQ _ ⟨⟨_,g2,(j7 ..).trans ((j7 ..).trans hc),?_⟩,?_⟩ fun b o' hb e=>?_)⟩
 ·rw [d2];simp [rawInt]
 ·exact (F9 _ _ (O1 hne)).trans ((F9 _ _ (O1 hne)).trans hs)
 ·exact (F9 _ _ (O1 hb)).trans ((F9 _ _ (O1 hb)).trans e)
theorem qZL {Q:Option Value->Shared->Prop} (hh:A.handled=none) (T:T7 (byT w) t es.size) (h8:es.size<=7) (hit:SetIt w a I es ep t es.size s.heap)
  (hQ:∀ h',(∀ b o,b ≠ I->s.heap.get? b=some o->h'.get? b=some o)->Q none { s with heap:=h' }):wpAny (model prog w) A (pyNext (.ref I)) Q E s:=by
 obtain ⟨⟨o,ho,hc,hd⟩,hs⟩:=id hit;unfold pyNext;refine wpAny_bind (wpAny_attempt (wpAny_callSpecial?_slot (name:=J9 "__next__") hit.typeIs slot_si_next (wpAny_call_entry slot_si_next hit.typeIs qDG ?_ (qE8 _))));unfold Builtin.«set_iterator.__next__»;refine wpAny_bind (wpAny_pure ?_);refine wpAny_bind (wpAny_fieldsOf ho hd ?_);dsimp only;unfold setEntries;refine wpAny_bind (wpAny_bind (wpAny_setState_of hs rfl (T.fits h8) (wpAny_pure ?_)));rw [if_neg (by simp)]
 simp only [O6];have hx:(qCC w a ep es)[es.size]?=none:=G0 (by rw [(qC4 w a ep es).length_eq,C0];exact B3 _)
 refine wpAny_bind (qMK T h8 hs (B3 _) ?_);rw [hx];dsimp only;show wpAny _ _ (setField (.ref I) 2 .none >>= _) _ _ s;refine wpAny_bind (wpAny_setField ho hd (by simp) ?_)
 show wpAny _ _ (newExc (.type "StopIteration") [] >>= _) _ _ _;refine wpAny_bind ?_;simp only [newExc,newTuple];refine wpAny_bind (wpAny_newObj_type ?_ (by size_fits))
 refine wpAny_bind (m:=firstArgMember _ _) (wpAny_of_eq (a:=V7) (by first | rfl | (simp only [firstArgMember];rfl)) ?_)
 refine wpAny_newObj_type ?_ (by size_fits)
 simp only [raiseNew];refine wpAny_bind (wpAny_handled ?_);rw [show A.in1.handled=none from hh];refine wpAny_bind (wpAny_pure (wpAny_throw ?_));refine wpAny_bind (wpAny_isInstance (T:="StopIteration") (b:=true) ⟨_,B9 _ rfl,rfl⟩ isSubtype_stop ?_);exact wpAny_pure (hQ _ (((Q9 ..).extBut.push _).push _))
theorem qSM {Q:Value->Shared->Prop} (hit:SetIt w a I es ep t i s.heap) (h:Q (.ref I) s):wpAny (model prog w) A (pyIter (.ref I)) Q E s:=by
 refine wpAny_pyIter_slot hit.typeIs qIF (wpAny_call_entry qIF hit.typeIs qLS ?_ (qNW _));show wpAny _ _ (ret (.ref I)) _ _ s;exact wpAny_pure ⟨_,rfl,"set_iterator",_,hit.typeIs,slot_si_next.lookup,h⟩
theorem qZK {Q:Value->Shared->Prop} (T:T7 (byT w) t es.size) (h8:es.size<=7) (hs:s.heap.get? a=some { cls:=.type "set",data:=.set es ep t })
  (hQ:Q (.ref s.heap.objs.size) { s with heap:=s.heap.push { cls:=.type "set_iterator",data:=.fields #[.int 0 0,.int 0 0,.ref a,.int es.size 0,.int ep 0] } }):wpAny (model prog w) A (pyIter (.ref a)) Q E s:=by
 have hT:s.TypeIs (.ref a) "set":=⟨_,hs,rfl⟩;have hf:=T.fits h8;refine wpAny_pyIter_slot hT y3 (wpAny_call_entry y3 hT qGH ?_ (B23 _));unfold Builtin.«frozenset.__iter__» A37 A26 setEntries;refine wpAny_bind (wpAny_bind (wpAny_pure ?_));show wpAny _ _ (pure a) _ _ s;refine wpAny_pure ?_;refine wpAny_bind (wpAny_bind (wpAny_bind (wpAny_setState_of hs rfl hf (wpAny_pure (wpAny_pure ?_)))));unfold setDrawn setsByText;refine wpAny_bind (wpAny_bind (wpAny_setState_of hs rfl hf ?_));dsimp only;refine wpAny_bind (wpAny_bind (wpAny_askSetting (wpAny_pure (wpAny_pure ?_))));show wpAny _ _ (if (!byT w && (!t.plain && decide (es.size > 1)))=true then _ else _) _ _ _
 rw [T.plain];simp only [m9,P3,P7,J3,if_false];refine wpAny_bind (wpAny_pure ?_);unfold setEpoch;refine wpAny_bind (wpAny_bind (wpAny_setState_of hs rfl hf (wpAny_pure ?_)));refine wpAny_bind (wpAny_newObj_type (wpAny_pure ⟨_,rfl,"set_iterator",_,⟨_,B9 _ rfl,rfl⟩,slot_si_next.lookup,?_⟩));simpa [rawInt] using hQ
theorem qSN {Q:Bool->Shared->Prop} (hT:s.TypeIs (.ref a) "set") (h:Q false s):wpAny (model prog w) A (y4 (.ref a)) Q E s:=by
 unfold y4;refine wpAny_bind (wpAny_specialOf hT PySem.F.slot_set_len.lookup ?_);generalize hid:("set.__len__" : String)=id0
 wp_delta
 rw [show splitId id0=some ("set","__len__") from by subst hid;decide +kernel]
 subst hid;refine wpAny_bind (wpAny_isInstance (T:="set") (b:=true) hT (by rw [isSubtype_type];kernel_rfl) ?_)
 refine wpAny_ite_split (fun hab=>absurd hab (by decide)) (fun _=>?_)
 refine wpAny_ite_split (fun _=>?_) (fun hab=>absurd (by decide +kernel) hab)
 refine wpAny_bind (wpAny_typeOf hT ?_);exact wpAny_pure h
theorem qZJ (T:T7 (byT w) t es.size) (h8:es.size<=7):PySem.W.KdlSrc prog w "set" a a es.size (fun i v=>∃ e,(qCC w a ep es)[i]?=some e/\v=e.2) (fun h=>h.get? a=some { cls:=.type "set",data:=.set es ep t }) where
 type:=fun s h=>⟨_,h,rfl⟩
 there:=fun h x=>⟨B8 x,B8 x⟩
 keep:=fun h h' x k=>k a (.inl rfl) _ x
 notList:=by decide
 notTuple:=by decide
 hint:=fun A E s Q x q=>qSN ⟨_,x,rfl⟩ q
 iter:=fun A s hh x=>by
  have hne:a ≠ s.heap.objs.size:=E2 (B8 x);refine ⟨_,fun i h=>SetIt w a s.heap.objs.size es ep t i h,fun E Q q=>qZK T h8 x q,?_,⟨⟨_,B9 _ rfl,rfl,?_⟩,A8 _ x⟩⟩
  ·refine ⟨fun b hb=>?_,fun i h h' st k=>?_,fun i s' Q E hi st q=>?_,fun s' Q E st q=>?_,fun i s' Q E st q=>qSM st q⟩
   ·have e:b=s.heap.objs.size:=by simpa using hb
    simp [e]
   ·obtain ⟨⟨o,h1,h2,h3⟩,h4⟩:=st;exact ⟨⟨o,k _ (by simp) _ h1,h2,h3⟩,k _ (by simp) _ h4⟩
   ·have hl:i<(qCC w a ep es).length:=by rw [(qC4 w a ep es).length_eq,C0];exact hi
    refine qXT T h8 st hne (A5 hl) fun h' st' k=>?_;exact q _ h' s'.toks ⟨_,A5 hl,rfl⟩ st' fun b o hb e=>k b o (fun z=>hb (by simp [z])) e
   ·refine qZL hh T h8 st fun h' k=>?_;exact q h' s'.toks fun b o hb e=>k b o (fun z=>hb (by simp [z])) e
  ·unfold qC5
   split <;> rfl
end
theorem qBS {ns:List Int}:∀ {us:List Value},Vals (ns.map V.int) us->IntsAre us ns:=by
 induction ns with
 | nil=>intro us h;cases h;exact .nil
 | cons n r ih=>
  intro us h;cases h with
  | cons r1 r2=>
   obtain ⟨t,rfl⟩:=r1;exact IntsAre.cons _ _ (ih r2)
theorem qFL:∀ {us:List Value} {ns:List Int},IntsAre us ns->Vals (ns.map V.int) us:=qJC
section
variable {X:Cx}
def SetO (w:World) (a:Addr) (zs:List Int):HO:=.ext (SetI w a zs)
theorem qQH (hc:X.calm=true):qCN X (.type "set") (fun xs H Q=>∃ p ns,xs=[.ref p]/\SqL X.K H p (ns.map V.int)/\ns.length<=4/\∀ a,H a=none->Q (.ref a) (Ag H a (SetO X.w a (dedI ns)))):=by
 intro Ab s σ H xs us Q I r h;obtain ⟨p,ns,rfl,hq,h4,q⟩:=h;obtain ⟨u,rfl,rx⟩:=qEP r;cases rx;obtain ⟨its,rv,pl,hz⟩:=I.list hq;have hlen:=rv.length;rw [A0] at hlen;refine qRP (ns:=ns) (I.ok.hd hc) pl.isList (by simpa using qBS rv) (by simp;omega) fun h' tk hS hk=>?_
 refine ⟨.ref s.heap.objs.size,_,I.laid (t':=tk) hk (B3 _) ?_,rfl,q _ (I.hok.fresh (B3 _))⟩;obtain ⟨es,ep,t,ks,e,_⟩:=id hS;exact ⟨hS,⟨_,e⟩,fun h1 h2 x k=>x.at k⟩
theorem Inv.track {Ab:List (Addr × Obj)} {s:Shared} {σ:St} {H:Hp} {T:Addr} {o:HO} (I:Inv X Ab σ H s) (h0:H T=none) (h1:X.s₀.heap.objs.size<=T) (h2:T ≠ X.env.locals) (h3:∀ x c,X.env.cells.lookup x=some c->c ≠ T) (h4:∀ p ∈ X.pn++Ab,p.1 ≠ T)
  (new:ObjOk X.prog X.w (Ag H T o) s.heap T o):Inv X Ab σ (Ag H T o) s:=by
 have old:∀ b ob,X.s₀.heap.get? b=some ob->b ≠ T:=fun b ob e=>E2 (J2 (B8 e) h1);have some':∀ b u,H b=some u->(Ag H T o) b=some u:=fun b u e=>by rw [qA9 (qA8 e h0)];exact e
 refine ⟨I.ok,I.os,I.bare,⟨I.base.keep,I.base.slot,fun b ob e n hx=>?_,I.base.there,fun b xs e=>some' _ _ (I.base.tups b xs e),fun b ob u e=>some' _ _ (I.base.frzs b ob u e),fun b ps e=>?_⟩,I.loc,I.cell,?_,fun x c e=>?_,fun p hp=>?_,fun b u e=>?_,I.len⟩
 ·rw [qA9 (old b ob e)];exact I.base.free b ob e n hx
 ·exact some' _ _ (I.base.tbls b ps e)
 ·rw [qA9 (O1 h2)];exact I.free
 ·rw [qA9 (h3 x c e)];exact I.freeC x c e
 ·obtain ⟨e1,n,r⟩:=I.pin p hp;exact ⟨e1,by rw [qA9 (h4 p hp)];exact n,r⟩
 ·by_cases hb:b=T
  ·subst hb;rw [qA1] at e;cases e;exact new
  ·rw [qA9 hb] at e;exact (I.hok b u e).stay (fun c v _ q=>q) (fun c q=>some' _ _ q) (fun c ys q=>some' _ _ q) fun c t q=>some' _ _ q
theorem qVB {Ab:List (Addr × Obj)} {s:Shared} {σ:St} {H:Hp} {Q:VK} {A:Around} {E:Value->Shared->Prop} {vs:List Value} {ns:List Int} {D:Addr} (I:Inv X Ab σ (Ag H D (.lst (ns.map V.int))) s) (hD:H D=none) (h64:ns.length<64)
  (q:∀ ns':List Int,ns'.Perm ns->ns'.Pairwise (·<=·)->Q (.ref D) (Ag H D (.lst (ns'.map V.int)))) :
  wpAny (model X.prog X.w) A (call (.builtin "list.sort") [.ref D]) (fun _ s'=>EP X Ab σ Q (.ref D) s') E s:=by
 obtain ⟨z,its,n,rv,hl,e⟩:=I.lstM qA1;have hI:=qBS rv;have hlen:=rv.length;rw [A0] at hlen;refine wpAny_call_entry slot_list_sort ⟨_,e,rfl⟩ entry_list_sort (list_sort_tree (ns:=ns) (n:=n) e hI (by omega) fun out ns' a1 a2 a3=>⟨_,rfl,?_⟩) (args_list_sort _)
 have hat:=sortedHeap_at (vs:=its) (out:=out) e;obtain ⟨e2,hat⟩:=hat;refine ⟨.ref D,Ag H D (.lst (ns'.map V.int)),?_,rfl,q ns' a2 a3⟩;have hu:Ag (Ag H D (.lst (ns.map V.int))) D (.lst (ns'.map V.int))=Ag H D (.lst (ns'.map V.int)):=qHY;rw [<- hu];refine I.write (x:=D) (e:=D) (t':=s.toks) (by rw [qA1];exact trivial) (.inl rfl) (fun b u hb hbu=>?_) ⟨_,hat⟩ ?_
 ·rw [sortedHeap_old hb (B8 hbu)];exact hbu
 ·refine ⟨?_,out.toList,e2,qFL a1,by simpa using hat⟩
  rw [A0,a2.length_eq,<- A0 (f:=V.int)];exact z
theorem qKT {Ab:List (Addr × Obj)} {s:Shared} {σ:St} {H:Hp} {vs:List Value} {ns:List Int} (I:Inv X Ab σ H s) (hv:IntsAre vs ns) (hz:ns.length<=sizeLine) :
  Inv X Ab σ (Ag H s.heap.objs.size (.lst (ns.map V.int))) { s with heap:=s.heap.push { cls:=.type "list",data:=.seq vs.toArray } }:=
 I.lnew (t':=s.toks) (qFL hv) (by rw [A0];exact hz)
theorem qK3 (hc:X.calm=true):qCN X (.builtin "sorted") (fun xs H Q=>∃ p ns,xs=[.ref p]/\(SqL X.K H p (ns.map V.int)\/SqT X.K H p (ns.map V.int)\/H p=some (SetO X.w p ns))/\ns.length<64/\
  ∀ (a:Addr) (ns':List Int),H a=none->ns'.Perm ns->ns'.Pairwise (·<=·)->Q (.ref a) (Ag H a (.lst (ns'.map V.int)))):=by
 intro Ab s σ H xs us Q I r h;obtain ⟨p,ns,rfl,hq,h64,q⟩:=h;obtain ⟨u,rfl,rx⟩:=qEP r;cases rx;refine k9 kind_sorted plain_sorted entry_sorted (args_sorted1 _) ?_;unfold Builtin.«sorted»;refine wpAny_bind (m:=checkCount "sorted" 1 1 _) (wpAny_pure ?_);have fin:∀ (s1:Shared) (vs:List Value) (zs:List Int),Inv X Ab σ H s1->IntsAre vs zs->zs.Perm ns->wpAny (model X.prog X.w) X.A.in1 (do
   let l <- newList vs
   let _ <- holding [l] (call (.builtin "list.sort") [l] [])
   ret l) (fun fin s'=>∃ r,fin=.done (.ret r)/\EP X Ab σ Q r s') X.xe s1:=by
  intro s1 vs zs I1 hv hp;have hlen:=IntsAre.length hv;have hz:zs.length<=sizeLine:=by rw [hp.length_eq,sizeLine_eq];omega
  refine wpAny_bind (wpAny_newList ?_ (by rw [hlen];exact hz))
  have hf:=I1.hok.fresh (B3 s1.heap.objs.size);refine wpAny_bind (wpAny_holding (wpAny_mono (qVB (E:=X.xe) (vs:=vs) (qKT I1 hv hz) hf (by rw [hp.length_eq];exact h64) fun ns' a b=>q _ ns' hf (a.trans hp) b) (fun _ s' x=>?_) fun _ _ e=>e))
  exact wpAny_pure ⟨_,rfl,x⟩
 rcases hq with hq | hq | hq
 ·obtain ⟨its,rv,pl,hz⟩:=I.list hq;obtain ⟨o,ho,hc',n,hd⟩:=pl.isList;have hlen:=rv.length;refine wpAny_bind (wpAny_collect_seq p (.inl rfl) ho hc' hd (fun h' hk=>?_) (by simp;omega))
  exact fin _ _ ns (I.kept (t':=s.toks) hk) (by simpa using qBS rv) (.refl _)
 ·obtain ⟨its,rv,pl,hz⟩:=I.tuple hq;obtain ⟨o,ho,hc',n,hd⟩:=pl;have hlen:=rv.length;refine wpAny_bind (wpAny_collect_seq p (.inr rfl) ho hc' hd (fun h' hk=>?_) (by simp;omega))
  exact fin _ _ ns (I.kept (t':=s.toks) hk) (by simpa using qBS rv) (.refl _)
 ·obtain ⟨hS,_,_⟩:=(show ObjOk X.prog X.w H s.heap p (.ext (SetI X.w p ns)) from I.hok p _ hq);obtain ⟨es,ep,t,ks,e,T,he,hp,hnd,h4⟩:=hS;have hsz:es.size=ns.length:=SetI.size (a:=p) (h:=s.heap) he hp;obtain ⟨ks',h1,h2⟩:=he.perm (qC4 X.w p ep es);refine wpAny_bind (A92 (A:=X.A.in1) (qZJ (ep:=ep) T (by omega)) (I.ok.hd hc) e (by rw [hsz,sizeLine_eq];omega) fun h' tk acc hk hacc=>?_)
  refine fin _ _ ks' (I.kept (t':=tk) hk) ?_ (h2.trans hp);obtain ⟨l1,l2⟩:=hacc;have key:∀ {ks:List Int} {l:List (Int × Value)},Ents ks l->∀ vs:List Value,vs.length=l.length->(∀ (i:Nat) (v:Value),vs[i]?=some v->∃ e:Int × Value,l[i]?=some e/\v=e.2)->IntsAre vs ks:=by
   intro ks l h
   induction h with
   | nil=>
    intro vs hl _;have:vs=[]:=M8.mp hl;subst this;exact .nil
   | cons r t ih=>
    intro vs hl hv;cases vs with
    | nil=>simp at hl
    | cons v vs=>
     obtain ⟨tk,rfl⟩:=r;obtain ⟨e,he,rfl⟩:=hv 0 v rfl;simp at he;subst he;exact IntsAre.cons _ _ (ih vs (by simpa using hl) fun i v hi=>by simpa using hv (i+1) v (by simpa using hi))
  refine key h1 acc.toList ?_ fun i v hi=>l2 i v (by rw [<- M9];exact hi)
  rw [C0,l1,(qC4 X.w p ep es).length_eq,C0]
def qIH (lo hi:Int):List V:=(N9 (hi - lo).toNat).map fun (i:Nat)=>V.int (lo+i)
theorem qUP:qCN X (.type "range") (fun xs H Q=>∃ i j,xs=[.int i,.int j]/\∀ p,H p=none->Q (.ref p) (Ag H p (.rng i j))):=by
 intro Ab s σ H xs us Q I r h;obtain ⟨i,j,rfl,q⟩:=h;obtain ⟨u,v,rfl,⟨t,rfl⟩,⟨t',rfl⟩⟩:=qQR r;refine call_range_2 ⟨.ref s.heap.objs.size,_,I.laid (fun b o e=>A8 _ e) (B3 _) ?_,rfl,q _ (I.hok.fresh (B3 _))⟩;exact ⟨_,_,_,B9 _ rfl⟩
theorem qVG {lo hi:Int} {n:Nat} {acc:List Value} (hn:n=(hi - lo).toNat) (hl:acc.length=n) (h:∀ (i:Nat) (v:Value),acc[i]?=some v->∃ t,v=.int (lo+i * 1) t):Vals (qIH lo hi) acc:=by
 have key:∀ (m:Nat) (acc:List Value),acc.length=m->∀ lo:Int,(∀ (i:Nat) (v:Value),acc[i]?=some v->∃ t,v=.int (lo+i) t)->Vals ((N9 m).map fun (i:Nat)=>V.int (lo+i)) acc:=by
  intro m
  induction m with
  | zero=>
   intro acc hl lo h;have:acc=[]:=M8.mp hl;subst this;exact .nil
  | succ m ih=>
   intro acc hl lo h;cases acc with
   | nil=>simp at hl
   | cons v acc=>
    rw [A58,E7,X5];have h0:=h 0 v rfl;refine .cons h0 ?_;have h1:=ih acc (by simpa using hl) (lo+1) fun i v hi=>by
     have:=h (i+1) v (by simpa using hi)
     obtain ⟨t,e⟩:=this;refine ⟨t,?_⟩;rw [e];congr 1
     push_cast
     omega
    have e:((fun (i:Nat)=>V.int (lo+i)) ∘ Nat.succ)=fun (i:Nat)=>V.int (lo+1+i):=by
     funext i
     simp only [Function.comp];congr 1
     push_cast
     omega
    rw [e];exact h1
 unfold qIH;rw [<- hn];refine key n acc hl lo fun i v hi=>?_;obtain ⟨t,e⟩:=h i v hi;exact ⟨t,by rw [e,Int.mul_one]⟩
theorem qR1 (lo hi:Int):(qIH lo hi).length=(hi - lo).toNat:=by unfold qIH;simp
theorem qbA {lo hi:Int}:b8 lo hi 1=((hi - lo).toNat:Nat):=by rw [rangeSize_one];split <;> omega
theorem qLU {prog:Program} {w:World} {A:Around} {E:Value->Shared->Prop} {s:Shared} {R:List Value->Shared->Prop} {r:Addr} {a b:Int} {t u v:Tok} {n:Nat} (hh:A.handled=none) (hr:IsRange s.heap r a b 1 t u v) (hsmall:A93 a b 1=true)
  (hn:b8 a b 1=n) (hlen:n<=2 ^ 24)
  (h:∀ (h':Heap) (tk:Nat) (acc:Array Value),(∀ b o,s.heap.get? b=some o->h'.get? b=some o)->ItemsOf (fun i v=>∃ t,v=.int (a+i * 1) t) acc n->R acc.toList { s with heap:=h',toks:=tk }) :
  wpAny (model prog w) A (collect (.ref r)) R E s:=by
 unfold collect;refine wpAny_bind (wpAny_runValue (codeAny_builtin entry_proto_collect' ?_));rw [O3 PySem.F.plain_proto_collect _];show wpAny _ A.in1 (newList [] >>= fun l=>again (.builtin "list.__iadd__" ⟨[l,.ref r],[]⟩)) _ _ s;refine wpAny_bind (wpAny_newObj_type ?_);refine wpAny_pure ⟨plainId_quiet A38 _,codeAny_builtin entry_list_iadd' ?_⟩;rw [O3 A38 _];have hS₁:(s.heap.push { cls:=.type "list",data:=.seq ([]:List Value).toArray }).get? s.heap.objs.size=some { cls:=.type "list",data:=.seq #[] }:=B9 _ rfl;show wpAny _ A.in1 (Builtin.List.listExtendWith (.ref s.heap.objs.size) (.ref r) (.ref s.heap.objs.size)) _ _ _;have key:=wpAny_extend_range (prog:=prog) (w:=w) (A:=A) (s:={ s with heap:=s.heap.push { cls:=.type "list",data:=.seq ([]:List Value).toArray } })
  (R:=fun (q:Result) (s':Shared)=>∃ (h':Heap) (tk:Nat) (acc':Array Value) (c':Nat),q=.ok (.ret (.ref s.heap.objs.size))/\s'={ s with heap:=h',toks:=tk }/\
   (∀ b o,s.heap.get? b=some o->h'.get? b=some o)/\h'.get? s.heap.objs.size=some { cls:=.type "list",dict:=none,data:=.seq acc' c',slots:=#[] }/\ItemsOf (fun i v=>∃ t,v=.int (a+i * 1) t) acc' n)
  hh (A8 _ hr) hsmall hn hlen s.heap.objs.size (.ref s.heap.objs.size) 0 hS₁
  (fun h' tk acc' c' hk hS' hacc=>⟨h',tk,acc',c',rfl,rfl,fun b o e=>hk b o (E2 (B8 e)) (A8 _ e),hS',hacc⟩)
 refine wpAny_mono key (fun fin s' x=>?_) fun e s' x=>?_
 ·cases fin with
  | done f=>
   obtain ⟨h',tk,acc',c',e,rfl,hk,hS',hacc⟩:=x;cases e;show wpAny _ A (load s.heap.objs.size >>= _) _ _ _;refine wpAny_bind (wpAny_load hS' ?_);exact wpAny_pure (h h' tk acc' hk hacc)
  | again c₁=>
   refine ⟨x.1,codeAny_mono x.2 fun q s₂ y=>?_⟩;obtain ⟨h',tk,acc',c',rfl,rfl,hk,hS',hacc⟩:=y;show wpAny _ A (load s.heap.objs.size >>= _) _ _ _;refine wpAny_bind (wpAny_load hS' ?_);exact wpAny_pure (h h' tk acc' hk hacc)
 ·obtain ⟨_,_,_,_,e',_⟩:=x;cases e'
theorem qNY {prog:Program} {w:World} {A:Around} {E:Value->Shared->Prop} {s:Shared} {Q:Value->Shared->Prop} {r:Addr} {a b:Int} {t u v:Tok} {n:Nat} (hh:A.handled=none) (hr:IsRange s.heap r a b 1 t u v) (hsmall:A93 a b 1=true)
  (hn:b8 a b 1=n) (hlen:n<=2 ^ 24)
  (h:∀ (h':Heap) (tk:Nat) (acc:Array Value),(∀ b o,s.heap.get? b=some o->h'.get? b=some o)->ItemsOf (fun i v=>∃ t,v=.int (a+i * 1) t) acc n->Q (.ref h'.objs.size) { s with heap:=h'.push { cls:=.type "tuple",data:=.seq acc },toks:=tk }) :
  wpAny (model prog w) A (call (.type "tuple") [.ref r]) Q E s:=by
 have hcode:codeAny (model prog w) A.in1 (.call (.builtin "tuple.__new__") ⟨[.type "tuple",.ref r],[]⟩) (wants (fun obj s₁=>s₁.TypeIs obj "tuple"/\Q obj s₁) E) s:=by
  refine codeAny_of_tree ?_;show wpAny _ A.in1.in1 (do checkBuiltinCall "tuple.__new__" ⟨[.type "tuple",.ref r],[]⟩;again (.builtin "tuple.__new__" ⟨[.type "tuple",.ref r],[]⟩)) _ _ s
  refine wpAny_bind (wpAny_of_eq (F.newCall_tuple_1 _) (wpAny_pure ⟨plainId_quiet B24 _,codeAny_builtin F.entry_tuple_new ?_⟩));rw [O3 B24 _];have hsub:=sub_tuple_self;have hinit:=init_tuple_lookup;have hmh:=madeHere_tuple;have hTI:s.TypeIs (.ref r) "range":=⟨_,hr,rfl⟩
  wp_walk using wpAny_typeOf hTI,qLU (prog:=prog) (w:=w) (A:=A.in1.in1) hh hr hsmall hn hlen
  intro h' tk acc hk hacc;show wpAny _ _ (R3 acc.toList.toArray >>= fun v=>ret v) _ _ _;unfold R3;refine wpAny_bind (wpAny_newObj_type ?_ (by show acc.toList.toArray.size<=sizeLine;simp only [Array.toArray_toList];rw [hacc.1,sizeLine_eq];omega))
  refine wpAny_pure ?_;have e:acc.toList.toArray=acc:=by simp
  rw [e];exact ⟨⟨_,B9 _ rfl,rfl⟩,h h' tk acc hk hacc⟩
 refine callType_codes (Q₁:=fun obj s₁=>s₁.TypeIs obj "tuple"/\Q obj s₁) A87 (F.typeCall_tuple_1 _) F.entry_object_init hcode fun obj s₁ h₁=>?_;exact ⟨h₁.1,A79 obj _,object_init_meets A87.init.lookup A87.made (by decide) prog w A.in1 _ s₁ ⟨h₁.1,rfl,h₁.2⟩⟩
theorem qKI (hc:X.calm=true):qCN X (.type "tuple") (fun xs H Q=>∃ p lo hi,xs=[.ref p]/\H p=some (.rng lo hi)/\-1000000<=lo/\lo<=1000000/\-1000000<=hi/\hi<=1000000/\∀ l,H l=none->Q (.ref l) (Ag H l (.tup (qIH lo hi)))):=by
 intro Ab s σ H xs us Q I r h;obtain ⟨p,lo,hi,rfl,hp,l1,l2,l3,l4,q⟩:=h;obtain ⟨u,rfl,rx⟩:=qEP r;cases rx;obtain ⟨t,u,v,e⟩:=(show ∃ t u v,s.heap.get? p=some { cls:=.type "range",data:=.fields #[.int lo t,.int hi u,.int 1 v] } from I.hok p _ hp);refine qNY (n:=(hi - lo).toNat) (I.ok.hd hc) (show IsRange s.heap p lo hi 1 t u v from e) (small_one (by omega) (by omega) (by omega) (by omega)) qbA (by omega) fun h' tk acc hk hacc=>?_
 obtain ⟨a1,a2⟩:=hacc;have I1:Inv X Ab σ H { s with heap:=h',toks:=tk }:=I.kept hk;refine ⟨.ref h'.objs.size,_,I1.laid (t':=tk) (fun b o e=>A8 _ e) (B3 _) (show ObjOk X.prog X.w _ _ _ (.tup (qIH lo hi)) from ⟨?_,acc.toList,qVG rfl (by simpa using a1) fun i v hi=>a2 i v (by rw [<- M9];exact hi),?_⟩),rfl,q _ (I1.hok.fresh (B3 _))⟩
 ·rw [qR1,sizeLine_eq];omega
 ·have:=IsTup.new h' acc;simpa using this
theorem qR0:∀ (bs:List Bool),((N9 bs.length).all fun i=>(bs[i]?).getD true)=bs.all id:=by
 intro bs;rw [Q2,E5,E5]
 constructor
 ·intro h b hb;obtain ⟨i,hi,e⟩:=T4.mp hb;have:=h i (J4.mpr hi);rw [A5 hi,e] at this;exact this
 ·intro h i hi;have hi':=J4.mp hi;rw [A5 hi'];exact h _ (m4 hi')
theorem qG7 (hc:X.calm=true):qCN X (.builtin "all") (fun xs H Q=>∃ (p:Addr) (bs:List Bool),xs=[.ref p]/\SqL X.K H p (bs.map V.bl)/\Q (.bl (bs.all id)) H):=by
 intro Ab s σ H xs us Q I r h;obtain ⟨p,bs,rfl,hq,q⟩:=h;obtain ⟨u,rfl,rx⟩:=qEP r;cases rx;obtain ⟨its,rv,pl,hz⟩:=I.list hq;have hl:=pl.isList;have hlt:p<s.heap.objs.size:=by obtain ⟨_,e,_⟩:=hl;exact B8 e
 have hlen:=rv.length;rw [A0] at hlen;refine call_all_walk (wpAny_pyIter_list hl ?_);refine ⟨s.heap.objs.size,[s.heap.objs.size,p],[s.heap.objs.size],its.toArray.size,_,_,fun i=>(bs[i]?).getD true,rfl,A75 (A:=X.A.in1) (I.ok.hd hc) _ p (E2 hlt) its.toArray,
  ⟨⟨_,B9 _ rfl,rfl,rfl⟩,hl.push _⟩,fun i v s' Q' E' hP hQ=>?_,fun h' tk hk=>?_⟩
 ·have hP':its[i]?=some v:=by simpa using hP
  have hi:i<bs.length:=by rw [hlen];exact (A6.mp hP').1
  obtain ⟨u,hu,ru⟩:=rv.get (i:=i) (x:=.bl bs[i]) (by rw [C4,A5 hi];rfl)
  rw [hP'] at hu;cases hu;cases ru;dsimp only at hQ;rw [A5 hi,w6] at hQ;exact wpAny_truthy_bool hQ
 ·have e:((N9 its.toArray.size).all fun i=>(bs[i]?).getD true)=bs.all id:=by
   rw [B7,<- hlen];exact qR0 bs
  refine ⟨.bl (bs.all id),H,I.kept fun b x e=>hk b x (fun hm=>by rw [B2.mp hm] at e;exact b7 _ (B8 e)) (A8 _ e),?_,q⟩
  rw [e]
  rfl
theorem qAW:qCN X (.builtin "isinstance") (fun xs H Q=>∃ x T t b,xs=[x,.ty T]/\TyOf X.K H x t/\R6 X.K t (.type T)=some b/\Q (.bl b) H):=by
 intro Ab s σ H xs us Q I r h;obtain ⟨x,T,t,b,rfl,ht,hk,q⟩:=h;obtain ⟨u,v,rfl,r1,r2⟩:=qQR r;cases r2;exact qTQ I r1 ht hk fun tk=>⟨.bl b,H,I.tok _,rfl,q⟩
theorem qT6 (hu:X.A.units<cLine):OpR X (compareOp .Eq) (fun x y H Q=>∃ p l xs,x=.ref p/\y=.ref l/\SqL X.K H p xs/\SqL X.K H l []/\Q (.bl xs.isEmpty) H):=by
 intro Ab s σ H x y v u Q I rx ry h;obtain ⟨p,l,xs,rfl,rfl,h1,h2,q⟩:=h;cases rx;cases ry;obtain ⟨its,r1,p1,z1⟩:=I.list h1;obtain ⟨its2,r2,p2,z2⟩:=I.list h2;cases r2;cases xs with
 | nil=>
  cases r1;exact SeqAt.eq_listAt (e:=fun _=>true) p1.isList p2.isList rfl hu (fun j h _=>absurd h (by simp)) ⟨.bl true,H,I,rfl,q⟩
 | cons a r=>
  cases r1;exact SeqAt.eq_list_lengthsAt p1.isList p2.isList (by simp) hu ⟨.bl false,H,I,rfl,q⟩
end
theorem qNL {X:Cx} {K:PySem.W.Frag} {w:World} (hK:X.K=K) (hw:X.w=w) (hc:X.calm=true):qCN X (.builtin "sorted") (fun xs H Q=>∃ p ns,xs=[.ref p]/\(SqL K H p (ns.map V.int)\/SqT K H p (ns.map V.int)\/H p=some (SetO w p ns))/\ns.length<64/\
  ∀ (a:Addr) (ns':List Int),H a=none->ns'.Perm ns->ns'.Pairwise (·<=·)->Q (.ref a) (Ag H a (.lst (ns'.map V.int)))):=by subst hK hw;exact qK3 hc
theorem qUO {X:Cx} {K:PySem.W.Frag} {w:World} (hK:X.K=K) (hw:X.w=w) (hc:X.calm=true):qCN X (.type "set") (fun xs H Q=>∃ p ns,xs=[.ref p]/\SqL K H p (ns.map V.int)/\ns.length<=4/\∀ a,H a=none->Q (.ref a) (Ag H a (SetO w a (dedI ns)))):=by subst hK hw;exact qQH hc
def Ite (K:PySem.W.Frag) (l:Addr):It:=
 ⟨fun i H=>∃ xs x,SqL K H l xs/\xs[i]?=some x,fun i H v H'=>∃ T x,H T=none/\v=.ref T/\H'=Ag H T (.tup [.int (i:Int),x])/\∀ xs,SqL K H l xs->xs[i]?=some x,fun i H=>∃ xs,SqL K H l xs/\xs.length<=i⟩
section
variable {X:Cx}
theorem Inv.turnedL {Ab:List (Addr × Obj)} {s:Shared} {σ:St} {H:Hp} {h':Heap} {t':Nat} {ch:List Addr} (I:Inv X Ab σ H s) (k:∀ b o,b ∉ ch->s.heap.get? b=some o->h'.get? b=some o) (hc:∀ b ∈ ch,FpOk X Ab H b):Inv X Ab σ H { s with heap:=h',toks:=t' }:=by
 have nit:∀ b u,H b=some u->b ∉ ch:=fun b u e z=>by rw [(hc b z).1] at e;cases e
 refine I.step (g':=s.gens) (d':=s.drawn) (ch:=ch) (fun b hb=>⟨(hc b hb).2.2.2.1,(hc b hb).2.1,(hc b hb).2.2.2.2.1,(hc b hb).2.2.2.2.2⟩) (fun b o _ _ hc' e _=>k b o hc' e) (fun b o _ _ hc' e _=>⟨o.slots,k b o hc' e⟩) (fun _ _ _ _ n=>n)
  (fun b o hc' e=>⟨o,k b o hc' e⟩) (fun _ _ e=>e) (fun _ _ _ e=>e) (fun _ _ e=>e) (fun m hm=>?_) (fun b u e=>?_) I.bare
 ·obtain ⟨o,es,ep,ho,r⟩:=hm;exact ⟨o,es,ep,k _ o (fun z=>(hc _ z).2.1 rfl) ho,r⟩
 ·refine (I.hok b u e).stay (fun c v hc' q=>k c v ?_ q) (fun _ q=>q) fun _ _ q=>q;rcases hc' with z | z
  ·rw [z];exact nit b u e
  ·exact nit c _ z
theorem qS7 {P:Program} {w:World} {K:PySem.W.Frag} {elts:List Expr} {k:Nat} {pos:Pos} (l it e:Addr) (hne:e ≠ it):Turn P w K (.Tuple elts k pos) (Ite K l) [e,it] e (fun i h=>(∃ old,IsEnum h e it i old)/\h.IsListIter it l i) where
 mem:=by simp
 obj:=fun i h st b hb=>by
  obtain ⟨⟨old,h1⟩,o,h2,_,h4⟩:=st;have e':b=e\/b=it:=by simpa using hb
  rcases e' with rfl | rfl
  ·exact ⟨_,h1,fun v z=>by
    have z':A90 _=A63 v:=z;cases z'⟩
  ·exact ⟨o,h2,fun v z=>by rw [h4] at z;cases z⟩
 keep:=fun i h h' st kk=>by
  obtain ⟨⟨old,h1⟩,h2⟩:=st;exact ⟨⟨old,kk e (by simp) _ h1⟩,h2.at fun o q=>kk it (by simp) o q⟩
 item:=by
  intro X hP hw hK hc i Ab s σ H E I hf st hg;subst hP hw hK;obtain ⟨xs,x,hq,hx⟩:=hg;obtain ⟨its,rv,p,hz⟩:=I.list hq;obtain ⟨u,hu,ru⟩:=rv.get hx;obtain ⟨⟨old,h1⟩,h2⟩:=st;refine wpAny_pyNext_enum_item h1 h2 p.isList (x:=u) (by simpa using hu) hne fun h' a1 a2 a3 a4 a5=>?_
  refine ⟨_,rfl,wpAny_letOwnedTupleGo_enum a1 fun h2 b1 b2=>?_⟩;have ltE:e<s.heap.objs.size:=B8 h1;have I1:Inv X Ab σ H { s with heap:=h2,toks:=s.toks+1 }:=I.turnedL (ch:=[e,it]) (fun b o hb q=>by
   have hb1:b ≠ e:=fun z=>hb (by simp [z])
   have hb2:b ≠ it:=fun z=>hb (by simp [z])
   exact (b2.2 b hb1).trans (a5 b o hb1 hb2 q)) hf
  have hT:H s.heap.objs.size=none:=I.hok.fresh (B3 _);have fT:=I.fpOk (H':=H) (b:=s.heap.objs.size) (B3 _) hT;have gT:h2.get? s.heap.objs.size=some { cls:=.type "tuple",data:=.seq #[.int i s.toks,u] }:=(b2.2 _ (f9 ltE)).trans a3;refine ⟨.ref s.heap.objs.size,Ag H s.heap.objs.size (.tup [.int (i:Int),x]),I1.track hT I.sz fT.2.1 fT.2.2.2.2.1 fT.2.2.2.2.2 ⟨by simp only [D9,P0];rw [sizeLine_eq];decide,[.int (i:Int) s.toks,u],.cons ⟨_,rfl⟩ (.cons ru .nil),⟨_,gT,rfl,_,rfl⟩⟩,rfl,
   ⟨_,x,hT,rfl,rfl,fun ys hy=>by rw [I.list_inj hy hq];exact hx⟩,⟨⟨_,b1⟩,a2.at fun o q=>(b2.2 it (O1 hne)).trans q⟩,fun b hb=>?_⟩
  have ltb:b<s.heap.objs.size:=by
   have e':b=e\/b=it:=by simpa using hb
   rcases e' with rfl | rfl
   ·exact ltE
   ·obtain ⟨o,q,_⟩:=h2;exact B8 (by assumption)
  rw [qA9 (E2 ltb)];exact (hf b hb).1
 done:=by
  intro X hP hw hK hc i Ab s σ H E I hf st hg;subst hP hw hK;obtain ⟨xs,hq,hx⟩:=hg;obtain ⟨its,rv,p,hz⟩:=I.list hq;have hl:=rv.length;obtain ⟨⟨old,h1⟩,h2⟩:=st;exact wpAny_pyNext_enum_end (I.ok.hd hc) h1 h2 p.isList (by simp;omega) fun h' eb=>⟨rfl,I.turnedL (t':=s.toks) (ch:=[e,it]) (fun b o hb q=>eb b o (fun z=>hb (by simp [z])) q) hf⟩
 self:=fun _ _ _ _ _ st h=>by
  obtain ⟨⟨old,h1⟩,h2⟩:=st;exact wpAny_pyIter_enum h1 h
def qbI (K:PySem.W.Frag) (ta:TA):TI:=fun σ H R=>ta σ H fun vs H1=>∃ l,vs=[.ref l]/\(∃ xs,SqL K H1 l xs)/\R (Ite K l) H1
theorem qY1 {elts:List Expr} {k:Nat} {tpos:Pos} {a:Expr} {ta:TA} {p pos:Pos} (hg:Gl X "enumerate") (hm:X.mg "enumerate" = none) (hv:bootBuiltins "enumerate" = some (.type "enumerate")) (ha:PA X [a] ta) (hs:starEach [a] X.env=[(false,eval a X.env)]:=by rfl) :
  PI X (.Tuple elts k tpos) (.Call (.Name "enumerate" p) [a] [] pos) (qbI X.K ta):=by
 intro Ab s σ H R I h;refine Call_ (qJN I hg hm hv (R7 (thn (ha pos Ab s σ H _ I h) fun us s1 ⟨vs,H1,I1,r1,q1⟩=>?_) hs rfl));obtain ⟨l,e,⟨xs,hq⟩,q⟩:=q1;subst e;obtain ⟨u,rfl,rx⟩:=qEP r1;cases rx;obtain ⟨its,rv,pl,hz⟩:=I1.list hq;refine call_enumerate_list pl.isList fun h' he hi hsz hk=>?_;refine wpAny_pyIter_enum he ?_;have I2:Inv X Ab σ H1 { s1 with heap:=h' }:=I1.kept (t':=s1.toks) hk;refine ⟨s1.heap.objs.size+1,[s1.heap.objs.size+1,s1.heap.objs.size],_,_,H1,rfl,I2,qS7 l s1.heap.objs.size (s1.heap.objs.size+1) (A43 _),⟨⟨_,he⟩,hi⟩,fun b hb=>?_,q⟩;have e':b=s1.heap.objs.size+1\/b=s1.heap.objs.size:=by simpa using hb
 rcases e' with rfl | rfl
 ·exact I1.fpOk (h9 _) (I1.hok.fresh (h9 _))
 ·exact I1.fpOk (B3 _) (I1.hok.fresh (B3 _))
end
theorem qYH {K:PySem.W.Frag} {a:Addr} {xs:List V} {g:TG} {tc:TT} {te:TE} {Kf:Hp->Prop} {σ0:St} {H0:Hp} {p:Addr} (Pv:Nat->St->Hp->Prop) (h0:Pv 0 σ0 H0) (hl:∀ i σ H,i<=xs.length->Pv i σ H->SqL K H a xs)
  (hs:∀ i x σ H T,xs[i]?=some x->Pv i σ H->H T=none->g (.ref T) σ (Ag H T (.tup [.int (i:Int),x])) fun σ2 H2=>tc σ2 H2 fun b H3=>if b=true then te σ2 H3 fun y H4=>∃ ys,H4 p=some (.lst ys)/\ys.length<sizeLine/\Pv (i+1) σ2 (Ag H4 p (.lst (ys++[y]))) else Pv (i+1) σ2 H3)
  (hd:∀ σ H,Pv xs.length σ H->Kf H) :
  ∃ W:Nat->Nat->St->Hp->Prop,(∃ m,W 0 m σ0 H0)/\∀ i m σ H,W i m σ H->
   ((Ite K a).stop i H/\Kf H)\/((Ite K a).go i H/\∃ N:St->Hp->Prop,(∀ σ' H',N σ' H'->∃ m',m'<m/\W (i+1) m' σ' H')/\∀ x H',(Ite K a).yld i H x H'->g x σ H' fun σ2 H2=>tc σ2 H2 fun b H3=>
    if b=true then te σ2 H3 fun y H4=>∃ ys,H4 p=some (.lst ys)/\ys.length<sizeLine/\N σ2 (Ag H4 p (.lst (ys++[y]))) else N σ2 H3):=by
 refine ⟨fun i m σ H=>m=xs.length - i/\i<=xs.length/\Pv i σ H,⟨xs.length,by simp,F5 _,h0⟩,?_⟩
 rintro i m σ H ⟨rfl,hi,q⟩;have hq:=hl i σ H hi q;by_cases hlt:i<xs.length
 ·refine .inr ⟨⟨xs,xs[i],hq,by simp [hlt]⟩,Pv (i+1),fun σ' H' p'=>⟨xs.length - (i+1),by omega,rfl,hlt,p'⟩,fun v H' y=>?_⟩
  obtain ⟨T,x,hT,e1,e2,y⟩:=y;subst e1 e2;exact hs i x σ H T (y xs hq) q hT
 ·have e:i=xs.length:=by omega
  subst e;exact .inl ⟨⟨xs,hq,B3 _⟩,hd σ H q⟩
theorem qEI {prog:Program} {w:World} {A:Around} {E:Value->Shared->Prop} {s:Shared} {it t:Addr} {i:Nat} {items:Array Value} {x:Value} {Q:Value->Shared->Prop} (hit:s.heap.IsTupleIter it t i) (ht:s.heap.IsTuple t items) (hx:items[i]?=some x)
  (hQ:∀ h':Heap,h'.IsTupleIter it t (i+1)->Heap.SameBut it s.heap h'->Q x { s with heap:=h' }):wpAny (model prog w) A (X9 (.ref it)) Q E s:=by
 obtain ⟨o,ho,hc,hd⟩:=id hit;obtain ⟨ol,hol,_,nl,hdl⟩:=ht;refine wpAny_bind (wpAny_callSpecial?_slot hit.typeIs W7 (wpAny_call_entry W7 hit.typeIs y8 ?_ (x9 _)));show wpAny _ _ (field (.ref it) 0 >>= _) _ _ _;refine wpAny_bind (wpAny_field ho hd rfl ?_);refine wpAny_ite_false rfl ?_;show wpAny _ _ (field (.ref it) 1 >>= _) _ _ _;refine wpAny_bind (wpAny_field ho hd rfl ?_);show wpAny _ _ (seqItems? (.ref t) >>= _) _ _ _;refine wpAny_bind (wpAny_seqItems hol hdl ?_);show wpAny _ _ (match items[i]? with | some x=>_ | none=>_) _ _ _
 rw [hx];refine wpAny_bind (wpAny_setField ho hd (by simp) ?_)
 refine wpAny_pure ⟨x,rfl,wpAny_pure (hQ _ ⟨_,O4 _ ho (X4 (Q1 hd _)),(j7 o _).trans hc,?_⟩ (Q9 _ _ _))⟩;rw [Q1 hd];simp
 rfl
theorem qFK {prog:Program} {w:World} {A:Around} {E:Value->Shared->Prop} {s:Shared} {it t:Addr} {i:Nat} {items:Array Value} {Q:Value->Shared->Prop} (hh:A.handled=none) (hit:s.heap.IsTupleIter it t i) (ht:s.heap.IsTuple t items) (hx:items[i]?=none)
  (hE:∀ (h':Heap) (e:Addr),Heap.ExtBut it s.heap h'->(∃ o,h'.get? e=some o/\o.cls=.type "StopIteration")->E (.ref e) { s with heap:=h' }):wpAny (model prog w) A (X9 (.ref it)) Q E s:=by
 obtain ⟨o,ho,hc,hd⟩:=id hit;obtain ⟨ol,hol,_,nl,hdl⟩:=ht;refine wpAny_bind (wpAny_callSpecial?_slot hit.typeIs W7 (wpAny_call_entry W7 hit.typeIs y8 ?_ (x9 _)));show wpAny _ _ (field (.ref it) 0 >>= _) _ _ _;refine wpAny_bind (wpAny_field ho hd rfl ?_);refine wpAny_ite_false rfl ?_;show wpAny _ _ (field (.ref it) 1 >>= _) _ _ _;refine wpAny_bind (wpAny_field ho hd rfl ?_);show wpAny _ _ (seqItems? (.ref t) >>= _) _ _ _;refine wpAny_bind (wpAny_seqItems hol hdl ?_);show wpAny _ _ (match items[i]? with | some x=>_ | none=>_) _ _ _
 rw [hx];refine wpAny_bind (wpAny_rule ?_);refine wpAny_bind (wpAny_setField ho hd (by simp) ?_)
 show wpAny _ _ (newExc (.type "StopIteration") [] >>= _) _ _ _;refine wpAny_bind ?_;simp only [newExc,newTuple];refine wpAny_bind (wpAny_newObj_type ?_ (by size_fits))
 refine wpAny_bind (m:=firstArgMember _ _) (wpAny_of_eq (a:=V7) (by first | rfl | (simp only [firstArgMember];rfl)) ?_)
 refine wpAny_newObj_type ?_ (by size_fits)
 simp only [raiseNew];refine wpAny_bind (wpAny_handled ?_);rw [show A.in1.handled=none from hh];refine wpAny_bind (wpAny_pure (wpAny_throw ?_));exact hE _ _ (((Q9 ..).extBut.push _).push _) ⟨_,B9 _ rfl,rfl⟩
def SIt (b:Bool) (h:Heap) (it l:Addr) (i:Nat):Prop:=match b with | true=>h.IsTupleIter it l i | false=>h.IsListIter it l i
def SSq (b:Bool) (h:Heap) (l:Addr) (xs:Array Value):Prop:=match b with | true=>h.IsTuple l xs | false=>h.IsList l xs
theorem SIt.at {b:Bool} {h h':Heap} {it l:Addr} {i:Nat} (q:SIt b h it l i) (k:∀ o,h.get? it=some o->h'.get? it=some o):SIt b h' it l i:=by
 cases b
 ·exact Heap.IsListIter.at q k
 ·exact Heap.IsTupleIter.at q k
theorem SSq.at {b:Bool} {h h':Heap} {l:Addr} {xs:Array Value} (q:SSq b h l xs) (k:∀ o,h.get? l=some o->h'.get? l=some o):SSq b h' l xs:=by
 cases b
 ·obtain ⟨o,e,r⟩:=q;exact ⟨o,k o e,r⟩
 ·obtain ⟨o,e,r⟩:=q;exact ⟨o,k o e,r⟩
theorem qGM {b:Bool} {prog:Program} {w:World} {A:Around} {E:Value->Shared->Prop} {s:Shared} {it t:Addr} {i:Nat} {items:Array Value} {x:Value} {Q:Value->Shared->Prop} (hit:SIt b s.heap it t i) (ht:SSq b s.heap t items) (hx:items[i]?=some x)
  (hQ:∀ h':Heap,SIt b h' it t (i+1)->Heap.SameBut it s.heap h'->Q x { s with heap:=h' }):wpAny (model prog w) A (X9 (.ref it)) Q E s:=by
 cases b
 ·exact wpAny_nextOf_list_item hit ht hx hQ
 ·exact qEI hit ht hx hQ
theorem qKS {b:Bool} {prog:Program} {w:World} {A:Around} {E:Value->Shared->Prop} {s:Shared} {it t:Addr} {i:Nat} {items:Array Value} {Q:Value->Shared->Prop} (hh:A.handled=none) (hit:SIt b s.heap it t i) (ht:SSq b s.heap t items) (hx:items[i]?=none)
  (hE:∀ (h':Heap) (e:Addr),Heap.ExtBut it s.heap h'->(∃ o,h'.get? e=some o/\o.cls=.type "StopIteration")->E (.ref e) { s with heap:=h' }):wpAny (model prog w) A (X9 (.ref it)) Q E s:=by
 cases b
 ·exact wpAny_nextOf_list_end hh hit ht hx hE
 ·exact qFK hh hit ht hx hE
theorem qS0 {b:Bool} {prog:Program} {w:World} {A:Around} {E:Value->Shared->Prop} {s:Shared} {z TI TO i1 i2 l1 l2:Addr} {k1 k2:Nat} {xs ys:Array Value} {x y a c:Value} {Q:Value->Shared->Prop} (D:ZipApart z TI TO i1 i2 l1 l2) (hz:IsZip s.heap z TI TO .none) (hTI:IsPair s.heap TI (.ref i1) (.ref i2)) (hTO:IsPair s.heap TO a c)
  (h1:SIt b s.heap i1 l1 k1) (h2:SIt b s.heap i2 l2 k2) (hl1:SSq b s.heap l1 xs) (hl2:SSq b s.heap l2 ys) (hx:xs[k1]?=some x) (hy:ys[k2]?=some y)
  (hQ:∀ h':Heap,IsZip h' z TI TO (rawInt (s.heap.objs.size:Int))->IsPair h' TO x y->SIt b h' i1 l1 (k1+1)->SIt b h' i2 l2 (k2+1)->IsPair h' s.heap.objs.size x y->h'.objs.size=s.heap.objs.size+1->
   (∀ (c:Addr) (o:Obj),c ≠ z->c ≠ TO->c ≠ i1->c ≠ i2->s.heap.get? c=some o->h'.get? c=some o)->Q (.ref s.heap.objs.size) { s with heap:=h' }) :
  wpAny (model prog w) A (Builtin.«zip.__next__» { pos:=[.ref z] }) (fun fin s'=>∃ v,fin=.done (.ret v)/\Q v s') E s:=by
 show wpAny _ _ (field (.ref z) 2 >>= _) _ _ _;refine wpAny_bind (wpAny_field hz rfl rfl ?_);show wpAny _ _ (field (.ref z) 3 >>= _) _ _ _;refine wpAny_bind (wpAny_field hz rfl rfl ?_);refine wpAny_bind (wpAny_seqItems hTI rfl ?_);show wpAny _ _ (W4 (.ref z) >>= _) _ _ _;refine wpAny_bind ?_;show wpAny _ _ (field (.ref z) 0 >>= _) _ _ _;refine wpAny_bind (wpAny_field hz rfl rfl (wpAny_pure ?_));refine wpAny_ite_true rfl ?_;refine wpAny_bind (wpAny_rule ?_);refine wpAny_bind (wpAny_field hz rfl rfl ?_);refine wpAny_bind (wpAny_setField_rec hz (by simp) fun hA gz sb=>?_)
 refine wpAny_bind ?_;show wpAny _ _ (forIn [(E6 i1,0),(E6 i2,1)] _ _) _ _ _;rw [W2];refine wpAny_bind ?_;dsimp only;refine wpAny_bind (wpAny_onRaise ?_);have e:((#[V7,V8 false,V8 false,E6 TI,E6 TO][2] == V8 true)=false):=rfl;rw [e];have sA1:SIt b hA i1 l1 k1:=h1.at fun o q=>(sb.2 _ D.i1z).trans q;have sL1:SSq b hA l1 xs:=hl1.at fun o q=>(sb.2 _ D.l1z).trans q;refine wpAny_bind (qGM (s:={ s with heap:=hA }) sA1 sL1 hx fun hB nB sB=>?_);refine wpAny_pure ?_;have tB:IsPair hB TO a c:=(sB.2 _ D.TOi1).trans ((sb.2 _ D.TOz).trans hTO);refine wpAny_bind (wpAny_seqItems tB rfl ?_);refine wpAny_bind (wpAny_updateSeq_pair tB fun hC tC sC=>?_);refine wpAny_bind (wpAny_letGo (wpAny_pure ?_));dsimp only;rw [W2];refine wpAny_bind ?_;refine wpAny_bind (wpAny_onRaise ?_);have sC2:SIt b hC i2 l2 k2:=h2.at fun o q=>(sC.2 _ (O1 D.TOi2)).trans ((sB.2 _ (O1 D.i12)).trans ((sb.2 _ D.i2z).trans q));have sL2:SSq b hC l2 ys:=hl2.at fun o q=>(sC.2 _ D.l2TO).trans ((sB.2 _ D.l2i1).trans ((sb.2 _ D.l2z).trans q));refine wpAny_bind (qGM (s:={ s with heap:=hC }) sC2 sL2 hy fun hD nD sD=>?_);refine wpAny_pure ?_;have tD:IsPair hD TO x c:=(sD.2 _ D.TOi2).trans tC;refine wpAny_bind (wpAny_seqItems tD rfl ?_);refine wpAny_bind (wpAny_updateSeq_pair tD fun hF tF sF=>?_);refine wpAny_bind (wpAny_letGo (wpAny_pure ?_));dsimp only;rw [B63];refine wpAny_pure ?_;dsimp only;have tF':IsPair hF TO x y:=tF;refine wpAny_bind (wpAny_seqItems tF' rfl ?_);refine wpAny_bind (wpAny_newTuple ?_ (by show 2<=sizeLine;decide))
 have gzF:hF.get? z=some { cls:=.type "zip",data:=.fields #[.ellipsis,.bool false,.bool false,.ref TI,.ref TO] }:=(sF.2 _ (O1 D.TOz)).trans ((sD.2 _ (O1 D.i2z)).trans ((sC.2 _ (O1 D.TOz)).trans ((sB.2 _ (O1 D.i1z)).trans gz)));have szF:hF.objs.size=s.heap.objs.size:=sF.1.trans (sD.1.trans (sC.1.trans (sB.1.trans sb.1)));have ltz:z<hF.objs.size:=B8 gzF;have gzG:(hF.push { cls:=.type "tuple",data:=.seq #[x,y] }).get? z=some { cls:=.type "zip",data:=.fields #[.ellipsis,.bool false,.bool false,.ref TI,.ref TO] }:=A8 _ gzF;refine wpAny_bind ?_;show wpAny _ _ (setField (.ref z) 0 (rawInt _) >>= _) _ _ _;refine wpAny_bind (wpAny_setField_rec gzG (by simp) fun hG gG sG=>?_)
 refine wpAny_setField_rec gG (by simp) fun hI gI sI=>?_
 refine wpAny_pure ⟨_,rfl,?_⟩;have o4:∀ (c:Addr) (o:Obj),c ≠ z->c ≠ TO->c ≠ i1->c ≠ i2->s.heap.get? c=some o->hI.get? c=some o:=fun c o n1 n2 n3 n4 e=>
  (sI.2 _ n1).trans ((sG.2 _ n1).trans (A8 _ ((sF.2 _ n2).trans ((sD.2 _ n4).trans ((sC.2 _ n2).trans ((sB.2 _ n3).trans ((sb.2 _ n1).trans e)))))))
 have nz:hF.objs.size ≠ z:=f9 ltz;have gT:hI.get? hF.objs.size=some { cls:=.type "tuple",data:=.seq #[x,y] }:=(sI.2 _ nz).trans ((sG.2 _ nz).trans (B9 _ rfl));have szI:hI.objs.size=hF.objs.size+1:=sI.1.trans (sG.1.trans (O2 ..));have pz:∀ {c:Addr} {o:Obj},c ≠ z->hF.get? c=some o->hI.get? c=some o:=fun n e=>(sI.2 _ n).trans ((sG.2 _ n).trans (A8 _ e));have q:=hQ hI;rw [<- szF] at q;refine q gI (pz D.TOz tF') (nB.at fun o e=>pz D.i1z ((sF.2 _ (O1 D.TOi1)).trans ((sD.2 _ D.i12).trans ((sC.2 _ (O1 D.TOi1)).trans e)))) (nD.at fun o e=>pz D.i2z ((sF.2 _ (O1 D.TOi2)).trans e)) gT szI o4
theorem qV6 {b:Bool} {prog:Program} {w:World} {A:Around} {E:Value->Shared->Prop} {s:Shared} {z TI TO i1 i2 l1 l2:Addr} {k1:Nat} {xs:Array Value} {Q:PySem.Fin->Shared->Prop} (hh:A.handled=none) (D:ZipApart z TI TO i1 i2 l1 l2) (hz:IsZip s.heap z TI TO .none) (hTI:IsPair s.heap TI (.ref i1) (.ref i2))
  (h1:SIt b s.heap i1 l1 k1) (hl1:SSq b s.heap l1 xs) (hx:xs[k1]?=none)
  (hE:∀ (h':Heap) (e:Addr),(∀ (c:Addr) (o:Obj),c ≠ z->c ≠ i1->s.heap.get? c=some o->h'.get? c=some o)->(∃ o,h'.get? e=some o/\o.cls=.type "StopIteration")->E (.ref e) { s with heap:=h' }) :
  wpAny (model prog w) A (Builtin.«zip.__next__» { pos:=[.ref z] }) Q E s:=by
 show wpAny _ _ (field (.ref z) 2 >>= _) _ _ _;refine wpAny_bind (wpAny_field hz rfl rfl ?_);show wpAny _ _ (field (.ref z) 3 >>= _) _ _ _;refine wpAny_bind (wpAny_field hz rfl rfl ?_);refine wpAny_bind (wpAny_seqItems hTI rfl ?_);show wpAny _ _ (W4 (.ref z) >>= _) _ _ _;refine wpAny_bind ?_;show wpAny _ _ (field (.ref z) 0 >>= _) _ _ _;refine wpAny_bind (wpAny_field hz rfl rfl (wpAny_pure ?_));refine wpAny_ite_true rfl ?_;refine wpAny_bind (wpAny_rule ?_);refine wpAny_bind (wpAny_field hz rfl rfl ?_);refine wpAny_bind (wpAny_setField_rec hz (by simp) fun hA gz sb=>?_)
 refine wpAny_bind ?_;show wpAny _ _ (forIn [(E6 i1,0),(E6 i2,1)] _ _) _ _ _;rw [W2];refine wpAny_bind ?_;dsimp only;refine wpAny_bind (wpAny_onRaise ?_);have e:((#[V7,V8 false,V8 false,E6 TI,E6 TO][2] == V8 true)=false):=rfl;rw [e];have sA1:SIt b hA i1 l1 k1:=h1.at fun o q=>(sb.2 _ D.i1z).trans q;have sL1:SSq b hA l1 xs:=hl1.at fun o q=>(sb.2 _ D.l1z).trans q;refine wpAny_bind (qKS (s:={ s with heap:=hA }) hh sA1 sL1 hx fun hB ea xB ⟨ob,gb,cb⟩=>?_);have gzB:=xB z _ (O1 D.i1z) gz;refine wpAny_setField_rec gzB (by simp) fun hC gC sC=>?_
 have nez:ea ≠ z:=fun q=>by
  rw [q,gzB] at gb;cases gb;exact absurd (show V9 "zip" = V9 "StopIteration" from cb) (by decide)
 exact hE hC ea (fun c o n1 n2 q=>(sC.2 _ n1).trans (xB c o n2 ((sb.2 _ n1).trans q))) ⟨ob,(sC.2 _ nez).trans gb,cb⟩
theorem qS1 {b:Bool} {prog:Program} {w:World} {A:Around} {E:Value->Shared->Prop} {s:Shared} {z TI TO i1 i2 l1 l2:Addr} {k1 k2:Nat} {xs ys:Array Value} {x a c:Value} {Q:PySem.Fin->Shared->Prop} (hh:A.handled=none) (D:ZipApart z TI TO i1 i2 l1 l2) (hz:IsZip s.heap z TI TO .none) (hTI:IsPair s.heap TI (.ref i1) (.ref i2)) (hTO:IsPair s.heap TO a c)
  (h1:SIt b s.heap i1 l1 k1) (h2:SIt b s.heap i2 l2 k2) (hl1:SSq b s.heap l1 xs) (hl2:SSq b s.heap l2 ys) (hx:xs[k1]?=some x) (hy:ys[k2]?=none)
  (hE:∀ (h':Heap) (e:Addr),(∀ (c:Addr) (o:Obj),c ≠ z->c ≠ TO->c ≠ i1->c ≠ i2->s.heap.get? c=some o->h'.get? c=some o)->(∃ o,h'.get? e=some o/\o.cls=.type "StopIteration")->E (.ref e) { s with heap:=h' }) :
  wpAny (model prog w) A (Builtin.«zip.__next__» { pos:=[.ref z] }) Q E s:=by
 show wpAny _ _ (field (.ref z) 2 >>= _) _ _ _;refine wpAny_bind (wpAny_field hz rfl rfl ?_);show wpAny _ _ (field (.ref z) 3 >>= _) _ _ _;refine wpAny_bind (wpAny_field hz rfl rfl ?_);refine wpAny_bind (wpAny_seqItems hTI rfl ?_);show wpAny _ _ (W4 (.ref z) >>= _) _ _ _;refine wpAny_bind ?_;show wpAny _ _ (field (.ref z) 0 >>= _) _ _ _;refine wpAny_bind (wpAny_field hz rfl rfl (wpAny_pure ?_));refine wpAny_ite_true rfl ?_;refine wpAny_bind (wpAny_rule ?_);refine wpAny_bind (wpAny_field hz rfl rfl ?_);refine wpAny_bind (wpAny_setField_rec hz (by simp) fun hA gz sb=>?_)
 refine wpAny_bind ?_;show wpAny _ _ (forIn [(E6 i1,0),(E6 i2,1)] _ _) _ _ _;rw [W2];refine wpAny_bind ?_;dsimp only;refine wpAny_bind (wpAny_onRaise ?_);have e:((#[V7,V8 false,V8 false,E6 TI,E6 TO][2] == V8 true)=false):=rfl;rw [e];have sA1:SIt b hA i1 l1 k1:=h1.at fun o q=>(sb.2 _ D.i1z).trans q;have sL1:SSq b hA l1 xs:=hl1.at fun o q=>(sb.2 _ D.l1z).trans q;refine wpAny_bind (qGM (s:={ s with heap:=hA }) sA1 sL1 hx fun hB nB sB=>?_);refine wpAny_pure ?_;have tB:IsPair hB TO a c:=(sB.2 _ D.TOi1).trans ((sb.2 _ D.TOz).trans hTO);refine wpAny_bind (wpAny_seqItems tB rfl ?_);refine wpAny_bind (wpAny_updateSeq_pair tB fun hC tC sC=>?_);refine wpAny_bind (wpAny_letGo (wpAny_pure ?_));dsimp only;rw [W2];refine wpAny_bind ?_;refine wpAny_bind (wpAny_onRaise ?_);have sC2:SIt b hC i2 l2 k2:=h2.at fun o q=>(sC.2 _ (O1 D.TOi2)).trans ((sB.2 _ (O1 D.i12)).trans ((sb.2 _ D.i2z).trans q));have sL2:SSq b hC l2 ys:=hl2.at fun o q=>(sC.2 _ D.l2TO).trans ((sB.2 _ D.l2i1).trans ((sb.2 _ D.l2z).trans q));refine wpAny_bind (qKS (s:={ s with heap:=hC }) hh sC2 sL2 hy fun hD ea xD ⟨ob,gb,cb⟩=>?_);have gzC:hC.get? z=some { cls:=.type "zip",data:=.fields #[.ellipsis,.bool false,.bool false,.ref TI,.ref TO] }:=(sC.2 _ (O1 D.TOz)).trans ((sB.2 _ (O1 D.i1z)).trans gz);have gzD:=xD z _ (O1 D.i2z) gzC;refine wpAny_setField_rec gzD (by simp) fun hF gF sF=>?_
 have nez:ea ≠ z:=fun q=>by
  rw [q,gzD] at gb;cases gb;exact absurd (show V9 "zip" = V9 "StopIteration" from cb) (by decide)
 exact hE hF ea (fun c o n1 n2 n3 n4 q=>(sF.2 _ n1).trans (xD c o n4 ((sC.2 _ n2).trans ((sB.2 _ n3).trans ((sb.2 _ n1).trans q))))) ⟨ob,(sF.2 _ nez).trans gb,cb⟩
section
variable {b:Bool} {prog:Program} {w:World} {A:Around} {E:Value->Shared->Prop} {s:Shared} {z TI TO i1 i2 l1 l2:Addr} {k1 k2:Nat} {xs ys:Array Value}
theorem qIR {x y a c:Value} {Q:Option Value->Shared->Prop} (D:ZipApart z TI TO i1 i2 l1 l2) (hz:IsZip s.heap z TI TO .none) (hTI:IsPair s.heap TI (.ref i1) (.ref i2)) (hTO:IsPair s.heap TO a c)
  (h1:SIt b s.heap i1 l1 k1) (h2:SIt b s.heap i2 l2 k2) (hl1:SSq b s.heap l1 xs) (hl2:SSq b s.heap l2 ys) (hx:xs[k1]?=some x) (hy:ys[k2]?=some y)
  (hQ:∀ h':Heap,IsZip h' z TI TO (rawInt (s.heap.objs.size:Int))->IsPair h' TO x y->SIt b h' i1 l1 (k1+1)->SIt b h' i2 l2 (k2+1)->IsPair h' s.heap.objs.size x y->h'.objs.size=s.heap.objs.size+1->
   (∀ (c:Addr) (o:Obj),c ≠ z->c ≠ TO->c ≠ i1->c ≠ i2->s.heap.get? c=some o->h'.get? c=some o)->Q (some (.ref s.heap.objs.size)) { s with heap:=h' }) :
  wpAny (model prog w) A (pyNext (.ref z)) Q E s:=by
 have hT:s.TypeIs (.ref z) "zip":=⟨_,hz,rfl⟩;unfold pyNext;refine wpAny_bind (wpAny_attempt (wpAny_callSpecial?_slot (name:=J9 "__next__") hT i4 (wpAny_call_entry i4 hT A44 ?_ (A27 _))));exact qS0 (Q:=fun v s'=>wpAny (model prog w) A (pure (some v)) Q E s') D hz hTI hTO h1 h2 hl1 hl2 hx hy fun h' q1 q2 q3 q4 q5 q6 q7=>wpAny_pure (hQ h' q1 q2 q3 q4 q5 q6 q7)
theorem qJF {Q:Option Value->Shared->Prop} (hh:A.handled=none) (D:ZipApart z TI TO i1 i2 l1 l2) (hz:IsZip s.heap z TI TO .none) (hTI:IsPair s.heap TI (.ref i1) (.ref i2))
  (h1:SIt b s.heap i1 l1 k1) (hl1:SSq b s.heap l1 xs) (hx:xs[k1]?=none)
  (hQ:∀ h':Heap,(∀ (c:Addr) (o:Obj),c ≠ z->c ≠ i1->s.heap.get? c=some o->h'.get? c=some o)->Q none { s with heap:=h' }) :
  wpAny (model prog w) A (pyNext (.ref z)) Q E s:=by
 have hT:s.TypeIs (.ref z) "zip":=⟨_,hz,rfl⟩;unfold pyNext;refine wpAny_bind (wpAny_attempt (wpAny_callSpecial?_slot (name:=J9 "__next__") hT i4 (wpAny_call_entry i4 hT A44 ?_ (A27 _))));refine qV6 hh D hz hTI h1 hl1 hx fun h' e k ⟨o,g,c⟩=>?_;refine wpAny_bind (wpAny_isInstance (T:="StopIteration") (b:=true) ⟨_,g,c⟩ isSubtype_stop ?_);exact wpAny_pure (hQ h' k)
theorem qIS {x a c:Value} {Q:Option Value->Shared->Prop} (hh:A.handled=none) (D:ZipApart z TI TO i1 i2 l1 l2) (hz:IsZip s.heap z TI TO .none) (hTI:IsPair s.heap TI (.ref i1) (.ref i2)) (hTO:IsPair s.heap TO a c)
  (h1:SIt b s.heap i1 l1 k1) (h2:SIt b s.heap i2 l2 k2) (hl1:SSq b s.heap l1 xs) (hl2:SSq b s.heap l2 ys) (hx:xs[k1]?=some x) (hy:ys[k2]?=none)
  (hQ:∀ h':Heap,(∀ (c:Addr) (o:Obj),c ≠ z->c ≠ TO->c ≠ i1->c ≠ i2->s.heap.get? c=some o->h'.get? c=some o)->Q none { s with heap:=h' }) :
  wpAny (model prog w) A (pyNext (.ref z)) Q E s:=by
 have hT:s.TypeIs (.ref z) "zip":=⟨_,hz,rfl⟩;unfold pyNext;refine wpAny_bind (wpAny_attempt (wpAny_callSpecial?_slot (name:=J9 "__next__") hT i4 (wpAny_call_entry i4 hT A44 ?_ (A27 _))));refine qS1 hh D hz hTI hTO h1 h2 hl1 hl2 hx hy fun h' e k ⟨o,g,c⟩=>?_;refine wpAny_bind (wpAny_isInstance (T:="StopIteration") (b:=true) ⟨_,g,c⟩ isSubtype_stop ?_);exact wpAny_pure (hQ h' k)
end
abbrev qKG (b:Bool) (l:Addr):Obj:={ cls:=.type (match b with | true=>"tuple_iterator" | false=>"list_iterator"),data:=.fields #[.ref l,.int 0 0] }
theorem qI2 {b:Bool} {prog:Program} {w:World} {A:Around} {E:Value->Shared->Prop} {s:Shared} {l:Addr} {xs:Array Value} {Q:Value->Shared->Prop} (h:SSq b s.heap l xs) (hQ:Q (.ref s.heap.objs.size) { s with heap:=s.heap.push (qKG b l) }):wpAny (model prog w) A (pyIter (.ref l)) Q E s:=by
 cases b
 ·exact wpAny_pyIter_list h hQ
 ·exact wpAny_pyIter_tuple h hQ
abbrev zb1 (b:Bool) (h:Heap) (l1:Addr):Heap:=h.push (qKG b l1)
abbrev zb2 (b:Bool) (h:Heap) (l1 l2:Addr):Heap:=(zb1 b h l1).push (qKG b l2)
abbrev zb3 (b:Bool) (h:Heap) (l1 l2:Addr):Heap:=(zb2 b h l1 l2).push { cls:=.type "tuple",data:=.seq #[.ref h.objs.size,.ref (zb1 b h l1).objs.size] }
abbrev zb4 (b:Bool) (h:Heap) (l1 l2:Addr):Heap:=(zb3 b h l1 l2).push { cls:=.type "tuple",data:=.seq #[.none,.none] }
abbrev zb5 (b:Bool) (h:Heap) (l1 l2:Addr):Heap:=(zb4 b h l1 l2).push { cls:=.type "zip",data:=.fields #[.none,.bool false,.bool false,.ref (zb2 b h l1 l2).objs.size,.ref (zb3 b h l1 l2).objs.size] }
theorem qV5 (b:Bool) (l1 l2:Addr) (xs ys:Array Value):Meets (Builtin.«zip.__new__» { pos:=[.type "zip",.ref l1,.ref l2] }) fun _ R s=>
  SSq b s.heap l1 xs/\SSq b s.heap l2 ys/\R (.ok (.ret (.ref (zb4 b s.heap l1 l2).objs.size))) { s with heap:=zb5 b s.heap l1 l2 }:=by
 refine Meets.of_wp fun prog w A R s h=>?_;obtain ⟨hp,g,d,tk,os⟩:=s;obtain ⟨hl1,hl2,h⟩:=h;have hL2:SSq b (hp.push (qKG b l1)) l2 ys:=SSq.at hl2 fun o q=>A8 _ q;refine wpAny_bind ?_;refine wpAny_bind (wpAny_pure ?_);refine wpAny_ite_false rfl ?_;refine wpAny_bind (wpAny_of_eq sub_zip ?_);refine wpAny_ite_false rfl ?_;refine wpAny_pure ?_;refine wpAny_ite_false rfl ?_;refine wpAny_bind ?_;refine wpAny_bind ?_;show wpAny _ _ (forIn [E6 l1,E6 l2] #[] _) _ _ _;rw [W2];refine wpAny_bind (wpAny_bind (wpAny_holding (qI2 hl1 (wpAny_pure ?_))));dsimp only;rw [W2];refine wpAny_bind (wpAny_bind (wpAny_holding (qI2 hL2 (wpAny_pure ?_))));dsimp only;rw [B63];refine wpAny_pure (wpAny_pure ?_);refine wpAny_bind (wpAny_newTuple ?_ (by show 2<=sizeLine;decide))
 refine wpAny_bind (wpAny_newTuple ?_ (by show 2<=sizeLine;decide))
 refine wpAny_bind ?_;unfold d9;dsimp only;refine wpAny_newObj_type ?_ (by first | rfl | (show (5:Nat)<=_;decide) | (show (5:Nat)<=sizeLine+2;rw [sizeLine_eq];decide))
 refine wpAny_pure ⟨_,rfl,h⟩
theorem qUN {b:Bool} {prog:Program} {w:World} {A:Around} {E:Value->Shared->Prop} {s:Shared} {l1 l2:Addr} {xs ys:Array Value} {Q:Value->Shared->Prop} (hl1:SSq b s.heap l1 xs) (hl2:SSq b s.heap l2 ys)
  (hQ:∀ (h':Heap) (z TI TO i1 i2:Addr),ZipApart z TI TO i1 i2 l1 l2->IsZip h' z TI TO .none->IsPair h' TI (.ref i1) (.ref i2)->IsPair h' TO .none .none->SIt b h' i1 l1 0->SIt b h' i2 l2 0->(∀ c ∈ [z,TI,TO,i1,i2],s.heap.objs.size<=c)->
   (∀ (c:Addr) (o:Obj),s.heap.get? c=some o->h'.get? c=some o)->Q (.ref z) { s with heap:=h' }) :
  wpAny (model prog w) A (call (.type "zip") [.ref l1,.ref l2]) Q E s:=by
 refine callType_new F.called_zip (by decide) (F.typeCall_zip_2 _ _) (F.newCall_zip_2 _ _) (fun obj=>F.args_object_init_3 obj _ _) F.entry_zip_new (qV5 b l1 l2 xs ys) ⟨hl1,hl2,?_⟩
 have z1:(zb1 b s.heap l1).objs.size=s.heap.objs.size+1:=O2 ..;have z2:(zb2 b s.heap l1 l2).objs.size=s.heap.objs.size+2:=(O2 ..).trans (by rw [z1])
 have z3:(zb3 b s.heap l1 l2).objs.size=s.heap.objs.size+3:=(O2 ..).trans (by rw [z2])
 have z4:(zb4 b s.heap l1 l2).objs.size=s.heap.objs.size+4:=(O2 ..).trans (by rw [z3])
 have g5:(zb5 b s.heap l1 l2).get? (zb4 b s.heap l1 l2).objs.size=some { cls:=.type "zip",data:=.fields #[.none,.bool false,.bool false,.ref (zb2 b s.heap l1 l2).objs.size,.ref (zb3 b s.heap l1 l2).objs.size] }:=B9 _ rfl;have g4:(zb5 b s.heap l1 l2).get? (zb3 b s.heap l1 l2).objs.size=some { cls:=.type "tuple",data:=.seq #[.none,.none] }:=A8 _ (B9 _ rfl);have g3:(zb5 b s.heap l1 l2).get? (zb2 b s.heap l1 l2).objs.size=some { cls:=.type "tuple",data:=.seq #[.ref s.heap.objs.size,.ref (zb1 b s.heap l1).objs.size] }:=A8 _ (A8 _ (B9 _ rfl));have g2:(zb5 b s.heap l1 l2).get? (zb1 b s.heap l1).objs.size=some (qKG b l2):=A8 _ (A8 _ (A8 _ (B9 _ rfl)));have g1:(zb5 b s.heap l1 l2).get? s.heap.objs.size=some (qKG b l1):=A8 _ (A8 _ (A8 _ (A8 _ (B9 _ rfl))));have lt:∀ {l:Addr} {zs:Array Value},SSq b s.heap l zs->l<s.heap.objs.size:=fun {l zs} q=>by
  cases b
  ·obtain ⟨o,e,_⟩:=q;exact B8 e
  ·obtain ⟨o,e,_⟩:=q;exact B8 e
 refine ⟨⟨_,g5,rfl⟩,?_⟩;have D:=zipApart_new (n:=s.heap.objs.size) (lt hl1) (lt hl2);rw [<- z4,<- z3,<- z2,<- z1] at D;refine hQ _ _ _ _ _ _ D g5 g3 g4 ?_ ?_ ?_ fun c o e=>A8 _ (A8 _ (A8 _ (A8 _ (A8 _ e))))
 ·cases b
  ·exact ⟨_,g1,rfl,rfl⟩
  ·exact ⟨_,g1,rfl,rfl⟩
 ·cases b
  ·exact ⟨_,g2,rfl,rfl⟩
  ·exact ⟨_,g2,rfl,rfl⟩
 ·intro c hc;have e':c=(zb4 b s.heap l1 l2).objs.size\/c=(zb2 b s.heap l1 l2).objs.size\/c=(zb3 b s.heap l1 l2).objs.size\/c=s.heap.objs.size\/c=(zb1 b s.heap l1).objs.size:=by simpa using hc
  rcases e' with rfl | rfl | rfl | rfl | rfl
  ·omega
  ·omega
  ·omega
  ·exact B3 _
  ·omega
def SqB (b:Bool) (K:PySem.W.Frag) (H:Hp) (a:Addr) (xs:List V):Prop:=match b with | true=>SqT K H a xs | false=>SqL K H a xs
def Itz (K:PySem.W.Frag) (b:Bool) (l1 l2:Addr):It:=
 ⟨fun i H=>∃ xs ys x y,SqB b K H l1 xs/\SqB b K H l2 ys/\xs[i]?=some x/\ys[i]?=some y,fun i H v H'=>∃ T x y,H T=none/\v=.ref T/\H'=Ag H T (.tup [x,y])/\∀ xs ys,SqB b K H l1 xs->SqB b K H l2 ys->xs[i]?=some x/\ys[i]?=some y,fun i H=>∃ xs,SqB b K H l1 xs/\(xs.length<=i\/∃ ys x,SqB b K H l2 ys/\xs[i]?=some x/\ys.length<=i)⟩
section
variable {X:Cx}
theorem Inv.seqB {b:Bool} {Ab:List (Addr × Obj)} {s:Shared} {σ:St} {H:Hp} {a:Addr} {xs:List V} (I:Inv X Ab σ H s) (h:SqB b X.K H a xs):∃ its:List Value,Vals xs its/\SSq b s.heap a its.toArray:=by
 cases b
 ·obtain ⟨its,rv,p,_⟩:=I.list h;exact ⟨its,rv,p.isList⟩
 ·obtain ⟨its,rv,p,_⟩:=I.tuple h;exact ⟨its,rv,p⟩
theorem Inv.seqB_inj {b:Bool} {Ab:List (Addr × Obj)} {s:Shared} {σ:St} {H:Hp} {a:Addr} {xs ys:List V} (I:Inv X Ab σ H s) (h:SqB b X.K H a xs) (h':SqB b X.K H a ys):xs=ys:=by
 cases b
 ·exact I.list_inj h h'
 ·exact I.tuple_inj h h'
theorem qV7 {P:Program} {w:World} {K:PySem.W.Frag} {elts:List Expr} {k:Nat} {pos:Pos} {b:Bool} {z TI TO i1 i2 l1 l2:Addr} (D:ZipApart z TI TO i1 i2 l1 l2):Turn P w K (.Tuple elts k pos) (Itz K b l1 l2) [z,TI,TO,i1,i2] z (fun i h=>IsZip h z TI TO .none/\IsPair h TI (.ref i1) (.ref i2)/\(∃ a c,IsPair h TO a c)/\SIt b h i1 l1 i/\SIt b h i2 l2 i) where
 mem:=by simp
 obj:=fun i h ⟨h1,h2,⟨a,c,h3⟩,h4,h5⟩ d hd=>by
  have it:∀ {j l:Addr},SIt b h j l i->∃ o,h.get? j=some o/\∀ v,o.data ≠ .cell v:=fun {j l} q=>by
   cases b
   ·obtain ⟨o,e,_,q⟩:=q;exact ⟨o,e,fun v z=>by rw [q] at z;cases z⟩
   ·obtain ⟨o,e,_,q⟩:=q;exact ⟨o,e,fun v z=>by rw [q] at z;cases z⟩
  have e':d=z\/d=TI\/d=TO\/d=i1\/d=i2:=by simpa using hd
  rcases e' with rfl | rfl | rfl | rfl | rfl
  ·exact ⟨_,h1,fun v z=>by
    have z':A90 _=A63 v:=z;cases z'⟩
  ·exact ⟨_,h2,fun v z=>by
    have z':B86 _=A63 v:=z;cases z'⟩
  ·exact ⟨_,h3,fun v z=>by
    have z':B86 _=A63 v:=z;cases z'⟩
  ·exact it h4
  ·exact it h5
 keep:=fun i h h' ⟨h1,h2,⟨a,c,h3⟩,h4,h5⟩ kk=>⟨kk z (by simp) _ h1,kk TI (by simp) _ h2,⟨a,c,kk TO (by simp) _ h3⟩,h4.at fun o q=>kk i1 (by simp) o q,h5.at fun o q=>kk i2 (by simp) o q⟩
 item:=by
  intro X hP hw hK hc i Ab s σ H E I hf st hg;subst hP hw hK;obtain ⟨xs,ys,x,y,hq1,hq2,hx,hy⟩:=hg;obtain ⟨its,rv,p1⟩:=I.seqB hq1;obtain ⟨jts,rw',p2⟩:=I.seqB hq2;obtain ⟨u,hu,ru⟩:=rv.get hx;obtain ⟨v,hv,rv'⟩:=rw'.get hy;obtain ⟨h1,h2,⟨a,c,h3⟩,h4,h5⟩:=st;refine qIR D h1 h2 h3 h4 h5 p1 p2 (x:=u) (y:=v) (by simpa using hu) (by simpa using hv) fun h' a1 a2 a3 a4 a5 a6 a7=>?_
  refine ⟨_,rfl,wpAny_letOwnedTupleGo_zip a1 fun h2' b1 b2=>?_⟩;have ltz:z<s.heap.objs.size:=B8 h1;have nz:s.heap.objs.size ≠ z:=f9 ltz;have I1:Inv X Ab σ H { s with heap:=h2',toks:=s.toks }:=I.turnedL (ch:=[z,TI,TO,i1,i2]) (fun d o hd q=>by
   have e1:d ≠ z:=fun q=>hd (by simp [q])
   exact (b2.2 d e1).trans (a7 d o e1 (fun q=>hd (by simp [q])) (fun q=>hd (by simp [q])) (fun q=>hd (by simp [q])) q)) hf
  have hT:H s.heap.objs.size=none:=I.hok.fresh (B3 _);have fT:=I.fpOk (H':=H) (b:=s.heap.objs.size) (B3 _) hT;have gT:h2'.get? s.heap.objs.size=some { cls:=.type "tuple",data:=.seq #[u,v] }:=(b2.2 _ nz).trans a5;refine ⟨.ref s.heap.objs.size,Ag H s.heap.objs.size (.tup [x,y]),I1.track hT I.sz fT.2.1 fT.2.2.2.2.1 fT.2.2.2.2.2 ⟨by simp only [D9,P0];rw [sizeLine_eq];decide,[u,v],.cons ru (.cons rv' .nil),⟨_,gT,rfl,_,rfl⟩⟩,rfl,
   ⟨_,x,y,hT,rfl,rfl,fun xs' ys' e1 e2=>by rw [I.seqB_inj e1 hq1,I.seqB_inj e2 hq2];exact ⟨hx,hy⟩⟩,⟨b1,(b2.2 _ D.TIz).trans (a7 _ _ D.TIz D.TITO D.TIi1 D.TIi2 h2),⟨u,v,(b2.2 _ D.TOz).trans a2⟩,a3.at fun o q=>(b2.2 _ D.i1z).trans q,a4.at fun o q=>(b2.2 _ D.i2z).trans q⟩,fun d hd=>?_⟩
  have ltb:d<s.heap.objs.size:=by
   have it:∀ {j l:Addr} {n:Nat},SIt b s.heap j l n->j<s.heap.objs.size:=fun {j l n} q=>by
    cases b
    ·obtain ⟨o,e,_,q⟩:=q;exact B8 e
    ·obtain ⟨o,e,_,q⟩:=q;exact B8 e
   have e':d=z\/d=TI\/d=TO\/d=i1\/d=i2:=by simpa using hd
   rcases e' with rfl | rfl | rfl | rfl | rfl
   ·exact ltz
   ·exact B8 h2
   ·exact B8 h3
   ·exact it h4
   ·exact it h5
  rw [qA9 (E2 ltb)];exact (hf d hd).1
 done:=by
  intro X hP hw hK hc i Ab s σ H E I hf st hg;subst hP hw hK;obtain ⟨xs,hq,hx⟩:=hg;obtain ⟨its,rv,p⟩:=I.seqB hq;have hl:=rv.length;obtain ⟨h1,h2,⟨a,c,h3⟩,h4,h5⟩:=st;rcases hx with hx | ⟨ys,x,hq2,hxx,hy⟩
  rotate_left
  ·obtain ⟨jts,rw',p2⟩:=I.seqB hq2;have hl2:=rw'.length;obtain ⟨u,hu,ru⟩:=rv.get hxx;exact qIS (I.ok.hd hc) D h1 h2 h3 h4 h5 p p2 (x:=u) (by simpa using hu) (by simp;omega) fun h' eb=>⟨rfl,I.turnedL (t':=s.toks) (ch:=[z,TI,TO,i1,i2]) (fun d o hd q=>eb d o (fun z=>hd (by simp [z])) (fun z=>hd (by simp [z])) (fun z=>hd (by simp [z])) (fun z=>hd (by simp [z])) q) hf⟩
  exact qJF (I.ok.hd hc) D h1 h2 h4 p (by simp;omega) fun h' eb=>⟨rfl,I.turnedL (t':=s.toks) (ch:=[z,TI,TO,i1,i2]) (fun d o hd q=>eb d o (fun z=>hd (by simp [z])) (fun z=>hd (by simp [z])) q) hf⟩
 self:=fun _ _ _ _ _ ⟨h1,_⟩ h=>wpAny_pyIter_zip h1 h
def iZip (K:PySem.W.Frag) (ta:TA):TI:=fun σ H R=>ta σ H fun vs H1=>∃ b l m,vs=[.ref l,.ref m]/\(∃ xs,SqB b K H1 l xs)/\(∃ xs,SqB b K H1 m xs)/\R (Itz K b l m) H1
theorem qSW {elts:List Expr} {k:Nat} {tpos:Pos} {a b:Expr} {ta:TA} {p pos:Pos} (hg:Gl X "zip") (hm:X.mg "zip" = none) (hv:bootBuiltins "zip" = some (.type "zip")) (ha:PA X [a,b] ta) (hs:starEach [a,b] X.env=[(false,eval a X.env),(false,eval b X.env)]:=by rfl) (hs2:starEach [b] X.env=[(false,eval b X.env)]:=by rfl) :
  PI X (.Tuple elts k tpos) (.Call (.Name "zip" p) [a,b] [] pos) (iZip X.K ta):=by
 intro Ab s σ H R I h;refine Call_ (qJN I hg hm hv (R7 (thn (ha pos Ab s σ H _ I h) fun us s1 ⟨vs,H1,I1,r1,q1⟩=>?_) (by rw [hs,hs2]) (by rw [hs2];rfl)))
 obtain ⟨bb,l,m,e,⟨xs,hq⟩,⟨ys,hq2⟩,q⟩:=q1;subst e;obtain ⟨u,v,rfl,rx,ry⟩:=qQR r1;cases rx;cases ry;obtain ⟨its,rv,pl⟩:=I1.seqB hq;obtain ⟨jts,rw',pm⟩:=I1.seqB hq2;refine qUN pl pm fun h' z TI TO i1 i2 D hz hTI hTO hi1 hi2 hfr hk=>?_;refine wpAny_pyIter_zip hz ?_;have I2:Inv X Ab σ H1 { s1 with heap:=h' }:=I1.kept (t':=s1.toks) hk;exact ⟨z,[z,TI,TO,i1,i2],_,_,H1,rfl,I2,qV7 (b:=bb) D,⟨hz,hTI,⟨_,_,hTO⟩,hi1,hi2⟩,fun c hc=>I1.fpOk (hfr c hc) (I1.hok.fresh (hfr c hc)),q⟩
end
theorem qYG {K:PySem.W.Frag} {b:Bool} {l m:Addr} {xs ys:List V} {g:TG} {tc:TT} {te:TE} {Kf:Hp->Prop} {σ0:St} {H0:Hp} {p:Addr} (hlen:ys.length<=xs.length) (Pv:Nat->St->Hp->Prop) (h0:Pv 0 σ0 H0) (hl:∀ i σ H,i<=ys.length->Pv i σ H->SqB b K H l xs/\SqB b K H m ys)
  (hs:∀ i x y σ H T,xs[i]?=some x->ys[i]?=some y->Pv i σ H->H T=none->g (.ref T) σ (Ag H T (.tup [x,y])) fun σ2 H2=>tc σ2 H2 fun b H3=>if b=true then te σ2 H3 fun y H4=>∃ ys,H4 p=some (.lst ys)/\ys.length<sizeLine/\Pv (i+1) σ2 (Ag H4 p (.lst (ys++[y]))) else Pv (i+1) σ2 H3)
  (hd:∀ σ H,Pv ys.length σ H->Kf H) :
  ∃ W:Nat->Nat->St->Hp->Prop,(∃ m,W 0 m σ0 H0)/\∀ i n σ H,W i n σ H->
   ((Itz K b l m).stop i H/\Kf H)\/((Itz K b l m).go i H/\∃ N:St->Hp->Prop,(∀ σ' H',N σ' H'->∃ m',m'<n/\W (i+1) m' σ' H')/\∀ x H',(Itz K b l m).yld i H x H'->g x σ H' fun σ2 H2=>tc σ2 H2 fun b H3=>
    if b=true then te σ2 H3 fun y H4=>∃ ys,H4 p=some (.lst ys)/\ys.length<sizeLine/\N σ2 (Ag H4 p (.lst (ys++[y]))) else N σ2 H3):=by
 refine ⟨fun i n σ H=>n=ys.length - i/\i<=ys.length/\Pv i σ H,⟨ys.length,by simp,F5 _,h0⟩,?_⟩
 rintro i n σ H ⟨rfl,hi,q⟩;have hq:=hl i σ H hi q;by_cases hlt:i<ys.length
 ·refine .inr ⟨⟨xs,ys,xs[i]'(by omega),ys[i],hq.1,hq.2,A5 _,by simp [hlt]⟩,Pv (i+1),fun σ' H' p'=>⟨ys.length - (i+1),by omega,rfl,hlt,p'⟩,fun v H' y=>?_⟩
  obtain ⟨T,x,y,hT,e1,e2,yy⟩:=y;subst e1 e2;exact hs i x y σ H T (yy xs ys hq.1 hq.2).1 (yy xs ys hq.1 hq.2).2 q hT
 ·have e:i=ys.length:=by omega
  subst e;by_cases c:ys.length<xs.length
  ·exact .inl ⟨⟨xs,hq.1,.inr ⟨ys,xs[ys.length],hq.2,A5 _,B3 _⟩⟩,hd σ H q⟩
  ·exact .inl ⟨⟨xs,hq.1,.inl (by omega)⟩,hd σ H q⟩
theorem qRO {M:Model} {A:Around} {E:Value->Shared->Prop} {s:Shared} {c:Value} {Q:Bool->Shared->Prop} (h:∀ b,Q b s):wpAny M A (l0 c) Q E s:=by
 unfold l0;exact wpAny_bind (wpAny_stack_any fun st=>wpAny_pure (h _))
theorem qU4 (l:Addr) (items:Array Value):Meets (Builtin.«enumerate.__new__» { pos:=[.type "enumerate",.ref l] }) fun _ R s=>
  s.heap.IsTuple l items/\R (.ok (.ret (.ref (s.heap.push (qKG true l)).objs.size))) { s with heap:=(s.heap.push (qKG true l)).push { cls:=.type "enumerate",data:=.fields #[.none,.bool false,.ref s.heap.objs.size,rawInt 0,.none,.none] } }:=by
 refine Meets.of_wp fun prog w A R s h=>?_;obtain ⟨hl,h⟩:=h;refine wpAny_bind ?_;refine wpAny_bind (wpAny_pure ?_);refine wpAny_ite_false rfl ?_;refine wpAny_bind (wpAny_of_eq sub_enumerate ?_);refine wpAny_ite_false rfl ?_;refine wpAny_pure ?_;refine wpAny_ite_true rfl ?_;refine wpAny_bind (qRO fun sh=>?_);have go:wpAny (model prog w) A.in1 (pyIter (.ref l) >>= fun it=>d9 (.type "enumerate") (A94++[it,rawInt 0,.none,.none]) >>= fun v=>ret v) (fun fin s'=>∃ v,fin=.done (.ret v)/\R (.ok (.ret v)) s') (fun e s'=>R (.error e) s') s:=by
  refine wpAny_bind (qI2 (b:=true) hl ?_);refine wpAny_bind ?_;unfold d9;dsimp only;refine wpAny_newObj_type ?_ (by first | rfl | (show (6:Nat)<=sizeLine+2;rw [sizeLine_eq];decide))
  exact wpAny_pure ⟨_,rfl,h⟩
 cases sh
 ·exact go
 ·exact go
theorem qRS {prog:Program} {w:World} {A:Around} {E:Value->Shared->Prop} {s:Shared} {l:Addr} {items:Array Value} {Q:Value->Shared->Prop} (hl:s.heap.IsTuple l items)
  (h:∀ h':Heap,IsEnum h' (s.heap.objs.size+1) s.heap.objs.size 0 .none->h'.IsTupleIter s.heap.objs.size l 0->h'.objs.size=s.heap.objs.size+2->(∀ (b:Addr) (o:Obj),s.heap.get? b=some o->h'.get? b=some o)->Q (.ref (s.heap.objs.size+1)) { s with heap:=h' }) :
  wpAny (model prog w) A (call (.type "enumerate") [.ref l]) Q E s:=by
 refine callType_new F.called_enumerate (by decide) (F.typeCall_enumerate_1 _) (F.newCall_enumerate_1 _) (fun obj=>A79 obj _) F.entry_enumerate_new (qU4 l items) ⟨hl,?_⟩
 have z1:(s.heap.push (qKG true l)).objs.size=s.heap.objs.size+1:=O2 ..;rw [z1];have g:((s.heap.push (qKG true l)).push { cls:=.type "enumerate",data:=.fields #[.none,.bool false,.ref s.heap.objs.size,rawInt 0,.none,.none] }).get? (s.heap.objs.size+1)=some { cls:=.type "enumerate",data:=.fields #[.none,.bool false,.ref s.heap.objs.size,rawInt 0,.none,.none] }:=by
  rw [<- z1];exact B9 _ rfl
 exact ⟨⟨_,g,rfl⟩,h _ g ⟨_,A8 _ (B9 _ rfl),rfl,rfl⟩ ((O2 ..).trans (by rw [z1])) fun b o e=>A8 _ (A8 _ e)⟩
theorem qXC {prog:Program} {w:World} {A:Around} (hh:A.handled=none) (it l:Addr) (hne:l ≠ it) (items:Array Value):Draws prog w A it [it,l] items.size (fun i v=>items[i]?=some v) fun i h=>h.IsTupleIter it l i/\h.IsTuple l items where
 live:=fun i h ⟨⟨o,e,_⟩,_⟩=>⟨o,e⟩
 frame:=fun i h h' ⟨⟨o,e,r⟩,⟨o2,e2,r2⟩⟩ k=>⟨⟨o,k it (by simp) _ e,r⟩,⟨o2,k l (by simp) _ e2,r2⟩⟩
 item:=fun i s Q E hi ⟨h1,h2⟩ hQ=>qEI h1 h2 (D8 hi) fun h' a b=>hQ _ h' s.toks (D8 hi) ⟨a,by obtain ⟨o,e,r⟩:=h2;exact ⟨o,(b.2 l hne).trans e,r⟩⟩ b
 done:=fun s Q E ⟨h1,h2⟩ hE=>qFK hh h1 h2 (by simp) hE
def IteT (K:PySem.W.Frag) (l:Addr):It:=
 ⟨fun i H=>∃ xs x,SqT K H l xs/\xs[i]?=some x,fun i H v H'=>∃ T x,H T=none/\v=.ref T/\H'=Ag H T (.tup [.int (i:Int),x])/\∀ xs,SqT K H l xs->xs[i]?=some x,fun i H=>∃ xs,SqT K H l xs/\xs.length=i⟩
section
variable {X:Cx}
theorem qQU {P:Program} {w:World} {K:PySem.W.Frag} {elts:List Expr} {k:Nat} {pos:Pos} (l it e:Addr) (hne:e ≠ it) (hl:l ≠ it) (hle:l ≠ e):Turn P w K (.Tuple elts k pos) (IteT K l) [e,it] e (fun i h=>(∃ old,IsEnum h e it i old)/\h.IsTupleIter it l i) where
 mem:=by simp
 obj:=fun i h st b hb=>by
  obtain ⟨⟨old,h1⟩,o,h2,_,h4⟩:=st;have e':b=e\/b=it:=by simpa using hb
  rcases e' with rfl | rfl
  ·exact ⟨_,h1,fun v z=>by
    have z':A90 _=A63 v:=z;cases z'⟩
  ·exact ⟨o,h2,fun v z=>by rw [h4] at z;cases z⟩
 keep:=fun i h h' st kk=>by
  obtain ⟨⟨old,h1⟩,h2⟩:=st;exact ⟨⟨old,kk e (by simp) _ h1⟩,h2.at fun o q=>kk it (by simp) o q⟩
 item:=by
  intro X hP hw hK hc i Ab s σ H E I hf st hg;subst hP hw hK;obtain ⟨xs,x,hq,hx⟩:=hg;obtain ⟨its,rv,p,hz⟩:=I.tuple hq;obtain ⟨u,hu,ru⟩:=rv.get hx;obtain ⟨⟨old,h1⟩,h2⟩:=st;have hsz:i<its.toArray.size:=by have:=(A6.mp hu).1;simpa using this
  refine wpAny_pyNext_enum_itemD (qXC (A:=X.A.in1) (I.ok.hd hc) it l hl its.toArray) h1 ⟨h2,p⟩ hsz hne (by simp [hne,O1 hle]) fun u' h' tk a0 a1 a2 a3 a4 a5=>?_
  have eu:u'=u:=by
   have:its[i]?=some u':=by simpa using a0
   rw [hu] at this;exact (J5 this).symm
  subst eu;refine ⟨_,rfl,wpAny_letOwnedTupleGo_enum a1 fun h2' b1 b2=>?_⟩;have ltE:e<s.heap.objs.size:=B8 h1;have I1:Inv X Ab σ H { s with heap:=h2',toks:=tk+1 }:=I.turnedL (ch:=[e,it]) (fun b o hb q=>by
   have hb1:b ≠ e:=fun z=>hb (by simp [z])
   have hb2:b ≠ it:=fun z=>hb (by simp [z])
   exact (b2.2 b hb1).trans (a5 b o hb1 hb2 q)) hf
  have hT:H s.heap.objs.size=none:=I.hok.fresh (B3 _);have fT:=I.fpOk (H':=H) (b:=s.heap.objs.size) (B3 _) hT;have gT:h2'.get? s.heap.objs.size=some { cls:=.type "tuple",data:=.seq #[.int i tk,u'] }:=(b2.2 _ (f9 ltE)).trans a3;refine ⟨.ref s.heap.objs.size,Ag H s.heap.objs.size (.tup [.int (i:Int),x]),I1.track hT I.sz fT.2.1 fT.2.2.2.2.1 fT.2.2.2.2.2 ⟨by simp only [D9,P0];rw [sizeLine_eq];decide,[.int (i:Int) tk,u'],.cons ⟨_,rfl⟩ (.cons ru .nil),⟨_,gT,rfl,_,rfl⟩⟩,rfl,
   ⟨_,x,hT,rfl,rfl,fun ys hy=>by rw [I.tuple_inj hy hq];exact hx⟩,⟨⟨_,b1⟩,a2.1.at fun o q=>(b2.2 it (O1 hne)).trans q⟩,fun b hb=>?_⟩
  have ltb:b<s.heap.objs.size:=by
   have e':b=e\/b=it:=by simpa using hb
   rcases e' with rfl | rfl
   ·exact ltE
   ·obtain ⟨o,q,_⟩:=h2;exact B8 q
  rw [qA9 (E2 ltb)];exact (hf b hb).1
 done:=by
  intro X hP hw hK hc i Ab s σ H E I hf st hg;subst hP hw hK;obtain ⟨xs,hq,hx⟩:=hg;obtain ⟨its,rv,p,hz⟩:=I.tuple hq;have hl':=rv.length;obtain ⟨⟨old,h1⟩,h2⟩:=st;have hsz:i=its.toArray.size:=by simp;omega
  subst hsz;exact wpAny_pyNext_enum_endD (qXC (A:=X.A.in1) (I.ok.hd hc) it l hl its.toArray) h1 ⟨h2,p⟩ fun h' eb=>⟨rfl,I.turnedL (t':=s.toks) (ch:=[e,it]) (fun b o hb q=>eb b o (fun z=>hb (by simp [z])) q) hf⟩
 self:=fun _ _ _ _ _ st h=>by
  obtain ⟨⟨old,h1⟩,h2⟩:=st;exact wpAny_pyIter_enum h1 h
def qaE (K:PySem.W.Frag) (ta:TA):TI:=fun σ H R=>ta σ H fun vs H1=>∃ l,vs=[.ref l]/\(∃ xs,SqT K H1 l xs)/\R (IteT K l) H1
theorem qVM {elts:List Expr} {k:Nat} {tpos:Pos} {a:Expr} {ta:TA} {p pos:Pos} (hg:Gl X "enumerate") (hm:X.mg "enumerate" = none) (hv:bootBuiltins "enumerate" = some (.type "enumerate")) (ha:PA X [a] ta) (hs:starEach [a] X.env=[(false,eval a X.env)]:=by rfl) :
  PI X (.Tuple elts k tpos) (.Call (.Name "enumerate" p) [a] [] pos) (qaE X.K ta):=by
 intro Ab s σ H R I h;refine Call_ (qJN I hg hm hv (R7 (thn (ha pos Ab s σ H _ I h) fun us s1 ⟨vs,H1,I1,r1,q1⟩=>?_) hs rfl));obtain ⟨l,e,⟨xs,hq⟩,q⟩:=q1;subst e;obtain ⟨u,rfl,rx⟩:=qEP r1;cases rx;obtain ⟨its,rv,pl,hz⟩:=I1.tuple hq;have ltl:l<s1.heap.objs.size:=by obtain ⟨o,e,_⟩:=pl;exact B8 e
 refine qRS pl fun h' he hi hsz hk=>?_;refine wpAny_pyIter_enum he ?_;have I2:Inv X Ab σ H1 { s1 with heap:=h' }:=I1.kept (t':=s1.toks) hk;refine ⟨s1.heap.objs.size+1,[s1.heap.objs.size+1,s1.heap.objs.size],_,_,H1,rfl,I2,qQU l s1.heap.objs.size (s1.heap.objs.size+1) (A43 _) (E2 ltl) (E2 (P8 ltl)),⟨⟨_,he⟩,hi⟩,fun b hb=>?_,q⟩;have e':b=s1.heap.objs.size+1\/b=s1.heap.objs.size:=by simpa using hb
 rcases e' with rfl | rfl
 ·exact I1.fpOk (h9 _) (I1.hok.fresh (h9 _))
 ·exact I1.fpOk (B3 _) (I1.hok.fresh (B3 _))
end
theorem qU1 {K:PySem.W.Frag} {a:Addr} {xs:List V} {g:TG} {tb:TS} {D:Ends} {σ0:St} {H0:Hp} (Pv:Nat->St->Hp->Prop) (h0:Pv 0 σ0 H0) (hl:∀ i σ H,i<=xs.length->Pv i σ H->SqT K H a xs)
  (hs:∀ i x σ H T,xs[i]?=some x->Pv i σ H->H T=none->g (.ref T) σ (Ag H T (.tup [.int (i:Int),x])) fun σ2 H2=>tb { D with nx:=Pv (i+1),ct:=Pv (i+1),bk:=D.nx } σ2 H2)
  (hd:∀ σ H,Pv xs.length σ H->D.nx σ H) :
  ∃ W:Nat->Nat->St->Hp->Prop,(∃ m,W 0 m σ0 H0)/\∀ i m σ H,W i m σ H->
   ((IteT K a).stop i H/\D.nx σ H)\/((IteT K a).go i H/\∃ N:St->Hp->Prop,(∀ σ' H',N σ' H'->∃ m',m'<m/\W (i+1) m' σ' H')/\∀ x H',(IteT K a).yld i H x H'->g x σ H' fun σ2 H2=>tb { D with nx:=N,ct:=N,bk:=D.nx } σ2 H2):=by
 refine ⟨fun i m σ H=>m=xs.length - i/\i<=xs.length/\Pv i σ H,⟨xs.length,by simp,F5 _,h0⟩,?_⟩
 rintro i m σ H ⟨rfl,hi,q⟩;have hq:=hl i σ H hi q;by_cases hlt:i<xs.length
 ·refine .inr ⟨⟨xs,xs[i],hq,by simp [hlt]⟩,Pv (i+1),fun σ' H' p'=>⟨xs.length - (i+1),by omega,rfl,hlt,p'⟩,fun v H' y=>?_⟩
  obtain ⟨T,x,hT,e1,e2,y⟩:=y;subst e1 e2;exact hs i x σ H T (y xs hq) q hT
 ·have e:i=xs.length:=by omega
  subst e;exact .inl ⟨⟨xs,hq,rfl⟩,hd σ H q⟩
open PySem
section
variable {es:List Expr} {env:Env} {p:Pos}
theorem qJ3 {c:Const} {k:Nat}:starEach (.Constant c k p::es) env=(false,eval (.Constant c k p) env)::starEach es env:=rfl
theorem qQ4 {xs:List Expr} {n:Nat}:starEach (.Tuple xs n p::es) env=(false,eval (.Tuple xs n p) env)::starEach es env:=rfl
theorem qYO {f:Expr} {xs:List Expr} {ks:List Keyword}:starEach (.Call f xs ks p::es) env=(false,eval (.Call f xs ks p) env)::starEach es env:=rfl
theorem qaF {a b:Expr} {o:Operator}:starEach (.BinOp a o b p::es) env=(false,eval (.BinOp a o b p) env)::starEach es env:=rfl
theorem qLN {xs:List Expr}:starEach (.List xs p::es) env=(false,eval (.List xs p) env)::starEach es env:=rfl
end
@[irreducible] def cst (i:Int) (p:Pos):Expr:=.Constant (.int i) 0 p
@[elab_as_elim] theorem us0 {α:Type} {P:List α->Prop} (us:List α) (hl:us.length=0) (h:P []):P us:=by
 match us,hl with
 | [],_=>exact h
@[elab_as_elim] theorem us1 {α:Type} {P:List α->Prop} (us:List α) (hl:us.length=1) (h:∀ a,P [a]):P us:=by
 match us,hl with
 | [a],_=>exact h a
@[elab_as_elim] theorem us2 {α:Type} {P:List α->Prop} (us:List α) (hl:us.length=2) (h:∀ a b,P [a,b]):P us:=by
 match us,hl with
 | [a,b],_=>exact h a b
@[elab_as_elim] theorem us3 {α:Type} {P:List α->Prop} (us:List α) (hl:us.length=3) (h:∀ a b c,P [a,b,c]):P us:=by
 match us,hl with
 | [a,b,c],_=>exact h a b c
@[elab_as_elim] theorem us4 {α:Type} {P:List α->Prop} (us:List α) (hl:us.length=4) (h:∀ a b c d,P [a,b,c,d]):P us:=by
 match us,hl with
 | [a,b,c,d],_=>exact h a b c d
section
variable {prog:Program} {w:World} {A:Around} {E:Value->Shared->Prop} {s:Shared}
end
section
variable {X:Cx}
theorem qT5 (hu:X.A.units<cLine):OpR X (compareOp .NotEq) (fun x y H Q=>∃ p l xs,x=.ref p/\y=.ref l/\SqL X.K H p xs/\SqL X.K H l []/\Q (.bl (!xs.isEmpty)) H):=by
 intro Ab s σ H x y v u Q I rx ry h;obtain ⟨p,l,xs,rfl,rfl,h1,h2,q⟩:=h;cases rx;cases ry;obtain ⟨its,r1,p1,z1⟩:=I.list h1;obtain ⟨its2,r2,p2,z2⟩:=I.list h2;cases r2;cases r1 with
 | nil=>exact A28 (e:=fun _=>true) p1.isList p2.isList rfl hu (fun j h _=>absurd h (by simp)) _ _ _ _ ⟨.bl false,H,I,rfl,q⟩
 | cons a r=>exact o6 p1.isList p2.isList (by simp) hu _ _ _ _ ⟨.bl true,H,I,rfl,q⟩
end
end L2
namespace L2.G
open PySem PyProof.Rows
abbrev gSM:=StateT SortSt Sem
class NM where
 nm:Value->Int
 good:Value->Prop
variable [NM]
def gkv (p:Keyed):Int:=NM.nm p.1
def gIK (p:Keyed):Prop:=NM.good p.1
class LtOk (prog:Program) (w:World) (A:Around) (s:Shared) (κ0:SortKind):Prop where
 lt:∀ {x y:Value} {Q:Bool->Shared->Prop} {E:Value->Shared->Prop},NM.good x->NM.good y->Q (decide (NM.nm x<NM.nm y)) s->wpAny (model prog w) A (keyLt' κ0 x y) Q E s
def gK (xs:Array Keyed) (i:Nat):Int:=match xs[i]? with
 | some p=>NM.nm p.1
 | none=>0
def gSortedTo (xs:Array Keyed) (k:Nat):Prop:=∀ i j,i<=j->j<k->gK xs i<=gK xs j
def qCB (xs:Array Keyed):Prop:=∀ p,p ∈ xs.toList->NM.good p.1
section
variable {prog:Program} {w:World} {A:Around} {E:Value->Shared->Prop} {s:Shared} {κ0:SortKind} [LtOk prog w A s κ0]
end
end L2.G
namespace L2.G
open PySem PyProof.Rows
variable [NM]
structure gMR (R:Keyed->Keyed->Prop) (all out ra rb:List Keyed):Prop where
 perm:(out++(ra++rb)).Perm all
 up:out.Pairwise R
 ua:ra.Pairwise R
 ub:rb.Pairwise R
 la:∀ x ∈ out,∀ y ∈ ra,R x y
 lb:∀ x ∈ out,∀ y ∈ rb,R x y
section
variable {R:Keyed->Keyed->Prop} {all out ra rb xs:List Keyed}
end
end L2.G
namespace L2.G
open PySem PyProof.Rows
variable [NM]
section
variable {prog:Program} {w:World} {A:Around} {E:Value->Shared->Prop} {s:Shared} {κ0:SortKind} [LtOk prog w A s κ0]
end
end L2.G
namespace L2.G
open PySem PyProof.Rows
variable [NM]
section
variable {prog:Program} {w:World} {A:Around} {E:Value->Shared->Prop} {s:Shared} {κ0:SortKind} [LtOk prog w A s κ0]
end
end L2.G
namespace L2.G
open PySem PyProof.Rows
variable [NM]
def gSeg (xs:Array Keyed) (lo hi:Nat):Prop:=∀ i j,lo<=i->i<=j->j<hi->gK xs i<=gK xs j
section
variable {prog:Program} {w:World} {A:Around} {E:Value->Shared->Prop} {s:Shared} {κ0:SortKind} [LtOk prog w A s κ0]
structure gSG (κ0:SortKind) (a₀:Array Keyed) (st:SortSt):Prop where
 perm:(arrOf st).Perm a₀
 kind:kindOf st=κ0
 failed:failedOf st=none
theorem gSG.size {a₀:Array Keyed} {st:SortSt} (h:gSG κ0 a₀ st):(arrOf st).size=a₀.size:=h.perm.size_eq
theorem gSG.ik {a₀:Array Keyed} {st:SortSt} (h:gSG κ0 a₀ st) (h0:qCB a₀):∀ x ∈ (arrOf st).toList,gIK x:=fun x hx=>h0 x ((j9.mp h.perm).mem_iff.mp hx)
end
end L2.G
namespace L2.G
open PySem PyProof.Rows
variable [NM]
def gOut (xs ys:Array Keyed) (lo hi:Nat):Prop:=∀ k,k<lo\/hi<=k->gK ys k=gK xs k
theorem gOut.refl (xs:Array Keyed) (lo hi:Nat):gOut xs xs lo hi:=fun _ _=>rfl
theorem gOut.trans {xs ys zs:Array Keyed} {lo hi:Nat} (h1:gOut xs ys lo hi) (h2:gOut ys zs lo hi):gOut xs zs lo hi:=fun k hk=>(h2 k hk).trans (h1 k hk)
theorem gOut.wide {xs ys:Array Keyed} {lo hi lo' hi':Nat} (h:gOut xs ys lo hi) (a:lo'<=lo) (b:hi<=hi'):gOut xs ys lo' hi':=fun k hk=>h k (by omega)
theorem gSG.lay {κ0:SortKind} {a₀:Array Keyed} {st:SortSt} (g:gSG κ0 a₀ st) {ys:Array Keyed} (p:ys.Perm (arrOf st)):gSG κ0 a₀ (setArr st ys):=⟨p.trans g.perm,g.kind,g.failed⟩
section
variable {prog:Program} {w:World} {A:Around} {E:Value->Shared->Prop} {s:Shared} {κ0:SortKind} [LtOk prog w A s κ0] {a₀:Array Keyed}
abbrev gCUp:=Option (Option Nat) × Nat
abbrev gCDn:=Option (Option Nat) × Nat × Nat
def gupL (lo a m:Nat):gSM gCUp:=
 forIn [a:m] ((none,a):gCUp) fun _ c=>do
  let t <- ltAt' (lo+c.snd) (lo+c.snd - 1)
  match t with
  | some less=>if less=true then pure (T9 (none,c.snd)) else pure (O5 (none,c.snd+1))
  | _=>pure (T9 (some none,c.snd))
def qNB (lo n m:Nat):gSM (Option Nat):=do
 reverseSlice' lo (lo+n)
 let c <- gupL lo n m
 match c.fst with
 | some r=>pure r
 | none=>pure (some c.snd)
def gdnL (lo n m:Nat):gSM gCDn:=
 forIn [n:m] ((none,n,0):gCDn) fun _ c=>do
  let t <- ltAt' (lo+c.snd.fst) (lo+c.snd.fst - 1)
  match t with
  | some less=>
   if less=true then
    if c.snd.snd > 0 then do
     reverseSlice' (lo+c.snd.fst - (c.snd.snd+1)) (lo+c.snd.fst)
     pure (O5 (none,c.snd.fst+1,0))
    else pure (O5 (none,c.snd.fst+1,0))
   else do
    let t <- ltAt' (lo+c.snd.fst - 1) (lo+c.snd.fst)
    match t with
    | some more=>
     if more=true then pure (T9 (none,c.snd.fst,c.snd.snd))
     else pure (O5 (none,c.snd.fst+1,c.snd.snd+1))
    | _=>pure (T9 (some none,c.snd.fst,c.snd.snd))
  | _=>pure (T9 (some none,c.snd.fst,c.snd.snd))
def gdnP (lo n m:Nat):gSM (Option Nat):=do
 liftM (rule "list.sort.descending-run")
 let c <- gdnL lo (n+1) m
 match c.fst with
 | some r=>pure r
 | none=>
  if c.snd.snd > 0 then do
   reverseSlice' (lo+c.snd.fst - (c.snd.snd+1)) (lo+c.snd.fst)
   qNB lo c.snd.fst m
  else qNB lo c.snd.fst m
def gFal (xs:Array Keyed) (lo hi:Nat):Prop:=∀ i j,lo<=i->i<=j->j<hi->gK xs j<=gK xs i
end
end L2.G
namespace L2.G
open PySem PyProof.Rows
variable [NM]
def qRI (xs:Array Keyed):List (Nat × Nat × Nat)->Nat->Nat->Prop
 | [],a,b=>a=b
 | r::rs,a,b=>r.1=a/\0<r.2.1/\gSeg xs a (a+r.2.1)/\qRI xs rs (a+r.2.1) b
section
variable {prog:Program} {w:World} {A:Around} {E:Value->Shared->Prop} {s:Shared} {κ0:SortKind} [LtOk prog w A s κ0] {a₀:Array Keyed}
end
end L2.G
namespace L2.GS
open PySem PyProof.Rows
abbrev gSM:=StateT SortSt Sem
class NM where
 nm:Value->Int
 good:Value->Prop
variable [NM]
def gkv (p:Keyed):Int:=NM.nm p.1
def gIK (p:Keyed):Prop:=NM.good p.1
class LtOk (prog:Program) (w:World) (A:Around) (s:Shared) (κ0:SortKind):Prop where
 lt:∀ {x y:Value} {Q:Bool->Shared->Prop} {E:Value->Shared->Prop},NM.good x->NM.good y->Q (decide (NM.nm x<NM.nm y)) s->wpAny (model prog w) A (keyLt' κ0 x y) Q E s
def gK (xs:Array Keyed) (i:Nat):Int:=match xs[i]? with
 | some p=>NM.nm p.1
 | none=>0
def gSortedTo (xs:Array Keyed) (k:Nat):Prop:=∀ i j,i<=j->j<k->gK xs i<=gK xs j
def qCB (xs:Array Keyed):Prop:=∀ p,p ∈ xs.toList->NM.good p.1
theorem qaH {xs:Array Keyed} {i:Nat} (hi:i<xs.size):gK xs i=NM.nm xs[i].1:=by unfold gK;rw [getElem?_pos xs i hi]
theorem qHK {xs ys:Array Keyed} {i j:Nat} (h:xs[i]?=ys[j]?):gK xs i=gK ys j:=by unfold gK;rw [h]
theorem qJR {xs:Array Keyed} {src d:Nat} (hs:src<xs.size) (hd:d<=src) (k:Nat) :
  gK (bubble xs src d) k=if k=src - d then gK xs src else if src - d<k/\k<=src then gK xs (k - 1) else gK xs k:=by
 have e:=getElem?_bubble hs d hd k;by_cases h1:k=src - d
 ·rw [if_pos h1] at e ⊢;exact qHK e
 ·rw [if_neg h1] at e ⊢;by_cases h2:src - d<k/\k<=src
  ·rw [if_pos h2] at e ⊢;exact qHK e
  ·rw [if_neg h2] at e ⊢;exact qHK e
theorem qHJ {xs:Array Keyed} {i j:Nat} (hj:j<=xs.size) (k:Nat) :
  gK (mirror xs i j ((j - i) / 2)) k=if i<=k/\k<j then gK xs (i+j - 1 - k) else gK xs k:=by
 have e:=getElem?_mirror_all (i:=i) hj k;by_cases h1:i<=k/\k<j
 ·rw [if_pos h1] at e ⊢;exact qHK e
 ·rw [if_neg h1] at e ⊢;exact qHK e
theorem qB1 {xs:Array Keyed} {i j:Nat} (hj:j<=xs.size) (heq:∀ k,i<=k->k<j->gK xs k=gK xs (j - 1)) (k:Nat) :
  gK (mirror xs i j ((j - i) / 2)) k=gK xs k:=by
 rw [qHJ hj]
 split
 ·rw [heq _ (by omega) (by omega),heq k (by omega) (by omega)]
 ·rfl
section
variable {prog:Program} {w:World} {A:Around} {E:Value->Shared->Prop} {s:Shared} {κ0:SortKind} [LtOk prog w A s κ0]
theorem qW3 {st:SortSt} {x y:Keyed} {Q:Option Bool->SortSt->Prop} (hk:kindOf st=κ0) (hx:gIK x) (hy:gIK y) (h:Q (some (decide (gkv x<gkv y))) st):wpS (model prog w) A E s (lt' x y) Q st:=by
 rw [lt'_eq];refine wpS_bind (wpS_get ?_);rw [hk];refine wpS_bind (wpS_lift (wpAny_attempt (LtOk.lt hx hy ⟨rfl,?_⟩)));exact wpS_pure h
theorem qTU {st:SortSt} {arr:Array Keyed} {i:Nat} {x:Keyed} {Q:Keyed->SortSt->Prop} (h:arr[i]?=some x) (hQ:Q x st):wpS (model prog w) A E s (elem' arr i) Q st:=by
 rw [elem'_eq,h];exact wpS_pure hQ
end
end L2.GS
namespace L2.GS
open PySem PyProof.Rows
variable [NM]
structure gMR (R:Keyed->Keyed->Prop) (all out ra rb:List Keyed):Prop where
 perm:(out++(ra++rb)).Perm all
 up:out.Pairwise R
 ua:ra.Pairwise R
 ub:rb.Pairwise R
 la:∀ x ∈ out,∀ y ∈ ra,R x y
 lb:∀ x ∈ out,∀ y ∈ rb,R x y
section
variable {R:Keyed->Keyed->Prop} {all out ra rb xs:List Keyed}
end
theorem qTW {a:Array Keyed} {i:Nat} (h:i<a.size):∃ x,a[i]?=some x/\a.toList[i]?=some x/\x ∈ a.toList:=⟨a[i],D8 h,by simp [h],by simp⟩
end L2.GS
namespace L2.GS
open PySem PyProof.Rows
variable [NM]
theorem gifT {prog:Program} {w:World} {A:Around} {E:Value->Shared->Prop} {s:Shared} {α:Type} {c:Prop} [Decidable c] {x y:gSM α} {Q:α->SortSt->Prop} {st:SortSt} (h:c) (k:wpS (model prog w) A E s x Q st):wpS (model prog w) A E s (if c then x else y) Q st:=by rw [if_pos h];exact k
theorem gifF {prog:Program} {w:World} {A:Around} {E:Value->Shared->Prop} {s:Shared} {α:Type} {c:Prop} [Decidable c] {x y:gSM α} {Q:α->SortSt->Prop} {st:SortSt} (h:¬ c) (k:wpS (model prog w) A E s y Q st):wpS (model prog w) A E s (if c then x else y) Q st:=by rw [if_neg h];exact k
section
variable {prog:Program} {w:World} {A:Around} {E:Value->Shared->Prop} {s:Shared} {κ0:SortKind} [LtOk prog w A s κ0]
end
end L2.GS
namespace L2.GS
open PySem PyProof.Rows
variable [NM]
section
variable {prog:Program} {w:World} {A:Around} {E:Value->Shared->Prop} {s:Shared} {κ0:SortKind} [LtOk prog w A s κ0]
end
end L2.GS
namespace L2.GS
open PySem PyProof.Rows
variable [NM]
def gSeg (xs:Array Keyed) (lo hi:Nat):Prop:=∀ i j,lo<=i->i<=j->j<hi->gK xs i<=gK xs j
theorem qTX {xs:Array Keyed} {i:Nat} {x:Keyed} (h:xs[i]?=some x):gK xs i=gkv x:=by
 unfold gK;rw [h]
 rfl
section
variable {prog:Program} {w:World} {A:Around} {E:Value->Shared->Prop} {s:Shared} {κ0:SortKind} [LtOk prog w A s κ0]
structure gSG (κ0:SortKind) (a₀:Array Keyed) (st:SortSt):Prop where
 perm:(arrOf st).Perm a₀
 kind:kindOf st=κ0
 failed:failedOf st=none
theorem gSG.size {a₀:Array Keyed} {st:SortSt} (h:gSG κ0 a₀ st):(arrOf st).size=a₀.size:=h.perm.size_eq
theorem gSG.ik {a₀:Array Keyed} {st:SortSt} (h:gSG κ0 a₀ st) (h0:qCB a₀):∀ x ∈ (arrOf st).toList,gIK x:=fun x hx=>h0 x ((j9.mp h.perm).mem_iff.mp hx)
end
end L2.GS
namespace L2.GS
open PySem PyProof.Rows
variable [NM]
def gOut (xs ys:Array Keyed) (lo hi:Nat):Prop:=∀ k,k<lo\/hi<=k->gK ys k=gK xs k
theorem gOut.refl (xs:Array Keyed) (lo hi:Nat):gOut xs xs lo hi:=fun _ _=>rfl
theorem gOut.trans {xs ys zs:Array Keyed} {lo hi:Nat} (h1:gOut xs ys lo hi) (h2:gOut ys zs lo hi):gOut xs zs lo hi:=fun k hk=>(h2 k hk).trans (h1 k hk)
theorem gOut.wide {xs ys:Array Keyed} {lo hi lo' hi':Nat} (h:gOut xs ys lo hi) (a:lo'<=lo) (b:hi<=hi'):gOut xs ys lo' hi':=fun k hk=>h k (by omega)
theorem gSG.lay {κ0:SortKind} {a₀:Array Keyed} {st:SortSt} (g:gSG κ0 a₀ st) {ys:Array Keyed} (p:ys.Perm (arrOf st)):gSG κ0 a₀ (setArr st ys):=⟨p.trans g.perm,g.kind,g.failed⟩
theorem qOR {xs:Array Keyed} {i j:Nat} (hj:j<=xs.size):gOut xs (mirror xs i j ((j - i) / 2)) i j:=fun k hk=>by rw [qHJ hj,if_neg (by omega)]
section
variable {prog:Program} {w:World} {A:Around} {E:Value->Shared->Prop} {s:Shared} {κ0:SortKind} [LtOk prog w A s κ0] {a₀:Array Keyed}
theorem qHI {st:SortSt} {i j:Nat} {Q:Option Bool->SortSt->Prop} (h0:qCB a₀) (g:gSG κ0 a₀ st) (hi:i<a₀.size) (hj:j<a₀.size) (h:Q (some (decide (gK (arrOf st) i<gK (arrOf st) j))) st):wpS (model prog w) A E s (ltAt' i j) Q st:=by
 have hi2:i<(arrOf st).size:=by rw [g.size];exact hi
 have hj2:j<(arrOf st).size:=by rw [g.size];exact hj
 obtain ⟨x,ex,_,mx⟩:=qTW hi2;obtain ⟨y,ey,_,my⟩:=qTW hj2;rw [qTX ex,qTX ey] at h;rw [ltAt'_eq];refine wpS_bind (wpS_get ?_);exact wpS_bind (qTU ex (wpS_bind (qTU ey (qW3 g.kind (g.ik h0 x mx) (g.ik h0 y my) h))))
theorem qW6 {st:SortSt} {lo n ok:Nat} {Q:Bool->SortSt->Prop} (h0:qCB a₀) (g:gSG κ0 a₀ st) (hn:lo+n<=a₀.size) (hok:ok<=n) (u:gSeg (arrOf st) lo (lo+ok))
  (h:∀ st2,gSG κ0 a₀ st2->pendingOf st2=pendingOf st->gSeg (arrOf st2) lo (lo+n)->gOut (arrOf st) (arrOf st2) lo (lo+n)->Q true st2):wpS (model prog w) A E s (binarySort' lo n ok) Q st:=by
 rw [binarySort'_eq];refine wpS_bind (wpS_mono (wpS_forRange (I:=fun k c st2=>c=(none,())/\gSG κ0 a₀ st2/\pendingOf st2=pendingOf st/\gSeg (arrOf st2) lo (lo+min k n)/\gOut (arrOf st) (arrOf st2) lo (lo+n))
  (Q:=fun c st2=>c=(none,())/\gSG κ0 a₀ st2/\pendingOf st2=pendingOf st/\gSeg (arrOf st2) lo (lo+n)/\gOut (arrOf st) (arrOf st2) lo (lo+n)) ?step ?fin ?init) ?post)
 case post=>
  rintro c st2 ⟨rfl,g2,pe,u2,o2⟩;exact wpS_pure (h st2 g2 pe u2 o2)
 case init=>
  refine ⟨rfl,g,rfl,fun i j hl hij hj=>?_,.refl _ _ _⟩;by_cases h1:ok=0
  ·rw [show i=j by omega]
   exact J7 _
  ·exact u i j hl hij (by omega)
 case fin=>
  rintro c st2 ⟨hc,g2,pe,u2,o2⟩;rw [show min (max (max ok 1) n) n=n by omega] at u2
  exact ⟨hc,g2,pe,u2,o2⟩
 case step=>
  rintro k c st2 hak hkn ⟨rfl,g2,pe,u2,o2⟩;rw [show min k n=k by omega] at u2
  have hk:lo+k<a₀.size:=by omega
  refine wpS_bind (wpS_mono (wpS_forRange (I:=fun x c st3=>st3=st2/\∃ l r,c=(none,l,r)/\l<=r/\r<=k/\r - l<=k - x/\
    (∀ i,lo<=i->i<lo+l->gK (arrOf st2) i<=gK (arrOf st2) (lo+k))/\(∀ i,lo+r<=i->i<lo+k->gK (arrOf st2) (lo+k)<gK (arrOf st2) i))
   (Q:=fun c st3=>st3=st2/\∃ l r,c=(none,l,r)/\l<=k/\
    (∀ i,lo<=i->i<lo+l->gK (arrOf st2) i<=gK (arrOf st2) (lo+k))/\(∀ i,lo+l<=i->i<lo+k->gK (arrOf st2) (lo+k)<gK (arrOf st2) i)) ?istep ?ifin ?iinit) ?ipost)
  case iinit=>exact ⟨rfl,0,k,rfl,by omega,by omega,by omega,fun i _ hi=>by omega,fun i h1 h2=>by omega⟩
  case ifin=>
   rintro c st3 ⟨rfl,l,r,rfl,hlr,hrk,hm,ha,hb⟩;have e:l=r:=by omega
   rw [<- e] at hb hrk;exact ⟨rfl,l,r,rfl,hrk,ha,hb⟩
  case istep=>
   rintro x c st3 _ hxk ⟨rfl,l,r,rfl,hlr,hrk,hm,ha,hb⟩;dsimp only;by_cases hge:l >= r
   ·refine gifT hge ?_;have e:l=r:=by omega
    rw [<- e] at hb hrk;exact wpS_pure ⟨rfl,l,r,rfl,hrk,ha,hb⟩
   ·refine gifF hge ?_;refine wpS_bind (qHI h0 g2 hk (by omega) ?_)
    by_cases less:gK (arrOf st3) (lo+k)<gK (arrOf st3) (lo+(l+r) / 2)
    ·rw [decide_eq_true less];dsimp only;refine gifT rfl ?_;refine wpS_pure ⟨rfl,l,(l+r) / 2,rfl,by omega,by omega,by omega,ha,fun i h1 h2=>?_⟩
     have:=u2 (lo+(l+r) / 2) i (by omega) h1 h2
     omega
    ·rw [decide_eq_false less];dsimp only;rw [if_neg C3];refine wpS_pure ⟨rfl,(l+r) / 2+1,r,rfl,by omega,by omega,by omega,fun i h3 h1=>?_,hb⟩
     have:=u2 i (lo+(l+r) / 2) h3 (by omega) (by omega)
     omega
  case ipost=>
   rintro c st3 ⟨rfl,l,r,rfl,hlk,ha,hb⟩;have hks:lo+k<(arrOf st3).size:=by rw [g2.size];exact hk
   show wpS _ _ _ _ (moveDown' (lo+k) (lo+l) >>= fun _=>pure (O5 (none,()))) _ _;rw [moveDown'_eq];refine wpS_bind (wpS_modify (wpS_pure ⟨rfl,g2.lay (bubble_perm _ _ _),pe,?_,o2.trans ?_⟩))
   ·rw [show min (k+1) n=k+1 by omega]
    intro i j hl hij hj;show gK (bubble (arrOf st3) (lo+k) (lo+k - (lo+l))) i<=gK (bubble (arrOf st3) (lo+k) (lo+k - (lo+l))) j;rw [qJR hks (by omega),qJR hks (by omega),show lo+k - (lo+k - (lo+l))=lo+l by omega]
    repeat' split
    all_goals first
     | (exfalso;omega)
     | exact J7 _
     | exact ha _ (by omega) (by omega)
     | exact B33 (hb _ (by omega) (by omega))
     | exact u2 _ _ (by omega) (by omega) (by omega)
   ·intro i hi;show gK (bubble (arrOf st3) (lo+k) (lo+k - (lo+l))) i=gK (arrOf st3) i;rw [qJR hks (by omega),if_neg (by omega),if_neg (by omega)]
abbrev gCUp:=Option (Option Nat) × Nat
abbrev gCDn:=Option (Option Nat) × Nat × Nat
def gupL (lo a m:Nat):gSM gCUp:=
 forIn [a:m] ((none,a):gCUp) fun _ c=>do
  let t <- ltAt' (lo+c.snd) (lo+c.snd - 1)
  match t with
  | some less=>if less=true then pure (T9 (none,c.snd)) else pure (O5 (none,c.snd+1))
  | _=>pure (T9 (some none,c.snd))
def qNB (lo n m:Nat):gSM (Option Nat):=do
 reverseSlice' lo (lo+n)
 let c <- gupL lo n m
 match c.fst with
 | some r=>pure r
 | none=>pure (some c.snd)
def gdnL (lo n m:Nat):gSM gCDn:=
 forIn [n:m] ((none,n,0):gCDn) fun _ c=>do
  let t <- ltAt' (lo+c.snd.fst) (lo+c.snd.fst - 1)
  match t with
  | some less=>
   if less=true then
    if c.snd.snd > 0 then do
     reverseSlice' (lo+c.snd.fst - (c.snd.snd+1)) (lo+c.snd.fst)
     pure (O5 (none,c.snd.fst+1,0))
    else pure (O5 (none,c.snd.fst+1,0))
   else do
    let t <- ltAt' (lo+c.snd.fst - 1) (lo+c.snd.fst)
    match t with
    | some more=>
     if more=true then pure (T9 (none,c.snd.fst,c.snd.snd))
     else pure (O5 (none,c.snd.fst+1,c.snd.snd+1))
    | _=>pure (T9 (some none,c.snd.fst,c.snd.snd))
  | _=>pure (T9 (some none,c.snd.fst,c.snd.snd))
def gdnP (lo n m:Nat):gSM (Option Nat):=do
 liftM (rule "list.sort.descending-run")
 let c <- gdnL lo (n+1) m
 match c.fst with
 | some r=>pure r
 | none=>
  if c.snd.snd > 0 then do
   reverseSlice' (lo+c.snd.fst - (c.snd.snd+1)) (lo+c.snd.fst)
   qNB lo c.snd.fst m
  else qNB lo c.snd.fst m
theorem qBC {α β:Type} {x y:gSM α} {f g:α->gSM β} (h:x=y) (k:∀ a,f a=g a):(x >>= f)=(y >>= g):=by rw [h,show f=g from funext k]
theorem qTV (lo m:Nat):countRun' lo m=(do
  let c <- gupL lo 1 m
  match c.fst with
  | some r=>pure r
  | none=>
   if (c.snd == m)=true then pure (some c.snd)
   else if c.snd > 1 then do
    let t <- ltAt' lo (lo+c.snd - 1)
    match t with
    | some rose=>if rose=true then pure (some c.snd) else do
      reverseSlice' lo (lo+c.snd)
      gdnP lo c.snd m
    | _=>pure none
   else gdnP lo c.snd m):=by
 rw [countRun'_eq];unfold gdnP qNB gdnL gupL;refine qBC rfl fun c=>?_;obtain ⟨r,n⟩:=c;cases r with
 | some r=>rfl
 | none=>
  have last:∀ c3:gCUp,(match c3.fst with | some r=>pure r | none=>pure (some c3.snd):gSM (Option Nat))=(match c3.fst with | some r=>pure r | none=>pure (some c3.snd)):=fun _=>rfl
  dsimp only
  split
  ·rfl
  ·split
   ·refine qBC rfl fun x=>?_;cases x with
    | none=>rfl
    | some rose=>
     dsimp only
     split
     ·rfl
     ·refine qBC rfl fun _=>qBC rfl fun _=>qBC rfl fun c2=>?_;obtain ⟨r2,n2,q2⟩:=c2;cases r2 with
      | some r2=>rfl
      | none=>
       dsimp only
       split
       ·refine qBC rfl fun _=>qBC rfl fun _=>qBC rfl fun c3=>?_;obtain ⟨r3,n3⟩:=c3;cases r3 <;> rfl
       ·refine qBC rfl fun _=>qBC rfl fun c3=>?_;obtain ⟨r3,n3⟩:=c3;cases r3 <;> rfl
   ·refine qBC rfl fun _=>qBC rfl fun c2=>?_;obtain ⟨r2,n2,q2⟩:=c2;cases r2 with
    | some r2=>rfl
    | none=>
     dsimp only
     split
     ·refine qBC rfl fun _=>qBC rfl fun _=>qBC rfl fun c3=>?_;obtain ⟨r3,n3⟩:=c3;cases r3 <;> rfl
     ·refine qBC rfl fun _=>qBC rfl fun c3=>?_;obtain ⟨r3,n3⟩:=c3;cases r3 <;> rfl
def gFal (xs:Array Keyed) (lo hi:Nat):Prop:=∀ i j,lo<=i->i<=j->j<hi->gK xs j<=gK xs i
theorem qQ5 {st:SortSt} {lo a m:Nat} {Q:gCUp->SortSt->Prop} (h0:qCB a₀) (g:gSG κ0 a₀ st) (hm:lo+m<=a₀.size) (ha:1<=a) (han:a<=m) (u:gSeg (arrOf st) lo (lo+a))
  (h:∀ n,a<=n->n<=m->gSeg (arrOf st) lo (lo+n)->(n=m\/gK (arrOf st) (lo+n)<gK (arrOf st) (lo+n - 1))->Q (none,n) st):wpS (model prog w) A E s (gupL lo a m) Q st:=by
 unfold gupL;refine wpS_forRange (I:=fun x c st2=>st2=st/\c=(none,x)/\gSeg (arrOf st) lo (lo+x)) ?step ?fin ⟨rfl,rfl,u⟩
 case fin=>
  rintro c st2 ⟨rfl,rfl,u2⟩;rw [show max a m=m by omega] at u2 ⊢
  exact h m han (B3 _) u2 (.inl rfl)
 case step=>
  rintro x c st2 hax hxn ⟨rfl,rfl,u2⟩;dsimp only;refine wpS_bind (qHI h0 g (by omega) (by omega) ?_)
  by_cases less:gK (arrOf st2) (lo+x)<gK (arrOf st2) (lo+x - 1)
  ·rw [decide_eq_true less];dsimp only;refine gifT rfl ?_;exact wpS_pure (h x hax (by omega) u2 (.inr less))
  ·rw [decide_eq_false less];dsimp only;rw [if_neg C3];refine wpS_pure ⟨rfl,rfl,fun i j hl hij hj=>?_⟩;by_cases hjx:j<lo+x
   ·exact u2 i j hl hij hjx
   ·have ej:j=lo+x:=by omega
    rw [ej];by_cases ei:i=lo+x
    ·rw [ei];exact J7 _
    ·have:=u2 i (lo+x - 1) hl (by omega) (by omega)
     omega
theorem qNA {st:SortSt} {lo n m:Nat} {Q:Option Nat->SortSt->Prop} (h0:qCB a₀) (g:gSG κ0 a₀ st) (hm:lo+m<=a₀.size) (h1:1<=n) (hnm:n<=m) (u:gFal (arrOf st) lo (lo+n))
  (h:∀ k st2,gSG κ0 a₀ st2->pendingOf st2=pendingOf st->1<=k->k<=m->gSeg (arrOf st2) lo (lo+k)->gOut (arrOf st) (arrOf st2) lo (lo+m)->Q (some k) st2):wpS (model prog w) A E s (qNB lo n m) Q st:=by
 unfold qNB;have hsz:lo+n<=(arrOf st).size:=by rw [g.size];omega
 rw [reverseSlice'_eq];refine wpS_bind (wpS_modify ?_);have g2:gSG κ0 a₀ (setArr st (mirror (arrOf st) lo (lo+n) ((lo+n - lo) / 2))):=g.lay (mirror_perm _ _ _ _);refine wpS_bind (qQ5 h0 g2 hm h1 hnm ?_ fun k hk1 hk2 uk _=>wpS_pure (h k _ g2 rfl (by omega) hk2 uk ((qOR hsz).wide (B3 _) (by omega))))
 intro i j hl hij hj;show gK (mirror (arrOf st) lo (lo+n) ((lo+n - lo) / 2)) i<=gK (mirror (arrOf st) lo (lo+n) ((lo+n - lo) / 2)) j;rw [qHJ hsz,qHJ hsz,if_pos (by omega),if_pos (by omega)]
 exact u _ _ (by omega) (by omega) (by omega)
theorem qW4 {st:SortSt} {lo n m:Nat} {Q:gCDn->SortSt->Prop} (h0:qCB a₀) (g:gSG κ0 a₀ st) (hm:lo+m<=a₀.size) (h1:1<=n) (hnm:n<=m) (u:gFal (arrOf st) lo (lo+n))
  (h:∀ k e st2,gSG κ0 a₀ st2->pendingOf st2=pendingOf st->n<=k->k<=m->gFal (arrOf st2) lo (lo+k)->e+1<=k->(∀ i,lo+k - (e+1)<=i->i<lo+k->gK (arrOf st2) i=gK (arrOf st2) (lo+k - 1))->gOut (arrOf st) (arrOf st2) lo (lo+m)->Q (none,k,e) st2) :
  wpS (model prog w) A E s (gdnL lo n m) Q st:=by
 unfold gdnL;refine wpS_forRange (I:=fun x c st2=>∃ e,c=(none,x,e)/\gSG κ0 a₀ st2/\pendingOf st2=pendingOf st/\gFal (arrOf st2) lo (lo+x)/\e+1<=x/\
   (∀ i,lo+x - (e+1)<=i->i<lo+x->gK (arrOf st2) i=gK (arrOf st2) (lo+x - 1))/\gOut (arrOf st) (arrOf st2) lo (lo+m)) ?step ?fin ⟨0,rfl,g,rfl,u,by omega,fun i h1 h2=>by congr 1;omega,.refl _ _ _⟩
 case fin=>
  rintro c st2 ⟨e,rfl,g2,pe,u2,hq,he,o2⟩;rw [show max n m=m by omega] at u2 hq he ⊢
  exact h m e st2 g2 pe hnm (B3 _) u2 hq he o2
 case step=>
  rintro x c st2 hax hxn ⟨e,rfl,g2,pe,u2,hq,he,o2⟩;dsimp only;have hsz:lo+x<=(arrOf st2).size:=by rw [g2.size];omega
  refine wpS_bind (qHI h0 g2 (by omega) (by omega) ?_)
  by_cases less:gK (arrOf st2) (lo+x)<gK (arrOf st2) (lo+x - 1)
  ·rw [decide_eq_true less];dsimp only;refine gifT rfl ?_;have more:∀ ys:Array Keyed,(∀ k,gK ys k=gK (arrOf st2) k)->gFal ys lo (lo+(x+1)):=by
    intro ys hk i j hl hij hj;rw [hk,hk];by_cases hjx:j<lo+x
    ·exact u2 i j hl hij hjx
    ·have ej:j=lo+x:=by omega
     rw [ej];by_cases ei:i=lo+x
     ·rw [ei];exact J7 _
     ·have:=u2 i (lo+x - 1) hl (by omega) (by omega)
      omega
   by_cases hpos:e > 0
   ·rw [if_pos hpos,reverseSlice'_eq];refine wpS_bind (wpS_modify (wpS_pure ⟨0,rfl,g2.lay (mirror_perm _ _ _ _),pe,more _ (qB1 hsz he),by omega,fun i h1 h2=>by congr 1;omega,o2.trans ?_⟩))
    exact fun k _=>qB1 hsz he k
   ·refine gifF hpos ?_;exact wpS_pure ⟨0,rfl,g2,pe,more _ (fun _=>rfl),by omega,fun i h1 h2=>by congr 1;omega,o2⟩
  ·rw [decide_eq_false less];dsimp only;rw [if_neg C3];refine wpS_bind (qHI h0 g2 (by omega) (by omega) ?_)
   by_cases big:gK (arrOf st2) (lo+x - 1)<gK (arrOf st2) (lo+x)
   ·rw [decide_eq_true big];dsimp only;refine gifT rfl ?_;exact wpS_pure (h x e st2 g2 pe hax (by omega) u2 hq he o2)
   ·rw [decide_eq_false big];dsimp only;rw [if_neg C3];have ex:gK (arrOf st2) (lo+x)=gK (arrOf st2) (lo+x - 1):=by omega
    refine wpS_pure ⟨e+1,rfl,g2,pe,fun i j hl hij hj=>?_,by omega,fun i h1 h2=>?_,o2⟩
    ·by_cases hjx:j<lo+x
     ·exact u2 i j hl hij hjx
     ·have ej:j=lo+x:=by omega
      rw [ej];by_cases ei:i=lo+x
      ·rw [ei];exact J7 _
      ·rw [ex];exact u2 i (lo+x - 1) hl (by omega) (by omega)
    ·rw [show lo+(x+1) - 1=lo+x by omega]
     by_cases ei:i=lo+x
     ·rw [ei]
     ·rw [ex];exact he i (by omega) (by omega)
theorem qQ6 {st:SortSt} {lo n m:Nat} {Q:Option Nat->SortSt->Prop} (h0:qCB a₀) (g:gSG κ0 a₀ st) (hm:lo+m<=a₀.size) (hnm:n+1<=m) (u:gFal (arrOf st) lo (lo+(n+1)))
  (h:∀ k st2,gSG κ0 a₀ st2->pendingOf st2=pendingOf st->1<=k->k<=m->gSeg (arrOf st2) lo (lo+k)->gOut (arrOf st) (arrOf st2) lo (lo+m)->Q (some k) st2):wpS (model prog w) A E s (gdnP lo n m) Q st:=by
 unfold gdnP;refine wpS_bind (wpS_lift (wpAny_rule ⟨rfl,?_⟩));refine wpS_bind (qW4 h0 g hm (by omega) hnm u fun k e st2 g2 pe hk1 hk2 u2 hq he o2=>?_)
 dsimp only;have hsz:lo+k<=(arrOf st2).size:=by rw [g2.size];omega
 by_cases hpos:e > 0
 ·rw [if_pos hpos,reverseSlice'_eq];refine wpS_bind (wpS_modify (qNA h0 (g2.lay (mirror_perm _ _ _ _)) hm (by omega) hk2 ?_ fun k2 st3 g3 pe3 a1 a2 u3 o3=>h k2 st3 g3 (pe3.trans pe) a1 a2 u3 ?_))
  ·intro i j hl hij hj;show gK (mirror (arrOf st2) _ _ _) j<=gK (mirror (arrOf st2) _ _ _) i;rw [qB1 hsz he,qB1 hsz he];exact u2 i j hl hij hj
  ·exact o2.trans (gOut.trans (fun k _=>qB1 hsz he k) o3)
 ·refine gifF hpos ?_;exact qNA h0 g2 hm (by omega) hk2 u2 fun k2 st3 g3 pe3 a1 a2 u3 o3=>h k2 st3 g3 (pe3.trans pe) a1 a2 u3 (o2.trans o3)
theorem qW5 {st:SortSt} {lo m:Nat} {Q:Option Nat->SortSt->Prop} (h0:qCB a₀) (g:gSG κ0 a₀ st) (hm:lo+m<=a₀.size) (h1:1<=m)
  (h:∀ k st2,gSG κ0 a₀ st2->pendingOf st2=pendingOf st->1<=k->k<=m->gSeg (arrOf st2) lo (lo+k)->gOut (arrOf st) (arrOf st2) lo (lo+m)->Q (some k) st2):wpS (model prog w) A E s (countRun' lo m) Q st:=by
 rw [qTV];refine wpS_bind (qQ5 h0 g hm (B3 1) h1 (fun i j hl hij hj=>by rw [show i=j by omega];exact J7 _) fun n hn1 hn2 un or=>?_)
 dsimp only;by_cases e:n=m
 ·refine gifT (by simpa using e) ?_
  exact wpS_pure (h n st g rfl hn1 hn2 un (.refl _ _ _))
 ·refine gifF (by simpa using e) ?_
  have hlt:gK (arrOf st) (lo+n)<gK (arrOf st) (lo+n - 1):=or.resolve_left e;by_cases hgt:n > 1
  ·refine gifT hgt ?_;refine wpS_bind (qHI h0 g (by omega) (by omega) ?_)
   by_cases rose:gK (arrOf st) lo<gK (arrOf st) (lo+n - 1)
   ·rw [decide_eq_true rose];dsimp only;refine gifT rfl ?_;exact wpS_pure (h n st g rfl hn1 hn2 un (.refl _ _ _))
   ·rw [decide_eq_false rose];dsimp only;rw [if_neg C3,reverseSlice'_eq];have hsz:lo+n<=(arrOf st).size:=by rw [g.size];omega
    have same:∀ k,lo<=k->k<lo+n->gK (arrOf st) k=gK (arrOf st) (lo+n - 1):=by
     intro k hl hk;have a1:=un lo k (by omega) hl hk
     have a2:=un k (lo+n - 1) hl (by omega) (by omega)
     omega
    refine wpS_bind (wpS_modify (qQ6 h0 (g.lay (mirror_perm _ _ _ _)) hm (by omega) ?_ fun k st2 g2 pe a1 a2 u2 o2=>h k st2 g2 pe a1 a2 u2 (gOut.trans (fun k _=>qB1 hsz same k) o2)))
    intro i j hl hij hj;show gK (mirror (arrOf st) _ _ _) j<=gK (mirror (arrOf st) _ _ _) i;rw [qB1 hsz same,qB1 hsz same];by_cases hjn:j<lo+n
    ·rw [same i hl (by omega),same j (by omega) hjn]
     exact J7 _
    ·have ej:j=lo+n:=by omega
     rw [ej];by_cases ei:i=lo+n
     ·rw [ei];exact J7 _
     ·rw [same i hl (by omega)]
      exact B33 hlt
  ·refine gifF hgt ?_;have e1:n=1:=by omega
   rw [e1] at hlt;rw [e1];refine qQ6 h0 g hm (by omega) ?_ h
   intro i j hl hij hj;by_cases ei:i=j
   ·rw [ei];exact J7 _
   ·have ei:i=lo:=by omega
    have ej:j=lo+1:=by omega
    rw [ei,ej];exact B33 hlt
end
end L2.GS
namespace L2.GS
open PySem PyProof.Rows
variable [NM]
def qRI (xs:Array Keyed):List (Nat × Nat × Nat)->Nat->Nat->Prop
 | [],a,b=>a=b
 | r::rs,a,b=>r.1=a/\0<r.2.1/\gSeg xs a (a+r.2.1)/\qRI xs rs (a+r.2.1) b
section
variable {prog:Program} {w:World} {A:Around} {E:Value->Shared->Prop} {s:Shared} {κ0:SortKind} [LtOk prog w A s κ0] {a₀:Array Keyed}
theorem qW7:∀ n:Nat,n<64->minRun' n n 0=n
 | 0,_=>rfl
 | n+1,h=>if_pos h
theorem gwpS_runs (hs:a₀.size<64) {st:SortSt} {Q:Unit->SortSt->Prop} (h0:qCB a₀) (g:gSG κ0 a₀ st) (hp:pendingOf st=#[]) (h:∀ st2,gSG κ0 a₀ st2->gSortedTo (arrOf st2) a₀.size->Q () st2):wpS (model prog w) A E s sortRuns' Q st:=by
 rw [sortRuns'_eq];refine wpS_bind (wpS_get ?_);dsimp only;rw [g.size,qW7 _ hs];refine wpS_bind (wpS_mono (wpS_forRange
  (I:=fun x c st2=>∃ lo,c=(none,lo)/\x<=lo/\lo<=a₀.size/\gSG κ0 a₀ st2/\qRI (arrOf st2) (pendingOf st2).toList 0 lo/\(lo=0/\pendingOf st2=#[]\/lo=a₀.size/\(pendingOf st2).size<=1))
  (Q:=fun c st2=>c.1=none/\gSG κ0 a₀ st2/\qRI (arrOf st2) (pendingOf st2).toList 0 a₀.size/\(pendingOf st2).size<=1) ?step ?fin ⟨0,rfl,B3 _,F5 _,g,by rw [hp];rfl,.inl ⟨rfl,hp⟩⟩) ?post)
 case fin=>
  rintro c st2 ⟨lo,rfl,h1,h2,g2,r2,d2⟩;have e:lo=a₀.size:=by omega
  rw [e] at r2;refine ⟨rfl,g2,r2,?_⟩;rcases d2 with ⟨_,d2⟩ | ⟨_,d2⟩
  ·rw [d2];exact F5 _
  ·exact d2
 case post=>
  rintro ⟨c,lo⟩ st2 ⟨e,g2,r2,le2⟩;cases (show c=none from e);dsimp only;refine wpS_bind (wpS_mono (wpS_forRange (I:=fun x c st3=>c=(none,())/\st3=st2)
   (Q:=fun c st3=>c=(none,())/\st3=st2) ?_ ?_ ⟨rfl,rfl⟩) ?_)
  ·rintro x c st3 _ _ ⟨rfl,rfl⟩;refine wpS_bind (wpS_get ?_);rw [if_pos le2];exact wpS_pure ⟨rfl,rfl⟩
  ·rintro c st3 ⟨e,g3⟩;exact ⟨e,g3⟩
  ·rintro c st3 ⟨rfl,rfl⟩;refine wpS_pure (h st3 g2 ?_);have l3:(pendingOf st3).toList.length<=1:=by simpa using le2
   generalize (pendingOf st3).toList=l at r2 l3
   match l,r2,l3 with
   | [],r3,_=>
    have e:0=a₀.size:=r3;intro i j _ hj;omega
   | [r],r3,_=>
    have e:0+r.2.1=a₀.size:=r3.2.2.2;intro i j hij hj;exact r3.2.2.1 i j (F5 _) hij (by omega)
   | _::_::_,_,l3=>simp at l3
 case step=>
  rintro x c st2 _ hx ⟨lo,rfl,hxl,hlo,g2,r2,d2⟩;dsimp only;by_cases c1:lo >= a₀.size
  ·rw [if_pos c1];have e:lo=a₀.size:=by omega
   rw [e] at r2;refine wpS_pure ⟨rfl,g2,r2,?_⟩;rcases d2 with ⟨_,d2⟩ | ⟨_,d2⟩
   ·rw [d2];exact F5 _
   ·exact d2
  rw [if_neg c1];obtain ⟨e0,pe2⟩:lo=0/\pendingOf st2=#[]:=by
   rcases d2 with d2 | ⟨d2,_⟩
   ·exact d2
   ·omega
  subst e0;refine wpS_bind (qW5 h0 g2 (by omega) (by omega) fun k st3 g3 pe3 k1 k2 u3 o3=>?_)
  rw [pe2] at pe3;dsimp only;have tail:∀ (st5:SortSt) (n:Nat),gSG κ0 a₀ st5->n=a₀.size->1<=n->gSeg (arrOf st5) 0 (0+n)->pendingOf st5=#[]->
    ∃ lo,((none,0+n):Option Unit × Nat)=(none,lo)/\x+1<=lo/\lo<=a₀.size/\gSG κ0 a₀ (setPending st5 ((pendingOf st5).push (0,n,0)))/\qRI (arrOf st5) ((pendingOf st5).push (0,n,0)).toList 0 lo/\(lo=0/\(pendingOf st5).push (0,n,0)=#[]\/lo=a₀.size/\((pendingOf st5).push (0,n,0)).size<=1):=by
   intro st5 n g5 en h1 u5 pe5;refine ⟨0+n,rfl,by omega,by omega,⟨g5.perm,g5.kind,g5.failed⟩,?_,.inr ⟨by omega,?_⟩⟩
   ·rw [pe5];exact ⟨rfl,h1,u5,rfl⟩
   ·rw [pe5];exact B3 _
  by_cases c2:k<a₀.size
  ·rw [if_pos c2];refine wpS_bind (wpS_lift (wpAny_rule ⟨rfl,?_⟩));refine wpS_bind (qW6 h0 g3 (by omega) (by omega) u3 fun st4 g4 pe4 u4 o4=>?_)
   rw [pe3] at pe4;rw [if_neg (by simp)]
   refine wpS_bind (wpS_get ?_);rw [show (pendingOf st4).back?=none by rw [pe4];rfl]
   dsimp only;refine wpS_bind (wpS_modify (wpS_pure ?_));exact tail st4 _ g4 (by omega) (by omega) u4 pe4
  ·rw [if_neg c2];refine wpS_bind (wpS_get ?_);rw [show (pendingOf st3).back?=none by rw [pe3];rfl]
   dsimp only;refine wpS_bind (wpS_modify (wpS_pure ?_));exact tail st3 _ g3 (by omega) (by omega) u3 pe3
end
end L2.GS
namespace L2
open PySem PySem.Spec PyProof.Rows
open PySem.AutoSeq1 in
theorem qRK (l:Addr) (items:Array Value) (n:Nat) (b:Addr) (items2:Array Value) (n2:Nat) (dd:Option Addr) (sl:Array (Option Value)) (hs0:¬(!items.isEmpty && R4 (items.size+items2.size))=true) (hs1:items.size<=sizeLine) (hs2:items.size+items2.size<=sizeLine+1) :
  Meets (Builtin.«list.extend» ⟨[.ref l,.ref b],[]⟩) (fun _ R s=>s.heap.get? l=some { cls:=.type "list",data:=.seq items n }/\s.heap.get? b=some ⟨.type "tuple",dd,.seq items2 n2,sl⟩/\R (.ok (.ret V7)) { s with heap:=s.heap.update l (W1 fun x=>x++items2),toks:=s.toks }):=
 .of_wp fun prog w A R s h=>by
  obtain ⟨hp,g,d,tk,os⟩:=s;obtain ⟨hl,hb,h⟩:=h;have f1:=idx_int;have f2:=A23;have f3:=AutoSeq1.sub_list_list;have f4:=AutoSeq1.sub_tuple_list;have f5:=AutoSeq1.sub_list_tuple;have hz':(items++items2).size<=sizeLine+1:=by rw [Array.size_append];exact hs2
  wp_walk using (wpAny_updateSeq hl rfl (hz:=hs1) (_hz':=hz')),wpAny_loadPart' hl,wpAny_loadPart' hb
  exact ⟨_,rfl,h⟩
section
variable {X:Cx}
def qVJ (K:PySem.W.Frag):V->List V->Hp->VK->Prop:=fun x vs H Q=>∃ l b xs zs,x=.ref l/\vs=[.ref b]/\H l=some (.lst xs)/\SqT K H b zs/\xs.length+zs.length<=sizeLine/\Q .non (Ag H l (.lst (xs++zs)))
theorem qR5:MtM X "list.extend" (qVJ X.K):=by
 intro Ab s σ H x vs v us Q I rx rv h;obtain ⟨l,b,xs,zs,rfl,rfl,hH,hB,hz,q⟩:=h;cases rx;obtain ⟨u,rfl,ru⟩:=rv.one;cases ru;obtain ⟨z,its,n,r,hl,e⟩:=I.lstM hH;obtain ⟨its2,r2,p2,z2⟩:=I.tuple hB;have hl2:=r2.length;obtain ⟨⟨cls,dd,data,sl⟩,ho,hc,n2,hd⟩:=id p2;simp only at hc hd;subst hc hd;have hsz:its.toArray.size+its2.toArray.size<=sizeLine:=by rw [B7,B7];omega
 have hlong:¬ (!its.toArray.isEmpty && R4 (its.toArray.size+its2.toArray.size))=true:=by
  rw [qLH hsz,P7];exact C3
 refine call_meets B06 ⟨_,e,rfl⟩ A91 (A77 _ _)
  (qRK l its.toArray n b its2.toArray n2 dd sl hlong (by rw [B7];omega) (by omega)) ⟨e,ho,?_⟩
 refine ⟨.non,_,I.lset (its':=its++its2) hH e (by simp) (r.append r2) ?_,rfl,q⟩
 rw [B0];omega
end
section
variable {prog:Program} {w:World} {A:Around} {R:Result->Shared->Prop} {I:Addr} {fp wr:List Addr} {n:Nat} {P:Nat->Value->Prop} {St:Nat->Heap->Prop}
end
section
variable {prog:Program} {w:World} {A:Around} {E:Value->Shared->Prop} {s:Shared}
theorem qNJ {id:String} {b:Builtin} {args:List Value} {kw:List (Str × Value)} {Q:Value->Shared->Prop} (hk:builtinKind id=none) (hp:plainId id=true) (hb:entryFor table id=some b) (ha:argsOk id ⟨args,kw⟩)
  (hc:wpAny (model prog w) A.in1 (b ⟨args,kw⟩) (fun fin s'=>∃ c',fin=.again c'/\c'.quiet=true/\codeAny (model prog w) A c' (fun r s'=>∃ v,r=.ok (.ret v)/\Q v s') s') E s):wpAny (model prog w) A (call (.builtin id) args kw) Q E s:=by
 refine wpAny_call (codeAny_call_builtin hp hb ?_);have h2:=wpAny_mono hc (Q':=fun fin s'=>match fin with
   | .done f=>(match (Except.ok f:Result) with | .ok (.ret v)=>Q v s' | .ok _=>False | .error e=>E e s')
   | .again c'=>c'.quiet=true/\codeAny (model prog w) A c' (fun r s'=>match r with | .ok (.ret v)=>Q v s' | .ok _=>False | .error e=>E e s') s')
  (fun fin s' ⟨c',e,h1,h2⟩=>by subst e;exact ⟨h1,codeAny_mono h2 fun r s' ⟨v,e,q⟩=>by subst e;exact q⟩) fun _ _ h'=>h'
 simp only [checkBuiltinCall,hk];cases sg:Manifest.signature? id with
 | none=>exact wpAny_pure h2
 | some sig=>
  have ha':Bind.checkArgs id sig ⟨args,kw⟩=pure ():=by simpa only [argsOk,sg] using ha
  simp only [ha'];exact wpAny_pure h2
end
section
variable {X:Cx}
end
section
variable {prog:Program} {w:World} {A:Around} {E:Value->Shared->Prop} {s:Shared}
end
section
variable {prog:Program} {w:World} {A:Around} {R:Result->Shared->Prop} {I:Addr} {fp wr:List Addr} {n:Nat} {P:Nat->Value->Prop} {St:Nat->Heap->Prop}
end
section
variable {prog:Program} {w:World} {A:Around} {E:Value->Shared->Prop} {s:Shared}
end
section
variable {X:Cx}
theorem qI4 (hu:X.A.units<cLine):OpR X (compareOp .Eq) (fun x y H Q=>∃ p l xs,x=.ref p/\y=.ref l/\SqT X.K H p xs/\SqT X.K H l []/\Q (.bl xs.isEmpty) H):=by
 intro Ab s σ H x y v u Q I rx ry h;obtain ⟨p,l,xs,rfl,rfl,h1,h2,q⟩:=h;cases rx;cases ry;obtain ⟨its,r1,p1,z1⟩:=I.tuple h1;obtain ⟨its2,r2,p2,z2⟩:=I.tuple h2;cases r2;cases r1 with
 | nil=>exact A59 (e:=fun _=>true) p1 p2 hu (fun j h _=>absurd h (by simp)) ⟨.bl true,H,I,rfl,q⟩
 | cons a r=>exact A59 (e:=fun _=>true) p1 p2 hu (fun j _ h=>absurd h (by simp)) ⟨.bl false,H,I,rfl,q⟩
end
open PySem
def g5:Nat->Nat
 | 0=>0
 | n+1=>5 * g5 n+1
theorem qPU:∀ n:Nat,5 ^ n=4 * g5 n+1
 | 0=>rfl
 | n+1=>by
  rw [V5,qPU n,g5];omega
theorem qTY (m:Nat):∀ n:Nat,g5 (m+n)=5 ^ n * g5 m+g5 n
 | 0=>by simp [g5]
 | n+1=>by
  rw [<- Nat.add_assoc,g5,qTY m n,g5,V5,y9,<- c5,Y9 5 (5 ^ n)];omega
theorem qX9 (n:Nat):g5 (n+n)=2 * (g5 n * (2 * g5 n+1)):=by
 rw [qTY,qPU,B54,y9 (g5 n),y9 2];have e1:4 * g5 n * g5 n=2 * (g5 n * (2 * g5 n)):=by
  rw [A29 (g5 n) 2,<- c5 2 2,c5 4]
 rw [e1];omega
theorem qOC (k m:Nat) (h:m % 2=1):Nat.Coprime (2 ^ k) m:=by
 refine Nat.Coprime.pow_left k ?_;have:Nat.gcd 2 m=1:=by
  rw [Nat.gcd_rec,h]
  rfl
 exact this
theorem qX8:∀ (k n:Nat),2 ^ k ∣ g5 n->2 ^ k ∣ n
 | 0,n,_=>by simp
 | k+1,n,h=>by
  rcases Nat.mod_two_eq_zero_or_one n with e | e
  ·obtain ⟨m,rfl⟩:∃ m,n=m+m:=⟨n / 2,by omega⟩
   rw [qX9,V5,Y9 (2 ^ k)] at h;have h2:2 ^ k ∣ g5 m * (2 * g5 m+1):=Nat.dvd_of_mul_dvd_mul_left (by decide) h
   have h3:2 ^ k ∣ g5 m:=(qOC k (2 * g5 m+1) (by omega)).dvd_of_dvd_mul_right h2
   obtain ⟨c,hc⟩:=qX8 k m h3;exact ⟨c,by rw [V5,Y9 (2 ^ k) 2,c5,<- hc];omega⟩
  ·obtain ⟨m,rfl⟩:∃ m,n=m+m+1:=⟨n / 2,by omega⟩
   exfalso
   rw [g5,qX9] at h;have h2:2 ∣ 5 * (2 * (g5 m * (2 * g5 m+1)))+1:=Nat.dvd_trans ⟨2 ^ k,by rw [V5,Y9]⟩ h
   omega
def it5 (i n:Nat):Nat:=5 ^ n * i+g5 n
theorem qQ3 (i n:Nat):it5 i (n+1)=5 * it5 i n+1:=by
 unfold it5;rw [V5,g5,y9,<- c5,Y9 5 (5 ^ n)];omega
theorem qYM {k i n d:Nat} (hd:0<d) (hlt:d<2 ^ k) (h:it5 i n % 2 ^ k=it5 i (n+d) % 2 ^ k):False:=by
 have e:it5 i (n+d)=it5 i n+5 ^ n * (g5 d * (4 * i+1)):=by
  unfold it5;rw [m6 n d,qTY d n,Nat.pow_add,qPU d,y9 (g5 d),Nat.mul_one,y9 (5 ^ n)];have:(4 * g5 d+1) * 5 ^ n * i=5 ^ n * i+5 ^ n * (g5 d * (4 * i)):=by
   rw [B54,B55,B54,m6];congr 1;rw [Y9 4,c5,c5,A29 (5 ^ n),A29 4 (5 ^ n)]
  rw [this];omega
 have h2:2 ^ k ∣ 5 ^ n * (g5 d * (4 * i+1)):=by
  rw [e] at h;have:=(Nat.dvd_iff_mod_eq_zero ..).mpr (Nat.sub_mod_eq_zero_of_mod_eq h.symm)
  rwa [Nat.add_sub_cancel_left] at this
 have h3:2 ^ k ∣ g5 d * (4 * i+1):=(qOC k (5 ^ n) (by rw [qPU];omega)).dvd_of_dvd_mul_left h2
 have h4:2 ^ k ∣ g5 d:=(qOC k (4 * i+1) (by omega)).dvd_of_dvd_mul_right h3
 have h5:=Nat.le_of_dvd hd (qX8 k d h4);omega
theorem qTP {k i j:Nat} (hj:j<2 ^ k):∃ n,n<2 ^ k/\it5 i n % 2 ^ k=j:=by
 apply P9;intro no;have nd:((N9 (2 ^ k)).map fun n=>it5 i n % 2 ^ k).Nodup:=by
  rw [A10,R5];refine d6.imp_of_mem fun {a b} ha hb hab e=>?_;have hb':=J4.mp hb;refine qYM (k:=k) (i:=i) (n:=a) (d:=b - a) (by omega) (by omega) ?_
  rw [show a+(b - a)=b by omega]
  exact e
 have sub:((N9 (2 ^ k)).map fun n=>it5 i n % 2 ^ k) ⊆ (N9 (2 ^ k)).filter fun x=>decide (x ≠ j):=fun x hx=>by
  obtain ⟨n,hn,e⟩:=E1.mp hx;refine V0.mpr ⟨J4.mpr (by rw [<- e];exact d5 _ (B56 k)),decide_eq_true fun z=>no ⟨n,J4.mp hn,e.trans z⟩⟩
 have l1:=F0 nd sub;have l2:((N9 (2 ^ k)).filter fun x=>decide (x ≠ j)).length<(N9 (2 ^ k)).length:=by
  refine List.length_filter_lt_length_iff_exists.mpr ⟨j,J4.mpr hj,by simp⟩
 rw [A0] at l1;omega
structure TabG (byText:Bool) (t:SetTable) (n:Nat):Prop where
 pow:∃ k,3<=k/\t.mask+1=2 ^ k
 dum:t.dummies=#[]
 plain:t.plain=true
 led:t.led=!byText
 size:t.place.size=n
 up:t.place.toList.Pairwise (·<·)
 le:∀ j ∈ t.place.toList,j<=t.mask
def qJI (mask i pt:Nat):SetTable.Probe:={ j:=i,more:=P2 mask i - i,i:=i,perturb:=pt,dummy:=none }
theorem qMP {mask i:Nat} (h:i<=mask):P2 mask i<=mask/\i<=P2 mask i/\P2 mask i<=i+9:=by
 unfold P2
 split <;> omega
section
variable {byText:Bool} {t:SetTable} {n:Nat}
theorem TabG.slot (T:TabG byText t n) (j:Nat):(t.slot j=.empty/\j ∉ t.place.toList)\/(∃ i,t.slot j=.live i/\j ∈ t.place.toList):=by
 have hd:A66 t.dummies j=false:=by rw [T.dum];rfl
 obtain ⟨b1,b2,b3⟩:=qDK (j:=j) T.up;unfold B73;dsimp only;by_cases hc:t.place[C6 t.place j]?=some j
 ·rw [if_pos (by rw [hc];simp)]
  exact .inr ⟨_,rfl,by rw [<- B74];exact A67 hc⟩
 ·rw [if_neg (by simpa using hc),hd,if_neg (by simp)]
  refine .inl ⟨rfl,fun hm=>hc ?_⟩;obtain ⟨i,hi,he⟩:=T4.mp hm;have hi':i<t.place.size:=by simpa using hi
  have he':t.place.getD i j=j:=by
   rw [D6,D8 hi'];simpa using he
  have h1:¬ i<C6 t.place j:=fun z=>by have:=b2 i z;omega
  have h2:C6 t.place j=i:=by
   apply B53 (c8 h1);apply c8;intro z;have:=b3 (C6 t.place j) (B3 _) (by omega)
   have:=qS4 j T.up _ _ z hi';omega
  rw [h2,D8 hi'];simpa using he
theorem TabG.run (T:TabG byText t n) (h:Int) (i pt:Nat):∀ (more j f:Nat),(∃ j',F6 t (fun _=>h+1) h (more+1+f) { j:=j,more:=more,i:=i,perturb:=pt,dummy:=none }=some (.empty j' none)/\j' ∉ t.place.toList/\j'<=j+more)\/
  (F6 t (fun _=>h+1) h (more+1+f) { j:=j,more:=more,i:=i,perturb:=pt,dummy:=none }=F6 t (fun _=>h+1) h f (qJI t.mask ((i * 5+1+pt / 32) % (t.mask+1)) (pt / 32))/\j ∈ t.place.toList):=by
 intro more
 induction more with
 | zero=>
  intro j f;rw [A13,m6 1 f];rcases T.slot j with ⟨e,m⟩ | ⟨k,e,m⟩
  ·left
   refine ⟨j,?_,m,B3 _⟩;unfold F6;dsimp only;rw [e]
  ·right
   refine ⟨?_,m⟩;rw [F6];dsimp only;rw [e];dsimp only;rw [if_neg (by simp;omega)]
   rfl
 | succ more ih=>
  intro j f;rw [show more+1+1+f=more+1+f+1 by omega]
  rcases T.slot j with ⟨e,m⟩ | ⟨k,e,m⟩
  ·left
   refine ⟨j,?_,m,A41 _ _⟩;unfold F6;dsimp only;rw [e]
  ·have st:F6 t (fun _=>h+1) h (more+1+f+1) { j:=j,more:=more+1,i:=i,perturb:=pt,dummy:=none }=F6 t (fun _=>h+1) h (more+1+f) { j:=j+1,more:=more,i:=i,perturb:=pt,dummy:=none }:=by
    rw [F6];dsimp only;rw [e];dsimp only;rw [if_neg (by simp;omega)]
    unfold B37;dsimp only;rw [if_pos (by omega)]
    rfl
   rw [st];rcases ih (j+1) f with ⟨j',e1,e2,e3⟩ | ⟨e1,_⟩
   ·exact .inl ⟨j',e1,e2,by omega⟩
   ·exact .inr ⟨e1,m⟩
theorem TabG.leap (T:TabG byText t n) (h:Int) (i pt F:Nat) (hi:i<=t.mask) (hF:10<=F):(∃ j',F6 t (fun _=>h+1) h F (qJI t.mask i pt)=some (.empty j' none)/\j' ∉ t.place.toList/\j'<=t.mask)\/
  (∃ F',F<=F'+10/\F6 t (fun _=>h+1) h F (qJI t.mask i pt)=F6 t (fun _=>h+1) h F' (qJI t.mask ((i * 5+1+pt / 32) % (t.mask+1)) (pt / 32))/\i ∈ t.place.toList):=by
 obtain ⟨r1,r2,r3⟩:=qMP hi;have e:F=(P2 t.mask i - i)+1+(F - 1 - (P2 t.mask i - i)):=by omega
 rcases T.run h i pt (P2 t.mask i - i) i (F - 1 - (P2 t.mask i - i)) with ⟨j',e1,e2,e3⟩ | ⟨e1,e2⟩
 ·refine .inl ⟨j',?_,e2,by omega⟩
  rw [e];exact e1
 ·refine .inr ⟨F - 1 - (P2 t.mask i - i),by omega,?_,e2⟩
  conv=>lhs;rw [e]
  exact e1
theorem TabG.go0 (T:TabG byText t n) (h:Int):∀ (m q i F:Nat),i<=t.mask->10 * m<=F->(∃ j',F6 t (fun _=>h+1) h F (qJI t.mask (it5 i q % (t.mask+1)) 0)=some (.empty j' none)/\j' ∉ t.place.toList/\j'<=t.mask)\/(∀ c,c<m->it5 i (q+c) % (t.mask+1) ∈ t.place.toList)
 | 0,q,i,F,hi,hF=>.inr fun c hc=>absurd hc (by omega)
 | m+1,q,i,F,hi,hF=>by
  have lt:it5 i q % (t.mask+1)<t.mask+1:=d5 _ (by omega)
  rcases T.leap h (it5 i q % (t.mask+1)) 0 F (by omega) (by omega) with ok | ⟨F',hF',e,z⟩
  ·exact .inl ok
  ·have e2:((it5 i q % (t.mask+1)) * 5+1+0 / 32) % (t.mask+1)=it5 i (q+1) % (t.mask+1):=by
    rw [qQ3,A68,A69,Y9,A95,A96,Nat.mod_mod,<- A96,<- A95]
   rw [e2,A68] at e;rw [e];rcases T.go0 h m (q+1) i F' hi (by omega) with ok | all
   ·exact .inl ok
   ·refine .inr fun c hc=>?_;cases c with
    | zero=>exact z
    | succ c=>
     have:=all c (by omega)
     rw [show q+(c+1)=q+1+c by omega]
     exact this
theorem TabG.goK (T:TabG byText t n) (hn:n<=t.mask) (h:Int):∀ (k i pt F:Nat),i<=t.mask->pt<32 ^ k->10 * (k+(t.mask+1))<=F->∃ j',F6 t (fun _=>h+1) h F (qJI t.mask i pt)=some (.empty j' none)/\j' ∉ t.place.toList/\j'<=t.mask
 | 0,i,pt,F,hi,hp,hF=>by
  have e:pt=0:=by omega
  subst e;have e0:it5 i 0 % (t.mask+1)=i:=by
   unfold it5 g5;rw [Nat.pow_zero,B55,A69,B41 (by omega)]
  have q:=T.go0 h (t.mask+1) 0 i F hi (by omega)
  rw [e0] at q;rcases q with ok | all
  ·exact ok
  ·exfalso
   obtain ⟨k,_,hk⟩:=T.pow;have sub:N9 (t.mask+1) ⊆ t.place.toList:=fun j hj=>by
    have hj':=J4.mp hj;rw [hk] at hj';obtain ⟨m,hm,e⟩:=qTP (i:=i) hj';rw [<- hk] at hm e;have:=all m hm;rw [A13,e] at this;exact this
   have:=F0 A45 sub;have hs:=T.size;simp at this;omega
 | k+1,i,pt,F,hi,hp,hF=>by
  rcases T.leap h i pt F hi (by omega) with ok | ⟨F',hF',e,z⟩
  ·exact ok
  ·rw [e];have lt:(i * 5+1+pt / 32) % (t.mask+1)<t.mask+1:=d5 _ (by omega)
   refine T.goK hn h k _ _ F' (by omega) ?_ (by omega)
   rw [V5] at hp;omega
theorem qUV (h:Int):J6 h<32 ^ 13:=by
 unfold J6;have h1:0<=h % (2 ^ 64:Int):=Y6 _ (by decide)
 have h2:h % (2 ^ 64:Int)<2 ^ 64:=V2 _ (by decide)
 have:((2:Int) ^ 64)=18446744073709551616:=by decide
 rw [this] at h1 h2 ⊢;have h3:(32:Nat) ^ 13=36893488147419103232:=by decide
 omega
theorem TabG.free (T:TabG byText t n) (hn:n<=t.mask) (h:Int):∃ j,t.freeSlot h=some (j,false)/\j ∉ t.place.toList/\j<=t.mask:=by
 have lt:J6 h % (t.mask+1)<t.mask+1:=d5 _ (by omega)
 obtain ⟨j,e,z,l⟩:=T.goK hn h 13 (J6 h % (t.mask+1)) (J6 h) (10 * V6 t.mask) (by omega) (qUV h) (by unfold V6;omega)
 refine ⟨j,?_,z,l⟩;unfold B16 B62;have hst:t.probeStart h=qJI t.mask (J6 h % (t.mask+1)) (J6 h):=rfl;rw [hst,e]
 rfl
theorem TabG.lay (T:TabG byText t n) (hn:n<t.mask) {es:Array (Int × Value)} (he:es.size=n) (h:Int) (x:Value) :
  ∃ p t',layNew t es h x=(D5 es p (h,x),t',false,false)/\TabG byText t' (n+1)/\t'.mask=t.mask/\p<=es.size:=by
 obtain ⟨j,e,z,l⟩:=T.free (by omega) h
 obtain ⟨b1,b2,b3⟩:=qDK (j:=j) T.up;have hd:A66 t.dummies j=false:=by rw [T.dum];rfl
 have tl:(D5 t.place (C6 t.place j) j).toList=t.place.toList.take (C6 t.place j)++j::t.place.toList.drop (C6 t.place j):=qB8 _ _ _;have sz:(D5 t.place (C6 t.place j) j).size=n+1:=by
  rw [<- C0,tl,B0,D9,D7,F2,C0,T.size];rw [T.size] at b1;omega
 have T':TabG byText { t with place:=D5 t.place (C6 t.place j) j,dummies:=t.dummies } (n+1):=by
  refine ⟨T.pow,T.dum,T.plain,T.led,sz,?_,?_⟩
  ·show (D5 t.place (C6 t.place j) j).toList.Pairwise (·<·);rw [tl];have lo:∀ a ∈ t.place.toList.take (C6 t.place j),a<j:=fun a ha=>by
    obtain ⟨i,hi,hai⟩:=T4.mp ha;rw [D7,C0] at hi;have hi2:i<t.place.size:=by omega
    have:=b2 i (by omega)
    rw [D6,D8 hi2] at this;rw [B17] at hai;rw [<- hai];simpa using this
   have hi:∀ a ∈ t.place.toList.drop (C6 t.place j),j<a:=fun a ha=>by
    have hm:a ∈ t.place.toList:=Q0 ha;obtain ⟨i,hi,hai⟩:=T4.mp ha;rw [F2,C0] at hi;have hi2:C6 t.place j+i<t.place.size:=by omega
    have:=b3 _ (A41 _ i) hi2;rw [D6,D8 hi2] at this;rw [B18] at hai;have h3:j<=a:=by
     rw [<- hai];simpa using this
    rcases B07 h3 with h4 | h4
    ·exact h4
    ·exact absurd (h4 ▸ hm) z
   refine V3.mpr ⟨T.up.sublist (i8 _ _),R9.mpr ⟨hi,T.up.sublist (A25 _ _)⟩,fun a ha b hb=>?_⟩;rcases C9.mp hb with e | hb
   ·rw [e];exact lo a ha
   ·exact t9 (lo a ha) (hi b hb)
  ·show ∀ i ∈ (D5 t.place (C6 t.place j) j).toList,i<=t.mask;rw [tl];intro i hi;rcases C2.mp hi with hi | hi
   ·exact T.le i (k4 hi)
   ·rcases C9.mp hi with e | hi
    ·omega
    ·exact T.le i (Q0 hi)
 have fits:c4 { t with place:=D5 t.place (C6 t.place j) j,dummies:=t.dummies } (n+1)=true:=by
  unfold c4 j6;dsimp only;rw [sz,T.dum];have:((#[]:Array Nat)).size=0:=rfl;simp only [this,beq_self_eq_true,L8,decide_eq_true_eq];omega
 have szE:(D5 es (C6 t.place j) (h,x)).size=n+1:=by
  rw [<- C0,qB8,B0,D9,D7,F2,C0];rw [T.size] at b1;omega
 refine ⟨C6 t.place j,{ t with place:=D5 t.place (C6 t.place j) j,dummies:=t.dummies },?_,T',rfl,by rw [he,<- T.size];exact b1⟩
 unfold layNew;rw [e];dsimp only;unfold B81;rw [hd];dsimp only;rw [szE];unfold B08;simp only [J3,if_false];rw [fits];simp
end
theorem qSY {α:Type}:∀ {l m:List α},l.Nodup->m.Nodup->(∀ x,x ∈ l ↔ x ∈ m)->l.Perm m
 | [],[],_,_,_=>.refl _
 | [],y::m,_,_,h=>absurd ((h y).mpr B5) (by simp)
 | x::l,m,hl,hm,h=>by
  obtain ⟨s,t,rfl⟩:=List.append_of_mem ((h x).mp B5);have l1:=O0.mp hl;have m1:(x::(s++t)).Nodup:=(A46.nodup_iff).mp hm;have m2:=O0.mp m1;refine ((qSY l1.2 m2.2 fun y=>?_).cons x).trans A46.symm;have key:=h y;rw [C9,A46.mem_iff,C9] at key
  constructor
  ·intro hy;rcases key.mp (.inr hy) with e | e
   ·exact absurd (e ▸ hy) l1.1
   ·exact e
  ·intro hy;rcases key.mpr (.inr hy) with e | e
   ·exact absurd (e ▸ hy) m2.1
   ·exact e
theorem qIG:∀ (fuel k n:Nat),3<=k->n<2 ^ k * 2 ^ fuel->∃ k',3<=k'/\A70 n fuel (2 ^ k)=2 ^ k'/\n<2 ^ k'
 | 0,k,n,hk,h=>⟨k,hk,rfl,by simpa using h⟩
 | fuel+1,k,n,hk,h=>by
  rw [A70];by_cases c:2 ^ k<=n
  ·rw [if_pos c,<- V5];exact qIG fuel (k+1) n (by omega) (by rw [V5,c5,<- Nat.pow_succ'];exact h)
  ·rw [if_neg c];exact ⟨k,hk,rfl,by omega⟩
theorem qMF {n:Nat} (h:n<=1000000):∃ k,3<=k/\n9 n=2 ^ k/\n<2 ^ k:=by
 unfold n9;exact qIG 64 3 n (B3 _) (X2 h (by decide))
section
variable {mask:Nat} {owner:Array (Option Nat)}
theorem qaK (i pt F:Nat) (hi:i<=mask):(∃ j,M4 mask owner (F+1) i pt=some j/\owner.getD j (some 0)=none/\j<=mask)\/
  (M4 mask owner (F+1) i pt=M4 mask owner F ((i * 5+1+pt / 32) % (mask+1)) (pt / 32)/\owner.getD i (some 0) ≠ none):=by
 obtain ⟨r1,r2,r3⟩:=qMP hi;cases e:(N9 (P2 mask i+1 - i)).find? fun k=>(owner.getD (i+k) (some 0)).isNone with
 | some k=>
  left
  have h1:=List.find?_some e;have h2:=J4.mp (List.mem_of_find?_eq_some e);refine ⟨i+k,?_,by simpa using h1,by omega⟩
  rw [M4,e]
 | none=>
  right
  refine ⟨?_,?_⟩
  ·rw [M4,e]
   rfl
  ·have:=List.find?_eq_none.mp e 0 (J4.mpr (by omega))
   simpa using this
theorem qaL:∀ (m q i F:Nat),i<=mask->m<=F->(∃ j,M4 mask owner F (it5 i q % (mask+1)) 0=some j/\owner.getD j (some 0)=none/\j<=mask)\/(∀ c,c<m->owner.getD (it5 i (q+c) % (mask+1)) (some 0) ≠ none)
 | 0,q,i,F,hi,hF=>.inr fun c hc=>absurd hc (by omega)
 | m+1,q,i,F,hi,hF=>by
  have lt:it5 i q % (mask+1)<mask+1:=d5 _ (by omega)
  obtain ⟨F',rfl⟩:∃ F',F=F'+1:=⟨F - 1,by omega⟩
  rcases qaK (mask:=mask) (owner:=owner) (it5 i q % (mask+1)) 0 F' (by omega) with ok | ⟨e,z⟩
  ·exact .inl ok
  ·have e2:((it5 i q % (mask+1)) * 5+1+0 / 32) % (mask+1)=it5 i (q+1) % (mask+1):=by
    rw [qQ3,A68,A69,Y9,A95,A96,Nat.mod_mod,<- A96,<- A95]
   rw [e2,A68] at e;rw [e];rcases qaL m (q+1) i F' hi (by omega) with ok | all
   ·exact .inl ok
   ·refine .inr fun c hc=>?_;cases c with
    | zero=>exact z
    | succ c=>
     have:=all c (by omega)
     rw [show q+(c+1)=q+1+c by omega]
     exact this
theorem qaJ {p:Nat} (hp:mask+1=2 ^ p) {j0:Nat} (h0:j0<=mask) (hj0:owner.getD j0 (some 0)=none):∀ (k i pt F:Nat),i<=mask->pt<32 ^ k->k+(mask+1)<=F->∃ j,M4 mask owner F i pt=some j/\owner.getD j (some 0)=none/\j<=mask
 | 0,i,pt,F,hi,hpt,hF=>by
  have e:pt=0:=by omega
  subst e;have e0:it5 i 0 % (mask+1)=i:=by
   unfold it5 g5;rw [Nat.pow_zero,B55,A69,B41 (by omega)]
  have q:=qaL (mask:=mask) (owner:=owner) (mask+1) 0 i F hi (by omega)
  rw [e0] at q;rcases q with ok | all
  ·exact ok
  ·exfalso
   obtain ⟨m,hm,e⟩:=qTP (k:=p) (i:=i) (j:=j0) (by omega)
   rw [<- hp] at hm e;have:=all m hm;rw [A13,e] at this;exact this hj0
 | k+1,i,pt,F,hi,hpt,hF=>by
  obtain ⟨F',rfl⟩:∃ F',F=F'+1:=⟨F - 1,by omega⟩
  rcases qaK (mask:=mask) (owner:=owner) i pt F' hi with ok | ⟨e,z⟩
  ·exact ok
  ·rw [e];have lt:(i * 5+1+pt / 32) % (mask+1)<mask+1:=d5 _ (by omega)
   refine qaJ hp h0 hj0 k _ _ F' (by omega) ?_ (by omega)
   rw [V5] at hpt;omega
end
structure Own (N:Nat) (L:List Nat) (owner:Array (Option Nat)):Prop where
 size:owner.size=N
 nd:L.Nodup
 lt:∀ j ∈ L,j<N
 at_:∀ (m j:Nat),L[m]?=some j->owner[j]?=some (some m)
 no:∀ j,j<N->j ∉ L->owner[j]?=some none
theorem Own.put {N:Nat} {L:List Nat} {owner:Array (Option Nat)} (o:Own N L owner) {j:Nat} (hj:j<N) (hn:j ∉ L):Own N (L++[j]) (owner.setIfInBounds j (some L.length)):=by
 refine ⟨by simp [o.size],qJL o.nd hn,fun i hi=>?_,fun m i h=>?_,fun i hi hni=>?_⟩
 ·rcases C2.mp hi with hi | hi
  ·exact o.lt i hi
  ·rw [B2.mp hi];exact hj
 ·by_cases c:m<L.length
  ·rw [F7 c] at h;have ne:j ≠ i:=fun z=>hn (z ▸ C5 h);rw [r8 ne];exact o.at_ m i h
  ·rw [L6 (by omega)] at h
   have hm:m=L.length:=by
    have:=(A6.mp h).1;simp at this;omega
   subst hm;rw [a9] at h;cases h;rw [Array.getElem?_setIfInBounds_self_of_lt (by rw [o.size];exact hj)]
 ·have ne:j ≠ i:=fun z=>hni (C2.mpr (.inr (by rw [z];exact B2.mpr rfl)))
  rw [r8 ne];exact o.no i hi fun z=>hni (C2.mpr (.inl z))
theorem qQ0 {mask p:Nat} (hp:mask+1=2 ^ p):∀ (hs:List Int) (L:List Nat) (owner:Array (Option Nat)),Own (mask+1) L owner->L.length+hs.length<=mask->
  ∃ L' owner',hs.foldl (fun (acc:Option (Array (Option Nat) × Nat)) (h:Int)=>acc >>= fun x=>M4 mask x.1 (V6 mask) (J6 h % (mask+1)) (J6 h) >>= fun j=>some (x.1.setIfInBounds j (some x.2),x.2+1)) (some (owner,L.length))=some (owner',L'.length)/\Own (mask+1) L' owner'/\L'.length=L.length+hs.length
 | [],L,owner,o,_=>⟨L,owner,rfl,o,by simp⟩
 | h::hs,L,owner,o,hl=>by
  rw [D9] at hl;obtain ⟨j0,hj0,hjn⟩:∃ j0,j0<mask+1/\j0 ∉ L:=by
   apply P9;intro no;have sub:N9 (mask+1) ⊆ L:=fun j hj=>P9 fun z=>no ⟨j,J4.mp hj,z⟩;have:=F0 A45 sub;simp at this;omega
  have g0:owner.getD j0 (some 0)=none:=by
   rw [D6,o.no j0 hj0 hjn]
   rfl
  have lt:J6 h % (mask+1)<mask+1:=d5 _ (by omega)
  obtain ⟨j,e,z,l⟩:=qaJ hp (by omega) g0 13 (J6 h % (mask+1)) (J6 h) (V6 mask) (by omega) (qUV h) (by unfold V6;omega)
  have jn:j ∉ L:=fun hm=>by
   obtain ⟨m,hm⟩:=M7 hm;rw [D6,o.at_ m j hm] at z;cases z
  have st:=o.put (show j<mask+1 by omega) jn
  obtain ⟨L',owner',e1,o',e2⟩:=qQ0 hp hs (L++[j]) _ st (by rw [B0,C1];omega)
  refine ⟨L',owner',?_,o',by rw [e2,B0,C1,D9];omega⟩
  rw [Y2];have e3:((some (owner,L.length):Option (Array (Option Nat) × Nat)) >>= fun x=>M4 mask x.1 (V6 mask) (J6 h % (mask+1)) (J6 h) >>= fun j=>some (x.1.setIfInBounds j (some x.2),x.2+1))=some (owner.setIfInBounds j (some L.length),(L++[j]).length):=by
   show (M4 mask owner (V6 mask) (J6 h % (mask+1)) (J6 h) >>= _)=_;rw [e,B0,C1]
   rfl
  rw [e3];exact e1
theorem qY3 (N:Nat):Own N [] (B57 N none):=⟨by simp,.nil,fun _ h=>(nomatch h),fun m j h=>by simp at h,fun j hj _=>by simp [hj]⟩
theorem qOP {mask p:Nat} (hp:mask+1=2 ^ p) (hashes:Array Int) (hl:hashes.size<=mask):∃ L owner,B25 mask hashes=some owner/\Own (mask+1) L owner/\L.length=hashes.size:=by
 obtain ⟨L,owner,e,o,l⟩:=qQ0 hp hashes.toList [] _ (qY3 (mask+1)) (by simpa using hl)
 refine ⟨L,owner,?_,o,by simpa using l⟩
 unfold B25;rw [<- Array.foldl_toList];have:(hashes.toList.foldl (fun (acc:Option (Array (Option Nat) × Nat)) (h:Int)=>do
   let (owner,k) <- acc
   let j <- M4 mask owner (V6 mask) (J6 h % (mask+1)) (J6 h)
   pure (owner.setIfInBounds j (some k),k+1)) (some (B57 (mask+1) none,0)))=some (owner,L.length):=e
 rw [this]
 rfl
theorem qMU {α:Type}:∀ l:List α,(N9 l.length).filterMap (fun i=>l[i]?)=l
 | []=>rfl
 | a::l=>by
  rw [D9,A58,m5];show a::((N9 l.length).map Nat.succ).filterMap (fun i=>(a::l)[i]?)=a::l;rw [B03];congr 1;exact qMU l
theorem qVH {b:Bool} {t:SetTable} {n:Nat} (T:TabG b t n) {es:Array (Int × Value)} (he:es.size=n) {wanted:Nat} (hw:wanted<=1000000) (hn:n<wanted) :
  ∃ es' t',relayAll t es wanted=(es',t',false)/\es'.toList.Perm es.toList/\TabG b t' n/\wanted<=t'.mask:=by
 obtain ⟨k,k3,hk,hlt⟩:=qMF hw;have hmk:n9 wanted - 1+1=2 ^ k:=by rw [hk];have:=B56 k;omega
 have h8:8<=2 ^ k:=by
  have:=x5 (n:=2) (by decide) k3
  exact this
 obtain ⟨L,owner,e,o,l⟩:=qOP hmk (es.map (·.1)) (by rw [A18,he,hk];omega)
 rw [A18,he] at l;generalize hM:n9 wanted - 1=M at *;have fa:∀ j m,(owner.getD j none).map (fun x=>(j,x))=some (j,m) ↔ L[m]?=some j:=by
  intro j m;rw [D6];by_cases hj:j<M+1
  ·by_cases hjL:j ∈ L
   ·obtain ⟨m',hm'⟩:=M7 hjL;rw [o.at_ m' j hm']
    constructor
    ·intro z;have:m'=m:=by simpa using z
     rw [<- this];exact hm'
    ·intro z;have:some (some m')=some (some m):=(o.at_ m' j hm').symm.trans (o.at_ m j z);cases this
     rfl
   ·rw [o.no j hj hjL]
    constructor
    ·intro z;simp at z
    ·intro z;exact absurd (C5 z) hjL
  ·rw [Array.getElem?_eq_none (by rw [o.size];omega)]
   constructor
   ·intro z;simp at z
   ·intro z;exact absurd (o.lt j (C5 z)) hj
 have sh:∀ j x,x ∈ ((owner.getD j none).map fun y=>(j,y))->x.1=j/\L[x.2]?=some j:=by
  intro j x hx;have hx':(owner.getD j none).map (fun y=>(j,y))=some x:=hx;obtain ⟨y,hy,e⟩:=A56.mp hx';subst e;exact ⟨rfl,(fa j y).mp hx'⟩
 generalize hlive:(N9 (M+1)).filterMap (fun j=>(owner.getD j none).map (fun x=>(j,x)))=live;have p1:live.Pairwise fun a c=>a.1<c.1:=by
  rw [<- hlive,A39];refine d6.imp fun {a c} hac x hx y hy=>?_;rw [(sh a x hx).1,(sh c y hy).1];exact hac
 have p2:live.Pairwise fun a c=>a.2 ≠ c.2:=by
  rw [<- hlive,A39];refine d6.imp fun {a c} hac x hx y hy z=>?_;have h1:=(sh a x hx).2;have h2:=(sh c y hy).2;rw [z,h2] at h1;cases h1;omega
 have mem:∀ m,m ∈ live.map (·.2) ↔ m ∈ N9 n:=by
  intro m;rw [E1,J4]
  constructor
  ·rintro ⟨x,hx,rfl⟩;rw [<- hlive] at hx;obtain ⟨j,_,hj⟩:=d8.mp hx;have:=(A6.mp (sh j x hj).2).1;omega
  ·intro hm;have hm':m<L.length:=by omega
   have hL:=A5 hm';refine ⟨(L[m],m),?_,rfl⟩;rw [<- hlive];exact d8.mpr ⟨L[m],J4.mpr (o.lt _ (m4 hm')),(fa L[m] m).mpr hL⟩
 have pm:(live.map (·.2)).Perm (N9 n):=qSY (by rw [A10,R5];exact p2) A45 mem
 have ll:live.length=n:=by have:=pm.length_eq;simpa using this
 have es':((live.map (·.2)).toArray.filterMap (fun i=>es[i]?)).toList.Perm es.toList:=by
  rw [Array.toList_filterMap];have:=pm.filterMap (fun i=>es[i]?);have e2:(N9 n).filterMap (fun i=>es[i]?)=es.toList:=by
   have:=qMU es.toList;rw [C0,he] at this;simpa using this
  rw [e2] at this;simpa using this
 have szE:((live.map (·.2)).toArray.filterMap (fun i=>es[i]?)).size=n:=by
  rw [<- C0,es'.length_eq,C0,he]
 refine ⟨(live.map (·.2)).toArray.filterMap (fun i=>es[i]?),{ mask:=M,place:=(live.map (·.1)).toArray,dummies:=#[],finger:=t.finger,led:=t.led,moves:=t.movedTo M,plain:=t.plain },?_,es',⟨⟨k,k3,hmk⟩,rfl,T.plain,T.led,by simp [ll],?_,?_⟩,?_⟩
 ·have er:t.relaid (es.map (·.1)) wanted=some ({ mask:=M,place:=(live.map (·.1)).toArray,dummies:=#[],finger:=t.finger,led:=t.led,moves:=t.movedTo M,plain:=t.plain },(live.map (·.2)).toArray):=by
   unfold SetTable.relaid SetTable.laid;rw [hM,e];show some _=some _;rw [<- hlive]
  unfold relayAll;rw [er];dsimp only;have c1:coversAll (live.map (·.2)).toArray es.size=true:=by
   unfold coversAll;rw [he];exact List.isPerm_iff.mpr pm
  have c2:c4 { mask:=M,place:=(live.map (·.1)).toArray,dummies:=#[],finger:=t.finger,led:=t.led,moves:=t.movedTo M,plain:=t.plain } ((live.map (·.2)).toArray.filterMap (fun i=>es[i]?)).size=true:=by
   unfold c4 j6;rw [szE];simp [ll];omega
  rw [c1,c2]
  rfl
 ·show (live.map (·.1)).toArray.toList.Pairwise (·<·);rw [A97,R5];exact p1
 ·show ∀ j ∈ (live.map (·.1)).toArray.toList,j<=M;intro j hj;rw [A97] at hj;obtain ⟨x,hx,rfl⟩:=E1.mp hj;rw [<- hlive] at hx;obtain ⟨i,hi,hx⟩:=d8.mp hx;rw [(sh i x hx).1];have:=J4.mp hi;omega
 ·show wanted<=M;omega
def SetG (w:World) (a:Addr) (zs:List Int) (h:Heap):Prop:=
 ∃ (es:Array (Int × Value)) (ep:Nat) (t:SetTable) (ks:List Int),h.get? a=some { cls:=.type "set",data:=.set es ep t }/\TabG (byT w) t es.size/\Ents ks es.toList/\ks.Perm zs/\zs.Nodup/\zs.length<4095/\es.size * 5<t.mask * 3
theorem SetG.at {w:World} {a:Addr} {zs:List Int} {h h':Heap} (x:SetG w a zs h) (k:∀ o,h.get? a=some o->h'.get? a=some o):SetG w a zs h':=
 let ⟨es,ep,t,ks,h1,r⟩:=x;⟨es,ep,t,ks,k _ h1,r⟩
theorem TabG.fits {b:Bool} {t:SetTable} {n:Nat} (T:TabG b t n) (hn:n<=t.mask):t.fits n=true:=by
 unfold c4 j6;rw [T.size,T.dum];have:((#[]:Array Nat)).size=0:=rfl;simp only [this,beq_self_eq_true,L8,decide_eq_true_eq];omega
theorem TabG.mask7 {b:Bool} {t:SetTable} {n:Nat} (T:TabG b t n):7<=t.mask:=by
 obtain ⟨k,k3,hk⟩:=T.pow;have:=x5 (n:=2) (by decide) k3
 omega
theorem insertAt_perm {es:Array (Int × Value)} {p:Nat} {x:Int × Value}:(D5 es p x).toList.Perm (es.toList++[x]):=by
 rw [qB8];have e3:es.toList++[x]=es.toList.take p++(es.toList.drop p++[x]):=by
  rw [<- P6,X3]
 rw [e3];exact u6 _ (A08 _ _).symm
section
variable {prog:Program} {w:World} {A:Around} {E:Value->Shared->Prop} {s:Shared}
theorem qWX {a:Addr} {es es':Array (Int × Value)} {ep:Nat} {t t':SetTable} {h:Heap} (ho:h.get? a=some { cls:=.type "set",data:=.set es ep t }) :
  (h.update a (B20 es' t')).get? a=some { cls:=.type "set",data:=.set es' (ep+1) t' }:=by
 have:=O4 (B20 es' t') ho (by rw [putSet_of _ _ (ep:=ep) (es:=es) (t:=t) rfl];rfl)
 rw [putSet_of _ _ (ep:=ep) (es:=es) (t:=t) rfl] at this;exact this
theorem qVF {a:Addr} {zs:List Int} {k:Int} {tk:Tok} {Q:Bool->Shared->Prop} (hS:SetG w a zs s.heap) (hroom:zs.length<4094)
  (h:∀ h',Heap.SameBut a s.heap h'->SetG w a (addI zs k) h'->∀ b,Q b { s with heap:=h' }):wpAny (model prog w) A (setAddHashed a (.int k tk) (hashInt k)) Q E s:=by
 obtain ⟨es,ep,t,ks,ho,T,he,hp,hnd,hlen,hroom2⟩:=id hS;have hsz:es.size=zs.length:=SetI.size (a:=a) (h:=s.heap) he hp;have hel:ElemsOf (intKind prog w) es.toList:=he.elems;have h7:=T.mask7;have hb:es.size<scanBound:=by rw [hsz];unfold scanBound;omega
 have hf:t.fits es.size=true:=T.fits (by omega)
 unfold setAddHashed setAddHashedIn;refine wpAny_holding (wpAny_bind (wpAny_setState_of ho rfl hf ?_));dsimp only;rw [byScan_of (knd:=intKind prog w) (x:=.int k tk) rfl hb hel];simp only [↓reduceIte];unfold setAddByScan;refine wpAny_bind ?_;refine wpAny_bind (wpAny_rule ?_);refine wpAny_bind (wpAny_setScan_of (knd:=intKind prog w) (k:=k) (intKind_is _ _ _ _) ho rfl hf hel ?_);have hfd:=Ents.find (prog:=prog) (w:=w) (k:=k) he;cases hr:B09 (fun e=>(intKind prog w).is k e.2) es.toList with
 | some j=>
  dsimp only;rw [hr] at hfd;have hk:k ∈ zs:=hp.mem_iff.mp (hfd.mp rfl);refine wpAny_pure (wpAny_pure ?_);have e:s={ s with heap:=s.heap }:=by cases s;rfl
  rw [e];refine h s.heap (B19 a s.heap) ?_ _;unfold addI;rw [if_pos hk];exact hS
 | none=>
  dsimp only;rw [hr] at hfd;have hk:¬ k ∈ zs:=fun z=>by have:=hfd.mpr (hp.mem_iff.mpr z);cases this
  obtain ⟨p,t',e1,T',tm,hpe⟩:=T.lay (by omega) rfl (hashInt k) (.int k tk)
  rw [e1];dsimp only;refine wpAny_bind (wpAny_pure ?_);rw [T'.plain];simp only [↓reduceIte];rw [hashByValue_scannable 8 (x:=.int k tk) rfl];refine wpAny_bind (wpAny_pure ?_);have hszE:(D5 es p (hashInt k,R0 k tk)).size=es.size+1:=by
   rw [<- C0,insertAt_perm.length_eq,B0,C0]
   rfl
  rw [show plainKind (R0 k tk)=true from rfl];simp only [↓reduceIte];show wpAny _ _ (storeSet a (D5 es p (hashInt k,.int k tk)) t' >>= _) _ _ _;refine wpAny_bind (wpAny_storeSet_of ho rfl ?_ (by rw [hszE,hsz,sizeLine_eq];omega))
  have fin:∀ (es2:Array (Int × Value)) (ep2:Nat) (t2:SetTable) (h2:Heap),h2.get? a=some { cls:=.type "set",data:=.set es2 ep2 t2 }->es2.toList.Perm (D5 es p (hashInt k,R0 k tk)).toList->TabG (byT w) t2 (es.size+1)->(es.size+1) * 5<t2.mask * 3->SetG w a (addI zs k) h2:=by
   intro es2 ep2 t2 h2 g2 pm T2 full;obtain ⟨ks',h4,h5⟩:=Ents.perm (ks:=ks++[k]) (o9 he ⟨tk,rfl⟩) (pm.trans insertAt_perm);have hs2:es2.size=es.size+1:=by rw [<- hszE,<- C0,pm.length_eq,C0]
   refine ⟨es2,ep2,t2,ks',g2,by rw [hs2];exact T2,h4,?_,?_,?_,by rw [hs2];exact full⟩
   ·unfold addI;rw [if_neg hk];exact h5.trans (hp.append_right _)
   ·unfold addI;rw [if_neg hk];exact qJL hnd hk
   ·unfold addI;rw [if_neg hk,B0,C1];omega
  have hg:=qWX (es':=D5 es p (hashInt k,.int k tk)) (t':=t') ho;have fill:t'.fill=es.size+1:=by
   unfold j6;rw [T'.size,T'.dum]
   rfl
  cases tf:t'.tooFull with
  | false=>
   simp only [P7,J3,↓reduceIte];refine wpAny_pure (wpAny_pure ?_);refine h _ (Q9 s.heap a _) (fin _ _ _ _ hg (.refl _) T' ?_) _;unfold B38 at tf;rw [fill] at tf;have:=of_decide_eq_false tf;omega
  | true=>
   simp only [A86,Bool.and_self,↓reduceIte];rw [hszE];have gr:A88 (es.size+1)=(es.size+1) * 4:=by
    unfold A88;rw [if_neg (by omega)]
   obtain ⟨es2,t2,e2,p2,T2,m2⟩:=qVH T' hszE (wanted:=A88 (es.size+1)) (by rw [gr];omega) (by rw [gr];omega)
   rw [gr] at m2;rw [e2];dsimp only;refine wpAny_bind (wpAny_pure ?_);refine wpAny_bind (wpAny_storeSet_of hg rfl ?_ (by rw [<- C0,p2.length_eq,C0,hszE,hsz,sizeLine_eq];omega))
   refine wpAny_pure (wpAny_pure ?_);exact h _ ((Q9 s.heap a _).trans (Q9 _ a _)) (fin _ _ _ _ (qWX hg) p2 T2 (by omega)) _
end
section
variable {prog:Program} {w:World} {A:Around} {R:Result->Shared->Prop} {I:Addr} {fp wr:List Addr} {G:Array GenState->Array GenState->Prop} {n:Nat} {P:Nat->Value->Prop} {St:Nat->Shared->Prop}
theorem qMI (W:WalksS prog w A.in1 I fp wr G n P St) (S:Addr) (hSf:S ∉ fp) (ns:List Int) (hnn:ns.length=n) (h4:n<=4000) (hval:∀ i v,P i v->∃ t,v=.int (ns.getD i 0) t) :
  ∀ (k i:Nat) (s:Shared),n - i=k->i<=n->St i s->SetG w S (dedI (ns.take i)) s.heap->
   (∀ s',Moved (S::wr) G s s'->SetG w S (dedI ns) s'.heap->R (.ok (.ret .none)) s')->
   codeAny (model prog w) A (.builtin "set.update.loop" ⟨[.ref S,.ref I],[]⟩) R s:=by
 have hSw:S ∉ wr:=fun h=>hSf (W.sub _ h);have hsub:∀ b ∈ wr,b ∈ S::wr:=fun b hb=>B4 _ hb;intro k
 induction k with
 | zero=>
  intro i s hk hi hst hS hR;have hin:i=n:=by omega
  subst hin;refine codeAny_builtin F.entry_set_update_loop ?_;rw [O3 F.plain_set_update_loop _];show wpAny _ A.in1 (pyNext (.ref I) >>= _) _ _ s;refine wpAny_bind (W.done s _ _ hst fun s' hm=>?_);show wpAny _ A.in1 (ret V7) _ _ s';rw [L7 (by omega)] at hS
  exact wpAny_pure (hR s' (hm.mono hsub) (hS.at fun o e=>hm.heap S _ hSw e))
 | succ k ih=>
  intro i s hk hi hst hS hR;have hlt:i<n:=by omega
  refine codeAny_builtin F.entry_set_update_loop ?_;rw [O3 F.plain_set_update_loop _];show wpAny _ A.in1 (pyNext (.ref I) >>= _) _ _ s;refine wpAny_bind (W.item i s _ _ hlt hst fun v s' hP hst' hm=>?_);obtain ⟨t,rfl⟩:=hval i v hP;have hS':SetG w S (dedI (ns.take i)) s'.heap:=hS.at fun o e=>hm.heap S _ hSw e;show wpAny _ A.in1 (holding [R0 (ns.getD i 0) t] (setAdd S (.int (ns.getD i 0) t)) >>= _) _ _ s';refine wpAny_bind (wpAny_holding ?_);unfold setAdd;refine wpAny_holding ?_;refine wpAny_bind ((intKind prog w).pyHash (k:=ns.getD i 0) (intKind_is _ _ _ _) ?_);have hroom:(dedI (ns.take i)).length<4094:=by
   have:=qC7 (ns.take i) [];rw [D7] at this;unfold dedI;simp at this;omega
  refine qVF (s:={ s' with toks:=s'.toks+1 }) hS' hroom fun h' hsb hS2 b=>?_;have e2:addI (dedI (ns.take i)) (ns.getD i 0)=dedI (ns.take (i+1)):=by
   have hi':i<ns.length:=by omega
   rw [D4,A5 hi',E3];unfold dedI;rw [B21,Y2,A85,M6,A5 hi',w6]
  rw [e2] at hS2;refine wpAny_pure ⟨plainId_quiet F.plain_set_update_loop _,ih (i+1) _ (by omega) hlt (W.frame _ s' _ _ hst' (h9 _) fun b hb o e=>?_) hS2 fun s'' hm'' hS''=>?_⟩
  ·rw [hsb.2 b (fun h:b=S=>hSf (by rw [<- h];exact hb))];exact e
  ·refine hR s'' (Moved.trans W.gtrans ((hm.mono hsub).then_heap (h9 _) fun b o hb e=>?_) hm'') hS'';rw [hsb.2 b (fun h:b=S=>hb (by rw [h];exact B5))];exact e
end
section
variable {prog:Program} {w:World} {A:Around} {E:Value->Shared->Prop} {s:Shared}
theorem SetG.fresh {a:Addr} {h:Heap} (e:h.get? a=some (qAZ w)):SetG w a [] h:=
 ⟨#[],0,_,[],e,⟨⟨3,B3 _,rfl⟩,rfl,rfl,rfl,rfl,.nil,fun _ z=>nomatch z⟩,.nil,.refl _,.nil,by decide,by show 0 * 5<7 * 3;decide⟩
theorem qRQ {l:Addr} {items:Array Value} {ns:List Int} {Q:Value->Shared->Prop} (hh:A.handled=none) (hl:s.heap.IsList l items) (hi:IntsAre items.toList ns) (h4:items.size<=4000)
  (h:∀ (h':Heap) (tk:Nat),SetG w s.heap.objs.size (dedI ns) h'->(∀ b o,s.heap.get? b=some o->h'.get? b=some o)->Q (.ref s.heap.objs.size) { s with heap:=h',toks:=tk }) :
  wpAny (model prog w) A (call (.type "set") [.ref l]) Q E s:=by
 have hlen:ns.length=items.size:=by have:=IntsAre.length hi;simpa using this.symm
 obtain ⟨c,tl,hmro⟩:=Q3.mro;have hmade:=Q3.made;have hsub:=Q3.sub;refine wpAny_call (codeAny_of_tree ?_);show wpAny _ _ (callAny (.type "set") _) _ _ _;refine wpAny_pure ⟨B10 _ (by decide +kernel),codeAny_builtin B22 ?_⟩
 rw [B11 (weight_type_call_type "set" [.ref l] []) rfl];have h1:=Q3.notType;have h2:=Q3.canCreate;have hct:=B39 (.ref l)
 repeat (any_goals (first | assumption | wp_step))
 refine codeAny_mono (qMJ (.ref l) (E:=E) (Q₁:=fun obj s₁=>obj=.ref s.heap.objs.size/\s₁={ s with heap:=s.heap.push (qAZ w) }) ⟨rfl,rfl⟩) fun r s₁ hr=>?_;cases r with
 | error e=>exact hr
 | ok fl=>
  cases fl with
  | ret obj=>
   obtain ⟨rfl,rfl⟩:=hr;have hS:(s.heap.push (qAZ w)).get? s.heap.objs.size=some (qAZ w):=B9 _ rfl;have hT:Shared.TypeIs { s with heap:=s.heap.push (qAZ w) } (.ref s.heap.objs.size) "set":=⟨_,hS,rfl⟩;have hli:=Q3.init.lookup;have hbi:=Q3.init.bind (.ref s.heap.objs.size)
   repeat (any_goals (first | assumption | wp_step))
   refine codeAny_mono (codeAny_call_builtin (R:=wants (fun r s₂=>r=.none/\∃ h' tk,s₂={ s with heap:=h',toks:=tk }/\SetG w s.heap.objs.size (dedI ns) h'/\
     (∀ b o,s.heap.get? b=some o->h'.get? b=some o)) E) Q3.init.plain B40 (check_set_init_1 hT ?_)) fun r₂ s₂ hr₂=>?_
   ·obtain ⟨ol,hol,hcl,nl,hdl⟩:=hl;obtain ⟨ocls,odict,odata,oslots⟩:=ol;simp only at hcl hdl;subst hcl;subst hdl;have hol':(s.heap.push (qAZ w)).get? l=some { cls:=.type "list",dict:=odict,data:=.seq items nl,slots:=oslots }:=A8 _ hol;have hsls:=F.sub_list_set;have hslf:=A78;have hne:(V9 "list" == V9 "dict")=false:=by decide
    have hl1:(s.heap.push (qAZ w)).IsList l items:=⟨_,hol',rfl,nl,rfl⟩;unfold Builtin.«set.__init__» noKeywords x8;generalize hPI:pyIter=PI
    wp_walk
    subst hPI;refine wpAny_pyIter_list hl1 ?_;refine wpAny_bind (wpAny_runValue ?_);have hlS:l<s.heap.objs.size:=B8 hol;have hh3:A.in1.in1.in1.handled=none:=by simp [hh]
    have hneI:l ≠ (s.heap.push (qAZ w)).objs.size:=by
     rw [O2];exact E2 (P8 hlS)
    have hSf:s.heap.objs.size ∉ [(s.heap.push (qAZ w)).objs.size,l]:=by
     rw [O2];simp only [C9,B2,W8,or_false,not_or];exact ⟨E2 (A42 _),f9 hlS⟩
    have hval:∀ (i:Nat) (v:Value),items[i]?=some v->∃ t,v=.int (ns.getD i 0) t:=fun i v hv=>
     i3 hi i v (by rw [M9];exact hv)
    refine qMI ((A75 hh3 _ l hneI items).toS) s.heap.objs.size hSf ns hlen h4 hval (items.size - 0) 0 _ (by omega) (F5 _)
     ⟨⟨_,B9 _ rfl,rfl,rfl⟩,(hl1.push _)⟩ ?hS0 ?hR
    case hS0=>exact SetG.fresh (A8 _ hS)
    case hR=>
     intro s' hm hS';obtain ⟨h',g',d',tk',os'⟩:=s';have eg:g'=s.gens:=hm.gens;have ed:d'=s.drawn:=hm.drawn;have eo:os'=s.os:=hm.os;subst eg;subst ed;subst eo;show wpAny _ _ _ _ _ _;refine wpAny_pure ?_;show wpAny _ _ (ret V7) _ _ _;refine wpAny_pure ⟨rfl,h',tk',rfl,hS',fun b o e=>?_⟩;have hb:=B8 e;have hb1:b ≠ s.heap.objs.size:=E2 hb;have hb2:b ≠ (s.heap.push (qAZ w)).objs.size:=by
      rw [O2];exact E2 (P8 hb)
     exact hm.heap b o (by simp only [C9,B2,W8,or_false,not_or];exact ⟨hb1,hb2⟩) (A8 _ (A8 _ e))
   ·cases r₂ with
    | error e=>exact hr₂
    | ok fl₂=>
     cases fl₂ with
     | ret r=>
      obtain ⟨rfl,h',tk,rfl,hS',hk'⟩:=hr₂
      repeat (any_goals (first | assumption | wp_step))
      exact h _ _ hS' hk'
     | next=>exact hr₂
     | brk=>exact hr₂
     | cont=>exact hr₂
  | next=>exact hr
  | brk=>exact hr
  | cont=>exact hr
end
theorem TabG.below_at {b:Bool} {t:SetTable} {n:Nat} (T:TabG b t n) (i:Nat) (hi:i<=n):C6 t.place (if i=0 then 0 else t.place.getD (i - 1) 0+1)=i:=by
 obtain ⟨b1,b2,b3⟩:=qDK (j:=if i=0 then 0 else t.place.getD (i - 1) 0+1) T.up
 have hs:=T.size;have gd:∀ a c d,a<t.place.size->t.place.getD a c=t.place.getD a d:=fun a c d ha=>by
  rw [D6,D6,D8 ha]
  rfl
 by_cases h0:i=0
 ·rw [if_pos h0] at b1 b2 b3 ⊢;subst h0;apply A57;intro z;have:=b2 0 z;omega
 ·rw [if_neg h0] at b1 b2 b3 ⊢;have h1:¬ C6 t.place (t.place.getD (i - 1) 0+1)<i:=fun z=>by
   have:=b3 (i - 1) (by omega) (by omega)
   rw [gd (i - 1) (t.place.getD (i - 1) 0+1) 0 (by omega)] at this
   omega
  have h2:¬ i<C6 t.place (t.place.getD (i - 1) 0+1):=fun z=>by
   have q:=b2 i z;have:=qS4 0 T.up (i - 1) i (by omega) (by omega)
   rw [gd i (t.place.getD (i - 1) 0+1) 0 (by omega)] at q
   omega
  omega
section
variable {prog:Program} {w:World} {A:Around} {E:Value->Shared->Prop} {s:Shared} {a I:Addr} {es:Array (Int × Value)} {ep:Nat} {t:SetTable} {i:Nat}
theorem qML {Q:Option (Value × Nat)->Shared->Prop} (T:TabG (byT w) t es.size) (h8:es.size<=t.mask) (ho:s.heap.get? a=some { cls:=.type "set",data:=.set es ep t }) (hi:i<=es.size)
  (h:Q (match (qCC w a ep es)[i]? with | some e=>some (e.2,qC5 w t (i+1)) | none=>none) s):wpAny (model prog w) A (setNext a (qC5 w t i) i ep) Q E s:=by
 have hf:=T.fits h8;unfold setNext;refine wpAny_bind (wpAny_setState_of ho rfl hf ?_);dsimp only;unfold setsByText;refine wpAny_bind (wpAny_bind (wpAny_askSetting (wpAny_pure ?_)));show wpAny _ _ (if byT w=true then _ else _) _ _ _
 cases hb:byT w with
 | true=>
  rw [if_pos rfl];simp only [bne_self_eq_false,J3,if_false];refine wpAny_bind ?_;unfold setWalk;refine wpAny_bind (wpAny_setState_of ho rfl hf ?_);dsimp only;unfold setsByText;refine wpAny_bind (wpAny_bind (wpAny_askSetting (wpAny_pure ?_)));show wpAny _ _ (if byT w=true then _ else _) _ _ _
  rw [hb,if_pos rfl];refine wpAny_bind (wpAny_askSetting (wpAny_pure (wpAny_pure ?_)));have e:qCC w a ep es=(pickOrder (w.params.setOrder a ep) es).toList:=by unfold qCC;rw [if_pos hb]
  have e2:∀ j,qC5 w t j=0:=fun j=>by unfold qC5;rw [if_pos hb]
  rw [e,M9,e2] at h;rw [e2];show Q (Option.map _ (pickOrder (w.params.setOrder a ep) es)[i]?) s;cases hx:(pickOrder (w.params.setOrder a ep) es)[i]? with
  | none=>rw [hx] at h;exact h
  | some v=>rw [hx] at h;exact h
 | false=>
  rw [if_neg (by simp)]
  show wpAny _ _ (if (!t.plain && decide (es.size > 1))=true then _ else _) _ _ _
  rw [T.plain];simp only [m9,P3,J3,if_false];refine wpAny_bind ?_;show wpAny _ _ (if (!t.led && !es.isEmpty)=true then _ else _) _ _ _
  rw [T.led,hb];simp only [A86,m9,P3,J3,if_false];refine wpAny_pure (wpAny_pure ?_);have e:qCC w a ep es=es.toList:=by unfold qCC;rw [if_neg (by rw [hb];simp)]
  have e2:∀ j,qC5 w t j=if j=0 then 0 else t.place.getD (j - 1) 0+1:=fun j=>by unfold qC5;rw [if_neg (by rw [hb];simp)]
  rw [e,M9] at h;rw [e2,T.below_at i hi];cases hx:es[i]? with
  | none=>rw [hx] at h;exact h
  | some v=>
   rw [hx] at h;have hlt:i<t.place.size:=by rw [T.size];exact (A09.mp hx).1
   rw [D8 hlt];dsimp only at h ⊢;have e3:qC5 w t (i+1)=t.place[i]+1:=by
    rw [e2,if_neg (by omega),A14,D6,D8 hlt]
    rfl
   rw [e3] at h;exact h
theorem qXU {Q:Option Value->Shared->Prop} (T:TabG (byT w) t es.size) (h8:es.size<=t.mask) (hit:SetIt w a I es ep t i s.heap) (hne:a ≠ I) {e:Int × Value} (hx:(qCC w a ep es)[i]?=some e)
  (hQ:∀ h',SetIt w a I es ep t (i+1) h'->(∀ b o,b ≠ I->s.heap.get? b=some o->h'.get? b=some o)->Q (some e.2) { s with heap:=h' }):wpAny (model prog w) A (pyNext (.ref I)) Q E s:=by
 obtain ⟨⟨o,ho,hc,hd⟩,hs⟩:=id hit;have hi:i<es.size:=by
  have:=(A6.mp hx).1;rw [(qC4 w a ep es).length_eq,C0] at this;exact this
 unfold pyNext;refine wpAny_bind (wpAny_attempt (wpAny_callSpecial?_slot (name:=J9 "__next__") hit.typeIs slot_si_next (wpAny_call_entry slot_si_next hit.typeIs qDG ?_ (qE8 _))));unfold Builtin.«set_iterator.__next__»;refine wpAny_bind (wpAny_pure ?_);refine wpAny_bind (wpAny_fieldsOf ho hd ?_);dsimp only;unfold setEntries;refine wpAny_bind (wpAny_bind (wpAny_setState_of hs rfl (T.fits h8) (wpAny_pure ?_)));rw [if_neg (by simp)]
 simp only [O6];refine wpAny_bind (qML T h8 hs (Y8 hi) ?_);rw [hx];dsimp only;show wpAny _ _ (setField (.ref I) 0 (rawInt _) >>= _) _ _ s;refine wpAny_bind (wpAny_setField ho hd (by simp) ?_)
 have g1:=O4 (A36 (·.setIfInBounds 0 (rawInt ((qC5 w t (i+1):Nat):Int)))) ho (X4 (Q1 hd _));have d1:=Q1 hd (·.setIfInBounds 0 (rawInt ((qC5 w t (i+1):Nat):Int)));refine wpAny_bind (wpAny_setField g1 d1 (by simp) ?_)
 have g2:=O4 (A36 (·.setIfInBounds 1 (rawInt ((i:Int)+1)))) g1 (X4 (Q1 d1 _));have d2:=Q1 d1 (·.setIfInBounds 1 (rawInt ((i:Int)+1)));refine wpAny_pure ⟨_,rfl,wpAny_pure (hQ _ ⟨⟨_,g2,(j7 ..).trans ((j7 ..).trans hc),?_⟩,?_⟩ fun b o' hb e=>?_)⟩
 ·rw [d2];simp [rawInt]
 ·exact (F9 _ _ (O1 hne)).trans ((F9 _ _ (O1 hne)).trans hs)
 ·exact (F9 _ _ (O1 hb)).trans ((F9 _ _ (O1 hb)).trans e)
theorem qZO {Q:Option Value->Shared->Prop} (hh:A.handled=none) (T:TabG (byT w) t es.size) (h8:es.size<=t.mask) (hit:SetIt w a I es ep t es.size s.heap)
  (hQ:∀ h',(∀ b o,b ≠ I->s.heap.get? b=some o->h'.get? b=some o)->Q none { s with heap:=h' }):wpAny (model prog w) A (pyNext (.ref I)) Q E s:=by
 obtain ⟨⟨o,ho,hc,hd⟩,hs⟩:=id hit;unfold pyNext;refine wpAny_bind (wpAny_attempt (wpAny_callSpecial?_slot (name:=J9 "__next__") hit.typeIs slot_si_next (wpAny_call_entry slot_si_next hit.typeIs qDG ?_ (qE8 _))));unfold Builtin.«set_iterator.__next__»;refine wpAny_bind (wpAny_pure ?_);refine wpAny_bind (wpAny_fieldsOf ho hd ?_);dsimp only;unfold setEntries;refine wpAny_bind (wpAny_bind (wpAny_setState_of hs rfl (T.fits h8) (wpAny_pure ?_)));rw [if_neg (by simp)]
 simp only [O6];have hx:(qCC w a ep es)[es.size]?=none:=G0 (by rw [(qC4 w a ep es).length_eq,C0];exact B3 _)
 refine wpAny_bind (qML T h8 hs (B3 _) ?_);rw [hx];dsimp only;show wpAny _ _ (setField (.ref I) 2 .none >>= _) _ _ s;refine wpAny_bind (wpAny_setField ho hd (by simp) ?_)
 show wpAny _ _ (newExc (.type "StopIteration") [] >>= _) _ _ _;refine wpAny_bind ?_;simp only [newExc,newTuple];refine wpAny_bind (wpAny_newObj_type ?_ (by size_fits))
 refine wpAny_bind (m:=firstArgMember _ _) (wpAny_of_eq (a:=V7) (by first | rfl | (simp only [firstArgMember];rfl)) ?_)
 refine wpAny_newObj_type ?_ (by size_fits)
 simp only [raiseNew];refine wpAny_bind (wpAny_handled ?_);rw [show A.in1.handled=none from hh];refine wpAny_bind (wpAny_pure (wpAny_throw ?_));refine wpAny_bind (wpAny_isInstance (T:="StopIteration") (b:=true) ⟨_,B9 _ rfl,rfl⟩ isSubtype_stop ?_);exact wpAny_pure (hQ _ (((Q9 ..).extBut.push _).push _))
theorem qZN {Q:Value->Shared->Prop} (T:TabG (byT w) t es.size) (h8:es.size<=t.mask) (hs:s.heap.get? a=some { cls:=.type "set",data:=.set es ep t })
  (hQ:Q (.ref s.heap.objs.size) { s with heap:=s.heap.push { cls:=.type "set_iterator",data:=.fields #[.int 0 0,.int 0 0,.ref a,.int es.size 0,.int ep 0] } }):wpAny (model prog w) A (pyIter (.ref a)) Q E s:=by
 have hT:s.TypeIs (.ref a) "set":=⟨_,hs,rfl⟩;have hf:=T.fits h8;refine wpAny_pyIter_slot hT y3 (wpAny_call_entry y3 hT qGH ?_ (B23 _));unfold Builtin.«frozenset.__iter__» A37 A26 setEntries;refine wpAny_bind (wpAny_bind (wpAny_pure ?_));show wpAny _ _ (pure a) _ _ s;refine wpAny_pure ?_;refine wpAny_bind (wpAny_bind (wpAny_bind (wpAny_setState_of hs rfl hf (wpAny_pure (wpAny_pure ?_)))));unfold setDrawn setsByText;refine wpAny_bind (wpAny_bind (wpAny_setState_of hs rfl hf ?_));dsimp only;refine wpAny_bind (wpAny_bind (wpAny_askSetting (wpAny_pure (wpAny_pure ?_))));show wpAny _ _ (if (!byT w && (!t.plain && decide (es.size > 1)))=true then _ else _) _ _ _
 rw [T.plain];simp only [m9,P3,P7,J3,if_false];refine wpAny_bind (wpAny_pure ?_);unfold setEpoch;refine wpAny_bind (wpAny_bind (wpAny_setState_of hs rfl hf (wpAny_pure ?_)));refine wpAny_bind (wpAny_newObj_type (wpAny_pure ⟨_,rfl,"set_iterator",_,⟨_,B9 _ rfl,rfl⟩,slot_si_next.lookup,?_⟩));simpa [rawInt] using hQ
theorem qZM (T:TabG (byT w) t es.size) (h8:es.size<=t.mask):PySem.W.KdlSrc prog w "set" a a es.size (fun i v=>∃ e,(qCC w a ep es)[i]?=some e/\v=e.2) (fun h=>h.get? a=some { cls:=.type "set",data:=.set es ep t }) where
 type:=fun s h=>⟨_,h,rfl⟩
 there:=fun h x=>⟨B8 x,B8 x⟩
 keep:=fun h h' x k=>k a (.inl rfl) _ x
 notList:=by decide
 notTuple:=by decide
 hint:=fun A E s Q x q=>qSN ⟨_,x,rfl⟩ q
 iter:=fun A s hh x=>by
  have hne:a ≠ s.heap.objs.size:=E2 (B8 x);refine ⟨_,fun i h=>SetIt w a s.heap.objs.size es ep t i h,fun E Q q=>qZN T h8 x q,?_,⟨⟨_,B9 _ rfl,rfl,?_⟩,A8 _ x⟩⟩
  ·refine ⟨fun b hb=>?_,fun i h h' st k=>?_,fun i s' Q E hi st q=>?_,fun s' Q E st q=>?_,fun i s' Q E st q=>qSM st q⟩
   ·have e:b=s.heap.objs.size:=by simpa using hb
    simp [e]
   ·obtain ⟨⟨o,h1,h2,h3⟩,h4⟩:=st;exact ⟨⟨o,k _ (by simp) _ h1,h2,h3⟩,k _ (by simp) _ h4⟩
   ·have hl:i<(qCC w a ep es).length:=by rw [(qC4 w a ep es).length_eq,C0];exact hi
    refine qXU T h8 st hne (A5 hl) fun h' st' k=>?_;exact q _ h' s'.toks ⟨_,A5 hl,rfl⟩ st' fun b o hb e=>k b o (fun z=>hb (by simp [z])) e
   ·refine qZO hh T h8 st fun h' k=>?_;exact q h' s'.toks fun b o hb e=>k b o (fun z=>hb (by simp [z])) e
  ·unfold qC5
   split <;> rfl
end
section
variable {X:Cx}
def SetM (w:World) (a:Addr) (zs:List Int):HO:=.ext (SetG w a zs)
theorem qNM (hc:X.calm=true):qCN X (.type "set") (fun xs H Q=>∃ p ns,xs=[.ref p]/\SqL X.K H p (ns.map V.int)/\ns.length<=4000/\∀ a,H a=none->Q (.ref a) (Ag H a (SetM X.w a (dedI ns)))):=by
 intro Ab s σ H xs us Q I r h;obtain ⟨p,ns,rfl,hq,h4,q⟩:=h;obtain ⟨u,rfl,rx⟩:=qEP r;cases rx;obtain ⟨its,rv,pl,hz⟩:=I.list hq;have hlen:=rv.length;rw [A0] at hlen;refine qRQ (ns:=ns) (I.ok.hd hc) pl.isList (by simpa using qBS rv) (by simp;omega) fun h' tk hS hk=>?_
 refine ⟨.ref s.heap.objs.size,_,I.laid (t':=tk) hk (B3 _) ?_,rfl,q _ (I.hok.fresh (B3 _))⟩;obtain ⟨es,ep,t,ks,e,_⟩:=id hS;exact ⟨hS,⟨_,e⟩,fun h1 h2 x k=>x.at k⟩
theorem qU5 {ks:List Int} {l:List (Int × Value)} (h:Ents ks l):∀ vs:List Value,vs.length=l.length->(∀ (i:Nat) (v:Value),vs[i]?=some v->∃ e:Int × Value,l[i]?=some e/\v=e.2)->IntsAre vs ks:=by
 induction h with
 | nil=>
  intro vs hl _;have:vs=[]:=M8.mp hl;subst this;exact .nil
 | cons r t ih=>
  intro vs hl hv;cases vs with
  | nil=>simp at hl
  | cons v vs=>
   obtain ⟨tk,rfl⟩:=r;obtain ⟨e,he,rfl⟩:=hv 0 v rfl;simp at he;subst he;exact IntsAre.cons _ _ (ih vs (by simpa using hl) fun i v hi=>by simpa using hv (i+1) v (by simpa using hi))
end
section
variable {prog:Program} {w:World} {A:Around} {E:Value->Shared->Prop} {s:Shared}
end
section
variable {X:Cx}
end
structure Ex (B:Heap) (l:List Env) (e:Addr) (cls:Value) (dd:Option Addr) (nt:Bool) (h:Heap):Prop where
 stays:B.StaysIn h
 new:B.get? e=none
 frames:h.FunFrames B l
 rec_:∃ (oe:Obj) (vs:Array Value) (x1:Value),h.get? e=some oe/\oe.cls=cls/\oe.dict=dd/\oe.data=.fields vs/\vs[1]?=some x1/\
  ((x1=.none/\nt=false)\/∃ (T:Addr) (oT:Obj) (ts:Array Value) (x3:Value),x1=.ref T/\B.get? T=none/\T ≠ e/\h.get? T=some oT/\oT.data=.fields ts/\ts[3]?=some x3)
section
variable {M:Model} {A:Around} {E:Value->Shared->Prop} {s:Shared} {B:Heap} {env:Env} {outer l:List Env} {L e:Addr} {cls:Value} {dd:Option Addr} {nt:Bool} {Q:Unit->Shared->Prop}
end
def Kp (outer:List Env) (H':Hp) (h0:Heap) (b:Addr):Prop:=(∃ o,H' b=some o)\/((∃ o,h0.get? b=some o)/\b ∉ frs outer)
structure XD (P:Program) (w:World) (outer l:List Env) (H:Hp) (h0:Heap) (e:Addr) (cls:Value) (dd:Option Addr) (H':Hp) (B:Heap) (nt:Bool) (h:Heap):Prop where
 un:Un (frs outer) [] H H' h0 h
 hok:HOk P w H' h
 ex:Ex B l e cls dd nt h
 kp:∀ b o,h.get? b=some o->Kp outer H' h0 b->B.get? b=some o
 ne:H' e=none
 ge:h0.objs.size<=e
def XP (X:Cx) (G:XK) (ev:Value) (s':Shared):Prop:=X.A.frames=some X.stack/\∃ (e:Addr) (cls:Value) (dd:Option Addr) (H':Hp) (B:Heap) (nt:Bool),ev=.ref e/\s'.os=X.s₀.os/\AllBare s'.gens/\XD X.prog X.w X.outer X.stack X.H₀ X.s₀.heap e cls dd H' B nt s'.heap/\G cls dd H'
section
variable {X:Cx} {E:XK} {G:XK} {Ab:List (Addr × Obj)} {σ:St} {H:Hp} {s s':Shared}
end
section
variable {P:Program} {w:World} {K:PySem.W.Frag} {mg:Str->Option Value} {base:Heap}
end
section
variable {X:Cx} {Ab:List (Addr × Obj)} {σ:St} {H:Hp} {s:Shared} {ev:Value}
end
section
variable {X:Cx}
end
def bmV:List Value:=[.type "ValueError",.type "Exception",.type "BaseException",.type "object"]
def xcIn (K:PySem.W.Frag) (C:Addr) (init:Option Value):Bool:=match K.lookup C with
 | some ⟨.type "type",_,.cls cd,sl⟩=>(match cd.mro,sl.toList with
  | .ref C'::bm,[_,_,_,_,some (.builtin n),_]=>C' == C && n == "ValueError.__new__" && !cd.hasDel && cd.hasDict && PySem.W.tailIn K bmV bm && PySem.W.nsOkIn K cd.ns && D3 K cd.ns "__init__" == some init
  | _,_=>false)
 | _=>false
structure XCls (K:PySem.W.Frag) (C:Addr) (init:Option Value):Prop where
 cls:xcIn K C init=true
 set:T8 K (.ref C) "__setattr__" = some (some (.builtin "object.__setattr__"))
 kp:X7 K (.ref C)=true
section
variable {prog:Program} {w:World} {A:Around} {E:Value->Shared->Prop} {h:Heap} {g:Array GenState} {d:Drawn} {t:Nat} {os:OsState} {K:PySem.W.Frag} {C x:Addr} {init:Option Value} {mA:Str->Option Value} {name:Str} {v:Value} {ns:List Str}
end
section
variable {prog:Program} {w:World} {A:Around} {R:Result->Shared->Prop} {h:Heap} {g:Array GenState} {d:Drawn} {t:Nat} {os:OsState} {K:PySem.W.Frag} {C fI:Addr} {rest:List Value}
end
section
variable {M:Model} {A:Around} {E:Value->Shared->Prop} {env:Env} {K:PySem.W.Frag} {C:Addr} {init:Option Value}
end
section
variable {X:Cx} {Ab:List (Addr × Obj)} {σ:St} {H:Hp} {s:Shared}
end
section
variable {X:Cx}
end
structure XGet (K:PySem.W.Frag) (C:Addr):Prop where
 ga:T8 K (.ref C) "__getattribute__" = some (some (.builtin "BaseException.__getattribute__"))
 gt:T8 K (.ref C) "__getattr__" = some none
 be:B02 K C (.type "BaseException")=some true
 hd:B13 K C=true
section
variable {prog:Program} {w:World} {A:Around} {E:Value->Shared->Prop} {s:Shared} {K:PySem.W.Frag} {x C:Addr} {ox:Obj} {od:Option Obj} {name:Str} {tk:Tok}
end
structure XTy (K:PySem.W.Frag) (C:Addr):Prop extends XGet K C where
 ca:T8 K (.ref C) "__class__" = some (some (.builtin "object.__class__"))
 cn:A21 K (.builtin "object.__class__") "__get__" = some (some (.builtin "getset_descriptor.__get__"))
 ct:B49 K (.builtin "object.__class__")=some true
 cm:B02 K C (.type "object")=some true
section
variable {K:PySem.W.Frag}
end
section
variable {X:Cx}
end
structure RoomH (k:Nat) (A:Around):Prop where
 dp:A.depth+3 * k+5<recursionLimit
 un:A.units+16 * k+200<cLine
structure FnOkH (P:Program) (w:World) (K:PySem.W.Frag) (mg:Str->Option Value) (base:Heap) (CX:CXT) (k:Nat) (f:Addr) (fd:FuncData) (ps:List Str) (sp:Sp):Prop where
 len:∀ vs H Q E,sp vs H Q E->vs.length=ps.length
 run:∀ (A:Around) (outer:List Env) (s:Shared) (H:Hp) (args:Args) (us:List Value) (vs:List V) (Q:VK) (E:XK),RoomH k A->Env0 P w K mg base A outer s H->BindsTo s fd args (ps.zip us)->Vals vs us->sp vs H Q E->
  codeAny (model P w) A (.call (.ref f) args) (CR CX outer P w H s Q E) s
section
variable {P:Program} {w:World} {K:PySem.W.Frag} {mg:Str->Option Value} {base:Heap}
end
section
variable {X:Cx} {CX:CXT} {k:Nat} {f C:Addr} {fd:FuncData} {ps:List Str} {sp:Sp} {dvs:List V} {ds:List Value} {E:XK} {x m:Str} {p pos apos:Pos} {e o:Expr} {es:List Expr} {ta:TE} {t:TA}
end
section
variable {X:Cx}
end
section
variable {prog:Program} {w:World} {A:Around} {E:Value->Shared->Prop} {s:Shared}
end
section
variable {X:Cx}
theorem qWG (hc:X.calm=true):qCN X (.builtin "sum") (fun xs H Q=>∃ (p:Addr) (ns:List Int),xs=[.ref p]/\SqL X.K H p (ns.map V.int)/\Q (.int ns.sum) H):=by
 intro Ab s σ H xs us Q I r h;obtain ⟨p,ns,rfl,hq,q⟩:=h;obtain ⟨u,rfl,rx⟩:=qEP r;cases rx;obtain ⟨its,rv,pl,hz⟩:=I.list hq;have hi:=qBS rv;obtain ⟨xs,hx⟩:=hi.allInts.items;have hl':s.heap.IsList p (intItems xs):=hx ▸ pl.isList;refine sum_intListG (I.ok.hd hc) hl' fun h' tk t' hk=>?_;have e1:ns=xs.toList.map (·.1):=by
  rw [<- nums_intItems,<- hx];exact (show numsOf its.toArray.toList=ns from hi.numsOf).symm
 have e2:preSum (numAt xs) xs.size=ns.sum:=by
  rw [preSum_eq,L7 (by simp),e1]
 rw [e2];exact ⟨.int ns.sum,H,I.kept fun b o e=>hk b o e,⟨_,rfl⟩,q⟩
end
structure LcScopeO (X:Cx) (scope:Scope) (own:List Str) (fv:List Nat):Prop where
 kind:scope.kind=.function
 names:∀ y ∈ scope.names,y.2=.local->scope.names.lookup y.1=some .local
 cells:∀ y ∈ scope.names,y.2=.cell->scope.names.lookup y.1=some .cell
 frees:∀ y ∈ scope.names,y.2=.free->scope.names.lookup y.1=some .free
 free:∀ y ∈ scope.names,y.2=.free->X.env.kindOf y.1=some .cell\/X.env.kindOf y.1=some .free
 nd:(own++fv.map fun i=>X.N.getD i g7).Nodup
 fvs:∀ i ∈ fv,i<X.N.length/\scope.names.lookup (X.N.getD i g7)=some .free
 owns:∀ x ∈ own,scope.names.lookup x=some .local\/scope.names.lookup x=some .cell
section
variable {X:Cx} {Ab:List (Addr × Obj)} {σ:St} {H:Hp} {s:Shared}
end
section
variable {X:Cx} {tg iter elt:Expr} {ifs:List Expr} {scope:Scope} {pos:Pos} {own:List Str} {fv:List Nat} {wi:TI} {g:TG} {tc:TT} {te:TE}
end
section
variable {prog:Program} {w:World} {A:Around} {R:Result->Shared->Prop} {I:Addr} {fp wr:List Addr} {n:Nat} {P:Nat->Value->Prop} {St:Nat->Heap->Prop}
end
section
variable {prog:Program} {w:World} {A:Around} {E:Value->Shared->Prop} {s:Shared}
end
section
variable {X:Cx}
end
theorem qaQ:bootBuiltins "any" = some (.builtin "any"):=by decide +kernel
theorem qaP:bootBuiltins "sum" = some (.builtin "sum"):=by decide +kernel
theorem qQZ (bs:List Bool):((N9 bs.length).any fun i=>(bs[i]?).getD false)=bs.any id:=by
 rw [Q2,W9,W9]
 constructor
 ·rintro ⟨i,hi,h⟩;have hi':=J4.mp hi;rw [A5 hi'] at h;exact ⟨_,m4 hi',h⟩
 ·rintro ⟨b,hb,h⟩;obtain ⟨i,hi,e⟩:=List.getElem_of_mem hb;exact ⟨i,J4.mpr hi,by rw [A5 hi,e];exact h⟩
section
variable {X:Cx}
theorem qWH (hc:X.calm=true):qCN X (.builtin "any") (fun xs H Q=>∃ (p:Addr) (bs:List Bool),xs=[.ref p]/\SqL X.K H p (bs.map V.bl)/\Q (.bl (bs.any id)) H):=by
 intro Ab s σ H xs us Q I r h;obtain ⟨p,bs,rfl,hq,q⟩:=h;obtain ⟨u,rfl,rx⟩:=qEP r;cases rx;obtain ⟨its,rv,pl,hz⟩:=I.list hq;have hl:=pl.isList;have hlt:p<s.heap.objs.size:=by obtain ⟨_,e,_⟩:=hl;exact B8 e
 have hlen:=rv.length;rw [A0] at hlen;refine call_any_walk (wpAny_pyIter_list hl ?_);refine ⟨s.heap.objs.size,[s.heap.objs.size,p],[s.heap.objs.size],its.toArray.size,_,_,fun i=>(bs[i]?).getD false,rfl,A75 (A:=X.A.in1) (I.ok.hd hc) _ p (E2 hlt) its.toArray,
  ⟨⟨_,B9 _ rfl,rfl,rfl⟩,hl.push _⟩,fun i v s' Q' E' hP hQ=>?_,fun h' tk hk=>?_⟩
 ·have hP':its[i]?=some v:=by simpa using hP
  have hi:i<bs.length:=by rw [hlen];exact (A6.mp hP').1
  obtain ⟨u,hu,ru⟩:=rv.get (i:=i) (x:=.bl bs[i]) (by rw [C4,A5 hi];rfl)
  rw [hP'] at hu;cases hu;cases ru;dsimp only at hQ;rw [A5 hi,w6] at hQ;exact wpAny_truthy_bool hQ
 ·have e:((N9 its.toArray.size).any fun i=>(bs[i]?).getD false)=bs.any id:=by
   rw [B7,<- hlen];exact qQZ bs
  refine ⟨.bl (bs.any id),H,I.kept fun b x e=>hk b x (fun hm=>by rw [B2.mp hm] at e;exact b7 _ (B8 e)) (A8 _ e),?_,q⟩
  rw [e]
  rfl
end
section
variable {prog:Program} {w:World} {A:Around} {E:Value->Shared->Prop} {s:Shared}
end
section
variable {X:Cx}
def qbS (H:Hp) (a:Addr) (xs:List V):Prop:=∃ o:Obj,H a=some (.frz o (.tup xs))/\o.cls=.type "tuple"/\o.dict=none
theorem qR4 (hu:X.A.units<cLine):OpR X (compareOp .NotEq) (fun x y H Q=>∃ p l xs,x=.ref p/\y=.ref l/\SqT X.K H p xs/\SqT X.K H l []/\Q (.bl (!xs.isEmpty)) H):=by
 intro Ab s σ H x y v u Q I rx ry h;obtain ⟨p,l,xs,rfl,rfl,h1,h2,q⟩:=h;cases rx;cases ry;obtain ⟨its,r1,p1,z1⟩:=I.tuple h1;obtain ⟨its2,r2,p2,z2⟩:=I.tuple h2;cases r2;cases r1 with
 | nil=>exact A19 (e:=fun _=>true) p1 p2 hu (fun j h _=>absurd h (by simp)) _ _ _ _ ⟨.bl false,H,I,rfl,q⟩
 | cons a r=>exact A19 (e:=fun _=>true) p1 p2 hu (fun j _ h=>absurd h (by simp)) _ _ _ _ ⟨.bl true,H,I,rfl,q⟩
def qXW:V->List V->Hp->VK->Prop:=fun x vs H Q=>∃ (l:Addr) (zs:List Int) (y:Int) (j:Nat),x=.ref l/\vs=[.int y]/\H l=some (.lst (zs.map V.int))/\zs[j]?=some y/\(∀ i,i<j->zs[i]? ≠ some y)/\Q .non (Ag H l (.lst ((zs.eraseIdx j).map V.int)))
theorem qT9:MtM X "list.remove" qXW:=by
 intro Ab s σ H x vs v us Q I rx rv h;obtain ⟨l,zs,y,j,rfl,rfl,hH,hj,hn,q⟩:=h;cases rx;obtain ⟨u,rfl,ru⟩:=rv.one;obtain ⟨t,rfl⟩:=ru;obtain ⟨z,its,n,r,hl,e⟩:=I.lstM hH;have hlen:=r.length;rw [A0] at hlen;have hj1:j<zs.length:=(A6.mp hj).1;have hjs:j<its.toArray.size:=by simp;omega
 have isz:∀ (m:Nat) (hm:m<its.toArray.size),∃ (k:Int) (tk:Tok),its.toArray[m]=.int k tk/\zs[m]?=some k:=by
  intro m hm;have hm':m<zs.length:=by simp at hm;omega
  obtain ⟨u,eu,tk,ru⟩:=r.get (i:=m) (x:=.int zs[m]) (by rw [C4,A5 hm'];rfl)
  refine ⟨zs[m],tk,?_,A5 hm'⟩;rw [k6,<- ru];exact (A6.mp eu).2
 let ev:Value->Bool:=fun v=>match v with | .int k _=>k == y | _=>false
 refine call_meets F.slot_list_remove ⟨_,e,rfl⟩ F.entry_list_remove (F.args_list_remove_2 _ _) (MeetsSeq.list_remove l its.toArray n (.int y t) ev (fun v hv=>?_) j hjs ?_ (fun m hm hlt=>?_) (by rw [B7,<- hl];exact z)) ⟨e,?_⟩
 ·obtain ⟨m,hm,em⟩:=Array.getElem_of_mem hv;obtain ⟨k,tk,e1,e2⟩:=isz m hm;rw [<- em,e1];exact B82 k y tk t
 ·obtain ⟨k,tk,e1,e2⟩:=isz j hjs;rw [e1];rw [hj] at e2;cases e2;exact beq_self_eq_true _
 ·obtain ⟨k,tk,e1,e2⟩:=isz m hm;rw [e1];have:k ≠ y:=fun z=>hn m hlt (by rw [e2,z])
  show (k == y)=false;simpa using this
 ·have er:((zs.map V.int).eraseIdx j)=(zs.eraseIdx j).map V.int:=by rw [t5,t5,B6,B75,B76]
  rw [<- er] at q;refine ⟨.non,_,I.lset (its':=its.eraseIdx j) hH e ?_ (r.eraseIdx j) ?_,rfl,q⟩
  ·show its.toArray.eraseIdxIfInBounds j=(its.eraseIdx j).toArray;rw [o8]
  ·have:=qN7 (zs.map V.int) j;omega
end
end L2
namespace HT
open PySem PySem.Spec PyProof.Rows
section
variable {prog:Program} {w:World} {A:Around} {E:Value->Shared->Prop} {s:Shared}
theorem getItem_tuple_whole {t sl:Addr} {items:Array Value} {vl vu:Value} {lo hi:Option Int} {Q:Value->Shared->Prop} (ht:IsTup s.heap t items) (hs:s.heap.IsSliceOf sl vl vu .none) (pl:IsPart vl lo) (pu:IsPart vu hi)
  (hw:sIx items.size 0 lo=0/\sIx items.size items.size hi=items.size) (h:Q (.ref t) s):wpAny (model prog w) A (getItem (.ref t) (.ref sl)) Q E s:=by
 obtain ⟨os,hos,hcs,hds⟩:=id hs;have hTs:s.TypeIs (.ref sl) "slice":=⟨os,hos,hcs⟩;unfold getItem
 try with_reducible refine wpAny_holding ?_
 first | refine wpAny_bind (wpAny_pure ?_) | skip
 refine wpAny_bind (wpAny_sequenceKey ht.typeIs (by decide) ?_)
 refine wpAny_bind (wpAny_callSpecial?_slot (name:=J9 "__getitem__") ht.typeIs O7
  (wpAny_call_entry O7 ht.typeIs entry_tuple_getitem ?_ (args_tuple_getitem _ _)))
 show wpAny _ _ (A07 (.ref t) >>= _) _ _ s;refine wpAny_bind (tupleItemsOf_ ht ?_);refine wpAny_bind (wpAny_typeOf hTs ?_);rw [if_pos (by decide)]
 refine wpAny_bind (qFI hs pl pu ?_);have hyes:(((sIx items.size 0 lo:Nat):Int) == 0 && (1:Int) == 1 && (sIx items.size items.size hi - sIx items.size 0 lo) == items.size)=true:=by
  rw [hw.1,hw.2];simp
 show wpAny _ _ (if (((sIx items.size 0 lo:Nat):Int) == 0 && (1:Int) == 1 && (sIx items.size items.size hi - sIx items.size 0 lo) == items.size)=true then _ else _) _ _ s
 rw [if_pos hyes];unfold Builtin.Tuple.tupleIsExact;refine wpAny_bind (wpAny_bind (wpAny_typeOf ht.typeIs (wpAny_pure ?_)));rw [if_pos (by decide)]
 exact wpAny_bind (wpAny_rule (wpAny_pure ⟨_,rfl,wpAny_pure h⟩))
end
end HT
namespace L2
open PySem PySem.Spec PyProof.Rows
section
variable {X:Cx}
def qbB (K:PySem.W.Frag):V->Option Int->Option Int->Hp->VK->Prop:=fun x lo hi H Q=>∃ a xs,x=.ref a/\SqT K H a xs/\∀ p H',(∀ b o,H b=some o->H' b=some o)->SqT K H' p (cutV xs lo hi)->Q (.ref p) H'
theorem qXS:SlR X (qbB X.K):=by
 intro Ab s σ H x v vl vu lo hi sl Q I rx hs pl pu h;obtain ⟨a,xs,rfl,hx,q⟩:=h;by_cases hw:HT.sIx xs.length 0 lo=0/\HT.sIx xs.length xs.length hi=xs.length
 ·cases rx;obtain ⟨its,r,ht,hz⟩:=I.tuple hx;have hlen:its.toArray.size=xs.length:=by rw [B7];exact r.length.symm
  refine ⟨"tuple",_,O7.lookup,ht.typeIs,?_⟩;refine HT.getItem_tuple_whole ht hs pl pu (by rw [hlen];exact hw) ⟨.ref a,H,I,rfl,q a H (fun _ _ e=>e) ?_⟩
  have:cutV xs lo hi=xs:=by
   unfold cutV;rw [hw.1,hw.2,A89,B34,F4]
  rw [this];exact hx
 ·exact qKM Ab s σ H (.ref a) v vl vu lo hi sl Q I rx hs pl pu ⟨a,xs,rfl,hx,hw,fun p hp=>q p _ (fun b u e=>by rw [qA9 (qA8 e hp)];exact e) (SqT.of qA1)⟩
end
section
variable {A:Around} {s:Shared}
end
section
variable {X:Cx}
end
section
variable {X:Cx} {e:Expr} {te:TE} {st:Option Expr} {tst:TO} {pos p2:Pos}
def tSlR (K:PySem.W.Frag) (te:TE) (tst:TO):TE:=fun σ H Q=>te σ H fun x H1=>tst σ H1 fun l H2=>l=some (-1)/\∃ a xs,x=.ref a/\SqL K H2 a xs/\∀ p,H2 p=none->Q (.ref p) (Ag H2 p (.lst xs.reverse))
theorem qSZ (he:PE X e te) (hst:PO X st tst) (hop:∀ v l:Value,∃ ops,subscripted (.Slice none none st p2) false v l=operate ops (getItem v l):=by intro v l;exact ⟨_,by with_unfolding_all rfl⟩):PE X (.Subscript e (.Slice none none st p2) pos) (tSlR X.K te tst):=by
 intro Ab s σ H Q I h;refine Subscript_ (thn (he Ab s σ H _ I h) fun v s1 ⟨x,H1,I1,r1,q1⟩=>?_);refine wpAny_Slice ?_;rw [evalPart_none];refine wpAny_pure (wpAny_pure (thn (hst Ab s1 σ H1 _ I1 q1) fun vk s3 ⟨u,H3,I3,pu,q3⟩=>?_));obtain ⟨rfl,a,xs,rfl,hx,q⟩:=q3;cases r1;have I4:Inv X Ab σ H3 { s3 with heap:=s3.heap.push { cls:=.type "slice",data:=.fields #[.none,.none,vk] } }:=I3.kept (t':=s3.toks) fun b ob q=>A8 _ q;obtain ⟨its,r,ht,hz⟩:=I4.list hx;have hlen:=r.length;have hsl:Heap.IsSliceOf (s3.heap.push { cls:=.type "slice",data:=.fields #[.none,.none,vk] }) s3.heap.objs.size .none .none vk:=B04 ..;obtain ⟨ops,hops⟩:=hop (.ref a) (.ref s3.heap.objs.size);refine tail_any (ops:=ops) ht.isList.typeIs slot_list_getitem.lookup ?_ hops;refine wpAny_getItem_list_slice ht.isList hsl .none .none pu (by simp) ?_ (by rw [B7] <;> omega)
 rw [PySem.W.krv_pick,show its.toArray.toList.reverse.toArray=its.reverse.toArray by simp]
 refine ⟨.ref _,_,I4.laid (t':=s3.toks) (o:=.lst xs.reverse) (fun b ob q=>A8 _ q) (B3 _) ?_,rfl,q _ (I4.hok.fresh (B3 _))⟩;exact ⟨by rw [c6];exact hz,_,0,r.reverse,B9 _ rfl⟩
end
section
variable {X:Cx}
end
section
variable {prog:Program} {w:World} {A:Around} {E:Value->Shared->Prop} {s:Shared}
end
section
variable {X:Cx}
theorem qJB:∀ (as:List Addr),Vals (as.map V.ref) (as.map E6)
 | []=>.nil
 | _::as=>.cons rfl (qJB as)
end
section
variable {prog:Program} {w:World} {A:Around} {R:Result->Shared->Prop} {h:Heap} {g:Array GenState} {d:Drawn} {t:Nat} {os:OsState} {K:PySem.W.Frag} {C fI:Addr} {rest:List Value}
end
section
variable {X:Cx}
def TB:Type:=(St->XK)->TS
end
section
variable {prog:Program} {w:World} {A:Around} {E:Value->Shared->Prop} {s:Shared}
end
section
variable {X:Cx} {pos:Pos}
end
section
variable {X:Cx} {tg:Expr}
end
section
variable {prog:Program} {w:World} {A:Around} {E:Value->Shared->Prop} {s:Shared} {it d:Addr} {i n ep:Nat} {od:Obj} {es:Array DictEntry}
end
section
variable {X:Cx} {tg:Expr}
end
section
variable {X:Cx} {k v:Expr} {tk tv:TE} {pos:Pos}
end
section
variable {X:Cx} {Ab:List (Addr × Obj)} {σ:St} {H:Hp} {s:Shared}
structure LmScope (X:Cx) (scope:Scope) (p:Str) (fv:List Nat):Prop where
 kind:scope.kind=.function
 co:scope.isCoroutine=false
 gen:scope.isGenerator=false
 nocell:∀ y ∈ scope.names,y.2 ≠ .cell
 par:scope.names.lookup p=some .local
 free:∀ y ∈ scope.names,y.2=.free->X.env.kindOf y.1=some .cell\/X.env.kindOf y.1=some .free
 fvs:∀ i ∈ fv,i<X.N.length/\scope.names.lookup (X.N.getD i g7)=some .free
structure LmZ where
 A:Around
 f:Addr
 cd:Value
 s₀:Shared
 H₀:Hp
 rm:Room 0 A
def qYE (fv:List Nat) (σ:St) (x:V):St:=some x::fv.map fun i=>(σ[i]?).join
end
abbrev Sm0 (H H':Hp):Prop:=∀ b o,H b=some o->H' b=some o
section
variable {X:Cx}
structure KCmp (X:Cx) (KR:Hp->V->List Int->Prop):Prop where
 mono:∀ H H' y k,Sm0 H H'->KR H y k->KR H' y k
 cmp:∀ (Ab:List (Addr × Obj)) (σ:St) (s:Shared) (H:Hp) (y y':V) (u u':Value) (k k':List Int) (Q:Value->Shared->Prop) (E:Value->Shared->Prop),Inv X Ab σ H s->RelV y u->RelV y' u'->KR H y k->KR H y' k'->Q (.bool (HT.lexLt k k')) s->
  wpAny (model X.prog X.w) X.A.in1 (richCompare .Lt u u') Q E s
structure KeyAt (X:Cx) (σ:St) (fv:List Nat) (te:TE) (KR:Hp->V->List Int->Prop) (H0:Hp) (xs:List V) (ks:List (List Int)):Prop where
 len:ks.length=xs.length
 key:∀ (i:Nat) (x:V) (k:List Int),xs[i]?=some x->ks[i]?=some k->∀ Hc,Sm0 H0 Hc->te (qYE fv σ x) Hc fun y H'=>Sm0 Hc H'/\KR H' y k
section
variable {Ab:List (Addr × Obj)} {σ:St} {params:Arguments} {body:Expr} {scope:Scope} {p:Str} {fv:List Nat} {q:Str} {te:TE} {KR:Hp->V->List Int->Prop} {l f cc:Addr} {ctv:Value} {H0:Hp} {xs:List V} {ks:List (List Int)} {Q:VK}
end
end
structure LTab where
 x:Str
 c:Addr
 P:Addr
 q:Str
section
variable {prog:Program} {w:World} {A:Around} {E:Value->Shared->Prop} {s:Shared}
end
section
variable {X:Cx}
end
section
open PySem.SeqAt
open PySem.AutoSeq1 (wpAny_loadPart')
open PySem.MeetsSeq PySem.MeetsSeq2 PySem.MeetsSeq3
end
section
variable {X:Cx}
end
end L2
namespace L2.G
open PySem PySem.Spec PyProof.Rows
section
variable [NM]
variable {prog:Program} {w:World} {A:Around} {E:Value->Shared->Prop} {s:Shared}
end
theorem lexLt_tri:∀ a b:List Int,HT.lexLt a b=false->HT.lexLt b a=false->a=b
 | [],[],_,_=>rfl
 | [],_::_,h,_=>by cases h
 | _::_,[],_,h=>by cases h
 | x::a,y::b,h1,h2=>by
  rw [HT.lexLt_cons] at h1 h2;by_cases e:x=y
  ·subst e;rw [if_pos rfl] at h1 h2;rw [lexLt_tri a b h1 h2]
  ·rw [if_neg e] at h1;rw [if_neg (fun z=>e z.symm)] at h2;have:=of_decide_eq_false h1;have:=of_decide_eq_false h2;omega
def qH7 (L:List (List Int)) (a:List Int):Int:=(((L.filter fun x=>HT.lexLt x a).length:Nat):Int)
def qRG (xs:List V):List Int:=xs.map fun | .int i=>i | _=>0
def keyH (H:Hp):Value->List Int
 | .ref r=>match H r with
  | some (.tup xs)=>qRG xs
  | _=>[]
 | _=>[]
@[reducible] def tupNM (H:Hp) (L:List (List Int)):NM:=⟨fun v=>qH7 L (keyH H v),fun v=>∃ r t,v=.ref r/\H r=some (.tup (t.map V.int))/\t ∈ L⟩
section
variable {prog:Program} {w:World} {A:Around} {E:Value->Shared->Prop} {s:Shared}
end
section
variable {X:Cx}
abbrev TupsAt (H:Hp) (rs:List Addr) (ts:List (List Int)):Prop:=Paired (fun (r:Addr) (t:List Int)=>H r=some (.tup (t.map V.int))) rs ts
def qHZ:Value->Addr
 | .ref a=>a
 | _=>0
theorem tups_mem {H:Hp}:∀ {rs:List Addr} {ts:List (List Int)},TupsAt H rs ts->∀ {r:Addr},r ∈ rs->∃ t,t ∈ ts/\H r=some (.tup (t.map V.int))
 | _,_,.nil,_,h=>nomatch h
 | _,_,.cons (b:=t) g T,r,h=>by
  rcases C9.mp h with e | e
  ·exact ⟨t,by simp,by rw [e];exact g⟩
  ·obtain ⟨t,h1,h2⟩:=tups_mem T e;exact ⟨t,B4 _ h1,h2⟩
end
end L2.G
namespace L2.GS
open PySem PySem.Spec PyProof.Rows
section
variable [NM]
variable {prog:Program} {w:World} {A:Around} {E:Value->Shared->Prop} {s:Shared}
theorem qI3 {vs:List Value}:∀ p ∈ (pairsOf vs).toList,p.1=p.2:=by
 intro p hp;unfold pairsOf at hp;rw [B42] at hp
 induction vs with
 | nil=>cases hp
 | cons v vs ih=>
  rcases C9.mp hp with h | h
  ·rw [h]
  ·exact ih h
theorem qMX (vs:List Value):(pairsOf vs).toList.map (·.2)=vs:=by
 unfold pairsOf;rw [B42,List.map_snd_zip (by simp)]
theorem qT3 {vs:List Value} {xs:Array Keyed} (px:xs.Perm (pairsOf vs)) (sx:gSortedTo xs (pairsOf vs).size):(xs.map (·.2)).toList.Perm vs/\(xs.map (·.2)).toList.Pairwise (fun u v=>NM.nm u<=NM.nm v):=by
 have p2:=j9.mp px
 constructor
 ·have:=p2.map (·.2);rw [qMX] at this;rw [B43];exact this
 ·rw [B43,R5,k8];intro i j hi hj hij;have hs:=px.size_eq;have hi2:i<xs.size:=by simpa using hi
  have hj2:j<xs.size:=by simpa using hj
  have a:=sx i j (Y8 hij) (by omega)
  rw [qaH hi2,qaH hj2] at a;have ei:=qI3 _ (p2.mem_iff.mp (show xs[i] ∈ xs.toList by simp))
  have ej:=qI3 _ (p2.mem_iff.mp (show xs[j] ∈ xs.toList by simp))
  rw [ei,ej] at a;simpa using a
theorem qPM {κ0:SortKind} {a:Addr} {vs:List Value} {n:Nat} {P:Fin->Shared->Prop} (e0:s.heap.get? a=some (seqObj "list" vs.toArray n)) (hs:vs.length<64) (hz:vs.length<=sizeLine) (gd:∀ v ∈ vs,NM.good v)
  (hk:∀ h':Heap,(∀ (b:Addr) (o:Obj),b ≠ a->s.heap.get? b=some o->h'.get? b=some o)->2<=vs.length->(∀ {Q:SortKind->Shared->Prop},Q κ0 { s with heap:=h' }->wpAny (model prog w) A (keyKind' vs.toArray) Q E { s with heap:=h' })/\LtOk prog w A { s with heap:=h' } κ0)
  (h:∀ (out:Array Value),out.toList.Perm vs->out.toList.Pairwise (fun u v=>NM.nm u<=NM.nm v)->P (.done (.ret .none)) { s with heap:=sortedHeap s.heap a vs out }):wpAny (model prog w) A (Builtin.«list.sort» ⟨[.ref a],[]⟩) P E s:=by
 have la:=B8 e0;have z0:vs.toArray.size<=sizeLine:=by simpa using hz
 rw [list_sort_plain];refine wpAny_bind (listItems_at e0 rfl (wpAny_bind (listUpdate_at e0 rfl ?_ z0 (F5 _))));have e1:∃ k,(s.heap.update a (W1 fun _=>#[])).get? a=some (seqObj "list" #[] k):=⟨_,get?_update_seq e0 fun _=>#[]⟩;obtain ⟨k,e1⟩:=e1;refine wpAny_bind (seqEpoch_at e1 rfl (wpAny_bind (wpAny_newTuple ?_ (by simpa using hz))))
 refine wpAny_bind (wpAny_newList (wpAny_holding ?_));have e2:(((s.heap.update a (W1 fun _=>#[])).push (seqObj "tuple" vs.toArray 0)).push (seqObj "list" #[] 0)).get? a=some (seqObj "list" #[] k):=by
  rw [t7,t7]
  ·exact e1
  ·rw [x4];exact E2 la
  ·rw [size_push',x4];exact E2 (P8 la)
 have kept:∀ (b:Addr) (o:Obj),b ≠ a->s.heap.get? b=some o->(((s.heap.update a (W1 fun _=>#[])).push (seqObj "tuple" vs.toArray 0)).push (seqObj "list" #[] 0)).get? b=some o:=fun b o hb q=>
  A8 _ (A8 _ ((Heap.get?_update_ne _ _ _ _ hb).trans q))
 have last:∀ xs:Array Keyed,xs.Perm (pairsOf vs)->gSortedTo xs (pairsOf vs).size->P (.done (.ret .none)) { s with heap:=sortedHeap s.heap a vs (xs.map (·.2)) }:=by
  intro xs px sx;obtain ⟨q1,q2⟩:=qT3 px sx;exact h _ q1 q2
 have sz:∀ xs:Array Keyed,xs.Perm (pairsOf vs)->(xs.map (·.2)).size<=sizeLine+1:=by
  intro xs px;rw [A18,px.size_eq,pairsOf_size];omega
 show wpAny _ A _ P E { s with heap:=((s.heap.update a (W1 fun _=>#[])).push (seqObj "tuple" vs.toArray 0)).push (seqObj "list" #[] 0) };dsimp only;by_cases few:vs.toArray.size<2
 ·simp only [if_pos few];refine wpAny_bind (wpAny_pure ?_);rw [B58];refine wpAny_bind (wpAny_pure (wpAny_bind (seqEpoch_at e2 rfl (wpAny_bind (listUpdate_at e2 rfl ?_ (F5 _) (sz (pairsOf vs) (.refl _)))))));simp only [bne_self_eq_false,J3,if_false];refine wpAny_pure (last (pairsOf vs) (.refl _) fun i j hij hj=>?_);rw [pairsOf_size] at hj;rw [B7] at few;rw [show i=j by omega]
  exact J7 _
 ·simp only [if_neg few];rw [B7] at few;obtain ⟨hk1,hk2⟩:=hk _ kept (by omega)
  have ik:qCB (pairsOf vs):=fun p hp=>by
   have m:=z8 (f:=(·.2)) hp;rw [qMX] at m;rw [qI3 p hp];exact gd _ m
  refine wpAny_bind (hk1 (wpAny_bind (wpAny_mono (gwpS_runs (κ0:=κ0) (a₀:=pairsOf vs) (Q:=fun _ st2=>gSG κ0 (pairsOf vs) st2/\gSortedTo (arrOf st2) (pairsOf vs).size) (by simpa [pairsOf] using hs) ik ⟨.refl _,rfl,rfl⟩ rfl fun st2 g u=>⟨g,u⟩) ?_ fun _ _ x=>x)))
  rintro ⟨_,st2⟩ s2 ⟨es,g,u⟩;cases (show s2=_ from es);refine wpAny_bind (seqEpoch_at e2 rfl (wpAny_bind (listUpdate_at e2 rfl ?_ (F5 _) (sz _ g.perm))));dsimp only;rw [g.failed];simp only [bne_self_eq_false,J3,if_false];exact wpAny_pure (last _ g.perm u)
end
theorem qKU:∀ a:List Int,HT.lexLt a a=false
 | []=>rfl
 | x::a=>by rw [HT.lexLt_cons,if_pos rfl];exact qKU a
theorem qJM:∀ a b c:List Int,HT.lexLt a b=true->HT.lexLt b c=true->HT.lexLt a c=true
 | [],[],_,h,_=>by cases h
 | [],_::_,[],_,h=>by cases h
 | [],_::_,_::_,_,_=>rfl
 | _::_,[],_,h,_=>by cases h
 | _::_,_::_,[],_,h=>by cases h
 | x::a,y::b,z::c,h1,h2=>by
  rw [HT.lexLt_cons] at h1 h2 ⊢;by_cases e1:x=y
  ·subst e1;rw [if_pos rfl] at h1;by_cases e2:x=z
   ·rw [if_pos e2] at h2 ⊢;exact qJM a b c h1 h2
   ·rw [if_neg e2] at h2 ⊢;exact h2
  ·rw [if_neg e1] at h1;have h1:=of_decide_eq_true h1;by_cases e2:y=z
   ·subst e2;rw [if_neg e1];exact decide_eq_true h1
   ·rw [if_neg e2] at h2;have h2:=of_decide_eq_true h2;rw [if_neg (by omega)]
    exact decide_eq_true (by omega)
theorem lexLt_tri:∀ a b:List Int,HT.lexLt a b=false->HT.lexLt b a=false->a=b
 | [],[],_,_=>rfl
 | [],_::_,h,_=>by cases h
 | _::_,[],_,h=>by cases h
 | x::a,y::b,h1,h2=>by
  rw [HT.lexLt_cons] at h1 h2;by_cases e:x=y
  ·subst e;rw [if_pos rfl] at h1 h2;rw [lexLt_tri a b h1 h2]
  ·rw [if_neg e] at h1;rw [if_neg (fun z=>e z.symm)] at h2;have:=of_decide_eq_false h1;have:=of_decide_eq_false h2;omega
def qH7 (L:List (List Int)) (a:List Int):Int:=(((L.filter fun x=>HT.lexLt x a).length:Nat):Int)
theorem qHG {α:Type} {p q:α->Bool}:∀ {L:List α},(∀ x ∈ L,p x=true->q x=true)->(∃ x ∈ L,p x=false/\q x=true)->(L.filter p).length<(L.filter q).length
 | [],_,⟨x,hx,_⟩=>nomatch hx
 | y::L,h,⟨x,hx,h1,h2⟩=>by
  have le:∀ {M:List α},(∀ x ∈ M,p x=true->q x=true)->(M.filter p).length<=(M.filter q).length:=by
   intro M hM
   induction M with
   | nil=>exact B3 _
   | cons z M ih=>
    have i:=ih fun x hx=>hM x (B4 _ hx);rw [X0,X0];cases ep:p z
    ·cases q z
     ·simpa using i
     ·simp;omega
    ·rw [hM z (by simp) ep]
     simpa using i
  rw [X0,X0];rcases C9.mp hx with e | e
  ·subst e;have:=le fun x hx=>h x (B4 _ hx);rw [h1,h2];simp;omega
  ·have i:=qHG (fun x hx=>h x (B4 _ hx)) ⟨x,e,h1,h2⟩;cases ep:p y
   ·cases q y
    ·simpa using i
    ·simp;omega
   ·rw [h y (by simp) ep]
    simpa using i
theorem qSQ {L:List (List Int)} {a b:List Int} (ha:a ∈ L) (h:HT.lexLt a b=true):qH7 L a<qH7 L b:=by
 unfold qH7;have:=qHG (p:=fun x=>HT.lexLt x a) (q:=fun x=>HT.lexLt x b) (L:=L) (fun x _ hx=>qJM _ _ _ hx h) ⟨a,ha,qKU a,h⟩;omega
theorem qPS {L:List (List Int)} {a b:List Int} (ha:a ∈ L) (hb:b ∈ L):decide (qH7 L a<qH7 L b)=HT.lexLt a b:=by
 cases h:HT.lexLt a b with
 | true=>exact decide_eq_true (qSQ ha h)
 | false=>
  refine decide_eq_false fun z=>?_;cases h2:HT.lexLt b a with
  | true=>have:=qSQ hb h2;omega
  | false=>rw [lexLt_tri a b h h2] at z;omega
def qRG (xs:List V):List Int:=xs.map fun | .int i=>i | _=>0
theorem qTS (t:List Int):qRG (t.map V.int)=t:=by
 unfold qRG;rw [X5];exact (O9 fun x _=>rfl).trans (B59 _)
def keyH (H:Hp):Value->List Int
 | .ref r=>match H r with
  | some (.tup xs)=>qRG xs
  | _=>[]
 | _=>[]
@[reducible] def tupNM (H:Hp) (L:List (List Int)):NM:=⟨fun v=>qH7 L (keyH H v),fun v=>∃ r t,v=.ref r/\H r=some (.tup (t.map V.int))/\t ∈ L⟩
theorem keyH_at {H:Hp} {r:Addr} {t:List Int} (h:H r=some (.tup (t.map V.int))):keyH H (.ref r)=t:=by
 show (match H r with | some (.tup xs)=>qRG xs | _=>[])=t
 rw [h];exact qTS t
section
variable {prog:Program} {w:World} {A:Around} {E:Value->Shared->Prop} {s:Shared}
theorem qT7 {x y:Addr} {xs ys:Array Value} {ns ms:List Int} {Q:Bool->Shared->Prop} (hu:A.units<cLine) (hx:IsTup s.heap x xs) (hy:IsTup s.heap y ys) (ix:IntsAre xs.toList ns) (iy:IntsAre ys.toList ms) (h:Q (HT.lexLt ns ms) s):wpAny (model prog w) A (oneLt' true (.ref x) (.ref y)) Q E s:=by
 rw [oneLt'_eq];simp only [if_true];obtain ⟨⟨cls,dd,data,sl⟩,ho,hc,n,hd⟩:=id hx;obtain ⟨⟨cls2,dd2,data2,sl2⟩,ho2,hc2,n2,hd2⟩:=id hy;simp only at hc hd hc2 hd2;subst hc hd hc2 hd2;refine wpAny_bind (wpAny_cRoomFor hu ?_);refine wpAny_bind (wpAny_callSpecialIfBound?_slot ⟨_,ho,rfl⟩ A71 (call_meets A71 ⟨_,ho,rfl⟩ PySem.F.entry_tuple_lt (PySem.F.args_tuple_lt_2 _ _) (HT.tuple_lt_ints x y xs ys n n2 dd dd2 sl sl2 ns ms ix iy) ⟨ho,ho2,?_⟩));exact wpAny_truthy_bool h
theorem qJP {b:Bool} {Q:Bool->Shared->Prop}:∀ {vs ws:List Value} {ns ms:List Int} {i:Nat} {fin:Bool},IntsAre vs ns->IntsAre ws ms->
  (fin=decide (vs.length<ws.length))->Q (HT.lexLt ns ms) s->PySem.W.KatLex prog w A b fin Q (vs.zip ws) i s
 | _,_,_,_,i,fin,.nil,.nil,ef,h=>by
  rw [ef];exact A72 h
 | _,_,_,_,i,fin,.nil,.cons _ _ _,ef,h=>by
  rw [ef];exact A72 h
 | _,_,_,_,i,fin,.cons _ _ _,.nil,ef,h=>by
  rw [ef];exact A72 h
 | _,_,_,_,i,fin,.cons (vs:=vs) (ns:=ns) x t hv,.cons (vs:=ws) (ns:=ms) y u hw,ef,h=>by
  rw [A12];refine PySem.W.kat_cons (wpAny_eqBool_int ?_);rw [HT.lexLt_cons] at h;by_cases e:x=y
  ·rw [if_pos e] at h;rw [beq_iff_eq.mpr e];refine PySem.W.kat_yes (qJP hv hw ?_ h);rw [ef];simp
  ·rw [if_neg e] at h;rw [beq_eq_false_iff_ne.mpr e];refine PySem.W.kat_no ?_;cases eb:(b && i == 0) with
   | true=>exact oneLt_int h
   | false=>exact PySem.W.kat_one _ _ (lt_int h)
theorem qRC {x y:Addr} {xs ys:Array Value} {ns ms:List Int} {b:Bool} {Q:Bool->Shared->Prop} (hx:IsTup s.heap x xs) (hy:IsTup s.heap y ys) (ix:IntsAre xs.toList ns) (iy:IntsAre ys.toList ms) (h:Q (HT.lexLt ns ms) s):wpAny (model prog w) A (keyLt' (tuples' b) (.ref x) (.ref y)) Q E s:=by
 obtain ⟨o,ho,hc,n,hd⟩:=id hx;obtain ⟨o2,ho2,hc2,n2,hd2⟩:=id hy;refine PySem.W.kat_lt ho hd ho2 hd2 (qJP ix iy ?_ h);simp
theorem qTL {rs:List Addr} {ts:List (List Int)} {Q:SortKind->Shared->Prop} (h:Paired (fun (r:Addr) (t:List Int)=>∃ xs:Array Value,IsTup s.heap r xs/\IntsAre xs.toList t) rs ts) (hne:∀ t ∈ ts,t ≠ []) (h2:2<=rs.length)
  (q:Q (tuples' true) s):wpAny (model prog w) A (keyKind' (rs.map E6).toArray) Q E s:=by
 have tu:∃ fs,PySem.W.KatTups s.heap (rs.map E6) fs/\fs.length=rs.length/\∀ v ∈ fs,∃ n t,v=.int n t:=by
  clear h2
  induction h with
  | nil=>exact ⟨[],trivial,rfl,fun _ z=>nomatch z⟩
  | @cons r t l1 l2 a _ ih=>
   obtain ⟨fs,k1,k2,k3⟩:=ih fun t ht=>hne t (B4 _ ht);obtain ⟨xs,⟨o,ho,hc,n,hd⟩,ia⟩:=a;have ht:t ≠ []:=hne t (by simp)
   obtain ⟨xs⟩:=xs;cases ia with
   | nil=>exact absurd rfl ht
   | cons x tk rest=>
    refine ⟨.int x tk::fs,.cons ho hc hd rfl k1,by simp [k2],fun v hv=>?_⟩
    rcases C9.mp hv with e | e
    ·exact ⟨x,tk,e⟩
    ·exact k3 v e
 obtain ⟨fs,k1,k2,k3⟩:=tu;refine PySem.W.kat_kind (T:=.type "int") k1 (by omega) (fun v hv=>?_) rfl ?_
 ·obtain ⟨n,t,rfl⟩:=k3 v hv;exact .now
 ·exact q
theorem qKW:∀ (rs:List Addr) {Q:List (Option Value)->Shared->Prop},(∀ r ∈ rs,∃ xs:Array Value,IsTup s.heap r xs)->(∀ L,Q L s)->wpAny (model prog w) A ((rs.map E6).mapM firstOfTuple') Q E s
 | [],_,_,h=>by rw [t8,List.mapM_nil];exact wpAny_pure (h _)
 | r::rs,Q,t,h=>by
  obtain ⟨xs,o,ho,hc,n,hd⟩:=t r (by simp)
  rw [E7,B64];refine wpAny_bind ?_;rw [A80];refine wpAny_bind (A15 (show PySem.W.Looks (model prog w) s.heap (typeOf (.ref r)) o.cls from (A47 ho).andThen .now) ?_);rw [hc,if_neg (by first | decide | simp)]
  refine wpAny_bind (listItems_at ho hd (wpAny_pure ?_));exact wpAny_bind (qKW rs (Q:=fun bs s'=>wpAny (model prog w) A (pure (xs[0]?::bs)) Q E s') (fun r hr=>t r (B4 _ hr)) fun L=>wpAny_pure (h _))
theorem qRB {r0:Addr} {rs:List Addr} {Q:SortKind->Shared->Prop} (h0:IsTup s.heap r0 #[]) (h:∀ r ∈ rs,∃ xs:Array Value,IsTup s.heap r xs)
  (q:Q oneType' s):wpAny (model prog w) A (keyKind' ((r0::rs).map E6).toArray) Q E s:=by
 rw [kat_kind_eq,B26,map_eq_pure_bind,E7,B64];obtain ⟨o,ho,hc,n,hd⟩:=id h0;refine wpAny_bind (wpAny_bind (wpAny_bind ?_));rw [A80];refine wpAny_bind (A15 (show PySem.W.Looks (model prog w) s.heap (typeOf (.ref r0)) o.cls from (A47 ho).andThen .now) ?_);rw [hc,if_neg (by first | decide | simp)]
 refine wpAny_bind (listItems_at ho hd (wpAny_pure ?_));refine wpAny_bind (qKW rs h fun L=>wpAny_pure (wpAny_pure ?_));have e1:((((#[]:Array Value)[0]?)::L).toArray.all fun x=>x.isSome)=false:=by simp
 have e2:((((((#[]:Array Value)[0]?)::L).toArray)[0]?).bind id).isSome=false:=by simp
 rw [if_neg (by rw [e1];exact C3),if_neg (by rw [e2];exact C3)]
 rw [oneTypeOnly'_eq,B26,map_eq_pure_bind];refine wpAny_bind (wpAny_bind (wpAny_bind (PySem.W.kas_mapM (r:=V9 "tuple") _ (fun v hv Q' hq=>?_) (wpAny_pure ?_))))
 ·rw [<- E7] at hv;obtain ⟨r,hr,rfl⟩:=E1.mp hv;have:∃ xs:Array Value,IsTup s.heap r xs:=by
   rcases C9.mp hr with e | e
   ·rw [e];exact ⟨_,h0⟩
   ·exact h r e
  obtain ⟨xs,o2,ho2,hc2,n2,hd2⟩:=this;refine A15 (show PySem.W.Looks (model prog w) s.heap (typeOf (.ref r)) o2.cls from (A47 ho2).andThen .now) ?_;rw [hc2];exact hq
 ·have h0':(B47 (fun _=>V9 "tuple") (E6 r0::B47 E6 rs)).toArray[0]?=some (V9 "tuple"):=by simp
  have hall2:((B47 (fun _=>V9 "tuple") (E6 r0::B47 E6 rs)).toArray.all fun x=>x == V9 "tuple")=true:=by
   simp only [List.all_toArray,u7,E5];intro _ _
   rfl
  rw [h0'];simp only [hall2,if_true];exact wpAny_pure (wpAny_pure q)
end
section
variable {X:Cx}
abbrev TupsAt (H:Hp) (rs:List Addr) (ts:List (List Int)):Prop:=Paired (fun (r:Addr) (t:List Int)=>H r=some (.tup (t.map V.int))) rs ts
theorem qEO:∀ {rs:List Addr} {its:List Value},Vals (rs.map V.ref) its->its=rs.map E6
 | [],_,.nil=>rfl
 | r::rs,_,.cons h t=>by
  rw [E7,<- qEO t];have:_=E6 r:=h;rw [this]
def qHZ:Value->Addr
 | .ref a=>a
 | _=>0
theorem qMT:∀ {vs:List Value},(∀ v ∈ vs,∃ a,v=.ref a)->(vs.map qHZ).map E6=vs
 | [],_=>rfl
 | v::vs,h=>by
  obtain ⟨a,rfl⟩:=h v (by simp)
  rw [E7,E7,qMT fun v hv=>h v (B4 _ hv)]
  rfl
theorem qPG {H:Hp}:∀ {rs:List Addr} {ts:List (List Int)},TupsAt H rs ts->ts=rs.map fun r=>keyH H (.ref r)
 | _,_,.nil=>rfl
 | _,_,.cons h t=>by rw [E7,keyH_at h,<- qPG t]
theorem qS8 {H:Hp}:∀ {rs:List Addr},(∀ r ∈ rs,∃ t:List Int,H r=some (.tup (t.map V.int)))->TupsAt H rs (rs.map fun r=>keyH H (.ref r))
 | [],_=>.nil
 | r::rs,h=>by
  obtain ⟨t,e⟩:=h r (by simp)
  exact .cons (by dsimp only;rw [keyH_at e];exact e) (qS8 fun r hr=>h r (B4 _ hr))
theorem tups_mem {H:Hp}:∀ {rs:List Addr} {ts:List (List Int)},TupsAt H rs ts->∀ {r:Addr},r ∈ rs->∃ t,t ∈ ts/\H r=some (.tup (t.map V.int))
 | _,_,.nil,_,h=>nomatch h
 | _,_,.cons (b:=t) g T,r,h=>by
  rcases C9.mp h with e | e
  ·exact ⟨t,by simp,by rw [e];exact g⟩
  ·obtain ⟨t,h1,h2⟩:=tups_mem T e;exact ⟨t,B4 _ h1,h2⟩
theorem qSK {Ab:List (Addr × Obj)} {s:Shared} {σ:St} {H:Hp} {Q:VK} {A:Around} {E:Value->Shared->Prop} {rs:List Addr} {ts:List (List Int)} {D:Addr} (I:Inv X Ab σ (Ag H D (.lst (rs.map V.ref))) s) (hD:H D=none) (T:TupsAt H rs ts)
  (hk:(∀ t ∈ ts,t ≠ [])\/∃ ts',ts=[]::ts') (hs:rs.length<64) (hu:A.units+8<cLine)
  (q:∀ rs' ts',rs'.Perm rs->TupsAt H rs' ts'->ts'.Perm ts->ts'.Pairwise (fun a b=>HT.lexLt b a=false)->Q (.ref D) (Ag H D (.lst (rs'.map V.ref)))) :
  wpAny (model X.prog X.w) A (call (.builtin "list.sort") [.ref D]) (fun _ s'=>EP X Ab σ Q (.ref D) s') E s:=by
 obtain ⟨z,its,n,rv,hl,e⟩:=I.lstM qA1;have ei:=qEO rv;subst ei;have hz:(rs.map E6).length<=sizeLine:=by simpa using z
 letI:NM:=tupNM H ts
 have gd:∀ v ∈ rs.map E6,NM.good v:=fun v hv=>by
  obtain ⟨r,hr,rfl⟩:=E1.mp hv;obtain ⟨t,ht,g⟩:=tups_mem T hr;exact ⟨r,t,rfl,g,ht⟩
 have tat:∀ (h':Heap),(∀ (b:Addr) (o:Obj),b ≠ D->s.heap.get? b=some o->h'.get? b=some o)->∀ (r:Addr) (t:List Int),H r=some (.tup (t.map V.int))->∃ xs:Array Value,IsTup h' r xs/\IntsAre xs.toList t:=by
  intro h' kept r t g;have nr:r ≠ D:=qA8 g hD;obtain ⟨its,r1,⟨o,ho,hc,n,hd⟩,_⟩:=I.tuple (SqT.of (show (Ag H D (.lst (rs.map V.ref))) r=some (.tup (t.map V.int)) by rw [qA9 nr];exact g))
  exact ⟨its.toArray,⟨o,kept r o nr ho,hc,n,hd⟩,qRH r1⟩
 have lt_ok:∀ (A':Around) (h':Heap) (κ:SortKind),(∀ (x y:Addr) (xs ys:Array Value) (ns ms:List Int) (Q:Bool->Shared->Prop) (E:Value->Shared->Prop),IsTup h' x xs->IsTup h' y ys->IntsAre xs.toList ns->IntsAre ys.toList ms->Q (HT.lexLt ns ms) { s with heap:=h' }->wpAny (model X.prog X.w) A' (keyLt' κ (.ref x) (.ref y)) Q E { s with heap:=h' })->
   (∀ (b:Addr) (o:Obj),b ≠ D->s.heap.get? b=some o->h'.get? b=some o)->LtOk X.prog X.w A' { s with heap:=h' } κ:=by
  intro A' h' κ rule kept;refine ⟨fun {x y Q E} hx hy h=>?_⟩;obtain ⟨r1,t1,rfl,g1,m1⟩:=hx;obtain ⟨r2,t2,rfl,g2,m2⟩:=hy;obtain ⟨xs,i1,j1⟩:=tat h' kept r1 t1 g1;obtain ⟨ys,i2,j2⟩:=tat h' kept r2 t2 g2;refine rule r1 r2 xs ys t1 t2 Q E i1 i2 j1 j2 ?_;have e1:NM.nm (E6 r1)=qH7 ts t1:=by show qH7 ts (keyH H (.ref r1))=_;rw [keyH_at g1]
  have e2:NM.nm (E6 r2)=qH7 ts t2:=by show qH7 ts (keyH H (.ref r2))=_;rw [keyH_at g2]
  rw [e1,e2,qPS m1 m2] at h;exact h
 have fin:∀ out:Array Value,out.toList.Perm (rs.map E6)->out.toList.Pairwise (fun u v=>NM.nm u<=NM.nm v)->EP X Ab σ Q (.ref D) { s with heap:=sortedHeap s.heap D (rs.map E6) out }:=by
  intro out p1 p2;have refs:∀ v ∈ out.toList,∃ a,v=E6 a:=fun v hv=>by
   obtain ⟨r,_,er⟩:=E1.mp (p1.mem_iff.mp hv);exact ⟨r,er.symm⟩
  have back:=qMT refs;have p3:(out.toList.map qHZ).Perm rs:=by
   have:=p1.map qHZ;rw [X5] at this;have e:rs.map (qHZ ∘ E6)=rs:=(O9 fun x _=>rfl).trans (B59 _)
   rwa [e] at this
  obtain ⟨e2,hat⟩:=sortedHeap_at (vs:=rs.map E6) (out:=out) e;have T':TupsAt H (out.toList.map qHZ) ((out.toList.map qHZ).map fun r=>keyH H (.ref r)):=qS8 fun r hr=>by
   obtain ⟨t,_,g⟩:=tups_mem T (p3.mem_iff.mp hr);exact ⟨t,g⟩
  have p4:((out.toList.map qHZ).map fun r=>keyH H (.ref r)).Perm ts:=by
   have:=p3.map fun r=>keyH H (.ref r);rw [<- qPG T] at this;exact this
  have p5:((out.toList.map qHZ).map fun r=>keyH H (.ref r)).Pairwise (fun a b=>HT.lexLt b a=false):=by
   rw [<- back,R5] at p2;rw [R5];refine p2.imp_of_mem fun {a b} ha hb le=>?_;have ma:keyH H (.ref a) ∈ ts:=p4.mem_iff.mp (E1.mpr ⟨a,ha,rfl⟩);have mb:keyH H (.ref b) ∈ ts:=p4.mem_iff.mp (E1.mpr ⟨b,hb,rfl⟩);have le:qH7 ts (keyH H (.ref a))<=qH7 ts (keyH H (.ref b)):=le;rw [<- qPS mb ma];exact decide_eq_false (by omega)
  refine ⟨.ref D,Ag H D (.lst ((out.toList.map qHZ).map V.ref)),?_,rfl,q _ _ p3 T' p4 p5⟩;have hu:Ag (Ag H D (.lst (rs.map V.ref))) D (.lst ((out.toList.map qHZ).map V.ref))=Ag H D (.lst ((out.toList.map qHZ).map V.ref)):=qHY;rw [<- hu];refine I.write (x:=D) (e:=D) (t':=s.toks) (by rw [qA1];exact trivial) (.inl rfl) (fun b u hb hbu=>?_) ⟨_,hat⟩ ?_
  ·rw [sortedHeap_old hb (B8 hbu)];exact hbu
  ·refine ⟨?_,out.toList,e2,?_,by simpa using hat⟩
   ·rw [A0,p3.length_eq];simpa using z
   ·have:=qJB (out.toList.map qHZ);rw [back] at this;exact this
 rcases hk with hk | ⟨ts',hk⟩
 ·refine wpAny_call_entry slot_list_sort ⟨_,e,rfl⟩ entry_list_sort (qPM (κ0:=tuples' true) (n:=n) e (by simpa using hs) hz gd (fun h' kept h2=>⟨fun {Q} hq=>?_,lt_ok _ h' _ (fun x y xs ys ns ms Q E i1 i2 j1 j2 hq=>qRC i1 i2 j1 j2 hq) kept⟩) fun out p1 p2=>⟨_,rfl,fin out p1 p2⟩) (args_list_sort _)
  refine qTL (s:={ s with heap:=h' }) (ts:=ts) ?_ hk (by simpa using h2) hq
  exact Paired.mapP T fun r t g=>tat h' kept r t g
 ·refine wpAny_call_entry slot_list_sort ⟨_,e,rfl⟩ entry_list_sort (qPM (κ0:=oneType') (n:=n) e (by simpa using hs) hz gd (fun h' kept h2=>⟨fun {Q} hq=>?_,lt_ok _ h' _ (fun x y xs ys ns ms Q E i1 i2 j1 j2 hq=>?_) kept⟩) fun out p1 p2=>⟨_,rfl,fin out p1 p2⟩) (args_list_sort _)
  ·cases T with
   | nil=>cases hk
   | @cons r t l1 l2 g T=>
    have et:t=[]:=by cases hk;rfl
    subst et;obtain ⟨xs,i1,j1⟩:=tat h' kept r [] g;obtain ⟨xs⟩:=xs;cases j1;refine qRB (s:={ s with heap:=h' }) i1 (fun r hr=>?_) hq;obtain ⟨t,_,g⟩:=tups_mem T hr;obtain ⟨xs,i,_⟩:=tat h' kept r t g;exact ⟨xs,i⟩
  ·rw [keyLt'_oneType];exact qT7 (s:={ s with heap:=h' }) (by first | exact X2 (by show _<=A.units+8;simp [Around.in1]) hu | (show A.units+1<cLine;omega) | (show A.units<cLine;omega)) i1 i2 j1 j2 hq
theorem qO0 {Ab:List (Addr × Obj)} {σ:St} {H:Hp} {Q:VK} {rs:List Addr} {ts:List (List Int)} (hu:X.A.units+64<cLine) {s1:Shared} (I1:Inv X Ab σ H s1) (T:TupsAt H rs ts) (hk:(∀ t ∈ ts,t ≠ [])\/∃ ts',ts=[]::ts') (hs:rs.length<64) (hz:rs.length<=sizeLine)
  (q:∀ a rs' ts',H a=none->rs'.Perm rs->TupsAt H rs' ts'->ts'.Perm ts->ts'.Pairwise (fun a b=>HT.lexLt b a=false)->Q (.ref a) (Ag H a (.lst (rs'.map V.ref)))):wpAny (model X.prog X.w) X.A.in1 (do
   let l <- newList (rs.map E6)
   let _ <- holding [l] (call (.builtin "list.sort") [l] [])
   ret l) (fun fin s'=>∃ r,fin=.done (.ret r)/\EP X Ab σ Q r s') X.xe s1:=by
 refine wpAny_bind (wpAny_newList ?_ (by rw [A0];exact hz))
 have hf:=I1.hok.fresh (B3 s1.heap.objs.size);have I2:=I1.laid (a:=s1.heap.objs.size) (t':=s1.toks) (o:=.lst (rs.map V.ref)) (h':=s1.heap.push { cls:=.type "list",data:=.seq (rs.map E6).toArray }) (fun b u e=>A8 _ e) (B3 _) ⟨by rw [A0];exact hz,_,0,qJB rs,B9 _ rfl⟩
 refine wpAny_bind (wpAny_holding (wpAny_mono (qSK (E:=X.xe) I2 hf T hk hs (by show X.A.units+1+8<cLine;omega) fun rs' ts' a b c d=>q _ rs' ts' hf a b c d) (fun _ s' x=>?_) fun _ _ e=>e))
 exact wpAny_pure ⟨_,rfl,x⟩
theorem call_sortedTL (hc:X.calm=true) (hu:X.A.units+64<cLine):qCN X (.builtin "sorted") (fun xs H Q=>∃ p rs ts,xs=[.ref p]/\SqL X.K H p (rs.map V.ref)/\TupsAt H rs ts/\(∀ t ∈ ts,t ≠ [])/\rs.length<64/\
  ∀ a rs' ts',H a=none->rs'.Perm rs->TupsAt H rs' ts'->ts'.Perm ts->ts'.Pairwise (fun a b=>HT.lexLt b a=false)->Q (.ref a) (Ag H a (.lst (rs'.map V.ref)))):=by
 intro Ab s σ H xs us Q I r h;obtain ⟨p,rs,ts,rfl,hq,T,hne,hs64,q⟩:=h;obtain ⟨u,rfl,rx⟩:=qEP r;cases rx;refine k9 kind_sorted plain_sorted entry_sorted (args_sorted1 _) ?_;unfold Builtin.«sorted»;refine wpAny_bind (m:=checkCount "sorted" 1 1 _) (wpAny_pure ?_);obtain ⟨its,rv,pl,hz⟩:=I.list hq;obtain ⟨o,ho,hc',n,hd⟩:=pl.isList;have hlen:=rv.length;have ei:=qEO rv;subst ei;refine wpAny_bind (wpAny_collect_seq p (.inl rfl) ho hc' hd (fun h' hk=>?_) (by rw [B7,<- hlen];exact hz))
 have:=qO0 (s1:={ s with heap:=h' }) hu (I.kept (t':=s.toks) hk) T (.inl hne) hs64 (by rw [A0] at hz;exact hz) q
 exact this
end
end L2.GS
namespace L2
open PySem PySem.Spec PyProof.Rows
section
variable {prog:Program} {w:World} {A:Around} {E:Value->Shared->Prop} {s:Shared}
theorem qQW {a:Addr} {vs:List Value} {ns:List Int} {n:Nat} {P:Fin->Shared->Prop} (e0:s.heap.get? a=some (seqObj "list" vs.toArray n)) (ia:IntsAre vs ns) (hs:vs.length<64) (hz:vs.length<=sizeLine)
  (h:∀ (out:Array Value) (zs:List Int),IntsAre out.toList zs->zs.Perm ns->zs.Pairwise (·<=·)->P (.done (.ret .none)) { s with heap:=sortedHeap s.heap a vs out }):wpAny (model prog w) A (Builtin.«list.sort» ⟨[.ref a],[]⟩) P E s:=by
 have la:=B8 e0;have z0:vs.toArray.size<=sizeLine:=by simpa using hz
 rw [list_sort_plain];refine wpAny_bind (listItems_at e0 rfl (wpAny_bind (listUpdate_at e0 rfl ?_ z0 (F5 _))));have e1:∃ k,(s.heap.update a (W1 fun _=>#[])).get? a=some (seqObj "list" #[] k):=⟨_,get?_update_seq e0 fun _=>#[]⟩;obtain ⟨k,e1⟩:=e1;refine wpAny_bind (seqEpoch_at e1 rfl (wpAny_bind (wpAny_newTuple ?_ (by simpa using hz))))
 refine wpAny_bind (wpAny_newList (wpAny_holding ?_));have e2:(((s.heap.update a (W1 fun _=>#[])).push (seqObj "tuple" vs.toArray 0)).push (seqObj "list" #[] 0)).get? a=some (seqObj "list" #[] k):=by
  rw [t7,t7]
  ·exact e1
  ·rw [x4];exact E2 la
  ·rw [size_push',x4];exact E2 (P8 la)
 have last:∀ xs:Array Keyed,xs.Perm (pairsOf vs)->SortedTo xs (pairsOf vs).size->P (.done (.ret .none)) { s with heap:=sortedHeap s.heap a vs (xs.map (·.2)) }:=by
  intro xs px sx;obtain ⟨zs,q1,q2,q3⟩:=sorted_out ia px sx;exact h _ zs q1 q2 q3
 have sz:∀ xs:Array Keyed,xs.Perm (pairsOf vs)->(xs.map (·.2)).size<=sizeLine+1:=by
  intro xs px;rw [A18,px.size_eq,pairsOf_size];omega
 show wpAny _ A _ P E { s with heap:=((s.heap.update a (W1 fun _=>#[])).push (seqObj "tuple" vs.toArray 0)).push (seqObj "list" #[] 0) };dsimp only;by_cases few:vs.toArray.size<2
 ·simp only [if_pos few];refine wpAny_bind (wpAny_pure ?_);rw [B58];refine wpAny_bind (wpAny_pure (wpAny_bind (seqEpoch_at e2 rfl (wpAny_bind (listUpdate_at e2 rfl ?_ (F5 _) (sz (pairsOf vs) (.refl _)))))));simp only [bne_self_eq_false,J3,if_false];refine wpAny_pure (last (pairsOf vs) (.refl _) fun i j hij hj=>?_);rw [pairsOf_size] at hj;rw [B7] at few;rw [show i=j by omega]
  exact J7 _
 ·simp only [if_neg few];have kk:keyKind' vs.toArray=pure oneType':=by
   match vs,few,ia with
   | [],few,_=>exact absurd (by simp) few
   | [_],few,_=>exact absurd (by simp) few
   | _::_::_,_,ia=>exact keyKind_ints ia
  rw [kk]
  letI:GS.NM:=⟨numOf,fun v=>∃ n t,v=.int n t⟩
  haveI:GS.LtOk prog w A { s with heap:=((s.heap.update a (W1 fun _=>#[])).push (seqObj "tuple" vs.toArray 0)).push (seqObj "list" #[] 0) } oneType':=⟨fun {x y Q E} hx hy h=>by
   obtain ⟨n,t,rfl⟩:=hx;obtain ⟨m,u,rfl⟩:=hy;rw [keyLt'_oneType];exact oneLt_int h⟩
  refine wpAny_bind (wpAny_pure (wpAny_bind (wpAny_mono (GS.gwpS_runs (κ0:=oneType') (a₀:=pairsOf vs) (Q:=fun _ st2=>GS.gSG oneType' (pairsOf vs) st2/\GS.gSortedTo (arrOf st2) (pairsOf vs).size) (by simpa [pairsOf] using hs) ia.intKeys ⟨.refl _,rfl,rfl⟩ rfl fun st2 g u=>⟨g,u⟩) ?_ fun _ _ x=>x)))
  rintro ⟨_,st2⟩ s2 ⟨es,g,u⟩;cases (show s2=_ from es);refine wpAny_bind (seqEpoch_at e2 rfl (wpAny_bind (listUpdate_at e2 rfl ?_ (F5 _) (sz _ g.perm))));dsimp only;rw [g.failed];simp only [bne_self_eq_false,J3,if_false];exact wpAny_pure (last _ g.perm u)
end
section
variable {X:Cx}
theorem qSL {Ab:List (Addr × Obj)} {s:Shared} {σ:St} {H:Hp} {Q:VK} {A:Around} {E:Value->Shared->Prop} {ns:List Int} {D:Addr} (I:Inv X Ab σ (Ag H D (.lst (ns.map V.int))) s) (hs:ns.length<64)
  (q:∀ zs:List Int,zs.Perm ns->zs.Pairwise (·<=·)->Q (.ref D) (Ag H D (.lst (zs.map V.int)))) :
  wpAny (model X.prog X.w) A (call (.builtin "list.sort") [.ref D]) (fun _ s'=>EP X Ab σ Q (.ref D) s') E s:=by
 obtain ⟨z,its,n,rv,hl,e⟩:=I.lstM qA1;have ia:=qBS rv;have hlen:=rv.length;refine wpAny_call_entry slot_list_sort ⟨_,e,rfl⟩ entry_list_sort (qQW (ns:=ns) (n:=n) e ia (by rw [<- hlen,A0];exact hs) (by rw [<- hlen];exact z) fun out zs a1 a2 a3=>⟨_,rfl,?_⟩) (args_list_sort _)
 obtain ⟨e2,hat⟩:=sortedHeap_at (vs:=its) (out:=out) e;refine ⟨.ref D,Ag H D (.lst (zs.map V.int)),?_,rfl,q zs a2 a3⟩;have hu:Ag (Ag H D (.lst (ns.map V.int))) D (.lst (zs.map V.int))=Ag H D (.lst (zs.map V.int)):=qHY;rw [<- hu];refine I.write (x:=D) (e:=D) (t':=s.toks) (by rw [qA1];exact trivial) (.inl rfl) (fun b u hb hbu=>?_) ⟨_,hat⟩ ?_
 ·rw [sortedHeap_old hb (B8 hbu)];exact hbu
 ·refine ⟨?_,out.toList,e2,qFL a1,by simpa using hat⟩
  rw [A0,a2.length_eq,<- A0 (f:=V.int)];exact z
theorem qLV (hc:X.calm=true):qCN X (.builtin "sorted") (fun xs H Q=>∃ p ns,xs=[.ref p]/\H p=some (SetM X.w p ns)/\ns.length<64/\
  ∀ (a:Addr) (zs:List Int),H a=none->zs.Perm ns->zs.Pairwise (·<=·)->Q (.ref a) (Ag H a (.lst (zs.map V.int)))):=by
 intro Ab s σ H xs us Q I r h;obtain ⟨p,ns,rfl,hq,h64,q⟩:=h;obtain ⟨u,rfl,rx⟩:=qEP r;cases rx;refine k9 kind_sorted plain_sorted entry_sorted (args_sorted1 _) ?_;unfold Builtin.«sorted»;refine wpAny_bind (m:=checkCount "sorted" 1 1 _) (wpAny_pure ?_);have fin:∀ (s1:Shared) (vs:List Value) (zs:List Int),Inv X Ab σ H s1->IntsAre vs zs->zs.length<=sizeLine->zs.Perm ns->wpAny (model X.prog X.w) X.A.in1 (do
   let l <- newList vs
   let _ <- holding [l] (call (.builtin "list.sort") [l] [])
   ret l) (fun fin s'=>∃ r,fin=.done (.ret r)/\EP X Ab σ Q r s') X.xe s1:=by
  intro s1 vs zs I1 hv hz hp;have hlen:=IntsAre.length hv;refine wpAny_bind (wpAny_newList ?_ (by rw [hlen];exact hz))
  have hf:=I1.hok.fresh (B3 s1.heap.objs.size);refine wpAny_bind (wpAny_holding (wpAny_mono (qSL (E:=X.xe) (qKT I1 hv hz) (by rw [hp.length_eq];exact h64) fun zs a b=>q _ zs hf (a.trans hp) b) (fun _ s' x=>?_) fun _ _ e=>e))
  exact wpAny_pure ⟨_,rfl,x⟩
 obtain ⟨hS,_,_⟩:=(show ObjOk X.prog X.w H s.heap p (.ext (SetG X.w p ns)) from I.hok p _ hq);obtain ⟨es,ep,t,ks,e,T,he,hp,hnd,h4,full⟩:=hS;have hsz:es.size=ns.length:=SetI.size (a:=p) (h:=s.heap) he hp;obtain ⟨ks',h1,h2⟩:=he.perm (qC4 X.w p ep es);have h7:=T.mask7;refine wpAny_bind (A92 (A:=X.A.in1) (qZM (ep:=ep) T (by omega)) (I.ok.hd hc) e (by rw [hsz,sizeLine_eq];omega) fun h' tk acc hk hacc=>?_)
 refine fin _ _ ks' (I.kept (t':=tk) hk) ?_ (by rw [h2.length_eq,hp.length_eq,sizeLine_eq];omega) (h2.trans hp)
 obtain ⟨l1,l2⟩:=hacc;refine qU5 h1 acc.toList ?_ fun i v hi=>l2 i v (by rw [<- M9];exact hi)
 rw [C0,l1,(qC4 X.w p ep es).length_eq,C0]
theorem qUR:qCN X (.builtin "len") (fun xs H Q=>∃ p zs,xs=[V.ref p]/\H p=some (SetM X.w p zs)/\Q (.int (zs.length:Nat)) H):=by
 intro Ab s σ H xs us Q I r h;obtain ⟨p,zs,rfl,hq,q⟩:=h;obtain ⟨u,rfl,ru⟩:=qEP r;cases ru;obtain ⟨hS,_⟩:=(show ObjOk X.prog X.w H s.heap p (SetM X.w p zs) from I.hok p _ hq);obtain ⟨es,ep,t,ks,ho,T,en,pm,nd,l4,h5⟩:=hS;have le:es.size=zs.length:=by
  have:=C8 en;simp at this;rw [<- pm.length_eq,<- this]
 refine call_len_set ho ?_ rfl (T.fits (by omega)) (by omega) ?_
 ·exact ⟨rfl,rfl,rfl⟩
 ·rw [le];exact ⟨.int zs.length,H,I.tok _,⟨_,rfl⟩,q⟩
end
def lowI (b:Int) (l:List Int):Int:=l.foldl (fun b x=>if x<b then x else b) b
theorem qTF:∀ (l:List Int) (b:Int),lowI b l<=b/\(∀ x ∈ l,lowI b l<=x)/\(lowI b l=b\/lowI b l ∈ l)
 | [],b=>⟨J7 _,(fun _ z=>nomatch z),.inl rfl⟩
 | y::l,b=>by
  obtain ⟨h1,h2,h3⟩:=qTF l (if y<b then y else b)
  have e:lowI b (y::l)=lowI (if y<b then y else b) l:=rfl
  rw [e];have hb:(if y<b then y else b)<=b/\(if y<b then y else b)<=y:=by split <;> omega
  refine ⟨by omega,fun x hx=>?_,?_⟩
  ·rcases C9.mp hx with hx | hx
   ·omega
   ·exact h2 x hx
  ·rcases h3 with h3 | h3
   ·split at h3
    ·rw [if_pos (by assumption)]
     exact .inr (by rw [h3];exact B5)
    ·rw [if_neg (by assumption)]
     exact .inl h3
   ·exact .inr (B4 _ h3)
section
variable {prog:Program} {w:World} {A:Around} {R:Result->Shared->Prop} {I:Addr} {fp wr:List Addr} {n:Nat} {P:Nat->Value->Prop} {St:Nat->Heap->Prop}
theorem qY9 (W:Walks prog w A.in1 I fp wr n P St) (kw:List (Str × Value)) (ns:List Int) (hn:ns.length=n) (hval:∀ i v,P i v->∃ t,v=.int (ns.getD i 0) t) (S:Addr) (hSf:S ∉ fp) :
  ∀ (k j:Nat) (s:Shared) (b:Int) (t:Tok) (c:Nat),n - j=k->j<=n->St j s.heap->s.heap.get? S=some { cls:=.type "list",dict:=none,data:=.seq #[.int b t,.int b t] c,slots:=#[] }->
  (∀ t' h' tk,(∀ x o,x ∉ wr->x ≠ S->s.heap.get? x=some o->h'.get? x=some o)->R (.ok (.ret (.int (lowI b (ns.drop j)) t'))) { s with heap:=h',toks:=tk })->
  codeAny (model prog w) A (.builtin "min.loop" ⟨[.ref I,.none,.ref S],kw⟩) R s:=by
 have hSw:S ∉ wr:=fun h=>hSf (W.sub _ h);have hname:(toString "min" ++ toString ".loop" : String) = "min.loop":=by decide
 intro k
 induction k with
 | zero=>
  intro j s b t c hk hj st hS hR;have e:j=n:=by omega
  refine codeAny_builtin A48 ?_;rw [O3 X1 _];show wpAny _ A.in1 (seqItems? (.ref S) >>= _) _ _ s;refine wpAny_bind (wpAny_seqItems hS rfl ?_);show wpAny _ A.in1 (tryCatch (pyNext (.ref I)) _ >>= _) _ _ s;refine wpAny_bind (wpAny_tryCatch (W.done s _ _ (e ▸ st) fun h' tk hk'=>?_));show wpAny _ A.in1 (updateSeq S (fun _=>#[]) >>= _) _ _ _;refine wpAny_bind (wpAny_updateSeq (hk' S _ hSw hS) rfl (wpAny_bind (wpAny_letGo (wpAny_pure ?_))));rw [List.drop_of_length_le (by omega)] at hR
  exact hR t _ tk fun x o hx hxS ex=>(F9 _ _ (O1 hxS)).trans (hk' x o hx ex)
 | succ k ih=>
  intro j s b t c hk hj st hS hR;have hlt:j<n:=by omega
  refine codeAny_builtin A48 ?_;rw [O3 X1 _];show wpAny _ A.in1 (seqItems? (.ref S) >>= _) _ _ s;refine wpAny_bind (wpAny_seqItems hS rfl ?_);show wpAny _ A.in1 (tryCatch (pyNext (.ref I)) _ >>= _) _ _ s;refine wpAny_bind (wpAny_tryCatch (W.item j s _ _ hlt st fun v h' tk hP st' hk'=>?_));have hS':=hk' S _ hSw hS;obtain ⟨u,rfl⟩:=hval j v hP;have ed:ns.drop j=ns.getD j 0::ns.drop (j+1):=by
   have hj':j<ns.length:=by omega
   rw [List.drop_eq_getElem_cons hj',M6,A5 hj']
   rfl
  rw [ed] at hR;generalize ns.getD j 0=y at hR hP ⊢;show wpAny _ A.in1 (tryCatch (holding [R0 y u,R0 y u] (richCompare .Lt (.int y u) (.int b t) >>= _)) _ >>= _) _ _ _;refine wpAny_bind (wpAny_tryCatch (wpAny_holding (wpAny_bind (richCompare_gives (op:=.Lt) (typeIs_int _ _ u) (typeIs_int _ _ t) F.slot_int_lt F.entry_int_lt (F.args_int_lt_2 _ _) (gives_int_lt _ _ u t) (fun x=>nomatch x) ?_))));refine wpAny_bind (wpAny_holding (wpAny_truthy_bool (wpAny_bind (wpAny_letGo (wpAny_pure ?_)))));by_cases hb:y<b
  ·rw [decide_eq_true hb,if_pos rfl];have et:lowI b (y::ns.drop (j+1))=lowI y (ns.drop (j+1)):=by show lowI (if y<b then y else b) _=_;rw [if_pos hb]
   rw [et] at hR;refine wpAny_bind (wpAny_updateSeq hS' rfl (wpAny_bind (wpAny_letGo ?_)));rw [hname];refine wpAny_pure ⟨plainId_quiet X1 _,ih (j+1) _ y u _ (by omega) hlt (W.frame _ _ _ st' fun x hx o ex=>?_) (O4 _ hS' rfl) fun t' h2 tk2 hk2=>?_⟩
   ·exact (F9 _ _ (fun z:S=x=>hSf (by rw [z];exact hx))).trans ex
   ·exact hR t' h2 tk2 fun x o hx hxS ex=>hk2 x o hx hxS ((F9 _ _ (O1 hxS)).trans (hk' x o hx ex))
  ·rw [decide_eq_false hb,if_neg C3];have et:lowI b (y::ns.drop (j+1))=lowI b (ns.drop (j+1)):=by show lowI (if y<b then y else b) _=_;rw [if_neg hb]
   rw [et] at hR;refine wpAny_bind (wpAny_letGo ?_);rw [hname];exact wpAny_pure ⟨plainId_quiet X1 _,ih (j+1) _ b t c (by omega) hlt st' hS' fun t' h2 tk2 hk2=>hR t' h2 tk2 fun x o hx hxS ex=>hk2 x o hx hxS (hk' x o hx ex)⟩
theorem qTB (W:Walks prog w A.in1 I fp wr n P St) (kw:List (Str × Value)) (ns:List Int) (hn:ns.length=n) (hval:∀ i v,P i v->∃ t,v=.int (ns.getD i 0) t) (S:Addr) (hSf:S ∉ fp) {s:Shared} {c:Nat} (st:St 0 s.heap)
  (hS:s.heap.get? S=some { cls:=.type "list",dict:=none,data:=.seq #[] c,slots:=#[] })
  (h1:∀ y r,ns=y::r->∀ t' h' tk,(∀ x o,x ∉ wr->x ≠ S->s.heap.get? x=some o->h'.get? x=some o)->R (.ok (.ret (.int (lowI y r) t'))) { s with heap:=h',toks:=tk })
  (h2:ns=[]->∃ nm dv,kw=[(nm,dv)]/\∀ h' tk,(∀ x o,x ∉ wr->x ≠ S->s.heap.get? x=some o->h'.get? x=some o)->R (.ok (.ret dv)) { s with heap:=h',toks:=tk }) :
  codeAny (model prog w) A (.builtin "min.loop" ⟨[.ref I,.none,.ref S],kw⟩) R s:=by
 have hSw:S ∉ wr:=fun h=>hSf (W.sub _ h);have hname:(toString "min" ++ toString ".loop" : String) = "min.loop":=by decide
 refine codeAny_builtin A48 ?_;rw [O3 X1 _];show wpAny _ A.in1 (seqItems? (.ref S) >>= _) _ _ s;refine wpAny_bind (wpAny_seqItems hS rfl ?_);show wpAny _ A.in1 (tryCatch (pyNext (.ref I)) _ >>= _) _ _ s;cases ns with
 | nil=>
  obtain ⟨nm,dv,rfl,h3⟩:=h2 rfl;refine wpAny_bind (wpAny_tryCatch (W.done s _ _ (hn ▸ st) fun h' tk hk'=>?_));show wpAny _ A.in1 (rule _ >>= fun _=>ret dv) _ _ _;exact wpAny_bind (wpAny_rule (wpAny_pure (h3 _ tk fun x o hx _ ex=>hk' x o hx ex)))
 | cons y r=>
  refine wpAny_bind (wpAny_tryCatch (W.item 0 s _ _ (by rw [<- hn];simp) st fun v h' tk hP st' hk'=>?_))
  have hS':=hk' S _ hSw hS;obtain ⟨u,rfl⟩:=hval 0 v hP;show wpAny _ A.in1 (updateSeq S (fun _=>#[R0 y u,R0 y u]) >>= _) _ _ _;refine wpAny_bind (wpAny_updateSeq hS' rfl ?_);rw [hname];refine wpAny_pure ⟨plainId_quiet X1 _,qY9 W kw (y::r) hn hval S hSf _ 1 _ y u _ rfl (by rw [<- hn];simp) (W.frame _ _ _ st' fun x hx o ex=>?_) (O4 _ hS' rfl) fun t' h2 tk2 hk2=>?_⟩
  ·exact (F9 _ _ (fun z:S=x=>hSf (by rw [z];exact hx))).trans ex
  ·exact h1 y r rfl t' h2 tk2 fun x o hx hxS ex=>hk2 x o hx hxS ((F9 _ _ (O1 hxS)).trans (hk' x o hx ex))
end
section
variable {X:Cx}
def lowD (dv:Option Int):List Int->Option Int
 | []=>dv
 | y::r=>some (lowI y r)
theorem qYA {Ab:List (Addr × Obj)} {s:Shared} {σ:St} {H:Hp} {Q:VK} {p:Addr} {ns:List Int} {kw:List (Str × Value)} {dv:Option Int} (hc:X.calm=true) (I:Inv X Ab σ H s) (hq:SqL X.K H p (ns.map V.int))
  (ok:argsOk "min" ⟨[.ref p],kw⟩) (df:Option Value) (hb:A00 "min" ["key","default"] 0 ⟨[],kw⟩=pure [none,df]) (hdf:df=none/\dv=none\/∃ d t,df=some (.int d t)/\dv=some d)
  (m:Int) (em:lowD dv ns=some m) (q:Q (.int m) H):wpAny (model X.prog X.w) X.A (call (.builtin "min") [.ref p] kw) (EP X Ab σ Q) X.xe s:=by
 obtain ⟨its,rv,pl,hz⟩:=I.list hq;have hl:=pl.isList;have hlt:p<s.heap.objs.size:=by obtain ⟨_,e,_⟩:=hl;exact B8 e
 have hlen:=rv.length;rw [A0] at hlen;have ia:=qBS rv;have hname:(toString "min" ++ toString ".loop" : String) = "min.loop":=by decide
 refine qNJ F.kind_min F.plain_min F.entry_min ok ?_;show wpAny _ _ (A00 "min" ["key","default"] 0 ⟨[],kw⟩ >>= _) _ _ s;refine wpAny_bind (wpAny_of_eq hb ?_);refine wpAny_bind (wpAny_pure ?_);refine wpAny_bind (wpAny_pyIter_list hl ?_);refine wpAny_bind (wpAny_newObj_type ?_);rw [hname];have w0:X.A.in1.handled=none:=I.ok.hd hc;refine wpAny_pure ⟨_,rfl,plainId_quiet X1 _,?_⟩;refine qTB (A75 w0 _ p (E2 hlt) its.toArray) _ ns (by simpa using hlen) (fun i v hv=>?_) _ ?_ (c:=0) ?_ (B9 _ rfl) ?_ ?_
 ·exact i3 ia i v (by simpa using hv)
 ·simp only [O2,C9,W8,or_false,not_or];exact ⟨A43 _,f9 (P8 hlt)⟩
 ·exact ⟨⟨_,A8 _ (B9 _ rfl),rfl,rfl⟩,(hl.push _).push _⟩
 ·intro y r e t' h' tk hk;subst e;cases em;refine ⟨_,rfl,.int _,H,I.kept (t':=tk) fun b o eb=>hk b o ?_ ?_ (A8 _ (A8 _ eb)),⟨t',rfl⟩,q⟩
  ·simp only [C9,W8,or_false];exact E2 (B8 eb)
  ·rw [O2];exact E2 (P8 (B8 eb))
 ·intro e;subst e;rcases hdf with ⟨_,e2⟩ | ⟨d,t,rfl,rfl⟩
  ·rw [e2] at em;cases em
  ·cases em;refine ⟨_,_,rfl,fun h' tk hk=>⟨_,rfl,.int _,H,I.kept (t':=tk) fun b o eb=>hk b o ?_ ?_ (A8 _ (A8 _ eb)),⟨t,rfl⟩,q⟩⟩
   ·simp only [C9,W8,or_false];exact E2 (B8 eb)
   ·rw [O2];exact E2 (P8 (B8 eb))
theorem qUQ (hc:X.calm=true):qCN X (.builtin "min") (fun xs H Q=>∃ p ns m,xs=[.ref p]/\SqL X.K H p (ns.map V.int)/\lowD none ns=some m/\Q (.int m) H):=by
 intro Ab s σ H xs us Q I r h;obtain ⟨p,ns,m,rfl,hq,em,q⟩:=h;obtain ⟨u,rfl,rx⟩:=qEP r;cases rx;exact qYA hc I hq (F.args_min1 _) none rfl (.inl ⟨rfl,rfl⟩) m em q
end
structure Clb (P:Program) (w:World) (K:PySem.W.Frag) (mg:Str->Option Value) (base:Heap) (n:Nat) (f:Addr) (fd:FuncData) (x:Str) (ps:List Str) (sp:Sp):Prop where
 G:FnOk P w K mg base CX0 n f fd ps sp
 b:Binds K fd ps []
 k:X7 K (.ref f)=true
 m:mg x=some (.ref f)
theorem qB4 {X:Cx} {n k:Nat} {f:Addr} {fd:FuncData} {x:Str} {ps:List Str} {sp:Sp} {e:Expr} {es:List Expr} {t:TA} {p pos:Pos} (C:Clb X.prog X.w X.K X.mg X.base n f fd x ps sp) (hr:Room k X.A) (hg:Gl X x)
  (ha:PA X (e::es) t) (hnk:n<=k:=by decide) (hdb:(x == ("__debug__" : Str))=false:=by decide) (he:starEach (e::es) X.env=(false,eval e X.env)::starEach es X.env:=by rfl) (hpl:(backTo pos (starEach es X.env)).any (·.1)=false:=by rfl) :
  PE X (.Call (.Name x p) (e::es) [] pos) (qXQ sp [] E0 t):=qY2 C.G (hr.mono hnk) hg C.m C.k C.b .nil qbF ha hdb he hpl
theorem nmD {i:Nat} {t u:TS} {D:Ends} {x:V} {σ:St} {H:Hp} (h:∀ D':Ends,(∀ σ H,D.nx σ H->D'.nx σ H)->(∀ v H,D.rt v H->D'.rt v H)->tSeq t u D' (σ.set i (some x)) H):qW8 i x σ H fun σ2 H2=>tSeq t u D σ2 H2:=h D (fun _ _ z=>z) fun _ _ z=>z
theorem nmT {t u:TS} {D:Ends} {σ:St} {H:Hp} (h:∀ D':Ends,(∀ σ H,D.nx σ H->D'.nx σ H)->(∀ v H,D.rt v H->D'.rt v H)->tSeq t u D' σ H):tSeq t u D σ H:=h D (fun _ _ z=>z) fun _ _ z=>z
section
variable {X:Cx}
theorem qVQ {K:PySem.W.Frag} (hK:X.K=K):OpR X (binaryOp .Add) (qZT K):=by subst hK;exact qOB
end
theorem qQ7 {K:PySem.W.Frag} {b:Bool} {l m:Addr} {xs ys:List V} {g:TG} {tb:TS} {D:Ends} {σ0:St} {H0:Hp} (hlen:ys.length<=xs.length) (Pv:Nat->St->Hp->Prop) (h0:Pv 0 σ0 H0) (hl:∀ i σ H,i<=ys.length->Pv i σ H->SqB b K H l xs/\SqB b K H m ys)
  (hs:∀ i x y σ H T,xs[i]?=some x->ys[i]?=some y->Pv i σ H->H T=none->g (.ref T) σ (Ag H T (.tup [x,y])) fun σ2 H2=>tb { D with nx:=Pv (i+1),ct:=Pv (i+1),bk:=D.nx } σ2 H2)
  (hd:∀ σ H,Pv ys.length σ H->D.nx σ H) :
  ∃ W:Nat->Nat->St->Hp->Prop,(∃ m,W 0 m σ0 H0)/\∀ i n σ H,W i n σ H->
   ((Itz K b l m).stop i H/\D.nx σ H)\/((Itz K b l m).go i H/\∃ N:St->Hp->Prop,(∀ σ' H',N σ' H'->∃ m',m'<n/\W (i+1) m' σ' H')/\∀ x H',(Itz K b l m).yld i H x H'->g x σ H' fun σ2 H2=>tb { D with nx:=N,ct:=N,bk:=D.nx } σ2 H2):=by
 refine ⟨fun i n σ H=>n=ys.length - i/\i<=ys.length/\Pv i σ H,⟨ys.length,by simp,F5 _,h0⟩,?_⟩
 rintro i n σ H ⟨rfl,hi,q⟩;have hq:=hl i σ H hi q;by_cases hlt:i<ys.length
 ·refine .inr ⟨⟨xs,ys,xs[i]'(by omega),ys[i],hq.1,hq.2,A5 _,by simp [hlt]⟩,Pv (i+1),fun σ' H' p'=>⟨ys.length - (i+1),by omega,rfl,hlt,p'⟩,fun v H' y=>?_⟩
  obtain ⟨T,x,y,hT,e1,e2,yy⟩:=y;subst e1 e2;exact hs i x y σ H T (yy xs ys hq.1 hq.2).1 (yy xs ys hq.1 hq.2).2 q hT
 ·have e:i=ys.length:=by omega
  subst e;by_cases c:ys.length<xs.length
  ·exact .inl ⟨⟨xs,hq.1,.inr ⟨ys,xs[ys.length],hq.2,A5 _,B3 _⟩⟩,hd σ H q⟩
  ·exact .inl ⟨⟨xs,hq.1,.inl (by omega)⟩,hd σ H q⟩
end L2
namespace Fw
open PySem L2
theorem qBT:bootBuiltins "len" = some (.builtin "len"):=by decide +kernel
theorem qQJ:bootBuiltins "min" = some (.builtin "min"):=by decide +kernel
theorem qUT:bootBuiltins "max" = some (.builtin "max"):=by decide +kernel
theorem qDS:bootBuiltins "sorted" = some (.builtin "sorted"):=by decide +kernel
theorem qUU:bootBuiltins "divmod" = some (.builtin "divmod"):=by decide +kernel
theorem qL2:bootBuiltins "all" = some (.builtin "all"):=by decide +kernel
theorem qAL:bootBuiltins "isinstance" = some (.builtin "isinstance"):=by decide +kernel
theorem qNO:bootBuiltins "int" = some (.type "int"):=by decide +kernel
theorem qLW:bootBuiltins "bool" = some (.type "bool"):=by decide +kernel
theorem qXH:bootBuiltins "str" = some (.type "str"):=by decide +kernel
theorem qGR:bootBuiltins "list" = some (.type "list"):=by decide +kernel
theorem qB7:bootBuiltins "tuple" = some (.type "tuple"):=by decide +kernel
theorem qQI:bootBuiltins "set" = some (.type "set"):=by decide +kernel
theorem qWI:bootBuiltins "range" = some (.type "range"):=by decide +kernel
theorem qIP:bootBuiltins "enumerate" = some (.type "enumerate"):=by decide +kernel
structure StAt (H:Hp) (d c:Addr) (t:Int) (ns:List Int):Prop where
 dict:H d=some (.dK [(Q4 "cells",.ref c),(Q4 "turn",.int t)])
 list:H c=some (.lst (ns.map V.int))
 ne:0<ns.length
 len:ns.length<=63
 pos:0<=t
def Keep (d c:Addr) (H H':Hp):Prop:=∀ b o,H b=some o->b ≠ d->b ≠ c->H' b=some o
theorem Keep.refl {d c:Addr} {H:Hp}:Keep d c H H:=fun _ _ h _ _=>h
theorem Keep.trans {d c:Addr} {H H1 H2:Hp} (a:Keep d c H H1) (b:Keep d c H1 H2):Keep d c H H2:=fun x o h n m=>b x o (a x o h n m) n m
theorem Keep.of_same {d c:Addr} {H H':Hp} (h:Same H H'):Keep d c H H':=fun b o e _ _=>h b o e
theorem qA2 {H:Hp} {p:Addr} (h:H p=none) (o:HO):Same H (Ag H p o):=fun b u q=>by rw [qA9 (qA8 q h)];exact q
theorem qEZ {d c:Addr} {H:Hp} {p:Addr} (h:H p=none) (o:HO):Keep d c H (Ag H p o):=.of_same (qA2 h o)
theorem StAt.ndc {H:Hp} {d c:Addr} {t:Int} {ns:List Int} (S:StAt H d c t ns):d ≠ c:=qCL S.dict S.list (by intro z;cases z)
theorem StAt.same {H H':Hp} {d c:Addr} {t:Int} {ns:List Int} (S:StAt H d c t ns) (h:Same H H'):StAt H' d c t ns:=⟨h _ _ S.dict,h _ _ S.list,S.ne,S.len,S.pos⟩
theorem StAt.new {H:Hp} {d c p:Addr} {t:Int} {ns:List Int} (S:StAt H d c t ns) (h:H p=none) (o:HO):StAt (Ag H p o) d c t ns:=S.same (qA2 h o)
theorem s_cs:¬ (J9 "cells" = J9 "turn"):=by decide +kernel
theorem s_ct:¬ ((Q4 (J9 "cells"):Key)=Q4 (J9 "turn")):=fun h=>s_cs (B84 h)
theorem qYT {H:Hp} {d c:Addr} {t:Int} {ns:List Int} (S:StAt H d c t ns):DGet H d (.str "turn") (some (.int t)):=by
 have h:=DGet.k (k:=Q4 "turn") S.dict;rw [qC9 s_ct,qBX rfl] at h;exact h
theorem qLT {H:Hp} {d c:Addr} {t:Int} {ns:List Int} (S:StAt H d c t ns):DGet H d (.str "cells") (some (.ref c)):=by
 have h:=DGet.k (k:=Q4 "cells") S.dict;rw [qBX rfl] at h;exact h
theorem qVK (c:Addr) (t u:Int):putK [((Q4 "cells" : Key),V.ref c),(Q4 "turn",V.int t)] (Q4 "turn") (V.int u)=[((Q4 "cells" : Key),V.ref c),(Q4 "turn",V.int u)]:=by
 unfold putK;simp [s_cs]
theorem qYS {H:Hp} {d c:Addr} {t u:Int} {ns:List Int} (S:StAt H d c t ns):DPut H d (.str "turn") (.int u) (Ag H d (.dK [(Q4 "cells",.ref c),(Q4 "turn",.int u)])):=by
 have h:=DPut.k (k:=Q4 "turn") (v:=.int u) S.dict (by rw [sizeLine_eq];exact (by decide:2<16777216))
 rw [qVK] at h;exact h
theorem StAt.turn {H:Hp} {d c:Addr} {t u:Int} {ns:List Int} (S:StAt H d c t ns) (h:0<=u):StAt (Ag H d (.dK [(Q4 "cells",.ref c),(Q4 "turn",.int u)])) d c u ns:=
 ⟨qA1,by rw [qA9 (O1 S.ndc)];exact S.list,S.ne,S.len,h⟩
theorem StAt.put {H:Hp} {d c:Addr} {t:Int} {ns ms:List Int} (S:StAt H d c t ns) (h:ms.length=ns.length):StAt (Ag H c (.lst (ms.map V.int))) d c t ms:=
 ⟨by rw [qA9 S.ndc];exact S.dict,qA1,by rw [h];exact S.ne,by rw [h];exact S.len,S.pos⟩
abbrev TB:Int:=1000000000
def qJD:Sp:=fun vs H Q _=>∃ d c t ns m,vs=[.ref d,.int m]/\StAt H d c t ns/\t<=TB/\1<=m/\m<=1000000/\∀ k ns' H',0<=k->k<m->StAt H' d c (t+1) ns'->Keep d c H H'->Q (.int k) H'
def qSJ (K:PySem.W.Frag):Sp:=fun vs H Q _=>∃ (a:Addr) (ns:List Int),vs=[.ref a]/\SqL K H a (ns.map V.int)/\ns.length<=63/\∀ d c ms H',StAt H' d c 0 ms->Same H H'->H d=none->H c=none->Q (.ref d) H'
def cutI {α:Type} (xs:List α) (lo hi:Option Int):List α:=(xs.drop (HT.sIx xs.length 0 lo)).take (HT.sIx xs.length xs.length hi - HT.sIx xs.length 0 lo)
theorem qCZ {α:Type} (f:α->V) (xs:List α) (lo hi:Option Int):cutV (xs.map f) lo hi=(cutI xs lo hi).map f:=by
 unfold cutV cutI;rw [A0,<- B76,<- B75]
theorem qQF {α:Type} (xs:List α) (lo hi:Option Int):(cutI xs lo hi).length<=xs.length:=by
 unfold cutI;rw [D7,F2];omega
theorem qX4 (c:Addr) (t:Int):qFO [] [((Q4 (J9 "cells"):Key),V.ref c),(Q4 (J9 "turn"),V.int t)]=[((Q4 (J9 "cells"):Key),V.ref c),(Q4 (J9 "turn"),V.int t)]:=by
 unfold qFO;simp only [Y2,A85];unfold putK;simp [s_cs]
theorem qYL {xs:List V} {j:Nat} (h:j<xs.length):ixN xs.length (j:Int)=some j:=by
 unfold ixN;rw [if_pos (by omega),if_pos (by omega),O6]
def qVA (K:PySem.W.Frag):Sp:=fun vs H Q _=>∃ (a:Addr) (ns:List Int),vs=[.ref a]/\SqL K H a (ns.map V.int)/\ns.length<=63/\∀ H',Q (.bl true) H'
theorem cut {t u:TS} {D:Ends} {σ:St} {H:Hp} (h:∀ N:St->Hp->Prop,(∀ σ H,u D σ H->N σ H)->t { D with nx:=N } σ H):tSeq t u D σ H:=h _ fun _ _ z=>z
theorem opq {A:Prop} (h:∀ G:Prop,(A->G)->G):A:=h A id
structure Rise (k:Int) (zs:List Int):Prop where
 up:zs.Pairwise (·<·)
 in_:∀ x ∈ zs,0<=x/\x<k
theorem Rise.nil {k:Int}:Rise k []:=⟨.nil,fun _ h=>nomatch h⟩
theorem Rise.mono {j k:Int} {zs:List Int} (h:Rise j zs) (l:j<=k):Rise k zs:=⟨h.up,fun x hx=>⟨(h.in_ x hx).1,by have:=(h.in_ x hx).2;omega⟩⟩
theorem Rise.sub {k:Int} {zs ys:List Int} (h:Rise k zs) (s:ys.Sublist zs):Rise k ys:=⟨h.up.sublist s,fun x hx=>h.in_ x (s.subset hx)⟩
theorem Rise.snoc {k:Int} {zs:List Int} (h:Rise k zs) (h0:0<=k):Rise (k+1) (zs++[k]):=by
 refine ⟨V3.mpr ⟨h.up,List.pairwise_singleton _ _,fun a ha b hb=>?_⟩,fun x hx=>?_⟩
 ·rw [B2.mp hb];exact (h.in_ a ha).2
 ·rcases C2.mp hx with hx | hx
  ·have:=h.in_ x hx;omega
  ·rw [B2.mp hx];omega
theorem Rise.shift {k j:Int} {zs:List Int} (h:Rise k zs) (hj:0<=j):Rise (k+j) (zs.map (·+j)):=by
 refine ⟨R5.mpr (h.up.imp fun {a b} hab=>by omega),fun x hx=>?_⟩
 obtain ⟨y,hy,e⟩:=E1.mp hx;have:=h.in_ y hy;omega
theorem Rise.nodup {k:Int} {zs:List Int} (h:Rise k zs):zs.Nodup:=h.up.imp fun {a b} hab=>by omega
theorem Rise.len {zs:List Int} {k:Nat} (h:Rise (k:Int) zs):zs.length<=k:=by
 have sub:zs ⊆ (N9 k).map fun (i:Nat)=>(i:Int):=fun x hx=>by
  have:=h.in_ x hx;exact E1.mpr ⟨x.toNat,J4.mpr (by omega),by omega⟩
 have:=F0 h.nodup sub;simpa using this
theorem qVS {zs:List Int} {k x:Int}:x ∈ addI zs k ↔ x ∈ zs\/x=k:=by
 unfold addI
 split
 ·rename_i h
  constructor
  ·exact .inl
  ·rintro (z | rfl)
   ·exact z
   ·exact h
 ·simp
theorem qY8 {zs:List Int} {k:Int} (h:zs.Nodup):(addI zs k).Nodup:=by
 unfold addI
 split
 ·exact h
 ·rename_i hk
  exact qJL h hk
theorem qU8:∀ (l zs:List Int),zs.Nodup->(l.foldl addI zs).Nodup/\∀ x,x ∈ l.foldl addI zs ↔ x ∈ zs\/x ∈ l
 | [],zs,h=>⟨h,fun x=>by simp⟩
 | k::r,zs,h=>by
  obtain ⟨a,b⟩:=qU8 r (addI zs k) (qY8 h);refine ⟨a,fun x=>?_⟩;rw [Y2,b x,qVS,C9,or_assoc]
theorem qL0 (l:List Int):(dedI l).Nodup:=(qU8 l [] .nil).1
theorem mem_dedI {l:List Int} {x:Int}:x ∈ dedI l ↔ x ∈ l:=by
 have:=(qU8 l [] .nil).2 x;unfold dedI;rw [this];simp
theorem qJ7 (l:List Int):(dedI l).length<=l.length:=by
 have:=qC7 l [];simpa [dedI] using this
theorem qN5 {zs:List Int} (h1:zs.Pairwise (·<=·)) (h2:zs.Nodup):zs.Pairwise (·<·):=by
 have h3:zs.Pairwise (fun a b=>a<=b/\a ≠ b):=List.pairwise_and_iff.mpr ⟨h1,h2⟩;exact h3.imp fun {a b} ⟨x,y⟩=>by omega
theorem qPQ {k:Int} {fs zs:List Int} (hp:zs.Perm (dedI fs)) (hs:zs.Pairwise (·<=·)) (h:∀ x ∈ fs,0<=x/\x<k):Rise k zs:=
 ⟨qN5 hs (hp.nodup_iff.mpr (qL0 fs)),fun x hx=>h x (mem_dedI.mp (hp.mem_iff.mp hx))⟩
def qBO (lo hi:Int):List Int:=(N9 (hi - lo).toNat).map fun (i:Nat)=>lo+i
theorem qO5 (lo hi:Int):qIH lo hi=(qBO lo hi).map V.int:=by
 unfold qIH qBO;rw [X5]
 rfl
theorem mem_rangeI {lo hi x:Int}:x ∈ qBO lo hi ↔ lo<=x/\x<hi:=by
 unfold qBO;rw [E1]
 constructor
 ·rintro ⟨i,hi',e⟩;have:=J4.mp hi';omega
 ·intro h;exact ⟨(x - lo).toNat,J4.mpr (by omega),by omega⟩
theorem qEG (lo hi:Int):(qBO lo hi).length=(hi - lo).toNat:=by unfold qBO;simp
theorem qH8 (lo hi:Int):(qBO lo hi).Pairwise (·<·):=by
 unfold qBO;exact R5.mpr (d6.imp fun {a b} h=>by omega)
theorem qO6 {lo hi:Int} (h:0<=lo):Rise hi (qBO lo hi):=⟨qH8 _ _,fun x hx=>by have:=mem_rangeI.mp hx;omega⟩
theorem qEL {α:Type} (xs:List α) (k:Nat) (h:k<=xs.length):cutI xs (some (k:Int)) none=xs.drop k:=by
 unfold cutI;rw [HT.sIx_nat,HT.sIx_none,A01 h];exact L7 (by rw [F2];exact B3 _)
theorem qUH {α:Type} (xs:List α) (k:Nat):cutI xs none (some (k:Int))=xs.take k:=by
 unfold cutI;rw [HT.sIx_nat,HT.sIx_none,A89,B34];rcases Nat.le_total k xs.length with h | h
 ·rw [A01 h]
 ·rw [B44 h,L7 h,L7 (B3 _)]
abbrev NetL (H:Hp):List Addr->List (List Int)->Prop:=Paired fun r zs=>H r=some (.tup (zs.map V.int))
theorem NetL.keep {d c:Addr} {H H':Hp} {rs:List Addr} {Ae:List (List Int)} (h:NetL H rs Ae) (hd:∀ r zs,H r=some (.tup zs)->r ≠ d/\r ≠ c) (k:Keep d c H H'):NetL H' rs Ae:=by
 induction h with
 | nil=>exact .nil
 | cons r t ih=>exact .cons (k _ _ r (hd _ _ r).1 (hd _ _ r).2) ih
theorem NetL.same {H H':Hp} {rs:List Addr} {Ae:List (List Int)} (h:NetL H rs Ae) (k:∀ r zs,H r=some (.tup zs)->H' r=some (.tup zs)):NetL H' rs Ae:=by
 induction h with
 | nil=>exact .nil
 | cons r t ih=>exact .cons (k _ _ r) ih
theorem NetL.get {H:Hp}:∀ {rs:List Addr} {Ae:List (List Int)} {i:Nat} {zs:List Int},NetL H rs Ae->Ae[i]?=some zs->∃ r,rs[i]?=some r/\H r=some (.tup (zs.map V.int))
 | _,_,_,_,.nil,e=>by simp at e
 | _,_,0,_,.cons r _,e=>by simp at e;subst e;exact ⟨_,rfl,r⟩
 | _,_,i+1,zs,.cons _ t,e=>by
  obtain ⟨r,h1,h2⟩:=NetL.get (i:=i) (zs:=zs) t (by simpa using e)
  exact ⟨r,by simpa using h1,h2⟩
def NetAt (H:Hp) (a:Addr) (Ae:List (List Int)):Prop:=∃ rs:List Addr,H a=some (.tup (rs.map V.ref))/\NetL H rs Ae
theorem StAt.tup {H:Hp} {d c:Addr} {t:Int} {ns:List Int} (S:StAt H d c t ns) {r:Addr} {zs:List V} (h:H r=some (.tup zs)):r ≠ d/\r ≠ c:=
 ⟨qCL h S.dict (by intro z;cases z),qCL h S.list (by intro z;cases z)⟩
theorem NetAt.keep {H H':Hp} {d c:Addr} {t:Int} {ns:List Int} (S:StAt H d c t ns) {a:Addr} {Ae:List (List Int)} (h:NetAt H a Ae) (k:Keep d c H H'):NetAt H' a Ae:=by
 obtain ⟨rs,h1,h2⟩:=h;exact ⟨rs,k _ _ h1 (S.tup h1).1 (S.tup h1).2,h2.keep (fun r zs e=>S.tup e) k⟩
theorem NetAt.same {H H':Hp} {a:Addr} {Ae:List (List Int)} (h:NetAt H a Ae) (k:Same H H'):NetAt H' a Ae:=by
 obtain ⟨rs,h1,h2⟩:=h;exact ⟨rs,k _ _ h1,h2.same fun r zs e=>k _ _ e⟩
theorem NetAt.len {H:Hp} {rs:List Addr} {Ae:List (List Int)} (h:NetL H rs Ae):rs.length=Ae.length:=C8 h
def WFn (Ae:List (List Int)):Prop:=∀ (i:Nat) zs,Ae[i]?=some zs->Rise (i:Int) zs
theorem WFn.snoc {Ae:List (List Int)} {zs:List Int} (h:WFn Ae) (hz:Rise (Ae.length:Int) zs):WFn (Ae++[zs]):=by
 intro i ys e;rcases B27 i Ae.length with l | l | l
 ·rw [F7 l] at e;exact h i ys e
 ·subst l;simp at e;subst e;exact hz
 ·rw [G0 (by rw [B0,C1];omega)] at e
  cases e
theorem WFn.nil:WFn []:=fun i zs e=>by simp at e
theorem qBH {α β:Type} {F:α->β->Prop} {a:α} {b:β} {l₁:List α} {l₂:List β} (h:Paired F l₁ l₂) (r:F a b):Paired F (l₁++[a]) (l₂++[b]):=o9 h r
theorem qbE {a b k:Int} (h0:0<=k) (h1:k<4):∃ v,atI [V.int a,V.int b] (k / 3)=some (.int v)/\(v=a\/v=b):=by
 rcases (by omega:k=0\/k=1\/k=2\/k=3) with rfl | rfl | rfl | rfl
 ·exact ⟨a,rfl,.inl rfl⟩
 ·exact ⟨a,rfl,.inl rfl⟩
 ·exact ⟨a,rfl,.inl rfl⟩
 ·exact ⟨b,rfl,.inr rfl⟩
theorem qbD {k:Int} (h0:0<=k) (h1:k<6):∃ v,atI [V.int 0,V.int 0,V.int 1,V.int 2,V.int 2,V.int 3] k=some (.int v)/\0<=v/\v<=3:=by
 rcases (by omega:k=0\/k=1\/k=2\/k=3\/k=4\/k=5) with rfl | rfl | rfl | rfl | rfl | rfl
 all_goals exact ⟨_,rfl,by decide,by decide⟩
theorem qAB {H Hc:Hp} {p:Addr} {o:HO} (h:Same H Hc) (hp:H p=none):Same H (Ag Hc p o):=fun b u e=>by rw [qA9 (qA8 e hp)];exact h b u e
theorem qQ2 {d c:Addr} {H Hc:Hp} {p:Addr} {o:HO} (h:Keep d c H Hc) (hp:H p=none):Keep d c H (Ag Hc p o):=fun b u e n1 n2=>by rw [qA9 (qA8 e hp)];exact h b u e n1 n2
theorem qBG {H:Hp} {p:Addr} {xs:List V} {o:HO} {rs:List Addr} {Ae:List (List Int)} (h:NetL H rs Ae) (hp:H p=some (.lst xs)):NetL (Ag H p o) rs Ae:=
 h.same fun r zs e=>by rw [qA9 (qCL e hp (by intro z;cases z))];exact e
theorem qCA (rs:List Addr) (r:Addr):rs.map V.ref++[V.ref r]=(rs++[r]).map V.ref:=by rw [B6];rfl
theorem qZR (b:Bool) (x:Int):(P4 (if b=true then (1:Int) else 0).toNat [V.int x]).flatten=(if b=true then [x] else []).map V.int:=by cases b <;> rfl
theorem qCF {α β:Type} {F:α->β->Prop}:∀ {l₁:List α} {l₂:List β} {i:Nat} {a:α},Paired F l₁ l₂->l₁[i]?=some a->∃ b,l₂[i]?=some b/\F a b
 | _,_,_,_,.nil,e=>by simp at e
 | _,_,0,_,.cons r _,e=>by simp at e;subst e;exact ⟨_,rfl,r⟩
 | _,_,i+1,a,.cons _ t,e=>by
  obtain ⟨b,h1,h2⟩:=qCF (i:=i) (a:=a) t (by simpa using e)
  exact ⟨b,by simpa using h1,h2⟩
theorem qDJ {α β:Type} {F G:α->β->Prop} {l₁:List α} {l₂:List β} (h:Paired F l₁ l₂) (k:∀ a b,F a b->G a b):Paired G l₁ l₂:=by
 induction h with
 | nil=>exact .nil
 | cons r t ih=>exact .cons (k _ _ r) ih
theorem qGN {rs:List Addr} {i:Nat} {x:V} (h:(rs.map V.ref)[i]?=some x):∃ r,rs[i]?=some r/\x=.ref r:=by
 rw [C4] at h;cases e:rs[i]? with
 | none=>rw [e] at h;cases h
 | some r=>rw [e] at h;exact ⟨r,rfl,(J5 h).symm⟩
theorem qBE {zs:List Int} {i:Nat} {x:V} (h:(zs.map V.int)[i]?=some x):∃ z,zs[i]?=some z/\x=.int z:=by
 rw [C4] at h;cases e:zs[i]? with
 | none=>rw [e] at h;cases h
 | some r=>rw [e] at h;exact ⟨r,rfl,(J5 h).symm⟩
theorem qPN {α:Type} {l:List α} {a b:α} {j:Nat} (h:(l++[a])[j]?=some b):l[j]?=some b\/(j=l.length/\b=a):=by
 rcases B27 j l.length with z | z | z
 ·rw [F7 z] at h;exact .inl h
 ·subst z;simp at h;exact .inr ⟨rfl,h.symm⟩
 ·rw [G0 (by rw [B0,C1];omega)] at h
  cases h
theorem qFQ (a:Int) (zs:List Int):inV (.int a) (zs.map V.int)=decide (a ∈ zs):=by
 unfold inV
 induction zs with
 | nil=>simp
 | cons z r ih=>
  rw [E7,i9,ih];have e:eqV (.int z) (.int a)=decide (a=z):=by
   by_cases h:z=a
   ·subst h;simp [eqV]
   ·have h':¬ a=z:=fun q=>h q.symm;simp [eqV,h,h']
  rw [e];simp [C9]
theorem qD4 (zs:List Int):(zs.map V.int).all qLP=true:=by
 rw [E5];intro x hx;obtain ⟨z,_,rfl⟩:=E1.mp hx
 rfl
def qZ8 (ns st:List Int) (Aa wk:Int):V:=if wk ∈ st then .str "there" else if ∀ x ∈ ns,x ∈ st then (if Aa<=(st.length:Int) then .str "full" else .non) else .str "needs"
def qS2 (st:List Int) (wk:Int):V:=if wk ∈ st then .non else .str "empty"
def qZ7 (ns st:List Int) (Aa:Int) (Ac:Str) (wk:Int):V:=if Ac = "do" then qZ8 ns st Aa wk else qS2 st wk
theorem qAV {xs:List V} {i:Int} {x:V} (h0:0<=i) (h:xs[i.toNat]?=some x):atI xs i=some x:=by
 have e:i=((i.toNat:Nat):Int):=by omega
 rw [e];exact qUZ (by simpa using h)
theorem NetAt.get {H:Hp} {a:Addr} {Ae:List (List Int)} {ns:List Int} {i:Nat} (h:NetAt H a Ae) (e:Ae[i]?=some ns):∃ (rs:List Addr) (r:Addr),H a=some (.tup (rs.map V.ref))/\rs.length=Ae.length/\(rs.map V.ref)[i]?=some (.ref r)/\H r=some (.tup (ns.map V.int)):=by
 obtain ⟨rs,h1,h2⟩:=h;obtain ⟨r,h3,h4⟩:=h2.get e;exact ⟨rs,r,h1,C8 h2,by rw [C4,h3];rfl,h4⟩
theorem qUS:bootBuiltins "zip" = some (.type "zip"):=by decide +kernel
def seqO (b:Bool) (xs:List V):HO:=match b with | true=>.tup xs | false=>.lst xs
section
variable {K:PySem.W.Frag}
end
def qKB (x:V) (d:PyData):Prop:=(x=.non/\d=.none)\/(∃ b,x=.bl b/\d=.bool b)\/(∃ i,x=.int i/\d=.int i)\/∃ y,x=.str y/\d=.str y
def seqD (b:Bool) (ds:List PyData):PyData:=match b with | true=>.tuple ds | false=>.list ds
def DatN (H:Hp):Nat->V->PyData->Prop
 | 0,x,d=>qKB x d
 | n+1,x,d=>qKB x d\/∃ (b:Bool) (a:Addr) (xs:List V) (ds:List PyData),x=.ref a/\d=seqD b ds/\H a=some (seqO b xs)/\xs.length=ds.length/\∀ (i:Nat) (x':V) (d':PyData),xs[i]?=some x'->ds[i]?=some d'->DatN H n x' d'
theorem DatN.same {H H':Hp} (s:Same H H'):∀ {n:Nat} {x:V} {d:PyData},DatN H n x d->DatN H' n x d:=by
 intro n
 induction n with
 | zero=>exact fun {x d} h=>show qKB x d from h
 | succ n ih=>
  rintro x d (h | ⟨b,a,xs,ds,e1,e2,h1,hl,h⟩)
  ·exact .inl h
  ·exact .inr ⟨b,a,xs,ds,e1,e2,s _ _ h1,hl,fun i x' d' q1 q2=>ih (h i x' d' q1 q2)⟩
theorem DatN.up {H:Hp}:∀ {n:Nat} {x:V} {d:PyData},DatN H n x d->DatN H (n+1) x d:=by
 intro n
 induction n with
 | zero=>exact fun {x d} h=>.inl h
 | succ n ih=>
  rintro x d (h | ⟨b,a,xs,ds,e1,e2,h1,hl,h⟩)
  ·exact .inl h
  ·exact .inr ⟨b,a,xs,ds,e1,e2,h1,hl,fun i x' d' q1 q2=>ih (h i x' d' q1 q2)⟩
end Fw
namespace L2
open PySem PySem.Spec PyProof.Rows Fw
theorem qGP {n:Nat}:∀ {ds:List PyData},(∀ d ∈ ds,d.depth<=n)->A02 ds<=n
 | [],_=>F5 _
 | d::ds,h=>by
  show max d.depth (A02 ds)<=n;have h1:=h d (B5 ..);have h2:=qGP (ds:=ds) fun d hd=>h d (B4 _ hd);omega
section
variable {X:Cx} {Ab:List (Addr × Obj)} {σ:St} {H:Hp} {s:Shared}
theorem qKN {x:V} {d:PyData} {v:Value} (h:qKB x d) (r:RelV x v):Reads s.heap v d []/\d.depth=0:=by
 rcases h with ⟨rfl,rfl⟩ | ⟨b,rfl,rfl⟩ | ⟨i,rfl,rfl⟩ | ⟨y,rfl,rfl⟩
 ·cases r;exact ⟨.none,rfl⟩
 ·cases r;exact ⟨.bool _,rfl⟩
 ·obtain ⟨t,rfl⟩:=r;exact ⟨.int _ _,rfl⟩
 ·obtain ⟨t,rfl⟩:=r;exact ⟨.str _ _,rfl⟩
theorem qQY (I:Inv X Ab σ H s):∀ (n:Nat) {x:V} {d:PyData} {v:Value},DatN H n x d->RelV x v->∃ as,Reads s.heap v d as/\d.depth<=n:=by
 intro n
 induction n with
 | zero=>
  intro x d v h r;obtain ⟨a,b⟩:=qKN (s:=s) h r;exact ⟨[],a,by omega⟩
 | succ n ih=>
  rintro x d v (h | ⟨b,a,xs,ds,rfl,rfl,h1,hl,h⟩) r
  ·obtain ⟨a,b⟩:=qKN (s:=s) h r;exact ⟨[],a,by omega⟩
  ·cases r;have all:∀ {us:List Value} {ys:List V} {es:List PyData},Vals ys us->ys.length=es.length->(∀ (i:Nat) (x':V) (d':PyData),ys[i]?=some x'->es[i]?=some d'->DatN H n x' d')->(∃ as,ReadsAll s.heap us es as)/\∀ e ∈ es,e.depth<=n:=by
    intro us ys es hv
    induction hv generalizing es with
    | nil=>
     intro hl _;cases es with
     | nil=>exact ⟨⟨[],.nil⟩,fun _ z=>nomatch z⟩
     | cons _ _=>cases hl
    | cons r t ih2=>
     intro hl h;cases es with
     | nil=>cases hl
     | cons e es=>
      obtain ⟨as,q1,q2⟩:=ih (h 0 _ _ rfl rfl) r;obtain ⟨⟨bs,q3⟩,q4⟩:=ih2 (by simpa using hl) fun i x' d' e1 e2=>h (i+1) x' d' e1 e2
      refine ⟨⟨as++bs,.cons q1 q3⟩,fun d' hd=>?_⟩;rcases C9.mp hd with z | z
      ·rw [z];exact q2
      ·exact q4 d' z
   cases b with
   | false=>
    obtain ⟨its,rv,⟨o,nn,e1,e2,e3,e4⟩,_⟩:=I.list (a:=a) (xs:=xs) (SqL.of h1);obtain ⟨⟨as,q1⟩,q2⟩:=all rv hl h;refine ⟨a::as,.list e1 e2 e4 (by simpa using q1),?_⟩
    show A02 ds+1<=n+1;have:=qGP q2;omega
   | true=>
    obtain ⟨its,rv,⟨o,e1,e2,nn,e3⟩,_⟩:=I.tuple (a:=a) (xs:=xs) (SqT.of h1);obtain ⟨⟨as,q1⟩,q2⟩:=all rv hl h;refine ⟨as,.tuple e1 e2 e3 (by simpa using q1),?_⟩
    show A02 ds+1<=n+1;have:=qGP q2;omega
end
open PySem PySem.Spec PyProof.Rows
section
variable {X:Cx}
end
end L2
namespace HT
open PySem PySem.Spec PyProof.Rows
section
variable {prog:Program} {w:World} {A:Around} {E:Value->Shared->Prop} {s:Shared}
end
end HT
namespace L2
open PySem PySem.Spec PyProof.Rows Fw
section
variable {X:Cx} {e:Expr} {te:TE} {st:Option Expr} {tst:TO} {pos p2:Pos}
theorem qE7 {K:PySem.W.Frag} (hK:X.K=K):qCN X (.builtin "isinstance") (fun xs H Q=>∃ x T t b,xs=[x,.ty T]/\TyOf K H x t/\R6 K t (.type T)=some b/\Q (.bl b) H):=by subst hK;exact qAW
theorem qNK (hg:X.A.guards=some []) (hu:X.A.units+64<cLine):qCN X (.type "str") (fun xs H Q=>∃ (x:V) (n:Nat) (d:PyData),xs=[x]/\DatN H n x d/\n<=40/\d.showable=true/\d.hasDict=false/\d.shown.length<=sizeLine/\∀ z,(∃ g:PyData->Str,z=g d/\g=fun d=>match d with | .str y=>y | .bool b=>if b then "True" else "False" | .none=>"None" | .int i=>toString i | d=>d.shown)->Q (.str z) H):=by
 intro Ab s σ H xs us Q I r h;obtain ⟨x,n,d,rfl,hd,hn,h1,h2,h3,q⟩:=h;obtain ⟨u,rfl,rx⟩:=qEP r;have leaf:qKB x d\/∃ a,x=.ref a/\((∃ ds,d=.list ds)\/∃ ds,d=.tuple ds):=by
  cases n with
  | zero=>exact .inl hd
  | succ n=>
   rcases hd with h | ⟨b,a,xs,ds,e1,e2,_⟩
   ·exact .inl h
   ·cases b
    ·exact .inr ⟨a,e1,.inl ⟨ds,e2⟩⟩
    ·exact .inr ⟨a,e1,.inr ⟨ds,e2⟩⟩
 rcases leaf with (⟨rfl,rfl⟩ | ⟨b,rfl,rfl⟩ | ⟨i,rfl,rfl⟩ | ⟨y,rfl,rfl⟩) | ⟨a,rfl,hk⟩
 ·cases rx;exact P.str_of_none ⟨.str "None",H,I.tok _,⟨_,rfl⟩,q _ ⟨_,rfl,rfl⟩⟩
 ·cases rx;exact P.str_of_bool ⟨.str (if b then "True" else "False"),H,I.tok _,⟨_,rfl⟩,q _ ⟨_,rfl,rfl⟩⟩
 ·obtain ⟨t,rfl⟩:=rx;exact P.str_of_int (of_decide_eq_true h1) ⟨.str (toString i),H,I.tok _,⟨_,rfl⟩,q _ ⟨_,rfl,rfl⟩⟩
 ·obtain ⟨t,rfl⟩:=rx;exact P.str_of_str ⟨.str y,H,I,⟨_,rfl⟩,q _ ⟨_,rfl,rfl⟩⟩
 ·cases rx;obtain ⟨as,hr,dp⟩:=qQY I n hd (show RelV (.ref a) (.ref a) from rfl);refine str_of_reads hr h1 (PyData.noDict_hsm h2) hg (by omega) (fun _ _ e=>e) (fun h' u tk hk'=>⟨.str d.shown,H,I.kept hk',⟨_,rfl⟩,q _ ⟨_,?_,rfl⟩⟩) h3
  rcases hk with ⟨ds,rfl⟩ | ⟨ds,rfl⟩ <;> rfl
end
open PySem PySem.Spec PyProof.Rows
section
variable {X:Cx}
theorem qS9 {A:Around} {s:Shared} {Ab:List (Addr × Obj)} {σ:St} {H:Hp} (I:Inv X Ab σ H s) (hu:A.units<cLine) {a b:Addr} {zs ys:List Int} (ha:H a=some (.tup (zs.map V.int))) (hb:H b=some (.tup (ys.map V.int))):SeqAt.EqAt A s (.ref a) (.ref b) (decide (zs=ys)):=by
 have inj:∀ {u v:List Int},u.map V.int=v.map V.int->u=v:=by
  intro u
  induction u with
  | nil=>intro v h;cases v with | nil=>rfl | cons _ _=>cases h
  | cons x u ih=>
   intro v h;cases v with
   | nil=>cases h
   | cons y v=>
    rw [E7,E7] at h
    injection h with h1 h2
    injection h1 with h1
    rw [h1,ih h2]
 by_cases e:a=b
 ·subst e;rw [ha] at hb
  injection hb with hb
  injection hb with hb
  rw [decide_eq_true (inj hb)];exact B52 _
 ·obtain ⟨us,r1,p1,z1⟩:=I.tuple (SqT.of ha);obtain ⟨vs,r2,p2,z2⟩:=I.tuple (SqT.of hb);have l1:=r1.length;have l2:=r2.length;rw [A0] at l1 l2;refine SeqAt.EqAt.of_refs e ?_;have key:=SeqAt.RcAt.tuples (A:=A) (s:=s) (e:=fun j=>decide (zs[j]?=ys[j]?)) p1 p2 hu (fun j h1 h2=>by
   rw [B7] at h1 h2;have hz:j<zs.length:=by omega
   have hy:j<ys.length:=by omega
   obtain ⟨a,ea,ra⟩:=r1.get (i:=j) (x:=.int zs[j]) (by rw [C4,A5 hz];rfl)
   obtain ⟨b,eb,rb⟩:=r2.get (i:=j) (x:=.int ys[j]) (by rw [C4,A5 hy];rfl)
   obtain ⟨t,rfl⟩:=ra;obtain ⟨t',rfl⟩:=rb;have e1:us.toArray[j]=.int zs[j] t:=by
    rw [k6];exact J5 ((A5 h1).symm.trans ea)
   have e2:vs.toArray[j]=.int ys[j] t':=by
    rw [k6];exact J5 ((A5 h2).symm.trans eb)
   rw [e1,e2];have:=A11 (A:=A.in1) (s:=s) zs[j] t ys[j] t';rw [show (zs[j] == ys[j])=decide (zs[j]?=ys[j]?) by rw [A5 hz,A5 hy];by_cases c:zs[j]=ys[j] <;> simp [c]] at this
   exact this)
  have eb:((N9 (min us.toArray.size vs.toArray.size)).all (fun j=>decide (zs[j]?=ys[j]?)) && us.toArray.size == vs.toArray.size)=decide (zs=ys):=by
   rw [B7,B7,<- l1,<- l2,Q2,C7,E5,beq_iff_eq,decide_eq_true_eq]
   constructor
   ·rintro ⟨h1,h2⟩;refine j8 fun i=>?_;by_cases hi:i<zs.length
    ·exact of_decide_eq_true (h1 i (J4.mpr (by omega)))
    ·rw [G0 (by omega),G0 (by omega)]
   ·rintro rfl;exact ⟨fun _ _=>decide_eq_true rfl,rfl⟩
  rw [eb] at key;exact key
theorem qO4 {rs:List Addr} {us:List Value} (h:Vals (rs.map V.ref) us):us=rs.map E6:=by
 induction rs generalizing us with
 | nil=>cases h;rfl
 | cons a rs ih=>cases h with | cons h1 h2=>cases h1;rw [ih h2];rfl
theorem qLF (hu:X.A.units+64<cLine):OpR X (compareOp .NotIn) (fun x y H Q=>∃ (p l:Addr) (zs:List Int) (rs:List Addr) (ts:List (List Int)),x=.ref p/\y=.ref l/\H p=some (.tup (zs.map V.int))/\SqL X.K H l (rs.map V.ref)/\Paired (fun (r:Addr) (t:List Int)=>H r=some (.tup (t.map V.int))) rs ts/\Q (.bl (decide (zs ∉ ts))) H):=by
 intro Ab s σ H x y v u Q I rx ry h;obtain ⟨p,l,zs,rs,ts,rfl,rfl,h1,h2,T,q⟩:=h;cases rx;cases ry;obtain ⟨its,r,pl,hz⟩:=I.list h2;have ei:=qO4 r;subst ei;have mem:∀ {rs:List Addr} {ts:List (List Int)},Paired (fun (r:Addr) (t:List Int)=>H r=some (.tup (t.map V.int))) rs ts->∀ r ∈ rs,∃ t:List Int,H r=some (.tup (t.map V.int)):=by
  intro rs ts h
  induction h with
  | nil=>exact fun r hr=>nomatch hr
  | cons g _ ih=>exact fun r hr=>(C9.mp hr).elim (fun e=>⟨_,e ▸ g⟩) (ih r)
 refine B05 (fun w=>decide (L2.GS.keyH H w=zs)) pl.isList (fun w hw=>?_) ⟨.bl _,H,I,rfl,?_⟩
 ·obtain ⟨r0,hr0,rfl⟩:=E1.mp (show w ∈ rs.map E6 by simpa using hw)
  obtain ⟨t,ht⟩:=mem T r0 hr0;rw [L2.GS.keyH_at ht];exact qS9 I (by show X.A.units+1<cLine;omega) ht h1
 ·have e:(!(rs.map E6).toArray.any fun w=>decide (L2.GS.keyH H w=zs))=decide (zs ∉ ts):=by
   have e2:((rs.map E6).any fun w=>decide (L2.GS.keyH H w=zs))=decide (zs ∈ ts):=by
    clear q r pl hz h2
    induction T with
    | nil=>simp
    | @cons r0 t rs ts g _ ih=>
     rw [E7,i9,ih,L2.GS.keyH_at g,Q2,A65,decide_eq_true_eq,decide_eq_true_eq,decide_eq_true_eq,C9];exact ⟨fun h=>h.imp Eq.symm id,fun h=>h.imp Eq.symm id⟩
   rw [List.any_toArray,e2];by_cases c:zs ∈ ts
   ·rw [decide_eq_true c,decide_eq_false (fun z=>z c)];rfl
   ·rw [decide_eq_false c,decide_eq_true c];rfl
  rw [e];exact q
theorem qOA (hu:X.A.units+64<cLine):OpR X (compareOp .NotEq) (fun x y H Q=>∃ (p l:Addr) (rs rs':List Addr) (ts ts':List (List Int)),x=.ref p/\y=.ref l/\SqL X.K H p (rs.map V.ref)/\SqL X.K H l (rs'.map V.ref)/\Paired (fun (r:Addr) (t:List Int)=>H r=some (.tup (t.map V.int))) rs ts/\Paired (fun (r:Addr) (t:List Int)=>H r=some (.tup (t.map V.int))) rs' ts'/\Q (.bl (decide (ts ≠ ts'))) H):=by
 intro Ab s σ H x y v u Q I rx ry h;obtain ⟨p,l,rs,rs',ts,ts',rfl,rfl,h1,h2,T,T',q⟩:=h;cases rx;cases ry;obtain ⟨us,r1,p1,z1⟩:=I.list h1;obtain ⟨vs,r2,p2,z2⟩:=I.list h2;have e1:=qO4 r1;have e2:=qO4 r2;subst e1;subst e2;have l1:=C8 T;have l2:=C8 T';have g:∀ {rs:List Addr} {ms:List (List Int)},Paired (fun r (zs:List Int)=>H r=some (.tup (zs.map V.int))) rs ms->∀ (i:Nat) (hi:i<rs.length) (hj:i<ms.length),H rs[i]=some (.tup (ms[i].map V.int)):=by
  intro rs ms h
  induction h with
  | nil=>intro i hi;simp at hi
  | cons r t ih=>
   intro i hi hj;cases i with
   | zero=>exact r
   | succ i=>exact ih i (by simpa using hi) (by simpa using hj)
 by_cases hl:ts.length=ts'.length
 ·refine A28 (e:=fun j=>decide (ts[j]?=ts'[j]?)) p1.isList p2.isList (by simp;omega) (by omega) (fun j j1 j2=>?_) _ _ _ _ ⟨.bl (decide (ts ≠ ts')),H,I,?_,q⟩
  ·simp at j1 j2;simp only [k6,List.getElem_map];have:=qS9 I (A:=X.A.in1) (by show X.A.units+1<cLine;omega) (g T j j1 (by omega)) (g T' j j2 (by omega))
   rw [show decide (ts[j]=ts'[j])=decide (ts[j]?=ts'[j]?) by rw [A5 (by omega),A5 (by omega)];simp] at this
   exact this
  ·show V8 _=V8 _;congr 1;rw [B7,A0,l1];by_cases c:ts=ts'
   ·subst c;simp
   ·have dc:decide (ts ≠ ts')=true:=decide_eq_true c;rw [dc,B28,<- Bool.not_eq_true,E5];intro z;apply c;apply j8;intro i;by_cases hi:i<ts.length
    ·exact of_decide_eq_true (z i (J4.mpr hi))
    ·rw [G0 (by omega),G0 (by omega)]
 ·refine o6 p1.isList p2.isList (by simp;omega) (by omega) _ _ _ _ ⟨.bl true,H,I,rfl,?_⟩
  have:decide (ts ≠ ts')=true:=decide_eq_true (fun z=>hl (by rw [z]))
  rw [this] at q;exact q
end
end L2
namespace Fw
open PySem L2
abbrev MovL (H:Hp):List Addr->List (Str × Int)->Prop:=Paired fun r m=>H r=some (.tup [.str m.1,.int m.2])
theorem qKR {α β:Type} {F:α->β->Prop} {a c:List α} {b d:List β} (h:Paired F a b) (k:Paired F c d):Paired F (a++c) (b++d):=by
 induction h with
 | nil=>exact k
 | cons r t ih=>exact .cons r ih
theorem qKQ {α β:Type} {F:α->β->Prop}:∀ {l₁:List α} {l₂:List β} {i:Nat} {b:β},Paired F l₁ l₂->l₂[i]?=some b->∃ a,l₁[i]?=some a/\F a b
 | _,_,_,_,.nil,e=>by simp at e
 | _,_,0,_,.cons r _,e=>by simp at e;subst e;exact ⟨_,rfl,r⟩
 | _,_,i+1,b,.cons _ t,e=>by
  obtain ⟨a,h1,h2⟩:=qKQ (i:=i) (b:=b) t (by simpa using e)
  exact ⟨a,by simpa using h1,h2⟩
def wd (Ae:List (List Int)) (st:List Int) (Aa:Int) (m:Str × Int):V:=qZ7 ((Ae[m.2.toNat]?).getD []) st Aa m.1 m.2
theorem qL6 {α:Type} {l:List α} {n:Nat} (h:l.length=n):l.take n=l:=L7 (by omega)
structure Cnt (n:Nat) (cs:List Int) (seen:List Int):Prop where
 len:cs.length=n
 at_:∀ x:Nat,x<n->∃ c,cs[x]?=some c/\0<=c/\(c=0 ↔ (x:Int) ∉ seen)
theorem qAQ {n:Nat} (h:n<=1000000):n<sizeLine:=by rw [sizeLine_eq];omega
inductive Nd (Ae:List (List Int)) (Ad:List Int):Int->Prop
 | ask {x:Int}:x ∈ Ad->Nd Ae Ad x
 | need {w y:Int} {zs:List Int}:Nd Ae Ad w->Ae[w.toNat]?=some zs->y ∈ zs->Nd Ae Ad y
structure KeysI (Af:List (Key × V)) (ks:List Int):Prop where
 keys:Af.map (·.1)=ks.map J1
 nd:ks.Nodup
theorem qa1 {ks:List Int} {n:Nat} (h:ks.Nodup) (b:∀ x ∈ ks,0<=x/\x<(n:Int)):ks.length<=n:=by
 have sub:ks ⊆ (N9 n).map fun (i:Nat)=>(i:Int):=fun x hx=>by
  have:=b x hx;exact E1.mpr ⟨x.toNat,J4.mpr (by omega),by omega⟩
 have:=F0 h sub;simpa using this
structure Fnd (Ae:List (List Int)) (Ad ks:List Int) (j:Int):Prop where
 in_:∀ x ∈ ks,(0<=x/\x<(Ae.length:Int))/\Nd Ae Ad x
 ask:∀ x ∈ Ad,x ∈ ks
 clo:∀ (w:Nat) zs,j<=(w:Int)->(w:Int) ∈ ks->Ae[w]?=some zs->∀ y ∈ zs,y ∈ ks
theorem qZ9:∀ {l m:List Int},l.Pairwise (·<·)->m.Pairwise (·<·)->(∀ x,x ∈ l ↔ x ∈ m)->l=m
 | [],[],_,_,_=>rfl
 | [],y::m,_,_,h=>absurd ((h y).mpr (by simp)) (by simp)
 | x::l,[],_,_,h=>absurd ((h x).mp (by simp)) (by simp)
 | x::l,y::m,hl,hm,h=>by
  have l1:=R9.mp hl;have m1:=R9.mp hm;have exy:x=y:=by
   rcases C9.mp ((h x).mp (by simp)) with e | e
   ·exact e
   ·rcases C9.mp ((h y).mpr (by simp)) with e2 | e2
    ·exact e2.symm
    ·have:=m1.1 x e;have:=l1.1 y e2;omega
  subst exy;rw [qZ9 l1.2 m1.2 fun z=>?_]
  constructor
  ·intro hz;rcases C9.mp ((h z).mp (by simp [hz])) with e | e
   ·have:=l1.1 z hz;omega
   ·exact e
  ·intro hz;rcases C9.mp ((h z).mpr (by simp [hz])) with e | e
   ·have:=m1.1 z hz;omega
   ·exact e
theorem qN0 {Ae:List (List Int)} (wf:WFn Ae) (w:Nat):Rise (w:Int) ((Ae[w]?).getD []):=by
 cases e:Ae[w]? with
 | none=>exact Rise.nil
 | some zs=>exact wf w zs e
abbrev Mv:=Str × Int
def nd (Ae:List (List Int)) (w:Int):List Int:=(Ae[w.toNat]?).getD []
theorem qBL {Ae:List (List Int)} {w:Int} {zs:List Int} (h:Ae[w.toNat]?=some zs):nd Ae w=zs:=by unfold nd;rw [h];rfl
def qa6 (Ae:List (List Int)) (zs:List Int) (j:Nat) (x:Int):Prop:=∃ v ∈ zs.drop j,x ∈ nd Ae v
instance (Ae:List (List Int)) (zs:List Int) (j:Nat) (x:Int):Decidable (qa6 Ae zs j x):=by unfold qa6;infer_instance
inductive Run (Ae:List (List Int)) (Aa:Int):List Int->List Mv->List Int->Prop
 | nil {s:List Int}:Run Ae Aa s [] s
 | do_ {s s' t:List Int} {w:Int} {ms:List Mv}:w ∉ s->(∀ y ∈ nd Ae w,y ∈ s)->(s.length:Int)<Aa->s'.Perm (s++[w])->s'.Pairwise (·<·)->Run Ae Aa s' ms t->Run Ae Aa s (("do",w)::ms) t
 | clear {s t:List Int} {w:Int} {ms:List Mv}:w ∈ s->Run Ae Aa (s.filter fun x=>decide (x ≠ w)) ms t->Run Ae Aa s (("clear",w)::ms) t
section
variable {Ae:List (List Int)} {Ad zs:List Int}
theorem qY6 (wf:WFn Ae) (w:Int):(nd Ae w).Pairwise (·<·):=(qN0 wf w.toNat).up
end
def qaU (H:Hp) (l:Addr) (ms:List Mv):Prop:=∃ rs:List Addr,H l=some (.lst (rs.map V.ref))/\MovL H rs ms
def lv (L:List Int) (x:Int):Int:=(L[x.toNat]?).getD 0
structure Lev (Ae:List (List Int)) (L:List Int):Prop where
 len:L.length=Ae.length
 at_:∀ (i:Nat) zs,Ae[i]?=some zs->∃ l,L[i]?=some l/\0<=l/\l<=(i:Int)/\(∀ y ∈ zs,lv L y+1<=l)/\(l=0\/∃ y ∈ zs,lv L y+1=l)
structure Fd (n:Nat) (L:List Int) (S:Int->Prop) (fs:List Int):Prop where
 len:fs.length=n
 at_:∀ w:Nat,w<n->(S w->fs[w]?=some (lv L w))/\(¬ S w->fs[w]?=some 0)
structure CntX (n:Nat) (cs:List Int) (seen:List Int):Prop where
 len:cs.length=n
 at_:∀ x:Nat,x<n->cs[x]?=some ((seen.count (x:Int):Nat):Int)
def Beh (st st':List Int) (Ac:Str) (wk:Int):Prop:=(Ac = "do"->st'.Perm (st++[wk])/\st'.Pairwise (·<=·))/\(Ac = "clear"->st'=st.filter fun x=>decide (x ≠ wk))
inductive Play (Ae:List (List Int)) (Aa:Int):List Int->List Mv->List (List Int)->V->Prop
 | nil {st}:Play Ae Aa st [] [] .non
 | stop {st m ms w0}:wd Ae st Aa m=.str w0->Play Ae Aa st (m::ms) [] (.str w0)
 | go {st st' m ms sts v}:wd Ae st Aa m=.non->Beh st st' m.1 m.2->Play Ae Aa st' ms sts v->Play Ae Aa st (m::ms) (st'::sts) v
def MvOk (Ae:List (List Int)) (ms:List Mv):Prop:=∀ m ∈ ms,(m.1 = "do"\/m.1 = "clear")/\0<=m.2/\m.2<(Ae.length:Int)
def qWO (H:Hp) (l:Addr) (sts:List (List Int)):Prop:=∃ rs:List Addr,H l=some (.lst (rs.map V.ref))/\NetL H rs sts
def lens (sts:List (List Int)):List Int:=sts.map fun z=>(z.length:Int)
structure YNa (K:PySem.W.Frag) (C:Addr):Prop where
 Ae:qQM K C "net"
 Aa:qQM K C "rooms"
 made:qQM K C "made"
 stands:qQM K C "stands"
def yfs (a:Addr) (Aa:Int) (lm ls:Addr):List (Str × V):=putF "stands" (.ref ls) (putF "made" (.ref lm) (putF "rooms" (.int Aa) (putF "net" (.ref a) [])))
structure YardAt (C:Addr) (H:Hp) (y a lm ls:Addr) (Ae:List (List Int)) (Aa:Int) (ms:List Mv) (sts:List (List Int)):Prop where
 obj:∃ dx,H y=some (.ins C dx (yfs a Aa lm ls))
 nat:NetAt H a Ae
 wf:WFn Ae
 n400:Ae.length<=400
 r0:0<=Aa
 r62:Aa<=62
 made:qaU H lm ms
 ok:MvOk Ae ms
 len:ms.length<=10000
 stands:qWO H ls ([]::sts)
 play:Play Ae Aa [] ms sts .non
 ne:lm ≠ ls
abbrev qaB (s:Nat × Nat):List Key:=[J1 (s.1:Int),J1 (s.2:Int)]
structure NumP (rs:List Addr) (ss:List (Nat × Nat)) (j:Nat) (ps:List (List Key × Addr × V)):Prop where
 keys:ps.map (·.1)=(ss.take j).map qaB
 at_:∀ (k:Nat) (s:Nat × Nat),k<j->ss[k]?=some s->∃ a,ps[k]?=some (qaB s,a,.int (k:Int))
structure InsAt (H:Hp) (i:Addr) (ins:List (Int × Int)):Prop where
 at_:∃ rs:List Addr,qbS H i (rs.map V.ref)/\Paired (fun r (q:Int × Int)=>H r=some (.tup [.int q.1,.int q.2])) rs ins
 nodup:(ins.map (·.1)).Nodup
structure InsOk (m:Nat) (other:List (List Int)) (k:Nat) (ins:List (Int × Int)) (fs:List Int):Prop where
 st:∀ q ∈ ins,(0<=q.1/\q.1<(k:Int))/\other[q.1.toNat]?=some []/\0<=q.2/\q.2<(m:Int)
 nd1:(ins.map (·.1)).Nodup
 nd2:(ins.map (·.2)).Nodup
 fr:fs.Nodup
 fin:∀ x ∈ fs,(0<=x/\x<(m:Int))/\x ∉ ins.map (·.2)
 len:ins.length<=k
theorem qJH {α β:Type} {F:α->β->Prop} {l₁:List α} {l₂:List β} (h:Paired F l₁ l₂):Paired F l₁.reverse l₂.reverse:=by
 induction h with
 | nil=>exact .nil
 | cons r _ ih=>rw [j4,j4];exact qBH ih r
theorem qV9 {K:PySem.W.Frag} {H H':Hp} {a:Addr} {xs:List V} (h:SqT K H a xs) (sm:Same H H'):SqT K H' a xs:=by
 rcases h with (h | ⟨o,h⟩) | h
 ·exact .inl (.inl (sm _ _ h))
 ·exact .inl (.inr ⟨o,sm _ _ h⟩)
 ·exact .inr h
section
variable {Ae:List (List Int)}
theorem qD3 (wf:WFn Ae) {w y:Int} (h0:0<=w) (h:y ∈ nd Ae w):0<=y/\y<w:=by
 unfold nd at h;cases e:Ae[w.toNat]? with
 | none=>rw [e] at h;cases h
 | some zs=>
  rw [e] at h;have:=(wf _ _ e).in_ y h;omega
def qF7 (Ae:List (List Int)):Nat->List Int
 | 0=>[]
 | i+1=>qF7 Ae i++[if nd Ae (i:Int)=[] then 1 else ((nd Ae (i:Int)).map fun z=>(qF7 Ae i).getD z.toNat 0).sum]
def cn (Ae:List (List Int)) (z:Int):Int:=(qF7 Ae (z.toNat+1)).getD z.toNat 0
theorem qDR:∀ i,(qF7 Ae i).length=i
 | 0=>rfl
 | i+1=>by rw [qF7,B0,qDR i];rfl
theorem qJ8:∀ i,qF7 Ae i=(N9 i).map fun (k:Nat)=>cn Ae (k:Int)
 | 0=>rfl
 | i+1=>by
  have e:cn Ae (i:Int)=if nd Ae (i:Int)=[] then 1 else ((nd Ae (i:Int)).map fun z=>(qF7 Ae i).getD z.toNat 0).sum:=by
   unfold cn;rw [O6,qF7,M6,L6 (by rw [qDR];exact B3 _),qDR,a9]
   rfl
  rw [B60,B6,<- qJ8 i,qF7,List.map_singleton,e]
theorem qJY {i:Nat} {z:Int} (h0:0<=z) (h1:z<(i:Int)):(qF7 Ae i)[z.toNat]?=some (cn Ae z):=by
 rw [qJ8,C4,List.getElem?_range (by omega)]
 show some (cn Ae ((z.toNat:Nat):Int))=_;rw [show ((z.toNat:Nat):Int)=z by omega]
theorem qWF (wf:WFn Ae) {z:Int} (h:0<=z):cn Ae z=if nd Ae z=[] then 1 else ((nd Ae z).map (cn Ae)).sum:=by
 obtain ⟨i,rfl⟩:∃ i:Nat,z=(i:Int):=⟨z.toNat,by omega⟩
 have e:cn Ae (i:Int)=if nd Ae (i:Int)=[] then 1 else ((nd Ae (i:Int)).map fun z=>(qF7 Ae i).getD z.toNat 0).sum:=by
  unfold cn;rw [O6,qF7,M6,L6 (by rw [qDR];exact B3 _),qDR,a9]
  rfl
 rw [e];congr 2;refine O9 fun y hy=>?_;have b:=qD3 wf h hy;rw [M6,qJY b.1 b.2]
 rfl
theorem qL7:∀ {l:List Int},(∀ x ∈ l,1<=x)->(l.length:Int)<=l.sum
 | [],_=>by simp
 | x::l,h=>by
  have a:=h x B5;have b:=qL7 fun y hy=>h y (B4 _ hy);rw [c7,D9];omega
theorem qUI (wf:WFn Ae):∀ (n:Nat) (z:Int),z.toNat=n->0<=z->1<=cn Ae z:=by
 intro n
 induction n using W5 with
 | ind n ih=>
  intro z hn h0;rw [qWF wf h0]
  split
  ·exact J7 _
  ·rename_i c
   have:=qL7 (l:=(nd Ae z).map (cn Ae)) fun x hx=>by
    obtain ⟨y,hy,rfl⟩:=E1.mp hx;have b:=qD3 wf h0 hy;exact ih y.toNat (by omega) y rfl b.1
   have l:0<(nd Ae z).length:=W6.mpr c;rw [A0] at this;omega
def cap (x:Int):Int:=if 301<x then 301 else x
theorem qUM:∀ {l:List Int},(∀ x ∈ l,1<=x)->(l.map cap).sum=l.sum\/(301<=(l.map cap).sum/\301<=l.sum)
 | [],_=>.inl rfl
 | x::l,h=>by
  have a:=h x B5;have hl:∀ y ∈ l,1<=y:=fun y hy=>h y (B4 _ hy);have b:=qUM hl;have p:=qL7 hl;have p2:=qL7 (l:=l.map cap) fun y hy=>by
   obtain ⟨z,hz,rfl⟩:=E1.mp hy;have:=hl z hz;unfold cap
   split <;> omega
  rw [E7,c7,c7];unfold cap at b p2 ⊢
  split <;> omega
theorem qaO (wf:WFn Ae) {z:Int} (h:0<=z):cap (cn Ae z)=cap (if nd Ae z=[] then 1 else ((nd Ae z).map fun y=>cap (cn Ae y)).sum):=by
 rw [qWF wf h];by_cases c:nd Ae z=[]
 ·rw [if_pos c,if_pos c]
 ·rw [if_neg c,if_neg c];have:=qUM (l:=(nd Ae z).map (cn Ae)) fun x hx=>by
   obtain ⟨y,hy,rfl⟩:=E1.mp hx;exact qUI wf _ y rfl (qD3 wf h hy).1
  rw [X5] at this;have e:(B47 (cap ∘ cn Ae) (nd Ae z))=(nd Ae z).map fun y=>cap (cn Ae y):=rfl;rw [e] at this;rcases this with q | ⟨q1,q2⟩
  ·rw [q]
  ·unfold cap;unfold cap at q1
   split <;> split <;> omega
def hd (p:List Int):Int:=p.headD 0
def apF (Ae:List (List Int)):Nat->List Int->List (List Int)
 | 0,p=>[p]
 | n+1,p=>if nd Ae (hd p)=[] then [p] else ((nd Ae (hd p)).reverse.map fun z=>apF Ae n (z::p)).flatten
theorem qYZ (wf:WFn Ae):∀ (k n m:Nat) (p:List Int),(hd p).toNat=k->0<=hd p->k<n->k<m->apF Ae n p=apF Ae m p:=by
 intro k
 induction k using W5 with
 | ind k ih=>
  intro n m p hk h0 hn hm;obtain ⟨n,rfl⟩:∃ n',n=n'+1:=⟨n - 1,by omega⟩
  obtain ⟨m,rfl⟩:∃ m',m=m'+1:=⟨m - 1,by omega⟩
  unfold apF;congr 2;refine O9 fun z hz=>?_;have b:=qD3 wf h0 (T5.mp hz);exact ih z.toNat (by omega) n m (z::p) rfl b.1 (by omega) (by omega)
def aP (Ae:List (List Int)) (p:List Int):List (List Int):=apF Ae ((hd p).toNat+1) p
theorem qP8 (wf:WFn Ae) {p:List Int} (h0:0<=hd p):aP Ae p=if nd Ae (hd p)=[] then [p] else ((nd Ae (hd p)).reverse.map fun z=>aP Ae (z::p)).flatten:=by
 unfold aP;rw [apF];congr 2;refine O9 fun z hz=>?_;have b:=qD3 wf h0 (T5.mp hz);exact qYZ wf z.toNat _ _ (z::p) rfl b.1 (by omega) (by show z.toNat<z.toNat+1;omega)
theorem qVX {α:Type} (l:List (List α)):((l.flatten.length:Nat):Int)=(l.map fun x=>(x.length:Int)).sum:=by
 induction l with
 | nil=>rfl
 | cons x l ih=>rw [P5,B0,E7,c7,<- ih];omega
theorem qV8 {l m:List Int} (p:l.Perm m):l.sum=m.sum:=by
 induction p with
 | nil=>rfl
 | cons x _ ih=>rw [c7,c7,ih]
 | swap x y l=>simp only [c7];omega
 | trans _ _ h1 h2=>rw [h1,h2]
theorem qL3 (wf:WFn Ae):∀ (k:Nat) (p:List Int),(hd p).toNat=k->0<=hd p->((aP Ae p).length:Int)=cn Ae (hd p):=by
 intro k
 induction k using W5 with
 | ind k ih=>
  intro p hk h0;rw [qP8 wf h0,qWF wf h0];by_cases c:nd Ae (hd p)=[]
  ·rw [if_pos c,if_pos c];rfl
  ·rw [if_neg c,if_neg c,qVX,X5];rw [qV8 ((B29 (nd Ae (hd p))).map (cn Ae)).symm];congr 1;refine O9 fun z hz=>?_;have b:=qD3 wf h0 (T5.mp hz);exact ih z.toNat (by omega) (z::p) rfl b.1
def tmF (Ae:List (List Int)):Nat->Int->Nat
 | 0,_=>1
 | n+1,w=>1+((nd Ae w).map (tmF Ae n)).sum
theorem qXN (wf:WFn Ae):∀ (k n m:Nat) (w:Int),w.toNat=k->0<=w->k<n->k<m->tmF Ae n w=tmF Ae m w:=by
 intro k
 induction k using W5 with
 | ind k ih=>
  intro n m w hk h0 hn hm;obtain ⟨n,rfl⟩:∃ n',n=n'+1:=⟨n - 1,by omega⟩
  obtain ⟨m,rfl⟩:∃ m',m=m'+1:=⟨m - 1,by omega⟩
  unfold tmF;congr 2;refine O9 fun z hz=>?_;have b:=qD3 wf h0 hz;exact ih z.toNat (by omega) n m z rfl b.1 (by omega) (by omega)
def tM (Ae:List (List Int)) (w:Int):Nat:=tmF Ae (w.toNat+1) w
theorem qb2 (wf:WFn Ae) {w:Int} (h0:0<=w):tM Ae w=1+((nd Ae w).map (tM Ae)).sum:=by
 unfold tM;rw [tmF];congr 2;refine O9 fun z hz=>?_;have b:=qD3 wf h0 hz;exact qXN wf z.toNat _ _ z rfl b.1 (by omega) (by omega)
structure POk (Ae:List (List Int)) (p:List Int):Prop where
 ne:p ≠ []
 h0:0<=hd p
 h1:hd p<(Ae.length:Int)
 len:(p.length:Int)+hd p<=(Ae.length:Int)
structure PWay (Ae:List (List Int)) (work:Int) (fs st:List (List Int)):Prop where
 all:fs++(st.map (aP Ae)).flatten=aP Ae [work]
 ok:∀ p ∈ st,POk Ae p
 fok:∀ p ∈ fs,POk Ae p
def msP (Ae:List (List Int)) (st:List (List Int)):Nat:=(st.map fun p=>tM Ae (hd p)).sum
theorem PWay.start {work:Int} (h0:0<=work) (h1:work<(Ae.length:Int)):PWay Ae work [] [[work]]:=by
 have e:hd [work]=work:=rfl;refine ⟨by simp,fun p hp=>?_,fun p hp=>nomatch hp⟩
 rw [B2.mp hp];exact ⟨by simp,by rw [e];exact h0,by rw [e];exact h1,by rw [e,C1];omega⟩
theorem POk.more (wf:WFn Ae) {p:List Int} (h:POk Ae p) {z:Int} (hz:z ∈ nd Ae (hd p)):POk Ae (z::p):=by
 have b:=qD3 wf h.h0 hz;have e:hd (z::p)=z:=rfl;exact ⟨by simp,by rw [e];exact b.1,by rw [e];have:=h.h1;omega,by rw [e,D9];have:=h.len;omega⟩
def nxF (Ae:List (List Int)) (fs:List (List Int)) (p:List Int):List (List Int):=if nd Ae (hd p)=[] then fs++[p] else fs
def nxS (Ae:List (List Int)) (p:List Int) (st:List (List Int)):List (List Int):=((nd Ae (hd p)).map fun z=>z::p).reverse++st
theorem PWay.step (wf:WFn Ae) {work:Int} {fs st:List (List Int)} {p:List Int} (h:PWay Ae work fs (p::st)):PWay Ae work (nxF Ae fs p) (nxS Ae p st)/\msP Ae (nxS Ae p st)<msP Ae (p::st):=by
 have P:=h.ok p B5;refine ⟨⟨?_,fun r hr=>?_,fun r hr=>?_⟩,?_⟩
 ·rw [<- h.all,E7,P5,qP8 wf P.h0];unfold nxF nxS;by_cases c:nd Ae (hd p)=[]
  ·rw [if_pos c,if_pos c,c];simp
  ·rw [if_neg c,if_neg c,B6,List.flatten_append,<- A49,X5]
   rfl
 ·unfold nxS at hr;rcases C2.mp hr with q | q
  ·obtain ⟨z,hz,rfl⟩:=E1.mp (T5.mp q);exact P.more wf hz
  ·exact h.ok r (B4 _ q)
 ·unfold nxF at hr
  split at hr
  ·rcases C2.mp hr with q | q
   ·exact h.fok r q
   ·rw [B2.mp q];exact P
  ·exact h.fok r hr
 ·unfold msP nxS;rw [B6,List.sum_append,E7,c7,qb2 wf P.h0,<- A49,X5,A49];have e:((nd Ae (hd p)).map ((fun q=>tM Ae (hd q)) ∘ fun z=>z::p))=(nd Ae (hd p)).map (tM Ae):=O9 fun z _=>rfl;rw [e,List.sum_reverse];omega
theorem PWay.lens (wf:WFn Ae) {work:Int} {fs st:List (List Int)} (h:PWay Ae work fs st) (h0:0<=work) (hc:cn Ae work<=300):fs.length+st.length<=300:=by
 have l:=qL3 wf _ [work] rfl h0;rw [<- h.all,B0] at l;have e:hd [work]=work:=rfl;rw [e] at l;have b:st.length<=((st.map (aP Ae)).flatten).length:=by
  have hk:=h.ok;clear l h e
  induction st with
  | nil=>simp
  | cons p st ih=>
   rw [E7,P5,B0,D9];have P:=hk p B5;have a:=qL3 wf _ p rfl P.h0;have c:=qUI wf _ (hd p) rfl P.h0;have d:=ih fun r hr=>hk r (B4 _ hr);omega
 omega
theorem PWay.done {work:Int} {fs:List (List Int)} (h:PWay Ae work fs []):fs=aP Ae [work]:=by
 have:=h.all;simpa using this
theorem PWay.lens1 (wf:WFn Ae) {work:Int} {fs st:List (List Int)} {p:List Int} (h:PWay Ae work fs (p::st)) (h0:0<=work) (hc:cn Ae work<=300):fs.length+st.length+(nd Ae (hd p)).length<=300/\fs.length+st.length+1<=300:=by
 have a:=(h.step wf).1.lens wf h0 hc;have b:=h.lens wf h0 hc;unfold nxS at a;rw [B0,c6,A0] at a;rw [D9] at b;unfold nxF at a
 split at a
 ·rename_i c
  rw [c] at a ⊢;rw [B0] at a;simp only [P0,C1] at a ⊢;omega
 ·omega
end
def qSG:Sp:=fun vs H Q _=>∃ (a:Addr) (Ae:List (List Int)) (work:Int),vs=[.ref a,.int work]/\NetAt H a Ae/\WFn Ae/\Ae.length<=401/\0<=work/\work<(Ae.length:Int)/\∀ H',Same H H'->Q (.int (cap (cn Ae work))) H'
def SortP (Ae:List (List Int)) (work:Int) (ts:List (List Int)):Prop:=ts.Perm (aP Ae [work])/\ts.Pairwise (fun a b=>HT.lexLt b a=false)
theorem SortP.one {Ae:List (List Int)} {work:Int} {a b:List (List Int)} (h:SortP Ae work a) (h':SortP Ae work b):a=b:=
 (h.1.trans h'.1.symm).eq_of_pairwise (fun x y _ _ h1 h2=>L2.G.lexLt_tri x y h2 h1) h.2 h'.2
def TLAt (H:Hp) (l:Addr) (ts:List (List Int)):Prop:=∃ rs:List Addr,H l=some (.lst (rs.map V.ref))/\NetL H rs ts
def oV:Option Int->V
 | none=>.non
 | some i=>.int i
structure Mo where
 dk:Bool
 wk:Int
 rm:Int
def Mo.vs (m:Mo):List V:=match m.dk with | true=>[.str "do",.int m.wk,.int m.rm] | false=>[.str "clear",.int m.rm]
def Mo.res (m:Mo):Option Int:=match m.dk with | true=>some m.wk | false=>none
structure TIn (H:Hp) (a wd sz la mv:Addr) (Ae:List (List Int)) (wides sizes:List Int) (lay:List (Option Int)) (m:Mo) (ns:List Int) (o:Option Int) (s w:Int):Prop where
 net_:NetAt H a Ae
 wides_:H wd=some (.tup (wides.map V.int))
 sizes_:H sz=some (.tup (sizes.map V.int))
 lay_:H la=some (.tup (lay.map oV))
 move:H mv=some (.tup m.vs)
 work:m.dk=true->0<=m.wk/\Ae[m.wk.toNat]?=some ns/\ns.length<=1000/\wides[m.wk.toNat]?=some w
 rm0:0<=m.rm
 at_:lay[m.rm.toNat]?=some o
 size:sizes[m.rm.toNat]?=some s
 len:lay.length<=1000
structure TKit (H:Hp) (a wd sz:Addr) (Ae:List (List Int)) (wides sizes:List Int):Prop where
 net_:NetAt H a Ae
 wf:WFn Ae
 n1:1<=Ae.length
 n6:Ae.length<=6
 wides_:H wd=some (.tup (wides.map V.int))
 lw:wides.length=Ae.length
 w9:∀ x ∈ wides,0<=x/\x<=99
 sizes_:H sz=some (.tup (sizes.map V.int))
 k1:1<=sizes.length
 k5:sizes.length<=5
 s9:∀ x ∈ sizes,0<=x/\x<=99
structure Sm (W:Nat) (d:PyData):Prop where
 sh:d.showable=true
 nd:d.hasDict=false
 ls:d.leavesShort 8=true
 wt:d.weight<=W
theorem Sm.mono {V W:Nat} {d:PyData} (h:Sm V d) (l:V<=W):Sm W d:=⟨h.sh,h.nd,h.ls,M5 h.wt l⟩
theorem qWV {W:Nat}:∀ {ds:List PyData},(∀ d ∈ ds,Sm W d)->B12 ds=true/\B30 ds=false/\A73 8 ds=true/\B45 ds<=ds.length * (W+1)
 | [],_=>⟨rfl,rfl,rfl,F5 _⟩
 | d::ds,h=>by
  have h1:=h d (B5 ..);obtain ⟨a,b,c,e⟩:=qWV (ds:=ds) fun d hd=>h d (B4 _ hd);refine ⟨?_,?_,?_,?_⟩
  ·show (d.showable && B12 ds)=true;rw [h1.sh,a];rfl
  ·show (d.hasDict || B30 ds)=false;rw [h1.nd,b];rfl
  ·show (d.leavesShort 8 && A73 8 ds)=true;rw [h1.ls,c];rfl
  ·show d.weight+1+B45 ds<=(ds.length+1) * (W+1);have:=h1.wt;rw [Nat.succ_mul];omega
theorem Sm.seq {W L:Nat} {b:Bool} {ds:List PyData} (h:∀ d ∈ ds,Sm W d) (l:ds.length<=L):Sm (L * (W+1)) (seqD b ds):=by
 obtain ⟨a1,a2,a3,a4⟩:=qWV h;have l2:ds.length * (W+1)<=L * (W+1):=Nat.mul_le_mul_right _ l;cases b
 ·exact ⟨a1,a2,a3,M5 a4 l2⟩
 ·exact ⟨a1,a2,a3,M5 a4 l2⟩
def numB:PyData->Bool | .int _=>true | _=>false
def qK6:PyData->Bool | .bool _=>true | _=>false
def tupB:PyData->Bool | .tuple _=>true | _=>false
def qCP (e:Int):PyData->Bool | .int i=>decide (0<=i) && decide (i<e) | _=>false
section
variable {K:PySem.W.Frag} {H:Hp}
theorem qIE {n:Nat} {x:V} {d:PyData} (h:DatN H n x d):∃ t,TyOf K H x t/\R6 K t (.type "int")=some (numB d || qK6 d)/\R6 K t (.type "bool")=some (qK6 d)/\R6 K t (.type "tuple")=some (tupB d):=by
 have leaf:qKB x d->∃ t,TyOf K H x t/\R6 K t (.type "int")=some (numB d || qK6 d)/\R6 K t (.type "bool")=some (qK6 d)/\R6 K t (.type "tuple")=some (tupB d):=by
  rintro (⟨rfl,rfl⟩ | ⟨b,rfl,rfl⟩ | ⟨i,rfl,rfl⟩ | ⟨y,rfl,rfl⟩)
  ·exact ⟨_,.non,rfl,rfl,rfl⟩
  ·exact ⟨_,.bl b,rfl,rfl,rfl⟩
  ·exact ⟨_,.int i,rfl,rfl,rfl⟩
  ·exact ⟨_,.str y,rfl,rfl,rfl⟩
 cases n with
 | zero=>exact leaf h
 | succ n=>
  rcases h with h | ⟨b,a,xs,ds,rfl,rfl,h1,_⟩
  ·exact leaf h
  ·cases b
   ·exact ⟨_,.lst h1,rfl,rfl,rfl⟩
   ·exact ⟨_,.tup h1,rfl,rfl,rfl⟩
theorem qJV {n:Nat} {x:V} {d:PyData} (h:DatN H n x d) (hn:numB d=true):∃ i,x=.int i/\d=.int i:=by
 have leaf:qKB x d->∃ i,x=.int i/\d=.int i:=by
  rintro (⟨rfl,rfl⟩ | ⟨b,rfl,rfl⟩ | ⟨i,rfl,rfl⟩ | ⟨y,rfl,rfl⟩)
  ·cases hn
  ·cases hn
  ·exact ⟨i,rfl,rfl⟩
  ·cases hn
 cases n with
 | zero=>exact leaf h
 | succ n=>
  rcases h with h | ⟨b,a,xs,ds,rfl,rfl,h1,_⟩
  ·exact leaf h
  ·cases b <;> cases hn
theorem qF6 {n:Nat} {x:V} {d:PyData} (h:DatN H n x d) (hn:tupB d=true):∃ m a xs ds,n=m+1/\x=.ref a/\d=.tuple ds/\H a=some (.tup xs)/\xs.length=ds.length/\∀ (i:Nat) (x':V) (d':PyData),xs[i]?=some x'->ds[i]?=some d'->DatN H m x' d':=by
 have leaf:qKB x d->False:=by
  rintro (⟨rfl,rfl⟩ | ⟨b,rfl,rfl⟩ | ⟨i,rfl,rfl⟩ | ⟨y,rfl,rfl⟩) <;> cases hn
 cases n with
 | zero=>exact (leaf h).elim
 | succ n=>
  rcases h with h | ⟨b,a,xs,ds,rfl,rfl,h1,h2,h3⟩
  ·exact (leaf h).elim
  ·cases b
   ·cases hn
   ·exact ⟨n,a,xs,ds,rfl,rfl,rfl,h1,h2,h3⟩
end
theorem qOQ:∀ {ds:List PyData},ds.all numB=true->∃ zs:List Int,ds=zs.map Q6
 | [],_=>⟨[],rfl⟩
 | d::ds,h=>by
  rw [x6,C7] at h;obtain ⟨zs,rfl⟩:=qOQ h.2;cases d with
  | int i=>exact ⟨i::zs,rfl⟩
  | _=>cases h.1
def LenN:Nat->PyData->Prop
 | 0,_=>True
 | n+1,d=>∀ (b:Bool) (ds:List PyData),d=seqD b ds->ds.length<=2000/\∀ d' ∈ ds,LenN n d'
section
variable {H H':Hp} {n W:Nat} {x:V}
theorem qZH {i:Int} (h : -2000<=i/\i<=2000):Sm 11 (.int i):=by
 have hb:i.natAbs<2 ^ 11:=by omega
 have hd:i.natAbs.log2<11:=by
  by_cases h0:i.natAbs=0
  ·rw [h0];decide
  ·exact (Nat.log2_lt h0).mpr hb
 refine ⟨decide_eq_true (J2 hd (by decide)),rfl,decide_eq_true ?_,by show (if i == 0 then 0 else i.natAbs.log2+1)<=11;split <;> omega⟩
 show (J9 (toString i)).length<=8;have e:=int_text_length_le10 (a:=i) (k:=6) (by decide) (by omega)
 rw [PySem.ofString_length];omega
end
def qWT:Sp:=fun vs H Q _=>∃ x n d,vs=[x]/\DatN H n x d/\Q (.bl (numB d)) H
def qPL:Sp:=fun vs H Q _=>∃ x n d e,vs=[x,.int e]/\DatN H n x d/\Q (.bl (qCP e d)) H
theorem qWE {α:Type} {xs:List α} {lo hi:Option Int} {x:α} (h:x ∈ cutI xs lo hi):x ∈ xs:=by
 unfold cutI at h;exact Q0 (k4 h)
abbrev Wy:=Int->List Int
def upW (W:Wy) (a b:Int):Wy:=fun x=>if x=a then (W a).erase b else if x=b then W b++[a] else W x
structure Fl0 (W0 W:Wy):Prop where
 nd:∀ x,(W x).Nodup
 ex:∀ x y,y ∈ W0 x->(y ∈ W x ↔ x ∉ W y)
 on:∀ x y,y ∈ W x->y ∈ W0 x\/x ∈ W0 y
structure Anti (W0:Wy):Prop where
 nd:∀ x,(W0 x).Nodup
 no:∀ x y,y ∈ W0 x->x ∉ W0 y
section
variable {W0 W:Wy}
theorem Anti.self (A:Anti W0):Fl0 W0 W0:=⟨A.nd,fun x y h=>⟨fun _=>A.no x y h,fun _=>h⟩,fun _ _ h=>.inl h⟩
theorem qM9 {a b x:Int} (h1:x ≠ a) (h2:x ≠ b):upW W a b x=W x:=by unfold upW;rw [if_neg h1,if_neg h2]
theorem qXM {a b:Int}:upW W a b a=(W a).erase b:=by unfold upW;rw [if_pos rfl]
theorem qXL {a b:Int} (h:b ≠ a):upW W a b b=W b++[a]:=by unfold upW;rw [if_neg h,if_pos rfl]
theorem Fl0.turn (F:Fl0 W0 W) {a b:Int} (h:b ∈ W a) (ne:b ≠ a):Fl0 W0 (upW W a b):=by
 have na:a ∉ W b:=by
  intro z;rcases F.on a b h with e | e
  ·exact (F.ex a b e).mp h z
  ·exact (F.ex b a e).mp z h
 -- who is in the new one
 have mem:∀ x y,y ∈ upW W a b x ↔ (y ∈ W x/\¬ (x=a/\y=b))\/(x=b/\y=a):=by
  intro x y;by_cases e1:x=a
  ·subst e1;rw [qXM,(F.nd x).mem_erase_iff]
   constructor
   ·rintro ⟨h1,h2⟩;exact .inl ⟨h2,fun z=>h1 z.2⟩
   ·rintro (⟨h1,h2⟩ | ⟨h1,h2⟩)
    ·exact ⟨fun z=>h2 ⟨rfl,z⟩,h1⟩
    ·exact absurd h1.symm ne
  ·by_cases e2:x=b
   ·subst e2;rw [qXL e1,C2,B2]
    constructor
    ·rintro (h | h)
     ·exact .inl ⟨h,fun z=>e1 z.1⟩
     ·exact .inr ⟨rfl,h⟩
    ·rintro (⟨h,_⟩ | ⟨_,h⟩)
     ·exact .inl h
     ·exact .inr h
   ·rw [qM9 e1 e2];exact ⟨fun h=>.inl ⟨h,fun z=>e1 z.1⟩,fun h=>h.elim (fun z=>z.1) fun z=>absurd z.1 e2⟩
 refine ⟨fun x=>?_,fun x y hy=>?_,fun x y hy=>?_⟩
 ·by_cases e1:x=a
  ·subst e1;rw [qXM];exact (F.nd x).erase _
  ·by_cases e2:x=b
   ·subst e2;rw [qXL e1,O8];exact ⟨F.nd x,by simp,fun u hu v hv z=>na (by rw [B2.mp hv] at z;exact z ▸ hu)⟩
   ·rw [qM9 e1 e2];exact F.nd x
 ·rw [mem,mem];have:=F.ex x y hy;by_cases c1:x=a/\y=b
  ·obtain ⟨rfl,rfl⟩:=c1
   constructor
   ·rintro (⟨_,z⟩ | ⟨z,_⟩)
    ·exact absurd ⟨rfl,rfl⟩ z
    ·exact absurd z.symm ne
   ·intro z;exact absurd (.inr ⟨rfl,rfl⟩) z
  ·by_cases c2:x=b/\y=a
   ·obtain ⟨rfl,rfl⟩:=c2
    constructor
    ·rintro _ (⟨_,z⟩ | ⟨z,_⟩)
     ·exact z ⟨rfl,rfl⟩
     ·exact ne z.symm
    ·exact fun _=>.inr ⟨rfl,rfl⟩
   ·constructor
    ·rintro (⟨z,_⟩ | z)
     ·rintro (⟨u,_⟩ | ⟨u,v⟩)
      ·exact this.mp z u
      ·exact c1 ⟨v,u⟩
     ·exact absurd z c2
    ·intro z;refine .inl ⟨this.mpr fun u=>z (.inl ⟨u,fun v=>c2 ⟨v.2,v.1⟩⟩),c1⟩
 ·rcases (mem x y).mp hy with ⟨z,_⟩ | ⟨rfl,rfl⟩
  ·exact F.on x y z
  ·exact (F.on y x h).symm
def Pth (W:Wy):List Int->Prop
 | f::s::r=>f ∈ W s/\Pth W (s::r)
 | _=>True
def qCQ:List Int->Wy->Wy
 | f::s::r,W=>qCQ (s::r) (upW W s f)
 | _,W=>W
theorem qWY {W W':Wy}:∀ {r:List Int},Pth W r->(∀ x ∈ r.tail,W' x=W x)->Pth W' r
 | [],_,_=>trivial
 | [_],_,_=>trivial
 | f::s::r,h,e=>⟨by rw [e s B5];exact h.1,qWY h.2 fun x hx=>e x (B4 _ hx)⟩
def oneI (p:Prop) [Decidable p]:Nat:=if p then 1 else 0
theorem qL5:∀ (st:List Int) (W:Wy),Fl0 W0 W->Pth W st->st.Nodup->∀ g l,st.head?=some g->st.getLast?=some l->Fl0 W0 (qCQ st W)/\∀ x,(qCQ st W x).length+oneI (x=l)=(W x).length+oneI (x=g)
 | [],_,_,_,_,_,_,h,_=>by cases h
 | [s],W,F,_,_,g,l,h1,h2=>by cases h1;cases h2;exact ⟨F,fun x=>rfl⟩
 | f::s::r,W,F,P,n,g,l,h1,h2=>by
  cases h1;obtain ⟨n1,n2⟩:=O0.mp n;have nfs:f ≠ s:=fun z=>n1 (by rw [z];exact B5)
  have F1:=F.turn P.1 nfs;have P1:Pth (upW W s f) (s::r):=qWY P.2 fun x hx=>by
   have hx:x ∈ r:=hx;exact qM9 (fun z=>(O0.mp n2).1 (z ▸ hx)) fun z=>n1 (z ▸ B4 _ hx)
  obtain ⟨k1,k2⟩:=qL5 (s::r) (upW W s f) F1 P1 n2 s l rfl (by rw [A40] at h2;exact h2)
  refine ⟨k1,fun x=>?_⟩;have:=k2 x;show (qCQ (s::r) (upW W s f) x).length+_=_;rw [this];unfold oneI;by_cases e1:x=s
  ·subst e1;rw [qXM,Y7 P.1,if_pos rfl,if_neg (fun z=>nfs z.symm)];have:=A60 P.1;omega
  ·by_cases e2:x=f
   ·subst e2;rw [qXL e1,B0,if_neg e1,if_pos rfl]
    rfl
   ·rw [qM9 e1 e2,if_neg e1,if_neg e2]
end
section
variable (Ae:List (List Int)) (path:List Int)
def qB5 (w:Int):Bool:=decide (0<=w) && decide (w<(Ae.length:Int)) && decide (w ∉ path)
def qDU (n:Int):Bool:=decide (n ∉ path) && (path.drop 1).any fun w=>decide (n ∈ nd Ae w)
def fwW (i:Nat):Wy:=fun x=>
 if x = -1 then ((qBO 0 i).filter fun w=>qB5 Ae path w && (nd Ae w).isEmpty).map (2 * ·)
 else if x % 2=0 then (if qB5 Ae path (x / 2) && decide (x / 2<(i:Int)) then [x+1] else [])
 else (if qB5 Ae path (x / 2) && decide (x / 2<(i:Int)) then (if qDU Ae path (x / 2) then [-2] else [])++((qBO 0 i).filter fun u=>qB5 Ae path u && decide (x / 2 ∈ nd Ae u)).map (2 * ·) else [])
end
section
variable {Ae:List (List Int)} {path:List Int}
theorem free_in {w:Int}:qB5 Ae path w=true ↔ (0<=w/\w<(Ae.length:Int))/\w ∉ path:=by
 unfold qB5;rw [C7,C7,decide_eq_true_eq,decide_eq_true_eq,decide_eq_true_eq]
abbrev W0 (Ae:List (List Int)) (path:List Int):Wy:=fwW Ae path Ae.length
theorem w0_s {y:Int}:y ∈ W0 Ae path (-1) ↔ ∃ w,y=2 * w/\qB5 Ae path w=true/\nd Ae w=[]:=by
 show y ∈ (if (-1:Int) = -1 then _ else _) ↔ _
 rw [if_pos rfl,E1]
 constructor
 ·rintro ⟨w,hw,rfl⟩;obtain ⟨_,h2⟩:=V0.mp hw;rw [C7,A50] at h2;exact ⟨w,rfl,h2⟩
 ·rintro ⟨w,rfl,h1,h2⟩;refine ⟨w,V0.mpr ⟨mem_rangeI.mpr (free_in.mp h1).1,?_⟩,rfl⟩;rw [C7,A50];exact ⟨h1,h2⟩
theorem w0_e {w:Int} (h0:0<=w):W0 Ae path (2 * w)=if qB5 Ae path w=true then [2 * w+1] else []:=by
 show (if 2 * w = -1 then _ else if 2 * w % 2=0 then _ else _)=_
 rw [if_neg (by omega),if_pos (by omega),show 2 * w / 2=w by omega]
 cases e:qB5 Ae path w with
 | false=>rfl
 | true=>rw [decide_eq_true (free_in.mp e).1.2];rfl
theorem w0_o {w y:Int} (h0:0<=w):y ∈ W0 Ae path (2 * w+1) ↔ qB5 Ae path w=true/\((y = -2/\qDU Ae path w=true)\/∃ u,y=2 * u/\qB5 Ae path u=true/\w ∈ nd Ae u):=by
 show y ∈ (if 2 * w+1 = -1 then _ else if (2 * w+1) % 2=0 then _ else _) ↔ _
 rw [if_neg (by omega),if_neg (by omega),show (2 * w+1) / 2=w by omega]
 cases e:qB5 Ae path w with
 | false=>simp
 | true=>
  rw [decide_eq_true (free_in.mp e).1.2,if_pos (by rfl),C2,E1]
  constructor
  ·rintro (h | ⟨u,hu,rfl⟩)
   ·refine ⟨rfl,.inl ?_⟩
    split at h
    ·rename_i c;exact ⟨B2.mp h,c⟩
    ·cases h
   ·obtain ⟨_,h2⟩:=V0.mp hu;rw [C7,decide_eq_true_eq] at h2;exact ⟨rfl,.inr ⟨u,rfl,h2⟩⟩
  ·rintro ⟨_,⟨rfl,c⟩ | ⟨u,rfl,h1,h2⟩⟩
   ·left;rw [if_pos c];exact B5
   ·right
    refine ⟨u,V0.mpr ⟨mem_rangeI.mpr (free_in.mp h1).1,?_⟩,rfl⟩;rw [C7,decide_eq_true_eq];exact ⟨h1,h2⟩
theorem qD9 {x y:Int} (h:y ∈ W0 Ae path x):(x = -1/\∃ w,y=2 * w/\qB5 Ae path w=true/\nd Ae w=[])\/(∃ w,x=2 * w/\y=2 * w+1/\qB5 Ae path w=true)\/∃ w,x=2 * w+1/\0<=w/\qB5 Ae path w=true/\((y = -2/\qDU Ae path w=true)\/∃ u,y=2 * u/\qB5 Ae path u=true/\w ∈ nd Ae u):=by
 by_cases e1:x = -1
 ·subst e1;exact .inl ⟨rfl,w0_s.mp h⟩
 ·by_cases e2:x % 2=0
  ·right;left
   have h':=h;unfold W0 fwW at h;rw [if_neg e1,if_pos e2] at h
   split at h
   ·rename_i c
    rw [C7] at c;exact ⟨x / 2,by omega,by rw [B2.mp h];omega,c.1⟩
   ·cases h
  ·right;right
   have h':=h;unfold W0 fwW at h;rw [if_neg e1,if_neg e2] at h
   split at h
   ·rename_i c
    rw [C7] at c;have b:=(free_in.mp c.1).1;have ex:x=2 * (x / 2)+1:=by omega
    refine ⟨x / 2,ex,b.1,?_⟩;rw [ex] at h';exact (w0_o b.1).mp h'
   ·cases h
theorem qMS (a b:Int):(qBO a b).Nodup:=(qH8 a b).imp fun h e=>by omega
theorem qLO {a b:Int} (h:2 * a=2 * b):a=b:=by omega
theorem qMZ {l:List Int} (h:l.Nodup):(l.map (2 * ·)).Nodup:=by
 rw [List.Nodup,R5];exact h.imp fun z e=>z (by omega)
theorem qXJ (wf:WFn Ae):Anti (W0 Ae path):=by
 constructor
 ·intro x;unfold W0 fwW
  split
  ·exact qMZ ((qMS _ _).filter _)
  ·split
   ·split
    ·simp
    ·exact .nil
   ·split
    ·rw [O8];refine ⟨by split <;> simp,qMZ ((qMS _ _).filter _),fun a ha b hb z=>?_⟩
     obtain ⟨u,hu,rfl⟩:=E1.mp hb;have:=(mem_rangeI.mp (V0.mp hu).1).1
     split at ha
     ·rw [B2.mp ha] at z;omega
     ·cases ha
    ·exact .nil
 ·intro x y h z;rcases qD9 h with ⟨rfl,w,rfl,_⟩ | ⟨w,rfl,rfl,f⟩ | ⟨w,rfl,w0,f,⟨rfl,_⟩ | ⟨u,rfl,g,hu⟩⟩
  ·rcases qD9 z with ⟨_,v,e,_⟩ | ⟨v,e,e2,f2⟩ | ⟨v,e,_,_,⟨e2,_⟩ | ⟨u,e2,_⟩⟩
   ·omega
   ·have:=(free_in.mp f2).1.1;omega
   ·cases e2
   ·omega
  ·have w0:=(free_in.mp f).1.1;rcases (w0_o w0).mp z with ⟨_,⟨e,_⟩ | ⟨u,e,_,hu⟩⟩
   ·omega
   ·have e:=qLO e;subst e;have:=qD3 wf w0 hu;omega
  ·rcases qD9 z with ⟨e,_⟩ | ⟨v,e,e2,f2⟩ | ⟨v,e,_⟩
   ·omega
   ·have:=(free_in.mp f2).1.1;omega
   ·omega
  ·have u0:=(free_in.mp g).1.1;rw [w0_e u0,if_pos g] at z;have:=B2.mp z;have e:w=u:=by omega
   subst e;have:=qD3 wf w0 hu;omega
structure Fl (Ae:List (List Int)) (path:List Int) (W:Wy):Prop where
 fl:Fl0 (W0 Ae path) W
 len:∀ x,x ≠ -1->x ≠ -2->(W x).length=(W0 Ae path x).length
theorem qW9 (wf:WFn Ae):Fl Ae path (W0 Ae path):=⟨(qXJ wf).self,fun _ _ _=>rfl⟩
theorem Fl.turn {W:Wy} (F:Fl Ae path W) {st:List Int} (P:Pth W st) (n:st.Nodup) (h1:st.head?=some (-2)) (h2:st.getLast?=some (-1)):Fl Ae path (qCQ st W)/\(qCQ st W (-2)).length=(W (-2)).length+1:=by
 obtain ⟨k1,k2⟩:=qL5 st W F.fl P n _ _ h1 h2;refine ⟨⟨k1,fun x a b=>?_⟩,?_⟩
 ·have:=k2 x;unfold oneI at this;rw [if_neg a,if_neg b] at this;rw [<- F.len x a b];exact this
 ·have:=k2 (-2);unfold oneI at this;rw [if_neg (by decide),if_pos rfl] at this
  exact this
def Flw (W:Wy) (w:Int):Prop:=2 * w+1 ∉ W (2 * w)
variable {W:Wy}
theorem Fl.in1 (F:Fl Ae path W) {w:Int} (f:qB5 Ae path w=true):∃ p,W (2 * w)=[p]:=by
 have b:=(free_in.mp f).1.1;have:=F.len (2 * w) (by omega) (by omega)
 rw [w0_e b,if_pos f] at this
 match e:W (2 * w),this with
 | [p],_=>exact ⟨p,rfl⟩
theorem Fl.pred (F:Fl Ae path W) {w:Int} (f:qB5 Ae path w=true) (h:Flw W w):∃ p,W (2 * w)=[p]/\2 * w ∉ W p/\((p = -1/\nd Ae w=[])\/∃ n,p=2 * n+1/\qB5 Ae path n=true/\n ∈ nd Ae w):=by
 obtain ⟨p,e⟩:=F.in1 f;have b:=(free_in.mp f).1.1;have hp:p ∈ W (2 * w):=by rw [e];exact B5
 have n1:p ≠ 2 * w+1:=fun z=>h (z ▸ hp);rcases F.fl.on _ _ hp with z | z
 ·rw [w0_e b,if_pos f] at z;exact absurd (B2.mp z) n1
 ·refine ⟨p,e,fun y=>(F.fl.ex _ _ z).mp y hp,?_⟩;rcases qD9 z with ⟨rfl,v,e1,_,e2⟩ | ⟨v,e1,e2,_⟩ | ⟨v,rfl,v0,g,⟨e1,_⟩ | ⟨u,e1,_,hu⟩⟩
  ·rw [<- qLO e1] at e2;exact .inl ⟨rfl,e2⟩
  ·omega
  ·omega
  ·rw [<- qLO e1] at hu;exact .inr ⟨v,rfl,g,hu⟩
theorem Fl.out (F:Fl Ae path W) {n y:Int} (f:qB5 Ae path n=true) (h1:y ∈ W0 Ae path (2 * n+1)) (h2:y ∉ W (2 * n+1)):Flw W n/\∀ z ∈ W0 Ae path (2 * n+1),z ∉ W (2 * n+1)->z=y:=by
 have b:=(free_in.mp f).1.1;have ln:=F.len (2 * n+1) (by omega) (by omega)
 have new:∀ z ∈ W (2 * n+1),z ∉ W0 Ae path (2 * n+1)->z=2 * n:=by
  intro z hz no;rcases F.fl.on _ _ hz with u | u
  ·exact absurd u no
  ·rcases qD9 u with ⟨rfl,v,e1,_⟩ | ⟨v,rfl,e2,_⟩ | ⟨v,rfl,_,_,⟨e1,_⟩ | ⟨u,e1,_⟩⟩ <;> omega
 have has:2 * n ∈ W (2 * n+1):=by
  refine P9 fun no=>?_;have sub:∀ z ∈ W (2 * n+1),z ∈ (W0 Ae path (2 * n+1)).erase y:=fun z hz=>by
   refine (Y0 (show z ≠ y from fun e=>h2 (e ▸ hz))).mpr ?_;refine P9 fun nz=>no ?_;have:=new z hz nz;subst this;exact hz
  have:=F0 (F.fl.nd (2 * n+1)) sub;rw [Y7 h1] at this;have:=A60 h1;omega
 constructor
 ·have e0:2 * n+1 ∈ W0 Ae path (2 * n):=by rw [w0_e b,if_pos f];exact B5
  exact fun z=>(F.fl.ex _ _ e0).mp z has
 ·intro z hz no;refine P9 fun ne=>?_;have sub:∀ v ∈ W (2 * n+1),v ∈ 2 * n::((W0 Ae path (2 * n+1)).erase y).erase z:=fun v hv=>by
   by_cases c:v ∈ W0 Ae path (2 * n+1)
   ·refine B4 _ ((Y0 (show v ≠ z from fun e=>no (e ▸ hv))).mpr ((Y0 (show v ≠ y from fun e=>h2 (e ▸ hv))).mpr c))
   ·rw [new v hv c];exact B5
  have l1:=F0 (F.fl.nd (2 * n+1)) sub;rw [D9,Y7 ((Y0 ne).mpr hz),Y7 h1] at l1;have:2<=(W0 Ae path (2 * n+1)).length:=by
   have:=F0 (l₁:=[y,z]) (l₂:=W0 Ae path (2 * n+1)) (by simp;exact fun e=>ne e.symm) (by intro v hv;simp at hv;rcases hv with rfl | rfl <;> assumption)
   simpa using this
  omega
inductive Sd (W:Wy):Int->List Int->Prop
 | top {w:Int}:W (2 * w)=[-1]->Sd W w [w]
 | step {w n:Int} {s:List Int}:0<=n->W (2 * w)=[2 * n+1]->Sd W n s->Sd W w (s++[w])
theorem qO1 {w:Int} {s:List Int} (h:Sd W w s):s.getLast?=some w:=by
 cases h with
 | top _=>rfl
 | step _ _ _=>rw [A81];rfl
theorem Fl.side (F:Fl Ae path W) (wf:WFn Ae):∀ (k:Nat) (w:Int),w.toNat<k->qB5 Ae path w=true->Flw W w->∃ s,Sd W w s
 | 0,_,h,_,_=>absurd h (o1 _)
 | k+1,w,h,f,fl=>by
  obtain ⟨p,e1,e2,⟨rfl,_⟩ | ⟨n,rfl,g,hn⟩⟩:=F.pred f fl
  ·exact ⟨[w],.top e1⟩
  ·have b:=(free_in.mp f).1.1;have bn:=qD3 wf b hn;have gn:=(free_in.mp g).1.1;obtain ⟨fn,_⟩:=F.out g (y:=2 * w) ((w0_o gn).mpr ⟨g,.inr ⟨w,rfl,f,hn⟩⟩) e2;obtain ⟨s,hs⟩:=Fl.side F wf k n (by omega) g fn
   exact ⟨s++[w],.step gn e1 hs⟩
structure SdIs (Ae:List (List Int)) (path:List Int) (W:Wy) (w:Int) (s:List Int):Prop where
 up:s.Pairwise (·<·)
 le:∀ x ∈ s,x<=w
 fr:∀ x ∈ s,qB5 Ae path x=true/\Flw W x
 hd:∃ t r,s=t::r/\nd Ae t=[]
 nx:∀ x ∈ s,x=w\/∃ u ∈ s,x<u/\W (2 * u)=[2 * x+1]
 co:∀ i a b,s[i]?=some a->s[i+1]?=some b->a ∈ nd Ae b
theorem Fl.sdIs (F:Fl Ae path W) (wf:WFn Ae) {w:Int} {s:List Int} (h:Sd W w s):qB5 Ae path w=true->Flw W w->SdIs Ae path W w s:=by
 induction h with
 | @top w e=>
  intro f fl;obtain ⟨p,e1,_,⟨rfl,nn⟩ | ⟨n,rfl,g,_⟩⟩:=F.pred f fl
  ·exact ⟨by simp,by simp,by simp;exact ⟨f,fl⟩,⟨w,[],rfl,nn⟩,by simp,fun i a b h1 h2=>by simp at h2⟩
  ·rw [e] at e1;have:=(X6 e1).1;have:=(free_in.mp g).1.1;exfalso;omega
 | @step w n s h0 e hs ih=>
  intro f fl;obtain ⟨p,e1,e2,⟨rfl,nn⟩ | ⟨n',rfl,g,hn⟩⟩:=F.pred f fl
  ·rw [e] at e1;have:=(X6 e1).1
   exfalso;omega
  ·have en:n=n':=by rw [e] at e1;have:=(X6 e1).1;omega
   subst en;have b:=(free_in.mp f).1.1;have bn:=qD3 wf b hn;have gn:=(free_in.mp g).1.1;obtain ⟨fn,_⟩:=F.out g (y:=2 * w) ((w0_o gn).mpr ⟨g,.inr ⟨w,rfl,f,hn⟩⟩) e2;have k:=ih g fn;have hl:=qO1 hs;have nin:n ∈ s:=List.mem_of_getLast? hl;refine ⟨?_,fun x hx=>?_,fun x hx=>?_,?_,fun x hx=>?_,fun i a c h1 h2=>?_⟩
   ·rw [V3];exact ⟨k.up,by simp,fun x hx y hy=>by rw [B2.mp hy];have:=k.le x hx;omega⟩
   ·rcases C2.mp hx with z | z
    ·have:=k.le x z;omega
    ·rw [B2.mp z];exact J7 _
   ·rcases C2.mp hx with z | z
    ·exact k.fr x z
    ·rw [B2.mp z];exact ⟨f,fl⟩
   ·obtain ⟨t,r,rfl,ht⟩:=k.hd;exact ⟨t,r++[w],rfl,ht⟩
   ·rcases C2.mp hx with z | z
    ·rcases k.nx x z with rfl | ⟨u,hu,h1,h2⟩
     ·exact .inr ⟨w,J8 _ B5,by omega,e⟩
     ·exact .inr ⟨u,S0 _ hu,h1,h2⟩
    ·exact .inl (B2.mp z)
   ·by_cases c1:i+1<s.length
    ·rw [F7 (by omega)] at h1
     rw [F7 c1] at h2;exact k.co i a c h1 h2
    ·have li:=(A6.mp h2).1;rw [B0,C1] at li;have ei:i+1=s.length:=by omega
     rw [L6 (by omega),ei,a9] at h2
     cases h2;rw [F7 (by omega)] at h1
     rw [List.getLast?_eq_getElem?,show s.length - 1=i by omega,h1] at hl
     cases hl;exact hn
theorem Fl.apart (F:Fl Ae path W) (wf:WFn Ae) {w w':Int} {s s':List Int} (k:SdIs Ae path W w s) (k':SdIs Ae path W w' s') (h:2 * w+1 ∈ W (-2)) (h':2 * w'+1 ∈ W (-2)):∀ (m:Nat) (x:Int),(w - x).toNat<m->x ∈ s->x ∈ s'->w=w'
 | 0,_,hm,_,_=>absurd hm (o1 _)
 | m+1,x,hm,hx,hx'=>by
  have fx:=(k.fr x hx).1;have bx:=(free_in.mp fx).1.1
  -- what is turned behind x
  have out:∀ {v:Int} {t:List Int},SdIs Ae path W v t->2 * v+1 ∈ W (-2)->x ∈ t->(x=v/\(-2:Int) ∈ W0 Ae path (2 * x+1)/\(-2:Int) ∉ W (2 * x+1))\/∃ u ∈ t,x<u/\2 * u ∈ W0 Ae path (2 * x+1)/\2 * u ∉ W (2 * x+1):=by
   intro v t kt hv ht;rcases kt.nx x ht with rfl | ⟨u,hu,h1,h2⟩
   ·left
    rcases F.fl.on _ _ hv with z | z
    ·rcases qD9 z with ⟨e,_⟩ | ⟨v,e,e2,_⟩ | ⟨v,e,_⟩ <;> omega
    ·exact ⟨rfl,z,fun y=>(F.fl.ex _ _ z).mp y hv⟩
   ·right
    have fu:=kt.fr u hu;obtain ⟨p,e1,e2,⟨rfl,nn⟩ | ⟨n,rfl,g,hn⟩⟩:=F.pred fu.1 fu.2
    ·rw [h2] at e1;have:=(X6 e1).1;exfalso;omega
    ·have en:x=n:=by rw [h2] at e1;have:=(X6 e1).1;omega
     subst en;exact ⟨u,hu,h1,(w0_o bx).mpr ⟨fx,.inr ⟨u,rfl,fu.1,hn⟩⟩,e2⟩
  rcases out k h hx with ⟨rfl,a1,a2⟩ | ⟨u,hu,lt,a1,a2⟩
  ·rcases out k' h' hx' with ⟨rfl,_⟩ | ⟨u',hu',_,b1,b2⟩
   ·rfl
   ·have:=(F.out fx a1 a2).2 _ b1 b2;have:=(free_in.mp (k'.fr u' hu').1).1.1;omega
  ·rcases out k' h' hx' with ⟨rfl,b1,b2⟩ | ⟨u',hu',_,b1,b2⟩
   ·have:=(F.out fx b1 b2).2 _ a1 a2;have:=(free_in.mp (k.fr u hu).1).1.1;omega
   ·have e:=(F.out fx a1 a2).2 _ b1 b2;have e:u'=u:=by omega
    subst e;have:=k.le u' hu;exact Fl.apart F wf k k' h h' m u' (by omega) hu hu'
theorem Fl.ends (F:Fl Ae path W) {x:Int} (h:x ∈ W (-2)):∃ w,x=2 * w+1/\qB5 Ae path w=true/\qDU Ae path w=true/\Flw W w:=by
 rcases F.fl.on _ _ h with z | z
 ·rcases qD9 z with ⟨e,_⟩ | ⟨v,e,e2,f⟩ | ⟨v,e,b,_⟩
  ·cases e
  ·have:=(free_in.mp f).1.1;omega
  ·omega
 ·rcases qD9 z with ⟨e,v,e2,f,_⟩ | ⟨v,e,e2,f⟩ | ⟨w,rfl,b,f,⟨_,c⟩ | ⟨u,e2,f2,_⟩⟩
  ·have:=(free_in.mp f).1.1;omega
  ·have:=(free_in.mp f).1.1;omega
  ·exact ⟨w,rfl,f,c,(F.out f z fun y=>(F.fl.ex _ _ z).mp y h).1⟩
  ·have:=(free_in.mp f2).1.1;omega
end
abbrev Cm:=List (Int × Int)
def vis (cm:Cm) (x:Int):Bool:=decide (x = -1) || cm.any fun p=>decide (p.1=x)
def look (cm:Cm) (x:Int):Option Int:=(cm.find? fun p=>decide (p.1=x)).map (·.2)
def dfsF (stop:Int):List Int->Cm × List Int->Cm × List Int
 | [],s=>s
 | f::r,s=>dfsF stop r (if vis s.1 f then s else (s.1++[(f,stop)],s.2++[f]))
def dfsC (s:Cm × List Int):Bool:=!s.2.isEmpty && !vis s.1 (-2)
inductive Dfs (W:Wy):Cm × List Int->Cm × List Int->Prop
 | stop {s}:dfsC s=false->Dfs W s s
 | go {cm:Cm} {due:List Int} {x:Int} {t}:vis cm (-2)=false->Dfs W (dfsF x (W x) (cm,due)) t->Dfs W (cm,due++[x]) t
inductive Back (cm:Cm):Int->List Int->Prop
 | src:Back cm (-1) [-1]
 | step {x p:Int} {r:List Int}:x ≠ -1->look cm x=some p->Back cm p r->Back cm x (x::r)
def WB (W:Wy) (st:List Int):Prop:=∃ cm due,Dfs W ([],[-1]) (cm,due)/\((vis cm (-2)=false/\st=[])\/(vis cm (-2)=true/\Back cm (-2) st))
theorem Back.one {cm:Cm} {x:Int} {r r':List Int} (h:Back cm x r):Back cm x r'->r=r':=by
 induction h generalizing r' with
 | src=>
  intro k;cases k with
  | src=>rfl
  | step h _ _=>exact absurd rfl h
 | step h1 h2 _ ih=>
  intro k;cases k with
  | src=>exact absurd rfl h1
  | step _ k2 k3=>
   have:=J5 (h2.symm.trans k2);subst this;rw [ih k3]
structure Gd (W:Wy) (cm:Cm):Prop where
 nd:(cm.map (·.1)).Nodup
 at_:∀ (i:Nat) f p,cm[i]?=some (f,p)->f ∈ W p/\f ≠ -1/\(p = -1\/∃ j q,j<i/\cm[j]?=some (p,q))
theorem vis_iff {cm:Cm} {x:Int}:vis cm x=true ↔ x = -1\/∃ (i:Nat) (q:Int),cm[i]?=some (x,q):=by
 unfold vis;rw [A65,decide_eq_true_eq,W9];refine or_congr_right ⟨?_,?_⟩
 ·rintro ⟨⟨y,q⟩,h1,h2⟩;have:=of_decide_eq_true h2;dsimp only at this;subst this;obtain ⟨i,hi⟩:=M7 h1;exact ⟨i,q,hi⟩
 ·rintro ⟨i,q,h⟩;exact ⟨(x,q),C5 h,decide_eq_true rfl⟩
theorem Gd.snoc {W:Wy} {cm:Cm} (G:Gd W cm) {f p:Int} (h1:f ∈ W p) (h2:vis cm f=false) (h3:vis cm p=true):Gd W (cm++[(f,p)]):=by
 have nv:¬ (f = -1\/∃ (i:Nat) (q:Int),cm[i]?=some (f,q)):=fun z=>by rw [vis_iff.mpr z] at h2;cases h2
 refine ⟨?_,fun i g q e=>?_⟩
 ·rw [B6,O8];refine ⟨G.nd,by simp,fun a ha b hb z=>?_⟩
  obtain ⟨⟨y,q⟩,hy,rfl⟩:=E1.mp ha;obtain ⟨i,hi⟩:=M7 hy;simp at hb;rw [hb] at z;dsimp only at z;subst z;exact nv (.inr ⟨i,q,hi⟩)
 ·by_cases c:i<cm.length
  ·rw [F7 c] at e;obtain ⟨a,b,d⟩:=G.at_ i g q e;refine ⟨a,b,d.imp id ?_⟩;rintro ⟨j,r,hj,ej⟩;exact ⟨j,r,hj,by rw [F7 (by omega)];exact ej⟩
  ·have li:=(A6.mp e).1;rw [B0,C1] at li;have ei:i=cm.length:=by omega
   subst ei;rw [L6 (B3 _),a9] at e;cases e;refine ⟨h1,fun z=>nv (.inl z),?_⟩;rcases vis_iff.mp h3 with z | ⟨j,r,ej⟩
   ·exact .inl z
   ·have hj:=(A6.mp ej).1;exact .inr ⟨j,r,hj,by rw [F7 hj];exact ej⟩
theorem qTG {cm:Cm} (n:(cm.map (·.1)).Nodup) {i:Nat} {f p:Int} (h:cm[i]?=some (f,p)):look cm f=some p:=by
 unfold look
 induction cm generalizing i with
 | nil=>cases h
 | cons q cm ih=>
  obtain ⟨n1,n2⟩:=O0.mp n;cases i with
  | zero=>
   cases h;simp [Y3]
  | succ i=>
   have hm:=C5 (l:=cm) (i:=i) h;rw [d7 fun z=>?_]
   ·exact ih n2 h
   ·have:=of_decide_eq_true z;exact n1 (E1.mpr ⟨(f,p),hm,this.symm⟩)
theorem Gd.back {W:Wy} {cm:Cm} (G:Gd W cm):∀ (i:Nat) (f p:Int),cm[i]?=some (f,p)->∃ r,Back cm f r/\Pth W r/\r.Nodup/\r.head?=some f/\r.getLast?=some (-1)/\∀ x ∈ r,x = -1\/∃ j q,j<=i/\cm[j]?=some (x,q)
 | i,f,p,h=>by
  obtain ⟨h1,h2,h3⟩:=G.at_ i f p h;have hl:=qTG G.nd h;rcases h3 with rfl | ⟨j,q,hj,ej⟩
  ·refine ⟨[f,-1],.step h2 hl .src,⟨h1,trivial⟩,by simp;exact h2,rfl,rfl,fun x hx=>?_⟩
   simp at hx;rcases hx with rfl | rfl
   ·exact .inr ⟨i,-1,B3 _,h⟩
   ·exact .inl rfl
  ·obtain ⟨r,b1,b2,b3,b4,b5,b6⟩:=Gd.back G j p q ej;obtain ⟨r',rfl⟩:∃ r',r=p::r':=by
    cases r with
    | nil=>cases b4
    | cons y r'=>cases b4;exact ⟨r',rfl⟩
   refine ⟨f::p::r',.step h2 hl b1,⟨h1,b2⟩,O0.mpr ⟨fun z=>?_,b3⟩,rfl,by rw [A40];exact b5,fun x hx=>?_⟩
   ·rcases b6 f z with e | ⟨k,s,hk,ek⟩
    ·exact h2 e
    ·have n:=G.nd;have e1:(cm.map (·.1))[i]?=some f:=by rw [C4,h];rfl
     have e2:(cm.map (·.1))[k]?=some f:=by rw [C4,ek];rfl
     have:=(A30 (A6.mp e1).1 n).mp (e1.trans e2.symm);omega
   ·rcases C9.mp hx with rfl | hx
    ·exact .inr ⟨i,p,B3 _,h⟩
    ·exact (b6 x hx).imp id fun ⟨k,s,hk,ek⟩=>⟨k,s,by omega,ek⟩
 termination_by i=>i
def StOk (W:Wy) (st:List Int):Prop:=st=[]\/(Pth W st/\st.Nodup/\st.head?=some (-2)/\st.getLast?=some (-1))
theorem qaG {W:Wy}:Gd W []:=⟨by simp,fun i f p e=>by cases e⟩
structure Sk (W:Wy) (s:Cm × List Int):Prop where
 gd:Gd W s.1
 due:∀ x ∈ s.2,vis s.1 x=true
theorem qS3 {cm:Cm} {x:Int} {q:Int × Int} (h:vis cm x=true):vis (cm++[q]) x=true:=by
 rcases vis_iff.mp h with z | ⟨i,r,e⟩
 ·exact vis_iff.mpr (.inl z)
 ·exact vis_iff.mpr (.inr ⟨i,r,by rw [F7 (A6.mp e).1];exact e⟩)
theorem qXK {cm:Cm} {x q:Int}:vis (cm++[(x,q)]) x=true:=vis_iff.mpr (.inr ⟨cm.length,q,by rw [L6 (B3 _),a9];rfl⟩)
def dfsO (stop f:Int) (s:Cm × List Int):Cm × List Int:=if vis s.1 f then s else (s.1++[(f,stop)],s.2++[f])
theorem qNH {stop f:Int}:∀ (r:List Int) (s:Cm × List Int),dfsF stop (r++[f]) s=dfsO stop f (dfsF stop r s)
 | [],s=>rfl
 | g::r,s=>by
  show dfsF stop (r++[f]) _=dfsO stop f (dfsF stop r _);exact qNH r _
theorem Sk.one {W:Wy} {s:Cm × List Int} (h:Sk W s) {stop f:Int} (h1:f ∈ W stop) (h2:vis s.1 stop=true):Sk W (dfsO stop f s)/\vis (dfsO stop f s).1 stop=true:=by
 unfold dfsO;cases e:vis s.1 f with
 | true=>rw [if_pos rfl];exact ⟨h,h2⟩
 | false=>
  rw [if_neg (by simp)]
  refine ⟨⟨h.gd.snoc h1 e h2,fun x hx=>?_⟩,qS3 h2⟩;rcases C2.mp hx with z | z
  ·exact qS3 (h.due x z)
  ·rw [B2.mp z];exact qXK
def inK (Ae:List (List Int)) (path:List Int) (i:Nat) (k:Int):Prop:=k = -1\/k = -2\/∃ w,qB5 Ae path w=true/\w<(i:Int)/\(k=2 * w\/k=2 * w+1)
theorem qPC {Ae:List (List Int)} {path:List Int} {x y:Int} (h:y ∈ W0 Ae path x):inK Ae path Ae.length x/\inK Ae path Ae.length y:=by
 rcases qD9 h with ⟨rfl,w,rfl,f,_⟩ | ⟨w,rfl,rfl,f⟩ | ⟨w,rfl,w0,f,⟨rfl,_⟩ | ⟨u,rfl,g,_⟩⟩
 ·exact ⟨.inl rfl,.inr (.inr ⟨w,f,(free_in.mp f).1.2,.inl rfl⟩)⟩
 ·exact ⟨.inr (.inr ⟨w,f,(free_in.mp f).1.2,.inl rfl⟩),.inr (.inr ⟨w,f,(free_in.mp f).1.2,.inr rfl⟩)⟩
 ·exact ⟨.inr (.inr ⟨w,f,(free_in.mp f).1.2,.inr rfl⟩),.inr (.inl rfl)⟩
 ·exact ⟨.inr (.inr ⟨w,f,(free_in.mp f).1.2,.inr rfl⟩),.inr (.inr ⟨u,g,(free_in.mp g).1.2,.inl rfl⟩)⟩
theorem Fl0.dom {Ae:List (List Int)} {path:List Int} {W:Wy} (F:Fl0 (W0 Ae path) W) {x y:Int} (h:y ∈ W x):inK Ae path Ae.length y:=by
 rcases F.on x y h with z | z
 ·exact (qPC z).2
 ·exact (qPC z).1
theorem qaD {Ae:List (List Int)} {path:List Int} {i:Nat} {k:Int} (h:inK Ae path i k):k ∈ qBO (-2) (2 * (Ae.length:Int)):=by
 rw [mem_rangeI];rcases h with rfl | rfl | ⟨w,f,_,rfl | rfl⟩
 ·omega
 ·omega
 ·have:=(free_in.mp f).1;omega
 ·have:=(free_in.mp f).1;omega
theorem qHD {Ae:List (List Int)} {path:List Int} {l:List Int} (n:l.Nodup) (h:∀ x ∈ l,inK Ae path Ae.length x):l.length<=2 * Ae.length+2:=by
 have:=F0 n fun x hx=>qaD (h x hx);rw [qEG] at this;omega
structure WaysAt (H0 H:Hp) (d:Addr) (m:Nat) (P:Int->Prop) (W:Wy) (ad:Int->Addr):Prop where
 dict:∃ Af,H d=some (.dK Af)/\Af.length<=m/\∀ k,P k->valV Af (J1 k)=some (.ref (ad k))
 lst:∀ k,P k->H (ad k)=some (.lst ((W k).map V.int))
 inj:∀ k k',P k->P k'->ad k=ad k'->k=k'
 fr:∀ k,P k->H0 (ad k)=none
 frd:H0 d=none
 old:Same H0 H
section
variable {H0 H H':Hp} {d:Addr} {m:Nat} {P:Int->Prop} {W:Wy} {ad:Int->Addr}
theorem WaysAt.same (h:WaysAt H0 H d m P W ad) (s:Same H H'):WaysAt H0 H' d m P W ad:=by
 obtain ⟨Af,a,b,c⟩:=h.dict;exact ⟨⟨Af,s _ _ a,b,c⟩,fun k hk=>s _ _ (h.lst k hk),h.inj,h.fr,h.frd,h.old.trans s⟩
theorem WaysAt.nd (h:WaysAt H0 H d m P W ad) {k:Int} (hk:P k):ad k ≠ d:=by
 obtain ⟨Af,a,_⟩:=h.dict;exact qCL (h.lst k hk) a (by intro z;cases z)
theorem WaysAt.put (h:WaysAt H0 H d m P W ad) {k:Int} (hk:P k) (zs:List Int):WaysAt H0 (Ag H (ad k) (.lst (zs.map V.int))) d m P (fun x=>if x=k then zs else W x) ad:=by
 obtain ⟨Af,a,b,c⟩:=h.dict;refine ⟨⟨Af,by rw [qA9 (h.nd hk).symm];exact a,b,c⟩,fun x hx=>?_,h.inj,h.fr,h.frd,qAB h.old (h.fr k hk)⟩
 by_cases e:x=k
 ·subst e;rw [qA1,if_pos rfl]
 ·rw [qA9 fun z=>e (h.inj _ _ hx hk z),if_neg e];exact h.lst x hx
theorem WaysAt.congr {W':Wy} (h:WaysAt H0 H d m P W ad) (e:∀ x,P x->W' x=W x):WaysAt H0 H d m P W' ad:=⟨h.dict,fun k hk=>by rw [e k hk];exact h.lst k hk,h.inj,h.fr,h.frd,h.old⟩
end
theorem WaysAt.add {H0 H:Hp} {d:Addr} {m:Nat} {P:Int->Prop} {W:Wy} {ad:Int->Addr} (h:WaysAt H0 H d m P W ad) {k:Int} (hk:¬ P k) {e:Addr} {zs:List Int} {Af:List (Key × V)} (fe:H0 e=none) (ge:H e=some (.lst (zs.map V.int))) (na:∀ x,P x->ad x ≠ e) (hd:H d=some (.dK Af)) (hl:Af.length<=m) (hv:∀ x,P x->valV Af (J1 x)=some (.ref (ad x))):WaysAt H0 (Ag H d (.dK (putK Af (J1 k) (.ref e)))) d (m+1) (fun x=>P x\/x=k) (fun x=>if x=k then zs else W x) (fun x=>if x=k then e else ad x):=by
 have ned:e ≠ d:=qCL ge hd (by intro z;cases z)
 refine ⟨⟨_,qA1,M5 (qBR _ _ _) (by omega),fun x hx=>?_⟩,fun x hx=>?_,fun x y hx hy z=>?_,fun x hx=>?_,h.frd,qAB h.old h.frd⟩
 ·rw [qH2];by_cases c:x=k
  ·rw [if_pos (by rw [c]),if_pos c]
  ·rw [if_neg fun u=>c (o7 u),if_neg c];exact hv x (hx.resolve_right c)
 ·by_cases c:x=k
  ·rw [if_pos c,if_pos c,qA9 ned];exact ge
  ·rw [if_neg c,if_neg c,qA9 (h.nd (hx.resolve_right c))];exact h.lst x (hx.resolve_right c)
 ·by_cases c:x=k
  ·by_cases c':y=k
   ·rw [c,c']
   ·rw [if_pos c,if_neg c'] at z;exact absurd z.symm (na y (hy.resolve_right c'))
  ·by_cases c':y=k
   ·rw [if_neg c,if_pos c'] at z;exact absurd z (na x (hx.resolve_right c))
   ·rw [if_neg c,if_neg c'] at z;exact h.inj x y (hx.resolve_right c) (hy.resolve_right c') z
 ·by_cases c:x=k
  ·rw [if_pos c];exact fe
  ·rw [if_neg c];exact h.fr x (hx.resolve_right c)
theorem WaysAt.dom {H0 H:Hp} {d:Addr} {m m':Nat} {P P':Int->Prop} {W:Wy} {ad:Int->Addr} (h:WaysAt H0 H d m P W ad) (hm:m<=m') (hp:∀ x,P' x->P x):WaysAt H0 H d m' P' W ad:=by
 obtain ⟨Af,a,b,c⟩:=h.dict;exact ⟨⟨Af,a,by omega,fun k hk=>c k (hp k hk)⟩,fun k hk=>h.lst k (hp k hk),fun k k' a b=>h.inj k k' (hp k a) (hp k' b),fun k hk=>h.fr k (hp k hk),h.frd,h.old⟩
section
variable {Ae:List (List Int)} {path:List Int} {i:Nat}
theorem qLE (i:Nat):qBO 0 ((i+1:Nat):Int)=qBO 0 (i:Int)++[(i:Int)]:=by
 refine qZ9 (qH8 _ _) ?_ fun x=>?_
 ·rw [V3];exact ⟨qH8 _ _,by simp,fun a ha b hb=>by rw [B2.mp hb];exact (mem_rangeI.mp ha).2⟩
 ·rw [C2,mem_rangeI,mem_rangeI,B2];omega
theorem qaI (h:qB5 Ae path (i:Int)=false) (x:Int):fwW Ae path (i+1) x=fwW Ae path i x:=by
 have fl:∀ p:Int->Bool,((qBO 0 ((i+1:Nat):Int)).filter fun w=>qB5 Ae path w && p w)=(qBO 0 (i:Int)).filter fun w=>qB5 Ae path w && p w:=fun p=>by
  rw [qLE,o5,X0,h];simp
 unfold fwW;have lt:(qB5 Ae path (x / 2) && decide (x / 2<((i+1:Nat):Int)))=(qB5 Ae path (x / 2) && decide (x / 2<(i:Int))):=by
  by_cases c:x / 2=(i:Int)
  ·rw [c,h];rfl
  ·congr 1;exact decide_eq_decide.mpr (by omega)
 rw [lt,fl,fl]
theorem fw_s (h:qB5 Ae path (i:Int)=true):fwW Ae path (i+1) (-1)=fwW Ae path i (-1)++if (nd Ae (i:Int)).isEmpty then [2 * (i:Int)] else []:=by
 unfold fwW;rw [if_pos rfl,if_pos rfl,qLE,o5,B6,X0,h];cases (nd Ae (i:Int)).isEmpty <;> rfl
theorem fw_g (k:Nat):fwW Ae path k (-2)=[]:=by
 unfold fwW;rw [if_neg (by decide),if_pos (by decide)]
 have:qB5 Ae path (-2 / 2)=false:=by unfold qB5;rfl
 rw [this]
 rfl
theorem qOS (k:Nat) {n:Int} (h0:0<=n):fwW Ae path k (2 * n)=if qB5 Ae path n && decide (n<(k:Int)) then [2 * n+1] else []:=by
 show (if 2 * n = -1 then _ else if 2 * n % 2=0 then _ else _)=_
 rw [if_neg (show ¬ 2 * n = -1 by omega),if_pos (show 2 * n % 2=0 by omega),show 2 * n / 2=n by omega]
theorem qTZ (k:Nat) {n:Int} (h0:0<=n):fwW Ae path k (2 * n+1)=if qB5 Ae path n && decide (n<(k:Int)) then (if qDU Ae path n then [-2] else [])++((qBO 0 k).filter fun u=>qB5 Ae path u && decide (n ∈ nd Ae u)).map (2 * ·) else []:=by
 show (if 2 * n+1 = -1 then _ else if (2 * n+1) % 2=0 then _ else _)=_
 rw [if_neg (show ¬ 2 * n+1 = -1 by omega),if_neg (show ¬ (2 * n+1) % 2=0 by omega),show (2 * n+1) / 2=n by omega]
theorem qbL (h:qB5 Ae path (i:Int)=true):fwW Ae path (i+1) (2 * (i:Int))=[2 * (i:Int)+1]:=by
 rw [qOS _ (by omega),h,decide_eq_true (by omega)]
 rfl
theorem qbK (wf:WFn Ae) (h:qB5 Ae path (i:Int)=true):fwW Ae path (i+1) (2 * (i:Int)+1)=if qDU Ae path (i:Int) then [-2] else []:=by
 have:((qBO 0 ((i+1:Nat):Int)).filter fun u=>qB5 Ae path u && decide ((i:Int) ∈ nd Ae u))=[]:=List.filter_eq_nil_iff.mpr fun u hu z=>by
  rw [C7,decide_eq_true_eq] at z;have b:=mem_rangeI.mp hu;have:=qD3 wf b.1 z.2;omega
 rw [qTZ _ (by omega),h,decide_eq_true (by omega),if_pos (by rfl),this,t8,R8]
theorem fw_e {n:Int} (h0:0<=n) (h1:n<(i:Int)):fwW Ae path (i+1) (2 * n)=fwW Ae path i (2 * n):=by
 rw [qOS _ h0,qOS _ h0,decide_eq_true (show n<((i+1:Nat):Int) by omega),decide_eq_true h1]
theorem fw_o (h:qB5 Ae path (i:Int)=true) {n:Int} (h0:qB5 Ae path n=true) (h1:n<(i:Int)):fwW Ae path (i+1) (2 * n+1)=fwW Ae path i (2 * n+1)++if n ∈ nd Ae (i:Int) then [2 * (i:Int)] else []:=by
 have b:=(free_in.mp h0).1.1;rw [qTZ _ b,qTZ _ b,decide_eq_true (show n<((i+1:Nat):Int) by omega),decide_eq_true h1,h0]
 generalize (if qDU Ae path n then [(-2:Int)] else [])=E
 rw [if_pos (show (true && true)=true from rfl),if_pos (show (true && true)=true from rfl),qLE,o5,B6,P6,X0,h];by_cases c:n ∈ nd Ae (i:Int)
 ·rw [decide_eq_true c,if_pos c];rfl
 ·rw [decide_eq_false c,if_neg c];rfl
theorem qU0 (k:Nat) (x:Int):(fwW Ae path k x).length<=k+1:=by
 have fl:∀ p:Int->Bool,(((qBO 0 (k:Int)).filter p).map (2 * ·)).length<=k:=fun p=>by
  rw [A0];have:=u8 p (qBO 0 (k:Int));rw [qEG] at this;omega
 unfold fwW
 split
 ·have:=fl fun w=>qB5 Ae path w && (nd Ae w).isEmpty;omega
 ·split
  ·split <;> simp
  ·split
   ·rw [B0];have:=fl fun u=>qB5 Ae path u && decide (x / 2 ∈ nd Ae u)
    split <;> simp <;> simp at this <;> omega
   ·simp
theorem qXA (wf:WFn Ae) (h:qB5 Ae path (i:Int)=true) {zs:List Int} (en:nd Ae (i:Int)=zs) {W3:Wy} (e1:W3 (-1)=fwW Ae path i (-1)++if zs.isEmpty then [2 * (i:Int)] else []) (e2:W3 (2 * (i:Int))=[2 * (i:Int)+1]) (e3:W3 (2 * (i:Int)+1)=if qDU Ae path (i:Int) then [-2] else []) (e4:∀ x,x ≠ -1->x ≠ 2 * (i:Int)->x ≠ 2 * (i:Int)+1->W3 x=fwW Ae path i x) {k:Int} (hk:inK Ae path (i+1) k):W3 k++(if (0<=k/\k % 2=1/\k / 2 ∈ zs) then [2 * (i:Int)] else [])=fwW Ae path (i+1) k:=by
 rcases hk with rfl | rfl | ⟨v,f,hv,rfl | rfl⟩
 ·rw [if_neg (by omega),R8,e1,fw_s h,en]
 ·rw [if_neg (by omega),R8,e4 _ (by omega) (by omega) (by omega),fw_g,fw_g]
 ·have b:=(free_in.mp f).1.1;rw [if_neg (by omega),R8]
  by_cases e:v=(i:Int)
  ·rw [e,e2,qbL h]
  ·rw [e4 _ (by omega) (by omega) (by omega),fw_e b (by omega)]
 ·have b:=(free_in.mp f).1.1;by_cases e:v=(i:Int)
  ·have no:¬ (0<=2 * (i:Int)+1/\(2 * (i:Int)+1) % 2=1/\(2 * (i:Int)+1) / 2 ∈ zs):=by
    rintro ⟨_,_,z⟩;rw [show (2 * (i:Int)+1) / 2=(i:Int) by omega,<- en] at z
    have:=qD3 wf (by omega) z
    omega
   rw [e,e3,qbK wf h,if_neg no,R8]
  ·rw [e4 _ (by omega) (by omega) (by omega),fw_o h f (by omega),en]
   congr 1;rw [show (2 * v+1) / 2=v by omega]
   by_cases c:v ∈ zs
   ·rw [if_pos ⟨by omega,by omega,c⟩,if_pos c]
   ·rw [if_neg fun z=>c z.2.2,if_neg c]
end
def qHT (H:Hp) (a t:Addr) (Ae:List (List Int)) (path:List Int):Prop:=NetAt H a Ae/\WFn Ae/\Ae.length<=400/\H t=some (.tup (path.map V.int))/\path ≠ []/\path.length<=400/\∀ x ∈ path,0<=x/\x<(Ae.length:Int)
def qI0:Sp:=fun vs H Q _=>∃ (a t:Addr) (Ae:List (List Int)) (path:List Int),vs=[.ref a,.ref t]/\qHT H a t Ae path/\
 ∀ d Af H',Same H H'->H d=none->H' d=some (.dK Af)->(∀ z:Int,(valV Af (J1 z)).isSome=true ↔ qDU Ae path z=true)->Q (.ref d) H'
def qKK:Sp:=fun vs H Q _=>∃ (a t:Addr) (Ae:List (List Int)) (path:List Int),vs=[.ref a,.ref t]/\qHT H a t Ae path/\
 ∀ d ad H',WaysAt H H' d 2002 (inK Ae path Ae.length) (W0 Ae path) ad->Q (.ref d) H'
def qMC:Sp:=fun vs H Q _=>∃ (d:Addr) (H0:Hp) (Ae:List (List Int)) (path:List Int) (W:Wy) (ad:Int->Addr),vs=[.ref d]/\Ae.length<=400/\WaysAt H0 H d 2002 (inK Ae path Ae.length) W ad/\Fl0 (W0 Ae path) W/\
 ∀ l st H',Same H H'->H l=none->H' l=some (.lst (st.map V.int))->WB W st->StOk W st->Q (.ref l) H'
def qWR:Sp:=fun vs H Q _=>∃ (d l:Addr) (H0:Hp) (Ae:List (List Int)) (path:List Int) (W:Wy) (ad:Int->Addr) (st:List Int),vs=[.ref d,.ref l]/\Ae.length<=400/\WaysAt H0 H d 2002 (inK Ae path Ae.length) W ad/\Fl0 (W0 Ae path) W/\H l=some (.lst (st.map V.int))/\(∀ k,inK Ae path Ae.length k->ad k ≠ l)/\Pth W st/\st.Nodup/\st.head?=some (-2)/\
 ∀ H',WaysAt H0 H' d 2002 (inK Ae path Ae.length) (qCQ st W) ad->Q .non H'
def qPJ:Sp:=fun vs H Q _=>∃ (d:Addr) (H0:Hp) (Ae:List (List Int)) (path:List Int) (W:Wy) (ad:Int->Addr) (w:Int) (s:List Int),vs=[.ref d,.int w]/\Ae.length<=400/\WaysAt H0 H d 2002 (inK Ae path Ae.length) W ad/\Fl Ae path W/\WFn Ae/\qB5 Ae path w=true/\Flw W w/\Sd W w s/\
 ∀ T H',Same H H'->H' T=some (.tup (s.map V.int))->Q (.ref T) H'
inductive SW:Wy->Wy->Prop
 | stop {W:Wy}:WB W []->SW W W
 | go {W W':Wy} {st:List Int}:WB W st->st ≠ []->SW (qCQ st W) W'->SW W W'
def SidesOf (Ae:List (List Int)) (path:List Int) (ts:List (List Int)):Prop:=∃ (W:Wy) (ss:List (List Int)),SW (W0 Ae path) W/\Fl Ae path W/\Paired (fun x s=>Sd W (x / 2) s) (W (-2)) ss/\ts.Perm ss/\ts.Pairwise fun a b=>HT.lexLt b a=false
def qSD:Sp:=fun vs H Q _=>∃ (a t:Addr) (Ae:List (List Int)) (path:List Int),vs=[.ref a,.ref t]/\qHT H a t Ae path/\Ae.length<=60/\
 ∀ l rs ts H',Same H H'->H l=none->H' l=some (.lst (rs.map V.ref))->L2.G.TupsAt H' rs ts->SidesOf Ae path ts->Q (.ref l) H'
def cmK (cm:Cm):List (Key × V):=(J1 (-1),.non)::cm.map fun p=>(J1 p.1,.int p.2)
theorem qUJ (cm:Cm) (x:Int):valV (cmK cm) (J1 x)=if x = -1 then some .non else (look cm x).map V.int:=by
 unfold valV cmK look;by_cases c:x = -1
 ·rw [if_pos c,c];rfl
 ·rw [if_neg c,d7 (by simp;exact fun z=>c z.symm)]
  induction cm with
  | nil=>rfl
  | cons q cm ih=>
   rw [E7];by_cases e:q.1=x
   ·rw [A61 (by simp [e]),A61 (by simp [e])];rfl
   ·rw [d7 (by simp [e]),d7 (by simp [e])];exact ih
theorem qOV (cm:Cm) (x:Int):(valV (cmK cm) (J1 x)).isSome=vis cm x:=by
 rw [qUJ];unfold vis look;by_cases c:x = -1
 ·rw [if_pos c,decide_eq_true c];rfl
 ·rw [if_neg c,decide_eq_false c,B71,Y5,Y5,Q2,List.find?_isSome,W9]
theorem qYV {cm:Cm} {f p:Int} (h:vis cm f=false):putK (cmK cm) (J1 f) (.int p)=cmK (cm++[(f,p)]):=by
 unfold putK;rw [if_neg]
 ·unfold cmK;simp
 ·intro z;obtain ⟨kv,h1,h2⟩:=W9.mp z;have e:=of_decide_eq_true h2;have:vis cm f=true:=by
   unfold cmK at h1;rcases C9.mp h1 with rfl | h1
   ·exact vis_iff.mpr (.inl (o7 e).symm)
   ·obtain ⟨q,hq,rfl⟩:=E1.mp h1;obtain ⟨i,hi⟩:=M7 hq;have:=o7 e;exact vis_iff.mpr (.inr ⟨i,q.2,by rw [hi,<- this]⟩)
  rw [h] at this;cases this
structure SkI (Ae:List (List Int)) (path:List Int) (W:Wy) (s:Cm × List Int):Prop where
 sk:Sk W s
 go:∀ t,Dfs W s t->Dfs W ([],[-1]) t
 dom:∀ q ∈ s.1,inK Ae path Ae.length q.1
theorem SkI.few {Ae:List (List Int)} {path:List Int} {W:Wy} {s:Cm × List Int} (h:SkI Ae path W s):s.1.length<=2 * Ae.length+2:=by
 have:=qHD (Ae:=Ae) (path:=path) h.sk.gd.nd fun x hx=>by
  obtain ⟨q,hq,rfl⟩:=E1.mp hx;exact h.dom q hq
 rw [A0] at this;exact this
theorem SkI.inK {Ae:List (List Int)} {path:List Int} {W:Wy} {s:Cm × List Int} (h:SkI Ae path W s) {x:Int} (hx:vis s.1 x=true):Fw.inK Ae path Ae.length x:=by
 rcases vis_iff.mp hx with rfl | ⟨i,q,e⟩
 ·exact .inl rfl
 ·exact h.dom (x,q) (C5 e)
structure SkF (Ae:List (List Int)) (path:List Int) (W:Wy) (stop:Int) (s:Cm × List Int):Prop where
 sk:Sk W s
 dom:∀ q ∈ s.1,Fw.inK Ae path Ae.length q.1
 at_:vis s.1 stop=true
theorem SkF.one {Ae:List (List Int)} {path:List Int} {W:Wy} {stop f:Int} {s:Cm × List Int} (F:Fl0 (W0 Ae path) W) (h:SkF Ae path W stop s) (hf:f ∈ W stop):SkF Ae path W stop (dfsO stop f s)/\(dfsO stop f s).2.length+s.1.length=s.2.length+(dfsO stop f s).1.length:=by
 obtain ⟨a,b⟩:=h.sk.one hf h.at_;refine ⟨⟨a,fun q hq=>?_,b⟩,?_⟩
 ·unfold dfsO at hq
  split at hq
  ·exact h.dom q hq
  ·rcases C2.mp hq with z | z
   ·exact h.dom q z
   ·rw [B2.mp z];exact F.dom hf
 ·unfold dfsO
  split
  ·omega
  ·rw [B0,B0];show _+1+_=_+(_+1);omega
theorem qMA {a b:Int}:∀ (r:List Int) (W:Wy),qCQ (r++[a]++[b]) W=upW (qCQ (r++[a]) W) b a
 | [],W=>rfl
 | [f],W=>rfl
 | f::s::r,W=>by
  show qCQ ((s::r)++[a]++[b]) (upW W s f)=upW (qCQ ((s::r)++[a]) (upW W s f)) b a;exact qMA (s::r) (upW W s f)
theorem qS5 {st:List Int} {W:Wy} {j:Nat} {f s:Int} (h1:st[j]?=some f) (h2:st[j+1]?=some s):qCQ (st.take (j+1+1)) W=upW (qCQ (st.take (j+1)) W) s f:=by
 have e1:st.take (j+1)=st.take j++[f]:=by rw [D4,h1];rfl
 have e2:st.take (j+1+1)=st.take j++[f]++[s]:=by rw [D4,h2,e1];rfl
 rw [e2,e1];exact qMA _ W
theorem qPF {x:Int}:∀ (st:List Int) (W:Wy),x ∉ st->qCQ st W x=W x
 | [],_,_=>rfl
 | [_],_,_=>rfl
 | f::s::r,W,h=>by
  show qCQ (s::r) (upW W s f) x=W x;rw [qPF (s::r) _ fun z=>h (B4 _ z)];exact qM9 (fun z=>h (by rw [z];simp)) fun z=>h (by rw [z];simp)
theorem qWZ {W:Wy}:∀ {st:List Int} {j:Nat} {f s:Int},Pth W st->st[j]?=some f->st[j+1]?=some s->f ∈ W s
 | f'::s'::r,0,f,s,h,h1,h2=>by cases h1;cases h2;exact h.1
 | f'::s'::r,j+1,f,s,h,h1,h2=>qWZ (j:=j) h.2 h1 h2
 | [_],0,f,s,h,h1,h2=>by cases h2
 | [_],j+1,f,s,h,h1,h2=>by cases h1
 | [],_,_,_,_,h1,_=>by cases h1
theorem qPT {W:Wy}:∀ (st:List Int) (k:Nat),Pth W st->Pth W (st.take k)
 | [],_,_=>by simp [Pth]
 | [_],k,_=>by cases k <;> simp [Pth]
 | f::s::r,0,_=>trivial
 | f::s::r,1,_=>trivial
 | f::s::r,k+2,h=>⟨h.1,qPT (s::r) (k+1) h.2⟩
theorem qQC:∀ {zs:List Int} {y:Int},y ∈ zs->∃ j:Nat,zs[j]?=some y/\(∀ i,i<j->zs[i]? ≠ some y)/\zs.eraseIdx j=zs.erase y
 | z::zs,y,h=>by
  by_cases e:z=y
  ·exact ⟨0,by rw [e];rfl,fun i hi=>absurd hi (o1 _),by rw [e];simp⟩
  ·obtain ⟨j,h1,h2,h3⟩:=qQC ((C9.mp h).resolve_left fun z=>e z.symm);refine ⟨j+1,h1,fun i hi=>?_,?_⟩
   ·cases i with
    | zero=>exact fun z=>e (J5 z)
    | succ i=>exact h2 i (by omega)
   ·rw [A35,h3,List.erase_cons_tail (by simpa using e)]
theorem end_iff {Ae:List (List Int)} {path:List Int} {z:Int}:qDU Ae path z=true ↔ z ∉ path/\∃ w ∈ path.drop 1,z ∈ nd Ae w:=by
 unfold qDU;rw [C7,decide_eq_true_eq,W9];exact and_congr_right fun _=>⟨fun ⟨w,h1,h2⟩=>⟨w,h1,of_decide_eq_true h2⟩,fun ⟨w,h1,h2⟩=>⟨w,h1,decide_eq_true h2⟩⟩
def qKH:PyData->Int | .int i=>i | _=>0
def qAX:PyData->List Int | .tuple ds=>ds.map qKH | _=>[]
def qC8 (Ae:List (List Int)):List Int->Bool
 | a::b::r=>decide (a ∈ nd Ae b) && qC8 Ae (b::r)
 | _=>true
def qDP (Ae:List (List Int)) (zs:List Int):Bool:=qC8 Ae zs && (nd Ae (zs.headD 0)).isEmpty
def qGC (Ae:List (List Int)):PyData->Bool
 | .tuple ds=>!ds.isEmpty && ds.all (qCP (Ae.length:Int)) && qDP Ae (ds.map qKH)
 | _=>false
def qDT (Ae:List (List Int)) (path:List Int) (d:PyData):Bool:=qGC Ae d && qDU Ae path ((qAX d).getLastD 0) && (qAX d).all fun x=>decide (x ∉ path)
def qDN (Ae:List (List Int)) (path:List Int):PyData->Bool
 | .list ds=>ds.all (qDT Ae path) && decide ((ds.flatMap qAX).Nodup)
 | _=>false
theorem qC6 {zs:List Int}:(zs.map Q6).map qKH=zs:=by rw [X5];exact (O9 fun x _=>rfl).trans (B59 _)
theorem qI8 {ds:List PyData} {e:Int} (h:ds.all (qCP e)=true):∃ zs:List Int,ds=zs.map Q6/\∀ z ∈ zs,0<=z/\z<e:=by
 obtain ⟨zs,rfl⟩:=qOQ (ds:=ds) (E5.mpr fun d hd=>by
  have:=E5.mp h d hd;cases d <;> first | rfl | cases this)
 refine ⟨zs,rfl,fun z hz=>?_⟩;have:=E5.mp h (.int z) (z8 hz);have this:(decide (0<=z) && decide (z<e))=true:=this;rw [C7,decide_eq_true_eq,decide_eq_true_eq] at this;exact this
theorem chain_iff {Ae:List (List Int)}:∀ {zs:List Int},qC8 Ae zs=true ↔ ∀ (i:Nat) a b,zs[i]?=some a->zs[i+1]?=some b->a ∈ nd Ae b
 | []=>by simp [qC8]
 | [_]=>by simp [qC8]
 | a::b::r=>by
  show (decide (a ∈ nd Ae b) && qC8 Ae (b::r))=true ↔ _;rw [C7,decide_eq_true_eq,chain_iff]
  constructor
  ·rintro ⟨h1,h2⟩ i c e h3 h4;cases i with
   | zero=>cases h3;cases h4;exact h1
   | succ i=>exact h2 i c e h3 h4
  ·exact fun h=>⟨h 0 a b rfl rfl,fun i c e h3 h4=>h (i+1) c e h3 h4⟩
def lstB:PyData->Bool | .list _=>true | _=>false
theorem qPE {K:PySem.W.Frag} {H:Hp} {n:Nat} {x:V} {d:PyData} (h:DatN H n x d):∃ t,TyOf K H x t/\R6 K t (.type "list")=some (lstB d):=by
 have leaf:qKB x d->∃ t,TyOf K H x t/\R6 K t (.type "list")=some (lstB d):=by
  rintro (⟨rfl,rfl⟩ | ⟨b,rfl,rfl⟩ | ⟨i,rfl,rfl⟩ | ⟨y,rfl,rfl⟩)
  ·exact ⟨_,.non,rfl⟩
  ·exact ⟨_,.bl b,rfl⟩
  ·exact ⟨_,.int i,rfl⟩
  ·exact ⟨_,.str y,rfl⟩
 cases n with
 | zero=>exact leaf h
 | succ n=>
  rcases h with h | ⟨b,a,xs,ds,rfl,rfl,h1,_⟩
  ·exact leaf h
  ·cases b
   ·exact ⟨_,.lst h1,rfl⟩
   ·exact ⟨_,.tup h1,rfl⟩
theorem qI6 {H:Hp} {n:Nat} {x:V} {d:PyData} (h:DatN H n x d) (hn:lstB d=true):∃ m a xs ds,n=m+1/\x=.ref a/\d=.list ds/\H a=some (.lst xs)/\xs.length=ds.length/\∀ (i:Nat) (x':V) (d':PyData),xs[i]?=some x'->ds[i]?=some d'->DatN H m x' d':=by
 have leaf:qKB x d->False:=by
  rintro (⟨rfl,rfl⟩ | ⟨b,rfl,rfl⟩ | ⟨i,rfl,rfl⟩ | ⟨y,rfl,rfl⟩) <;> cases hn
 cases n with
 | zero=>exact (leaf h).elim
 | succ n=>
  rcases h with h | ⟨b,a,xs,ds,rfl,rfl,h1,h2,h3⟩
  ·exact (leaf h).elim
  ·cases b
   ·exact ⟨n,a,xs,ds,rfl,rfl,rfl,h1,h2,h3⟩
   ·cases hn
theorem qQB {H:Hp} {m:Nat} {xs:List V} {zs:List Int} (lx:xs.length=(zs.map Q6).length) (el:∀ (i:Nat) (x':V) (d':PyData),xs[i]?=some x'->(zs.map Q6)[i]?=some d'->DatN H m x' d'):xs=zs.map V.int:=j8 fun i=>by
 by_cases hi:i<xs.length
 ·have hx:=A5 hi;have hz:i<zs.length:=by rw [lx,A0] at hi;exact hi
  have ed:(zs.map Q6)[i]?=some (.int zs[i]):=by rw [C4,A5 hz];rfl
  obtain ⟨j,e1,e2⟩:=qJV (el i _ _ hx ed) rfl;rw [hx,C4,A5 hz,e1];cases e2
  rfl
 ·rw [G0 (by omega),G0 (by rw [A0];rw [lx,A0] at hi;omega)]
theorem qMG {Ae:List (List Int)} {path zs:List Int} (ne:zs ≠ []) (zin:∀ z ∈ zs,0<=z/\z<(Ae.length:Int)):qDT Ae path (.tuple (zs.map .int))=(qDP Ae zs && qDU Ae path (zs.getLastD 0) && zs.all fun x=>decide (x ∉ path)):=by
 unfold qDT;have e1:qAX (.tuple (zs.map .int))=zs:=qC6;have e2:qGC Ae (.tuple (zs.map .int))=qDP Ae zs:=by
  show (!(zs.map Q6).isEmpty && _ && qDP Ae ((zs.map .int).map qKH))=_;have:(zs.map Q6).isEmpty=false:=by cases zs with | nil=>exact absurd rfl ne | cons _ _=>rfl
  have ab:(zs.map Q6).all (qCP (Ae.length:Int))=true:=E5.mpr fun d hd=>by
   obtain ⟨z,hz,rfl⟩:=E1.mp hd;show (decide (0<=z) && decide (z<(Ae.length:Int)))=true;rw [decide_eq_true (zin z hz).1,decide_eq_true (zin z hz).2]
   rfl
  rw [this,ab,qC6]
  rfl
 rw [e1,e2]
theorem qDO {H:Hp} {Ae:List (List Int)} {n:Nat} {x:V} {d:PyData} (h:DatN H n x d) (hp:qGC Ae d=true):∃ t zs,x=.ref t/\d=.tuple (zs.map .int)/\qAX d=zs/\H t=some (.tup (zs.map V.int))/\zs ≠ []/\∀ z ∈ zs,0<=z/\z<(Ae.length:Int):=by
 have c:tupB d=true:=by cases d <;> first | rfl | cases hp
 obtain ⟨m,tt,xs,ds,rfl,rfl,rfl,ga,lx,el⟩:=qF6 h c;have hp:(!ds.isEmpty && ds.all (qCP (Ae.length:Int)) && qDP Ae (ds.map qKH))=true:=hp;rw [C7,C7] at hp;obtain ⟨zs,rfl,zin⟩:=qI8 hp.1.2;have ex:xs=zs.map V.int:=j8 fun i=>by
  by_cases hi:i<xs.length
  ·have hx:=A5 hi;have hz:i<zs.length:=by rw [lx,A0] at hi;exact hi
   have ed:(zs.map Q6)[i]?=some (.int zs[i]):=by rw [C4,A5 hz];rfl
   obtain ⟨j,e1,e2⟩:=qJV (el i _ _ hx ed) rfl;rw [hx,C4,A5 hz,e1];cases e2
   rfl
  ·rw [G0 (by omega),G0 (by rw [A0];rw [lx,A0] at hi;omega)]
 subst ex;refine ⟨tt,zs,rfl,rfl,qC6,ga,?_,zin⟩;rintro rfl;have:=hp.1.1;cases this
theorem qGS {xs:List V} {x:V} (h:xs.getLast?=some x):atI xs (-1)=some x:=by
 obtain ⟨ys,rfl⟩:=List.getLast?_eq_some_iff.mp h;exact qM1 _ _
theorem qU9:∀ (l zs:List Int),(l.foldl addI zs).length=zs.length+l.length ↔ l.Nodup/\∀ x ∈ l,x ∉ zs
 | [],zs=>by simp
 | k::l,zs=>by
  show (l.foldl addI (addI zs k)).length=zs.length+(l.length+1) ↔ _;by_cases c:k ∈ zs
  ·have e:addI zs k=zs:=by unfold addI;rw [if_pos c]
   rw [e];have:=qC7 l zs;exact ⟨fun h=>by omega,fun h=>absurd c (h.2 k B5)⟩
  ·have e:addI zs k=zs++[k]:=by unfold addI;rw [if_neg c]
   have ih:=qU9 l (zs++[k]);rw [B0,C1] at ih;rw [e,show zs.length+(l.length+1)=zs.length+1+l.length by omega,ih,O0]
   constructor
   ·rintro ⟨h1,h2⟩;refine ⟨⟨fun z=>h2 k z (by simp),h1⟩,fun x hx=>?_⟩
    rcases C9.mp hx with rfl | hx
    ·exact c
    ·exact fun z=>h2 x hx (S0 _ z)
   ·rintro ⟨⟨h1,h2⟩,h3⟩;refine ⟨h2,fun x hx z=>?_⟩;rcases C2.mp z with z | z
    ·exact h3 x (B4 _ hx) z
    ·exact h1 (B2.mp z ▸ hx)
theorem ded_nodup {l:List Int}:(dedI l).length=l.length ↔ l.Nodup:=by
 have:=qU9 l [];rw [P0,A13] at this;show (l.foldl addI []).length=l.length ↔ _;rw [this];exact ⟨fun h=>h.1,fun h=>⟨h,fun x _=>by simp⟩⟩
theorem qVC {Ae:List (List Int)} {path:List Int} (wf:WFn Ae) {H:Hp} {n:Nat} {x:V} {d:PyData} (h:DatN H n x d) (hs:qDT Ae path d=true):∃ t zs,x=.ref t/\qAX d=zs/\H t=some (.tup (zs.map V.int))/\zs.length<=Ae.length:=by
 unfold qDT at hs;rw [C7,C7] at hs;obtain ⟨t,zs,rfl,rfl,ei,g,ne,zin⟩:=qDO h hs.1.1;refine ⟨t,zs,rfl,ei,g,?_⟩;have hp:(_ && _ && qDP Ae ((zs.map Q6).map qKH))=true:=hs.1.1;rw [C7,qC6] at hp;have hc:qC8 Ae zs=true:=by have:=hp.2;unfold qDP at this;rw [C7] at this;exact this.1
 have up:zs.Pairwise (·<·):=by
  have key:∀ (l:List Int),qC8 Ae l=true->(∀ z ∈ l,0<=z/\z<(Ae.length:Int))->l.Pairwise (·<·)/\True:=by
   intro l
   induction l with
   | nil=>exact fun _ _=>⟨.nil,trivial⟩
   | cons a r ih=>
    intro hc hin;cases r with
    | nil=>exact ⟨by simp,trivial⟩
    | cons b r=>
     have hc:(decide (a ∈ nd Ae b) && qC8 Ae (b::r))=true:=hc;rw [C7,decide_eq_true_eq] at hc;have k:=(ih hc.2 fun z hz=>hin z (B4 _ hz)).1;have ab:=qD3 wf (hin b (by simp)).1 hc.1
     refine ⟨R9.mpr ⟨fun z hz=>?_,k⟩,trivial⟩;rcases C9.mp hz with rfl | hz
     ·exact ab.2
     ·have:=(R9.mp k).1 z hz;omega
  exact (key zs hc zin).1
 have:=(⟨up,zin⟩:Rise (Ae.length:Int) zs).len;omega
def qL9:Sp:=fun vs H Q _=>∃ (a:Addr) (Ae:List (List Int)) (x:V) (n:Nat) (d:PyData),vs=[.ref a,x]/\NetAt H a Ae/\WFn Ae/\Ae.length<=400/\DatN H n x d/\LenN 1 d/\∀ H',Same H H'->Q (.bl (qGC Ae d)) H'
def qSE:Sp:=fun vs H Q _=>∃ (a t:Addr) (Ae:List (List Int)) (path:List Int) (x:V) (n:Nat) (d:PyData),vs=[.ref a,.ref t,x]/\qHT H a t Ae path/\DatN H n x d/\LenN 2 d/\∀ H',Same H H'->Q (.bl (qDN Ae path d)) H'
def qZG:Sp:=fun vs H Q _=>∃ (a t:Addr) (Ae:List (List Int)) (path:List Int),vs=[.ref a,.ref t]/\qHT H a t Ae path/\Ae.length<60/\path.length<=60/\∀ (l:Addr) (zs:List Int) (H':Hp),Same H H'->H' l=some (.lst (zs.map V.int))->(∀ z,z ∈ zs ↔ qDU Ae path z=true)->Q (.ref l) H'
def qPK:Sp:=fun vs H Q _=>∃ (a t:Addr) (Ae:List (List Int)) (path:List Int) (x:V) (n:Nat) (d:PyData),vs=[.ref a,.ref t,x]/\qHT H a t Ae path/\Ae.length<60/\path.length<=60/\DatN H n x d/\LenN 1 d/\∀ H',Same H H'->Q (.bl (qDT Ae path d)) H'
def tupI (s:List Int):PyData:=.tuple (s.map .int)
section
variable {Ae:List (List Int)} {path:List Int} {W:Wy}
theorem qQV (F:Fl Ae path W) (wf:WFn Ae) {xs:List Int} {ss:List (List Int)} (h:Paired (fun x s=>Sd W (x / 2) s) xs ss):xs.Nodup->(∀ x ∈ xs,x ∈ W (-2))->ss.flatten.Nodup/\∀ s ∈ ss,∃ w,2 * w+1 ∈ xs/\qDU Ae path w=true/\SdIs Ae path W w s/\s.getLast?=some w:=by
 induction h with
 | nil=>exact fun _ _=>⟨.nil,fun s hs=>nomatch hs⟩
 | @cons x s xs ss h0 _ ih=>
  intro n hin;obtain ⟨n1,n2⟩:=O0.mp n;obtain ⟨k1,k2⟩:=ih n2 fun y hy=>hin y (B4 _ hy);obtain ⟨w,rfl,f,e,fl⟩:=F.ends (hin x B5);rw [show (2 * w+1) / 2=w by omega] at h0
  have I:=F.sdIs wf h0 f fl
  constructor
  ·rw [P5,O8];refine ⟨I.up.imp fun h=>by omega,k1,fun a ha b hb=>?_⟩
   rintro rfl;obtain ⟨s',hs',ha'⟩:=c9.mp hb;obtain ⟨w',hw',_,I',_⟩:=k2 s' hs';have:=F.apart wf I I' (hin _ B5) (hin _ (B4 _ hw')) _ a (A42 _) ha ha';exact n1 (this ▸ hw')
  ·intro t ht;rcases C9.mp ht with rfl | ht
   ·exact ⟨w,B5,e,I,qO1 h0⟩
   ·obtain ⟨v,hv,r⟩:=k2 t ht;exact ⟨v,B4 _ hv,r⟩
theorem qRJ (ts:List (List Int)):(ts.map tupI).flatMap qAX=ts.flatten:=by
 induction ts with
 | nil=>rfl
 | cons s ts ih=>
  rw [E7,A31,ih,P5];congr 1;exact qC6
theorem qND:∀ {ts:List (List Int)},(∀ s ∈ ts,s ≠ [])->ts.length<=ts.flatten.length
 | [],_=>F5 _
 | s::ts,h=>by
  have:=qND fun t ht=>h t (B4 _ ht);have l:=W6.mpr (h s B5);rw [P5,B0,D9];omega
theorem SidesOf.are {ts:List (List Int)} (wf:WFn Ae) (h:SidesOf Ae path ts):qDN Ae path (.list (ts.map tupI))=true/\(∀ s ∈ ts,s ≠ []/\s.length<=Ae.length/\∀ z ∈ s,0<=z/\z<(Ae.length:Int))/\ts.length<=Ae.length:=by
 obtain ⟨W,ss,_,F,P,pm,_⟩:=h;obtain ⟨k1,k2⟩:=qQV F wf P (F.fl.nd _) fun _ h=>h;have each:∀ s ∈ ts,∃ w,qDU Ae path w=true/\SdIs Ae path W w s/\s.getLast?=some w:=fun s hs=>by
  obtain ⟨w,_,r⟩:=k2 s (pm.mem_iff.mp hs);exact ⟨w,r⟩
 have zin:∀ s ∈ ts,s ≠ []/\∀ z ∈ s,0<=z/\z<(Ae.length:Int):=fun s hs=>by
  obtain ⟨w,_,I,_⟩:=each s hs;obtain ⟨t,r,e,_⟩:=I.hd;exact ⟨by rw [e];simp,fun z hz=>(free_in.mp (I.fr z hz).1).1⟩
 have ndp:ts.flatten.Nodup:=(pm.flatten.nodup_iff).mpr k1;refine ⟨?_,fun s hs=>⟨(zin s hs).1,?_,(zin s hs).2⟩,?_⟩
 ·show ((ts.map tupI).all (qDT Ae path) && decide (((ts.map tupI).flatMap qAX).Nodup))=true;rw [qRJ,decide_eq_true ndp,V4,E5];intro d hd;obtain ⟨s,hs,rfl⟩:=E1.mp hd;obtain ⟨w,e,I,gl⟩:=each s hs;have zz:=zin s hs;show qDT Ae path (.tuple (s.map .int))=true;rw [qMG zz.1 zz.2,Q8,gl];show (qDP Ae s && qDU Ae path w && _)=true;rw [e,V4,C7]
  constructor
  ·unfold qDP;rw [chain_iff.mpr I.co,L8];obtain ⟨t,r,rfl,en⟩:=I.hd;show (nd Ae t).isEmpty=true;rw [en]
   rfl
  ·exact E5.mpr fun x hx=>decide_eq_true (free_in.mp (I.fr x hx).1).2
 ·obtain ⟨w,_,I,_⟩:=each s hs;exact Rise.len ⟨I.up,(zin s hs).2⟩
 ·refine M5 (qND fun s hs=>(zin s hs).1) (qa1 ndp fun x hx=>?_);obtain ⟨s,hs,hx⟩:=c9.mp hx;exact (zin s hs).2 x hx
theorem p2 {a b:Nat} (h:a<=b):(2:Int) ^ a<=(2:Int) ^ b:=by
 have:=x5 (n:=2) (by decide) h
 exact_mod_cast this
theorem qbP (wf:WFn Ae):∀ (k:Nat) (p:List Int),(hd p).toNat=k->0<=hd p->p ≠ []->Rise (Ae.length:Int) p->∀ t ∈ aP Ae p,t ≠ []/\Rise (Ae.length:Int) t:=by
 intro k
 induction k using W5 with
 | ind k ih=>
  intro p hk h0 ne R t ht;rw [qP8 wf h0] at ht
  split at ht
  ·rw [B2.mp ht];exact ⟨ne,R⟩
  ·obtain ⟨l,hl,ht⟩:=c9.mp ht;obtain ⟨z,hz,rfl⟩:=E1.mp hl;have b:=qD3 wf h0 (T5.mp hz);refine ih z.toNat (by omega) (z::p) rfl b.1 (by simp) ⟨R9.mpr ⟨fun y hy=>?_,R.up⟩,fun y hy=>?_⟩ t ht
   ·cases p with
    | nil=>exact absurd rfl ne
    | cons a p=>
     have b2:z<a:=b.2;rcases C9.mp hy with rfl | hy
     ·exact b2
     ·have:=(R9.mp R.up).1 y hy;omega
   ·rcases C9.mp hy with rfl | hy
    ·cases p with
     | nil=>exact absurd rfl ne
     | cons a p=>
      have b2:y<a:=b.2;have:=R.in_ a B5;omega
    ·exact R.in_ y hy
theorem SortP.some {work:Int} {ts:List (List Int)} (wf:WFn Ae) (h0:0<=work) (h1:work<(Ae.length:Int)) (h:SortP Ae work ts):1<=ts.length/\∀ t ∈ ts,t ≠ []/\Rise (Ae.length:Int) t:=by
 constructor
 ·have a:=qL3 wf _ [work] rfl h0;have b:1<=cn Ae (hd [work]):=qUI wf _ work rfl h0;rw [h.1.length_eq];omega
 ·exact fun t ht=>qbP wf _ [work] rfl h0 (by simp) ⟨by simp,fun x hx=>by rw [B2.mp hx];exact ⟨h0,h1⟩⟩ t (h.1.mem_iff.mp ht)
end
def Few4 (Ae:List (List Int)):Prop:=∀ (i:Nat) zs,Ae[i]?=some zs->i+1<Ae.length->zs.length<=4
section
variable {Ae:List (List Int)}
def sumB (B:Nat->Int):Nat->Int
 | 0=>0
 | m+1=>sumB B m+B m
theorem qIW {f:Int->Int} {B:Nat->Int}:∀ (m:Nat) (l:List Int),l.Pairwise (·<·)->(∀ y ∈ l,0<=y/\y<(m:Int))->(∀ y ∈ l,f y<=B y.toNat)->(∀ y,y<m->1<=B y)->(l.map f).sum+((m:Int) - l.length)<=sumB B m
 | 0,l,_,h,_,_=>by
  cases l with
  | nil=>exact J7 _
  | cons a l=>have:=h a B5;omega
 | m+1,l,up,h,hf,hB=>by
  rcases i5 l with rfl | ⟨l',a,rfl⟩
  ·have:=qIW (f:=f) (B:=B) m [] .nil (fun y hy=>nomatch hy) (fun y hy=>nomatch hy) fun y hy=>hB y (by omega)
   have b:=hB m (by omega)
   have e:sumB B (m+1)=sumB B m+B m:=rfl;simp at this ⊢;omega
  ·rw [i6] at up h hf ⊢;obtain ⟨u1,u2,u3⟩:=V3.mp up;have ha:=h a (by simp)
   have b:=hB m (by omega)
   have fa:=hf a (by simp)
   have e:sumB B (m+1)=sumB B m+B m:=rfl;have e2:((l'++[a]).map f).sum=(l'.map f).sum+f a:=by simp
   have e3:(l'++[a]).length=l'.length+1:=by simp
   by_cases c:a=(m:Int)
   ·have k:=qIW (f:=f) (B:=B) m l' u1 (fun y hy=>by have:=h y (by simp [hy]);have:=u3 y hy a (by simp);omega) (fun y hy=>hf y (by simp [hy])) fun y hy=>hB y (by omega)
    rw [c,O6] at fa;rw [<- c] at fa;rw [e2,e3,e];omega
   ·have k:=qIW (f:=f) (B:=B) m (l'++[a]) up (fun y hy=>by
     have:=h y hy;rcases C2.mp hy with z | z
     ·have:=u3 y z a (by simp);omega
     ·rw [B2.mp z];omega) hf fun y hy=>hB y (by omega)
    rw [e3] at k ⊢;rw [e];omega
def Bv (q:Int) (i:Nat):Int:=[1,1,2,4,8,16,q,q+32].getD i 1
theorem qY7 (f4:Few4 Ae) {z:Nat} (h:z+1<Ae.length):(nd Ae (z:Int)).length<=4:=by
 obtain ⟨zs,e⟩:∃ zs,Ae[z]?=some zs:=⟨_,A5 (by omega)⟩
 have:=qBL (Ae:=Ae) (w:=(z:Int)) (zs:=zs) (by rw [O6];exact e)
 rw [this];exact f4 z zs e h
theorem cn_B (wf:WFn Ae) (f4:Few4 Ae) (l8:Ae.length<=8) {q:Int} (q30:30<=q) (hq:32<=q\/Ae.length=8):∀ (z:Nat),z<Ae.length->cn Ae (z:Int)<=Bv q z:=by
 intro z
 induction z using W5 with
 | ind z ih=>
  intro hz;rw [qWF wf (by omega)]
  have B1:∀ y,1<=Bv q y:=fun y=>by
   rcases (by omega:y=0\/y=1\/y=2\/y=3\/y=4\/y=5\/y=6\/y=7\/8<=y) with rfl | rfl | rfl | rfl | rfl | rfl | rfl | rfl | h
   ·show (1:Int)<=1;omega
   ·show (1:Int)<=1;omega
   ·show (1:Int)<=2;omega
   ·show (1:Int)<=4;omega
   ·show (1:Int)<=8;omega
   ·show (1:Int)<=16;omega
   ·show 1<=q;omega
   ·show 1<=q+32;omega
   ·unfold Bv;rw [M6,G0 (by simp;omega)];exact J7 _
  split
  ·exact B1 z
  ·have k:=qIW (f:=cn Ae) (B:=Bv q) z (nd Ae (z:Int)) (qY6 wf _) (fun y hy=>qD3 wf (by omega) hy) (fun y hy=>by
    have b:=qD3 wf (show (0:Int)<=(z:Int) by omega) hy
    have:=ih y.toNat (by omega) (by omega)
    rw [show ((y.toNat:Nat):Int)=y by omega] at this
    exact this) fun y _=>B1 y
   have ll:=(qN0 wf z).len;have l4:=fun h=>qY7 f4 (z:=z) h;have le:((nd Ae (z:Int)).length:Int)<=z:=by
    have:=(⟨qY6 wf (z:Int),fun y hy=>qD3 wf (by omega) hy⟩:Rise (z:Int) (nd Ae (z:Int))).len
    omega
   rcases (by omega:z=0\/z=1\/z=2\/z=3\/z=4\/z=5\/z=6\/z=7) with rfl | rfl | rfl | rfl | rfl | rfl | rfl | rfl
   ·rename_i c;exact absurd (M8.mp (by omega)) c
   ·have k:_<=(0+1:Int):=k;show _<=(1:Int);omega
   ·have k:_<=(0+1+1:Int):=k;show _<=(2:Int);omega
   ·have k:_<=(0+1+1+2:Int):=k;show _<=(4:Int);omega
   ·have k:_<=(0+1+1+2+4:Int):=k;show _<=(8:Int);omega
   ·have k:_<=(0+1+1+2+4+8:Int):=k;show _<=(16:Int);omega
   ·have k:_<=(0+1+1+2+4+8+16:Int):=k;show _<=q;rcases hq with h | h
    ·omega
    ·have:=l4 (by omega);omega
   ·have k:_<=(0+1+1+2+4+8+16+q:Int):=k;show _<=q+32;omega
theorem qbO (wf:WFn Ae) (f4:Few4 Ae) (l8:Ae.length<=8) {z:Int} (h0:0<=z) (h1:z<(Ae.length:Int)):cn Ae z<=62:=by
 obtain ⟨n,rfl⟩:∃ n:Nat,z=(n:Int):=⟨z.toNat,by omega⟩
 by_cases c:Ae.length=8
 ·have k:=cn_B wf f4 l8 (q:=30) (by omega) (.inr c) n (by omega)
  have:Bv 30 n<=62:=by
   rcases (by omega:n=0\/n=1\/n=2\/n=3\/n=4\/n=5\/n=6\/n=7) with rfl | rfl | rfl | rfl | rfl | rfl | rfl | rfl <;> decide
  omega
 ·have k:=cn_B wf f4 l8 (q:=32) (by omega) (.inl (by omega)) n (by omega)
  have:Bv 32 n<=62:=by
   rcases (by omega:n=0\/n=1\/n=2\/n=3\/n=4\/n=5\/n=6) with rfl | rfl | rfl | rfl | rfl | rfl | rfl <;> decide
  omega
end
theorem qLQ {Ae:List (List Int)} (h:∀ zs ∈ Ae,zs.length<=4):Few4 Ae:=fun i zs e _=>h zs (C5 e)
theorem qWA {Ae:List (List Int)} {os:List Int} (h:∀ zs ∈ Ae,zs.length<=4):Few4 (Ae++[os]):=fun i zs e l=>by
 rw [B0,C1] at l;rw [F7 (by omega)] at e
 exact h zs (C5 e)
theorem qQL {Ae:List (List Int)} {z:List Int} (h:∀ zs ∈ Ae,zs.length<=4) (hz:z.length<=4):∀ zs ∈ Ae++[z],zs.length<=4:=fun zs hzs=>by
 rcases C2.mp hzs with k | k
 ·exact h zs k
 ·rw [B2.mp k];exact hz
def WF4 (Ae:List (List Int)):Prop:=WFn Ae/\∀ zs ∈ Ae,zs.length<=4
theorem WF4.nil:WF4 []:=⟨WFn.nil,fun _ h=>nomatch h⟩
theorem WF4.snoc {Ae:List (List Int)} {zs:List Int} (h:WF4 Ae) (l:zs.length<=4) (hz:Rise (Ae.length:Int) zs):WF4 (Ae++[zs]):=⟨h.1.snoc hz,qQL h.2 l⟩
def qH3:Sp:=fun vs H Q _=>∃ (a:Addr) (Ae:List (List Int)) (work:Int),vs=[.ref a,.int work]/\NetAt H a Ae/\WFn Ae/\Ae.length<=401/\0<=work/\work<(Ae.length:Int)/\cn Ae work<=62/\∀ l ts H',Same H H'->H l=none->TLAt H' l ts->SortP Ae work ts->ts.length<=62->(∀ t ∈ ts,t.length<=401)->Q (.ref l) H'
theorem qQD {Ae:List (List Int)} {work:Int} {fs:List (List Int)} (wf:WFn Ae) (w0:0<=work) (few:cn Ae work<=62) (e:fs=aP Ae [work]):fs.length<=62:=by
 have al:((aP Ae [work]).length:Int)=cn Ae work:=qL3 wf _ [work] rfl w0;rw [e];omega
def qL8:Sp:=fun vs H Q _=>∃ d c t ns k,vs=[.ref d,.int k]/\StAt H d c t ns/\t<=TB - 20/\0<=k/\k<=1000/\
 ∀ r zs t' ns' H',StAt H' d c t' ns'->t<=t'->t'<=t+9->Keep d c H H'->H' r=some (.tup (zs.map V.int))->Rise k zs->zs.length<=4->Q (.ref r) H'
def qWU:Sp:=fun vs H Q _=>∃ d c t ns m,vs=[.ref d,.int m]/\StAt H d c t ns/\t<=TB - 10000/\1<=m/\m<=400/\
 ∀ a Ae t' ns' H',StAt H' d c t' ns'->t<=t'->t'<=t+10 * m+10->Keep d c H H'->NetAt H' a Ae->WFn Ae->(Ae.length:Int)=m->Few4 Ae->Q (.ref a) H'
def qSB:Sp:=fun vs H Q _=>∃ d c t ns m,vs=[.ref d,.int m]/\StAt H d c t ns/\t<=TB - 1000/\1<=m/\m<=400/\
 ∀ a Ae t' ns' H',StAt H' d c t' ns'->t<=t'->t'<=t+m->Keep d c H H'->NetAt H' a Ae->WFn Ae->(Ae.length:Int)=m->Few4 Ae->Q (.ref a) H'
def Row (H:Hp) (r:Addr) (p:List Int × List (List Int)):Prop:=∃ (tp ls:Addr) (rss:List Addr),H r=some (.tup [.ref tp,.ref ls])/\H tp=some (.tup (p.1.map V.int))/\H ls=some (.lst (rss.map V.ref))/\L2.G.TupsAt H rss p.2
theorem Row.same {H H':Hp} {r:Addr} {p:List Int × List (List Int)} (h:Row H r p) (s:Same H H'):Row H' r p:=by
 obtain ⟨tp,ls,rss,a,b,c,d⟩:=h;exact ⟨tp,ls,rss,s _ _ a,s _ _ b,s _ _ c,Paired.mapP d fun _ _ e=>s _ _ e⟩
def RowN (H:Hp) (N r:Addr) (p:List Int × List (List Int)):Prop:=∃ (tp ls:Addr) (rss:List Addr),H r=some (.tup [.ref tp,.ref ls])/\H tp=some (.tup (p.1.map V.int))/\H ls=some (.lst (rss.map V.ref))/\L2.G.TupsAt H rss p.2/\ls ≠ N
theorem RowN.same {H H':Hp} {N r:Addr} {p:List Int × List (List Int)} (h:RowN H N r p) (s:Same H H'):RowN H' N r p:=by
 obtain ⟨tp,ls,rss,a,b,c,d,e⟩:=h;exact ⟨tp,ls,rss,s _ _ a,s _ _ b,s _ _ c,Paired.mapP d fun _ _ e=>s _ _ e,e⟩
theorem RowN.put {H:Hp} {N r:Addr} {p:List Int × List (List Int)} {xs:List V} {o:HO} (h:RowN H N r p) (g:H N=some (.lst xs)):RowN (Ag H N o) N r p:=by
 obtain ⟨tp,ls,rss,a,b,c,d,e⟩:=h;have ne:∀ {q:Addr} {ys:List V},H q=some (.tup ys)->Ag H N o q=some (.tup ys):=fun k=>by rw [qA9 (qCL k g (by intro z;cases z))];exact k
 exact ⟨tp,ls,rss,ne a,ne b,by rw [qA9 e];exact c,Paired.mapP d fun _ _ k=>ne k,e⟩
theorem RowN.row {H:Hp} {N r:Addr} {p:List Int × List (List Int)} (h:RowN H N r p):Row H r p:=by
 obtain ⟨tp,ls,rss,a,b,c,d,e⟩:=h;exact ⟨tp,ls,rss,a,b,c,d⟩
def PapOk (Ae:List (List Int)) (work:Int) (ps:List (List Int × List (List Int))):Prop:=SortP Ae work (ps.map (·.1))/\∀ p ∈ ps,SidesOf Ae p.1 p.2
def qNZ:Sp:=fun vs H Q _=>∃ (a:Addr) (Ae:List (List Int)) (work:Int),vs=[.ref a,.int work]/\NetAt H a Ae/\WFn Ae/\Ae.length<=60/\0<=work/\work<(Ae.length:Int)/\cn Ae work<=62/\
 ∀ l rs ps H',Same H H'->H l=none->H' l=some (.lst (rs.map V.ref))->Paired (Row H') rs ps->PapOk Ae work ps->Q (.ref l) H'
theorem qVW:∀ {l:List Int} {m:Int},lowD none l=some m->m ∈ l/\∀ x ∈ l,m<=x:=by
 intro l m h;cases l with
 | nil=>cases h
 | cons x r=>
  have h:=J5 h;subst h;obtain ⟨h2,h3,h1⟩:=qTF r x;exact ⟨h1.elim (fun e=>by rw [e];exact B5) (B4 _),fun y hy=>(C9.mp hy).elim (fun e=>by rw [e];exact h2) (h3 y)⟩
theorem qYD {l:List Int} (h:l ≠ []):∃ m,lowD none l=some m:=by
 cases l with
 | nil=>exact absurd rfl h
 | cons x r=>exact ⟨_,rfl⟩
def qSH:Sp:=fun vs H Q _=>∃ (a:Addr) (Ae:List (List Int)) (work:Int),vs=[.ref a,.int work]/\NetAt H a Ae/\WFn Ae/\Ae.length<=60/\0<=work/\work<(Ae.length:Int)/\cn Ae work<=62/\∀ b H',Same H H'->1<=b->b<=62->Q (.int b) H'
section
variable {Ae:List (List Int)}
theorem qI7:∀ (l:List Int) (z a:Int),qC8 Ae (l++[z,a])=(qC8 Ae (l++[z]) && decide (z ∈ nd Ae a))
 | [],z,a=>by show (decide (z ∈ nd Ae a) && true)=(true && _);rw [V4,L8]
 | [x],z,a=>by show (decide (x ∈ nd Ae z) && (decide (z ∈ nd Ae a) && true))=((decide (x ∈ nd Ae z) && true) && _);rw [V4,V4]
 | x::y::l,z,a=>by
  show (decide (x ∈ nd Ae y) && qC8 Ae (y::l++[z,a]))=((decide (x ∈ nd Ae y) && qC8 Ae (y::l++[z])) && _);rw [qI7 (y::l) z a,Bool.and_assoc]
theorem qZ2 (wf:WFn Ae):∀ (k:Nat) (p:List Int),(hd p).toNat=k->0<=hd p->p ≠ []->∀ t ∈ aP Ae p,∃ pre,t=pre++p/\qC8 Ae (pre++[hd p])=true/\nd Ae ((pre++[hd p]).headD 0)=[]:=by
 intro k
 induction k using W5 with
 | ind k ih=>
  intro p hk h0 ne t ht;rw [qP8 wf h0] at ht
  split at ht
  ·rename_i e
   exact ⟨[],B2.mp ht,rfl,e⟩
  ·obtain ⟨l,hl,ht⟩:=c9.mp ht;obtain ⟨z,hz,rfl⟩:=E1.mp hl;have hz:=T5.mp hz;have b:=qD3 wf h0 hz;obtain ⟨pre,e,c,n⟩:=ih z.toNat (by omega) (z::p) rfl b.1 (by simp) t ht
   have c:qC8 Ae (pre++[z])=true:=c;have n:nd Ae ((pre++[z]).headD 0)=[]:=n;refine ⟨pre++[z],by rw [e];simp,?_,?_⟩
   ·rw [P6];show qC8 Ae (pre++[z,hd p])=true;rw [qI7,c,decide_eq_true hz]
    rfl
   ·cases pre with
    | nil=>exact n
    | cons x pre=>exact n
theorem qaT (wf:WFn Ae):∀ (n:Nat) (pre p:List Int),pre.length=n->0<=hd p->p ≠ []->qC8 Ae (pre++[hd p])=true->nd Ae ((pre++[hd p]).headD 0)=[]->pre++p ∈ aP Ae p
 | 0,pre,p,e,h0,ne,_,en=>by
  cases M8.mp e;have en:nd Ae (hd p)=[]:=en;rw [qP8 wf h0,if_pos en];exact B2.mpr rfl
 | n+1,pre,p,e,h0,ne,c,en=>by
  rcases i5 pre with z | ⟨pre',z,z'⟩
  ·rw [z] at e;cases e
  ·rw [i6] at z';subst z';rw [P6] at c en;have c:qC8 Ae (pre'++[z,hd p])=true:=c;rw [qI7,C7,decide_eq_true_eq] at c;have b:=qD3 wf h0 c.2;have m:=qaT wf n pre' (z::p) (by simpa using e) b.1 (by simp) c.1 (by cases pre' with | nil=>exact en | cons _ _=>exact en)
   rw [qP8 wf h0,if_neg (fun q=>by rw [q] at c;exact nomatch c.2),P6]
   exact c9.mpr ⟨_,E1.mpr ⟨z,T5.mpr c.2,rfl⟩,m⟩
theorem qWN (wf:WFn Ae):∀ (k:Nat) (p:List Int),(hd p).toNat=k->0<=hd p->p ≠ []->(aP Ae p).Nodup:=by
 intro k
 induction k using W5 with
 | ind k ih=>
  intro p hk h0 ne;rw [qP8 wf h0]
  split
  ·simp
  ·have key:∀ l:List Int,l.Nodup->(∀ z ∈ l,z ∈ nd Ae (hd p))->((l.map fun z=>aP Ae (z::p)).flatten).Nodup:=by
    intro l
    induction l with
    | nil=>exact fun _ _=>.nil
    | cons z l ihl=>
     intro n h;obtain ⟨n1,n2⟩:=O0.mp n;have b:=qD3 wf h0 (h z B5);rw [E7,P5];refine O8.mpr ⟨ih z.toNat (by omega) (z::p) rfl b.1 (by simp),ihl n2 fun y hy=>h y (B4 _ hy),fun a ha c hc e=>?_⟩
     subst e;obtain ⟨q,hq,hc⟩:=c9.mp hc;obtain ⟨z',hz',rfl⟩:=E1.mp hq;have b':=qD3 wf h0 (h z' (B4 _ hz'));obtain ⟨pre,e1,_⟩:=qZ2 wf _ (z::p) rfl b.1 (by simp) a ha
     obtain ⟨pre',e2,_⟩:=qZ2 wf _ (z'::p) rfl b'.1 (by simp) a hc
     have l1:pre.length=pre'.length:=by
      have:=congrArg B50 (e1.symm.trans e2);simp at this;omega
     have:=(List.append_inj (e1.symm.trans e2) l1).2
     injection this with hzz _
     exact n1 (hzz ▸ hz')
   exact key _ ((B29 _).nodup_iff.mpr ((qY6 wf (hd p)).imp fun h=>by omega)) fun z hz=>T5.mp hz
theorem qPY (wf:WFn Ae) {work:Int} {ts:List (List Int)} (S:SortP Ae work ts) (h0:0<=work) (zs:List Int):zs ∈ ts ↔ zs ≠ []/\qDP Ae zs=true/\zs.getLastD 0=work:=by
 rw [S.1.mem_iff]
 constructor
 ·intro h;obtain ⟨pre,rfl,c,n⟩:=qZ2 wf _ [work] rfl h0 (by simp) zs h
  have c:qC8 Ae (pre++[work])=true:=c;have n:nd Ae ((pre++[work]).headD 0)=[]:=n;refine ⟨by simp,?_,by rw [Q8];simp⟩
  unfold qDP;rw [c,n]
  rfl
 ·rintro ⟨ne,hp,hl⟩;obtain ⟨pre,a,rfl⟩:∃ pre a,zs=pre++[a]:=by
   rcases i5 zs with z | ⟨l,x,z⟩
   ·exact absurd z ne
   ·exact ⟨l,x,by rw [z,i6]⟩
  have ea:a=work:=by rw [Q8] at hl;simpa using hl
  subst ea;unfold qDP at hp;rw [C7,A50] at hp;exact qaT wf _ pre [a] rfl h0 (by simp) hp.1 hp.2
end
theorem qPH {α:Type} [DecidableEq α]:∀ {X P:List α},X.Nodup->(∀ x ∈ X,x ∈ P)->X.length=P.length->X.Perm P
 | [],P,_,_,e=>by
  have:P=[]:=M8.mp e.symm;rw [this]
 | x::X,P,n,h,e=>by
  obtain ⟨n1,n2⟩:=O0.mp n;have hx:=h x B5;have p:=List.perm_cons_erase hx;have l:=p.length_eq;rw [D9] at e l;exact ((qPH n2 (fun y hy=>(Y0 (show y ≠ x from fun z=>n1 (z ▸ hy))).mpr (h y (B4 _ hy))) (by omega)).cons x).trans p.symm
def lenD:PyData->Nat | .list ds=>ds.length | _=>0
def pthD:PyData->List Int | .tuple [a,_]=>qAX a | _=>[]
def rowD (Ae:List (List Int)) (work:Int):PyData->Bool
 | .tuple [a,b]=>qGC Ae a && decide ((qAX a).getLastD 0=work) && qDN Ae (qAX a) b
 | _=>false
def qOF (m:Int):PyData->Bool
 | .tuple [_,b]=>decide (m<=(lenD b:Int))
 | _=>false
def qEH (Ae:List (List Int)) (work m:Int) (d:PyData):Bool:=rowD Ae work d && qOF m d
def cutD (Ae:List (List Int)) (work Aa:Int) (N:Nat):PyData->Bool
 | .list ds=>decide (ds.length=N) && (!(nd Ae work).isEmpty || decide (Aa=1)) && (ds.all (qEH Ae work (Aa - 2)) && decide ((ds.map pthD).Nodup))
 | _=>false
def L63:Nat->PyData->Prop
 | 0,_=>True
 | n+1,d=>∀ (b:Bool) (ds:List PyData),d=seqD b ds->ds.length<=63/\∀ d' ∈ ds,L63 n d'
theorem L63.down:∀ {n:Nat} {d:PyData},L63 (n+1) d->L63 n d
 | 0,_,_=>trivial
 | n+1,_,h=>fun b ds e=>⟨(h b ds e).1,fun d' hd=>L63.down ((h b ds e).2 d' hd)⟩
theorem L63.len:∀ {n:Nat} {d:PyData},L63 n d->LenN n d
 | 0,_,_=>trivial
 | n+1,_,h=>fun b ds e=>⟨M5 (h b ds e).1 (by decide),fun d' hd=>((h b ds e).2 d' hd).len⟩
def AnyC (H:Hp) (n W:Nat) (x:V):Prop:=∃ d,DatN H n x d/\Sm W d/\L63 4 d
section
variable {H H':Hp} {n W:Nat} {x:V}
theorem AnyC.same (h:AnyC H n W x) (s:Same H H'):AnyC H' n W x:=by
 obtain ⟨d,a,b,c⟩:=h;exact ⟨d,a.same s,b,c⟩
theorem AnyC.up (h:AnyC H n W x):AnyC H (n+1) W x:=by
 obtain ⟨d,a,b,c⟩:=h;exact ⟨d,a.up,b,c⟩
theorem AnyC.mono {V:Nat} (h:AnyC H n W x) (l:W<=V):AnyC H n V x:=by
 obtain ⟨d,a,b,c⟩:=h;exact ⟨d,a,b.mono l,c⟩
theorem AnyC.leaf {d:PyData} (h:qKB x d) (s:Sm W d) (nl:∀ b ds,d ≠ seqD b ds):AnyC H n W x:=⟨d,by cases n with | zero=>exact h | succ n=>exact .inl h,s,fun b ds e=>absurd e (nl b ds)⟩
theorem AnyC.non:AnyC H n W .non:=.leaf (.inl ⟨rfl,rfl⟩) ⟨rfl,rfl,rfl,F5 _⟩ fun b ds e=>by cases b <;> cases e
theorem AnyC.bl {b:Bool}:AnyC H n W (.bl b):=.leaf (.inr (.inl ⟨b,rfl,rfl⟩)) ⟨rfl,rfl,rfl,F5 _⟩ fun b ds e=>by cases b <;> cases e
theorem AnyC.int {i:Int} (h : -2000<=i/\i<=2000):AnyC H n 11 (.int i):=.leaf (.inr (.inr (.inl ⟨i,rfl,rfl⟩))) (qZH h) fun b ds e=>by cases b <;> cases e
theorem AnyC.str0:AnyC H n W (.str ""):=.leaf (.inr (.inr (.inr ⟨_,rfl,rfl⟩))) ⟨rfl,rfl,rfl,F5 _⟩ fun b ds e=>by cases b <;> cases e
theorem qQK:∀ {xs:List V},(∀ x ∈ xs,AnyC H n W x)->∃ ds:List PyData,xs.length=ds.length/\(∀ (i:Nat) (x':V) (d':PyData),xs[i]?=some x'->ds[i]?=some d'->DatN H n x' d')/\∀ d ∈ ds,Sm W d/\L63 4 d
 | [],_=>⟨[],rfl,(fun i x' d' e=>by simp at e),fun _ h=>nomatch h⟩
 | x::xs,h=>by
  obtain ⟨d,h1,h2,h3⟩:=h x B5;obtain ⟨ds,l,k1,k2⟩:=qQK fun y hy=>h y (B4 _ hy);refine ⟨d::ds,by rw [D9,l,D9],fun i x' d' e1 e2=>?_,fun e he=>?_⟩
  ·cases i with
   | zero=>cases e1;cases e2;exact h1
   | succ i=>exact k1 i x' d' e1 e2
  ·rcases C9.mp he with z | z
   ·rw [z];exact ⟨h2,h3⟩
   ·exact k2 e z
theorem AnyC.seq {b:Bool} {p:Addr} {xs:List V} {L:Nat} (g:H p=some (seqO b xs)) (l:xs.length<=L) (l63:L<=63) (h:∀ x ∈ xs,AnyC H n W x):AnyC H (n+1) (L * (W+1)) (.ref p):=by
 obtain ⟨ds,le,k1,k2⟩:=qQK h;refine ⟨seqD b ds,.inr ⟨b,p,xs,ds,rfl,rfl,g,le,k1⟩,Sm.seq (fun d hd=>(k2 d hd).1) (by omega),fun b' ds' e=>?_⟩
 have e2:ds=ds':=by cases b <;> cases b' <;> cases e <;> rfl
 rw [<- e2];exact ⟨by omega,fun d hd=>(k2 d hd).2.down⟩
end
def qWS:Sp:=fun vs H Q _=>∃ (a:Addr) (Ae:List (List Int)) (work m:Int) (x:V) (n:Nat) (d:PyData),vs=[.ref a,.int work,.int m,x]/\NetAt H a Ae/\WFn Ae/\Ae.length<=400/\DatN H n x d/\L63 3 d/\∀ H',Same H H'->Q (.bl (qEH Ae work m d)) H'
def qbR (H:Hp) (a:Addr) (Ae:List (List Int)) (work:Int):Prop:=NetAt H a Ae/\WFn Ae/\Ae.length<=8/\0<=work/\work<(Ae.length:Int)/\cn Ae work<=62
def nP (Ae:List (List Int)) (work:Int):Nat:=(aP Ae [work]).length
def qI1:Sp:=fun vs H Q _=>∃ (a:Addr) (Ae:List (List Int)) (work Aa:Int) (x:V) (n:Nat) (d:PyData),vs=[.ref a,.int work,.int Aa,x]/\qbR H a Ae work/\DatN H n x d/\L63 4 d/\∀ H',Same H H'->Q (.bl (cutD Ae work Aa (nP Ae work) d)) H'
def qJE:Sp:=fun vs H Q _=>∃ (a t:Addr) (Ae:List (List Int)) (path:List Int) (x:V) (n:Nat) (d:PyData),vs=[.ref a,.ref t,x]/\qHT H a t Ae path/\Ae.length<60/\path.length<=60/\(∀ ds,d=.list ds->ds.length<=63)/\DatN H n x d/\LenN 2 d/\∀ H',Same H H'->Q (.bl (qDN Ae path d)) H'
def qSC:Sp:=qI1
def wayB:PyData->Bool
 | .tuple ds=>ds.all fun d=>match d with | .int _=>true | _=>false
 | _=>false
def qSF:Sp:=fun vs H Q _=>∃ (a:Addr) (x:V) (n:Nat) (d:PyData),vs=[.ref a,x]/\DatN H n x d/\LenN 1 d/\∀ H',Same H H'->Q (.bl (wayB d)) H'
theorem qMR {H:Hp} {Ae:List (List Int)} {work:Int} {n:Nat} {x:V} {d:PyData} (D:DatN H n x d) (h:rowD Ae work d=true):∃ (tt tz ll:Addr) (zs:List Int) (ys:List V) (es:List PyData),x=.ref tt/\d=.tuple [.tuple (zs.map .int),.list es]/\H tt=some (.tup [.ref tz,.ref ll])/\H tz=some (.tup (zs.map V.int))/\H ll=some (.lst ys)/\ys.length=es.length/\pthD d=zs/\zs ≠ []/\qDP Ae zs=true/\zs.getLastD 0=work:=by
 obtain ⟨d0,db,rfl⟩:∃ d0 db,d=.tuple [d0,db]:=by
  unfold rowD at h
  match d,h with
  | .tuple [u,v],_=>exact ⟨u,v,rfl⟩
 have h:(qGC Ae d0 && decide ((qAX d0).getLastD 0=work) && qDN Ae (qAX d0) db)=true:=h;rw [C7,C7,decide_eq_true_eq] at h;obtain ⟨k,tt,xs,ds,rfl,rfl,e2,gt,lx,el⟩:=qF6 D rfl;cases e2;obtain ⟨x0,x1,rfl⟩:∃ x0 x1,xs=[x0,x1]:=by match xs,lx with | [u,v],_=>exact ⟨u,v,rfl⟩
 obtain ⟨tz,zs,rfl,rfl,ei,gz,zne,zin⟩:=qDO (el 0 x0 d0 rfl rfl) h.1.1;have cl:lstB db=true:=by cases db <;> first | rfl | cases h.2
 obtain ⟨k2,ll,ys,es,rfl,rfl,rfl,gl,ly,_⟩:=qI6 (el 1 x1 db rfl rfl) cl;have hp:(!(zs.map Q6).isEmpty && _ && qDP Ae ((zs.map Q6).map qKH))=true:=h.1.1;rw [C7,qC6] at hp;exact ⟨tt,tz,ll,zs,ys,es,rfl,rfl,gt,gz,gl,ly,ei,zne,hp.2,by rw [<- ei];exact h.1.2⟩
theorem qSP {Ae:List (List Int)} {work:Int} (wf:WFn Ae) (w0:0<=work) {X ts:List (List Int)} (S:SortP Ae work ts) (h:∀ x ∈ X,x ∈ ts):(X.length=nP Ae work/\X.Nodup) ↔ X.Perm (aP Ae [work]):=by
 constructor
 ·rintro ⟨l,n⟩;exact qPH n (fun x hx=>S.1.mem_iff.mp (h x hx)) l
 ·intro p;exact ⟨p.length_eq,p.nodup_iff.mpr (qWN wf _ [work] rfl w0 (by simp))⟩
theorem qUF {Ae:List (List Int)} {work Aa:Int} {N:Nat} {ds:List PyData} {d:PyData} (m:d ∈ ds) (h:rowD Ae work d=false):cutD Ae work Aa N (.list ds)=false:=by
 have:ds.all (qEH Ae work (Aa - 2))=false:=L9.mpr fun y=>by
  have:=E5.mp y d m;unfold qEH at this;rw [h] at this;cases this
 show (_ && (ds.all (qEH Ae work (Aa - 2)) && _))=false;rw [this,P3,P7]
def red (d c:Addr) (H:Hp):Hp:=fun b=>if b=d\/b=c then none else H b
section
variable {d c:Addr} {H H':Hp}
theorem qCD {p:Addr} {o:HO} (n:p ≠ d/\p ≠ c) (g:H p=some o):red d c H p=some o:=by
 unfold red;rw [if_neg fun z=>z.elim n.1 n.2];exact g
theorem qD6:Same (red d c H) H:=fun b o e=>by
 unfold red at e;by_cases z:b=d\/b=c
 ·rw [if_pos z] at e;cases e
 ·rw [if_neg z] at e;exact e
theorem qPR {b:Addr} {o:HO} (e:red d c H b=some o):b ≠ d/\b ≠ c:=by
 unfold red at e;by_cases z:b=d\/b=c
 ·rw [if_pos z] at e;cases e
 ·exact ⟨fun h=>z (.inl h),fun h=>z (.inr h)⟩
theorem qAC (k:Same H H'):Same (red d c H) (red d c H'):=fun b o e=>qCD (qPR e) (k b o (qD6 b o e))
theorem qCY (k:Keep d c H H'):Same (red d c H) (red d c H'):=fun b o e=>qCD (qPR e) (k b o (qD6 b o e) (qPR e).1 (qPR e).2)
end
structure RowB (p:List Int × List (List Int)):Prop where
 ne:p.1 ≠ []
 pl:p.1.length<=8
 pin:∀ z ∈ p.1,-2000<=z/\z<=2000
 sl:p.2.length<=8
 sb:∀ s ∈ p.2,s.length<=8/\∀ z ∈ s,-2000<=z/\z<=2000
theorem PapOk.rows {Ae:List (List Int)} {work:Int} {ps:List (List Int × List (List Int))} (wf:WFn Ae) (n8:Ae.length<=8) (w0:0<=work) (w1:work<(Ae.length:Int)) (h:PapOk Ae work ps):∀ p ∈ ps,RowB p:=fun p hp=>by
 obtain ⟨ne,R⟩:=(h.1.some wf w0 w1).2 p.1 (E1.mpr ⟨p,hp,rfl⟩);obtain ⟨_,k,l⟩:=(h.2 p hp).are wf;have:=R.len;refine ⟨ne,by omega,fun z hz=>by have:=R.in_ z hz;omega,by omega,fun s hs=>?_⟩
 obtain ⟨_,k2,k3⟩:=k s hs;exact ⟨by omega,fun z hz=>by have:=k3 z hz;omega⟩
theorem Row.red {H:Hp} {d c r:Addr} {t:Int} {ns:List Int} {p:List Int × List (List Int)} (S:StAt H d c t ns) (h:Row H r p):Row (red d c H) r p:=by
 obtain ⟨tp,ls,rss,a,b,g,T⟩:=h;have nl:ls ≠ d/\ls ≠ c:=by
  refine ⟨qCL g S.dict (by intro z;cases z),fun e=>?_⟩
  rw [e,S.list] at g;have l:=S.ne
  injection g with g
  injection g with g
  cases ns with
  | nil=>simp at l
  | cons x ns=>cases rss with | nil=>cases g | cons y r=>rw [E7,E7] at g;injection g with g _;cases g
 exact ⟨tp,ls,rss,qCD (S.tup a) a,qCD (S.tup b) b,qCD nl g,Paired.mapP T fun r t e=>qCD (S.tup e) e⟩
theorem qE9 {R:Hp} {q:Addr} {zs:List Int} (b:Bool) (g:R q=some (seqO b (zs.map V.int))) (l:zs.length<=8) (h:∀ z ∈ zs,-2000<=z/\z<=2000):AnyC R 1 96 (.ref q):=
 AnyC.seq (n:=0) (W:=11) (L:=8) g (by rw [A0];exact l) (by decide) fun x hx=>by
  obtain ⟨z,hz,rfl⟩:=E1.mp hx;exact .int (h z hz)
theorem qM2 {R:Hp} {rss:List Addr} {ss:List (List Int)} (T:L2.G.TupsAt R rss ss) (h:∀ s ∈ ss,s.length<=8/\∀ z ∈ s,-2000<=z/\z<=2000):∀ x ∈ rss.map V.ref,AnyC R 1 96 x:=fun x hx=>by
 obtain ⟨r,hr,rfl⟩:=E1.mp hx;obtain ⟨s,hs,g⟩:=L2.G.tups_mem T hr;exact qE9 true g (h s hs).1 (h s hs).2
theorem qXV {R:Hp} {r:Addr} {p:List Int × List (List Int)} (h:Row R r p) (b:RowB p):AnyC R 3 5823 (.ref r):=by
 obtain ⟨tp,ls,rss,a,gp,gl,T⟩:=h;have lr:=C8 T;have h1:AnyC R 1 96 (.ref tp):=qE9 true gp b.pl b.pin;have h2:AnyC R 2 1940 (.ref ls):=AnyC.seq (b:=false) (n:=1) (W:=96) (L:=20) gl (by rw [A0];have:=b.sl;omega) (by decide) (qM2 T b.sb)
 exact AnyC.seq (b:=true) (n:=2) (W:=1940) (L:=3) a (by show 2<=3;decide) (by decide) fun x hx=>by
  simp at hx;rcases hx with rfl | rfl
  ·exact h1.up.mono (by decide)
  ·exact h2
theorem qJX {xs:List V} {lo hi:Option Int} {x:V} (h:x ∈ cutV xs lo hi):x ∈ xs:=by
 unfold cutV at h;exact Q0 (k4 h)
theorem qUG (xs:List V) (lo hi:Option Int):(cutV xs lo hi).length<=xs.length:=by
 unfold cutV;rw [D7,F2];omega
theorem qRM (xs:List V) (k:Nat) (h:k<=xs.length):cutV xs (some (k:Int)) none=xs.drop k:=by
 unfold cutV;rw [HT.sIx_nat,HT.sIx_none,A01 h];exact L7 (by rw [F2];exact B3 _)
theorem qWD (xs:List V) (k:Nat):cutV xs none (some (k:Int))=xs.take k:=by
 unfold cutV;rw [HT.sIx_nat,HT.sIx_none,A89,B34];rcases Nat.le_total k xs.length with h | h
 ·rw [A01 h]
 ·rw [B44 h,L7 h,L7 (B3 _)]
theorem qMQ {R:Hp} {r:Addr} {p:List Int × List (List Int)} (h:Row R r p) (b:RowB p):∃ tp ls,R r=some (.tup [.ref tp,.ref ls])/\AnyC R 2 1940 (.ref tp)/\AnyC R 2 1940 (.ref ls):=by
 obtain ⟨tp,ls,rss,a,gp,gl,T⟩:=h;have lr:=C8 T;exact ⟨tp,ls,a,(qE9 true gp b.pl b.pin).up.mono (by decide),AnyC.seq (b:=false) (n:=1) (W:=96) (L:=20) gl (by rw [A0];have:=b.sl;omega) (by decide) (qM2 T b.sb)⟩
theorem qFN {H:Hp} {d c q:Addr} {t:Int} {ns:List Int} (S:StAt H d c t ns) (h:H q=none):q ≠ d/\q ≠ c:=⟨(qA8 S.dict h).symm,(qA8 S.list h).symm⟩
theorem qDY {H:Hp} {d c q:Addr} {t:Int} {ns:List Int} {xs:List V} (b:Bool) (S:StAt H d c t ns) (h:H q=none) (l:xs.length<=63) (m:∀ x ∈ xs,AnyC (red d c H) 3 5823 x):AnyC (red d c (Ag H q (seqO b xs))) 5 400000 (.ref q):=
 ((AnyC.seq (b:=b) (n:=3) (W:=5823) (L:=63) (qCD (qFN S h) qA1) l (by decide) fun x hx=>(m x hx).same (qAC (qA2 h (seqO b xs)))).up).mono (by decide)
def ZAn (d c:Addr) (H:Hp) (xs:List V):Prop:=∀ x ∈ xs,AnyC (red d c H) 3 5823 x
theorem ZAn.same {d c:Addr} {H G:Hp} {xs:List V} (h:ZAn d c H xs) (s:Same H G):ZAn d c G xs:=fun x hx=>(h x hx).same (qAC s)
theorem ZAn.snoc {d c:Addr} {H:Hp} {xs:List V} {y:V} (h:ZAn d c H xs) (a:AnyC (red d c H) 3 5823 y):ZAn d c H (xs++[y]):=fun x hx=>by
 rcases C2.mp hx with z | z
 ·exact h x z
 ·rw [B2.mp z];exact a
theorem qAJ {H:Hp} {p:Addr} (h:H p=none) (o:HO):∃ G,Ag H p o=G/\Same H G/\G p=some o:=⟨_,rfl,qA2 h o,qA1⟩
def qMD:Sp:=fun vs H Q _=>∃ (d c:Addr) (t:Int) (ns:List Int) (a r:Addr) (p:List Int × List (List Int)),vs=[.ref d,.ref a,.ref r]/\StAt H d c t ns/\t<=TB - 100/\Row H r p/\RowB p/\
 ∀ x t' ns' H',StAt H' d c t' ns'->t<=t'->t'<=t+10->Keep d c H H'->AnyC (red d c H') 3 5823 x->Q x H'
def qSI:Sp:=fun vs H Q _=>∃ (d c:Addr) (t:Int) (ns:List Int) (a l:Addr) (Ae:List (List Int)) (rs:List Addr) (ps:List (List Int × List (List Int))),vs=[.ref d,.ref a,.ref l]/\StAt H d c t ns/\t<=TB - 200/\NetAt H a Ae/\1<=Ae.length/\Ae.length<=8/\H l=some (.lst (rs.map V.ref))/\l ≠ d/\l ≠ c/\Paired (Row H) rs ps/\(∀ p ∈ ps,RowB p)/\1<=rs.length/\rs.length<=62/\
 ∀ x t' ns' H',StAt H' d c t' ns'->t<=t'->t'<=t+20->Keep d c H H'->AnyC (red d c H') 5 400000 x->Q x H'
section
variable {P:Program} {w:World} {K:PySem.W.Frag} {mg:Str->Option Value} {base:Heap} {f:Addr} {fd:FuncData}
theorem sc_Lbegin:FnScope ["_law_script","_law_cells"] ["_law_script"] (qAE qIZ):=⟨rfl,rfl,rfl,by decide +kernel,rfl,by decide +kernel,by decide +kernel⟩
theorem ok_Lbegin (F:Fun K "_law_begin" "_law_begin" qIZ f fd) (qBY:mg "list" = none):FnOk P w K mg base CX0 1 f fd ["_law_script"] (qSJ K):=by
 refine F.ok sc_Lbegin (fun vs H Q E h=>?_) (fun cdv A outer s H vs Q E hr h=>?_)
 ·obtain ⟨a,ns,rfl,_⟩:=h
  rfl
 obtain ⟨a,ns,rfl,hS,h63,q⟩:=h;have hu:=qGD hr;have hu0:=hr.units0;refine ⟨_,(qA4 (qAG (i:=1) sc_Lbegin.nd rfl (E8 rfl) (qAN qFS rfl qBY qGR (qA0 (qB2 qCI (pv 0) qBK (qBD qA5)) qA3))) (qA4 (qBB (qAO (qT6 hu0) (pv 1) (qAR qA3) (qAU _)) (qA6 (qAG (i:=1) sc_Lbegin.nd rfl (E8 rfl) (qAR (qA0 qA5 qA3)))) qAH) (qA6 (qAF (qO9 (qHA qII (pv 1) (qHA qII qA5 qO8)) rfl rfl (by simp) (by decide)))))),?_⟩
 try dsimp only [Cx.nox,Cx.wish,cxOf]
 refine ⟨_,rfl,_,rfl,a,_,rfl,hS,fun p hp=>?_⟩;rw [qCZ];have hl:(cutI ns none (some 63)).length<=63:=M5 (qQF _ _ _) h63;refine ⟨p,_,rfl,.inl (SqL.of qA1),fun c hc=>?_⟩;have s1:Same H (Ag (Ag H p (.lst ((cutI ns none (some 63)).map V.int))) c (.lst ((cutI ns none (some 63)).map V.int))):=(qA2 hp _).trans (qA2 hc _);refine ⟨_,rfl,(by show 0<=sizeLine;decide),fun e he=>?_⟩
 have hce:c ≠ e:=qA8 qA1 he;refine ⟨c,e,_,rfl,rfl,SqL.of (by rw [qA9 hce];exact qA1),SqL.of qA1,_,rfl,?_⟩
 have s2:=s1.trans (qA2 he (.lst []));cases hm:cutI ns none (some 63) with
 | nil=>
  rw [hm] at s2 he;refine iteT ?_;refine ⟨(by show 1<=sizeLine;decide),fun c2 hc2=>?_⟩
  have s3:=s2.trans (qA2 hc2 (.lst [.int 7]));intro d hd;refine ⟨_,rfl,?_⟩;have s4:=s3.trans (qA2 hd (.dK []));refine ⟨qA1,[(Q4 (J9 "cells"),.ref c2),(Q4 (J9 "turn"),.int 0)],rfl,(by show 2<=15;decide),?_⟩
  have ncd:c2 ≠ d:=qA8 qA1 hd;refine q d c2 [7] _ ⟨?_,?_,by decide,by decide,by decide⟩ ?_ ?_ ?_
  ·rw [qA1,qX4]
  ·rw [qA9 ncd,qA9 ncd];exact qA1
  ·rw [qHY];exact s3.trans (qA2 hd _)
  ·exact s3.free hd
  ·exact s2.free hc2
 | cons x r=>
  rw [hm] at s2 he hl;refine iteF ?_;intro d hd;refine ⟨_,rfl,?_⟩;refine ⟨qA1,[(Q4 (J9 "cells"),.ref c),(Q4 (J9 "turn"),.int 0)],rfl,(by show 2<=15;decide),?_⟩
  have gc:(Ag (Ag (Ag H p (.lst ((x::r).map V.int))) c (.lst ((x::r).map V.int))) e (.lst [])) c=some (.lst ((x::r).map V.int)):=by rw [qA9 hce];exact qA1
  have ncd:c ≠ d:=qA8 gc hd;refine q d c (x::r) _ ⟨?_,?_,by simp,hl,by decide⟩ ?_ ?_ ?_
  ·rw [qA1,qX4]
  ·rw [qA9 ncd,qA9 ncd];exact gc
  ·rw [qHY];exact s2.trans (qA2 hd _)
  ·exact s2.free hd
  ·rw [hm] at hc;exact (qA2 hp _).free hc
theorem sc_Ltake:FnScope ["_law_state","_law_many","_law_turn","_law_place","_law_cell","_law_digit","_law_mixed"] ["_law_state","_law_many"] (qAE qLC):=⟨rfl,rfl,rfl,by decide +kernel,rfl,by decide +kernel,by decide +kernel⟩
theorem ok_Ltake (F:Fun K "_law_take" "_law_take" qLC f fd) (qB6:mg "len" = none) (qFW:mg "divmod" = none):FnOk P w K mg base CX0 1 f fd ["_law_state","_law_many"] qJD:=by
 refine F.ok sc_Ltake (fun vs H Q E h=>?_) (fun cdv A outer s H vs Q E hr h=>?_)
 ·obtain ⟨d,c,t,ns,m,rfl,_⟩:=h
  rfl
 obtain ⟨d,c,t,ns,m,rfl,S,ht,hm1,hm2,q⟩:=h;have hu:=qGD hr;refine ⟨_,(qA4 (qAG (i:=2) sc_Ltake.nd rfl (E8 rfl) (qAM qCG (qCS hu (pv 0) qII (fun _ _=>rfl)) qA5)) (qA4 (qFM hu (pv 0) qII (pv 2) rfl) (qA4 (qAG (i:=3) sc_Ltake.nd rfl (E8 rfl) (qAM qJJ (pv 2) (qAA qAI rfl qB6 qBT (qA0 (qCS hu (pv 0) qII (fun _ _=>rfl)) qA3)))) (qA4 (qAG (i:=4) sc_Ltake.nd rfl (E8 rfl) (qB0 qC3 (qCS hu (pv 0) qII (fun _ _=>rfl)) (pv 3) (fun _ _=>rfl))) (qA4 (qBB (qAO qVP (pv 4) (qAM qZX qA5 qA5) (qAU _)) (qA4 (qX0 (qAA qOW rfl qFW qUU (qA0 (pv 4) (qA0 (pv 1) qA3))) (qKO rfl (qBQ (qZV (qCS hu (pv 0) qII (fun _ _=>rfl)) (pv 3) qVD) (qBQ (qAD (i:=5) sc_Ltake.nd rfl (E8 rfl)) qGK)))) (qA6 (qAF (pv 5)))) qAH) (qA4 (qAG (i:=6) sc_Ltake.nd rfl (E8 rfl) (qAM qJJ (qAM qE0 (qAM qCG (qAM qCG (qAM qJJ (pv 4) qA5) (qAM qE0 (qAM qE0 (pv 2) (pv 2)) qA5)) qA5) qA5) qA5)) (qA4 (qAG (i:=6) sc_Ltake.nd rfl (E8 rfl) (qAM qJJ (qAM qE0 (pv 6) (pv 6)) qA5)) (qA6 (qAF (qAM qJJ (qAM qJK (qAM qJJ (qAM qE0 (qAM qCG (pv 6) (qAM qE0 (pv 2) qA5)) qA5) qA5) qA5) (pv 1))))))))))),?_⟩
 try dsimp only [Cx.nox,Cx.wish,cxOf]
 have hpos:=S.pos;have hne:=S.ne;have ht':t<=1000000000:=ht;refine ⟨_,rfl,d,_,rfl,qYT S,_,_,rfl,rfl,?_⟩;refine ⟨_,rfl,_,rfl,d,_,rfl,qYS S,?_⟩;have S1:=S.turn (u:=t+1) (by omega)
 have k1:Keep d c H (Ag H d (.dK [(Q4 (J9 "cells"),.ref c),(Q4 (J9 "turn"),.int (t+1))])):=fun b o e n _=>by rw [qA9 n];exact e
 generalize Ag H d (.dK [(Q4 (J9 "cells"),.ref c),(Q4 (J9 "turn"),.int (t+1))])=H1 at S1 k1;have hlen:(((ns.map V.int).length:Nat):Int)=(ns.length:Int):=by rw [A0]
 refine ⟨_,rfl,_,rfl,d,_,rfl,qLT S1,c,_,rfl,.inl (SqL.of S1.list),_,_,rfl,rfl,(by rw [hlen];omega),?_⟩
 have p0:0<=(t+1) % (((ns.map V.int).length:Nat):Int):=Y6 _ (by rw [hlen];omega)
 have p1:(t+1) % (((ns.map V.int).length:Nat):Int)<(ns.length:Int):=by
  have:=V2 (t+1) (b:=(((ns.map V.int).length:Nat):Int)) (by rw [hlen];omega)
  rw [hlen] at this ⊢;exact this
 dsimp only;generalize (t+1) % (((ns.map V.int).length:Nat):Int)=pl at p0 p1;obtain ⟨j,rfl⟩:∃ j:Nat,pl=(j:Int):=⟨pl.toNat,by omega⟩
 have hj:j<ns.length:=by omega
 have hat:atI (ns.map V.int) (j:Int)=some (.int ns[j]):=qUZ (by rw [C4,A5 hj];rfl)
 refine ⟨_,rfl,d,_,rfl,qLT S1,_,rfl,c,_,_,_,rfl,rfl,SqL.of S1.list,hat,?_⟩;generalize hx:ns[j]=x at hat ⊢;refine ⟨_,rfl,_,_,rfl,rfl,⟨by decide,by decide,by decide⟩,_,_,rfl,rfl,_,rfl,?_⟩
 refine ite2 (fun _=>?_) (fun _=>?_)
 ·-- a great cell
  refine ⟨_,rfl,_,rfl,x,m,rfl,⟨by omega,by omega⟩,fun p hp=>?_⟩
  have S2:=S1.new hp (.tup [.int (x / m),.int (x % m)]);have npc:p ≠ c:=(qA8 S1.list hp).symm;refine ⟨p,_,rfl,SqT.of qA1,rfl,_,_,rfl,?_⟩;refine ⟨_,rfl,d,_,rfl,qLT S2,_,rfl,c,_,_,j,rfl,rfl,S2.list,qYL (by rw [A0];exact hj),?_⟩
  refine ⟨_,_,rfl,rfl,?_⟩;refine ⟨_,rfl,?_⟩;have e1:(ns.map V.int).set j (.int (x / m))=(ns.set j (x / m)).map V.int:=by rw [List.map_set]
  rw [e1];refine q (x % m) (ns.set j (x / m)) _ (Y6 _ (by omega)) (V2 _ (by omega)) (S2.put (by rw [B51])) ?_
  have k2:=k1.trans (qEZ (d:=d) (c:=c) hp (.tup [.int (x / m),.int (x % m)]));exact fun b o e n1 n2=>by rw [qA9 n2];exact k2 b o e n1 n2
 ·have b1:0<=x % 2147483629:=Y6 _ (by decide)
  have b2:x % 2147483629<2147483629:=V2 _ (by decide)
  refine ⟨_,rfl,_,_,rfl,rfl,(by show (0:Int)<2147483629;decide),_,rfl,_,rfl,_,_,rfl,rfl,.inl ⟨by omega,by omega⟩,_,_,rfl,rfl,.inr ⟨by decide,by decide⟩,_,_,rfl,rfl,_,_,rfl,rfl,_,_,rfl,rfl,.inr ⟨by decide,by decide⟩,_,_,rfl,rfl,(by show (0:Int)<2147483647;decide),?_⟩
  have c1:=Y6 ((x % 2147483629+(t+1) * (t+1) * 7919+11) * 48271) (b:=2147483647) (by decide)
  have c2:=V2 ((x % 2147483629+(t+1) * (t+1) * 7919+11) * 48271) (b:=2147483647) (by decide)
  dsimp only;generalize ((x % 2147483629+(t+1) * (t+1) * 7919+11) * 48271) % 2147483647=y at c1 c2;refine ⟨_,rfl,_,rfl,_,_,rfl,rfl,.inl ⟨by omega,by omega⟩,_,_,rfl,rfl,(by show (0:Int)<2147483587;decide),?_⟩
  dsimp only;generalize y * y % 2147483587=z;refine ⟨_,rfl,_,rfl,_,_,rfl,rfl,.inr ⟨by decide,by decide⟩,_,_,rfl,rfl,_,_,rfl,rfl,.inr ⟨by decide,by decide⟩,_,_,rfl,rfl,(by show (0:Int)<2147483629;decide),_,_,rfl,rfl,⟨by decide,by decide⟩,_,rfl,_,_,rfl,rfl,(by omega),?_⟩
  exact q _ ns _ (Y6 _ (by omega)) (V2 _ (by omega)) S1 k1
end
section
variable {P:Program} {w:World} {K:PySem.W.Frag} {mg:Str->Option Value} {base:Heap} {f:Addr} {fd:FuncData} {qCW:Addr} {qCM:FuncData}
theorem sc_Lsome_needs:FnScope ["_law_state","_law_k","_law_found","_law_turn","_law_far"] ["_law_state","_law_k"] (qAE qDC):=⟨rfl,rfl,rfl,by decide +kernel,rfl,by decide +kernel,by decide +kernel⟩
theorem ok_Lsome_needs (F:Fun K "_law_some_needs" "_law_some_needs" qDC f fd) (qAP:Clb P w K mg base 1 qCW qCM "_law_take" ["_law_state","_law_many"] qJD)
  (qBI:mg "range" = none) (qGJ:mg "min" = none) (qAK:mg "tuple" = none) (qAT:mg "sorted" = none) (qGI:mg "set" = none):FnOk P w K mg base CX0 2 f fd ["_law_state","_law_k"] qL8:=by
 refine F.ok sc_Lsome_needs (fun vs H Q E h=>?_) (fun cdv A outer s H vs Q E hr h=>?_)
 ·obtain ⟨d,c,t,ns,k,rfl,_⟩:=h
  rfl
 obtain ⟨d,c,t,ns,k,rfl,S,ht,hk0,hk1,q⟩:=h;have ht':t<=1000000000 - 20:=ht;have qW1:Room 1 _:=hr;refine ⟨_,(qA4 (qAG (i:=2) sc_Lsome_needs.nd rfl (E8 rfl) (qAR qA3)) (qA4 (qCE F3 rfl (qD1 rfl qBI (qA0 (qB4 qAP hr rfl (qA0 (pv 0) (qA0 qA5 qA3))) qA3)) (qAD (i:=3) sc_Lsome_needs.nd rfl (E8 rfl)) (qA4 (qAG (i:=4) sc_Lsome_needs.nd rfl (E8 rfl) (qB0 qC3 (qAR (qA0 (qAA (qK4 rfl) rfl qGJ qQJ (qA0 (pv 1) (qA0 qA5 qA3))) (qA0 (pv 1) qA3))) (qAM qJK (qB4 qAP hr rfl (qA0 (pv 0) (qA0 qA5 qA3))) qA5) (fun _ _=>rfl))) (qA6 (qBB (qAO qY4 (pv 1) qA5 (qAU _)) (qA6 (qC0 (qGL E4 K0 L5 qBP (pv 2) (qA0 (qAM qDQ (qAM qDQ (pv 1) qA5) (qB4 qAP hr rfl (qA0 (pv 0) (qA0 (pv 4) qA3)))) qA3)))) qAH)))) (qA6 (qAF (qAN qAS rfl qAK qB7 (qA0 (qAA (qK3 rfl) rfl qAT qDS (qA0 (qAN (qQH rfl) rfl qGI qQI (qA0 (pv 2) qA3)) qA3)) qA3)))))),?_⟩
 try dsimp only [Cx.nox,Cx.wish,cxOf]
 refine cut fun N0 hN0=>?_;refine ⟨(by show 0<=sizeLine;decide),fun fo hfo=>?_⟩
 have S1:=S.new hfo (.lst []);have nd:fo ≠ d:=(qA8 S.dict hfo).symm;have nc:fo ≠ c:=(qA8 S.list hfo).symm;refine hN0 _ _ (cut fun N1 hN1=>?_);refine ⟨_,rfl,d,c,t,ns,5,rfl,S1,(by show t<=1000000000;omega),by decide,by decide,fun j ns1 H1 j0 j5 S2 K2=>?_⟩
 refine ⟨j,rfl,by omega,by omega,qHL (lo:=0) (n:=j.toNat) (fun i σ Hc=>∃ (t':Int) (ms fs:List Int) (v1 v2:Option V),σ=[some (.ref d),some (.int k),some (.ref fo),v1,v2]/\StAt Hc d c t' ms/\t<=t'/\t'<=t+1+2 * i/\Keep d c H Hc/\
  Hc fo=some (.lst (fs.map V.int))/\fs.length<=i/\∀ x ∈ fs,0<=x/\x<k)
  ⟨t+1,ns1,[],none,none,rfl,S2,by omega,by omega,(qEZ hfo _).trans K2,K2 _ _ qA1 nd nc,B3 _,fun _ z=>nomatch z⟩ ?_ ?_⟩
 ·refine fun i σ Hc hi hI_1=>opq fun G_1 hG_1=>?_;obtain ⟨t',ms,fs,v1,v2,rfl,S3,a1,a2,K3,h3,l3,m3⟩:=hI_1;refine hG_1 ?_;have hi5:(i:Int)<5:=by omega
  -- far
  refine nmD fun D1 d1 dr=>cut fun M0 hM0=>?_;refine ⟨_,rfl,k,4,rfl,_,rfl,(by show 2<=sizeLine;decide),fun p hp=>?_⟩
  have S4:=S3.new hp (.lst [.int (if (4:Int)<k then 4 else k),.int k])
  have npd:p ≠ d:=(qA8 S3.dict hp).symm;have npc:p ≠ c:=(qA8 S3.list hp).symm;refine ⟨_,rfl,d,c,t',ms,4,rfl,S4,(by show t'<=1000000000;omega),by decide,by decide,fun k2 ms2 H2 g0 g4 S5 K5=>?_⟩
  obtain ⟨far,hfar,ef⟩:=qbE (a:=if (4:Int)<k then 4 else k) (b:=k) g0 g4
  have far1:far<=k:=by rcases ef with e | e <;> (subst e;first | omega | (split <;> omega))
  have far2:0<k->1<=far:=fun hk=>by rcases ef with e | e <;> (subst e;first | omega | (split <;> omega))
  refine ⟨_,_,rfl,rfl,⟨by decide,by decide⟩,p,_,_,_,rfl,rfl,SqL.of (K5 _ _ qA1 npd npc),hfar,?_⟩
  have K6:=K3.trans ((qEZ (d:=d) (c:=c) hp (.lst [.int (if (4:Int)<k then 4 else k),.int k])).trans K5)
  have h6:H2 fo=some (.lst (fs.map V.int)):=K5 _ _ (by rw [qA9 (qA8 h3 hp)];exact h3) nd nc
  refine hM0 _ _ ?_;refine ⟨_,rfl,_,_,rfl,rfl,_,rfl,?_⟩;refine ite2 (fun ck=>?_) (fun ck=>?_)
  ·have hk:0<k:=of_decide_eq_true ck;refine ⟨_,rfl,.inl ⟨rfl,_,SqL.of h6⟩,_,rfl,_,_,rfl,rfl,_,rfl,_,rfl,d,c,t'+1,ms2,far,rfl,S5,(by show t'+1<=1000000000;omega),far2 hk,by omega,fun k3 ms3 H3 c0 c1 S6 K7=>?_⟩
   have h7:=K7 _ _ h6 nd nc;refine ⟨_,_,rfl,rfl,fo,_,_,rfl,rfl,h7,qBJ (by rw [A0];omega),?_⟩
   have S8:StAt (Ag H3 fo (.lst (fs.map V.int++[.int (k - 1 - k3)]))) d c (t'+1+1) ms3:=⟨by rw [qA9 (O1 nd)];exact S6.dict,by rw [qA9 (O1 nc)];exact S6.list,S6.ne,S6.len,S6.pos⟩
   have hH:H fo=none:=hfo;refine d1 _ _ ⟨t'+1+1,ms3,fs++[k - 1 - k3],_,_,rfl,S8,by omega,by omega,fun b o e n1 n2=>?_,?_,?_,fun x hx=>?_⟩
   ·rw [qA9 (qA8 e hH)];exact (K6.trans K7) b o e n1 n2
   ·rw [qA1,B6];rfl
   ·rw [B0,C1];omega
   ·rcases C2.mp hx with hx | hx
    ·exact m3 x hx
    ·rw [B2.mp hx];omega
  ·exact d1 _ _ ⟨t'+1,ms2,fs,_,_,rfl,S5,by omega,by omega,K6,h6,by omega,m3⟩
 ·refine fun σ Hc hI_2=>opq fun G_2 hG_2=>?_;obtain ⟨t',ms,fs,v1,v2,rfl,S3,a1,a2,K3,h3,l3,m3⟩:=hI_2;refine hG_2 ?_;refine hN1 _ _ ?_;refine ⟨_,rfl,fo,fs,rfl,SqL.of h3,by omega,fun a ha=>?_⟩
  have sm1:=qA2 ha (SetO w a (dedI fs));refine ⟨a,dedI fs,rfl,.inr (.inr qA1),X2 (qJ7 fs) (by omega),fun b zs hb hp hs=>?_⟩
  have sm2:=sm1.trans (qA2 hb (.lst (zs.map V.int)));refine ⟨b,_,rfl,.inl ⟨SqL.of qA1,fun r hr'=>?_⟩⟩;have sm3:=sm2.trans (qA2 hr' (.tup (zs.map V.int)));exact q r zs t' ms _ (S3.same sm3) (by omega) (by omega) (K3.trans (.of_same sm3)) qA1 (qPQ hp hs m3) (by rw [hp.length_eq];have:=qJ7 fs;omega)
theorem sc_Ltree_net:FnScope ["_law_state","_law_many","_law_open_ones","_law_found","_law_k","_law_so_many"] ["_law_state","_law_many"] (qAE qEX):=⟨rfl,rfl,rfl,by decide +kernel,rfl,by decide +kernel,by decide +kernel⟩
theorem ok_Ltree_net (F:Fun K "_law_tree_net" "_law_tree_net" qEX f fd) (qAP:Clb P w K mg base 1 qCW qCM "_law_take" ["_law_state","_law_many"] qJD)
  (qBI:mg "range" = none) (qGJ:mg "min" = none) (qAK:mg "tuple" = none) (qB6:mg "len" = none):FnOk P w K mg base CX0 2 f fd ["_law_state","_law_many"] qSB:=by
 refine F.ok sc_Ltree_net (fun vs H Q E h=>?_) (fun cdv A outer s H vs Q E hr h=>?_)
 ·obtain ⟨d,c,t,ns,m,rfl,_⟩:=h
  rfl
 obtain ⟨d,c,t,ns,m,rfl,S,ht,hm0,hm1,q⟩:=h;have ht':t<=1000000000 - 1000:=ht;have qW1:Room 1 _:=hr;refine ⟨_,(qA4 (qAG (i:=2) sc_Ltree_net.nd rfl (E8 rfl) (qAR qA3)) (qA4 (qAG (i:=3) sc_Ltree_net.nd rfl (E8 rfl) (qAR qA3)) (qA4 (qCE F3 rfl (qD1 rfl qBI (qA0 (qAM qDQ (pv 1) qA5) qA3)) (qAD (i:=4) sc_Ltree_net.nd rfl (E8 rfl)) (qA4 (qAG (i:=5) sc_Ltree_net.nd rfl (E8 rfl) (qAA (qK4 rfl) rfl qGJ qQJ (qA0 (qAA qAI rfl qB6 qBT (qA0 (pv 2) qA3)) (qA0 (qB0 qC3 (qAR (qA0 qA5 (qA0 qA5 (qA0 qA5 (qA0 qA5 (qA0 qA5 (qA0 qA5 qA3))))))) (qB4 qAP hr rfl (qA0 (pv 0) (qA0 qA5 qA3))) (fun _ _=>rfl)) qA3)))) (qA4 (qC0 (qGL E4 K0 L5 qBP (pv 3) (qA0 (qAN qAS rfl qAK qB7 (qA0 (qB2 qCI (pv 2) (qBD (qAM qDQ (qAA qAI rfl qB6 qBT (qA0 (pv 2) qA3)) (pv 5))) qBK) qA3)) qA3))) (qA6 (qAG (i:=2) sc_Ltree_net.nd rfl (E8 rfl) (qAM qD8 (qB2 qCI (pv 2) qBK (qBD (qAM qDQ (qAA qAI rfl qB6 qBT (qA0 (pv 2) qA3)) (pv 5)))) (qAR (qA0 (pv 4) qA3)))))))) (qA6 (qAF (qAN qAS rfl qAK qB7 (qA0 (qAM qD8 (pv 3) (qAR (qA0 (qAN qAS rfl qAK qB7 (qA0 (pv 2) qA3)) qA3))) qA3))))))),?_⟩
 try dsimp only [Cx.nox,Cx.wish,cxOf]
 refine cut fun N0 hN0=>?_;refine ⟨(by show 0<=sizeLine;decide),fun o0 ho0=>?_⟩
 refine hN0 _ _ (cut fun N1 hN1=>?_);have S1:=S.new ho0 (.lst []);refine ⟨(by show 0<=sizeLine;decide),fun fo hfo=>?_⟩
 have S2:=S1.new hfo (.lst []);have nd:fo ≠ d:=(qA8 S1.dict hfo).symm;have nc:fo ≠ c:=(qA8 S1.list hfo).symm;have no0:o0 ≠ fo:=qA8 qA1 hfo;have hF:H fo=none:=(qA2 ho0 _).free hfo;refine hN1 _ _ (cut fun N2 hN2=>?_);refine ⟨_,rfl,_,_,rfl,rfl,m - 1,rfl,by omega,by omega,qHL (lo:=0) (n:=(m - 1).toNat) (fun i σ Hc=>∃ (t':Int) (ms os:List Int) (o:Addr) (rs:List Addr) (Ae:List (List Int)) (v1 v2:Option V),σ=[some (.ref d),some (.int m),some (.ref o),some (.ref fo),v1,v2]/\StAt Hc d c t' ms/\t<=t'/\t'<=t+i/\Keep d c H Hc/\
  Hc o=some (.lst (os.map V.int))/\(o ≠ fo/\o ≠ c)/\Hc fo=some (.lst (rs.map V.ref))/\NetL Hc rs Ae/\Ae.length=i/\WFn Ae/\Rise (i:Int) os/\∀ zs ∈ Ae,zs.length<=4)
  ⟨t,ns,[],o0,[],[],none,none,rfl,S2,by omega,by omega,(qEZ ho0 _).trans (qEZ hfo _),by rw [qA9 no0];exact qA1,⟨no0,(qA8 S.list ho0).symm⟩,qA1,.nil,rfl,WFn.nil,Rise.nil,fun _ z=>nomatch z⟩ ?_ ?_⟩
 ·refine fun i σ Hc hi hI_3=>opq fun G_3 hG_3=>?_;obtain ⟨t',ms,os,o,rs,Ae,v1,v2,rfl,S3,a1,a2,K3,h3,⟨n3,n3c⟩,f3,N3,l3,w3,r3,q3⟩:=hI_3;refine hG_3 ?_;have hlo:os.length<=i:=r3.len;refine nmD fun D1 d1 dr=>cut fun M0 hM0=>?_;refine ⟨_,rfl,o,_,rfl,.inl (SqL.of h3),(by show 6<=sizeLine;decide),fun p hp=>?_⟩
  have S4:=S3.new hp (.lst [.int 0,.int 0,.int 1,.int 2,.int 2,.int 3]);have npd:p ≠ d:=(qA8 S3.dict hp).symm;have npc:p ≠ c:=(qA8 S3.list hp).symm;refine ⟨_,rfl,d,c,t',ms,6,rfl,S4,(by show t'<=1000000000;omega),by decide,by decide,fun k2 ms2 H2 g0 g6 S5 K5=>?_⟩
  obtain ⟨v,hv,v0,v3⟩:=qbD g0 g6;refine ⟨p,_,_,_,rfl,rfl,SqL.of (K5 _ _ qA1 npd npc),hv,?_⟩;have sm:Same Hc (Ag Hc p (.lst [.int 0,.int 0,.int 1,.int 2,.int 2,.int 3])):=qA2 hp _;have K6:=(Keep.of_same (d:=d) (c:=c) sm).trans K5;have nod:o ≠ d:=qCL h3 S3.dict (by intro z;cases z)
  have h6:H2 o=some (.lst (os.map V.int)):=K6 _ _ h3 nod n3c;have f6:H2 fo=some (.lst (rs.map V.ref)):=K6 _ _ f3 nd nc;have N6:NetL H2 rs Ae:=N3.keep (fun r zs e=>S3.tup e) K6;refine ⟨_,_,rfl,?_⟩;dsimp only;have so0:0<=(if v<(((os.map V.int).length:Nat):Int) then v else (((os.map V.int).length:Nat):Int)):=by split <;> omega
  have so1:(if v<(((os.map V.int).length:Nat):Int) then v else (((os.map V.int).length:Nat):Int))<=(os.length:Int):=by rw [A0];split <;> omega
  have so2:(if v<(((os.map V.int).length:Nat):Int) then v else (((os.map V.int).length:Nat):Int))<=v:=by split <;> omega
  generalize (if v<(((os.map V.int).length:Nat):Int) then v else (((os.map V.int).length:Nat):Int))=so at so0 so1 so2
  obtain ⟨kk,ek⟩:∃ kk:Nat,(os.length:Int) - so=(kk:Int):=⟨((os.length:Int) - so).toNat,by omega⟩
  have ek':(((os.map V.int).length:Nat):Int) - so=(kk:Int):=by rw [A0];exact ek
  have hkk:kk<=os.length:=by omega
  -- found.append(tuple(open_ones[len(open_ones) - so_many:]))
  refine hM0 _ _ (cut fun M1 hM1=>?_);refine ⟨_,rfl,.inl ⟨rfl,_,SqL.of f6⟩,_,rfl,_,rfl,o,_,rfl,.inl (SqL.of h6),_,rfl,_,_,rfl,rfl,_,rfl,o,_,rfl,SqL.of h6,fun p1 hp1=>?_⟩;refine ⟨p1,_,rfl,.inl ⟨SqL.of qA1,fun r hr1=>?_⟩⟩;rw [ek',qCZ,qEL _ _ hkk] at hr1 ⊢;have sm1:=(qA2 hp1 (.lst ((os.drop kk).map V.int))).trans (qA2 hr1 (.tup ((os.drop kk).map V.int)));have f7:=sm1 _ _ f6;have h7:=sm1 _ _ h6;have N7:NetL _ (rs++[r]) (Ae++[os.drop kk]):=qBH (N6.same fun r zs e=>sm1 _ _ e) (show (Ag (Ag H2 p1 (.lst ((os.drop kk).map V.int))) r (.tup ((os.drop kk).map V.int))) r=some (.tup ((os.drop kk).map V.int)) from qA1);have S7:=S5.same sm1;have K7:=K6.trans (.of_same sm1);generalize (Ag (Ag H2 p1 (.lst ((os.drop kk).map V.int))) r (.tup ((os.drop kk).map V.int)))=H7 at f7 h7 N7 S7 K7 ⊢;refine ⟨fo,_,_,rfl,rfl,f7,qBJ (by rw [A0,NetAt.len N3];omega),?_⟩
  have e8:rs.map V.ref++[V.ref r]=(rs++[r]).map V.ref:=by rw [B6];rfl
  rw [e8];have S8:StAt (Ag H7 fo (.lst ((rs++[r]).map V.ref))) d c (t'+1) ms2:=⟨by rw [qA9 (O1 nd)];exact S7.dict,by rw [qA9 (O1 nc)];exact S7.list,S7.ne,S7.len,S7.pos⟩
  have h8:(Ag H7 fo (.lst ((rs++[r]).map V.ref))) o=some (.lst (os.map V.int)):=by rw [qA9 n3];exact h7
  have N8:NetL (Ag H7 fo (.lst ((rs++[r]).map V.ref))) (rs++[r]) (Ae++[os.drop kk]):=N7.same fun r' zs e=>by rw [qA9 (qCL e f7 (by intro z;cases z))];exact e
  have K8:Keep d c H (Ag H7 fo (.lst ((rs++[r]).map V.ref))):=fun b u e n1 n2=>by rw [qA9 (qA8 e hF)];exact (K3.trans K7) b u e n1 n2
  have f8:(Ag H7 fo (.lst ((rs++[r]).map V.ref))) fo=some (.lst ((rs++[r]).map V.ref)):=qA1;generalize Ag H7 fo (.lst ((rs++[r]).map V.ref))=H8 at S8 h8 N8 K8 f8 ⊢
  -- open_ones=open_ones[:len(open_ones) - so_many]+[k]
  refine hM1 _ _ ?_;refine ⟨_,rfl,_,rfl,o,_,rfl,.inl (SqL.of h8),_,rfl,_,_,rfl,rfl,_,rfl,o,_,rfl,SqL.of h8,fun p2 hp2=>?_⟩;rw [ek',qCZ,qUH];refine ⟨_,rfl,(by show 1<=sizeLine;decide),fun p3 hp3=>?_⟩
  have n23:p2 ≠ p3:=qA8 qA1 hp3;refine ⟨p2,p3,_,_,rfl,rfl,by rw [qA9 n23];exact qA1,qA1,Y8 (qBJ (by rw [A0,D7,C1];omega)),fun p4 hp4=>?_⟩
  have sm2:=((qA2 hp2 (.lst ((os.take kk).map V.int))).trans (qA2 hp3 (.lst [.int (0+(i:Int))]))).trans (qA2 hp4 (.lst ((os.take kk).map V.int++[.int (0+(i:Int))])));have e9:(os.take kk).map V.int++[V.int (0+(i:Int))]=(os.take kk++[(i:Int)]).map V.int:=by rw [B6,Int.zero_add];rfl
  have nf4:p4 ≠ fo:=(qA8 ((qA2 hp3 _) _ _ ((qA2 hp2 _) _ _ f8)) hp4).symm;have nc4:p4 ≠ c:=(qA8 ((qA2 hp3 _) _ _ ((qA2 hp2 _) _ _ S8.list)) hp4).symm;refine d1 _ _ ⟨t'+1,ms2,os.take kk++[(i:Int)],p4,rs++[r],Ae++[os.drop kk],_,_,rfl,S8.same sm2,by omega,by omega,K8.trans (.of_same sm2),by rw [<- e9];exact qA1,⟨nf4,nc4⟩,sm2 _ _ f8,N8.same fun r' zs e=>sm2 _ _ e,by rw [B0,C1,l3],w3.snoc ?_,?_,qQL q3 (by rw [F2];omega)⟩
  ·rw [l3];exact r3.sub (A25 _ _)
  ·have:=(r3.sub (i8 kk os)).snoc (by omega)
   rw [show ((i+1:Nat):Int)=(i:Int)+1 by omega]
   exact this
 ·refine fun σ Hc hI_4=>opq fun G_4 hG_4=>?_;obtain ⟨t',ms,os,o,rs,Ae,v1,v2,rfl,S3,a1,a2,K3,h3,⟨n3,n3c⟩,f3,N3,l3,w3,r3,q3⟩:=hI_4;refine hG_4 ?_;refine hN2 _ _ ?_;refine ⟨_,rfl,_,rfl,o,_,rfl,.inl ⟨SqL.of h3,fun r hr1=>?_⟩⟩;refine ⟨(by show 1<=sizeLine;decide),fun p hp=>?_⟩
  have sm1:=(qA2 hr1 (.tup (os.map V.int))).trans (qA2 hp (.lst [.ref r]));refine ⟨fo,p,_,_,rfl,rfl,sm1 _ _ f3,qA1,Y8 (qBJ (by rw [A0,NetAt.len N3,C1];omega)),fun p2 hp2=>?_⟩
  refine ⟨p2,_,rfl,.inl ⟨SqL.of qA1,fun a ha=>?_⟩⟩;have sm2:=(sm1.trans (qA2 hp2 (.lst (rs.map V.ref++[.ref r])))).trans (qA2 ha (.tup (rs.map V.ref++[.ref r])));have gr:=(qA2 ha (.tup (rs.map V.ref++[.ref r]))) _ _ ((qA2 hp2 (.lst (rs.map V.ref++[.ref r]))) _ _ ((qA2 hp (.lst [.ref r])) r _ (qA1 (H:=Hc) (o:=.tup (os.map V.int)))));have e8:rs.map V.ref++[V.ref r]=(rs++[r]).map V.ref:=by rw [B6];rfl
  refine q a (Ae++[os]) t' ms _ (S3.same sm2) (by omega) (by omega) (K3.trans (.of_same sm2)) ⟨rs++[r],by rw [<- e8];exact qA1,qBH (N3.same fun r' zs e=>sm2 _ _ e) gr⟩ (w3.snoc (by rw [l3];exact r3)) ?_ (qWA q3)
  rw [B0,C1,l3];omega
end
section
variable {P:Program} {w:World} {K:PySem.W.Frag} {mg:Str->Option Value} {base:Heap} {f:Addr} {fd:FuncData} {qCW:Addr} {qCM:FuncData} {qDF:Addr} {qGG:FuncData} {qF4:Addr} {qIN:FuncData}
theorem sc_Lnet:FnScope ["_law_state","_law_many","_law_way","_law_wide","_law_some","_law_half"] ["_law_state","_law_many"] (qAE qPO):=⟨rfl,rfl,rfl,by decide +kernel,rfl,by decide +kernel,by decide +kernel⟩
theorem ok_Lnet (F:Fun K "_law_net" "_law_net" qPO f fd) (qAP:Clb P w K mg base 1 qCW qCM "_law_take" ["_law_state","_law_many"] qJD)
  (qCO:Clb P w K mg base 2 qDF qGG "_law_some_needs" ["_law_state","_law_k"] qL8)
  (qFF:Clb P w K mg base 2 qF4 qIN "_law_tree_net" ["_law_state","_law_many"] qSB)
  (qBI:mg "range" = none) (qKC:mg "max" = none) (qGB:mg "int" = none) (qBM:mg "enumerate" = none) (qAK:mg "tuple" = none) (qAT:mg "sorted" = none) (qGI:mg "set" = none):FnOk P w K mg base CX0 3 f fd ["_law_state","_law_many"] qWU:=by
 refine F.ok sc_Lnet (fun vs H Q E h=>?_) (fun cdv A outer s H vs Q E hr h=>?_)
 ·obtain ⟨d,c,t,ns,m,rfl,_⟩:=h
  rfl
 obtain ⟨d,c,t,ns,m,rfl,S,ht,hm0,hm1,q⟩:=h;have ht':t<=1000000000 - 10000:=ht;have qV4:Room 2 _:=hr;have qX7:Room 2 _:=hr;refine ⟨_,(qA4 (qAG (i:=2) sc_Lnet.nd rfl (E8 rfl) (qB4 qAP hr rfl (qA0 (pv 0) (qA0 qA5 qA3)))) (qA4 (qAG (i:=3) sc_Lnet.nd rfl (B31 rfl) (qAM qCG qA5 (qB4 qAP hr rfl (qA0 (pv 0) (qA0 qA5 qA3))))) (qA4 (qBB (qAO qHC (pv 2) qA5 (qAU _)) (qA6 (qAF (qAN qAS rfl qAK qB7 (qA0 (qEE rfl (lcs (own:=["_law_k"]) (fv:=[3]) (by kernel_rfl)) (qD1 rfl qBI (qA0 (pv 1) qA3)) (fun z1=>qAD (i:=0) (qD7 (by kernel_rfl)) rfl (E8 rfl)) (fun z1=>qBA) (fun z1=>(qAN (qKI rfl) rfl qAK qB7 (qA0 (qAN qUP rfl qBI qWI (qA0 (qAA (qK5 rfl) rfl qKC qUT (qA0 qA5 (qA0 (qAM qDQ (pv 0) (pv 1)) qA3))) (qA0 (pv 0) qA3))) qA3)))) qA3)))) qAH) (qA4 (qBB (qAO qHC (pv 2) qA5 (qAU _)) (qA4 (qZU (i:=4) sc_Lnet.nd rfl rfl rfl (lcs (own:=["_law_k"]) (fv:=[3]) (by kernel_rfl)) (qD1 rfl qBI (qA0 (pv 1) qA3)) (fun z2=>qAD (i:=0) (qD7 (by kernel_rfl)) rfl (E8 rfl)) (fun z2=>qBA) (fun z2=>(qAM qD8 (qAM qX2 (qAR (qA0 (qAM qDQ (pv 0) (pv 1)) qA3)) (qAN qNN rfl qGB qNO (qA0 (qEF qVP (pv 0) (pv 1) (qAU _)) qA3))) (qAM qX2 (qAR (qA0 (qAM qDQ (pv 0) qA5) qA3)) (qAN qNN rfl qGB qNO (qA0 (qEF qY4 (qAM qJJ (pv 0) (pv 1)) qA5 (qAU _)) qA3))))) (by kernel_rfl)) (qA6 (qAF (qAN qAS rfl qAK qB7 (qA0 (qEE rfl (lcs (own:=["_law_needs"]) (fv:=[]) (by kernel_rfl)) (qCR (pv 4)) (fun z3=>qAD (i:=0) (qD7 (by kernel_rfl)) rfl (E8 rfl)) (fun z3=>qBA) (fun z3=>(qAN (qK2 (K:=K) rfl) rfl qAK qB7 (qA0 (qAA (qNL (K:=K) (w:=w) rfl rfl rfl) rfl qAT qDS (qA0 (qAN (qUO (K:=K) (w:=w) rfl rfl rfl) rfl qGI qQI (qA0 (pv 0) qA3)) qA3)) qA3)))) qA3))))) qAH) (qA4 (qBB (qAO qHC (pv 2) qA5 (qAU _)) (qA6 (qAF (qB4 qFF hr rfl (qA0 (pv 0) (qA0 (pv 1) qA3))))) qAH) (qA4 (qBB (qAO qHC (pv 2) qA5 (qAU _)) (qA4 (qAG (i:=5) sc_Lnet.nd rfl (B31 rfl) (qAM qJK (pv 1) qA5)) (qA4 (qZU (i:=4) sc_Lnet.nd rfl rfl rfl (lcs (own:=["_law_k"]) (fv:=[0,5]) (by kernel_rfl)) (qD1 rfl qBI (qA0 (pv 1) qA3)) (fun z4=>qAD (i:=0) (qD7 (by kernel_rfl)) rfl (E8 rfl)) (fun z4=>qBA) (fun z4=>(qB4 qCO hr rfl (qA0 (pv 1) (qA0 (qJ0 (qAO qVO (pv 0) (pv 2) (qAU _)) (pv 0) (qAM qDQ (pv 0) (pv 2))) qA3)))) (by kernel_rfl)) (qA6 (qAF (qAN qAS rfl qAK qB7 (qA0 (qEE rfl (lcs (own:=["_law_k","_law_needs"]) (fv:=[5]) (by kernel_rfl)) (qY1 rfl qBM qIP (qA0 (pv 4) qA3)) (fun z5=>qSX (K:=K) (n:=2) rfl rfl (qBQ (qAD (i:=0) (qD7 (by kernel_rfl)) rfl (E8 rfl)) (qBQ (qAD (i:=1) (qD7 (by kernel_rfl)) rfl (E8 rfl)) qGK)) rfl rfl) (fun z5=>qBA) (fun z5=>(qJ0 (qAO qVO (pv 0) (pv 2) (qAU _)) (pv 1) (qAN (qK2 (K:=K) rfl) rfl qAK qB7 (qA0 (qEE (X:=lcCx _ _ _ _ z5) rfl (lcs (own:=["_law_n"]) (fv:=[2]) (by kernel_rfl)) (qY0 (K:=K) rfl (pv 1)) (fun z6=>qAD (i:=0) (qD7 (by kernel_rfl)) rfl (E8 rfl)) (fun z6=>qBA) (fun z6=>(qAM qCG (pv 0) (pv 1)))) qA3))))) qA3)))))) qAH) (qA6 (qAF (qAN qAS rfl qAK qB7 (qA0 (qEE rfl (lcs (own:=["_law_k"]) (fv:=[0]) (by kernel_rfl)) (qD1 rfl qBI (qA0 (pv 1) qA3)) (fun z7=>qAD (i:=0) (qD7 (by kernel_rfl)) rfl (E8 rfl)) (fun z7=>qBA) (fun z7=>(qB4 qCO hr rfl (qA0 (pv 1) (qA0 (pv 0) qA3))))) qA3)))))))))),?_⟩
 try dsimp only [Cx.nox,Cx.wish,cxOf]
 refine cut fun N1 hN1=>?_;refine ⟨_,rfl,d,c,t,ns,8,rfl,S,(by show t<=1000000000;omega),by decide,by decide,fun way ns1 H1 w0 w8 S1 K1=>?_⟩
 refine hN1 _ _ (cut fun N2 hN2=>?_);refine ⟨_,rfl,d,c,t+1,ns1,4,rfl,S1,(by show t+1<=1000000000;omega),by decide,by decide,fun wd ns2 H2 wd0 wd4 S2 K2=>⟨_,_,rfl,rfl,?_⟩⟩
 dsimp only;have K12:=K1.trans K2;generalize hwide:(1:Int)+wd=wide;have wi0:1<=wide:=by omega
 have wi4:wide<=4:=by omega
 refine hN2 _ _ (cut fun N3 hN3=>?_);refine ⟨_,rfl,rfl,_,rfl,?_⟩;refine ite2 (fun _=>?_) (fun _=>?_)
 ·refine ⟨_,rfl,m,rfl,by omega,by omega,fun p hp=>?_⟩
  refine qJ1 (p:=p) (lo:=0) (n:=m.toNat) (fun i σ Hc=>∃ (v:Option V) (rs:List Addr) (Ae:List (List Int)),σ=[v,some (.int wide)]/\Same H2 Hc/\Hc p=some (.lst (rs.map V.ref))/\NetL Hc rs Ae/\Ae.length=i/\WF4 Ae) ?_ ?_ ?_
  ·exact ⟨none,[],[],rfl,qA2 hp _,qA1,.nil,rfl,WF4.nil⟩
  ·refine fun i σ Hc hi hI_1=>opq fun G_1 hG_1=>?_;obtain ⟨v,rs,Ae,rfl,sm,hpc,N,hl,wf⟩:=hI_1;refine hG_1 ?_;refine ⟨_,rfl,_,rfl,_,_,rfl,rfl,0,_,rfl,_,rfl,_,_,rfl,fun p1 hp1=>?_⟩;refine ⟨p1,_,_,rfl,qA1,by split <;> omega,by split <;> omega,by omega,by omega,fun r hr1=>?_⟩
   have lo0:0<=(if (0+(i:Int)) - wide > 0 then (0+(i:Int)) - wide else 0):=by split <;> omega
   have hri:=qO6 (hi:=0+(i:Int)) lo0;have hln:(qBO (if (0+(i:Int)) - wide > 0 then (0+(i:Int)) - wide else 0) (0+(i:Int))).length<=4:=by rw [qEG];split <;> omega
   dsimp only;rw [qO5];generalize qBO (if (0+(i:Int)) - wide > 0 then (0+(i:Int)) - wide else 0) (0+(i:Int))=zs at hri hln ⊢
   generalize HO.rng (if (0+(i:Int)) - wide > 0 then (0+(i:Int)) - wide else 0) (0+(i:Int))=ho at hp1 hr1 ⊢
   have s1:=(qA2 hp1 ho).trans (qA2 hr1 (.tup (zs.map V.int)));have g1:=s1 _ _ hpc;refine ⟨_,g1,qBJ (by rw [A0,NetAt.len N];omega),?_⟩
   rw [qCA];refine ⟨_,rs++[r],Ae++[zs],rfl,qAB (sm.trans s1) hp,qA1,qBG (qBH (N.same fun r' ys e=>s1 _ _ e) qA1) g1,by rw [B0,C1,hl],wf.snoc hln ?_⟩
   rw [hl];exact hri.mono (by omega)
  ·refine fun σ Hc hI_2=>opq fun G_2 hG_2=>?_;obtain ⟨v,rs,Ae,rfl,sm,hpc,N,hl,wf⟩:=hI_2;refine hG_2 ?_;refine ⟨p,_,rfl,.inl ⟨SqL.of hpc,fun a ha=>?_⟩⟩;have s1:=qA2 ha (.tup (rs.map V.ref));exact q a Ae (t+1+1) ns2 _ (S2.same (sm.trans s1)) (by omega) (by omega) (K12.trans (.of_same (sm.trans s1))) ⟨rs,qA1,N.same fun r ys e=>s1 _ _ e⟩ wf.1 (by rw [hl];omega) (qLQ wf.2)
 refine hN3 _ _ (cut fun N4 hN4=>?_);refine ⟨_,rfl,rfl,_,rfl,?_⟩;refine ite2 (fun _=>?_) (fun _=>?_)
 ·refine ⟨_,rfl,m,rfl,by omega,by omega,fun p hp=>?_⟩
  refine qJ1 (p:=p) (lo:=0) (n:=m.toNat) (fun i σ Hc=>∃ (v:Option V) (rs:List Addr) (ls:List (List Int)),σ=[v,some (.int wide)]/\Same H2 Hc/\Hc p=some (.lst (rs.map V.ref))/\Paired (fun r zs=>r ≠ p/\Hc r=some (.lst (zs.map V.int))) rs ls/\ls.length=i/\
   ∀ (j:Nat) zs,ls[j]?=some zs->zs.length<=2/\∀ x ∈ zs,0<=x/\x<(j:Int)) ?_ ?_ ?_
  ·exact ⟨none,[],[],rfl,qA2 hp _,qA1,.nil,rfl,fun j zs e=>by simp at e⟩
  ·refine fun i σ Hc hi hI_3=>opq fun G_3 hG_3=>?_;obtain ⟨v,rs,ls,rfl,sm,hpc,N,hl,wf⟩:=hI_3;refine hG_3 ?_;refine ⟨_,rfl,_,rfl,_,_,rfl,rfl,(by show 1<=sizeLine;decide),fun a1 ha1=>?_⟩
   refine ⟨_,rfl,_,rfl,_,_,rfl,rfl,.inr ⟨_,rfl,?_⟩⟩;refine ⟨a1,_,_,rfl,rfl,qA1,by split <;> decide,by split <;> decide,?_,fun a2 ha2=>?_⟩
   ·have:∀ b:Bool,[V.int (0+(i:Int) - wide)].length * (if b=true then (1:Int) else 0).toNat<=sizeLine:=by intro b;cases b <;> simp [sizeLine_eq]
    exact this _
   dsimp only;rw [qZR];refine ⟨_,rfl,_,_,rfl,rfl,(by show 1<=sizeLine;decide),fun a3 ha3=>?_⟩
   refine ⟨_,rfl,_,rfl,_,_,rfl,rfl,(by show 0<wide;omega),_,_,rfl,rfl,.inr ⟨_,rfl,?_⟩⟩
   refine ⟨a3,_,_,rfl,rfl,qA1,by split <;> decide,by split <;> decide,?_,fun a4 ha4=>?_⟩
   ·have:∀ b:Bool,[V.int (0+(i:Int) - 1)].length * (if b=true then (1:Int) else 0).toNat<=sizeLine:=by intro b;cases b <;> simp [sizeLine_eq]
    exact this _
   dsimp only;rw [qZR];have b1:∀ x ∈ (if decide (wide<=0+(i:Int))=true then [0+(i:Int) - wide] else []),0<=x/\x<(i:Int):=by
    intro x hx
    split at hx
    ·rename_i hd
     have:=of_decide_eq_true hd;rw [B2.mp hx];omega
    ·cases hx
   have b2:∀ x ∈ (if decide (0<(0+(i:Int)) % wide)=true then [0+(i:Int) - 1] else []),0<=x/\x<(i:Int):=by
    intro x hx
    split at hx
    ·rename_i hd
     have hd':=of_decide_eq_true hd;have:(i:Int) ≠ 0:=by
      intro e;rw [e] at hd';simp at hd'
     rw [B2.mp hx];omega
    ·cases hx
   have c1:(if decide (wide<=0+(i:Int))=true then [0+(i:Int) - wide] else []).length<=1:=by split <;> simp
   have c2:(if decide (0<(0+(i:Int)) % wide)=true then [0+(i:Int) - 1] else []).length<=1:=by split <;> simp
   generalize (if decide (wide<=0+(i:Int))=true then [0+(i:Int) - wide] else [])=z1 at b1 c1 ha3 ha4 ⊢
   generalize (if decide (0<(0+(i:Int)) % wide)=true then [0+(i:Int) - 1] else [])=z2 at b2 c2 ⊢
   have s2:=(qA2 ha3 (.lst [.int (0+(i:Int) - 1)])).trans (qA2 ha4 (.lst (z2.map V.int)));refine ⟨a2,a4,_,_,rfl,rfl,s2 _ _ qA1,qA1,Y8 (qBJ (by rw [A0,A0];omega)),fun a5 ha5=>?_⟩
   have s1:=(qA2 ha1 (.lst [.int (0+(i:Int) - wide)])).trans (qA2 ha2 (.lst (z1.map V.int)));have s3:=(s1.trans s2).trans (qA2 ha5 (.lst (z1.map V.int++z2.map V.int)));have e5:z1.map V.int++z2.map V.int=(z1++z2).map V.int:=by rw [B6]
   rw [e5] at s3 ⊢;have g1:=s3 _ _ hpc;have n5:a5 ≠ p:=(qA8 ((s1.trans s2) _ _ hpc) ha5).symm;refine ⟨_,g1,qBJ (by rw [A0,C8 N];omega),?_⟩
   rw [qCA];refine ⟨_,rs++[a5],ls++[z1++z2],rfl,qAB (sm.trans s3) hp,qA1,o9 (qDJ N fun r zs e=>⟨e.1,by rw [qA9 e.1];exact s3 _ _ e.2⟩) ⟨n5,by rw [qA9 n5];exact qA1⟩,by rw [B0,C1,hl],fun j zs e=>?_⟩
   rcases qPN e with e | ⟨rfl,rfl⟩
   ·exact wf j zs e
   ·rw [hl];refine ⟨by rw [B0];omega,fun x hx=>?_⟩
    rcases C2.mp hx with hx | hx
    ·exact b1 x hx
    ·exact b2 x hx
  ·refine fun σ Hc hI_4=>opq fun G_4 hG_4=>?_;obtain ⟨v,rs,ls,rfl,sm,hpc,N,hl,wf⟩:=hI_4;refine hG_4 ?_;refine ⟨_,rfl,p,rfl,⟨_,SqL.of hpc⟩,fun p' hp'=>?_⟩;refine qFP (p:=p') (a:=p) (xs:=rs.map V.ref) (fun i σ Hd=>∃ (v:Option V) (rs':List Addr) (Ae:List (List Int)),σ=[v]/\Same Hc Hd/\Hd p'=some (.lst (rs'.map V.ref))/\NetL Hd rs' Ae/\Ae.length=i/\WF4 Ae) ?_ ?_ ?_ ?_
   ·exact ⟨none,[],[],rfl,qA2 hp' _,qA1,.nil,rfl,WF4.nil⟩
   ·rintro i σ Hd hi ⟨v,rs',Ae,rfl,sm2,_⟩;exact SqL.of (sm2 _ _ hpc)
   ·refine fun i x σ Hd hx hI_6=>opq fun G_6 hG_6=>?_;obtain ⟨v,rs',Ae,rfl,sm2,hpd,N2,hl2,wf2⟩:=hI_6;obtain ⟨r,hr1,rfl⟩:=qGN hx;obtain ⟨zs,hz,_,hr2⟩:=qCF N hr1;obtain ⟨l2,m2⟩:=wf i zs hz;refine hG_6 ?_;refine ⟨_,rfl,r,zs,rfl,SqL.of (sm2 _ _ hr2),by omega,fun a ha=>?_⟩
    refine ⟨a,dedI zs,rfl,.inr (.inr qA1),X2 (qJ7 zs) (by omega),fun b ys hb hpm hs=>?_⟩
    refine ⟨b,_,rfl,.inl ⟨SqL.of qA1,fun r2 hr3=>?_⟩⟩;have s1:=((qA2 ha (SetO w a (dedI zs))).trans (qA2 hb (.lst (ys.map V.int)))).trans (qA2 hr3 (.tup (ys.map V.int)));have g1:=s1 _ _ hpd;have lrs:rs.length=m.toNat:=by rw [C8 N,hl]
    have hi:i<rs.length:=(A6.mp hr1).1;refine ⟨_,g1,qBJ (by rw [A0,NetAt.len N2];omega),?_⟩
    rw [qCA];refine ⟨_,rs'++[r2],Ae++[ys],rfl,qAB (sm2.trans s1) hp',qA1,qBG (qBH (N2.same fun r' zs' e=>s1 _ _ e) qA1) g1,by rw [B0,C1,hl2],wf2.snoc (by rw [hpm.length_eq];have:=qJ7 zs;omega) ?_⟩
    rw [hl2];exact qPQ hpm hs m2
   ·refine fun σ Hd hI_7=>opq fun G_7 hG_7=>?_;obtain ⟨v,rs',Ae,rfl,sm2,hpd,N2,hl2,wf2⟩:=hI_7;refine hG_7 ?_;refine ⟨p',_,rfl,.inl ⟨SqL.of hpd,fun a ha=>?_⟩⟩;have s1:=qA2 ha (.tup (rs'.map V.ref));refine q a Ae (t+1+1) ns2 _ (S2.same ((sm.trans sm2).trans s1)) (by omega) (by omega) (K12.trans (.of_same ((sm.trans sm2).trans s1))) ⟨rs',qA1,N2.same fun r ys e=>s1 _ _ e⟩ wf2.1 ?_ (qLQ wf2.2)
    rw [hl2,A0,C8 N,hl];omega
 refine hN4 _ _ (cut fun N5 hN5=>?_);refine ⟨_,rfl,rfl,_,rfl,?_⟩;refine ite2 (fun _=>?_) (fun _=>?_)
 ·refine ⟨_,rfl,_,rfl,d,c,t+1+1,ns2,m,rfl,S2,?_,hm0,hm1,fun a Ae t' ms H' a1 a2 a3 a4 a5 a6 a7 a8=>?_⟩
  ·show t+1+1<=1000000000 - 1000;omega
  ·exact q a Ae t' ms H' a1 (by omega) (by omega) (K12.trans a4) a5 a6 a7 a8
 refine hN5 _ _ (cut fun N6 hN6=>?_);refine ⟨_,rfl,rfl,_,rfl,?_⟩;refine ite2 (fun _=>?_) (fun _=>?_)
 ·refine ⟨_,rfl,_,_,rfl,rfl,⟨by decide,by decide⟩,?_⟩
  dsimp only;have hf0:0<=m / 2:=by omega
  have hf1:m / 2<=m:=by omega
  generalize m / 2=half at hf0 hf1;refine ⟨_,rfl,m,rfl,by omega,by omega,fun p hp=>?_⟩
  refine qJ1 (p:=p) (lo:=0) (n:=m.toNat) (fun i σ Hc=>∃ (v:Option V) (t':Int) (ms:List Int) (rs:List Addr) (Ae:List (List Int)),σ=[v,some (.ref d),some (.int half)]/\StAt Hc d c t' ms/\t+2<=t'/\t'<=t+2+9 * i/\Keep d c H2 Hc/\Hc p=some (.lst (rs.map V.ref))/\NetL Hc rs Ae/\Ae.length=i/\
   ∀ (j:Nat) zs,Ae[j]?=some zs->Rise (if (j:Int)<half then (j:Int) else (j:Int) - half) zs/\zs.length<=4) ?_ ?_ ?_
  ·exact ⟨none,t+1+1,ns2,[],[],rfl,S2.new hp _,by omega,by omega,qEZ hp _,qA1,.nil,rfl,fun j zs e=>by simp at e⟩
  ·refine fun i σ Hc hi hI_8=>opq fun G_8 hG_8=>?_;obtain ⟨v,t',ms,rs,Ae,rfl,S3,b1,b2,k3,hpc,N,hl,wf⟩:=hI_8;refine hG_8 ?_;have npd:p ≠ d:=(qA8 S2.dict hp).symm;have npc:p ≠ c:=(qA8 S2.list hp).symm;have nx:∀ (kk:Int),kk=(if (i:Int)<half then (i:Int) else (i:Int) - half)->qL8 [.ref d,.int kk] Hc (fun y H4=>∃ ys,H4 p=some (.lst ys)/\ys.length<sizeLine/\∃ (v:Option V) (t':Int) (ms:List Int) (rs:List Addr) (Ae:List (List Int)),[some (V.int (0+(i:Int))),some (.ref d),some (.int half)]=[v,some (.ref d),some (.int half)]/\StAt (Ag H4 p (.lst (ys++[y]))) d c t' ms/\t+2<=t'/\t'<=t+2+9 * (i+1:Nat)/\Keep d c H2 (Ag H4 p (.lst (ys++[y])))/\(Ag H4 p (.lst (ys++[y]))) p=some (.lst (rs.map V.ref))/\NetL (Ag H4 p (.lst (ys++[y]))) rs Ae/\Ae.length=i+1/\
     ∀ (j:Nat) zs,Ae[j]?=some zs->Rise (if (j:Int)<half then (j:Int) else (j:Int) - half) zs/\zs.length<=4) E0:=by
    intro kk ek;refine ⟨d,c,t',ms,kk,rfl,S3,(by show t'<=1000000000 - 20;omega),by rw [ek];split <;> omega,by rw [ek];split <;> omega,fun r zs t'' ms2 H3 e1 e2 e3 e4 e5 e6 e7=>?_⟩
    have g1:=e4 _ _ hpc npd npc;refine ⟨_,g1,qBJ (by rw [A0,NetAt.len N];omega),?_⟩
    rw [qCA];refine ⟨_,t'',ms2,rs++[r],Ae++[zs],rfl,⟨by rw [qA9 (O1 npd)];exact e1.dict,by rw [qA9 (O1 npc)];exact e1.list,e1.ne,e1.len,e1.pos⟩,by omega,by omega,qQ2 (k3.trans e4) hp,qA1,qBG (qBH (N.keep (fun r ys e=>S3.tup e) e4) e5) g1,by rw [B0,C1,hl],fun j ys e=>?_⟩
    rcases qPN e with e | ⟨rfl,rfl⟩
    ·exact wf j ys e
    ·rw [hl,<- ek];exact ⟨e6,e7⟩
   refine ⟨_,rfl,_,rfl,_,rfl,_,_,rfl,rfl,_,rfl,?_⟩;refine ite2 (fun ck=>?_) (fun ck=>?_)
   ·have ck':0+(i:Int)<half:=of_decide_eq_true ck;exact ⟨_,rfl,nx _ (by rw [if_pos (by omega)];omega)⟩
   ·have ck':¬ 0+(i:Int)<half:=of_decide_eq_false (L9.mpr ck);exact ⟨_,rfl,_,rfl,_,_,rfl,rfl,nx _ (by rw [if_neg (by omega)];omega)⟩
  ·refine fun σ Hc hI_9=>opq fun G_9 hG_9=>?_;obtain ⟨v,t',ms,rs,Ae,rfl,S3,b1,b2,k3,hpc,N,hl,wf⟩:=hI_9;refine hG_9 ?_;have lrs:rs.length=m.toNat:=by rw [C8 N,hl]
   refine ⟨_,rfl,p,rfl,⟨_,SqL.of hpc⟩,fun p' hp'=>?_⟩;refine qYH (p:=p') (a:=p) (xs:=rs.map V.ref) (fun i σ Hd=>∃ (v1 v2:Option V) (rs':List Addr) (net':List (List Int)),σ=[v1,v2,some (.int half)]/\Same Hc Hd/\Hd p'=some (.lst (rs'.map V.ref))/\NetL Hd rs' net'/\net'.length=i/\WF4 net') ?_ ?_ ?_ ?_
   ·exact ⟨none,none,[],[],rfl,qA2 hp' _,qA1,.nil,rfl,WF4.nil⟩
   ·rintro i σ Hd hi ⟨v1,v2,rs',net',rfl,sm2,_⟩;exact SqL.of (sm2 _ _ hpc)
   ·refine fun i x σ Hd T hx hI_11 hT=>opq fun G_11 hG_11=>?_;obtain ⟨v1,v2,rs',net',rfl,sm2,hpd,N2,hl2,wf2⟩:=hI_11;obtain ⟨r,hr1,rfl⟩:=qGN hx;obtain ⟨zs,hz,hr2⟩:=qCF N hr1;refine hG_11 ?_;have hi:i<rs.length:=(A6.mp hr1).1;obtain ⟨rz,rl⟩:=wf i zs hz;have sT:=qA2 hT (.tup [.int (i:Int),.ref r]);have hrT:=sT _ _ (sm2 _ _ hr2);have hpT:=sT _ _ hpd;have NT:=N2.same fun r' zs' e=>sT _ _ e;have smT:=sm2.trans sT;have gT:SqT K (Ag Hd T (.tup [.int (i:Int),.ref r])) T [.int (i:Int),.ref r]:=SqT.of qA1;generalize Ag Hd T (.tup [.int (i:Int),.ref r])=HT' at hrT hpT NT smT gT ⊢;refine ⟨T,_,rfl,gT,rfl,_,_,rfl,_,_,rfl,rfl,?_⟩;refine ⟨_,rfl,_,rfl,_,_,rfl,rfl,_,rfl,?_⟩;refine ite2 (fun ck=>?_) (fun ck=>?_)
    ·have ck':(i:Int)<half:=of_decide_eq_true ck;rw [if_pos ck'] at rz;refine ⟨_,rfl,_,hpT,qBJ (by rw [A0,NetAt.len N2];omega),?_⟩
     rw [qCA];refine ⟨_,_,rs'++[r],net'++[zs],rfl,qAB smT hp',qA1,qBG (qBH NT hrT) hpT,by rw [B0,C1,hl2],wf2.snoc rl ?_⟩
     rw [hl2];exact rz
    ·have ck':¬ (i:Int)<half:=of_decide_eq_false (L9.mpr ck);rw [if_neg ck'] at rz;have lz:zs.length<=i:=by
      have e:((i:Int) - half)=(((i:Int) - half).toNat:Nat):=by omega
      rw [e] at rz;have:=rz.len;omega
     refine ⟨_,rfl,r,rfl,⟨_,SqT.of hrT⟩,fun p2 hp2=>?_⟩;refine qHH (p:=p2) (a:=r) (xs:=zs.map V.int) (fun j σ He=>∃ (v:Option V),σ=[v,some (.int half)]/\Same HT' He/\He p2=some (.lst (((zs.take j).map (·+half)).map V.int))) ?_ ?_ ?_ ?_
     ·exact ⟨none,rfl,qA2 hp2 _,qA1⟩
     ·rintro j σ He hj ⟨v,rfl,sm3,_⟩;exact SqT.of (sm3 _ _ hrT)
     ·refine fun j x σ He hx2 hI_13=>opq fun G_13 hG_13=>?_;obtain ⟨v,rfl,sm3,hp3⟩:=hI_13;obtain ⟨z,hz2,rfl⟩:=qBE hx2;refine hG_13 ?_;refine ⟨_,rfl,_,rfl,_,_,rfl,rfl,_,hp3,qBJ (by rw [A0,A0,D7];omega),_,rfl,qAB sm3 hp2,?_⟩
      rw [qA1,D4,hz2,E3,B6,B6]
      rfl
     ·refine fun σ He hI_14=>opq fun G_14 hG_14=>?_;obtain ⟨v,rfl,sm3,hp3⟩:=hI_14;refine hG_14 ?_;rw [A0,L7 (B3 _)] at hp3;refine ⟨p2,_,rfl,.inl ⟨SqL.of hp3,fun r2 hr3=>?_⟩⟩;have s1:=qA2 hr3 (.tup ((zs.map (·+half)).map V.int));have s2:=sm3.trans s1;have g1:=s2 _ _ hpT;refine ⟨_,g1,qBJ (by rw [A0,NetAt.len N2];omega),?_⟩
      rw [qCA];refine ⟨_,_,rs'++[r2],net'++[zs.map (·+half)],rfl,qAB (smT.trans s2) hp',qA1,qBG (qBH (NT.same fun r' zs' e=>s2 _ _ e) qA1) g1,by rw [B0,C1,hl2],wf2.snoc (by rw [A0];exact rl) ?_⟩
      rw [hl2];have:=rz.shift hf0;rw [show (i:Int) - half+half=(i:Int) by omega] at this
      exact this
   ·refine fun σ Hd hI_15=>opq fun G_15 hG_15=>?_;obtain ⟨v1,v2,rs',net',rfl,sm2,hpd,N2,hl2,wf2⟩:=hI_15;refine hG_15 ?_;refine ⟨p',_,rfl,.inl ⟨SqL.of hpd,fun a ha=>?_⟩⟩;have s1:=qA2 ha (.tup (rs'.map V.ref));refine q a net' t' ms _ (S3.same (sm2.trans s1)) (by omega) (by omega) (K12.trans (k3.trans (.of_same (sm2.trans s1)))) ⟨rs',qA1,N2.same fun r ys e=>s1 _ _ e⟩ wf2.1 ?_ (qLQ wf2.2)
    rw [hl2,A0,C8 N,hl];omega
 refine hN6 _ _ ?_;refine ⟨_,rfl,m,rfl,by omega,by omega,fun p hp=>?_⟩
 refine qJ1 (p:=p) (lo:=0) (n:=m.toNat) (fun i σ Hc=>∃ (v:Option V) (t':Int) (ms:List Int) (rs:List Addr) (Ae:List (List Int)),σ=[v,some (.ref d)]/\StAt Hc d c t' ms/\t+2<=t'/\t'<=t+2+9 * i/\Keep d c H2 Hc/\Hc p=some (.lst (rs.map V.ref))/\NetL Hc rs Ae/\Ae.length=i/\WF4 Ae) ?_ ?_ ?_
 ·exact ⟨none,t+1+1,ns2,[],[],rfl,S2.new hp _,by omega,by omega,qEZ hp _,qA1,.nil,rfl,WF4.nil⟩
 ·refine fun i σ Hc hi hI_16=>opq fun G_16 hG_16=>?_;obtain ⟨v,t',ms,rs,Ae,rfl,S3,b1,b2,k3,hpc,N,hl,wf⟩:=hI_16;refine hG_16 ?_;have npd:p ≠ d:=(qA8 S2.dict hp).symm;have npc:p ≠ c:=(qA8 S2.list hp).symm;refine ⟨_,rfl,_,rfl,d,c,t',ms,0+(i:Int),rfl,S3,(by show t'<=1000000000 - 20;omega),by omega,by omega,fun r zs t'' ms2 H3 e1 e2 e3 e4 e5 e6 e7=>?_⟩
  have g1:=e4 _ _ hpc npd npc;refine ⟨_,g1,qBJ (by rw [A0,NetAt.len N];omega),?_⟩
  rw [qCA];refine ⟨_,t'',ms2,rs++[r],Ae++[zs],rfl,⟨by rw [qA9 (O1 npd)];exact e1.dict,by rw [qA9 (O1 npc)];exact e1.list,e1.ne,e1.len,e1.pos⟩,by omega,by omega,qQ2 (k3.trans e4) hp,qA1,qBG (qBH (N.keep (fun r ys e=>S3.tup e) e4) e5) g1,by rw [B0,C1,hl],wf.snoc e7 ?_⟩
  rw [hl];exact e6.mono (by omega)
 ·refine fun σ Hc hI_17=>opq fun G_17 hG_17=>?_;obtain ⟨v,t',ms,rs,Ae,rfl,S3,b1,b2,k3,hpc,N,hl,wf⟩:=hI_17;refine hG_17 ?_;refine ⟨p,_,rfl,.inl ⟨SqL.of hpc,fun a ha=>?_⟩⟩;have s1:=qA2 ha (.tup (rs.map V.ref));exact q a Ae t' ms _ (S3.same s1) (by omega) (by omega) (K12.trans (k3.trans (.of_same s1))) ⟨rs,qA1,N.same fun r ys e=>s1 _ _ e⟩ wf.1 (by rw [hl];omega) (qLQ wf.2)
end
section
variable {P:Program} {w:World} {K:PySem.W.Frag} {mg:Str->Option Value} {base:Heap} {f:Addr} {fd:FuncData} {qF1 qEK:Addr} {qIK qGO:FuncData}
theorem qMM:FnScope ["thing"] ["thing"] (qAE qES):=⟨rfl,rfl,rfl,by decide +kernel,rfl,by decide +kernel,by decide +kernel⟩
theorem ok_is_number (F:Fun K "is_number" "is_number" qES f fd) (qA7:mg "isinstance" = none) (qGB:mg "int" = none) (qDM:mg "bool" = none):FnOk P w K mg base CX0 1 f fd ["thing"] qWT:=by
 refine F.ok qMM (fun vs H Q E h=>?_) (fun cdv A outer s H vs Q E hr h=>?_)
 ·obtain ⟨x,n,d,rfl,_⟩:=h
  rfl
 obtain ⟨x,n,d,rfl,D,q⟩:=h;refine ⟨_,(qA6 (qAF (qKP (qAA qAW rfl qA7 qAL (qA0 (pv 0) (qA0 (qC1 (v:=.ty "int") rfl qGB qNO rfl) qA3))) (qMW (qT0 (qAA qAW rfl qA7 qAL (qA0 (pv 0) (qA0 (qC1 (v:=.ty "bool") rfl qDM qLW rfl) qA3)))))))),?_⟩
 try dsimp only [Cx.nox,Cx.wish,cxOf]
 obtain ⟨t,ty,k1,k2,k3⟩:=qIE (K:=K) D;refine ⟨_,rfl,x,"int",t,_,rfl,ty,k1,_,rfl,?_⟩;have e:numB d=((numB d || qK6 d) && !qK6 d):=by cases d <;> rfl
 cases c:(numB d || qK6 d) with
 | false=>
  rw [if_neg C3];rw [c,P3] at e;rw [e] at q;exact q
 | true=>
  rw [if_pos rfl];rw [c,L8] at e;rw [e] at q;exact ⟨_,rfl,x,"bool",t,_,rfl,ty,k2,_,rfl,q⟩
theorem qO2:FnScope ["thing","end"] ["thing","end"] (qAE qFZ):=⟨rfl,rfl,rfl,by decide +kernel,rfl,by decide +kernel,by decide +kernel⟩
theorem ok_is_below (F:Fun K "is_below" "is_below" qFZ f fd) (qFC:Clb P w K mg base 1 qF1 qIK "is_number" ["thing"] qWT):FnOk P w K mg base CX0 2 f fd ["thing","end"] qPL:=by
 refine F.ok qO2 (fun vs H Q E h=>?_) (fun cdv A outer s H vs Q E hr h=>?_)
 ·obtain ⟨x,n,d,e,rfl,_⟩:=h
  rfl
 obtain ⟨x,n,d,e,rfl,D,q⟩:=h;refine ⟨_,(qA6 (qAF (qKP (qB4 qFC hr rfl (qA0 (pv 0) qA3)) (qMW (qPX qZY qVO qA5 (pv 0) (pv 1)))))),?_⟩
 try dsimp only [Cx.nox,Cx.wish,cxOf]
 refine ⟨_,rfl,x,n,d,rfl,D,_,rfl,?_⟩;cases c:numB d with
 | false=>
  rw [if_neg C3];have e1:qCP e d=false:=by cases d <;> first | rfl | cases c
  rw [e1] at q;exact q
 | true=>
  rw [if_pos rfl];obtain ⟨i,rfl,rfl⟩:=qJV D c;refine ⟨_,rfl,_,_,rfl,rfl,?_⟩;refine ⟨_,rfl,?_⟩;have q:Q (.bl (decide (0<=i) && decide (i<e))) H:=q;cases c1:decide ((0:Int)<=i) with
  | false=>
   rw [c1,P3] at q;exact iteF q
  | true=>
   rw [c1,L8] at q;exact iteT ⟨_,rfl,_,_,rfl,rfl,q⟩
end
section
variable {P:Program} {w:World} {K:PySem.W.Frag} {mg:Str->Option Value} {base:Heap} {f:Addr} {fd:FuncData} {tk_MOST_PATHS:Tok}
theorem sc_count_paths:FnScope ["net","work","counts","needs","count"] ["net","work"] (qAE qDB):=⟨rfl,rfl,rfl,by decide +kernel,rfl,by decide +kernel,by decide +kernel⟩
theorem ok_count_paths (F:Fun K "count_paths" "count_paths" qDB f fd) (m_MOST_PATHS:mg "MOST_PATHS" = some (.int 300 tk_MOST_PATHS)) (qQP:mg "sum" = none) (qGJ:mg "min" = none):FnOk P w K mg base CX0 1 f fd ["net","work"] qSG:=by
 refine F.ok sc_count_paths (fun vs H Q E h=>?_) (fun cdv A outer s H vs Q E hr h=>?_)
 ·obtain ⟨a,Ae,work,rfl,_⟩:=h
  rfl
 obtain ⟨a,Ae,work,rfl,hN,wf,n401,w0,w1,q⟩:=h;refine ⟨_,(qA4 (qAG (i:=2) sc_count_paths.nd rfl (B31 rfl) (qAR qA3)) (qA4 (qCE F3 rfl (qD0 (qB2 qXS (pv 0) qBK (qBD (qAM qCG (pv 1) qA5)))) (qAD (i:=3) sc_count_paths.nd rfl (E8 rfl)) (qA4 (qAG (i:=4) sc_count_paths.nd rfl (E8 rfl) (qJ0 (qDZ (pv 3) (fun _=>rfl)) (qAA (qWG rfl) rfl qQP qaP (qA0 (qEE rfl (lcs (own:=["need"]) (fv:=[2]) (by kernel_rfl)) (qD0 (pv 3)) (fun z1=>qAD (i:=0) (qD7 (by kernel_rfl)) rfl (E8 rfl)) (fun z1=>qBA) (fun z1=>(qB0 (qW0 (K:=K) rfl) (pv 1) (pv 0) (fun _ _=>rfl)))) qA3)) qA5)) (qA6 (qC0 (qGL E4 K0 L5 qBP (pv 2) (qA0 (qAA (qK4 rfl) rfl qGJ qQJ (qA0 (pv 4) (qA0 (qAM qCG (qCK (v:=.int (300)) rfl m_MOST_PATHS ⟨_,rfl⟩) qA5) qA3))) qA3)))))) (qA6 (qAF (qB0 qC3 (pv 2) (pv 1) (fun _ _=>rfl)))))),?_⟩
 try dsimp only [Cx.nox,Cx.wish,cxOf]
 obtain ⟨rs,hA,NL⟩:=id hN;have lrs:=C8 NL;refine cut fun N0 hN0=>?_;refine ⟨(by show 0<=sizeLine;decide),fun lc hlc=>?_⟩
 have s1:=qA2 hlc (.lst []);have g1:(Ag H lc (.lst [])) lc=some (.lst (((qF7 Ae 0).map cap).map V.int)):=qA1;generalize Ag H lc (.lst [])=H1 at s1 g1 ⊢;refine hN0 _ _ (cut fun N1 hN1=>?_);refine ⟨_,rfl,_,rfl,_,_,rfl,rfl,_,rfl,a,_,rfl,SqT.of (s1 _ _ hA),fun p H2 ext sq=>?_⟩;obtain ⟨wk,rfl⟩:∃ wk:Nat,work=(wk:Int):=⟨work.toNat,by omega⟩
 rw [show (wk:Int)+1=((wk+1:Nat):Int) by omega,qCZ,qUH] at sq
 have s2:Same H H2:=s1.trans ext;have g2:=ext _ _ g1;have lt:(rs.take (wk+1)).length=wk+1:=by rw [D7];omega
 refine ⟨p,rfl,⟨_,sq⟩,qFR (a:=p) (xs:=(rs.take (wk+1)).map V.ref) (fun i σ Hc=>∃ (v3 v4:Option V),σ=[some (.ref a),some (.int (wk:Int)),some (.ref lc),v3,v4]/\Same H Hc/\SqT K Hc p ((rs.take (wk+1)).map V.ref)/\Hc lc=some (.lst (((qF7 Ae i).map cap).map V.int))) ⟨none,none,rfl,s2,sq,g2⟩ (fun i σ Hc _ ⟨_,_,_,_,sq,_⟩=>sq) ?_ ?_⟩
 ·refine fun i x σ Hc hx hI_1=>opq fun G_1 hG_1=>?_;obtain ⟨v3,v4,rfl,sc,sqc,gc⟩:=hI_1;obtain ⟨r,er,rfl⟩:=qGN hx;refine hG_1 ?_;have hi:=(A6.mp er).1;rw [Y1 (by omega)] at er
  obtain ⟨ys,eys,hr2⟩:=qCF NL er;have rz:=wf i ys eys;have en:nd Ae (i:Int)=ys:=qBL (by rw [O6];exact eys)
  have lys:=rz.len;have e1:=qaO wf (z:=(i:Int)) (by omega)
  rw [en] at e1;have nlc:∀ Hd,Same Hc Hd->SqT K (Ag Hd lc (.lst (((qF7 Ae (i+1)).map cap).map V.int))) p ((rs.take (wk+1)).map V.ref):=fun Hd sd=>by
   have z:=qV9 sqc sd;rcases z with (h | ⟨o,h⟩) | h
   ·exact .inl (.inl (by rw [qA9 (qCL h (sd _ _ gc) (by intro z;cases z))];exact h))
   ·exact .inl (.inr ⟨o,by rw [qA9 (qCL h (sd _ _ gc) (by intro z;cases z))];exact h⟩)
   ·exact .inr h
  have ec:∀ x:Int,cap x=cap (cn Ae (i:Int))->(((qF7 Ae i).map cap).map V.int++[V.int (if 301<x then 301 else x)])=((qF7 Ae (i+1)).map cap).map V.int:=fun x ex=>by
   rw [qJ8 (i+1),B60,B6,B6,B6,<- qJ8 i];show _=_++[V.int (cap (cn Ae (i:Int)))];rw [<- ex]
   rfl
  refine cut fun N2 hN2=>?_;refine ⟨_,rfl,_,.inr (.inl ⟨_,SqT.of (sc _ _ hr2),rfl⟩),?_⟩;cases ys with
  | nil=>
   refine iteF ?_;refine hN2 _ _ ?_;refine ⟨_,rfl,.inl ⟨rfl,_,SqL.of gc⟩,_,rfl,_,_,rfl,rfl,1,301,rfl,lc,_,_,rfl,rfl,gc,qAQ (by rw [A0,A0,qDR];omega),?_⟩
   rw [ec 1 (by rw [e1];rfl)]
   exact ⟨_,_,rfl,qAB sc hlc,nlc Hc (.refl _),qA1⟩
  | cons y0 ys=>
   rw [if_pos (show (!((y0::ys).map V.int).isEmpty)=true from rfl)];rw [if_neg (by simp)] at e1
   generalize y0::ys=zs at hr2 rz en lys e1 ⊢;refine ⟨_,rfl,r,rfl,⟨_,SqT.of (sc _ _ hr2)⟩,fun pp hp=>?_⟩;refine qHH (p:=pp) (a:=r) (xs:=zs.map V.int) (fun j σ Hd=>∃ (v:Option V),σ=[v,some (.ref lc)]/\Same Hc Hd/\Hd pp=some (.lst (((zs.take j).map fun y=>cap (cn Ae y)).map V.int))) ?_ ?_ ?_ ?_
   ·exact ⟨none,rfl,qA2 hp _,qA1⟩
   ·rintro j σ Hd hj ⟨v,rfl,sd,_⟩;exact SqT.of (sd _ _ (sc _ _ hr2))
   ·refine fun j x σ Hd hx hI_3=>opq fun G_3 hG_3=>?_;obtain ⟨v,rfl,sd,hpd⟩:=hI_3;obtain ⟨y,ey,rfl⟩:=qBE hx;refine hG_3 ?_;have hj:=(A6.mp ey).1;have yb:=rz.in_ y (C5 ey);have hg:atI (((qF7 Ae i).map cap).map V.int) y=some (.int (cap (cn Ae y))):=qAV yb.1 (by rw [C4,C4,qJY yb.1 yb.2];rfl)
    refine ⟨_,rfl,_,rfl,lc,_,_,_,rfl,rfl,SqL.of (sd _ _ gc),hg,_,hpd,qAQ (by rw [A0,A0,D7];omega),?_⟩
    refine ⟨_,rfl,qAB sd hp,?_⟩;rw [qA1,D4,ey,E3,B6,B6]
    rfl
   refine fun σ Hd hI_4=>opq fun G_4 hG_4=>?_;obtain ⟨v,rfl,sd,hpd⟩:=hI_4;refine hG_4 ?_;rw [A0,qL6 rfl] at hpd;refine ⟨pp,_,rfl,SqL.of hpd,?_⟩;refine hN2 _ _ ?_;refine ⟨_,rfl,.inl ⟨rfl,_,SqL.of (sd _ _ gc)⟩,_,rfl,_,_,rfl,rfl,_,301,rfl,lc,_,_,rfl,rfl,sd _ _ gc,qAQ (by rw [A0,A0,qDR];omega),?_⟩
   rw [ec _ e1.symm];exact ⟨_,_,rfl,qAB (sc.trans sd) hlc,nlc Hd sd,qA1⟩
 ·refine fun σ Hc hI_5=>opq fun G_5 hG_5=>?_;obtain ⟨v3,v4,rfl,sc,_,gc⟩:=hI_5;refine hG_5 ?_;refine hN1 _ _ ?_;rw [A0,lt] at gc;have hg:atI (((qF7 Ae (wk+1)).map cap).map V.int) (wk:Int)=some (.int (cap (cn Ae (wk:Int)))):=qAV w0 (by rw [C4,C4,qJY w0 (by omega)];rfl)
  exact ⟨_,rfl,_,rfl,lc,_,_,_,rfl,rfl,SqL.of gc,hg,q _ sc⟩
end
section
variable {P:Program} {w:World} {K:PySem.W.Frag} {mg:Str->Option Value} {base:Heap} {f:Addr} {fd:FuncData}
theorem qYP {p:List Int} (h:p ≠ []):atI (p.map V.int) 0=some (.int (hd p)):=by
 cases p with
 | nil=>exact absurd rfl h
 | cons x p=>exact qAV (J7 _) rfl
theorem qJ2 {r:Addr} {rs:List Addr}:(((r::rs).reverse.map V.ref)[((r::rs).reverse.map V.ref).length - 1]?=some (V.ref r))/\((r::rs).reverse.map V.ref).dropLast=rs.reverse.map V.ref:=by
 rw [j4,B6]
 constructor
 ·rw [B0,A0,A0];simp
 ·simp
theorem sc_Lpaths:FnScope ["_law_net_here","_law_work","_law_found","_law_pile","_law_path"] ["_law_net_here","_law_work"] (qAE qIY):=⟨rfl,rfl,rfl,by decide +kernel,rfl,by decide +kernel,by decide +kernel⟩
theorem ok_Lpaths (F:Fun K "_law_paths" "_law_paths" qIY f fd) (qAT:mg "sorted" = none):FnOk P w K mg base CX0 1 f fd ["_law_net_here","_law_work"] qH3:=by
 refine F.ok sc_Lpaths (fun vs H Q E h=>?_) (fun cdv A outer s H vs Q E hr h=>?_)
 ·obtain ⟨a,Ae,work,rfl,_⟩:=h
  rfl
 obtain ⟨a,Ae,work,rfl,hN,wf,n401,w0,w1,few62,q⟩:=h;have few:cn Ae work<=300:=by omega
 have hu64:=hr.units;have hu0:=hr.units0;refine ⟨_,(qA4 (qAG (i:=2) sc_Lpaths.nd rfl (E8 rfl) (qAR qA3)) (qA4 (qAG (i:=3) sc_Lpaths.nd rfl (E8 rfl) (qAR (qA0 (qBF (qA0 (pv 1) qA3)) qA3))) (qA4 (qG1 F3 (qAO (qT5 hu0) (pv 3) (qAR qA3) (qAU _)) (qA4 (qAG (i:=4) sc_Lpaths.nd rfl (B31 rfl) (qT1 E4 u9 w5 qTA (pv 3))) (qA4 (qBB (qAO (qI4 hu0) (qB0 qB3 (pv 0) (qB0 qB3 (pv 4) qA5 (fun _ _=>rfl)) (fun _ _=>rfl)) (qBF qA3) (qAU _)) (qA6 (qC0 (qGL E4 K0 L5 qBP (pv 2) (qA0 (pv 4) qA3)))) qAH) (qA6 (qC0 (qGL E4 m7 m8 qN1 (pv 3) (qA0 (qEE rfl (lcs (own:=["_law_need"]) (fv:=[4]) (by kernel_rfl)) (qD0 (qB0 qB3 (pv 0) (qB0 qB3 (pv 4) qA5 (fun _ _=>rfl)) (fun _ _=>rfl))) (fun z1=>qAD (i:=0) (qD7 (by kernel_rfl)) rfl (E8 rfl)) (fun z1=>qBA) (fun z1=>(qAM (qVQ (K:=K) rfl) (qBF (qA0 (pv 0) qA3)) (pv 1)))) qA3))))))) (qA6 (qAF (qAA (L2.GS.call_sortedTL rfl hu64) rfl qAT qDS (qA0 (pv 2) qA3))))))),?_⟩
 try dsimp only [Cx.nox,Cx.wish,cxOf]
 obtain ⟨rs,hA,NL⟩:=id hN;have lrs:=C8 NL;refine cut fun N1 hN1=>?_;refine ⟨(by show 0<=sizeLine;decide),fun lp hlp=>?_⟩
 have s2:=qA2 hlp (.lst []);have flp:H lp=none:=hlp;have g2:(Ag H lp (.lst [])) lp=some (.lst (([]:List Addr).map V.ref)):=qA1;generalize Ag H lp (.lst [])=H2 at s2 g2 ⊢;refine hN1 _ _ (cut fun N2 hN2=>?_);refine ⟨_,rfl,(by show 1<=sizeLine;decide),fun r0 hr0=>?_⟩
 have t3:=qA2 hr0 (.tup [.int work]);have g3:(Ag H2 r0 (.tup [.int work])) r0=some (.tup ([work].map V.int)):=qA1;generalize Ag H2 r0 (.tup [.int work])=H3 at t3 g3 ⊢;refine ⟨(by show 1<=sizeLine;decide),fun lb hlb=>?_⟩
 have t4:=qA2 hlb (.lst [.ref r0]);have s4:=s2.trans (t3.trans t4);have flb:H lb=none:=(s2.trans t3).free hlb;have g4:(Ag H3 lb (.lst [.ref r0])) lb=some (.lst ([r0].reverse.map V.ref)):=qA1;have g4p:=(t3.trans t4) _ _ g2;have N4:NetL (Ag H3 lb (.lst [.ref r0])) [r0] [[work]]:=.cons (t4 _ _ g3) .nil;have npb:lp ≠ lb:=qA8 (t3 _ _ g2) hlb;generalize Ag H3 lb (.lst [.ref r0])=H4 at s4 g4 g4p N4 ⊢;refine hN2 _ _ (cut fun N3 hN3=>?_);refine ⟨fun m σ Hc=>∃ (fs st:List (List Int)) (frs srs:List Addr) (v4:Option V),σ=[some (.ref a),some (.int work),some (.ref lp),some (.ref lb),v4]/\m=msP Ae st/\Same H Hc/\Hc lp=some (.lst (frs.map V.ref))/\NetL Hc frs fs/\Hc lb=some (.lst (srs.reverse.map V.ref))/\NetL Hc srs st/\PWay Ae work fs st,
  ⟨_,[],[[work]],[],[r0],none,rfl,rfl,s4,g4p,.nil,g4,N4,PWay.start w0 w1⟩,?_⟩
 refine fun m σ Hb hI_1=>opq fun G_1 hG_1=>?_;obtain ⟨fs,st,frs,srs,v4,rfl,rfl,sb,gp0,NF0,gb0,NS0,PW⟩:=hI_1;refine hG_1 ?_;refine ⟨_,rfl,(by show 0<=sizeLine;decide),fun en hen=>?_⟩
 have t0:=qA2 hen (.lst []);have gen:(Ag Hb en (.lst [])) en=some (.lst []):=qA1;have sc:=sb.trans t0;have gp:=t0 _ _ gp0;have gb:=t0 _ _ gb0;have NF:NetL (Ag Hb en (.lst [])) frs fs:=NF0.same fun r ys e=>t0 _ _ e;have NS:NetL (Ag Hb en (.lst [])) srs st:=NS0.same fun r ys e=>t0 _ _ e;clear gp0 NF0 gb0 NS0;generalize Ag Hb en (.lst [])=Hc at gen sc gp gb NF NS ⊢;refine ⟨lb,en,_,rfl,rfl,SqL.of gb,SqL.of gen,_,rfl,?_⟩;cases NS with
 | nil=>
  refine iteF ?_;refine hN3 _ _ ?_;have lf:=PW.lens wf w0 few;have fok:=PW.fok;have ef:=PW.done;have l62:=qQD wf w0 few62 ef;have lfr:=C8 NF;refine ⟨_,rfl,lp,frs,fs,rfl,SqL.of gp,NF,(fun t ht=>(fok t ht).ne),(by omega),fun l rs' ts' hl pr T pm so=>?_⟩
  have sl:=qA2 hl (.lst (rs'.map V.ref));refine q l ts' _ (sc.trans sl) (sc.free hl) ⟨rs',qA1,NetL.same T fun r ys e=>sl _ _ e⟩ ⟨by rw [<- ef];exact pm,so⟩ ?_ fun t ht=>?_
  ·rw [pm.length_eq];omega
  ·have P:=fok t (pm.mem_iff.mp ht);have:=P.len;have:=P.h0;omega
 | @cons r p srs st gr NS=>
  have nr:(!((r::srs).reverse.map V.ref).isEmpty)=true:=by simp
  rw [if_pos nr];have P:=PW.ok p B5;have lens:=PW.lens1 wf w0 few;obtain ⟨PW2,ms2⟩:=PW.step wf;have lfr:=C8 NF;have lsr:=C8 NS;refine ⟨fun σ' H'=>∃ (fs' st':List (List Int)) (frs srs:List Addr) (v4:Option V),σ'=[some (.ref a),some (.int work),some (.ref lp),some (.ref lb),v4]/\msP Ae st'<msP Ae (p::st)/\Same H H'/\H' lp=some (.lst (frs.map V.ref))/\NetL H' frs fs'/\H' lb=some (.lst (srs.reverse.map V.ref))/\NetL H' srs st'/\PWay Ae work fs' st',
   fun σ' H' ⟨fs',st',frs,srs,v4,e,ms,z⟩=>⟨_,ms,fs',st',frs,srs,v4,e,rfl,z⟩,?_⟩
  refine cut fun M0 hM0=>?_;refine ⟨_,rfl,.inl ⟨rfl,_,SqL.of gb⟩,lb,_,_,rfl,rfl,gb,qJ2.1,?_⟩;rw [qJ2.2];have k5:∀ (b:Addr) (xs:List V),Hc b=some (.tup xs)->(Ag Hc lb (.lst (srs.reverse.map V.ref))) b=some (.tup xs):=fun b xs e=>by rw [qA9 (qCL e gb (by intro z;cases z))];exact e
  have s5:Same H (Ag Hc lb (.lst (srs.reverse.map V.ref))):=qAB sc flb;have gb5:(Ag Hc lb (.lst (srs.reverse.map V.ref))) lb=some (.lst (srs.reverse.map V.ref)):=qA1;have gp5:(Ag Hc lb (.lst (srs.reverse.map V.ref))) lp=some (.lst (frs.map V.ref)):=by rw [qA9 npb];exact gp
  have NF5:=NF.same k5;have NS5:=NetL.same NS k5;have gr5:=k5 _ _ gr;generalize Ag Hc lb (.lst (srs.reverse.map V.ref))=H5 at s5 gb5 gp5 NF5 NS5 gr5 ⊢;have hw:(hd p).toNat<Ae.length:=by have:=P.h0;have:=P.h1;omega
  obtain ⟨rs',rn,h1,l1,h2,h3⟩:=hN.get (A5 hw);have ey:=qBL (A5 hw);generalize Ae[(hd p).toNat]=ys at h3 ey;refine hM0 _ _ (cut fun M1 hM1=>?_);refine ⟨_,rfl,_,rfl,r,_,_,_,rfl,rfl,SqT.of gr5,qYP P.ne,a,_,_,_,rfl,rfl,SqT.of (s5 _ _ h1),qAV P.h0 h2,(by show 0<=sizeLine;decide),fun et het=>?_⟩
  have t6:=qA2 het (.tup []);refine ⟨rn,et,_,rfl,rfl,SqT.of (t6 _ _ (s5 _ _ h3)),SqT.of qA1,_,rfl,?_⟩;have s5:=s5.trans t6;have gb5:=t6 _ _ gb5;have gp5:=t6 _ _ gp5;have NF5:=NF5.same fun r ys e=>t6 _ _ e;have NS5:=NetL.same NS5 fun r ys e=>t6 _ _ e;have gr5:=t6 _ _ gr5;generalize Ag H5 et (.tup [])=H5 at s5 gb5 gp5 NF5 NS5 gr5 ⊢;have rest:∀ (frs':List Addr) (H6:Hp),Same H H6->H6 lp=some (.lst (frs'.map V.ref))->NetL H6 frs' (nxF Ae fs p)->H6 lb=some (.lst (srs.reverse.map V.ref))->NetL H6 srs st->H6 r=some (.tup (p.map V.int))->M1 [some (.ref a),some (.int work),some (.ref lp),some (.ref lb),some (.ref r)] H6:=by
   intro frs' H6 s6 gp6 NF6 gb6 NS6 gr6;refine hM1 _ _ ?_;refine ⟨_,rfl,.inl ⟨rfl,_,SqL.of gb6⟩,_,rfl,_,rfl,r,_,_,_,rfl,rfl,SqT.of gr6,qYP P.ne,a,_,_,_,rfl,rfl,SqT.of (s6 _ _ h1),qAV P.h0 h2,rn,rfl,⟨_,SqT.of (s6 _ _ h3)⟩,fun lq hlq=>?_⟩;refine qHH (p:=lq) (a:=rn) (xs:=ys.map V.int) (fun j σ Hd=>∃ (v:Option V) (qs:List Addr),σ=[v,some (.ref r)]/\Same H6 Hd/\Hd lq=some (.lst (qs.map V.ref))/\NetL Hd qs ((ys.take j).map fun z=>z::p)) ?_ ?_ ?_ ?_
   ·exact ⟨none,[],rfl,qA2 hlq _,qA1,.nil⟩
   ·rintro j σ Hd hj ⟨v,qs,rfl,sd,_⟩;exact SqT.of (sd _ _ (s6 _ _ h3))
   ·refine fun j x σ Hd hx hI_3=>opq fun G_3 hG_3=>?_;obtain ⟨v,qs,rfl,sd,gqd,NQ⟩:=hI_3;obtain ⟨y,eyy,rfl⟩:=qBE hx;refine hG_3 ?_;have hj:=(A6.mp eyy).1;have lqs:=C8 NQ;rw [A0,D7] at lqs;rw [ey] at lens;have grd:=sd _ _ gr6;refine ⟨_,rfl,(by show 1<=sizeLine;decide),fun t1 ht1=>?_⟩
    have u1:=qA2 ht1 (.tup [.int y]);have pl:=P.len;have p0:=P.h0;refine ⟨_,rfl,t1,r,_,_,rfl,rfl,SqT.of qA1,SqT.of (u1 _ _ grd),by simp,by simp only [D9,P0,A0,sizeLine_eq];omega,fun z=>?_,fun _ t2 ht2=>?_⟩
    ·exact absurd (A98.mp z) P.ne
    have u2:=qA2 ht2 (.tup ([.int y]++p.map V.int));have uu:=u1.trans u2;have gq2:=uu _ _ gqd;have gt2:(Ag (Ag Hd t1 (.tup [.int y])) t2 (.tup ([.int y]++p.map V.int))) t2=some (.tup ((y::p).map V.int)):=qA1;generalize Ag (Ag Hd t1 (.tup [.int y])) t2 (.tup ([.int y]++p.map V.int))=He at uu gq2 gt2 ⊢;refine ⟨_,gq2,qAQ (by rw [A0];omega),?_⟩
    rw [qCA];have eT:(ys.take (j+1)).map (fun z=>z::p)=(ys.take j).map (fun z=>z::p)++[y::p]:=by rw [D4,eyy,E3,B6];rfl
    rw [eT];exact ⟨_,qs++[t2],rfl,qAB (sd.trans uu) hlq,qA1,qBG (qBH (NQ.same fun r ys e=>uu _ _ e) gt2) gq2⟩
   ·refine fun σ Hd hI_4=>opq fun G_4 hG_4=>?_;obtain ⟨v,qs,rfl,sd,gqd,NQ⟩:=hI_4;refine hG_4 ?_;rw [A0,qL6 rfl] at NQ;have lqs:=C8 NQ;rw [A0] at lqs;rw [ey] at lens;have gbd:=sd _ _ gb6;refine ⟨lb,lq,_,_,rfl,rfl,gbd,gqd,by rw [A0,A0,c6,sizeLine_eq];omega,?_⟩
    rw [<- B6];refine ⟨nxF Ae fs p,nxS Ae p st,frs',qs.reverse++srs,_,rfl,ms2,qAB (s6.trans sd) flb,by rw [qA9 npb];exact sd _ _ gp6,qBG (NF6.same fun r ys e=>sd _ _ e) gbd,by rw [qA1,A99,A82],?_,PW2⟩
    unfold nxS;rw [ey];exact qBG (qKR (qJH NQ) (NetL.same NS6 fun r ys e=>sd _ _ e)) gbd
  unfold nxF at rest;rw [ey] at rest;cases ys with
  | nil=>
   refine iteT ?_;have l1:=lens.2;refine ⟨_,rfl,.inl ⟨rfl,_,SqL.of gp5⟩,_,rfl,lp,_,_,rfl,rfl,gp5,qAQ (by rw [A0];omega),?_⟩
   rw [qCA];refine rest (frs++[r]) _ (qAB s5 flp) qA1 ?_ (by rw [qA9 npb.symm];exact gb5) (qBG NS5 gp5) (by rw [qA9 (qCL gr5 gp5 (by intro z;cases z))];exact gr5)
   rw [if_pos rfl];exact qBG (qBH NF5 gr5) gp5
  | cons y ys=>
   refine iteF ?_;refine rest frs _ s5 gp5 ?_ gb5 NS5 gr5;rw [if_neg (by simp)]
   exact NF5
end
section
variable {P:Program} {w:World} {K:PySem.W.Frag} {mg:Str->Option Value} {base:Heap} {f:Addr} {fd:FuncData} {tk_MOST_PATHS:Tok} {qDE:Addr} {qGF:FuncData}
theorem sc_all_paths:FnScope ["net","work","paths","begun","path","needs","need"] ["net","work"] (qAE qEW):=⟨rfl,rfl,rfl,by decide +kernel,rfl,by decide +kernel,by decide +kernel⟩
theorem ok_all_paths (F:Fun K "all_paths" "all_paths" qEW f fd) (qDI:Clb P w K mg base 1 qDE qGF "count_paths" ["net","work"] qSG) (m_MOST_PATHS:mg "MOST_PATHS" = some (.int 300 tk_MOST_PATHS)) (qAT:mg "sorted" = none):FnOk P w K mg base CX0 2 f fd ["net","work"] qH3:=by
 refine F.ok sc_all_paths (fun vs H Q E h=>?_) (fun cdv A outer s H vs Q E hr h=>?_)
 ·obtain ⟨a,Ae,work,rfl,_⟩:=h
  rfl
 obtain ⟨a,Ae,work,rfl,hN,wf,n401,w0,w1,few62,q⟩:=h;have hu64:=hr.units;refine ⟨_,(qA4 (qBB (qAO qY4 (qB4 qDI hr rfl (qA0 (pv 0) (qA0 (pv 1) qA3))) (qCK (v:=.int (300)) rfl m_MOST_PATHS ⟨_,rfl⟩) (qAU _)) qSS qAH) (qA4 (qAG (i:=2) sc_all_paths.nd rfl (E8 rfl) (qAR qA3)) (qA4 (qAG (i:=3) sc_all_paths.nd rfl (E8 rfl) (qAR (qA0 (qBF (qA0 (pv 1) qA3)) qA3))) (qA4 (qG1 F3 (qDZ (pv 3) (fun _=>rfl)) (qA4 (qAG (i:=4) sc_all_paths.nd rfl (E8 rfl) (qT1 E4 u9 w5 qTA (pv 3))) (qA4 (qAG (i:=5) sc_all_paths.nd rfl (E8 rfl) (qB0 qB3 (pv 0) (qB0 qB3 (pv 4) qA5 (fun _ _=>rfl)) (fun _ _=>rfl))) (qA4 (qBB (qBZ (qDZ (pv 5) (fun _=>rfl))) (qA6 (qC0 (qGL E4 K0 L5 qBP (pv 2) (qA0 (pv 4) qA3)))) qAH) (qA6 (qCE F3 rfl (qD0 (pv 5)) (qAD (i:=6) sc_all_paths.nd rfl (E8 rfl)) (qA6 (qC0 (qGL E4 K0 L5 qBP (pv 3) (qA0 (qAM qOB (qBF (qA0 (pv 6) qA3)) (pv 4)) qA3)))))))))) (qA6 (qAF (qAA (L2.GS.call_sortedTL rfl hu64) rfl qAT qDS (qA0 (pv 2) qA3)))))))),?_⟩
 try dsimp only [Cx.nox,Cx.wish,cxOf]
 obtain ⟨rs,hA,NL⟩:=id hN;have lrs:=C8 NL;refine cut fun N0 hN0=>?_;refine ⟨_,rfl,_,rfl,a,Ae,work,rfl,hN,wf,n401,w0,w1,fun H1 s1=>?_⟩;refine ⟨_,_,rfl,rfl,_,rfl,?_⟩;refine ite2 (fun ck=>?_) (fun ck=>?_)
 ·exfalso
  have big:300<cn Ae work:=by
   have:=of_decide_eq_true ck;unfold cap at this
   split at this <;> omega
  omega
 have few:cn Ae work<=300:=by
  have z:¬ cap (cn Ae work) > 300:=fun z=>ck (decide_eq_true z);unfold cap at z
  split at z <;> omega
 refine hN0 _ _ (cut fun N1 hN1=>?_);refine ⟨(by show 0<=sizeLine;decide),fun lp hlp=>?_⟩
 have s2:=s1.trans (qA2 hlp (.lst []));have flp:H lp=none:=s1.free hlp;have g2:(Ag H1 lp (.lst [])) lp=some (.lst (([]:List Addr).map V.ref)):=qA1;generalize Ag H1 lp (.lst [])=H2 at s2 g2 ⊢;refine hN1 _ _ (cut fun N2 hN2=>?_);refine ⟨_,rfl,(by show 1<=sizeLine;decide),fun r0 hr0=>?_⟩
 have t3:=qA2 hr0 (.tup [.int work]);have g3:(Ag H2 r0 (.tup [.int work])) r0=some (.tup ([work].map V.int)):=qA1;generalize Ag H2 r0 (.tup [.int work])=H3 at t3 g3 ⊢;refine ⟨(by show 1<=sizeLine;decide),fun lb hlb=>?_⟩
 have t4:=qA2 hlb (.lst [.ref r0]);have s4:=s2.trans (t3.trans t4);have flb:H lb=none:=(s2.trans t3).free hlb;have g4:(Ag H3 lb (.lst [.ref r0])) lb=some (.lst ([r0].reverse.map V.ref)):=qA1;have g4p:=(t3.trans t4) _ _ g2;have N4:NetL (Ag H3 lb (.lst [.ref r0])) [r0] [[work]]:=.cons (t4 _ _ g3) .nil;have npb:lp ≠ lb:=qA8 (t3 _ _ g2) hlb;generalize Ag H3 lb (.lst [.ref r0])=H4 at s4 g4 g4p N4 ⊢;refine hN2 _ _ (cut fun N3 hN3=>?_);refine ⟨fun m σ Hc=>∃ (fs st:List (List Int)) (frs srs:List Addr) (v4 v5 v6:Option V),σ=[some (.ref a),some (.int work),some (.ref lp),some (.ref lb),v4,v5,v6]/\m=msP Ae st/\Same H Hc/\Hc lp=some (.lst (frs.map V.ref))/\NetL Hc frs fs/\Hc lb=some (.lst (srs.reverse.map V.ref))/\NetL Hc srs st/\PWay Ae work fs st,
  ⟨_,[],[[work]],[],[r0],none,none,none,rfl,rfl,s4,g4p,.nil,g4,N4,PWay.start w0 w1⟩,?_⟩
 refine fun m σ Hc hI_1=>opq fun G_1 hG_1=>?_;obtain ⟨fs,st,frs,srs,v4,v5,v6,rfl,rfl,sc,gp,NF,gb,NS,PW⟩:=hI_1;refine hG_1 ?_;refine ⟨_,rfl,_,.inl ⟨_,SqL.of gb,rfl⟩,?_⟩;cases NS with
 | nil=>
  refine iteF ?_;refine hN3 _ _ ?_;have lf:=PW.lens wf w0 few;have fok:=PW.fok;have ef:=PW.done;have l62:=qQD wf w0 few62 ef;have lfr:=C8 NF;refine ⟨_,rfl,lp,frs,fs,rfl,SqL.of gp,NF,(fun t ht=>(fok t ht).ne),(by omega),fun l rs' ts' hl pr T pm so=>?_⟩
  have sl:=qA2 hl (.lst (rs'.map V.ref));refine q l ts' _ (sc.trans sl) (sc.free hl) ⟨rs',qA1,NetL.same T fun r ys e=>sl _ _ e⟩ ⟨by rw [<- ef];exact pm,so⟩ ?_ fun t ht=>?_
  ·rw [pm.length_eq];omega
  ·have P:=fok t (pm.mem_iff.mp ht);have:=P.len;have:=P.h0;omega
 | @cons r p srs st gr NS=>
  have nr:(!((r::srs).reverse.map V.ref).isEmpty)=true:=by simp
  rw [if_pos nr];have P:=PW.ok p B5;have lens:=PW.lens1 wf w0 few;obtain ⟨PW2,ms2⟩:=PW.step wf;have lfr:=C8 NF;have lsr:=C8 NS;refine ⟨fun σ' H'=>∃ (fs' st':List (List Int)) (frs srs:List Addr) (v4 v5 v6:Option V),σ'=[some (.ref a),some (.int work),some (.ref lp),some (.ref lb),v4,v5,v6]/\msP Ae st'<msP Ae (p::st)/\Same H H'/\H' lp=some (.lst (frs.map V.ref))/\NetL H' frs fs'/\H' lb=some (.lst (srs.reverse.map V.ref))/\NetL H' srs st'/\PWay Ae work fs' st',
   fun σ' H' ⟨fs',st',frs,srs,v4,v5,v6,e,ms,z⟩=>⟨_,ms,fs',st',frs,srs,v4,v5,v6,e,rfl,z⟩,?_⟩
  refine cut fun M0 hM0=>?_;refine ⟨_,rfl,.inl ⟨rfl,_,SqL.of gb⟩,lb,_,_,rfl,rfl,gb,qJ2.1,?_⟩;rw [qJ2.2];have k5:∀ (b:Addr) (xs:List V),Hc b=some (.tup xs)->(Ag Hc lb (.lst (srs.reverse.map V.ref))) b=some (.tup xs):=fun b xs e=>by rw [qA9 (qCL e gb (by intro z;cases z))];exact e
  have s5:Same H (Ag Hc lb (.lst (srs.reverse.map V.ref))):=qAB sc flb;have gb5:(Ag Hc lb (.lst (srs.reverse.map V.ref))) lb=some (.lst (srs.reverse.map V.ref)):=qA1;have gp5:(Ag Hc lb (.lst (srs.reverse.map V.ref))) lp=some (.lst (frs.map V.ref)):=by rw [qA9 npb];exact gp
  have NF5:=NF.same k5;have NS5:=NetL.same NS k5;have gr5:=k5 _ _ gr;generalize Ag Hc lb (.lst (srs.reverse.map V.ref))=H5 at s5 gb5 gp5 NF5 NS5 gr5 ⊢;have hw:(hd p).toNat<Ae.length:=by have:=P.h0;have:=P.h1;omega
  obtain ⟨rs',rn,h1,l1,h2,h3⟩:=hN.get (A5 hw);have en:=qBL (A5 hw);generalize Ae[(hd p).toNat]=ys at h3 en;refine hM0 _ _ (cut fun M1 hM1=>?_);refine ⟨_,rfl,_,rfl,r,_,_,_,rfl,rfl,SqT.of gr5,qYP P.ne,a,_,_,_,rfl,rfl,SqT.of (s5 _ _ h1),qAV P.h0 h2,?_⟩;refine hM1 _ _ (cut fun M2 hM2=>?_);refine ⟨_,rfl,_,.inr (.inl ⟨_,SqT.of (s5 _ _ h3),rfl⟩),?_⟩;have rest:∀ (frs':List Addr) (H6:Hp),Same H H6->H6 lp=some (.lst (frs'.map V.ref))->NetL H6 frs' (nxF Ae fs p)->H6 lb=some (.lst (srs.reverse.map V.ref))->NetL H6 srs st->H6 r=some (.tup (p.map V.int))->M2 [some (.ref a),some (.int work),some (.ref lp),some (.ref lb),some (.ref r),some (.ref rn),v6] H6:=by
   intro frs' H6 s6 gp6 NF6 gb6 NS6 gr6;refine hM2 _ _ ?_;refine ⟨_,rfl,rn,rfl,⟨_,SqT.of (s6 _ _ h3)⟩,qFR (a:=rn) (xs:=ys.map V.int) (fun j σ Hd=>∃ (v6:Option V) (qs:List Addr),σ=[some (.ref a),some (.int work),some (.ref lp),some (.ref lb),some (.ref r),some (.ref rn),v6]/\Same H Hd/\Hd lp=some (.lst (frs'.map V.ref))/\NetL Hd frs' (nxF Ae fs p)/\Hd lb=some (.lst ((srs.reverse++qs).map V.ref))/\NetL Hd srs st/\NetL Hd qs ((ys.take j).map fun z=>z::p)/\Hd r=some (.tup (p.map V.int)))
    ⟨v6,[],rfl,s6,gp6,NF6,by rw [R8];exact gb6,NS6,.nil,gr6⟩ (fun j σ Hd _ hP=>by obtain ⟨_,_,_,sd,_⟩:=hP;exact SqT.of (sd _ _ h3)) ?_ ?_⟩
   ·refine fun j x σ Hd hx hI_2=>opq fun G_2 hG_2=>?_;obtain ⟨v6',qs,rfl,sd,gpd,NFd,gbd,NSd,NQ,grd⟩:=hI_2;obtain ⟨y,ey,rfl⟩:=qBE hx;refine hG_2 ?_;have hj:=(A6.mp ey).1;have lqs:=C8 NQ;rw [A0,D7] at lqs;rw [en] at lens;refine ⟨_,rfl,.inl ⟨rfl,_,SqL.of gbd⟩,_,rfl,(by show 1<=sizeLine;decide),fun t1 ht1=>?_⟩
    have u1:=qA2 ht1 (.tup [.int y]);have pl:=P.len;have p0:=P.h0;refine ⟨_,rfl,t1,r,_,_,rfl,rfl,SqT.of qA1,SqT.of (u1 _ _ grd),by simp,by simp only [D9,P0,A0,sizeLine_eq];omega,fun z=>?_,fun _ t2 ht2=>?_⟩
    ·exact absurd (A98.mp z) P.ne
    have u2:=qA2 ht2 (.tup ([.int y]++p.map V.int));have uu:=u1.trans u2;have gb2:=uu _ _ gbd;have gt2:(Ag (Ag Hd t1 (.tup [.int y])) t2 (.tup ([.int y]++p.map V.int))) t2=some (.tup ((y::p).map V.int)):=qA1;generalize Ag (Ag Hd t1 (.tup [.int y])) t2 (.tup ([.int y]++p.map V.int))=He at uu gb2 gt2 ⊢;refine ⟨lb,_,_,rfl,rfl,gb2,qAQ (by rw [A0,B0,c6];omega),?_⟩
    rw [qCA];refine ⟨_,qs++[t2],rfl,qAB (sd.trans uu) flb,by rw [qA9 npb];exact uu _ _ gpd,qBG (NFd.same fun r ys e=>uu _ _ e) gb2,by rw [qA1,P6],qBG (NSd.same fun r ys e=>uu _ _ e) gb2,?_,by rw [qA9 (qCL (uu _ _ grd) gb2 (by intro z;cases z))];exact uu _ _ grd⟩
    have eT:(ys.take (j+1)).map (fun z=>z::p)=(ys.take j).map (fun z=>z::p)++[y::p]:=by rw [D4,ey,E3,B6];rfl
    rw [eT];exact qBG (qBH (NQ.same fun r ys e=>uu _ _ e) gt2) gb2
   ·refine fun σ Hd hI_3=>opq fun G_3 hG_3=>?_;obtain ⟨v6',qs,rfl,sd,gpd,NFd,gbd,NSd,NQ,grd⟩:=hI_3;refine hG_3 ?_;rw [A0,qL6 rfl] at NQ;refine ⟨nxF Ae fs p,nxS Ae p st,frs',qs.reverse++srs,_,_,_,rfl,ms2,sd,gpd,NFd,?_,?_,PW2⟩
    ·rw [gbd,A99,A82]
    ·unfold nxS;rw [en];exact qKR (qJH NQ) NSd
  unfold nxF at rest;rw [en] at rest;cases ys with
  | nil=>
   refine iteT ?_;have l1:=lens.2;refine ⟨_,rfl,.inl ⟨rfl,_,SqL.of gp5⟩,_,rfl,lp,_,_,rfl,rfl,gp5,qAQ (by rw [A0];omega),?_⟩
   rw [qCA];refine rest (frs++[r]) _ (qAB s5 flp) qA1 ?_ (by rw [qA9 npb.symm];exact gb5) (qBG NS5 gp5) (by rw [qA9 (qCL gr5 gp5 (by intro z;cases z))];exact gr5)
   rw [if_pos rfl];exact qBG (qBH NF5 gr5) gp5
  | cons y ys=>
   refine iteF ?_;refine rest frs _ s5 gp5 ?_ gb5 NS5 gr5;rw [if_neg (by simp)]
   exact NF5
end
section
variable {P:Program} {w:World} {K:PySem.W.Frag} {mg:Str->Option Value} {base:Heap} {f:Addr} {fd:FuncData}
theorem sc_side_ends:FnScope ["net","path","ends","work","need"] ["net","path"] (qAE qEQ):=⟨rfl,rfl,rfl,by decide +kernel,rfl,by decide +kernel,by decide +kernel⟩
theorem ok_side_ends (F:Fun K "side_ends" "side_ends" qEQ f fd):FnOk P w K mg base CX0 1 f fd ["net","path"] qI0:=by
 refine F.ok sc_side_ends (fun vs H Q E h=>?_) (fun cdv A outer s H vs Q E hr h=>?_)
 ·obtain ⟨a,t,Ae,path,rfl,_⟩:=h
  rfl
 obtain ⟨a,t,Ae,path,rfl,⟨hN,wf,n400,hT,pne,lp,pin⟩,q⟩:=h;have hu:=qGD hr;refine ⟨_,(qA4 (qAG (i:=2) sc_side_ends.nd rfl (E8 rfl) qPW) (qA4 (qCE F3 rfl (qD0 (qB2 qKM (pv 1) (qBD qA5) qBK)) (qAD (i:=3) sc_side_ends.nd rfl (E8 rfl)) (qA6 (qCE F3 rfl (qD0 (qB0 qB3 (pv 0) (pv 3) (fun _ _=>rfl))) (qAD (i:=4) sc_side_ends.nd rfl (E8 rfl)) (qA6 (qBB (qAO qD2 (pv 4) (pv 1) (by with_unfolding_all rfl)) (qA6 (qFM hu (pv 2) (pv 4) qCH rfl)) qAH))))) (qA6 (qAF (pv 2))))),?_⟩
 try dsimp only [Cx.nox,Cx.wish,cxOf]
 obtain ⟨rs,hA,NL⟩:=id hN;have lrs:=C8 NL;refine cut fun N0 hN0=>?_;refine fun d hd=>?_;have s1:=qA2 hd (.dK []);have gd1:(Ag H d (.dK [])) d=some (.dK []):=qA1;generalize Ag H d (.dK [])=H1 at s1 gd1 ⊢;refine hN0 _ _ (cut fun N1 hN1=>?_);have lpath:1<=path.length:=W6.mpr pne;refine ⟨_,rfl,_,rfl,t,_,rfl,SqT.of (s1 _ _ hT),?_,fun t1 ht1=>?_⟩
 ·rw [A0,show (1:Int)=((1:Nat):Int) from rfl,HT.sIx_nat];omega
 rw [qCZ,show (1:Int)=((1:Nat):Int) from rfl,qEL _ _ lpath];have s2:=qA2 ht1 (.tup ((path.drop 1).map V.int));have g2:(Ag H1 t1 (.tup ((path.drop 1).map V.int))) t1=some (.tup ((path.drop 1).map V.int)):=qA1;have gd2:=s2 _ _ gd1;generalize Ag H1 t1 (.tup ((path.drop 1).map V.int))=H2 at s2 g2 gd2 ⊢;have s02:=s1.trans s2;have nt1:t1 ≠ d:=qCL g2 gd2 (by intro z;cases z)
 refine ⟨t1,rfl,⟨_,SqT.of g2⟩,qFR (a:=t1) (xs:=(path.drop 1).map V.int) (fun i σ Hc=>∃ (Af:List (Key × V)) (v3 v4:Option V),σ=[some (.ref a),some (.ref t),some (.ref d),v3,v4]/\Same H Hc/\Hc t1=some (.tup ((path.drop 1).map V.int))/\Hc d=some (.dK Af)/\Af.length<=400 * i/\∀ z:Int,(valV Af (J1 z)).isSome=true ↔ z ∉ path/\∃ w ∈ (path.drop 1).take i,z ∈ nd Ae w)
  ⟨[],none,none,rfl,s02,g2,gd2,F5 _,fun z=>by simp [valV]⟩ (fun i σ Hc _ hP=>by obtain ⟨_,_,_,_,_,g,_⟩:=hP;exact SqT.of g) ?_ ?_⟩
 ·refine fun i x σ Hc hx hI_1=>opq fun G_1 hG_1=>?_;obtain ⟨Af,v3,v4,rfl,sc,gt,gd,lk,hv⟩:=hI_1;obtain ⟨wk,ew,rfl⟩:=qBE hx;refine hG_1 ?_;have hi:=(A6.mp ew).1;rw [F2] at hi;have wb:=pin wk (Q0 (C5 ew));have hw:wk.toNat<Ae.length:=by omega
  have hz:=A5 hw;obtain ⟨r,h3,h4⟩:=NL.get hz;have en:=qBL hz;have ln:=(wf wk.toNat _ hz).len;generalize Ae[wk.toNat]=zs at h4 hz en ln;refine ⟨_,rfl,_,rfl,a,_,_,_,rfl,rfl,SqT.of (sc _ _ hA),qAV wb.1 (by rw [C4,h3];rfl),r,rfl,⟨_,SqT.of (sc _ _ h4)⟩,qFR (a:=r) (xs:=zs.map V.int) (fun j σ Hd=>∃ (Af:List (Key × V)) (v4:Option V),σ=[some (.ref a),some (.ref t),some (.ref d),some (.int wk),v4]/\Same H Hd/\Hd t1=some (.tup ((path.drop 1).map V.int))/\Hd d=some (.dK Af)/\Af.length<=400 * i+j/\∀ z:Int,(valV Af (J1 z)).isSome=true ↔ z ∉ path/\((∃ w ∈ (path.drop 1).take i,z ∈ nd Ae w)\/z ∈ zs.take j))
   ⟨Af,v4,rfl,sc,gt,gd,by omega,fun z=>by rw [hv z];simp⟩ (fun j σ Hd _ hP=>by obtain ⟨_,_,_,sd,_⟩:=hP;exact SqT.of (sd _ _ h4)) ?_ ?_⟩
  ·refine fun j x σ Hd hx hI_2=>opq fun G_2 hG_2=>?_;obtain ⟨Af,v4,rfl,sd,gtd,gd,lk,hv⟩:=hI_2;obtain ⟨y,ey,rfl⟩:=qBE hx;refine hG_2 ?_;have hj:=(A6.mp ey).1;refine ⟨_,rfl,_,rfl,t,_,rfl,.inr (SqT.of (sd _ _ hT)),rfl,qD4 path,_,rfl,?_⟩;rw [qFQ];by_cases c:y ∈ path
   ·rw [decide_eq_true c];refine iteF ?_;refine ⟨Af,_,rfl,sd,gtd,gd,by omega,fun z=>?_⟩
    rw [hv z,D4,ey,E3,C2,B2];refine and_congr_right fun nz=>⟨fun h=>h.imp id .inl,fun h=>h.imp id fun h=>h.resolve_right fun e=>nz (e ▸ c)⟩
   ·rw [decide_eq_false c];refine iteT ?_;refine ⟨_,rfl,_,rfl,d,_,rfl,DPut.k (k:=J1 y) gd (qAQ (by omega)),?_⟩
    refine ⟨_,_,rfl,qAB sd hd,by rw [qA9 nt1];exact gtd,qA1,M5 (qBR _ _ _) (by omega),fun z=>?_⟩
    rw [qH2,D4,ey,E3,C2,B2];by_cases e:z=y
    ·rw [e,if_pos rfl];exact ⟨fun _=>⟨c,.inr (.inr rfl)⟩,fun _=>rfl⟩
    ·rw [if_neg fun u=>e (o7 u),hv z];exact and_congr_right fun _=>or_congr_right ⟨.inl,fun h=>h.resolve_right e⟩
  ·refine fun σ Hd hI_3=>opq fun G_3 hG_3=>?_;obtain ⟨Af,v4,rfl,sd,gtd,gd,lk,hv⟩:=hI_3;refine hG_3 ?_;rw [A0] at lk hv;rw [F4] at hv;refine ⟨Af,_,_,rfl,sd,gtd,gd,by omega,fun z=>?_⟩
   rw [hv z,D4,ew,E3];refine and_congr_right fun _=>⟨?_,?_⟩
   ·rintro (⟨u,h1,h2⟩ | h)
    ·exact ⟨u,S0 _ h1,h2⟩
    ·exact ⟨wk,J8 _ B5,by rw [en];exact h⟩
   ·refine fun hI_4=>opq fun G_4 hG_4=>?_;obtain ⟨u,h1,h2⟩:=hI_4;refine hG_4 ?_;rcases C2.mp h1 with h | h
    ·exact .inl ⟨u,h,h2⟩
    ·rw [B2.mp h,en] at h2;exact .inr h2
 ·refine fun σ Hc hI_5=>opq fun G_5 hG_5=>?_;obtain ⟨Af,v3,v4,rfl,sc,gt,gd,lk,hv⟩:=hI_5;refine hG_5 ?_;rw [A0,F4] at hv;exact hN1 _ _ ⟨_,rfl,q d Af Hc sc hd gd fun z=>(hv z).trans end_iff.symm⟩
end
section
variable {P:Program} {w:World} {K:PySem.W.Frag} {mg:Str->Option Value} {base:Heap} {f:Addr} {fd:FuncData} {qCT:Addr} {qE1:FuncData} {tk_SOURCE tk_GOAL:Tok}
theorem sc_free_ways:FnScope ["net","path","ends","ways","work","needs","need"] ["net","path"] (qAE qET):=⟨rfl,rfl,rfl,by decide +kernel,rfl,by decide +kernel,by decide +kernel⟩
theorem ok_free_ways (F:Fun K "free_ways" "free_ways" qET f fd) (m_SOURCE:mg "SOURCE" = some (.int (-1) tk_SOURCE)) (m_GOAL:mg "GOAL" = some (.int (-2) tk_GOAL)) (qBU:Clb P w K mg base 1 qCT qE1 "side_ends" ["net","path"] qI0) (qBM:mg "enumerate" = none):FnOk P w K mg base CX0 2 f fd ["net","path"] qKK:=by
 refine F.ok sc_free_ways (fun vs H Q E h=>?_) (fun cdv A outer s H vs Q E hr h=>?_)
 ·obtain ⟨a,t,Ae,path,rfl,_⟩:=h
  rfl
 obtain ⟨a,t,Ae,path,rfl,PI,q⟩:=h;have hu:=qGD hr;refine ⟨_,(qA4 (qAG (i:=2) sc_free_ways.nd rfl (E8 rfl) (qB4 qBU hr rfl (qA0 (pv 0) (qA0 (pv 1) qA3)))) (qA4 (qAG (i:=3) sc_free_ways.nd rfl (E8 rfl) (qO9 (qHA (qCK (v:=.int (-1)) rfl m_SOURCE ⟨_,rfl⟩) (qAR qA3) (qHA (qCK (v:=.int (-2)) rfl m_GOAL ⟨_,rfl⟩) (qAR qA3) qO8)) rfl rfl (by simp) (by decide))) (qA4 (qCE F3 rfl (qVM rfl qBM qIP (qA0 (pv 0) qA3)) (qKO rfl (qBQ (qAD (i:=4) sc_free_ways.nd rfl (E8 rfl)) (qBQ (qAD (i:=5) sc_free_ways.nd rfl (E8 rfl)) qGK))) (qA4 (qBB (qAO qMY (pv 4) (pv 1) (by with_unfolding_all rfl)) (qA6 qO7) qAH) (qA4 (qFM hu (pv 3) (qAM qE0 qA5 (pv 4)) (qAR (qA0 (qAM qCG (qAM qE0 qA5 (pv 4)) qA5) qA3)) rfl) (qA4 (qFM hu (pv 3) (qAM qCG (qAM qE0 qA5 (pv 4)) qA5) (qJ0 (qJG (qT2 hu (pv 4) (pv 2))) (qAR (qA0 (qCK (v:=.int (-2)) rfl m_GOAL ⟨_,rfl⟩) qA3)) (qAR qA3)) rfl) (qA4 (qBB (qBZ (qDZ (pv 5) (fun _=>rfl))) (qA6 (qC0 (qGL E4 K0 L5 qBP (qCS hu (pv 3) (qCK (v:=.int (-1)) rfl m_SOURCE ⟨_,rfl⟩) (fun _ _=>rfl)) (qA0 (qAM qE0 qA5 (pv 4)) qA3)))) qAH) (qA6 (qCE F3 rfl (qD0 (pv 5)) (qAD (i:=6) sc_free_ways.nd rfl (E8 rfl)) (qA6 (qBB (qAO qD2 (pv 6) (pv 1) (by with_unfolding_all rfl)) (qA6 (qC0 (qGL E4 K0 L5 qBP (qCS hu (pv 3) (qAM qCG (qAM qE0 qA5 (pv 6)) qA5) (fun _ _=>rfl)) (qA0 (qAM qE0 qA5 (pv 4)) qA3)))) qAH))))))))) (qA6 (qAF (pv 3)))))),?_⟩
 try dsimp only [Cx.nox,Cx.wish,cxOf]
 obtain ⟨hN,wf,n400,hT,pne,lp,pin⟩:=id PI;obtain ⟨rs,hA,NL⟩:=id hN;have lrs:=C8 NL;refine cut fun N0 hN0=>?_;refine ⟨_,rfl,_,rfl,a,t,Ae,path,rfl,PI,fun de kve H1 s1 fde gde hve=>?_⟩;refine hN0 _ _ (cut fun N1 hN1=>?_);refine fun d hd=>?_;have sd:=qA2 hd (.dK []);refine ⟨(by show 0<=sizeLine;decide),fun l1 hl1=>⟨(by show 0<=sizeLine;decide),fun l2 hl2=>?_⟩⟩
 have sl1:=qA2 hl1 (.lst []);have sl2:=qA2 hl2 (.lst []);have gd3:=(sl1.trans sl2) _ _ (qA1 (H:=H1) (a:=d) (o:=.dK []));refine ⟨gd3,[(J1 (-1),.ref l1),(J1 (-2),.ref l2)],rfl,(by show 2<=15;decide),?_⟩
 have em:qFO [] [((J1 (-1):Key),V.ref l1),(J1 (-2),V.ref l2)]=[(J1 (-1),.ref l1),(J1 (-2),.ref l2)]:=by
  unfold qFO;simp [putK]
 rw [em];have g1:=sl2 _ _ (qA1 (H:=Ag H1 d (.dK [])) (a:=l1) (o:=.lst []));have g2:(Ag (Ag (Ag H1 d (.dK [])) l1 (.lst [])) l2 (.lst [])) l2=some (.lst []):=qA1;have s13:=sd.trans (sl1.trans sl2);have n12:l1 ≠ l2:=qA8 (qA1 (H:=Ag H1 d (.dK [])) (a:=l1) (o:=.lst [])) hl2;have fl1:H l1=none:=(s1.trans sd).free hl1;have fl2:H l2=none:=(s1.trans (sd.trans sl1)).free hl2;have fd0:H d=none:=s1.free hd;have n1d:l1 ≠ d:=qCL g1 gd3 (by intro z;cases z)
 have n2d:l2 ≠ d:=qCL g2 gd3 (by intro z;cases z)
 have gde3:=s13 _ _ gde;generalize Ag (Ag (Ag H1 d (.dK [])) l1 (.lst [])) l2 (.lst [])=H2 at gd3 g1 g2 s13 gde3 ⊢;have s02:=s1.trans s13;have ndd:de ≠ d:=fun z=>by rw [z,hd] at gde;cases gde
 have WA0:WaysAt H (Ag H2 d (.dK [(J1 (-1),.ref l1),(J1 (-2),.ref l2)])) d (2 * 0+2) (inK Ae path 0) (fwW Ae path 0) (fun k=>if k = -1 then l1 else l2):=by
  have only:∀ k,inK Ae path 0 k->k = -1\/k = -2:=fun k hk=>by
   rcases hk with h | h | ⟨v,f,h,_⟩
   ·exact .inl h
   ·exact .inr h
   ·have:=(free_in.mp f).1.1;omega
  refine ⟨⟨_,qA1,B3 _,fun k hk=>?_⟩,fun k hk=>?_,fun k k' hk hk' z=>?_,fun k hk=>?_,fd0,qAB s02 fd0⟩
  ·rcases only k hk with rfl | rfl <;> rfl
  ·rcases only k hk with rfl | rfl
   ·rw [if_pos rfl,qA9 n1d];exact g1
   ·rw [if_neg (by decide),qA9 n2d,fw_g];exact g2
  ·rcases only k hk with rfl | rfl <;> rcases only k' hk' with rfl | rfl
   ·rfl
   ·exact absurd z n12
   ·exact absurd z.symm n12
   ·rfl
  ·rcases only k hk with rfl | rfl
   ·exact fl1
   ·exact fl2
 have gde4:(Ag H2 d (.dK [(J1 (-1),.ref l1),(J1 (-2),.ref l2)])) de=some (.dK kve):=by rw [qA9 ndd];exact gde3
 generalize Ag H2 d (.dK [(J1 (-1),.ref l1),(J1 (-2),.ref l2)])=H3 at WA0 gde4 ⊢;refine hN1 _ _ (cut fun N2 hN2=>?_);refine ⟨_,rfl,a,rfl,⟨_,SqT.of (WA0.old _ _ hA)⟩,qU1 (a:=a) (xs:=rs.map V.ref) (fun i σ Hc=>∃ (ad:Int->Addr) (v4 v5 v6:Option V),σ=[some (.ref a),some (.ref t),some (.ref de),some (.ref d),v4,v5,v6]/\WaysAt H Hc d (2 * i+2) (inK Ae path i) (fwW Ae path i) ad/\Hc de=some (.dK kve)/\∀ k,inK Ae path i k->ad k ≠ de)
  ⟨_,none,none,none,rfl,WA0,gde4,?_⟩ (fun i σ Hc _ hP=>by obtain ⟨_,_,_,_,_,WA,_⟩:=hP;exact SqT.of (WA.old _ _ hA)) ?_ ?_⟩
 ·intro k hk z;have:=WA0.lst k hk;rw [z,gde4] at this;cases this
 ·refine fun i x σ Hc T hx hI_1 hT0=>opq fun G_1 hG_1=>?_;obtain ⟨ad,v4,v5,v6,rfl,WA,gd,nde⟩:=hI_1;obtain ⟨r,er,rfl⟩:=qGN hx;obtain ⟨zs,hz,hr0⟩:=qCF NL er;refine hG_1 ?_;have hi:=(A6.mp hz).1;have rz:=wf i _ hz;have en:nd Ae (i:Int)=zs:=by have:=qBL (Ae:=Ae) (w:=(i:Int)) (zs:=zs) (by rw [O6];exact hz);exact this
  have sT:=qA2 hT0 (.tup [.int (i:Int),.ref r]);have gT:SqT K (Ag Hc T (.tup [.int (i:Int),.ref r])) T [.int (i:Int),.ref r]:=SqT.of qA1;have WA1:=WA.same sT;have gd1:=sT _ _ gd;generalize Ag Hc T (.tup [.int (i:Int),.ref r])=H4 at sT gT WA1 gd1 ⊢;refine ⟨T,_,rfl,gT,rfl,_,_,rfl,_,_,rfl,rfl,?_⟩;refine cut fun N3 hN3=>?_;refine ⟨_,rfl,_,rfl,t,_,rfl,.inr (SqT.of (WA1.old _ _ hT)),rfl,qD4 path,_,rfl,?_⟩;rw [qFQ];by_cases c:(i:Int) ∈ path
  ·have nf:qB5 Ae path (i:Int)=false:=L9.mpr fun z=>(free_in.mp z).2 c;have dm:∀ k,inK Ae path (i+1) k->inK Ae path i k:=by
    rintro k (h | h | ⟨v,f,h,hk⟩)
    ·exact .inl h
    ·exact .inr (.inl h)
    ·refine .inr (.inr ⟨v,f,?_,hk⟩);rcases Int.lt_trichotomy v (i:Int) with z | z | z
     ·exact z
     ·rw [z,nf] at f;cases f
     ·omega
   rw [decide_eq_true c];refine iteT ?_;exact ⟨ad,_,_,_,rfl,(WA1.dom (by omega) dm).congr fun x _=>qaI nf x,gd1,fun k hk=>nde k (dm k hk)⟩
  ·rw [decide_eq_false c];refine iteF ?_;have fr:qB5 Ae path (i:Int)=true:=free_in.mpr ⟨⟨by omega,by omega⟩,c⟩
   refine hN3 _ _ (cut fun N4 hN4=>?_);have cm2:∀ j:Int,CMul 2 j:=fun j=>.inl ⟨by decide,by decide⟩
   -- the work's own two
   refine ⟨_,rfl,_,_,rfl,rfl,cm2 _,_,_,rfl,rfl,(by show 1<=sizeLine;decide),fun e1 he1=>?_⟩
   have se1:=qA2 he1 (.lst [.int (2 * (i:Int)+1)]);have ge1:(Ag H4 e1 (.lst [.int (2 * (i:Int)+1)])) e1=some (.lst (([2 * (i:Int)+1]:List Int).map V.int)):=qA1;have WA2:=WA1.same se1;have fe1:H e1=none:=WA1.old.free he1;have ne1:∀ x,inK Ae path i x->ad x ≠ e1:=fun x hx z=>by have:=WA1.lst x hx;rw [z,he1] at this;cases this
   have gd2:=se1 _ _ gd1;have nee:e1 ≠ de:=fun z=>by rw [z,gd1] at he1;cases he1
   generalize Ag H4 e1 (.lst [.int (2 * (i:Int)+1)])=H5 at se1 ge1 WA2 gd2 ⊢;obtain ⟨Af,gkv,lkv,hkv⟩:=WA2.dict;refine ⟨_,rfl,_,rfl,_,_,rfl,rfl,cm2 _,d,_,rfl,DPut.k (k:=J1 (2 * (i:Int))) gkv (qAQ (by omega)),?_⟩
   have out1:¬ inK Ae path i (2 * (i:Int)):=by
    rintro (h | h | ⟨v,f,h,hk | hk⟩) <;> omega
   have WA3:=WA2.add out1 fe1 ge1 ne1 gkv lkv hkv;have gd3':(Ag H5 d (.dK (putK Af (J1 (2 * (i:Int))) (.ref e1)))) de=some (.dK kve):=by rw [qA9 ndd];exact gd2
   generalize Ag H5 d (.dK (putK Af (J1 (2 * (i:Int))) (.ref e1)))=H6 at WA3 gd3' ⊢;clear hkv gkv lkv Af;refine hN4 _ _ (cut fun N5 hN5=>?_);refine ⟨_,rfl,_,rfl,de,_,rfl,DGet.k (k:=J1 (i:Int)) gd3',_,rfl,?_⟩;have nde3:∀ k,(inK Ae path i k\/k=2 * (i:Int))->(if k=2 * (i:Int) then e1 else ad k) ≠ de:=fun k hk z=>by
    by_cases e:k=2 * (i:Int)
    ·rw [if_pos e] at z;exact nee z
    ·rw [if_neg e] at z;exact nde k (hk.resolve_right e) z
   have two:∀ (zs2:List Int) (e2:Addr),zs2=(if qDU Ae path (i:Int) then [-2] else [])->H6 e2=none->∃ H7,DPut (Ag H6 e2 (.lst (zs2.map V.int))) d (.int (2 * (i:Int)+1)) (.ref e2) H7/\N5 [some (.ref a),some (.ref t),some (.ref de),some (.ref d),some (.int (i:Int)),some (.ref r),v6] H7:=by
    intro zs2 e2 ez he2;have se2:=qA2 he2 (.lst (zs2.map V.int));have ge2:(Ag H6 e2 (.lst (zs2.map V.int))) e2=some (.lst (zs2.map V.int)):=qA1;have WA4:=WA3.same se2;have fe2:H e2=none:=WA3.old.free he2;have ne2:∀ x,(inK Ae path i x\/x=2 * (i:Int))->(if x=2 * (i:Int) then e1 else ad x) ≠ e2:=fun x hx z=>by have:=WA3.lst x hx;rw [z,he2] at this;cases this
    have gd4:=se2 _ _ gd3';have nee2:e2 ≠ de:=fun z=>by rw [z,gd3'] at he2;cases he2
    generalize Ag H6 e2 (.lst (zs2.map V.int))=H7 at se2 ge2 WA4 gd4 ⊢;obtain ⟨Af,gkv,lkv,hkv⟩:=WA4.dict;refine ⟨_,DPut.k (k:=J1 (2 * (i:Int)+1)) gkv (qAQ (by omega)),?_⟩
    have out2:¬ (inK Ae path i (2 * (i:Int)+1)\/2 * (i:Int)+1=2 * (i:Int)):=by
     rintro ((h | h | ⟨v,f,h,hk | hk⟩) | h) <;> omega
    have WA5:=WA4.add out2 fe2 ge2 ne2 gkv lkv hkv;have gd5:(Ag H7 d (.dK (putK Af (J1 (2 * (i:Int)+1)) (.ref e2)))) de=some (.dK kve):=by rw [qA9 ndd];exact gd4
    generalize Ag H7 d (.dK (putK Af (J1 (2 * (i:Int)+1)) (.ref e2)))=H8 at WA5 gd5 ⊢;have dm:∀ k,inK Ae path (i+1) k->(inK Ae path i k\/k=2 * (i:Int))\/k=2 * (i:Int)+1:=by
     rintro k (h | h | ⟨v,f,h,hk⟩)
     ·exact .inl (.inl (.inl h))
     ·exact .inl (.inl (.inr (.inl h)))
     ·by_cases e:v=(i:Int)
      ·subst e;rcases hk with hk | hk
       ·exact .inl (.inr hk)
       ·exact .inr hk
      ·exact .inl (.inl (.inr (.inr ⟨v,f,by omega,hk⟩)))
    obtain ⟨ad3,ead⟩:∃ ad3:Int->Addr,ad3=fun x=>if x=2 * (i:Int)+1 then e2 else if x=2 * (i:Int) then e1 else ad x:=⟨_,rfl⟩
    have nde5:∀ k,inK Ae path (i+1) k->ad3 k ≠ de:=fun k hk z=>by
     rw [ead] at z;dsimp only at z;by_cases e:k=2 * (i:Int)+1
     ·rw [if_pos e] at z;exact nee2 z
     ·rw [if_neg e] at z;exact nde3 k ((dm k hk).resolve_right e) z
    have WA6:=WA5.dom (m':=2 * (i+1)+2) (by omega) dm
    rw [<- ead] at WA6;clear WA5 WA4 gkv lkv hkv Af ead ne2 fe2 ge2;refine hN5 _ _ (cut fun N6 hN6=>?_);have hrr:=WA6.old _ _ hr0
    -- the rest,with the ways from the beginning laid
    have needs:∀ (W3:Wy) (H9:Hp),WaysAt H H9 d (2 * (i+1)+2) (inK Ae path (i+1)) W3 ad3->(∀ k,inK Ae path (i+1) k->W3 k++(if (0<=k/\k % 2=1/\k / 2 ∈ zs) then [2 * (i:Int)] else [])=fwW Ae path (i+1) k)->(∀ k,inK Ae path (i+1) k->(W3 k).length<=900)->H9 de=some (.dK kve)->N6 [some (.ref a),some (.ref t),some (.ref de),some (.ref d),some (.int (i:Int)),some (.ref r),v6] H9:=by
     intro W3 H9 WB eqW lenW gd9;refine hN6 _ _ ?_;refine ⟨_,rfl,r,rfl,⟨_,SqT.of (WB.old _ _ hr0)⟩,qFR (a:=r) (xs:=zs.map V.int) (fun j σ Hd=>∃ (v6:Option V),σ=[some (.ref a),some (.ref t),some (.ref de),some (.ref d),some (.int (i:Int)),some (.ref r),v6]/\WaysAt H Hd d (2 * (i+1)+2) (inK Ae path (i+1)) (fun k=>W3 k++(if (0<=k/\k % 2=1/\k / 2 ∈ zs.take j) then [2 * (i:Int)] else [])) ad3/\Hd de=some (.dK kve))
      ⟨v6,rfl,WB.congr fun x _=>by rw [if_neg (by simp)];simp,gd9⟩ (fun j σ Hd _ hP=>by obtain ⟨_,_,WD,_⟩:=hP;exact SqT.of (WD.old _ _ hr0)) ?_ ?_⟩
     ·refine fun j x σ Hd hx hI_2=>opq fun G_2 hG_2=>?_;obtain ⟨v6,rfl,WD,gdd⟩:=hI_2;obtain ⟨y,ey,rfl⟩:=qBE hx;refine hG_2 ?_;have hj:=(A6.mp ey).1;have yb:=rz.in_ y (C5 ey);have ynew:y ∉ zs.take j:=fun z=>by
       obtain ⟨m,hm⟩:=M7 z;have hm2:=(A6.mp hm).1;rw [D7] at hm2;rw [Y1 (by omega)] at hm
       have up:=k8.mp rz.up m j (by omega) hj (by omega)
       have e1:=(A6.mp hm).2;have e2:=(A6.mp ey).2;omega
      refine ⟨_,rfl,_,rfl,t,_,rfl,.inr (SqT.of (WD.old _ _ hT)),rfl,qD4 path,_,rfl,?_⟩;rw [qFQ];by_cases cy:y ∈ path
      ·rw [decide_eq_true cy];refine iteF ?_;refine ⟨_,rfl,WD.congr fun k hk=>?_,gdd⟩;rw [D4,ey,E3];congr 1;by_cases e:0<=k/\k % 2=1/\k / 2=y
       ·exfalso
        rcases hk with h | h | ⟨v,f,_,h | h⟩
        ·omega
        ·omega
        ·omega
        ·exact (free_in.mp f).2 (by rw [show v=y by omega];exact cy)
       ·have:(0<=k/\k % 2=1/\k / 2 ∈ zs.take j++[y]) ↔ (0<=k/\k % 2=1/\k / 2 ∈ zs.take j):=by
         rw [C2,B2];exact ⟨fun ⟨a,b,c⟩=>⟨a,b,c.resolve_right fun z=>e ⟨a,b,z⟩⟩,fun ⟨a,b,c⟩=>⟨a,b,.inl c⟩⟩
        simp only [this]
      ·rw [decide_eq_false cy];refine iteT ?_;have fy:qB5 Ae path y=true:=free_in.mpr ⟨⟨yb.1,by omega⟩,cy⟩
       have hk:inK Ae path (i+1) (2 * y+1):=.inr (.inr ⟨y,fy,by omega,.inr rfl⟩)
       obtain ⟨Af,gkv,lkv,hkv⟩:=WD.dict;have gl:=WD.lst _ hk;rw [if_neg (by rw [show (2 * y+1) / 2=y by omega];exact fun z=>ynew z.2.2),R8] at gl
       have hgk:=DGet.k (k:=J1 (2 * y+1)) gkv;rw [hkv _ hk] at hgk;refine ⟨_,rfl,_,rfl,_,_,rfl,rfl,cm2 _,_,_,rfl,rfl,d,_,rfl,hgk,.inl ⟨rfl,_,SqL.of gl⟩,_,rfl,_,_,rfl,rfl,cm2 _,ad3 (2 * y+1),_,_,rfl,rfl,gl,qAQ (by rw [A0];have:=lenW _ hk;omega),?_⟩
       have:=WD.put hk (W3 (2 * y+1)++[2 * (i:Int)]);rw [B6] at this;refine ⟨_,rfl,this.congr fun k hk2=>?_,by rw [qA9 (nde5 _ hk).symm];exact gdd⟩
       rw [D4,ey,E3];by_cases e:k=2 * y+1
       ·subst e;rw [if_pos rfl,if_pos ⟨by omega,by omega,by rw [show (2 * y+1) / 2=y by omega];simp⟩]
       ·rw [if_neg e];congr 1;have:(0<=k/\k % 2=1/\k / 2 ∈ zs.take j++[y]) ↔ (0<=k/\k % 2=1/\k / 2 ∈ zs.take j):=by
         rw [C2,B2];exact ⟨fun ⟨a,b,c⟩=>⟨a,b,c.resolve_right fun z=>e (by omega)⟩,fun ⟨a,b,c⟩=>⟨a,b,.inl c⟩⟩
        simp only [this]
     ·refine fun σ Hd hI_3=>opq fun G_3 hG_3=>?_;obtain ⟨v6,rfl,WD,gdd⟩:=hI_3;refine hG_3 ?_;rw [A0,F4] at WD;exact ⟨ad3,_,_,_,rfl,WD.congr fun k hk=>(eqW k hk).symm,gdd,nde5⟩
    have W6e:∀ k,inK Ae path (i+1) k->((fun x=>if x=2 * (i:Int)+1 then zs2 else if x=2 * (i:Int) then [2 * (i:Int)+1] else fwW Ae path i x) k).length<=800:=fun k hk=>by
     dsimp only
     split
     ·rw [ez];split <;> simp
     ·split
      ·simp
      ·have:=qU0 (Ae:=Ae) (path:=path) i k;omega
    have k1:inK Ae path (i+1) (-1):=.inl rfl;refine ⟨_,rfl,_,.inr (.inl ⟨_,SqT.of hrr,rfl⟩),?_⟩;cases zs with
    | cons z0 zr=>
     refine iteF ?_;refine needs _ _ WA6 (fun k hk=>?_) (fun k hk=>M5 (W6e k hk) (by omega)) gd5
     refine qXA (W3:=fun x=>if x=2 * (i:Int)+1 then zs2 else if x=2 * (i:Int) then [2 * (i:Int)+1] else fwW Ae path i x) wf fr en ?_ ?_ ?_ (fun x h1 h2 h3=>?_) hk
     ·rw [if_neg (by omega),if_neg (by omega)];simp
     ·rw [if_neg (by omega),if_pos rfl]
     ·rw [if_pos rfl,ez]
     ·rw [if_neg h3,if_neg h2]
    | nil=>
     refine iteT ?_;obtain ⟨Af,gkv,lkv,hkv⟩:=WA6.dict;have gl:=WA6.lst _ k1;rw [if_neg (by omega),if_neg (by omega)] at gl
     have hgk:=DGet.k (k:=J1 (-1)) gkv;rw [hkv _ k1] at hgk;refine ⟨_,rfl,d,_,rfl,hgk,.inl ⟨rfl,_,SqL.of gl⟩,_,rfl,_,_,rfl,rfl,cm2 _,ad3 (-1),_,_,rfl,rfl,gl,qAQ (by rw [A0];have:=qU0 (Ae:=Ae) (path:=path) i (-1);omega),?_⟩
     have pu:=WA6.put k1 (fwW Ae path i (-1)++[2 * (i:Int)]);rw [B6] at pu;refine needs _ _ pu (fun k hk=>?_) (fun k hk=>?_) (by rw [qA9 (nde5 _ k1).symm];exact gd5)
     ·refine qXA (W3:=fun x=>if x = -1 then fwW Ae path i (-1)++[2 * (i:Int)] else if x=2 * (i:Int)+1 then zs2 else if x=2 * (i:Int) then [2 * (i:Int)+1] else fwW Ae path i x) wf fr en ?_ ?_ ?_ (fun x h1 h2 h3=>?_) hk
      ·rw [if_pos rfl];rfl
      ·rw [if_neg (by omega),if_neg (by omega),if_pos rfl]
      ·rw [if_neg (by omega),if_pos rfl,ez]
      ·rw [if_neg h1,if_neg h3,if_neg h2]
     ·split
      ·rw [B0];have:=qU0 (Ae:=Ae) (path:=path) i (-1);show _+1<=_;omega
      ·exact M5 (W6e k hk) (by omega)
   cases ie:(valV kve (J1 (i:Int))).isSome with
   | true=>
    have e0:qDU Ae path (i:Int)=true:=(hve _).mp ie;refine iteT ?_;refine ⟨(by show 1<=sizeLine;decide),fun e2 he2=>?_⟩
    obtain ⟨H7,dp,n5⟩:=two [-2] e2 (by rw [e0];rfl) he2
    exact ⟨_,rfl,_,rfl,_,_,rfl,rfl,cm2 _,_,_,rfl,rfl,d,H7,rfl,dp,n5⟩
   | false=>
    have e0:qDU Ae path (i:Int)=false:=L9.mpr fun z=>by rw [(hve _).mpr z] at ie;cases ie
    refine iteF ?_;refine ⟨(by show 0<=sizeLine;decide),fun e2 he2=>?_⟩
    obtain ⟨H7,dp,n5⟩:=two [] e2 (by rw [e0];rfl) he2
    exact ⟨_,rfl,_,rfl,_,_,rfl,rfl,cm2 _,_,_,rfl,rfl,d,H7,rfl,dp,n5⟩
 ·refine fun σ Hc hI_4=>opq fun G_4 hG_4=>?_;obtain ⟨ad,v4,v5,v6,rfl,WA,gd,nde⟩:=hI_4;refine hG_4 ?_;rw [A0,lrs] at WA;exact hN2 _ _ ⟨_,rfl,q d ad Hc (WA.dom (by omega) fun _ h=>h)⟩
end
section
variable {P:Program} {w:World} {K:PySem.W.Frag} {mg:Str->Option Value} {base:Heap} {f:Addr} {fd:FuncData} {tk_SOURCE tk_GOAL:Tok}
theorem sc_way_back:FnScope ["ways","came_from","due","stop","further","stops"] ["ways"] (qAE qFX):=⟨rfl,rfl,rfl,by decide +kernel,rfl,by decide +kernel,by decide +kernel⟩
theorem ok_way_back (F:Fun K "way_back" "way_back" qFX f fd) (m_SOURCE:mg "SOURCE" = some (.int (-1) tk_SOURCE)) (m_GOAL:mg "GOAL" = some (.int (-2) tk_GOAL)):FnOk P w K mg base CX0 1 f fd ["ways"] qMC:=by
 refine F.ok sc_way_back (fun vs H Q E h=>?_) (fun cdv A outer s H vs Q E hr h=>?_)
 ·obtain ⟨d,H0,Ae,path,W,ad,rfl,_⟩:=h
  rfl
 obtain ⟨d,H0,Ae,path,W,ad,rfl,n400,WA,FL,q⟩:=h;have hu:=qGD hr;refine ⟨_,(qA4 (qAG (i:=1) sc_way_back.nd rfl (E8 rfl) (qO9 (qHA (qCK (v:=.int (-1)) rfl m_SOURCE ⟨_,rfl⟩) qPV qO8) rfl rfl (by simp) (by decide))) (qA4 (qAG (i:=2) sc_way_back.nd rfl (E8 rfl) (qAR (qA0 (qCK (v:=.int (-1)) rfl m_SOURCE ⟨_,rfl⟩) qA3))) (qA4 (qG1 F3 (PW.pt (qWW (qDZ (pv 2) (fun _=>rfl)) (qSR (qJG (qHB hu (qCK (v:=.int (-2)) rfl m_GOAL ⟨_,rfl⟩) (pv 1)))))) (qA4 (qAG (i:=3) sc_way_back.nd rfl (E8 rfl) (qT1 E4 u9 w5 qTA (pv 2))) (qA6 (qCE F3 rfl (qCR (qCS hu (pv 0) (pv 3) (fun _ _=>rfl))) (qAD (i:=4) sc_way_back.nd rfl (E8 rfl)) (qA6 (qBB (qJG (qHB hu (pv 4) (pv 1))) (qA4 (qFM hu (pv 1) (pv 4) (pv 3) rfl) (qA6 (qC0 (qGL E4 K0 L5 qBP (pv 2) (qA0 (pv 4) qA3))))) qAH)))))) (qA4 (qBB (qJG (qHB hu (qCK (v:=.int (-2)) rfl m_GOAL ⟨_,rfl⟩) (pv 1))) (qA6 (qAF (qAR qA3))) qAH) (qA4 (qAG (i:=5) sc_way_back.nd rfl (E8 rfl) (qAR (qA0 (qCK (v:=.int (-2)) rfl m_GOAL ⟨_,rfl⟩) qA3))) (qA4 (qG1 F3 (qAO qLG (qB0 qC3 (pv 5) (qR3 qKJ qA5) (fun _ _=>rfl)) (qCK (v:=.int (-1)) rfl m_SOURCE ⟨_,rfl⟩) (qAU _)) (qA6 (qC0 (qGL E4 K0 L5 qBP (pv 5) (qA0 (qCS hu (pv 1) (qB0 qC3 (pv 5) (qR3 qKJ qA5) (fun _ _=>rfl)) (fun _ _=>rfl)) qA3))))) (qA6 (qAF (pv 5))))))))),?_⟩
 try dsimp only [Cx.nox,Cx.wish,cxOf]
 refine cut fun N0 hN0=>?_;refine fun cd hcd=>?_;refine ⟨qA1,[(J1 (-1),.non)],rfl,(by show 1<=15;decide),?_⟩
 have em:qFO [] [((J1 (-1):Key),V.non)]=cmK []:=by
  unfold qFO;simp [putK]
  rfl
 rw [em,qHY];have s1:=qA2 hcd (.dK (cmK []));have g1:(Ag H cd (.dK (cmK []))) cd=some (.dK (cmK [])):=qA1;generalize Ag H cd (.dK (cmK []))=H1 at s1 g1 ⊢;refine hN0 _ _ (cut fun N1 hN1=>?_);refine ⟨(by show 1<=sizeLine;decide),fun ld hld=>?_⟩
 have s2:=qA2 hld (.lst [.int (-1)]);have g2:(Ag H1 ld (.lst [.int (-1)])) ld=some (.lst (([-1]:List Int).map V.int)):=qA1;have gc2:=s2 _ _ g1;have fld:H ld=none:=s1.free hld;have ncl:cd ≠ ld:=qCL gc2 g2 (by intro z;cases z)
 have s02:=s1.trans s2;generalize Ag H1 ld (.lst [.int (-1)])=H2 at s2 g2 gc2 s02 ⊢;refine hN1 _ _ (cut fun N2 hN2=>?_);obtain ⟨I,eI⟩:∃ I:Nat->St->Hp->Prop,I=fun m σ Hc=>∃ (cm:Cm) (due:List Int) (v3 v4:Option V),σ=[some (.ref d),some (.ref cd),some (.ref ld),v3,v4,none]/\Same H Hc/\Hc cd=some (.dK (cmK cm))/\Hc ld=some (.lst (due.map V.int))/\SkI Ae path W (cm,due)/\m=2 * (2 * Ae.length+2 - cm.length)+due.length/\due.length<=cm.length+1:=⟨_,rfl⟩;refine ⟨I,⟨_,by rw [eI];exact ⟨[],[-1],none,none,rfl,s02,gc2,g2,⟨⟨qaG,fun x hx=>by rw [B2.mp hx];rfl⟩,fun t h=>h,fun q hq=>nomatch hq⟩,rfl,B3 _⟩⟩,?_⟩
 intro m σ Hc hI;rw [eI] at hI;obtain ⟨cm,due,v3,v4,rfl,sc,gc,gl,SK,rfl,dul⟩:=hI;have few:cm.length<=2 * Ae.length+2:=SK.few
 -- behind the search
 have behind:dfsC (cm,due)=false->N2 [some (.ref d),some (.ref cd),some (.ref ld),v3,v4,none] Hc:=by
  intro ce;refine hN2 _ _ (cut fun N3 hN3=>?_);have DF:=SK.go _ (.stop ce);refine ⟨_,rfl,cd,_,rfl,DGet.k (k:=J1 (-2)) gc,_,rfl,?_⟩;rw [qOV];cases vg:vis cm (-2) with
  | false=>
   refine iteT ?_;refine ⟨(by show 0<=sizeLine;decide),fun lr hlr=>?_⟩
   exact q lr [] _ (sc.trans (qA2 hlr _)) (sc.free hlr) qA1 ⟨cm,due,DF,.inl ⟨vg,rfl⟩⟩ (.inl rfl)
  | true=>
   refine iteF ?_;refine hN3 _ _ (cut fun N4 hN4=>?_);refine ⟨(by show 1<=sizeLine;decide),fun lr hlr=>?_⟩
   have s3:=qA2 hlr (.lst [.int (-2)]);have g3:(Ag Hc lr (.lst [.int (-2)])) lr=some (.lst (([]++[-2]:List Int).map V.int)):=qA1;have gc3:=s3 _ _ gc;have flr:H lr=none:=sc.free hlr;have nlc:cd ≠ lr:=qCL gc3 g3 (by intro z;cases z)
   have sc3:=sc.trans s3;generalize Ag Hc lr (.lst [.int (-2)])=H3 at s3 g3 gc3 sc3 ⊢;refine hN4 _ _ (cut fun N5 hN5=>?_);obtain ⟨i0,p0,e0⟩:∃ (i:Nat) (p:Int),cm[i]?=some (-2,p):=(vis_iff.mp vg).resolve_left (by decide)
   obtain ⟨r0,b1,b2,b3,b4,b5,_⟩:=SK.sk.gd.back i0 (-2) p0 e0;have hi0:=(A6.mp e0).1;refine ⟨fun m σ Hd=>∃ (pre:List Int) (x:Int),σ=[some (.ref d),some (.ref cd),some (.ref ld),v3,v4,some (.ref lr)]/\Same H Hd/\Hd cd=some (.dK (cmK cm))/\Hd lr=some (.lst ((pre++[x]).map V.int))/\(∀ r,Back cm x r->Back cm (-2) (pre++r))/\((x = -1/\m=0)\/∃ (i:Nat) (p:Int),cm[i]?=some (x,p)/\m=i+1)/\pre.length+m<=cm.length,⟨_,[],-2,rfl,sc3,gc3,g3,fun r h=>h,.inr ⟨i0,p0,e0,rfl⟩,by simp;omega⟩,?_⟩
   refine fun m σ Hd hI_1=>opq fun G_1 hG_1=>?_;obtain ⟨pre,x,rfl,sd,gcd,gld,bk,hm,lm⟩:=hI_1;refine hG_1 ?_;refine ⟨_,rfl,_,rfl,lr,_,_,_,rfl,rfl,SqL.of gld,(by rw [B6];exact qM1 _ _),rfl,_,rfl,?_⟩
   rcases hm with ⟨rfl,rfl⟩ | ⟨i,p,ei,rfl⟩
   ·refine iteF ?_;have bf:=bk _ .src;have er:=bf.one b1;refine hN5 _ _ ⟨_,rfl,q lr (pre++[-1]) Hd sd flr gld ⟨cm,due,DF,.inr ⟨vg,bf⟩⟩ (.inr ?_)⟩;rw [er];exact ⟨b2,b3,b4,b5⟩
   ·obtain ⟨_,nx,r3⟩:=SK.sk.gd.at_ i x p ei;have hlk:look cm x=some p:=qTG SK.sk.gd.nd ei;rw [decide_eq_false (show ¬ V.int x=V.int (-1) from fun z=>nx (V.int.inj z))];refine iteT ?_;obtain ⟨m',hm',lt⟩:∃ m':Nat,((p = -1/\m'=0)\/∃ (j:Nat) (q:Int),cm[j]?=some (p,q)/\m'=j+1)/\m'<=i:=by
     rcases r3 with rfl | ⟨j,q,hj,ej⟩
     ·exact ⟨0,.inl ⟨rfl,rfl⟩,F5 _⟩
     ·exact ⟨j+1,.inr ⟨j,q,ej,rfl⟩,hj⟩
    refine ⟨_,fun σ' H' h=>⟨m',by omega,h⟩,?_⟩
    have hg:=DGet.k (k:=J1 x) gcd;rw [qUJ,if_neg nx,hlk] at hg;refine ⟨_,rfl,.inl ⟨rfl,_,SqL.of gld⟩,_,rfl,_,rfl,_,rfl,lr,_,_,_,rfl,rfl,SqL.of gld,(by rw [B6];exact qM1 _ _),cd,_,rfl,hg,lr,_,_,rfl,rfl,gld,qAQ (by rw [A0,B0,C1];omega),?_⟩
    refine ⟨pre++[x],p,rfl,qAB sd flr,by rw [qA9 nlc];exact gcd,by rw [qA1,B6 (l₁:=pre++[x])];rfl,fun r h=>?_,hm',by rw [B0,C1];omega⟩
    rw [P6];exact bk _ (.step nx hlk h)
 refine ⟨_,rfl,_,.inl ⟨_,SqL.of gl,rfl⟩,?_⟩;rcases i5 due with rfl | ⟨pre,x,rfl⟩
 ·refine iteF ?_;refine iteF ?_;exact behind rfl
 rw [i6] at gl SK behind dul ⊢;rw [B0,C1] at dul;have tru:(!((pre++[x]).map V.int).isEmpty)=true:=by simp
 rw [tru];refine iteT ?_;refine ⟨_,rfl,cd,_,rfl,DGet.k (k:=J1 (-2)) gc,_,rfl,?_⟩;rw [qOV];cases vg:vis cm (-2) with
 | true=>
  refine iteF ?_;exact behind (by unfold dfsC;rw [vg];simp)
 | false=>
  refine iteT ?_;refine ⟨fun σ' H'=>∃ m',m'<2 * (2 * Ae.length+2 - cm.length)+(pre++[x]).length/\I m' σ' H',fun _ _ h=>h,?_⟩;refine cut fun M1 hM1=>?_;have lastx:((pre++[x]).map V.int)[((pre++[x]).map V.int).length - 1]?=some (.int x):=by
   rw [A0,C4,B0,C1,A14,L6 (B3 _),a9]
   rfl
  have hx:vis cm x=true:=SK.sk.due x (by simp)
  have kx:=SK.inK hx;refine ⟨_,rfl,.inl ⟨rfl,_,SqL.of gl⟩,ld,_,_,rfl,rfl,gl,lastx,?_⟩;have dl:((pre++[x]).map V.int).dropLast=pre.map V.int:=by rw [B6];exact List.dropLast_concat
  rw [dl];have sc4:=qAB (o:=.lst (pre.map V.int)) sc fld;have gl4:(Ag Hc ld (.lst (pre.map V.int))) ld=some (.lst (pre.map V.int)):=qA1;have gc4:(Ag Hc ld (.lst (pre.map V.int))) cd=some (.dK (cmK cm)):=by rw [qA9 ncl];exact gc
  generalize Ag Hc ld (.lst (pre.map V.int))=H4 at sc4 gl4 gc4 ⊢;refine hM1 _ _ ?_;have SF0:SkF Ae path W x (cm,pre):=⟨⟨SK.sk.gd,fun y hy=>SK.sk.due y (S0 _ hy)⟩,SK.dom,hx⟩;have WA4:=WA.same sc4;obtain ⟨Af,gkv,lkv,hkv⟩:=WA4.dict;have hgk:=DGet.k (k:=J1 x) gkv;rw [hkv _ kx] at hgk;have fewF:∀ {s:Cm × List Int},SkF Ae path W x s->s.1.length<=2 * Ae.length+2:=fun {s} h=>by
   have:=qHD (Ae:=Ae) (path:=path) h.sk.gd.nd fun y hy=>by
    obtain ⟨q,hq,rfl⟩:=E1.mp hy;exact h.dom q hq
   rw [A0] at this;exact this
  refine ⟨_,rfl,_,rfl,d,_,rfl,hgk,ad x,rfl,⟨_,SqL.of (WA4.lst _ kx)⟩,qHM (a:=ad x) (xs:=(W x).map V.int) (fun j σ Hd=>∃ (v4:Option V) (s:Cm × List Int),σ=[some (.ref d),some (.ref cd),some (.ref ld),some (.int x),v4,none]/\Same H Hd/\s=dfsF x ((W x).take j) (cm,pre)/\Hd cd=some (.dK (cmK s.1))/\Hd ld=some (.lst (s.2.map V.int))/\SkF Ae path W x s/\s.2.length+cm.length=pre.length+s.1.length/\cm.length<=s.1.length)
   ⟨v4,_,rfl,sc4,rfl,gc4,gl4,SF0,rfl,B3 _⟩ (fun j σ Hd _ hP=>by obtain ⟨_,_,_,sd,_⟩:=hP;exact SqL.of ((WA.same sd).lst _ kx)) ?_ ?_⟩
  ·refine fun j y σ Hd hy hI_2=>opq fun G_2 hG_2=>?_;obtain ⟨v4,s,rfl,sd,es,gcd,gld,SF,ln,mo⟩:=hI_2;obtain ⟨f1,ef,rfl⟩:=qBE hy;refine hG_2 ?_;have hf:=C5 ef;have es1:dfsO x f1 s=dfsF x ((W x).take (j+1)) (cm,pre):=by rw [D4,ef,E3,qNH,es]
   obtain ⟨SF1,ln1⟩:=SF.one FL hf;have b1:=fewF SF;refine ⟨_,rfl,_,rfl,cd,_,rfl,DGet.k (k:=J1 f1) gcd,_,rfl,?_⟩;rw [qOV];cases vf:vis s.1 f1 with
   | true=>
    refine iteF ?_;have e0:dfsO x f1 s=s:=by unfold dfsO;rw [if_pos vf]
    rw [e0] at es1;exact ⟨_,s,rfl,sd,es1,gcd,gld,SF,ln,mo⟩
   | false=>
    refine iteT ?_;have e0:dfsO x f1 s=(s.1++[(f1,x)],s.2++[f1]):=by unfold dfsO;rw [if_neg (by rw [vf];simp)]
    rw [e0] at es1 SF1 ln1;refine cut fun M2 hM2=>?_;refine ⟨_,rfl,_,rfl,_,rfl,cd,_,rfl,DPut.k (k:=J1 f1) gcd (qAQ (by unfold cmK;rw [D9,A0];omega)),?_⟩
    rw [qYV vf];have sd5:=qAB (o:=.dK (cmK (s.1++[(f1,x)]))) sd hcd;have gc5:(Ag Hd cd (.dK (cmK (s.1++[(f1,x)])))) cd=some (.dK (cmK (s.1++[(f1,x)]))):=qA1;have gl5:(Ag Hd cd (.dK (cmK (s.1++[(f1,x)])))) ld=some (.lst (s.2.map V.int)):=by rw [qA9 ncl.symm];exact gld
    generalize Ag Hd cd (.dK (cmK (s.1++[(f1,x)])))=H5 at sd5 gc5 gl5 ⊢;refine hM2 _ _ ?_;refine ⟨_,rfl,.inl ⟨rfl,_,SqL.of gl5⟩,_,rfl,ld,_,_,rfl,rfl,gl5,qAQ (by rw [A0];omega),?_⟩
    refine ⟨_,_,rfl,qAB sd5 fld,es1,by rw [qA9 ncl];exact gc5,by rw [qA1,B6];rfl,SF1,by omega,by rw [B0];omega⟩
  ·refine fun σ Hd hI_3=>opq fun G_3 hG_3=>?_;obtain ⟨v4,s,rfl,sd,es,gcd,gld,SF,ln,mo⟩:=hI_3;refine hG_3 ?_;rw [A0,F4] at es;have b1:=fewF SF;rw [eI];refine ⟨2 * (2 * Ae.length+2 - s.1.length)+s.2.length,?_,s.1,s.2,_,_,rfl,sd,gcd,gld,⟨SF.sk,fun t h=>SK.go t (.go vg (by rw [<- es];exact h)),SF.dom⟩,rfl,by omega⟩
   rw [B0,C1];omega
end
section
variable {P:Program} {w:World} {K:PySem.W.Frag} {mg:Str->Option Value} {base:Heap} {f:Addr} {fd:FuncData} {tk_SOURCE:Tok}
theorem sc_turn_round:FnScope ["ways","stops","further","stop"] ["ways","stops"] (qAE qDV):=⟨rfl,rfl,rfl,by decide +kernel,rfl,by decide +kernel,by decide +kernel⟩
theorem ok_turn_round (F:Fun K "turn_round" "turn_round" qDV f fd) (qIQ:mg "zip" = none):FnOk P w K mg base CX0 1 f fd ["ways","stops"] qWR:=by
 refine F.ok sc_turn_round (fun vs H Q E h=>?_) (fun cdv A outer s H vs Q E hr h=>?_)
 ·obtain ⟨d,l,H0,Ae,path,W,ad,st,rfl,_⟩:=h
  rfl
 obtain ⟨d,l,H0,Ae,path,W,ad,st,rfl,n400,WA,FL,hl,nl,PT,ND,hh,q⟩:=h;have hu:=qGD hr;have hu0:=hr.units0;refine ⟨_,(qA6 (qCE F3 rfl (qSW rfl qIQ qUS (qA0 (pv 1) (qA0 (qB2 qCI (pv 1) (qBD qA5) qBK) qA3))) (qKO rfl (qBQ (qAD (i:=2) sc_turn_round.nd rfl (E8 rfl)) (qBQ (qAD (i:=3) sc_turn_round.nd rfl (E8 rfl)) qGK))) (qA4 (qC0 (qGL E4 PySem.F.slot_list_remove PySem.F.type_list_remove qT9 (qCS hu (pv 0) (pv 3) (fun _ _=>rfl)) (qA0 (pv 2) qA3))) (qA6 (qC0 (qGL E4 K0 L5 qBP (qCS hu (pv 0) (pv 2) (fun _ _=>rfl)) (qA0 (pv 3) qA3))))))),?_⟩
 try dsimp only [Cx.nox,Cx.wish,cxOf]
 have lst1:1<=st.length:=by cases st with | nil=>cases hh | cons _ _=>simp
 -- the ways behind some of it
 have flp:∀ j,j<st.length->Fl0 (W0 Ae path) (qCQ (st.take (j+1)) W):=fun j hj=>by
  have hd1:(st.take (j+1)).head?=some (-2):=by cases st with | nil=>cases hh | cons a r=>exact hh
  exact (qL5 (st.take (j+1)) W FL (qPT _ _ PT) (ND.sublist (i8 _ _)) _ st[j] hd1 (by rw [D4,A5 hj,E3,A81];rfl)).1
 have few:∀ {V:Wy},Fl0 (W0 Ae path) V->∀ x,(V x).length<=802:=fun {V} F x=>by
  have:=qHD (F.nd x) fun y hy=>F.dom hy;omega
 refine ⟨_,rfl,_,rfl,_,rfl,l,_,rfl,SqL.of hl,fun l2 hl2=>?_⟩;rw [qCZ,show (1:Int)=((1:Nat):Int) from rfl,qEL _ _ lst1];have s1:=qA2 hl2 (.lst ((st.drop 1).map V.int));have g2:(Ag H l2 (.lst ((st.drop 1).map V.int))) l2=some (.lst ((st.drop 1).map V.int)):=qA1;have WA1:=WA.same s1;have nl2:∀ k,inK Ae path Ae.length k->ad k ≠ l2:=fun k hk z=>by have:=WA.lst k hk;rw [z,hl2] at this;cases this
 have gl1:=s1 _ _ hl;generalize Ag H l2 (.lst ((st.drop 1).map V.int))=H1 at s1 g2 WA1 gl1 ⊢;refine ⟨false,l,l2,rfl,⟨_,SqL.of gl1⟩,⟨_,SqL.of g2⟩,qQ7 (b:=false) (l:=l) (m:=l2) (xs:=st.map V.int) (ys:=(st.drop 1).map V.int) (by rw [A0,A0,F2];omega) (fun j σ Hc=>∃ (v2 v3:Option V),σ=[some (.ref d),some (.ref l),v2,v3]/\WaysAt H0 Hc d 2002 (inK Ae path Ae.length) (qCQ (st.take (j+1)) W) ad/\Hc l=some (.lst (st.map V.int))/\Hc l2=some (.lst ((st.drop 1).map V.int)))
  ⟨none,none,rfl,?_,gl1,g2⟩ (fun j σ Hc _ ⟨_,_,_,_,a,b⟩=>⟨SqL.of a,SqL.of b⟩) ?_ ?_⟩
 ·cases st with
  | nil=>cases hh
  | cons a r=>exact WA1
 ·refine fun j x y σ Hc T hx hy hI_1 hT=>opq fun G_1 hG_1=>?_;obtain ⟨v2,v3,rfl,WC,glc,g2c⟩:=hI_1;obtain ⟨f1,ef,rfl⟩:=qBE hx;obtain ⟨s1',es,rfl⟩:=qBE hy;refine hG_1 ?_;rw [A16,m6] at es;have hj:=(A6.mp es).1;have sT:=qA2 hT (.tup [.int f1,.int s1']);have gT:SqT K (Ag Hc T (.tup [.int f1,.int s1'])) T [.int f1,.int s1']:=SqT.of qA1;have WD:=WC.same sT;have gld:=sT _ _ glc;have g2d:=sT _ _ g2c;generalize Ag Hc T (.tup [.int f1,.int s1'])=H2 at sT gT WD gld g2d ⊢;refine ⟨T,_,rfl,gT,rfl,_,_,rfl,_,_,rfl,rfl,?_⟩;refine nmT fun D1 d1 _=>?_;have FJ:=flp j (by omega)
  have inW:=qWZ PT ef es
  -- the next stop isn't touched yet
  have nin:s1' ∉ st.take (j+1):=fun z=>by
   obtain ⟨m,hm⟩:=M7 z;have hm2:=(A6.mp hm).1;rw [D7] at hm2;rw [Y1 (by omega)] at hm
   have:=(A30 (A6.mp hm).1 ND).mp (hm.trans es.symm);omega
  have eWs:qCQ (st.take (j+1)) W s1'=W s1':=qPF _ _ nin;have inJ:f1 ∈ qCQ (st.take (j+1)) W s1':=by rw [eWs];exact inW
  have nfs:f1 ≠ s1':=fun z=>by
   have:=(A30 (A6.mp ef).1 ND).mp ((ef.trans (congrArg some z)).trans es.symm);omega
  have kf:=FL.dom inW;have ks:inK Ae path Ae.length s1':=by
   rcases FL.on _ _ inW with z | z
   ·exact (qPC z).1
   ·exact (qPC z).2
  obtain ⟨k1,h1,h2,h3⟩:=qQC inJ;obtain ⟨Af,gkv,lkv,hkv⟩:=WD.dict;have hgs:=DGet.k (k:=J1 s1') gkv;rw [hkv _ ks] at hgs;have gls:=WD.lst _ ks;refine cut fun M1 hM1=>?_;refine ⟨_,rfl,_,rfl,d,_,rfl,hgs,.inl ⟨rfl,_,SqL.of gls⟩,_,rfl,ad s1',_,f1,k1,rfl,rfl,gls,h1,h2,?_⟩;rw [h3];have WE:=WD.put ks ((qCQ (st.take (j+1)) W s1').erase f1);have glE:(Ag H2 (ad s1') (.lst (((qCQ (st.take (j+1)) W s1').erase f1).map V.int))) l=some (.lst (st.map V.int)):=by rw [qA9 (nl _ ks).symm];exact gld
  have g2E:(Ag H2 (ad s1') (.lst (((qCQ (st.take (j+1)) W s1').erase f1).map V.int))) l2=some (.lst ((st.drop 1).map V.int)):=by rw [qA9 (nl2 _ ks).symm];exact g2d
  generalize Ag H2 (ad s1') (.lst (((qCQ (st.take (j+1)) W s1').erase f1).map V.int))=H3 at WE glE g2E ⊢;refine hM1 _ _ ?_;obtain ⟨kvs2,gkv2,lkv2,hkv2⟩:=WE.dict;have hgf:=DGet.k (k:=J1 f1) gkv2;rw [hkv2 _ kf] at hgf;have glf:=WE.lst _ kf;rw [if_neg nfs] at glf;refine ⟨_,rfl,_,rfl,d,_,rfl,hgf,.inl ⟨rfl,_,SqL.of glf⟩,_,rfl,ad f1,_,_,rfl,rfl,glf,qAQ (by rw [A0];have:=few FJ f1;omega),?_⟩
  have WF:=WE.put kf (qCQ (st.take (j+1)) W f1++[s1']);rw [B6] at WF;refine d1 _ _ ⟨_,_,rfl,WF.congr fun x _=>?_,by rw [qA9 (nl _ kf).symm];exact glE,by rw [qA9 (nl2 _ kf).symm];exact g2E⟩
  rw [qS5 ef es];unfold upW;by_cases c1:x=s1'
  ·subst c1;rw [if_pos rfl,if_neg fun z=>nfs z.symm,if_pos rfl]
  ·by_cases c2:x=f1
   ·rw [if_neg c1,if_pos c2,if_pos c2]
   ·rw [if_neg c1,if_neg c2,if_neg c2,if_neg c1]
 ·refine fun σ Hc hI_2=>opq fun G_2 hG_2=>?_;obtain ⟨v2,v3,rfl,WC,glc,g2c⟩:=hI_2;refine hG_2 ?_;rw [A0,F2,show st.length - 1+1=st.length by omega,F4] at WC
  exact q Hc WC
theorem sc_side_to:FnScope ["ways","work","side","stop"] ["ways","work"] (qAE qH4):=⟨rfl,rfl,rfl,by decide +kernel,rfl,by decide +kernel,by decide +kernel⟩
theorem ok_side_to (F:Fun K "side_to" "side_to" qH4 f fd) (m_SOURCE:mg "SOURCE" = some (.int (-1) tk_SOURCE)):FnOk P w K mg base CX0 1 f fd ["ways","work"] qPJ:=by
 refine F.ok sc_side_to (fun vs H Q E h=>?_) (fun cdv A outer s H vs Q E hr h=>?_)
 ·obtain ⟨d,H0,Ae,path,W,ad,w,s,rfl,_⟩:=h
  rfl
 obtain ⟨d,H0,Ae,path,W,ad,wk,sd,rfl,n400,WA,FL,wf,fw,fl,SD,q⟩:=h;have hu:=qGD hr;refine ⟨_,(qA4 (qAG (i:=2) sc_side_to.nd rfl (E8 rfl) (qBF (qA0 (pv 1) qA3))) (qA4 (qAG (i:=3) sc_side_to.nd rfl (E8 rfl) (qB0 qC3 (qCS hu (pv 0) (qAM qE0 qA5 (pv 1)) (fun _ _=>rfl)) qA5 (fun _ _=>rfl))) (qA4 (qG1 F3 (qAO qLG (pv 3) (qCK (v:=.int (-1)) rfl m_SOURCE ⟨_,rfl⟩) (qAU _)) (qA4 (qAG (i:=2) sc_side_to.nd rfl (E8 rfl) (qAM qOB (qBF (qA0 (qAM qJK (pv 3) qA5) qA3)) (pv 2))) (qA6 (qAG (i:=3) sc_side_to.nd rfl (E8 rfl) (qB0 qC3 (qCS hu (pv 0) (qAM qE0 qA5 (qB0 qB3 (pv 2) qA5 (fun _ _=>rfl))) (fun _ _=>rfl)) qA5 (fun _ _=>rfl)))))) (qA6 (qAF (pv 2)))))),?_⟩
 try dsimp only [Cx.nox,Cx.wish,cxOf]
 have cm2:∀ j:Int,CMul 2 j:=fun j=>.inl ⟨by decide,by decide⟩
 have k2:∀ {u:Int},qB5 Ae path u=true->inK Ae path Ae.length (2 * u):=fun {u} h=>.inr (.inr ⟨u,h,(free_in.mp h).1.2,.inl rfl⟩);have cdv2:∀ j:Int,CDiv (2 * j+1) 2:=fun j=>by unfold CDiv;decide
 -- what stands first at a work's way in
 have rd:∀ {Hz:Hp} {u p:Int},Same H Hz->qB5 Ae path u=true->W (2 * u)=[p]->DGet Hz d (.int (2 * u)) (some (.ref (ad (2 * u))))/\Hz (ad (2 * u))=some (.lst [.int p]):=fun {Hz u p} sz h e=>by
  have WZ:=WA.same sz;obtain ⟨Af,gkv,_,hkv⟩:=WZ.dict;have hg:=DGet.k (k:=J1 (2 * u)) gkv;rw [hkv _ (k2 h)] at hg;have gl:=WZ.lst _ (k2 h);rw [e] at gl;exact ⟨hg,gl⟩
 refine cut fun N0 hN0=>?_;refine ⟨_,rfl,(by show 1<=sizeLine;decide),fun t1 ht1=>?_⟩
 have s1:=qA2 ht1 (.tup [.int wk]);have g1:(Ag H t1 (.tup [.int wk])) t1=some (.tup (([wk]:List Int).map V.int)):=qA1;generalize Ag H t1 (.tup [.int wk])=H1 at s1 g1 ⊢;refine hN0 _ _ (cut fun N1 hN1=>?_);obtain ⟨p0,ep0⟩:=FL.in1 fw;obtain ⟨hg0,gl0⟩:=rd s1 fw ep0;refine ⟨_,rfl,_,rfl,_,_,rfl,rfl,cm2 _,d,_,rfl,hg0,?_⟩;refine ⟨ad (2 * wk),_,_,_,rfl,rfl,SqL.of gl0,rfl,?_⟩;refine hN1 _ _ (cut fun N2 hN2=>?_);refine ⟨fun m σ Hc=>∃ (T:Addr) (u p:Int) (r s1:List Int),σ=[some (.ref d),some (.int wk),some (.ref T),some (.int p)]/\m=u.toNat/\Same H Hc/\Hc T=some (.tup ((u::r).map V.int))/\qB5 Ae path u=true/\Flw W u/\W (2 * u)=[p]/\Sd W u s1/\sd=s1++r/\r.length+u.toNat<=400,⟨_,t1,wk,p0,[],sd,rfl,rfl,s1,g1,fw,fl,ep0,SD,by simp,?_⟩,?_⟩
 ·have:=(free_in.mp fw).1;simp;omega
 refine fun m σ Hc hI_1=>opq fun G_1 hG_1=>?_;obtain ⟨T,u,p,r,s1',rfl,rfl,sc,gT,fu,flu,ep,SU,es,lr⟩:=hI_1;refine hG_1 ?_;refine ⟨_,rfl,rfl,_,rfl,?_⟩;have b:=(free_in.mp fu).1;cases SU with
 | top e=>
  rw [ep] at e;have e1:=(X6 e).1;subst e1;refine iteF ?_;refine hN2 _ _ ⟨_,rfl,q T Hc sc ?_⟩;rw [gT,es]
  rfl
 | @step _ n s2' n0 e SN=>
  rw [ep] at e;have e1:=(X6 e).1;subst e1;obtain ⟨p',e2,e3,⟨rfl,_⟩ | ⟨n',rfl,g,hn⟩⟩:=FL.pred fu flu
  ·rw [ep] at e2;have:=(X6 e2).1;exfalso;omega
  have en:n=n':=by rw [ep] at e2;have:=(X6 e2).1;omega
  subst en;obtain ⟨fn,_⟩:=FL.out g (y:=2 * u) ((w0_o n0).mpr ⟨g,.inr ⟨u,rfl,fu,hn⟩⟩) e3;have bn:=qD3 wf b.1 hn;rw [decide_eq_false (show ¬ V.int (2 * n+1)=V.int (-1) from fun z=>by have:=V.int.inj z;omega)]
  refine iteT ?_;refine ⟨_,fun σ' H' h=>⟨n.toNat,by omega,h⟩,?_⟩
  refine cut fun M1 hM1=>?_;refine ⟨_,rfl,_,_,rfl,rfl,cdv2 n,?_⟩;dsimp only;rw [show (2 * n+1) / 2=n by omega]
  refine ⟨(by show 1<=sizeLine;decide),fun t2 ht2=>?_⟩
  have s2:=qA2 ht2 (.tup [.int n]);have g2:(Ag Hc t2 (.tup [.int n])) t2=some (.tup [.int n]):=qA1;have gT2:=s2 _ _ gT;have sc2:=sc.trans s2;generalize Ag Hc t2 (.tup [.int n])=H2 at s2 g2 gT2 sc2 ⊢;refine ⟨_,rfl,t2,T,_,_,rfl,rfl,SqT.of g2,SqT.of gT2,by simp,by rw [sizeLine_eq];simp;omega,fun z=>(nomatch z),fun _ t3 ht3=>?_⟩
  have s3:=qA2 ht3 (.tup ([.int n]++(u::r).map V.int));have g3:(Ag H2 t3 (.tup ([.int n]++(u::r).map V.int))) t3=some (.tup ((n::u::r).map V.int)):=qA1;have sc3:=sc2.trans s3;generalize Ag H2 t3 (.tup ([.int n]++(u::r).map V.int))=H3 at s3 g3 sc3 ⊢;refine hM1 _ _ ?_;obtain ⟨p1,ep1⟩:=FL.in1 g;obtain ⟨hg1,gl1⟩:=rd sc3 g ep1;refine ⟨_,rfl,_,rfl,t3,_,_,_,rfl,rfl,SqT.of g3,qAV (J7 0) rfl,_,_,rfl,rfl,cm2 _,d,_,rfl,hg1,?_⟩;refine ⟨ad (2 * n),_,_,_,rfl,rfl,SqL.of gl1,rfl,?_⟩;refine ⟨t3,n,p1,u::r,s2',rfl,rfl,sc3,g3,g,fn,ep1,SN,by rw [es];simp,?_⟩
  rw [D9];omega
end
section
variable {P:Program} {w:World} {K:PySem.W.Frag} {mg:Str->Option Value} {base:Heap} {f:Addr} {fd:FuncData} {qF2 qG4 qE4 qHQ:Addr} {qIL qJS qHN qKX:FuncData} {tk_GOAL:Tok}
theorem sc_sides_of:FnScope ["net","path","ways","stops"] ["net","path"] (qAE qFY):=⟨rfl,rfl,rfl,by decide +kernel,rfl,by decide +kernel,by decide +kernel⟩
theorem ok_sides_of (F:Fun K "sides_of" "sides_of" qFY f fd) (m_GOAL:mg "GOAL" = some (.int (-2) tk_GOAL)) (qFD:Clb P w K mg base 2 qF2 qIL "free_ways" ["net","path"] qKK) (qEM:Clb P w K mg base 1 qG4 qJS "way_back" ["ways"] qMC) (qEA:Clb P w K mg base 1 qE4 qHN "turn_round" ["ways","stops"] qWR) (qHU:Clb P w K mg base 1 qHQ qKX "side_to" ["ways","work"] qPJ) (qAT:mg "sorted" = none):FnOk P w K mg base CX0 3 f fd ["net","path"] qSD:=by
 refine F.ok sc_sides_of (fun vs H Q E h=>?_) (fun cdv A outer s H vs Q E hr h=>?_)
 ·obtain ⟨a,t,Ae,path,rfl,_⟩:=h
  rfl
 obtain ⟨a,t,Ae,path,rfl,PI,n60,q⟩:=h;have hu:=qGD hr;have hu64:=hr.units;refine ⟨_,(qA4 (qAG (i:=2) sc_sides_of.nd rfl (B31 rfl) (qB4 qFD hr rfl (qA0 (pv 0) (qA0 (pv 1) qA3)))) (qA4 (qAG (i:=3) sc_sides_of.nd rfl (E8 rfl) (qB4 qEM hr rfl (qA0 (pv 2) qA3))) (qA4 (qG1 F3 (qDZ (pv 3) (fun _=>rfl)) (qA4 (qC0 (qB4 qEA hr rfl (qA0 (pv 2) (qA0 (pv 3) qA3)))) (qA6 (qAG (i:=3) sc_sides_of.nd rfl (E8 rfl) (qB4 qEM hr rfl (qA0 (pv 2) qA3)))))) (qA6 (qAF (qAA (L2.GS.call_sortedTL rfl hu64) rfl qAT qDS (qA0 (qEE rfl (lcs (own:=["stop"]) (fv:=[2]) (by kernel_rfl)) (qCR (qCS hu (pv 2) (qCK (v:=.int (-2)) rfl m_GOAL ⟨_,rfl⟩) (fun _ _=>rfl))) (fun z1=>qAD (i:=0) (qD7 (by kernel_rfl)) rfl (E8 rfl)) (fun z1=>qBA) (fun z1=>(qB4 qHU hr rfl (qA0 (pv 1) (qA0 (qAM qJK (pv 0) qA5) qA3))))) qA3))))))),?_⟩
 try dsimp only [Cx.nox,Cx.wish,cxOf]
 obtain ⟨hN,wf,n400,hT,pne,lp,pin⟩:=id PI;refine cut fun N0 hN0=>?_;refine ⟨_,rfl,_,rfl,a,t,Ae,path,rfl,PI,fun d ad H1 WA1=>?_⟩;refine hN0 _ _ (cut fun N1 hN1=>?_);have FL1:=qW9 (Ae:=Ae) (path:=path) wf;refine ⟨_,rfl,d,H,Ae,path,W0 Ae path,ad,rfl,n400,WA1,FL1.fl,fun l1 st1 H2 s2 fl1 gl1 wb1 ok1=>?_⟩;refine hN1 _ _ (cut fun N2 hN2=>?_);refine ⟨fun m σ Hc=>∃ (l:Addr) (st:List Int) (W:Wy),σ=[some (.ref a),some (.ref t),some (.ref d),some (.ref l)]/\WaysAt H Hc d 2002 (inK Ae path Ae.length) W ad/\Fl Ae path W/\Hc l=some (.lst (st.map V.int))/\(∀ k,inK Ae path Ae.length k->ad k ≠ l)/\WB W st/\StOk W st/\(∀ W',SW W W'->SW (W0 Ae path) W')/\m+(W (-2)).length=2 * Ae.length+2,⟨2 * Ae.length+2,l1,st1,W0 Ae path,rfl,WA1.same s2,FL1,gl1,fun k hk z=>?_,wb1,ok1,fun _ h=>h,?_⟩,?_⟩
 ·have:=WA1.lst k hk;rw [z,fl1] at this;cases this
 ·show 2 * Ae.length+2+(fwW Ae path Ae.length (-2)).length=_;rw [fw_g];rfl
 refine fun m σ Hc hI_2=>opq fun G_2 hG_2=>?_;obtain ⟨l,st,W,rfl,WA,FL,gl,nl,wb,ok,go,em⟩:=hI_2;refine hG_2 ?_;refine ⟨_,rfl,_,.inl ⟨_,SqL.of gl,rfl⟩,?_⟩;rcases ok with rfl | ⟨PT,ND,hh,hl⟩
 ·refine iteF ?_;refine hN2 _ _ ?_;have SWE:=go W (.stop wb);have k2:inK Ae path Ae.length (-2):=.inr (.inl rfl);obtain ⟨Af,gkv,lkv,hkv⟩:=WA.dict;have hgk:=DGet.k (k:=J1 (-2)) gkv;rw [hkv _ k2] at hgk;have gl2:=WA.lst _ k2;have few:(W (-2)).length<=Ae.length:=by
   have sub:∀ x ∈ W (-2),x ∈ (qBO 0 (Ae.length:Int)).map (fun w=>2 * w+1):=fun x hx=>by
    obtain ⟨v,rfl,f,_⟩:=FL.ends hx;exact E1.mpr ⟨v,mem_rangeI.mpr (free_in.mp f).1,rfl⟩
   have:=F0 (FL.fl.nd (-2)) sub;rw [A0,qEG] at this;omega
  refine ⟨_,rfl,d,_,rfl,hgk,ad (-2),rfl,⟨_,SqL.of gl2⟩,fun px hpx=>?_⟩;refine qFP (p:=px) (a:=ad (-2)) (xs:=(W (-2)).map V.int) (fun j σ Hd=>∃ (v:Option V) (rs:List Addr) (ss:List (List Int)),σ=[v,some (.ref d)]/\Same Hc Hd/\Hd px=some (.lst (rs.map V.ref))/\L2.G.TupsAt Hd rs ss/\Paired (fun x s=>Sd W (x / 2) s) ((W (-2)).take j) ss) ?_ ?_ ?_ ?_
  ·exact ⟨none,[],[],rfl,qA2 hpx _,qA1,.nil,.nil⟩
  ·rintro j σ Hd hj ⟨v,rs,ss,rfl,sd,_⟩;exact SqL.of (sd _ _ gl2)
  ·refine fun j x σ Hd hx hI_4=>opq fun G_4 hG_4=>?_;obtain ⟨v,rs,ss,rfl,sd,gp,TA,PA⟩:=hI_4;obtain ⟨y,ey,rfl⟩:=qBE hx;obtain ⟨u,rfl,fu,eu,flu⟩:=FL.ends (C5 ey);obtain ⟨sd0,SD⟩:=FL.side wf (u.toNat+1) u (by omega) fu flu
   refine hG_4 ?_;have hj:=(A6.mp ey).1;have lrs:=C8 TA;have lss:=C8 PA;rw [D7] at lss;refine ⟨_,rfl,_,rfl,_,_,rfl,rfl,(by unfold CDiv;decide),?_⟩
   dsimp only;rw [show (2 * u+1) / 2=u by omega]
   refine ⟨d,H,Ae,path,W,ad,u,sd0,rfl,n400,WA.same sd,FL,wf,fu,flu,SD,fun T Hx sx gT=>?_⟩;refine ⟨_,sx _ _ gp,qAQ (by rw [A0];omega),?_⟩
   have gp':=sx _ _ gp;refine ⟨_,rs++[T],ss++[sd0],rfl,qAB (sd.trans sx) hpx,by rw [qA1,B6];rfl,qBH (qDJ TA fun b m e=>?_) ?_,?_⟩
   ·rw [qA9 (qCL (sx _ _ e) gp' (by intro z;cases z))];exact sx _ _ e
   ·rw [qA9 (qCL gT gp' (by intro z;cases z))];exact gT
   ·rw [D4,ey,E3];exact qBH PA (by rw [show (2 * u+1) / 2=u by omega];exact SD)
  refine fun σ Hd hI_5=>opq fun G_5 hG_5=>?_;obtain ⟨v,rs,ss,rfl,sd,gp,TA,PA⟩:=hI_5;refine hG_5 ?_;rw [A0,F4] at PA;have lrs:=C8 TA;have lss:=C8 PA;have ne0:∀ t ∈ ss,t ≠ []:=fun t ht=>by
   obtain ⟨i,hi⟩:=M7 ht;obtain ⟨x,_,hS⟩:=qKQ PA hi;have:=qO1 hS;intro z;rw [z] at this;cases this
  refine ⟨px,rs,ss,rfl,SqL.of gp,TA,ne0,(by omega),fun lz rs' ts' flz pm TA' pt st'=>?_⟩
  have s9:=qA2 flz (.lst (rs'.map V.ref));have sHd:=(WA.same sd).old;exact q lz rs' ts' _ (sHd.trans s9) (sHd.free flz) qA1 (qDJ TA' fun b m e=>s9 _ _ e) ⟨W,ss,SWE,FL,PA,pt,st'⟩
 have tru:(!(st.map V.int).isEmpty)=true:=by cases st with | nil=>cases hh | cons _ _=>rfl
 rw [tru];refine iteT ?_;have ne:st ≠ []:=fun z=>by rw [z] at hh;cases hh
 obtain ⟨FL',len'⟩:=FL.turn PT ND hh hl;have few:=qHD (FL'.fl.nd (-2)) fun y hy=>FL'.fl.dom hy;refine ⟨_,fun σ' H' h=>⟨m - 1,by omega,h⟩,?_⟩
 refine cut fun M1 hM1=>?_;refine ⟨_,rfl,_,rfl,d,l,H,Ae,path,W,ad,st,rfl,n400,WA,FL.fl,gl,nl,PT,ND,hh,fun H3 WA3=>?_⟩;refine hM1 _ _ ?_;refine ⟨_,rfl,d,H,Ae,path,qCQ st W,ad,rfl,n400,WA3,FL'.fl,fun l2 st2 H4 s4 fl2 gl2 wb2 ok2=>?_⟩;refine ⟨l2,st2,qCQ st W,rfl,WA3.same s4,FL',gl2,fun k hk z=>?_,wb2,ok2,fun W' h=>go W' (.go wb ne h),by omega⟩
 have:=WA3.lst k hk;rw [z,fl2] at this;cases this
end
section
variable {P:Program} {w:World} {K:PySem.W.Frag} {mg:Str->Option Value} {base:Heap} {f:Addr} {fd:FuncData} {qEK:Addr} {qGO:FuncData}
theorem sc_is_path:FnScope ["net","thing","ahead","work"] ["net","thing"] (qAE qH5):=⟨rfl,rfl,rfl,by decide +kernel,rfl,by decide +kernel,by decide +kernel⟩
theorem ok_is_path (F:Fun K "is_path" "is_path" qH5 f fd) (qG9:Clb P w K mg base 2 qEK qGO "is_below" ["thing","end"] qPL) (qA7:mg "isinstance" = none) (qAK:mg "tuple" = none) (qB6:mg "len" = none) (qEN:mg "all" = none) (qIQ:mg "zip" = none):FnOk P w K mg base CX0 3 f fd ["net","thing"] qL9:=by
 refine F.ok sc_is_path (fun vs H Q E h=>?_) (fun cdv A outer s H vs Q E hr h=>?_)
 ·obtain ⟨a,Ae,x,n,dt,rfl,_⟩:=h
  rfl
 obtain ⟨a,Ae,x,n,dt,rfl,hN,wf,n400,D,LD,q⟩:=h;have hu:=qGD hr;have hu0:=hr.units0;refine ⟨_,(qA4 (qBB (PW.pt (qH9 (qBZ (qCJ (qAA qAW rfl qA7 qAL (qA0 (pv 1) (qA0 (qC1 (v:=.ty "tuple") rfl qAK qB7 rfl) qA3))))) (qFJ (qAO qHC (qAA qAI rfl qB6 qBT (qA0 (pv 1) qA3)) qA5 (qAU _))))) (qA6 (qAF qCH)) qAH) (qA4 (qBB (qBZ (qCJ (qAA (qG7 rfl) rfl qEN qL2 (qA0 (qEE rfl (lcs (own:=["part"]) (fv:=[0]) (by kernel_rfl)) (qD0 (pv 1)) (fun z1=>qAD (i:=0) (qD7 (by kernel_rfl)) rfl (E8 rfl)) (fun z1=>qBA) (fun z1=>(qB4 qG9 hr rfl (qA0 (pv 0) (qA0 (qAA (qHS (K:=K) rfl) rfl qB6 qBT (qA0 (pv 1) qA3)) qA3))))) qA3)))) (qA6 (qAF qCH)) qAH) (qA4 (qCE F3 rfl (qSW rfl qIQ qUS (qA0 (pv 1) (qA0 (qB2 qKM (pv 1) (qBD qA5) qBK) qA3))) (qKO rfl (qBQ (qAD (i:=2) sc_is_path.nd rfl (E8 rfl)) (qBQ (qAD (i:=3) sc_is_path.nd rfl (E8 rfl)) qGK))) (qA6 (qBB (qAO qD2 (pv 2) (qB0 qB3 (pv 0) (pv 3) (fun _ _=>rfl)) (by with_unfolding_all rfl)) (qA6 (qAF qCH)) qAH))) (qA6 (qAF (qEF qHC (qAA qAI rfl qB6 qBT (qA0 (qB0 qB3 (pv 0) (qB0 qB3 (pv 1) qA5 (fun _ _=>rfl)) (fun _ _=>rfl)) qA3)) qA5 (qAU _))))))),?_⟩
 try dsimp only [Cx.nox,Cx.wish,cxOf]
 obtain ⟨rs,hA,NL⟩:=id hN;have lrs:=C8 NL;obtain ⟨ty,tyo,k1,k2,k3⟩:=qIE (K:=K) D;refine cut fun N0 hN0=>?_;refine ⟨_,rfl,x,"tuple",ty,_,rfl,tyo,k3,_,rfl,?_⟩;cases c:tupB dt with
 | false=>
  refine iteT ?_;refine iteT ?_;have e1:qGC Ae dt=false:=by cases dt <;> first | rfl | cases c
  rw [e1] at q;exact q H (.refl _)
 | true=>
  refine iteF ?_;obtain ⟨m,tt,xs,ds,rfl,rfl,rfl,ga,lx,el⟩:=qF6 D c;refine ⟨_,rfl,tt,_,rfl,.inr (SqT.of ga),rfl,_,rfl,?_⟩;have ld:ds.length<=2000:=(LD true ds rfl).1;cases ds with
  | nil=>
   have ex:xs=[]:=M8.mp lx;subst ex;refine iteT ?_;exact q H (.refl _)
  | cons d0 dr=>
   rw [decide_eq_false (show ¬ V.int ((xs.length:Nat):Int)=V.int 0 from fun z=>by have:=V.int.inj z;rw [lx] at this;simp at this;omega)]
   refine iteF ?_;generalize hds:d0::dr=ds at *;have ne0:ds ≠ []:=by rw [<- hds];simp
   clear hds;have emp:ds.isEmpty=false:=by cases ds with | nil=>exact absurd rfl ne0 | cons _ _=>rfl
   refine hN0 _ _ (cut fun N1 hN1=>?_);refine ⟨_,rfl,tt,rfl,⟨_,SqT.of ga⟩,fun px hpx=>?_⟩;refine qHH (p:=px) (a:=tt) (xs:=xs) (fun i σ Hd=>∃ (v:Option V),σ=[v,some (.ref a)]/\Same H Hd/\Hd px=some (.lst (((ds.take i).map (qCP (Ae.length:Int))).map V.bl))) ?_ ?_ ?_ ?_
   ·exact ⟨none,rfl,qA2 hpx _,qA1⟩
   ·rintro i σ Hd hi ⟨v,rfl,sd,_⟩;exact SqT.of (sd _ _ ga)
   ·refine fun i x' σ Hd hx hI_2=>opq fun G_2 hG_2=>?_;obtain ⟨v,rfl,sd,gp⟩:=hI_2;refine hG_2 ?_;have hi:=(A6.mp hx).1;have ed:=A5 (show i<ds.length by omega)
    have Di:=DatN.same sd (el i x' _ hx ed);refine ⟨_,rfl,_,rfl,a,_,rfl,.inr (SqT.of (sd _ _ hA)),?_⟩;rw [A0,lrs];refine ⟨x',m,_,(Ae.length:Int),rfl,Di,_,gp,qAQ (by rw [A0,A0,D7];omega),_,rfl,qAB sd hpx,?_⟩
    rw [qA1,D4,ed,E3,B6,B6]
    rfl
   refine fun σ Hd hI_3=>opq fun G_3 hG_3=>?_;obtain ⟨v,rfl,sd,gp⟩:=hI_3;refine hG_3 ?_;rw [lx,F4] at gp;refine ⟨px,_,rfl,SqL.of gp,_,rfl,?_⟩;have ea:((ds.map (qCP (Ae.length:Int))).all id)=ds.all (qCP (Ae.length:Int)):=by rw [u7];rfl
   rw [ea];have pe:qGC Ae (.tuple ds)=(ds.all (qCP (Ae.length:Int)) && qDP Ae (ds.map qKH)):=by
    show (!ds.isEmpty && _ && _)=_;rw [emp]
    rfl
   rw [pe] at q;cases cb:ds.all (qCP (Ae.length:Int)) with
   | false=>
    refine iteT ?_;rw [cb,P3] at q;exact q Hd sd
   | true=>
    refine iteF ?_;rw [cb,L8] at q;obtain ⟨zs,rfl,zin⟩:=qI8 cb;rw [qC6] at q;have ex:xs=zs.map V.int:=j8 fun i=>by
     by_cases hi:i<xs.length
     ·have hx:=A5 hi;have hz:i<zs.length:=by rw [lx,A0] at hi;exact hi
      have ed:(zs.map Q6)[i]?=some (.int zs[i]):=by rw [C4,A5 hz];rfl
      obtain ⟨j,e1,e2⟩:=qJV (el i _ _ hx ed) rfl;rw [hx,C4,A5 hz,e1];cases e2
      rfl
     ·rw [G0 (by omega),G0 (by rw [A0];rw [lx,A0] at hi;omega)]
    subst ex;have lz1:1<=zs.length:=by cases zs with | nil=>exact absurd rfl ne0 | cons _ _=>simp
    refine hN1 _ _ (cut fun N2 hN2=>?_);have gtd:=sd _ _ ga;refine ⟨_,rfl,_,rfl,_,rfl,tt,_,rfl,SqT.of gtd,?_,fun t2 ht2=>?_⟩
    ·rw [A0,show (1:Int)=((1:Nat):Int) from rfl,HT.sIx_nat];omega
    rw [qCZ,show (1:Int)=((1:Nat):Int) from rfl,qEL _ _ lz1];have s2:=qA2 ht2 (.tup ((zs.drop 1).map V.int));have g2:(Ag Hd t2 (.tup ((zs.drop 1).map V.int))) t2=some (.tup ((zs.drop 1).map V.int)):=qA1;have sd2:=sd.trans s2;generalize Ag Hd t2 (.tup ((zs.drop 1).map V.int))=H2 at s2 g2 sd2 ⊢;refine ⟨true,tt,t2,rfl,⟨_,SqT.of (sd2 _ _ ga)⟩,⟨_,SqT.of g2⟩,qQ7 (b:=true) (l:=tt) (m:=t2) (xs:=zs.map V.int) (ys:=(zs.drop 1).map V.int) (by rw [A0,A0,F2];omega) (fun j σ Hc=>∃ (v2 v3:Option V),σ=[some (.ref a),some (.ref tt),v2,v3]/\Same H2 Hc/\∀ (i:Nat) x y,i<j->zs[i]?=some x->zs[i+1]?=some y->x ∈ nd Ae y)
     ⟨none,none,rfl,.refl _,fun i _ _ h=>absurd h (o1 _)⟩ (fun j σ Hc _ h=>?_) ?_ ?_⟩
    ·obtain ⟨_,_,_,sc,_⟩:=h;exact ⟨SqT.of ((sd2.trans sc) _ _ ga),SqT.of (sc _ _ g2)⟩
    ·refine fun j x y σ Hc T hx hy hI_4 hT=>opq fun G_4 hG_4=>?_;obtain ⟨v2,v3,rfl,sc,ok⟩:=hI_4;obtain ⟨f1,ef,rfl⟩:=qBE hx;obtain ⟨s1,es,rfl⟩:=qBE hy;refine hG_4 ?_;rw [A16,m6] at es;have sT:=qA2 hT (.tup [.int f1,.int s1]);have gT:SqT K (Ag Hc T (.tup [.int f1,.int s1])) T [.int f1,.int s1]:=SqT.of qA1;generalize Ag Hc T (.tup [.int f1,.int s1])=H3 at sT gT ⊢;refine ⟨T,_,rfl,gT,rfl,_,_,rfl,_,_,rfl,rfl,?_⟩;have sb:=zin s1 (C5 es);have hw:s1.toNat<Ae.length:=by omega
     have hz:=A5 hw;obtain ⟨r,h3,h4⟩:=NL.get hz;have en:=qBL hz;generalize Ae[s1.toNat]=ys at h4 hz en;have s03:=sd2.trans (sc.trans sT);refine ⟨_,rfl,_,rfl,_,rfl,a,_,_,_,rfl,rfl,SqT.of (s03 _ _ hA),qAV sb.1 (by rw [C4,h3];rfl),r,_,rfl,.inr (SqT.of (s03 _ _ h4)),rfl,qD4 ys,_,rfl,?_⟩
     rw [qFQ];by_cases cy:f1 ∈ ys
     ·rw [decide_eq_true cy];refine iteF ?_;refine ⟨_,_,rfl,sc.trans sT,fun i x y hi h1 h2=>?_⟩;by_cases e:i=j
      ·subst e;rw [ef] at h1;rw [es] at h2;cases h1;cases h2;rw [en];exact cy
      ·exact ok i x y (by omega) h1 h2
     ·rw [decide_eq_false cy];refine iteT ?_;have no:qC8 Ae zs=false:=L9.mpr fun z=>cy (by rw [<- en];exact chain_iff.mp z j f1 s1 ef es)
      have:qDP Ae zs=false:=by unfold qDP;rw [no];rfl
      rw [this] at q;exact q H3 s03
    ·refine fun σ Hc hI_5=>opq fun G_5 hG_5=>?_;obtain ⟨v2,v3,rfl,sc,ok⟩:=hI_5;refine hG_5 ?_;rw [A0,F2] at ok;have yes:qC8 Ae zs=true:=chain_iff.mpr fun i x y h1 h2=>ok i x y (by have:=(A6.mp h2).1;omega) h1 h2
     refine hN2 _ _ ?_;have s03:=sd2.trans sc;obtain ⟨z0,zr,rfl⟩:∃ z0 zr,zs=z0::zr:=by cases zs with | nil=>exact absurd rfl ne0 | cons a b=>exact ⟨a,b,rfl⟩
     have sb:=zin z0 B5;have hw:z0.toNat<Ae.length:=by omega
     have hz:=A5 hw;obtain ⟨r,h3,h4⟩:=NL.get hz;have en:=qBL hz;generalize Ae[z0.toNat]=ys at h4 hz en;refine ⟨_,rfl,_,rfl,tt,_,_,_,rfl,rfl,SqT.of (s03 _ _ ga),qAV (J7 0) rfl,a,_,_,_,rfl,rfl,SqT.of (s03 _ _ hA),qAV sb.1 (by rw [C4,h3];rfl),r,_,rfl,.inr (SqT.of (s03 _ _ h4)),rfl,?_⟩
     have pi:qDP Ae (z0::zr)=decide (V.int (((ys.map V.int).length:Nat):Int)=V.int 0):=by
      unfold qDP;rw [yes,L8,List.headD_cons,en,A0];cases ys with
      | nil=>rfl
      | cons _ _=>rw [decide_eq_false (fun z=>by have:=V.int.inj z;simp at this;omega)];rfl
     rw [pi] at q;exact q Hc s03
end
section
variable {P:Program} {w:World} {K:PySem.W.Frag} {mg:Str->Option Value} {base:Heap} {f:Addr} {fd:FuncData} {qCT qEJ:Addr} {qE1 qG3:FuncData}
theorem sc_shows_sides:FnScope ["net","path","thing","ends","taken","work","side"] ["net","path","thing"] (qAE qDA):=⟨rfl,rfl,rfl,by decide +kernel,rfl,by decide +kernel,by decide +kernel⟩
theorem ok_shows_sides (F:Fun K "shows_sides" "shows_sides" qDA f fd) (qBU:Clb P w K mg base 1 qCT qE1 "side_ends" ["net","path"] qI0) (qD5:Clb P w K mg base 3 qEJ qG3 "is_path" ["net","thing"] qL9) (qA7:mg "isinstance" = none) (qBY:mg "list" = none):FnOk P w K mg base CX0 4 f fd ["net","path","thing"] qSE:=by
 refine F.ok sc_shows_sides (fun vs H Q E h=>?_) (fun cdv A outer s H vs Q E hr h=>?_)
 ·obtain ⟨a,t,Ae,path,x,n,dt,rfl,_⟩:=h
  rfl
 obtain ⟨a,t,Ae,path,x,n,dt,rfl,PI,D,LD,q⟩:=h;have hu:=qGD hr;have hu0:=hr.units0;refine ⟨_,(qA4 (qBB (qBZ (qCJ (qAA qAW rfl qA7 qAL (qA0 (pv 2) (qA0 (qC1 (v:=.ty "list") rfl qBY qGR rfl) qA3))))) (qA6 (qAF qCH)) qAH) (qA4 (qAG (i:=3) sc_shows_sides.nd rfl (E8 rfl) (qB4 qBU hr rfl (qA0 (pv 0) (qA0 (pv 1) qA3)))) (qA4 (qAG (i:=4) sc_shows_sides.nd rfl (E8 rfl) qPW) (qA4 (qCE F3 rfl (qD0 (pv 1)) (qAD (i:=5) sc_shows_sides.nd rfl (E8 rfl)) (qA6 (qFM hu (pv 4) (pv 5) qCH rfl))) (qA4 (qCE F3 rfl (qCR (pv 2)) (qAD (i:=6) sc_shows_sides.nd rfl (E8 rfl)) (qA4 (qBB (PW.pt (qH9 (qBZ (qCJ (qB4 qD5 hr rfl (qA0 (pv 0) (qA0 (pv 6) qA3))))) (qFJ (qJG (qHB hu (qB0 qB3 (pv 6) (qR3 qKJ qA5) (fun _ _=>rfl)) (pv 3)))))) (qA6 (qAF qCH)) qAH) (qA6 (qCE F3 rfl (qD0 (pv 6)) (qAD (i:=5) sc_shows_sides.nd rfl (E8 rfl)) (qA4 (qBB (qJG (qT2 hu (pv 5) (pv 4))) (qA6 (qAF qCH)) qAH) (qA6 (qFM hu (pv 4) (pv 5) qCH rfl))))))) (qA6 (qAF qCH))))))),?_⟩
 try dsimp only [Cx.nox,Cx.wish,cxOf]
 obtain ⟨hN,wf,n400,hT,pne,lp,pin⟩:=id PI;obtain ⟨ty,tyo,k1⟩:=qPE (K:=K) D;refine cut fun N0 hN0=>?_;refine ⟨_,rfl,x,"list",ty,_,rfl,tyo,k1,_,rfl,?_⟩;cases c:lstB dt with
 | false=>
  refine iteT ?_;have e1:qDN Ae path dt=false:=by cases dt <;> first | rfl | cases c
  rw [e1] at q;exact q H (.refl _)
 | true=>
  refine iteF ?_;obtain ⟨m,ll,xs,ds,rfl,rfl,rfl,ga,lx,el⟩:=qI6 D c;have ld:=LD false ds rfl;refine hN0 _ _ (cut fun N1 hN1=>?_);refine ⟨_,rfl,_,rfl,a,t,Ae,path,rfl,PI,fun de kve H1 s1 fde gde hve=>?_⟩;refine hN1 _ _ (cut fun N2 hN2=>?_);refine fun dk hdk=>?_;have s2:=qA2 hdk (.dK []);have g2:(Ag H1 dk (.dK [])) dk=some (.dK []):=qA1;have gde2:=s2 _ _ gde;have fdk:H dk=none:=s1.free hdk;have ndk:de ≠ dk:=qA8 gde hdk;have s02:=s1.trans s2;generalize Ag H1 dk (.dK [])=H2 at s2 g2 gde2 s02 ⊢;refine hN2 _ _ (cut fun N3 hN3=>?_);refine ⟨_,rfl,t,rfl,⟨_,SqT.of (s02 _ _ hT)⟩,qFR (a:=t) (xs:=path.map V.int) (fun i σ Hc=>∃ (Af:List (Key × V)) (v5:Option V),σ=[some (.ref a),some (.ref t),some (.ref ll),some (.ref de),some (.ref dk),v5,none]/\Same H Hc/\Hc de=some (.dK kve)/\Hc dk=some (.dK Af)/\Af.length<=i/\∀ z:Int,(valV Af (J1 z)).isSome=decide (z ∈ path.take i))
   ⟨[],none,rfl,s02,gde2,g2,B3 _,fun z=>by simp [valV]⟩ (fun i σ Hc _ hP=>by obtain ⟨_,_,_,sc,_⟩:=hP;exact SqT.of (sc _ _ hT)) ?_ ?_⟩
  ·refine fun i y σ Hc hy hI_1=>opq fun G_1 hG_1=>?_;obtain ⟨Af,v5,rfl,sc,ge,gk,lk,hv⟩:=hI_1;obtain ⟨z0,ez,rfl⟩:=qBE hy;refine hG_1 ?_;have hi:=(A6.mp ez).1;refine ⟨_,rfl,_,rfl,dk,_,rfl,DPut.k (k:=J1 z0) gk (qAQ (by omega)),?_⟩
   refine ⟨_,_,rfl,qAB sc fdk,by rw [qA9 ndk];exact ge,qA1,M5 (qBR _ _ _) (by omega),fun z=>?_⟩
   rw [qH2,D4,ez,E3];by_cases e:z=z0
   ·rw [e,if_pos rfl];simp
   ·rw [if_neg fun u=>e (o7 u),hv z];simp [e]
  refine fun σ Hc hI_2=>opq fun G_2 hG_2=>?_;obtain ⟨Af,v5,rfl,sc,ge,gk,lk,hv⟩:=hI_2;refine hG_2 ?_;rw [A0] at lk hv;rw [F4] at hv;refine hN3 _ _ (cut fun N4 hN4=>?_);refine ⟨_,rfl,ll,rfl,⟨_,SqL.of (sc _ _ ga)⟩,qHM (a:=ll) (xs:=xs) (fun i σ Hd=>∃ (Af:List (Key × V)) (v5 v6:Option V),σ=[some (.ref a),some (.ref t),some (.ref ll),some (.ref de),some (.ref dk),v5,v6]/\Same H Hd/\Hd de=some (.dK kve)/\Hd dk=some (.dK Af)/\Af.length<=400+2000 * i/\(∀ z:Int,(valV Af (J1 z)).isSome=decide (z ∈ path\/z ∈ (ds.take i).flatMap qAX))/\(ds.take i).all (qDT Ae path)=true/\((ds.take i).flatMap qAX).Nodup)
   ⟨Af,v5,none,rfl,sc,ge,gk,by omega,fun z=>by rw [hv z];simp,rfl,by simp⟩ (fun i σ Hd _ hP=>by obtain ⟨_,_,_,_,sd,_⟩:=hP;exact SqL.of (sd _ _ ga)) ?_ ?_⟩
  ·refine fun i x' σ Hd hx hI_3=>opq fun G_3 hG_3=>?_;obtain ⟨Af,v5,v6,rfl,sd,ge,gk,lk,hv,ok,nd0⟩:=hI_3;refine hG_3 ?_;have hi:=(A6.mp hx).1;have ed:=A5 (show i<ds.length by omega)
   have hmem:=C5 ed;generalize ds[i]=d1 at ed hmem;have Di:=DatN.same sd (el i x' _ hx ed);have et:ds.take (i+1)=ds.take i++[d1]:=by rw [D4,ed];rfl
   refine nmD fun D1 dn dr=>?_
   -- a side that isn't one
   have bad:qDT Ae path d1=false->∀ Hx,Same H Hx->D1.rt (.bl false) Hx:=fun z Hx sx=>by
    have e1:qDN Ae path (.list ds)=false:=by
     show (ds.all _ && _)=false;have:ds.all (qDT Ae path)=false:=L9.mpr fun y=>by rw [E5.mp y d1 hmem] at z;cases z
     rw [this];rfl
    rw [e1] at q;exact dr _ _ (q Hx sx)
   refine cut fun M1 hM1=>?_;refine ⟨_,rfl,_,rfl,a,Ae,x',m,d1,rfl,hN.same sd,wf,n400,Di,ld.2 d1 hmem,fun H3 s3=>⟨_,rfl,?_⟩⟩;have sd3:=sd.trans s3;cases cp:qGC Ae d1 with
   | false=>
    refine iteT ?_;refine iteT ?_;exact bad (by unfold qDT;rw [cp];rfl) H3 sd3
   | true=>
    refine iteF ?_;obtain ⟨tz,zs,rfl,rfl,ei,gz,zne,zin⟩:=qDO (DatN.same s3 Di) cp;have ef:(ds.take (i+1)).flatMap qAX=(ds.take i).flatMap qAX++zs:=by rw [et,A03,A31,ei,B46,R8]
    have dup:¬ ((ds.take i).flatMap qAX++zs).Nodup->∀ Hx,Same H Hx->D1.rt (.bl false) Hx:=fun z Hx sx=>by
     have e1:qDN Ae path (.list ds)=false:=by
      show (_ && decide _)=false;rw [decide_eq_false,P7];intro y;rw [<- X3 (i+1) ds,A03,ef] at y;exact z (O8.mp y).1
     rw [e1] at q;exact dr _ _ (q Hx sx)
    have lz:zs.length<=2000:=by have:=(ld.2 _ hmem true _ rfl).1;rw [A0] at this;exact this
    obtain ⟨zl,hzl⟩:∃ zl,zs.getLast?=some zl:=⟨_,d3 zne⟩;have el1:(zs.map V.int).getLast?=some (.int zl):=by rw [A32,hzl];rfl
    have eld:zs.getLastD 0=zl:=by rw [Q8,hzl];rfl
    refine ⟨_,rfl,_,rfl,tz,_,_,_,rfl,rfl,SqT.of gz,qGS el1,_,rfl,de,_,rfl,DGet.k (k:=J1 zl) (s3 _ _ ge),_,rfl,?_⟩;cases ie:(valV kve (J1 zl)).isSome with
    | false=>
     refine iteT ?_;refine bad ?_ H3 sd3;have:qDU Ae path zl=false:=L9.mpr fun z=>by rw [(hve _).mpr z] at ie;cases ie
     unfold qDT;rw [ei,eld,this,P7,P3]
    | true=>
     refine iteF ?_;have ien:=(hve _).mp ie;refine hM1 _ _ ?_;refine ⟨_,rfl,tz,rfl,⟨_,SqT.of gz⟩,qFR (a:=tz) (xs:=zs.map V.int) (fun j σ He=>∃ (Af:List (Key × V)) (v5:Option V),σ=[some (.ref a),some (.ref t),some (.ref ll),some (.ref de),some (.ref dk),v5,some (.ref tz)]/\Same H He/\He tz=some (.tup (zs.map V.int))/\He de=some (.dK kve)/\He dk=some (.dK Af)/\Af.length<=400+2000 * i+j/\(∀ z:Int,(valV Af (J1 z)).isSome=decide (z ∈ path\/z ∈ (ds.take i).flatMap qAX++zs.take j))/\((ds.take i).flatMap qAX++zs.take j).Nodup/\∀ z ∈ zs.take j,z ∉ path)
      ⟨Af,v5,rfl,sd3,gz,s3 _ _ ge,s3 _ _ gk,by omega,fun z=>by rw [hv z];simp,by simpa using nd0,fun z hz=>by simp at hz⟩ (fun j σ He _ hP=>by obtain ⟨_,_,_,_,g,_⟩:=hP;exact SqT.of g) ?_ ?_⟩
     ·refine fun j y σ He hy hI_4=>opq fun G_4 hG_4=>?_;obtain ⟨Af,v5,rfl,se,gze,gee,gke,lke,hve2,nde,npe⟩:=hI_4;obtain ⟨z0,ez,rfl⟩:=qBE hy;refine hG_4 ?_;have hj:=(A6.mp ez).1;have ntz:tz ≠ dk:=qCL gze gke (by intro z;cases z)
      have etk:zs.take (j+1)=zs.take j++[z0]:=by rw [D4,ez];rfl
      refine nmD fun D2 dn2 dr2=>?_;refine cut fun M2 hM2=>?_;refine ⟨_,rfl,_,rfl,dk,_,rfl,DGet.k (k:=J1 z0) gke,_,rfl,?_⟩;rw [hve2];by_cases cz:z0 ∈ path\/z0 ∈ (ds.take i).flatMap qAX++zs.take j
      ·rw [decide_eq_true cz];refine iteT ?_;rcases cz with cz | cz
       ·refine dr2 _ _ (bad ?_ He se);unfold qDT;have:((qAX (PyData.tuple (zs.map .int))).all fun x=>decide (x ∉ path))=false:=by
         rw [ei];exact L9.mpr fun y=>of_decide_eq_true (E5.mp y z0 (C5 ez)) cz
        rw [this,P7]
       ·refine dr2 _ _ (dup (fun y=>?_) He se);rw [<- X3 (j+1) zs,etk] at y;have y':((ds.take i).flatMap qAX++zs.take j++[z0]).Nodup:=by
         have e:(ds.take i).flatMap qAX++(zs.take j++[z0]++zs.drop (j+1))=((ds.take i).flatMap qAX++zs.take j++[z0])++zs.drop (j+1):=by simp
         rw [e] at y;exact (O8.mp y).1
        exact (O8.mp y').2.2 z0 cz z0 B5 rfl
      ·rw [decide_eq_false cz];refine iteF ?_;refine hM2 _ _ ?_;refine ⟨_,rfl,_,rfl,dk,_,rfl,DPut.k (k:=J1 z0) gke (by rw [sizeLine_eq];omega),?_⟩
       refine dn2 _ _ ⟨_,_,rfl,qAB se fdk,by rw [qA9 ntz];exact gze,by rw [qA9 ndk];exact gee,qA1,M5 (qBR _ _ _) (by omega),fun z=>?_,?_,fun z hz=>?_⟩
       ·rw [qH2,etk];by_cases e:z=z0
        ·rw [e,if_pos rfl];simp
        ·rw [if_neg fun u=>e (o7 u),hve2 z];simp [e]
       ·rw [etk,<- P6,O8];exact ⟨nde,by simp,fun u hu v hv z=>cz (.inr (by rw [B2.mp hv] at z;exact z ▸ hu))⟩
       ·rw [etk] at hz;rcases C2.mp hz with z1 | z1
        ·exact npe z z1
        ·rw [B2.mp z1];exact fun y=>cz (.inl y)
     ·refine fun σ He hI_5=>opq fun G_5 hG_5=>?_;obtain ⟨Af,v5,rfl,se,gze,gee,gke,lke,hve2,nde,npe⟩:=hI_5;refine hG_5 ?_;rw [A0] at lke hve2 nde npe;rw [F4] at hve2 nde npe;refine dn _ _ ⟨Af,_,_,rfl,se,gee,gke,by omega,fun z=>by rw [ef];exact hve2 z,?_,by rw [ef];exact nde⟩
      rw [et,A74,ok,L8,x6,List.all_nil,V4];unfold qDT;rw [cp,ei,eld,ien,L8,L8];exact E5.mpr fun z hz=>decide_eq_true (npe z hz)
  ·refine fun σ Hd hI_6=>opq fun G_6 hG_6=>?_;obtain ⟨Af,v5,v6,rfl,sd,ge,gk,lk,hv,ok,nd0⟩:=hI_6;refine hG_6 ?_;rw [lx,F4] at ok nd0;have e1:qDN Ae path (.list ds)=true:=by
    show (ds.all _ && _)=true;rw [ok,decide_eq_true nd0];rfl
   rw [e1] at q;exact hN4 _ _ (q Hd sd)
end
section
variable {P:Program} {w:World} {K:PySem.W.Frag} {mg:Str->Option Value} {base:Heap} {f:Addr} {fd:FuncData}
theorem sc_Lhit:FnScope ["_law_net_here","_law_path","_law_found","_law_work"] ["_law_net_here","_law_path"] (qAE qPP):=⟨rfl,rfl,rfl,by decide +kernel,rfl,by decide +kernel,by decide +kernel⟩
theorem ok_Lhit (F:Fun K "_law_hit" "_law_hit" qPP f fd) (qAT:mg "sorted" = none) (qGI:mg "set" = none):FnOk P w K mg base CX0 1 f fd ["_law_net_here","_law_path"] qZG:=by
 refine F.ok sc_Lhit (fun vs H Q E h=>?_) (fun cdv A outer s H vs Q E hr h=>?_)
 ·obtain ⟨a,t,Ae,path,rfl,_⟩:=h
  rfl
 obtain ⟨a,t,Ae,path,rfl,⟨hN,wf,n400,hT,pne,lp,pin⟩,n60,p60,q⟩:=h;have hu:=qGD hr;have hu0:=hr.units0;refine ⟨_,(qA4 (qAG (i:=2) sc_Lhit.nd rfl (E8 rfl) (qAR qA3)) (qA4 (qCE F3 rfl (qD0 (qB2 qKM (pv 1) (qBD qA5) qBK)) (qAD (i:=3) sc_Lhit.nd rfl (E8 rfl)) (qA6 (qC0 (qGL E4 m7 m8 qN1 (pv 2) (qA0 (qEE rfl (lcs (own:=["_law_need"]) (fv:=[1]) (by kernel_rfl)) (qD0 (qB0 qB3 (pv 0) (pv 3) (fun _ _=>rfl))) (fun z1=>qAD (i:=0) (qD7 (by kernel_rfl)) rfl (E8 rfl)) (fun z1=>(qXZ (qAO (qT4 (K:=K) rfl) (pv 0) (pv 1) (by with_unfolding_all rfl)))) (fun z1=>(pv 0))) qA3))))) (qA6 (qAF (qAA (qLV rfl) rfl qAT qDS (qA0 (qAN (qNM rfl) rfl qGI qQI (qA0 (pv 2) qA3)) qA3)))))),?_⟩
 try dsimp only [Cx.nox,Cx.wish,cxOf]
 obtain ⟨rs,hA,NL⟩:=id hN;have lrs:=C8 NL;refine cut fun N0 hN0=>?_;refine ⟨(by show 0<=sizeLine;decide),fun l hl=>?_⟩
 have s1:=qA2 hl (.lst []);have g1:(Ag H l (.lst [])) l=some (.lst (([]:List Int).map V.int)):=qA1;generalize Ag H l (.lst [])=H1 at s1 g1 ⊢;refine hN0 _ _ (cut fun N1 hN1=>?_);have lpath:1<=path.length:=W6.mpr pne;refine ⟨_,rfl,_,rfl,t,_,rfl,SqT.of (s1 _ _ hT),?_,fun t1 ht1=>?_⟩
 ·rw [A0,show (1:Int)=((1:Nat):Int) from rfl,HT.sIx_nat];omega
 rw [qCZ,show (1:Int)=((1:Nat):Int) from rfl,qEL _ _ lpath];have s2:=qA2 ht1 (.tup ((path.drop 1).map V.int));have g2:(Ag H1 t1 (.tup ((path.drop 1).map V.int))) t1=some (.tup ((path.drop 1).map V.int)):=qA1;have gl2:=s2 _ _ g1;generalize Ag H1 t1 (.tup ((path.drop 1).map V.int))=H2 at s2 g2 gl2 ⊢;have s02:=s1.trans s2;have nt1:t1 ≠ l:=qCL g2 gl2 (by intro z;cases z)
 refine ⟨t1,rfl,⟨_,SqT.of g2⟩,qFR (a:=t1) (xs:=(path.drop 1).map V.int) (fun i σ Hc=>∃ (fs:List Int) (v3:Option V),σ=[some (.ref a),some (.ref t),some (.ref l),v3]/\Same H Hc/\Hc t1=some (.tup ((path.drop 1).map V.int))/\Hc l=some (.lst (fs.map V.int))/\fs.length<=60 * i/\∀ z:Int,z ∈ fs ↔ z ∉ path/\∃ w ∈ (path.drop 1).take i,z ∈ nd Ae w)
  ⟨[],none,rfl,s02,g2,gl2,F5 _,fun z=>by simp⟩ (fun i σ Hc _ hP=>by obtain ⟨_,_,_,_,g,_⟩:=hP;exact SqT.of g) ?_ ?_⟩
 ·refine fun i x σ Hc hx hI_1=>opq fun G_1 hG_1=>?_;obtain ⟨fs,v3,rfl,sc,gt,gl,lf,hv⟩:=hI_1;obtain ⟨wk,ew,rfl⟩:=qBE hx;refine hG_1 ?_;have hi:=(A6.mp ew).1;rw [F2] at hi;have wb:=pin wk (Q0 (C5 ew));have hw:wk.toNat<Ae.length:=by omega
  have hz:=A5 hw;obtain ⟨r,h3,h4⟩:=NL.get hz;have en:=qBL hz;have ln:=(wf wk.toNat _ hz).len;generalize Ae[wk.toNat]=zs at h4 hz en ln;refine ⟨_,rfl,.inl ⟨rfl,_,SqL.of gl⟩,?_⟩;refine ⟨_,rfl,_,rfl,a,_,_,_,rfl,rfl,SqT.of (sc _ _ hA),qAV wb.1 (by rw [C4,h3];rfl),r,rfl,⟨_,SqT.of (sc _ _ h4)⟩,fun px hpx=>?_⟩
  have nlp:l ≠ px:=qA8 gl hpx;have ntp:t1 ≠ px:=qA8 gt hpx;refine qHH (p:=px) (a:=r) (xs:=zs.map V.int) (fun j σ Hd=>∃ (v:Option V),σ=[v,some (.ref t)]/\Same Hc Hd/\Hd px=some (.lst (((zs.take j).filter fun z=>decide (z ∉ path)).map V.int))) ?_ ?_ ?_ ?_
  ·exact ⟨none,rfl,qA2 hpx _,qA1⟩
  ·rintro j σ Hd hj ⟨v,rfl,sd,_⟩;exact SqT.of (sd _ _ (sc _ _ h4))
  ·refine fun j y σ Hd hy hI_3=>opq fun G_3 hG_3=>?_;obtain ⟨v,rfl,sd,gp⟩:=hI_3;obtain ⟨z0,ez,rfl⟩:=qBE hy;refine hG_3 ?_;have hj:=(A6.mp ez).1;have lfl:=u8 (fun z=>decide (z ∉ path)) (zs.take j);rw [D7] at lfl;refine ⟨_,rfl,_,rfl,t,_,rfl,.inr (SqT.of ((sc.trans sd) _ _ hT)),rfl,qD4 path,_,rfl,?_⟩;rw [qFQ,D4,ez,E3,o5];by_cases cz:z0 ∈ path
   ·rw [decide_eq_true cz];refine iteF ?_;exact ⟨_,rfl,sd,by rw [gp];simp [cz]⟩
   ·rw [decide_eq_false cz];refine iteT ?_;exact ⟨_,rfl,_,gp,qAQ (by rw [A0];omega),_,rfl,qAB sd hpx,by rw [qA1];simp [cz]⟩
  refine fun σ Hd hI_4=>opq fun G_4 hG_4=>?_;obtain ⟨v,rfl,sd,gp⟩:=hI_4;refine hG_4 ?_;rw [A0,F4] at gp;have lfl:=u8 (fun z=>decide (z ∉ path)) zs;refine ⟨l,px,_,_,rfl,rfl,sd _ _ gl,gp,by rw [sizeLine_eq,A0,A0];omega,?_⟩
  rw [<- B6];refine ⟨_,_,rfl,qAB (sc.trans sd) hl,by rw [qA9 nt1];exact sd _ _ gt,qA1,by rw [B0];omega,fun z=>?_⟩
  rw [C2,hv z,V0,decide_eq_true_eq,D4,ew,E3]
  constructor
  ·rintro (⟨h1,u,h2,h3⟩ | ⟨h1,h2⟩)
   ·exact ⟨h1,u,S0 _ h2,h3⟩
   ·exact ⟨h2,wk,J8 _ B5,by rw [en];exact h1⟩
  ·refine fun hI_5=>opq fun G_5 hG_5=>?_;obtain ⟨h1,u,h2,h3⟩:=hI_5;refine hG_5 ?_;rcases C2.mp h2 with h | h
   ·exact .inl ⟨h1,u,h,h3⟩
   ·rw [B2.mp h,en] at h3;exact .inr ⟨h3,h1⟩
 ·refine fun σ Hc hI_6=>opq fun G_6 hG_6=>?_;obtain ⟨fs,v3,rfl,sc,gt,gl,lf,hv⟩:=hI_6;refine hG_6 ?_;rw [A0] at lf hv;rw [F4] at hv;rw [F2] at lf;refine hN1 _ _ ?_;refine ⟨_,rfl,l,fs,rfl,SqL.of gl,by omega,fun e he=>?_⟩
  have h64:(dedI fs).length<64:=by
   have:=F0 (qL0 fs) (l₂:=qBO 0 (Ae.length:Int)) fun z hz=>by
    obtain ⟨_,u,hu,hz2⟩:=(hv z).mp (mem_dedI.mp hz);have:=pin u (Q0 hu);have:=qD3 wf this.1 hz2;rw [mem_rangeI];omega
   rw [qEG] at this;omega
  refine ⟨e,dedI fs,rfl,qA1,h64,fun b ys hb hpm hs=>?_⟩;refine q b ys _ ((sc.trans (qA2 he _)).trans (qA2 hb _)) qA1 fun z=>?_;rw [hpm.mem_iff,mem_dedI,hv z,end_iff]
end
section
variable {P:Program} {w:World} {K:PySem.W.Frag} {mg:Str->Option Value} {base:Heap} {f:Addr} {fd:FuncData} {qQA:Addr} {qU3:FuncData}
theorem qO3:FnScope ["_law_net_here","_law_path","_law_thing"] ["_law_net_here","_law_path","_law_thing"] (qAE qG0):=⟨rfl,rfl,rfl,by decide +kernel,rfl,by decide +kernel,by decide +kernel⟩
theorem ok_Lis_side (F:Fun K "_law_is_side" "_law_is_side" qG0 f fd) (qQO:Clb P w K mg base 1 qQA qU3 "_law_hit" ["_law_net_here","_law_path"] qZG) (qA7:mg "isinstance" = none) (qAK:mg "tuple" = none) (qGB:mg "int" = none) (qDM:mg "bool" = none) (qB6:mg "len" = none) (qEN:mg "all" = none) (qQQ:mg "any" = none) (qIQ:mg "zip" = none):FnOk P w K mg base CX0 2 f fd ["_law_net_here","_law_path","_law_thing"] qPK:=by
 refine F.ok qO3 (fun vs H Q E h=>?_) (fun cdv A outer s H vs Q E hr h=>?_)
 ·obtain ⟨a,t,Ae,path,x,n,dt,rfl,_⟩:=h
  rfl
 obtain ⟨a,t,Ae,path,x,n,dt,rfl,PI,n60,p60,D,LD,q⟩:=h;have hu:=qGD hr;have hu0:=hr.units0;refine ⟨_,(qA4 (qBB (PW.pt (qH9 (qBZ (qCJ (qAA qAW rfl qA7 qAL (qA0 (pv 2) (qA0 (qC1 (v:=.ty "tuple") rfl qAK qB7 rfl) qA3))))) (qFJ (qAO (qI4 hu0) (pv 2) (qBF qA3) (qAU _))))) (qA6 (qAF qCH)) qAH) (qA4 (qBB (qBZ (qCJ (qAA (qG7 rfl) rfl qEN qL2 (qA0 (qEE rfl (lcs (own:=["_law_work"]) (fv:=[0]) (by kernel_rfl)) (qD0 (pv 2)) (fun z2=>qAD (i:=0) (qD7 (by kernel_rfl)) rfl (E8 rfl)) (fun z2=>qBA) (fun z2=>(qKP (qAA (qE7 (K:=K) rfl) rfl qA7 qAL (qA0 (pv 0) (qA0 (qC1 (v:=.ty "int") rfl qGB qNO rfl) qA3))) (qKP (qT0 (qAA (qE7 (K:=K) rfl) rfl qA7 qAL (qA0 (pv 0) (qA0 (qC1 (v:=.ty "bool") rfl qDM qLW rfl) qA3)))) (qMW (qPX qZY qVO qA5 (pv 0) (qAA (qHS (K:=K) rfl) rfl qB6 qBT (qA0 (pv 1) qA3)))))))) qA3)))) (qA6 (qAF qCH)) qAH) (qA4 (qBB (PW.pt (qH9 (qAO (qR4 hu0) (qB0 qB3 (pv 0) (qB0 qB3 (pv 2) qA5 (fun _ _=>rfl)) (fun _ _=>rfl)) (qBF qA3) (qAU _)) (qH9 (qCJ (qAA (qWH rfl) rfl qQQ qaQ (qA0 (qEE rfl (lcs (own:=["_law_work"]) (fv:=[1]) (by kernel_rfl)) (qD0 (pv 2)) (fun z3=>qAD (i:=0) (qD7 (by kernel_rfl)) rfl (E8 rfl)) (fun z3=>qBA) (fun z3=>(qEF (qX3 (K:=K) rfl) (pv 0) (pv 1) (by with_unfolding_all rfl)))) qA3))) (qFJ (qAO qD2 (qB0 qB3 (pv 2) (qR3 qKJ qA5) (fun _ _=>rfl)) (qB4 qQO hr rfl (qA0 (pv 0) (qA0 (pv 1) qA3))) (by with_unfolding_all rfl)))))) (qA6 (qAF qCH)) qAH) (qA6 (qAF (qAA (qG7 rfl) rfl qEN qL2 (qA0 (qEE rfl (lcs (own:=["_law_one","_law_other"]) (fv:=[0]) (by kernel_rfl)) (qSW rfl qIQ qUS (qA0 (pv 2) (qA0 (qB2 qKM (pv 2) (qBD qA5) qBK) qA3))) (fun z4=>qSX (K:=K) (n:=2) rfl rfl (qBQ (qAD (i:=0) (qD7 (by kernel_rfl)) rfl (E8 rfl)) (qBQ (qAD (i:=1) (qD7 (by kernel_rfl)) rfl (E8 rfl)) qGK)) rfl rfl) (fun z4=>qBA) (fun z4=>(qEF (qX3 (K:=K) rfl) (pv 0) (qB0 (qLM (K:=K) rfl) (pv 2) (pv 1) (fun _ _=>rfl)) (by with_unfolding_all rfl)))) qA3))))))),?_⟩
 try dsimp only [Cx.nox,Cx.wish,cxOf]
 obtain ⟨hN,wf,n400,hT,pne,lp,pin⟩:=id PI;obtain ⟨rs,hA,NL⟩:=id hN;have lrs:=C8 NL;obtain ⟨ty,tyo,k1,k2,k3⟩:=qIE (K:=K) D;have no:∀ {b:Bool},qDT Ae path dt=b->∀ Hx,Same H Hx->Q (.bl b) Hx:=fun e Hx sx=>by rw [<- e];exact q Hx sx
 refine cut fun N0 hN0=>?_;refine ⟨_,rfl,x,"tuple",ty,_,rfl,tyo,k3,_,rfl,?_⟩;cases c:tupB dt with
 | false=>
  refine iteT ?_;refine iteT ?_;exact no (by cases dt <;> first | rfl | cases c) H (.refl _)
 | true=>
  refine iteF ?_;obtain ⟨m,tt,xs,ds,rfl,rfl,rfl,ga,lx,el⟩:=qF6 D c;have ld:ds.length<=2000:=(LD true ds rfl).1;refine ⟨_,rfl,(by show 0<=sizeLine;decide),fun e0 he0=>?_⟩
  have s1:=qA2 he0 (.tup []);refine ⟨tt,e0,xs,rfl,rfl,SqT.of (s1 _ _ ga),SqT.of qA1,_,rfl,?_⟩;generalize Ag H e0 (.tup [])=H1 at s1 ⊢;by_cases ne0:ds=[]
  ·subst ne0;have ex:xs=[]:=M8.mp lx;subst ex;refine iteT ?_;exact no rfl H1 s1
  have xne:xs.isEmpty=false:=by cases xs with | nil=>exact absurd (M8.mp lx.symm) ne0 | cons _ _=>rfl
  have emp:ds.isEmpty=false:=by cases ds with | nil=>exact absurd rfl ne0 | cons _ _=>rfl
  rw [xne];refine iteF ?_;refine hN0 _ _ (cut fun N1 hN1=>?_);refine ⟨_,rfl,tt,rfl,⟨_,SqT.of (s1 _ _ ga)⟩,fun px hpx=>?_⟩;refine qHH (p:=px) (a:=tt) (xs:=xs) (fun i σ Hd=>∃ (v:Option V),σ=[v,some (.ref a)]/\Same H1 Hd/\Hd px=some (.lst (((ds.take i).map (qCP (Ae.length:Int))).map V.bl))) ?_ ?_ ?_ ?_
  ·exact ⟨none,rfl,qA2 hpx _,qA1⟩
  ·rintro i σ Hd hi ⟨v,rfl,sd,_⟩;exact SqT.of ((s1.trans sd) _ _ ga)
  ·refine fun i x' σ Hd hx hI_8=>opq fun G_8 hG_8=>?_;obtain ⟨v,rfl,sd,gp⟩:=hI_8;refine hG_8 ?_;have hi:=(A6.mp hx).1;have ed:=A5 (show i<ds.length by omega)
   generalize ds[i]=d1 at ed;have sd1:=s1.trans sd;have Di:=DatN.same sd1 (el i x' _ hx ed);obtain ⟨ty1,tyo1,j1,j2,j3⟩:=qIE (K:=K) Di;have fin:∀ b:Bool,qCP (Ae.length:Int) d1=b->∃ ys,Hd px=some (.lst ys)/\ys.length<sizeLine/\∃ v:Option V,[some x',some (.ref a)]=[v,some (.ref a)]/\Same H1 (Ag Hd px (.lst (ys++[.bl b])))/\(Ag Hd px (.lst (ys++[.bl b]))) px=some (.lst (((ds.take (i+1)).map (qCP (Ae.length:Int))).map V.bl)):=by
    intro b eb;refine ⟨_,gp,qAQ (by rw [A0,A0,D7];omega),_,rfl,qAB sd hpx,?_⟩
    rw [qA1,D4,ed,E3,B6,B6,<- eb]
    rfl
   refine ⟨_,rfl,x',"int",ty1,_,rfl,tyo1,j1,_,rfl,?_⟩;cases c1:(numB d1 || qK6 d1) with
   | false=>
    refine iteF ?_;exact fin false (by cases d1 <;> first | rfl | cases c1)
   | true=>
    refine iteT ?_;refine ⟨_,rfl,x',"bool",ty1,_,rfl,tyo1,j2,?_⟩;refine ⟨_,rfl,_,rfl,?_⟩;cases c2:qK6 d1 with
    | true=>
     refine iteF ?_;exact fin false (by cases d1 <;> first | rfl | cases c2)
    | false=>
     refine iteT ?_;have num:numB d1=true:=by rw [c2,Bool.or_false] at c1;exact c1
     obtain ⟨i1,rfl,rfl⟩:=qJV Di num;refine ⟨_,rfl,_,_,rfl,rfl,_,rfl,?_⟩;cases c3:decide ((0:Int)<=i1) with
     | false=>
      refine iteF ?_;exact fin false (by show (decide (0<=i1) && _)=false;rw [c3];rfl)
     | true=>
      refine iteT ?_;refine ⟨_,rfl,a,_,rfl,.inr (SqT.of (sd1 _ _ hA)),?_⟩;rw [A0,lrs];refine ⟨_,_,rfl,rfl,?_⟩;exact fin _ (by show (decide (0<=i1) && decide (i1<_))=_;rw [c3];rfl)
  refine fun σ Hd hI_9=>opq fun G_9 hG_9=>?_;obtain ⟨v,rfl,sd,gp⟩:=hI_9;refine hG_9 ?_;rw [lx,F4] at gp;refine ⟨px,_,rfl,SqL.of gp,_,rfl,?_⟩;have ea:((ds.map (qCP (Ae.length:Int))).all id)=ds.all (qCP (Ae.length:Int)):=by rw [u7];rfl
  rw [ea];have s01:=s1.trans sd;cases cb:ds.all (qCP (Ae.length:Int)) with
  | false=>
   refine iteT ?_;refine no ?_ Hd s01;unfold qDT;have:qGC Ae (.tuple ds)=false:=by
    show (!ds.isEmpty && _ && _)=false;rw [cb,P7,P3]
   rw [this];rfl
  | true=>
   refine iteF ?_;obtain ⟨zs,rfl,zin⟩:=qI8 cb;have ex:=qQB lx el;subst ex;have zne:zs ≠ []:=fun z=>by subst z;exact ne0 rfl
   have es:=qMG (path:=path) zne zin;rw [es] at no;obtain ⟨zl,hzl⟩:∃ zl,zs.getLast?=some zl:=⟨_,d3 zne⟩;have el1:(zs.map V.int).getLast?=some (.int zl):=by rw [A32,hzl];rfl
   have eld:zs.getLastD 0=zl:=by rw [Q8,hzl];rfl
   rw [eld] at no;have lz:zs.length<=2000:=by rw [A0] at ld;exact ld
   obtain ⟨z0,zr,ezs⟩:∃ z0 zr,zs=z0::zr:=by cases zs with | nil=>exact absurd rfl zne | cons a b=>exact ⟨a,b,rfl⟩
   have h0z:(zs.map V.int)[(0:Int).toNat]?=some (.int z0):=by rw [ezs];rfl
   refine hN1 _ _ (cut fun N2 hN2=>?_);have sb:=zin z0 (by rw [ezs];exact B5)
   have hw:z0.toNat<Ae.length:=by omega
   have hz:=A5 hw;obtain ⟨r,h3,h4⟩:=NL.get hz;have en:=qBL hz;generalize Ae[z0.toNat]=ys at h4 hz en;refine ⟨_,rfl,_,rfl,tt,_,_,_,rfl,rfl,SqT.of (s01 _ _ ga),qAV (J7 0) h0z,a,_,_,_,rfl,rfl,SqT.of (s01 _ _ hA),qAV sb.1 (by rw [C4,h3];rfl),(by show 0<=sizeLine;decide),fun e2 he2=>?_⟩
   have s2:=qA2 he2 (.tup []);have s02:=s01.trans s2;refine ⟨r,e2,_,rfl,rfl,SqT.of (s02 _ _ h4),SqT.of qA1,_,rfl,?_⟩;generalize Ag Hd e2 (.tup [])=H2 at s2 s02 ⊢;cases ys with
   | cons y0 yr=>
    refine iteT ?_;refine iteT ?_;refine no ?_ H2 s02;unfold qDP;rw [show zs.headD 0=z0 by rw [ezs];rfl,en]
    simp
   | nil=>
    refine iteF ?_;refine ⟨_,rfl,tt,rfl,⟨_,SqT.of (s02 _ _ ga)⟩,fun pa hpa=>?_⟩;refine qHH (p:=pa) (a:=tt) (xs:=zs.map V.int) (fun i σ He=>∃ (v:Option V),σ=[v,some (.ref t)]/\Same H2 He/\He pa=some (.lst (((zs.take i).map fun z=>decide (z ∈ path)).map V.bl))) ?_ ?_ ?_ ?_
    ·exact ⟨none,rfl,qA2 hpa _,qA1⟩
    ·rintro i σ He hi ⟨v,rfl,se,_⟩;exact SqT.of ((s02.trans se) _ _ ga)
    ·refine fun i x' σ He hx hI_11=>opq fun G_11 hG_11=>?_;obtain ⟨v,rfl,se,gpa⟩:=hI_11;obtain ⟨y1,ey,rfl⟩:=qBE hx;refine hG_11 ?_;have hi:=(A6.mp ey).1;refine ⟨_,rfl,_,rfl,t,_,rfl,.inr (SqT.of ((s02.trans se) _ _ hT)),rfl,qD4 path,_,gpa,qAQ (by rw [A0,A0,D7];omega),_,rfl,qAB se hpa,?_⟩
     rw [qA1,D4,ey,E3,B6,B6];show some (HO.lst (_++[V.bl (inV (.int y1) (path.map V.int))]))=_;rw [qFQ]
     rfl
    refine fun σ He hI_12=>opq fun G_12 hG_12=>?_;obtain ⟨v,rfl,se,gpa⟩:=hI_12;refine hG_12 ?_;rw [A0,F4] at gpa;refine ⟨pa,_,rfl,SqL.of gpa,_,rfl,?_⟩;have s03:=s02.trans se;have eany:((zs.map fun z=>decide (z ∈ path)).any id)=!(zs.all fun x=>decide (x ∉ path)):=by
     rw [List.any_map,Q2,B28,W9,L9,ne_eq,E5]
     constructor
     ·refine fun hI_13 h3=>opq fun G_13 hG_13=>?_;obtain ⟨z,h1,h2⟩:=hI_13;refine hG_13 ?_;exact of_decide_eq_true (h3 z h1) (of_decide_eq_true h2)
     ·intro h;refine P9 fun n=>h fun z hz=>decide_eq_true fun y=>n ⟨z,hz,decide_eq_true y⟩
    rw [eany];cases call:(zs.all fun x=>decide (x ∉ path)) with
    | false=>
     refine iteT ?_;refine iteT ?_;exact no (by rw [call,P7]) He s03
    | true=>
     rw [call,V4] at no;refine iteF ?_;refine ⟨_,rfl,_,rfl,tt,_,_,_,rfl,rfl,SqT.of (s03 _ _ ga),qGS el1,?_⟩;have PI3:qHT He a t Ae path:=⟨hN.same s03,wf,n400,s03 _ _ hT,pne,lp,pin⟩;refine ⟨_,rfl,_,rfl,a,t,Ae,path,rfl,PI3,n60,p60,fun lh hz2 H4 s4 glh hmem=>?_⟩;refine ⟨lh,_,rfl,.inl (SqL.of glh),rfl,qD4 hz2,_,rfl,?_⟩;rw [qFQ];have s04:=s03.trans s4;by_cases ce:zl ∈ hz2
     ·have ie:=(hmem zl).mp ce;rw [ie,V4] at no;rw [decide_eq_true ce];refine iteF ?_;refine hN2 _ _ ?_;have lz1:1<=zs.length:=W6.mpr zne;refine ⟨_,rfl,_,rfl,_,rfl,tt,_,rfl,SqT.of (s04 _ _ ga),?_,fun t2 ht2=>?_⟩
      ·rw [A0,show (1:Int)=((1:Nat):Int) from rfl,HT.sIx_nat];omega
      rw [qCZ,show (1:Int)=((1:Nat):Int) from rfl,qEL _ _ lz1];have s5:=qA2 ht2 (.tup ((zs.drop 1).map V.int));have g5:(Ag H4 t2 (.tup ((zs.drop 1).map V.int))) t2=some (.tup ((zs.drop 1).map V.int)):=qA1;have s05:=s04.trans s5;generalize Ag H4 t2 (.tup ((zs.drop 1).map V.int))=H5 at s5 g5 s05 ⊢;refine ⟨true,tt,t2,rfl,⟨_,SqT.of (s05 _ _ ga)⟩,⟨_,SqT.of g5⟩,fun pz hpz=>?_⟩;refine qYG (p:=pz) (b:=true) (l:=tt) (m:=t2) (xs:=zs.map V.int) (ys:=(zs.drop 1).map V.int) (by rw [A0,A0,F2];omega) (fun j σ Hy=>∃ (v1 v2:Option V) (bs:List Bool),σ=[v1,v2,some (.ref a)]/\Same H5 Hy/\Hy pz=some (.lst (bs.map V.bl))/\bs.length=j/\(bs.all id=true ↔ ∀ (i:Nat) x y,i<j->zs[i]?=some x->zs[i+1]?=some y->x ∈ nd Ae y)) ?_ (fun j σ Hy _ h=>?_) ?_ ?_
      ·exact ⟨none,none,[],rfl,qA2 hpz _,qA1,rfl,⟨fun _ i _ _ h=>absurd h (o1 _),fun _=>rfl⟩⟩
      ·obtain ⟨_,_,_,_,sy,_⟩:=h;exact ⟨SqT.of ((s05.trans sy) _ _ ga),SqT.of (sy _ _ g5)⟩
      ·refine fun j x y σ Hy T hx hy hI_14 hT0=>opq fun G_14 hG_14=>?_;obtain ⟨v1,v2,bs,rfl,sy,gpz,lb,ab⟩:=hI_14;obtain ⟨f1,ef,rfl⟩:=qBE hx;obtain ⟨s1',es1,rfl⟩:=qBE hy;refine hG_14 ?_;rw [A16,m6] at es1;have hj:=(A6.mp es1).1;have sT:=qA2 hT0 (.tup [.int f1,.int s1']);have gT:SqT K (Ag Hy T (.tup [.int f1,.int s1'])) T [.int f1,.int s1']:=SqT.of qA1;have gpz2:=sT _ _ gpz;have sy2:=sy.trans sT;generalize Ag Hy T (.tup [.int f1,.int s1'])=H6 at sT gT gpz2 sy2 ⊢;refine ⟨T,_,rfl,gT,rfl,_,_,rfl,_,_,rfl,rfl,?_⟩;have sb1:=zin s1' (C5 es1);have hw1:s1'.toNat<Ae.length:=by omega
       have hz1:=A5 hw1;obtain ⟨r1,h31,h41⟩:=NL.get hz1;have en1:=qBL hz1;generalize Ae[s1'.toNat]=ys1 at h41 hz1 en1;have s06:=s05.trans sy2;refine ⟨_,rfl,_,rfl,_,rfl,a,_,_,_,rfl,rfl,SqT.of (s06 _ _ hA),qAV sb1.1 (by rw [C4,h31];rfl),r1,_,rfl,.inr (SqT.of (s06 _ _ h41)),rfl,qD4 ys1,_,gpz2,qAQ (by rw [A0];omega),?_⟩
       refine ⟨_,_,bs++[decide (f1 ∈ ys1)],rfl,qAB sy2 hpz,?_,by rw [B0,lb];rfl,?_⟩
       ·rw [qA1,B6];show some (HO.lst (_++[V.bl (inV (.int f1) (ys1.map V.int))]))=_;rw [qFQ]
        rfl
       ·rw [A74,C7,ab]
        constructor
        ·refine fun hI_15 i x y hi e1 e2=>opq fun G_15 hG_15=>?_;obtain ⟨h1,h2⟩:=hI_15;refine hG_15 ?_;by_cases e:i=j
         ·subst e;rw [ef] at e1;rw [es1] at e2;cases e1;cases e2;rw [en1];simpa using h2
         ·exact h1 i x y (by omega) e1 e2
        ·intro h;refine ⟨fun i x y hi e1 e2=>h i x y (by omega) e1 e2,?_⟩
         have:=h j f1 s1' (by omega) ef es1
         rw [en1] at this;simpa using this
      ·refine fun σ Hy hI_16=>opq fun G_16 hG_16=>?_;obtain ⟨v1,v2,bs,rfl,sy,gpz,lb,ab⟩:=hI_16;refine hG_16 ?_;rw [A0,F2] at ab;refine ⟨pz,bs,rfl,SqL.of gpz,?_⟩;refine no ?_ Hy (s05.trans sy);unfold qDP;rw [show zs.headD 0=z0 by rw [ezs];rfl,en,List.isEmpty_nil,V4,Q2,ab,chain_iff]
       exact ⟨fun h i x y _ e1 e2=>h i x y e1 e2,fun h i x y e1 e2=>h i x y (by have:=(A6.mp e2).1;omega) e1 e2⟩
     ·rw [decide_eq_false ce];refine iteT ?_;have ie:qDU Ae path zl=false:=L9.mpr fun z=>ce ((hmem zl).mpr z);exact no (by rw [ie,P7]) H4 s04
end
section
variable {P:Program} {w:World} {K:PySem.W.Frag} {mg:Str->Option Value} {base:Heap} {f:Addr} {fd:FuncData} {qG6:Addr} {qJU:FuncData}
theorem sc_Lare_sides:FnScope ["_law_net_here","_law_path","_law_thing","_law_works","_law_side"] ["_law_net_here","_law_path","_law_thing"] (qAE qDX):=⟨rfl,rfl,rfl,by decide +kernel,rfl,by decide +kernel,by decide +kernel⟩
theorem ok_Lare_sides (F:Fun K "_law_are_sides" "_law_are_sides" qDX f fd) (qGA:Clb P w K mg base 2 qG6 qJU "_law_is_side" ["_law_net_here","_law_path","_law_thing"] qPK) (qA7:mg "isinstance" = none) (qBY:mg "list" = none) (qB6:mg "len" = none) (qEN:mg "all" = none) (qGI:mg "set" = none):FnOk P w K mg base CX0 3 f fd ["_law_net_here","_law_path","_law_thing"] qJE:=by
 refine F.ok sc_Lare_sides (fun vs H Q E h=>?_) (fun cdv A outer s H vs Q E hr h=>?_)
 ·obtain ⟨a,t,Ae,path,x,n,dt,rfl,_⟩:=h
  rfl
 obtain ⟨a,t,Ae,path,x,n,dt,rfl,PI,n60,p60,l60,D,LD,q⟩:=h;have hu:=qGD hr;have hu0:=hr.units0;refine ⟨_,(qA4 (qBB (PW.pt (qH9 (qBZ (qCJ (qAA qAW rfl qA7 qAL (qA0 (pv 2) (qA0 (qC1 (v:=.ty "list") rfl qBY qGR rfl) qA3))))) (qFJ (qBZ (qCJ (qAA (qG7 rfl) rfl qEN qL2 (qA0 (qEE rfl (lcs (own:=["_law_side"]) (fv:=[0,1]) (by kernel_rfl)) (qCR (pv 2)) (fun z1=>qAD (i:=0) (qD7 (by kernel_rfl)) rfl (E8 rfl)) (fun z1=>qBA) (fun z1=>(qB4 qGA hr rfl (qA0 (pv 1) (qA0 (pv 2) (qA0 (pv 0) qA3)))))) qA3))))))) (qA6 (qAF qCH)) qAH) (qA4 (qAG (i:=3) sc_Lare_sides.nd rfl (E8 rfl) (qAR qA3)) (qA4 (qCE F3 rfl (qCR (pv 2)) (qAD (i:=4) sc_Lare_sides.nd rfl (E8 rfl)) (qA6 (qC0 (qGL E4 m7 m8 qR5 (pv 3) (qA0 (pv 4) qA3))))) (qA6 (qAF (qEF qHC (qAA qAI rfl qB6 qBT (qA0 (pv 3) qA3)) (qAA qUR rfl qB6 qBT (qA0 (qAN (qNM rfl) rfl qGI qQI (qA0 (pv 3) qA3)) qA3)) (qAU _))))))),?_⟩
 try dsimp only [Cx.nox,Cx.wish,cxOf]
 obtain ⟨hN,wf,n400,hT,pne,lp,pin⟩:=id PI;obtain ⟨ty,tyo,k1⟩:=qPE (K:=K) D;have PIs:∀ {H':Hp},Same H H'->qHT H' a t Ae path:=fun k=>⟨hN.same k,wf,n400,k _ _ hT,pne,lp,pin⟩;refine cut fun N0 hN0=>?_;refine ⟨_,rfl,x,"list",ty,_,rfl,tyo,k1,_,rfl,?_⟩;cases c:lstB dt with
 | false=>
  refine iteT ?_;refine iteT ?_;have e1:qDN Ae path dt=false:=by cases dt <;> first | rfl | cases c
  rw [e1] at q;exact q H (.refl _)
 | true=>
  refine iteF ?_;obtain ⟨m,ll,xs,ds,rfl,rfl,rfl,ga,lx,el⟩:=qI6 D c;have ld:=LD false ds rfl;have ld60:=l60 ds rfl;refine ⟨_,rfl,ll,rfl,⟨_,SqL.of ga⟩,fun px hpx=>?_⟩;refine qFP (p:=px) (a:=ll) (xs:=xs) (fun i σ Hd=>∃ (v:Option V),σ=[v,some (.ref a),some (.ref t)]/\Same H Hd/\Hd px=some (.lst (((ds.take i).map (qDT Ae path)).map V.bl))) ?_ ?_ ?_ ?_
  ·exact ⟨none,rfl,qA2 hpx _,qA1⟩
  ·rintro i σ Hd hi ⟨v,rfl,sd,_⟩;exact SqL.of (sd _ _ ga)
  ·refine fun i x' σ Hd hx hI_2=>opq fun G_2 hG_2=>?_;obtain ⟨v,rfl,sd,gp⟩:=hI_2;refine hG_2 ?_;have hi:=(A6.mp hx).1;have ed:=A5 (show i<ds.length by omega)
   have hmem:=C5 ed;generalize ds[i]=d1 at ed hmem;have Di:=DatN.same sd (el i x' _ hx ed);refine ⟨_,rfl,_,rfl,_,rfl,a,t,Ae,path,x',m,d1,rfl,PIs sd,n60,p60,Di,ld.2 d1 hmem,fun H2 s2=>?_⟩;have gp2:=s2 _ _ gp;refine ⟨_,gp2,qAQ (by rw [A0,A0,D7];omega),_,rfl,qAB (sd.trans s2) hpx,?_⟩
   rw [qA1,D4,ed,E3,B6,B6]
   rfl
  refine fun σ Hd hI_3=>opq fun G_3 hG_3=>?_;obtain ⟨v,rfl,sd,gp⟩:=hI_3;refine hG_3 ?_;rw [lx,F4] at gp;refine ⟨px,_,rfl,SqL.of gp,_,rfl,?_⟩;have ea:((ds.map (qDT Ae path)).all id)=ds.all (qDT Ae path):=by rw [u7];rfl
  rw [ea];have eq0:qDN Ae path (.list ds)=(ds.all (qDT Ae path) && decide ((ds.flatMap qAX).Nodup)):=rfl;rw [eq0] at q;cases ca:ds.all (qDT Ae path) with
  | false=>
   refine iteT ?_;rw [ca,P3] at q;exact q Hd sd
  | true=>
   rw [ca,L8] at q;refine iteF ?_;refine hN0 _ _ (cut fun N1 hN1=>?_);refine ⟨(by show 0<=sizeLine;decide),fun lw hlw=>?_⟩
   have s2:=qA2 hlw (.lst []);have g2:(Ag Hd lw (.lst [])) lw=some (.lst (([]:List Int).map V.int)):=qA1;have flw:H lw=none:=sd.free hlw;have sd2:=sd.trans s2;generalize Ag Hd lw (.lst [])=H2 at s2 g2 sd2 ⊢;refine hN1 _ _ (cut fun N2 hN2=>?_);refine ⟨_,rfl,ll,rfl,⟨_,SqL.of (sd2 _ _ ga)⟩,qHM (a:=ll) (xs:=xs) (fun i σ Hc=>∃ (v4:Option V),σ=[some (.ref a),some (.ref t),some (.ref ll),some (.ref lw),v4]/\Same H Hc/\Hc lw=some (.lst (((ds.take i).flatMap qAX).map V.int))/\((ds.take i).flatMap qAX).length<=60 * i)
    ⟨none,rfl,sd2,g2,B3 _⟩ (fun i σ Hc _ hP=>by obtain ⟨_,_,sc,_⟩:=hP;exact SqL.of (sc _ _ ga)) ?_ ?_⟩
   ·refine fun i x' σ Hc hx hI_4=>opq fun G_4 hG_4=>?_;obtain ⟨v4,rfl,sc,gl,lf⟩:=hI_4;refine hG_4 ?_;have hi:=(A6.mp hx).1;have ed:=A5 (show i<ds.length by omega)
    have hmem:=C5 ed;generalize ds[i]=d1 at ed hmem;have Di:=DatN.same sc (el i x' _ hx ed);obtain ⟨tz,zs,rfl,ei,gz,lz⟩:=qVC wf Di (E5.mp ca d1 hmem);have ef:(ds.take (i+1)).flatMap qAX=(ds.take i).flatMap qAX++zs:=by rw [D4,ed,E3,A03,A31,ei,B46,R8]
    refine ⟨_,rfl,.inl ⟨rfl,_,SqL.of gl⟩,_,rfl,lw,tz,_,_,rfl,rfl,gl,SqT.of gz,by rw [sizeLine_eq,A0,A0];omega,?_⟩
    refine ⟨_,rfl,qAB sc flw,by rw [qA1,ef,B6],by rw [ef,B0];omega⟩
   ·refine fun σ Hc hI_5=>opq fun G_5 hG_5=>?_;obtain ⟨v4,rfl,sc,gl,lf⟩:=hI_5;refine hG_5 ?_;rw [lx] at gl lf;rw [F4] at gl lf;refine hN2 _ _ ?_;generalize ds.flatMap qAX=zs at gl lf q;refine ⟨_,rfl,lw,_,rfl,.inl (SqL.of gl),?_⟩;rw [A0];refine ⟨_,rfl,lw,zs,rfl,SqL.of gl,by omega,fun e he=>?_⟩
    refine ⟨e,dedI zs,rfl,qA1,rfl,?_⟩;have ev:decide (V.int ((zs.length:Nat):Int)=V.int (((dedI zs).length:Nat):Int))=decide zs.Nodup:=by
     refine decide_eq_decide.mpr ⟨fun z=>?_,fun z=>?_⟩
     ·have:=V.int.inj z;exact ded_nodup.mp (by omega)
     ·rw [ded_nodup.mpr z]
    rw [ev];exact q _ (sc.trans (qA2 he _))
end
section
variable {P:Program} {w:World} {K:PySem.W.Frag} {mg:Str->Option Value} {base:Heap} {f:Addr} {fd:FuncData} {qCV qG5:Addr} {qE3 qJT:FuncData}
theorem qMN:FnScope ["net","work"] ["net","work"] (qAE qEU):=⟨rfl,rfl,rfl,by decide +kernel,rfl,by decide +kernel,by decide +kernel⟩
theorem ok_cut_paper (F:Fun K "cut_paper" "cut_paper" qEU f fd) (qBW:Clb P w K mg base 2 qCV qE3 "all_paths" ["net","work"] qH3) (qG8:Clb P w K mg base 3 qG5 qJT "sides_of" ["net","path"] qSD):FnOk P w K mg base CX0 4 f fd ["net","work"] qNZ:=by
 refine F.ok qMN (fun vs H Q E h=>?_) (fun cdv A outer s H vs Q E hr h=>?_)
 ·obtain ⟨a,Ae,work,rfl,_⟩:=h
  rfl
 obtain ⟨a,Ae,work,rfl,hN,wf,n60,w0,w1,few,q⟩:=h;refine ⟨_,(qA6 (qAF (qEE rfl (lcs (own:=["path"]) (fv:=[0]) (by kernel_rfl)) (qCR (qB4 qBW hr rfl (qA0 (pv 0) (qA0 (pv 1) qA3)))) (fun z1=>qAD (i:=0) (qD7 (by kernel_rfl)) rfl (E8 rfl)) (fun z1=>qBA) (fun z1=>(qBF (qA0 (pv 0) (qA0 (qB4 qG8 hr rfl (qA0 (pv 1) (qA0 (pv 0) qA3))) qA3))))))),?_⟩
 try dsimp only [Cx.nox,Cx.wish,cxOf]
 refine ⟨_,rfl,_,rfl,a,Ae,work,rfl,hN,wf,by omega,w0,w1,few,fun lP ts H1 s1 fl1 TL SP l62 _=>?_⟩
 obtain ⟨rp,gP,NP⟩:=TL;have lrp:=C8 NP;obtain ⟨_,pr⟩:=SP.some wf w0 w1;refine ⟨lP,rfl,⟨_,SqL.of gP⟩,fun px hpx=>?_⟩;have hN1:=hN.same s1;refine qFP (p:=px) (a:=lP) (xs:=rp.map V.ref) (fun j σ Hd=>∃ (v:Option V) (rs:List Addr) (ps:List (List Int × List (List Int))),σ=[v,some (.ref a)]/\Same H1 Hd/\Hd px=some (.lst (rs.map V.ref))/\Paired (RowN Hd px) rs ps/\ps.map (·.1)=ts.take j/\∀ p ∈ ps,SidesOf Ae p.1 p.2) ?_ ?_ ?_ ?_
 ·exact ⟨none,[],[],rfl,qA2 hpx _,qA1,.nil,by simp,fun p hp=>nomatch hp⟩
 ·rintro j σ Hd hj ⟨v,rs,ps,rfl,sd,_⟩;exact SqL.of (sd _ _ gP)
 ·refine fun j x σ Hd hx hI_2=>opq fun G_2 hG_2=>?_;obtain ⟨v,rs,ps,rfl,sd,gp,PA,em,so⟩:=hI_2;obtain ⟨tp,er,rfl⟩:=qGN hx;obtain ⟨path,ep,gt⟩:=qCF NP er;obtain ⟨pne,R⟩:=pr path (C5 ep);refine hG_2 ?_;have lpa:=R.len;have hj:=(A6.mp ep).1;have lps:=C8 PA;have lm:ps.length=(ts.take j).length:=by rw [<- em,A0]
  rw [D7] at lm;refine ⟨_,rfl,_,rfl,_,rfl,a,tp,Ae,path,rfl,⟨hN1.same sd,wf,by omega,sd _ _ gt,pne,by omega,R.in_⟩,n60,fun ls rss ss Hx sx fl gl TT SO=>?_⟩
  refine ⟨(by show 2<=sizeLine;decide),fun r hr1=>?_⟩
  have sr:=qA2 hr1 (.tup [.ref tp,.ref ls]);have sxr:=sx.trans sr;have gp':=sxr _ _ gp;have nl:ls ≠ px:=fun z=>by rw [z,gp] at fl;cases fl
  have hR:RowN (Ag Hx r (.tup [.ref tp,.ref ls])) px r (path,ss):=⟨tp,ls,rss,qA1,sxr _ _ (sd _ _ gt),sr _ _ gl,Paired.mapP TT fun _ _ e=>sr _ _ e,nl⟩;have PA':Paired (RowN (Ag Hx r (.tup [.ref tp,.ref ls])) px) (rs++[r]) (ps++[(path,ss)]):=qBH (Paired.mapP PA fun _ _ e=>e.same sxr) hR;generalize Ag Hx r (.tup [.ref tp,.ref ls])=Hy at sr sxr gp' hR PA' ⊢;refine ⟨_,gp',qAQ (by rw [A0];omega),?_⟩
  rw [qCA];refine ⟨_,rs++[r],ps++[(path,ss)],rfl,qAB (sd.trans sxr) hpx,qA1,Paired.mapP PA' fun _ _ e=>e.put gp',?_,fun p hp=>?_⟩
  ·rw [B6,em,D4,ep]
   rfl
  ·rcases C2.mp hp with h | h
   ·exact so p h
   ·rw [B2.mp h];exact SO
 refine fun σ Hd hI_3=>opq fun G_3 hG_3=>?_;obtain ⟨v,rs,ps,rfl,sd,gp,PA,em,so⟩:=hI_3;refine hG_3 ?_;rw [A0,lrp,F4] at em;exact q px rs ps _ (s1.trans sd) (s1.free hpx) gp (Paired.mapP PA fun _ _ e=>e.row) ⟨by rw [em];exact SP,so⟩
end
section
variable {P:Program} {w:World} {K:PySem.W.Frag} {mg:Str->Option Value} {base:Heap} {f:Addr} {fd:FuncData} {qCU:Addr} {qE2:FuncData}
theorem qMO:FnScope ["net","work"] ["net","work"] (qAE qEV):=⟨rfl,rfl,rfl,by decide +kernel,rfl,by decide +kernel,by decide +kernel⟩
theorem ok_cut_bound (F:Fun K "cut_bound" "cut_bound" qEV f fd) (qBV:Clb P w K mg base 4 qCU qE2 "cut_paper" ["net","work"] qNZ) (qB6:mg "len" = none) (qGJ:mg "min" = none):FnOk P w K mg base CX0 5 f fd ["net","work"] qSH:=by
 refine F.ok qMO (fun vs H Q E h=>?_) (fun cdv A outer s H vs Q E hr h=>?_)
 ·obtain ⟨a,Ae,work,rfl,_⟩:=h
  rfl
 obtain ⟨a,Ae,work,rfl,hN,wf,n60,w0,w1,few,q⟩:=h;refine ⟨_,(qA4 (qBB (qBZ (qDZ (qB0 qB3 (pv 0) (pv 1) (fun _ _=>rfl)) (fun _=>rfl))) (qA6 (qAF qA5)) qAH) (qA6 (qAF (qAM qCG qA5 (qAA (qUQ rfl) rfl qGJ qQJ (qA0 (qEE rfl (lcs (own:=["pair"]) (fv:=[]) (by kernel_rfl)) (qCR (qB4 qBV hr rfl (qA0 (pv 0) (qA0 (pv 1) qA3)))) (fun z1=>qAD (i:=0) (qD7 (by kernel_rfl)) rfl (E8 rfl)) (fun z1=>qBA) (fun z1=>(qAA (qHS (K:=K) rfl) rfl qB6 qBT (qA0 (qB0 (qLM (K:=K) rfl) (pv 0) qA5 (fun _ _=>rfl)) qA3)))) qA3)))))),?_⟩
 try dsimp only [Cx.nox,Cx.wish,cxOf]
 refine cut fun N0 hN0=>?_;obtain ⟨zs,ez⟩:∃ zs,Ae[work.toNat]?=some zs:=⟨_,A5 (by omega)⟩
 obtain ⟨ra,r,hA,lra,er,hr0⟩:=hN.get ez;refine ⟨_,rfl,_,rfl,a,_,_,_,rfl,rfl,SqT.of hA,qAV w0 er,_,.inr (.inl ⟨_,SqT.of hr0,rfl⟩),?_⟩;cases zs with
 | nil=>exact iteT (q 1 H (.refl _) (by omega) (by omega))
 | cons z0 zr=>
  refine iteF ?_;refine hN0 _ _ ?_;refine ⟨_,rfl,_,rfl,a,Ae,work,rfl,hN,wf,n60,w0,w1,few,fun l rs ps H1 s1 fl gl PA ok=>?_⟩;have lps:=C8 PA;obtain ⟨p1,_⟩:=ok.1.some wf w0 w1;rw [A0] at p1;have l62:ps.length<=62:=by
   have al:((aP Ae [work]).length:Int)=cn Ae work:=qL3 wf _ [work] rfl w0;have:=ok.1.1.length_eq;rw [A0] at this;omega
  refine ⟨l,rfl,⟨_,SqL.of gl⟩,fun px hpx=>?_⟩;refine qFP (p:=px) (a:=l) (xs:=rs.map V.ref) (fun j σ Hd=>∃ (v:Option V) (ns:List Int),σ=[v]/\Same H1 Hd/\Hd px=some (.lst (ns.map V.int))/\ns.length=j/\∀ n ∈ ns,0<=n/\n<=60) ?_ ?_ ?_ ?_
  ·exact ⟨none,[],rfl,qA2 hpx _,qA1,rfl,fun n hn=>nomatch hn⟩
  ·rintro j σ Hd hj ⟨v,ns,rfl,sd,_⟩;exact SqL.of (sd _ _ gl)
  ·refine fun j x σ Hd hx hI_2=>opq fun G_2 hG_2=>?_;obtain ⟨v,ns,rfl,sd,gp,ln,nn⟩:=hI_2;obtain ⟨r1,er1,rfl⟩:=qGN hx;refine hG_2 ?_;have hj:=(A6.mp er1).1;obtain ⟨p,ep,tp,ls,rss,g1,g2,g3,TT⟩:=qCF PA er1;have sl:=((ok.2 p (C5 ep)).are wf).2.2;have lr:=C8 TT;refine ⟨_,rfl,r1,_,_,_,rfl,rfl,SqT.of (sd _ _ g1),rfl,ls,_,rfl,.inl (SqL.of (sd _ _ g3)),?_⟩;refine ⟨_,gp,qAQ (by rw [A0];omega),_,ns++[((rss.map V.ref).length:Int)],rfl,qAB sd hpx,by rw [qA1,B6];rfl,by rw [B0,ln];rfl,fun n hn=>?_⟩
   rcases C2.mp hn with h | h
   ·exact nn n h
   ·rw [B2.mp h,A0];omega
  refine fun σ Hd hI_3=>opq fun G_3 hG_3=>?_;obtain ⟨v,ns,rfl,sd,gp,ln,nn⟩:=hI_3;refine hG_3 ?_;rw [A0] at ln;obtain ⟨m,em⟩:=qYD (l:=ns) (fun z=>by rw [z] at ln;simp at ln;omega)
  have hm:=(qVW em).1;refine ⟨px,ns,m,rfl,SqL.of gp,em,_,_,rfl,rfl,?_⟩;have:=nn m hm;exact q _ Hd (s1.trans sd) (by omega) (by omega)
end
section
variable {P:Program} {w:World} {K:PySem.W.Frag} {mg:Str->Option Value} {base:Heap} {f:Addr} {fd:FuncData} {qEJ qDD:Addr} {qG3 qGE:FuncData}
theorem qLB:FnScope ["net","work","many","thing"] ["net","work","many","thing"] (qAE qDW):=⟨rfl,rfl,rfl,by decide +kernel,rfl,by decide +kernel,by decide +kernel⟩
theorem ok_shows_pair (F:Fun K "shows_pair" "shows_pair" qDW f fd) (qD5:Clb P w K mg base 3 qEJ qG3 "is_path" ["net","thing"] qL9) (qDH:Clb P w K mg base 4 qDD qGE "shows_sides" ["net","path","thing"] qSE) (qA7:mg "isinstance" = none) (qAK:mg "tuple" = none) (qB6:mg "len" = none):FnOk P w K mg base CX0 5 f fd ["net","work","many","thing"] qWS:=by
 refine F.ok qLB (fun vs H Q E h=>?_) (fun cdv A outer s H vs Q E hr h=>?_)
 ·obtain ⟨a,Ae,work,m,x,n,dt,rfl,_⟩:=h
  rfl
 obtain ⟨a,Ae,work,m,x,n,dt,rfl,hN,wf,n400,D,LD,q⟩:=h;have hu:=qGD hr;have hu0:=hr.units0;refine ⟨_,(qA4 (qBB (PW.pt (qH9 (qBZ (qCJ (qAA qAW rfl qA7 qAL (qA0 (pv 3) (qA0 (qC1 (v:=.ty "tuple") rfl qAK qB7 rfl) qA3))))) (qFJ (qAO qLG (qAA qAI rfl qB6 qBT (qA0 (pv 3) qA3)) qA5 (qAU _))))) (qA6 (qAF qCH)) qAH) (qA4 (qBB (PW.pt (qH9 (qBZ (qCJ (qB4 qD5 hr rfl (qA0 (pv 0) (qA0 (qB0 qB3 (pv 3) qA5 (fun _ _=>rfl)) qA3))))) (qFJ (qAO qLG (qB0 qB3 (qB0 qB3 (pv 3) qA5 (fun _ _=>rfl)) (qR3 qKJ qA5) (fun _ _=>rfl)) (pv 1) (qAU _))))) (qA6 (qAF qCH)) qAH) (qA6 (qAF (qKP (qB4 qDH hr rfl (qA0 (pv 0) (qA0 (qB0 qB3 (pv 3) qA5 (fun _ _=>rfl)) (qA0 (qB0 qB3 (pv 3) qA5 (fun _ _=>rfl)) qA3)))) (qMW (qEF qVP (qAA qAI rfl qB6 qBT (qA0 (qB0 qB3 (pv 3) qA5 (fun _ _=>rfl)) qA3)) (pv 2) (qAU _)))))))),?_⟩
 try dsimp only [Cx.nox,Cx.wish,cxOf]
 obtain ⟨ty,tyo,k1,k2,k3⟩:=qIE (K:=K) D;refine cut fun N0 hN0=>?_;refine ⟨_,rfl,x,"tuple",ty,_,rfl,tyo,k3,_,rfl,?_⟩;cases c:tupB dt with
 | false=>
  refine iteT ?_;refine iteT ?_;have e1:qEH Ae work m dt=false:=by cases dt <;> first | rfl | cases c
  rw [e1] at q;exact q H (.refl _)
 | true=>
  refine iteF ?_;obtain ⟨k,tt,xs,ds,rfl,rfl,rfl,ga,lx,el⟩:=qF6 D c;refine ⟨_,rfl,tt,_,rfl,.inr (SqT.of ga),rfl,_,rfl,?_⟩;refine ite2 (fun c2=>?_) (fun c2=>?_)
  ·have ne:ds.length ≠ 2:=fun e=>by rw [lx,e] at c2;simp at c2
   have e1:qEH Ae work m (.tuple ds)=false:=by
    unfold qEH rowD
    match ds,ne with
    | [],_=>rfl
    | [_],_=>rfl
    | [_,_],ne=>exact absurd rfl ne
    | _::_::_::_,_=>rfl
   rw [e1] at q;exact q H (.refl _)
  ·have l2:ds.length=2:=by
    have:¬ (!decide (V.int ((xs.length:Nat):Int)=V.int 2))=true:=c2;simp at this;omega
   obtain ⟨d0,d1,rfl⟩:∃ d0 d1,ds=[d0,d1]:=by match ds,l2 with | [u,v],_=>exact ⟨u,v,rfl⟩
   obtain ⟨x0,x1,rfl⟩:∃ x0 x1,xs=[x0,x1]:=by match xs,lx with | [u,v],_=>exact ⟨u,v,rfl⟩
   have D0:=el 0 x0 d0 rfl rfl;have D1:=el 1 x1 d1 rfl rfl;have L0:=(LD true _ rfl).2 d0 B5;have L1:=(LD true _ rfl).2 d1 (B4 _ B5);refine hN0 _ _ (cut fun N1 hN1=>?_);refine ⟨_,rfl,_,rfl,tt,_,_,_,rfl,rfl,SqT.of ga,qAV (J7 0) rfl,a,Ae,x0,k,d0,rfl,hN,wf,n400,D0,L0.down.len,fun H1 s1=>⟨_,rfl,?_⟩⟩;have pd:qEH Ae work m (.tuple [d0,d1])=((qGC Ae d0 && decide ((qAX d0).getLastD 0=work) && qDN Ae (qAX d0) d1) && decide (m<=(lenD d1:Int))):=rfl;rw [pd] at q;cases cp:qGC Ae d0 with
   | false=>
    refine iteT ?_;refine iteT ?_;rw [cp] at q;exact q H1 s1
   | true=>
    refine iteF ?_;rw [cp,L8] at q;obtain ⟨tz,zs,rfl,rfl,ei,gz,zne,zin⟩:=qDO D0 cp;rw [ei] at q;have gz1:=s1 _ _ gz;have ga1:=s1 _ _ ga;obtain ⟨zl,hzl⟩:∃ zl,zs.getLast?=some zl:=⟨_,d3 zne⟩;have el1:(zs.map V.int).getLast?=some (.int zl):=by rw [A32,hzl];rfl
    have eld:zs.getLastD 0=zl:=by rw [Q8,hzl];rfl
    rw [eld] at q;refine ⟨_,rfl,tt,_,_,_,rfl,rfl,SqT.of ga1,qAV (J7 0) rfl,_,rfl,tz,_,_,_,rfl,rfl,SqT.of gz1,qGS el1,_,rfl,rfl,_,rfl,?_⟩;refine ite2 (fun c3=>?_) (fun c3=>?_)
    ·have ne:¬ zl=work:=fun e=>by rw [e] at c3;simp at c3
     rw [decide_eq_false ne] at q;exact q H1 s1
    ·have e:zl=work:=by
      have:¬ (!decide (V.int zl=V.int work))=true:=c3;simpa using this
     rw [decide_eq_true e,L8] at q;refine hN1 _ _ ?_;have lz:zs.length<=400:=by have:=(L0 true _ rfl).1;rw [A0] at this;omega
     refine ⟨_,rfl,_,rfl,tt,_,_,_,rfl,rfl,SqT.of ga1,qAV (J7 0) rfl,_,rfl,tt,_,_,_,rfl,rfl,SqT.of ga1,qAV (by decide) rfl,a,tz,Ae,zs,x1,k,d1,rfl,⟨hN.same s1,wf,n400,gz1,zne,lz,zin⟩,D1.same s1,L1.len,fun H2 s2=>⟨_,rfl,?_⟩⟩
     have s12:=s1.trans s2;cases cs:qDN Ae zs d1 with
     | false=>
      refine iteF ?_;rw [cs] at q;exact q H2 s12
     | true=>
      refine iteT ?_;rw [cs,L8] at q;have cl:lstB d1=true:=by cases d1 <;> first | rfl | cases cs
      obtain ⟨k2,ll,ys,es,rfl,rfl,rfl,gl,ly,_⟩:=qI6 D1 cl;refine ⟨_,rfl,tt,_,_,_,rfl,rfl,SqT.of (s2 _ _ ga1),qAV (by decide) rfl,ll,_,rfl,.inl (SqL.of (s12 _ _ gl)),_,rfl,_,_,rfl,rfl,?_⟩
      rw [ly];exact q H2 s12
end
section
variable {P:Program} {w:World} {K:PySem.W.Frag} {mg:Str->Option Value} {base:Heap} {f:Addr} {fd:FuncData} {qCV qE5:Addr} {qE3 qHO:FuncData}
def kS (s:List Int):List Key:=s.map J1
theorem qaC (s:List Int):(kS s).map kV=s.map V.int:=by unfold kS;rw [X5];rfl
theorem qX6:∀ {s s':List Int},kS s=kS s'->s=s'
 | [],[],_=>rfl
 | [],_::_,h=>by cases h
 | _::_,[],h=>by cases h
 | a::s,b::s',h=>by
  unfold kS at h;rw [E7,E7] at h
  injection h with h1 h2
  injection h1 with h1
  rw [h1,qX6 h2]
theorem sc_shows_cut:FnScope ["net","work","rooms","thing","paths","seen","pair"] ["net","work","rooms","thing"] (qAE qER):=⟨rfl,rfl,rfl,by decide +kernel,rfl,by decide +kernel,by decide +kernel⟩
theorem ok_shows_cut (F:Fun K "shows_cut" "shows_cut" qER f fd) (qBW:Clb P w K mg base 2 qCV qE3 "all_paths" ["net","work"] qH3) (qEB:Clb P w K mg base 5 qE5 qHO "shows_pair" ["net","work","many","thing"] qWS) (qA7:mg "isinstance" = none) (qBY:mg "list" = none) (qB6:mg "len" = none):FnOk P w K mg base CX0 6 f fd ["net","work","rooms","thing"] qI1:=by
 refine F.ok sc_shows_cut (fun vs H Q E h=>?_) (fun cdv A outer s H vs Q E hr h=>?_)
 ·obtain ⟨a,Ae,work,Aa,x,n,dt,rfl,_⟩:=h
  rfl
 obtain ⟨a,Ae,work,Aa,x,n,dt,rfl,⟨hN,wf,n8,w0,w1,cn62⟩,D,LD,q⟩:=h;have hu:=qGD hr;have hu0:=hr.units0;refine ⟨_,(qA4 (qAG (i:=4) sc_shows_cut.nd rfl (E8 rfl) (qB4 qBW hr rfl (qA0 (pv 0) (qA0 (pv 1) qA3)))) (qA4 (qBB (PW.pt (qH9 (qBZ (qCJ (qAA qAW rfl qA7 qAL (qA0 (pv 3) (qA0 (qC1 (v:=.ty "list") rfl qBY qGR rfl) qA3))))) (qFJ (qAO qLG (qAA qAI rfl qB6 qBT (qA0 (pv 3) qA3)) (qAA qAI rfl qB6 qBT (qA0 (pv 4) qA3)) (qAU _))))) (qA6 (qAF qCH)) qAH) (qA4 (qBB (PW.pt (qWW (qBZ (qDZ (qB0 qB3 (pv 0) (pv 1) (fun _ _=>rfl)) (fun _=>rfl))) (qSR (qAO qLG (pv 2) qA5 (qAU _))))) (qA6 (qAF qCH)) qAH) (qA4 (qAG (i:=5) sc_shows_cut.nd rfl (E8 rfl) qVN) (qA4 (qCE F3 rfl (qCR (pv 3)) (qAD (i:=6) sc_shows_cut.nd rfl (E8 rfl)) (qA4 (qBB (PW.pt (qH9 (qBZ (qCJ (qB4 qEB hr rfl (qA0 (pv 0) (qA0 (pv 1) (qA0 (qAM qDQ (pv 2) qA5) (qA0 (pv 6) qA3))))))) (qFJ (qJG (qT2 hu (qB0 qB3 (pv 6) qA5 (fun _ _=>rfl)) (pv 5)))))) (qA6 (qAF qCH)) qAH) (qA6 (qFM hu (pv 5) (qB0 qB3 (pv 6) qA5 (fun _ _=>rfl)) qCH rfl)))) (qA6 (qAF qCH))))))),?_⟩
 try dsimp only [Cx.nox,Cx.wish,cxOf]
 refine cut fun N0 hN0=>?_;refine ⟨_,rfl,_,rfl,a,Ae,work,rfl,hN,wf,by omega,w0,w1,cn62,fun lp ts H1 s1 flp TL SP l62 lts=>?_⟩
 obtain ⟨rp,gp,TP⟩:=TL;have lrp:rp.length=nP Ae work:=by rw [C8 TP,SP.1.length_eq];rfl
 refine hN0 _ _ (cut fun N1 hN1=>?_);obtain ⟨ty,tyo,k1⟩:=qPE (K:=K) (D.same s1);refine ⟨_,rfl,x,"list",ty,_,rfl,tyo,k1,_,rfl,?_⟩;cases c:lstB dt with
 | false=>
  refine iteT ?_;refine iteT ?_;have e1:cutD Ae work Aa (nP Ae work) dt=false:=by cases dt <;> first | rfl | cases c
  rw [e1] at q;exact q H1 s1
 | true=>
  refine iteF ?_;obtain ⟨m,ll,xs,ds,rfl,rfl,rfl,ga,lx,el⟩:=qI6 D c;have ld:=LD false ds rfl;have qd:cutD Ae work Aa (nP Ae work) (.list ds)=(decide (ds.length=nP Ae work) && (!(nd Ae work).isEmpty || decide (Aa=1)) && (ds.all (qEH Ae work (Aa - 2)) && decide ((ds.map pthD).Nodup))):=rfl;rw [qd] at q;refine ⟨_,rfl,ll,_,rfl,.inl (SqL.of (s1 _ _ ga)),_,rfl,lp,_,rfl,.inl (SqL.of gp),rfl,_,rfl,?_⟩;rw [A0,lrp,lx];refine ite2 (fun c2=>?_) (fun c2=>?_)
  ·have ne:¬ ds.length=nP Ae work:=fun e=>by rw [e] at c2;simp at c2
   rw [decide_eq_false ne] at q;exact q H1 s1
  ·have eN:ds.length=nP Ae work:=by
    have:¬ (!decide (V.int ((ds.length:Nat):Int)=V.int ((nP Ae work:Nat):Int)))=true:=c2;simp at this;omega
   rw [decide_eq_true eN,L8] at q;refine hN1 _ _ (cut fun N2 hN2=>?_);obtain ⟨rs,hA,NL⟩:=id (hN.same s1);have hw:work.toNat<Ae.length:=by omega
   have hz:=A5 hw;obtain ⟨rn,h3,h4⟩:=NL.get hz;have en:=qBL hz;generalize Ae[work.toNat]=ys at h4 hz en
   -- the rest
   have rest:(!(nd Ae work).isEmpty || decide (Aa=1))=true->N2 [some (.ref a),some (.int work),some (.int Aa),some (.ref ll),some (.ref lp),none,none] H1:=by
    intro ok;rw [ok,L8] at q;refine hN2 _ _ (cut fun N3 hN3=>?_);intro dk hdk;have s2:=qA2 hdk (.dT []);have g2:(Ag H1 dk (.dT [])) dk=some (.dT []):=qA1;have fdk:H dk=none:=s1.free hdk;have s02:=s1.trans s2;generalize Ag H1 dk (.dT [])=H2 at s2 g2 s02 ⊢;refine hN3 _ _ (cut fun N4 hN4=>?_);refine ⟨_,rfl,ll,rfl,⟨_,SqL.of (s02 _ _ ga)⟩,qHM (a:=ll) (xs:=xs) (fun i σ Hd=>∃ (Af:List (List Key × V)) (v6:Option V),σ=[some (.ref a),some (.int work),some (.int Aa),some (.ref ll),some (.ref lp),some (.ref dk),v6]/\Same H Hd/\Hd dk=some (.dT Af)/\Af.length<=i/\(∀ z:List Int,(valV Af (kS z)).isSome=decide (z ∈ (ds.take i).map pthD))/\(ds.take i).all (qEH Ae work (Aa - 2))=true/\((ds.take i).map pthD).Nodup)
     ⟨[],none,rfl,s02,g2,B3 _,fun z=>by simp [valV],rfl,by simp⟩ (fun i σ Hd _ hP=>by obtain ⟨_,_,_,sd,_⟩:=hP;exact SqL.of (sd _ _ ga)) ?_ ?_⟩
    ·refine fun i x' σ Hd hx hI_1=>opq fun G_1 hG_1=>?_;obtain ⟨Af,v6,rfl,sd,gk,lk,hv,ok,nd0⟩:=hI_1;refine hG_1 ?_;have hi:=(A6.mp hx).1;have ed:=A5 (show i<ds.length by omega)
     have hmem:=C5 ed;generalize ds[i]=d1 at ed hmem;have Di:=DatN.same sd (el i x' _ hx ed);have et:ds.take (i+1)=ds.take i++[d1]:=by rw [D4,ed];rfl
     have em:(ds.take (i+1)).map pthD=(ds.take i).map pthD++[pthD d1]:=by rw [et,B6];rfl
     refine nmD fun D1 dn dr=>?_;refine cut fun M1 hM1=>?_;refine ⟨_,rfl,_,rfl,_,rfl,_,_,rfl,rfl,_,rfl,a,Ae,work,Aa - 2,x',m,d1,rfl,hN.same sd,wf,by omega,Di,ld.2 d1 hmem,fun H3 s3=>⟨_,rfl,?_⟩⟩
     have sd3:=sd.trans s3;cases cp:qEH Ae work (Aa - 2) d1 with
     | false=>
      refine iteT ?_;refine iteT ?_;have:ds.all (qEH Ae work (Aa - 2))=false:=L9.mpr fun y=>by rw [E5.mp y d1 hmem] at cp;cases cp
      rw [this] at q;exact dr _ _ (q H3 sd3)
     | true=>
      refine iteF ?_;obtain ⟨d0,db,rfl⟩:∃ d0 db,d1=.tuple [d0,db]:=by
       unfold qEH rowD at cp
       match d1,cp with
       | .tuple [u,v],_=>exact ⟨u,v,rfl⟩
      obtain ⟨k,tt,xs2,ds2,rfl,rfl,e2,gt,lx2,el2⟩:=qF6 (Di.same s3) rfl;cases e2;obtain ⟨x0,x1,rfl⟩:∃ x0 x1,xs2=[x0,x1]:=by match xs2,lx2 with | [u,v],_=>exact ⟨u,v,rfl⟩
      have cp0:qGC Ae d0=true:=by
       unfold qEH rowD at cp;simp only [C7] at cp;exact cp.1.1.1
      obtain ⟨tz,zs,rfl,rfl,ei,gz,zne,zin⟩:=qDO (el2 0 x0 d0 rfl rfl) cp0;have ep:pthD (.tuple [.tuple (zs.map .int),db])=zs:=ei;rw [ep] at em;have gk3:=s3 _ _ gk;refine ⟨_,rfl,tt,_,_,_,rfl,rfl,SqT.of gt,qAV (J7 0) rfl,_,rfl,dk,_,rfl,.inr ⟨Af,kS zs,tz,.inl gk3,rfl,by rw [qaC];exact gz,rfl⟩,_,rfl,?_⟩
      by_cases cm:zs ∈ (ds.take i).map pthD
      ·rw [hv zs,decide_eq_true cm];refine iteT ?_;have nn:¬ (ds.map pthD).Nodup:=fun y=>by
        rw [<- X3 (i+1) ds,B6,em] at y;have:=(O8.mp (O8.mp y).1).2.2 zs cm zs (by simp)
        exact this rfl
       rw [decide_eq_false nn,P7] at q;exact dr _ _ (q H3 sd3)
      ·rw [hv zs,decide_eq_false cm];refine iteF ?_;refine hM1 _ _ ?_;refine ⟨_,rfl,_,rfl,tt,_,_,_,rfl,rfl,SqT.of gt,qAV (J7 0) rfl,dk,_,rfl,DPut.t (k:=kS zs) gk3 (by rw [qaC];exact gz) (qAQ (by omega)),?_⟩
       refine dn _ _ ⟨_,_,rfl,qAB sd3 fdk,qA1,M5 (qBR _ _ _) (by omega),fun z=>?_,?_,?_⟩
       ·rw [qH2,em];by_cases e:z=zs
        ·rw [e,if_pos rfl];simp
        ·rw [if_neg fun u=>e (qX6 u),hv z];simp [e]
       ·rw [et,A74,ok,x6,cp];rfl
       ·rw [em];exact O8.mpr ⟨nd0,by simp,fun u hu w hw e=>cm (by rw [B2.mp hw] at e;exact e ▸ hu)⟩
    ·refine fun σ Hd hI_2=>opq fun G_2 hG_2=>?_;obtain ⟨Af,v6,rfl,sd,gk,lk,hv,ok,nd0⟩:=hI_2;refine hG_2 ?_;rw [lx] at ok nd0;rw [F4] at ok nd0;rw [ok,decide_eq_true nd0] at q;exact hN4 _ _ (q Hd sd)
   refine ⟨_,rfl,_,rfl,a,_,_,V.ref rn,rfl,rfl,SqT.of hA,qAV w0 (by rw [C4,h3];rfl),!(ys.map V.int).isEmpty,.inr (.inl ⟨_,SqT.of h4,rfl⟩),?_⟩
   rw [en] at rest q;cases ys with
   | cons y ys=>
    refine iteF ?_;refine iteF ?_;exact rest rfl
   | nil=>
    refine iteT ?_;refine ⟨_,rfl,rfl,_,rfl,?_⟩;by_cases cr:Aa=1
    ·rw [cr] at rest ⊢;refine ite2 (fun z=>by simp at z) (fun _=>?_)
     exact rest (by decide)
    ·refine ite2 (fun _=>?_) (fun z=>absurd (by simpa using fun e=>cr e) z)
     rw [decide_eq_false cr] at q;exact q H1 s1
end
section
variable {P:Program} {w:World} {K:PySem.W.Frag} {mg:Str->Option Value} {base:Heap} {f:Addr} {fd:FuncData}
theorem qQX:FnScope ["_law_net_here","_law_thing"] ["_law_net_here","_law_thing"] (qAE qH6):=⟨rfl,rfl,rfl,by decide +kernel,rfl,by decide +kernel,by decide +kernel⟩
theorem ok_Lis_way (F:Fun K "_law_is_way" "_law_is_way" qH6 f fd) (qA7:mg "isinstance" = none) (qAK:mg "tuple" = none) (qGB:mg "int" = none) (qDM:mg "bool" = none) (qEN:mg "all" = none):FnOk P w K mg base CX0 1 f fd ["_law_net_here","_law_thing"] qSF:=by
 refine F.ok qQX (fun vs H Q E h=>?_) (fun cdv A outer s H vs Q E hr h=>?_)
 ·obtain ⟨a,x,n,dt,rfl,_⟩:=h
  rfl
 obtain ⟨a,x,n,dt,rfl,D,LD,q⟩:=h;refine ⟨_,(qA4 (qBB (qBZ (qCJ (qAA qAW rfl qA7 qAL (qA0 (pv 1) (qA0 (qC1 (v:=.ty "tuple") rfl qAK qB7 rfl) qA3))))) (qA6 (qAF qCH)) qAH) (qA6 (qAF (qAA (qG7 rfl) rfl qEN qL2 (qA0 (qEE rfl (lcs (own:=["_law_work"]) (fv:=[]) (by kernel_rfl)) (qD0 (pv 1)) (fun z1=>qAD (i:=0) (qD7 (by kernel_rfl)) rfl (E8 rfl)) (fun z1=>qBA) (fun z1=>(qKP (qAA (qE7 (K:=K) rfl) rfl qA7 qAL (qA0 (pv 0) (qA0 (qC1 (v:=.ty "int") rfl qGB qNO rfl) qA3))) (qMW (qT0 (qAA (qE7 (K:=K) rfl) rfl qA7 qAL (qA0 (pv 0) (qA0 (qC1 (v:=.ty "bool") rfl qDM qLW rfl) qA3)))))))) qA3))))),?_⟩
 try dsimp only [Cx.nox,Cx.wish,cxOf]
 obtain ⟨ty,tyo,k1,k2,k3⟩:=qIE (K:=K) D;refine cut fun N0 hN0=>?_;refine ⟨_,rfl,x,"tuple",ty,_,rfl,tyo,k3,_,rfl,?_⟩;cases c:tupB dt with
 | false=>
  refine iteT ?_;have e1:wayB dt=false:=by cases dt <;> first | rfl | cases c
  rw [e1] at q;exact q H (.refl _)
 | true=>
  refine iteF ?_;obtain ⟨m,tt,xs,ds,rfl,rfl,rfl,ga,lx,el⟩:=qF6 D c;have ld:ds.length<=2000:=(LD true ds rfl).1;refine hN0 _ _ ?_;refine ⟨_,rfl,tt,rfl,⟨_,SqT.of ga⟩,fun px hpx=>?_⟩;refine qHH (p:=px) (a:=tt) (xs:=xs) (fun i σ Hd=>∃ (v:Option V),σ=[v]/\Same H Hd/\Hd px=some (.lst (((ds.take i).map numB).map V.bl))) ?_ ?_ ?_ ?_
  ·exact ⟨none,rfl,qA2 hpx _,qA1⟩
  ·rintro i σ Hd hi ⟨v,rfl,sd,_⟩;exact SqT.of (sd _ _ ga)
  ·refine fun i x' σ Hd hx hI_2=>opq fun G_2 hG_2=>?_;obtain ⟨v,rfl,sd,gp⟩:=hI_2;refine hG_2 ?_;have hi:=(A6.mp hx).1;have ed:=A5 (show i<ds.length by omega)
   generalize ds[i]=d1 at ed;have Di:=DatN.same sd (el i x' _ hx ed);obtain ⟨ty1,tyo1,j1,j2,j3⟩:=qIE (K:=K) Di;have fin:∀ b:Bool,numB d1=b->∃ ys,Hd px=some (.lst ys)/\ys.length<sizeLine/\∃ v:Option V,[some x']=[v]/\Same H (Ag Hd px (.lst (ys++[.bl b])))/\(Ag Hd px (.lst (ys++[.bl b]))) px=some (.lst (((ds.take (i+1)).map numB).map V.bl)):=by
    intro b eb;refine ⟨_,gp,qAQ (by rw [A0,A0,D7];omega),_,rfl,qAB sd hpx,?_⟩
    rw [qA1,D4,ed,E3,B6,B6,<- eb]
    rfl
   refine ⟨_,rfl,x',"int",ty1,_,rfl,tyo1,j1,_,rfl,?_⟩;cases c1:(numB d1 || qK6 d1) with
   | false=>
    refine iteF ?_;exact fin false (by cases d1 <;> first | rfl | cases c1)
   | true=>
    refine iteT ?_;refine ⟨_,rfl,x',"bool",ty1,_,rfl,tyo1,j2,?_⟩;refine ⟨_,rfl,?_⟩;exact fin (!qK6 d1) (by cases d1 <;> first | rfl | cases c1)
  refine fun σ Hd hI_3=>opq fun G_3 hG_3=>?_;obtain ⟨v,rfl,sd,gp⟩:=hI_3;refine hG_3 ?_;rw [lx,F4] at gp;refine ⟨px,_,rfl,SqL.of gp,?_⟩;have ea:((ds.map numB).all id)=wayB (.tuple ds):=by
   rw [u7];show _=ds.all _;congr 1
  rw [ea];exact q Hd sd
end
section
variable {P:Program} {w:World} {K:PySem.W.Frag} {mg:Str->Option Value} {base:Heap} {f:Addr} {fd:FuncData} {qHR qJ5 qE6:Addr} {qKY qNF qHP:FuncData}
theorem sc_Ltakes:FnScope ["_law_net_here","_law_work","_law_rooms","_law_thing","_law_row"] ["_law_net_here","_law_work","_law_rooms","_law_thing"] (qAE qIX):=⟨rfl,rfl,rfl,by decide +kernel,rfl,by decide +kernel,by decide +kernel⟩
theorem ok_Ltakes (F:Fun K "_law_takes" "_law_takes" qIX f fd) (qHW:Clb P w K mg base 1 qHR qKY "_law_is_way" ["_law_net_here","_law_thing"] qSF) (qHV:Clb P w K mg base 1 qJ5 qNF "_law_paths" ["_law_net_here","_law_work"] qH3) (qEC:Clb P w K mg base 3 qE6 qHP "_law_are_sides" ["_law_net_here","_law_path","_law_thing"] qJE) (qA7:mg "isinstance" = none) (qBY:mg "list" = none) (qAK:mg "tuple" = none) (qB6:mg "len" = none) (qAT:mg "sorted" = none) (qEN:mg "all" = none):FnOk P w K mg base CX0 4 f fd ["_law_net_here","_law_work","_law_rooms","_law_thing"] qSC:=by
 refine F.ok sc_Ltakes (fun vs H Q E h=>?_) (fun cdv A outer s H vs Q E hr h=>?_)
 ·obtain ⟨a,Ae,work,Aa,x,n,dt,rfl,_⟩:=h
  rfl
 obtain ⟨a,Ae,work,Aa,x,n,dt,rfl,⟨hN,wf,n8,w0,w1,cn62⟩,D,LD,q⟩:=h;have hu:=qGD hr;have hu0:=hr.units0;have hu64:=hr.units;refine ⟨_,(qA4 (qBB (qBZ (qCJ (qAA qAW rfl qA7 qAL (qA0 (pv 3) (qA0 (qC1 (v:=.ty "list") rfl qBY qGR rfl) qA3))))) (qA6 (qAF qCH)) qAH) (qA4 (qCE F3 rfl (qCR (pv 3)) (qAD (i:=4) sc_Ltakes.nd rfl (E8 rfl)) (qA4 (qBB (PW.pt (qH9 (qBZ (qCJ (qAA qAW rfl qA7 qAL (qA0 (pv 4) (qA0 (qC1 (v:=.ty "tuple") rfl qAK qB7 rfl) qA3))))) (qH9 (qAO qLG (qAA qAI rfl qB6 qBT (qA0 (pv 4) qA3)) qA5 (qAU _)) (qFJ (qBZ (qCJ (qB4 qHW hr rfl (qA0 (pv 0) (qA0 (qB0 qB3 (pv 4) qA5 (fun _ _=>rfl)) qA3))))))))) (qA6 (qAF qCH)) qAH) (qA6 (qBB (PW.pt (qH9 (qAO (qLF hu64) (qB0 qB3 (pv 4) qA5 (fun _ _=>rfl)) (qB4 qHV hr rfl (qA0 (pv 0) (qA0 (pv 1) qA3))) (by with_unfolding_all rfl)) (qFJ (qBZ (qCJ (qB4 qEC hr rfl (qA0 (pv 0) (qA0 (qB0 qB3 (pv 4) qA5 (fun _ _=>rfl)) (qA0 (qB0 qB3 (pv 4) qA5 (fun _ _=>rfl)) qA3))))))))) (qA6 (qAF qCH)) qAH)))) (qA4 (qBB (qAO (qOA hu64) (qAA (L2.GS.call_sortedTL rfl hu64) rfl qAT qDS (qA0 (qEE rfl (lcs (own:=["_law_row"]) (fv:=[]) (by kernel_rfl)) (qCR (pv 3)) (fun z1=>qAD (i:=0) (qD7 (by kernel_rfl)) rfl (E8 rfl)) (fun z1=>qBA) (fun z1=>(qB0 (qLM (K:=K) rfl) (pv 0) qA5 (fun _ _=>rfl)))) qA3)) (qB4 qHV hr rfl (qA0 (pv 0) (qA0 (pv 1) qA3))) (qAU _)) (qA6 (qAF qCH)) qAH) (qA4 (qBB (qAO (qI4 hu0) (qB0 qB3 (pv 0) (pv 1) (fun _ _=>rfl)) (qBF qA3) (qAU _)) (qA6 (qAF (qEF qHC (pv 2) qA5 (qAU _)))) qAH) (qA6 (qAF (qAA (qG7 rfl) rfl qEN qL2 (qA0 (qEE rfl (lcs (own:=["_law_row"]) (fv:=[2]) (by kernel_rfl)) (qCR (pv 3)) (fun z2=>qAD (i:=0) (qD7 (by kernel_rfl)) rfl (E8 rfl)) (fun z2=>qBA) (fun z2=>(qEF qVP (qAA (qHS (K:=K) rfl) rfl qB6 qBT (qA0 (qB0 (qLM (K:=K) rfl) (pv 0) qA5 (fun _ _=>rfl)) qA3)) (qAM qDQ (pv 1) qA5) (qAU _)))) qA3)))))))),?_⟩
 try dsimp only [Cx.nox,Cx.wish,cxOf]
 refine cut fun N0 hN0=>?_;obtain ⟨ty,tyo,k1⟩:=qPE (K:=K) D;refine ⟨_,rfl,x,"list",ty,_,rfl,tyo,k1,_,rfl,?_⟩;cases c:lstB dt with
 | false=>
  refine iteT ?_;have e1:cutD Ae work Aa (nP Ae work) dt=false:=by cases dt <;> first | rfl | cases c
  rw [e1] at q;exact q H (.refl _)
 | true=>
  refine iteF ?_;obtain ⟨m,ll,xs,ds,rfl,rfl,rfl,ga,lx,el⟩:=qI6 D c;have ld:=LD false ds rfl;refine hN0 _ _ (cut fun N1 hN1=>?_);refine ⟨_,rfl,ll,rfl,⟨_,SqL.of ga⟩,qHM (a:=ll) (xs:=xs) (fun i σ Hd=>∃ (v4:Option V),σ=[some (.ref a),some (.int work),some (.int Aa),some (.ref ll),v4]/\Same H Hd/\∀ d ∈ ds.take i,rowD Ae work d=true)
   ⟨none,rfl,.refl _,fun d hd=>by simp at hd⟩ (fun i σ Hd _ hP=>by obtain ⟨_,_,sd,_⟩:=hP;exact SqL.of (sd _ _ ga)) ?_ ?_⟩
  ·refine fun i x' σ Hd hx hI_1=>opq fun G_1 hG_1=>?_;obtain ⟨v4,rfl,sd,ok⟩:=hI_1;refine hG_1 ?_;have hi:=(A6.mp hx).1;have ed:=A5 (show i<ds.length by omega)
   have hmem:=C5 ed;generalize ds[i]=d1 at ed hmem;have Di:=DatN.same sd (el i x' _ hx ed);have Li:=ld.2 d1 hmem;have et:ds.take (i+1)=ds.take i++[d1]:=by rw [D4,ed];rfl
   refine nmD fun D1 dn dr=>?_;have bad:rowD Ae work d1=false->∀ Hx,Same H Hx->D1.rt (.bl false) Hx:=fun z Hx sx=>by
    rw [qUF hmem z] at q;exact dr _ _ (q Hx sx)
   refine cut fun M1 hM1=>?_;obtain ⟨ty1,tyo1,j1,j2,j3⟩:=qIE (K:=K) Di;refine ⟨_,rfl,x',"tuple",ty1,_,rfl,tyo1,j3,_,rfl,?_⟩;cases ct:tupB d1 with
   | false=>
    refine iteT ?_;refine iteT ?_;exact bad (by cases d1 <;> first | rfl | cases ct) Hd sd
   | true=>
    refine iteF ?_;obtain ⟨k,tt,xs2,ds2,rfl,rfl,rfl,gt,lx2,el2⟩:=qF6 Di ct;refine ⟨_,rfl,tt,_,rfl,.inr (SqT.of gt),rfl,_,rfl,?_⟩;refine ite2 (fun c2=>?_) (fun c2=>?_)
    ·refine iteT ?_;have ne:ds2.length ≠ 2:=fun e=>by rw [lx2,e] at c2;simp at c2
     refine bad ?_ Hd sd;unfold rowD
     match ds2,ne with
     | [],_=>rfl
     | [_],_=>rfl
     | [_,_],ne=>exact absurd rfl ne
     | _::_::_::_,_=>rfl
    ·have l2:ds2.length=2:=by
      have:¬ (!decide (V.int ((xs2.length:Nat):Int)=V.int 2))=true:=c2;simp at this;omega
     obtain ⟨d0,db,rfl⟩:∃ d0 d1,ds2=[d0,d1]:=by match ds2,l2 with | [u,v],_=>exact ⟨u,v,rfl⟩
     obtain ⟨x0,x1,rfl⟩:∃ x0 x1,xs2=[x0,x1]:=by match xs2,lx2 with | [u,v],_=>exact ⟨u,v,rfl⟩
     have D0:=el2 0 x0 d0 rfl rfl;have Db:=el2 1 x1 db rfl rfl;have L0:=(Li true _ rfl).2 d0 B5;have Lb:=(Li true _ rfl).2 db (B4 _ B5);refine ⟨_,rfl,_,rfl,tt,_,_,_,rfl,rfl,SqT.of gt,qAV (J7 0) rfl,a,x0,k,d0,rfl,D0,L0.down.len,fun H1 s1=>⟨_,rfl,?_⟩⟩;have sd1:=sd.trans s1;have gt1:=s1 _ _ gt;have rw0:rowD Ae work (.tuple [d0,db])=(qGC Ae d0 && decide ((qAX d0).getLastD 0=work) && qDN Ae (qAX d0) db):=rfl;rw [rw0] at bad;cases cw:wayB d0 with
     | false=>
      refine iteT ?_;refine bad ?_ H1 sd1;have:qGC Ae d0=false:=L9.mpr fun y=>by
       obtain ⟨_,zs,_,rfl,_⟩:=qDO D0 y;have:wayB (.tuple (zs.map .int))=true:=E5.mpr fun d hd=>by obtain ⟨z,_,rfl⟩:=E1.mp hd;rfl
       rw [this] at cw;cases cw
      rw [this];rfl
     | true=>
      refine iteF ?_;obtain ⟨tz,zs,rfl,rfl,gz⟩:∃ (tz:Addr) (zs:List Int),x0=.ref tz/\d0=.tuple (zs.map .int)/\H1 tz=some (.tup (zs.map V.int)):=by
       have ct0:tupB d0=true:=by cases d0 <;> first | rfl | cases cw
       obtain ⟨k0,tz,xs0,ds0,rfl,rfl,rfl,g0,lx0,el0⟩:=qF6 D0 ct0;obtain ⟨zs,rfl⟩:=qOQ (ds:=ds0) (E5.mpr fun d hd=>by
        have:=E5.mp (show ds0.all _=true from cw) d hd;cases d <;> first | rfl | cases this)
       refine ⟨tz,zs,rfl,rfl,?_⟩;rw [qQB lx0 el0] at g0;exact s1 _ _ g0
      have ei:qAX (.tuple (zs.map .int))=zs:=qC6;rw [ei] at bad;refine hM1 _ _ ?_;refine ⟨_,rfl,tt,_,_,_,rfl,rfl,SqT.of gt1,qAV (J7 0) rfl,_,rfl,_,rfl,a,Ae,work,rfl,hN.same sd1,wf,by omega,w0,w1,cn62,fun lp ts H2 s2 flp TL SP l62 lts=>?_⟩
      obtain ⟨rp,gp,TP⟩:=TL;have sd2:=sd1.trans s2;refine ⟨tz,lp,zs,rp,ts,rfl,rfl,s2 _ _ gz,SqL.of gp,TP,_,rfl,?_⟩;have pm:=qPY wf SP w0 zs;by_cases cm:zs ∈ ts
      ·rw [decide_eq_false (fun z=>z cm)];refine iteF ?_;obtain ⟨zne,hpi,hla⟩:=pm.mp cm;have zin:=((SP.some wf w0 w1).2 zs cm).2;have lz:zs.length<=Ae.length:=zin.len;have pd:qGC Ae (.tuple (zs.map .int))=true:=by
        show (!(zs.map Q6).isEmpty && _ && qDP Ae ((zs.map .int).map qKH))=true;have e1:(zs.map Q6).isEmpty=false:=by cases zs with | nil=>exact absurd rfl zne | cons _ _=>rfl
        have ab:(zs.map Q6).all (qCP (Ae.length:Int))=true:=E5.mpr fun d hd=>by
         obtain ⟨z,hz,rfl⟩:=E1.mp hd;show (decide (0<=z) && decide (z<(Ae.length:Int)))=true;rw [decide_eq_true (zin.in_ z hz).1,decide_eq_true (zin.in_ z hz).2]
         rfl
        rw [e1,ab,qC6,hpi]
        rfl
       rw [pd,decide_eq_true hla,L8,L8] at bad;have gt2:=s2 _ _ gt1;refine ⟨_,rfl,_,rfl,tt,_,_,_,rfl,rfl,SqT.of gt2,qAV (J7 0) rfl,_,rfl,tt,_,_,_,rfl,rfl,SqT.of gt2,qAV (by decide) rfl,a,tz,Ae,zs,x1,k,db,rfl,⟨hN.same sd2,wf,by omega,s2 _ _ gz,zne,by omega,zin.in_⟩,by omega,by omega,(fun es e=>(Lb false es e).1),(Db.same (s1.trans s2)),Lb.len,fun H3 s3=>⟨_,rfl,?_⟩⟩
       cases cs:qDN Ae zs db with
       | false=>
        refine iteT ?_;exact bad cs H3 (sd2.trans s3)
       | true=>
        refine iteF ?_;refine dn _ _ ⟨_,rfl,sd2.trans s3,fun d hd=>?_⟩;rw [et] at hd;rcases C2.mp hd with z | z
        ·exact ok d z
        ·rw [B2.mp z,rw0,ei,pd,decide_eq_true hla,cs]
         rfl
      ·rw [decide_eq_true cm];refine iteT ?_;refine iteT ?_;refine bad ?_ H2 sd2;rw [L9];intro y;rw [C7,C7,decide_eq_true_eq] at y;obtain ⟨_,zs',_,e1,e2,_,zne,_⟩:=qDO D0 y.1.1;have hp:(!(zs.map Q6).isEmpty && _ && qDP Ae ((zs.map Q6).map qKH))=true:=y.1.1;rw [C7,qC6] at hp;exact cm (pm.mpr ⟨by rw [ei] at e2;rw [e2];exact zne,hp.2,y.1.2⟩)
  refine fun σ Hd hI_2=>opq fun G_2 hG_2=>?_;obtain ⟨v4,rfl,sd,ok⟩:=hI_2;refine hG_2 ?_;rw [lx,F4] at ok;refine hN1 _ _ (cut fun N2 hN2=>?_);refine ⟨_,rfl,ll,rfl,⟨_,SqL.of (sd _ _ ga)⟩,fun px hpx=>?_⟩;refine qFP (p:=px) (a:=ll) (xs:=xs) (fun i σ He=>∃ (v:Option V) (qs:List Addr),σ=[v]/\Same Hd He/\He px=some (.lst (qs.map V.ref))/\L2.GS.TupsAt He qs ((ds.take i).map pthD)) ?_ ?_ ?_ ?_
  ·exact ⟨none,[],rfl,qA2 hpx _,qA1,.nil⟩
  ·rintro i σ He hi ⟨v,qs,rfl,se,_⟩;exact SqL.of ((sd.trans se) _ _ ga)
  ·refine fun i x' σ He hx hI_4=>opq fun G_4 hG_4=>?_;obtain ⟨v,qs,rfl,se,gp,TQ⟩:=hI_4;refine hG_4 ?_;have hi:=(A6.mp hx).1;have ed:=A5 (show i<ds.length by omega)
   have hmem:=C5 ed;generalize ds[i]=d1 at ed hmem;have Di:=DatN.same (sd.trans se) (el i x' _ hx ed);obtain ⟨tt,tz,l3,zs,ys,es,rfl,e1,gt,gz,gl,ly,ep,_⟩:=qMR Di (ok d1 hmem);have lq:=C8 TQ;rw [A0,D7] at lq;refine ⟨_,rfl,tt,_,_,_,rfl,rfl,SqT.of gt,qAV (J7 0) rfl,_,gp,qAQ (by rw [A0];omega),_,qs++[tz],rfl,qAB se hpx,by rw [qA1,B6];rfl,?_⟩
   rw [D4,ed,E3,B6];refine o9 (qDJ TQ fun r z e=>?_) ?_
   ·rw [qA9 (qCL e gp (by intro z;cases z))];exact e
   ·show Ag _ _ _ tz=some (.tup ((pthD d1).map V.int));rw [ep,qA9 (qCL gz gp (by intro z;cases z))];exact gz
  refine fun σ He hI_5=>opq fun G_5 hG_5=>?_;obtain ⟨v,qs,rfl,se,gp,TQ⟩:=hI_5;refine hG_5 ?_;rw [lx,F4] at TQ;have lq:=C8 TQ;rw [A0] at lq;have tne:∀ t ∈ ds.map pthD,t ≠ []:=fun t ht=>by
   obtain ⟨d,hd,rfl⟩:=E1.mp ht;obtain ⟨i,hi⟩:=M7 hd;have hlt:=(A6.mp hi).1;obtain ⟨_,_,_,zs,_,_,_,_,_,_,_,_,ep,zne,_⟩:=qMR (el i xs[i] d (A5 (by omega)) hi) (ok d hd)
   rw [ep];exact zne
  have ld1:=ld.1;refine ⟨px,qs,ds.map pthD,rfl,SqL.of gp,TQ,tne,by omega,fun lS rs' ts' hlS pr T' pmT so=>?_⟩
  have u3:=qA2 hlS (.lst (rs'.map V.ref));have gS:(Ag He lS (.lst (rs'.map V.ref))) lS=some (.lst (rs'.map V.ref)):=qA1;have T3:L2.GS.TupsAt (Ag He lS (.lst (rs'.map V.ref))) rs' ts':=qDJ T' fun _ _ e=>u3 _ _ e;have sd3:=sd.trans (se.trans u3);generalize Ag He lS (.lst (rs'.map V.ref))=H3 at gS T3 sd3 ⊢;refine ⟨_,rfl,_,rfl,a,Ae,work,rfl,hN.same sd3,wf,by omega,w0,w1,cn62,fun lp ts H4 s4 flp TL SP l62 lts=>?_⟩
  obtain ⟨rp,gpp,TP⟩:=TL;have sd4:=sd3.trans s4;refine ⟨lS,lp,rs',rp,ts',ts,rfl,rfl,SqL.of (s4 _ _ gS),SqL.of gpp,qDJ T3 (fun _ _ e=>s4 _ _ e),TP,_,rfl,?_⟩;have inT:∀ z ∈ ds.map pthD,z ∈ ts:=fun z hz=>by
   obtain ⟨d,hd,rfl⟩:=E1.mp hz;obtain ⟨i,hi⟩:=M7 hd;have hlt:=(A6.mp hi).1;obtain ⟨_,_,_,zs,_,_,_,_,_,_,_,_,ep,zne,hpi,hla⟩:=qMR (el i xs[i] d (A5 (by omega)) hi) (ok d hd)
   rw [ep];exact (qPY wf SP w0 zs).mpr ⟨zne,hpi,hla⟩
  have rp2:=qSP wf w0 SP inT;rw [A0] at rp2;have qd:cutD Ae work Aa (nP Ae work) (.list ds)=(decide (ds.length=nP Ae work) && (!(nd Ae work).isEmpty || decide (Aa=1)) && (ds.all (qEH Ae work (Aa - 2)) && decide ((ds.map pthD).Nodup))):=rfl;rw [qd] at q;by_cases ce:ts'=ts
  ·rw [decide_eq_false (fun z=>z ce)];refine iteF ?_;have pX:(ds.map pthD).Perm (aP Ae [work]):=by rw [ce] at pmT;exact pmT.symm.trans SP.1
   obtain ⟨eN,nX⟩:=rp2.mpr pX;have eall:∀ k:Int,ds.all (qEH Ae work k)=ds.all (qOF k):=fun k=>by
    rw [Q2,E5,E5];refine ⟨fun h d hd=>?_,fun h d hd=>?_⟩
    ·have:=h d hd;unfold qEH at this;rw [C7] at this;exact this.2
    ·unfold qEH;rw [ok d hd,h d hd];rfl
   rw [decide_eq_true eN,decide_eq_true nX,L8,V4,eall] at q;refine hN2 _ _ (cut fun N3 hN3=>?_);obtain ⟨rs,hA,NL⟩:=id (hN.same sd4);have hw:work.toNat<Ae.length:=by omega
   have hz:=A5 hw;obtain ⟨rn,h3,h4⟩:=NL.get hz;have en:=qBL hz;generalize Ae[work.toNat]=yw at h4 hz en;refine ⟨_,rfl,_,rfl,a,_,_,_,rfl,rfl,SqT.of hA,qAV w0 (by rw [C4,h3];rfl),(by show 0<=sizeLine;decide),fun e0 he0=>?_⟩
   have u5:=qA2 he0 (.tup []);have sd5:=sd4.trans u5;refine ⟨rn,e0,_,rfl,rfl,SqT.of (u5 _ _ h4),SqT.of qA1,_,rfl,?_⟩;generalize Ag H4 e0 (.tup [])=H5 at u5 sd5 ⊢;rw [en] at q;cases yw with
   | nil=>
    refine iteT ?_;refine ⟨_,rfl,rfl,?_⟩;by_cases cr:Aa=1
    ·subst cr;have am:ds.all (qOF (1 - 2))=true:=E5.mpr fun d hd=>by
      obtain ⟨i,hi⟩:=M7 hd;have hlt:=(A6.mp hi).1;obtain ⟨_,_,_,zs,_,es,_,e1,_,_⟩:=qMR (el i xs[i] d (A5 (by omega)) hi) (ok d hd)
      rw [e1];show decide ((1:Int) - 2<=((lenD (.list es):Nat):Int))=true;exact decide_eq_true (by omega)
     rw [am] at q;exact q H5 sd5
    ·rw [decide_eq_false cr] at q;rw [decide_eq_false (fun z=>cr (V.int.inj z))];exact q H5 sd5
   | cons y0 yw=>
    have q:∀ H',Same H H'->Q (.bl (ds.all (qOF (Aa - 2)))) H':=q;refine iteF ?_;refine hN3 _ _ ?_;refine ⟨_,rfl,ll,rfl,⟨_,SqL.of (sd5 _ _ ga)⟩,fun pz hpz=>?_⟩;refine qFP (p:=pz) (a:=ll) (xs:=xs) (fun i σ He=>∃ (v:Option V),σ=[v,some (.int Aa)]/\Same H5 He/\He pz=some (.lst (((ds.take i).map (qOF (Aa - 2))).map V.bl))) ?_ ?_ ?_ ?_
    ·exact ⟨none,rfl,qA2 hpz _,qA1⟩
    ·rintro i σ He hi ⟨v,rfl,se,_⟩;exact SqL.of ((sd5.trans se) _ _ ga)
    ·refine fun i x' σ He hx hI_7=>opq fun G_7 hG_7=>?_;obtain ⟨v,rfl,se,gpz⟩:=hI_7;refine hG_7 ?_;have hi:=(A6.mp hx).1;have ed:=A5 (show i<ds.length by omega)
     have hmem:=C5 ed;generalize ds[i]=d1 at ed hmem;have Di:=DatN.same (sd5.trans se) (el i x' _ hx ed);obtain ⟨tt,tz,l3,zs,ys,es,rfl,e1,gt,gz,gl,ly,ep,_⟩:=qMR Di (ok d1 hmem);refine ⟨_,rfl,tt,_,_,_,rfl,rfl,SqT.of gt,qAV (by decide) rfl,l3,_,rfl,.inl (SqL.of gl),_,rfl,_,_,rfl,rfl,_,_,rfl,rfl,_,gpz,qAQ (by rw [A0,A0,D7];omega),_,rfl,qAB se hpz,?_⟩
     rw [qA1,D4,ed,E3,B6,B6,e1,ly]
     rfl
    refine fun σ He hI_8=>opq fun G_8 hG_8=>?_;obtain ⟨v,rfl,se,gpz⟩:=hI_8;refine hG_8 ?_;rw [lx,F4] at gpz;refine ⟨pz,_,rfl,SqL.of gpz,?_⟩;have ea:((ds.map (qOF (Aa - 2))).all id)=ds.all (qOF (Aa - 2)):=by rw [u7];rfl
    rw [ea];exact q He (sd5.trans se)
  ·rw [decide_eq_true ce];refine iteT ?_;have no:¬ (ds.length=nP Ae work/\(ds.map pthD).Nodup):=fun z=>ce (SortP.one ⟨pmT.trans (rp2.mp z),so⟩ SP);have e1:(decide (ds.length=nP Ae work) && (!(nd Ae work).isEmpty || decide (Aa=1)) && (ds.all (qEH Ae work (Aa - 2)) && decide ((ds.map pthD).Nodup)))=false:=by
    rw [L9];intro y;simp only [C7,decide_eq_true_eq] at y;exact no ⟨y.1.1,y.2.2⟩
   rw [e1] at q;exact q H4 sd4
end
section
variable {P:Program} {w:World} {K:PySem.W.Frag} {mg:Str->Option Value} {base:Heap} {f:Addr} {fd:FuncData} {qCW:Addr} {qCM:FuncData}
theorem sc_Lbent_row:FnScope ["_law_state","_law_net_here","_law_row","_law_path","_law_sides","_law_k","_law_some"] ["_law_state","_law_net_here","_law_row"] (qAE qEY):=⟨rfl,rfl,rfl,by decide +kernel,rfl,by decide +kernel,by decide +kernel⟩
theorem ok_Lbent_row (F:Fun K "_law_bent_row" "_law_bent_row" qEY f fd) (qAP:Clb P w K mg base 1 qCW qCM "_law_take" ["_law_state","_law_many"] qJD) (qB6:mg "len" = none) (qBY:mg "list" = none) (qAK:mg "tuple" = none):FnOk P w K mg base CX0 2 f fd ["_law_state","_law_net_here","_law_row"] qMD:=by
 refine F.ok sc_Lbent_row (fun vs H Q E h=>?_) (fun cdv A outer s H vs Q E hr h=>?_)
 ·obtain ⟨d,c,t,ns,a,r,p,rfl,_⟩:=h
  rfl
 obtain ⟨d,c,t,ns,a,r,p,rfl,S,ht,RW,B,q⟩:=h;have ht':t<=1000000000 - 100:=ht;have hu0:=hr.units0;refine ⟨_,(qA4 (qX0 (pv 2) (qKO rfl (qBQ (qAD (i:=3) sc_Lbent_row.nd rfl (E8 rfl)) (qBQ (qAD (i:=4) sc_Lbent_row.nd rfl (E8 rfl)) qGK)))) (qA4 (qAG (i:=5) sc_Lbent_row.nd rfl (E8 rfl) (qB4 qAP hr rfl (qA0 (pv 0) (qA0 (qAM qCG (qAA qAI rfl qB6 qBT (qA0 (pv 4) qA3)) qA5) qA3)))) (qA4 (qAG (i:=6) sc_Lbent_row.nd rfl (E8 rfl) (qAR (qA0 (qBF (qA0 (pv 3) (qA0 (qB2 qCI (pv 4) qBK (qBD (pv 5))) qA3))) (qA0 (qBF (qA0 (pv 3) (qA0 (qAM qD8 (qB2 qCI (pv 4) qBK (qBD (pv 5))) (qB2 qCI (pv 4) (qBD (qAM qCG (pv 5) qA5)) qBK)) qA3))) (qA0 (qBF (qA0 (pv 3) (qA0 (qAM qD8 (pv 4) (qAR (qA0 (pv 3) qA3))) qA3))) (qA0 (qBF (qA0 (pv 3) (qA0 (qAN qAS rfl qAK qB7 (qA0 (pv 4) qA3)) qA3))) qA3)))))) (qA4 (qAG (i:=6) sc_Lbent_row.nd rfl (E8 rfl) (qAM qD8 (pv 6) (qAR (qA0 (qAR (qA0 (pv 3) (qA0 (pv 4) qA3))) (qA0 (qBF (qA0 (pv 3) (qA0 (pv 4) (qA0 (qBF qA3) qA3)))) (qA0 (qBF (qA0 (pv 3) qA3)) (qA0 (qBF (qA0 (qB2 qKM (pv 3) (qBD qA5) qBK) (qA0 (pv 4) qA3))) (qA0 (qBF (qA0 (pv 3) (qA0 (qAM qD8 (pv 4) (qB2 qCI (pv 4) qBK (qBD qA5))) qA3))) qA3 (hs:=qQ4)) (hs:=qQ4)) (hs:=qQ4)) (hs:=qQ4)) (hs:=qLN))))) (qA4 (qAG (i:=6) sc_Lbent_row.nd rfl (E8 rfl) (qAM qD8 (pv 6) (qAR (qA0 (qBF (qA0 (pv 3) (qA0 qPV qA3))) (qA0 (qBF (qA0 (qAN qFS rfl qBY qGR (qA0 (pv 3) qA3)) (qA0 (pv 4) qA3))) qA3))))) (qA4 (qAG (i:=6) sc_Lbent_row.nd rfl (E8 rfl) (qAM qD8 (pv 6) (qAR (qA0 (qBF (qA0 (qAN qAS rfl qAK qB7 (qA0 (qEE rfl (lcs (own:=["_law_work"]) (fv:=[]) (by kernel_rfl)) (qD0 (pv 3)) (fun z2=>qAD (i:=0) (qD7 (by kernel_rfl)) rfl (E8 rfl)) (fun z2=>qBA) (fun z2=>(qEF qHC (pv 0) qA5 (qAU _)))) qA3)) (qA0 (pv 4) qA3))) (qA0 (qBF (qA0 (pv 3) (qA0 (qEE rfl (lcs (own:=["_law_side"]) (fv:=[]) (by kernel_rfl)) (qCR (pv 4)) (fun z1=>qAD (i:=0) (qD7 (by kernel_rfl)) rfl (E8 rfl)) (fun z1=>qBA) (fun z1=>(qAN (qRR (K:=K) rfl) rfl qBY qGR (qA0 (pv 0) qA3)))) qA3))) (qA0 (qBF (qA0 (pv 4) (qA0 (pv 3) qA3))) qA3)))))) (qA6 (qAF (qB0 qC3 (pv 6) (qB4 qAP hr rfl (qA0 (pv 0) (qA0 (qAA qAI rfl qB6 qBT (qA0 (pv 6) qA3)) qA3))) (fun _ _=>rfl)))))))))),?_⟩
 try dsimp only [Cx.nox,Cx.wish,cxOf]
 obtain ⟨tp,ls,rss,gr0,gp0,gl0,T0⟩:=id RW;obtain ⟨tp1,ls1,rss1,gr1,gp1,gl1,T1⟩:=RW.red S;have e1:tp1=tp/\ls1=ls:=by
  have:=qD6 _ _ gr1;rw [gr0] at this
  injection this with this
  injection this with this
  injection this with u1 this
  injection this with u2 _
  injection u1 with u1
  injection u2 with u2
  exact ⟨u1.symm,u2.symm⟩
 obtain ⟨rfl,rfl⟩:=e1;have lr:=C8 T1;have sl8:=B.sl;have pl8:=B.pl;have eR:rss1.map V.ref=rss.map V.ref:=by
  have:=qD6 _ _ gl1;rw [gl0] at this
  injection this with this
  injection this with this
  exact this.symm
 clear T0;refine cut fun N0 hN0=>?_;refine ⟨_,rfl,r,_,rfl,SqT.of gr0,rfl,_,_,rfl,_,_,rfl,rfl,?_⟩;refine hN0 _ _ (cut fun N1 hN1=>?_);refine ⟨_,rfl,_,rfl,ls1,_,rfl,.inl (SqL.of gl0),?_⟩;rw [A0];have lrs:rss.length=rss1.length:=by have:=congrArg B50 eR;simpa using this.symm
 refine ⟨_,_,rfl,rfl,d,c,t,ns,_,rfl,S,(by show t<=1000000000;omega),by omega,by omega,fun k ns1 H1 k0 k1 S1 K1=>?_⟩
 have R1:=qCY K1;have gp:=R1 _ _ gp1;have gl:=R1 _ _ gl1;have T:L2.G.TupsAt (red d c H1) rss1 p.2:=Paired.mapP T1 fun _ _ e=>R1 _ _ e;obtain ⟨X,eX⟩:∃ X,X=rss1.map V.ref:=⟨_,rfl⟩;have lX:X.length<=8:=by rw [eX,A0];omega
 have aX:∀ x ∈ X,AnyC (red d c H1) 1 96 x:=by rw [eX];exact qM2 T B.sb
 rw [<- eX] at gl;have aP:AnyC (red d c H1) 1 96 (.ref tp1):=qE9 true gp B.pl B.pin;have aS:AnyC (red d c H1) 2 1940 (.ref ls1):=AnyC.seq (b:=false) (n:=1) (W:=96) (L:=20) gl (by omega) (by decide) aX
 have aP2:AnyC (red d c H1) 2 1940 (.ref tp1):=aP.up.mono (by decide)
 have gpH:=qD6 _ _ gp;have glH:=qD6 _ _ gl;have nw:∀ {Hx:Hp} {q:Addr},Same H1 Hx->Hx q=none->q ≠ d/\q ≠ c:=fun {Hx q} k h=>⟨(qA8 (S1.same k).dict h).symm,(qA8 (S1.same k).list h).symm⟩
 -- a list of sides;a row
 have lis:∀ {Hx G:Hp} {q:Addr} {xs:List V} (b:Bool),Same H1 Hx->Hx q=none->Same Hx G->G q=some (seqO b xs)->xs.length<=20->(∀ x ∈ xs,x ∈ X\/x=.ref tp1)->AnyC (red d c G) 2 1940 (.ref q):=fun {Hx G q xs} b k h s g l m=>AnyC.seq (b:=b) (n:=1) (W:=96) (L:=20) (qCD (nw k h) g) l (by decide) fun x hx=>by
  have ss:=qAC (d:=d) (c:=c) (k.trans s);rcases m x hx with z | z
  ·exact (aX x z).same ss
  ·rw [z];exact aP.same ss
 have row:∀ {Hx G:Hp} {q:Addr} {xs:List V} (b:Bool),Same H1 Hx->Hx q=none->Same Hx G->G q=some (seqO b xs)->xs.length<=3->(∀ x ∈ xs,AnyC (red d c Hx) 2 1940 x)->AnyC (red d c G) 3 5823 (.ref q):=fun {Hx G q xs} b k h s g l m=>AnyC.seq (b:=b) (n:=2) (W:=1940) (L:=3) (qCD (nw k h) g) l (by decide) fun x hx=>(m x hx).same (qAC s)
 have cin:∀ {lo hi:Option Int},∀ x ∈ cutV X lo hi,x ∈ X\/x=.ref tp1:=fun x hx=>.inl (qJX hx);have cle:∀ (lo hi:Option Int),(cutV X lo hi).length<=8:=fun lo hi=>M5 (qUG X lo hi) lX;have sz:∀ {n:Nat},n<=400->n<=sizeLine:=fun h=>by rw [sizeLine_eq];omega
 have two:∀ {R:Hp} {x y:V},AnyC R 2 1940 x->AnyC R 2 1940 y->∀ z ∈ [x,y],AnyC R 2 1940 z:=fun h1 h2 z hz=>by simp at hz;rcases hz with rfl | rfl;exact h1;exact h2
 have KF:=K1;clear gp1 gl1 gr1 T1 RW;refine hN1 _ _ (cut fun N2 hN2=>?_);have U0:Same H1 H1:=.refl _;have Z0:ZAn d c H1 []:=fun x hx=>nomatch hx;refine ⟨_,rfl,?_⟩;refine ⟨_,rfl,_,rfl,_,rfl,ls1,_,rfl,SqL.of (U0 _ _ glH),fun p1 hp1=>?_⟩;obtain ⟨G1,e_,s1,g_p1⟩:=qAJ hp1 (.lst (cutV X none (some k)));rw [e_];have a_p1:=lis false U0 hp1 s1 g_p1 (by have:=cle none (some k);omega) cin
 have U1:=U0.trans s1;have Z1:=Z0.same s1;refine ⟨(by show 2<=sizeLine;decide),fun q1 hq1=>?_⟩
 obtain ⟨G2,e_,s2,g_q1⟩:=qAJ hq1 (.tup [V.ref tp1,V.ref p1]);rw [e_];have a_q1:=row true U1 hq1 s2 g_q1 (by show 2<=3;decide) (two (aP2.same (qAC U1)) a_p1)
 have U2:=U1.trans s2;have Z2:=Z1.same s2;have Z3:=Z2.snoc a_q1;refine ⟨_,rfl,?_⟩;refine ⟨_,rfl,_,rfl,_,rfl,ls1,_,rfl,SqL.of (U2 _ _ glH),fun p2 hp2=>?_⟩;obtain ⟨G4,e_,s4,g_p2⟩:=qAJ hp2 (.lst (cutV X none (some k)));rw [e_];have a_p2:=lis false U2 hp2 s4 g_p2 (by have:=cle none (some k);omega) cin
 have U4:=U2.trans s4;have Z4:=Z3.same s4;refine ⟨_,rfl,_,rfl,_,_,rfl,rfl,_,rfl,ls1,_,rfl,SqL.of (U4 _ _ glH),fun p3 hp3=>?_⟩;obtain ⟨G5,e_,s5,g_p3⟩:=qAJ hp3 (.lst (cutV X (some (k+1)) none));rw [e_];have a_p3:=lis false U4 hp3 s5 g_p3 (by have:=cle (some (k+1)) none;omega) cin
 have U5:=U4.trans s5;have Z5:=Z4.same s5;have g_p2:=s5 _ _ g_p2;refine ⟨p2,p3,_,_,rfl,rfl,g_p2,g_p3,sz (by have:=cle none (some k);have:=cle (some (k+1)) none;omega),fun p4 hp4=>?_⟩
 obtain ⟨G6,e_,s6,g_p4⟩:=qAJ hp4 (.lst (cutV X none (some k)++cutV X (some (k+1)) none));rw [e_];have a_p4:=lis false U5 hp4 s6 g_p4 (by rw [B0];have:=cle none (some k);have:=cle (some (k+1)) none;omega) fun x hx=>(C2.mp hx).elim (cin x) (cin x)
 have U6:=U5.trans s6;have Z6:=Z5.same s6;refine ⟨(by show 2<=sizeLine;decide),fun q2 hq2=>?_⟩
 obtain ⟨G7,e_,s7,g_q2⟩:=qAJ hq2 (.tup [V.ref tp1,V.ref p4]);rw [e_];have a_q2:=row true U6 hq2 s7 g_q2 (by show 2<=3;decide) (two (aP2.same (qAC U6)) a_p4)
 have U7:=U6.trans s7;have Z7:=Z6.same s7;have Z8:=Z7.snoc a_q2;refine ⟨_,rfl,_,rfl,_,rfl,(by show 1<=sizeLine;decide),fun p5 hp5=>?_⟩
 obtain ⟨G9,e_,s9,g_p5⟩:=qAJ hp5 (.lst [V.ref tp1]);rw [e_];have U9:=U7.trans s9;have Z9:=Z8.same s9;refine ⟨ls1,p5,_,_,rfl,rfl,U9 _ _ glH,g_p5,sz (by show X.length+1<=400;omega),fun p6 hp6=>?_⟩
 obtain ⟨G10,e_,s10,g_p6⟩:=qAJ hp6 (.lst (X++[V.ref tp1]));rw [e_];have a_p6:=lis false U9 hp6 s10 g_p6 (by rw [B0];show _+1<=20;omega) fun x hx=>(C2.mp hx).elim .inl fun h=>.inr (B2.mp h)
 have U10:=U9.trans s10;have Z10:=Z9.same s10;refine ⟨(by show 2<=sizeLine;decide),fun q3 hq3=>?_⟩
 obtain ⟨G11,e_,s11,g_q3⟩:=qAJ hq3 (.tup [V.ref tp1,V.ref p6]);rw [e_];have a_q3:=row true U10 hq3 s11 g_q3 (by show 2<=3;decide) (two (aP2.same (qAC U10)) a_p6)
 have U11:=U10.trans s11;have Z11:=Z10.same s11;have Z12:=Z11.snoc a_q3;refine ⟨_,rfl,_,rfl,ls1,_,rfl,.inl ⟨SqL.of (U11 _ _ glH),fun p7 hp7=>?_⟩⟩;obtain ⟨G13,e_,s13,g_p7⟩:=qAJ hp7 (.tup X);rw [e_];have a_p7:=lis true U11 hp7 s13 g_p7 (by omega) fun x hx=>.inl hx
 have U13:=U11.trans s13;have Z13:=Z12.same s13;refine ⟨(by show 2<=sizeLine;decide),fun q4 hq4=>?_⟩
 obtain ⟨G14,e_,s14,g_q4⟩:=qAJ hq4 (.tup [V.ref tp1,V.ref p7]);rw [e_];have a_q4:=row true U13 hq4 s14 g_q4 (by show 2<=3;decide) (two (aP2.same (qAC U13)) a_p7)
 have U14:=U13.trans s14;have Z14:=Z13.same s14;have Z15:=Z14.snoc a_q4;refine ⟨(by show 4<=sizeLine;decide),fun l1 hl1=>?_⟩
 obtain ⟨G16,e_,s16,g_l1⟩:=qAJ hl1 (.lst [V.ref q1,V.ref q2,V.ref q3,V.ref q4]);rw [e_];have U16:=U14.trans s16;have Z16:=Z15.same s16;refine hN2 _ _ (cut fun N3 hN3=>?_);refine ⟨_,rfl,_,rfl,_,rfl,(by show 2<=sizeLine;decide),fun q5 hq5=>?_⟩
 obtain ⟨G17,e_,s17,g_q5⟩:=qAJ hq5 (.lst [V.ref tp1,V.ref ls1]);rw [e_];have a_q5:=row false U16 hq5 s17 g_q5 (by show 2<=3;decide) (two (aP2.same (qAC U16)) (aS.same (qAC U16)))
 have U17:=U16.trans s17;have Z17:=Z16.same s17;have g_l1:=s17 _ _ g_l1;have Z18:=Z17.snoc a_q5;refine ⟨_,rfl,_,rfl,(by show 0<=sizeLine;decide),fun p8 hp8=>?_⟩
 obtain ⟨G19,e_,s19,g_p8⟩:=qAJ hp8 (.tup []);rw [e_];have a_p8:=lis true U17 hp8 s19 g_p8 (by show 0<=20;decide) fun x hx=>nomatch hx
 have U19:=U17.trans s19;have Z19:=Z18.same s19;have g_l1:=s19 _ _ g_l1;refine ⟨(by show 3<=sizeLine;decide),fun q6 hq6=>?_⟩
 obtain ⟨G20,e_,s20,g_q6⟩:=qAJ hq6 (.tup [V.ref tp1,V.ref ls1,V.ref p8]);rw [e_];have a_q6:=row true U19 hq6 s20 g_q6 (by show 3<=3;decide) (fun z hz=>by simp at hz;rcases hz with rfl | rfl | rfl;exact (aP2.same (qAC U19));exact (aS.same (qAC U19));exact a_p8)
 have U20:=U19.trans s20;have Z20:=Z19.same s20;have g_l1:=s20 _ _ g_l1;have Z21:=Z20.snoc a_q6;refine ⟨_,rfl,(by show 1<=sizeLine;decide),fun q7 hq7=>?_⟩
 obtain ⟨G22,e_,s22,g_q7⟩:=qAJ hq7 (.tup [V.ref tp1]);rw [e_];have a_q7:=row true U20 hq7 s22 g_q7 (by show 1<=3;decide) (fun z hz=>by rw [B2.mp hz];exact (aP2.same (qAC U20)))
 have U22:=U20.trans s22;have Z22:=Z21.same s22;have g_l1:=s22 _ _ g_l1;have Z23:=Z22.snoc a_q7;have lp1:1<=p.1.length:=W6.mpr B.ne;refine ⟨_,rfl,_,rfl,tp1,_,rfl,SqT.of (U22 _ _ gpH),?_,fun p9 hp9=>?_⟩
 ·rw [A0,show (1:Int)=((1:Nat):Int) from rfl,HT.sIx_nat];omega
 rw [qCZ];obtain ⟨G24,e_,s24,g_p9⟩:=qAJ hp9 (.tup ((cutI p.1 (some 1) none).map V.int));rw [e_];have a_p9:AnyC (red d c G24) 2 1940 (.ref p9):=((qE9 true (qCD (nw U22 hp9) g_p9) (by have:=qQF p.1 (some 1) none;omega) fun z hz=>B.pin z (qWE hz)).up).mono (by decide)
 have U24:=U22.trans s24;have Z24:=Z23.same s24;have g_l1:=s24 _ _ g_l1;refine ⟨_,rfl,(by show 2<=sizeLine;decide),fun q8 hq8=>?_⟩
 obtain ⟨G25,e_,s25,g_q8⟩:=qAJ hq8 (.tup [V.ref p9,V.ref ls1]);rw [e_];have a_q8:=row true U24 hq8 s25 g_q8 (by show 2<=3;decide) (two a_p9 (aS.same (qAC U24)))
 have U25:=U24.trans s25;have Z25:=Z24.same s25;have g_l1:=s25 _ _ g_l1;have Z26:=Z25.snoc a_q8;refine ⟨_,rfl,_,rfl,?_⟩;refine ⟨_,rfl,_,rfl,ls1,_,rfl,SqL.of (U25 _ _ glH),fun p10 hp10=>?_⟩;obtain ⟨G27,e_,s27,g_p10⟩:=qAJ hp10 (.lst (cutV X none (some 1)));rw [e_];have a_p10:=lis false U25 hp10 s27 g_p10 (by have:=cle none (some 1);omega) cin
 have U27:=U25.trans s27;have Z27:=Z26.same s27;have g_l1:=s27 _ _ g_l1;refine ⟨ls1,p10,_,_,rfl,rfl,U27 _ _ glH,g_p10,sz (by have:=cle none (some 1);omega),fun p11 hp11=>?_⟩
 obtain ⟨G28,e_,s28,g_p11⟩:=qAJ hp11 (.lst (X++cutV X none (some 1)));rw [e_];have a_p11:=lis false U27 hp11 s28 g_p11 (by rw [B0];have:=cle none (some 1);omega) fun x hx=>(C2.mp hx).elim .inl (cin x)
 have U28:=U27.trans s28;have Z28:=Z27.same s28;have g_l1:=s28 _ _ g_l1;refine ⟨(by show 2<=sizeLine;decide),fun q9 hq9=>?_⟩
 obtain ⟨G29,e_,s29,g_q9⟩:=qAJ hq9 (.tup [V.ref tp1,V.ref p11]);rw [e_];have a_q9:=row true U28 hq9 s29 g_q9 (by show 2<=3;decide) (two (aP2.same (qAC U28)) a_p11)
 have U29:=U28.trans s29;have Z29:=Z28.same s29;have g_l1:=s29 _ _ g_l1;have Z30:=Z29.snoc a_q9;refine ⟨(by show 5<=sizeLine;decide),fun l2 hl2=>?_⟩
 obtain ⟨G31,e_,s31,g_l2⟩:=qAJ hl2 (.lst [V.ref q5,V.ref q6,V.ref q7,V.ref q8,V.ref q9]);rw [e_];have U31:=U29.trans s31;have Z31:=Z30.same s31;have g_l1:=s31 _ _ g_l1;refine ⟨l1,l2,_,_,rfl,rfl,g_l1,g_l2,sz (by show 4+5<=400;decide),fun l3 hl3=>?_⟩
 obtain ⟨G32,e_,s32,g_l3⟩:=qAJ hl3 (.lst ([V.ref q1,V.ref q2,V.ref q3,V.ref q4]++[V.ref q5,V.ref q6,V.ref q7,V.ref q8,V.ref q9]));rw [e_];have U32:=U31.trans s32;have Z32:=Z31.same s32;have g_l1:=s32 _ _ g_l1;refine hN3 _ _ (cut fun N4 hN4=>?_);refine ⟨_,rfl,_,rfl,(by show 2<=sizeLine;decide),fun q10 hq10=>?_⟩
 obtain ⟨G33,e_,s33,g_q10⟩:=qAJ hq10 (.tup [V.ref tp1,V.non]);rw [e_];have a_q10:=row true U32 hq10 s33 g_q10 (by show 2<=3;decide) (two (aP2.same (qAC U32)) .non)
 have U33:=U32.trans s33;have Z33:=Z32.same s33;have g_l3:=s33 _ _ g_l3;have Z34:=Z33.snoc a_q10;refine ⟨_,rfl,tp1,_,rfl,.inr (SqT.of (U33 _ _ gpH)),fun p12 hp12=>?_⟩;obtain ⟨G35,e_,s35,g_p12⟩:=qAJ hp12 (.lst (p.1.map V.int));rw [e_];have a_p12:AnyC (red d c G35) 2 1940 (.ref p12):=((qE9 false (qCD (nw U33 hp12) g_p12) pl8 B.pin).up).mono (by decide)
 have U35:=U33.trans s35;have Z35:=Z34.same s35;have g_l3:=s35 _ _ g_l3;refine ⟨_,rfl,(by show 2<=sizeLine;decide),fun q11 hq11=>?_⟩
 obtain ⟨G36,e_,s36,g_q11⟩:=qAJ hq11 (.tup [V.ref p12,V.ref ls1]);rw [e_];have a_q11:=row true U35 hq11 s36 g_q11 (by show 2<=3;decide) (two a_p12 (aS.same (qAC U35)))
 have U36:=U35.trans s36;have Z36:=Z35.same s36;have g_l3:=s36 _ _ g_l3;have Z37:=Z36.snoc a_q11;refine ⟨(by show 2<=sizeLine;decide),fun l4 hl4=>?_⟩
 obtain ⟨G38,e_,s38,g_l4⟩:=qAJ hl4 (.lst [V.ref q10,V.ref q11]);rw [e_];have U38:=U36.trans s38;have Z38:=Z37.same s38;have g_l3:=s38 _ _ g_l3;refine ⟨l3,l4,_,_,rfl,rfl,g_l3,g_l4,sz (by show 9+2<=400;decide),fun l5 hl5=>?_⟩
 obtain ⟨G39,e_,s39,g_l5⟩:=qAJ hl5 (.lst ([V.ref q1,V.ref q2,V.ref q3,V.ref q4]++[V.ref q5,V.ref q6,V.ref q7,V.ref q8,V.ref q9]++[V.ref q10,V.ref q11]));rw [e_];have U39:=U38.trans s39;have Z39:=Z38.same s39;have g_l3:=s39 _ _ g_l3;refine hN4 _ _ (cut fun N5 hN5=>?_);refine ⟨_,rfl,_,rfl,tp1,rfl,⟨_,SqT.of (U39 _ _ gpH)⟩,fun px hpx=>?_⟩;refine qHH (p:=px) (a:=tp1) (xs:=p.1.map V.int) (fun i σ Hd=>∃ (v:Option V) (bs:List Bool),σ=[v]/\Same G39 Hd/\Hd px=some (.lst (bs.map V.bl))/\bs.length=i) ?_ ?_ ?_ ?_
 ·exact ⟨none,[],rfl,qA2 hpx _,qA1,rfl⟩
 ·rintro i σ Hd hi ⟨v,bs,rfl,sd,_⟩;exact SqT.of ((U39.trans sd) _ _ gpH)
 ·refine fun i x' σ Hd hx hI_2=>opq fun G_2 hG_2=>?_;obtain ⟨v,bs,rfl,sd,gq,lb⟩:=hI_2;obtain ⟨y1,ey,rfl⟩:=qBE hx;refine hG_2 ?_;have hi:=(A6.mp ey).1;refine ⟨_,rfl,rfl,_,gq,qAQ (by rw [A0];omega),_,bs++[_],rfl,qAB sd hpx,by rw [qA1,B6];rfl,by rw [B0,lb];rfl⟩
 refine fun σ Ga hI_3=>opq fun G_3 hG_3=>?_;obtain ⟨v,bs,rfl,sA,gpx,lb⟩:=hI_3;refine hG_3 ?_;rw [A0] at lb;have UA:=U39.trans sA;have ZA:=Z39.same sA;have g_l5:=sA _ _ g_l5;refine ⟨px,_,rfl,.inl ⟨SqL.of gpx,fun p13 hp13=>?_⟩⟩;obtain ⟨G40,e_,s40,g_p13⟩:=qAJ hp13 (.tup (bs.map V.bl));rw [e_];have a_p13:AnyC (red d c G40) 2 1940 (.ref p13):=((AnyC.seq (b:=true) (n:=0) (W:=11) (L:=8) (qCD (nw UA hp13) g_p13) (by rw [A0];omega) (by decide) fun x hx=>by obtain ⟨b,_,rfl⟩:=E1.mp hx;exact .bl).up).mono (by decide)
 have U40:=UA.trans s40;have Z40:=ZA.same s40;have g_l5:=s40 _ _ g_l5;refine ⟨_,rfl,(by show 2<=sizeLine;decide),fun q12 hq12=>?_⟩
 obtain ⟨G41,e_,s41,g_q12⟩:=qAJ hq12 (.tup [V.ref p13,V.ref ls1]);rw [e_];have a_q12:=row true U40 hq12 s41 g_q12 (by show 2<=3;decide) (two a_p13 (aS.same (qAC U40)))
 have U41:=U40.trans s41;have Z41:=Z40.same s41;have g_l5:=s41 _ _ g_l5;have Z42:=Z41.snoc a_q12;refine ⟨_,rfl,_,rfl,ls1,rfl,⟨_,SqL.of (U41 _ _ glH)⟩,fun py hpy=>?_⟩;refine qFP (p:=py) (a:=ls1) (xs:=X) (fun i σ Hd=>∃ (v:Option V) (qs:List Addr),σ=[v]/\Same G41 Hd/\Hd py=some (.lst (qs.map V.ref))/\qs.length=i/\∀ u ∈ qs,∃ zs:List Int,Hd u=some (.lst (zs.map V.int))/\u ≠ py/\(u ≠ d/\u ≠ c)/\zs.length<=8/\∀ z ∈ zs,-2000<=z/\z<=2000) ?_ ?_ ?_ ?_
 ·exact ⟨none,[],rfl,qA2 hpy _,qA1,rfl,fun _ h=>nomatch h⟩
 ·rintro i σ Hd hi ⟨v,qs,rfl,sd,_⟩;exact SqL.of ((U41.trans sd) _ _ glH)
 ·refine fun i x' σ Hd hx hI_5=>opq fun G_5 hG_5=>?_;obtain ⟨v,qs,rfl,sd,gq,lq,oq⟩:=hI_5;refine hG_5 ?_;have hi:=(A6.mp hx).1;rw [eX] at hx;obtain ⟨u,eu,rfl⟩:=qGN hx;obtain ⟨s0,hs0,gu⟩:=L2.G.tups_mem T (C5 eu);have guH:=(U41.trans sd) _ _ (qD6 _ _ gu);refine ⟨_,rfl,u,_,rfl,.inr (SqT.of guH),fun u2 hu2=>?_⟩;have sv:=qA2 hu2 (.lst (s0.map V.int));have gq2:=sv _ _ gq;refine ⟨_,gq2,qAQ (by rw [A0];omega),_,qs++[u2],rfl,qAB (sd.trans sv) hpy,by rw [qA1,B6];rfl,by rw [B0,lq];rfl,fun u3 hu3=>?_⟩
  rcases C2.mp hu3 with h | h
  ·obtain ⟨zs,g3,n3,r3⟩:=oq u3 h;exact ⟨zs,by rw [qA9 n3];exact sv _ _ g3,n3,r3⟩
  ·rw [B2.mp h];exact ⟨s0,by rw [qA9 (qA8 gq hu2).symm];exact qA1,(qA8 gq hu2).symm,nw (U41.trans sd) hu2,(B.sb s0 hs0).1,(B.sb s0 hs0).2⟩
 refine fun σ Gb hI_6=>opq fun G_6 hG_6=>?_;obtain ⟨v,qs,rfl,sB,gpy,lq,oq⟩:=hI_6;refine hG_6 ?_;have UB:=U41.trans sB;have ZB:=Z42.same sB;have g_l5:=sB _ _ g_l5;have a_py:AnyC (red d c Gb) 2 1940 (.ref py):=AnyC.seq (b:=false) (n:=1) (W:=96) (L:=20) (qCD (nw U41 hpy) gpy) (by rw [A0];omega) (by decide) fun x hx=>by
  obtain ⟨u,hu,rfl⟩:=E1.mp hx;obtain ⟨zs,g3,_,n3,l3,b3⟩:=oq u hu;exact qE9 false (qCD n3 g3) l3 b3
 refine ⟨(by show 2<=sizeLine;decide),fun q13 hq13=>?_⟩
 obtain ⟨G43,e_,s43,g_q13⟩:=qAJ hq13 (.tup [V.ref tp1,V.ref py]);rw [e_];have a_q13:=row true UB hq13 s43 g_q13 (by show 2<=3;decide) (two (aP2.same (qAC UB)) a_py)
 have U43:=UB.trans s43;have Z43:=ZB.same s43;have g_l5:=s43 _ _ g_l5;have Z44:=Z43.snoc a_q13;refine ⟨_,rfl,_,rfl,(by show 2<=sizeLine;decide),fun q14 hq14=>?_⟩
 obtain ⟨G45,e_,s45,g_q14⟩:=qAJ hq14 (.tup [V.ref ls1,V.ref tp1]);rw [e_];have a_q14:=row true U43 hq14 s45 g_q14 (by show 2<=3;decide) (two (aS.same (qAC U43)) (aP2.same (qAC U43)))
 have U45:=U43.trans s45;have Z45:=Z44.same s45;have g_l5:=s45 _ _ g_l5;have Z46:=Z45.snoc a_q14;refine ⟨(by show 3<=sizeLine;decide),fun l6 hl6=>?_⟩
 obtain ⟨G47,e_,s47,g_l6⟩:=qAJ hl6 (.lst [V.ref q12,V.ref q13,V.ref q14]);rw [e_];have U47:=U45.trans s47;have Z47:=Z46.same s47;have g_l5:=s47 _ _ g_l5;refine ⟨l5,l6,_,_,rfl,rfl,g_l5,g_l6,sz (by show 11+3<=400;decide),fun l7 hl7=>?_⟩
 obtain ⟨G48,e_,s48,g_l7⟩:=qAJ hl7 (.lst ([V.ref q1,V.ref q2,V.ref q3,V.ref q4]++[V.ref q5,V.ref q6,V.ref q7,V.ref q8,V.ref q9]++[V.ref q10,V.ref q11]++[V.ref q12,V.ref q13,V.ref q14]));rw [e_];have U48:=U47.trans s48;have Z48:=Z47.same s48;have g_l5:=s48 _ _ g_l5;refine hN5 _ _ ?_;have nl7:=nw U47 hl7;refine ⟨_,rfl,_,rfl,_,rfl,l7,_,rfl,.inl (SqL.of g_l7),?_⟩;refine ⟨d,c,t+1,ns1,14,rfl,S1.same U48,(by show t+1<=1000000000;omega),by decide,by decide,fun j ns2 H9 j0 j1 S9 K9=>?_⟩
 obtain ⟨Y,eY⟩:∃ Y:List V,Y=[V.ref q1,V.ref q2,V.ref q3,V.ref q4,V.ref q5,V.ref q6,V.ref q7,V.ref q8,V.ref q9,V.ref q10,V.ref q11,V.ref q12,V.ref q13,V.ref q14]:=⟨_,rfl⟩;have g_l7:G48 l7=some (.lst Y):=by rw [eY];exact g_l7
 have Z48:ZAn d c G48 Y:=by rw [eY];exact Z48
 have lY:Y.length=14:=by rw [eY];rfl
 clear eY;have hj:j.toNat<Y.length:=by omega
 have ej:=A5 hj;refine ⟨l7,_,_,_,rfl,rfl,SqL.of (K9 _ _ g_l7 nl7.1 nl7.2),qAV j0 ej,?_⟩;exact q _ (t+1+1) ns2 H9 S9 (by omega) (by omega) (KF.trans ((Keep.of_same U48).trans K9)) ((Z48 _ (m4 hj)).same (qCY K9))
end
section
variable {P:Program} {w:World} {K:PySem.W.Frag} {mg:Str->Option Value} {base:Heap} {f:Addr} {fd:FuncData} {qCW qF5:Addr} {qCM qIO:FuncData}
theorem sc_Lbent:FnScope ["_law_state","_law_net_here","_law_paper","_law_way","_law_k","_law_some"] ["_law_state","_law_net_here","_law_paper"] (qAE qLD):=⟨rfl,rfl,rfl,by decide +kernel,rfl,by decide +kernel,by decide +kernel⟩
theorem ok_Lbent (F:Fun K "_law_bent" "_law_bent" qLD f fd) (qAP:Clb P w K mg base 1 qCW qCM "_law_take" ["_law_state","_law_many"] qJD) (qFG:Clb P w K mg base 2 qF5 qIO "_law_bent_row" ["_law_state","_law_net_here","_law_row"] qMD) (qB6:mg "len" = none) (qAK:mg "tuple" = none):FnOk P w K mg base CX0 3 f fd ["_law_state","_law_net_here","_law_paper"] qSI:=by
 refine F.ok sc_Lbent (fun vs H Q E h=>?_) (fun cdv A outer s H vs Q E hr h=>?_)
 ·obtain ⟨d,c,t,ns,a,l,Ae,rs,ps,rfl,_⟩:=h
  rfl
 obtain ⟨d,c,t,ns,a,l,Ae,rs,ps,rfl,S,ht,hN,n1,n8,gl,nld,nlc,PR,RB,l1,l62,q⟩:=h;have ht':t<=1000000000 - 200:=ht;refine ⟨_,(qA4 (qAG (i:=3) sc_Lbent.nd rfl (E8 rfl) (qB4 qAP hr rfl (qA0 (pv 0) (qA0 qA5 qA3)))) (qA4 (qAG (i:=4) sc_Lbent.nd rfl (E8 rfl) (qB4 qAP hr rfl (qA0 (pv 0) (qA0 (qAA qAI rfl qB6 qBT (qA0 (pv 2) qA3)) qA3)))) (qA4 (qBB (qAO qHC (pv 3) qA5 (qAU _)) (qA6 (qAF (qSZ (pv 2) (qBD (qR3 qKJ qA5))))) qAH) (qA4 (qBB (qAO qHC (pv 3) qA5 (qAU _)) (qA6 (qAF (qAM qD8 (qB2 qCI (pv 2) qBK (qBD (pv 4))) (qB2 qCI (pv 2) (qBD (qAM qCG (pv 4) qA5)) qBK)))) qAH) (qA4 (qBB (qAO qHC (pv 3) qA5 (qAU _)) (qA6 (qAF (qAM qD8 (pv 2) (qAR (qA0 (qB0 qC3 (pv 2) (pv 4) (fun _ _=>rfl)) qA3))))) qAH) (qA4 (qBB (qAO qHC (pv 3) qA5 (qAU _)) (qA4 (qAG (i:=5) sc_Lbent.nd rfl (E8 rfl) (qAR (qA0 (qAN qAS rfl qAK qB7 (qA0 (pv 2) qA3)) (qA0 qPV (qA0 qCH (qA0 (qAR qA3) (qA0 qII (qA0 qA5 (qA0 (qAR (qA0 qPV qA3)) (qA0 (qAR (qA0 (pv 2) qA3)) (qA0 (qAM qD8 (pv 2) (qAR (qA0 (qBF (qA0 (qBF (qA0 (qAM qDQ (qAA qAI rfl qB6 qBT (qA0 (pv 1) qA3)) qA5) qA3)) (qA0 (qAR qA3) qA3))) qA3))) qA3 (hs:=qaF)) (hs:=qLN)) (hs:=qLN)) (hs:=qJ3)) (hs:=qJ3)) (hs:=qLN)) (hs:=qJ3)) (hs:=qJ3)) (hs:=qYO)))) (qA6 (qAF (qB0 qC3 (pv 5) (qB4 qAP hr rfl (qA0 (pv 0) (qA0 qA5 qA3))) (fun _ _=>rfl))))) qAH) (qA4 (qBB (qAO qHC (pv 3) qA5 (qAU _)) (qA6 (qAF (qAM qD8 (qAM qD8 (qB2 qCI (pv 2) qBK (qBD (pv 4))) (qAR (qA0 (qBF (qA0 (qB0 qB3 (qB0 qC3 (pv 2) (pv 4) (fun _ _=>rfl)) qA5 (fun _ _=>rfl)) (qA0 (qB0 qB3 (qB0 qC3 (pv 2) (qB4 qAP hr rfl (qA0 (pv 0) (qA0 (qAA qAI rfl qB6 qBT (qA0 (pv 2) qA3)) qA3))) (fun _ _=>rfl)) qA5 (fun _ _=>rfl)) qA3))) qA3))) (qB2 qCI (pv 2) (qBD (qAM qCG (pv 4) qA5)) qBK)))) qAH) (qA6 (qAF (qAM qD8 (qAM qD8 (qB2 qCI (pv 2) qBK (qBD (pv 4))) (qAR (qA0 (qB4 qFG hr rfl (qA0 (pv 0) (qA0 (pv 1) (qA0 (qB0 qC3 (pv 2) (pv 4) (fun _ _=>rfl)) qA3)))) qA3))) (qB2 qCI (pv 2) (qBD (qAM qCG (pv 4) qA5)) qBK))))))))))),?_⟩
 try dsimp only [Cx.nox,Cx.wish,cxOf]
 have lps:=C8 PR;refine cut fun N0 hN0=>?_;refine ⟨_,rfl,d,c,t,ns,7,rfl,S,(by show t<=1000000000;omega),by decide,by decide,fun way ns1 H1 y0 y7 S1 K1=>?_⟩
 refine hN0 _ _ (cut fun N1 hN1=>?_);have gl1:=K1 _ _ gl nld nlc;refine ⟨_,rfl,_,rfl,l,_,rfl,.inl (SqL.of gl1),?_⟩;rw [A0];refine ⟨d,c,t+1,ns1,_,rfl,S1,(by show t+1<=1000000000;omega),by omega,by omega,fun k ns2 H2 k0 k1 S2 K2=>?_⟩
 have gl2:=K2 _ _ gl1 nld nlc;have KA:=K1.trans K2;have PR2:Paired (Row (red d c H2)) rs ps:=Paired.mapP PR fun r p e=>(e.red S).same (qCY KA);have each:∀ (i:Nat) (r:Addr),rs[i]?=some r->∃ p,Row (red d c H2) r p/\RowB p:=fun i r hr=>by
  obtain ⟨p,hp,e⟩:=qCF PR2 hr;exact ⟨p,e,RB p (C5 hp)⟩
 obtain ⟨X,eX⟩:∃ X,X=rs.map V.ref:=⟨_,rfl⟩;rw [<- eX] at gl2;have lX:X.length=rs.length:=by rw [eX,A0]
 have aX:∀ x ∈ X,AnyC (red d c H2) 3 5823 x:=fun x hx=>by
  rw [eX] at hx;obtain ⟨r,hr,rfl⟩:=E1.mp hx;obtain ⟨i,hi⟩:=M7 hr;obtain ⟨p,e,b⟩:=each i r hi;exact qXV e b
 have hk:k.toNat<rs.length:=by omega
 obtain ⟨r0,er0⟩:∃ r0,rs[k.toNat]?=some r0:=⟨_,A5 hk⟩;have ek:atI X k=some (.ref r0):=qAV k0 (by rw [eX,C4,er0];rfl)
 have m0:V.ref r0 ∈ X:=by rw [eX];exact z8 (C5 er0)
 have fin:∀ {x:V} {Hx:Hp},Same H2 Hx->AnyC (red d c Hx) 5 400000 x->Q x Hx:=fun {x Hx} k h=>q x (t+1+1) ns2 Hx (S2.same k) (by omega) (by omega) (KA.trans (.of_same k)) h
 have finK:∀ {x:V} {Hx:Hp} {t':Int} {ns':List Int},StAt Hx d c t' ns'->t<=t'->t'<=t+20->Keep d c H2 Hx->AnyC (red d c Hx) 5 400000 x->Q x Hx:=fun S' h1 h2 k h=>q _ _ _ _ S' h1 h2 (KA.trans k) h;have cl:∀ (lo hi:Option Int),(cutV X lo hi).length<=rs.length:=fun lo hi=>by have:=qUG X lo hi;omega
 have sz:∀ {n:Nat},n<=400->n<=sizeLine:=fun h=>by rw [sizeLine_eq];omega
 have c2:(cutV X none (some k)).length+(cutV X (some (k+1)) none).length<=62:=by
  have h1:cutV X none (some k)=X.take k.toNat:=by have e:=qWD X k.toNat;rw [show ((k.toNat:Nat):Int)=k by omega] at e;exact e
  have h2:cutV X (some (k+1)) none=X.drop (k.toNat+1):=by rw [show k+1=((k.toNat+1:Nat):Int) by omega,qRM _ _ (by omega)]
  rw [h1,h2,D7,F2];omega
 clear PR PR2 K1 K2 gl gl1;refine hN1 _ _ (cut fun N2 hN2=>?_)
 -- 0: turned about
 refine ⟨_,rfl,rfl,_,rfl,?_⟩;refine ite2 (fun _=>?_) (fun _=>?_)
 ·refine ⟨_,rfl,_,rfl,_,rfl,rfl,l,_,rfl,SqL.of gl2,fun p hp=>?_⟩;exact fin (qA2 hp _) (qDY false S2 hp (by rw [c6];omega) fun x hx=>aX x (T5.mp hx))
 refine hN2 _ _ (cut fun N3 hN3=>?_)
 -- 1: one left out
 refine ⟨_,rfl,rfl,_,rfl,?_⟩;refine ite2 (fun _=>?_) (fun _=>?_)
 ·refine ⟨_,rfl,_,rfl,_,rfl,l,_,rfl,SqL.of gl2,fun p1 hp1=>?_⟩;have s1:=qA2 hp1 (.lst (cutV X none (some k)));refine ⟨_,rfl,_,rfl,_,_,rfl,rfl,_,rfl,l,_,rfl,SqL.of (s1 _ _ gl2),fun p2 hp2=>?_⟩;have s2:=qA2 hp2 (.lst (cutV X (some (k+1)) none));refine ⟨p1,p2,_,_,rfl,rfl,s2 _ _ qA1,qA1,sz (by omega),fun p3 hp3=>?_⟩
  have s12:=s1.trans s2;exact fin (s12.trans (qA2 hp3 _)) (qDY false (S2.same s12) hp3 (by rw [B0];omega) fun x hx=>(aX x ((C2.mp hx).elim qJX qJX)).same (qAC s12))
 refine hN3 _ _ (cut fun N4 hN4=>?_)
 -- 2: one twice
 refine ⟨_,rfl,rfl,_,rfl,?_⟩;refine ite2 (fun _=>?_) (fun _=>?_)
 ·refine ⟨_,rfl,_,rfl,_,rfl,l,_,_,_,rfl,rfl,SqL.of gl2,ek,(by show 1<=sizeLine;decide),fun p1 hp1=>?_⟩
  have s1:=qA2 hp1 (.lst [V.ref r0]);refine ⟨l,p1,_,_,rfl,rfl,s1 _ _ gl2,qA1,sz (by show X.length+1<=400;omega),fun p2 hp2=>?_⟩
  exact fin (s1.trans (qA2 hp2 _)) (qDY false (S2.same s1) hp2 (by rw [B0];show _+1<=63;omega) fun x hx=>(aX x ((C2.mp hx).elim id fun h=>by rw [B2.mp h];exact m0)).same (qAC s1))
 refine hN4 _ _ (cut fun N5 hN5=>?_)
 -- 3: other things
 refine ⟨_,rfl,rfl,_,rfl,?_⟩;refine ite2 (fun _=>?_) (fun _=>?_)
 ·refine cut fun M1 hM1=>?_;refine ⟨_,rfl,l,_,rfl,.inl ⟨SqL.of gl2,fun p1 hp1=>?_⟩⟩;have s1:=qA2 hp1 (.tup X);have A1:AnyC (red d c (Ag H2 p1 (.tup X))) 5 400000 (.ref p1):=qDY true S2 hp1 (by omega) aX
  generalize Ag H2 p1 (.tup X)=G1 at s1 A1 ⊢;refine ⟨(by show 0<=sizeLine;decide),fun p2 hp2=>?_⟩
  have s2:=qA2 hp2 (.lst []);have U2:=s1.trans s2;have A2:AnyC (red d c (Ag G1 p2 (.lst []))) 5 400000 (.ref p2):=qDY false (S2.same s1) hp2 (F5 _) fun x hx=>nomatch hx;have A1:=A1.same (qAC s2);generalize Ag G1 p2 (.lst [])=G2 at s2 U2 A1 A2 ⊢;refine ⟨(by show 1<=sizeLine;decide),fun p3 hp3=>?_⟩
  have s3:=qA2 hp3 (.lst [V.non]);have U3:=U2.trans s3;have A3:AnyC (red d c (Ag G2 p3 (.lst [V.non]))) 5 400000 (.ref p3):=qDY false (S2.same U2) hp3 (by show 1<=63;decide) fun x hx=>by rw [B2.mp hx];exact .non
  have A1:=A1.same (qAC s3);have A2:=A2.same (qAC s3);generalize Ag G2 p3 (.lst [V.non])=G3 at s3 U3 A1 A2 A3 ⊢;refine ⟨_,rfl,(by show 1<=sizeLine;decide),fun p4 hp4=>?_⟩
  have s4:=qA2 hp4 (.lst [V.ref l]);have U4:=U3.trans s4;have A4:AnyC (red d c (Ag G3 p4 (.lst [V.ref l]))) 5 400000 (.ref p4):=(AnyC.seq (b:=false) (n:=4) (W:=366912) (L:=1) (qCD (qFN (S2.same U3) hp4) qA1) (show [V.ref l].length<=1 from B3 1) (by decide) fun x hx=>by
   rw [B2.mp hx];exact AnyC.seq (b:=false) (n:=3) (W:=5823) (L:=63) (qCD ⟨nld,nlc⟩ (U4 _ _ gl2)) (by omega) (by decide) fun x hx=>(aX x hx).same (qAC U4)).mono (by decide)
  have A1:=A1.same (qAC s4);have A2:=A2.same (qAC s4);have A3:=A3.same (qAC s4);generalize Ag G3 p4 (.lst [V.ref l])=G4 at s4 U4 A1 A2 A3 A4 ⊢;obtain ⟨ra,hA,NL⟩:=id ((hN.keep S KA).same U4);have lra:=C8 NL;refine ⟨_,rfl,_,rfl,a,_,rfl,.inr (SqT.of hA),_,_,rfl,rfl,(by show 1<=sizeLine;decide),fun p5 hp5=>⟨(by show 0<=sizeLine;decide),fun p6 hp6=>⟨(by show 2<=sizeLine;decide),fun p7 hp7=>⟨(by show 1<=sizeLine;decide),fun p8 hp8=>?_⟩⟩⟩⟩
  rw [A0,lra] at hp6 hp7 hp8 ⊢;dsimp only at hp6 hp7 hp8 ⊢;have zz : -2000<=((Ae.length:Nat):Int) - 1/\((Ae.length:Nat):Int) - 1<=2000:=by omega
  generalize ((Ae.length:Nat):Int) - 1=z9 at hp6 hp7 hp8 zz ⊢;have s5:=qA2 hp5 (.tup [V.int z9]);have g5:=qCD (d:=d) (c:=c) (qFN (S2.same U4) hp5) (show (Ag G4 p5 (.tup [V.int z9])) p5=some (.tup ([z9].map V.int)) from qA1);have U5:=U4.trans s5;generalize Ag G4 p5 (.tup [V.int z9])=G5 at s5 g5 U5 hp6 hp7 hp8 ⊢;have s6:=qA2 hp6 (.lst []);have g6:=qCD (d:=d) (c:=c) (qFN (S2.same U5) hp6) (show (Ag G5 p6 (.lst [])) p6=some (seqO false []) from qA1);have g5:=qAC (d:=d) (c:=c) s6 _ _ g5;have U6:=U5.trans s6;generalize Ag G5 p6 (.lst [])=G6 at s6 g5 g6 U6 hp7 hp8 ⊢;have s7:=qA2 hp7 (.tup [V.ref p5,V.ref p6]);have A7:AnyC (red d c (Ag G6 p7 (.tup [V.ref p5,V.ref p6]))) 3 5823 (.ref p7):=AnyC.seq (b:=true) (n:=2) (W:=1940) (L:=3) (qCD (qFN (S2.same U6) hp7) qA1) (by show 2<=3;decide) (by decide) fun x hx=>by
   have ss:=qAC (d:=d) (c:=c) s7;simp at hx;rcases hx with rfl | rfl
   ·exact ((qE9 true (ss _ _ g5) (show 1<=8 by decide) fun z hz=>by rw [B2.mp hz];exact zz).up).mono (by decide)
   ·exact ((AnyC.seq (n:=0) (W:=11) (L:=0) (ss _ _ g6) (B3 0) (by decide) fun x hx=>nomatch hx).up).mono (by decide)
  have U7:=U6.trans s7;generalize Ag G6 p7 (.tup [V.ref p5,V.ref p6])=G7 at s7 A7 U7 hp8 ⊢;have s8:=qA2 hp8 (.lst [V.ref p7]);have g8:(Ag G7 p8 (.lst [V.ref p7])) p8=some (.lst [V.ref p7]):=qA1;have A7:=A7.same (qAC s8);have U8:=U7.trans s8;generalize Ag G7 p8 (.lst [V.ref p7])=G8 at s8 g8 A7 U8 ⊢;refine ⟨l,p8,_,_,rfl,rfl,U8 _ _ gl2,g8,sz (by show X.length+1<=400;omega),fun p9 hp9=>?_⟩
  have s9:=qA2 hp9 (.lst (X++[V.ref p7]));have A9:AnyC (red d c (Ag G8 p9 (.lst (X++[V.ref p7])))) 5 400000 (.ref p9):=qDY false (S2.same U8) hp9 (by rw [B0];show _+1<=63;omega) fun x hx=>(C2.mp hx).elim (fun h=>(aX x h).same (qAC U8)) fun h=>by rw [B2.mp h];exact A7
  have U9:=U8.trans s9;have s49:=s5.trans (s6.trans (s7.trans (s8.trans s9)));have A1:=A1.same (qAC s49);have A2:=A2.same (qAC s49);have A3:=A3.same (qAC s49);have A4:=A4.same (qAC s49);generalize Ag G8 p9 (.lst (X++[V.ref p7]))=G9 at A9 U9 A1 A2 A3 A4 s49 s9 ⊢;refine ⟨(by show 9<=sizeLine;decide),fun L hL=>?_⟩
  obtain ⟨Y,eY⟩:∃ Y:List V,Y=[.ref p1,.non,.bl true,.ref p2,.str "",.int 0,.ref p3,.ref p4,.ref p9]:=⟨_,rfl⟩;have aY:∀ x ∈ Y,AnyC (red d c G9) 5 400000 x:=fun x hx=>by
   rw [eY] at hx;simp at hx;rcases hx with rfl | rfl | rfl | rfl | rfl | rfl | rfl | rfl | rfl
   ·exact A1
   ·exact .non
   ·exact .bl
   ·exact A2
   ·exact .str0
   ·exact (AnyC.int (by decide)).mono (by decide)
   ·exact A3
   ·exact A4
   ·exact A9
  have lY:Y.length=9:=by rw [eY];rfl
  have sL:=qA2 hL (.lst Y);have nL:=qFN (S2.same U9) hL;have gL:(Ag G9 L (.lst Y)) L=some (.lst Y):=qA1;have UL:=U9.trans sL;have aY:=fun x hx=>(aY x hx).same (qAC sL);show M1 _ (Ag G9 L (.lst [.ref p1,.non,.bl true,.ref p2,.str "",.int 0,.ref p3,.ref p4,.ref p9]));rw [<- eY];generalize Ag G9 L (.lst Y)=GL at gL UL aY ⊢;refine hM1 _ _ ?_;refine ⟨_,rfl,_,rfl,d,c,t+1+1,ns2,9,rfl,S2.same UL,(by show t+1+1<=1000000000;omega),by decide,by decide,fun j ns3 H9 j0 j1 S9 K9=>?_⟩
  have hj:j.toNat<Y.length:=by omega
  refine ⟨L,_,_,_,rfl,rfl,SqL.of (K9 _ _ gL nL.1 nL.2),qAV j0 (A5 hj),?_⟩;exact finK S9 (by omega) (by omega) ((Keep.of_same UL).trans K9) ((aY _ (m4 hj)).same (qCY K9))
 refine hN5 _ _ (cut fun N6 hN6=>?_)
 -- the end that two have
 have tail:∀ {Hx:Hp} {t':Int} {ns':List Int} {p1:Addr} {y:V},StAt Hx d c t' ns'->t<=t'->t'<=t+20->Keep d c H2 Hx->Hx p1=some (.lst (cutV X none (some k)))->AnyC (red d c Hx) 3 5823 y->
   ∀ p2,Hx p2=none->∀ p3,(Ag Hx p2 (.lst [y])) p3=none->∀ p4,(Ag (Ag Hx p2 (.lst [y])) p3 (.lst (cutV X none (some k)++[y]))) p4=none->∀ p5,(Ag (Ag (Ag Hx p2 (.lst [y])) p3 (.lst (cutV X none (some k)++[y]))) p4 (.lst (cutV X (some (k+1)) none))) p5=none->Q (.ref p5) (Ag (Ag (Ag (Ag Hx p2 (.lst [y])) p3 (.lst (cutV X none (some k)++[y]))) p4 (.lst (cutV X (some (k+1)) none))) p5 (.lst (cutV X none (some k)++[y]++cutV X (some (k+1)) none))):=by
  intro Hx t' ns' p1 y S' h1 h2 KX g1 ay p2 hp2 p3 hp3 p4 hp4 p5 hp5;have ss:=(qA2 hp2 (.lst [y])).trans ((qA2 hp3 (.lst (cutV X none (some k)++[y]))).trans (qA2 hp4 (.lst (cutV X (some (k+1)) none))));refine finK (S'.same (ss.trans (qA2 hp5 _))) h1 h2 (KX.trans (.of_same (ss.trans (qA2 hp5 _)))) (qDY false (S'.same ss) hp5 (by rw [B0,B0];show _+1+_<=63;omega) fun x hx=>?_)
  rcases C2.mp hx with h | h
  ·rcases C2.mp h with h | h
   ·exact (aX x (qJX h)).same (fun b o e=>qAC ss b o (qCY KX b o e))
   ·rw [B2.mp h];exact ay.same (qAC ss)
  ·exact (aX x (qJX h)).same (fun b o e=>qAC ss b o (qCY KX b o e))
 have sz2:(cutV X none (some k)).length+1<=sizeLine:=sz (by omega)
 have sz3:∀ y:V,(cutV X none (some k)++[y]).length+(cutV X (some (k+1)) none).length<=sizeLine:=fun y=>sz (by rw [B0];show _+1+_<=400;omega)
 -- 4: sides of another
 refine ⟨_,rfl,rfl,_,rfl,?_⟩;refine ite2 (fun _=>?_) (fun _=>?_)
 ·refine ⟨_,rfl,_,rfl,_,rfl,l,_,rfl,SqL.of gl2,fun p1 hp1=>?_⟩;have s1:=qA2 hp1 (.lst (cutV X none (some k)));have g1:(Ag H2 p1 (.lst (cutV X none (some k)))) p1=some (.lst (cutV X none (some k))):=qA1;have n1':=qFN S2 hp1;generalize Ag H2 p1 (.lst (cutV X none (some k)))=G1 at s1 g1 ⊢;obtain ⟨pk,Rk,Bk⟩:=each _ r0 er0;obtain ⟨tp,ls,gr,ap,_⟩:=qMQ Rk Bk;refine ⟨_,rfl,_,rfl,l,_,_,_,rfl,rfl,SqL.of (s1 _ _ gl2),ek,r0,_,_,_,rfl,rfl,SqT.of (s1 _ _ (qD6 _ _ gr)),qAV (J7 0) rfl,?_⟩;refine ⟨_,rfl,_,rfl,_,rfl,l,_,rfl,.inl (SqL.of (s1 _ _ gl2)),?_⟩;refine ⟨d,c,t+1+1,ns2,_,rfl,S2.same s1,(by show t+1+1<=1000000000;omega),by omega,by omega,fun j ns3 H9 j0 j1 S9 K9=>?_⟩
  have KX:=(Keep.of_same s1).trans K9;have hj:j.toNat<rs.length:=by omega
  obtain ⟨r2,er2⟩:∃ r2,rs[j.toNat]?=some r2:=⟨_,A5 hj⟩;have ej:atI X j=some (.ref r2):=qAV j0 (by rw [eX,C4,er2];rfl)
  obtain ⟨pj,Rj,Bj⟩:=each _ r2 er2;obtain ⟨tp2,ls2,gr2,_,as2⟩:=qMQ Rj Bj;have gr9:=qCY KX _ _ gr2;refine ⟨l,_,_,_,rfl,rfl,SqL.of (KX _ _ gl2 nld nlc),ej,r2,_,_,_,rfl,rfl,SqT.of (qD6 _ _ gr9),qAV (by decide) rfl,(by show 2<=sizeLine;decide),fun q1 hq1=>?_⟩
  have sq:=qA2 hq1 (.tup [V.ref tp,V.ref ls2]);have aq:AnyC (red d c (Ag H9 q1 (.tup [V.ref tp,V.ref ls2]))) 3 5823 (.ref q1):=AnyC.seq (b:=true) (n:=2) (W:=1940) (L:=3) (qCD (qFN S9 hq1) qA1) (by show 2<=3;decide) (by decide) fun x hx=>by
   have s9:Same (red d c H2) (red d c (Ag H9 q1 (.tup [V.ref tp,V.ref ls2]))):=fun b o e=>qAC sq b o (qCY KX b o e);simp at hx;rcases hx with rfl | rfl
   ·exact ap.same s9
   ·exact as2.same s9
  have S10:=S9.same sq;have K10:=KX.trans (.of_same sq);have g10:=sq _ _ (K9 _ _ g1 n1'.1 n1'.2);generalize Ag H9 q1 (.tup [V.ref tp,V.ref ls2])=Ha at aq S10 K10 g10 ⊢;refine ⟨(by show 1<=sizeLine;decide),fun p2 hp2=>⟨p1,p2,_,_,rfl,rfl,(qA2 hp2 _) _ _ g10,qA1,sz2,fun p3 hp3=>?_⟩⟩
  refine ⟨_,rfl,_,rfl,_,_,rfl,rfl,_,rfl,l,_,rfl,SqL.of (((qA2 hp2 _).trans (qA2 hp3 _)) _ _ (K10 _ _ gl2 nld nlc)),fun p4 hp4=>?_⟩;exact ⟨p3,p4,_,_,rfl,rfl,(qA2 hp4 _) _ _ qA1,qA1,sz3 _,fun p5 hp5=>tail S10 (by omega) (by omega) K10 g10 aq p2 hp2 p3 hp3 p4 hp4 p5 hp5⟩
 -- 5: a row bent
 refine hN6 _ _ ?_;refine ⟨_,rfl,_,rfl,_,rfl,l,_,rfl,SqL.of gl2,fun p1 hp1=>?_⟩;have s1:=qA2 hp1 (.lst (cutV X none (some k)));have g1:(Ag H2 p1 (.lst (cutV X none (some k)))) p1=some (.lst (cutV X none (some k))):=qA1;have n1':=qFN S2 hp1;generalize Ag H2 p1 (.lst (cutV X none (some k)))=G1 at s1 g1 ⊢;obtain ⟨pk,Rk,Bk⟩:=each _ r0 er0;refine ⟨_,rfl,_,rfl,_,rfl,_,rfl,l,_,_,_,rfl,rfl,SqL.of (s1 _ _ gl2),ek,d,c,t+1+1,ns2,a,r0,pk,rfl,S2.same s1,(by show t+1+1<=1000000000 - 100;omega),(Rk.same qD6).same s1,Bk,fun y t6 ns6 Ha S10 e1 e2 K9 ay=>?_⟩
 have K10:=(Keep.of_same s1).trans K9;have g10:=K9 _ _ g1 n1'.1 n1'.2;refine ⟨(by show 1<=sizeLine;decide),fun p2 hp2=>⟨p1,p2,_,_,rfl,rfl,(qA2 hp2 _) _ _ g10,qA1,sz2,fun p3 hp3=>?_⟩⟩
 refine ⟨_,rfl,_,rfl,_,_,rfl,rfl,_,rfl,l,_,rfl,SqL.of (((qA2 hp2 _).trans (qA2 hp3 _)) _ _ (K10 _ _ gl2 nld nlc)),fun p4 hp4=>?_⟩;exact ⟨p3,p4,_,_,rfl,rfl,(qA2 hp4 _) _ _ qA1,qA1,sz3 _,fun p5 hp5=>tail S10 (by omega) (by omega) K10 g10 ay p2 hp2 p3 hp3 p4 hp4 p5 hp5⟩
end
section
variable {P:Program} {w:World} {K:PySem.W.Frag} {mg:Str->Option Value} {base:Heap} {f:Addr} {fd:FuncData} {qJ6 qCW qQ9 qF3 qCU qLR qF0 qJ4:Addr} {qNG qCM qU2 qIM qE2 qQ8 qIJ qNE:FuncData}
theorem sc_law:FnScope ["_law_script","_law_state","_law_turn","_law_net_here","_law_work","_law_bound","_law_paper","_law_more","_law_thing","_law_rooms","_law_written","_law_found"] ["_law_script"] (qAE qKD):=⟨rfl,rfl,rfl,by decide +kernel,rfl,by decide +kernel,by decide +kernel⟩
theorem ok_law (F:Fun K "law" "law" qKD f fd) (qJA:Clb P w K mg base 1 qJ6 qNG "_law_begin" ["_law_script"] (qSJ K)) (qAP:Clb P w K mg base 1 qCW qCM "_law_take" ["_law_state","_law_many"] qJD) (qQN:Clb P w K mg base 3 qQ9 qU2 "_law_net" ["_law_state","_law_many"] qWU) (qFE:Clb P w K mg base 5 qF3 qIM "cut_bound" ["net","work"] qSH) (qBV:Clb P w K mg base 4 qCU qE2 "cut_paper" ["net","work"] qNZ) (qM6:Clb P w K mg base 3 qLR qQ8 "_law_bent" ["_law_state","_law_net_here","_law_paper"] qSI) (qFB:Clb P w K mg base 6 qF0 qIJ "shows_cut" ["net","work","rooms","thing"] qI1) (qJ9:Clb P w K mg base 4 qJ4 qNE "_law_takes" ["_law_net_here","_law_work","_law_rooms","_law_thing"] qSC) (qBI:mg "range" = none) (qB6:mg "len" = none) (qKC:mg "max" = none) (qA7:mg "isinstance" = none) (qDM:mg "bool" = none) (qNX:mg "str" = none):FnOk P w K mg base CX0 7 f fd ["_law_script"] (qVA K):=by
 refine F.ok sc_law (fun vs H Q E h=>?_) (fun cdv A outer s H vs Q E hr h=>?_)
 ·obtain ⟨sc,ns,rfl,_⟩:=h
  rfl
 obtain ⟨sc,ns,rfl,hS,h63,q⟩:=h;have hgd:=hr.gd;have hu64:=hr.units;refine ⟨_,(qA4 (qAG (i:=1) sc_law.nd rfl (E8 rfl) (qB4 qJA hr rfl (qA0 (pv 0) qA3))) (qA4 (qCE F3 rfl (qD1 rfl qBI (qA0 qA5 qA3)) (qAD (i:=2) sc_law.nd rfl (E8 rfl)) (qA4 (qAG (i:=3) sc_law.nd rfl (E8 rfl) (qB4 qQN hr rfl (qA0 (pv 1) (qA0 (qAM qCG qA5 (qB4 qAP hr rfl (qA0 (pv 1) (qA0 qA5 qA3)))) qA3)))) (qA4 (qAG (i:=4) sc_law.nd rfl (E8 rfl) (qAM qDQ (qAM qDQ (qAA qAI rfl qB6 qBT (qA0 (pv 3) qA3)) qA5) (qB4 qAP hr rfl (qA0 (pv 1) (qA0 qA5 qA3))))) (qA4 (qAG (i:=5) sc_law.nd rfl (E8 rfl) (qB4 qFE hr rfl (qA0 (pv 3) (qA0 (pv 4) qA3)))) (qA4 (qAG (i:=6) sc_law.nd rfl (E8 rfl) (qB4 qBV hr rfl (qA0 (pv 3) (qA0 (pv 4) qA3)))) (qA6 (qCE F3 rfl (qD1 rfl qBI (qA0 qA5 qA3)) (qAD (i:=7) sc_law.nd rfl (E8 rfl)) (qA4 (qAG (i:=8) sc_law.nd rfl (E8 rfl) (qB4 qM6 hr rfl (qA0 (pv 1) (qA0 (pv 3) (qA0 (pv 6) qA3))))) (qA4 (qAG (i:=9) sc_law.nd rfl (E8 rfl) (qB0 qC3 (qAR (qA0 qA5 (qA0 qA5 (qA0 (pv 5) (qA0 (qAM qCG (pv 5) qA5) (qA0 (qAM qDQ (pv 5) qA5) (qA0 qA5 (qA0 (qAM qCG qA5 (qB4 qAP hr rfl (qA0 (pv 1) (qA0 (pv 5) qA3)))) qA3)))))))) (qB4 qAP hr rfl (qA0 (pv 1) (qA0 qA5 qA3))) (fun _ _=>rfl))) (qA4 (qAG (i:=10) sc_law.nd rfl (E8 rfl) (qAN (qNK hgd hu64) rfl qNX qXH (qA0 (pv 8) qA3))) (qA4 (qAG (i:=11) sc_law.nd rfl (E8 rfl) (qB4 qFB hr rfl (qA0 (pv 3) (qA0 (pv 4) (qA0 (qAA (qK5 rfl) rfl qKC qUT (qA0 qA5 (qA0 (pv 9) qA3))) (qA0 (pv 8) qA3)))))) (qA4 (qBB (PW.pt (qH9 (qBZ (qCJ (qAA qAW rfl qA7 qAL (qA0 (pv 11) (qA0 (qC1 (v:=.ty "bool") rfl qDM qLW rfl) qA3))))) (qFJ (qAO qLG (pv 11) (qB4 qJ9 hr rfl (qA0 (pv 3) (qA0 (pv 4) (qA0 (qAA (qK5 rfl) rfl qKC qUT (qA0 qA5 (qA0 (pv 9) qA3))) (qA0 (pv 8) qA3))))) (qAU _))))) (qA6 (qAF qCH)) qAH) (qA6 (qBB (qAO qLG (qAN (qNK hgd hu64) rfl qNX qXH (qA0 (pv 8) qA3)) (pv 10) (qAU _)) (qA6 (qAF qCH)) qAH)))))))))))))) (qA6 (qAF qCH)))),?_⟩
 try dsimp only [Cx.nox,Cx.wish,cxOf]
 refine cut fun N0 hN0=>?_;refine ⟨_,rfl,sc,ns,rfl,hS,h63,fun d c ms1 H1 S1 sm0 hd0 hc0=>?_⟩;refine hN0 _ _ (cut fun N1 hN1=>?_);refine ⟨3,rfl,by decide,by decide,qHL (lo:=0) (n:=3) (fun i σ Hc=>∃ (t:Int) (ms:List Int) (v2 v3 v4 v5 v6 v7 v8 v9 v10 v11:Option V),σ=[some (.ref sc),some (.ref d),v2,v3,v4,v5,v6,v7,v8,v9,v10,v11]/\StAt Hc d c t ms/\t<=10000 * i)
  ⟨0,ms1,none,none,none,none,none,none,none,none,none,none,rfl,S1,by omega⟩ ?_ ?_⟩
 ·refine fun i σ Hc hi hI_1=>opq fun G_1 hG_1=>?_;obtain ⟨t,ms,v2,v3,v4,v5,v6,v7,v8,v9,v10,v11,rfl,S2,t1⟩:=hI_1;refine hG_1 ?_;refine nmD fun D1 d1 dr=>?_;refine cut fun M0 hM0=>?_;refine ⟨_,rfl,_,rfl,d,c,t,ms,_,rfl,S2,(by show t<=1000000000;omega),by decide,by decide,fun k ms2 H2 k0 k1 S3 K2=>?_⟩
  refine ⟨_,_,rfl,rfl,d,c,t+1,ms2,_,rfl,S3,(by show t+1<=1000000000 - 10000;omega),by omega,by omega,fun a Ae t3 ms3 H3 S4 g3 g4 K3 hN wf nk f4=>?_⟩
  have n8:2<=Ae.length/\Ae.length<=8:=by omega
  refine hM0 _ _ (cut fun M1 hM1=>?_);obtain ⟨ra,hA,NL⟩:=id hN;have lra:=C8 NL;refine ⟨_,rfl,a,_,rfl,.inr (SqT.of hA),_,_,rfl,rfl,?_⟩;rw [A0,lra];refine ⟨_,rfl,d,c,t3,ms3,2,rfl,S4,(by show t3<=1000000000;omega),by decide,by decide,fun y ms4 H4 y0 y1 S5 K4=>⟨_,_,rfl,rfl,?_⟩⟩
  obtain ⟨work,ew⟩:∃ work:Int,work=((Ae.length:Nat):Int) - 1 - y:=⟨_,rfl⟩;show M1 (List.set _ 4 (some (.int (((Ae.length:Nat):Int) - 1 - y)))) _;rw [<- ew];have w0:0<=work:=by omega
  have w1:work<(Ae.length:Int):=by omega
  refine hM1 _ _ (cut fun M2 hM2=>?_);have few:=qbO wf f4 n8.2 w0 w1;have hN4:=hN.keep S4 K4;refine ⟨_,rfl,_,rfl,a,Ae,work,rfl,hN4,wf,by omega,w0,w1,few,fun b H5 s5 b1 b62=>?_⟩
  refine hM2 _ _ (cut fun M3 hM3=>?_);have hN5:=hN4.same s5;have S6:=S5.same s5;refine ⟨_,rfl,_,rfl,a,Ae,work,rfl,hN5,wf,by omega,w0,w1,few,fun l rs ps H6 s6 fl6 gl PR PO=>?_⟩
  have nl:=qFN S6 fl6;have S7:=S6.same s6;have hN6:=hN5.same s6;have RB:=PO.rows wf n8.2 w0 w1;have lrs:rs.length=ps.length:=C8 PR;have l1:=(PO.1.some wf w0 w1).1;rw [A0] at l1;have l62:ps.length<=62:=by
   have e:=PO.1.1.length_eq;have al:((aP Ae [work]).length:Int)=cn Ae work:=qL3 wf _ [work] rfl w0;rw [A0] at e;omega
  have PR':Paired (Row (red d c H6)) rs ps:=Paired.mapP PR fun r p e=>e.red S7;refine hM3 _ _ ?_;clear hM0 hM1 hM2 hM3 PR PO hN5 hN4 NL hA;refine ⟨6,rfl,by decide,by decide,qHL (lo:=0) (n:=6) (fun j σ He=>∃ (t':Int) (ms':List Int) (v7 v8 v9 v10 v11:Option V),σ=[some (.ref sc),some (.ref d),some (.int (0+(i:Int))),some (.ref a),some (.int work),some (.int b),some (.ref l),v7,v8,v9,v10,v11]/\StAt He d c t' ms'/\t'<=t3+1+50 * j/\Keep d c H6 He)
   ⟨t3+1,ms4,v7,v8,v9,v10,v11,rfl,S7,by omega,Keep.refl⟩ ?_ ?_⟩
  ·refine fun j2 σ He hj hI_2=>opq fun G_2 hG_2=>?_;obtain ⟨t',ms',v7',v8',v9',v10',v11',rfl,Se,te,Ke⟩:=hI_2;refine hG_2 ?_;refine nmD fun D2 e1 dr2=>?_;have hNe:=hN6.keep S7 Ke;have gle:=Ke _ _ gl nl.1 nl.2;have PRe:Paired (Row He) rs ps:=Paired.mapP PR' fun r p e=>(e.same (qCY Ke)).same qD6;refine cut fun L0 hL0=>?_;refine ⟨_,rfl,_,rfl,_,rfl,d,c,t',ms',a,l,Ae,rs,ps,rfl,Se,(by show t'<=1000000000 - 200;omega),hNe,by omega,by omega,gle,nl.1,nl.2,PRe,RB,by omega,by omega,fun x t2 ns2 Hx Sx g1 g2 Kx Ax=>?_⟩
   have hNx:=hNe.keep Se Kx;refine hL0 _ _ (cut fun L1 hL1=>?_);refine ⟨_,rfl,_,rfl,_,_,rfl,rfl,_,rfl,_,_,rfl,rfl,_,rfl,_,rfl,d,c,t2,ns2,b,rfl,Sx,(by show t2<=1000000000;omega),b1,by omega,fun y2 ns3 H8 y20 y21 S8 K8=>⟨_,_,rfl,rfl,?_⟩⟩
   refine ⟨(by show 7<=sizeLine;decide),fun lr hlr=>?_⟩
   have sr:=qA2 hlr (.lst [V.int 1,.int 2,.int b,.int (b+1),.int (b - 1),.int 100,.int (1+y2)]);have gr:(Ag H8 lr (.lst [V.int 1,.int 2,.int b,.int (b+1),.int (b - 1),.int 100,.int (1+y2)])) lr=some (.lst ([1,2,b,b+1,b - 1,100,1+y2].map V.int)):=qA1;have nr:=qFN S8 hlr;have S9:=S8.same sr;show qXQ _ _ _ _ _ (Ag H8 lr (.lst [V.int 1,.int 2,.int b,.int (b+1),.int (b - 1),.int 100,.int (1+y2)])) _;have Ks:=K8.trans (Keep.of_same sr);generalize Ag H8 lr (.lst [V.int 1,.int 2,.int b,.int (b+1),.int (b - 1),.int 100,.int (1+y2)])=H9 at gr S9 Ks ⊢;refine ⟨_,rfl,d,c,t2+1,ns3,7,rfl,S9,(by show t2+1<=1000000000;omega),by decide,by decide,fun k2 ns4 H10 k20 k21 S10 K10=>?_⟩
   have gr10:=K10 _ _ gr nr.1 nr.2;obtain ⟨Y,eY⟩:∃ Y,Y=[1,2,b,b+1,b - 1,100,1+y2]:=⟨_,rfl⟩;rw [<- eY] at gr10;have lY:Y.length=7:=by rw [eY];rfl
   obtain ⟨Aa,er⟩:∃ r,Y[k2.toNat]?=some r:=⟨_,A5 (by omega)⟩
   refine ⟨lr,_,k2,_,rfl,rfl,SqL.of gr10,qAV k20 (x:=.int Aa) (by rw [C4,er];rfl),?_⟩
   have KK:=Ks.trans K10;have Ax:=Ax.same (qCY KK);have hN10:=hNx.keep Sx KK;obtain ⟨dt,D,S,LD⟩:=Ax;have D:=D.same qD6;have hsz:dt.shown.length<=sizeLine:=by
    have a:=PyData.shown_le 8 (by decide) dt S.ls
    have b:=S.wt;rw [sizeLine_eq];omega
   refine hL1 _ _ (cut fun L2 hL2=>?_);refine ⟨_,rfl,x,5,dt,rfl,D,by decide,S.sh,S.nd,hsz,fun z1 ⟨g1',e1',eg1⟩=>?_⟩
   refine hL2 _ _ (cut fun L3 hL3=>?_);refine ⟨_,rfl,_,rfl,_,rfl,_,_,rfl,_,rfl,a,Ae,work,_,x,5,dt,rfl,⟨hN10,wf,n8.2,w0,w1,few⟩,D,LD,fun H11 s11=>?_⟩;refine hL3 _ _ (cut fun L4 hL4=>?_);refine ⟨_,rfl,_,"bool",_,true,rfl,.bl _,rfl,true,rfl,?_⟩;refine iteF ?_;refine ⟨_,rfl,_,rfl,_,rfl,_,rfl,_,_,rfl,_,rfl,a,Ae,work,_,x,5,dt,rfl,⟨hN10.same s11,wf,n8.2,w0,w1,few⟩,D.same s11,LD,fun H12 s12=>?_⟩;refine ⟨rfl,_,rfl,?_⟩;refine ite2 (fun h=>absurd h (by rw [decide_eq_true rfl];decide)) (fun _=>?_)
   refine hL4 _ _ ?_;refine ⟨_,rfl,x,5,dt,rfl,D.same (s11.trans s12),by decide,S.sh,S.nd,hsz,fun z2 ⟨g2',e2',eg2⟩=>?_⟩
   have ez:z2=z1:=by rw [e1',e2',eg1,eg2]
   refine ⟨_,rfl,rfl,_,rfl,?_⟩;refine ite2 (fun h=>absurd h (by rw [ez,decide_eq_true rfl];decide)) (fun _=>?_)
   exact e1 _ _ ⟨t2+1+1,ns4,_,_,_,_,_,rfl,S10.same (s11.trans s12),by omega,Ke.trans (Kx.trans (KK.trans (Keep.of_same (s11.trans s12))))⟩
  ·refine fun σ He hI_3=>opq fun G_3 hG_3=>?_;obtain ⟨t',ms',v7',v8',v9',v10',v11',rfl,Se,te,Ke⟩:=hI_3;refine hG_3 ?_;exact d1 _ _ ⟨t',ms',_,_,_,_,_,_,_,_,_,_,rfl,Se,by omega⟩
 ·refine fun σ Hc hI_4=>opq fun G_4 hG_4=>?_;obtain ⟨t,ms,v2,v3,v4,v5,v6,v7,v8,v9,v10,v11,rfl,S2,t1⟩:=hI_4;refine hG_4 ?_;refine hN1 _ _ ?_;exact q Hc
end
theorem all_mk {l:PySem.W.OpenLaw} {w:World} {K:PySem.W.Frag} {h:Heap} {mg:Str->Option Value} {fa qF1 qEK qDE qCV qCT qF2 qG4 qE4 qHQ qG5 qEJ qDD qE5 qF0 qCU qF3 qJ6 qCW qDF qF4 qQ9 qJ5 qQA qG6 qE6 qHR qJ4 qF5 qLR qYR:Addr} (X:K.In h) (G:h.Ns mainGlobals mg) (hfa:mg "law" = some (.ref fa))
  {qZZ qXI:Option Addr} {qZI:Array (Option Value)} {qa0 qX5 qXF qX1 qUL qXG:Value}
  {tk_GOAL:Tok} (a_GOAL:D3 K mainGlobals "GOAL" = some (some (.int (-2) tk_GOAL)))
  {tk_MOST_PATHS:Tok} (a_MOST_PATHS:D3 K mainGlobals "MOST_PATHS" = some (some (.int (300) tk_MOST_PATHS)))
  {tk_SOURCE:Tok} (a_SOURCE:D3 K mainGlobals "SOURCE" = some (some (.int (-1) tk_SOURCE)))
  (qGV:D3 K mainGlobals "is_number" = some (some (.ref qF1))) (F_is_number:∃ fd,Fun K "is_number" "is_number" qES qF1 fd)
  (qIB:D3 K mainGlobals "is_below" = some (some (.ref qEK))) (F_is_below:∃ fd,Fun K "is_below" "is_below" qFZ qEK fd)
  (qF9:D3 K mainGlobals "count_paths" = some (some (.ref qDE))) (F_count_paths:∃ fd,Fun K "count_paths" "count_paths" qDB qDE fd)
  (qGZ:D3 K mainGlobals "all_paths" = some (some (.ref qCV))) (F_all_paths:∃ fd,Fun K "all_paths" "all_paths" qEW qCV fd)
  (qGT:D3 K mainGlobals "side_ends" = some (some (.ref qCT))) (F_side_ends:∃ fd,Fun K "side_ends" "side_ends" qEQ qCT fd)
  (qGW:D3 K mainGlobals "free_ways" = some (some (.ref qF2))) (F_free_ways:∃ fd,Fun K "free_ways" "free_ways" qET qF2 fd)
  (qI9:D3 K mainGlobals "way_back" = some (some (.ref qG4))) (F_way_back:∃ fd,Fun K "way_back" "way_back" qFX qG4 fd)
  (qFT:D3 K mainGlobals "turn_round" = some (some (.ref qE4))) (F_turn_round:∃ fd,Fun K "turn_round" "turn_round" qDV qE4 fd)
  (qK8:D3 K mainGlobals "side_to" = some (some (.ref qHQ))) (F_side_to:∃ fd,Fun K "side_to" "side_to" qH4 qHQ fd)
  (qIA:D3 K mainGlobals "sides_of" = some (some (.ref qG5))) (F_sides_of:∃ fd,Fun K "sides_of" "sides_of" qFY qG5 fd)
  (qK9:D3 K mainGlobals "is_path" = some (some (.ref qEJ))) (F_is_path:∃ fd,Fun K "is_path" "is_path" qH5 qEJ fd)
  (qF8:D3 K mainGlobals "shows_sides" = some (some (.ref qDD))) (F_shows_sides:∃ fd,Fun K "shows_sides" "shows_sides" qDA qDD fd)
  (qFU:D3 K mainGlobals "shows_pair" = some (some (.ref qE5))) (F_shows_pair:∃ fd,Fun K "shows_pair" "shows_pair" qDW qE5 fd)
  (qGU:D3 K mainGlobals "shows_cut" = some (some (.ref qF0))) (F_shows_cut:∃ fd,Fun K "shows_cut" "shows_cut" qER qF0 fd)
  (qGX:D3 K mainGlobals "cut_paper" = some (some (.ref qCU))) (F_cut_paper:∃ fd,Fun K "cut_paper" "cut_paper" qEU qCU fd)
  (qGY:D3 K mainGlobals "cut_bound" = some (some (.ref qF3))) (F_cut_bound:∃ fd,Fun K "cut_bound" "cut_bound" qEV qF3 fd)
  (qM5:D3 K mainGlobals "_law_begin" = some (some (.ref qJ6))) (F_Lbegin:∃ fd,Fun K "_law_begin" "_law_begin" qIZ qJ6 fd)
  (qP6:D3 K mainGlobals "_law_take" = some (some (.ref qCW))) (F_Ltake:∃ fd,Fun K "_law_take" "_law_take" qLC qCW fd)
  (qFA:D3 K mainGlobals "_law_some_needs" = some (some (.ref qDF))) (F_Lsome_needs:∃ fd,Fun K "_law_some_needs" "_law_some_needs" qDC qDF fd)
  (qH0:D3 K mainGlobals "_law_tree_net" = some (some (.ref qF4))) (F_Ltree_net:∃ fd,Fun K "_law_tree_net" "_law_tree_net" qEX qF4 fd)
  (qV1:D3 K mainGlobals "_law_net" = some (some (.ref qQ9))) (F_Lnet:∃ fd,Fun K "_law_net" "_law_net" qPO qQ9 fd)
  (qM4:D3 K mainGlobals "_law_paths" = some (some (.ref qJ5))) (F_Lpaths:∃ fd,Fun K "_law_paths" "_law_paths" qIY qJ5 fd)
  (qV2:D3 K mainGlobals "_law_hit" = some (some (.ref qQA))) (F_Lhit:∃ fd,Fun K "_law_hit" "_law_hit" qPP qQA fd)
  (qIC:D3 K mainGlobals "_law_is_side" = some (some (.ref qG6))) (F_Lis_side:∃ fd,Fun K "_law_is_side" "_law_is_side" qG0 qG6 fd)
  (qFV:D3 K mainGlobals "_law_are_sides" = some (some (.ref qE6))) (F_Lare_sides:∃ fd,Fun K "_law_are_sides" "_law_are_sides" qDX qE6 fd)
  (qKA:D3 K mainGlobals "_law_is_way" = some (some (.ref qHR))) (F_Lis_way:∃ fd,Fun K "_law_is_way" "_law_is_way" qH6 qHR fd)
  (qM3:D3 K mainGlobals "_law_takes" = some (some (.ref qJ4))) (F_Ltakes:∃ fd,Fun K "_law_takes" "_law_takes" qIX qJ4 fd)
  (qH1:D3 K mainGlobals "_law_bent_row" = some (some (.ref qF5))) (F_Lbent_row:∃ fd,Fun K "_law_bent_row" "_law_bent_row" qEY qF5 fd)
  (qP7:D3 K mainGlobals "_law_bent" = some (some (.ref qLR))) (F_Lbent:∃ fd,Fun K "_law_bent" "_law_bent" qLD qLR fd)
  (qZ1:D3 K mainGlobals "law" = some (some (.ref qYR))) (qYJ:K.lookup qYR=some ⟨qa0,qZZ,.func (g9 "law" "law" (qI5 qKD) (qGQ qKD) (qAE qKD) .none qX5 qXF qX1 qXI qUL qXG),qZI⟩) (qYW:A17 K qUL "law" = true) (qYK:X7 K (.ref qYR)=true)
  (qEN:D3 K mainGlobals "all" = some none)
  (qQQ:D3 K mainGlobals "any" = some none)
  (qDM:D3 K mainGlobals "bool" = some none)
  (qFW:D3 K mainGlobals "divmod" = some none)
  (qBM:D3 K mainGlobals "enumerate" = some none)
  (qGB:D3 K mainGlobals "int" = some none)
  (qA7:D3 K mainGlobals "isinstance" = some none)
  (qB6:D3 K mainGlobals "len" = some none)
  (qBY:D3 K mainGlobals "list" = some none)
  (qKC:D3 K mainGlobals "max" = some none)
  (qGJ:D3 K mainGlobals "min" = some none)
  (qBI:D3 K mainGlobals "range" = some none)
  (qGI:D3 K mainGlobals "set" = some none)
  (qAT:D3 K mainGlobals "sorted" = some none)
  (qNX:D3 K mainGlobals "str" = some none)
  (qQP:D3 K mainGlobals "sum" = some none)
  (qAK:D3 K mainGlobals "tuple" = some none)
  (qIQ:D3 K mainGlobals "zip" = some none)
  : ∃ fd:FuncData,(∀ (s:Shared) (v:Value),BindsTo s fd ⟨[v],[]⟩ [("_law_script",v)])/\∀ base:Heap,K.In base->base.Ns mainGlobals mg->FnOk l.prog w K mg base CX0 7 fa fd ["_law_script"] (qVA K):=by
 have e:=hfa.symm.trans (E9 X G qZ1);cases e;obtain ⟨qIK,F_is_number⟩:=F_is_number;have qOZ:=F_is_number.binds (ps:=["thing"]) fun _ _ _ _ _ _ us hl=>us1 us hl (fun _=>rfl);have qOI:=E9 X G qGV;obtain ⟨qGO,F_is_below⟩:=F_is_below;have qRV:=F_is_below.binds (ps:=["thing","end"]) fun _ _ _ _ _ _ us hl=>us2 us hl (fun _ _=>rfl);have qR9:=E9 X G qIB;obtain ⟨qGF,F_count_paths⟩:=F_count_paths;have qLZ:=F_count_paths.binds (ps:=["net","work"]) fun _ _ _ _ _ _ us hl=>us2 us hl (fun _ _=>rfl);have qLJ:=E9 X G qF9;obtain ⟨qE3,F_all_paths⟩:=F_all_paths;have qP3:=F_all_paths.binds (ps:=["net","work"]) fun _ _ _ _ _ _ us hl=>us2 us hl (fun _ _=>rfl);have qOM:=E9 X G qGZ;obtain ⟨qE1,F_side_ends⟩:=F_side_ends;have qOX:=F_side_ends.binds (ps:=["net","path"]) fun _ _ _ _ _ _ us hl=>us2 us hl (fun _ _=>rfl);have qOG:=E9 X G qGT;obtain ⟨qIL,F_free_ways⟩:=F_free_ways;have qP0:=F_free_ways.binds (ps:=["net","path"]) fun _ _ _ _ _ _ us hl=>us2 us hl (fun _ _=>rfl);have qOJ:=E9 X G qGW;obtain ⟨qJS,F_way_back⟩:=F_way_back;have qRT:=F_way_back.binds (ps:=["ways"]) fun _ _ _ _ _ _ us hl=>us1 us hl (fun _=>rfl);have qR7:=E9 X G qI9;obtain ⟨qHN,F_turn_round⟩:=F_turn_round;have qNT:=F_turn_round.binds (ps:=["ways","stops"]) fun _ _ _ _ _ _ us hl=>us2 us hl (fun _ _=>rfl);have qN2:=E9 X G qFT;obtain ⟨qKX,F_side_to⟩:=F_side_to;have qUW:=F_side_to.binds (ps:=["ways","work"]) fun _ _ _ _ _ _ us hl=>us2 us hl (fun _ _=>rfl);have qTC:=E9 X G qK8;obtain ⟨qJT,F_sides_of⟩:=F_sides_of;have qRU:=F_sides_of.binds (ps:=["net","path"]) fun _ _ _ _ _ _ us hl=>us2 us hl (fun _ _=>rfl);have qR8:=E9 X G qIA;obtain ⟨qG3,F_is_path⟩:=F_is_path;have qUX:=F_is_path.binds (ps:=["net","thing"]) fun _ _ _ _ _ _ us hl=>us2 us hl (fun _ _=>rfl);have qTD:=E9 X G qK9;obtain ⟨qGE,F_shows_sides⟩:=F_shows_sides;have qLY:=F_shows_sides.binds (ps:=["net","path","thing"]) fun _ _ _ _ _ _ us hl=>us3 us hl (fun _ _ _=>rfl);have qLI:=E9 X G qF8;obtain ⟨qHO,F_shows_pair⟩:=F_shows_pair;have qNU:=F_shows_pair.binds (ps:=["net","work","many","thing"]) fun _ _ _ _ _ _ us hl=>us4 us hl (fun _ _ _ _=>rfl);have qN3:=E9 X G qFU;obtain ⟨qIJ,F_shows_cut⟩:=F_shows_cut;have qOY:=F_shows_cut.binds (ps:=["net","work","rooms","thing"]) fun _ _ _ _ _ _ us hl=>us4 us hl (fun _ _ _ _=>rfl);have qOH:=E9 X G qGU;obtain ⟨qE2,F_cut_paper⟩:=F_cut_paper;have qP1:=F_cut_paper.binds (ps:=["net","work"]) fun _ _ _ _ _ _ us hl=>us2 us hl (fun _ _=>rfl);have qOK:=E9 X G qGX;obtain ⟨qIM,F_cut_bound⟩:=F_cut_bound;have qP2:=F_cut_bound.binds (ps:=["net","work"]) fun _ _ _ _ _ _ us hl=>us2 us hl (fun _ _=>rfl);have qOL:=E9 X G qGY;obtain ⟨qNG,F_Lbegin⟩:=F_Lbegin;have qWL:=F_Lbegin.binds (ps:=["_law_script"]) fun _ _ _ _ _ _ us hl=>us1 us hl (fun _=>rfl);have qVV:=E9 X G qM5;obtain ⟨qCM,F_Ltake⟩:=F_Ltake;have qYX:=F_Ltake.binds (ps:=["_law_state","_law_many"]) fun _ _ _ _ _ _ us hl=>us2 us hl (fun _ _=>rfl);have qYB:=E9 X G qP6;obtain ⟨qGG,F_Lsome_needs⟩:=F_Lsome_needs;have qM0:=F_Lsome_needs.binds (ps:=["_law_state","_law_k"]) fun _ _ _ _ _ _ us hl=>us2 us hl (fun _ _=>rfl);have qLK:=E9 X G qFA;obtain ⟨qIN,F_Ltree_net⟩:=F_Ltree_net;have qP4:=F_Ltree_net.binds (ps:=["_law_state","_law_many"]) fun _ _ _ _ _ _ us hl=>us2 us hl (fun _ _=>rfl);have qON:=E9 X G qH0;obtain ⟨qU2,F_Lnet⟩:=F_Lnet;have qaR:=F_Lnet.binds (ps:=["_law_state","_law_many"]) fun _ _ _ _ _ _ us hl=>us2 us hl (fun _ _=>rfl);have qa2:=E9 X G qV1;obtain ⟨qNF,F_Lpaths⟩:=F_Lpaths;have qWK:=F_Lpaths.binds (ps:=["_law_net_here","_law_work"]) fun _ _ _ _ _ _ us hl=>us2 us hl (fun _ _=>rfl);have qVU:=E9 X G qM4;obtain ⟨qU3,F_Lhit⟩:=F_Lhit;have qaS:=F_Lhit.binds (ps:=["_law_net_here","_law_path"]) fun _ _ _ _ _ _ us hl=>us2 us hl (fun _ _=>rfl);have qa3:=E9 X G qV2;obtain ⟨qJU,F_Lis_side⟩:=F_Lis_side;have qRW:=F_Lis_side.binds (ps:=["_law_net_here","_law_path","_law_thing"]) fun _ _ _ _ _ _ us hl=>us3 us hl (fun _ _ _=>rfl);have qRA:=E9 X G qIC;obtain ⟨qHP,F_Lare_sides⟩:=F_Lare_sides;have qNV:=F_Lare_sides.binds (ps:=["_law_net_here","_law_path","_law_thing"]) fun _ _ _ _ _ _ us hl=>us3 us hl (fun _ _ _=>rfl);have qN4:=E9 X G qFV;obtain ⟨qKY,F_Lis_way⟩:=F_Lis_way;have qUY:=F_Lis_way.binds (ps:=["_law_net_here","_law_thing"]) fun _ _ _ _ _ _ us hl=>us2 us hl (fun _ _=>rfl);have qTE:=E9 X G qKA;obtain ⟨qNE,F_Ltakes⟩:=F_Ltakes;have qWJ:=F_Ltakes.binds (ps:=["_law_net_here","_law_work","_law_rooms","_law_thing"]) fun _ _ _ _ _ _ us hl=>us4 us hl (fun _ _ _ _=>rfl);have qVT:=E9 X G qM3;obtain ⟨qIO,F_Lbent_row⟩:=F_Lbent_row;have qP5:=F_Lbent_row.binds (ps:=["_law_state","_law_net_here","_law_row"]) fun _ _ _ _ _ _ us hl=>us3 us hl (fun _ _ _=>rfl);have qOO:=E9 X G qH1;obtain ⟨qQ8,F_Lbent⟩:=F_Lbent;have qYY:=F_Lbent.binds (ps:=["_law_state","_law_net_here","_law_paper"]) fun _ _ _ _ _ _ us hl=>us3 us hl (fun _ _ _=>rfl);have qYC:=E9 X G qP7;have qbQ:=fun_mk (st:=qKD) qYJ qYW qYK;have m_GOAL:=E9 X G a_GOAL;have m_MOST_PATHS:=E9 X G a_MOST_PATHS;have m_SOURCE:=E9 X G a_SOURCE;have qM7:=I0 X G qEN;have qZ6:=I0 X G qQQ;have qL4:=I0 X G qDM;have qRZ:=I0 X G qFW;have qID:=I0 X G qBM;have qPB:=I0 X G qGB;have qAY:=I0 X G qA7;have qFH:=I0 X G qB6;have qHX:=I0 X G qBY;have qWP:=I0 X G qKC;have qPA:=I0 X G qGJ;have qIU:=I0 X G qBI;have qP9:=I0 X G qGI;have qDL:=I0 X G qAT;have qZ5:=I0 X G qNX;have qZ4:=I0 X G qQP;have qCX:=I0 X G qAK;have qRY:=I0 X G qIQ;refine ⟨g9 "law" "law" (qI5 qKD) (qGQ qKD) (qAE qKD) .none qX5 qXF qX1 qXI qUL qXG,fun s v=>.of_eq rfl,fun base _ _=>?_⟩;have qFC:=Clb.mk (ok_is_number (P:=l.prog) (w:=w) (mg:=mg) (base:=base) (F:=F_is_number) (qDM:=qL4) (qGB:=qPB) (qA7:=qAY)) qOZ F_is_number.kp qOI;have qG9:=Clb.mk (ok_is_below (P:=l.prog) (w:=w) (mg:=mg) (base:=base) (F:=F_is_below) (qFC:=qFC)) qRV F_is_below.kp qR9;have qDI:=Clb.mk (ok_count_paths (P:=l.prog) (w:=w) (mg:=mg) (base:=base) (F:=F_count_paths) (qGJ:=qPA) (qQP:=qZ4) (m_MOST_PATHS:=m_MOST_PATHS)) qLZ F_count_paths.kp qLJ;have qBW:=Clb.mk (ok_all_paths (P:=l.prog) (w:=w) (mg:=mg) (base:=base) (F:=F_all_paths) (qDI:=qDI) (qAT:=qDL) (m_MOST_PATHS:=m_MOST_PATHS)) qP3 F_all_paths.kp qOM;have qBU:=Clb.mk (ok_side_ends (P:=l.prog) (w:=w) (mg:=mg) (base:=base) (F:=F_side_ends)) qOX F_side_ends.kp qOG;have qFD:=Clb.mk (ok_free_ways (P:=l.prog) (w:=w) (mg:=mg) (base:=base) (F:=F_free_ways) (qBU:=qBU) (qBM:=qID) (m_SOURCE:=m_SOURCE) (m_GOAL:=m_GOAL)) qP0 F_free_ways.kp qOJ;have qEM:=Clb.mk (ok_way_back (P:=l.prog) (w:=w) (mg:=mg) (base:=base) (F:=F_way_back) (m_SOURCE:=m_SOURCE) (m_GOAL:=m_GOAL)) qRT F_way_back.kp qR7;have qEA:=Clb.mk (ok_turn_round (P:=l.prog) (w:=w) (mg:=mg) (base:=base) (F:=F_turn_round) (qIQ:=qRY)) qNT F_turn_round.kp qN2;have qHU:=Clb.mk (ok_side_to (P:=l.prog) (w:=w) (mg:=mg) (base:=base) (F:=F_side_to) (m_SOURCE:=m_SOURCE)) qUW F_side_to.kp qTC;have qG8:=Clb.mk (ok_sides_of (P:=l.prog) (w:=w) (mg:=mg) (base:=base) (F:=F_sides_of) (qFD:=qFD) (qEM:=qEM) (qEA:=qEA) (qHU:=qHU) (qAT:=qDL) (m_GOAL:=m_GOAL)) qRU F_sides_of.kp qR8;have qD5:=Clb.mk (ok_is_path (P:=l.prog) (w:=w) (mg:=mg) (base:=base) (F:=F_is_path) (qG9:=qG9) (qEN:=qM7) (qA7:=qAY) (qB6:=qFH) (qAK:=qCX) (qIQ:=qRY)) qUX F_is_path.kp qTD;have qDH:=Clb.mk (ok_shows_sides (P:=l.prog) (w:=w) (mg:=mg) (base:=base) (F:=F_shows_sides) (qBU:=qBU) (qD5:=qD5) (qA7:=qAY) (qBY:=qHX)) qLY F_shows_sides.kp qLI;have qEB:=Clb.mk (ok_shows_pair (P:=l.prog) (w:=w) (mg:=mg) (base:=base) (F:=F_shows_pair) (qD5:=qD5) (qDH:=qDH) (qA7:=qAY) (qB6:=qFH) (qAK:=qCX)) qNU F_shows_pair.kp qN3;have qFB:=Clb.mk (ok_shows_cut (P:=l.prog) (w:=w) (mg:=mg) (base:=base) (F:=F_shows_cut) (qBW:=qBW) (qEB:=qEB) (qA7:=qAY) (qB6:=qFH) (qBY:=qHX)) qOY F_shows_cut.kp qOH;have qBV:=Clb.mk (ok_cut_paper (P:=l.prog) (w:=w) (mg:=mg) (base:=base) (F:=F_cut_paper) (qBW:=qBW) (qG8:=qG8)) qP1 F_cut_paper.kp qOK;have qFE:=Clb.mk (ok_cut_bound (P:=l.prog) (w:=w) (mg:=mg) (base:=base) (F:=F_cut_bound) (qBV:=qBV) (qB6:=qFH) (qGJ:=qPA)) qP2 F_cut_bound.kp qOL;have qJA:=Clb.mk (ok_Lbegin (P:=l.prog) (w:=w) (mg:=mg) (base:=base) (F:=F_Lbegin) (qBY:=qHX)) qWL F_Lbegin.kp qVV;have qAP:=Clb.mk (ok_Ltake (P:=l.prog) (w:=w) (mg:=mg) (base:=base) (F:=F_Ltake) (qFW:=qRZ) (qB6:=qFH)) qYX F_Ltake.kp qYB;have qCO:=Clb.mk (ok_Lsome_needs (P:=l.prog) (w:=w) (mg:=mg) (base:=base) (F:=F_Lsome_needs) (qAP:=qAP) (qGJ:=qPA) (qBI:=qIU) (qGI:=qP9) (qAT:=qDL) (qAK:=qCX)) qM0 F_Lsome_needs.kp qLK;have qFF:=Clb.mk (ok_Ltree_net (P:=l.prog) (w:=w) (mg:=mg) (base:=base) (F:=F_Ltree_net) (qAP:=qAP) (qB6:=qFH) (qGJ:=qPA) (qBI:=qIU) (qAK:=qCX)) qP4 F_Ltree_net.kp qON;have qQN:=Clb.mk (ok_Lnet (P:=l.prog) (w:=w) (mg:=mg) (base:=base) (F:=F_Lnet) (qAP:=qAP) (qFF:=qFF) (qCO:=qCO) (qBM:=qID) (qGB:=qPB) (qKC:=qWP) (qBI:=qIU) (qGI:=qP9) (qAT:=qDL) (qAK:=qCX)) qaR F_Lnet.kp qa2;have qHV:=Clb.mk (ok_Lpaths (P:=l.prog) (w:=w) (mg:=mg) (base:=base) (F:=F_Lpaths) (qAT:=qDL)) qWK F_Lpaths.kp qVU;have qQO:=Clb.mk (ok_Lhit (P:=l.prog) (w:=w) (mg:=mg) (base:=base) (F:=F_Lhit) (qGI:=qP9) (qAT:=qDL)) qaS F_Lhit.kp qa3;have qGA:=Clb.mk (ok_Lis_side (P:=l.prog) (w:=w) (mg:=mg) (base:=base) (F:=F_Lis_side) (qQO:=qQO) (qEN:=qM7) (qQQ:=qZ6) (qDM:=qL4) (qGB:=qPB) (qA7:=qAY) (qB6:=qFH) (qAK:=qCX) (qIQ:=qRY)) qRW F_Lis_side.kp qRA;have qEC:=Clb.mk (ok_Lare_sides (P:=l.prog) (w:=w) (mg:=mg) (base:=base) (F:=F_Lare_sides) (qGA:=qGA) (qEN:=qM7) (qA7:=qAY) (qB6:=qFH) (qBY:=qHX) (qGI:=qP9)) qNV F_Lare_sides.kp qN4;have qHW:=Clb.mk (ok_Lis_way (P:=l.prog) (w:=w) (mg:=mg) (base:=base) (F:=F_Lis_way) (qEN:=qM7) (qDM:=qL4) (qGB:=qPB) (qA7:=qAY) (qAK:=qCX)) qUY F_Lis_way.kp qTE;have qJ9:=Clb.mk (ok_Ltakes (P:=l.prog) (w:=w) (mg:=mg) (base:=base) (F:=F_Ltakes) (qHW:=qHW) (qEC:=qEC) (qHV:=qHV) (qEN:=qM7) (qA7:=qAY) (qB6:=qFH) (qBY:=qHX) (qAT:=qDL) (qAK:=qCX)) qWJ F_Ltakes.kp qVT;have qFG:=Clb.mk (ok_Lbent_row (P:=l.prog) (w:=w) (mg:=mg) (base:=base) (F:=F_Lbent_row) (qAP:=qAP) (qB6:=qFH) (qBY:=qHX) (qAK:=qCX)) qP5 F_Lbent_row.kp qOO;have qM6:=Clb.mk (ok_Lbent (P:=l.prog) (w:=w) (mg:=mg) (base:=base) (F:=F_Lbent) (qAP:=qAP) (qFG:=qFG) (qB6:=qFH) (qAK:=qCX)) qYY F_Lbent.kp qYC;exact ok_law (P:=l.prog) (w:=w) (mg:=mg) (base:=base) (F:=qbQ) (qJA:=qJA) (qQN:=qQN) (qAP:=qAP) (qFE:=qFE) (qBV:=qBV) (qM6:=qM6) (qFB:=qFB) (qJ9:=qJ9) (qDM:=qL4) (qA7:=qAY) (qB6:=qFH) (qKC:=qWP) (qBI:=qIU) (qNX:=qZ5)
theorem walk {l:PySem.W.OpenLaw} {q:Program} {loose:List Str} {XP:(Str->Option Value)->Heap->Prop} {YP:World->Heap->Prop} {d:DefRec} {K:Params->PySem.W.Frag} (hn:l.most=some 63) (hdf:d.params.defaults=[])
  (hY:∀ (w:World) (h:Heap),YP w h->(K w.params).In h)
  (F:∀ (w:World) (mg:Str->Option Value) (fa:Addr) (h:Heap),(K w.params).In h->h.Ns mainGlobals mg->mg d.name=some (.ref fa)->
   ∃ fd:FuncData,(∀ (s:Shared) (u:Value),BindsTo s fd ⟨[u],[]⟩ [("_law_script",u)])/\∀ base:Heap,(K w.params).In base->base.Ns mainGlobals mg->FnOk l.prog w (K w.params) mg base CX0 7 fa fd ["_law_script"] (qVA (K w.params))) :
  PySem.W.WalkO q loose XP YP l.row.toRowW d [] (fun f vs=>B68 f vs):=
 L2.walk_of (n:=63) (k:=7) (x:="_law_script") (CX:=fun _=>CX0) (sp:=fun w=>qVA (K w.params)) hn (by decide) hdf ⟨rfl,by decide,by decide,rfl⟩ hY F (fun _ _ a ns hl _ hS=>⟨a,ns,rfl,hS,hl,fun _=>rfl⟩) fun _ _ _ _ _ z=>z
end Fw
open PySem PySem.W PyProof.Rows
set_option maxRecDepth 100000 in
set_option maxHeartbeats 0 in
theorem PySem.Challenge.cw_fewrooms_k40_cuts_shown_holds : PySem.Challenge.rw_fewrooms_k40_cuts_shown.Holds := by
 w_on;refine holds_law Fw.hpSaid fun said=>?_
 refine holds_open (q:=Fw.hpQ) (Xt:=Fw.hpX) (XP:=XL Fw.hpQ []) (YP:=(kHook Fw.hpK Fw.hpA Fw.hpE).says)
  Fw.hpLeft (kHook Fw.hpK Fw.hpA Fw.hpE).of (kHook Fw.hpK Fw.hpA Fw.hpE).keeps (fun s e=>xl_of s (A83.mp e).1) XL.keeps
  (by rfl) (by rfl) (by rfl) (fun s e=>recFacts_of (A83.mp e).2) (by rfl)
  (by first | assumption | decide +kernel) (by decide +kernel) ⟨rfl,rfl,rfl,rfl,rfl,by decide +kernel⟩ ?hw ?hc
 case hw=>w_witness2
 k_fill
 refine Fw.walk (l:=PySem.Challenge.rw_fewrooms_k40_cuts_shown) rfl rfl (fun w h Y=>PySem.W.kIn_of Y) ?F
 case F=>
  intro w mg fa h KX G hmg;refine' Fw.all_mk KX G hmg ?a_GOAL ?a_MOST_PATHS ?a_SOURCE ?qGV ?F_is_number ?qIB ?F_is_below ?qF9 ?F_count_paths ?qGZ ?F_all_paths ?qGT ?F_side_ends ?qGW ?F_free_ways ?qI9 ?F_way_back ?qFT ?F_turn_round ?qK8 ?F_side_to ?qIA ?F_sides_of ?qK9 ?F_is_path ?qF8 ?F_shows_sides ?qFU ?F_shows_pair ?qGU ?F_shows_cut ?qGX ?F_cut_paper ?qGY ?F_cut_bound ?qM5 ?F_Lbegin ?qP6 ?F_Ltake ?qFA ?F_Lsome_needs ?qH0 ?F_Ltree_net ?qV1 ?F_Lnet ?qM4 ?F_Lpaths ?qV2 ?F_Lhit ?qIC ?F_Lis_side ?qFV ?F_Lare_sides ?qKA ?F_Lis_way ?qM3 ?F_Ltakes ?qH1 ?F_Lbent_row ?qP7 ?F_Lbent ?qZ1 ?qYJ ?qYW ?qYK ?qEN ?qQQ ?qDM ?qFW ?qBM ?qGB ?qA7 ?qB6 ?qBY ?qKC ?qGJ ?qBI ?qGI ?qAT ?qNX ?qQP ?qAK ?qIQ
  (case a_GOAL=>k_is)
  (case a_MOST_PATHS=>k_is)
  (case a_SOURCE=>k_is)
  (case qGV=>k_is)
  (case F_is_number=>exact ⟨_,L2.fun_mk (by k_is) (by k_is) (by k_is)⟩)
  (case qIB=>k_is)
  (case F_is_below=>exact ⟨_,L2.fun_mk (by k_is) (by k_is) (by k_is)⟩)
  (case qF9=>k_is)
  (case F_count_paths=>exact ⟨_,L2.fun_mk (by k_is) (by k_is) (by k_is)⟩)
  (case qGZ=>k_is)
  (case F_all_paths=>exact ⟨_,L2.fun_mk (by k_is) (by k_is) (by k_is)⟩)
  (case qGT=>k_is)
  (case F_side_ends=>exact ⟨_,L2.fun_mk (by k_is) (by k_is) (by k_is)⟩)
  (case qGW=>k_is)
  (case F_free_ways=>exact ⟨_,L2.fun_mk (by k_is) (by k_is) (by k_is)⟩)
  (case qI9=>k_is)
  (case F_way_back=>exact ⟨_,L2.fun_mk (by k_is) (by k_is) (by k_is)⟩)
  (case qFT=>k_is)
  (case F_turn_round=>exact ⟨_,L2.fun_mk (by k_is) (by k_is) (by k_is)⟩)
  (case qK8=>k_is)
  (case F_side_to=>exact ⟨_,L2.fun_mk (by k_is) (by k_is) (by k_is)⟩)
  (case qIA=>k_is)
  (case F_sides_of=>exact ⟨_,L2.fun_mk (by k_is) (by k_is) (by k_is)⟩)
  (case qK9=>k_is)
  (case F_is_path=>exact ⟨_,L2.fun_mk (by k_is) (by k_is) (by k_is)⟩)
  (case qF8=>k_is)
  (case F_shows_sides=>exact ⟨_,L2.fun_mk (by k_is) (by k_is) (by k_is)⟩)
  (case qFU=>k_is)
  (case F_shows_pair=>exact ⟨_,L2.fun_mk (by k_is) (by k_is) (by k_is)⟩)
  (case qGU=>k_is)
  (case F_shows_cut=>exact ⟨_,L2.fun_mk (by k_is) (by k_is) (by k_is)⟩)
  (case qGX=>k_is)
  (case F_cut_paper=>exact ⟨_,L2.fun_mk (by k_is) (by k_is) (by k_is)⟩)
  (case qGY=>k_is)
  (case F_cut_bound=>exact ⟨_,L2.fun_mk (by k_is) (by k_is) (by k_is)⟩)
  (case qM5=>k_is)
  (case F_Lbegin=>exact ⟨_,L2.fun_mk (by k_is) (by k_is) (by k_is)⟩)
  (case qP6=>k_is)
  (case F_Ltake=>exact ⟨_,L2.fun_mk (by k_is) (by k_is) (by k_is)⟩)
  (case qFA=>k_is)
  (case F_Lsome_needs=>exact ⟨_,L2.fun_mk (by k_is) (by k_is) (by k_is)⟩)
  (case qH0=>k_is)
  (case F_Ltree_net=>exact ⟨_,L2.fun_mk (by k_is) (by k_is) (by k_is)⟩)
  (case qV1=>k_is)
  (case F_Lnet=>exact ⟨_,L2.fun_mk (by k_is) (by k_is) (by k_is)⟩)
  (case qM4=>k_is)
  (case F_Lpaths=>exact ⟨_,L2.fun_mk (by k_is) (by k_is) (by k_is)⟩)
  (case qV2=>k_is)
  (case F_Lhit=>exact ⟨_,L2.fun_mk (by k_is) (by k_is) (by k_is)⟩)
  (case qIC=>k_is)
  (case F_Lis_side=>exact ⟨_,L2.fun_mk (by k_is) (by k_is) (by k_is)⟩)
  (case qFV=>k_is)
  (case F_Lare_sides=>exact ⟨_,L2.fun_mk (by k_is) (by k_is) (by k_is)⟩)
  (case qKA=>k_is)
  (case F_Lis_way=>exact ⟨_,L2.fun_mk (by k_is) (by k_is) (by k_is)⟩)
  (case qM3=>k_is)
  (case F_Ltakes=>exact ⟨_,L2.fun_mk (by k_is) (by k_is) (by k_is)⟩)
  (case qH1=>k_is)
  (case F_Lbent_row=>exact ⟨_,L2.fun_mk (by k_is) (by k_is) (by k_is)⟩)
  (case qP7=>k_is)
  (case F_Lbent=>exact ⟨_,L2.fun_mk (by k_is) (by k_is) (by k_is)⟩)
  (case qZ1=>k_is)
  (case qYJ=>k_is)
  (case qYW=>k_is)
  (case qYK=>k_is)
  (case qEN=>k_is)
  (case qQQ=>k_is)
  (case qDM=>k_is)
  (case qFW=>k_is)
  (case qBM=>k_is)
  (case qGB=>k_is)
  (case qA7=>k_is)
  (case qB6=>k_is)
  (case qBY=>k_is)
  (case qKC=>k_is)
  (case qGJ=>k_is)
  (case qBI=>k_is)
  (case qGI=>k_is)
  (case qAT=>k_is)
  (case qNX=>k_is)
  (case qQP=>k_is)
  (case qAK=>k_is)
  (case qIQ=>k_is)

