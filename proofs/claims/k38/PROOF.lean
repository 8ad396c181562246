import PyProof.Rows.All
import Wide.All
import OpenK.AllK
import Wide.FinOn
import Lean
import PyProof.EqAt
import PyProof.EqKinds
import PyProof.TupleCall
import PySem.Challenge.RW_fewrooms_k38_sides_shown
open Array renaming length_toList→C2,getElem?_eq_getElem→C3,getD_eq_getD_getElem?→E2,getElem?_toList→F2,toList_append→G8,toList_reverse→Z4,toList_push→b8,perm_iff_toList_perm→l8,getElem?_setIfInBounds_ne→x6,getElem?_eq_some_iff→A24,toList_setIfInBounds→A25,size_map→A33,mem_of_getElem?→A74,getElem_toList→A90,toList→B38,toList_zip→B49,toList_map→B50,replicate→B65,mem_def→B84
open Bool renaming false_ne_true→C6,and_eq_true→E7,false_eq_true→I0,false_and→O7,and_false→P8,eq_false_iff→Q9,true_and→R7,eq_iff_iff→V6,not_true→q0,and_true→u7,and_eq_true_iff→A94,not_false→A97,or_eq_true→B59,false_or→B81
open Classical renaming byContradiction→P3
open False renaming elim→k8
open ForInStep renaming yield→R5,done→y7
open Int renaming le_refl→O3,toNat_natCast→S0,emod_lt_of_pos→W1,emod_nonneg→b0,fdiv_eq_ediv_of_nonneg→A21,fmod_eq_emod_of_nonneg→A22,le_of_lt→A75
open List renaming length_map→A0,length_append→A8,getElem?_eq_some_iff→B0,getElem?_eq_getElem→B9,mem_singleton→C0,size_toArray→C5,mem_cons_of_mem→C7,mem_append→C8,mem_cons_self→C9,map_append→D3,length_singleton→D5,getElem?_map→D7,mem_of_getElem?→D8,mem_cons→D9,length_cons→E3,length_take→E5,take_add_one→E6,getElem?_append_right→E8,length_drop→F5,getElem?_append_left→F6,take_of_length_le→F7,mem_map→G1,map_cons→G6,mem_append_right→J6,mem_range→J7,take_length→J8,range→J9,getElem?_eq_none→K0,all_eq_true→L0,getD_eq_getElem?_getD→L8,mem_of_mem_drop→M9,append_nil→N9,nodup_cons→O0,map_congr_left→O4,length_nil→O5,replicate→O8,append_assoc→P0,pairwise_append→P4,flatten_cons→Q0,length_eq_zero_iff→Q8,getElem?_of_mem→R1,pairwise_cons→R3,pairwise_iff_getElem→R6,mem_reverse→R8,pairwise_map→T1,mem_append_left→T6,mem_iff_getElem→T8,mem_of_mem_take→T9,nodup_append→V3,mem_filter→V5,lookup_cons_self→V7,take_append_drop→V8,foldl_cons→X8,forIn_cons→X9,getElem_of_mem→Y1,length_reverse→Y2,length_pos_iff→Y3,any_eq_true→Y6,filter_cons→Y7,getElem?_take_of_lt→Z6,take_sublist→Z7,find?_cons→Z9,drop_sublist→b7,length_erase_of_mem→b9,filterMap_cons→c9,replicate_succ→d5,reverse_append→d7,getLast?_eq_some_getLast→e7,pairwise_lt_range→i3,find?_cons_of_neg→i4,mem_filterMap→i5,map_map→j7,pairwise_reverse→j9,reverse_cons→k9,sum_cons→l6,mem_erase_of_ne→l9,getLastD_eq_getLast?→m7,lookup_cons→m8,not_mem_nil→m9,map_nil→o5,any_cons→o9,getElem?_drop→t5,filter_append→t9,getElem?_set_self→u8,drop_eq_nil_of_le→u9,eraseIdxIfInBounds_toArray→v9,getElem_take→w6,getElem_drop→x0,reverse_perm→x4,eraseIdx_eq_take_drop_succ→x8,ext_getElem?→x9,drop_zero→y4,length_filter_le→z8,map_reverse→A01,reverse_reverse→A02,mem_map_of_mem→A18,flatMap_append→A20,perm_append_singleton→A23,nodup_iff_pairwise_ne→A26,zip_cons_cons→A27,drop_drop→A32,getElem?_inj→A42,flatMap_cons→A43,getLast?_map→A44,all_cons→A46,eraseIdx_cons_succ→A47,pairwise_filterMap→A52,getLast?_cons_cons→A53,getElem_mem→A56,nodup_range→A58,perm_middle→A59,mem_flatten→A61,range_succ_eq_map→A66,length_pos_of_mem→A68,find?_cons_of_pos→A69,of_mem_zip→A72,eq_nil_or_concat→A76,concat_eq_append→A77,all_map→A82,getElem?_set_ne→A86,getLast?_append→A92,mem_of_getLast?→A93,foldl_nil→A96,toList_toArray→B07,getElem?_range→B08,filterMap_map→B13,findIdx?→B18,foldl_append→B29,mapM_toArray→B35,isEmpty_iff→B52,flatMap_nil→B53,length→B56,length_set→B57,map_id→B66,all_append→B68,forIn_nil→B72,drop_take→B73,mapM_cons→B74,foldl→B76,take_nil→B85,take_add→B86,map_take→B87,map_drop→B88,map→B89
open List.Nodup renaming length_le_of_subset→G0
open List.Perm renaming append_left→j6
open List.cons renaming inj→Z1
open Nat renaming le_refl→C1,ne_of_lt→F0,zero_le→G5,lt_of_lt_of_le→G9,le_trans→M6,lt_succ_of_lt→V1,sub_self→W4,pow_succ→W5,lt_of_le_of_lt→Y9,le_of_lt→c5,mul_comm→c6,lt_irrefl→c8,mul_assoc→d8,le_of_not_lt→d9,mod_lt→g8,le_succ→i9,add_comm→j4,strongRecOn→k7,ne_of_gt→n8,add_sub_cancel→r8,not_lt_zero→t8,lt_trans→y8,add_zero→y9,pow_le_pow_right→A03,mul_le_mul_right→A04,mul_add→A17,zero_add→A28,mul_left_comm→A41,add_assoc→A51,le_add_right→A54,lt_succ_self→A55,eq_zero_of_not_pos→A65,zero_div→A78,add_mod→B05,mul_mod→B06,lt_or_eq_of_le→B16,lt_trichotomy→B36,sub_zero→B40,succ_ne_self→B47,mod_eq_of_lt→B48,le_antisymm→B60,add_mul→B62,one_mul→B63,two_pow_pos→B64,min_eq_left→B67
open Ne renaming symm→M8
open Option renaming toList_some→F4,map_eq_some_iff→U0,map_some→a8,isSome_map→a9,getD_some→z9,isSome_iff_exists→A37,getD_none→B42,none→B96
open Option.some renaming inj→L9
open Or renaming inl→G4,inr→B58
open PyProof renaming noPylong_small→A62
open PyProof.Rows renaming slot_tuple_getitem→J2,callWith_type1→T5
open PyProof.Rows.IntsAre renaming int_at→A08
open PySem renaming mem_of_lookup→V0,call→B77
open PySem.Around renaming under_plainId→R0,under_plain→B20
open PySem.AutoSeq1 renaming sub_tuple_tuple→A38
open PySem.Builtin.Frozenset renaming updateFrom→A05,sizeOf→A39,slot0→A49,newClass→B70
open PySem.Builtin.List renaming listTooLong→T0,listLengthHint→A15
open PySem.Builtin.Range renaming rangeSize→d3,small→B03
open PySem.Builtin.Slice renaming slicePlaces→O9,sliceApplied→Y4,sliceAdjust→m4,sliceFields→A31
open PySem.Builtin.SmallTypes renaming ownedTupleIsFree→Y0,nextOf→Z3,newRecord→i6,calledThroughType→m6,ownedTupleFields→B04
open PySem.Builtin.Tuple renaming tupleExact→M7,tupleItemsOf→l7
open PySem.Calls renaming call_function_entry→m5,callWith_builtin→A64
open PySem.Code renaming quiet_builtin→B19
open PySem.Data renaming cell→A71,fields→B00,seq→B97
open PySem.F renaming plainAttrs_list→G3,slot_list_append→O1,type_list_append→O2,called_set→P7,slot_tuple_iterator_next→Y5,args_tuple_add_2→Z8,entry_tuple_add→d4,slot_tuple_add→h9,slot_zip_next→j8,slot_list_extend→o6,type_list_extend→o8,args_tuple_iterator_next_1→A06,slot_set_iter→A09,entry_tuple_iterator_next→A16,args_zip_next_1→A40,plain_list_iadd→A50,entry_zip_next→A57,slot_tuple_lt→A80,slot_list_pop→A84,type_list_pop→A85,args_list_extend_2→A87,sub_list_frozenset→A88,args_object_init_2→A89,called_tuple→A98,entry_list_extend→B01,slot_list_extend→B15,entry_type_call→B30,args_set_iter_1→B32,plain_tuple_new→B33,typeCall_set_1→B45,entry_set_init→B46
open PySem.Heap renaming get?_push_of_some→B8,lt_size→D0,get?_push_size→D4,get?_update_other→M5,size_push→P2,get?_update_self→P6,get?_push_ne→x5,size_update→A00
open PySem.Heap.IsSliceOf renaming new→B14
open PySem.Heap.SameBut renaming update→R9,refl→B27
open PySem.MeetsSeq.EqGives renaming int→B93
open PySem.NameKind renaming free→Q7,cell→B82
open PySem.Obj renaming data_mapFields→P5,mapSeq→X0,isFreed_of_fields→Z0,cls_mapFields→l5,mapFields→A48,putSet→B28
open PySem.Paired renaming length→E9,snoc→A07
open PySem.PassesOwn renaming never→J3
open PySem.PyData renaming int→Y8,depthAll→A19,leavesShortAll→A83,showableAll→B21,hasDictAll→B37,weightAll→B51,shown_le→B69
open PySem.SeqAt renaming eq_tupleAt→A67
open PySem.SeqAt.EqAt renaming int_str→B09,str_int→B10,int_int→B12
open PySem.SeqAt.RcNeAt renaming tuples→A34,lists_lengths→B22,lists→B78
open PySem.SetTable renaming below→D6,insertAt→E1,bits→J5,runEnd→O6,turns→W7,fits→d6,fill→l0,sizeAbove→t7,has→A73,grown→A99,orStandIn→B17,freeSlot→B26,layClean→B34,advance→B43,tooFull→B44,probe→B71,slot→B83,put→B92
open PySem.SetTable.below renaming go→w5
open PySem.SetTable.layClean renaming free→K9
open PySem.SetTable.probe renaming go→G2
open PySem.SetTable.sizeAbove renaming go→A79
open PySem.Str renaming ofString→F9,empty→i7
open PySem.Value renaming ref→F3,int→W2,none→W8,type→W9,bool→Z5,isInt→A45,str→B54,isStrOf→B80
open PySem.W renaming nsIn→E4,mg_none_of→J1,mg_of→J4,kia_one→R4,kitOne→T4,findIn→V4,keepIn→Z2,fnOf→i8,codeIn→A30,methodObj→A35,specialIn→A36,cellsFrom_some→A63,instObj→A70,kat_nil→A81,kas_first_eq→A91,lookIn→A95,kdu_collect→B02,mroIn→B11,hasDictIn→B23,kitx_list→B24,kitx_dict→B25,plainGet→B41,takesIn→B55,kHook→B79,isFn→B91
open PySem.W.Looks renaming here→A29,ld→A60
open PySem.W.OpenLaw renaming wellSaid→B75,row→B94
open PySem.W.OpenRow renaming toRowW→B90
open PySem.Walks renaming list→B31
open PySem.pickOrder renaming go→B39
open StateT renaming run_pure→B61
open Sum renaming inl→G7,inr→P9
open Sum.inl renaming inj→v8
open Sum.inr renaming inj→B95
open True renaming intro→f9
set_option Elab.async false
set_option linter.all false
set_option maxRecDepth 100000
set_option maxHeartbeats 0
namespace Fw
open PySem
def top (i:Nat):Stmt:=PySem.Challenge.pw_fewrooms_k38_sides_shown.main.body.getD i (.Pass ⟨0,0,0,0⟩)
abbrev qDV:Stmt:=top 1
abbrev qEV:Stmt:=top 2
abbrev qDU:Stmt:=top 6
abbrev qDW:Stmt:=top 7
abbrev qET:Stmt:=top 8
abbrev qD3:Stmt:=top 9
abbrev qFQ:Stmt:=top 10
abbrev qEU:Stmt:=top 11
abbrev qFR:Stmt:=top 12
abbrev qCP:Stmt:=top 13
abbrev qHT:Stmt:=top 15
abbrev qJW:Stmt:=top 16
abbrev qCQ:Stmt:=top 17
abbrev qDX:Stmt:=top 18
abbrev qO5:Stmt:=top 19
abbrev qHR:Stmt:=top 20
abbrev qO6:Stmt:=top 21
abbrev qEW:Stmt:=top 22
abbrev qD5:Stmt:=top 23
abbrev qD4:Stmt:=top 24
abbrev qJX:Stmt:=top 25
abbrev qHS:Stmt:=top 26
abbrev qJ2:Stmt:=top 27
end Fw
namespace Fw
open PySem
def dA (s:Stmt):Arguments:=match s with
 | .FunctionDef _ a _ _ _ _ _ _ _ _=>a
 | _=>{ posonlyargs:=[],args:=[],vararg:=none,kwonlyargs:=[],kw_defaults:=[],kwarg:=none,defaults:=[] }
def dB (s:Stmt):List Stmt:=match s with
 | .FunctionDef _ _ b _ _ _ _ _ _ _=>b
 | _=>[]
def dS (s:Stmt):Scope:=match s with
 | .FunctionDef _ _ _ _ _ _ sc _ _ _=>sc
 | _=>{ kind:=.function,names:=[],isGenerator:=false,isCoroutine:=false }
abbrev so (s:String):Str:=PySem.Str.ofString s
abbrev kh (P:Params) (s:Str):Int:=PySem.PyData.keyHash P s
abbrev hde (P:Params) (s:String) (n:Nat) (v:Value):DictEntry:=⟨kh P (so s),.str (so s) n,v⟩
abbrev hvs (s:String) (n:Nat):Value:=.str (so s) n
abbrev hcut (n:Nat):Value:=hvs "/claim/cut.py" n
abbrev hfd (x q:String) (s:Stmt) (a b c d:Value) (e:Option Addr) (f g:Value) (i:Addr):FuncData:=⟨so x,so q,dA s,.stmts (dB s),dS s,3,[],a,b,c,d,e,f,g,i⟩
abbrev htp (d:Data) (s:Array (Option Value)):Obj:=⟨.type "tuple",none,d,s⟩
abbrev hcd (d:Data) (s:Array (Option Value)):Obj:=⟨.type "code",none,d,s⟩
abbrev hfn (d:Data) (s:Array (Option Value)):Obj:=⟨.type "function",none,d,s⟩
def hpK:Params->PySem.W.Frag:=fun P=>
 (nat_lit 2,Obj.mk .none .none (.dict #[]) #[]) ::
 (nat_lit 3,Obj.mk (.type "dict") .none (.dict #[hde P "__name__" 165 (hvs "law_fewrooms_k38_sides_shown" 293),hde P "__doc__" 166 .none,hde P "__package__" 167 .none,hde P "__loader__" 168 (.builtin "__main__.__loader__#opaque"),hde P "__spec__" 169 .none,hde P "__annotations__" 170 (.ref 6),hde P "__builtins__" 171 (.ref 4),hde P "__file__" 173 (hcut 172),hde P "__cached__" 174 .none,hde P "is_number" 195 (.ref 21),hde P "is_below" 203 (.ref 28),hde P "SOURCE" 208 (.int (-1) 207),hde P "GOAL" 211 (.int (-2) 210),hde P "side_ends" 222 (.ref 35),hde P "free_ways" 235 (.ref 42),hde P "way_back" 247 (.ref 49),hde P "turn_round" 257 (.ref 56),hde P "side_to" 267 (.ref 63),hde P "sides_of" 273 (.ref 68),hde P "is_path" 279 (.ref 73),hde P "shows_sides" 292 (.ref 80),hde P "_law_begin" 302 (.ref 87),hde P "_law_take" 315 (.ref 94),hde P "_law_some_needs" 326 (.ref 101),hde P "_law_tree_net" 338 (.ref 108),hde P "_law_net" 344 (.ref 113),hde P "_law_paths" 350 (.ref 118),hde P "_law_hit" 356 (.ref 123),hde P "_law_is_side" 362 (.ref 128),hde P "_law_are_sides" 368 (.ref 133),hde P "_law_bent_side" 374 (.ref 138),hde P "_law_bent" 387 (.ref 145),hde P "_law_looks" 398 (.ref 152),hde P "law" 412 (.ref 159)] 34) #[]) ::
 (nat_lit 15,htp (.seq #[]) #[]) ::
 (nat_lit 17,htp (.seq #[hvs "thing" 192]) #[]) ::
 (nat_lit 18,htp (.seq #[]) #[]) ::
 (nat_lit 20,hcd (.fields #[hvs "is_number" 189,hvs "is_number" 190,hcut 191,.int 2 0,.int 1 0,.int 0 0,.int 0 0,.int 3 0,.ref 15,.bool .true,.int 181 0,.ref 16,.none,.ref 17,.ref 18,.ref 19,.int 193 0,.int 2 0,hcut 194]) #[]) ::
 (nat_lit 21,hfn (.func (hfd "is_number" "is_number" qDV .none .none .none (hvs "fewrooms.kinds" 187) .none (.ref 20) .none 0)) #[]) ::
 (nat_lit 22,htp (.seq #[]) #[]) ::
 (nat_lit 24,htp (.seq #[hvs "thing" 199,hvs "end" 200]) #[]) ::
 (nat_lit 25,htp (.seq #[]) #[]) ::
 (nat_lit 27,hcd (.fields #[hvs "is_below" 196,hvs "is_below" 197,hcut 198,.int 4 0,.int 2 0,.int 0 0,.int 0 0,.int 3 0,.ref 22,.bool .true,.int 181 0,.ref 23,.none,.ref 24,.ref 25,.ref 26,.int 201 0,.int 4 0,hcut 202]) #[]) ::
 (nat_lit 28,hfn (.func (hfd "is_below" "is_below" qEV .none .none .none (hvs "fewrooms.kinds" 187) .none (.ref 27) .none 0)) #[]) ::
 (nat_lit 29,htp (.seq #[]) #[]) ::
 (nat_lit 31,htp (.seq #[hvs "net" 215,hvs "path" 216,hvs "ends" 217,hvs "work" 218,hvs "need" 219]) #[]) ::
 (nat_lit 32,htp (.seq #[]) #[]) ::
 (nat_lit 34,hcd (.fields #[hvs "side_ends" 212,hvs "side_ends" 213,hcut 214,.int 9 0,.int 2 0,.int 0 0,.int 0 0,.int 3 0,.ref 29,.bool .true,.int 181 0,.ref 30,.none,.ref 31,.ref 32,.ref 33,.int 220 0,.int 9 0,hcut 221]) #[]) ::
 (nat_lit 35,hfn (.func (hfd "side_ends" "side_ends" qDU .none .none .none (hvs "fewrooms.paths" 204) .none (.ref 34) .none 0)) #[]) ::
 (nat_lit 36,htp (.seq #[]) #[]) ::
 (nat_lit 38,htp (.seq #[hvs "net" 226,hvs "path" 227,hvs "ends" 228,hvs "ways" 229,hvs "work" 230,hvs "needs" 231,hvs "need" 232]) #[]) ::
 (nat_lit 39,htp (.seq #[]) #[]) ::
 (nat_lit 41,hcd (.fields #[hvs "free_ways" 223,hvs "free_ways" 224,hcut 225,.int 16 0,.int 2 0,.int 0 0,.int 0 0,.int 3 0,.ref 36,.bool .true,.int 181 0,.ref 37,.none,.ref 38,.ref 39,.ref 40,.int 233 0,.int 16 0,hcut 234]) #[]) ::
 (nat_lit 42,hfn (.func (hfd "free_ways" "free_ways" qDW .none .none .none (hvs "fewrooms.paths" 204) .none (.ref 41) .none 0)) #[]) ::
 (nat_lit 43,htp (.seq #[]) #[]) ::
 (nat_lit 45,htp (.seq #[hvs "ways" 239,hvs "came_from" 240,hvs "due" 241,hvs "stop" 242,hvs "further" 243,hvs "stops" 244]) #[]) ::
 (nat_lit 46,htp (.seq #[]) #[]) ::
 (nat_lit 48,hcd (.fields #[hvs "way_back" 236,hvs "way_back" 237,hcut 238,.int 30 0,.int 1 0,.int 0 0,.int 0 0,.int 3 0,.ref 43,.bool .true,.int 181 0,.ref 44,.none,.ref 45,.ref 46,.ref 47,.int 245 0,.int 30 0,hcut 246]) #[]) ::
 (nat_lit 49,hfn (.func (hfd "way_back" "way_back" qET .none .none .none (hvs "fewrooms.paths" 204) .none (.ref 48) .none 0)) #[]) ::
 (nat_lit 50,htp (.seq #[]) #[]) ::
 (nat_lit 52,htp (.seq #[hvs "ways" 251,hvs "stops" 252,hvs "further" 253,hvs "stop" 254]) #[]) ::
 (nat_lit 53,htp (.seq #[]) #[]) ::
 (nat_lit 55,hcd (.fields #[hvs "turn_round" 248,hvs "turn_round" 249,hcut 250,.int 45 0,.int 2 0,.int 0 0,.int 0 0,.int 3 0,.ref 50,.bool .true,.int 181 0,.ref 51,.none,.ref 52,.ref 53,.ref 54,.int 255 0,.int 45 0,hcut 256]) #[]) ::
 (nat_lit 56,hfn (.func (hfd "turn_round" "turn_round" qD3 .none .none .none (hvs "fewrooms.paths" 204) .none (.ref 55) .none 0)) #[]) ::
 (nat_lit 57,htp (.seq #[]) #[]) ::
 (nat_lit 59,htp (.seq #[hvs "ways" 261,hvs "work" 262,hvs "side" 263,hvs "stop" 264]) #[]) ::
 (nat_lit 60,htp (.seq #[]) #[]) ::
 (nat_lit 62,hcd (.fields #[hvs "side_to" 258,hvs "side_to" 259,hcut 260,.int 49 0,.int 2 0,.int 0 0,.int 0 0,.int 3 0,.ref 57,.bool .true,.int 181 0,.ref 58,.none,.ref 59,.ref 60,.ref 61,.int 265 0,.int 49 0,hcut 266]) #[]) ::
 (nat_lit 63,hfn (.func (hfd "side_to" "side_to" qFQ .none .none .none (hvs "fewrooms.paths" 204) .none (.ref 62) .none 0)) #[]) ::
 (nat_lit 64,htp (.seq #[]) #[]) ::
 (nat_lit 67,hcd (.fields #[hvs "sides_of" 268,hvs "sides_of" 269,hcut 270,.int 56 0,.int 2 0,.int 0 0,.int 0 0,.int 3 0,.ref 64,.bool .true,.int 181 0,.ref 65,.none,.none,.none,.ref 66,.int 271 0,.int 56 0,hcut 272]) #[]) ::
 (nat_lit 68,hfn (.func (hfd "sides_of" "sides_of" qEU .none .none .none (hvs "fewrooms.paths" 204) .none (.ref 67) .none 0)) #[]) ::
 (nat_lit 69,htp (.seq #[]) #[]) ::
 (nat_lit 72,hcd (.fields #[hvs "is_path" 274,hvs "is_path" 275,hcut 276,.int 63 0,.int 2 0,.int 0 0,.int 0 0,.int 3 0,.ref 69,.bool .true,.int 181 0,.ref 70,.none,.none,.none,.ref 71,.int 277 0,.int 63 0,hcut 278]) #[]) ::
 (nat_lit 73,hfn (.func (hfd "is_path" "is_path" qFR .none .none .none (hvs "fewrooms.paths" 204) .none (.ref 72) .none 0)) #[]) ::
 (nat_lit 74,htp (.seq #[]) #[]) ::
 (nat_lit 76,htp (.seq #[hvs "net" 283,hvs "path" 284,hvs "thing" 285,hvs "ends" 286,hvs "taken" 287,hvs "work" 288,hvs "side" 289]) #[]) ::
 (nat_lit 77,htp (.seq #[]) #[]) ::
 (nat_lit 79,hcd (.fields #[hvs "shows_sides" 280,hvs "shows_sides" 281,hcut 282,.int 72 0,.int 3 0,.int 0 0,.int 0 0,.int 3 0,.ref 74,.bool .true,.int 181 0,.ref 75,.none,.ref 76,.ref 77,.ref 78,.int 290 0,.int 72 0,hcut 291]) #[]) ::
 (nat_lit 80,hfn (.func (hfd "shows_sides" "shows_sides" qCP .none .none .none (hvs "fewrooms.paths" 204) .none (.ref 79) .none 0)) #[]) ::
 (nat_lit 81,htp (.seq #[]) #[]) ::
 (nat_lit 83,htp (.seq #[hvs "_law_script" 298,hvs "_law_cells" 299]) #[]) ::
 (nat_lit 84,htp (.seq #[]) #[]) ::
 (nat_lit 86,hcd (.fields #[hvs "_law_begin" 295,hvs "_law_begin" 296,hcut 297,.int 88 0,.int 1 0,.int 0 0,.int 0 0,.int 3 0,.ref 81,.bool .true,.int 181 0,.ref 82,.none,.ref 83,.ref 84,.ref 85,.int 300 0,.int 88 0,hcut 301]) #[]) ::
 (nat_lit 87,hfn (.func (hfd "_law_begin" "_law_begin" qHT .none .none .none (hvs "law_fewrooms_k38_sides_shown" 293) .none (.ref 86) .none 0)) #[]) ::
 (nat_lit 88,htp (.seq #[]) #[]) ::
 (nat_lit 90,htp (.seq #[hvs "_law_state" 306,hvs "_law_many" 307,hvs "_law_turn" 308,hvs "_law_place" 309,hvs "_law_cell" 310,hvs "_law_digit" 311,hvs "_law_mixed" 312]) #[]) ::
 (nat_lit 91,htp (.seq #[]) #[]) ::
 (nat_lit 93,hcd (.fields #[hvs "_law_take" 303,hvs "_law_take" 304,hcut 305,.int 93 0,.int 2 0,.int 0 0,.int 0 0,.int 3 0,.ref 88,.bool .true,.int 181 0,.ref 89,.none,.ref 90,.ref 91,.ref 92,.int 313 0,.int 93 0,hcut 314]) #[]) ::
 (nat_lit 94,hfn (.func (hfd "_law_take" "_law_take" qJW .none .none .none (hvs "law_fewrooms_k38_sides_shown" 293) .none (.ref 93) .none 0)) #[]) ::
 (nat_lit 95,htp (.seq #[]) #[]) ::
 (nat_lit 97,htp (.seq #[hvs "_law_state" 319,hvs "_law_k" 320,hvs "_law_found" 321,hvs "_law_turn" 322,hvs "_law_far" 323]) #[]) ::
 (nat_lit 98,htp (.seq #[]) #[]) ::
 (nat_lit 100,hcd (.fields #[hvs "_law_some_needs" 316,hvs "_law_some_needs" 317,hcut 318,.int 104 0,.int 2 0,.int 0 0,.int 0 0,.int 3 0,.ref 95,.bool .true,.int 181 0,.ref 96,.none,.ref 97,.ref 98,.ref 99,.int 324 0,.int 104 0,hcut 325]) #[]) ::
 (nat_lit 101,hfn (.func (hfd "_law_some_needs" "_law_some_needs" qCQ .none .none .none (hvs "law_fewrooms_k38_sides_shown" 293) .none (.ref 100) .none 0)) #[]) ::
 (nat_lit 102,htp (.seq #[]) #[]) ::
 (nat_lit 104,htp (.seq #[hvs "_law_state" 330,hvs "_law_many" 331,hvs "_law_open_ones" 332,hvs "_law_found" 333,hvs "_law_k" 334,hvs "_law_so_many" 335]) #[]) ::
 (nat_lit 105,htp (.seq #[]) #[]) ::
 (nat_lit 107,hcd (.fields #[hvs "_law_tree_net" 327,hvs "_law_tree_net" 328,hcut 329,.int 111 0,.int 2 0,.int 0 0,.int 0 0,.int 3 0,.ref 102,.bool .true,.int 181 0,.ref 103,.none,.ref 104,.ref 105,.ref 106,.int 336 0,.int 111 0,hcut 337]) #[]) ::
 (nat_lit 108,hfn (.func (hfd "_law_tree_net" "_law_tree_net" qDX .none .none .none (hvs "law_fewrooms_k38_sides_shown" 293) .none (.ref 107) .none 0)) #[]) ::
 (nat_lit 109,htp (.seq #[]) #[]) ::
 (nat_lit 112,hcd (.fields #[hvs "_law_net" 339,hvs "_law_net" 340,hcut 341,.int 119 0,.int 2 0,.int 0 0,.int 0 0,.int 3 0,.ref 109,.bool .true,.int 181 0,.ref 110,.none,.none,.none,.ref 111,.int 342 0,.int 119 0,hcut 343]) #[]) ::
 (nat_lit 113,hfn (.func (hfd "_law_net" "_law_net" qO5 .none .none .none (hvs "law_fewrooms_k38_sides_shown" 293) .none (.ref 112) .none 0)) #[]) ::
 (nat_lit 114,htp (.seq #[]) #[]) ::
 (nat_lit 117,hcd (.fields #[hvs "_law_paths" 345,hvs "_law_paths" 346,hcut 347,.int 134 0,.int 2 0,.int 0 0,.int 0 0,.int 3 0,.ref 114,.bool .true,.int 181 0,.ref 115,.none,.none,.none,.ref 116,.int 348 0,.int 134 0,hcut 349]) #[]) ::
 (nat_lit 118,hfn (.func (hfd "_law_paths" "_law_paths" qHR .none .none .none (hvs "law_fewrooms_k38_sides_shown" 293) .none (.ref 117) .none 0)) #[]) ::
 (nat_lit 119,htp (.seq #[]) #[]) ::
 (nat_lit 122,hcd (.fields #[hvs "_law_hit" 351,hvs "_law_hit" 352,hcut 353,.int 143 0,.int 2 0,.int 0 0,.int 0 0,.int 3 0,.ref 119,.bool .true,.int 181 0,.ref 120,.none,.none,.none,.ref 121,.int 354 0,.int 143 0,hcut 355]) #[]) ::
 (nat_lit 123,hfn (.func (hfd "_law_hit" "_law_hit" qO6 .none .none .none (hvs "law_fewrooms_k38_sides_shown" 293) .none (.ref 122) .none 0)) #[]) ::
 (nat_lit 124,htp (.seq #[]) #[]) ::
 (nat_lit 127,hcd (.fields #[hvs "_law_is_side" 357,hvs "_law_is_side" 358,hcut 359,.int 148 0,.int 3 0,.int 0 0,.int 0 0,.int 3 0,.ref 124,.bool .true,.int 181 0,.ref 125,.none,.none,.none,.ref 126,.int 360 0,.int 148 0,hcut 361]) #[]) ::
 (nat_lit 128,hfn (.func (hfd "_law_is_side" "_law_is_side" qEW .none .none .none (hvs "law_fewrooms_k38_sides_shown" 293) .none (.ref 127) .none 0)) #[]) ::
 (nat_lit 129,htp (.seq #[]) #[]) ::
 (nat_lit 132,hcd (.fields #[hvs "_law_are_sides" 363,hvs "_law_are_sides" 364,hcut 365,.int 156 0,.int 3 0,.int 0 0,.int 0 0,.int 3 0,.ref 129,.bool .true,.int 181 0,.ref 130,.none,.none,.none,.ref 131,.int 366 0,.int 156 0,hcut 367]) #[]) ::
 (nat_lit 133,hfn (.func (hfd "_law_are_sides" "_law_are_sides" qD5 .none .none .none (hvs "law_fewrooms_k38_sides_shown" 293) .none (.ref 132) .none 0)) #[]) ::
 (nat_lit 134,htp (.seq #[]) #[]) ::
 (nat_lit 137,hcd (.fields #[hvs "_law_bent_side" 369,hvs "_law_bent_side" 370,hcut 371,.int 163 0,.int 4 0,.int 0 0,.int 0 0,.int 3 0,.ref 134,.bool .true,.int 181 0,.ref 135,.none,.none,.none,.ref 136,.int 372 0,.int 163 0,hcut 373]) #[]) ::
 (nat_lit 138,hfn (.func (hfd "_law_bent_side" "_law_bent_side" qD4 .none .none .none (hvs "law_fewrooms_k38_sides_shown" 293) .none (.ref 137) .none 0)) #[]) ::
 (nat_lit 139,htp (.seq #[]) #[]) ::
 (nat_lit 141,htp (.seq #[hvs "_law_state" 378,hvs "_law_net_here" 379,hvs "_law_path" 380,hvs "_law_told" 381,hvs "_law_way" 382,hvs "_law_k" 383,hvs "_law_some" 384]) #[]) ::
 (nat_lit 142,htp (.seq #[]) #[]) ::
 (nat_lit 144,hcd (.fields #[hvs "_law_bent" 375,hvs "_law_bent" 376,hcut 377,.int 171 0,.int 4 0,.int 0 0,.int 0 0,.int 3 0,.ref 139,.bool .true,.int 181 0,.ref 140,.none,.ref 141,.ref 142,.ref 143,.int 385 0,.int 171 0,hcut 386]) #[]) ::
 (nat_lit 145,hfn (.func (hfd "_law_bent" "_law_bent" qJX .none .none .none (hvs "law_fewrooms_k38_sides_shown" 293) .none (.ref 144) .none 0)) #[]) ::
 (nat_lit 146,htp (.seq #[]) #[]) ::
 (nat_lit 148,htp (.seq #[hvs "_law_net_here" 391,hvs "_law_path" 392,hvs "_law_thing" 393,hvs "_law_written" 394,hvs "_law_found" 395]) #[]) ::
 (nat_lit 149,htp (.seq #[]) #[]) ::
 (nat_lit 151,hcd (.fields #[hvs "_law_looks" 388,hvs "_law_looks" 389,hcut 390,.int 183 0,.int 3 0,.int 0 0,.int 0 0,.int 3 0,.ref 146,.bool .true,.int 181 0,.ref 147,.none,.ref 148,.ref 149,.ref 150,.int 396 0,.int 183 0,hcut 397]) #[]) ::
 (nat_lit 152,hfn (.func (hfd "_law_looks" "_law_looks" qHS .none .none .none (hvs "law_fewrooms_k38_sides_shown" 293) .none (.ref 151) .none 0)) #[]) ::
 (nat_lit 153,htp (.seq #[]) #[]) ::
 (nat_lit 155,htp (.seq #[hvs "_law_script" 402,hvs "_law_state" 403,hvs "_law_turn" 404,hvs "_law_net_here" 405,hvs "_law_paths_here" 406,hvs "_law_path" 407,hvs "_law_told" 408,hvs "_law_more" 409]) #[]) ::
 (nat_lit 156,htp (.seq #[]) #[]) ::
 (nat_lit 158,hcd (.fields #[hvs "law" 399,hvs "law" 400,hcut 401,.int 187 0,.int 1 0,.int 0 0,.int 0 0,.int 3 0,.ref 153,.bool .true,.int 181 0,.ref 154,.none,.ref 155,.ref 156,.ref 157,.int 410 0,.int 187 0,hcut 411]) #[]) ::
 (nat_lit 159,hfn (.func (hfd "law" "law" qJ2 .none .none .none (hvs "law_fewrooms_k38_sides_shown" 293) .none (.ref 158) .none 0)) #[]) ::
 []
def hpA:List Addr:=[2,3,15,17,18,20,21,22,24,25,27,28,29,31,32,34,35,36,38,39,41,42,43,45,46,48,49,50,52,53,55,56,57,59,60,62,63,64,67,68,69,72,73,74,76,77,79,80,81,83,84,86,87,88,90,91,93,94,95,97,98,100,101,102,104,105,107,108,109,112,113,114,117,118,119,122,123,124,127,128,129,132,133,134,137,138,139,141,142,144,145,146,148,149,151,152,153,155,156,158,159]
def hpQ:Program:=PySem.W.view PySem.Challenge.pw_fewrooms_k38_sides_shown [1,2,4,5,6,7,8,9,10,11,12,13,15,16,17,18,19,20,21,22,23,24,25,26,27]
def hpN:Nat:=1644
theorem hpE (P:Params):hpA=(hpK P).map (·.1):=by kernel_rfl
def hpX (s:Shared):Bool:=PySem.W.xlAt hpQ [] s && PySem.W.recOk (PySem.W.RowW.records (B90 (B94 PySem.Challenge.rw_fewrooms_k38_sides_shown))) s
theorem hpLeft:PySem.W.LeftO PySem.Challenge.pw_fewrooms_k38_sides_shown hpQ [] hpX (B79 hpK hpA hpE).obs (B79 hpK hpA hpE).val hpN:=fun w=>by kernel_rfl
theorem hpSaid:B75 PySem.Challenge.rw_fewrooms_k38_sides_shown=true:=by kernel_rfl
end Fw
namespace L2
open PySem PySem.Spec PyProof.Rows
abbrev Key:=Sum Int Str
def qPR:Key->Value->Bool
 | .inl k,v=>A45 k v
 | .inr x,v=>B80 x v
def keyH (w:World):Key->Int
 | .inl k=>hashInt k
 | .inr x=>hashStr w x
theorem qBE:∀ {k:Key} {v:Value},qPR k v=true->(∃ i t,k=G7 i/\v=W2 i t)\/(∃ x t,k=P9 x/\v=B54 x t)
 | .inl i,v,h=>by
  obtain ⟨t,e⟩:=Value.isInt_shape (k:=i) (v:=v) h;exact .inl ⟨i,t,rfl,e⟩
 | .inr x,v,h=>by
  obtain ⟨t,e⟩:=Value.isStrOf_shape (x:=x) (v:=v) h;exact .inr ⟨x,t,rfl,e⟩
theorem qRM (i:Int) (t:Tok):qPR (.inl i) (.int i t)=true:=by simp [qPR,A45]
theorem qRL (x:Str) (t:Tok):qPR (.inr x) (.str x t)=true:=by simp [qPR,B80]
theorem qYH (a b:Int):decide ((G7 a:Key)=G7 b)=(a == b):=by
 by_cases e:a=b
 ·subst e;simp
 ·have h:¬ (G7 a:Key)=G7 b:=fun q=>e (v8 q);rw [decide_eq_false h];exact (beq_eq_false_iff_ne.mpr e).symm
theorem qYE (a b:Str):decide ((P9 a:Key)=P9 b)=decide (a=b):=by
 by_cases e:a=b
 ·subst e;simp
 ·have h:¬ (P9 a:Key)=P9 b:=fun q=>e (B95 q);rw [decide_eq_false h,decide_eq_false e]
theorem qYG (a:Int) (b:Str):decide ((G7 a:Key)=P9 b)=false:=decide_eq_false (fun q=>nomatch q)
theorem qYF (a:Str) (b:Int):decide ((P9 a:Key)=G7 b)=false:=decide_eq_false (fun q=>nomatch q)
def qBO (prog:Program) (w:World):PySem.KeyKind prog w Key where
 is:=qPR
 hash:=keyH w
 inj:=fun v a b ha hb=>by
  rcases qBE ha with ⟨i,t,rfl,rfl⟩ | ⟨x,t,rfl,rfl⟩
  ·rcases qBE hb with ⟨j,u,rfl,e⟩ | ⟨y,u,rfl,e⟩
   ·injection e with e1 _;rw [e1]
   ·exact nomatch e
  ·rcases qBE hb with ⟨j,u,rfl,e⟩ | ⟨y,u,rfl,e⟩
   ·exact nomatch e
   ·injection e with e1 _;rw [e1]
 byValue:=fun k v h=>by
  rcases qBE h with ⟨i,t,rfl,rfl⟩ | ⟨x,t,rfl,rfl⟩ <;> rfl
 pyHash:=fun hv h=>by
  rcases qBE hv with ⟨i,t,rfl,rfl⟩ | ⟨x,t,rfl,rfl⟩
  ·exact wpAny_pyHash_int h
  ·exact wpAny_pyHash_str h
 eqBool:=fun hu hv h=>by
  rcases qBE hu with ⟨i,t,rfl,rfl⟩ | ⟨x,t,rfl,rfl⟩
  ·rcases qBE hv with ⟨j,u,rfl,rfl⟩ | ⟨y,u,rfl,rfl⟩
   ·rw [qYH] at h;exact wpAny_eqBool_int h
   ·rw [qYG] at h;exact B09 i t y u _ _ _ _ h
  ·rcases qBE hv with ⟨j,u,rfl,rfl⟩ | ⟨y,u,rfl,rfl⟩
   ·rw [qYF] at h;exact B10 x t j u _ _ _ _ h
   ·rw [qYE] at h;exact wpAny_eqBool_str h
 «strs»:=fun k x t v h=>by
  rcases qBE h with ⟨i,u,rfl,e⟩ | ⟨y,u,rfl,e⟩
  ·exact nomatch e
  ·injection e with e1 _
   subst e1;cases v <;> rfl
theorem qN1 (prog:Program) (w:World) (i:Int) (t:Tok):(qBO prog w).is (.inl i) (.int i t)=true:=qRM i t
theorem qN0 (prog:Program) (w:World) (x:Str) (t:Tok):(qBO prog w).is (.inr x) (.str x t)=true:=qRL x t
end L2
namespace L2
open PySem PySem.Spec PyProof.Rows
inductive V where
 | non | bl (b:Bool) | int (i:Int) | str (x:Str) | byt (b:Array UInt8) | flt (b:UInt64) | ref (a:Addr) | ty (n:String)
 deriving DecidableEq
def RelV:V->Value->Prop
 | .non,u=>u=W8
 | .bl b,u=>u=Z5 b
 | .int i,u=>∃ t,u=W2 i t
 | .str x,u=>∃ t,u=B54 x t
 | .byt b,u=>∃ t,u=Value.bytes b t
 | .flt b,u=>∃ t,u=Value.float b t
 | .ref a,u=>u=F3 a
 | .ty n,u=>u=W9 n
abbrev Vals:List V->List Value->Prop:=Paired RelV
theorem Vals.length {xs:List V} {us:List Value} (r:Vals xs us):xs.length=us.length:=E9 r
theorem Vals.get:∀ {xs:List V} {us:List Value} {i:Nat} {x:V},Vals xs us->xs[i]?=some x->∃ u,us[i]?=some u/\RelV x u
 | _,_,_,_,.nil,e=>by simp at e
 | _,_,0,_,.cons r _,e=>by simp at e;subst e;exact ⟨_,rfl,r⟩
 | _,_,i+1,x,.cons _ t,e=>by
  obtain ⟨u,h1,h2⟩:=Vals.get (i:=i) (x:=x) t (by simpa using e)
  exact ⟨u,by simpa using h1,h2⟩
theorem Vals.set {x:V} {u:Value} (r:RelV x u):∀ {xs:List V} {us:List Value} (i:Nat),Vals xs us->Vals (xs.set i x) (us.set i u)
 | _,_,_,.nil=>.nil
 | _,_,0,.cons _ t=>.cons r t
 | _,_,i+1,.cons q t=>.cons q (Vals.set r i t)
theorem Vals.append:∀ {xs ys:List V} {us ws:List Value},Vals xs us->Vals ys ws->Vals (xs++ys) (us++ws)
 | _,_,_,_,.nil,s=>s
 | _,_,_,_,.cons r t,s=>.cons r (Vals.append t s)
theorem Vals.take:∀ {xs:List V} {us:List Value} (n:Nat),Vals xs us->Vals (xs.take n) (us.take n)
 | _,_,0,_=>.nil
 | _,_,_+1,.nil=>.nil
 | _,_,n+1,.cons r t=>.cons r (Vals.take n t)
theorem Vals.drop:∀ {xs:List V} {us:List Value} (n:Nat),Vals xs us->Vals (xs.drop n) (us.drop n)
 | _,_,0,r=>r
 | _,_,_+1,.nil=>.nil
 | _,_,n+1,.cons _ t=>Vals.drop n t
def RelO:Option V->Option Value->Prop
 | some v,some u=>RelV v u
 | none,none=>True
 | _,_=>False
def KV {κ:Type}:List (κ × V)->List (κ × Value)->Prop:=Paired fun (p:κ × V) (q:κ × Value)=>p.1=q.1/\RelV p.2 q.2
inductive CTb where
 | tab (q:Str)
 | cod (q:Str)
def kV:Key->V
 | .inl i=>.int i
 | .inr x=>.str x
inductive HO where
 | lst (xs:List V)
 | tup (xs:List V)
 | dK (Ag:List (Key × V)) | dT (Ag:List (List Key × V))
 | set (S:Int->Bool) (n:Nat)
 | ins (C dx:Addr) (fs:List (Str × V))
 | own (x:Addr)
 | xd (fs:List (Str × V))
 | met (f x:Addr)
 | rng (lo hi:Int)
 | frz (o:Obj) (u:HO)
 | tbl (t:CTb)
 | ext (φ:Heap->Prop)
abbrev Hp:=Addr->Option HO
def Ah (H:Hp) (a:Addr) (o:HO):Hp:=fun b=>if b=a then some o else H b
theorem qA1 {H:Hp} {a:Addr} {o:HO}:Ah H a o a=some o:=by unfold Ah;rw [if_pos rfl]
theorem qA8 {H:Hp} {a b:Addr} {o:HO} (h:b ≠ a):Ah H a o b=H b:=by unfold Ah;rw [if_neg h]
theorem qGF {H:Hp} {a:Addr} {o u:HO}:Ah (Ah H a o) a u=Ah H a u:=by
 funext b;unfold Ah;split <;> rfl
theorem qDN {H:Hp} {a b:Addr} {o u:HO} (h:H a=some o) (h':H b=some u) (d:o ≠ u):a ≠ b:=by
 intro e;subst e;rw [h] at h';exact d (L9 h')
theorem qA5 {H:Hp} {a b:Addr} {o:HO} (h:H a=some o) (h':H b=none):a ≠ b:=by
 intro e;subst e;rw [h] at h';cases h'
section
variable (P:Program) (w:World)
def ObjOk (H:Hp) (h:Heap) (a:Addr):HO->Prop
 | .lst xs=>xs.length<=sizeLine/\∃ (its:List Value) (n:Nat),Vals xs its/\h.get? a=some { cls:=.type "list",data:=.seq its.toArray n }
 | .tup xs=>xs.length<=sizeLine/\∃ its:List Value,Vals xs its/\IsTup h a its.toArray
 | .dK Ag=>Ag.length<=sizeLine/\(a == sysModules)=false/\∃ vs,KV Ag vs/\h.DictOf (qBO P w) a vs
 | .dT Ag=>Ag.length<=sizeLine/\(a == sysModules)=false/\∃ xs:List (List Key × Addr × Value),
   Paired (fun (p:List Key × V) (q:List Key × Addr × Value)=>p.1=q.1/\H q.2.1=some (.tup (p.1.map kV))/\RelV p.2 q.2.2) Ag xs/\
   ∃ o es ep,h.get? a=some o/\o.ExactDict/\o.data=.dict es ep/\es.toList=xs.map (entryOfKey (tupleKind (qBO P w)))/\(xs.map (·.1)).Nodup
 | .set S n=>h.SetOf (intKind P w) a S n
 | .ins C dx fs=>H dx=some (.own a)/\fs.length<=1000/\dx ≠ a/\h.get? a=some (A70 C dx)/\
   ∃ mA,h.Ns1 dx mA/\(∀ f,RelO (fs.lookup f) (mA f))/\PySem.Within mA (fs.map (·.1))
 | .own _=>∃ o,h.get? a=some o
 | .xd fs=>∃ mA,h.Ns1 a mA/\∀ f,RelO (fs.lookup f) (mA f)
 | .rng lo hi=>∃ t u v,h.get? a=some { cls:=.type "range",data:=.fields #[.int lo t,.int hi u,.int 1 v] }
 | .frz o u=>h.get? a=some o/\ObjOk H h a u
 | .tbl (.tab q)=>∃ more:Array Value,h.get? a=some { cls:=.none,data:=.fields more }/\TriplesOk more.toList/\∀ pos cv,codeAmong pos more.toList=some cv->∃ c,cv=.ref c/\H c=some (.tbl (.cod q))
 | .tbl (.cod q)=>h.CodeRec (.ref a) q
 | .met f x=>h.get? a=some (A35 (.ref f) (.ref x))
 | .ext φ=>φ h/\(∃ o,h.get? a=some o)/\∀ h1 h2:Heap,φ h1->(∀ o,h1.get? a=some o->h2.get? a=some o)->φ h2
def HOk (H:Hp) (h:Heap):Prop:=∀ a o,H a=some o->ObjOk P w H h a o
end
section
variable {P:Program} {w:World} {H H':Hp} {h h':Heap} {a:Addr} {o:HO}
theorem ObjOk.lt (x:ObjOk P w H h a o):a<h.objs.size:=by
 cases o with
 | lst xs=>obtain ⟨_,_,_,_,e⟩:=x;exact D0 e
 | tup xs=>obtain ⟨_,_,_,p⟩:=x;exact p.lt
 | dK Ag=>obtain ⟨_,_,_,_,o,_,_,e,_⟩:=x;exact D0 e
 | dT Ag=>obtain ⟨_,_,_,_,o,_,_,e,_⟩:=x;exact D0 e
 | set S n=>obtain ⟨o,_,_,_,e,_⟩:=x;exact D0 e
 | ins C dx fs=>obtain ⟨_,_,_,e,_⟩:=x;exact D0 e
 | own y=>obtain ⟨_,e⟩:=x;exact D0 e
 | xd fs=>obtain ⟨_,⟨_,_,_,e,_⟩,_⟩:=x;exact D0 e
 | rng lo hi=>obtain ⟨_,_,_,e⟩:=x;exact D0 e
 | frz ob u=>obtain ⟨e,_⟩:=x;exact D0 e
 | tbl t=>
  cases t with
  | tab q=>obtain ⟨_,e,_⟩:=x;exact D0 e
  | cod q=>obtain ⟨c,o,_,_,e,g,_⟩:=x;cases e;exact D0 g
 | met f y=>exact D0 (show h.get? a=some _ from x)
 | ext φ=>obtain ⟨_,⟨_,e⟩,_⟩:=x;exact D0 e
theorem Paired.mapP {α β:Type} {F G:α->β->Prop}:∀ {l₁:List α} {l₂:List β},Paired F l₁ l₂->(∀ a b,F a b->G a b)->Paired G l₁ l₂
 | _,_,.nil,_=>.nil
 | _,_,.cons r t,f=>.cons (f _ _ r) (Paired.mapP t f)
theorem ObjOk.stay (x:ObjOk P w H h a o) (k:∀ b u,(b=a\/H b=some (.own a))->h.get? b=some u->h'.get? b=some u)
  (ho:∀ b,H b=some (.own a)->H' b=some (.own a)) (ht:∀ b xs,H b=some (.tup xs)->H' b=some (.tup xs)) (hb:∀ b t,H b=some (.tbl t)->H' b=some (.tbl t):=by exact fun _ _ q=>q):ObjOk P w H' h' a o:=by
 induction o with
 | lst xs=>obtain ⟨z,its,n,r,e⟩:=x;exact ⟨z,its,n,r,k _ _ (.inl rfl) e⟩
 | tup xs=>obtain ⟨z,its,r,ob,e,c⟩:=x;exact ⟨z,its,r,ob,k _ _ (.inl rfl) e,c⟩
 | dK Ag=>obtain ⟨z,y,vs,r,ob,es,ep,e,c⟩:=x;exact ⟨z,y,vs,r,ob,es,ep,k _ _ (.inl rfl) e,c⟩
 | dT Ag=>
  obtain ⟨z,y,xs,r,ob,es,ep,e,c⟩:=x;exact ⟨z,y,xs,Paired.mapP r fun p q z=>⟨z.1,ht _ _ z.2.1,z.2.2⟩,ob,es,ep,k _ _ (.inl rfl) e,c⟩
 | set S n=>obtain ⟨ob,es,ep,t,e,c⟩:=x;exact ⟨ob,es,ep,t,k _ _ (.inl rfl) e,c⟩
 | ins C dx fs=>
  obtain ⟨d,z,ne,e,mA,⟨od,es,ep,e2,c⟩,r⟩:=x;exact ⟨ho _ d,z,ne,k _ _ (.inl rfl) e,mA,⟨od,es,ep,k _ _ (.inr d) e2,c⟩,r⟩
 | own y=>obtain ⟨ob,e⟩:=x;exact ⟨ob,k _ _ (.inl rfl) e⟩
 | xd fs=>obtain ⟨mA,⟨od,es,ep,e,c⟩,r⟩:=x;exact ⟨mA,⟨od,es,ep,k _ _ (.inl rfl) e,c⟩,r⟩
 | rng lo hi=>obtain ⟨t,u,v,e⟩:=x;exact ⟨t,u,v,k _ _ (.inl rfl) e⟩
 | frz ob u ih=>obtain ⟨e,q⟩:=x;exact ⟨k _ _ (.inl rfl) e,ih q⟩
 | tbl t=>
  cases t with
  | tab q=>obtain ⟨m,e,tr,c⟩:=x;exact ⟨m,k a _ (.inl rfl) e,tr,fun pos cv z=>let ⟨c',e1,e2⟩:=c pos cv z;⟨c',e1,hb _ _ e2⟩⟩
  | cod q=>obtain ⟨c,o,vs,t,e,g,r⟩:=x;cases e;exact ⟨a,o,vs,t,rfl,k a _ (.inl rfl) g,r⟩
 | met f y=>
  have e:h.get? a=some (A35 (.ref f) (.ref y)):=x;show h'.get? a=some (A35 (.ref f) (.ref y));exact k a _ (.inl rfl) e
 | ext φ=>obtain ⟨p,⟨o,e⟩,st⟩:=x;exact ⟨st _ _ p fun o q=>k _ _ (.inl rfl) q,⟨o,k _ _ (.inl rfl) e⟩,st⟩
theorem HOk.lt (x:HOk P w H h) (e:H a=some o):a<h.objs.size:=(x a o e).lt
theorem HOk.fresh (x:HOk P w H h) (e:h.objs.size<=a):H a=none:=by
 cases q:H a with
 | none=>rfl
 | some u=>exact absurd (G9 (x.lt q) e) (c8 _)
theorem HOk.kept (x:HOk P w H h) (k:∀ b u,h.get? b=some u->h'.get? b=some u):HOk P w H h':=fun a o e=>
 (x a o e).stay (fun b u _ q=>k b u q) (fun _ q=>q) fun _ _ q=>q
theorem HOk.laid (x:HOk P w H h) (k:∀ b u,h.get? b=some u->h'.get? b=some u) (hp:h.objs.size<=a) (new:ObjOk P w (Ah H a o) h' a o):HOk P w (Ah H a o) h':=fun b u e=>by
 have hn:=x.fresh hp;by_cases hb:b=a
 ·subst hb;rw [qA1] at e;cases e;exact new
 ·rw [qA8 hb] at e;exact (x b u e).stay (fun c v _ q=>k c v q) (fun c q=>by rw [qA8 (qA5 q hn)];exact q) (fun c xs q=>by rw [qA8 (qA5 q hn)];exact q) fun c t q=>by rw [qA8 (qA5 q hn)];exact q
end
def Rd (H:Hp) (a:Addr) (u:HO):Prop:=H a=some u\/∃ o,H a=some (.frz o u)
theorem Rd.ok {P:Program} {w:World} {H:Hp} {h:Heap} {a:Addr} {u:HO} (r:Rd H a u) (x:HOk P w H h):ObjOk P w H h a u:=by
 rcases r with r | ⟨o,r⟩
 ·exact x a u r
 ·obtain ⟨_,q⟩:=x a _ r;exact q
def Mut:Option HO->Prop
 | some (.lst _)=>True
 | some (.dK _)=>True
 | some (.dT _)=>True
 | some (.set _ _)=>True
 | some (.ins _ _ _)=>True
 | some (.ext _)=>True
 | _=>False
section
variable {P:Program} {w:World} {H:Hp} {h h':Heap} {x e:Addr} {o':HO}
theorem HOk.write (ok:HOk P w H h) (mu:Mut (H x)) (he:e=x\/H e=some (.own x)) (k:∀ b u,b ≠ e->h.get? b=some u->h'.get? b=some u) (heo:∃ u,h'.get? e=some u)
  (new:ObjOk P w (Ah H x o') h' x o'):HOk P w (Ah H x o') h':=fun b u q=>by
 have nown:∀ c y,H c=some (.own y)->c ≠ x:=fun c y r z=>by subst z;rw [r] at mu;exact mu
 have ntup:∀ c xs,H c=some (.tup xs)->c ≠ x:=fun c xs r z=>by subst z;rw [r] at mu;exact mu
 by_cases hb:b=x
 ·subst hb;rw [qA1] at q;cases q;exact new
 ·rw [qA8 hb] at q;by_cases hbe:b=e
  ·have q':H b=some (.own x):=by
    rcases he with z | z
    ·exact absurd (hbe.trans z) hb
    ·rw [hbe];exact z
   rw [q] at q';cases q';obtain ⟨v,hv⟩:=heo;exact ⟨v,by rw [hbe];exact hv⟩
  ·refine (ok b u q).stay (fun c v hc r=>k c v ?_ r) (fun c r=>by rw [qA8 (nown c b r)];exact r) (fun c xs r=>by rw [qA8 (ntup c xs r)];exact r) fun c t r=>by rw [qA8 (fun z=>by subst z;rw [r] at mu;exact mu)];exact r
   rcases hc with rfl | hc
   ·exact hbe
   ·rintro rfl;rcases he with z | z
    ·exact nown c b hc z
    ·rw [hc] at z;cases z;exact hb rfl
end
structure Un (fs ex:List Addr) (H H':Hp) (h h':Heap):Prop where
 keep:∀ b o,h.get? b=some o->H b=none->b ∉ fs->b ∉ ex->h'.get? b=some o
 slot:∀ b o,h.get? b=some o->H b=none->b ∈ fs->b ∉ ex->∃ sl,h'.get? b=some { o with slots:=sl }
 free:∀ b o,h.get? b=some o->H b=none->b ∉ ex->H' b=none
 there:∀ b o,h.get? b=some o->b ∉ ex->∃ o',h'.get? b=some o'
 tups:∀ b xs,H b=some (.tup xs)->H' b=some (.tup xs)
 frzs:∀ b o u,H b=some (.frz o u)->H' b=some (.frz o u)
 tbls:∀ b ps,H b=some (.tbl ps)->H' b=some (.tbl ps)
section
variable {fs fs' ex ex':List Addr} {H H1 H2:Hp} {h h1 h2 h':Heap} {a x e:Addr} {o:HO}
theorem Un.any (u:Un fs ex H H1 h h1) {b:Addr} {ob:Obj} (q:h.get? b=some ob) (n:H b=none) (hx:b ∉ ex):∃ sl,h1.get? b=some { ob with slots:=sl }:=by
 by_cases hb:b ∈ fs
 ·exact u.slot b ob q n hb hx
 ·exact ⟨ob.slots,u.keep b ob q n hb hx⟩
theorem Un.kept (k:∀ b u,h.get? b=some u->h'.get? b=some u):Un fs ex H H h h':=
 ⟨fun b ob q _ _ _=>k b ob q,fun b ob q _ _ _=>⟨ob.slots,k b ob q⟩,fun _ _ _ n _=>n,fun b ob q _=>⟨ob,k b ob q⟩,fun _ _ q=>q,fun _ _ _ q=>q,fun _ _ q=>q⟩
theorem Un.refl:Un fs ex H H h h:=Un.kept fun _ _ q=>q
theorem Un.laid (k:∀ b u,h.get? b=some u->h'.get? b=some u) (hp:h.objs.size<=a) (hn:H a=none):Un fs ex H (Ah H a o) h h' where
 keep:=fun b u q _ _ _=>k b u q
 slot:=fun b u q _ _ _=>⟨u.slots,k b u q⟩
 free:=fun b u q n _=>by rw [qA8 (F0 (G9 (D0 q) hp))];exact n
 there:=fun b u q _=>⟨u,k b u q⟩
 tups:=fun b xs q=>by rw [qA8 (qA5 q hn)];exact q
 frzs:=fun b u xs q=>by rw [qA8 (qA5 q hn)];exact q
 tbls:=fun b ps q=>by rw [qA8 (qA5 q hn)];exact q
theorem Un.write (mu:Mut (H x)) (he:e=x\/H e=some (.own x)) (k:∀ b u,b ≠ e->h.get? b=some u->h'.get? b=some u) (heo:∃ u,h'.get? e=some u):Un fs ex H (Ah H x o) h h':=by
 have hx:∀ b,H b=none->b ≠ x:=fun b n z=>by subst z;rw [n] at mu;exact mu
 have hb:∀ b,H b=none->b ≠ e:=fun b n z=>by
  subst z;rcases he with r | r
  ·exact hx b n r
  ·rw [n] at r;cases r
 have hm:∀ b u,H b=some u->¬ Mut (some u)->b ≠ x:=fun b u q nm z=>by subst z;rw [q] at mu;exact nm mu
 refine ⟨fun b u q n _ _=>k b u (hb b n) q,fun b u q n _ _=>⟨u.slots,k b u (hb b n) q⟩,fun b u q n _=>by rw [qA8 (hx b n)];exact n,fun b u q _=>?_,
  fun b xs q=>by rw [qA8 (hm b _ q fun z=>z)];exact q,fun b u xs q=>by rw [qA8 (hm b _ q fun z=>z)];exact q,fun b ps q=>by rw [qA8 (hm b _ q fun z=>z)];exact q⟩
 by_cases hbe:b=e
 ·subst hbe;exact heo
 ·exact ⟨u,k b u hbe q⟩
end
def trk (h:Heap) (H:Hp):List Addr:=(J9 h.objs.size).filter fun a=>(H a).isSome
def hidT (h:Heap) (H:Hp):Heap:=PySem.W.hideAll h (trk h H)
theorem qRU (h:Heap) (H:Hp):(hidT h H).objs.size=h.objs.size:=PySem.W.hideAll_size _ _
theorem qU0 {h:Heap} {H:Hp} {b:Addr} {o:Obj} (e:h.get? b=some o) (n:H b=none):(hidT h H).get? b=some o:=
 PySem.W.hideAll_get _ e fun hm=>by
  have q:(H b).isSome=true:=(V5.mp hm).2;rw [n] at q;simp at q
theorem qW7 {h:Heap} {H:Hp} {b:Addr} {o:Obj} (e:(hidT h H).get? b=some o):h.get? b=some o/\H b=none:=by
 have e':h.get? b=some o:=PySem.W.of_hideAll (trk h H) e;refine ⟨e',?_⟩;cases q:H b with
 | none=>rfl
 | some x=>
  have hm:b ∈ trk h H:=V5.mpr ⟨J7.mpr (D0 e'),by simp [q]⟩
  have z:(hidT h H).get? b=none:=PySem.W.hideAll_none (trk h H) hm;rw [z] at e;cases e
def qX3 (g h:Heap) (L:Addr):List (Addr × Obj):=(J9 h.objs.size).filterMap fun a=>if a=L\/(g.get? a).isSome=true then none else (h.get? a).map fun o=>(a,o)
def rest (g h:Heap) (L d:Addr):List (Addr × Obj):=(qX3 g h L).filter fun p=>decide (p.1 ≠ d)
end L2
namespace L2
open PySem PySem.Spec PyProof.Rows
structure Mod (K:PySem.W.Frag) (mg:Str->Option Value) (base:Heap):Prop where
 kin:K.In base
 glob:base.Ns mainGlobals mg
 blt:∃ mb,base.Ns builtinsNs mb/\∀ x:Str,x ≠ "__name__"->mb x=bootBuiltins x
 nolimit:base.NoLimit
structure Cx where
 prog:Program
 w:World
 K:PySem.W.Frag
 mg:Str->Option Value
 base:Heap
 A:Around
 N:List Str
 s₀:Shared
 H₀:Hp
 env:Env
 outer:List Env
 stack:List Env
 ex:List Addr
 fn:Str->Bool
 calm:Bool
 pn:List (Addr × Obj)
 xe:Value->Shared->Prop
def frs (l:List Env):List Addr:=l.filterMap (·.frame)
abbrev Cx.fs (X:Cx):List Addr:=frs X.outer
def Vis (sc:Scope) (x:Str):Prop:=sc.names.lookup x=some .local\/sc.names.lookup x=some .cell\/sc.names.lookup x=some .free
def Loc (sc:Scope) (x:Str):Prop:=sc.names.lookup x=some .local\/sc.names.lookup x=some .cell
def Look (env:Env) (h:Heap) (m:Str->Option Value) (x:Str) (u:Value):Prop:=
 (env.kindOf x=some .local/\m x=some u)\/((env.kindOf x=some .cell\/env.kindOf x=some .free)/\∃ c,env.cells.lookup x=some c/\h.IsCell c (some u))
structure Cx.Ok (X:Cx):Prop where
 mod:Mod X.K X.mg X.base
 kind:X.env.scope.kind=.function
 glob:X.env.globals=mainGlobals
 blt:X.env.builtins=builtinsNs
 above:X.s₀.heap.objs.size<=X.env.locals
 inj:∀ x y c,X.env.cells.lookup x=some c->X.env.cells.lookup y=some c->x=y
 has:∀ x,(X.env.kindOf x=some .cell\/X.env.kindOf x=some .free)->∃ c,X.env.cells.lookup x=some c
 cab:∀ x c,X.fn x=true->X.env.cells.lookup x=some c->X.s₀.heap.objs.size<=c
 hd:X.calm=true->X.A.handled=none
 frames:X.A.frames=some X.stack
 stk:X.stack=X.outer\/(X.stack=X.env::X.outer/\X.env.frame=some X.env.locals)
 exf:∀ b ∈ X.ex,b ≠ X.env.locals/\∀ x c,X.env.cells.lookup x=some c->c ≠ b
 bs:∀ b o,X.base.get? b=some o->X.s₀.heap.get? b=some o/\X.H₀ b=none
 bsz:X.base.objs.size<=X.s₀.heap.objs.size
 noex:∀ b o,X.base.get? b=some o->b ∉ X.ex
 exfs:∀ b ∈ X.ex,b ∉ X.fs
 funs:X.s₀.heap.FunFrames X.base X.outer
 frf:∀ b ∈ X.fs,X.H₀ b=none
structure Inv (X:Cx) (Ab:List (Addr × Obj)) (σ:List (Option V)) (H:Hp) (s:Shared):Prop where
 ok:X.Ok
 os:s.os=X.s₀.os
 bare:AllBare s.gens
 base:Un X.fs X.ex X.H₀ H X.s₀.heap s.heap
 loc:∃ m,s.heap.Ns X.env.locals m/\∀ (i:Nat) (x:Str) (v:V),X.N[i]?=some x->σ[i]?=some (some v)->Vis X.env.scope x->∃ u,RelV v u/\Look X.env s.heap m x u
 cell:∀ x c,X.env.cells.lookup x=some c->∃ v,s.heap.IsCell c v
 free:H X.env.locals=none
 freeC:∀ x c,X.env.cells.lookup x=some c->H c=none
 pin:∀ p ∈ X.pn++Ab,s.heap.get? p.1=some p.2/\H p.1=none/\p.1 ≠ X.env.locals/\p.1 ∉ X.fs/\∀ v,p.2.data ≠ .cell v
 hok:HOk X.prog X.w H s.heap
 len:σ.length=X.N.length
section
variable {X:Cx} {Ab:List (Addr × Obj)} {σ:List (Option V)} {H H':Hp} {s:Shared} {h':Heap}
theorem Cx.Ok.nofr (ok:X.Ok) {b:Addr} {o:Obj} (e:X.base.get? b=some o):b ∉ X.fs:=fun hb=>by
 have:=(ok.funs.mem hb).1;rw [e] at this;cases this
theorem Inv.bs (I:Inv X Ab σ H s):∀ b o,X.base.get? b=some o->s.heap.get? b=some o/\H b=none:=fun b o e=>
 ⟨I.base.keep b o (I.ok.bs b o e).1 (I.ok.bs b o e).2 (I.ok.nofr e) (I.ok.noex b o e),I.base.free b o (I.ok.bs b o e).1 (I.ok.bs b o e).2 (I.ok.noex b o e)⟩
theorem Inv.bk (I:Inv X Ab σ H s):∀ b o,X.base.get? b=some o->s.heap.get? b=some o:=fun b o e=>(I.bs b o e).1
theorem Inv.mod (I:Inv X Ab σ H s):Mod X.K X.mg X.base:=I.ok.mod
theorem Inv.kIn (I:Inv X Ab σ H s):X.K.In s.heap:=I.ok.mod.kin.keeps I.bk
theorem Inv.lt (I:Inv X Ab σ H s):X.env.locals<s.heap.objs.size:=let ⟨_,hn,_⟩:=I.loc;hn.lt
theorem Inv.sz (I:Inv X Ab σ H s):X.s₀.heap.objs.size<=s.heap.objs.size:=M6 I.ok.above (c5 I.lt)
theorem Inv.nofs (I:Inv X Ab σ H s) {a:Addr} (h:s.heap.objs.size<=a):a ∉ X.fs:=fun hb=>by
 obtain ⟨_,o,ho,_⟩:=I.ok.funs.mem hb;exact absurd (G9 (D0 ho) (M6 I.sz h)) (c8 _)
theorem Inv.cne (I:Inv X Ab σ H s):∀ x c,X.env.cells.lookup x=some c->c ≠ X.env.locals:=fun x c e z=>by
 obtain ⟨v,o,ho,hd⟩:=I.cell x c e;obtain ⟨m,⟨o',es,ep,ho',hd',_⟩,_⟩:=I.loc;rw [z,ho'] at ho;cases ho;rw [hd'] at hd;cases hd
theorem Inv.funs (I:Inv X Ab σ H s):s.heap.FunFrames X.base X.outer:=by
 have all:∀ (l:List Env),(∀ b ∈ frs l,b ∈ X.fs)->X.s₀.heap.FunFrames X.base l->s.heap.FunFrames X.base l:=by
  intro l
  induction l with
  | nil=>intro _ _;trivial
  | cons env r ih=>
   intro hs hl;obtain ⟨hk,⟨L,o,hf,hn,ho,hd⟩,hr⟩:=hl;have hL:L ∈ X.fs:=hs L (by unfold frs;rw [c9,hf];exact C9)
   obtain ⟨sl,e⟩:=I.base.slot L o ho (I.ok.frf L hL) hL fun z=>I.ok.exfs L z hL;exact ⟨hk,⟨L,_,hf,hn,e,hd⟩,ih (fun b hb=>hs b (by unfold frs;rw [c9,hf];exact C7 _ hb)) hr⟩
 exact all X.outer (fun _ hb=>hb) I.ok.funs
theorem Inv.stack (I:Inv X Ab σ H s):s.heap.FunFrames X.base X.stack:=by
 rcases I.ok.stk with e | ⟨e,hf⟩
 ·rw [e];exact I.funs
 ·rw [e];obtain ⟨m,hn,_⟩:=I.loc;refine .cons (by rw [I.ok.kind];decide) hf hn ?_ I.funs
  exact Heap.get?_none_of_le (M6 I.ok.bsz I.ok.above)
theorem Inv.stkSub (I:Inv X Ab σ H s):∀ b ∈ frs X.stack,b ∈ X.env.locals::X.fs:=fun b hb=>by
 rcases I.ok.stk with e | ⟨e,hf⟩
 ·rw [e] at hb;exact C7 _ hb
 ·rw [e] at hb;unfold frs at hb;rw [c9,hf] at hb;exact hb
theorem Inv.stkFree (I:Inv X Ab σ H s):∀ b ∈ frs X.stack,H b=none:=fun b hb=>by
 rcases D9.mp (I.stkSub b hb) with e | hb
 ·rw [e];exact I.free
 ·obtain ⟨_,o,ho,_⟩:=I.ok.funs.mem hb;exact I.base.free b o ho (I.ok.frf b hb) fun z=>I.ok.exfs b z hb
theorem Inv.step {g':Array GenState} {t':Nat} {d':Drawn} {ch:List Addr} (I:Inv X Ab σ H s)
  (hch:∀ b ∈ ch,(b ∈ X.ex\/X.s₀.heap.objs.size<=b)/\b ≠ X.env.locals/\(∀ x c,X.env.cells.lookup x=some c->c ≠ b)/\∀ p ∈ X.pn++Ab,p.1 ≠ b)
  (keep:∀ b o,b ≠ X.env.locals->b ∉ X.fs->b ∉ ch->s.heap.get? b=some o->H b=none->h'.get? b=some o)
  (slot:∀ b o,b ≠ X.env.locals->b ∈ X.fs->b ∉ ch->s.heap.get? b=some o->H b=none->∃ sl,h'.get? b=some { o with slots:=sl }) (free:∀ b o,b ∉ ch->s.heap.get? b=some o->H b=none->H' b=none)
  (there:∀ b o,b ∉ ch->s.heap.get? b=some o->∃ o',h'.get? b=some o')
  (tups:∀ b xs,H b=some (.tup xs)->H' b=some (.tup xs)) (frzs:∀ b o u,H b=some (.frz o u)->H' b=some (.frz o u)) (tbls:∀ b ps,H b=some (.tbl ps)->H' b=some (.tbl ps))
  (ns:∀ m,s.heap.Ns X.env.locals m->h'.Ns X.env.locals m) (hok:HOk X.prog X.w H' h') (hg:AllBare g') :
  Inv X Ab σ H' { s with heap:=h',gens:=g',drawn:=d',toks:=t' }:=by
 have neL:∀ b o,X.s₀.heap.get? b=some o->b ≠ X.env.locals:=fun b o e=>F0 (G9 (D0 e) I.ok.above);have neC:∀ b o,X.s₀.heap.get? b=some o->b ∉ X.ex->b ∉ ch:=fun b o e hx hb=>by
  rcases (hch b hb).1 with z | z
  ·exact hx z
  ·exact absurd (G9 (D0 e) z) (c8 _)
 have cellK:∀ x c,X.env.cells.lookup x=some c->∀ v,s.heap.IsCell c v->h'.IsCell c v:=fun x c e v ⟨o,ho,hd⟩=>by
  have nch:c ∉ ch:=fun z=>(hch c z).2.2.1 x c e rfl;by_cases hc:c ∈ X.fs
  ·obtain ⟨sl,q⟩:=slot c o (I.cne x c e) hc nch ho (I.freeC x c e);exact ⟨_,q,hd⟩
  ·exact ⟨o,keep c o (I.cne x c e) hc nch ho (I.freeC x c e),hd⟩
 refine ⟨I.ok,I.os,hg,⟨fun b o e n hb hx=>?_,fun b o e n hb hx=>?_,fun b o e n hx=>?_,fun b o e hx=>?_,fun b xs e=>tups b xs (I.base.tups b xs e),fun b o xs e=>frzs b o xs (I.base.frzs b o xs e),fun b ps e=>?_⟩,?_,fun x c e=>?_,?_,fun x c e=>?_,fun p hp=>?_,hok,I.len⟩
 ·exact keep b o (neL b o e) hb (neC b o e hx) (I.base.keep b o e n hb hx) (I.base.free b o e n hx)
 ·obtain ⟨sl,e1⟩:=I.base.slot b o e n hb hx;obtain ⟨sl',e2⟩:=slot b _ (neL b o e) hb (neC b o e hx) e1 (I.base.free b o e n hx);exact ⟨sl',e2⟩
 ·obtain ⟨o',e1⟩:=I.base.there b o e hx;exact free b o' (neC b o e hx) e1 (I.base.free b o e n hx)
 ·obtain ⟨o',e1⟩:=I.base.there b o e hx;exact there b o' (neC b o e hx) e1
 ·exact tbls b ps (I.base.tbls b ps e)
 ·obtain ⟨m,hn,hl⟩:=I.loc;refine ⟨m,ns m hn,fun i x v e1 e2 e3=>?_⟩;obtain ⟨u,r,l⟩:=hl i x v e1 e2 e3;refine ⟨u,r,?_⟩;rcases l with l | ⟨k,c,e,z⟩
  ·exact .inl l
  ·exact .inr ⟨k,c,e,cellK x c e _ z⟩
 ·obtain ⟨v,z⟩:=I.cell x c e;exact ⟨v,cellK x c e v z⟩
 ·obtain ⟨m,⟨o,_,_,ho,_⟩,_⟩:=I.loc;exact free _ o (fun z=>(hch _ z).2.1 rfl) ho I.free
 ·obtain ⟨v,o,ho,hd⟩:=I.cell x c e;exact free c o (fun z=>(hch c z).2.2.1 x c e rfl) ho (I.freeC x c e)
 ·obtain ⟨e,n,ne,nf,d⟩:=I.pin p hp;have nch:p.1 ∉ ch:=fun z=>(hch p.1 z).2.2.2 p hp rfl;exact ⟨keep p.1 p.2 ne nf nch e n,free p.1 p.2 nch e n,ne,nf,d⟩
theorem Inv.un {t':Nat} (I:Inv X Ab σ H s) (u:Un X.fs [] H H' s.heap h') (hok:HOk X.prog X.w H' h'):Inv X Ab σ H' { s with heap:=h',toks:=t' }:=by
 obtain ⟨m,⟨o,es,ep,ho,r⟩,_⟩:=id I.loc;obtain ⟨sl,hL⟩:=u.any ho I.free (by simp)
 exact I.step (g':=s.gens) (d':=s.drawn) (ch:=[]) (fun _ z=>nomatch z) (fun b o _ hb _ e n=>u.keep b o e n hb (by simp)) (fun b o _ hb _ e n=>u.slot b o e n hb (by simp)) (fun b o _ e n=>u.free b o e n (by simp)) (fun b o _ e=>u.there b o e (by simp)) u.tups u.frzs u.tbls (fun m' hm=>by
  obtain ⟨o',es',ep',ho',r'⟩:=hm;rw [ho] at ho';cases ho';exact ⟨_,es',ep',hL,r'⟩) hok I.bare
theorem Inv.call {g':Array GenState} {t':Nat} {d':Drawn} {ch:List Addr} (I:Inv X Ab σ H s) (u:Un (frs X.stack) ch H H' s.heap h') (hok:HOk X.prog X.w H' h') (hg:AllBare g')
  (hch:∀ b ∈ ch,(b ∈ X.ex\/X.s₀.heap.objs.size<=b)/\b ≠ X.env.locals/\(∀ x c,X.env.cells.lookup x=some c->c ≠ b)/\∀ p ∈ X.pn++Ab,p.1 ≠ b) :
  Inv X Ab σ H' { s with heap:=h',gens:=g',drawn:=d',toks:=t' }:=by
 obtain ⟨m,⟨o,es,ep,ho,r⟩,_⟩:=id I.loc;obtain ⟨sl,hL⟩:=u.any ho I.free fun z=>(hch _ z).2.1 rfl;exact I.step (ch:=ch) hch (fun b o hL hb hc e n=>u.keep b o e n (fun z=>(D9.mp (I.stkSub b z)).elim hL hb) hc) (fun b o _ _ hc e n=>u.any e n hc) (fun b o hc e n=>u.free b o e n hc) (fun b o hc e=>u.there b o e hc) u.tups u.frzs u.tbls (fun m' hm=>by
  obtain ⟨o',es',ep',ho',r'⟩:=hm;rw [ho] at ho';cases ho';exact ⟨_,es',ep',hL,r'⟩) hok hg
theorem Inv.turned {t':Nat} {it:Addr} (I:Inv X Ab σ H s) (k:∀ b o,b ≠ it->s.heap.get? b=some o->h'.get? b=some o) (hn:H it=none) (hL:it ≠ X.env.locals)
  (h1:it ∈ X.ex\/X.s₀.heap.objs.size<=it) (h2:∀ x c,X.env.cells.lookup x=some c->c ≠ it) (h3:∀ p ∈ X.pn++Ab,p.1 ≠ it):Inv X Ab σ H { s with heap:=h',toks:=t' }:=by
 have nit:∀ b u,H b=some u->b ≠ it:=fun b u e z=>by rw [z,hn] at e;cases e
 refine I.step (g':=s.gens) (d':=s.drawn) (ch:=[it]) (fun b hb=>?_) (fun b o _ _ hc e _=>k b o (fun z=>hc (by simp [z])) e) (fun b o _ _ hc e _=>⟨o.slots,k b o (fun z=>hc (by simp [z])) e⟩) (fun _ _ _ _ n=>n)
  (fun b o hc e=>⟨o,k b o (fun z=>hc (by simp [z])) e⟩) (fun _ _ e=>e) (fun _ _ _ e=>e) (fun _ _ e=>e) (fun m hm=>?_) (fun b u e=>?_) I.bare
 ·have e:b=it:=by simpa using hb
  subst e;exact ⟨h1,hL,h2,h3⟩
 ·obtain ⟨o,es,ep,ho,r⟩:=hm;exact ⟨o,es,ep,k _ o (M8 hL) ho,r⟩
 ·refine (I.hok b u e).stay (fun c v hc q=>k c v ?_ q) (fun _ q=>q) fun _ _ q=>q;rcases hc with z | z
  ·rw [z];exact nit b u e
  ·exact nit c _ z
theorem Inv.tok (I:Inv X Ab σ H s) (t:Nat):Inv X Ab σ H { s with toks:=t }:=I.un (h':=s.heap) (t':=t) Un.refl I.hok
theorem Inv.kept {t':Nat} (I:Inv X Ab σ H s) (k:∀ b u,s.heap.get? b=some u->h'.get? b=some u):Inv X Ab σ H { s with heap:=h',toks:=t' }:=I.un (Un.kept k) (I.hok.kept k)
theorem Inv.laid {a:Addr} {o:HO} {t':Nat} (I:Inv X Ab σ H s) (k:∀ b u,s.heap.get? b=some u->h'.get? b=some u) (hp:s.heap.objs.size<=a) (new:ObjOk X.prog X.w (Ah H a o) h' a o) :
  Inv X Ab σ (Ah H a o) { s with heap:=h',toks:=t' }:=I.un (Un.laid k hp (I.hok.fresh hp)) (I.hok.laid k hp new)
theorem Inv.write {x e:Addr} {o:HO} {t':Nat} (I:Inv X Ab σ H s) (mu:Mut (H x)) (he:e=x\/H e=some (.own x)) (k:∀ b u,b ≠ e->s.heap.get? b=some u->h'.get? b=some u) (heo:∃ u,h'.get? e=some u)
  (new:ObjOk X.prog X.w (Ah H x o) h' x o):Inv X Ab σ (Ah H x o) { s with heap:=h',toks:=t' }:=I.un (Un.write mu he k heo) (I.hok.write mu he k heo new)
theorem Inv.pins_of {pins':List (Addr × Obj)} (I:Inv X Ab σ H s) (h:∀ p ∈ pins',s.heap.get? p.1=some p.2/\H p.1=none/\p.1 ≠ X.env.locals/\p.1 ∉ X.fs/\∀ v,p.2.data ≠ .cell v):Inv X pins' σ H s:=
 ⟨I.ok,I.os,I.bare,I.base,I.loc,I.cell,I.free,I.freeC,fun p hp=>(C8.mp hp).elim (fun z=>I.pin p (T6 _ z)) (h p),I.hok,I.len⟩
theorem qOH {N:List Str} (hN:N.Nodup) {i j:Nat} {x:Str} (a:N[i]?=some x) (b:N[j]?=some x):i=j:=by
 obtain ⟨h1,e1⟩:=B0.mp a;obtain ⟨h2,e2⟩:=B0.mp b;exact (List.getElem_inj hN).mp (e1.trans e2.symm)
theorem qKS {M:Model} {A:Around} {E:Value->Shared->Prop} {i:Nat} {x:Str} {v:V} {u:Value} {Q:Unit->Shared->Prop} (I:Inv X Ab σ H s) (hN:X.N.Nodup) (hi:X.N[i]?=some x) (hx:Loc X.env.scope x) (r:RelV v u)
  (h:∀ s',Inv X Ab (σ.set i (some v)) H s'->(∃ a,Heap.SameBut a s.heap s'.heap/\(a=X.env.locals\/X.env.cells.lookup x=some a))->Q () s') (hf:X.fn x=true\/X.env.scope.names.lookup x=some .local:=by first | exact .inl rfl | exact .inr rfl | assumption):wpAny M A (storeName X.env x u) Q E s:=by
 obtain ⟨m,hn,hl⟩:=id I.loc;have hcls:(X.env.scope.kind == .class || (X.env.scope.kind == .module && X.env.locals != X.env.globals))=false:=by rw [I.ok.kind];rfl
 have hiσ:i<σ.length:=by rw [I.len];exact (B0.mp hi).1
 have cne:=I.cne;have tracked:∀ {a:Addr} {h':Heap},(∃ o,s.heap.get? a=some o/\H a=none)->Heap.SameBut a s.heap h'->HOk X.prog X.w H h':=fun {a h'} ha hs b ob e=>by
  obtain ⟨_,_,hfree⟩:=ha;refine (I.hok b ob e).stay (fun c w' hc q=>(hs.2 c ?_).trans q) (fun _ q=>q) fun _ _ q=>q;rintro rfl;rcases hc with rfl | hc
  ·rw [hfree] at e;cases e
  ·rw [hfree] at hc;cases hc
 rcases hx with hk | hk
 ·refine wpAny_storeName_local hk hn (fun h' hn' hs=>?_) hcls;obtain ⟨oL,_,_,hoL,_⟩:=id hn;refine h _ ⟨I.ok,I.os,I.bare,⟨fun b o e n hb hx=>?_,fun b o e n hb hx=>?_,I.base.free,fun b o e hx=>?_,I.base.tups,I.base.frzs,I.base.tbls⟩,⟨_,hn',fun j y v' e1 e2 e3=>?_⟩,fun y c e=>?_,I.free,I.freeC,fun p hp=>?_,tracked ⟨oL,hoL,I.free⟩ hs,by simpa using I.len⟩ ⟨_,hs,.inl rfl⟩
  ·exact (hs.2 b (F0 (G9 (D0 e) I.ok.above))).trans (I.base.keep b o e n hb hx)
  ·obtain ⟨sl,e1⟩:=I.base.slot b o e n hb hx;exact ⟨sl,(hs.2 b (F0 (G9 (D0 e) I.ok.above))).trans e1⟩
  ·obtain ⟨o',e1⟩:=I.base.there b o e hx;exact ⟨o',(hs.2 b (F0 (G9 (D0 e) I.ok.above))).trans e1⟩
  ·by_cases hj:j=i
   ·subst hj;rw [hi] at e1;cases e1;rw [u8 hiσ] at e2;cases e2;exact ⟨u,r,.inl ⟨hk,by simp⟩⟩
   ·rw [A86 (M8 hj)] at e2;obtain ⟨u',r',q⟩:=hl j y v' e1 e2 e3;refine ⟨u',r',?_⟩;rcases q with ⟨k,e⟩ | ⟨k,c,e,z⟩
    ·refine .inl ⟨k,?_⟩;have:y ≠ x:=fun e=>hj (qOH hN e1 (e ▸ hi));simp [this,e]
    ·exact .inr ⟨k,c,e,z.sameBut hs (cne y c e)⟩
  ·obtain ⟨w',z⟩:=I.cell y c e;exact ⟨w',z.sameBut hs (cne y c e)⟩
  ·obtain ⟨e,n,ne,nf,d⟩:=I.pin p hp;exact ⟨(hs.2 p.1 ne).trans e,n,ne,nf,d⟩
 ·have hfn:X.fn x=true:=by
   rcases hf with z | z
   ·exact z
   ·rw [z] at hk;cases hk
  obtain ⟨c,hc⟩:=I.ok.has x (.inl hk);obtain ⟨w',z⟩:=I.cell x c hc;refine wpAny_storeName_cell I.ok.kind hk hc z (fun h' hc' hs=>?_);obtain ⟨oc,hoc,hocd⟩:=id z;refine h { s with heap:=h' } ⟨I.ok,I.os,I.bare,⟨fun b o e n hb hx=>?_,fun b o e n hb hx=>?_,I.base.free,fun b o e hx=>?_,I.base.tups,I.base.frzs,I.base.tbls⟩,⟨m,hn.sameBut hs (M8 (cne x c hc)),fun j y v' e1 e2 e3=>?_⟩,fun y c' e=>?_,I.free,I.freeC,fun p hp=>?_,tracked ⟨oc,hoc,I.freeC x c hc⟩ hs,by simpa using I.len⟩ ⟨c,hs,.inr hc⟩
  ·exact (hs.2 b (F0 (G9 (D0 e) (I.ok.cab x c hfn hc)))).trans (I.base.keep b o e n hb hx)
  ·obtain ⟨sl,e1⟩:=I.base.slot b o e n hb hx;exact ⟨sl,(hs.2 b (F0 (G9 (D0 e) (I.ok.cab x c hfn hc)))).trans e1⟩
  ·obtain ⟨o',e1⟩:=I.base.there b o e hx;exact ⟨o',(hs.2 b (F0 (G9 (D0 e) (I.ok.cab x c hfn hc)))).trans e1⟩
  ·by_cases hj:j=i
   ·subst hj;rw [hi] at e1;cases e1;rw [u8 hiσ] at e2;cases e2;exact ⟨u,r,.inr ⟨.inl hk,c,hc,hc'⟩⟩
   ·rw [A86 (M8 hj)] at e2;obtain ⟨u',r',q⟩:=hl j y v' e1 e2 e3;refine ⟨u',r',?_⟩;rcases q with q | ⟨k,c',e,z'⟩
    ·exact .inl q
    ·refine .inr ⟨k,c',e,z'.sameBut hs ?_⟩;rintro rfl;exact hj (qOH hN e1 (I.ok.inj _ _ _ e hc ▸ hi))
  ·by_cases hcc:c'=c
   ·subst hcc;exact ⟨_,hc'⟩
   ·obtain ⟨w2,z2⟩:=I.cell y c' e;exact ⟨w2,z2.sameBut hs hcc⟩
  ·obtain ⟨e,n,ne,nf,d⟩:=I.pin p hp;refine ⟨(hs.2 p.1 ?_).trans e,n,ne,nf,d⟩;intro q;rw [q,hoc] at e;have q':oc=p.2:=L9 e;exact d w' (by rw [<- q'];exact hocd)
theorem qNW {M:Model} {A:Around} {E:Value->Shared->Prop} {i:Nat} {x:Str} {v:V} {u:Value} {Q:Unit->Shared->Prop} (I:Inv X Ab σ H s) (hN:X.N.Nodup) (hi:X.N[i]?=some x) (hx:Loc X.env.scope x) (r:RelV v u)
  (h:∀ s',Inv X Ab (σ.set i (some v)) H s'->Q () s') (hf:X.fn x=true\/X.env.scope.names.lookup x=some .local:=by first | exact .inl rfl | exact .inr rfl | assumption):wpAny M A (storeName X.env x u) Q E s:=
 qKS I hN hi hx r (fun s' I' _=>h s' I') hf
theorem Inv.call' {s':Shared} {ch:List Addr} (I:Inv X Ab σ H s) (ho:s'.os=s.os) (u:Un (frs X.stack) ch H H' s.heap s'.heap) (hok:HOk X.prog X.w H' s'.heap) (hg:AllBare s'.gens)
  (hch:∀ b ∈ ch,(b ∈ X.ex\/X.s₀.heap.objs.size<=b)/\b ≠ X.env.locals/\(∀ x c,X.env.cells.lookup x=some c->c ≠ b)/\∀ p ∈ X.pn++Ab,p.1 ≠ b):Inv X Ab σ H' s':=by
 obtain ⟨h',g',d',t',o'⟩:=s';have e:o'=s.os:=ho;subst e;exact I.call (g':=g') (t':=t') (d':=d') u hok hg hch
end
abbrev XK:=Value->Option Addr->Hp->Prop
abbrev St:=List (Option V)
abbrev VK:=V->Hp->Prop
abbrev TE:=St->Hp->VK->Prop
abbrev TT:=St->Hp->(Bool->Hp->Prop)->Prop
abbrev TA:=St->Hp->(List V->Hp->Prop)->Prop
structure Ends where
 nx:St->Hp->Prop
 rt:VK
 bk:St->Hp->Prop:=fun _ _=>False
 ct:St->Hp->Prop:=fun _ _=>False
abbrev TS:=Ends->St->Hp->Prop
def EP (X:Cx) (Ab:List (Addr × Obj)) (σ:St) (Q:VK) (u:Value) (s':Shared):Prop:=∃ v H',Inv X Ab σ H' s'/\RelV v u/\Q v H'
def TP (X:Cx) (Ab:List (Addr × Obj)) (σ:St) (Q:Bool->Hp->Prop) (b:Bool) (s':Shared):Prop:=∃ H',Inv X Ab σ H' s'/\Q b H'
def AP (X:Cx) (Ab:List (Addr × Obj)) (σ:St) (Q:List V->Hp->Prop) (us:List Value) (s':Shared):Prop:=∃ vs H',Inv X Ab σ H' s'/\Vals vs us/\Q vs H'
def SP (X:Cx) (Ab:List (Addr × Obj)) (D:Ends) (f:Flow) (s':Shared):Prop:=
 match f with
 | .next=>∃ σ' H',Inv X Ab σ' H' s'/\D.nx σ' H'
 | .brk=>∃ σ' H',Inv X Ab σ' H' s'/\D.bk σ' H'
 | .cont=>∃ σ' H',Inv X Ab σ' H' s'/\D.ct σ' H'
 | .ret u=>∃ v σ' H',Inv X Ab σ' H' s'/\RelV v u/\D.rt v H'
def PE (X:Cx) (e:Expr) (t:TE):Prop:=
 ∀ (Ab:List (Addr × Obj)) (s:Shared) (σ:St) (H:Hp) (Q:VK),Inv X Ab σ H s->t σ H Q->wpAny (model X.prog X.w) X.A (eval e X.env) (EP X Ab σ Q) X.xe s
def PT (X:Cx) (e:Expr) (t:TT):Prop:=
 ∀ (Ab:List (Addr × Obj)) (s:Shared) (σ:St) (H:Hp) (Q:Bool->Hp->Prop),Inv X Ab σ H s->t σ H Q->wpAny (model X.prog X.w) X.A (isTrue e X.env (eval e X.env)) (TP X Ab σ Q) X.xe s
def PW (X:Cx) (e:Expr) (t:TT):Prop:=
 ∀ (whole:Sem Value) (Ab:List (Addr × Obj)) (s:Shared) (σ:St) (H:Hp) (Q:Bool->Hp->Prop),Inv X Ab σ H s->t σ H Q->wpAny (model X.prog X.w) X.A (isTrue e X.env whole) (TP X Ab σ Q) X.xe s
theorem PW.pt {X:Cx} {e:Expr} {t:TT} (h:PW X e t):PT X e t:=h _
def PA (X:Cx) (es:List Expr) (t:TA):Prop:=
 ∀ (pos:Pos) (Ab:List (Addr × Obj)) (s:Shared) (σ:St) (H:Hp) (Q:List V->Hp->Prop),Inv X Ab σ H s->t σ H Q->wpAny (model X.prog X.w) X.A (spliced (backTo pos (starEach es X.env))) (AP X Ab σ Q) X.xe s
def PS (X:Cx) (st:Stmt) (t:TS):Prop:=
 ∀ (Ab:List (Addr × Obj)) (s:Shared) (σ:St) (H:Hp) (D:Ends),Inv X Ab σ H s->t D σ H->wpAny (model X.prog X.w) X.A (exec st X.env) (SP X Ab D) X.xe s
def PSs (X:Cx) (st:List Stmt) (t:TS):Prop:=
 ∀ (Ab:List (Addr × Obj)) (s:Shared) (σ:St) (H:Hp) (D:Ends),Inv X Ab σ H s->t D σ H->wpAny (model X.prog X.w) X.A (execs st X.env) (SP X Ab D) X.xe s
theorem thn {α:Type} {t:Sem α} {Q Q':α->Shared->Prop} {M:Model} {A:Around} {E:Value->Shared->Prop} {s:Shared} (h:wpAny M A t Q E s) (hQ:∀ a s,Q a s->Q' a s):wpAny M A t Q' E s:=wpAny_mono h hQ fun _ _ x=>x
end L2
namespace L2
open PySem PySem.Spec PyProof.Rows
section
variable {X:Cx}
theorem bin {a b:Expr} {ta tb:TE} (ha:PE X a ta) (hb:PE X b tb) {Ab:List (Addr × Obj)} {s:Shared} {σ:St} {H:Hp} {R:V->V->Hp->Prop} (I:Inv X Ab σ H s) (h:ta σ H fun x H1=>tb σ H1 fun y H2=>R x y H2)
  {α:Type} {Q:α->Shared->Prop} {f:Value->Value->Sem α}
  (hf:∀ v u s2 x y H2,Inv X Ab σ H2 s2->RelV x v->RelV y u->R x y H2->wpAny (model X.prog X.w) X.A (f v u) Q X.xe s2) :
  wpAny (model X.prog X.w) X.A (eval a X.env) (fun v s₁=>wpAny (model X.prog X.w) X.A (eval b X.env) (fun u s₂=>wpAny (model X.prog X.w) X.A (f v u) Q X.xe s₂) X.xe s₁) X.xe s:=by
 refine thn (ha Ab s σ H _ I h) fun v s1 ⟨x,H1,I1,r1,q1⟩=>?_;refine thn (hb Ab s1 σ H1 _ I1 q1) fun u s2 ⟨y,H2,I2,r2,q2⟩=>?_;exact hf v u s2 x y H2 I2 r1 r2 q2
def tVar (i:Nat):TE:=fun σ H Q=>∃ v,σ[i]?=some (some v)/\Q v H
def tC (v:V):TE:=fun _ H Q=>Q v H
theorem qY1 {i:Nat} {x:Str} {pos:Pos} (hN:X.N[i]?=some x) (hv:Vis X.env.scope x) (hd:(x == ("__debug__" : Str))=false:=by decide) (hcd:(x == ("__classdict__" : Str))=false:=by decide):PE X (.Name x pos) (tVar i):=by
 intro Ab s σ H Q I h;obtain ⟨v,e,h⟩:=h;obtain ⟨m,hn,hl⟩:=I.loc;obtain ⟨u,r,l⟩:=hl i x v hN e hv;have fin:EP X Ab σ Q u s:=⟨v,H,I,r,h⟩;rcases l with ⟨hk,hm⟩ | ⟨hk,c,hc,hcell⟩
 ·exact wpAny_Name (wpAny_loadName_local I.ok.kind hk hn hm fin) hd
 ·rcases hk with hk | hk
  ·exact wpAny_Name (wpAny_loadName_cell I.ok.kind hk hc hcell fin) hd
  ·exact wpAny_Name (wpAny_loadName_free I.ok.kind hk hc hcell fin hcd) hd
theorem qA6 {i j pos}:PE X (.Constant (.int i) j pos) (tC (.int i)):=fun _ _ _ H _ I h=>wpAny_Constant_int ⟨.int i,H,I.tok _,⟨_,rfl⟩,h⟩
theorem qDK {b j pos}:PE X (.Constant (.bool b) j pos) (tC (.bl b)):=fun _ _ _ H _ I h=>Constant_bool ⟨.bl b,H,I,rfl,h⟩
theorem qOC {j pos}:PE X (.Constant .none j pos) (tC .non):=fun _ _ _ H _ I h=>Constant_none ⟨.non,H,I,rfl,h⟩
theorem qH3 {x j pos}:PE X (.Constant (.str x) j pos) (tC (.str x)):=fun _ _ _ H _ I h=>Calls.Constant_str ⟨.str x,H,I.tok _,⟨_,rfl⟩,h⟩
def Gl (X:Cx) (x:Str):Prop:=X.env.kindOf x=some .globalImplicit
theorem qRH {E:Value->Shared->Prop} {Ab:List (Addr × Obj)} {s:Shared} {σ:St} {H:Hp} {x:Str} {u:Value} {pos:Pos} {Q:Value->Shared->Prop} (I:Inv X Ab σ H s) (hg:Gl X x) (hm:X.mg x=some u) (h:Q u s)
  (hd:(x == ("__debug__" : Str))=false:=by decide):wpAny (model X.prog X.w) X.A (eval (.Name x pos) X.env) Q E s:=
 Calls.Name_function_global I.ok.kind hg (Calls.loadGlobal_global (by rw [I.ok.glob];exact I.mod.glob.keeps I.bk) hm h) hd
theorem qIE {E:Value->Shared->Prop} {Ab:List (Addr × Obj)} {s:Shared} {σ:St} {H:Hp} {x:Str} {u:Value} {pos:Pos} {Q:Value->Shared->Prop} (I:Inv X Ab σ H s) (hg:Gl X x) (hm:X.mg x=none) (hv:bootBuiltins x=some u) (h:Q u s)
  (hn:x ≠ "__name__":=by decide) (hd:(x == ("__debug__" : Str))=false:=by decide):wpAny (model X.prog X.w) X.A (eval (.Name x pos) X.env) Q E s:=by
 obtain ⟨mb,h1,h2⟩:=I.mod.blt;exact Calls.Name_function_global I.ok.kind hg (Calls.loadGlobal_builtin (by rw [I.ok.glob];exact I.mod.glob.keeps I.bk) hm (by rw [I.ok.blt];exact h1.keeps I.bk) ((h2 x hn).trans hv) h) hd
theorem qCJ {x:Str} {v:V} {u:Value} {pos:Pos} (hg:Gl X x) (hm:X.mg x=some u) (r:RelV v u) (hd:(x == ("__debug__" : Str))=false:=by decide):PE X (.Name x pos) (tC v):=
 fun _ _ _ H _ I h=>qRH I hg hm ⟨v,H,I,r,h⟩ hd
theorem qDZ {x:Str} {v:V} {u:Value} {pos:Pos} (hg:Gl X x) (hm:X.mg x=none) (hv:bootBuiltins x=some u) (r:RelV v u) (hn:x ≠ "__name__":=by decide) (hd:(x == ("__debug__" : Str))=false:=by decide):PE X (.Name x pos) (tC v):=
 fun _ _ _ H _ I h=>qIE I hg hm hv ⟨v,H,I,r,h⟩ hn hd
variable {a b:Expr} {ta tb:TE} {pos:Pos}
def PC (X:Cx) (op:CmpOp) (a b:Expr) (t:TE):Prop:=
 ∀ (Ab:List (Addr × Obj)) (s:Shared) (σ:St) (H:Hp) (Q:VK),Inv X Ab σ H s->t σ H Q->
  wpAny (model X.prog X.w) X.A (eval a X.env) (fun v s₁=>wpAny (model X.prog X.w) X.A (eval b X.env) (fun u s₂=>wpAny (model X.prog X.w) X.A (compareOp op v u) (EP X Ab σ Q) X.xe s₂) X.xe s₁) X.xe s
theorem qTQ (b:Expr) {op:CmpOp} (h:op ≠ .In) (h2:op ≠ .NotIn):behindInMarks op b=false:=by
 have e1:(op == CmpOp.In)=false:=by cases op <;> first | rfl | exact absurd rfl h
 have e2:(op == CmpOp.NotIn)=false:=by cases op <;> first | rfl | exact absurd rfl h2
 cases b <;> simp [behindInMarks,e1,e2]
def tB (t:TE):TT:=fun σ H Q=>t σ H fun x H1=>∃ c,x=.bl c/\Q c H1
theorem qJD {op:CmpOp} {t:TE} (h:PC X op a b t) (h1:behindInMarks op b=false:=by first | exact qTQ _ (by decide) (by decide) | rfl):PT X (.Compare a [op] [b] pos) (tB t):=by
 intro Ab s σ H Q I hw;refine wpAny_isTrue_Compare1 (thn (h Ab s σ H _ I hw) fun v s1 h1=>thn h1 fun u s2 h2=>thn h2 fun c s3 ⟨x,H1,I1,r1,q1⟩=>?_) h1;obtain ⟨d,rfl,q⟩:=q1;cases r1;exact wpAny_truthy_bool ⟨H1,I1,q⟩
theorem qF8 {e:Expr} {t:TE} (h:PE X e t) (he:∀ whole,isTrue e X.env whole=(do let v <- whole;standAt e.pos;holding [v] (truthy v)):=by intro _;rfl):PT X e (tB t):=by
 intro Ab s σ H Q I hw;refine isTrue_plain (thn (h Ab s σ H _ I hw) fun v s1 ⟨x,H1,I1,r1,q1⟩=>?_) (he _);obtain ⟨d,rfl,q⟩:=q1;cases r1;exact wpAny_truthy_bool ⟨H1,I1,q⟩
variable {tA tB':TT} {rest:List Expr}
def tAnd (t u:TT):TT:=fun σ H Q=>t σ H fun c H1=>if c=true then u σ H1 Q else Q false H1
def tOr (t u:TT):TT:=fun σ H Q=>t σ H fun c H1=>if c=true then Q true H1 else u σ H1 Q
def tNot (t:TT):TT:=fun σ H Q=>t σ H fun c H1=>Q (!c) H1
theorem qVZ (ha:PT X a tA):PW X (.BoolOp .And [a] pos) tA:=by
 intro wh Ab s σ H Q I h;refine isTrue_and (thn (ha Ab s σ H Q I h) fun c s1 e=>?_);cases c with
 | true=>exact isTrue_and_nil e
 | false=>exact e
theorem qI8 (ha:PT X a tA):PW X (.BoolOp .Or [a] pos) tA:=by
 intro wh Ab s σ H Q I h;refine isTrue_or (thn (ha Ab s σ H Q I h) fun c s1 e=>?_);cases c with
 | false=>exact isTrue_or_nil e
 | true=>exact e
theorem qXW (ha:PT X a tA) (hb:PW X (.BoolOp .And (b::rest) pos) tB'):PW X (.BoolOp .And (a::b::rest) pos) (tAnd tA tB'):=by
 intro wh Ab s σ H Q I h;refine isTrue_and (thn (ha Ab s σ H _ I h) fun c s1 ⟨H1,I1,q1⟩=>?_);cases c with
 | true=>exact hb wh Ab s1 σ H1 Q I1 q1
 | false=>exact ⟨H1,I1,q1⟩
theorem qL8 (ha:PT X a tA) (hb:PW X (.BoolOp .Or (b::rest) pos) tB'):PW X (.BoolOp .Or (a::b::rest) pos) (tOr tA tB'):=by
 intro wh Ab s σ H Q I h;refine isTrue_or (thn (ha Ab s σ H _ I h) fun c s1 ⟨H1,I1,q1⟩=>?_);cases c with
 | true=>exact ⟨H1,I1,q1⟩
 | false=>exact hb wh Ab s1 σ H1 Q I1 q1
theorem qF9 (ha:PT X a tA):PT X (.UnaryOp .Not a pos) (tNot tA):=by
 intro Ab s σ H Q I h;exact isTrue_not (ha Ab s σ H (fun c H1=>Q (!c) H1) I h)
def qZA (ta tb:TE):TE:=fun σ H Q=>ta σ H fun x H1=>∃ c,x=.bl c/\if c=true then tb σ H1 Q else Q (.bl false) H1
def qZ3 (ta:TE):TE:=fun σ H Q=>ta σ H fun x H1=>∃ c,x=.bl c/\Q (.bl (!c)) H1
theorem qOB {op} {t:TE} (h:PE X a t):PE X (.BoolOp op [a] pos) t:=fun Ab s σ H Q I hw=>BoolOp_one (h Ab s σ H Q I hw)
theorem qJE (ha:PE X a ta) (hb:PE X (.BoolOp .And (b::rest) pos) tb):PE X (.BoolOp .And (a::b::rest) pos) (qZA ta tb):=by
 intro Ab s σ H Q I h;refine BoolOp_and (thn (ha Ab s σ H _ I h) fun v s1 ⟨x,H1,I1,r1,q1⟩=>?_);obtain ⟨c,rfl,q1⟩:=q1;cases r1;refine wpAny_truthy_bool ?_;cases c with
 | true=>exact hb Ab s1 σ H1 Q I1 q1
 | false=>exact ⟨.bl false,H1,I1,rfl,q1⟩
theorem qUY (ha:PE X a ta):PE X (.UnaryOp .Not a pos) (qZ3 ta):=by
 intro Ab s σ H Q I h;refine UnaryOp_ (thn (ha Ab s σ H _ I h) fun v s1 ⟨x,H1,I1,r1,q1⟩=>?_);obtain ⟨c,rfl,q1⟩:=q1;cases r1;exact not_of (wpAny_truthy_bool ⟨.bl (!c),H1,I1,rfl,q1⟩)
def tIf (t:TT) (ta tb:TE):TE:=fun σ H Q=>t σ H fun c H1=>if c=true then ta σ H1 Q else tb σ H1 Q
theorem qK0 {c:Expr} (hc:PT X c tA) (ha:PE X a ta) (hb:PE X b tb):PE X (.IfExp c a b pos) (tIf tA ta tb):=by
 intro Ab s σ H Q I h;refine wpAny_IfExp (thn (hc Ab s σ H _ I h) fun d s1 ⟨H1,I1,q1⟩=>?_);cases d with
 | true=>exact ha Ab s1 σ H1 Q I1 q1
 | false=>exact hb Ab s1 σ H1 Q I1 q1
end
end L2
namespace L2
open PySem PySem.Spec PyProof.Rows
def SqL (K:PySem.W.Frag) (H:Hp) (a:Addr) (xs:List V):Prop:=
 Rd H a (.lst xs)\/
  ∃ (o:Obj) (its:Array Value) (n:Nat),K.lookup a=some o/\o.cls=.type "list"/\o.dict=none/\o.data=.seq its n/\its.size<=sizeLine/\Vals xs its.toList
def SqT (K:PySem.W.Frag) (H:Hp) (a:Addr) (xs:List V):Prop:=
 Rd H a (.tup xs)\/
  ∃ (o:Obj) (its:Array Value) (n:Nat),K.lookup a=some o/\o.cls=.type "tuple"/\o.data=.seq its n/\its.size<=sizeLine/\Vals xs its.toList
def absV:Value->Option V
 | .none=>some .non
 | .bool b=>some (.bl b)
 | .int i _=>some (.int i)
 | .str x _=>some (.str x)
 | .bytes b _=>some (.byt b)
 | .float b _=>some (.flt b)
 | .ref a=>some (.ref a)
 | .type n=>some (.ty n)
 | _=>none
theorem RelV.abs {x:V} {u:Value} (r:RelV x u):absV u=some x:=by
 cases x with
 | non=>cases r;rfl
 | bl _=>cases r;rfl
 | int _=>obtain ⟨t,rfl⟩:=r;rfl
 | str _=>obtain ⟨t,rfl⟩:=r;rfl
 | byt _=>obtain ⟨t,rfl⟩:=r;rfl
 | flt _=>obtain ⟨t,rfl⟩:=r;rfl
 | ref _=>cases r;rfl
 | ty _=>cases r;rfl
theorem RelV.inj {x y:V} {u:Value} (r:RelV x u) (q:RelV y u):x=y:=L9 (r.abs.symm.trans q.abs)
theorem Vals.inj:∀ {xs ys:List V} {us:List Value},Vals xs us->Vals ys us->xs=ys
 | _,_,_,.nil,.nil=>rfl
 | _,_,_,.cons r t,.cons r' t'=>by rw [r.inj r',Vals.inj t t']
section
variable {X:Cx} {Ab:List (Addr × Obj)} {σ:St} {H:Hp} {s:Shared} {a:Addr} {xs ys:List V}
theorem SqL.of {K:PySem.W.Frag} (h:H a=some (.lst xs)):SqL K H a xs:=.inl (.inl h)
theorem SqT.of {K:PySem.W.Frag} (h:H a=some (.tup xs)):SqT K H a xs:=.inl (.inl h)
theorem Inv.list (I:Inv X Ab σ H s) (h:SqL X.K H a xs):∃ its:List Value,Vals xs its/\PlainL s.heap a its.toArray/\xs.length<=sizeLine:=by
 rcases h with h | ⟨o,its,n,hk,hc,hd,hs,hz,r⟩
 ·obtain ⟨z,its,n,r,e⟩:=h.ok I.hok;exact ⟨its,r,⟨_,n,e,rfl,rfl,rfl⟩,z⟩
 ·refine ⟨its.toList,r,⟨o,n,I.kIn a o hk,hc,hd,by simpa using hs⟩,?_⟩
  have e:=r.length;simp only [C2] at e;omega
theorem Inv.tuple (I:Inv X Ab σ H s) (h:SqT X.K H a xs):∃ its:List Value,Vals xs its/\IsTup s.heap a its.toArray/\xs.length<=sizeLine:=by
 rcases h with h | ⟨o,its,n,hk,hc,hs,hz,r⟩
 ·obtain ⟨z,its,r,p⟩:=h.ok I.hok;exact ⟨its,r,p,z⟩
 ·refine ⟨its.toList,r,⟨o,I.kIn a o hk,hc,n,by simpa using hs⟩,?_⟩
  have e:=r.length;simp only [C2] at e;omega
theorem Inv.list_inj (I:Inv X Ab σ H s) (h:SqL X.K H a xs) (h':SqL X.K H a ys):xs=ys:=by
 obtain ⟨its,r,⟨o,n,e,_,_,d⟩,_⟩:=I.list h;obtain ⟨its',r',⟨o',n',e',_,_,d'⟩,_⟩:=I.list h';rw [e] at e';cases e';rw [d] at d'
 injection d' with d1 _
 have:its=its':=by simpa using congrArg B38 d1
 subst this;exact r.inj r'
theorem Inv.tuple_inj (I:Inv X Ab σ H s) (h:SqT X.K H a xs) (h':SqT X.K H a ys):xs=ys:=by
 obtain ⟨its,r,⟨o,e,_,n,d⟩,_⟩:=I.tuple h;obtain ⟨its',r',⟨o',e',_,n',d'⟩,_⟩:=I.tuple h';rw [e] at e';cases e';rw [d] at d'
 injection d' with d1 _
 have:its=its':=by simpa using congrArg B38 d1
 subst this;exact r.inj r'
end
abbrev Cx.wish (X:Cx) (E:Value->Shared->Prop):Cx:={ X with xe:=E }
abbrev Cx.nox (X:Cx):Cx:=X.wish fun _ _=>False
theorem Cx.Ok.wish {X:Cx} (ok:X.Ok) (E:Value->Shared->Prop):(X.wish E).Ok:=
 ⟨ok.mod,ok.kind,ok.glob,ok.blt,ok.above,ok.inj,ok.has,ok.cab,ok.hd,ok.frames,ok.stk,ok.exf,ok.bs,ok.bsz,ok.noex,ok.exfs,ok.funs,ok.frf⟩
theorem Cx.Ok.unwish {X:Cx} {E:Value->Shared->Prop} (ok:(X.wish E).Ok):X.Ok:=
 ⟨ok.mod,ok.kind,ok.glob,ok.blt,ok.above,ok.inj,ok.has,ok.cab,ok.hd,ok.frames,ok.stk,ok.exf,ok.bs,ok.bsz,ok.noex,ok.exfs,ok.funs,ok.frf⟩
section
variable {X:Cx} {Ab:List (Addr × Obj)} {σ:St} {H:Hp} {s:Shared} {E:Value->Shared->Prop}
theorem Inv.wish (I:Inv X Ab σ H s) (E:Value->Shared->Prop):Inv (X.wish E) Ab σ H s:=⟨I.ok.wish E,I.os,I.bare,I.base,I.loc,I.cell,I.free,I.freeC,I.pin,I.hok,I.len⟩
theorem Inv.unwish (I:Inv (X.wish E) Ab σ H s):Inv X Ab σ H s:=⟨I.ok.unwish,I.os,I.bare,I.base,I.loc,I.cell,I.free,I.freeC,I.pin,I.hok,I.len⟩
theorem SP.unwish {D:Ends} {f:Flow} {s':Shared} (h:SP (X.wish E) Ab D f s'):SP X Ab D f s':=by
 cases f with
 | next=>obtain ⟨σ',H',I,q⟩:=h;exact ⟨σ',H',I.unwish,q⟩
 | brk=>obtain ⟨σ',H',I,q⟩:=h;exact ⟨σ',H',I.unwish,q⟩
 | cont=>obtain ⟨σ',H',I,q⟩:=h;exact ⟨σ',H',I.unwish,q⟩
 | ret u=>obtain ⟨v,σ',H',I,r,q⟩:=h;exact ⟨v,σ',H',I.unwish,r,q⟩
theorem PSs.nox {st:List Stmt} {t:TS} (h:PSs X.nox st t):PSs X st t:=fun Ab s σ H D I hw=>
 wpAny_mono (h Ab s σ H D (I.wish _) hw) (fun _ _ q=>q.unwish) fun _ _ z=>k8 z
end
section
variable {X:Cx} {st:Stmt} {rest:List Stmt} {t u:TS} {e:Expr} {te:TE} {pos:Pos}
def qZ4:TS:=fun D σ H=>D.nx σ H
def tSeq (t u:TS):TS:=fun D σ H=>t { D with nx:=u D } σ H
theorem qAO:PSs X [] qZ4:=fun _ _ σ H _ I h=>wpAny_execs_nil ⟨σ,H,I,h⟩
theorem qA4 (h1:PS X st t) (h2:PSs X rest u):PSs X (st::rest) (tSeq t u):=by
 intro Ab s σ H D I h;refine wpAny_execs_cons (thn (h1 Ab s σ H { D with nx:=u D } I h) fun f s1 q=>?_);cases f with
 | next=>
  obtain ⟨σ',H',I',q⟩:=q;exact h2 Ab s1 σ' H' D I' q
 | ret v=>exact q
 | brk=>exact q
 | cont=>exact q
theorem qA7 (h1:PS X st t):PSs X [st] t:=by
 intro Ab s σ H D I h;refine wpAny_execs_cons (thn (h1 Ab s σ H D I h) fun f s1 q=>?_);cases f with
 | next=>exact wpAny_execs_nil q
 | ret v=>exact q
 | brk=>exact q
 | cont=>exact q
def qZ9:TS:=fun D σ H=>D.ct σ H
theorem qMV:PS X (.Continue pos) qZ9:=fun _ _ σ H _ I h=>wpAny_Continue ⟨σ,H,I,h⟩
theorem Inv.quiet {Ab:List (Addr × Obj)} {σ:St} {H:Hp} {s:Shared} (I:Inv X Ab σ H s):interactive X.env=false:=by simp [interactive,I.ok.kind]
def qZ6 (te:TE):TS:=fun D σ H=>te σ H fun _ H1=>D.nx σ H1
theorem qC6 (he:PE X e te) (hs:swapsWith e none pos.line X.env=pure false:=by rfl):PS X (.Expr e pos) (qZ6 te):=by
 intro Ab s σ H D I h;exact wpAny_Expr_any (thn (he Ab s σ H _ I h) fun v s1 ⟨x,H1,I1,r1,q1⟩=>⟨σ,H1,I1,q1⟩) I.quiet hs
def tRet (te:TE):TS:=fun D σ H=>te σ H D.rt
theorem qAK (he:PE X e te):PS X (.Return (some e) pos) (tRet te):=by
 intro Ab s σ H D I h;exact wpAny_Return_some (thn (he Ab s σ H _ I h) fun v s1 ⟨x,H1,I1,r1,q1⟩=>⟨x,σ,H1,I1,r1,q1⟩)
def tIfS (c:TT) (t u:TS):TS:=fun D σ H=>c σ H fun b H1=>if b=true then t D σ H1 else u D σ H1
theorem qBY {c:Expr} {a b:List Stmt} {tc:TT} (hc:PT X c tc) (ha:PSs X a t) (hb:PSs X b u):PS X (.If c a b pos) (tIfS tc t u):=by
 intro Ab s σ H D I h;refine wpAny_If (thn (hc Ab s σ H _ I h) fun d s1 ⟨H1,I1,q1⟩=>?_);cases d with
 | true=>exact ha Ab s1 σ H1 D I1 q1
 | false=>exact hb Ab s1 σ H1 D I1 q1
end
abbrev TG:=V->St->Hp->(St->Hp->Prop)->Prop
abbrev TGs:=List V->St->Hp->(St->Hp->Prop)->Prop
def PG (X:Cx) (target:Expr) (t:TG):Prop:=
 ∀ (Ab:List (Addr × Obj)) (s:Shared) (σ:St) (H:Hp) (v:V) (u:Value) (Q:St->Hp->Prop),Inv X Ab σ H s->RelV v u->t v σ H Q->
  wpAny (model X.prog X.w) X.A (assign target X.env u) (fun _ s'=>∃ σ' H',Inv X Ab σ' H' s'/\Q σ' H') X.xe s
def PGs (X:Cx) (ts:List Expr) (t:TGs):Prop:=
 ∀ (Ab:List (Addr × Obj)) (s:Shared) (σ:St) (H:Hp) (vs:List V) (us:List Value) (Q:St->Hp->Prop),Inv X Ab σ H s->Vals vs us->t vs σ H Q->
  wpAny (model X.prog X.w) X.A (assignInOrder ((assignEach ts X.env).map (·.2)) us) (fun _ s'=>∃ σ' H',Inv X Ab σ' H' s'/\Q σ' H') X.xe s
abbrev TSet:=V->V->V->Hp->(Hp->Prop)->Prop
def PSet (X:Cx) (t:TSet):Prop:=
 ∀ (Ab:List (Addr × Obj)) (s:Shared) (σ:St) (H:Hp) (o i v:V) (ov iv u:Value) (Q:Hp->Prop),Inv X Ab σ H s->RelV o ov->RelV i iv->RelV v u->t o i v H Q->
  wpAny (model X.prog X.w) X.A (setItem ov iv u) (fun _ s'=>∃ H',Inv X Ab σ H' s'/\Q H') X.xe s
section
variable {X:Cx} {pos:Pos}
def qU9 (i:Nat):TG:=fun v σ H Q=>Q (σ.set i (some v)) H
theorem qAG {i:Nat} {x:Str} (hN:X.N.Nodup) (hi:X.N[i]?=some x) (hx:Loc X.env.scope x) (hf:X.fn x=true\/X.env.scope.names.lookup x=some .local:=by first | exact .inl rfl | exact .inr rfl | assumption):PG X (.Name x pos) (qU9 i):=by
 intro Ab s σ H v u Q I r h;exact wpAny_assign_Name (qNW I hN hi hx r (fun s' I'=>⟨_,H,I',h⟩) hf)
def gNil:TGs:=fun vs σ H Q=>vs=[]/\Q σ H
def qZT (t:TG) (u:TGs):TGs:=fun vs σ H Q=>∃ v r,vs=v::r/\t v σ H fun σ' H'=>u r σ' H' Q
theorem qGL:PGs X [] gNil:=by
 intro Ab s σ H vs us Q I r h;obtain ⟨e,h⟩:=h;subst e;cases r;exact assignInOrder_nil ⟨σ,H,I,h⟩
theorem qBU {e:Expr} {es:List Expr} {t:TG} {u:TGs} (h1:PG X e t) (h2:PGs X es u)
  (hs:(assignEach (e::es) X.env).map (·.2)=assign e X.env::(assignEach es X.env).map (·.2):=by rfl):PGs X (e::es) (qZT t u):=by
 intro Ab s σ H vs us Q I r h;obtain ⟨v,vr,e1,h⟩:=h;subst e1;cases r with
 | cons r rr=>
  rw [hs];refine assignInOrder_cons (thn (h1 Ab s σ H _ _ _ I r h) fun _ s1 ⟨σ1,H1,I1,q1⟩=>?_);exact h2 Ab s1 σ1 H1 _ _ Q I1 rr q1
def gTup (K:PySem.W.Frag) (n:Nat) (t:TGs):TG:=fun v σ H Q=>∃ a xs,v=.ref a/\SqT K H a xs/\xs.length=n/\t xs σ H Q
theorem qLA {es:List Expr} {k:Nat} {t:TGs} {n:Nat} (hc:X.calm=true) (h:PGs X es t)
  (hn:(assignEach es X.env).length=n:=by rfl) (hst:(assignEach es X.env).findIdx? (·.1)=none:=by rfl):PG X (.Tuple es k pos) (gTup X.K n t):=by
 intro Ab s σ H v u Q I r hw;obtain ⟨a,xs,e1,hq,hl,hw⟩:=hw;subst e1;cases r;obtain ⟨its,rv,ht,hz⟩:=I.tuple hq;refine assign_Tuple_tuple (I.ok.hd hc) ht (by simp [hn,<- hl,rv.length]) hst fun h' hx=>?_
 have I1:Inv X Ab σ H { s with heap:=h' }:=I.kept (t':=s.toks) fun b o e=>hx b o (F0 (D0 e)) e;exact h Ab _ σ H xs _ Q I1 (by simpa using rv) hw
def gSub (to ti:TE) (t:TSet):TG:=fun v σ H Q=>to σ H fun o H1=>ti σ H1 fun i H2=>t o i v H2 fun H3=>Q σ H3
theorem qY0 {o i:Expr} {to ti:TE} {t:TSet} (ho:PE X o to) (hi:PE X i ti) (hs:PSet X t)
  (ha:∀ v,assign (.Subscript o i pos) X.env v=(do
   let ov <- holding [v] (eval o X.env)
   let iv <- holding [v,ov] (eval i X.env)
   standAt pos
   holding [v,ov,iv] (setItem ov iv v)
   release [v,ov,iv] []):=by intro _;rfl):PG X (.Subscript o i pos) (gSub to ti t):=by
 intro Ab s σ H v u Q I r h;rw [ha];refine wpAny_bind (wpAny_holding (thn (ho Ab s σ H _ I h) fun ov s1 ⟨x,H1,I1,r1,q1⟩=>?_));refine wpAny_bind (wpAny_holding (thn (hi Ab s1 σ H1 _ I1 q1) fun iv s2 ⟨y,H2,I2,r2,q2⟩=>?_));refine wpAny_bind (wpAny_standAt (wpAny_bind (wpAny_holding (thn (hs Ab s2 σ H2 x y v ov iv u _ I2 r1 r2 r q2) fun _ s3 ⟨H3,I3,q3⟩=>?_))));exact wpAny_release ⟨σ,H3,I3,q3⟩
def tAsg (te:TE) (g:TG):TS:=fun D σ H=>te σ H fun x H1=>g x σ H1 D.nx
theorem qXY {tg e:Expr} {te:TE} {g:TG} (he:PE X e te) (hg:PG X tg g) (hs:swapsWithSole [tg] e pos.line X.env=pure false:=by rfl) (hw:swappedStores [tg] e X.env=pure none:=by rfl)
  (h1:(assignEach [tg] X.env).map (·.2)=[assign tg X.env]:=by rfl):PS X (.Assign [tg] e pos) (tAsg te g):=by
 intro Ab s σ H D I h;refine wpAny_Assign_stores (thn (he Ab s σ H _ I h) fun v s1 ⟨x,H1,I1,r1,q1⟩=>?_) hs hw;rw [h1];exact thn (hg Ab s1 σ H1 x v _ I1 r1 q1) fun _ s2 q=>q
theorem qAB {i:Nat} {x:Str} {e:Expr} {te:TE} {pos':Pos} (hN:X.N.Nodup) (hi:X.N[i]?=some x) (hx:Loc X.env.scope x) (he:PE X e te) (hs:swapsWith e (some (.Name x pos')) pos.line X.env=pure false:=by rfl) (hf:X.fn x=true\/X.env.scope.names.lookup x=some .local:=by first | exact .inl rfl | exact .inr rfl | assumption) :
  PS X (.Assign [.Name x pos'] e pos) (tAsg te (qU9 i)):=by
 intro Ab s σ H D I h;refine wpAny_Assign_Name (thn (he Ab s σ H _ I h) fun v s1 ⟨y,H1,I1,r1,q1⟩=>?_) hs;exact qNW I1 hN hi hx r1 (fun s2 I2=>⟨_,H1,I2,q1⟩) hf
end
section
variable {X:Cx} {pos:Pos}
def qXD (c:TT) (tb:TS):TS:=fun D σ H=>∃ W:Nat->St->Hp->Prop,(∃ m,W m σ H)/\∀ m σ H,W m σ H->
 c σ H fun b H1=>if b=true then ∃ N:St->Hp->Prop,(∀ σ' H',N σ' H'->∃ m',m'<m/\W m' σ' H')/\tb { D with nx:=N,ct:=N,bk:=D.nx } σ H1 else D.nx σ H1
theorem qFT {c:Expr} {body:List Stmt} {tc:TT} {tb:TS} (hp:PassesOwn (model X.prog X.w) X.A X.env X.xe) (hc:PT X c tc) (hb:PSs X body tb):PS X (.While c body [] pos) (qXD tc tb):=by
 intro Ab s σ H D I h;obtain ⟨W,⟨m0,w0⟩,turn⟩:=h;refine wpAny_While (codeAny_whileLoop (fun n s'=>∃ σ' H',Inv X Ab σ' H' s'/\W n σ' H') ?_ m0 ⟨σ,H,I,w0⟩);rintro n s1 ⟨σ1,H1,I1,w1⟩;refine wpAny_passesOwn hp (thn (hc Ab s1 σ1 H1 _ I1 (turn n σ1 H1 w1)) fun b s2 ⟨H2,I2,q2⟩=>?_);cases b with
 | true=>
  obtain ⟨N,hN,q2⟩:=q2;rw [if_pos rfl];refine wpAny_passesOwn hp (thn (hb Ab s2 σ1 H2 _ I2 q2) fun f s3 q3=>?_);cases f with
  | next=>
   obtain ⟨σ3,H3,I3,n3⟩:=q3;obtain ⟨m',hm,w3⟩:=hN σ3 H3 n3;exact ⟨m',hm,σ3,H3,I3,w3⟩
  | cont=>
   obtain ⟨σ3,H3,I3,n3⟩:=q3;obtain ⟨m',hm,w3⟩:=hN σ3 H3 n3;exact ⟨m',hm,σ3,H3,I3,w3⟩
  | brk=>exact q3
  | ret v=>exact q3
 | false=>
  rw [if_neg C6];exact wpAny_execs_nil ⟨σ1,H2,I2,q2⟩
end
structure It where
 go:Nat->Hp->Prop
 yld:Nat->Hp->V->Hp->Prop
 stop:Nat->Hp->Prop
def FpOk (X:Cx) (Ab:List (Addr × Obj)) (H:Hp) (b:Addr):Prop:=
 H b=none/\b ≠ X.env.locals/\b ∉ X.fs/\(b ∈ X.ex\/X.s₀.heap.objs.size<=b)/\(∀ x c,X.env.cells.lookup x=some c->c ≠ b)/\∀ p ∈ X.pn++Ab,p.1 ≠ b
theorem Inv.fpOk {X:Cx} {Ab:List (Addr × Obj)} {σ:St} {H H':Hp} {s:Shared} {b:Addr} (I:Inv X Ab σ H s) (hb:s.heap.objs.size<=b) (hn:H' b=none):FpOk X Ab H' b:=by
 refine ⟨hn,n8 (G9 I.lt hb),I.nofs hb,.inr (M6 I.sz hb),fun x c e z=>?_,fun p hp z=>?_⟩
 ·obtain ⟨v,q⟩:=I.cell x c e;exact absurd (G9 q.lt (by rw [z];exact hb)) (c8 _)
 ·exact absurd (G9 (D0 (I.pin p hp).1) (by rw [z];exact hb)) (c8 _)
structure Turn (P:Program) (w:World) (K:PySem.W.Frag) (tg:Expr) (J:It) (fp:List Addr) (it:Addr) (tn:Nat->Heap->Prop):Prop where
 mem:it ∈ fp
 obj:∀ i h,tn i h->∀ b ∈ fp,∃ o,h.get? b=some o/\∀ v,o.data ≠ .cell v
 keep:∀ i h h',tn i h->(∀ b ∈ fp,∀ o,h.get? b=some o->h'.get? b=some o)->tn i h'
 item:∀ (X:Cx),X.prog=P->X.w=w->X.K=K->X.calm=true->∀ (i:Nat) (Ab:List (Addr × Obj)) (s:Shared) (σ:St) (H:Hp) (E:Value->Shared->Prop),Inv X Ab σ H s->(∀ b ∈ fp,FpOk X Ab H b)->tn i s.heap->J.go i H->
  wpAny (model P w) X.A (pyNext (.ref it)) (fun r s1=>∃ u,r=some u/\
   wpAny (model P w) X.A (letOwnedTupleGo tg (.ref it) u) (fun _ s2=>∃ x H',Inv X Ab σ H' s2/\RelV x u/\J.yld i H x H'/\tn (i+1) s2.heap/\∀ b ∈ fp,H' b=none) E s1) E s
 done:∀ (X:Cx),X.prog=P->X.w=w->X.K=K->X.calm=true->∀ (i:Nat) (Ab:List (Addr × Obj)) (s:Shared) (σ:St) (H:Hp) (E:Value->Shared->Prop),Inv X Ab σ H s->(∀ b ∈ fp,FpOk X Ab H b)->tn i s.heap->J.stop i H->
  wpAny (model P w) X.A (pyNext (.ref it)) (fun r s1=>r=none/\Inv X Ab σ H s1) E s
 self:∀ (A:Around) (i:Nat) (s:Shared) (Q:Value->Shared->Prop) (E:Value->Shared->Prop),tn i s.heap->Q (.ref it) s->wpAny (model P w) A (pyIter (.ref it)) Q E s
abbrev TI:=St->Hp->(It->Hp->Prop)->Prop
def PIE (X:Cx) (Ab:List (Addr × Obj)) (σ:St) (tg:Expr) (R:It->Hp->Prop) (itv:Value) (s2:Shared):Prop:=
 ∃ (it:Addr) (fp:List Addr) (tn:Nat->Heap->Prop) (J:It) (H':Hp),itv=.ref it/\Inv X Ab σ H' s2/\Turn X.prog X.w X.K tg J fp it tn/\tn 0 s2.heap/\(∀ b ∈ fp,FpOk X Ab H' b)/\R J H'
def PI (X:Cx) (tg iter:Expr) (wi:TI):Prop:=
 ∀ (Ab:List (Addr × Obj)) (s:Shared) (σ:St) (H:Hp) (R:It->Hp->Prop),Inv X Ab σ H s->wi σ H R->
  wpAny (model X.prog X.w) X.A (eval iter X.env) (fun v s1=>wpAny (model X.prog X.w) X.A (pyIter v) (PIE X Ab σ tg R) X.xe s1) X.xe s
theorem qWQ {M:Model} {A:Around} {E:Value->Shared->Prop} {s:Shared} {tg:Expr} {it:Addr} {u:Value} {o:Obj} {n:String} {vs:Array Value} {Q:Unit->Shared->Prop} (ho:s.heap.get? it=some o) (hc:o.cls=.type n) (hd:o.data=.fields vs)
  (hn:["enumerate","zip","dict_itemiterator","dict_reverseitemiterator","odict_iterator","itertools.zip_longest","itertools.pairwise"].contains n=false) (hQ:Q () s):wpAny M A (letOwnedTupleGo tg (.ref it) u) Q E s:=by
 unfold letOwnedTupleGo;cases tg <;> first
  | exact wpAny_pure hQ
  | (cases u <;> first
    | exact wpAny_pure hQ
    | (refine wpAny_bind (wpAny_load ho ?_)
       rw [hc,hd];show wpAny M A (if (["enumerate","zip","dict_itemiterator","dict_reverseitemiterator","odict_iterator","itertools.zip_longest","itertools.pairwise"].contains n && vs[0]? == some (rawInt _))=true then _ else _) Q E s
       rw [if_neg (by intro h;rw [hn,O7] at h;cases h)]
       exact wpAny_pure hQ))
def Itl (K:PySem.W.Frag) (a:Addr):It:=
 ⟨fun i H=>∃ xs x,SqL K H a xs/\xs[i]?=some x,fun i H x H'=>H'=H/\∀ xs,SqL K H a xs->xs[i]?=some x,fun i H=>∃ xs,SqL K H a xs/\xs.length<=i⟩
def Itt (K:PySem.W.Frag) (a:Addr):It:=
 ⟨fun i H=>∃ xs x,SqT K H a xs/\xs[i]?=some x,fun i H x H'=>H'=H/\∀ xs,SqT K H a xs->xs[i]?=some x,fun i H=>∃ xs,SqT K H a xs/\xs.length<=i⟩
def Itr (lo:Int) (n:Nat):It:=⟨fun i _=>i<n,fun i H x H'=>H'=H/\x=.int (lo+i),fun i _=>n<=i⟩
theorem qQK {P:Program} {w:World} {K:PySem.W.Frag} {tg:Expr} (a it:Addr):Turn P w K tg (Itl K a) [it] it (fun i h=>h.IsListIter it a i) where
 mem:=by simp
 obj:=fun i h st b hb=>by
  have e:b=it:=by simpa using hb
  subst e;obtain ⟨o,e,c,d⟩:=st;exact ⟨o,e,fun v z=>by rw [d] at z;cases z⟩
 keep:=fun i h h' st k=>st.at fun o e=>k it (by simp) o e
 item:=by
  intro X hP hw hK hc i Ab s σ H E I hf st hg;subst hP hw hK;obtain ⟨xs,x,hq,hx⟩:=hg;obtain ⟨its,rv,p,hz⟩:=I.list hq;obtain ⟨u,hu,ru⟩:=rv.get hx;obtain ⟨f0,f1,f2,f3,f4,f5⟩:=hf it (by simp)
  refine wpAny_pyNext_list_item st p.isList (x:=u) (by simpa using hu) fun h' st' sb=>?_
  have I1:Inv X Ab σ H { s with heap:=h' }:=I.turned (t':=s.toks) (fun b o hb e=>(sb.2 b hb).trans e) f0 f1 f3 f4 f5;obtain ⟨o,e,c,d⟩:=id st';exact ⟨u,rfl,qWQ (s:={ s with heap:=h' }) e c d (by decide) ⟨x,H,I1,ru,⟨rfl,fun ys hy=>by rw [I.list_inj hy hq];exact hx⟩,st',fun b hb=>(hf b hb).1⟩⟩
 done:=by
  intro X hP hw hK hc i Ab s σ H E I hf st hg;subst hP hw hK;obtain ⟨xs,hq,hx⟩:=hg;obtain ⟨its,rv,p,hz⟩:=I.list hq;obtain ⟨f0,f1,f2,f3,f4,f5⟩:=hf it (by simp)
  have hl:=rv.length;exact wpAny_pyNext_list_end (I.ok.hd hc) st p.isList (by simp;omega) fun h' eb=>⟨rfl,I.turned (t':=s.toks) (fun b o hb e=>eb b o hb e) f0 f1 f3 f4 f5⟩
 self:=fun _ _ _ _ _ st h=>wpAny_pyIter_listiter st h
theorem qP7 {P:Program} {w:World} {K:PySem.W.Frag} {tg:Expr} (a it:Addr):Turn P w K tg (Itt K a) [it] it (fun i h=>h.IsTupleIter it a i) where
 mem:=by simp
 obj:=fun i h st b hb=>by
  have e:b=it:=by simpa using hb
  subst e;obtain ⟨o,e,c,d⟩:=st;exact ⟨o,e,fun v z=>by rw [d] at z;cases z⟩
 keep:=fun i h h' st k=>st.at fun o e=>k it (by simp) o e
 item:=by
  intro X hP hw hK hc i Ab s σ H E I hf st hg;subst hP hw hK;obtain ⟨xs,x,hq,hx⟩:=hg;obtain ⟨its,rv,p,hz⟩:=I.tuple hq;obtain ⟨u,hu,ru⟩:=rv.get hx;obtain ⟨f0,f1,f2,f3,f4,f5⟩:=hf it (by simp)
  refine wpAny_pyNext_tuple_item st (show s.heap.IsTuple a its.toArray from p) (x:=u) (by simpa using hu) fun h' st' sb=>?_
  have I1:Inv X Ab σ H { s with heap:=h' }:=I.turned (t':=s.toks) (fun b o hb e=>(sb.2 b hb).trans e) f0 f1 f3 f4 f5;obtain ⟨o,e,c,d⟩:=id st';exact ⟨u,rfl,qWQ (s:={ s with heap:=h' }) e c d (by decide) ⟨x,H,I1,ru,⟨rfl,fun ys hy=>by rw [I.tuple_inj hy hq];exact hx⟩,st',fun b hb=>(hf b hb).1⟩⟩
 done:=by
  intro X hP hw hK hc i Ab s σ H E I hf st hg;subst hP hw hK;obtain ⟨xs,hq,hx⟩:=hg;obtain ⟨its,rv,p,hz⟩:=I.tuple hq;obtain ⟨f0,f1,f2,f3,f4,f5⟩:=hf it (by simp)
  have hl:=rv.length;exact wpAny_pyNext_tuple_end (I.ok.hd hc) st (show s.heap.IsTuple a its.toArray from p) (by simp;omega) fun h' eb=>⟨rfl,I.turned (t':=s.toks) (fun b o hb e=>eb b o hb e) f0 f1 f3 f4 f5⟩
 self:=fun _ _ _ _ _ st h=>wpAny_pyIter_tupleiter st h
theorem qP8 {P:Program} {w:World} {K:PySem.W.Frag} {tg:Expr} (it:Addr) (lo:Int) (n:Nat):Turn P w K tg (Itr lo n) [it] it (fun i h=>IsRangeIter h it (lo+(i:Nat) * 1) ((n:Int) - (i:Nat)) 1) where
 mem:=by simp
 obj:=fun i h st b hb=>by
  have e:b=it:=by simpa using hb
  subst e;exact ⟨_,st,fun v z=>by
   have z':B00 _=A71 v:=z;cases z'⟩
 keep:=fun i h h' st k=>k it (by simp) _ st
 item:=by
  intro X hP hw hK hc i Ab s σ H E I hf st hg;subst hP hw hK;obtain ⟨f0,f1,f2,f3,f4,f5⟩:=hf it (by simp)
  have W:=Walks.range (prog:=X.prog) (w:=X.w) (I.ok.hd hc) it lo 1 n;refine W.item i s _ _ hg st fun v h' tk hv st' kk=>?_;obtain ⟨t,rfl⟩:=hv;have I1:Inv X Ab σ H { s with heap:=h',toks:=tk }:=I.turned (fun b o hb e=>kk b o (by simpa using hb) e) f0 f1 f3 f4 f5
  refine ⟨_,rfl,qWQ (s:={ s with heap:=h',toks:=tk }) (n:="range_iterator") st' rfl rfl (by decide) ⟨.int (lo+i),H,I1,⟨t,?_⟩,⟨rfl,rfl⟩,st',fun b hb=>(hf b hb).1⟩⟩
  rw [Int.mul_one]
 done:=by
  intro X hP hw hK hc i Ab s σ H E I hf st hg;subst hP hw hK;obtain ⟨f0,f1,f2,f3,f4,f5⟩:=hf it (by simp)
  exact wpAny_pyNext_range_end (I.ok.hd hc) st (by have:n<=i:=hg;omega) fun h' eb=>⟨rfl,I.turned (t':=s.toks) (fun b o hb e=>eb b o hb e) f0 f1 f3 f4 f5⟩
 self:=fun _ _ _ _ _ st h=>wpAny_pyIter_rangeiter st h
end L2
namespace L2
open PySem PySem.Spec PyProof.Rows
section
variable {X:Cx} {tg:Expr}
def qZR (K:PySem.W.Frag) (tl:TE):TI:=fun σ H R=>tl σ H fun x H1=>∃ a,x=.ref a/\(∃ xs,SqL K H1 a xs)/\R (Itl K a) H1
def iTup (K:PySem.W.Frag) (tl:TE):TI:=fun σ H R=>tl σ H fun x H1=>∃ a,x=.ref a/\(∃ xs,SqT K H1 a xs)/\R (Itt K a) H1
theorem qGK {l:Expr} {tl:TE} (hl:PE X l tl):PI X tg l (qZR X.K tl):=by
 intro Ab s σ H R I h;refine thn (hl Ab s σ H _ I h) fun v s1 ⟨x,H1,I1,r1,q1⟩=>?_;obtain ⟨a,e,⟨xs,hq⟩,q⟩:=q1;subst e;cases r1;obtain ⟨its,rv,p,hz⟩:=I1.list hq;refine wpAny_pyIter_list p.isList ?_;refine ⟨s1.heap.objs.size,[s1.heap.objs.size],_,_,H1,rfl,I1.kept (t':=s1.toks) fun b o e=>B8 _ e,qQK a _,⟨_,D4 _ rfl,rfl,rfl⟩,fun b hb=>?_,q⟩;have e:b=s1.heap.objs.size:=by simpa using hb
 subst e;exact I1.fpOk (C1 _) (I1.hok.fresh (C1 _))
theorem qD6 {l:Expr} {tl:TE} (hl:PE X l tl):PI X tg l (iTup X.K tl):=by
 intro Ab s σ H R I h;refine thn (hl Ab s σ H _ I h) fun v s1 ⟨x,H1,I1,r1,q1⟩=>?_;obtain ⟨a,e,⟨xs,hq⟩,q⟩:=q1;subst e;cases r1;obtain ⟨its,rv,p,hz⟩:=I1.tuple hq;refine wpAny_pyIter_tuple (show s1.heap.IsTuple a its.toArray from p) ?_;refine ⟨s1.heap.objs.size,[s1.heap.objs.size],_,_,H1,rfl,I1.kept (t':=s1.toks) fun b o e=>B8 _ e,qP7 a _,⟨_,D4 _ rfl,rfl,rfl⟩,fun b hb=>?_,q⟩;have e:b=s1.heap.objs.size:=by simpa using hb
 subst e;exact I1.fpOk (C1 _) (I1.hok.fresh (C1 _))
theorem range_it {Ab:List (Addr × Obj)} {σ:St} {H:Hp} {s:Shared} {R:It->Hp->Prop} {E:Value->Shared->Prop} {lo hi:Int} {t u v:Tok} {tk:Nat} (I:Inv X Ab σ H s) (h1 : -(2 ^ 62)<=lo) (h2:lo<2 ^ 62) (h3 : -(2 ^ 62)<=hi) (h4:hi<2 ^ 62)
  (q:R (Itr lo (hi - lo).toNat) H):wpAny (model X.prog X.w) X.A (pyIter (.ref s.heap.objs.size)) (PIE X Ab σ tg R) E { s with heap:=s.heap.push { cls:=.type "range",data:=.fields #[.int lo t,.int hi u,.int 1 v] },toks:=tk }:=by
 refine wpAny_pyIter_range (IsRange.new ..) (small_one h1 h2 h3 h4) ?_;have I1:Inv X Ab σ H { s with heap:=s.heap.push { cls:=.type "range",data:=.fields #[.int lo t,.int hi u,.int 1 v] },toks:=tk }:=I.kept fun b o e=>B8 _ e;refine ⟨(s.heap.push { cls:=.type "range",data:=.fields #[.int lo t,.int hi u,.int 1 v] }).objs.size,[(s.heap.push { cls:=.type "range",data:=.fields #[.int lo t,.int hi u,.int 1 v] }).objs.size],_,_,H,rfl,
  I1.kept (t':=tk) fun b o e=>B8 _ e,qP8 _ lo (hi - lo).toNat,?_,fun b hb=>?_,q⟩
 ·have e1:lo+((0:Nat):Int) * 1=lo:=by simp
  have e2:(((hi - lo).toNat:Nat):Int) - ((0:Nat):Int)=d3 lo hi 1:=by rw [rangeSize_one];split <;> omega
  show IsRangeIter _ _ (lo+((0:Nat):Int) * 1) ((((hi - lo).toNat:Nat):Int) - ((0:Nat):Int)) 1;rw [e1,e2];exact D4 _ rfl
 ·have e:b=(s.heap.push { cls:=.type "range",data:=.fields #[.int lo t,.int hi u,.int 1 v] }).objs.size:=by simpa using hb
  subst e;exact I1.fpOk (C1 _) (I1.hok.fresh (C1 _))
def qZQ (ta:TA):TI:=fun σ H R=>ta σ H fun vs H1=>∃ j:Int,vs=[.int j]/\-(2 ^ 62)<=j/\j<2 ^ 62/\R (Itr 0 j.toNat) H1
theorem qCD {a:Expr} {ta:TA} {p pos:Pos} (hg:Gl X "range") (hm:X.mg "range" = none) (ha:PA X [a] ta) (hs:starEach [a] X.env=[(false,eval a X.env)]:=by rfl):PI X tg (.Call (.Name "range" p) [a] [] pos) (qZQ ta):=by
 intro Ab s σ H R I h;refine Call_ (qIE I hg hm boot_range (T5 (thn (ha pos Ab s σ H _ I h) fun us s1 ⟨vs,H1,I1,r1,q1⟩=>?_) hs rfl));obtain ⟨j,e,q1,q2,q⟩:=q1;subst e;cases r1 with
 | cons r rr=>
  cases rr;obtain ⟨t,rfl⟩:=r;exact call_range_1 (range_it I1 (by omega) (by omega) q1 q2 (by simpa using q))
def tFor (wi:TI) (g:TG) (tb:TS):TS:=fun D σ H=>wi σ H fun J H1=>∃ W:Nat->Nat->St->Hp->Prop,(∃ m,W 0 m σ H1)/\∀ i m σ H,W i m σ H->
 (J.stop i H/\D.nx σ H)\/(J.go i H/\∃ N:St->Hp->Prop,(∀ σ' H',N σ' H'->∃ m',m'<m/\W (i+1) m' σ' H')/\∀ x H',J.yld i H x H'->g x σ H' fun σ2 H2=>tb { D with nx:=N,ct:=N,bk:=D.nx } σ2 H2)
def qL9 (fp:List Addr) (h:Heap):List (Addr × Obj):=fp.filterMap fun b=>(h.get? b).map fun o=>(b,o)
theorem qEX {fp:List Addr} {h:Heap} {b:Addr} {o:Obj} (hb:b ∈ fp) (e:h.get? b=some o):(b,o) ∈ qL9 fp h:=i5.mpr ⟨b,hb,by rw [e];rfl⟩
theorem qRA {fp:List Addr} {h:Heap} {p:Addr × Obj} (hp:p ∈ qL9 fp h):p.1 ∈ fp/\h.get? p.1=some p.2:=by
 obtain ⟨b,hb,e⟩:=i5.mp hp;cases q:h.get? b with
 | none=>rw [q] at e;cases e
 | some o=>
  rw [q] at e;have e':(b,o)=p:=L9 e;subst e';exact ⟨hb,q⟩
theorem Inv.pinned {Ab:List (Addr × Obj)} {σ:St} {H:Hp} {s:Shared} {fp:List Addr} (I:Inv X Ab σ H s) (hf:∀ b ∈ fp,FpOk X Ab H b) (ho:∀ b ∈ fp,∃ o,s.heap.get? b=some o/\∀ v,o.data ≠ .cell v):Inv X (Ab++qL9 fp s.heap) σ H s:=
 I.pins_of fun p hp=>(C8.mp hp).elim (fun z=>I.pin p (J6 _ z)) fun z=>by
  obtain ⟨hb,e⟩:=qRA z;obtain ⟨f0,f1,f2,_⟩:=hf p.1 hb;obtain ⟨o,e',d⟩:=ho p.1 hb;rw [e] at e';cases e';exact ⟨e,f0,f1,f2,d⟩
theorem Inv.unpinned {Ab pl:List (Addr × Obj)} {σ:St} {H:Hp} {s:Shared} (I:Inv X (Ab++pl) σ H s):Inv X Ab σ H s:=I.pins_of fun p hp=>I.pin p (J6 _ (T6 _ hp))
theorem qCK {iter:Expr} {body:List Stmt} {wi:TI} {g:TG} {tb:TS} {pos:Pos} (hp:PassesOwn (model X.prog X.w) X.A X.env X.xe) (hc:X.calm=true) (hi:PI X tg iter wi) (hg:PG X tg g) (hb:PSs X body tb)
  (hs:∀ x,foldedSetIterable iter X.env x=pure x:=by intro _;rfl):PS X (.For tg iter body [] pos) (tFor wi g tb):=by
 intro Ab s σ H D I h;refine wpAny_For (thn (hi Ab s σ H _ I h) fun v s1 h1=>thn h1 fun itv s2 h2=>?_) hs;obtain ⟨it,fp,tn,J,H2,e,I2,T,st2,f2,W,⟨m0,w0⟩,turn⟩:=h2;subst e
 -- what stays true of the iterator's objects through the loop
 have stat:∀ {H':Hp},(∀ b ∈ fp,H' b=none)->∀ b ∈ fp,FpOk X Ab H' b:=fun hn b hb=>⟨hn b hb,(f2 b hb).2⟩;refine codeAny_forLoop_any (fun n s'=>∃ i σ' H',Inv X Ab σ' H' s'/\tn i s'.heap/\(∀ b ∈ fp,H' b=none)/\W i n σ' H') ?_ m0 ⟨0,σ,H2,I2,st2,fun b hb=>(f2 b hb).1,w0⟩;rintro n s3 ⟨i,σ3,H3,I3,st3,fr3,w3⟩;rcases turn i n σ3 H3 w3 with ⟨stop,qn⟩ | ⟨go,N,hN,step⟩
 ·refine wpAny_passesOwn hp (thn (T.done X rfl rfl rfl hc i Ab s3 σ3 H3 X.xe I3 (stat fr3) st3 stop) fun r s4 ⟨hr,I4⟩=>?_);subst hr;exact wpAny_execs_nil ⟨σ3,H3,I4,qn⟩
 ·refine wpAny_passesOwn hp (thn (T.item X rfl rfl rfl hc i Ab s3 σ3 H3 X.xe I3 (stat fr3) st3 go) fun r s4 ⟨u,hr,h4⟩=>?_);subst hr;refine wpAny_passesOwn hp (thn h4 fun _ s5 ⟨x,H5,I5,r5,y5,st5,fr5⟩=>?_);have I5':=I5.pinned (stat fr5) (T.obj _ _ st5);refine wpAny_passesOwn hp (thn (hg _ s5 σ3 H5 x u _ I5' r5 (step x H5 y5)) fun _ s6 ⟨σ6,H6,I6,q6⟩=>?_);refine wpAny_passesOwn hp (thn (hb _ s6 σ6 H6 _ I6 q6) fun f s7 q7=>?_);have again:∀ {σ7:St} {H7:Hp},Inv X (Ab++qL9 fp s5.heap) σ7 H7 s7->N σ7 H7->∃ m,m<n/\∃ i σ' H',Inv X Ab σ' H' s7/\tn i s7.heap/\(∀ b ∈ fp,H' b=none)/\W i m σ' H':=fun {σ7 H7} I7 n7=>by
   obtain ⟨m',hm,w7⟩:=hN σ7 H7 n7;refine ⟨m',hm,i+1,σ7,H7,I7.unpinned,T.keep _ _ _ st5 fun b hb o e=>(I7.pin (b,o) (J6 _ (J6 _ (qEX hb e)))).1,fun b hb=>?_,w7⟩;obtain ⟨o,e,d⟩:=T.obj _ _ st5 b hb;exact (I7.pin (b,o) (J6 _ (J6 _ (qEX hb e)))).2.1
  cases f with
  | next=>obtain ⟨σ7,H7,I7,n7⟩:=q7;exact again I7 n7
  | cont=>obtain ⟨σ7,H7,I7,n7⟩:=q7;exact again I7 n7
  | brk=>obtain ⟨σ7,H7,I7,q7⟩:=q7;exact ⟨σ7,H7,I7.unpinned,q7⟩
  | ret v=>obtain ⟨x7,σ7,H7,I7,r7,q7⟩:=q7;exact ⟨x7,σ7,H7,I7.unpinned,r7,q7⟩
end
theorem qK8 {K:PySem.W.Frag} {a:Addr} {xs:List V} {g:TG} {tb:TS} {D:Ends} {σ:St} {H:Hp} (Pv:Nat->St->Hp->Prop) (h0:Pv 0 σ H) (hl:∀ i σ H,i<=xs.length->Pv i σ H->SqL K H a xs)
  (hs:∀ i x σ H,xs[i]?=some x->Pv i σ H->g x σ H fun σ2 H2=>tb { D with nx:=Pv (i+1),ct:=Pv (i+1),bk:=D.nx } σ2 H2) (hd:∀ σ H,Pv xs.length σ H->D.nx σ H) :
  ∃ W:Nat->Nat->St->Hp->Prop,(∃ m,W 0 m σ H)/\∀ i m σ H,W i m σ H->
   ((Itl K a).stop i H/\D.nx σ H)\/((Itl K a).go i H/\∃ N:St->Hp->Prop,(∀ σ' H',N σ' H'->∃ m',m'<m/\W (i+1) m' σ' H')/\∀ x H',(Itl K a).yld i H x H'->g x σ H' fun σ2 H2=>tb { D with nx:=N,ct:=N,bk:=D.nx } σ2 H2):=by
 refine ⟨fun i m σ H=>m=xs.length - i/\i<=xs.length/\Pv i σ H,⟨xs.length,by simp,G5 _,h0⟩,?_⟩
 rintro i m σ H ⟨rfl,hi,p⟩;have q:=hl i σ H hi p;by_cases hlt:i<xs.length
 ·refine .inr ⟨⟨xs,xs[i],q,by simp [hlt]⟩,Pv (i+1),fun σ' H' p'=>⟨xs.length - (i+1),by omega,rfl,hlt,p'⟩,fun x H' y=>?_⟩
  obtain ⟨e,y⟩:=y;subst e;exact hs i x σ _ (y xs q) p
 ·have e:i=xs.length:=by omega
  subst e;exact .inl ⟨⟨xs,q,C1 _⟩,hd σ H p⟩
theorem qGQ {K:PySem.W.Frag} {a:Addr} {xs:List V} {g:TG} {tb:TS} {D:Ends} {σ:St} {H:Hp} (Pv:Nat->St->Hp->Prop) (h0:Pv 0 σ H) (hl:∀ i σ H,i<=xs.length->Pv i σ H->SqT K H a xs)
  (hs:∀ i x σ H,xs[i]?=some x->Pv i σ H->g x σ H fun σ2 H2=>tb { D with nx:=Pv (i+1),ct:=Pv (i+1),bk:=D.nx } σ2 H2) (hd:∀ σ H,Pv xs.length σ H->D.nx σ H) :
  ∃ W:Nat->Nat->St->Hp->Prop,(∃ m,W 0 m σ H)/\∀ i m σ H,W i m σ H->
   ((Itt K a).stop i H/\D.nx σ H)\/((Itt K a).go i H/\∃ N:St->Hp->Prop,(∀ σ' H',N σ' H'->∃ m',m'<m/\W (i+1) m' σ' H')/\∀ x H',(Itt K a).yld i H x H'->g x σ H' fun σ2 H2=>tb { D with nx:=N,ct:=N,bk:=D.nx } σ2 H2):=by
 refine ⟨fun i m σ H=>m=xs.length - i/\i<=xs.length/\Pv i σ H,⟨xs.length,by simp,G5 _,h0⟩,?_⟩
 rintro i m σ H ⟨rfl,hi,p⟩;have q:=hl i σ H hi p;by_cases hlt:i<xs.length
 ·refine .inr ⟨⟨xs,xs[i],q,by simp [hlt]⟩,Pv (i+1),fun σ' H' p'=>⟨xs.length - (i+1),by omega,rfl,hlt,p'⟩,fun x H' y=>?_⟩
  obtain ⟨e,y⟩:=y;subst e;exact hs i x σ _ (y xs q) p
 ·have e:i=xs.length:=by omega
  subst e;exact .inl ⟨⟨xs,q,C1 _⟩,hd σ H p⟩
theorem qG5 {lo:Int} {n:Nat} {g:TG} {tb:TS} {D:Ends} {σ:St} {H:Hp} (Pv:Nat->St->Hp->Prop) (h0:Pv 0 σ H)
  (hs:∀ i σ H,i<n->Pv i σ H->g (.int (lo+i)) σ H fun σ2 H2=>tb { D with nx:=Pv (i+1),ct:=Pv (i+1),bk:=D.nx } σ2 H2) (hd:∀ σ H,Pv n σ H->D.nx σ H) :
  ∃ W:Nat->Nat->St->Hp->Prop,(∃ m,W 0 m σ H)/\∀ i m σ H,W i m σ H->
   ((Itr lo n).stop i H/\D.nx σ H)\/((Itr lo n).go i H/\∃ N:St->Hp->Prop,(∀ σ' H',N σ' H'->∃ m',m'<m/\W (i+1) m' σ' H')/\∀ x H',(Itr lo n).yld i H x H'->g x σ H' fun σ2 H2=>tb { D with nx:=N,ct:=N,bk:=D.nx } σ2 H2):=by
 refine ⟨fun i m σ H=>m=n - i/\i<=n/\Pv i σ H,⟨n,by simp,G5 _,h0⟩,?_⟩
 rintro i m σ H ⟨rfl,hi,p⟩;by_cases hlt:i<n
 ·refine .inr ⟨hlt,Pv (i+1),fun σ' H' p'=>⟨n - (i+1),by omega,rfl,hlt,p'⟩,fun x H' y=>?_⟩
  obtain ⟨e,y⟩:=y;subst e y;exact hs i σ _ hlt p
 ·have e:i=n:=by omega
  subst e;exact .inl ⟨C1 _,hd σ H p⟩
end L2
namespace L2
open PySem PySem.Spec PyProof.Rows
abbrev R2:=V->V->Hp->VK->Prop
def OpR (X:Cx) (f:Value->Value->Sem Value) (r:R2):Prop:=
 ∀ (Ab:List (Addr × Obj)) (s:Shared) (σ:St) (H:Hp) (x y:V) (v u:Value) (Q:VK),Inv X Ab σ H s->RelV x v->RelV y u->r x y H Q->
  wpAny (model X.prog X.w) X.A (f v u) (EP X Ab σ Q) X.xe s
def UnR (X:Cx) (f:Value->Sem Value) (r:V->Hp->VK->Prop):Prop:=
 ∀ (Ab:List (Addr × Obj)) (s:Shared) (σ:St) (H:Hp) (x:V) (v:Value) (Q:VK),Inv X Ab σ H s->RelV x v->r x H Q->
  wpAny (model X.prog X.w) X.A (f v) (EP X Ab σ Q) X.xe s
def qCI (X:Cx) (f:Value) (r:List V->Hp->VK->Prop):Prop:=
 ∀ (Ab:List (Addr × Obj)) (s:Shared) (σ:St) (H:Hp) (xs:List V) (us:List Value) (Q:VK),Inv X Ab σ H s->Vals xs us->r xs H Q->
  wpAny (model X.prog X.w) X.A (call f us) (EP X Ab σ Q) X.xe s
def TruR (X:Cx) (r:V->Hp->(Bool->Hp->Prop)->Prop):Prop:=
 ∀ (Ab:List (Addr × Obj)) (s:Shared) (σ:St) (H:Hp) (x:V) (v:Value) (Q:Bool->Hp->Prop),Inv X Ab σ H s->RelV x v->r x H Q->
  wpAny (model X.prog X.w) X.A (truthy v) (TP X Ab σ Q) X.xe s
def tOp (r:R2) (ta tb:TE):TE:=fun σ H Q=>ta σ H fun x H1=>tb σ H1 fun y H2=>r x y H2 Q
def tUn (r:V->Hp->VK->Prop) (ta:TE):TE:=fun σ H Q=>ta σ H fun x H1=>r x H1 Q
def rI (C:Int->Int->Prop) (g:Int->Int->V):R2:=fun x y H Q=>∃ i j,x=.int i/\y=.int j/\C i j/\Q (g i j) H
def rI0 (g:Int->Int->V):R2:=fun x y H Q=>∃ i j,x=.int i/\y=.int j/\Q (g i j) H
def rU (g:Int->V):V->Hp->VK->Prop:=fun x H Q=>∃ i,x=.int i/\Q (g i) H
section
variable {X:Cx} {a b c:Expr} {ta tb tc:TE} {pos:Pos}
theorem binT (ha:PE X a ta) (hb:PE X b tb) {Ab:List (Addr × Obj)} {s:Shared} {σ:St} {H:Hp} {R:V->V->Hp->Prop} (I:Inv X Ab σ H s)
  (h:ta σ H fun x H1=>tb σ H1 fun y H2=>R x y H2) {Q:Value->Shared->Prop} {f:Value->Value->Sem Value}
  (hf:∀ v u s2 x y H2,Inv X Ab σ H2 s2->RelV x v->RelV y u->R x y H2->wpAny (model X.prog X.w) X.A (f v u) Q X.xe s2) :
  wpAny (model X.prog X.w) X.A (eval a X.env) (fun v s₁=>wpAny (model X.prog X.w) X.A (eval b X.env) (fun u s₂=>wpAny (model X.prog X.w) X.A (f v u) Q X.xe s₂) X.xe s₁) X.xe s:=by
 refine thn (ha Ab s σ H _ I h) fun v s1 ⟨x,H1,I1,r1,q1⟩=>?_;refine thn (hb Ab s1 σ H1 _ I1 q1) fun u s2 ⟨y,H2,I2,r2,q2⟩=>?_;exact hf v u s2 x y H2 I2 r1 r2 q2
theorem qAD {op:Operator} {r:R2} (ho:OpR X (binaryOp op) r) (ha:PE X a ta) (hb:PE X b tb):PE X (.BinOp a op b pos) (tOp r ta tb):=by
 intro Ab s σ H Q I h;exact wpAny_BinOp (binT ha hb I h fun v u s2 x y H2 I2 rx ry q=>ho Ab s2 σ H2 x y v u Q I2 rx ry q)
theorem qLB {op:UnaryOp} {r:V->Hp->VK->Prop} (ho:UnR X (unaryOp op) r) (ha:PE X a ta):PE X (.UnaryOp op a pos) (tUn r ta):=by
 intro Ab s σ H Q I h;exact UnaryOp_ (thn (ha Ab s σ H _ I h) fun v s1 ⟨x,H1,I1,r1,q1⟩=>ho Ab s1 σ H1 x v Q I1 r1 q1)
theorem opI {f:Value->Value->Sem Value} {C:Int->Int->Prop} {g:Int->Int->Int}
  (rule:∀ (i j:Int) (t u:Tok) (s:Shared) (Q:Value->Shared->Prop) (E:Value->Shared->Prop),C i j->Q (.int (g i j) s.toks) { s with toks:=s.toks+1 }->wpAny (model X.prog X.w) X.A (f (.int i t) (.int j u)) Q E s) :
  OpR X f (rI C fun i j=>.int (g i j)):=by
 intro Ab s σ H x y v u Q I rx ry h;obtain ⟨i,j,rfl,rfl,hc,q⟩:=h;obtain ⟨t,rfl⟩:=rx;obtain ⟨t',rfl⟩:=ry;exact rule i j t t' s _ _ hc ⟨.int (g i j),H,I.tok _,⟨_,rfl⟩,q⟩
theorem opI0 {f:Value->Value->Sem Value} {g:Int->Int->Int}
  (rule:∀ (i j:Int) (t u:Tok) (s:Shared) (Q:Value->Shared->Prop) (E:Value->Shared->Prop),Q (.int (g i j) s.toks) { s with toks:=s.toks+1 }->wpAny (model X.prog X.w) X.A (f (.int i t) (.int j u)) Q E s) :
  OpR X f (rI0 fun i j=>.int (g i j)):=by
 intro Ab s σ H x y v u Q I rx ry h;obtain ⟨i,j,rfl,rfl,q⟩:=h;obtain ⟨t,rfl⟩:=rx;obtain ⟨t',rfl⟩:=ry;exact rule i j t t' s _ _ ⟨.int (g i j),H,I.tok _,⟨_,rfl⟩,q⟩
theorem opB0 {f:Value->Value->Sem Value} {g:Int->Int->Bool}
  (rule:∀ (i j:Int) (t u:Tok) (s:Shared) (Q:Value->Shared->Prop) (E:Value->Shared->Prop),Q (.bool (g i j)) s->wpAny (model X.prog X.w) X.A (f (.int i t) (.int j u)) Q E s) :
  OpR X f (rI0 fun i j=>.bl (g i j)):=by
 intro Ab s σ H x y v u Q I rx ry h;obtain ⟨i,j,rfl,rfl,q⟩:=h;obtain ⟨t,rfl⟩:=rx;obtain ⟨t',rfl⟩:=ry;exact rule i j t t' s _ _ ⟨.bl (g i j),H,I,rfl,q⟩
def CDiv (i j:Int):Prop:=0<j/\j<1073741824
def CPow (i j:Int):Prop:=0<=j/\j<=1000000/\i.natAbs<2 ^ 64
def CMul (i j:Int):Prop:=(-(2 ^ 64)<i/\i<2 ^ 64)\/(-(2 ^ 64)<j/\j<2 ^ 64)
theorem CMul.ok {i j:Int} (h:CMul i j):IntMulOk i j:=by
 rcases h with ⟨h1,h2⟩ | ⟨h1,h2⟩
 ·exact .of_left (intBits_le_64 h1 h2)
 ·exact .of_right (intBits_le_64 h1 h2)
theorem qCY:OpR X (binaryOp .Add) (rI0 fun i j=>.int (i+j)):=opI0 fun _ _ _ _ _ _ _ q=>add_int q
theorem qEE:OpR X (binaryOp .Sub) (rI0 fun i j=>.int (i - j)):=opI0 fun _ _ _ _ _ _ _ q=>sub_int q
theorem qD7:OpR X (binaryOp .Mult) (rI CMul fun i j=>.int (i * j)):=opI fun _ _ _ _ _ _ _ hc q=>mul_int q hc.ok
theorem qIB:OpR X (binaryOp .FloorDiv) (rI CDiv fun i j=>.int (i / j)):=opI fun i j _ _ _ _ _ hc q=>by
 have h1:(0:Int)<j:=hc.1;have h2:j<1073741824:=hc.2;exact floordiv_int (by omega) (by rw [A21 i (by omega)];exact q) (.inl (A62 (by omega)))
theorem qIA:OpR X (binaryOp .Mod) (rI (fun _ j=>0<j) fun i j=>.int (i % j)):=opI fun i j _ _ _ _ _ hc q=>by
 have h1:(0:Int)<j:=hc;exact mod_int' (by omega) (by rw [A22 i (by omega)];exact q)
theorem qY2:OpR X (binaryOp .Pow) (rI CPow fun i j=>.int (i ^ j.toNat)):=opI fun _ _ _ _ _ _ _ hc q=>pow_int_small hc.1 hc.2.1 hc.2.2 q
theorem unI {f:Value->Sem Value} {g:Int->Int}
  (rule:∀ (i:Int) (t:Tok) (s:Shared) (Q:Value->Shared->Prop) (E:Value->Shared->Prop),Q (.int (g i) s.toks) { s with toks:=s.toks+1 }->wpAny (model X.prog X.w) X.A (f (.int i t)) Q E s) :
  UnR X f (rU fun i=>.int (g i)):=by
 intro Ab s σ H x v Q I rx h;obtain ⟨i,rfl,q⟩:=h;obtain ⟨t,rfl⟩:=rx;exact rule i t s _ _ ⟨.int (g i),H,I.tok _,⟨_,rfl⟩,q⟩
theorem qGZ:UnR X (unaryOp .USub) (rU fun i=>.int (-i)):=unI fun _ _ _ _ _ q=>neg_int q
end
def scal:V->V->Bool
 | .non,.non=>true | .non,.int _=>true | .int _,.non=>true | .non,.bl _=>true | .bl _,.non=>true | .non,.str _=>true | .str _,.non=>true
 | .int _,.int _=>true | .bl _,.bl _=>true | .str _,.str _=>true | .byt _,.byt _=>true
 | .int _,.str _=>true | .str _,.int _=>true | .bl _,.str _=>true | .str _,.bl _=>true
 | _,_=>false
def rEq:R2:=fun x y H Q=>scal x y=true/\Q (.bl (decide (x=y))) H
def rNe:R2:=fun x y H Q=>scal x y=true/\Q (.bl (!decide (x=y))) H
theorem qSD {i j:Int}:decide (V.int i=V.int j)=(i == j):=by
 rw [V6];simp
theorem qVF {i j:Bool}:decide (V.bl i=V.bl j)=(i == j):=by
 rw [V6];simp
theorem qSC {i j:Str}:decide (V.str i=V.str j)=(i == j):=by
 rw [V6];simp
theorem qSE {i j:Array UInt8}:decide (V.byt i=V.byt j)=(i.toList == j.toList):=by
 rw [V6];cases i;cases j;simp
section
variable {X:Cx} {a b c:Expr} {ta tb tc:TE} {pos:Pos}
theorem qB0 {Ab:List (Addr × Obj)} {σ:St} {H:Hp} {s:Shared} {Q:VK} {k k':Bool} (I:Inv X Ab σ H s) (q:Q (.bl k) H) (e:k=k'):EP X Ab σ Q (.bool k') s:=by
 subst e;exact ⟨.bl k,H,I,rfl,q⟩
theorem qGO:OpR X (compareOp .Eq) rEq:=by
 intro Ab s σ H x y v u Q I rx ry h;obtain ⟨hs,q⟩:=h;cases x with
 | non=>
  cases rx;cases y with
  | non=>cases ry;exact PySem.EqNone.eq_none_none (qB0 I q (by simp))
  | bl j=>cases ry;exact PySem.EqNone.eq_none_bool (qB0 I q (by simp))
  | int j=>obtain ⟨t',rfl⟩:=ry;exact PySem.EqNone.eq_none_int (qB0 I q (by simp))
  | str j=>obtain ⟨t',rfl⟩:=ry;exact PySem.EqNone.eq_none_str (qB0 I q (by simp))
  | _=>exact absurd (show false=true from hs) C6
 | bl i=>
  cases rx;cases y with
  | non=>cases ry;exact PySem.EqNone.eq_bool_none (qB0 I q (by simp))
  | bl j=>cases ry;exact eq_bool (qB0 I q qVF)
  | str j=>obtain ⟨t',rfl⟩:=ry;exact PySem.EqMixed.eq_bool_str (qB0 I q (by simp))
  | _=>exact absurd (show false=true from hs) C6
 | int i=>
  obtain ⟨t,rfl⟩:=rx;cases y with
  | non=>cases ry;exact PySem.EqNone.eq_int_none (qB0 I q (by simp))
  | int j=>obtain ⟨t',rfl⟩:=ry;exact eq_int (qB0 I q qSD)
  | str j=>obtain ⟨t',rfl⟩:=ry;exact PySem.EqMixed.eq_int_str (qB0 I q (by simp))
  | _=>exact absurd (show false=true from hs) C6
 | str i=>
  obtain ⟨t,rfl⟩:=rx;cases y with
  | non=>cases ry;exact PySem.EqNone.eq_str_none (qB0 I q (by simp))
  | bl j=>cases ry;exact PySem.EqMixed.eq_str_bool (qB0 I q (by simp))
  | int j=>obtain ⟨t',rfl⟩:=ry;exact PySem.EqMixed.eq_str_int (qB0 I q (by simp))
  | str j=>obtain ⟨t',rfl⟩:=ry;exact eq_str (qB0 I q qSC)
  | _=>exact absurd (show false=true from hs) C6
 | byt i=>
  obtain ⟨t,rfl⟩:=rx;cases y with
  | byt j=>obtain ⟨t',rfl⟩:=ry;exact PySem.W.eq_bytes (qB0 I q qSE)
  | _=>exact absurd (show false=true from hs) C6
 | _=>cases y <;> exact absurd (show false=true from hs) C6
theorem qY3:OpR X (compareOp .NotEq) rNe:=by
 intro Ab s σ H x y v u Q I rx ry h;obtain ⟨hs,q⟩:=h;cases x with
 | non=>
  cases rx;cases y with
  | non=>cases ry;exact PySem.EqNone.ne_none_none (qB0 I q (by simp))
  | bl j=>cases ry;exact PySem.EqNone.ne_none_bool (qB0 I q (by simp))
  | int j=>obtain ⟨t',rfl⟩:=ry;exact PySem.EqNone.ne_none_int (qB0 I q (by simp))
  | str j=>obtain ⟨t',rfl⟩:=ry;exact PySem.EqNone.ne_none_str (qB0 I q (by simp))
  | _=>exact absurd (show false=true from hs) C6
 | bl i=>
  cases rx;cases y with
  | non=>cases ry;exact PySem.EqNone.ne_bool_none (qB0 I q (by simp))
  | bl j=>cases ry;exact ne_bool (qB0 I q (congrArg not qVF))
  | str j=>obtain ⟨t',rfl⟩:=ry;exact PySem.EqMixed.ne_bool_str (qB0 I q (by simp))
  | _=>exact absurd (show false=true from hs) C6
 | int i=>
  obtain ⟨t,rfl⟩:=rx;cases y with
  | non=>cases ry;exact PySem.EqNone.ne_int_none (qB0 I q (by simp))
  | int j=>obtain ⟨t',rfl⟩:=ry;exact ne_int (qB0 I q (congrArg not qSD))
  | str j=>obtain ⟨t',rfl⟩:=ry;exact PySem.EqMixed.ne_int_str (qB0 I q (by simp))
  | _=>exact absurd (show false=true from hs) C6
 | str i=>
  obtain ⟨t,rfl⟩:=rx;cases y with
  | non=>cases ry;exact PySem.EqNone.ne_str_none (qB0 I q (by simp))
  | bl j=>cases ry;exact PySem.EqMixed.ne_str_bool (qB0 I q (by simp))
  | int j=>obtain ⟨t',rfl⟩:=ry;exact PySem.EqMixed.ne_str_int (qB0 I q (by simp))
  | str j=>obtain ⟨t',rfl⟩:=ry;exact ne_str (qB0 I q (congrArg not qSC))
  | _=>exact absurd (show false=true from hs) C6
 | byt i=>
  obtain ⟨t,rfl⟩:=rx;cases y with
  | byt j=>obtain ⟨t',rfl⟩:=ry;exact PySem.W.ne_bytes (qB0 I q (congrArg not qSE))
  | _=>exact absurd (show false=true from hs) C6
 | _=>cases y <;> exact absurd (show false=true from hs) C6
theorem qTO:OpR X (compareOp .Lt) (rI0 fun i j=>.bl (decide (i<j))):=opB0 fun _ _ _ _ _ _ _ q=>lt_int q
theorem qY4:OpR X (compareOp .LtE) (rI0 fun i j=>.bl (decide (i<=j))):=opB0 fun _ _ _ _ _ _ _ q=>le_int q
theorem qY5:OpR X (compareOp .Gt) (rI0 fun i j=>.bl (decide (j<i))):=opB0 fun _ _ _ _ _ _ _ q=>gt_int q
theorem qY6:OpR X (compareOp .GtE) (rI0 fun i j=>.bl (decide (j<=i))):=opB0 fun _ _ _ _ _ _ _ q=>ge_int q
theorem qB1 (b:Expr) {op:CmpOp} (h:op ≠ .In:=by decide) (h2:op ≠ .NotIn:=by decide):behindInMarks op b=false:=by
 have e1:(op == CmpOp.In)=false:=by cases op <;> first | rfl | exact absurd rfl h
 have e2:(op == CmpOp.NotIn)=false:=by cases op <;> first | rfl | exact absurd rfl h2
 cases b <;> simp [behindInMarks,e1,e2]
theorem qDY {op:CmpOp} {r:R2} (ho:OpR X (compareOp op) r) (ha:PE X a ta) (hb:PE X b tb) (hm:behindInMarks op b=false):PE X (.Compare a [op] [b] pos) (tOp r ta tb):=by
 intro Ab s σ H Q I h;exact wpAny_Compare1 (binT ha hb I h fun v u s2 x y H2 I2 rx ry q=>ho Ab s2 σ H2 x y v u Q I2 rx ry q) hm
def qZ0 (t:TE):TT:=fun σ H Q=>t σ H fun x H'=>∃ k,x=.bl k/\Q k H'
theorem qAP {op:CmpOp} {r:R2} (ho:OpR X (compareOp op) r) (ha:PE X a ta) (hb:PE X b tb) (hm:behindInMarks op b=false):PT X (.Compare a [op] [b] pos) (qZ0 (tOp r ta tb)):=by
 intro Ab s σ H Q I h;refine wpAny_isTrue_Compare1 (thn (ha Ab s σ H _ I h) fun v s1 ⟨x,H1,I1,r1,q1⟩=>thn (hb Ab s1 σ H1 _ I1 q1) fun u s2 ⟨y,H2,I2,r2,q2⟩=>
  thn (ho Ab s2 σ H2 x y v u _ I2 r1 r2 q2) fun c s3 ⟨z,H3,I3,r3,k,e,q3⟩=>?_) hm
 subst e;cases r3;exact wpAny_truthy_bool ⟨H3,I3,q3⟩
def qXG (r r':R2) (ta tb tc:TE):TE:=fun σ H Q=>ta σ H fun x H1=>tb σ H1 fun y H2=>r x y H2 fun z H3=>∃ k,z=.bl k/\
 (if k=true then tc σ H3 fun w' H4=>r' y w' H4 Q else Q (.bl false) H3)
theorem qOE {op op':CmpOp} {r r':R2} (ho:OpR X (compareOp op) r) (ho':OpR X (compareOp op') r') (ha:PE X a ta) (hb:PE X b tb) (hc:PE X c tc)
  (hm:lastMarks [op,op'] [b,c]=false:=by with_unfolding_all rfl):PE X (.Compare a [op,op'] [b,c] pos) (qXG r r' ta tb tc):=by
 intro Ab s σ H Q I h;refine Compare_chain (thn (ha Ab s σ H _ I h) fun v s1 ⟨x,H1,I1,r1,q1⟩=>chain_link (thn (hb Ab s1 σ H1 _ I1 q1) fun u s2 ⟨y,H2,I2,r2,q2⟩=>
  thn (ho Ab s2 σ H2 x y v u _ I2 r1 r2 q2) fun d s3 ⟨z,H3,I3,r3,k,e,q3⟩=>?_)) hm
 subst e;cases r3;refine wpAny_truthy_bool ?_;cases k with
 | false=>exact ite_ff ⟨.bl false,H3,I3,rfl,q3⟩
 | true=>exact ite_tt (chain_last (thn (hc Ab s3 σ H3 _ I3 q3) fun w' s4 ⟨z',H4,I4,r4,q4⟩=>ho' Ab s4 σ H4 y z' u w' Q I4 r2 r4 q4))
def TruV (K:PySem.W.Frag) (x:V) (H:Hp) (k:Bool):Prop:=
 match x with
 | .non=>k=false
 | .bl b=>k=b
 | .int i=>k=(i != 0)
 | .str y=>y.length<=sizeLine/\k=((y.length:Int) != 0)
 | .byt y=>y.size<=sizeLine/\k=((y.size:Int) != 0)
 | .ref p=>(∃ xs,SqL K H p xs/\k=!xs.isEmpty)\/(∃ xs,SqT K H p xs/\k=!xs.isEmpty)\/∃ Ag,H p=some (.dK Ag)/\k=!Ag.isEmpty
 | _=>False
theorem qPT {κ:Type} {Ag:List (κ × V)} {vs:List (κ × Value)} (r:KV Ag vs):(!vs.isEmpty)=!Ag.isEmpty:=by
 cases r <;> rfl
theorem qJK {xs:List V} {its:List Value} (r:Vals xs its):(!its.toArray.isEmpty)=!xs.isEmpty:=by
 cases r <;> simp
theorem qLO:(sizeLine:Nat)<2 ^ 63:=by rw [sizeLine_eq];decide
theorem qXC:TruR X (fun x H Q=>∃ k,TruV X.K x H k/\Q k H):=by
 intro Ab s σ H x v Q I rx h;obtain ⟨k,e,q⟩:=h;have hl:=qLO;have hs:sizeLine=16777216:=sizeLine_eq;cases x with
 | non=>
  cases rx;have e':k=false:=e;subst e';exact truthy_none ⟨H,I,q⟩
 | bl b=>
  cases rx;have e':k=b:=e;subst e';exact wpAny_truthy_bool ⟨H,I,q⟩
 | int i=>
  obtain ⟨t,rfl⟩:=rx;have e':k=(i != 0):=e;subst e';exact PySem.P.truthy_int ⟨H,I,q⟩
 | str y=>
  obtain ⟨t,rfl⟩:=rx;obtain ⟨hy,e'⟩:y.length<=sizeLine/\k=((y.length:Int) != 0):=e;subst e';exact PySem.P.truthy_str (by omega) ⟨H,I.tok _,q⟩
 | byt y=>
  obtain ⟨t,rfl⟩:=rx;obtain ⟨hy,e'⟩:y.size<=sizeLine/\k=((y.size:Int) != 0):=e;subst e';exact PySem.W.truthy_bytes (by omega) ⟨H,I.tok _,q⟩
 | ref p=>
  cases rx;have e':(∃ xs,SqL X.K H p xs/\k=!xs.isEmpty)\/(∃ xs,SqT X.K H p xs/\k=!xs.isEmpty)\/∃ Ag,H p=some (.dK Ag)/\k=!Ag.isEmpty:=e;rcases e' with ⟨xs,hx,e'⟩ | ⟨xs,hx,e'⟩ | ⟨Ag,hx,e'⟩
  ·subst e';obtain ⟨its,r,pl,hz⟩:=I.list hx;have hlen:=r.length;exact wpAny_truthy_list pl.isList (by simp only [C5];omega) ⟨H,I.tok _,by rw [qJK r];exact q⟩
  ·subst e';obtain ⟨its,r,pl,hz⟩:=I.tuple hx;have hlen:=r.length;exact truthy_tuple pl (by simp only [C5];omega) ⟨H,I.tok _,by rw [qJK r];exact q⟩
  ·subst e';obtain ⟨hz,hS,vs,r,m⟩:Ag.length<=sizeLine/\(p == sysModules)=false/\∃ vs,KV Ag vs/\s.heap.DictOf (qBO X.prog X.w) p vs:=I.hok p _ hx;have hlen:Ag.length=vs.length:=E9 r;exact wpAny_truthy_dict hS m (by omega) ⟨H,I.tok _,by rw [qPT r];exact q⟩
 | _=>exact (show False from e).elim
theorem qJZ (ha:PE X a ta) (he:∀ whole,isTrue a X.env whole=(do let v <- whole;standAt a.pos;holding [v] (truthy v))) :
  PT X a (fun σ H Q=>ta σ H fun x H'=>∃ k,TruV X.K x H' k/\Q k H'):=by
 intro Ab s σ H Q I h;exact isTrue_plain (thn (ha Ab s σ H _ I h) fun v s1 ⟨x,H1,I1,r1,q1⟩=>qXC Ab s1 σ H1 x v Q I1 r1 q1) (he _)
theorem qEI {x:V} {us:List Value} (r:Vals [x] us):∃ u,us=[u]/\RelV x u:=by
 cases r with
 | cons r1 r2=>cases r2;exact ⟨_,rfl,r1⟩
theorem qP6 {x y:V} {us:List Value} (r:Vals [x,y] us):∃ u w',us=[u,w']/\RelV x u/\RelV y w':=by
 cases r with
 | cons r1 r2=>
  cases r2 with
  | cons r3 r4=>cases r4;exact ⟨_,_,rfl,r1,r3⟩
theorem qMA (hc:X.calm=true):qCI X (.builtin "max") (fun xs H Q=>∃ i j,xs=[.int i,.int j]/\Q (.int (if j > i then j else i)) H):=by
 intro Ab s σ H xs us Q I r h;obtain ⟨i,j,rfl,q⟩:=h;obtain ⟨u,w',rfl,⟨t,rfl⟩,⟨t',rfl⟩⟩:=qP6 r;refine max_two_ints (I.ok.hd hc) fun h' tk k=>⟨_,H,I.kept k,?_,q⟩;by_cases hj:j > i
 ·rw [if_pos hj,if_pos hj];exact ⟨_,rfl⟩
 ·rw [if_neg hj,if_neg hj];exact ⟨_,rfl⟩
theorem qIX (hc:X.calm=true):qCI X (.builtin "min") (fun xs H Q=>∃ i j,xs=[.int i,.int j]/\Q (.int (if j<i then j else i)) H):=by
 intro Ab s σ H xs us Q I r h;obtain ⟨i,j,rfl,q⟩:=h;obtain ⟨u,w',rfl,⟨t,rfl⟩,⟨t',rfl⟩⟩:=qP6 r;refine min_two_ints (I.ok.hd hc) fun h' tk k=>⟨_,H,I.kept k,?_,q⟩;by_cases hj:j<i
 ·rw [if_pos hj,if_pos hj];exact ⟨_,rfl⟩
 ·rw [if_neg hj,if_neg hj];exact ⟨_,rfl⟩
theorem qMC:qCI X (.type "int") (fun xs H Q=>(∃ i,xs=[.int i]/\Q (.int i) H)\/∃ k,xs=[.bl k]/\Q (.int (if k then 1 else 0)) H):=by
 intro Ab s σ H xs us Q I r h;rcases h with ⟨i,rfl,q⟩ | ⟨k,rfl,q⟩
 ·obtain ⟨u,rfl,t,rfl⟩:=qEI r;exact call_int_int ⟨.int i,H,I,⟨_,rfl⟩,q⟩
 ·obtain ⟨u,rfl,r1⟩:=qEI r;cases r1;exact call_int_bool ⟨.int (if k then 1 else 0),H,I.tok _,⟨_,rfl⟩,q⟩
theorem qNI:qCI X (.builtin "divmod") (fun xs H Q=>∃ i j,xs=[.int i,.int j]/\CDiv i j/\∀ p,H p=none->Q (.ref p) (Ah H p (.tup [.int (i / j),.int (i % j)]))):=by
 intro Ab s σ H xs us Q I r h;obtain ⟨i,j,rfl,⟨h1,h2⟩,q⟩:=h;obtain ⟨u,w',rfl,⟨t,rfl⟩,⟨t',rfl⟩⟩:=qP6 r;refine divmod_int (by omega) ?_ (.inl (A62 (by omega)))
 rw [A21 i (by omega),A22 i (by omega)]
 have hn:H s.heap.objs.size=none:=I.hok.fresh (C1 _);refine ⟨.ref s.heap.objs.size,_,?_,rfl,q _ hn⟩;refine I.laid (fun b o e=>B8 _ e) (C1 _) ⟨by simp only [E3,O5];rw [sizeLine_eq];decide,[.int (i / j) s.toks,.int (i % j) (s.toks+1)],.cons ⟨_,rfl⟩ (.cons ⟨_,rfl⟩ .nil),?_⟩
 exact ⟨_,D4 s.heap rfl,rfl,0,rfl⟩
end
end L2
namespace L2
open PySem PySem.Spec PyProof.Rows
structure ObjM (h:Heap) (x dx C:Addr) (mA:Str->Option Value):Prop where
 obj:h.get? x=some (A70 C dx)
 ns:h.Ns1 dx mA
 ne:dx ≠ x
theorem qRG {h:Heap} {dx:Addr} {mA:Str->Option Value} (n:h.Ns1 dx mA):∃ od,h.get? dx=some od/\∀ name,A95 name od=some (mA name):=by
 obtain ⟨o,es,ep,ho,hd,hk,_,hm⟩:=n;refine ⟨o,ho,fun name=>?_⟩;have e:=hm name;unfold nsFind findBy at e;rw [<- Array.find?_toList] at e;unfold A95;rw [hd];dsimp only
 split
 ·rename_i y q
  rw [q] at e;exact congrArg some e
 ·rename_i q
  rw [q] at e;have a:es.toList.any (·.refKey)=false:=by
   rw [List.any_eq_false];intro y hy;obtain ⟨z,t,hkey⟩:=hk y (Array.mem_toList_iff.mp hy);simp [DictEntry.refKey,hkey]
  have a':¬ es.toList.any (·.refKey)=true:=by rw [a];exact C6
  rw [if_neg a'];exact congrArg some e
theorem ObjM.look {h:Heap} {x dx C:Addr} {mA:Str->Option Value} (I:ObjM h x dx C mA):∃ od,PySem.W.InstAt h x (A70 C dx) C (some od)/\∀ name,A95 name od=some (mA name):=
 let ⟨od,ho,hl⟩:=qRG I.ns
 ⟨od,⟨I.obj,rfl,rfl,ho⟩,hl⟩
section
variable {prog:Program} {w:World} {A:Around} {E:Value->Shared->Prop} {s:Shared} {K:PySem.W.Frag} {x dx C f:Addr} {mA:Str->Option Value} {name:Str} {v:Value}
end
def putF (f:Str) (v:V):List (Str × V)->List (Str × V)
 | []=>[(f,v)]
 | (g,x)::r=>if g=f then (g,v)::r else (g,x)::putF f v r
theorem RelO.some_of {v:V} {o:Option Value} (r:RelO (some v) o):∃ u,o=some u/\RelV v u:=by
 cases o with
 | none=>exact (show False from r).elim
 | some u=>exact ⟨u,rfl,r⟩
section
variable {P:Program} {w:World} {H H':Hp} {h h':Heap} {a C dx:Addr} {fs fs':List (Str × V)}
theorem qWM (hok:HOk P w H h) (e:H a=some (.ins C dx fs)):∃ mA,ObjM h a dx C mA/\(∀ f,RelO (fs.lookup f) (mA f))/\PySem.Within mA (fs.map (·.1))/\fs.length<=1000/\H dx=some (.own a):=by
 obtain ⟨d,z,ne,ob,mA,n,r,q⟩:=(show ObjOk P w H h a (.ins C dx fs) from hok a _ e);exact ⟨mA,⟨ob,n,ne⟩,r,q,z,d⟩
end
structure Cls (K:PySem.W.Frag) (C:Addr):Prop where
 pg:B41 K C i7=true
 hd:B23 K C=true
 po:PySem.W.plainOver K C=true
 sa:V4 K (.ref C) "__setattr__" = some (some (.builtin "object.__setattr__"))
theorem Cls.get {K:PySem.W.Frag} {C:Addr} (c:Cls K C) (f:Str):B41 K C f=true:=c.pg
def qP2 (K:PySem.W.Frag) (C:Addr) (f:Str):Prop:=V4 K (.ref C) f=some none
structure Con (K:PySem.W.Frag) (C:Addr) (f:Str) (v:V) (u:Value):Prop where
 at_:V4 K (.ref C) f=some (some u)
 rel:RelV v u
 get:A36 K u "__get__" = some none
 cp:PySem.W.copiedNames.contains f=false
structure Meth (K:PySem.W.Frag) (C:Addr) (m:Str) (f:Addr):Prop where
 at_:V4 K (.ref C) m=some (some (.ref f))
 fn:B91 K (.ref f)=true
 kp:Z2 K (.ref f)=true
section
variable {X:Cx} {Ab:List (Addr × Obj)} {σ:St} {H:Hp} {s:Shared} {a C dx:Addr} {fs:List (Str × V)} {f:Str} {v:V} {A:Around} {E:Value->Shared->Prop}
end
section
variable {X:Cx} {o e value:Expr} {f:Str} {pos pos' tpos:Pos} {ta tv:TE}
end
section
variable {X:Cx} {Ab:List (Addr × Obj)} {σ:St} {H:Hp} {s:Shared} {A:Around} {E:Value->Shared->Prop} {Q:Value->Shared->Prop} {c:Value} {b:Bool}
inductive TyOf (K:PySem.W.Frag) (H:Hp):V->Value->Prop where
 | non:TyOf K H .non (.type "NoneType")
 | bl (x:Bool):TyOf K H (.bl x) (.type "bool")
 | int (i:Int):TyOf K H (.int i) (.type "int")
 | str (x:Str):TyOf K H (.str x) (.type "str")
 | flt (x:UInt64):TyOf K H (.flt x) (.type "float")
 | lst {a:Addr} {xs:List V} (e:H a=some (.lst xs)):TyOf K H (.ref a) (.type "list")
 | frz {a:Addr} {o:Obj} {xs:List V} (e:H a=some (.frz o (.lst xs))):TyOf K H (.ref a) (.type "list")
 | tup {a:Addr} {xs:List V} (e:H a=some (.tup xs)):TyOf K H (.ref a) (.type "tuple")
 | dK {a:Addr} {Ag:List (Key × V)} (e:H a=some (.dK Ag)):TyOf K H (.ref a) (.type "dict")
 | dT {a:Addr} {Ag:List (List Key × V)} (e:H a=some (.dT Ag)):TyOf K H (.ref a) (.type "dict")
 | ins {a C dx:Addr} {fs:List (Str × V)} (e:H a=some (.ins C dx fs)) (cl:Cls K C) (ha:V4 K (.ref C) "__class__" = some (some (.builtin "object.__class__")))
   (hn:A36 K (.builtin "object.__class__") "__get__" = some (some (.builtin "getset_descriptor.__get__"))) (htk:B55 K (.builtin "object.__class__")=some true)
   (hm:B11 K C (.type "object")=some true):TyOf K H (.ref a) (.ref C)
theorem qRP {x:V} {u t:Value} (I:Inv X Ab σ H s) (rx:RelV x u) (ty:TyOf X.K H x t) (e:T4 X.K t c=some b) (h:∀ tk,Q (.bool b) { s with toks:=tk }) :
  wpAny (model X.prog X.w) A (call (.builtin "isinstance") [u,c]) Q E s:=by
 cases ty with
 | non=>cases (show u=W8 from rx);exact R4 PySem.W.kitx_none I.kIn f9 e (fun z=>nomatch z) h
 | bl y=>cases (show u=Z5 y from rx);exact R4 PySem.W.kitx_bool I.kIn f9 e (fun z=>nomatch z) h
 | int i=>obtain ⟨t,q⟩:=(show ∃ t,u=W2 i t from rx);cases q;exact R4 PySem.W.kitx_int I.kIn f9 e (fun z=>nomatch z) h
 | str y=>obtain ⟨t,q⟩:=(show ∃ t,u=B54 y t from rx);cases q;exact R4 PySem.W.kitx_str I.kIn f9 e (fun z=>nomatch z) h
 | flt y=>obtain ⟨t,q⟩:=(show ∃ t,u=Value.float y t from rx);cases q;exact R4 PySem.W.kitx_float I.kIn f9 e (fun z=>nomatch z) h
 | @lst a xs ea=>
  cases (show u=F3 a from rx);obtain ⟨_,_,n,_,h1⟩:=(show ObjOk X.prog X.w H s.heap a (.lst xs) from I.hok a _ ea);exact R4 B24 I.kIn ⟨_,h1,rfl⟩ e (fun z=>nomatch z) h
 | @frz a ob xs ea=>
  cases (show u=F3 a from rx);obtain ⟨_,_,_,n,_,h1⟩:=(show ObjOk X.prog X.w H s.heap a (.frz ob (.lst xs)) from I.hok a _ ea);exact R4 B24 I.kIn ⟨_,h1,rfl⟩ e (fun z=>nomatch z) h
 | @tup a xs ea=>
  cases (show u=F3 a from rx);obtain ⟨_,_,_,p⟩:=(show ObjOk X.prog X.w H s.heap a (.tup xs) from I.hok a _ ea);obtain ⟨o,h1,h2,_⟩:=p;exact R4 PySem.W.kitx_tuple I.kIn ⟨o,h1,h2⟩ e (fun z=>nomatch z) h
 | @dK a Ag ea=>
  cases (show u=F3 a from rx);obtain ⟨_,_,vs,_,p⟩:=(show ObjOk X.prog X.w H s.heap a (.dK Ag) from I.hok a _ ea);obtain ⟨o,es,ep,h1,h2,_⟩:=p;exact R4 B25 I.kIn ⟨o,h1,h2.1⟩ e (fun z=>nomatch z) h
 | @dT a Ag ea=>
  cases (show u=F3 a from rx);obtain ⟨_,_,xs,_,o,es,ep,h1,h2,_⟩:=(show ObjOk X.prog X.w H s.heap a (.dT Ag) from I.hok a _ ea);exact R4 B25 I.kIn ⟨o,h1,h2.1⟩ e (fun z=>nomatch z) h
 | @ins a C dx fs ea cl ha hn htk hm=>
  cases (show u=F3 a from rx);obtain ⟨mA,O,_⟩:=qWM I.hok ea;obtain ⟨od,J,_⟩:=O.look;exact R4 (PySem.W.kitx_own (cl.get _) cl.hd ha hn htk hm) I.kIn J e (fun z=>nomatch z) h
end
end L2
namespace L2
open PySem PySem.Spec PyProof.Rows
structure Room (k:Nat) (A:Around):Prop where
 hd:A.handled=none
 dp:A.depth+3 * k+5<recursionLimit
 un:A.units+16 * k+200<cLine
 gd:A.guards=some []
theorem Room.mono {j k:Nat} {A:Around} (r:Room k A) (h:j<=k):Room j A:=⟨r.hd,by have:=r.dp;omega,by have:=r.un;omega,r.gd⟩
theorem Room.deeper {k:Nat} {A:Around} (r:Room (k+1) A) (env:Env):Room k (A.deeper env):=
 ⟨r.hd,by have:=r.dp;show A.depth+1+3 * k+5<_;omega,by have:=r.un;show A.units+3+16 * k+200<_;omega,r.gd⟩
theorem Room.depth {k:Nat} {A:Around} (r:Room k A):A.depth<recursionLimit:=by have:=r.dp;omega
theorem Room.units {k:Nat} {A:Around} (r:Room k A):A.units+64<cLine:=by have:=r.un;omega
theorem Room.units0 {k:Nat} {A:Around} (r:Room k A):A.units<cLine:=by have:=r.un;omega
def tNil:TA:=fun _ H Q=>Q [] H
def qXF (ta:TE) (tr:TA):TA:=fun σ H Q=>ta σ H fun x H1=>tr σ H1 fun xs H2=>Q (x::xs) H2
section
variable {X:Cx} {e:Expr} {es:List Expr} {te:TE} {t:TA} {pos:Pos}
theorem qA3:PA X [] tNil:=fun _ _ _ _ H Q I h=>Calls.spliced_nil ⟨[],H,I,.nil,h⟩
theorem qA0 (ha:PE X e te) (hr:PA X es t) (hs:starEach (e::es) X.env=(false,eval e X.env)::starEach es X.env:=by rfl):PA X (e::es) (qXF te t):=by
 intro pos Ab s σ H Q I h;rw [hs];show wpAny _ _ (spliced ((false,eval e X.env)::backTo pos (starEach es X.env))) _ _ s;refine Calls.spliced_cons (thn (ha Ab s σ H _ I h) fun u s1 ⟨x,H1,I1,r1,q1⟩=>?_);exact thn (hr pos Ab s1 σ H1 _ I1 q1) fun us s2 ⟨xs,H2,I2,r2,q2⟩=>⟨x::xs,H2,I2,.cons r1 r2,q2⟩
def tTup (t:TA):TE:=fun σ H Q=>t σ H fun xs H1=>xs.length<=sizeLine/\∀ p,H1 p=none->Q (.ref p) (Ah H1 p (.tup xs))
def tLst (t:TA):TE:=fun σ H Q=>t σ H fun xs H1=>xs.length<=sizeLine/\∀ p,H1 p=none->Q (.ref p) (Ah H1 p (.lst xs))
theorem qCL {x1} (h:PA X es t):PE X (.Tuple es x1 pos) (tTup t):=by
 intro Ab s σ H Q I hq;refine wpAny_Tuple_spliced (thn (h pos Ab s σ H _ I hq) fun us s1 ⟨xs,H1,I1,r,z,q⟩=>⟨by rw [<- r.length];exact z,?_⟩)
 have hf:H1 s1.heap.objs.size=none:=I1.hok.fresh (C1 _);refine ⟨.ref s1.heap.objs.size,Ah H1 s1.heap.objs.size (.tup xs),I1.laid (t':=s1.toks) (fun b u e=>B8 _ e) (C1 _) ?_,rfl,q _ hf⟩;exact ⟨z,us,r,⟨_,D4 _ rfl,rfl,_,rfl⟩⟩
theorem qAQ (h:PA X es t):PE X (.List es pos) (tLst t):=by
 intro Ab s σ H Q I hq;refine wpAny_List_spliced (thn (h pos Ab s σ H _ I hq) fun us s1 ⟨xs,H1,I1,r,z,q⟩=>⟨by rw [<- r.length];exact z,?_⟩)
 have hf:H1 s1.heap.objs.size=none:=I1.hok.fresh (C1 _);refine ⟨.ref s1.heap.objs.size,Ah H1 s1.heap.objs.size (.lst xs),I1.laid (t':=s1.toks) (fun b u e=>B8 _ e) (C1 _) ?_,rfl,q _ hf⟩;exact ⟨z,us,0,r,D4 _ rfl⟩
end
abbrev Sp:=List V->Hp->VK->XK->Prop
abbrev CXT:=List Env->Hp->Shared->XK->Value->Shared->Prop
structure Env0 (P:Program) (w:World) (K:PySem.W.Frag) (mg:Str->Option Value) (base:Heap) (A:Around) (outer:List Env) (s:Shared) (H:Hp):Prop where
 frames:A.frames=some outer
 mod:Mod K mg base
 bs:∀ b o,base.get? b=some o->s.heap.get? b=some o/\H b=none
 bsz:base.objs.size<=s.heap.objs.size
 funs:s.heap.FunFrames base outer
 frf:∀ b ∈ frs outer,H b=none
 hok:HOk P w H s.heap
 bare:AllBare s.gens
def CE (outer:List Env) (P:Program) (w:World) (H:Hp) (s:Shared) (Q:VK) (u:Value) (s':Shared):Prop:=
 ∃ v H',s'.os=s.os/\AllBare s'.gens/\Un (frs outer) [] H H' s.heap s'.heap/\HOk P w H' s'.heap/\RelV v u/\Q v H'
def CR (CX:CXT) (outer:List Env) (P:Program) (w:World) (H:Hp) (s:Shared) (Q:VK) (E:XK) (r:Result) (s':Shared):Prop:=
 match r with
 | .ok (.ret u)=>CE outer P w H s Q u s'
 | .ok _=>False
 | .error e=>CX outer H s E e s'
structure FnOk (P:Program) (w:World) (K:PySem.W.Frag) (mg:Str->Option Value) (base:Heap) (CX:CXT) (k:Nat) (f:Addr) (fd:FuncData) (ps:List Str) (sp:Sp):Prop where
 len:∀ vs H Q E,sp vs H Q E->vs.length=ps.length
 run:∀ (A:Around) (outer:List Env) (s:Shared) (H:Hp) (args:Args) (us:List Value) (vs:List V) (Q:VK) (E:XK),Room k A->Env0 P w K mg base A outer s H->BindsTo s fd args (ps.zip us)->Vals vs us->sp vs H Q E->
  codeAny (model P w) A (.call (.ref f) args) (CR CX outer P w H s Q E) s
section
variable {X:Cx} {Ab:List (Addr × Obj)} {σ:St} {H:Hp} {s s':Shared}
theorem Inv.env0 (I:Inv X Ab σ H s):Env0 X.prog X.w X.K X.mg X.base X.A X.stack s H:=
 ⟨I.ok.frames,I.ok.mod,I.bs,M6 I.ok.bsz I.sz,I.stack,I.stkFree,I.hok,I.bare⟩
theorem Inv.after {Q:VK} {u:Value} (I:Inv X Ab σ H s) (h:CE X.stack X.prog X.w H s Q u s'):EP X Ab σ Q u s':=by
 obtain ⟨v,H',os,bare,un,hok,r,q⟩:=h;obtain ⟨hh,g,d,t,os'⟩:=s';obtain rfl:os'=s.os:=os;exact ⟨v,H',I.call (h':=hh) (g':=g) (d':=d) (t':=t) (ch:=[]) un hok bare (fun b z=>absurd z (by simp)),r,q⟩
end
def qXH (sp:Sp) (dvs:List V) (E:XK) (t:TA):TE:=fun σ H Q=>t σ H fun vs H1=>sp (vs++dvs) H1 Q E
def Binds (K:PySem.W.Frag) (fd:FuncData) (ps:List Str) (ds:List Value):Prop:=
 ∀ (s:Shared) (us:List Value),K.In s.heap->(us++ds).length=ps.length->BindsTo s fd ⟨us,[]⟩ (ps.zip (us++ds))
theorem Binds.all {K:PySem.W.Frag} {fd:FuncData} {ps:List Str} (h:∀ us:List Value,us.length=ps.length->bindArgs fd ⟨us,[]⟩=pure (ps.zip us)):Binds K fd ps []:=fun s us _ hl=>by
 rw [N9] at hl ⊢;exact .of_eq (h us hl)
def qT1 (CX:CXT) (X:Cx) (E:XK):Prop:=∀ (Ab:List (Addr × Obj)) (σ:St) (H:Hp) (s:Shared) (e:Value) (s':Shared),Inv X Ab σ H s->CX X.stack H s E e s'->X.xe e s'
section
variable {X:Cx} {CX:CXT} {k:Nat} {f C:Addr} {fd:FuncData} {ps:List Str} {sp:Sp} {dvs:List V} {ds:List Value} {E:XK} {x m:Str} {p pos apos:Pos} {e o:Expr} {es:List Expr} {ta:TE} {t:TA}
theorem qXS {Ab:List (Addr × Obj)} {σ:St} {H:Hp} {s:Shared} {Q:VK} {us:List Value} {vs:List V} (F:FnOk X.prog X.w X.K X.mg X.base CX k f fd ps sp) (hr:Room k X.A) (hb:Binds X.K fd ps ds) (hd:Vals dvs ds) (hx:qT1 CX X E)
  (I:Inv X Ab σ H s) (r:Vals vs us) (h:sp (vs++dvs) H Q E):wpAny (model X.prog X.w) X.A (call (.ref f) us) (EP X Ab σ Q) X.xe s:=by
 have r2:Vals (vs++dvs) (us++ds):=r.append hd;have hl:(us++ds).length=ps.length:=by rw [<- r2.length];exact F.len _ _ _ _ h
 refine wpAny_call (codeAny_mono (F.run X.A X.stack s H ⟨us,[]⟩ (us++ds) (vs++dvs) Q E hr I.env0 (hb s us I.kIn hl) r2 h) fun r s' hq=>?_);cases r with
 | error e=>exact hx Ab σ H s e s' I hq
 | ok fl=>
  cases fl with
  | ret u=>exact I.after hq
  | next=>exact k8 hq
  | brk=>exact k8 hq
  | cont=>exact k8 hq
theorem qW3 (F:FnOk X.prog X.w X.K X.mg X.base CX k f fd ps sp) (hr:Room k X.A) (hg:Gl X x) (hm:X.mg x=some (.ref f)) (hk:Z2 X.K (.ref f)=true) (hb:Binds X.K fd ps ds) (hd:Vals dvs ds) (hx:qT1 CX X E)
  (ha:PA X (e::es) t) (hdb:(x == ("__debug__" : Str))=false:=by decide) (he:starEach (e::es) X.env=(false,eval e X.env)::starEach es X.env:=by rfl) (hpl:(backTo pos (starEach es X.env)).any (·.1)=false:=by rfl) :
  PE X (.Call (.Name x p) (e::es) [] pos) (qXH sp dvs E t):=by
 intro Ab s σ H Q I h;refine wpAny_Call_Name_kw (qRH I hg hm ?_ hdb);refine PySem.W.callWith_K (h₀:=X.base) I.ok.mod.kin hk (thn (ha pos Ab s σ H _ I h) fun us s1 ⟨vs,H1,I1,r,q⟩=>⟨I1.kIn,?_⟩) he hpl;exact qXS F hr hb hd hx I1 r q
structure Mk (K:PySem.W.Frag) (C f:Addr):Prop where
 makes:PySem.W.makesIn K C=true
 init:V4 K (.ref C) "__init__" = some (some (.ref f))
 fn:B91 K (.ref f)=true
 kp:Z2 K (.ref C)=true
end
section
variable {X:Cx} {CX:CXT} {k:Nat} {f C:Addr} {fd:FuncData} {ps ks:List Str} {sp:Sp} {E:XK} {x m:Str} {p pos apos kpos:Pos} {e o:Expr} {es:List Expr} {kws:List Keyword} {te ta:TE} {t tk:TA} {nm:Option Str}
structure KBinds (K:PySem.W.Frag) (fd:FuncData) (ps ks:List Str) (g:List Value->List Value->List Value) (gV:List V->List V->List V):Prop where
 to:∀ (s:Shared) (us ws:List Value),K.In s.heap->(g us ws).length=ps.length->BindsTo s fd ⟨us,ks.zip ws⟩ (ps.zip (g us ws))
 rel:∀ {vs:List V} {us:List Value} {zs:List V} {ws:List Value},Vals vs us->Vals zs ws->Vals (gV vs zs) (g us ws)
variable {g:List Value->List Value->List Value} {gV:List V->List V->List V}
end
structure FnScope (N P:List Str) (sc:Scope):Prop where
 kind:sc.kind=.function
 co:sc.isCoroutine=false
 gen:sc.isGenerator=false
 nd:N.Nodup
 pre:N.take P.length=P
 par:∀ x ∈ P,sc.names.lookup x=some .local\/sc.names.lookup x=some .cell
 nofree:∀ y ∈ sc.names,y.2 ≠ .free
theorem qMD {kindOf:Str->Option NameKind} {x:Str}:∀ {binds:List (Str × Value)} {m:Str->Option Value},(∀ v,(x,v) ∉ binds)->bindL kindOf binds m x=m x
 | [],_,_=>rfl
 | (n,v)::r,m,h=>by
  unfold bindL;rw [qMD fun w hw=>h w (C7 _ hw)]
  split
  ·have:x ≠ n:=by rintro rfl;exact h v C9
   simp [this]
  ·rfl
theorem qMF {kindOf:Str->Option NameKind} {x:Str}:∀ {binds:List (Str × Value)} {m:Str->Option Value},(∀ v,(x,v) ∉ binds)->bindC kindOf binds m x=m x
 | [],_,_=>rfl
 | (n,v)::r,m,h=>by
  unfold bindC;rw [qMF fun w hw=>h w (C7 _ hw)]
  split
  ·rfl
  ·have:x ≠ n:=by rintro rfl;exact h v C9
   simp [this]
theorem qME {kindOf:Str->Option NameKind} {x:Str} {v:Value}:∀ {P:List Str} {vs:List Value} {i:Nat} {m:Str->Option Value},P.Nodup->P[i]?=some x->vs[i]?=some v->kindOf x=some .local->
  bindL kindOf (P.zip vs) m x=some v
 | [],_,_,_,_,h,_,_=>by simp at h
 | _::_,[],_,_,_,_,h,_=>by simp at h
 | p::P,w::vs,0,m,nd,h1,h2,hk=>by
  simp at h1 h2;subst h1;subst h2;show bindL kindOf ((p,w)::P.zip vs) m p=_;unfold bindL;rw [qMD fun v hv=>(O0.mp nd).1 (A72 hv).1,if_pos hk];simp
 | p::P,w::vs,i+1,m,nd,h1,h2,hk=>by
  show bindL kindOf ((p,w)::P.zip vs) m x=_;unfold bindL;exact qME (i:=i) (O0.mp nd).2 (by simpa using h1) (by simpa using h2) hk
theorem qMG {kindOf:Str->Option NameKind} {x:Str} {v:Value}:∀ {P:List Str} {vs:List Value} {i:Nat} {m:Str->Option Value},P.Nodup->P[i]?=some x->vs[i]?=some v->kindOf x ≠ some .local->
  bindC kindOf (P.zip vs) m x=some v
 | [],_,_,_,_,h,_,_=>by simp at h
 | _::_,[],_,_,_,_,h,_=>by simp at h
 | p::P,w::vs,0,m,nd,h1,h2,hk=>by
  simp at h1 h2;subst h1;subst h2;show bindC kindOf ((p,w)::P.zip vs) m p=_;unfold bindC;rw [qMF fun v hv=>(O0.mp nd).1 (A72 hv).1,if_neg hk];simp
 | p::P,w::vs,i+1,m,nd,h1,h2,hk=>by
  show bindC kindOf ((p,w)::P.zip vs) m x=_;unfold bindC;exact qMG (i:=i) (O0.mp nd).2 (by simpa using h1) (by simpa using h2) hk
def start (N:List Str) (vs:List V):St:=vs.map some++O8 (N.length - vs.length) none
def cxOf (CX:CXT) (P:Program) (w:World) (K:PySem.W.Frag) (mg:Str->Option Value) (base:Heap) (N:List Str) (qual:Str) (scope:Scope) (f:Addr) (cd:Value) (A:Around) (outer:List Env) (s:Shared) (H:Hp) (E:XK):Cx where
 prog:=P
 w:=w
 K:=K
 mg:=mg
 base:=base
 A:=A.deeper (envOfC qual scope s.heap.objs.size f cd)
 N:=N
 s₀:=s
 H₀:=H
 env:=envOfC qual scope s.heap.objs.size f cd
 outer:=outer
 stack:=envOfC qual scope s.heap.objs.size f cd::outer
 ex:=[]
 calm:=true
 fn:=fun _=>true
 pn:=[]
 xe:=fun e s'=>wpAny (model P w) (A.deeper (envOfC qual scope s.heap.objs.size f cd)) (leaving (envOfC qual scope s.heap.objs.size f cd) e) (fun _ s''=>CX outer H s E e s'') (fun e' s''=>CX outer H s E e' s'') s'
theorem qOW {sc:Scope} {n:Nat} {x:Str} (h:sc.names.lookup x=some .cell):∃ c,(cellsFrom n sc.names []).lookup x=some c:=by
 have q:=A63 sc.names n [] (.inl h);exact A37.mp q
theorem qRQ {CX:CXT} {P:Program} {w:World} {K:PySem.W.Frag} {mg:Str->Option Value} {base:Heap} {N ps:List Str} {qual:Str} {scope:Scope} {f:Addr} {cd:Value} {A:Around} {outer:List Env} {s s1:Shared} {H:Hp} {E:XK} {us:List Value} {vs:List V}
  (S:FnScope N ps scope) (hd:A.handled=none) (e0:Env0 P w K mg base A outer s H) (hl:vs.length=ps.length) (r:Vals vs us)
  (x:InCallC s s.heap.objs.size (bindL (envOfC qual scope s.heap.objs.size f cd).kindOf (ps.zip us) fun _=>none) (cellsFrom (s.heap.objs.size+1) scope.names []) (bindC (envOfC qual scope s.heap.objs.size f cd).kindOf (ps.zip us) fun _=>none) s1) :
  Inv (cxOf CX P w K mg base N qual scope f cd A outer s H E) [] (start N vs) H s1:=by
 have hpl:ps.length<=N.length:=by have:=congrArg B56 S.pre;rw [E5] at this;omega
 obtain ⟨h1,tk,rfl,hk⟩:=x.done;have noA:∀ b:Addr,b ∉ (cxOf CX P w K mg base N qual scope f cd A outer s H E).ex:=fun b z=>absurd (show b ∈ ([]:List Addr) from z) (by simp)
 refine ⟨⟨e0.mod,S.kind,rfl,rfl,C1 _,fun y z c h1 h2=>?_,fun y hy=>?_,fun y c _ h=>?_,fun _=>hd,Around.frames_deeper e0.frames,.inr ⟨rfl,rfl⟩,fun b z=>absurd z (noA b),e0.bs,e0.bsz,fun b _ _=>noA b,fun b z=>absurd z (noA b),e0.funs,e0.frf⟩,
  rfl,e0.bare,Un.kept hk,⟨_,x.toInCall.ns,fun i y v h1 h2 h3=>?_⟩,fun y c h=>⟨_,x.cell y c h⟩,e0.hok.fresh (C1 _),fun y c h=>?_,fun p hp=>absurd (show p ∈ ([]:List (Addr × Obj)) from hp) (by simp),e0.hok.kept hk,?_⟩
 ·exact name_of_addr x.apart (V0 h1) (V0 h2)
 ·have hy:scope.names.lookup y=some .cell\/scope.names.lookup y=some .free:=hy;rcases hy with hy | hy
  ·exact qOW hy
  ·exact absurd rfl (S.nofree _ (V0 hy))
 ·exact c5 (x.above y c (V0 h))
 ·have hi:i<vs.length:=by
   unfold start at h2;by_cases hi:i<vs.length
   ·exact hi
   ·rw [E8 (by simpa using hi)] at h2
    rw [List.getElem?_replicate] at h2
    split at h2 <;> cases h2
  have ha:vs[i]?=some v:=by
   unfold start at h2;rw [F6 (by simpa using hi),D7] at h2
   cases e:vs[i]? with
   | none=>rw [e] at h2;cases h2
   | some a=>rw [e] at h2;cases h2;rfl
  obtain ⟨u,hu,rv⟩:=r.get ha;have hp:ps[i]?=some y:=by
   rw [<- S.pre,Z6 (by omega)];exact h1
  have ndP:ps.Nodup:=by rw [<- S.pre];exact S.nd.sublist (Z7 _ _)
  refine ⟨u,rv,?_⟩;rcases S.par y (D8 hp) with k | k
  ·exact .inl ⟨k,qME ndP hp hu k⟩
  ·obtain ⟨c,e⟩:=qOW (n:=s.heap.objs.size+1) k;refine .inr ⟨.inl k,c,e,?_⟩;have q:=x.cell y c e;rw [qMG ndP hp hu (by show scope.names.lookup y ≠ _;rw [k];decide)] at q
   exact q
 ·exact e0.hok.fresh (c5 (x.above y c (V0 h)))
 ·unfold start;show _=N.length;rw [A8,A0,List.length_replicate];omega
theorem qZW {CX:CXT} {P:Program} {w:World} {K:PySem.W.Frag} {mg:Str->Option Value} {base:Heap} {k:Nat} {f:Addr} {name qual:Str} {params:Arguments} {body:List Stmt} {scope:Scope} {dV kV doc pm cdv ct oc:Value} {an od:Option Addr}
  {osl:Array (Option Value)} {N ps:List Str} {sp:Sp} (lk:K.lookup f=some ⟨oc,od,.func (i8 name qual params body scope dV kV doc pm an cdv ct),osl⟩) (hcd:A30 K cdv qual=true) (S:FnScope N ps scope)
  (len:∀ vs H Q E,sp vs H Q E->vs.length=ps.length)
  (hbody:∀ (A:Around) (outer:List Env) (s:Shared) (H:Hp) (vs:List V) (Q:VK) (E:XK),Room k (A.deeper (envOfC qual scope s.heap.objs.size f cdv))->sp vs H Q E->
   ∃ t,PSs (cxOf CX P w K mg base N qual scope f cdv A outer s H E) body t/\t { nx:=fun _ H'=>Q .non H',rt:=Q } (start N vs) H) :
  FnOk P w K mg base CX (k+1) f (i8 name qual params body scope dV kV doc pm an cdv ct) ps sp:=by
 refine ⟨len,fun A outer s H args us vs Q E hr e0 hb r hsp=>?_⟩;have hl:=len _ _ _ _ hsp;have KX:K.In s.heap:=e0.mod.kin.keeps fun b o e=>(e0.bs b o e).1;have lim:s.heap.NoLimit:=e0.mod.nolimit.keeps fun b o e=>(e0.bs b o e).1;have hkind:∀ y ∈ ps.zip us,scope.names.lookup y.1=some .local\/(scope.names.lookup y.1=some .cell/\((cellsFrom (s.heap.objs.size+1) scope.names []).lookup y.1).isSome=true):=fun ⟨n,v⟩ hy=>by
  rcases S.par n (A72 hy).1 with q | q
  ·exact .inl q
  ·exact .inr ⟨q,A63 _ _ _ (.inl q)⟩
 refine codeAny_call_function hr.depth (KX _ _ lk) rfl S.co S.gen rfl (PySem.W.codeRec_of KX hcd) (hb _ _ _ _ ?_);refine wpAny_newFunctionEnv_cells S.kind hkind fun env he s1 x=>?_;subst he;refine ⟨lim.keeps x.toInCall.keep,codeAny_func ?_⟩;obtain ⟨t,ht,hq⟩:=hbody A outer s H vs Q E (hr.deeper _) hsp;have I:Inv (cxOf CX P w K mg base N qual scope f cdv A outer s H E) [] (start N vs) H s1:=qRQ S hr.hd e0 hl r x;refine wpAny_mono (ht [] s1 (start N vs) H _ I hq) (fun fl s' hs=>?_) fun e s' hs=>hs;have fin:∀ {σ':St} {H':Hp} {v:V} {u:Value},Inv (cxOf CX P w K mg base N qual scope f cdv A outer s H E) [] σ' H' s'->RelV v u->Q v H'->CE outer P w H s Q u s':=
  fun {σ' H' v u} J rv q=>⟨v,H',J.os,J.bare,J.base,J.hok,rv,q⟩
 cases fl with
 | ret u=>
  obtain ⟨v,σ',H',J,rv,q⟩:=hs;exact fin J rv q
 | next=>
  obtain ⟨σ',H',J,q⟩:=hs;exact fin (v:=V.non) (u:=W8) J rfl q
 | brk=>
  obtain ⟨_,_,_,q⟩:=hs;exact k8 q
 | cont=>
  obtain ⟨_,_,_,q⟩:=hs;exact k8 q
end L2
namespace L2
open PySem PySem.Spec PyProof.Rows
section
variable {X:Cx} {x:Str} {p pos:Pos} {e:Expr} {es:List Expr} {t:TA} {id T:String} {r:List V->Hp->VK->Prop}
def tCB (r:List V->Hp->VK->Prop) (t:TA):TE:=fun σ H Q=>t σ H fun vs H1=>r vs H1 Q
theorem qAA (hc:qCI X (.builtin id) r) (hg:Gl X x) (hm:X.mg x=none) (hv:bootBuiltins x=some (.builtin id)) (ha:PA X (e::es) t) (hn:x ≠ "__name__":=by decide) (hdb:(x == ("__debug__" : Str))=false:=by decide)
  (he:starEach (e::es) X.env=(false,eval e X.env)::starEach es X.env:=by rfl) (hpl:(backTo pos (starEach es X.env)).any (·.1)=false:=by rfl):PE X (.Call (.Name x p) (e::es) [] pos) (tCB r t):=by
 intro Ab s σ H Q I h;refine wpAny_Call_Name_kw (qIE I hg hm hv ?_ hn hdb);exact PyProof.Rows.callWith_builtin1 (thn (ha pos Ab s σ H _ I h) fun us s1 ⟨vs,H1,I1,r1,q1⟩=>hc Ab s1 σ H1 vs us Q I1 r1 q1) he hpl
theorem qAE (hc:qCI X (.type T) r) (hg:Gl X x) (hm:X.mg x=none) (hv:bootBuiltins x=some (.type T)) (ha:PA X (e::es) t) (hn:x ≠ "__name__":=by decide) (hdb:(x == ("__debug__" : Str))=false:=by decide)
  (he:starEach (e::es) X.env=(false,eval e X.env)::starEach es X.env:=by rfl) (hpl:(backTo pos (starEach es X.env)).any (·.1)=false:=by rfl):PE X (.Call (.Name x p) (e::es) [] pos) (tCB r t):=by
 intro Ab s σ H Q I h;refine wpAny_Call_Name_kw (qIE I hg hm hv ?_ hn hdb);exact T5 (thn (ha pos Ab s σ H _ I h) fun us s1 ⟨vs,H1,I1,r1,q1⟩=>hc Ab s1 σ H1 vs us Q I1 r1 q1) he hpl
end
end L2
namespace HT
open PySem PyProof.Rows
def lexLt:List Int->List Int->Bool
 | [],[]=>false
 | [],_::_=>true
 | _::_,[]=>false
 | x::xs,y::ys=>if x=y then lexLt xs ys else decide (x<y)
theorem lexLt_cons (x y:Int) (xs ys:List Int):lexLt (x::xs) (y::ys)=if x=y then lexLt xs ys else decide (x<y):=rfl
theorem qK5:lexLt [] []=false:=rfl
theorem qJ3 (y:Int) (ys:List Int):lexLt [] (y::ys)=true:=rfl
theorem qJ4 (x:Int) (xs:List Int):lexLt (x::xs) []=false:=rfl
theorem qUC (A:Around) (s:Shared) (a:Int) (t:Tok) (c:Int) (u:Tok):∃ e,SeqAt.EqAt A s (.int a t) (.int c u) e/\(e=true ↔ a=c):=
 ⟨(a == c),B12 a t c u,by simp⟩
theorem qTI (A:Around) (s:Shared) (a:Int) (t:Tok) (c:Int) (u:Tok) (prog:Program) (w:World) (E:Value->Shared->Prop) (Q:Value->Shared->Prop) (h:Q (.bool (decide (a<c))) s) :
  wpAny (model prog w) A (richCompare .Lt (.int a t) (.int c u)) Q E s:=
 (PyProof.Rows.lt_int h:wpAny (model prog w) A (compareOp .Lt (.int a t) (.int c u)) Q E s)
section
open PySem.SeqAt
open PySem.AutoSeq1 (wpAny_loadPart')
open PySem.MeetsSeq PySem.MeetsSeq2 PySem.MeetsSeq3
theorem tuple_lt_ints (l b:Addr) (Ae items2:Array Value) (n n2:Nat) (dd dd2:Option Addr) (sl sl2:Array (Option Value)) (ns ms:List Int) (hi:IntsAre Ae.toList ns) (hj:IntsAre items2.toList ms) :
  Meets (Builtin.«tuple.__lt__» ⟨[.ref l,.ref b],[]⟩)
   (fun _ R s=>s.heap.get? l=some { cls:=.type "tuple",dict:=dd,data:=.seq Ae n,slots:=sl }/\s.heap.get? b=some { cls:=.type "tuple",dict:=dd2,data:=.seq items2 n2,slots:=sl2 }/\
    R (.ok (.ret (.bool (lexLt ns ms)))) s):=
 .of_wp fun prog w A R s h=>by
  obtain ⟨hp,g,d,tk,os⟩:=s;obtain ⟨hl,hb,h⟩:=h;have f2:=A38;have z1:Ae.size=ns.length:=by rw [<- hi.length];simp
  have z2:items2.size=ms.length:=by rw [<- hj.length];simp
  wp_walk using wpAny_loadPart' hl,wpAny_loadPart' hb,wpAny_forIn_list _ (fun rest b s'=>b.1=none/\s'=⟨hp,g,d,tk,os⟩/\∃ (vs ws:List Value) (ns' ms':List Int),rest=vs.zip ws/\
   IntsAre vs ns'/\IntsAre ws ms'/\ns'.length+items2.size=ms'.length+Ae.size/\R (.ok (.ret (.bool (lexLt ns' ms')))) ⟨hp,g,d,tk,os⟩) _
  case turn=>
   rintro ⟨y,x⟩ rest b s' ⟨hb',rfl,vs,ws,ns',ms',hz,hvi,hwi,hlen,hR⟩;cases hvi with
   | nil=>rw [List.zip_nil_left] at hz;cases hz
   | cons a t hvi'=>
    cases hwi with
    | nil=>rw [List.zip_nil_right] at hz;cases hz
    | cons c u hwi'=>
     rw [A27] at hz
     injection hz with hyx hrest
     injection hyx with hy hx
     subst hy hx;rw [lexLt_cons] at hR;simp only [E3] at hlen;obtain ⟨e,he,hiff⟩:=qUC A.in1 ⟨hp,g,d,tk,os⟩ a t c u;refine wpAny_bind (he prog w _ _ ?_);cases e with
     | true=>
      rw [if_pos (hiff.mp rfl)] at hR
      wp_walk
      exact ⟨rfl,rfl,_,_,_,_,hrest,hvi',hwi',by omega,hR⟩
     | false=>
      rw [if_neg (fun q=>absurd (hiff.mpr q) C6)] at hR;have hri:=qTI A.in1 ⟨hp,g,d,tk,os⟩ a t c u prog w
      wp_walk using hri
      exact ⟨_,rfl,by simpa using hR⟩
  case fin=>
   rintro ⟨b1,b2⟩ s' ⟨hb',rfl,vs,ws,ns',ms',hz,hvi,hwi,hlen,hR⟩;simp only at hb';subst hb';have hv:lexLt ns' ms'=decide (Ae.size<items2.size):=by
    cases hvi with
    | nil=>
     cases hwi with
     | nil=>
      simp only [O5] at hlen;rw [qK5];exact (decide_eq_false (by omega)).symm
     | cons c u hw=>
      simp only [O5,E3] at hlen;rw [qJ3];exact (decide_eq_true (by omega)).symm
    | cons a t hv=>
     cases hwi with
     | nil=>
      simp only [O5,E3] at hlen;rw [qJ4];exact (decide_eq_false (by omega)).symm
     | cons c u hw=>
      rw [A27] at hz;cases hz
   rw [hv] at hR
   wp_walk
   exact ⟨_,rfl,by simpa [Builtin.Tuple.tupleCompareSizes] using hR⟩
  case h=>
   exact ⟨rfl,rfl,Ae.toList,items2.toList,ns,ms,rfl,hi,hj,by omega,h⟩
end
section
variable {prog:Program} {w:World} {A:Around} {E:Value->Shared->Prop} {s:Shared}
theorem cat_tup {t b:Addr} {vs ws:List Value} {Q:Value->Shared->Prop} (ht:IsTup s.heap t vs.toArray) (hb:IsTup s.heap b ws.toArray) (hv:vs ≠ [])
  (h1:ws=[]->Q (.ref t) s) (h2:ws ≠ []->Q (.ref s.heap.objs.size) { s with heap:=s.heap.push { cls:=.type "tuple",data:=.seq (vs++ws).toArray } })
  (hsz:vs.length+ws.length<=sizeLine):wpAny (model prog w) A (binaryOp .Add (.ref t) (.ref b)) Q E s:=by
 obtain ⟨⟨cls,dd,data,sl⟩,ho,hc,n,hd⟩:=id ht;obtain ⟨⟨cls2,dd2,data2,sl2⟩,ho2,hc2,n2,hd2⟩:=id hb;simp only at hc hd hc2 hd2;subst hc hd hc2 hd2;have e:vs.toArray++ws.toArray=(vs++ws).toArray:=by simp
 by_cases hw:ws=[]
 ·exact concat_meets ⟨_,ho,rfl⟩ ⟨_,ho2,rfl⟩ noFill_tuple_add seq_tuple_add h9 d4 (Z8 _ _)
   (tuple_addW1 t b vs.toArray ws.toArray n n2 dd dd2 sl sl2 (by simpa using hv) (by simp [hw])) ⟨ho,ho2,h1 hw⟩
 ·refine concat_meets ⟨_,ho,rfl⟩ ⟨_,ho2,rfl⟩ noFill_tuple_add seq_tuple_add h9 d4 (Z8 _ _)
   (tuple_addW2 t b vs.toArray ws.toArray n n2 dd dd2 sl sl2 (by simpa using hv) (by simpa using hw) (by rw [C5,C5];exact hsz)) ⟨ho,ho2,?_⟩
  rw [e];exact h2 hw
def sIx (n d:Nat):Option Int->Nat
 | none=>d
 | some v=>if v<0 then (v+(n:Int)).toNat else min v.toNat n
theorem sIx_none (n d:Nat):sIx n d none=d:=rfl
theorem sIx_nat (n d k:Nat):sIx n d (some (k:Int))=min k n:=by
 show (if (k:Int)<0 then ((k:Int)+(n:Int)).toNat else min (k:Int).toNat n)=min k n
 rw [if_neg (by omega),S0]
theorem qXR (n d:Nat) (hd:d<=n) (o:Option Int):sIx n d o<=n:=by
 cases o with
 | none=>exact hd
 | some v=>
  show (if v<0 then (v+(n:Int)).toNat else min v.toNat n)<=n
  by_cases hv:v<0
  ·rw [if_pos hv];omega
  ·rw [if_neg hv];exact Nat.min_le_right _ _
theorem qSJ (v:Int) (n d:Nat):(if v<0 then max (v+(n:Int)) 0 else min v (n:Int))=((sIx n d (some v):Nat):Int):=by
 show (if v<0 then max (v+(n:Int)) 0 else min v (n:Int))=(((if v<0 then (v+(n:Int)).toNat else min v.toNat n):Nat):Int)
 by_cases hv:v<0
 ·simp only [if_pos hv];omega
 ·simp only [if_neg hv];omega
theorem qQ8 (lo hi:Option Int) (n:Nat):m4 lo hi 1 (n:Int)=(((sIx n 0 lo:Nat):Int),((sIx n n hi:Nat):Int)):=by
 have h1:¬ ((1:Int)<0):=by omega
 unfold m4;simp only [h1,if_false];refine Prod.ext ?_ ?_
 ·cases lo with
  | none=>rfl
  | some v=>exact qSJ v n 0
 ·cases hi with
  | none=>rfl
  | some v=>exact qSJ v n n
theorem qPF (i j:Nat):O9 (i:Int) (j:Int) 1=j - i:=by
 unfold O9;have h1:(1:Int) > 0:=by omega
 simp only [h1,if_true,Int.ediv_one]
 split <;> omega
theorem qJB {v:Value} {o:Option Int} {Q:Option Int->Shared->Prop} (p:IsPart v o) (h:Q o s):wpAny (model prog w) A (Builtin.Slice.slicePartIndex v) Q E s:=by
 cases p with
 | none=>exact slicePart_none h
 | int i t=>exact slicePart_int h
theorem qED {sl:Addr} {vl vu:Value} {lo hi:Option Int} {n:Nat} {Q:Int × Int × Nat->Shared->Prop} (hs:s.heap.IsSliceOf sl vl vu .none) (pl:IsPart vl lo) (pu:IsPart vu hi)
  (h:Q (((sIx n 0 lo:Nat):Int),1,sIx n n hi - sIx n 0 lo) s):wpAny (model prog w) A (Y4 (.ref sl) (pure (n:Int))) Q E s:=by
 obtain ⟨os,hos,hcs,hds⟩:=id hs;unfold Y4 A31;refine wpAny_bind (wpAny_bind (wpAny_field hos hds (x:=vl) rfl (wpAny_bind (wpAny_field hos hds (x:=vu) rfl (wpAny_bind (wpAny_field hos hds (x:=.none) rfl (wpAny_pure ?_)))))));refine wpAny_bind (slicePart_none ?_);show wpAny _ _ (if ((1:Int) == 0)=true then _ else _) _ _ s
 rw [if_neg (by decide)]
 refine wpAny_bind (qJB pl (wpAny_bind (qJB pu (wpAny_bind (wpAny_pure ?_)))));show wpAny _ _ (match m4 lo hi 1 (n:Int) with | (lo,hi)=>pure (lo,(1:Int),O9 lo hi 1)) _ _ s
 rw [qQ8 lo hi n];show wpAny _ _ (pure (((sIx n 0 lo:Nat):Int),(1:Int),O9 ((sIx n 0 lo:Nat):Int) ((sIx n n hi:Nat):Int) 1)) _ _ s;rw [qPF];exact wpAny_pure h
theorem qTM (xs:Array Value) (i k:Nat):((J9 k).filterMap fun (m:Nat)=>xs[((i:Int)+(m:Int) * 1).toNat]?).toArray=((xs.toList.drop i).take k).toArray:=by
 have e:(fun (m:Nat)=>xs[((i:Int)+(m:Int) * 1).toNat]?)=fun m=>xs[i+m]?:=by
  funext m
  have:((i:Int)+(m:Int) * 1).toNat=i+m:=by omega
  rw [this]
 rw [e];have:=pick_run xs i k;rw [B13] at this;have e2:((fun x=>xs[x]?) ∘ fun x=>i+x)=fun m=>xs[i+m]?:=rfl;rw [e2] at this;rw [this]
theorem getItem_tuple_cut {t sl:Addr} {Ae:Array Value} {vl vu:Value} {lo hi:Option Int} {Q:Value->Shared->Prop} (ht:IsTup s.heap t Ae) (hs:s.heap.IsSliceOf sl vl vu .none) (pl:IsPart vl lo) (pu:IsPart vu hi)
  (hw:¬ (sIx Ae.size 0 lo=0/\sIx Ae.size Ae.size hi=Ae.size))
  (h:Q (.ref s.heap.objs.size) { s with heap:=s.heap.push { cls:=.type "tuple",data:=.seq ((Ae.toList.drop (sIx Ae.size 0 lo)).take (sIx Ae.size Ae.size hi - sIx Ae.size 0 lo)).toArray } })
  (hsz:Ae.size<=sizeLine):wpAny (model prog w) A (getItem (.ref t) (.ref sl)) Q E s:=by
 have htake:sizeOk (.seq ((Ae.toList.drop (sIx Ae.size 0 lo)).take (sIx Ae.size Ae.size hi - sIx Ae.size 0 lo)).toArray):=by
  show ((Ae.toList.drop (sIx Ae.size 0 lo)).take (sIx Ae.size Ae.size hi - sIx Ae.size 0 lo)).toArray.size<=sizeLine;rw [C5,E5,F5,C2];omega
 have hj:sIx Ae.size Ae.size hi<=Ae.size:=qXR _ _ (C1 _) hi;obtain ⟨os,hos,hcs,hds⟩:=id hs;have hTs:s.TypeIs (.ref sl) "slice":=⟨os,hos,hcs⟩;unfold getItem
 try with_reducible refine wpAny_holding ?_
 first | refine wpAny_bind (wpAny_pure ?_) | skip
 refine wpAny_bind (wpAny_sequenceKey ht.typeIs (by decide) ?_)
 refine wpAny_bind (wpAny_callSpecial?_slot (name:=F9 "__getitem__") ht.typeIs J2
  (wpAny_call_entry J2 ht.typeIs entry_tuple_getitem ?_ (args_tuple_getitem _ _)))
 show wpAny _ _ (l7 (.ref t) >>= _) _ _ s;refine wpAny_bind (tupleItemsOf_ ht ?_);refine wpAny_bind (wpAny_typeOf hTs ?_);rw [if_pos (by decide)]
 refine wpAny_bind (qED hs pl pu ?_);have hno:¬ ((((sIx Ae.size 0 lo:Nat):Int) == 0 && (1:Int) == 1 && (sIx Ae.size Ae.size hi - sIx Ae.size 0 lo) == Ae.size)=true):=by
  intro q;rw [E7,E7] at q;have q1:((sIx Ae.size 0 lo:Nat):Int)=0:=eq_of_beq q.1.1;have q2:sIx Ae.size Ae.size hi - sIx Ae.size 0 lo=Ae.size:=eq_of_beq q.2;exact hw ⟨by omega,by omega⟩
 show wpAny _ _ (if (((sIx Ae.size 0 lo:Nat):Int) == 0 && (1:Int) == 1 && (sIx Ae.size Ae.size hi - sIx Ae.size 0 lo) == Ae.size)=true then _ else _) _ _ s
 rw [if_neg hno,qTM]
 first
  | exact wpAny_bind (m:=M7 _) (wpAny_newObj_type (wpAny_pure ⟨_,rfl,wpAny_pure h⟩) htake)
  | exact wpAny_bind (m:=M7 _) (wpAny_newObj_type (wpAny_bind (wpAny_pure (wpAny_pure ⟨_,rfl,wpAny_pure h⟩))) htake)
  | exact wpAny_bind (wpAny_bind (m:=M7 _) (wpAny_newObj_type (wpAny_pure (wpAny_pure ⟨_,rfl,wpAny_pure h⟩)) htake))
  | exact wpAny_bind (wpAny_bind (m:=M7 _) (wpAny_newObj_type (wpAny_pure ⟨_,rfl,wpAny_pure h⟩) htake))
end
end HT
namespace L2
open PySem PySem.Spec PyProof.Rows
abbrev TO:=St->Hp->(Option Int->Hp->Prop)->Prop
def PO (X:Cx) (e:Option Expr) (t:TO):Prop:=
 ∀ (Ab:List (Addr × Obj)) (s:Shared) (σ:St) (H:Hp) (Q:Option Int->Hp->Prop),Inv X Ab σ H s->t σ H Q->
  wpAny (model X.prog X.w) X.A (evalPart e X.env) (fun u s'=>∃ o H',Inv X Ab σ H' s'/\IsPart u o/\Q o H') X.xe s
def qVR:TO:=fun _ H Q=>Q none H
def qZ2 (t:TE):TO:=fun σ H Q=>t σ H fun x H1=>∃ i,x=.int i/\Q (some i) H1
theorem qPU {ns:List Int}:∀ {us:List Value},Vals (ns.map V.int) us->IntsAre us ns:=by
 induction ns with
 | nil=>intro us r;rw [o5] at r;cases r;exact .nil
 | cons n ns ih=>
  intro us r;rw [G6] at r;cases r with
  | cons r1 r2=>
   obtain ⟨t,e⟩:=r1;subst e;exact .cons n t (ih r2)
section
variable {X:Cx} {e:Expr} {te:TE} {lo hi:Option Expr} {tl th:TO} {pos p2:Pos}
theorem qB9:PO X none qVR:=by
 intro Ab s σ H Q I h;rw [evalPart_none];exact wpAny_pure ⟨none,H,I,.none,h⟩
theorem qB4 (h:PE X e te):PO X (some e) (qZ2 te):=by
 intro Ab s σ H Q I hw;rw [evalPart_some];refine thn (h Ab s σ H _ I hw) fun u s1 ⟨x,H1,I1,r1,q1⟩=>?_;obtain ⟨i,rfl,q⟩:=q1;obtain ⟨t,rfl⟩:=r1;exact ⟨some i,H1,I1,.int i t,q⟩
def SlR (X:Cx) (r:V->Option Int->Option Int->Hp->VK->Prop):Prop:=
 ∀ (Ab:List (Addr × Obj)) (s:Shared) (σ:St) (H:Hp) (x:V) (v vl vu:Value) (lo hi:Option Int) (sl:Addr) (Q:VK),Inv X Ab σ H s->RelV x v->s.heap.IsSliceOf sl vl vu .none->IsPart vl lo->IsPart vu hi->r x lo hi H Q->
  ∃ T id,typeLookup (.type T) "__getitem__" = pure (some (.builtin id))/\s.TypeIs v T/\wpAny (model X.prog X.w) X.A (getItem v (.ref sl)) (EP X Ab σ Q) X.xe s
def tSl (r:V->Option Int->Option Int->Hp->VK->Prop) (te:TE) (tl th:TO):TE:=fun σ H Q=>te σ H fun x H1=>tl σ H1 fun l H2=>th σ H2 fun u H3=>r x l u H3 Q
theorem qAT {r:V->Option Int->Option Int->Hp->VK->Prop} (hr:SlR X r) (he:PE X e te) (hl:PO X lo tl) (hu:PO X hi th):PE X (.Subscript e (.Slice lo hi none p2) pos) (tSl r te tl th):=by
 intro Ab s σ H Q I h;refine Subscript_ (thn (he Ab s σ H _ I h) fun v s1 ⟨x,H1,I1,r1,q1⟩=>?_);refine wpAny_Slice (thn (hl Ab s1 σ H1 _ I1 q1) fun vl s2 ⟨l,H2,I2,pl,q2⟩=>thn (hu Ab s2 σ H2 _ I2 q2) fun vu s3 ⟨u,H3,I3,pu,q3⟩=>?_);rw [evalPart_none];refine wpAny_pure ?_;have I4:Inv X Ab σ H3 { s3 with heap:=s3.heap.push { cls:=.type "slice",data:=.fields #[vl,vu,.none] } }:=I3.kept (t':=s3.toks) fun b ob q=>B8 _ q;obtain ⟨T,id,hT,ht,hg⟩:=hr Ab { s3 with heap:=s3.heap.push { cls:=.type "slice",data:=.fields #[vl,vu,.none] } } σ H3 x v vl vu l u s3.heap.objs.size Q I4 r1 (B14 ..) pl pu q3;show wpAny (model X.prog X.w) X.A (subscriptTail e (.Slice lo hi none p2) v (.ref s3.heap.objs.size)) (EP X Ab σ Q) X.xe { s3 with heap:=s3.heap.push { cls:=.type "slice",data:=.fields #[vl,vu,.none] } };exact tail_any (ops:=[.ref s3.heap.objs.size,v]) ht hT hg (by with_unfolding_all rfl)
def cutV (xs:List V) (lo hi:Option Int):List V:=(xs.drop (HT.sIx xs.length 0 lo)).take (HT.sIx xs.length xs.length hi - HT.sIx xs.length 0 lo)
theorem qIQ (xs:List V) (lo hi:Option Int):(cutV xs lo hi).length<=xs.length:=by
 unfold cutV;rw [E5,F5];omega
def rSlT (K:PySem.W.Frag):V->Option Int->Option Int->Hp->VK->Prop:=fun x lo hi H Q=>∃ a xs,x=.ref a/\SqT K H a xs/\
 ¬ (HT.sIx xs.length 0 lo=0/\HT.sIx xs.length xs.length hi=xs.length)/\∀ p,H p=none->Q (.ref p) (Ah H p (.tup (cutV xs lo hi)))
theorem qKV:SlR X (rSlT X.K):=by
 intro Ab s σ H x v vl vu lo hi sl Q I rx hs pl pu h;obtain ⟨a,xs,rfl,hx,hw,q⟩:=h;cases rx;obtain ⟨its,r,ht,hz⟩:=I.tuple hx;have hlen:its.toArray.size=xs.length:=by rw [C5];exact r.length.symm
 refine ⟨"tuple",_,J2.lookup,ht.typeIs,?_⟩;refine HT.getItem_tuple_cut ht hs pl pu (by rw [hlen];exact hw) ?_ (by rw [hlen];exact hz)
 rw [hlen];refine ⟨.ref s.heap.objs.size,_,I.laid (t':=s.toks) (o:=.tup (cutV xs lo hi)) (fun b ob q=>B8 _ q) (C1 _) ?_,rfl,q _ (I.hok.fresh (C1 _))⟩;exact ⟨M6 (qIQ xs lo hi) hz,_,(r.drop (HT.sIx xs.length 0 lo)).take (HT.sIx xs.length xs.length hi - HT.sIx xs.length 0 lo),IsTup.new _ _⟩
def qXV (K:PySem.W.Frag):R2:=fun x y H Q=>∃ a b xs ys,x=.ref a/\y=.ref b/\SqT K H a xs/\SqT K H b ys/\xs ≠ []/\xs.length+ys.length<=sizeLine/\
 (ys=[]->Q (.ref a) H)/\(ys ≠ []->∀ p,H p=none->Q (.ref p) (Ah H p (.tup (xs++ys))))
theorem Vals.nil_iff {xs:List V} {us:List Value} (r:Vals xs us):us=[] ↔ xs=[]:=by
 cases r with
 | nil=>simp
 | cons _ _=>simp
theorem qK1:OpR X (binaryOp .Add) (qXV X.K):=by
 intro Ab s σ H x y v u Q I rx ry h;obtain ⟨a,b,xs,ys,rfl,rfl,ha,hb,hx,hz,q1,q2⟩:=h;cases rx;cases ry;obtain ⟨its,r1,p1,_⟩:=I.tuple ha;obtain ⟨its2,r2,p2,_⟩:=I.tuple hb;refine HT.cat_tup p1 p2 (fun z=>hx (r1.nil_iff.mp z)) (fun z=>⟨.ref a,H,I,rfl,q1 (r2.nil_iff.mp z)⟩) (fun z=>?_) (by rw [<- r1.length,<- r2.length];exact hz)
 refine ⟨.ref s.heap.objs.size,_,I.laid (t':=s.toks) (o:=.tup (xs++ys)) (fun b ob q=>B8 _ q) (C1 _) ?_,rfl,q2 (fun w=>z (r2.nil_iff.mpr w)) _ (I.hok.fresh (C1 _))⟩;exact ⟨by rw [A8];exact hz,_,r1.append r2,IsTup.new _ _⟩
end
end L2
namespace L2
open PySem PySem.Spec PyProof.Rows
def ixN (n:Nat) (i:Int):Option Nat:=if 0<=i then (if i<n then some i.toNat else none) else if -(n:Int)<=i then some (i+n).toNat else none
def atI {α:Type} (xs:List α) (i:Int):Option α:=(ixN xs.length i).bind fun j=>xs[j]?
theorem qRN {n:Nat} {i:Int} {j:Nat} (h:ixN n i=some j):seqIndex? i n=some j/\j<n/\-(n:Int)<=i/\i<n:=by
 unfold ixN at h;by_cases h0:0<=i
 ·rw [if_pos h0] at h;by_cases h1:i<n
  ·rw [if_pos h1] at h;have e:i.toNat=j:=L9 h;exact ⟨by rw [seqIndex_of h0 h1,e],by omega,by omega,h1⟩
  ·rw [if_neg h1] at h;cases h
 ·rw [if_neg h0] at h;by_cases h1 : -(n:Int)<=i
  ·rw [if_pos h1] at h;have e:(i+n).toNat=j:=L9 h;exact ⟨by rw [seqIndex_neg (by omega) h1,e],by omega,h1,by omega⟩
  ·rw [if_neg h1] at h;cases h
theorem qSX {α:Type} {xs:List α} {i:Int} {v:α} (h:atI xs i=some v):∃ j,seqIndex? i xs.length=some j/\xs[j]?=some v/\j<xs.length/\-(xs.length:Int)<=i/\i<xs.length:=by
 unfold atI at h;cases e:ixN xs.length i with
 | none=>rw [e] at h;cases h
 | some j=>
  rw [e] at h;obtain ⟨h1,h2,h3,h4⟩:=qRN e;exact ⟨j,h1,h,h2,h3,h4⟩
theorem qSW {α:Type} {xs:List α} {j:Nat} {v:α} (h:xs[j]?=some v):atI xs (j:Int)=some v:=by
 have hj:j<xs.length:=(B0.mp h).1;have e:ixN xs.length (j:Int)=some j:=by
  unfold ixN;rw [if_pos (by omega),if_pos (by omega)];simp
 unfold atI;rw [e];exact h
theorem qKK {α:Type} (xs:List α) (v:α):atI (xs++[v]) (-1)=some v:=by
 have hl:(xs++[v]).length=xs.length+1:=by simp
 have e:ixN (xs++[v]).length (-1)=some xs.length:=by
  unfold ixN;rw [hl,if_neg (by decide),if_pos (by omega)]
  congr 1;omega
 unfold atI;rw [e];show (xs++[v])[xs.length]?=some v;simp
def qX6 (b:Expr):Prop:=∀ o i,subscripted b false o i=operate [o,i] (getItem o i)
def IxR (X:Cx) (r:R2):Prop:=
 ∀ (value slice:Expr) (Ab:List (Addr × Obj)) (s:Shared) (σ:St) (H:Hp) (x y:V) (v u:Value) (Q:VK),Inv X Ab σ H s->RelV x v->RelV y u->r x y H Q->
  subscripted slice false v u=operate [v,u] (getItem v u)->wpAny (model X.prog X.w) X.A (subscriptTail value slice v u) (EP X Ab σ Q) X.xe s
def MtR (X:Cx) (id:String) (r:V->List V->Hp->VK->Prop):Prop:=
 ∀ (Ab:List (Addr × Obj)) (s:Shared) (σ:St) (H:Hp) (x:V) (xs:List V) (v:Value) (us:List Value) (Q:VK),Inv X Ab σ H s->RelV x v->Vals xs us->r x xs H Q->
  wpAny (model X.prog X.w) X.A (call (.builtin id) (v::us)) (EP X Ab σ Q) X.xe s
section
variable {X:Cx} {a b:Expr} {ta tb:TE} {pos:Pos}
theorem qC7 {r:R2} (hr:IxR X r) (ha:PE X a ta) (hb:PE X b tb) (hs:qX6 b):PE X (.Subscript a b pos) (tOp r ta tb):=by
 intro Ab s σ H Q I h;exact Subscript_ (binT ha hb I h fun v u s2 x y H2 I2 rx ry q=>hr a b Ab s2 σ H2 x y v u Q I2 rx ry q (hs _ _))
def rIxL (K:PySem.W.Frag):R2:=fun x y H Q=>∃ p xs i v,x=.ref p/\y=.int i/\SqL K H p xs/\atI xs i=some v/\Q v H
def rIxT (K:PySem.W.Frag):R2:=fun x y H Q=>∃ p xs i v,x=.ref p/\y=.int i/\SqT K H p xs/\atI xs i=some v/\Q v H
theorem qCZ:IxR X (rIxL X.K):=by
 intro value slice Ab s σ H x y v u Q I rx ry h hs;obtain ⟨p,xs,i,z,rfl,rfl,hq,he,q⟩:=h;cases rx;obtain ⟨t,rfl⟩:=ry;obtain ⟨its,r,pl,hz⟩:=I.list hq;obtain ⟨j,h1,h2,h3,h4,h5⟩:=qSX he;obtain ⟨w,ew,rw'⟩:=r.get h2;have hl:=r.length;have hn:=qLO;have fin:EP X Ab σ Q w s:=⟨z,H,I,rw',q⟩;by_cases h0:0<=i
 ·have hj:i.toNat=j:=by
   rw [seqIndex_of h0 h5] at h1;exact L9 h1
  exact item_listR pl.isList h0 (by omega) (by rw [hj];simpa using ew) fin hs
 ·have hj:(i+(its.toArray.size:Int)).toNat=j:=by
   rw [seqIndex_neg (by omega) h4] at h1
   rw [C5,<- hl];exact L9 h1
  exact subscriptTail_builtinR (x:=w) pl.isList.typeIs slot_list_getitem.lookup
   (wpAny_getItem_list_neg (Q:=fun r s'=>r=w/\EP X Ab σ Q r s') pl.isList (by omega) (by rw [C5] <;> omega) (by omega) (by rw [hj];simpa using ew) ⟨rfl,fin⟩) hs
theorem qCM:IxR X (rIxT X.K):=by
 intro value slice Ab s σ H x y v u Q I rx ry h hs;obtain ⟨p,xs,i,z,rfl,rfl,hq,he,q⟩:=h;cases rx;obtain ⟨t,rfl⟩:=ry;obtain ⟨its,r,pl,hz⟩:=I.tuple hq;obtain ⟨j,h1,h2,h3,h4,h5⟩:=qSX he;obtain ⟨w,ew,rw'⟩:=r.get h2;have hl:=r.length;have hn:=qLO;have fin:EP X Ab σ Q w s:=⟨z,H,I,rw',q⟩;exact subscriptTail_builtinR (x:=w) pl.typeIs slot_tuple_getitem.lookup
  (getItem_tuple (j:=j) (Q:=fun r s'=>r=w/\EP X Ab σ Q r s') pl (by omega) (by omega) (by rw [C5,<- hl];exact h1) (by simpa using ew) ⟨rfl,fin⟩) hs
theorem qPK (its:List Value) (n j:Nat) (u:Value):X0 (·.setIfInBounds j u) { cls:=.type "list",data:=.seq its.toArray n }={ cls:=.type "list",data:=.seq (its.set j u).toArray n }:=by
 simp [X0]
theorem Inv.lst {Ab:List (Addr × Obj)} {σ:St} {H:Hp} {s:Shared} {p:Addr} {xs:List V} (I:Inv X Ab σ H s) (h:H p=some (.lst xs)) :
  ∃ (its:List Value) (n:Nat),Vals xs its/\s.heap.get? p=some { cls:=.type "list",data:=.seq its.toArray n }/\xs.length<=sizeLine:=by
 obtain ⟨z,its,n,r,e⟩:=I.hok p _ h;exact ⟨its,n,r,e,z⟩
theorem Inv.lstUpd {Ab:List (Addr × Obj)} {σ:St} {H:Hp} {s:Shared} {p:Addr} {xs ys:List V} {its its':List Value} {n n':Nat} {f:Obj->Obj} (I:Inv X Ab σ H s) (h:H p=some (.lst xs))
  (ho:s.heap.get? p=some { cls:=.type "list",data:=.seq its.toArray n }) (hf:f { cls:=.type "list",data:=.seq its.toArray n }={ cls:=.type "list",data:=.seq its'.toArray n' }) (r:Vals ys its') (hz:ys.length<=sizeLine) (t:Nat) :
  Inv X Ab σ (Ah H p (.lst ys)) { s with heap:=s.heap.update p f,toks:=t }:=by
 have e:(s.heap.update p f).get? p=some { cls:=.type "list",data:=.seq its'.toArray n' }:=by
  rw [P6 f ho (by rw [hf] <;> rfl),hf]
 refine I.write (x:=p) (e:=p) (by rw [h];trivial) (.inl rfl) (fun b u hb q=>(M5 _ _ (M8 hb)).trans q) ⟨_,e⟩ ?_
 exact ⟨hz,its',n',r,e⟩
def qZF:V->V->V->Hp->(Hp->Prop)->Prop:=fun o i v H Q=>∃ p xs k j,o=.ref p/\i=.int k/\H p=some (.lst xs)/\ixN xs.length k=some j/\Q (Ah H p (.lst (xs.set j v)))
theorem qTD:PSet X qZF:=by
 intro Ab s σ H o i v ov iv u Q I ro ri rv h;obtain ⟨p,xs,k,j,rfl,rfl,hp,hj,q⟩:=h;cases ro;obtain ⟨t,rfl⟩:=ri;obtain ⟨its,n,r,ho,hz⟩:=I.lst hp;obtain ⟨h1,h2,h3,h4⟩:=qRN hj;have hl:=r.length;have hn:=qLO;have I':Inv X Ab σ (Ah H p (.lst (xs.set j v))) { s with heap:=s.heap.update p (X0 (·.setIfInBounds j u)) }:=
  I.lstUpd hp ho (qPK its n j u) (r.set rv j) (by rw [B57];exact hz) s.toks
 by_cases h0:0<=k
 ·have hk:k.toNat=j:=by
   rw [seqIndex_of h0 h4] at h1;exact L9 h1
  exact PySem.W.ki_setAt ho h0 (by omega) (by rw [C5,<- hl];exact h4) (by rw [hk];exact ⟨_,I',q⟩)
 ·have hk:(k+(its.toArray.size:Int)).toNat=j:=by
   rw [seqIndex_neg (by omega) h3] at h1
   rw [C5,<- hl];exact L9 h1
  exact PySem.W.ki_setBack ho (by omega) (by rw [C5,<- hl];exact h3) (by omega) (by rw [hk];exact ⟨_,I',q⟩)
theorem qKU (lo hi:Option Int) (n:Nat):(sliceBounds lo hi none n).1=((HT.sIx n 0 lo:Nat):Int)/\(sliceBounds lo hi none n).2.1=((HT.sIx n n hi:Nat):Int)/\(sliceBounds lo hi none n).2.2=1:=by
 refine ⟨?_,?_,rfl⟩
 ·cases lo with
  | none=>simp [sliceBounds,HT.sIx]
  | some i=>
   simp only [sliceBounds,HT.sIx,B42,show (1:Int) > 0 by decide,if_true]
   by_cases h:i<0
   ·simp only [h,if_true] <;> omega
   ·simp only [h,if_false] <;> omega
 ·cases hi with
  | none=>simp [sliceBounds,HT.sIx]
  | some i=>
   simp only [sliceBounds,HT.sIx,B42,show (1:Int) > 0 by decide,if_true]
   by_cases h:i<0
   ·simp only [h,if_true] <;> omega
   ·simp only [h,if_false] <;> omega
theorem qJV (its:List Value) (lo hi:Option Int):slicePick its.toArray lo hi none=((its.drop (HT.sIx its.length 0 lo)).take (HT.sIx its.length its.length hi - HT.sIx its.length 0 lo)).toArray:=by
 obtain ⟨h1,h2,h3⟩:=qKU lo hi its.toArray.size;unfold slicePick;rw [h1,h2,h3];simp only [sliceRange_one,pick_run,C5] <;> rfl
def rSlL (K:PySem.W.Frag):V->Option Int->Option Int->Hp->VK->Prop:=fun x lo hi H Q=>∃ a xs,x=.ref a/\SqL K H a xs/\∀ p,H p=none->Q (.ref p) (Ah H p (.lst (cutV xs lo hi)))
theorem qDH:SlR X (rSlL X.K):=by
 intro Ab s σ H x v vl vu lo hi sl Q I rx hs pl pu h;obtain ⟨a,xs,rfl,hx,q⟩:=h;cases rx;obtain ⟨its,r,ht,hz⟩:=I.list hx;have hlen:=r.length;refine ⟨"list",_,slot_list_getitem.lookup,ht.isList.typeIs,?_⟩;refine wpAny_getItem_list_slice ht.isList hs pl pu .none (by simp) ?_ (by rw [C5] <;> omega)
 rw [qJV,<- hlen];refine ⟨.ref s.heap.objs.size,_,I.laid (t':=s.toks) (o:=.lst (cutV xs lo hi)) (fun b ob q=>B8 _ q) (C1 _) ?_,rfl,q _ (I.hok.fresh (C1 _))⟩;exact ⟨M6 (qIQ xs lo hi) hz,_,0,(r.drop (HT.sIx xs.length 0 lo)).take (HT.sIx xs.length xs.length hi - HT.sIx xs.length 0 lo),D4 _ rfl⟩
def qK9:V->Bool
 | .non=>true
 | .bl _=>true
 | .int _=>true
 | .str _=>true
 | _=>false
def eqV:V->V->Bool
 | .non,.non=>true
 | .bl a,.bl b=>a == b
 | .bl a,.int b=>(if a then 1 else 0) == b
 | .int a,.bl b=>a == (if b then 1 else 0)
 | .int a,.int b=>a == b
 | .str a,.str b=>a == b
 | _,_=>false
theorem qYS {A:Around} {s:Shared} {y x:V} {u v:Value} (ry:RelV y u) (rx:RelV x v) (fy:qK9 y=true) (fx:qK9 x=true):SeqAt.EqAt A s u v (eqV y x):=by
 cases y with
 | non=>
  cases ry;cases x with
  | non=>cases rx;exact SeqAt.EqAt.same _
  | bl b=>cases rx;exact SeqAt.EqAt.none_bool b
  | int b=>obtain ⟨t,rfl⟩:=rx;exact SeqAt.EqAt.none_int b t
  | str b=>obtain ⟨t,rfl⟩:=rx;exact SeqAt.EqAt.none_str b t
  | _=>exact absurd (show false=true from fx) C6
 | bl a=>
  cases ry;cases x with
  | non=>cases rx;exact SeqAt.EqAt.bool_none a
  | bl b=>cases rx;exact SeqAt.EqAt.bool_bool a b
  | int b=>obtain ⟨t,rfl⟩:=rx;exact SeqAt.EqAt.bool_int a b t
  | str b=>obtain ⟨t,rfl⟩:=rx;exact SeqAt.EqAt.bool_str a b t
  | _=>exact absurd (show false=true from fx) C6
 | int a=>
  obtain ⟨t',rfl⟩:=ry;cases x with
  | non=>cases rx;exact SeqAt.EqAt.int_none a t'
  | bl b=>cases rx;exact SeqAt.EqAt.int_bool a t' b
  | int b=>obtain ⟨t,rfl⟩:=rx;exact B12 a t' b t
  | str b=>obtain ⟨t,rfl⟩:=rx;exact B09 a t' b t
  | _=>exact absurd (show false=true from fx) C6
 | str a=>
  obtain ⟨t',rfl⟩:=ry;cases x with
  | non=>cases rx;exact SeqAt.EqAt.str_none a t'
  | bl b=>cases rx;exact SeqAt.EqAt.str_bool a t' b
  | int b=>obtain ⟨t,rfl⟩:=rx;exact B10 a t' b t
  | str b=>obtain ⟨t,rfl⟩:=rx;exact SeqAt.EqAt.str_str a t' b t
  | _=>exact absurd (show false=true from fx) C6
 | _=>exact absurd (show false=true from fy) C6
def eqU (x:V) (u:Value):Bool:=match u with
 | .none=>eqV .non x
 | .bool b=>eqV (.bl b) x
 | .int i _=>eqV (.int i) x
 | .str z _=>eqV (.str z) x
 | _=>false
theorem qVC {x y:V} {u:Value} (r:RelV y u) (f:qK9 y=true):eqU x u=eqV y x:=by
 cases y with
 | non=>cases r;rfl
 | bl b=>cases r;rfl
 | int i=>obtain ⟨t,rfl⟩:=r;rfl
 | str z=>obtain ⟨t,rfl⟩:=r;rfl
 | _=>exact absurd (show false=true from f) C6
theorem qIY {x:V}:∀ {xs:List V} {us:List Value},Vals xs us->xs.all qK9=true->us.any (eqU x)=xs.any fun y=>eqV y x
 | _,_,.nil,_=>rfl
 | y::xs,u::us,.cons r t,f=>by
  rw [A46,E7] at f;rw [o9,o9,qVC r f.1,qIY t f.2]
theorem qFX {A:Around} {s:Shared} {x:V} {v:Value} (rx:RelV x v) (fx:qK9 x=true):∀ {xs:List V} {us:List Value},Vals xs us->xs.all qK9=true->∀ u ∈ us,SeqAt.EqAt A s u v (eqU x u)
 | _,_,.nil,_=>fun u hu=>by cases hu
 | y::xs,u::us,.cons r t,f=>fun u' hu=>by
  rw [A46,E7] at f;rcases D9.mp hu with rfl | hu
  ·rw [qVC r f.1];exact qYS r rx f.1 fx
  ·exact qFX rx fx t f.2 u' hu
def inV (x:V) (xs:List V):Bool:=xs.any fun y=>eqV y x
def rIn (K:PySem.W.Frag) (neg:Bool):R2:=fun x y H Q=>∃ p xs,y=.ref p/\(SqL K H p xs\/SqT K H p xs)/\qK9 x=true/\xs.all qK9=true/\Q (.bl (if neg then !inV x xs else inV x xs)) H
theorem qLG:OpR X (compareOp .In) (rIn X.K false):=by
 intro Ab s σ H x y v u Q I rx ry h;obtain ⟨p,xs,rfl,hq,fx,fs,q⟩:=h;cases ry;rcases hq with hq | hq
 ·obtain ⟨its,r,pl,hz⟩:=I.list hq;refine SeqAt.in_listAt (eqU x) pl.isList (fun w hw=>qFX rx fx r fs w (by simpa using hw)) ⟨.bl _,H,I,rfl,?_⟩
  rw [show its.toArray.any (eqU x)=its.any (eqU x) by simp,qIY r fs]
  exact q
 ·obtain ⟨its,r,pl,hz⟩:=I.tuple hq;refine SeqAt.in_tupleAt (eqU x) pl (fun w hw=>qFX rx fx r fs w (by simpa using hw)) ⟨.bl _,H,I,rfl,?_⟩
  rw [show its.toArray.any (eqU x)=its.any (eqU x) by simp,qIY r fs]
  exact q
theorem qCE:OpR X (compareOp .NotIn) (rIn X.K true):=by
 intro Ab s σ H x y v u Q I rx ry h;obtain ⟨p,xs,rfl,hq,fx,fs,q⟩:=h;cases ry;rcases hq with hq | hq
 ·obtain ⟨its,r,pl,hz⟩:=I.list hq;refine SeqAt.notIn_listAt (eqU x) pl.isList (fun w hw=>qFX rx fx r fs w (by simpa using hw)) ⟨.bl _,H,I,rfl,?_⟩
  rw [show its.toArray.any (eqU x)=its.any (eqU x) by simp,qIY r fs]
  exact q
 ·obtain ⟨its,r,pl,hz⟩:=I.tuple hq;refine SeqAt.notIn_tupleAt (eqU x) pl (fun w hw=>qFX rx fx r fs w (by simpa using hw)) ⟨.bl _,H,I,rfl,?_⟩
  rw [show its.toArray.any (eqU x)=its.any (eqU x) by simp,qIY r fs]
  exact q
theorem qAH:qCI X (.builtin "len") (fun xs H Q=>∃ p ys,xs=[.ref p]/\(SqL X.K H p ys\/SqT X.K H p ys)/\Q (.int ys.length) H):=by
 intro Ab s σ H xs us Q I r h;obtain ⟨p,ys,rfl,hq,q⟩:=h;obtain ⟨u,rfl,rx⟩:=qEI r;cases rx;have hn:=qLO;rcases hq with hq | hq
 ·obtain ⟨its,r',pl,hz⟩:=I.list hq;have hlen:=r'.length;exact Calls.call_len_list pl.isList (by simp only [C5] <;> omega) ⟨.int ys.length,H,I.tok _,⟨s.toks+1,by rw [C5,hlen]⟩,q⟩
 ·obtain ⟨its,r',pl,hz⟩:=I.tuple hq;have hlen:=r'.length;exact len_tuple pl (by simp only [C5] <;> omega) ⟨.int ys.length,H,I.tok _,⟨s.toks+1,by rw [C5,hlen]⟩,q⟩
theorem qHA:qCI X (.type "list") (fun xs H Q=>∃ p ys,xs=[.ref p]/\(SqL X.K H p ys\/SqT X.K H p ys)/\∀ l,H l=none->Q (.ref l) (Ah H l (.lst ys))):=by
 intro Ab s σ H xs us Q I r h;obtain ⟨p,ys,rfl,hq,q⟩:=h;obtain ⟨u,rfl,rx⟩:=qEI r;cases rx;have fin:∀ (its:List Value),Vals ys its->ys.length<=sizeLine->∀ (h':Heap) (c':Nat),(∀ b o',s.heap.get? b=some o'->h'.get? b=some o')->
   h'.get? s.heap.objs.size=some { cls:=.type "list",dict:=none,data:=.seq its.toArray c',slots:=#[] }->EP X Ab σ Q (.ref s.heap.objs.size) { s with heap:=h' }:=fun its r' hz h' c' kp e=>
  ⟨.ref s.heap.objs.size,_,I.laid (t':=s.toks) kp (C1 _) (show ObjOk X.prog X.w _ h' _ (.lst ys) from ⟨hz,its,c',r',e⟩),rfl,q _ (I.hok.fresh (C1 _))⟩
 rcases hq with hq | hq
 ·obtain ⟨its,r',pl,hz⟩:=I.list hq;have hlen:=r'.length;obtain ⟨o,ho,hc,n,hd⟩:=pl.isList;exact call_list_seq p (.inl rfl) ho hc hd (fun h' c' kp e=>fin its r' hz h' c' kp e) (by simp only [C5] <;> omega)
 ·obtain ⟨its,r',pl,hz⟩:=I.tuple hq;have hlen:=r'.length;obtain ⟨o,ho,hc,n,hd⟩:=pl;exact call_list_seq p (.inr rfl) ho hc hd (fun h' c' kp e=>fin its r' hz h' c' kp e) (by simp only [C5] <;> omega)
theorem qAM:qCI X (.type "tuple") (fun xs H Q=>∃ p ys,xs=[.ref p]/\((SqL X.K H p ys/\∀ l,H l=none->Q (.ref l) (Ah H l (.tup ys)))\/(SqT X.K H p ys/\Q (.ref p) H))):=by
 intro Ab s σ H xs us Q I r h;obtain ⟨p,ys,rfl,h⟩:=h;obtain ⟨u,rfl,rx⟩:=qEI r;cases rx;rcases h with ⟨hq,q⟩ | ⟨hq,q⟩
 ·obtain ⟨its,r',pl,hz⟩:=I.list hq;have hlen:=r'.length;refine call_tuple_list pl.isList (fun h' kp=>?_) (by simp only [C5] <;> omega)
  have I1:Inv X Ab σ H { s with heap:=h' }:=I.kept (t':=s.toks) kp;have I2:Inv X Ab σ (Ah H h'.objs.size (.tup ys)) { s with heap:=h'.push { cls:=.type "tuple",data:=.seq its.toArray } }:=
   I1.laid (t':=s.toks) (fun b o e=>B8 _ e) (C1 _) (show ObjOk X.prog X.w _ _ _ (.tup ys) from ⟨hz,its,r',IsTup.new _ _⟩)
  exact ⟨.ref h'.objs.size,_,I2,rfl,q _ (I1.hok.fresh (C1 _))⟩
 ·obtain ⟨its,r',pl,hz⟩:=I.tuple hq;exact call_tuple_same pl ⟨.ref p,H,I,rfl,q⟩
def tyV (K:PySem.W.Frag) (T:String) (x:V) (H:Hp):Prop:=match x with
 | .str _=>T = "str"
 | .int _=>T = "int"
 | .ref p=>(T = "list"/\∃ xs,SqL K H p xs)\/(T = "tuple"/\∃ o,K.lookup p=some o/\o.cls=.type "tuple"/\o.dict=none)\/
   (T = "dict"/\((∃ Ag,H p=some (.dK Ag))\/∃ Ag,H p=some (.dT Ag)))\/(T = "set"/\∃ S n,H p=some (.set S n))
 | _=>False
theorem qUO {Ab:List (Addr × Obj)} {σ:St} {H:Hp} {s:Shared} {T:String} {x:V} {v:Value} (I:Inv X Ab σ H s) (r:RelV x v) (ty:tyV X.K T x H) :
  s.TypeIs v T/\∀ a,v=.ref a->∃ ob,s.heap.get? a=some ob/\ob.dict=none:=by
 cases x with
 | str z=>
  obtain ⟨t,rfl⟩:=r;cases (show T = "str" from ty);exact ⟨typeIs_str s z t,fun _ e=>nomatch e⟩
 | int i=>
  obtain ⟨t,rfl⟩:=r;cases (show T = "int" from ty);exact ⟨typeIs_int s i t,fun _ e=>nomatch e⟩
 | ref p=>
  cases r;rcases ty with ⟨rfl,xs,hq⟩ | ⟨rfl,o,hk,hc,hd⟩ | ⟨rfl,hk⟩ | ⟨rfl,S,n,hk⟩
  ·obtain ⟨its,_,pl,_⟩:=I.list hq;refine ⟨pl.isList.typeIs,fun a e=>?_⟩;cases e;obtain ⟨o,n,e,c,hd,_⟩:=pl;exact ⟨o,e,hd⟩
  ·refine ⟨⟨o,I.kIn p o hk,hc⟩,fun a e=>?_⟩;cases e;exact ⟨o,I.kIn _ o hk,hd⟩
  ·have z:∃ o,s.heap.get? p=some o/\o.ExactDict:=by
    rcases hk with ⟨Ag,hk⟩ | ⟨Ag,hk⟩
    ·obtain ⟨_,_,_,_,o,_,_,e,ex,_⟩:=I.hok p _ hk;exact ⟨o,e,ex⟩
    ·obtain ⟨_,_,_,_,o,_,_,e,ex,_⟩:=I.hok p _ hk;exact ⟨o,e,ex⟩
   obtain ⟨o,e,ex⟩:=z;refine ⟨⟨o,e,ex.1⟩,fun a e2=>?_⟩;cases e2;exact ⟨o,e,ex.2.1⟩
  ·obtain ⟨o,_,_,_,e,ex,_⟩:=I.hok p _ hk;refine ⟨⟨o,e,ex.1⟩,fun a e2=>?_⟩;cases e2;exact ⟨o,e,ex.2.1⟩
 | _=>exact k8 ty
def tBM0 (K:PySem.W.Frag) (T:String) (r:V->List V->Hp->VK->Prop) (to:TE):TE:=fun σ H Q=>to σ H fun x H1=>tyV K T x H1/\r x [] H1 Q
def tBM (K:PySem.W.Frag) (T:String) (r:V->List V->Hp->VK->Prop) (to:TE) (t:TA):TE:=fun σ H Q=>to σ H fun x H1=>tyV K T x H1/\t σ H1 fun xs H2=>r x xs H2 Q
variable {o e:Expr} {es:List Expr} {to:TE} {t:TA} {name:Str} {apos cpos:Pos} {T id:String} {r:V->List V->Hp->VK->Prop}
theorem qUZ (pa:PlainAttrs T) (slot:Slot T name id) (hty:typeOf (.builtin id)=pure (.type "method_descriptor")) (hm:MtR X id r) (ho:PE X o to)
  (hbase:attributeBase o name X.env (eval o X.env)=eval o X.env:=by rfl) (hline:(apos.endLine == cpos.line)=true:=by rfl):PE X (.Call (.Attribute o name apos) [] [] cpos) (tBM0 X.K T r to):=by
 intro Ab s σ H Q I h;refine wpAny_Call_method0_late hbase hline (thn (ho Ab s σ H _ I h) fun v s1 ⟨x,H1,I1,r1,ty,q1⟩=>?_);obtain ⟨h1,h2⟩:=qUO I1 r1 ty;exact ⟨T,id,pa,slot,hty,h1,h2,A64 rfl (PySem.evalArgs_none (hm Ab s1 σ H1 x [] v [] Q I1 r1 .nil q1))⟩
theorem qHK (pa:PlainAttrs T) (slot:Slot T name id) (hty:typeOf (.builtin id)=pure (.type "method_descriptor")) (hm:MtR X id r) (ho:PE X o to) (ha:PA X (e::es) t)
  (hbase:attributeBase o name X.env (eval o X.env)=eval o X.env:=by rfl)
  (hfew:((backTo cpos (starEach (e::es) X.env)).all (fun x=>!x.1) && (backToKw cpos (keywordEach [] X.env)).all (fun x=>x.1.isSome)
   && decide ((e::es).length+([]:List Keyword).length+(if ([]:List Keyword).isEmpty then 0 else 1)<30))=true:=by rfl)
  (hline:(apos.endLine == cpos.line)=true:=by rfl) (hs:starEach (e::es) X.env=(false,eval e X.env)::starEach es X.env:=by rfl) (hplain:(backTo cpos (starEach es X.env)).any (·.1)=false:=by rfl) :
  PE X (.Call (.Attribute o name apos) (e::es) [] cpos) (tBM X.K T r to t):=by
 intro Ab s σ H Q I h;refine wpAny_Call_method_late hbase hfew hline rfl (thn (ho Ab s σ H _ I h) fun v s1 ⟨x,H1,I1,r1,ty,q1⟩=>?_);obtain ⟨h1,h2⟩:=qUO I1 r1 ty;refine ⟨T,id,pa,slot,hty,h1,h2,?_⟩;have hA:=ha cpos Ab s1 σ H1 _ I1 q1;rw [hs] at hA ⊢;refine A64 (by show (false || (backTo cpos (starEach es X.env)).any (·.1))=false;rw [hplain] <;> rfl) (Calls.evalArgs_plain ?_)
 exact thn hA fun us s2 ⟨vs,H2,I2,r2,q2⟩=>hm Ab s2 σ H2 x vs v us Q I2 r1 r2 q2
end
end L2
namespace L2
open PySem PySem.Spec PyProof.Rows
def MtM (X:Cx) (id:String) (r:V->List V->Hp->VK->Prop):Prop:=
 ∀ (Ab:List (Addr × Obj)) (s:Shared) (σ:St) (H:Hp) (x:V) (xs:List V) (v:Value) (us:List Value) (Q:VK),Inv X Ab σ H s->RelV x v->Vals xs us->r x xs H Q->
  wpAny (model X.prog X.w) X.A (call (.builtin id) (v::us)) (EP X Ab σ Q) X.xe s
theorem Vals.one:∀ {x:V} {us:List Value},Vals [x] us->∃ u,us=[u]/\RelV x u
 | _,_,.cons r .nil=>⟨_,rfl,r⟩
theorem Vals.zero:∀ {us:List Value},Vals [] us->us=[]
 | _,.nil=>rfl
theorem Vals.dropLast {xs:List V} {us:List Value} (h:Vals xs us):Vals xs.dropLast us.dropLast:=by
 induction h with
 | nil=>exact .nil
 | cons r t ih=>
  cases t with
  | nil=>exact .nil
  | cons q t'=>exact .cons r ih
theorem Vals.eraseIdx:∀ {xs:List V} {us:List Value} (i:Nat),Vals xs us->Vals (xs.eraseIdx i) (us.eraseIdx i)
 | _,_,_,.nil=>.nil
 | _,_,0,.cons _ t=>t
 | _,_,i+1,.cons r t=>.cons r (Vals.eraseIdx i t)
theorem Vals.reverse {xs:List V} {us:List Value} (h:Vals xs us):Vals xs.reverse us.reverse:=by
 induction h with
 | nil=>exact .nil
 | cons r t ih=>rw [k9,k9];exact Vals.append ih (.cons r .nil)
theorem Vals.rep {xs:List V} {us:List Value} (h:Vals xs us):∀ k:Nat,Vals (O8 k xs).flatten (O8 k us).flatten
 | 0=>.nil
 | k+1=>by
  rw [d5,d5,Q0,Q0];exact Vals.append h (Vals.rep h k)
theorem qPX {α:Type} (l:List α):l.eraseIdx (l.length - 1)=l.dropLast:=by
 induction l with
 | nil=>rfl
 | cons a r ih=>
  cases r with
  | nil=>rfl
  | cons b r=>
   have e:(a::b::r).length - 1=((b::r).length - 1)+1:=by
    have h1:(a::b::r).length=r.length+2:=rfl;have h2:(b::r).length=r.length+1:=rfl;omega
   rw [e,A47,ih]
   all_goals rfl
theorem qLQ {α:Type}:∀ (l:List α) (i:Nat),(l.eraseIdx i).length<=l.length
 | [],_=>C1 _
 | _::_,0=>i9 _
 | _::r,i+1=>Nat.succ_le_succ (qLQ r i)
theorem qM0 (its:List Value):∀ (k:Nat) (acc:List Value),
  B76 (fun x1 x2=>x1++x2) acc.toArray (O8 k its.toArray)=(acc++(O8 k its).flatten).toArray
 | 0,acc=>by simp
 | k+1,acc=>by
  have e:acc.toArray++its.toArray=(acc++its).toArray:=by simp
  have e2:(acc++its)++(O8 k its).flatten=acc++(O8 (k+1) its).flatten:=by
   rw [d5,Q0,P0]
  rw [<- e2,<- qM0 its k (acc++its),<- e,d5,X8]
section
variable {X:Cx} {Ab:List (Addr × Obj)} {σ:St} {H:Hp} {s:Shared} {l b:Addr} {xs ys zs:List V}
theorem Inv.lset {its its':List Value} {n:Nat} {f:Array Value->Array Value} {t':Nat} (I:Inv X Ab σ H s) (hH:H l=some (.lst xs))
  (e:s.heap.get? l=some { cls:=.type "list",data:=.seq its.toArray n }) (hf:f its.toArray=its'.toArray) (hv:Vals ys its') (hz:ys.length<=sizeLine) :
  Inv X Ab σ (Ah H l (.lst ys)) { s with heap:=s.heap.update l (X0 f),toks:=t' }:=by
 have q:=PySem.IsL.update e f;rw [hf] at q;refine I.write (x:=l) (e:=l) (by rw [hH];exact trivial) (.inl rfl) (fun b' u hb hu=>(M5 s.heap (X0 f) (M8 hb)).trans hu) ⟨_,q⟩ ?_
 exact ⟨hz,its',_,hv,q⟩
theorem Inv.lnew {its:List Value} {t':Nat} (I:Inv X Ab σ H s) (hv:Vals ys its) (hz:ys.length<=sizeLine) :
  Inv X Ab σ (Ah H s.heap.objs.size (.lst ys)) { s with heap:=s.heap.push { cls:=.type "list",data:=.seq its.toArray },toks:=t' }:=
 I.laid (fun _ _ q=>B8 _ q) (C1 _) ⟨hz,its,0,hv,D4 _ rfl⟩
theorem Inv.fresh (I:Inv X Ab σ H s):H s.heap.objs.size=none:=I.hok.fresh (C1 _)
theorem Inv.lstM (I:Inv X Ab σ H s) (hH:H l=some (.lst xs)):xs.length<=sizeLine/\∃ (its:List Value) (n:Nat),Vals xs its/\xs.length=its.length/\s.heap.get? l=some { cls:=.type "list",data:=.seq its.toArray n }:=by
 obtain ⟨z,its,n,r,e⟩:=I.hok l _ hH;exact ⟨z,its,n,r,r.length,e⟩
theorem qK2 {n:Nat} (h:n<=sizeLine):T0 n=false:=by
 unfold T0;exact decide_eq_false (by omega)
end
section
variable {X:Cx}
def qVY:V->List V->Hp->VK->Prop:=fun x vs H Q=>∃ l xs y,x=.ref l/\vs=[y]/\H l=some (.lst xs)/\xs.length<sizeLine/\Q .non (Ah H l (.lst (xs++[y])))
theorem qC0:MtM X "list.append" qVY:=by
 intro Ab s σ H x vs v us Q I rx rv h;obtain ⟨l,xs,y,rfl,rfl,hH,hz,q⟩:=h;cases rx;obtain ⟨u,rfl,ru⟩:=rv.one;obtain ⟨z,its,n,r,hl,e⟩:=I.lstM hH;refine call_meets F.slot_list_append ⟨_,e,rfl⟩ F.entry_list_append (F.args_list_append_2 _ _) (PySem.list_append l its.toArray n u (by rw [C5];omega)) ⟨e,?_⟩
 refine ⟨.non,_,I.lset (its':=its++[u]) hH e (by simp) (r.append (.cons ru .nil)) ?_,rfl,q⟩
 rw [A8,D5];omega
def qVX:V->List V->Hp->VK->Prop:=fun x vs H Q=>∃ l b xs zs,x=.ref l/\vs=[.ref b]/\H l=some (.lst xs)/\H b=some (.lst zs)/\xs.length+zs.length<=sizeLine/\Q .non (Ah H l (.lst (xs++zs)))
theorem qLJ:MtM X "list.extend" qVX:=by
 intro Ab s σ H x vs v us Q I rx rv h;obtain ⟨l,b,xs,zs,rfl,rfl,hH,hB,hz,q⟩:=h;cases rx;obtain ⟨u,rfl,ru⟩:=rv.one;cases ru;obtain ⟨z,its,n,r,hl,e⟩:=I.lstM hH;obtain ⟨z2,its2,n2,r2,hl2,e2⟩:=I.lstM hB;have hsz:its.toArray.size+its2.toArray.size<=sizeLine:=by rw [C5,C5];omega
 have hlong:¬ (!its.toArray.isEmpty && T0 (its.toArray.size+its2.toArray.size))=true:=by
  rw [qK2 hsz,P8];exact C6
 refine call_meets B15 ⟨_,e,rfl⟩ B01 (A87 _ _)
  (AutoSeq1.list_extend_list_list_0 l its.toArray n b its2.toArray n2 hlong (by rw [C5];omega) (by omega)) ⟨e,e2,?_⟩
 refine ⟨.non,_,I.lset (its':=its++its2) hH e (by simp) (r.append r2) ?_,rfl,q⟩
 rw [A8];omega
def rPop:V->List V->Hp->VK->Prop:=fun x vs H Q=>∃ l xs y,x=.ref l/\vs=[]/\H l=some (.lst xs)/\xs[xs.length - 1]?=some y/\Q y (Ah H l (.lst xs.dropLast))
theorem qV3:MtM X "list.pop" rPop:=by
 intro Ab s σ H x vs v us Q I rx rv h;obtain ⟨l,xs,y,rfl,rfl,hH,hy,q⟩:=h;cases rx;have hus:=rv.zero;subst hus;obtain ⟨z,its,n,r,hl,e⟩:=I.lstM hH;obtain ⟨u,hu,ru⟩:=r.get hy;have hy':its.toArray[its.toArray.size - 1]?=some u:=by
  show its.toArray[its.length - 1]?=some u;rw [<- F2,<- hl];exact hu
 refine call_meets F.slot_list_pop ⟨_,e,rfl⟩ F.entry_list_pop (F.args_list_pop_1 _) (MeetsSeq.list_pop_last l its.toArray n u hy' (by rw [C5];omega)) ⟨e,?_⟩
 refine ⟨y,_,I.lset (its':=its.dropLast) hH e ?_ r.dropLast ?_,ru,q⟩
 ·show its.toArray.eraseIdxIfInBounds (its.toArray.size - 1)=its.dropLast.toArray;rw [C5,v9,qPX]
 ·rw [List.length_dropLast];omega
def rCat:R2:=fun x y H Q=>∃ l b xs zs,x=.ref l/\y=.ref b/\H l=some (.lst xs)/\H b=some (.lst zs)/\xs.length+zs.length<=sizeLine/\∀ p,H p=none->Q (.ref p) (Ah H p (.lst (xs++zs)))
theorem qD8:OpR X (binaryOp .Add) rCat:=by
 intro Ab s σ H x y v u Q I rx ry h;obtain ⟨l,b,xs,zs,rfl,rfl,hH,hB,hz,q⟩:=h;cases rx;cases ry;obtain ⟨z,its,n,r,hl,e⟩:=I.lstM hH;obtain ⟨z2,its2,n2,r2,hl2,e2⟩:=I.lstM hB;refine PySem.P.add_list e e2 ?_ (by rw [C5,C5];omega)
 have ea:its.toArray++its2.toArray=(its++its2).toArray:=by simp
 rw [ea];exact ⟨.ref _,_,I.lnew (t':=s.toks) (r.append r2) (by rw [A8];omega),rfl,q _ I.fresh⟩
def rRep:R2:=fun x y H Q=>∃ l k xs,x=.ref l/\y=.int k/\H l=some (.lst xs)/\-(2 ^ 63)<=k/\k<2 ^ 63/\xs.length * k.toNat<=sizeLine/\
 ∀ p,H p=none->Q (.ref p) (Ah H p (.lst (O8 k.toNat xs).flatten))
theorem qWC {α:Type} (xs:List α) (k:Nat):(O8 k xs).flatten.length=k * xs.length:=by
 induction k with
 | zero=>simp
 | succ k ih=>rw [d5,Q0,A8,ih,Nat.succ_mul,j4]
theorem qV1:OpR X (binaryOp .Mult) rRep:=by
 intro Ab s σ H x y v u Q I rx ry h;obtain ⟨l,k,xs,rfl,rfl,hH,h1,h2,hz,q⟩:=h;cases rx;obtain ⟨t,rfl⟩:=ry;obtain ⟨z,its,n,r,hl,e⟩:=I.lstM hH;have hlen:its.toArray.size * k.toNat<=sizeLine:=by rw [C5,<- hl];exact hz
 have hcap:¬ its.toArray.size * k.toNat > (2 ^ 63 - 1) / 8:=by
  have:(sizeLine:Nat)<=(2 ^ 63 - 1) / 8:=by decide
  omega
 have hfit:¬ (!Builtin.List.listFitsIndex k)=true:=by
  rw [fitsIndex_both h1 h2];exact C6
 have hlong:¬ T0 (its.toArray.size * k.toNat)=true:=by
  rw [qK2 hlen];exact C6
 have hnew:B76 (fun x1 x2=>x1++x2) #[] (O8 (if its.toArray.isEmpty=true then 0 else k.toNat) its.toArray)=(O8 k.toNat its).flatten.toArray:=by
  have f0:∀ m:Nat,B76 (fun x1 x2=>x1++x2) #[] (O8 m its.toArray)=(O8 m its).flatten.toArray:=fun m=>by
   have:=qM0 its m [];rw [List.nil_append] at this;exact this
  rw [f0];cases its with
  | nil=>simp
  | cons a r'=>rw [if_neg (by simp)]
 refine wpAny_binaryOp_repeat_ref (T:="list") (U:="int") (by decide) ⟨_,e,rfl⟩ (fun s'=>typeIs_int s' k t) noFill_list_mul F.fills_int_mul F.slot_int_rmul repeat_list F.slot_int_index.lookup
  (call_meets F.slot_int_rmul (typeIs_int s k t) F.entry_int_rmul (F.args_int_rmul_2 _ _) (int___rmul___int_list k t l its.toArray n)
   ⟨e,rfl,⟨_,e,rfl⟩,call_meets F.slot_list_mul ⟨_,e,rfl⟩ F.entry_list_mul (F.args_list_mul_2 _ _) (AutoListH.list___mul___list_int_3 l its.toArray n k t hfit hcap hlong) ⟨e,?_⟩⟩)
 rw [hnew];exact ⟨.ref _,_,I.lnew (t':=s.toks) (r.rep k.toNat) (by rw [qWC,c6];exact hz),rfl,q _ I.fresh⟩
end
section
variable {prog:Program} {w:World} {A:Around} {E:Value->Shared->Prop} {s:Shared}
set_option maxRecDepth 100000 in
end
section
variable {X:Cx}
end
end L2
namespace Att
open PySem PySem.W PySem.Calls PyProof.Rows
theorem qIH {P:Params} {h:Heap}:∀ (ns:List Int) (vs:List Value),WellAll P h vs (ns.map WData.int)->IntsAre vs ns:=by
 intro ns
 induction ns with
 | nil=>
  intro vs w;rw [o5] at w;cases w;exact .nil
 | cons n ns ih=>
  intro vs w;rw [G6] at w;cases w with
  | cons a b=>
   cases a;exact .cons _ _ (ih _ b)
theorem qQX {l:OpenLaw} {n:Nat} (hn:l.most=some n) {P:Params} {h:Heap} {args:List WData} {vals:List Value}
  (hpre:l.row.toRowW.claim.pre args=true) (hwl:WellAll P h vals args) :
  ∃ a vs ns,vals=[F3 a]/\args=[WData.list (ns.map WData.int)]/\h.get? a=some { cls:=.type "list",data:=.seq vs.toArray }/\IntsAre vs ns/\ns.length<=n:=by
 have hsh:WShape.hasAll [] args [.list .int]=true:=(pre_splitW hpre).1;have hc:l.pre.holds [] { args:=args }=true:=(pre_splitW hpre).2;obtain ⟨d,r,rfl,h1,h2⟩:=hasAllW_cons hsh;obtain rfl:=hasAllW_nil h2;obtain ⟨xs,rfl,h3⟩:=hasW_list h1;obtain ⟨ns,rfl⟩:=items_int h3;have hlen:ns.length<=n:=by
  unfold OpenLaw.pre at hc;have h4:(WTm.not (.lt (.lit (.int (n:Int))) (.len (.arg 0)))).holds [] { args:=[.list (ns.map .int)] }=true:=by
   have h4:=(holds_andW hc).1;rw [hn] at h4;exact h4
  have h5:=condW_of h4 (w_not (w_lt w_lit (w_len_list (w_arg rfl))));rw [A0] at h5;refine d9 fun q=>?_;have q':(n:Int)<((ns.length:Nat):Int):=by omega
  first
   | (rw [decide_eq_true q'] at h5;exact absurd h5 (by decide))
   | (simp at h5;omega)
 cases hwl with
 | cons w1 w2=>
  cases w2;cases w1 with
  | list ho hall=>exact ⟨_,_,ns,rfl,rfl,ho,qIH ns _ hall,hlen⟩
theorem qR0 (l:OpenLaw) (args:List WData):l.row.toRowW.claim.post args (.bool true) args=true:=
 postW_of (r:=l.row.toRowW) (X:=(true == true))
  (show WShape.has [] (.bool true) .bool=true by first | rfl | decide | simp [WShape.has,WShape.arms,WShape.armsAll])
  (show (WTm.eq .res (.lit (.bool true))).value [] { args:=args,res:=some (.bool true),after:=args }=some (.bool (true == true)) from w_eq_bool (w_res rfl) w_lit) rfl
theorem attach_call {l:OpenLaw} {n:Nat} {q:Program} {loose:List Str} {XP:(Str->Option Value)->Heap->Prop} {YP:World->Heap->Prop} {d:DefRec}
  (hn:l.most=some n) (hdf:d.params.defaults=[])
  (call:∀ (w:World) (s₀ s₁:Shared) (mg mb:Str->Option Value) (fa:Addr) (o:Obj) (pm cd doc:Value) (a:Addr) (vs:List Value) (ns:List Int),
   Ground q loose [] XP w s₀ mg mb s₁.heap->YP w s₁.heap->
   s₁.heap.get? fa=some o->o.data=.func (docDef d.name d.params d.body d.scope pm cd doc)->s₁.heap.CodeRec cd d.name->mg d.name=some (.ref fa)->
   s₁.heap.get? a=some { cls:=.type "list",data:=.seq vs.toArray }->IntsAre vs ns->ns.length<=n->s₁.gens=#[]->
   codeAny (model l.prog w) callerA (.call (.ref fa) ⟨[.ref a],[]⟩) (fun r s'=>r=.ok (.ret (.bool true))/\OldK s₁.heap s'.heap/\s'.os=s₁.os/\AllBare s'.gens) s₁) :
  WalkO q loose XP YP l.row.toRowW d [] (fun f vs=>B77 f vs):=by
 intro w s₀ s₁ mg mb G Y fa o pm cd doc dV kV ho hd hcd hD hmg hg args vals as hpre hlay hrd hwl hlo;obtain rfl:dV=.none:=Dflts.none hD hdf;obtain rfl:kV=.none:=Dflts.noKw hD;obtain ⟨a,vs,ns,rfl,rfl,hobj,hints,hlen⟩:=qQX hn hpre hwl;refine enter_call (codeAny_mono (call w s₀ s₁ mg mb fa o pm cd doc a vs ns G Y ho (fd_plain hd) hcd hmg hobj hints hlen hg) fun r s' hq=>?_);obtain ⟨rfl,h2,h3,h4⟩:=hq;exact ⟨.inl ⟨.bool true,.bool true,[],rfl,fun _=>rfl,.bool true,qR0 l _,fun _=>⟨List.Pairwise.nil,fun _ hm=>(nomatch hm)⟩⟩,h2,h3,h4⟩
section
variable {prog:Program} {w:World} {A:Around} {E:Value->Shared->Prop} {s:Shared} {K:Frag}
end
end Att
namespace L2
open PySem PySem.Spec PyProof.Rows
theorem qI5:∀ {vs:List Value} {ns:List Int},IntsAre vs ns->Vals (ns.map V.int) vs
 | _,_,.nil=>.nil
 | _,_,.cons n t h=>.cons ⟨t,rfl⟩ (qI5 h)
def Only (H:Hp):Prop:=∀ b,H b=none\/∃ o xs,H b=some (.frz o (.lst xs))
theorem qTX {P:Program} {w:World} {K:PySem.W.Frag} {mg mb:Str->Option Value} {CX:CXT} {k:Nat} {fa a:Addr} {fd:FuncData} {x:Str} {sp:Sp} {s₁:Shared} {vs:List Value} {ns:List Int}
  (KX:K.In s₁.heap) (hns:s₁.heap.Ns mainGlobals mg) (hb:s₁.heap.Ns builtinsNs mb) (hbb:∀ x:Str,x ≠ "__name__"->mb x=bootBuiltins x) (hlim:s₁.heap.NoLimit) (hg:s₁.gens=#[])
  (ha:s₁.heap.get? a=some { cls:=.type "list",data:=.seq vs.toArray }) (hi:IntsAre vs ns) (hl:ns.length<=sizeLine) (hr:Room k callerA)
  (F:∀ base:Heap,K.In base->base.Ns mainGlobals mg->FnOk P w K mg base CX k fa fd [x] sp) (hbind:∀ (s:Shared) (u:Value),BindsTo s fd ⟨[u],[]⟩ [(x,u)])
  (hsp:∀ H:Hp,Only H->SqL K H a (ns.map V.int)->sp [.ref a] H (fun v _=>v=.bl true) fun _ _ _=>False)
  (hCX:∀ H e s',CX [] H s₁ (fun _ _ _=>False) e s'->False) :
  codeAny (model P w) callerA (.call (.ref fa) ⟨[.ref a],[]⟩) (fun r s'=>r=.ok (.ret (.bool true))/\OldK s₁.heap s'.heap/\s'.os=s₁.os/\AllBare s'.gens) s₁:=by
 have rv:=qI5 hi;have lenV:=hi.length
 -- from an abstract heap in which nothing but the script may be tracked
 have core:∀ H:Hp,Only H->SqL K H a (ns.map V.int)->HOk P w H s₁.heap->(∀ b,H b ≠ none->b=a)->(H a ≠ none->K.lookup a=none)->
   codeAny (model P w) callerA (.call (.ref fa) ⟨[.ref a],[]⟩) (fun r s'=>r=.ok (.ret (.bool true))/\OldK s₁.heap s'.heap/\s'.os=s₁.os/\AllBare s'.gens) s₁:=by
  intro H hO hS hok hA hK;have base_of:∀ {b:Addr} {o:Obj},s₁.heap.get? b=some o->H b=none->(hidT s₁.heap H).get? b=some o:=fun e n=>qU0 e n;have noA:∀ {b:Addr} {o:Obj} {es:Array DictEntry} {ep:Nat},s₁.heap.get? b=some o->o.data=.dict es ep->H b=none:=fun {b o es ep} e d=>by
   cases q:H b with
   | none=>rfl
   | some u=>
    have e':b=a:=hA b (by rw [q];simp)
    subst e';rw [ha] at e;cases e;have d':B97 vs.toArray _=Data.dict es ep:=d;cases d'
  have nsK:∀ {b:Addr} {m:Str->Option Value},s₁.heap.Ns b m->(hidT s₁.heap H).Ns b m:=fun {b m} ⟨o,es,ep,e,d,r⟩=>⟨o,es,ep,base_of e (noA e d),d,r⟩;have hKb:K.In (hidT s₁.heap H):=fun b o e=>base_of (KX b o e) (by
   cases q:H b with
   | none=>rfl
   | some u=>
    have e':b=a:=hA b (by rw [q];simp)
    subst e';rw [hK (by rw [q];simp)] at e;cases e)
  have hM:Mod K mg (hidT s₁.heap H):=⟨hKb,nsK hns,⟨mb,nsK hb,hbb⟩,let ⟨mc,h1,h2⟩:=hlim;⟨mc,nsK h1,h2⟩⟩
  have e0:Env0 P w K mg (hidT s₁.heap H) callerA [] s₁ H:=⟨rfl,hM,fun b o e=>qW7 e,Nat.le_of_eq (qRU _ _),trivial,fun b hb=>absurd (show b ∈ ([]:List Addr) from hb) (by simp),hok,.of_eq hg⟩
  refine codeAny_mono ((F _ hKb (nsK hns)).run callerA [] s₁ H ⟨[.ref a],[]⟩ [.ref a] [.ref a] _ _ hr e0 (hbind s₁ (.ref a)) (.cons rfl .nil) (hsp H hO hS)) fun r s' h=>?_;cases r with
  | error e=>exact (hCX H e s' h).elim
  | ok fl=>
   cases fl with
   | next=>exact k8 h
   | brk=>exact k8 h
   | cont=>exact k8 h
   | ret u=>
    obtain ⟨v,H',os,bare,un,hok',r',q⟩:=h;have q':v=.bl true:=q;subst q';obtain rfl:u=Z5 true:=r';refine ⟨rfl,OldK.of_keep fun b o e=>?_,os,bare⟩;cases q:H b with
    | none=>exact un.keep b o e q (by intro z;exact absurd (show b ∈ ([]:List Addr) from z) (by simp)) (by simp)
    | some u=>
     rcases hO b with z | ⟨ob,xs,z⟩
     ·rw [q] at z;cases z
     ·have z2:=un.frzs b ob _ z;obtain ⟨e1,_⟩:=hok b _ z;obtain ⟨e2,_⟩:=hok' b _ z2;rw [e] at e1;cases e1;exact e2
 cases hk:K.lookup a with
 | some o=>
  -- the script is one of the module's own objects
  have e:=KX a o hk;rw [ha] at e;cases e;refine core (fun _=>none) (fun _=>.inl rfl) (.inr ⟨_,vs.toArray,_,hk,rfl,rfl,rfl,by rw [C5,lenV];exact hl,by simpa using rv⟩) (fun b u z=>by have z':(none:Option HO)=some u:=z;cases z') (fun b z=>absurd rfl z) fun z=>absurd rfl z
 | none=>
  refine core (fun b=>if b=a then some (.frz { cls:=.type "list",data:=.seq vs.toArray } (.lst (ns.map V.int))) else none) (fun b=>?_) (.inl (.inr ⟨{ cls:=.type "list",data:=.seq vs.toArray },if_pos rfl⟩)) (fun b u z=>?_) (fun b z=>?_) fun _=>hk
  ·by_cases hb:b=a
   ·exact .inr ⟨_,_,if_pos hb⟩
   ·exact .inl (if_neg hb)
  ·by_cases hb:b=a
   ·have z':=(if_pos hb).symm.trans z;cases z';subst hb;exact ⟨ha,by rw [A0];exact hl,vs,_,rv,ha⟩
   ·have z':=(if_neg hb).symm.trans z;cases z'
  ·by_cases hb:b=a
   ·exact hb
   ·exact absurd (if_neg hb) z
end L2
namespace L2
open PySem PySem.Spec PyProof.Rows
theorem walk_of {l:PySem.W.OpenLaw} {n k:Nat} {q:Program} {loose:List Str} {XP:(Str->Option Value)->Heap->Prop} {YP:World->Heap->Prop} {d:DefRec} {K:Params->PySem.W.Frag} {CX:World->CXT} {sp:World->Sp} {x:Str}
  (hn:l.most=some n) (hn2:n<=sizeLine) (hdf:d.params.defaults=[]) (hr:Room k callerA)
  (hY:∀ (w:World) (h:Heap),YP w h->(K w.params).In h)
  (F:∀ (w:World) (mg:Str->Option Value) (fa:Addr) (h:Heap),(K w.params).In h->h.Ns mainGlobals mg->mg d.name=some (.ref fa)->
   ∃ fd:FuncData,(∀ (s:Shared) (u:Value),BindsTo s fd ⟨[u],[]⟩ [(x,u)])/\
    ∀ base:Heap,(K w.params).In base->base.Ns mainGlobals mg->FnOk l.prog w (K w.params) mg base (CX w) k fa fd [x] (sp w))
  (hsp:∀ (w:World) (H:Hp) (a:Addr) (ns:List Int),ns.length<=n->Only H->SqL (K w.params) H a (ns.map V.int)->sp w [.ref a] H (fun v _=>v=.bl true) fun _ _ _=>False)
  (hCX:∀ (w:World) (H:Hp) (s:Shared) (e:Value) (s':Shared),CX w [] H s (fun _ _ _=>False) e s'->False) :
  PySem.W.WalkO q loose XP YP l.row.toRowW d [] (fun f vs=>B77 f vs):=by
 refine Att.attach_call hn hdf fun w s₀ s₁ mg mb fa o pm cd doc a vs ns G Y ho hd hcd hmg hobj hints hlen hg=>?_;have KX:=hY w _ Y;obtain ⟨fd,hb,hF⟩:=F w mg fa _ KX G.T.g hmg;exact qTX KX G.T.g G.T.b G.T.builtins G.T.nolimit hg hobj hints (M6 hlen hn2) hr hF hb (fun H hO hS=>hsp w H a ns hlen hO hS) fun H e s'=>hCX w H s₁ e s'
end L2
namespace L2
open PySem PySem.Spec PyProof.Rows
def qGR (s:Stmt):Arguments:=match s with
 | .FunctionDef _ a _ _ _ _ _ _ _ _=>a
 | _=>{ posonlyargs:=[],args:=[],vararg:=none,kwonlyargs:=[],kw_defaults:=[],kwarg:=none,defaults:=[] }
def qFK (s:Stmt):List Stmt:=match s with
 | .FunctionDef _ _ b _ _ _ _ _ _ _=>b
 | _=>[]
def qAC (s:Stmt):Scope:=match s with
 | .FunctionDef _ _ _ _ _ _ sc _ _ _=>sc
 | _=>{ kind:=.function,names:=[],isGenerator:=false,isCoroutine:=false }
abbrev CX0:CXT:=fun _ _ _ _ _ _=>False
abbrev E0:XK:=fun _ _ _=>False
theorem qZK {X:Cx}:qT1 CX0 X E0:=fun _ _ _ _ _ _ _ h=>h.elim
structure Fun (K:PySem.W.Frag) (x qual:Str) (st:Stmt) (f:Addr) (fd:FuncData):Prop where
 ex:∃ (oc:Value) (od:Option Addr) (kV doc pm:Value) (an:Option Addr) (cdv ct:Value) (osl:Array (Option Value)),
  fd=i8 x qual (qGR st) (qFK st) (qAC st) .none kV doc pm an cdv ct/\K.lookup f=some ⟨oc,od,.func fd,osl⟩/\A30 K cdv qual=true
 kp:Z2 K (.ref f)=true
section
variable {P:Program} {w:World} {K:PySem.W.Frag} {mg:Str->Option Value} {base:Heap}
theorem Fun.ok {x qual:Str} {st:Stmt} {f:Addr} {fd:FuncData} {N ps:List Str} {k:Nat} {sp:Sp} (F:Fun K x qual st f fd) (S:FnScope N ps (qAC st)) (len:∀ vs H Q E,sp vs H Q E->vs.length=ps.length)
  (hbody:∀ (cdv:Value) (A:Around) (outer:List Env) (s:Shared) (H:Hp) (vs:List V) (Q:VK) (E:XK),Room k (A.deeper (envOfC qual (qAC st) s.heap.objs.size f cdv))->sp vs H Q E->
   ∃ t,PSs (cxOf CX0 P w K mg base N qual (qAC st) f cdv A outer s H E).nox (qFK st) t/\t { nx:=fun _ H'=>Q .non H',rt:=Q } (start N vs) H):FnOk P w K mg base CX0 (k+1) f fd ps sp:=by
 obtain ⟨oc,od,kV,doc,pm,an,cdv,ct,osl,rfl,lk,hcd⟩:=F.ex;refine qZW lk hcd S len fun A outer s H vs Q E hr hsp=>?_;obtain ⟨t,h,q⟩:=hbody cdv A outer s H vs Q E hr hsp;exact ⟨t,h.nox,q⟩
theorem Fun.binds {x qual:Str} {st:Stmt} {f:Addr} {fd:FuncData} {ps:List Str} (F:Fun K x qual st f fd)
  (h:∀ (kV doc pm:Value) (an:Option Addr) (cdv ct:Value) (us:List Value),us.length=ps.length->bindArgs (i8 x qual (qGR st) (qFK st) (qAC st) .none kV doc pm an cdv ct) ⟨us,[]⟩=pure (ps.zip us)):Binds K fd ps []:=by
 obtain ⟨oc,od,kV,doc,pm,an,cdv,ct,osl,rfl,lk,hcd⟩:=F.ex;exact .all (h kV doc pm an cdv ct)
theorem fun_mk {x qual:Str} {st:Stmt} {f:Addr} {oc:Value} {od an:Option Addr} {osl:Array (Option Value)} {kV doc pm cdv ct:Value} (l:K.lookup f=some ⟨oc,od,.func (i8 x qual (qGR st) (qFK st) (qAC st) .none kV doc pm an cdv ct),osl⟩)
  (c:A30 K cdv qual=true) (k:Z2 K (.ref f)=true):Fun K x qual st f (i8 x qual (qGR st) (qFK st) (qAC st) .none kV doc pm an cdv ct):=⟨⟨oc,od,kV,doc,pm,an,cdv,ct,osl,rfl,l,c⟩,k⟩
end
theorem qFG {A:Around} {k:Nat} (hr:Room k A):A.units+1<cLine:=Y9 (Nat.add_le_add_left (by decide:1<=64) _) hr.units
theorem qB8 {n:Nat} (h:n<=1000):n<sizeLine:=Y9 h (by decide)
section
variable {X:Cx}
theorem pv (i:Nat) {x:Str} {pos:Pos} (hN:X.N[i]?=some x:=by rfl) (hv:Vis X.env.scope x:=by first | exact G4 rfl | exact B58 (G4 rfl) | exact B58 (B58 rfl)) (hd:(x == ("__debug__" : Str))=false:=by decide)
  (hcd:(x == ("__classdict__" : Str))=false:=by decide):PE X (.Name x pos) (tVar i):=qY1 hN hv hd hcd
end
theorem iteF {A B:Prop} (h:B):if false=true then A else B:=by
 rw [if_neg C6];exact h
theorem iteT {A B:Prop} (h:A):if true=true then A else B:=by
 rw [if_pos rfl];exact h
theorem ite2 {c A B:Prop} [Decidable c] (h1:c->A) (h2:¬ c->B):if c then A else B:=by
 by_cases h:c
 ·rw [if_pos h];exact h1 h
 ·rw [if_neg h];exact h2 h
def Same (H H':Hp):Prop:=∀ b o,H b=some o->H' b=some o
theorem Same.refl (H:Hp):Same H H:=fun _ _ h=>h
theorem Same.trans {H H1 H2:Hp} (a:Same H H1) (b:Same H1 H2):Same H H2:=fun c o h=>b c o (a c o h)
theorem Same.free {H H':Hp} (e:Same H H') {l:Addr} (h:H' l=B96):H l=B96:=by
 cases q:H l with
 | none=>rfl
 | some o=>
  rw [e l o q] at h;cases h
end L2
namespace L2
open PySem PySem.Spec PyProof.Rows
section
variable {κ:Type} [DecidableEq κ]
def valV (Ag:List (κ × V)) (k:κ):Option V:=(Ag.find? fun kv=>decide (kv.1=k)).map (·.2)
def putK (Ag:List (κ × V)) (k:κ) (v:V):List (κ × V):=
 if (Ag.any fun kv=>decide (kv.1=k))=true then Ag.map (fun kv=>if kv.1=k then (kv.1,v) else kv) else Ag++[(k,v)]
theorem qBK {p:κ × V} {r:List (κ × V)} {k:κ} (e:p.1=k):valV (p::r) k=some p.2:=by simp [valV,Z9,e]
theorem qBT {p:κ × V} {r:List (κ × V)} {k:κ} (e:¬ p.1=k):valV (p::r) k=valV r k:=by simp [valV,Z9,e]
theorem qHP (k:κ):∀ Ag:List (κ × V),(Ag.any fun kv=>decide (kv.1=k))=(valV Ag k).isSome
 | []=>rfl
 | p::r=>by
  rw [o9];by_cases e:p.1=k
  ·simp only [qBK e,decide_eq_true e,Bool.true_or,Option.isSome_some]
  ·rw [qBT e,decide_eq_false e,B81];exact qHP k r
theorem qNS (k j:κ) (y:V):∀ Ag:List (κ × V),valV (Ag.map fun kv=>if kv.1=k then (kv.1,y) else kv) j=(valV Ag j).map fun x=>if j=k then y else x
 | []=>rfl
 | p::r=>by
  have ih:=qNS k j y r;rw [G6];by_cases h:p.1=k
  ·rw [if_pos h];by_cases e:p.1=j
   ·rw [qBK (p:=(p.1,y)) e,qBK e,a8,if_pos (e.symm.trans h)]
   ·rw [qBT (p:=(p.1,y)) e,qBT e,ih]
  ·rw [if_neg h];by_cases e:p.1=j
   ·rw [qBK (p:=p) e,qBK e,a8,if_neg (fun z=>h (e.trans z))]
   ·rw [qBT (p:=p) e,qBT e,ih]
theorem qKP (k j:κ) (y:V):∀ Ag:List (κ × V),valV Ag k=none->valV (Ag++[(k,y)]) j=if j=k then some y else valV Ag j
 | [],_=>by
  by_cases e:k=j
  ·rw [if_pos e.symm];exact qBK (p:=(k,y)) e
  ·rw [if_neg (fun z=>e z.symm)];exact qBT (p:=(k,y)) e
 | p::r,hn=>by
  rw [List.cons_append];have hk:¬ p.1=k:=fun z=>by rw [qBK z] at hn;cases hn
  rw [qBT hk] at hn;have ih:=qKP k j y r hn;by_cases e:p.1=j
  ·rw [qBK e,qBK e,if_neg (fun z=>hk (e.trans z))]
  ·rw [qBT e,qBT e,ih]
theorem qHO (Ag:List (κ × V)) (k j:κ) (y:V):valV (putK Ag k y) j=if j=k then some y else valV Ag j:=by
 unfold putK;by_cases a:(Ag.any fun kv=>decide (kv.1=k))=true
 ·rw [if_pos a,qNS];rw [qHP] at a;by_cases e:j=k
  ·obtain ⟨x,hx⟩:=A37.mp a;rw [if_pos e,e,hx,a8,if_pos rfl]
  ·rw [if_neg e];cases valV Ag j with
   | none=>rfl
   | some x=>rw [a8,if_neg e]
 ·rw [if_neg a];refine qKP k j y Ag ?_;rw [qHP] at a;cases q:valV Ag k with
  | none=>rfl
  | some x=>rw [q] at a;exact (a rfl).elim
theorem qBW (Ag:List (κ × V)) (k:κ) (v:V):(putK Ag k v).length<=Ag.length+1:=by
 unfold putK
 split
 ·rw [A0];omega
 ·rw [A8,E3,O5];omega
theorem RelO.isSome_eq {o:Option V} {u:Option Value} (r:RelO o u):o.isSome=u.isSome:=by
 cases o with
 | none=>cases u with
  | none=>rfl
  | some _=>exact (show False from r).elim
 | some _=>cases u with
  | none=>exact (show False from r).elim
  | some _=>rfl
theorem KV.val {Ag:List (κ × V)} {vs:List (κ × Value)} (r:KV Ag vs) (k:κ):RelO (valV Ag k) (valueAt vs k):=by
 unfold KV at r
 induction r with
 | nil=>exact f9
 | @cons p q ps qs h t ih=>
  obtain ⟨h1,h2⟩:=h;by_cases e:p.1=k
  ·have e':q.1=k:=h1.symm.trans e;have b:valueAt (q::qs) k=some q.2:=by simp [valueAt,Z9,e']
   rw [qBK e,b];exact h2
  ·have e':¬ q.1=k:=fun z=>e (h1.trans z);have b:valueAt (q::qs) k=valueAt qs k:=by simp [valueAt,Z9,e']
   rw [qBT e,b];exact ih
theorem KV.any {Ag:List (κ × V)} {vs:List (κ × Value)} (r:KV Ag vs) (k:κ):(Ag.any fun kv=>decide (kv.1=k))=vs.any fun kv=>decide (kv.1=k):=by
 unfold KV at r
 induction r with
 | nil=>rfl
 | cons h t ih=>rw [o9,o9,ih,h.1]
theorem KV.repl {Ag:List (κ × V)} {vs:List (κ × Value)} (r:KV Ag vs) (k:κ) {y:V} {u:Value} (ry:RelV y u) :
  KV (Ag.map fun kv=>if kv.1=k then (kv.1,y) else kv) (vs.map fun kv=>if kv.1=k then (kv.1,u) else kv):=by
 unfold KV at r ⊢
 induction r with
 | nil=>exact .nil
 | @cons p q ps qs h t ih=>
  rw [G6,G6];refine .cons ?_ ih;obtain ⟨h1,h2⟩:=h;by_cases e:p.1=k
  ·rw [if_pos e,if_pos (h1.symm.trans e)];exact ⟨h1,ry⟩
  ·rw [if_neg e,if_neg (fun z=>e (h1.trans z))];exact ⟨h1,h2⟩
theorem KV.put {Ag:List (κ × V)} {vs:List (κ × Value)} (r:KV Ag vs) (k:κ) {y:V} {u:Value} (ry:RelV y u):KV (putK Ag k y) (stored vs k u):=by
 unfold putK stored;rw [r.any k];by_cases e:(vs.any fun kv=>decide (kv.1=k))=true
 ·rw [if_pos e,if_pos e];exact r.repl k ry
 ·rw [if_neg e,if_neg e];exact A07 r ⟨rfl,ry⟩
theorem KV.length {Ag:List (κ × V)} {vs:List (κ × Value)} (r:KV Ag vs):Ag.length=vs.length:=E9 r
end
theorem qPS {P:Program} {w:World} {k:Key} {u:Value} (r:RelV (kV k) u):(qBO P w).is k u=true:=by
 cases k with
 | inl i=>obtain ⟨t,e⟩:=(show ∃ t,u=W2 i t from r);subst e;exact qN1 P w i t
 | inr x=>obtain ⟨t,e⟩:=(show ∃ t,u=B54 x t from r);subst e;exact qN0 P w x t
theorem qLS {P:Program} {w:World}:∀ {ks:List Key} {us:List Value},Vals (ks.map kV) us->ItemsAre (qBO P w) ks us
 | [],_,r=>by rw [o5] at r;cases r;exact .nil
 | k::ks,_,r=>by
  rw [G6] at r;cases r with
  | cons h t=>exact .cons (qPS h) (qLS t)
abbrev KT (H:Hp):List (List Key × V)->List (List Key × Addr × Value)->Prop:=Paired fun p q=>p.1=q.1/\H q.2.1=some (.tup (p.1.map kV))/\RelV p.2 q.2.2
theorem KT.val {H:Hp} {Ag:List (List Key × V)} {xs:List (List Key × Addr × Value)} (r:KT H Ag xs) (k:List Key):RelO (valV Ag k) ((atKey xs k).map (·.2)):=by
 induction r with
 | nil=>exact f9
 | @cons p q ps qs h t ih=>
  obtain ⟨h1,_,h2⟩:=h;by_cases e:p.1=k
  ·have e':q.1=k:=h1.symm.trans e;have b:atKey (q::qs) k=some q.2:=by simp [atKey,Z9,e']
   rw [qBK e,b];exact h2
  ·have e':¬ q.1=k:=fun z=>e (h1.trans z);have b:atKey (q::qs) k=atKey qs k:=by simp [atKey,Z9,e']
   rw [qBT e,b];exact ih
theorem KT.repl {H:Hp} {Ag:List (List Key × V)} {xs:List (List Key × Addr × Value)} (r:KT H Ag xs) (k:List Key) {y:V} {u:Value} (ry:RelV y u) :
  KT H (Ag.map fun kv=>if kv.1=k then (kv.1,y) else kv) (xs.map (putAt k u)):=by
 induction r with
 | nil=>exact .nil
 | @cons p q ps qs h t ih=>
  rw [G6,G6];refine .cons ?_ ih;obtain ⟨h1,h2,h3⟩:=h;unfold putAt;by_cases e:p.1=k
  ·rw [if_pos e,if_pos (h1.symm.trans e)];exact ⟨h1,h2,ry⟩
  ·rw [if_neg e,if_neg (fun z=>e (h1.trans z))];exact ⟨h1,h2,h3⟩
theorem KT.put {H:Hp} {Ag:List (List Key × V)} {xs:List (List Key × Addr × Value)} (r:KT H Ag xs) (k:List Key) {b:Addr} {y:V} {u:Value} (hb:H b=some (.tup (k.map kV))) (ry:RelV y u) :
  KT H (putK Ag k y) (storedH xs k b u):=by
 have e:(Ag.any fun kv=>decide (kv.1=k))=(atKey xs k).isSome:=by
  rw [qHP,(r.val k).isSome_eq,a9]
 unfold putK storedH;rw [e];by_cases q:(atKey xs k).isSome=true
 ·rw [if_pos q,if_pos q];exact r.repl k ry
 ·rw [if_neg q,if_neg q];exact A07 r ⟨rfl,hb,ry⟩
theorem KT.keeps {H H':Hp} {Ag:List (List Key × V)} {xs:List (List Key × Addr × Value)} (r:KT H Ag xs) (ht:∀ b ys,H b=some (.tup ys)->H' b=some (.tup ys)):KT H' Ag xs:=
 Paired.mapP r fun _ _ z=>⟨z.1,ht _ _ z.2.1,z.2.2⟩
section
variable {P:Program} {w:World} {H:Hp} {h:Heap} {a:Addr}
theorem qXU {u:HO} (ok:HOk P w H h) (e:Rd H a u):ObjOk P w H h a u:=e.ok ok
theorem qS9 {Ag:List (Key × V)} (ok:HOk P w H h) (e:Rd H a (.dK Ag)):Ag.length<=sizeLine/\(a == sysModules)=false/\∃ vs,KV Ag vs/\h.DictOf (qBO P w) a vs:=
 show ObjOk P w H h a (.dK Ag) from qXU ok e
theorem qYT {Ag:List (Key × V)} (ok:HOk P w H h) (e:H a=some (.dK Ag)):Ag.length<=sizeLine/\(a == sysModules)=false/\∃ vs,KV Ag vs/\h.DictOf (qBO P w) a vs:=qS9 ok (.inl e)
theorem qLR {ks:List Key} (ok:HOk P w H h) (e:H a=some (.tup (ks.map kV))):(tupleKind (qBO P w)).is h ks a:=by
 obtain ⟨_,its,r,o,h1,h2,n,h3⟩:=(show ObjOk P w H h a (.tup (ks.map kV)) from ok a _ e);exact ⟨o,its.toArray,n,h1,h2,h3,by simpa using qLS r⟩
theorem qS8 {Ag:List (List Key × V)} (ok:HOk P w H h) (e:Rd H a (.dT Ag)):Ag.length<=sizeLine/\(a == sysModules)=false/\
  ∃ xs,KT H Ag xs/\h.DictOfH (tupleKind (qBO P w)) a xs:=by
 obtain ⟨z,y,xs,r,o,es,ep,h1,h2,h3,h4,h5⟩:=(show ObjOk P w H h a (.dT Ag) from qXU ok e);refine ⟨z,y,xs,r,o,es,ep,h1,h2,h3,h4,fun x hx=>?_,h5⟩;have all:∀ {l:List (List Key × V)} {m:List (List Key × Addr × Value)},KT H l m->∀ x ∈ m,(tupleKind (qBO P w)).is h x.1 x.2.1:=by
  intro l m q
  induction q with
  | nil=>intro x hx;exact nomatch hx
  | @cons p q ps qs hq t ih=>
   intro x hx;rcases D9.mp hx with e | hx
   ·subst e;exact qLR ok (by rw [<- hq.1];exact hq.2.1)
   ·exact ih x hx
 exact all r x hx
theorem qZX {Ag:List (List Key × V)} (ok:HOk P w H h) (e:H a=some (.dT Ag)):Ag.length<=sizeLine/\(a == sysModules)=false/\
  ∃ xs,KT H Ag xs/\h.DictOfH (tupleKind (qBO P w)) a xs:=qS8 ok (.inl e)
end
def DGet (H:Hp) (a:Addr) (y:V) (r:Option V):Prop:=
 (∃ Ag k,Rd H a (.dK Ag)/\y=kV k/\r=valV Ag k)\/∃ Ag k b,Rd H a (.dT Ag)/\y=.ref b/\H b=some (.tup (k.map kV))/\r=valV Ag k
def DPut (H:Hp) (a:Addr) (y v:V) (H':Hp):Prop:=
 (∃ Ag k,H a=some (.dK Ag)/\y=kV k/\Ag.length<sizeLine/\H'=Ah H a (.dK (putK Ag k v)))\/
 ∃ Ag k b,H a=some (.dT Ag)/\y=.ref b/\H b=some (.tup (k.map kV))/\Ag.length<sizeLine/\H'=Ah H a (.dT (putK Ag k v))
theorem DGet.k {H:Hp} {a:Addr} {Ag:List (Key × V)} {k:Key} (e:H a=some (.dK Ag)):DGet H a (kV k) (valV Ag k):=.inl ⟨Ag,k,.inl e,rfl,rfl⟩
theorem DPut.k {H:Hp} {a:Addr} {Ag:List (Key × V)} {k:Key} {v:V} (e:H a=some (.dK Ag)) (hl:Ag.length<sizeLine):DPut H a (kV k) v (Ah H a (.dK (putK Ag k v))):=.inl ⟨Ag,k,e,rfl,hl,rfl⟩
section
variable {X:Cx} {Ab:List (Addr × Obj)} {σ:St} {H:Hp} {s:Shared} {a:Addr} {y v:V} {u r:Value} {o:Option V} {A:Around} {E:Value->Shared->Prop}
theorem Inv.big (I:Inv X Ab σ H s):sysModules<s.heap.objs.size:=by
 have h:mainGlobals<s.heap.objs.size:=(I.mod.glob.keeps I.bk).lt;exact y8 (by decide) h
theorem qSG {Q:Value->Shared->Prop} (hu:A.units+1<cLine) (I:Inv X Ab σ H s) (g:DGet H a y (some v)) (ry:RelV y u) (h:∀ w' s',Inv X Ab σ H s'->RelV v w'->Q w' s') :
  wpAny (model X.prog X.w) A (getItem (.ref a) u) Q E s:=by
 rcases g with ⟨Ag,k,e,ey,l⟩ | ⟨Ag,k,b,e,ey,eb,l⟩
 ·subst ey;obtain ⟨z,hd,vs,rel,dd⟩:=qS9 I.hok e;obtain ⟨w',hw,rw'⟩:=RelO.some_of (v:=v) (o:=valueAt vs k) (by rw [l];exact rel.val k)
  exact wpAny_getItem_of (qPS ry) dd.mapOf hw (h w' _ (I.tok _) rw')
 ·subst ey;cases (show u=F3 b from ry);obtain ⟨z,hd,xs,rel,dd⟩:=qS8 I.hok e;obtain ⟨w',hw,rw'⟩:=RelO.some_of (v:=v) (o:=(atKey xs k).map (·.2)) (by rw [l];exact rel.val k)
  obtain ⟨p,hp,hp2⟩:=U0.mp hw;refine wpAny_getItem_heap (tupleKind_room_in1 hu) (qLR I.hok eb) dd hp ?_;rw [hp2];exact h w' _ (I.tok _) rw'
theorem d_in {Q:Value->Shared->Prop} (hu:A.units+1<cLine) (I:Inv X Ab σ H s) (g:DGet H a y o) (ry:RelV y u) (h:∀ s',Inv X Ab σ H s'->Q (.bool o.isSome) s') :
  wpAny (model X.prog X.w) A (compareOp .In u (.ref a)) Q E s:=by
 rcases g with ⟨Ag,k,e,ey,l⟩ | ⟨Ag,k,b,e,ey,eb,l⟩
 ·subst ey;obtain ⟨z,hd,vs,rel,dd⟩:=qS9 I.hok e;refine wpAny_in_of (qPS ry) hd dd.mapOf ?_;rw [<- (rel.val k).isSome_eq,<- l];exact h _ (I.tok _)
 ·subst ey;cases (show u=F3 b from ry);obtain ⟨z,hd,xs,rel,dd⟩:=qS8 I.hok e;refine wpAny_in_heap (tupleKind_room_in1 hu) (qLR I.hok eb) hd dd ?_;have q:=(rel.val k).isSome_eq;rw [a9] at q;rw [<- q,<- l];exact h _ (I.tok _)
theorem qWV {Q:Value->Shared->Prop} (hu:A.units+1<cLine) (I:Inv X Ab σ H s) (g:DGet H a y o) (ry:RelV y u) (h:∀ s',Inv X Ab σ H s'->Q (.bool (!o.isSome)) s') :
  wpAny (model X.prog X.w) A (compareOp .NotIn u (.ref a)) Q E s:=by
 rcases g with ⟨Ag,k,e,ey,l⟩ | ⟨Ag,k,b,e,ey,eb,l⟩
 ·subst ey;obtain ⟨z,hd,vs,rel,dd⟩:=qS9 I.hok e;refine wpAny_notIn_of (qPS ry) hd dd.mapOf ?_;rw [<- (rel.val k).isSome_eq,<- l];exact h _ (I.tok _)
 ·subst ey;cases (show u=F3 b from ry);obtain ⟨z,hd,xs,rel,dd⟩:=qS8 I.hok e;refine wpAny_notIn_heap (tupleKind_room_in1 hu) (qLR I.hok eb) hd dd ?_;have q:=(rel.val k).isSome_eq;rw [a9] at q;rw [<- q,<- l];exact h _ (I.tok _)
theorem qNG {h':Heap} {t':Nat} {ob:HO} (I:Inv X Ab σ H s) (mu:Mut (H a)) (hs:Heap.SameBut a s.heap h') (he:∃ q,h'.get? a=some q) (new:ObjOk X.prog X.w (Ah H a ob) h' a ob) :
  Inv X Ab σ (Ah H a ob) { s with heap:=h',toks:=t' }:=
 I.write (x:=a) (e:=a) mu (.inl rfl) (fun b q hb z=>(hs.2 b hb).trans z) he new
theorem qVE {P:Program} {w:World} {H':Hp} {h':Heap} {Ag:List (Key × V)} {vs:List (Key × Value)} (z:Ag.length<=sizeLine) (hd:(a == sysModules)=false) (rel:KV Ag vs) (dd:h'.DictOf (qBO P w) a vs) :
  ObjOk P w H' h' a (.dK Ag):=⟨z,hd,vs,rel,dd⟩
theorem qSF {H':Hp} {Q:Unit->Shared->Prop} (hu:A.units+1<cLine) (I:Inv X Ab σ H s) (g:DPut H a y v H') (ry:RelV y u) (rv:RelV v r) (h:∀ s',Inv X Ab σ H' s'->Q () s') :
  wpAny (model X.prog X.w) A (setItem (.ref a) u r) Q E s:=by
 rcases g with ⟨Ag,k,e,ey,l,eH⟩ | ⟨Ag,k,b,e,ey,eb,l,eH⟩
 ·subst ey eH;obtain ⟨z,hd,vs,rel,dd⟩:=qYT I.hok e;have hz:vs.length<=sizeLine:=by rw [<- rel.length];exact z
  have hl:(putK Ag k v).length<=sizeLine:=by have:=qBW Ag k v;omega
  refine wpAny_setItem_pairs (hsz:=hz) (qPS ry) dd fun h' dd' hs=>h _ ?_;have he:∃ q,h'.get? a=some q:=let ⟨q,_,_,hq,_⟩:=dd';⟨q,hq⟩
  exact qNG I (by rw [e];exact f9) hs he (qVE hl hd (rel.put k rv) dd')
 ·subst ey eH;cases (show u=F3 b from ry);obtain ⟨z,hd,xs,rel,dd⟩:=qZX I.hok e;have hz:xs.length<=sizeLine:=by rw [<- E9 rel];exact z
  have hl:(putK Ag k v).length<=sizeLine:=by have:=qBW Ag k v;omega
  refine wpAny_setItem_heap (hsz:=hz) (tupleKind_room_in1 hu) (qLR I.hok eb) dd fun h' dd' hs=>h _ ?_;obtain ⟨q,es,ep,hq,h2,h3,h4,_,h5⟩:=dd';refine qNG I (by rw [e];exact f9) hs ⟨q,hq⟩ ⟨hl,hd,_,(rel.put k eb rv).keeps fun c ys ec=>?_,q,es,ep,hq,h2,h3,h4,h5⟩
  rw [qA8 (qDN ec e (fun z=>nomatch z))];exact ec
end
section
variable {X:Cx} {Ab:List (Addr × Obj)} {σ:St} {H:Hp} {s:Shared} {a:Addr} {Ag:List (Key × V)} {k:Key} {u:Value} {A:Around} {E:Value->Shared->Prop}
end
def NoSl (i:Expr):Prop:=∀ ov iv,subscripted i false ov iv=operate [ov,iv] (getItem ov iv)
theorem qVT {prog:Program} {w:World} {A:Around} {E:Value->Shared->Prop} {s:Shared} {env:Env} {value slice:Expr} {pos:Pos} {T id:String} {Q:Value->Shared->Prop}
  (hl:typeLookup (.type T) "__getitem__" = pure (some (.builtin id))) (hs:NoSl slice)
  (h:wpAny (model prog w) A (eval value env) (fun o s₁=>wpAny (model prog w) A (eval slice env) (fun i s₂=>s₂.TypeIs o T/\wpAny (model prog w) A (getItem o i) Q E s₂) E s₁) E s) :
  wpAny (model prog w) A (eval (.Subscript value slice pos) env) Q E s:=by
 refine Subscript_ (wpAny_mono h (fun o s₁ h₁=>wpAny_mono h₁ (fun i s₂ h₂=>?_) fun _ _ x=>x) fun _ _ x=>x);obtain ⟨hT,h₂⟩:=h₂;unfold subscriptTail;refine wpAny_bind ?_;rw [getitemInPython_of_ne hT.not_modules];refine wpAny_bind (wpAny_specialOf hT hl ?_);have fin:wpAny (model prog w) A (subscripted slice false o i) (fun r s₃=>wpAny (model prog w) A (letTemporaryGo value o r >>= fun _=>pure r) Q E s₃) E s₂:=by
  rw [hs o i];exact wpAny_operating (wpAny_mono h₂ (fun r s₃ h₃=>wpAny_bind (wpAny_letTemporaryGo (wpAny_pure h₃))) fun _ _ x=>x)
 first
  | exact wpAny_pure (wpAny_bind fin)
  | exact wpAny_bind (wpAny_pure (wpAny_bind fin))
  | exact wpAny_bind fin
theorem qND {X:Cx} {Ab:List (Addr × Obj)} {σ:St} {H:Hp} {s:Shared} {a:Addr} {y:V} {o:Option V} (I:Inv X Ab σ H s) (g:DGet H a y o):s.TypeIs (.ref a) "dict":=by
 rcases g with ⟨Ag,k,e,_,_⟩ | ⟨Ag,k,b,e,_,_,_⟩
 ·obtain ⟨_,_,vs,_,dd⟩:=qS9 I.hok e;exact dd.typeIs
 ·obtain ⟨_,_,xs,_,dd⟩:=qS8 I.hok e;exact dd.typeIs
def qZ8 (td ty:TE):TE:=fun σ H Q=>td σ H fun x H1=>ty σ H1 fun y H2=>∃ a v,x=.ref a/\DGet H2 a y (some v)/\Q v H2
def tDIn (ty td:TE):TE:=fun σ H Q=>ty σ H fun y H1=>td σ H1 fun x H2=>∃ a o,x=.ref a/\DGet H2 a y o/\Q (.bl o.isSome) H2
def qVS (ty td:TE):TE:=fun σ H Q=>ty σ H fun y H1=>td σ H1 fun x H2=>∃ a o,x=.ref a/\DGet H2 a y o/\Q (.bl (!o.isSome)) H2
def qZB (td ty tv:TE):TS:=fun D σ H=>tv σ H fun v H1=>td σ H1 fun x H2=>ty σ H2 fun y H3=>∃ a H4,x=.ref a/\DPut H3 a y v H4/\D.nx σ H4
section
variable {X:Cx} {o i e value:Expr} {pos pos' tpos:Pos} {td ty tv:TE}
theorem qC8 (hu:X.A.units+1<cLine) (ho:PE X o td) (hi:PE X i ty) (hs:NoSl i):PE X (.Subscript o i pos) (qZ8 td ty):=by
 intro Ab s σ H Q I h;refine qVT PySem.F.slot_dict_getitem.lookup hs (thn (ho Ab s σ H _ I h) fun u s1 ⟨x,H1,I1,rx,q1⟩=>thn (hi Ab s1 σ H1 _ I1 q1) fun iv s2 ⟨y,H2,I2,ry,a,v,ex,g,q2⟩=>?_);subst ex;obtain rfl:u=F3 a:=rx;exact ⟨qND I2 g,qSG hu I2 g ry fun w' s3 I3 rw'=>⟨v,H2,I3,rw',q2⟩⟩
theorem qV0 (hu:X.A.units+1<cLine) (hi:PE X i ty) (ho:PE X o td):PC X .In i o (tDIn ty td):=by
 intro Ab s σ H Q I h;refine thn (hi Ab s σ H _ I h) fun iv s1 ⟨y,H1,I1,ry,q1⟩=>thn (ho Ab s1 σ H1 _ I1 q1) fun u s2 ⟨x,H2,I2,rx,a,ov,ex,g,q2⟩=>?_;subst ex;obtain rfl:u=F3 a:=rx;exact d_in hu I2 g ry fun s3 I3=>⟨.bl ov.isSome,H2,I3,rfl,q2⟩
theorem qFV (hu:X.A.units+1<cLine) (hi:PE X i ty) (ho:PE X o td):PC X .NotIn i o (qVS ty td):=by
 intro Ab s σ H Q I h;refine thn (hi Ab s σ H _ I h) fun iv s1 ⟨y,H1,I1,ry,q1⟩=>thn (ho Ab s1 σ H1 _ I1 q1) fun u s2 ⟨x,H2,I2,rx,a,ov,ex,g,q2⟩=>?_;subst ex;obtain rfl:u=F3 a:=rx;exact qWV hu I2 g ry fun s3 I3=>⟨.bl (!ov.isSome),H2,I3,rfl,q2⟩
theorem qFD (hu:X.A.units+1<cLine) (ho:PE X o td) (hi:PE X i ty) (hv:PE X value tv) (hs:swapsWith value (some (.Subscript o i pos')) pos.line X.env=pure false) :
  PS X (.Assign [.Subscript o i pos'] value pos) (qZB td ty tv):=by
 intro Ab s σ H D I h;refine wpAny_Assign_Subscript (thn (hv Ab s σ H _ I h) fun r s1 ⟨v,H1,I1,rv,q1⟩=>thn (ho Ab s1 σ H1 _ I1 q1) fun u s2 ⟨x,H2,I2,rx,q2⟩=>thn (hi Ab s2 σ H2 _ I2 q2) fun iv s3 ⟨y,H3,I3,ry,a,H4,ex,g,q3⟩=>?_) hs;subst ex;obtain rfl:u=F3 a:=rx;exact qSF hu I3 g ry rv fun s4 I4=>⟨σ,H4,I4,q3⟩
end
theorem qOS {P:Program} {w:World} {H:Hp} (h:Heap) (hb:sysModules<h.objs.size):ObjOk P w H (h.push { cls:=.type "dict",data:=.dict #[] }) h.objs.size (.dK []):=
 ⟨G5 _,beq_eq_false_iff_ne.mpr (M8 (F0 hb)),[],.nil,Heap.DictOf.new h⟩
def qXE:TE:=fun _ H Q=>∀ p,H p=none->Q (.ref p) (Ah H p (.dK []))
section
variable {X:Cx} {pos:Pos}
theorem qOD:PE X (.Dict [] [] pos) qXE:=fun Ab s σ H Q I h=>
 wpAny_Dict_empty ⟨.ref s.heap.objs.size,_,I.laid (a:=s.heap.objs.size) (o:=.dK []) (t':=s.toks) (fun _ _ q=>B8 _ q) (C1 _) (qOS s.heap I.big),rfl,h _ (I.hok.fresh (C1 _))⟩
end
def qQN:List (TE × TE)->St->Hp->(List (V × V)->Hp->Prop)->Prop
 | [],_,H,Q=>Q [] H
 | (tk,tv)::r,σ,H,Q=>tk σ H fun x H1=>tv σ H1 fun y H2=>qQN r σ H2 fun ps H3=>Q ((x,y)::ps) H3
abbrev VV:List (V × V)->List (Value × Value)->Prop:=Paired fun p q=>RelV p.1 q.1/\RelV p.2 q.2
def PPs (X:Cx) (pos:Pos) (keys:List (Option Expr)) (values:List Expr) (trs:List (TE × TE)):Prop:=
 ∀ (Ab:List (Addr × Obj)) (s:Shared) (σ:St) (H:Hp) (Q:List (V × V)->Hp->Prop),Inv X Ab σ H s->qQN trs σ H Q->
  wpAny (model X.prog X.w) X.A (evalPairs (pairTrees keys values X.env pos)) (fun vs s'=>∃ ps H',Inv X Ab σ H' s'/\VV ps vs/\Q ps H') X.xe s
theorem qMW {X:Cx} {pos:Pos}:PPs X pos [] [] []:=fun Ab s σ H Q I h=>pairTrees_nil_walk ⟨[],H,I,.nil,h⟩
theorem qFU {X:Cx} {pos:Pos} {k v:Expr} {ks:List (Option Expr)} {vs:List Expr} {tk tv:TE} {trs:List (TE × TE)} (hk:PE X k tk) (hv:PE X v tv) (hr:PPs X pos ks vs trs) :
  PPs X pos (some k::ks) (v::vs) ((tk,tv)::trs):=fun Ab s σ H Q I h=>
 pairTrees_cons_walk (thn (hk Ab s σ H _ I h) fun u s1 ⟨x,H1,I1,rx,q1⟩=>thn (hv Ab s1 σ H1 _ I1 q1) fun w2 s2 ⟨y,H2,I2,ry,q2⟩=>
  thn (hr Ab s2 σ H2 _ I2 q2) fun ws s3 ⟨ps,H3,I3,rel,q3⟩=>⟨(x,y)::ps,H3,I3,.cons ⟨rx,ry⟩ rel,q3⟩)
def qEK (Ag more:List (Key × V)):List (Key × V):=more.foldl (fun acc kv=>putK acc kv.1 kv.2) Ag
theorem KV.merge:∀ {more:List (Key × V)} {rs:List (Key × Value)} {Ag:List (Key × V)} {vs:List (Key × Value)},KV more rs->KV Ag vs->KV (qEK Ag more) (merged vs rs):=by
 intro more rs Ag vs r;unfold KV at r
 induction r generalizing Ag vs with
 | nil=>intro q;exact q
 | @cons p q ps qs h t ih=>
  intro r0;have e:KV (putK Ag p.1 p.2) (stored vs q.1 q.2):=by
   have:=r0.put p.1 h.2;rw [<- h.1];exact this
  exact ih e
theorem qFY:∀ (more Ag:List (Key × V)),(qEK Ag more).length<=Ag.length+more.length
 | [],Ag=>by show Ag.length<=Ag.length+0;omega
 | p::r,Ag=>by
  have h1:=qFY r (putK Ag p.1 p.2);have h2:=qBW Ag p.1 p.2;show (qEK (putK Ag p.1 p.2) r).length<=_;rw [E3];omega
theorem qJR {P:Program} {w:World}:∀ {Ag:List (Key × V)} {ws:List (Value × Value)},VV (Ag.map fun kv=>(kV kv.1,kv.2)) ws->∃ rs,Carries (qBO P w) ws rs/\KV Ag rs
 | [],_,r=>by rw [o5] at r;cases r;exact ⟨[],f9,.nil⟩
 | p::Ag,_,r=>by
  rw [G6] at r;cases r with
  | @cons a b as bs h t=>
   obtain ⟨rs,c,q⟩:=qJR (P:=P) (w:=w) t;obtain ⟨b1,b2⟩:=b;exact ⟨(p.1,b2)::rs,⟨qPS h.1,rfl,c⟩,.cons ⟨rfl,h.2⟩ q⟩
def qZ7 (trs:List (TE × TE)):TE:=fun σ H Q=>∀ p,H p=none->qQN trs σ (Ah H p (.dK [])) fun ps H2=>H2 p=some (.dK [])/\∃ Ag:List (Key × V),ps=Ag.map (fun kv=>(kV kv.1,kv.2))/\Ag.length<=15/\Q (.ref p) (Ah H2 p (.dK (qEK [] Ag)))
theorem qMX {X:Cx} {pos:Pos} {keys:List (Option Expr)} {values:List Expr} {trs:List (TE × TE)} (h:PPs X pos keys values trs) (hall:keys.all (·.isSome)=true) (hl:keys.length=values.length) (h0:keys ≠ [])
  (h15:keys.length<=15):PE X (.Dict keys values pos) (qZ7 trs):=by
 intro Ab s σ H Q I q;have hn:=I.hok.fresh (C1 s.heap.objs.size);have I1:=I.laid (a:=s.heap.objs.size) (o:=.dK []) (h':=s.heap.push { cls:=.type "dict",data:=.dict #[] }) (t':=s.toks) (fun _ _ q=>B8 _ q) (C1 _) (qOS s.heap I.big);refine wpAny_Dict_walk (knd:=qBO X.prog X.w) hall hl h0 h15 (thn (h Ab _ σ _ _ I1 (q _ hn)) fun ws s2 ⟨ps,H2,I2,rel,e,Ag,ep,lk,q2⟩=>?_);subst ep;obtain ⟨rs,c,rk⟩:=qJR (P:=X.prog) (w:=X.w) rel;obtain ⟨z,hd,vs0,r0,dd⟩:=qYT I2.hok e;cases r0;refine ⟨rs,c,dd,fun h' dd' hs=>⟨.ref s.heap.objs.size,_,?_,rfl,q2⟩⟩;have hz:(qEK [] Ag).length<=sizeLine:=by
  have h1:=qFY Ag [];rw [O5] at h1;rw [sizeLine_eq];omega
 have he:∃ q,h'.get? s.heap.objs.size=some q:=let ⟨q,_,_,hq,_⟩:=dd';⟨q,hq⟩
 exact qNG I2 (by rw [e];exact f9) hs he (qVE hz hd (rk.merge .nil) dd')
structure M1 (X:Cx) (o:Expr) (m:Str) (apos:Pos) (e:Expr) (cpos:Pos):Prop where
 base:attributeBase o m X.env (eval o X.env)=eval o X.env
 few:((backTo cpos (starEach [e] X.env)).all (fun x=>!x.1) && (backToKw cpos (keywordEach [] X.env)).all (fun x=>x.1.isSome)
  && decide (([e]:List Expr).length+([]:List Keyword).length+(if ([]:List Keyword).isEmpty then 0 else 1)<30))=true
 line:(apos.endLine == cpos.line)=true
 trees:backTo cpos (starEach [e] X.env)=[(false,eval e X.env)]
structure M2 (X:Cx) (o:Expr) (m:Str) (apos:Pos) (e f:Expr) (cpos:Pos):Prop where
 base:attributeBase o m X.env (eval o X.env)=eval o X.env
 few:((backTo cpos (starEach [e,f] X.env)).all (fun x=>!x.1) && (backToKw cpos (keywordEach [] X.env)).all (fun x=>x.1.isSome)
  && decide (([e,f]:List Expr).length+([]:List Keyword).length+(if ([]:List Keyword).isEmpty then 0 else 1)<30))=true
 line:(apos.endLine == cpos.line)=true
 trees:backTo cpos (starEach [e,f] X.env)=[(false,eval e X.env),(false,eval f X.env)]
section
variable {X:Cx} {Ab:List (Addr × Obj)} {σ:St} {H:Hp} {s:Shared} {a:Addr} {y d:V} {u r:Value} {o:Option V} {A:Around} {E:Value->Shared->Prop}
end
section
variable {X:Cx} {o e f:Expr} {apos cpos:Pos} {td ty tx:TE}
end
section
variable {X:Cx} {Ab:List (Addr × Obj)} {σ:St} {H:Hp} {s:Shared} {a:Addr} {Ag:List (Key × V)} {A:Around} {E:Value->Shared->Prop}
end
section
variable {X:Cx} {Ab:List (Addr × Obj)} {σ:St} {H:Hp} {s:Shared} {a:Addr} {y:V} {u:Value} {A:Around} {E:Value->Shared->Prop}
end
end L2
namespace L2
open PySem PySem.Spec PyProof.Rows
section
variable {X:Cx}
end
section
variable {κ:Type} [DecidableEq κ]
theorem qIC:∀ {l:List κ} {k:κ},l.Nodup->¬ k ∈ l->(l++[k]).Nodup
 | [],k,_,_=>by simp
 | a::r,k,h,hk=>by
  obtain ⟨h1,h2⟩:=O0.mp h;show (a::(r++[k])).Nodup;refine O0.mpr ⟨fun m=>?_,qIC h2 fun m=>hk (D9.mpr (B58 m))⟩;rcases C8.mp m with q | q
  ·exact h1 q
  ·exact hk (D9.mpr (G4 (C0.mp q).symm))
end
end L2
namespace L2
open PySem PySem.Spec PyProof.Rows
def noX:Value->Shared->Prop:=fun _ _=>False
def qHM (env:Env):List (Str × NameKind)->List (Str × Addr)->List (Str × Addr)
 | [],acc=>acc
 | (n,k)::r,acc=>qHM env r (if (k == Q7)=true then (n,(env.cells.lookup n).getD 0)::acc else acc)
theorem qIS {env:Env}:∀ {names:List (Str × NameKind)} {acc:List (Str × Addr)},(∀ x,(x,Q7) ∈ names->∃ c,env.cells.lookup x=some c)->(∀ x c,acc.lookup x=some c->env.cells.lookup x=some c)->
  ∀ x c,(qHM env names acc).lookup x=some c->env.cells.lookup x=some c
 | [],acc,_,ha,x,c,h=>ha x c h
 | (n,k)::r,acc,hf,ha,x,c,h=>by
  refine qIS (names:=r) (fun y hy=>hf y (C7 _ hy)) (fun y d hd=>?_) x c h
  split at hd
  ·rename_i hk
   have hk':k=Q7:=by simpa using hk
   subst hk';obtain ⟨e,he⟩:=hf n C9;by_cases hyn:y=n
   ·subst hyn;rw [V7,he] at hd;rw [he];exact hd
   ·rw [m8,beq_eq_false_iff_ne.mpr hyn] at hd;exact ha y d hd
  ·exact ha y d hd
theorem qIT {env:Env}:∀ {names:List (Str × NameKind)} {acc:List (Str × Addr)} {x:Str},((x,Q7) ∈ names\/∃ c,acc.lookup x=some c)->∃ c,(qHM env names acc).lookup x=some c
 | [],acc,x,h=>by
  rcases h with h | h
  ·exact absurd h (by simp)
  ·exact h
 | (n,k)::r,acc,x,h=>by
  refine qIT (names:=r) ?_;rcases h with h | ⟨c,h⟩
  ·rcases D9.mp h with e | h
   ·cases e;refine .inr ⟨(env.cells.lookup n).getD 0,?_⟩;rw [if_pos (by rfl),V7]
   ·exact .inl h
  ·refine .inr ?_
   split
   ·by_cases hyn:x=n
    ·subst hyn;exact ⟨_,V7⟩
    ·refine ⟨c,?_⟩;rw [m8,beq_eq_false_iff_ne.mpr hyn];exact h
   ·exact ⟨c,h⟩
theorem qIR {env:Env} (f:Str × NameKind->List (Str × Addr)->Sem (ForInStep (List (Str × Addr))))
  (hf:∀ n k c,f (n,k) c=(if (k == Q7)=true then (do let a <- cellOf env n;pure (R5 ((n,a)::c))) else pure (R5 c))) :
  ∀ (names:List (Str × NameKind)) (acc:List (Str × Addr)),(∀ x,(x,Q7) ∈ names->∃ c,env.cells.lookup x=some c)->forIn names acc f=(pure (qHM env names acc):Sem _)
 | [],acc,_=>rfl
 | (n,k)::r,acc,h=>by
  have ih:=fun acc=>qIR f hf r acc fun x hx=>h x (C7 _ hx);rw [X9,hf];by_cases hk:(k == Q7)=true
  ·have hk':k=Q7:=by simpa using hk
   subst hk';obtain ⟨c,hc⟩:=h n C9;rw [if_pos hk];unfold cellOf qHM;rw [hc,if_pos hk];exact ih _
  ·rw [if_neg hk];unfold qHM;rw [if_neg hk];exact ih _
theorem qPZ {scope:Scope} {env:Env} (h:∀ x,(x,Q7) ∈ scope.names->∃ c,env.cells.lookup x=some c):closureFor scope env=pure (qHM env scope.names []):=by
 unfold closureFor;dsimp only;rw [qIR (env:=env) _ (fun n k c=>?_) scope.names [] h]
 ·rfl
 ·rfl
theorem qDI {env:Env} {x:Str}:∀ {names:List (Str × NameKind)},
  (names.map fun (n,k)=>if (k == Q7 && env.scope.kind == .function && env.kindOf n == some .cell)=true then (n,B82) else (n,k)).lookup x =
   (names.lookup x).map fun k=>if (k == Q7 && env.scope.kind == .function && env.kindOf x == some .cell)=true then B82 else k
 | []=>rfl
 | (n,k)::r=>by
  have ih:=@qDI env x r;rw [G6];by_cases hx:x=n
  ·subst hx;dsimp only;rw [V7 (b:=k),a8]
   split
   ·rw [V7]
   ·rw [V7]
  ·have hb:(x == n)=false:=beq_eq_false_iff_ne.mpr hx;dsimp only;rw [m8 (k:=n) (b:=k),hb];dsimp only;rw [<- ih]
   split
   ·rw [m8,hb]
   ·rw [m8,hb]
structure LcZ where
 L:Addr
 cl:List (Str × Addr)
 ex:List Addr
 s₀:Shared
 H₀:Hp
def lcCx (X:Cx) (scope:Scope) (own:List Str) (fv:List Nat) (z:LcZ):Cx where
 prog:=X.prog
 w:=X.w
 K:=X.K
 mg:=X.mg
 base:=X.base
 A:=X.A
 N:=own++fv.map fun i=>X.N.getD i i7
 s₀:=z.s₀
 H₀:=z.H₀
 env:=compEnvC scope z.cl z.L X.env
 outer:=X.stack
 stack:=X.stack
 ex:=z.ex
 fn:=fun _=>false
 calm:=X.calm
 pn:=[]
 xe:=noX
structure LcScope (X:Cx) (scope:Scope) (own:List Str) (fv:List Nat):Prop where
 kind:scope.kind=.function
 nocell:∀ y ∈ scope.names,y.2 ≠ .cell
 names:∀ y ∈ scope.names,y.2=.local->scope.names.lookup y.1=some .local
 free:∀ y ∈ scope.names,y.2=.free->X.env.kindOf y.1=some .cell\/X.env.kindOf y.1=some .free
 nd:(own++fv.map fun i=>X.N.getD i i7).Nodup
 fvs:∀ i ∈ fv,i<X.N.length/\scope.names.lookup (X.N.getD i i7)=some .free
def qIF (own:List Str) (fv:List Nat) (σ:St):St:=(own.map fun _=>none)++fv.map fun i=>(σ[i]?).join
theorem qM6 {prog:Program} {w:World} {A:Around} {R:Result->Shared->Prop} {s:Shared} {elt target iter:Expr} {ifs:List Expr} {scope:Scope} {pos:Pos} {it acc:Value} {env:Env} (I:Nat->Shared->Prop)
  (turn:∀ n s,I n s->wpAny (model prog w) A (pyNext it) (fun r s₁=>match r with
   | none=>R (.ok .next) s₁
   | some v=>wpAny (model prog w) A (letOwnedTupleGo target it v) (fun _ s₁=>wpAny (model prog w) A (assign target env v) (fun _ s₂=>
     wpAny (model prog w) A (forIn ifs true fun c r=>if r=true then do let ok <- isTrue c env (eval c env);pure (R5 ok) else pure (R5 r)) (fun ok s₃=>
      if ok=true then wpAny (model prog w) A (eval elt env) (fun x s₄=>
       wpAny (model prog w) A (call (.builtin "list.append") [acc,x]) (fun _ s₅=>∃ m,m<n/\I m s₅) noX s₄) noX s₃
      else ∃ m,m<n/\I m s₃) noX s₂) noX s₁) noX s₁) noX s)
  (n:Nat) (h:I n s) :
  codeAny (model prog w) A (.compLoop (.ListComp elt [⟨target,iter,ifs,0⟩] scope pos) 0 it acc env) R s:=by
 refine codeAny_loop rfl I (fun n s hI=>?_) n h;show wpAny _ A ((compTurn (.ListComp elt [⟨target,iter,ifs,0⟩] scope pos) 0 it acc env).onRaise (fun x=>do noteFrame x env;theTreesLotGoes x)) _ _ s
 refine wpAny_noted ?_;rw [compTurn_list];refine wpAny_bind (wpAny_standAt (wpAny_bind (wpAny_mono (turn n s hI) (fun r s₁ h₁=>?_) fun _ _ h'=>h'.elim)));cases r with
 | none=>exact wpAny_pure h₁
 | some v=>
  refine wpAny_bind (wpAny_mono h₁ (fun _ s₁ h₁=>?_) fun _ _ h'=>h'.elim);refine wpAny_bind (wpAny_mono h₁ (fun _ s₂ h₂=>wpAny_bind (wpAny_mono h₂ (fun ok s₃ h₃=>?_) fun _ _ h'=>h'.elim)) fun _ _ h'=>h'.elim);cases ok with
  | false=>exact wpAny_pure ⟨rfl,h₃⟩
  | true=>
   exact wpAny_bind (wpAny_bind (wpAny_mono h₃ (fun x s₄ h₄=>wpAny_bind (wpAny_mono h₄ (fun _ s₅ h₅=>wpAny_pure (wpAny_pure ⟨rfl,h₅⟩)) fun _ _ h'=>h'.elim)) fun _ _ h'=>h'.elim))
section
variable {X:Cx} {Ab:List (Addr × Obj)} {σ:St} {H:Hp} {s:Shared}
theorem Inv.other {h':Heap} {L:Addr} {n:Nat} (I:Inv X Ab σ H s) (hb:X.s₀.heap.objs.size<=L) (h0:H L=none) (h1:L ≠ X.env.locals) (h2:∀ x c,X.env.cells.lookup x=some c->c ≠ L) (h3:∀ p ∈ X.pn++Ab,p.1 ≠ L)
  (k:Heap.SameBut L s.heap h'):Inv X Ab σ H { s with heap:=h' }:=
 I.turned (t':=s.toks) (fun b o hb e=>(k.2 b hb).trans e) h0 h1 (.inr hb) h2 h3
theorem qYC {scope:Scope} {own:List Str} {fv:List Nat} {fp:List Addr} (I:Inv X Ab σ H s) (S:LcScope X scope own fv) (hf:∀ b ∈ fp,FpOk X Ab H b) (hsz:∀ b ∈ fp,b<s.heap.objs.size) :
  (lcCx X scope own fv ⟨s.heap.objs.size,qHM X.env scope.names [],fp,s,H⟩).Ok:=by
 have hfr:∀ x,(x,Q7) ∈ scope.names->∃ c,X.env.cells.lookup x=some c:=fun x hx=>I.ok.has x (S.free _ hx rfl);have sub:=qIS (env:=X.env) (names:=scope.names) (acc:=[]) hfr (fun x c z=>by simp at z)
 refine ⟨I.ok.mod,S.kind,I.ok.glob,I.ok.blt,C1 _,fun x y c h1 h2=>I.ok.inj x y c (sub _ _ h1) (sub _ _ h2),fun x hx=>?_,fun x c hx=>?_,I.ok.hd,I.ok.frames,.inl rfl,fun b hb=>⟨?_,fun x c e=>?_⟩,I.bs,M6 I.ok.bsz I.sz,fun b o e hb=>?_,fun b hb hb'=>?_,I.stack,I.stkFree⟩
 ·refine qIT (.inl ?_);have hx':(relabel scope X.env).names.lookup x=some .cell\/(relabel scope X.env).names.lookup x=some .free:=hx;unfold relabel at hx';rw [qDI] at hx';cases e:scope.names.lookup x with
  | none=>rw [e] at hx';simp at hx'
  | some k=>
   have hm:=V0 e;have nc:=S.nocell _ hm;rw [e] at hx';simp only [a8,Option.some.injEq] at hx';cases k with
   | free=>exact hm
   | cell=>exact absurd rfl nc
   | _=>simp at hx'
 ·cases hx
 ·exact F0 (hsz b hb)
 ·exact (hf b hb).2.2.2.2.1 x c (sub _ _ e)
 ·rcases (hf b hb).2.2.2.1 with z | z
  ·exact I.ok.noex b o e z
  ·exact absurd (G9 (D0 (I.ok.bs b o e).1) z) (c8 _)
 ·rcases D9.mp (I.stkSub b hb') with z | z
  ·exact (hf b hb).2.1 z
  ·exact (hf b hb).2.2.1 z
theorem qTW {scope:Scope} {own:List Str} {fv:List Nat} {fp:List Addr} {h₁:Heap} {tk:Nat} (I:Inv X Ab σ H s) (S:LcScope X scope own fv) (hf:∀ b ∈ fp,FpOk X Ab H b) (hsz:∀ b ∈ fp,b<s.heap.objs.size)
  (hns:h₁.Ns s.heap.objs.size (fun _=>none)) (hk:∀ b o,s.heap.get? b=some o->h₁.get? b=some o) :
  Inv (lcCx X scope own fv ⟨s.heap.objs.size,qHM X.env scope.names [],fp,s,H⟩) [] (qIF own fv σ) H { s with heap:=h₁,toks:=tk }:=by
 have hfr:∀ x,(x,Q7) ∈ scope.names->∃ c,X.env.cells.lookup x=some c:=fun x hx=>I.ok.has x (S.free _ hx rfl);have sub:=qIS (env:=X.env) (names:=scope.names) (acc:=[]) hfr (fun x c z=>by simp at z)
 refine ⟨qYC I S hf hsz,rfl,I.bare,Un.kept hk,⟨_,hns,fun i x v h1 h2 h3=>?_⟩,fun x c e=>?_,I.hok.fresh (C1 _),fun x c e=>I.freeC x c (sub _ _ e),fun p hp=>absurd (show p ∈ ([]:List (Addr × Obj)) from hp) (by simp),I.hok.kept hk,?_⟩
 ·have h1:(own++fv.map fun i=>X.N.getD i i7)[i]?=some x:=h1;unfold qIF at h2;have hi:own.length<=i:=by
   apply d9;intro hi;rw [F6 (by simpa using hi),D7] at h2
   cases e:own[i]? with
   | none=>rw [e] at h2;cases h2
   | some z=>rw [e] at h2;cases h2
  rw [E8 (by simpa using hi),A0,D7] at h2
  rw [E8 hi,D7] at h1;cases e:fv[i - own.length]? with
  | none=>rw [e] at h1;cases h1
  | some j=>
   rw [e] at h1 h2;have hj:=S.fvs j (D8 e);have h1:X.N.getD j i7=x:=L9 h1;have h2:(σ[j]?).join=some v:=L9 h2;have h2':σ[j]?=some (some v):=by
    cases q:σ[j]? with
    | none=>rw [q] at h2;cases h2
    | some y=>rw [q] at h2;exact congrArg some h2
   have hx:X.N[j]?=some x:=by
    rw [L8] at h1;rw [B9 hj.1] at h1 ⊢;exact congrArg some h1
   have hlk:scope.names.lookup x=some .free:=h1 ▸ hj.2;have hmem:=V0 hlk;obtain ⟨m,hn,hl⟩:=id I.loc;have hkd:=S.free _ hmem rfl;obtain ⟨u,ru,lk⟩:=hl j x v hx h2' (by
    rcases hkd with z | z
    ·exact .inr (.inl z)
    ·exact .inr (.inr z))
   refine ⟨u,ru,?_⟩;rcases lk with ⟨z,_⟩ | ⟨_,c,e1,z⟩
   ·rcases hkd with y | y
    ·have y':X.env.kindOf x=some .cell:=y;rw [z] at y';cases y'
    ·have y':X.env.kindOf x=some .free:=y;rw [z] at y';cases y'
   ·obtain ⟨c',e2⟩:=qIT (env:=X.env) (names:=scope.names) (acc:=[]) (x:=x) (.inl hmem);have e3:=sub _ _ e2;rw [e1] at e3;cases e3;obtain ⟨o,ho,hd⟩:=z;refine .inr ⟨?_,c,e2,o,hk _ _ ho,hd⟩;show (relabel scope X.env).names.lookup x=some .cell\/(relabel scope X.env).names.lookup x=some .free;unfold relabel;rw [qDI,hlk,a8]
    split
    ·exact .inl rfl
    ·exact .inr rfl
 ·obtain ⟨v,o,ho,hd⟩:=I.cell x c (sub _ _ e);exact ⟨v,o,hk _ _ ho,hd⟩
 ·unfold qIF;show _=(own++fv.map fun i=>X.N.getD i i7).length;rw [A8,A8,A0,A0,A0]
theorem qWF {scope:Scope} {own:List Str} {fv:List Nat} {fp:List Addr} {pins':List (Addr × Obj)} {σ':St} {H':Hp} {s':Shared} {cl:List (Str × Addr)} (I:Inv X Ab σ H s) (hf:∀ b ∈ fp,FpOk X Ab H b)
  (J:Inv (lcCx X scope own fv ⟨s.heap.objs.size,cl,fp,s,H⟩) pins' σ' H' s'):Inv X Ab σ H' s':=
 I.call' (ch:=fp) J.os J.base J.hok J.bare fun b hb=>⟨(hf b hb).2.2.2.1,(hf b hb).2.1,(hf b hb).2.2.2.2.1,(hf b hb).2.2.2.2.2⟩
end
def PTs (X:Cx) (ifs:List Expr) (t:TT):Prop:=
 ∀ (Ab:List (Addr × Obj)) (s:Shared) (σ:St) (H:Hp) (Q:Bool->Hp->Prop),Inv X Ab σ H s->t σ H Q->
  wpAny (model X.prog X.w) X.A (forIn ifs true fun c r=>if r=true then do let ok <- isTrue c X.env (eval c X.env);pure (R5 ok) else pure (R5 r)) (TP X Ab σ Q) X.xe s
def qYZ:TT:=fun _ H Q=>Q true H
theorem qBN {X:Cx}:PTs X [] qYZ:=fun Ab s σ H Q I h=>wpAny_tests_nil ⟨H,I,h⟩
theorem qW0 {X:Cx} {c:Expr} {t:TT} (h:PT X c t):PTs X [c] t:=fun Ab s σ H Q I hq=>wpAny_tests_one (h Ab s σ H Q I hq)
def qYD (own:List Str) (fv:List Nat) (wi:TI) (g:TG) (tc:TT) (te:TE) (K:Addr->Hp->Prop):St->Hp->Prop:=fun σ H=>wi σ H fun J H1=>∀ p,H1 p=none->
 ∃ W:Nat->Nat->St->Hp->Prop,(∃ m,W 0 m (qIF own fv σ) (Ah H1 p (.lst [])))/\∀ i m σ H,W i m σ H->
  (J.stop i H/\K p H)\/(J.go i H/\∃ N:St->Hp->Prop,(∀ σ' H',N σ' H'->∃ m',m'<m/\W (i+1) m' σ' H')/\∀ x H',J.yld i H x H'->g x σ H' fun σ2 H2=>tc σ2 H2 fun b H3=>
   if b=true then te σ2 H3 fun y H4=>∃ ys,H4 p=some (.lst ys)/\ys.length<sizeLine/\N σ2 (Ah H4 p (.lst (ys++[y])))
   else N σ2 H3)
def tLc (own:List Str) (fv:List Nat) (wi:TI) (g:TG) (tc:TT) (te:TE):TE:=fun σ H Q=>qYD own fv wi g tc te (fun p H'=>Q (.ref p) H') σ H
section
variable {X:Cx} {tg iter elt:Expr} {ifs:List Expr} {scope:Scope} {pos:Pos} {own:List Str} {fv:List Nat} {wi:TI} {g:TG} {tc:TT} {te:TE}
theorem qRI {Ab:List (Addr × Obj)} {s:Shared} {σ:St} {H:Hp} {K:Addr->Hp->Prop} {use:Option (Value->Sem Unit)} {Q:Value->Shared->Prop} {E:Value->Shared->Prop} (hc:X.calm=true) (S:LcScope X scope own fv) (hi:PI X tg iter wi)
  (hg:∀ z,PG (lcCx X scope own fv z) tg g) (ht:∀ z,PTs (lcCx X scope own fv z) ifs tc) (he:∀ z,PE (lcCx X scope own fv z) elt te)
  (I:Inv X Ab σ H s) (h:qYD own fv wi g tc te K σ H) (hxe:∀ e s,X.xe e s->E e s)
  (fin:∀ (p:Addr) (L:Addr) (H':Hp) (s':Shared) (m:Str->Option Value),Inv X Ab σ H' s'->K p H'->s'.heap.Ns L m->X.s₀.heap.objs.size<=L->H' L=none->L ≠ X.env.locals->(∀ x c,X.env.cells.lookup x=some c->c ≠ L)->(∀ q ∈ X.pn++Ab,q.1 ≠ L)->
   compPost (model X.prog X.w) X.A E use Q (.ref p) L (.ok .next) s') (hs:∀ x,foldedSetIterable iter X.env x=pure x:=by intro _;rfl) :
  wpAny (model X.prog X.w) X.A (comprehension (.ListComp elt [⟨tg,iter,ifs,0⟩] scope pos) scope X.env (firstIterPos [⟨tg,iter,ifs,0⟩] pos) (newList []) false (eval iter X.env) use) Q E s:=by
 have hfr:∀ x,(x,Q7) ∈ scope.names->∃ c,X.env.cells.lookup x=some c:=fun x hx=>I.ok.has x (S.free _ hx rfl);refine wpAny_comprehension_free rfl hs (qPZ hfr) S.kind S.names (wpAny_mono (hi Ab s σ H _ I h) (fun v s1 h1=>wpAny_mono h1 (fun itv s2 h2=>?_) hxe) hxe);obtain ⟨it,fp,tn,J,H2,e,I2,T,st2,f2,q2⟩:=h2;subst e
 -- the list
 refine wpAny_newObj_type ?_;have fresh2:H2 s2.heap.objs.size=none:=I2.hok.fresh (C1 _);have I3:Inv X Ab σ (Ah H2 s2.heap.objs.size (.lst [])) { s2 with heap:=s2.heap.push { cls:=.type "list",dict:=none,data:=.seq ([]:List Value).toArray } }:=
  I2.laid (t':=s2.toks) (fun b u e=>B8 _ e) (C1 _) ⟨G5 _,[],0,.nil,D4 _ rfl⟩
 obtain ⟨W,⟨m0,w0⟩,turn⟩:=q2 s2.heap.objs.size fresh2;have lt2:∀ b ∈ fp,b<s2.heap.objs.size:=fun b hb=>by
  obtain ⟨o,e,_⟩:=T.obj 0 _ st2 b hb;exact D0 e
 have f3:∀ b ∈ fp,FpOk X Ab (Ah H2 s2.heap.objs.size (.lst [])) b:=fun b hb=>⟨by rw [qA8 (F0 (lt2 b hb))];exact (f2 b hb).1,(f2 b hb).2⟩
 generalize hp:s2.heap.objs.size=p at *;generalize hH3:Ah H2 p (.lst [])=H3 at *;have st3:tn 0 (s2.heap.push { cls:=.type "list",dict:=none,data:=.seq ([]:List Value).toArray }):=T.keep _ _ _ st2 fun b _ o e=>B8 _ e;have lt3:∀ b ∈ fp,b<(s2.heap.push { cls:=.type "list",dict:=none,data:=.seq ([]:List Value).toArray }).objs.size:=fun b hb=>by
  rw [P2];have:=lt2 b hb;rw [hp];exact V1 this
 generalize hs3:({ s2 with heap:=s2.heap.push { cls:=.type "list",dict:=none,data:=.seq ([]:List Value).toArray } }:Shared)=s3 at *;have st3':tn 0 s3.heap:=by rw [<- hs3];exact st3
 have lt3':∀ b ∈ fp,b<s3.heap.objs.size:=by rw [<- hs3];exact lt3
 -- the block's frame
 refine wpAny_newFunctionEnv S.nocell (by intro y hy;simp at hy) (fun h₁ hns₁ hsb₁=>?_) S.kind
 have keep1:∀ b o,s3.heap.get? b=some o->h₁.get? b=some o:=fun b o e=>hsb₁.extBut b o (F0 (D0 e)) (B8 _ e);have J0:Inv (lcCx X scope own fv ⟨s3.heap.objs.size,qHM X.env scope.names [],fp,s3,H3⟩) [] (qIF own fv σ) H3 { s3 with heap:=h₁,toks:=s3.toks+([]:List (Str × Value)).length }:=qTW I3 S f3 lt3' hns₁ keep1;have cOk:=qYC I3 S f3 lt3';generalize hz:(⟨s3.heap.objs.size,qHM X.env scope.names [],fp,s3,H3⟩:LcZ)=z at *;have st4:tn 0 h₁:=T.keep _ _ _ st3' fun b _ o e=>keep1 b o e;have fr4:∀ b ∈ fp,H3 b=none:=fun b hb=>(f3 b hb).1;have stat:∀ {H':Hp},(∀ b ∈ fp,H' b=none)->∀ b ∈ fp,FpOk (lcCx X scope own fv z) [] H' b:=fun hn b hb=>by
  subst hz;refine ⟨hn b hb,(cOk.exf b hb).1,cOk.exfs b hb,.inl hb,(cOk.exf b hb).2,fun q hq=>absurd (show q ∈ ([]:List (Addr × Obj)) from hq) (by simp)⟩
 have envE:({ newEnv scope s3.heap.objs.size X.env.globals (qHM X.env scope.names []) X.env.qual none .none (some X.env) builtinsNs with scope:=relabel scope X.env }:Env)=(lcCx X scope own fv z).env:=by
  subst hz
  rfl
 have loop:∀ sA:Shared,sA={ s3 with heap:=h₁,toks:=s3.toks+([]:List (Str × Value)).length }->codeAny (model X.prog X.w) X.A (.compLoop (.ListComp elt [⟨tg,iter,ifs,0⟩] scope pos) 0 (.ref it) (.ref p) (lcCx X scope own fv z).env)
   (compPost (model X.prog X.w) X.A E use Q (.ref p) s3.heap.objs.size) sA:=by
  rintro sA rfl;refine qM6 (fun n s'=>∃ i σ' H',Inv (lcCx X scope own fv z) [] σ' H' s'/\tn i s'.heap/\(∀ b ∈ fp,H' b=none)/\W i n σ' H') ?_ m0 ⟨0,_,H3,J0,st4,fr4,w0⟩;rintro n s4 ⟨i,σ4,H4,I4,st4,fr4,w4⟩;rcases turn i n σ4 H4 w4 with ⟨stop,qn⟩ | ⟨go,Nx,hNx,step⟩
  ·refine thn (T.done (lcCx X scope own fv z) rfl rfl rfl hc i [] s4 σ4 H4 noX I4 (stat fr4) st4 stop) fun r s5 ⟨hr,I5⟩=>?_;subst hr;subst hz;have I6:Inv X Ab σ H4 s5:=qWF I3 f3 I5;obtain ⟨m,hn,_⟩:=id I5.loc;have fpL:=I3.fpOk (H':=H4) (b:=s3.heap.objs.size) (C1 _) I5.free;refine fin p s3.heap.objs.size H4 s5 m I6 qn hn I3.sz fpL.1 fpL.2.1 fpL.2.2.2.2.1 fpL.2.2.2.2.2
  ·refine thn (T.item (lcCx X scope own fv z) rfl rfl rfl hc i [] s4 σ4 H4 noX I4 (stat fr4) st4 go) fun r s5 ⟨u,hr,h5⟩=>?_;subst hr;refine thn h5 fun _ s6 ⟨x,H6,I6,r6,y6,st6,fr6⟩=>?_;have I6':=I6.pinned (stat fr6) (T.obj _ _ st6);have again:∀ {σ7:St} {H7:Hp} {s7:Shared} {m':Nat},m'<n->Inv (lcCx X scope own fv z) ([]++qL9 fp s6.heap) σ7 H7 s7->W (i+1) m' σ7 H7->
     ∃ m,m<n/\∃ i σ' H',Inv (lcCx X scope own fv z) [] σ' H' s7/\tn i s7.heap/\(∀ b ∈ fp,H' b=none)/\W i m σ' H':=fun {σ7 H7 s7 m'} hm I7 w7=>by
    refine ⟨m',hm,i+1,σ7,H7,I7.unpinned,T.keep _ _ _ st6 fun b hb o e=>(I7.pin (b,o) (J6 _ (J6 _ (qEX hb e)))).1,fun b hb=>?_,w7⟩;obtain ⟨o,e,d⟩:=T.obj _ _ st6 b hb;exact (I7.pin (b,o) (J6 _ (J6 _ (qEX hb e)))).2.1
   refine thn (hg z _ s6 σ4 H6 x u _ I6' r6 (step x H6 y6)) fun _ s7 ⟨σ7,H7,I7,q7⟩=>?_;refine thn (ht z _ s7 σ7 H7 _ I7 q7) fun b s8 ⟨H8,I8,q8⟩=>?_;cases b with
   | false=>
    obtain ⟨m',hm,w8⟩:=hNx _ _ q8;exact again hm I8 w8
   | true=>
    refine thn (he z _ s8 σ7 H8 _ I8 q8) fun v s9 ⟨y,H9,I9,r9,ys,ep,hl,w9⟩=>?_;refine thn (qC0 (X:=lcCx X scope own fv z) _ s9 σ7 H9 (.ref p) [y] (.ref p) [v] (fun _ H'=>Nx σ7 H') I9 rfl (.cons r9 .nil) ⟨p,ys,y,rfl,rfl,ep,hl,w9⟩) fun _ s10 ⟨_,H10,I10,_,q10⟩=>?_;obtain ⟨m',hm,w10⟩:=hNx _ _ q10;exact again hm I10 w10
 rw [envE];exact codeAny_compStart_list (loop _ rfl) (T.self _ _ _ _ _ st4 (loop _ rfl))
theorem qFE (hc:X.calm=true) (S:LcScope X scope own fv) (hi:PI X tg iter wi) (hg:∀ z,PG (lcCx X scope own fv z) tg g) (ht:∀ z,PTs (lcCx X scope own fv z) ifs tc) (he:∀ z,PE (lcCx X scope own fv z) elt te)
  (hs:∀ x,foldedSetIterable iter X.env x=pure x:=by intro _;rfl):PE X (.ListComp elt [⟨tg,iter,ifs,0⟩] scope pos) (tLc own fv wi g tc te):=by
 intro Ab s σ H Q I h;rw [eval_ListComp];refine qRI (use:=none) (K:=fun p H'=>Q (.ref p) H') hc S hi hg ht he I h (fun _ _ q=>q) (fun p L H' s' m I' q hn h1 h2 h3 h4 h5=>?_) hs;exact ⟨m,hn,fun h' hs'=>⟨.ref p,H',I'.other (n:=0) h1 h2 h3 h4 h5 hs',rfl,q⟩⟩
theorem qXX {i:Nat} {x:Str} {pos' spos:Pos} (hN:X.N.Nodup) (hx:X.N[i]?=some x) (hl:X.env.scope.names.lookup x=some .local) (hc:X.calm=true) (S:LcScope X scope own fv) (hi:PI X tg iter wi) (hg:∀ z,PG (lcCx X scope own fv z) tg g)
  (ht:∀ z,PTs (lcCx X scope own fv z) ifs tc) (he:∀ z,PE (lcCx X scope own fv z) elt te) (hsw:swapsWith (.ListComp elt [⟨tg,iter,ifs,0⟩] scope pos) (some (.Name x pos')) spos.line X.env=pure true)
  (hs:∀ x,foldedSetIterable iter X.env x=pure x:=by intro _;rfl):PS X (.Assign [.Name x pos'] (.ListComp elt [⟨tg,iter,ifs,0⟩] scope pos) spos) (tAsg (tLc own fv wi g tc te) (qU9 i)):=by
 intro Ab s σ H D I h;rw [exec_Assign_Name_used _ _ _ _ hsw];refine wpAny_bind (wpAny_standAt (wpAny_bind ?_));show wpAny _ X.A (do let _ <- comprehension (.ListComp elt [⟨tg,iter,ifs,0⟩] scope pos) scope X.env _ (newList []) false (eval iter X.env) (some (assign (.Name x pos') X.env))) _ _ s
 refine wpAny_bind (wpAny_mono (qRI (use:=some (assign (.Name x pos') X.env)) (K:=fun p H'=>D.nx (σ.set i (some (.ref p))) H') (Q:=fun _ s'=>SP X Ab D .next s') (E:=X.xe) hc S hi hg ht he I h (fun _ _ q=>q) (fun p L H' s' m I' q hn h1 h2 h3 h4 h5=>?_) hs)
  (fun _ s' hq=>wpAny_pure (wpAny_pure hq)) fun _ _ e=>e)
 show wpAny _ X.A (assign (.Name x pos') X.env (.ref p)) _ _ _;refine wpAny_assign_Name (qKS (v:=.ref p) I' hN hx (.inl hl) rfl (fun s2 I2 ⟨a,hsb,ha⟩=>?_) (.inr hl));have hLa:L ≠ a:=by
  rcases ha with z | z
  ·rw [z];exact h3
  ·exact fun y=>h4 x a z y.symm
 exact ⟨m,hn.sameBut hsb hLa,fun h' hs'=>⟨_,H',I2.other (n:=0) h1 h2 h3 h4 h5 hs',q⟩⟩
end
theorem qHU {lo:Int} {n:Nat} {g:TG} {tc:TT} {te:TE} {Kf:Hp->Prop} {σ0:St} {H0:Hp} {p:Addr} (Pv:Nat->St->Hp->Prop) (h0:Pv 0 σ0 H0)
  (hs:∀ i σ H,i<n->Pv i σ H->g (.int (lo+i)) σ H fun σ2 H2=>tc σ2 H2 fun b H3=>if b=true then te σ2 H3 fun y H4=>∃ ys,H4 p=some (.lst ys)/\ys.length<sizeLine/\Pv (i+1) σ2 (Ah H4 p (.lst (ys++[y]))) else Pv (i+1) σ2 H3)
  (hd:∀ σ H,Pv n σ H->Kf H) :
  ∃ W:Nat->Nat->St->Hp->Prop,(∃ m,W 0 m σ0 H0)/\∀ i m σ H,W i m σ H->
   ((Itr lo n).stop i H/\Kf H)\/((Itr lo n).go i H/\∃ N:St->Hp->Prop,(∀ σ' H',N σ' H'->∃ m',m'<m/\W (i+1) m' σ' H')/\∀ x H',(Itr lo n).yld i H x H'->g x σ H' fun σ2 H2=>tc σ2 H2 fun b H3=>
    if b=true then te σ2 H3 fun y H4=>∃ ys,H4 p=some (.lst ys)/\ys.length<sizeLine/\N σ2 (Ah H4 p (.lst (ys++[y]))) else N σ2 H3):=by
 refine ⟨fun i m σ H=>m=n - i/\i<=n/\Pv i σ H,⟨n,by simp,G5 _,h0⟩,?_⟩
 rintro i m σ H ⟨rfl,hi,q⟩;by_cases hlt:i<n
 ·refine .inr ⟨hlt,Pv (i+1),fun σ' H' p'=>⟨n - (i+1),by omega,rfl,hlt,p'⟩,fun x H' y=>?_⟩
  obtain ⟨e,y⟩:=y;subst e y;exact hs i σ _ hlt q
 ·have e:i=n:=by omega
  subst e;exact .inl ⟨C1 _,hd σ H q⟩
theorem qN6 {K:PySem.W.Frag} {a:Addr} {xs:List V} {g:TG} {tc:TT} {te:TE} {Kf:Hp->Prop} {σ0:St} {H0:Hp} {p:Addr} (Pv:Nat->St->Hp->Prop) (h0:Pv 0 σ0 H0) (hl:∀ i σ H,i<=xs.length->Pv i σ H->SqL K H a xs)
  (hs:∀ i x σ H,xs[i]?=some x->Pv i σ H->g x σ H fun σ2 H2=>tc σ2 H2 fun b H3=>if b=true then te σ2 H3 fun y H4=>∃ ys,H4 p=some (.lst ys)/\ys.length<sizeLine/\Pv (i+1) σ2 (Ah H4 p (.lst (ys++[y]))) else Pv (i+1) σ2 H3)
  (hd:∀ σ H,Pv xs.length σ H->Kf H) :
  ∃ W:Nat->Nat->St->Hp->Prop,(∃ m,W 0 m σ0 H0)/\∀ i m σ H,W i m σ H->
   ((Itl K a).stop i H/\Kf H)\/((Itl K a).go i H/\∃ N:St->Hp->Prop,(∀ σ' H',N σ' H'->∃ m',m'<m/\W (i+1) m' σ' H')/\∀ x H',(Itl K a).yld i H x H'->g x σ H' fun σ2 H2=>tc σ2 H2 fun b H3=>
    if b=true then te σ2 H3 fun y H4=>∃ ys,H4 p=some (.lst ys)/\ys.length<sizeLine/\N σ2 (Ah H4 p (.lst (ys++[y]))) else N σ2 H3):=by
 refine ⟨fun i m σ H=>m=xs.length - i/\i<=xs.length/\Pv i σ H,⟨xs.length,by simp,G5 _,h0⟩,?_⟩
 rintro i m σ H ⟨rfl,hi,q⟩;have hq:=hl i σ H hi q;by_cases hlt:i<xs.length
 ·refine .inr ⟨⟨xs,xs[i],hq,by simp [hlt]⟩,Pv (i+1),fun σ' H' p'=>⟨xs.length - (i+1),by omega,rfl,hlt,p'⟩,fun x H' y=>?_⟩
  obtain ⟨e,y⟩:=y;subst e;exact hs i x σ _ (y xs hq) q
 ·have e:i=xs.length:=by omega
  subst e;exact .inl ⟨⟨xs,hq,C1 _⟩,hd σ H q⟩
theorem qH4 {K:PySem.W.Frag} {a:Addr} {xs:List V} {g:TG} {tc:TT} {te:TE} {Kf:Hp->Prop} {σ0:St} {H0:Hp} {p:Addr} (Pv:Nat->St->Hp->Prop) (h0:Pv 0 σ0 H0) (hl:∀ i σ H,i<=xs.length->Pv i σ H->SqT K H a xs)
  (hs:∀ i x σ H,xs[i]?=some x->Pv i σ H->g x σ H fun σ2 H2=>tc σ2 H2 fun b H3=>if b=true then te σ2 H3 fun y H4=>∃ ys,H4 p=some (.lst ys)/\ys.length<sizeLine/\Pv (i+1) σ2 (Ah H4 p (.lst (ys++[y]))) else Pv (i+1) σ2 H3)
  (hd:∀ σ H,Pv xs.length σ H->Kf H) :
  ∃ W:Nat->Nat->St->Hp->Prop,(∃ m,W 0 m σ0 H0)/\∀ i m σ H,W i m σ H->
   ((Itt K a).stop i H/\Kf H)\/((Itt K a).go i H/\∃ N:St->Hp->Prop,(∀ σ' H',N σ' H'->∃ m',m'<m/\W (i+1) m' σ' H')/\∀ x H',(Itt K a).yld i H x H'->g x σ H' fun σ2 H2=>tc σ2 H2 fun b H3=>
    if b=true then te σ2 H3 fun y H4=>∃ ys,H4 p=some (.lst ys)/\ys.length<sizeLine/\N σ2 (Ah H4 p (.lst (ys++[y]))) else N σ2 H3):=by
 refine ⟨fun i m σ H=>m=xs.length - i/\i<=xs.length/\Pv i σ H,⟨xs.length,by simp,G5 _,h0⟩,?_⟩
 rintro i m σ H ⟨rfl,hi,q⟩;have hq:=hl i σ H hi q;by_cases hlt:i<xs.length
 ·refine .inr ⟨⟨xs,xs[i],hq,by simp [hlt]⟩,Pv (i+1),fun σ' H' p'=>⟨xs.length - (i+1),by omega,rfl,hlt,p'⟩,fun x H' y=>?_⟩
  obtain ⟨e,y⟩:=y;subst e;exact hs i x σ _ (y xs hq) q
 ·have e:i=xs.length:=by omega
  subst e;exact .inl ⟨⟨xs,hq,C1 _⟩,hd σ H q⟩
def qRJ (scope:Scope) (own:List Str) (fv:List Nat) (osc:Scope) (N:List Str):Bool:=
 decide (scope.kind=.function) && scope.names.all (fun y=>decide (y.2 ≠ .cell)) && scope.names.all (fun y=>decide (y.2 ≠ .local) || decide (scope.names.lookup y.1=some .local)) &&
 scope.names.all (fun y=>decide (y.2 ≠ .free) || (decide (osc.names.lookup y.1=some .cell) || decide (osc.names.lookup y.1=some .free))) && decide ((own++fv.map fun i=>N.getD i i7).Nodup) &&
 fv.all fun i=>decide (i<N.length) && decide (scope.names.lookup (N.getD i i7)=some .free)
theorem lcs {X:Cx} {scope:Scope} {own:List Str} {fv:List Nat} (h:qRJ scope own fv X.env.scope X.N=true):LcScope X scope own fv:=by
 unfold qRJ at h;simp only [E7,decide_eq_true_eq,L0,B59] at h;obtain ⟨⟨⟨⟨⟨h1,h2⟩,h3⟩,h4⟩,h5⟩,h6⟩:=h;exact ⟨h1,h2,fun y hy e=>(h3 y hy).resolve_left fun z=>z e,fun y hy e=>(h4 y hy).resolve_left fun z=>z e,h5,h6⟩
theorem qE0 {N:List Str} (h:decide N.Nodup=true):N.Nodup:=of_decide_eq_true h
theorem qR4 {X:Cx} {K:PySem.W.Frag} {es:List Expr} {k n:Nat} {t:TGs} {pos:Pos} (hK:X.K=K) (hc:X.calm=true) (h:PGs X es t) (hn:(assignEach es X.env).length=n) (hst:(assignEach es X.env).findIdx? (·.1)=none):PG X (.Tuple es k pos) (gTup K n t):=by
 subst hK hn;exact qLA hc h rfl hst
theorem qW1 {X:Cx} {K:PySem.W.Frag} {tg l:Expr} {tl:TE} (hK:X.K=K) (hl:PE X l tl):PI X tg l (iTup K tl):=by subst hK;exact qD6 hl
theorem qWJ {X:Cx} {K:PySem.W.Frag} (hK:X.K=K):IxR X (rIxT K):=by subst hK;exact qCM
theorem qV2 {X:Cx} {K:PySem.W.Frag} (hK:X.K=K):OpR X (compareOp .In) (rIn K false):=by subst hK;exact qLG
theorem qR7 {X:Cx} {K:PySem.W.Frag} (hK:X.K=K):OpR X (compareOp .NotIn) (rIn K true):=by subst hK;exact qCE
theorem qMB {X:Cx} {K:PySem.W.Frag} (hK:X.K=K):qCI X (.builtin "len") (fun xs H Q=>∃ p ys,xs=[.ref p]/\(SqL K H p ys\/SqT K H p ys)/\Q (.int ys.length) H):=by subst hK;exact qAH
theorem qIU {X:Cx} {K:PySem.W.Frag} (hK:X.K=K):qCI X (.type "tuple") (fun xs H Q=>∃ p ys,xs=[.ref p]/\((SqL K H p ys/\∀ l,H l=none->Q (.ref l) (Ah H l (.tup ys)))\/(SqT K H p ys/\Q (.ref p) H))):=by subst hK;exact qAM
end L2
namespace L2
open PySem PySem.Spec PyProof.Rows
theorem qKH {xs:Array Nat} {j:Nat} (up:∀ a b,a<b->b<xs.size->xs.getD a j<xs.getD b j):∀ (fuel lo hi:Nat),lo<=hi->hi<=xs.size->hi - lo<=fuel->(∀ i,i<lo->xs.getD i j<j)->(∀ i,hi<=i->i<xs.size->j<=xs.getD i j)->
  w5 xs j fuel lo hi<=xs.size/\(∀ i,i<w5 xs j fuel lo hi->xs.getD i j<j)/\(∀ i,w5 xs j fuel lo hi<=i->i<xs.size->j<=xs.getD i j)
 | 0,lo,hi,h1,h2,h3,a,b=>by
  have e:lo=hi:=by omega
  subst e;exact ⟨h2,a,b⟩
 | fuel+1,lo,hi,h1,h2,h3,a,b=>by
  unfold w5;by_cases hlt:lo<hi
  ·rw [if_pos hlt];dsimp only;have hm1:lo<=(lo+hi) / 2:=by omega
   have hm2:(lo+hi) / 2<hi:=by omega
   by_cases hc:xs.getD ((lo+hi) / 2) j<j
   ·rw [if_pos hc];refine qKH up fuel _ _ (by omega) h2 (by omega) (fun i hi'=>?_) b
    by_cases e:i=(lo+hi) / 2
    ·rw [e];exact hc
    ·exact y8 (up i ((lo+hi) / 2) (by omega) (by omega)) hc
   ·rw [if_neg hc];refine qKH up fuel _ _ (by omega) (by omega) (by omega) a (fun i hi' hs=>?_)
    by_cases e:i=(lo+hi) / 2
    ·rw [e];omega
    ·have:=up ((lo+hi) / 2) i (by omega) hs
     omega
  ·rw [if_neg hlt];have e:lo=hi:=by omega
   subst e;exact ⟨h2,a,b⟩
theorem qQI {xs:Array Nat} (j:Nat) (h:xs.toList.Pairwise (·<·)):∀ a b,a<b->b<xs.size->xs.getD a j<xs.getD b j:=fun a b hab hb=>by
 have:=R6.mp h a b (by simpa using y8 hab hb) (by simpa using hb) hab
 rw [E2,E2,C3 (y8 hab hb),C3 hb];simpa using this
theorem qCW {xs:Array Nat} {j:Nat} (h:xs.toList.Pairwise (·<·)):D6 xs j<=xs.size/\(∀ i,i<D6 xs j->xs.getD i j<j)/\(∀ i,D6 xs j<=i->i<xs.size->j<=xs.getD i j):=by
 unfold D6;exact qKH (qQI j h) xs.size 0 xs.size (G5 _) (C1 _) (by omega) (fun i hi=>absurd hi (by omega)) (fun i hi hs=>absurd hs (by omega))
theorem qAX {α:Type} (xs:Array α) (p:Nat) (x:α):(E1 xs p x).toList=xs.toList.take p++x::xs.toList.drop p:=by
 unfold E1;simp [Array.toList_extract,F7]
structure T7 (byText:Bool) (t:SetTable) (n:Nat):Prop where
 mask:t.mask=7
 dum:t.dummies=#[]
 plain:t.plain=true
 led:t.led=!byText
 size:t.place.size=n
 up:t.place.toList.Pairwise (·<·)
 le:∀ j ∈ t.place.toList,j<=7
section
variable {byText:Bool} {t:SetTable} {n:Nat}
theorem T7.slot (T:T7 byText t n) (j:Nat):(t.slot j=.empty/\j ∉ t.place.toList)\/(∃ i,t.slot j=.live i/\j ∈ t.place.toList):=by
 unfold B83;dsimp only;have hd:A73 t.dummies j=false:=by rw [T.dum];rfl
 obtain ⟨b1,b2,b3⟩:=qCW (j:=j) T.up;by_cases hc:t.place[D6 t.place j]?=some j
 ·rw [if_pos (by rw [hc];simp)]
  exact .inr ⟨_,rfl,by rw [<- B84];exact A74 hc⟩
 ·rw [if_neg (by simpa using hc),hd,if_neg (by simp)]
  refine .inl ⟨rfl,fun hm=>?_⟩;obtain ⟨i,hi,he⟩:=T8.mp hm;have hi':i<t.place.size:=by simpa using hi
  have he':t.place.getD i j=j:=by
   rw [E2,C3 hi'];simpa using he
  have h1:¬ i<D6 t.place j:=fun z=>by have:=b2 i z;omega
  have h2:D6 t.place j=i:=by
   apply B60 (d9 h1);apply d9;intro z;have:=b3 (D6 t.place j) (C1 _) (by omega)
   have:=qQI j T.up _ _ z hi';omega
  apply hc;rw [h2,C3 hi'];simpa using he
def pr (i pt:Nat):SetTable.Probe:={ j:=i,more:=0,i:=i,perturb:=pt,dummy:=none }
theorem T7.adv (T:T7 byText t n) (i pt:Nat):t.advance (pr i pt)=pr ((i * 5+1+pt / 32) % 8) (pt / 32):=by
 unfold B43 pr SetTable.leap O6;rw [T.mask];dsimp only;rw [if_neg (by omega),if_neg (by omega),W4]
theorem T7.go1 (T:T7 byText t n) (h:Int) (f i pt:Nat) :
  (G2 t (fun _=>h+1) h (f+1) (pr i pt)=some (.empty i none)/\i ∉ t.place.toList)\/
  (G2 t (fun _=>h+1) h (f+1) (pr i pt)=G2 t (fun _=>h+1) h f (pr ((i * 5+1+pt / 32) % 8) (pt / 32))/\i ∈ t.place.toList):=by
 rcases T.slot i with ⟨e,m⟩ | ⟨k,e,m⟩
 ·left
  refine ⟨?_,m⟩;unfold G2;rw [show (pr i pt).j=i from rfl,e]
  rfl
 ·right
  refine ⟨?_,m⟩;rw [G2];rw [show (pr i pt).j=i from rfl,e];dsimp only;rw [if_neg (by simp;omega),T.adv]
def F8 (i:Nat):Nat:=(i * 5+1) % 8
def F8n:Nat->Nat->Nat
 | 0,i=>i
 | m+1,i=>F8n m (F8 i)
theorem T7.go0 (T:T7 byText t n) (h:Int) (f:Nat):∀ (m i:Nat),(∃ j,G2 t (fun _=>h+1) h (m+f) (pr i 0)=some (.empty j none)/\j ∉ t.place.toList/\∃ q,q<m/\j=F8n q i)\/(∀ q,q<m->F8n q i ∈ t.place.toList)
 | 0,i=>.inr fun q hq=>absurd hq (by omega)
 | m+1,i=>by
  rcases T.go1 h (m+f) i 0 with ⟨e,z⟩ | ⟨e,z⟩
  ·exact .inl ⟨i,by rw [show m+1+f=m+f+1 by omega];exact e,z,0,by omega,rfl⟩
  ·rw [show m+1+f=m+f+1 by omega,e]
   have e2:(i * 5+1+0 / 32) % 8=F8 i:=by unfold F8;omega
   rw [e2];rcases T.go0 h f m (F8 i) with ⟨j,e3,z3,q,hq,e4⟩ | e3
   ·exact .inl ⟨j,e3,z3,q+1,by omega,e4⟩
   ·refine .inr fun q hq=>?_;cases q with
    | zero=>exact z
    | succ q=>exact e3 q (by omega)
theorem qYY:∀ i:_root_.Fin 8,∀ j:_root_.Fin 8,∃ q:_root_.Fin 8,F8n q.1 i.1=j.1:=by decide
theorem qYX:∀ (q i:Nat),i<8->F8n q i<8
 | 0,i,h=>h
 | q+1,i,h=>qYX q (F8 i) (g8 _ (by decide))
theorem T7.goK (T:T7 byText t n) (hn:n<=7) (h:Int) (f:Nat):∀ (k i pt:Nat),i<8->pt<32 ^ k->∃ j,G2 t (fun _=>h+1) h (k+(8+f)) (pr i pt)=some (.empty j none)/\j ∉ t.place.toList/\j<=7
 | 0,i,pt,hi,hp=>by
  have e:pt=0:=by omega
  subst e;rw [A28];rcases T.go0 h f 8 i with ⟨j,e,z,q,hq,e2⟩ | e
  ·exact ⟨j,e,z,by have:=qYX q i hi;omega⟩
  ·exfalso
   have sub:[0,1,2,3,4,5,6,7] ⊆ t.place.toList:=fun j hj=>by
    have hj8:j<8:=by
     simp at hj;omega
    obtain ⟨q,hq⟩:=qYY ⟨i,hi⟩ ⟨j,hj8⟩;rw [<- show F8n q.1 i=j from hq];exact e q.1 q.2
   have:=G0 (by decide:[0,1,2,3,4,5,6,7].Nodup) sub
   have hs:=T.size;simp at this;omega
 | k+1,i,pt,hi,hp=>by
  rw [show k+1+(8+f)=k+(8+f)+1 by omega]
  rcases T.go1 h (k+(8+f)) i pt with ⟨e,z⟩ | ⟨e,z⟩
  ·exact ⟨i,e,z,by omega⟩
  ·rw [e];refine T.goK hn h f k _ _ (g8 _ (by decide)) ?_
   rw [W5] at hp;omega
theorem T7.free (T:T7 byText t n) (hn:n<=7) (h:Int):∃ j,t.freeSlot h=some (j,false)/\j ∉ t.place.toList/\j<=7:=by
 have hb:J5 h<32 ^ 13:=by
  unfold J5;have h1:0<=h % (2 ^ 64:Int):=b0 _ (by decide)
  have h2:h % (2 ^ 64:Int)<2 ^ 64:=W1 _ (by decide)
  have:((2:Int) ^ 64)=18446744073709551616:=by decide
  rw [this] at h1 h2 ⊢;have h3:(32:Nat) ^ 13=36893488147419103232:=by decide
  omega
 obtain ⟨j,e,z,l⟩:=T.goK hn h 199 13 (J5 h % 8) (J5 h) (g8 _ (by decide)) hb
 refine ⟨j,?_,z,l⟩;have hst:t.probeStart h=pr (J5 h % 8) (J5 h):=by
  unfold SetTable.probeStart pr O6;rw [T.mask];dsimp only;rw [if_neg (by omega),W4]
 unfold B26 B71;rw [hst,show 10 * W7 t.mask=13+(8+199) by rw [T.mask];rfl,e]
 rfl
theorem T7.lay (T:T7 byText t n) (hn:n<=3) {es:Array (Int × Value)} (he:es.size=n) (h:Int) (x:Value) :
  ∃ p t',layNew t es h x=(E1 es p (h,x),t',false,false)/\T7 byText t' (n+1)/\t'.tooFull=false/\p<=es.size:=by
 obtain ⟨j,e,z,l⟩:=T.free (by omega) h
 obtain ⟨b1,b2,b3⟩:=qCW (j:=j) T.up;have hd:A73 t.dummies j=false:=by rw [T.dum];rfl
 have tl:(E1 t.place (D6 t.place j) j).toList=t.place.toList.take (D6 t.place j)++j::t.place.toList.drop (D6 t.place j):=qAX _ _ _;have sz:(E1 t.place (D6 t.place j) j).size=n+1:=by
  rw [<- C2,tl,A8,E3,E5,F5,C2,T.size];rw [T.size] at b1;omega
 have T':T7 byText { t with place:=E1 t.place (D6 t.place j) j,dummies:=t.dummies } (n+1):=by
  refine ⟨T.mask,T.dum,T.plain,T.led,sz,?_,?_⟩
  ·show (E1 t.place (D6 t.place j) j).toList.Pairwise (·<·);rw [tl];have geti:∀ i,i<t.place.size->t.place.getD i j=t.place.toList.getD i j:=fun i hi=>by
    rw [E2,L8,F2]
   have lo:∀ a ∈ t.place.toList.take (D6 t.place j),a<j:=fun a ha=>by
    obtain ⟨i,hi,hai⟩:=T8.mp ha;rw [E5,C2] at hi;have hi1:i<D6 t.place j:=by omega
    have hi2:i<t.place.size:=by omega
    have:=b2 i hi1;rw [E2,C3 hi2] at this;rw [w6] at hai;rw [<- hai];simpa using this
   have hi:∀ a ∈ t.place.toList.drop (D6 t.place j),j<a:=fun a ha=>by
    have hm:a ∈ t.place.toList:=M9 ha;obtain ⟨i,hi,hai⟩:=T8.mp ha;rw [F5,C2] at hi;have hi2:D6 t.place j+i<t.place.size:=by omega
    have:=b3 _ (A54 _ i) hi2;rw [E2,C3 hi2] at this;rw [x0] at hai;have h3:j<=a:=by
     rw [<- hai];simpa using this
    rcases B16 h3 with h4 | h4
    ·exact h4
    ·exact absurd (h4 ▸ hm) z
   refine P4.mpr ⟨T.up.sublist (Z7 _ _),R3.mpr ⟨hi,T.up.sublist (b7 _ _)⟩,fun a ha b hb=>?_⟩;rcases D9.mp hb with e | hb
   ·rw [e];exact lo a ha
   ·exact y8 (lo a ha) (hi b hb)
  ·show ∀ i ∈ (E1 t.place (D6 t.place j) j).toList,i<=7;rw [tl];intro i hi;rcases C8.mp hi with hi | hi
   ·exact T.le i (T9 hi)
   ·rcases D9.mp hi with e | hi
    ·omega
    ·exact T.le i (M9 hi)
 have fits:d6 { t with place:=E1 t.place (D6 t.place j) j,dummies:=t.dummies } (n+1)=true:=by
  unfold d6 l0;dsimp only;rw [sz,T.dum,T.mask];have:((#[]:Array Nat)).size=0:=rfl;simp only [this,beq_self_eq_true,R7,decide_eq_true_eq];omega
 have szE:(E1 es (D6 t.place j) (h,x)).size=n+1:=by
  rw [<- C2,qAX,A8,E3,E5,F5,C2];rw [T.size] at b1;omega
 refine ⟨D6 t.place j,{ t with place:=E1 t.place (D6 t.place j) j,dummies:=t.dummies },?_,T',?_,by rw [he,<- T.size];exact b1⟩
 ·unfold layNew;rw [e];dsimp only;unfold B92;rw [hd];dsimp only;rw [szE];unfold B17;simp only [I0,if_false];rw [fits];simp
 ·unfold B44 l0;dsimp only;rw [sz,T.dum,T.mask];have:((#[]:Array Nat)).size=0:=rfl;rw [this];exact decide_eq_false (by omega)
end
end L2
namespace L2
open PySem PySem.Spec PyProof.Rows
theorem qJQ {α:Type}:∀ (l:List α) (i:Nat) (h:i<l.length),(l[i]::l.eraseIdx i).Perm l
 | [],i,h=>absurd h (by simp)
 | a::r,0,h=>.refl _
 | a::r,i+1,h=>by
  have hi:i<r.length:=by simpa using h
  have ih:=qJQ r i hi;show (r[i]::a::r.eraseIdx i).Perm (a::r);exact (List.Perm.swap _ _ _).trans (ih.cons a)
theorem qR2 {α:Type} (next:Nat->Nat):∀ (fuel k:Nat) (left:List α) (out:Array α),fuel=left.length->(B39 next fuel k left out).toList.Perm (out.toList++left)
 | 0,k,left,out,h=>by
  have:left=[]:=Q8.mp h.symm;subst this;unfold B39;simp
 | fuel+1,k,left,out,h=>by
  have hl:0<left.length:=by omega
  have hm:next k % left.length<left.length:=g8 _ hl;unfold B39;rw [B9 hm];dsimp only;refine (qR2 next fuel (k+1) _ _ (by rw [List.length_eraseIdx_of_lt hm];omega)).trans ?_
  rw [b8,P0];exact j6 _ (qJQ left _ hm)
theorem qR1 {α:Type} (next:Nat->Nat) (xs:Array α):(pickOrder next xs).toList.Perm xs.toList:=by
 unfold pickOrder;have:=qR2 next xs.size 0 xs.toList #[] (by simp)
 simpa using this
abbrev Ents:List Int->List (Int × Value)->Prop:=Paired fun k e=>∃ tk,e=(hashInt k,W2 k tk)
theorem Ents.perm:∀ {es es':List (Int × Value)} {ks:List Int},Ents ks es->es'.Perm es->∃ ks',Ents ks' es'/\ks'.Perm ks:=by
 intro es es' ks h p;have key:∀ {a b:List (Int × Value)},a.Perm b->∀ ks,Ents ks b->∃ ks',Ents ks' a/\ks'.Perm ks:=by
  intro a b p
  induction p with
  | nil=>intro ks h;exact ⟨ks,h,.refl _⟩
  | cons x p ih=>
   intro ks h;cases h with
   | cons r t=>
    obtain ⟨ks',h1,h2⟩:=ih _ t;exact ⟨_::ks',.cons r h1,h2.cons _⟩
  | swap x y l=>
   intro ks h;cases h with
   | cons r t=>
    cases t with
    | cons r' t'=>exact ⟨_,.cons r' (.cons r t'),.swap _ _ _⟩
  | trans p q ih1 ih2=>
   intro ks h;obtain ⟨k1,h1,h2⟩:=ih2 ks h;obtain ⟨k2,h3,h4⟩:=ih1 k1 h1;exact ⟨k2,h3,h4.trans h2⟩
 exact key p ks h
theorem Ents.elems {prog:Program} {w:World} {es:List (Int × Value)} {ks:List Int} (h:Ents ks es):ElemsOf (intKind prog w) es:=by
 intro e he;have key:∀ {ks:List Int} {es:List (Int × Value)},Ents ks es->∀ e ∈ es,∃ k tk,e=(hashInt k,W2 k tk):=by
  intro ks es h
  induction h with
  | nil=>intro e he;cases he
  | cons r t ih=>
   intro e he;rcases D9.mp he with z | z
   ·subst z;obtain ⟨tk,e⟩:=r;exact ⟨_,tk,e⟩
   ·exact ih e z
 obtain ⟨k,tk,rfl⟩:=key h e he;exact ⟨⟨k,by simp [intKind,A45],rfl⟩,rfl⟩
theorem Ents.find {prog:Program} {w:World} {k:Int}:∀ {es:List (Int × Value)} {ks:List Int},Ents ks es->((B18 (fun e=>(intKind prog w).is k e.2) es).isSome=true ↔ k ∈ ks)
 | _,_,.nil=>by simp
 | _,_,.cons r t=>by
  obtain ⟨tk,rfl⟩:=r
  rename_i k' ks' es'
  have ih:=Ents.find (prog:=prog) (w:=w) (k:=k) t;rw [List.findIdx?_cons,D9];have hi:(intKind prog w).is k (W2 k' tk)=decide (k=k'):=by
   by_cases e:k=k'
   ·simp [intKind,A45,e]
   ·have e':¬ k'=k:=fun z=>e z.symm;simp [intKind,A45,e,e']
  dsimp only;rw [hi];by_cases e:k=k'
  ·simp [e]
  ·simp only [e,decide_false,I0,if_false,false_or,a9];exact ih
def byT (w:World):Bool:=w.params.followText "set-order"
def SetI (w:World) (a:Addr) (zs:List Int) (h:Heap):Prop:=
 ∃ (es:Array (Int × Value)) (ep:Nat) (t:SetTable) (ks:List Int),h.get? a=some { cls:=.type "set",data:=.set es ep t }/\T7 (byT w) t es.size/\Ents ks es.toList/\ks.Perm zs/\zs.Nodup/\zs.length<=4
theorem SetI.at {w:World} {a:Addr} {zs:List Int} {h h':Heap} (x:SetI w a zs h) (k:∀ o,h.get? a=some o->h'.get? a=some o):SetI w a zs h':=
 let ⟨es,ep,t,ks,h1,r⟩:=x;⟨es,ep,t,ks,k _ h1,r⟩
theorem T7.fits {b:Bool} {t:SetTable} {n:Nat} (T:T7 b t n) (hn:n<=7):t.fits n=true:=by
 unfold d6 l0;rw [T.size,T.dum,T.mask];have:((#[]:Array Nat)).size=0:=rfl;simp only [this,beq_self_eq_true,R7,decide_eq_true_eq];omega
def addI (zs:List Int) (k:Int):List Int:=if k ∈ zs then zs else zs++[k]
section
variable {prog:Program} {w:World} {A:Around} {E:Value->Shared->Prop} {s:Shared}
theorem SetI.size {a:Addr} {zs:List Int} {h:Heap} {es:Array (Int × Value)} {ks:List Int} (he:Ents ks es.toList) (hp:ks.Perm zs):es.size=zs.length:=by
 rw [<- hp.length_eq,E9 he,C2]
theorem qTE {a:Addr} {zs:List Int} {k:Int} {tk:Tok} {Q:Bool->Shared->Prop} (hS:SetI w a zs s.heap) (hroom:zs.length<=3\/k ∈ zs)
  (h:∀ h',Heap.SameBut a s.heap h'->SetI w a (addI zs k) h'->∀ b,Q b { s with heap:=h' }):wpAny (model prog w) A (setAddHashed a (.int k tk) (hashInt k)) Q E s:=by
 obtain ⟨es,ep,t,ks,ho,T,he,hp,hnd,hlen⟩:=id hS;have hsz:es.size=zs.length:=SetI.size (a:=a) (h:=s.heap) he hp;have hel:ElemsOf (intKind prog w) es.toList:=he.elems;have hb:es.size<scanBound:=by rw [hsz];unfold scanBound;omega
 have hf:t.fits es.size=true:=T.fits (by omega)
 unfold setAddHashed setAddHashedIn;refine wpAny_holding (wpAny_bind (wpAny_setState_of ho rfl hf ?_));dsimp only;rw [byScan_of (knd:=intKind prog w) (x:=.int k tk) rfl hb hel];simp only [↓reduceIte];unfold setAddByScan;refine wpAny_bind ?_;refine wpAny_bind (wpAny_rule ?_);refine wpAny_bind (wpAny_setScan_of (knd:=intKind prog w) (k:=k) (intKind_is _ _ _ _) ho rfl hf hel ?_);have hfd:=Ents.find (prog:=prog) (w:=w) (k:=k) he;cases hr:B18 (fun e=>(intKind prog w).is k e.2) es.toList with
 | some j=>
  dsimp only;rw [hr] at hfd;have hk:k ∈ zs:=hp.mem_iff.mp (hfd.mp rfl);refine wpAny_pure (wpAny_pure ?_);have e:s={ s with heap:=s.heap }:=by cases s;rfl
  rw [e];refine h s.heap (B27 a s.heap) ?_ _;unfold addI;rw [if_pos hk];exact hS
 | none=>
  dsimp only;rw [hr] at hfd;have hk:¬ k ∈ zs:=fun z=>by have:=hfd.mpr (hp.mem_iff.mpr z);cases this
  have h3:zs.length<=3:=hroom.resolve_right hk;obtain ⟨p,t',e1,T',tf,hpe⟩:=T.lay (by omega) rfl (hashInt k) (.int k tk)
  rw [e1];dsimp only;refine wpAny_bind (wpAny_pure ?_);rw [T'.plain];simp only [↓reduceIte];rw [hashByValue_scannable 8 (x:=.int k tk) rfl];refine wpAny_bind (wpAny_pure ?_);have hszE:(E1 es p (hashInt k,W2 k tk)).size=es.size+1:=by
   rw [<- C2,qAX,A8,E3,E5,F5,C2];omega
  rw [show plainKind (W2 k tk)=true from rfl];simp only [↓reduceIte];show wpAny _ _ (storeSet a (E1 es p (hashInt k,.int k tk)) t' >>= _) _ _ _;refine wpAny_bind (wpAny_storeSet_of ho rfl ?_ (by rw [hszE,hsz,sizeLine_eq];omega))
  rw [tf];simp only [P8,I0,↓reduceIte];refine wpAny_pure (wpAny_pure ?_);refine h _ (R9 s.heap a _) ?_ _;have hg:(s.heap.update a (B28 (E1 es p (hashInt k,.int k tk)) t')).get? a=some { cls:=.type "set",data:=.set (E1 es p (hashInt k,.int k tk)) (ep+1) t' }:=by
   have:=P6 (B28 (E1 es p (hashInt k,.int k tk)) t') ho (by rw [putSet_of _ _ (ep:=ep) (es:=es) (t:=t) rfl];rfl)
   rw [putSet_of _ _ (ep:=ep) (es:=es) (t:=t) rfl] at this;exact this
  have hpm:(E1 es p (hashInt k,W2 k tk)).toList.Perm (es.toList++[(hashInt k,.int k tk)]):=by
   rw [qAX];have e3:es.toList++[(hashInt k,W2 k tk)]=es.toList.take p++(es.toList.drop p++[(hashInt k,W2 k tk)]):=by
    rw [<- P0,V8]
   rw [e3];exact j6 _ (A23 _ _).symm
  obtain ⟨ks',h4,h5⟩:=Ents.perm (ks:=ks++[k]) (A07 he ⟨tk,rfl⟩) hpm;refine ⟨_,_,t',ks',hg,by rw [hszE];exact T',h4,?_,?_,?_⟩
  ·unfold addI;rw [if_neg hk];exact h5.trans (hp.append_right _)
  ·unfold addI;rw [if_neg hk];exact qIC hnd hk
  ·unfold addI;rw [if_neg hk,A8,D5];omega
end
def dedI:List Int->List Int:=fun l=>l.foldl addI []
theorem qUI (zs:List Int) (k:Int):(addI zs k).length<=zs.length+1:=by
 unfold addI
 split <;> simp
theorem qBS:∀ (l zs:List Int),(l.foldl addI zs).length<=zs.length+l.length
 | [],zs=>by simp
 | k::r,zs=>by
  have h1:=qBS r (addI zs k);have h2:=qUI zs k;rw [X8,E3];omega
section
variable {prog:Program} {w:World} {A:Around} {R:Result->Shared->Prop} {I:Addr} {fp wr:List Addr} {G:Array GenState->Array GenState->Prop} {n:Nat} {P:Nat->Value->Prop} {St:Nat->Shared->Prop}
theorem qKY (W:WalksS prog w A.in1 I fp wr G n P St) (S:Addr) (hSf:S ∉ fp) (ns:List Int) (hnn:ns.length=n) (h4:n<=4) (hval:∀ i v,P i v->∃ t,v=.int (ns.getD i 0) t) :
  ∀ (k i:Nat) (s:Shared),n - i=k->i<=n->St i s->SetI w S (dedI (ns.take i)) s.heap->
   (∀ s',Moved (S::wr) G s s'->SetI w S (dedI ns) s'.heap->R (.ok (.ret .none)) s')->
   codeAny (model prog w) A (.builtin "set.update.loop" ⟨[.ref S,.ref I],[]⟩) R s:=by
 have hSw:S ∉ wr:=fun h=>hSf (W.sub _ h);have hsub:∀ b ∈ wr,b ∈ S::wr:=fun b hb=>C7 _ hb;intro k
 induction k with
 | zero=>
  intro i s hk hi hst hS hR;have hin:i=n:=by omega
  subst hin;refine codeAny_builtin F.entry_set_update_loop ?_;rw [R0 F.plain_set_update_loop _];show wpAny _ A.in1 (pyNext (.ref I) >>= _) _ _ s;refine wpAny_bind (W.done s _ _ hst fun s' hm=>?_);show wpAny _ A.in1 (ret W8) _ _ s';rw [F7 (by omega)] at hS
  exact wpAny_pure (hR s' (hm.mono hsub) (hS.at fun o e=>hm.heap S _ hSw e))
 | succ k ih=>
  intro i s hk hi hst hS hR;have hlt:i<n:=by omega
  refine codeAny_builtin F.entry_set_update_loop ?_;rw [R0 F.plain_set_update_loop _];show wpAny _ A.in1 (pyNext (.ref I) >>= _) _ _ s;refine wpAny_bind (W.item i s _ _ hlt hst fun v s' hP hst' hm=>?_);obtain ⟨t,rfl⟩:=hval i v hP;have hS':SetI w S (dedI (ns.take i)) s'.heap:=hS.at fun o e=>hm.heap S _ hSw e;show wpAny _ A.in1 (holding [W2 (ns.getD i 0) t] (setAdd S (.int (ns.getD i 0) t)) >>= _) _ _ s';refine wpAny_bind (wpAny_holding ?_);unfold setAdd;refine wpAny_holding ?_;refine wpAny_bind ((intKind prog w).pyHash (k:=ns.getD i 0) (intKind_is _ _ _ _) ?_);have hroom:(dedI (ns.take i)).length<=3:=by
   have:=qBS (ns.take i) [];rw [E5] at this;unfold dedI;simp at this;omega
  refine qTE (s:={ s' with toks:=s'.toks+1 }) hS' (.inl hroom) fun h' hsb hS2 b=>?_;have e2:addI (dedI (ns.take i)) (ns.getD i 0)=dedI (ns.take (i+1)):=by
   have hi':i<ns.length:=by omega
   rw [E6,B9 hi',F4];unfold dedI;rw [B29,X8,A96,L8,B9 hi',z9]
  rw [e2] at hS2;refine wpAny_pure ⟨plainId_quiet F.plain_set_update_loop _,ih (i+1) _ (by omega) hlt (W.frame _ s' _ _ hst' (i9 _) fun b hb o e=>?_) hS2 fun s'' hm'' hS''=>?_⟩
  ·rw [hsb.2 b (fun h:b=S=>hSf (by rw [<- h];exact hb))];exact e
  ·refine hR s'' (Moved.trans W.gtrans ((hm.mono hsub).then_heap (i9 _) fun b o hb e=>?_) hm'') hS'';rw [hsb.2 b (fun h:b=S=>hb (by rw [h];exact C9))];exact e
end
end L2
namespace L2
open PySem PySem.Spec PyProof.Rows
abbrev qAR (w:World):Obj:={ cls:=.type "set",dict:=none,data:=.set #[] 0 (.fresh 0 0 (!byT w)) }
section
variable {prog:Program} {w:World} {A:Around} {E:Value->Shared->Prop} {s:Shared}
theorem qL0 (a:Value) {Q₁:Value->Shared->Prop} (h:Q₁ (.ref s.heap.objs.size) { s with heap:=s.heap.push (qAR w) }) :
  codeAny (model prog w) A (.call (.builtin "set.__new__") ⟨[.type "set",a],[]⟩) (wants Q₁ E) s:=by
 refine codeAny_of_tree ?_;show wpAny _ A.in1 (do checkBuiltinCall "set.__new__" ⟨[.type "set",a],[]⟩;again (.builtin "set.__new__" ⟨[.type "set",a],[]⟩)) _ _ s
 refine wpAny_bind (wpAny_of_eq (F.newCall_set_1 a) (wpAny_pure ⟨plainId_quiet F.plain_set_new _,codeAny_builtin F.entry_set_new ?_⟩));rw [R0 F.plain_set_new _];unfold Builtin.«set.__new__» B70;have hsub:=sub_set_self;obtain ⟨hp,g,d,tk,os⟩:=s;dsimp only
 wp_walk
 refine wpAny_askSetting (wpAny_pure ?_);dsimp only;simp only [newObj];refine wpAny_bind (wpAny_alloc (wpAny_pure ?_));exact wpAny_pure h
theorem SetI.fresh {a:Addr} {h:Heap} (e:h.get? a=some (qAR w)):SetI w a [] h:=
 ⟨#[],0,_,[],e,⟨rfl,rfl,rfl,rfl,rfl,.nil,fun _ z=>nomatch z⟩,.nil,.refl _,.nil,G5 _⟩
set_option maxHeartbeats 3200000 in
theorem qQ1 {l:Addr} {Ae:Array Value} {ns:List Int} {Q:Value->Shared->Prop} (hh:A.handled=none) (hl:s.heap.IsList l Ae) (hi:IntsAre Ae.toList ns) (h4:Ae.size<=4)
  (h:∀ (h':Heap) (tk:Nat),SetI w s.heap.objs.size (dedI ns) h'->(∀ b o,s.heap.get? b=some o->h'.get? b=some o)->Q (.ref s.heap.objs.size) { s with heap:=h',toks:=tk }) :
  wpAny (model prog w) A (call (.type "set") [.ref l]) Q E s:=by
 have hlen:ns.length=Ae.size:=by have:=IntsAre.length hi;simpa using this.symm
 obtain ⟨c,tl,hmro⟩:=P7.mro;have hmade:=P7.made;have hsub:=P7.sub;refine wpAny_call (codeAny_of_tree ?_);show wpAny _ _ (callAny (.type "set") _) _ _ _;refine wpAny_pure ⟨B19 _ (by decide +kernel),codeAny_builtin B30 ?_⟩
 rw [B20 (weight_type_call_type "set" [.ref l] []) rfl];have h1:=P7.notType;have h2:=P7.canCreate;have hct:=B45 (.ref l)
 repeat (any_goals (first | assumption | wp_step))
 refine codeAny_mono (qL0 (.ref l) (E:=E) (Q₁:=fun obj s₁=>obj=.ref s.heap.objs.size/\s₁={ s with heap:=s.heap.push (qAR w) }) ⟨rfl,rfl⟩) fun r s₁ hr=>?_;cases r with
 | error e=>exact hr
 | ok fl=>
  cases fl with
  | ret obj=>
   obtain ⟨rfl,rfl⟩:=hr;have hS:(s.heap.push (qAR w)).get? s.heap.objs.size=some (qAR w):=D4 _ rfl;have hT:Shared.TypeIs { s with heap:=s.heap.push (qAR w) } (.ref s.heap.objs.size) "set":=⟨_,hS,rfl⟩;have hli:=P7.init.lookup;have hbi:=P7.init.bind (.ref s.heap.objs.size)
   repeat (any_goals (first | assumption | wp_step))
   refine codeAny_mono (codeAny_call_builtin (R:=wants (fun r s₂=>r=.none/\∃ h' tk,s₂={ s with heap:=h',toks:=tk }/\SetI w s.heap.objs.size (dedI ns) h'/\
     (∀ b o,s.heap.get? b=some o->h'.get? b=some o)) E) P7.init.plain B46 (check_set_init_1 hT ?_)) fun r₂ s₂ hr₂=>?_
   ·obtain ⟨ol,hol,hcl,nl,hdl⟩:=hl;obtain ⟨ocls,odict,odata,oslots⟩:=ol;simp only at hcl hdl;subst hcl;subst hdl;have hol':(s.heap.push (qAR w)).get? l=some { cls:=.type "list",dict:=odict,data:=.seq Ae nl,slots:=oslots }:=B8 _ hol;have hsls:=F.sub_list_set;have hslf:=A88;have hne:(W9 "list" == W9 "dict")=false:=by decide
    have hl1:(s.heap.push (qAR w)).IsList l Ae:=⟨_,hol',rfl,nl,rfl⟩;unfold Builtin.«set.__init__» noKeywords A05;generalize hPI:pyIter=PI
    wp_walk
    subst hPI;refine wpAny_pyIter_list hl1 ?_;refine wpAny_bind (wpAny_runValue ?_);have hlS:l<s.heap.objs.size:=D0 hol;have hh3:A.in1.in1.in1.handled=none:=by simp [hh]
    have hneI:l ≠ (s.heap.push (qAR w)).objs.size:=by
     rw [P2];exact F0 (V1 hlS)
    have hSf:s.heap.objs.size ∉ [(s.heap.push (qAR w)).objs.size,l]:=by
     rw [P2];simp only [D9,C0,m9,or_false,not_or];exact ⟨F0 (A55 _),n8 hlS⟩
    have hval:∀ (i:Nat) (v:Value),Ae[i]?=some v->∃ t,v=.int (ns.getD i 0) t:=fun i v hv=>
     A08 hi i v (by rw [F2];exact hv)
    refine qKY ((B31 hh3 _ l hneI Ae).toS) s.heap.objs.size hSf ns hlen h4 hval (Ae.size - 0) 0 _ (by omega) (G5 _)
     ⟨⟨_,D4 _ rfl,rfl,rfl⟩,(hl1.push _)⟩ ?hS0 ?hR
    case hS0=>exact SetI.fresh (B8 _ hS)
    case hR=>
     intro s' hm hS';obtain ⟨h',g',d',tk',os'⟩:=s';have eg:g'=s.gens:=hm.gens;have ed:d'=s.drawn:=hm.drawn;have eo:os'=s.os:=hm.os;subst eg;subst ed;subst eo;show wpAny _ _ _ _ _ _;refine wpAny_pure ?_;show wpAny _ _ (ret W8) _ _ _;refine wpAny_pure ⟨rfl,h',tk',rfl,hS',fun b o e=>?_⟩;have hb:=D0 e;have hb1:b ≠ s.heap.objs.size:=F0 hb;have hb2:b ≠ (s.heap.push (qAR w)).objs.size:=by
      rw [P2];exact F0 (V1 hb)
     exact hm.heap b o (by simp only [D9,C0,m9,or_false,not_or];exact ⟨hb1,hb2⟩) (B8 _ (B8 _ e))
   ·cases r₂ with
    | error e=>exact hr₂
    | ok fl₂=>
     cases fl₂ with
     | ret r=>
      obtain ⟨rfl,h',tk,rfl,hS',hk'⟩:=hr₂
      repeat (any_goals (first | assumption | wp_step))
      exact h _ _ hS' hk'
     | next=>exact hr₂
     | brk=>exact hr₂
     | cont=>exact hr₂
  | next=>exact hr
  | brk=>exact hr
  | cont=>exact hr
end
end L2
namespace L2
open PySem PySem.Spec PyProof.Rows
theorem slot_si_next:Slot "set_iterator" "__next__" "set_iterator.__next__":=
 .of (owner:="set_iterator") (n:="__next__") (by rw [typeLookup_type,builtinLookup_eq_fast];kernel_rfl) (by decide +kernel) (by decide +kernel) (by decide +kernel)
  (by first | exact .inl (by decide +kernel) | exact .inr (by decide +kernel)) (by rw [isSubtype_type];kernel_rfl)
theorem qH0:Slot "set_iterator" "__iter__" "set_iterator.__iter__":=
 .of (owner:="set_iterator") (n:="__iter__") (by rw [typeLookup_type,builtinLookup_eq_fast];kernel_rfl) (by decide +kernel) (by decide +kernel) (by decide +kernel)
  (by first | exact .inl (by decide +kernel) | exact .inr (by decide +kernel)) (by rw [isSubtype_type];kernel_rfl)
theorem qCU:entryFor table "set_iterator.__next__" = some Builtin.«set_iterator.__next__»:=entryFor_of_tree (by kernel_rfl)
theorem qKB:entryFor table "set_iterator.__iter__" = some Builtin.«dict_keyiterator.__iter__»:=
 entryFor_alias (id':="dict_keyiterator.__iter__") (by kernel_rfl) rfl (by decide +kernel) (by kernel_rfl)
theorem qFB:entryFor table "set.__iter__" = some Builtin.«frozenset.__iter__»:=
 entryFor_alias (id':="frozenset.__iter__") (by kernel_rfl) rfl (by decide +kernel) (by kernel_rfl)
theorem qOF:Manifest.owners.lookup (String.ofList "set_iterator".toList.reverse.reverse)=some Manifest.sig_set_iterator:=by kernel_rfl
theorem qDD (a:Value):argsOk "set_iterator.__next__" ⟨[a],[]⟩:=by
 unfold argsOk;rw [signature?_of (id:="set_iterator.__next__") (n:="__next__".toList.reverse) (o:="set_iterator".toList.reverse) (by kernel_rfl) qOF];kernel_rfl
theorem qMK (a:Value):argsOk "set_iterator.__iter__" ⟨[a],[]⟩:=by
 unfold argsOk;rw [signature?_of (id:="set_iterator.__iter__") (n:="__iter__".toList.reverse) (o:="set_iterator".toList.reverse) (by kernel_rfl) qOF];kernel_rfl
def qBX (w:World) (a:Addr) (ep:Nat) (es:Array (Int × Value)):List (Int × Value):=if byT w=true then (pickOrder (w.params.setOrder a ep) es).toList else es.toList
def qBR (w:World) (t:SetTable) (i:Nat):Nat:=if byT w=true then 0 else if i=0 then 0 else t.place.getD (i - 1) 0+1
theorem qBQ (w:World) (a:Addr) (ep:Nat) (es:Array (Int × Value)):(qBX w a ep es).Perm es.toList:=by
 unfold qBX
 split
 ·exact qR1 _ _
 ·exact .refl _
theorem T7.below_at {b:Bool} {t:SetTable} {n:Nat} (T:T7 b t n) (i:Nat) (hi:i<=n):D6 t.place (if i=0 then 0 else t.place.getD (i - 1) 0+1)=i:=by
 obtain ⟨b1,b2,b3⟩:=qCW (j:=if i=0 then 0 else t.place.getD (i - 1) 0+1) T.up
 have hs:=T.size;have gd:∀ a c d,a<t.place.size->t.place.getD a c=t.place.getD a d:=fun a c d ha=>by
  rw [E2,E2,C3 ha]
  rfl
 by_cases h0:i=0
 ·rw [if_pos h0] at b1 b2 b3 ⊢;subst h0;apply A65;intro z;have:=b2 0 z;omega
 ·rw [if_neg h0] at b1 b2 b3 ⊢;have h1:¬ D6 t.place (t.place.getD (i - 1) 0+1)<i:=fun z=>by
   have:=b3 (i - 1) (by omega) (by omega)
   rw [gd (i - 1) (t.place.getD (i - 1) 0+1) 0 (by omega)] at this
   omega
  have h2:¬ i<D6 t.place (t.place.getD (i - 1) 0+1):=fun z=>by
   have q:=b2 i z;have:=qQI 0 T.up (i - 1) i (by omega) (by omega)
   rw [gd i (t.place.getD (i - 1) 0+1) 0 (by omega)] at q
   omega
  omega
def SetIt (w:World) (a I:Addr) (es:Array (Int × Value)) (ep:Nat) (t:SetTable) (i:Nat) (h:Heap):Prop:=
 (∃ o,h.get? I=some o/\o.cls=.type "set_iterator"/\o.data=.fields #[.int (qBR w t i) 0,.int i 0,.ref a,.int es.size 0,.int ep 0])/\h.get? a=some { cls:=.type "set",data:=.set es ep t }
section
variable {prog:Program} {w:World} {A:Around} {E:Value->Shared->Prop} {s:Shared} {a I:Addr} {es:Array (Int × Value)} {ep:Nat} {t:SetTable} {i:Nat}
theorem SetIt.typeIs (x:SetIt w a I es ep t i s.heap):s.TypeIs (.ref I) "set_iterator":=let ⟨⟨o,h1,h2,_⟩,_⟩:=x;⟨o,h1,h2⟩
theorem qL1 {Q:Option (Value × Nat)->Shared->Prop} (T:T7 (byT w) t es.size) (h8:es.size<=7) (ho:s.heap.get? a=some { cls:=.type "set",data:=.set es ep t }) (hi:i<=es.size)
  (h:Q (match (qBX w a ep es)[i]? with | some e=>some (e.2,qBR w t (i+1)) | none=>none) s):wpAny (model prog w) A (setNext a (qBR w t i) i ep) Q E s:=by
 have hf:=T.fits h8;unfold setNext;refine wpAny_bind (wpAny_setState_of ho rfl hf ?_);dsimp only;unfold setsByText;refine wpAny_bind (wpAny_bind (wpAny_askSetting (wpAny_pure ?_)));show wpAny _ _ (if byT w=true then _ else _) _ _ _
 cases hb:byT w with
 | true=>
  rw [if_pos rfl];simp only [bne_self_eq_false,I0,if_false];refine wpAny_bind ?_;unfold setWalk;refine wpAny_bind (wpAny_setState_of ho rfl hf ?_);dsimp only;unfold setsByText;refine wpAny_bind (wpAny_bind (wpAny_askSetting (wpAny_pure ?_)));show wpAny _ _ (if byT w=true then _ else _) _ _ _
  rw [hb,if_pos rfl];refine wpAny_bind (wpAny_askSetting (wpAny_pure (wpAny_pure ?_)));have e:qBX w a ep es=(pickOrder (w.params.setOrder a ep) es).toList:=by unfold qBX;rw [if_pos hb]
  have e2:∀ j,qBR w t j=0:=fun j=>by unfold qBR;rw [if_pos hb]
  rw [e,F2,e2] at h;rw [e2];show Q (Option.map _ (pickOrder (w.params.setOrder a ep) es)[i]?) s;cases hx:(pickOrder (w.params.setOrder a ep) es)[i]? with
  | none=>rw [hx] at h;exact h
  | some v=>rw [hx] at h;exact h
 | false=>
  rw [if_neg (by simp)]
  show wpAny _ _ (if (!t.plain && decide (es.size > 1))=true then _ else _) _ _ _
  rw [T.plain];simp only [q0,O7,I0,if_false];refine wpAny_bind ?_;show wpAny _ _ (if (!t.led && !es.isEmpty)=true then _ else _) _ _ _
  rw [T.led,hb];simp only [A97,q0,O7,I0,if_false];refine wpAny_pure (wpAny_pure ?_);have e:qBX w a ep es=es.toList:=by unfold qBX;rw [if_neg (by rw [hb];simp)]
  have e2:∀ j,qBR w t j=if j=0 then 0 else t.place.getD (j - 1) 0+1:=fun j=>by unfold qBR;rw [if_neg (by rw [hb];simp)]
  rw [e,F2] at h;rw [e2,T.below_at i hi];cases hx:es[i]? with
  | none=>rw [hx] at h;exact h
  | some v=>
   rw [hx] at h;have hlt:i<t.place.size:=by rw [T.size];exact (A24.mp hx).1
   rw [C3 hlt];dsimp only at h ⊢;have e3:qBR w t (i+1)=t.place[i]+1:=by
    rw [e2,if_neg (by omega),r8,E2,C3 hlt]
    rfl
   rw [e3] at h;exact h
theorem qVU {Q:Option Value->Shared->Prop} (T:T7 (byT w) t es.size) (h8:es.size<=7) (hit:SetIt w a I es ep t i s.heap) (hne:a ≠ I) {e:Int × Value} (hx:(qBX w a ep es)[i]?=some e)
  (hQ:∀ h',SetIt w a I es ep t (i+1) h'->(∀ b o,b ≠ I->s.heap.get? b=some o->h'.get? b=some o)->Q (some e.2) { s with heap:=h' }):wpAny (model prog w) A (pyNext (.ref I)) Q E s:=by
 obtain ⟨⟨o,ho,hc,hd⟩,hs⟩:=id hit;have hi:i<es.size:=by
  have:=(B0.mp hx).1;rw [(qBQ w a ep es).length_eq,C2] at this;exact this
 unfold pyNext;refine wpAny_bind (wpAny_attempt (wpAny_callSpecial?_slot (name:=F9 "__next__") hit.typeIs slot_si_next (wpAny_call_entry slot_si_next hit.typeIs qCU ?_ (qDD _))));unfold Builtin.«set_iterator.__next__»;refine wpAny_bind (wpAny_pure ?_);refine wpAny_bind (wpAny_fieldsOf ho hd ?_);dsimp only;unfold setEntries;refine wpAny_bind (wpAny_bind (wpAny_setState_of hs rfl (T.fits h8) (wpAny_pure ?_)));rw [if_neg (by simp)]
 simp only [S0];refine wpAny_bind (qL1 T h8 hs (c5 hi) ?_);rw [hx];dsimp only;show wpAny _ _ (setField (.ref I) 0 (rawInt _) >>= _) _ _ s;refine wpAny_bind (wpAny_setField ho hd (by simp) ?_)
 have g1:=P6 (A48 (·.setIfInBounds 0 (rawInt ((qBR w t (i+1):Nat):Int)))) ho (Z0 (P5 hd _));have d1:=P5 hd (·.setIfInBounds 0 (rawInt ((qBR w t (i+1):Nat):Int)));refine wpAny_bind (wpAny_setField g1 d1 (by simp) ?_)
 have g2:=P6 (A48 (·.setIfInBounds 1 (rawInt ((i:Int)+1)))) g1 (Z0 (P5 d1 _));have d2:=P5 d1 (·.setIfInBounds 1 (rawInt ((i:Int)+1)));refine wpAny_pure ⟨_,rfl,wpAny_pure (hQ _ ⟨⟨_,g2,(l5 ..).trans ((l5 ..).trans hc),?_⟩,?_⟩ fun b o' hb e=>?_)⟩
 ·rw [d2];simp [rawInt]
 ·exact (M5 _ _ (M8 hne)).trans ((M5 _ _ (M8 hne)).trans hs)
 ·exact (M5 _ _ (M8 hb)).trans ((M5 _ _ (M8 hb)).trans e)
theorem qXN {Q:Option Value->Shared->Prop} (hh:A.handled=none) (T:T7 (byT w) t es.size) (h8:es.size<=7) (hit:SetIt w a I es ep t es.size s.heap)
  (hQ:∀ h',(∀ b o,b ≠ I->s.heap.get? b=some o->h'.get? b=some o)->Q none { s with heap:=h' }):wpAny (model prog w) A (pyNext (.ref I)) Q E s:=by
 obtain ⟨⟨o,ho,hc,hd⟩,hs⟩:=id hit;unfold pyNext;refine wpAny_bind (wpAny_attempt (wpAny_callSpecial?_slot (name:=F9 "__next__") hit.typeIs slot_si_next (wpAny_call_entry slot_si_next hit.typeIs qCU ?_ (qDD _))));unfold Builtin.«set_iterator.__next__»;refine wpAny_bind (wpAny_pure ?_);refine wpAny_bind (wpAny_fieldsOf ho hd ?_);dsimp only;unfold setEntries;refine wpAny_bind (wpAny_bind (wpAny_setState_of hs rfl (T.fits h8) (wpAny_pure ?_)));rw [if_neg (by simp)]
 simp only [S0];have hx:(qBX w a ep es)[es.size]?=none:=K0 (by rw [(qBQ w a ep es).length_eq,C2];exact C1 _)
 refine wpAny_bind (qL1 T h8 hs (C1 _) ?_);rw [hx];dsimp only;show wpAny _ _ (setField (.ref I) 2 .none >>= _) _ _ s;refine wpAny_bind (wpAny_setField ho hd (by simp) ?_)
 show wpAny _ _ (newExc (.type "StopIteration") [] >>= _) _ _ _;refine wpAny_bind ?_;simp only [newExc,newTuple];refine wpAny_bind (wpAny_newObj_type ?_ (by size_fits))
 refine wpAny_bind (m:=firstArgMember _ _) (wpAny_of_eq (a:=W8) (by first | rfl | (simp only [firstArgMember];rfl)) ?_)
 refine wpAny_newObj_type ?_ (by size_fits)
 simp only [raiseNew];refine wpAny_bind (wpAny_handled ?_);rw [show A.in1.handled=none from hh];refine wpAny_bind (wpAny_pure (wpAny_throw ?_));refine wpAny_bind (wpAny_isInstance (T:="StopIteration") (b:=true) ⟨_,D4 _ rfl,rfl⟩ isSubtype_stop ?_);exact wpAny_pure (hQ _ (((R9 ..).extBut.push _).push _))
theorem qQV {Q:Value->Shared->Prop} (hit:SetIt w a I es ep t i s.heap) (h:Q (.ref I) s):wpAny (model prog w) A (pyIter (.ref I)) Q E s:=by
 refine wpAny_pyIter_slot hit.typeIs qH0 (wpAny_call_entry qH0 hit.typeIs qKB ?_ (qMK _));show wpAny _ _ (ret (.ref I)) _ _ s;exact wpAny_pure ⟨_,rfl,"set_iterator",_,hit.typeIs,slot_si_next.lookup,h⟩
theorem qXM {Q:Value->Shared->Prop} (T:T7 (byT w) t es.size) (h8:es.size<=7) (hs:s.heap.get? a=some { cls:=.type "set",data:=.set es ep t })
  (hQ:Q (.ref s.heap.objs.size) { s with heap:=s.heap.push { cls:=.type "set_iterator",data:=.fields #[.int 0 0,.int 0 0,.ref a,.int es.size 0,.int ep 0] } }):wpAny (model prog w) A (pyIter (.ref a)) Q E s:=by
 have hT:s.TypeIs (.ref a) "set":=⟨_,hs,rfl⟩;have hf:=T.fits h8;refine wpAny_pyIter_slot hT A09 (wpAny_call_entry A09 hT qFB ?_ (B32 _));unfold Builtin.«frozenset.__iter__» A49 A39 setEntries;refine wpAny_bind (wpAny_bind (wpAny_pure ?_));show wpAny _ _ (pure a) _ _ s;refine wpAny_pure ?_;refine wpAny_bind (wpAny_bind (wpAny_bind (wpAny_setState_of hs rfl hf (wpAny_pure (wpAny_pure ?_)))));unfold setDrawn setsByText;refine wpAny_bind (wpAny_bind (wpAny_setState_of hs rfl hf ?_));dsimp only;refine wpAny_bind (wpAny_bind (wpAny_askSetting (wpAny_pure (wpAny_pure ?_))));show wpAny _ _ (if (!byT w && (!t.plain && decide (es.size > 1)))=true then _ else _) _ _ _
 rw [T.plain];simp only [q0,O7,P8,I0,if_false];refine wpAny_bind (wpAny_pure ?_);unfold setEpoch;refine wpAny_bind (wpAny_bind (wpAny_setState_of hs rfl hf (wpAny_pure ?_)));refine wpAny_bind (wpAny_newObj_type (wpAny_pure ⟨_,rfl,"set_iterator",_,⟨_,D4 _ rfl,rfl⟩,slot_si_next.lookup,?_⟩));simpa [rawInt] using hQ
theorem qQW {Q:Bool->Shared->Prop} (hT:s.TypeIs (.ref a) "set") (h:Q false s):wpAny (model prog w) A (A15 (.ref a)) Q E s:=by
 unfold A15;refine wpAny_bind (wpAny_specialOf hT PySem.F.slot_set_len.lookup ?_);generalize hid:("set.__len__" : String)=id0
 wp_delta
 rw [show splitId id0=some ("set","__len__") from by subst hid;decide +kernel]
 subst hid;refine wpAny_bind (wpAny_isInstance (T:="set") (b:=true) hT (by rw [isSubtype_type];kernel_rfl) ?_)
 refine wpAny_ite_split (fun hab=>absurd hab (by decide)) (fun _=>?_)
 refine wpAny_ite_split (fun _=>?_) (fun hab=>absurd (by decide +kernel) hab)
 refine wpAny_bind (wpAny_typeOf hT ?_);exact wpAny_pure h
theorem qXL (T:T7 (byT w) t es.size) (h8:es.size<=7):PySem.W.KdlSrc prog w "set" a a es.size (fun i v=>∃ e,(qBX w a ep es)[i]?=some e/\v=e.2) (fun h=>h.get? a=some { cls:=.type "set",data:=.set es ep t }) where
 type:=fun s h=>⟨_,h,rfl⟩
 there:=fun h x=>⟨D0 x,D0 x⟩
 keep:=fun h h' x k=>k a (.inl rfl) _ x
 notList:=by decide
 notTuple:=by decide
 hint:=fun A E s Q x q=>qQW ⟨_,x,rfl⟩ q
 iter:=fun A s hh x=>by
  have hne:a ≠ s.heap.objs.size:=F0 (D0 x);refine ⟨_,fun i h=>SetIt w a s.heap.objs.size es ep t i h,fun E Q q=>qXM T h8 x q,?_,⟨⟨_,D4 _ rfl,rfl,?_⟩,B8 _ x⟩⟩
  ·refine ⟨fun b hb=>?_,fun i h h' st k=>?_,fun i s' Q E hi st q=>?_,fun s' Q E st q=>?_,fun i s' Q E st q=>qQV st q⟩
   ·have e:b=s.heap.objs.size:=by simpa using hb
    simp [e]
   ·obtain ⟨⟨o,h1,h2,h3⟩,h4⟩:=st;exact ⟨⟨o,k _ (by simp) _ h1,h2,h3⟩,k _ (by simp) _ h4⟩
   ·have hl:i<(qBX w a ep es).length:=by rw [(qBQ w a ep es).length_eq,C2];exact hi
    refine qVU T h8 st hne (B9 hl) fun h' st' k=>?_;exact q _ h' s'.toks ⟨_,B9 hl,rfl⟩ st' fun b o hb e=>k b o (fun z=>hb (by simp [z])) e
   ·refine qXN hh T h8 st fun h' k=>?_;exact q h' s'.toks fun b o hb e=>k b o (fun z=>hb (by simp [z])) e
  ·unfold qBR
   split <;> rfl
end
end L2
namespace L2
open PySem PySem.Spec PyProof.Rows
theorem qC9 {ns:List Int}:∀ {us:List Value},Vals (ns.map V.int) us->IntsAre us ns:=by
 induction ns with
 | nil=>intro us h;cases h;exact .nil
 | cons n r ih=>
  intro us h;cases h with
  | cons r1 r2=>
   obtain ⟨t,rfl⟩:=r1;exact IntsAre.cons _ _ (ih r2)
theorem qEH:∀ {us:List Value} {ns:List Int},IntsAre us ns->Vals (ns.map V.int) us:=qI5
section
variable {X:Cx}
def SetO (w:World) (a:Addr) (zs:List Int):HO:=.ext (SetI w a zs)
theorem qOX (hc:X.calm=true):qCI X (.type "set") (fun xs H Q=>∃ p ns,xs=[.ref p]/\SqL X.K H p (ns.map V.int)/\ns.length<=4/\∀ a,H a=none->Q (.ref a) (Ah H a (SetO X.w a (dedI ns)))):=by
 intro Ab s σ H xs us Q I r h;obtain ⟨p,ns,rfl,hq,h4,q⟩:=h;obtain ⟨u,rfl,rx⟩:=qEI r;cases rx;obtain ⟨its,rv,pl,hz⟩:=I.list hq;have hlen:=rv.length;rw [A0] at hlen;refine qQ1 (ns:=ns) (I.ok.hd hc) pl.isList (by simpa using qC9 rv) (by simp;omega) fun h' tk hS hk=>?_
 refine ⟨.ref s.heap.objs.size,_,I.laid (t':=tk) hk (C1 _) ?_,rfl,q _ (I.hok.fresh (C1 _))⟩;obtain ⟨es,ep,t,ks,e,_⟩:=id hS;exact ⟨hS,⟨_,e⟩,fun h1 h2 x k=>x.at k⟩
theorem Inv.track {Ab:List (Addr × Obj)} {s:Shared} {σ:St} {H:Hp} {T:Addr} {o:HO} (I:Inv X Ab σ H s) (h0:H T=none) (h1:X.s₀.heap.objs.size<=T) (h2:T ≠ X.env.locals) (h3:∀ x c,X.env.cells.lookup x=some c->c ≠ T) (h4:∀ p ∈ X.pn++Ab,p.1 ≠ T)
  (new:ObjOk X.prog X.w (Ah H T o) s.heap T o):Inv X Ab σ (Ah H T o) s:=by
 have old:∀ b ob,X.s₀.heap.get? b=some ob->b ≠ T:=fun b ob e=>F0 (G9 (D0 e) h1);have some':∀ b u,H b=some u->(Ah H T o) b=some u:=fun b u e=>by rw [qA8 (qA5 e h0)];exact e
 refine ⟨I.ok,I.os,I.bare,⟨I.base.keep,I.base.slot,fun b ob e n hx=>?_,I.base.there,fun b xs e=>some' _ _ (I.base.tups b xs e),fun b ob u e=>some' _ _ (I.base.frzs b ob u e),fun b ps e=>?_⟩,I.loc,I.cell,?_,fun x c e=>?_,fun p hp=>?_,fun b u e=>?_,I.len⟩
 ·rw [qA8 (old b ob e)];exact I.base.free b ob e n hx
 ·exact some' _ _ (I.base.tbls b ps e)
 ·rw [qA8 (M8 h2)];exact I.free
 ·rw [qA8 (h3 x c e)];exact I.freeC x c e
 ·obtain ⟨e1,n,r⟩:=I.pin p hp;exact ⟨e1,by rw [qA8 (h4 p hp)];exact n,r⟩
 ·by_cases hb:b=T
  ·subst hb;rw [qA1] at e;cases e;exact new
  ·rw [qA8 hb] at e;exact (I.hok b u e).stay (fun c v _ q=>q) (fun c q=>some' _ _ q) (fun c ys q=>some' _ _ q) fun c t q=>some' _ _ q
theorem qTB {Ab:List (Addr × Obj)} {s:Shared} {σ:St} {H:Hp} {Q:VK} {A:Around} {E:Value->Shared->Prop} {vs:List Value} {ns:List Int} {D:Addr} (I:Inv X Ab σ (Ah H D (.lst (ns.map V.int))) s) (hD:H D=none) (h64:ns.length<64)
  (q:∀ ns':List Int,ns'.Perm ns->ns'.Pairwise (·<=·)->Q (.ref D) (Ah H D (.lst (ns'.map V.int)))) :
  wpAny (model X.prog X.w) A (call (.builtin "list.sort") [.ref D]) (fun _ s'=>EP X Ab σ Q (.ref D) s') E s:=by
 obtain ⟨z,its,n,rv,hl,e⟩:=I.lstM qA1;have hI:=qC9 rv;have hlen:=rv.length;rw [A0] at hlen;refine wpAny_call_entry slot_list_sort ⟨_,e,rfl⟩ entry_list_sort (list_sort_tree (ns:=ns) (n:=n) e hI (by omega) fun out ns' a1 a2 a3=>⟨_,rfl,?_⟩) (args_list_sort _)
 have hat:=sortedHeap_at (vs:=its) (out:=out) e;obtain ⟨e2,hat⟩:=hat;refine ⟨.ref D,Ah H D (.lst (ns'.map V.int)),?_,rfl,q ns' a2 a3⟩;have hu:Ah (Ah H D (.lst (ns.map V.int))) D (.lst (ns'.map V.int))=Ah H D (.lst (ns'.map V.int)):=qGF;rw [<- hu];refine I.write (x:=D) (e:=D) (t':=s.toks) (by rw [qA1];exact trivial) (.inl rfl) (fun b u hb hbu=>?_) ⟨_,hat⟩ ?_
 ·rw [sortedHeap_old hb (D0 hbu)];exact hbu
 ·refine ⟨?_,out.toList,e2,qEH a1,by simpa using hat⟩
  rw [A0,a2.length_eq,<- A0 (f:=V.int)];exact z
theorem qJI {Ab:List (Addr × Obj)} {s:Shared} {σ:St} {H:Hp} {vs:List Value} {ns:List Int} (I:Inv X Ab σ H s) (hv:IntsAre vs ns) (hz:ns.length<=sizeLine) :
  Inv X Ab σ (Ah H s.heap.objs.size (.lst (ns.map V.int))) { s with heap:=s.heap.push { cls:=.type "list",data:=.seq vs.toArray } }:=
 I.lnew (t':=s.toks) (qEH hv) (by rw [A0];exact hz)
theorem qIW (hc:X.calm=true):qCI X (.builtin "sorted") (fun xs H Q=>∃ p ns,xs=[.ref p]/\(SqL X.K H p (ns.map V.int)\/SqT X.K H p (ns.map V.int)\/H p=some (SetO X.w p ns))/\ns.length<64/\
  ∀ (a:Addr) (ns':List Int),H a=none->ns'.Perm ns->ns'.Pairwise (·<=·)->Q (.ref a) (Ah H a (.lst (ns'.map V.int)))):=by
 intro Ab s σ H xs us Q I r h;obtain ⟨p,ns,rfl,hq,h64,q⟩:=h;obtain ⟨u,rfl,rx⟩:=qEI r;cases rx;refine m5 kind_sorted plain_sorted entry_sorted (args_sorted1 _) ?_;unfold Builtin.«sorted»;refine wpAny_bind (m:=checkCount "sorted" 1 1 _) (wpAny_pure ?_);have fin:∀ (s1:Shared) (vs:List Value) (zs:List Int),Inv X Ab σ H s1->IntsAre vs zs->zs.Perm ns->wpAny (model X.prog X.w) X.A.in1 (do
   let l <- newList vs
   let _ <- holding [l] (call (.builtin "list.sort") [l] [])
   ret l) (fun fin s'=>∃ r,fin=.done (.ret r)/\EP X Ab σ Q r s') X.xe s1:=by
  intro s1 vs zs I1 hv hp;have hlen:=IntsAre.length hv;have hz:zs.length<=sizeLine:=by rw [hp.length_eq,sizeLine_eq];omega
  refine wpAny_bind (wpAny_newList ?_ (by rw [hlen];exact hz))
  have hf:=I1.hok.fresh (C1 s1.heap.objs.size);refine wpAny_bind (wpAny_holding (wpAny_mono (qTB (E:=X.xe) (vs:=vs) (qJI I1 hv hz) hf (by rw [hp.length_eq];exact h64) fun ns' a b=>q _ ns' hf (a.trans hp) b) (fun _ s' x=>?_) fun _ _ e=>e))
  exact wpAny_pure ⟨_,rfl,x⟩
 rcases hq with hq | hq | hq
 ·obtain ⟨its,rv,pl,hz⟩:=I.list hq;obtain ⟨o,ho,hc',n,hd⟩:=pl.isList;have hlen:=rv.length;refine wpAny_bind (wpAny_collect_seq p (.inl rfl) ho hc' hd (fun h' hk=>?_) (by simp;omega))
  exact fin _ _ ns (I.kept (t':=s.toks) hk) (by simpa using qC9 rv) (.refl _)
 ·obtain ⟨its,rv,pl,hz⟩:=I.tuple hq;obtain ⟨o,ho,hc',n,hd⟩:=pl;have hlen:=rv.length;refine wpAny_bind (wpAny_collect_seq p (.inr rfl) ho hc' hd (fun h' hk=>?_) (by simp;omega))
  exact fin _ _ ns (I.kept (t':=s.toks) hk) (by simpa using qC9 rv) (.refl _)
 ·obtain ⟨hS,_,_⟩:=(show ObjOk X.prog X.w H s.heap p (.ext (SetI X.w p ns)) from I.hok p _ hq);obtain ⟨es,ep,t,ks,e,T,he,hp,hnd,h4⟩:=hS;have hsz:es.size=ns.length:=SetI.size (a:=p) (h:=s.heap) he hp;obtain ⟨ks',h1,h2⟩:=he.perm (qBQ X.w p ep es);refine wpAny_bind (B02 (A:=X.A.in1) (qXL (ep:=ep) T (by omega)) (I.ok.hd hc) e (by rw [hsz,sizeLine_eq];omega) fun h' tk acc hk hacc=>?_)
  refine fin _ _ ks' (I.kept (t':=tk) hk) ?_ (h2.trans hp);obtain ⟨l1,l2⟩:=hacc;have key:∀ {ks:List Int} {l:List (Int × Value)},Ents ks l->∀ vs:List Value,vs.length=l.length->(∀ (i:Nat) (v:Value),vs[i]?=some v->∃ e:Int × Value,l[i]?=some e/\v=e.2)->IntsAre vs ks:=by
   intro ks l h
   induction h with
   | nil=>
    intro vs hl _;have:vs=[]:=Q8.mp hl;subst this;exact .nil
   | cons r t ih=>
    intro vs hl hv;cases vs with
    | nil=>simp at hl
    | cons v vs=>
     obtain ⟨tk,rfl⟩:=r;obtain ⟨e,he,rfl⟩:=hv 0 v rfl;simp at he;subst he;exact IntsAre.cons _ _ (ih vs (by simpa using hl) fun i v hi=>by simpa using hv (i+1) v (by simpa using hi))
  refine key h1 acc.toList ?_ fun i v hi=>l2 i v (by rw [<- F2];exact hi)
  rw [C2,l1,(qBQ X.w p ep es).length_eq,C2]
end
end L2
namespace L2
open PySem PySem.Spec PyProof.Rows
section
variable {X:Cx}
def qH2 (lo hi:Int):List V:=(J9 (hi - lo).toNat).map fun (i:Nat)=>V.int (lo+i)
theorem qSN:qCI X (.type "range") (fun xs H Q=>∃ i j,xs=[.int i,.int j]/\∀ p,H p=none->Q (.ref p) (Ah H p (.rng i j))):=by
 intro Ab s σ H xs us Q I r h;obtain ⟨i,j,rfl,q⟩:=h;obtain ⟨u,v,rfl,⟨t,rfl⟩,⟨t',rfl⟩⟩:=qP6 r;refine call_range_2 ⟨.ref s.heap.objs.size,_,I.laid (fun b o e=>B8 _ e) (C1 _) ?_,rfl,q _ (I.hok.fresh (C1 _))⟩;exact ⟨_,_,_,D4 _ rfl⟩
theorem qTG {lo hi:Int} {n:Nat} {acc:List Value} (hn:n=(hi - lo).toNat) (hl:acc.length=n) (h:∀ (i:Nat) (v:Value),acc[i]?=some v->∃ t,v=.int (lo+i * 1) t):Vals (qH2 lo hi) acc:=by
 have key:∀ (m:Nat) (acc:List Value),acc.length=m->∀ lo:Int,(∀ (i:Nat) (v:Value),acc[i]?=some v->∃ t,v=.int (lo+i) t)->Vals ((J9 m).map fun (i:Nat)=>V.int (lo+i)) acc:=by
  intro m
  induction m with
  | zero=>
   intro acc hl lo h;have:acc=[]:=Q8.mp hl;subst this;exact .nil
  | succ m ih=>
   intro acc hl lo h;cases acc with
   | nil=>simp at hl
   | cons v acc=>
    rw [A66,G6,j7];have h0:=h 0 v rfl;refine .cons h0 ?_;have h1:=ih acc (by simpa using hl) (lo+1) fun i v hi=>by
     have:=h (i+1) v (by simpa using hi)
     obtain ⟨t,e⟩:=this;refine ⟨t,?_⟩;rw [e];congr 1
     push_cast
     omega
    have e:((fun (i:Nat)=>V.int (lo+i)) ∘ Nat.succ)=fun (i:Nat)=>V.int (lo+1+i):=by
     funext i
     simp only [Function.comp];congr 1
     push_cast
     omega
    rw [e];exact h1
 unfold qH2;rw [<- hn];refine key n acc hl lo fun i v hi=>?_;obtain ⟨t,e⟩:=h i v hi;exact ⟨t,by rw [e,Int.mul_one]⟩
theorem qPE (lo hi:Int):(qH2 lo hi).length=(hi - lo).toNat:=by unfold qH2;simp
theorem qZC {lo hi:Int}:d3 lo hi 1=((hi - lo).toNat:Nat):=by rw [rangeSize_one];split <;> omega
theorem qKE {prog:Program} {w:World} {A:Around} {E:Value->Shared->Prop} {s:Shared} {R:List Value->Shared->Prop} {r:Addr} {a b:Int} {t u v:Tok} {n:Nat} (hh:A.handled=none) (hr:IsRange s.heap r a b 1 t u v) (hsmall:B03 a b 1=true)
  (hn:d3 a b 1=n) (hlen:n<=2 ^ 24)
  (h:∀ (h':Heap) (tk:Nat) (acc:Array Value),(∀ b o,s.heap.get? b=some o->h'.get? b=some o)->ItemsOf (fun i v=>∃ t,v=.int (a+i * 1) t) acc n->R acc.toList { s with heap:=h',toks:=tk }) :
  wpAny (model prog w) A (collect (.ref r)) R E s:=by
 unfold collect;refine wpAny_bind (wpAny_runValue (codeAny_builtin entry_proto_collect' ?_));rw [R0 PySem.F.plain_proto_collect _];show wpAny _ A.in1 (newList [] >>= fun l=>again (.builtin "list.__iadd__" ⟨[l,.ref r],[]⟩)) _ _ s;refine wpAny_bind (wpAny_newObj_type ?_);refine wpAny_pure ⟨plainId_quiet A50 _,codeAny_builtin entry_list_iadd' ?_⟩;rw [R0 A50 _];have hS₁:(s.heap.push { cls:=.type "list",data:=.seq ([]:List Value).toArray }).get? s.heap.objs.size=some { cls:=.type "list",data:=.seq #[] }:=D4 _ rfl;show wpAny _ A.in1 (Builtin.List.listExtendWith (.ref s.heap.objs.size) (.ref r) (.ref s.heap.objs.size)) _ _ _;have key:=wpAny_extend_range (prog:=prog) (w:=w) (A:=A) (s:={ s with heap:=s.heap.push { cls:=.type "list",data:=.seq ([]:List Value).toArray } })
  (R:=fun (q:Result) (s':Shared)=>∃ (h':Heap) (tk:Nat) (acc':Array Value) (c':Nat),q=.ok (.ret (.ref s.heap.objs.size))/\s'={ s with heap:=h',toks:=tk }/\
   (∀ b o,s.heap.get? b=some o->h'.get? b=some o)/\h'.get? s.heap.objs.size=some { cls:=.type "list",dict:=none,data:=.seq acc' c',slots:=#[] }/\ItemsOf (fun i v=>∃ t,v=.int (a+i * 1) t) acc' n)
  hh (B8 _ hr) hsmall hn hlen s.heap.objs.size (.ref s.heap.objs.size) 0 hS₁
  (fun h' tk acc' c' hk hS' hacc=>⟨h',tk,acc',c',rfl,rfl,fun b o e=>hk b o (F0 (D0 e)) (B8 _ e),hS',hacc⟩)
 refine wpAny_mono key (fun fin s' x=>?_) fun e s' x=>?_
 ·cases fin with
  | done f=>
   obtain ⟨h',tk,acc',c',e,rfl,hk,hS',hacc⟩:=x;cases e;show wpAny _ A (load s.heap.objs.size >>= _) _ _ _;refine wpAny_bind (wpAny_load hS' ?_);exact wpAny_pure (h h' tk acc' hk hacc)
  | again c₁=>
   refine ⟨x.1,codeAny_mono x.2 fun q s₂ y=>?_⟩;obtain ⟨h',tk,acc',c',rfl,rfl,hk,hS',hacc⟩:=y;show wpAny _ A (load s.heap.objs.size >>= _) _ _ _;refine wpAny_bind (wpAny_load hS' ?_);exact wpAny_pure (h h' tk acc' hk hacc)
 ·obtain ⟨_,_,_,_,e',_⟩:=x;cases e'
theorem qMM {prog:Program} {w:World} {A:Around} {E:Value->Shared->Prop} {s:Shared} {Q:Value->Shared->Prop} {r:Addr} {a b:Int} {t u v:Tok} {n:Nat} (hh:A.handled=none) (hr:IsRange s.heap r a b 1 t u v) (hsmall:B03 a b 1=true)
  (hn:d3 a b 1=n) (hlen:n<=2 ^ 24)
  (h:∀ (h':Heap) (tk:Nat) (acc:Array Value),(∀ b o,s.heap.get? b=some o->h'.get? b=some o)->ItemsOf (fun i v=>∃ t,v=.int (a+i * 1) t) acc n->Q (.ref h'.objs.size) { s with heap:=h'.push { cls:=.type "tuple",data:=.seq acc },toks:=tk }) :
  wpAny (model prog w) A (call (.type "tuple") [.ref r]) Q E s:=by
 have hcode:codeAny (model prog w) A.in1 (.call (.builtin "tuple.__new__") ⟨[.type "tuple",.ref r],[]⟩) (wants (fun obj s₁=>s₁.TypeIs obj "tuple"/\Q obj s₁) E) s:=by
  refine codeAny_of_tree ?_;show wpAny _ A.in1.in1 (do checkBuiltinCall "tuple.__new__" ⟨[.type "tuple",.ref r],[]⟩;again (.builtin "tuple.__new__" ⟨[.type "tuple",.ref r],[]⟩)) _ _ s
  refine wpAny_bind (wpAny_of_eq (F.newCall_tuple_1 _) (wpAny_pure ⟨plainId_quiet B33 _,codeAny_builtin F.entry_tuple_new ?_⟩));rw [R0 B33 _];have hsub:=sub_tuple_self;have hinit:=init_tuple_lookup;have hmh:=madeHere_tuple;have hTI:s.TypeIs (.ref r) "range":=⟨_,hr,rfl⟩
  wp_walk using wpAny_typeOf hTI,qKE (prog:=prog) (w:=w) (A:=A.in1.in1) hh hr hsmall hn hlen
  intro h' tk acc hk hacc;show wpAny _ _ (M7 acc.toList.toArray >>= fun v=>ret v) _ _ _;unfold M7;refine wpAny_bind (wpAny_newObj_type ?_ (by show acc.toList.toArray.size<=sizeLine;simp only [Array.toArray_toList];rw [hacc.1,sizeLine_eq];omega))
  refine wpAny_pure ?_;have e:acc.toList.toArray=acc:=by simp
  rw [e];exact ⟨⟨_,D4 _ rfl,rfl⟩,h h' tk acc hk hacc⟩
 refine callType_codes (Q₁:=fun obj s₁=>s₁.TypeIs obj "tuple"/\Q obj s₁) A98 (F.typeCall_tuple_1 _) F.entry_object_init hcode fun obj s₁ h₁=>?_;exact ⟨h₁.1,A89 obj _,object_init_meets A98.init.lookup A98.made (by decide) prog w A.in1 _ s₁ ⟨h₁.1,rfl,h₁.2⟩⟩
theorem qJ6 (hc:X.calm=true):qCI X (.type "tuple") (fun xs H Q=>∃ p lo hi,xs=[.ref p]/\H p=some (.rng lo hi)/\-1000000<=lo/\lo<=1000000/\-1000000<=hi/\hi<=1000000/\∀ l,H l=none->Q (.ref l) (Ah H l (.tup (qH2 lo hi)))):=by
 intro Ab s σ H xs us Q I r h;obtain ⟨p,lo,hi,rfl,hp,l1,l2,l3,l4,q⟩:=h;obtain ⟨u,rfl,rx⟩:=qEI r;cases rx;obtain ⟨t,u,v,e⟩:=(show ∃ t u v,s.heap.get? p=some { cls:=.type "range",data:=.fields #[.int lo t,.int hi u,.int 1 v] } from I.hok p _ hp);refine qMM (n:=(hi - lo).toNat) (I.ok.hd hc) (show IsRange s.heap p lo hi 1 t u v from e) (small_one (by omega) (by omega) (by omega) (by omega)) qZC (by omega) fun h' tk acc hk hacc=>?_
 obtain ⟨a1,a2⟩:=hacc;have I1:Inv X Ab σ H { s with heap:=h',toks:=tk }:=I.kept hk;refine ⟨.ref h'.objs.size,_,I1.laid (t':=tk) (fun b o e=>B8 _ e) (C1 _) (show ObjOk X.prog X.w _ _ _ (.tup (qH2 lo hi)) from ⟨?_,acc.toList,qTG rfl (by simpa using a1) fun i v hi=>a2 i v (by rw [<- F2];exact hi),?_⟩),rfl,q _ (I1.hok.fresh (C1 _))⟩
 ·rw [qPE,sizeLine_eq];omega
 ·have:=IsTup.new h' acc;simpa using this
theorem qPD:∀ (bs:List Bool),((J9 bs.length).all fun i=>(bs[i]?).getD true)=bs.all id:=by
 intro bs;rw [V6,L0,L0]
 constructor
 ·intro h b hb;obtain ⟨i,hi,e⟩:=T8.mp hb;have:=h i (J7.mpr hi);rw [B9 hi,e] at this;exact this
 ·intro h i hi;have hi':=J7.mp hi;rw [B9 hi'];exact h _ (A56 hi')
theorem qI0 (hc:X.calm=true):qCI X (.builtin "all") (fun xs H Q=>∃ (p:Addr) (bs:List Bool),xs=[.ref p]/\SqL X.K H p (bs.map V.bl)/\Q (.bl (bs.all id)) H):=by
 intro Ab s σ H xs us Q I r h;obtain ⟨p,bs,rfl,hq,q⟩:=h;obtain ⟨u,rfl,rx⟩:=qEI r;cases rx;obtain ⟨its,rv,pl,hz⟩:=I.list hq;have hl:=pl.isList;have hlt:p<s.heap.objs.size:=by obtain ⟨_,e,_⟩:=hl;exact D0 e
 have hlen:=rv.length;rw [A0] at hlen;refine call_all_walk (wpAny_pyIter_list hl ?_);refine ⟨s.heap.objs.size,[s.heap.objs.size,p],[s.heap.objs.size],its.toArray.size,_,_,fun i=>(bs[i]?).getD true,rfl,B31 (A:=X.A.in1) (I.ok.hd hc) _ p (F0 hlt) its.toArray,
  ⟨⟨_,D4 _ rfl,rfl,rfl⟩,hl.push _⟩,fun i v s' Q' E' hP hQ=>?_,fun h' tk hk=>?_⟩
 ·have hP':its[i]?=some v:=by simpa using hP
  have hi:i<bs.length:=by rw [hlen];exact (B0.mp hP').1
  obtain ⟨u,hu,ru⟩:=rv.get (i:=i) (x:=.bl bs[i]) (by rw [D7,B9 hi];rfl)
  rw [hP'] at hu;cases hu;cases ru;dsimp only at hQ;rw [B9 hi,z9] at hQ;exact wpAny_truthy_bool hQ
 ·have e:((J9 its.toArray.size).all fun i=>(bs[i]?).getD true)=bs.all id:=by
   rw [C5,<- hlen];exact qPD bs
  refine ⟨.bl (bs.all id),H,I.kept fun b x e=>hk b x (fun hm=>by rw [C0.mp hm] at e;exact c8 _ (D0 e)) (B8 _ e),?_,q⟩
  rw [e]
  rfl
theorem qBH:qCI X (.builtin "isinstance") (fun xs H Q=>∃ x T t b,xs=[x,.ty T]/\TyOf X.K H x t/\T4 X.K t (.type T)=some b/\Q (.bl b) H):=by
 intro Ab s σ H xs us Q I r h;obtain ⟨x,T,t,b,rfl,ht,hk,q⟩:=h;obtain ⟨u,v,rfl,r1,r2⟩:=qP6 r;cases r2;exact qRP I r1 ht hk fun tk=>⟨.bl b,H,I.tok _,rfl,q⟩
theorem qLH (hu:X.A.units<cLine):OpR X (compareOp .Eq) (fun x y H Q=>∃ p l xs,x=.ref p/\y=.ref l/\SqL X.K H p xs/\SqL X.K H l []/\Q (.bl xs.isEmpty) H):=by
 intro Ab s σ H x y v u Q I rx ry h;obtain ⟨p,l,xs,rfl,rfl,h1,h2,q⟩:=h;cases rx;cases ry;obtain ⟨its,r1,p1,z1⟩:=I.list h1;obtain ⟨its2,r2,p2,z2⟩:=I.list h2;cases r2;cases xs with
 | nil=>
  cases r1;exact SeqAt.eq_listAt (e:=fun _=>true) p1.isList p2.isList rfl hu (fun j h _=>absurd h (by simp)) ⟨.bl true,H,I,rfl,q⟩
 | cons a r=>
  cases r1;exact SeqAt.eq_list_lengthsAt p1.isList p2.isList (by simp) hu ⟨.bl false,H,I,rfl,q⟩
end
theorem qM7 {X:Cx} {K:PySem.W.Frag} {w:World} (hK:X.K=K) (hw:X.w=w) (hc:X.calm=true):qCI X (.builtin "sorted") (fun xs H Q=>∃ p ns,xs=[.ref p]/\(SqL K H p (ns.map V.int)\/SqT K H p (ns.map V.int)\/H p=some (SetO w p ns))/\ns.length<64/\
  ∀ (a:Addr) (ns':List Int),H a=none->ns'.Perm ns->ns'.Pairwise (·<=·)->Q (.ref a) (Ah H a (.lst (ns'.map V.int)))):=by subst hK hw;exact qIW hc
theorem qSM {X:Cx} {K:PySem.W.Frag} {w:World} (hK:X.K=K) (hw:X.w=w) (hc:X.calm=true):qCI X (.type "set") (fun xs H Q=>∃ p ns,xs=[.ref p]/\SqL K H p (ns.map V.int)/\ns.length<=4/\∀ a,H a=none->Q (.ref a) (Ah H a (SetO w a (dedI ns)))):=by subst hK hw;exact qOX hc
end L2
namespace L2
open PySem PySem.Spec PyProof.Rows
def Ite (K:PySem.W.Frag) (l:Addr):It:=
 ⟨fun i H=>∃ xs x,SqL K H l xs/\xs[i]?=some x,fun i H v H'=>∃ T x,H T=none/\v=.ref T/\H'=Ah H T (.tup [.int (i:Int),x])/\∀ xs,SqL K H l xs->xs[i]?=some x,fun i H=>∃ xs,SqL K H l xs/\xs.length<=i⟩
section
variable {X:Cx}
theorem Inv.turnedL {Ab:List (Addr × Obj)} {s:Shared} {σ:St} {H:Hp} {h':Heap} {t':Nat} {ch:List Addr} (I:Inv X Ab σ H s) (k:∀ b o,b ∉ ch->s.heap.get? b=some o->h'.get? b=some o) (hc:∀ b ∈ ch,FpOk X Ab H b):Inv X Ab σ H { s with heap:=h',toks:=t' }:=by
 have nit:∀ b u,H b=some u->b ∉ ch:=fun b u e z=>by rw [(hc b z).1] at e;cases e
 refine I.step (g':=s.gens) (d':=s.drawn) (ch:=ch) (fun b hb=>⟨(hc b hb).2.2.2.1,(hc b hb).2.1,(hc b hb).2.2.2.2.1,(hc b hb).2.2.2.2.2⟩) (fun b o _ _ hc' e _=>k b o hc' e) (fun b o _ _ hc' e _=>⟨o.slots,k b o hc' e⟩) (fun _ _ _ _ n=>n)
  (fun b o hc' e=>⟨o,k b o hc' e⟩) (fun _ _ e=>e) (fun _ _ _ e=>e) (fun _ _ e=>e) (fun m hm=>?_) (fun b u e=>?_) I.bare
 ·obtain ⟨o,es,ep,ho,r⟩:=hm;exact ⟨o,es,ep,k _ o (fun z=>(hc _ z).2.1 rfl) ho,r⟩
 ·refine (I.hok b u e).stay (fun c v hc' q=>k c v ?_ q) (fun _ q=>q) fun _ _ q=>q;rcases hc' with z | z
  ·rw [z];exact nit b u e
  ·exact nit c _ z
theorem qQL {P:Program} {w:World} {K:PySem.W.Frag} {elts:List Expr} {k:Nat} {pos:Pos} (l it e:Addr) (hne:e ≠ it):Turn P w K (.Tuple elts k pos) (Ite K l) [e,it] e (fun i h=>(∃ old,IsEnum h e it i old)/\h.IsListIter it l i) where
 mem:=by simp
 obj:=fun i h st b hb=>by
  obtain ⟨⟨old,h1⟩,o,h2,_,h4⟩:=st;have e':b=e\/b=it:=by simpa using hb
  rcases e' with rfl | rfl
  ·exact ⟨_,h1,fun v z=>by
    have z':B00 _=A71 v:=z;cases z'⟩
  ·exact ⟨o,h2,fun v z=>by rw [h4] at z;cases z⟩
 keep:=fun i h h' st kk=>by
  obtain ⟨⟨old,h1⟩,h2⟩:=st;exact ⟨⟨old,kk e (by simp) _ h1⟩,h2.at fun o q=>kk it (by simp) o q⟩
 item:=by
  intro X hP hw hK hc i Ab s σ H E I hf st hg;subst hP hw hK;obtain ⟨xs,x,hq,hx⟩:=hg;obtain ⟨its,rv,p,hz⟩:=I.list hq;obtain ⟨u,hu,ru⟩:=rv.get hx;obtain ⟨⟨old,h1⟩,h2⟩:=st;refine wpAny_pyNext_enum_item h1 h2 p.isList (x:=u) (by simpa using hu) hne fun h' a1 a2 a3 a4 a5=>?_
  refine ⟨_,rfl,wpAny_letOwnedTupleGo_enum a1 fun h2 b1 b2=>?_⟩;have ltE:e<s.heap.objs.size:=D0 h1;have I1:Inv X Ab σ H { s with heap:=h2,toks:=s.toks+1 }:=I.turnedL (ch:=[e,it]) (fun b o hb q=>by
   have hb1:b ≠ e:=fun z=>hb (by simp [z])
   have hb2:b ≠ it:=fun z=>hb (by simp [z])
   exact (b2.2 b hb1).trans (a5 b o hb1 hb2 q)) hf
  have hT:H s.heap.objs.size=none:=I.hok.fresh (C1 _);have fT:=I.fpOk (H':=H) (b:=s.heap.objs.size) (C1 _) hT;have gT:h2.get? s.heap.objs.size=some { cls:=.type "tuple",data:=.seq #[.int i s.toks,u] }:=(b2.2 _ (n8 ltE)).trans a3;refine ⟨.ref s.heap.objs.size,Ah H s.heap.objs.size (.tup [.int (i:Int),x]),I1.track hT I.sz fT.2.1 fT.2.2.2.2.1 fT.2.2.2.2.2 ⟨by simp only [E3,O5];rw [sizeLine_eq];decide,[.int (i:Int) s.toks,u],.cons ⟨_,rfl⟩ (.cons ru .nil),⟨_,gT,rfl,_,rfl⟩⟩,rfl,
   ⟨_,x,hT,rfl,rfl,fun ys hy=>by rw [I.list_inj hy hq];exact hx⟩,⟨⟨_,b1⟩,a2.at fun o q=>(b2.2 it (M8 hne)).trans q⟩,fun b hb=>?_⟩
  have ltb:b<s.heap.objs.size:=by
   have e':b=e\/b=it:=by simpa using hb
   rcases e' with rfl | rfl
   ·exact ltE
   ·obtain ⟨o,q,_⟩:=h2;exact D0 (by assumption)
  rw [qA8 (F0 ltb)];exact (hf b hb).1
 done:=by
  intro X hP hw hK hc i Ab s σ H E I hf st hg;subst hP hw hK;obtain ⟨xs,hq,hx⟩:=hg;obtain ⟨its,rv,p,hz⟩:=I.list hq;have hl:=rv.length;obtain ⟨⟨old,h1⟩,h2⟩:=st;exact wpAny_pyNext_enum_end (I.ok.hd hc) h1 h2 p.isList (by simp;omega) fun h' eb=>⟨rfl,I.turnedL (t':=s.toks) (ch:=[e,it]) (fun b o hb q=>eb b o (fun z=>hb (by simp [z])) q) hf⟩
 self:=fun _ _ _ _ _ st h=>by
  obtain ⟨⟨old,h1⟩,h2⟩:=st;exact wpAny_pyIter_enum h1 h
def qZS (K:PySem.W.Frag) (ta:TA):TI:=fun σ H R=>ta σ H fun vs H1=>∃ l,vs=[.ref l]/\(∃ xs,SqL K H1 l xs)/\R (Ite K l) H1
theorem qW2 {elts:List Expr} {k:Nat} {tpos:Pos} {a:Expr} {ta:TA} {p pos:Pos} (hg:Gl X "enumerate") (hm:X.mg "enumerate" = none) (hv:bootBuiltins "enumerate" = some (.type "enumerate")) (ha:PA X [a] ta) (hs:starEach [a] X.env=[(false,eval a X.env)]:=by rfl) :
  PI X (.Tuple elts k tpos) (.Call (.Name "enumerate" p) [a] [] pos) (qZS X.K ta):=by
 intro Ab s σ H R I h;refine Call_ (qIE I hg hm hv (T5 (thn (ha pos Ab s σ H _ I h) fun us s1 ⟨vs,H1,I1,r1,q1⟩=>?_) hs rfl));obtain ⟨l,e,⟨xs,hq⟩,q⟩:=q1;subst e;obtain ⟨u,rfl,rx⟩:=qEI r1;cases rx;obtain ⟨its,rv,pl,hz⟩:=I1.list hq;refine call_enumerate_list pl.isList fun h' he hi hsz hk=>?_;refine wpAny_pyIter_enum he ?_;have I2:Inv X Ab σ H1 { s1 with heap:=h' }:=I1.kept (t':=s1.toks) hk;refine ⟨s1.heap.objs.size+1,[s1.heap.objs.size+1,s1.heap.objs.size],_,_,H1,rfl,I2,qQL l s1.heap.objs.size (s1.heap.objs.size+1) (B47 _),⟨⟨_,he⟩,hi⟩,fun b hb=>?_,q⟩;have e':b=s1.heap.objs.size+1\/b=s1.heap.objs.size:=by simpa using hb
 rcases e' with rfl | rfl
 ·exact I1.fpOk (i9 _) (I1.hok.fresh (i9 _))
 ·exact I1.fpOk (C1 _) (I1.hok.fresh (C1 _))
end
theorem qWE {K:PySem.W.Frag} {a:Addr} {xs:List V} {g:TG} {tc:TT} {te:TE} {Kf:Hp->Prop} {σ0:St} {H0:Hp} {p:Addr} (Pv:Nat->St->Hp->Prop) (h0:Pv 0 σ0 H0) (hl:∀ i σ H,i<=xs.length->Pv i σ H->SqL K H a xs)
  (hs:∀ i x σ H T,xs[i]?=some x->Pv i σ H->H T=none->g (.ref T) σ (Ah H T (.tup [.int (i:Int),x])) fun σ2 H2=>tc σ2 H2 fun b H3=>if b=true then te σ2 H3 fun y H4=>∃ ys,H4 p=some (.lst ys)/\ys.length<sizeLine/\Pv (i+1) σ2 (Ah H4 p (.lst (ys++[y]))) else Pv (i+1) σ2 H3)
  (hd:∀ σ H,Pv xs.length σ H->Kf H) :
  ∃ W:Nat->Nat->St->Hp->Prop,(∃ m,W 0 m σ0 H0)/\∀ i m σ H,W i m σ H->
   ((Ite K a).stop i H/\Kf H)\/((Ite K a).go i H/\∃ N:St->Hp->Prop,(∀ σ' H',N σ' H'->∃ m',m'<m/\W (i+1) m' σ' H')/\∀ x H',(Ite K a).yld i H x H'->g x σ H' fun σ2 H2=>tc σ2 H2 fun b H3=>
    if b=true then te σ2 H3 fun y H4=>∃ ys,H4 p=some (.lst ys)/\ys.length<sizeLine/\N σ2 (Ah H4 p (.lst (ys++[y]))) else N σ2 H3):=by
 refine ⟨fun i m σ H=>m=xs.length - i/\i<=xs.length/\Pv i σ H,⟨xs.length,by simp,G5 _,h0⟩,?_⟩
 rintro i m σ H ⟨rfl,hi,q⟩;have hq:=hl i σ H hi q;by_cases hlt:i<xs.length
 ·refine .inr ⟨⟨xs,xs[i],hq,by simp [hlt]⟩,Pv (i+1),fun σ' H' p'=>⟨xs.length - (i+1),by omega,rfl,hlt,p'⟩,fun v H' y=>?_⟩
  obtain ⟨T,x,hT,e1,e2,y⟩:=y;subst e1 e2;exact hs i x σ H T (y xs hq) q hT
 ·have e:i=xs.length:=by omega
  subst e;exact .inl ⟨⟨xs,hq,C1 _⟩,hd σ H q⟩
end L2
namespace L2
open PySem PySem.Spec PyProof.Rows
theorem qDM {prog:Program} {w:World} {A:Around} {E:Value->Shared->Prop} {s:Shared} {it t:Addr} {i:Nat} {Ae:Array Value} {x:Value} {Q:Value->Shared->Prop} (hit:s.heap.IsTupleIter it t i) (ht:s.heap.IsTuple t Ae) (hx:Ae[i]?=some x)
  (hQ:∀ h':Heap,h'.IsTupleIter it t (i+1)->Heap.SameBut it s.heap h'->Q x { s with heap:=h' }):wpAny (model prog w) A (Z3 (.ref it)) Q E s:=by
 obtain ⟨o,ho,hc,hd⟩:=id hit;obtain ⟨ol,hol,_,nl,hdl⟩:=ht;refine wpAny_bind (wpAny_callSpecial?_slot hit.typeIs Y5 (wpAny_call_entry Y5 hit.typeIs A16 ?_ (A06 _)));show wpAny _ _ (field (.ref it) 0 >>= _) _ _ _;refine wpAny_bind (wpAny_field ho hd rfl ?_);refine wpAny_ite_false rfl ?_;show wpAny _ _ (field (.ref it) 1 >>= _) _ _ _;refine wpAny_bind (wpAny_field ho hd rfl ?_);show wpAny _ _ (seqItems? (.ref t) >>= _) _ _ _;refine wpAny_bind (wpAny_seqItems hol hdl ?_);show wpAny _ _ (match Ae[i]? with | some x=>_ | none=>_) _ _ _
 rw [hx];refine wpAny_bind (wpAny_setField ho hd (by simp) ?_)
 refine wpAny_pure ⟨x,rfl,wpAny_pure (hQ _ ⟨_,P6 _ ho (Z0 (P5 hd _)),(l5 o _).trans hc,?_⟩ (R9 _ _ _))⟩;rw [P5 hd];simp
 rfl
theorem qEF {prog:Program} {w:World} {A:Around} {E:Value->Shared->Prop} {s:Shared} {it t:Addr} {i:Nat} {Ae:Array Value} {Q:Value->Shared->Prop} (hh:A.handled=none) (hit:s.heap.IsTupleIter it t i) (ht:s.heap.IsTuple t Ae) (hx:Ae[i]?=none)
  (hE:∀ (h':Heap) (e:Addr),Heap.ExtBut it s.heap h'->(∃ o,h'.get? e=some o/\o.cls=.type "StopIteration")->E (.ref e) { s with heap:=h' }):wpAny (model prog w) A (Z3 (.ref it)) Q E s:=by
 obtain ⟨o,ho,hc,hd⟩:=id hit;obtain ⟨ol,hol,_,nl,hdl⟩:=ht;refine wpAny_bind (wpAny_callSpecial?_slot hit.typeIs Y5 (wpAny_call_entry Y5 hit.typeIs A16 ?_ (A06 _)));show wpAny _ _ (field (.ref it) 0 >>= _) _ _ _;refine wpAny_bind (wpAny_field ho hd rfl ?_);refine wpAny_ite_false rfl ?_;show wpAny _ _ (field (.ref it) 1 >>= _) _ _ _;refine wpAny_bind (wpAny_field ho hd rfl ?_);show wpAny _ _ (seqItems? (.ref t) >>= _) _ _ _;refine wpAny_bind (wpAny_seqItems hol hdl ?_);show wpAny _ _ (match Ae[i]? with | some x=>_ | none=>_) _ _ _
 rw [hx];refine wpAny_bind (wpAny_rule ?_);refine wpAny_bind (wpAny_setField ho hd (by simp) ?_)
 show wpAny _ _ (newExc (.type "StopIteration") [] >>= _) _ _ _;refine wpAny_bind ?_;simp only [newExc,newTuple];refine wpAny_bind (wpAny_newObj_type ?_ (by size_fits))
 refine wpAny_bind (m:=firstArgMember _ _) (wpAny_of_eq (a:=W8) (by first | rfl | (simp only [firstArgMember];rfl)) ?_)
 refine wpAny_newObj_type ?_ (by size_fits)
 simp only [raiseNew];refine wpAny_bind (wpAny_handled ?_);rw [show A.in1.handled=none from hh];refine wpAny_bind (wpAny_pure (wpAny_throw ?_));exact hE _ _ (((R9 ..).extBut.push _).push _) ⟨_,D4 _ rfl,rfl⟩
def SIt (b:Bool) (h:Heap) (it l:Addr) (i:Nat):Prop:=match b with | true=>h.IsTupleIter it l i | false=>h.IsListIter it l i
def SSq (b:Bool) (h:Heap) (l:Addr) (xs:Array Value):Prop:=match b with | true=>h.IsTuple l xs | false=>h.IsList l xs
theorem SIt.at {b:Bool} {h h':Heap} {it l:Addr} {i:Nat} (q:SIt b h it l i) (k:∀ o,h.get? it=some o->h'.get? it=some o):SIt b h' it l i:=by
 cases b
 ·exact Heap.IsListIter.at q k
 ·exact Heap.IsTupleIter.at q k
theorem SSq.at {b:Bool} {h h':Heap} {l:Addr} {xs:Array Value} (q:SSq b h l xs) (k:∀ o,h.get? l=some o->h'.get? l=some o):SSq b h' l xs:=by
 cases b
 ·obtain ⟨o,e,r⟩:=q;exact ⟨o,k o e,r⟩
 ·obtain ⟨o,e,r⟩:=q;exact ⟨o,k o e,r⟩
theorem qFF {b:Bool} {prog:Program} {w:World} {A:Around} {E:Value->Shared->Prop} {s:Shared} {it t:Addr} {i:Nat} {Ae:Array Value} {x:Value} {Q:Value->Shared->Prop} (hit:SIt b s.heap it t i) (ht:SSq b s.heap t Ae) (hx:Ae[i]?=some x)
  (hQ:∀ h':Heap,SIt b h' it t (i+1)->Heap.SameBut it s.heap h'->Q x { s with heap:=h' }):wpAny (model prog w) A (Z3 (.ref it)) Q E s:=by
 cases b
 ·exact wpAny_nextOf_list_item hit ht hx hQ
 ·exact qDM hit ht hx hQ
theorem qJH {b:Bool} {prog:Program} {w:World} {A:Around} {E:Value->Shared->Prop} {s:Shared} {it t:Addr} {i:Nat} {Ae:Array Value} {Q:Value->Shared->Prop} (hh:A.handled=none) (hit:SIt b s.heap it t i) (ht:SSq b s.heap t Ae) (hx:Ae[i]?=none)
  (hE:∀ (h':Heap) (e:Addr),Heap.ExtBut it s.heap h'->(∃ o,h'.get? e=some o/\o.cls=.type "StopIteration")->E (.ref e) { s with heap:=h' }):wpAny (model prog w) A (Z3 (.ref it)) Q E s:=by
 cases b
 ·exact wpAny_nextOf_list_end hh hit ht hx hE
 ·exact qEF hh hit ht hx hE
theorem qQE {b:Bool} {prog:Program} {w:World} {A:Around} {E:Value->Shared->Prop} {s:Shared} {z TI TO i1 i2 l1 l2:Addr} {k1 k2:Nat} {xs ys:Array Value} {x y a c:Value} {Q:Value->Shared->Prop} (D:ZipApart z TI TO i1 i2 l1 l2) (hz:IsZip s.heap z TI TO .none) (hTI:IsPair s.heap TI (.ref i1) (.ref i2)) (hTO:IsPair s.heap TO a c)
  (h1:SIt b s.heap i1 l1 k1) (h2:SIt b s.heap i2 l2 k2) (hl1:SSq b s.heap l1 xs) (hl2:SSq b s.heap l2 ys) (hx:xs[k1]?=some x) (hy:ys[k2]?=some y)
  (hQ:∀ h':Heap,IsZip h' z TI TO (rawInt (s.heap.objs.size:Int))->IsPair h' TO x y->SIt b h' i1 l1 (k1+1)->SIt b h' i2 l2 (k2+1)->IsPair h' s.heap.objs.size x y->h'.objs.size=s.heap.objs.size+1->
   (∀ (c:Addr) (o:Obj),c ≠ z->c ≠ TO->c ≠ i1->c ≠ i2->s.heap.get? c=some o->h'.get? c=some o)->Q (.ref s.heap.objs.size) { s with heap:=h' }) :
  wpAny (model prog w) A (Builtin.«zip.__next__» { pos:=[.ref z] }) (fun fin s'=>∃ v,fin=.done (.ret v)/\Q v s') E s:=by
 show wpAny _ _ (field (.ref z) 2 >>= _) _ _ _;refine wpAny_bind (wpAny_field hz rfl rfl ?_);show wpAny _ _ (field (.ref z) 3 >>= _) _ _ _;refine wpAny_bind (wpAny_field hz rfl rfl ?_);refine wpAny_bind (wpAny_seqItems hTI rfl ?_);show wpAny _ _ (Y0 (.ref z) >>= _) _ _ _;refine wpAny_bind ?_;show wpAny _ _ (field (.ref z) 0 >>= _) _ _ _;refine wpAny_bind (wpAny_field hz rfl rfl (wpAny_pure ?_));refine wpAny_ite_true rfl ?_;refine wpAny_bind (wpAny_rule ?_);refine wpAny_bind (wpAny_field hz rfl rfl ?_);refine wpAny_bind (wpAny_setField_rec hz (by simp) fun hA gz sb=>?_)
 refine wpAny_bind ?_;show wpAny _ _ (forIn [(F3 i1,0),(F3 i2,1)] _ _) _ _ _;rw [X9];refine wpAny_bind ?_;dsimp only;refine wpAny_bind (wpAny_onRaise ?_);have e:((#[W8,Z5 false,Z5 false,F3 TI,F3 TO][2] == Z5 true)=false):=rfl;rw [e];have sA1:SIt b hA i1 l1 k1:=h1.at fun o q=>(sb.2 _ D.i1z).trans q;have sL1:SSq b hA l1 xs:=hl1.at fun o q=>(sb.2 _ D.l1z).trans q;refine wpAny_bind (qFF (s:={ s with heap:=hA }) sA1 sL1 hx fun hB nB sB=>?_);refine wpAny_pure ?_;have tB:IsPair hB TO a c:=(sB.2 _ D.TOi1).trans ((sb.2 _ D.TOz).trans hTO);refine wpAny_bind (wpAny_seqItems tB rfl ?_);refine wpAny_bind (wpAny_updateSeq_pair tB fun hC tC sC=>?_);refine wpAny_bind (wpAny_letGo (wpAny_pure ?_));dsimp only;rw [X9];refine wpAny_bind ?_;refine wpAny_bind (wpAny_onRaise ?_);have sC2:SIt b hC i2 l2 k2:=h2.at fun o q=>(sC.2 _ (M8 D.TOi2)).trans ((sB.2 _ (M8 D.i12)).trans ((sb.2 _ D.i2z).trans q));have sL2:SSq b hC l2 ys:=hl2.at fun o q=>(sC.2 _ D.l2TO).trans ((sB.2 _ D.l2i1).trans ((sb.2 _ D.l2z).trans q));refine wpAny_bind (qFF (s:={ s with heap:=hC }) sC2 sL2 hy fun hD nD sD=>?_);refine wpAny_pure ?_;have tD:IsPair hD TO x c:=(sD.2 _ D.TOi2).trans tC;refine wpAny_bind (wpAny_seqItems tD rfl ?_);refine wpAny_bind (wpAny_updateSeq_pair tD fun hF tF sF=>?_);refine wpAny_bind (wpAny_letGo (wpAny_pure ?_));dsimp only;rw [B72];refine wpAny_pure ?_;dsimp only;have tF':IsPair hF TO x y:=tF;refine wpAny_bind (wpAny_seqItems tF' rfl ?_);refine wpAny_bind (wpAny_newTuple ?_ (by show 2<=sizeLine;decide))
 have gzF:hF.get? z=some { cls:=.type "zip",data:=.fields #[.ellipsis,.bool false,.bool false,.ref TI,.ref TO] }:=(sF.2 _ (M8 D.TOz)).trans ((sD.2 _ (M8 D.i2z)).trans ((sC.2 _ (M8 D.TOz)).trans ((sB.2 _ (M8 D.i1z)).trans gz)));have szF:hF.objs.size=s.heap.objs.size:=sF.1.trans (sD.1.trans (sC.1.trans (sB.1.trans sb.1)));have ltz:z<hF.objs.size:=D0 gzF;have gzG:(hF.push { cls:=.type "tuple",data:=.seq #[x,y] }).get? z=some { cls:=.type "zip",data:=.fields #[.ellipsis,.bool false,.bool false,.ref TI,.ref TO] }:=B8 _ gzF;refine wpAny_bind ?_;show wpAny _ _ (setField (.ref z) 0 (rawInt _) >>= _) _ _ _;refine wpAny_bind (wpAny_setField_rec gzG (by simp) fun hG gG sG=>?_)
 refine wpAny_setField_rec gG (by simp) fun hI gI sI=>?_
 refine wpAny_pure ⟨_,rfl,?_⟩;have o4:∀ (c:Addr) (o:Obj),c ≠ z->c ≠ TO->c ≠ i1->c ≠ i2->s.heap.get? c=some o->hI.get? c=some o:=fun c o n1 n2 n3 n4 e=>
  (sI.2 _ n1).trans ((sG.2 _ n1).trans (B8 _ ((sF.2 _ n2).trans ((sD.2 _ n4).trans ((sC.2 _ n2).trans ((sB.2 _ n3).trans ((sb.2 _ n1).trans e)))))))
 have nz:hF.objs.size ≠ z:=n8 ltz;have gT:hI.get? hF.objs.size=some { cls:=.type "tuple",data:=.seq #[x,y] }:=(sI.2 _ nz).trans ((sG.2 _ nz).trans (D4 _ rfl));have szI:hI.objs.size=hF.objs.size+1:=sI.1.trans (sG.1.trans (P2 ..));have pz:∀ {c:Addr} {o:Obj},c ≠ z->hF.get? c=some o->hI.get? c=some o:=fun n e=>(sI.2 _ n).trans ((sG.2 _ n).trans (B8 _ e));have q:=hQ hI;rw [<- szF] at q;refine q gI (pz D.TOz tF') (nB.at fun o e=>pz D.i1z ((sF.2 _ (M8 D.TOi1)).trans ((sD.2 _ D.i12).trans ((sC.2 _ (M8 D.TOi1)).trans e)))) (nD.at fun o e=>pz D.i2z ((sF.2 _ (M8 D.TOi2)).trans e)) gT szI o4
theorem qT4 {b:Bool} {prog:Program} {w:World} {A:Around} {E:Value->Shared->Prop} {s:Shared} {z TI TO i1 i2 l1 l2:Addr} {k1:Nat} {xs:Array Value} {Q:PySem.Fin->Shared->Prop} (hh:A.handled=none) (D:ZipApart z TI TO i1 i2 l1 l2) (hz:IsZip s.heap z TI TO .none) (hTI:IsPair s.heap TI (.ref i1) (.ref i2))
  (h1:SIt b s.heap i1 l1 k1) (hl1:SSq b s.heap l1 xs) (hx:xs[k1]?=none)
  (hE:∀ (h':Heap) (e:Addr),(∀ (c:Addr) (o:Obj),c ≠ z->c ≠ i1->s.heap.get? c=some o->h'.get? c=some o)->(∃ o,h'.get? e=some o/\o.cls=.type "StopIteration")->E (.ref e) { s with heap:=h' }) :
  wpAny (model prog w) A (Builtin.«zip.__next__» { pos:=[.ref z] }) Q E s:=by
 show wpAny _ _ (field (.ref z) 2 >>= _) _ _ _;refine wpAny_bind (wpAny_field hz rfl rfl ?_);show wpAny _ _ (field (.ref z) 3 >>= _) _ _ _;refine wpAny_bind (wpAny_field hz rfl rfl ?_);refine wpAny_bind (wpAny_seqItems hTI rfl ?_);show wpAny _ _ (Y0 (.ref z) >>= _) _ _ _;refine wpAny_bind ?_;show wpAny _ _ (field (.ref z) 0 >>= _) _ _ _;refine wpAny_bind (wpAny_field hz rfl rfl (wpAny_pure ?_));refine wpAny_ite_true rfl ?_;refine wpAny_bind (wpAny_rule ?_);refine wpAny_bind (wpAny_field hz rfl rfl ?_);refine wpAny_bind (wpAny_setField_rec hz (by simp) fun hA gz sb=>?_)
 refine wpAny_bind ?_;show wpAny _ _ (forIn [(F3 i1,0),(F3 i2,1)] _ _) _ _ _;rw [X9];refine wpAny_bind ?_;dsimp only;refine wpAny_bind (wpAny_onRaise ?_);have e:((#[W8,Z5 false,Z5 false,F3 TI,F3 TO][2] == Z5 true)=false):=rfl;rw [e];have sA1:SIt b hA i1 l1 k1:=h1.at fun o q=>(sb.2 _ D.i1z).trans q;have sL1:SSq b hA l1 xs:=hl1.at fun o q=>(sb.2 _ D.l1z).trans q;refine wpAny_bind (qJH (s:={ s with heap:=hA }) hh sA1 sL1 hx fun hB ea xB ⟨ob,gb,cb⟩=>?_);have gzB:=xB z _ (M8 D.i1z) gz;refine wpAny_setField_rec gzB (by simp) fun hC gC sC=>?_
 have nez:ea ≠ z:=fun q=>by
  rw [q,gzB] at gb;cases gb;exact absurd (show W9 "zip" = W9 "StopIteration" from cb) (by decide)
 exact hE hC ea (fun c o n1 n2 q=>(sC.2 _ n1).trans (xB c o n2 ((sb.2 _ n1).trans q))) ⟨ob,(sC.2 _ nez).trans gb,cb⟩
theorem qQF {b:Bool} {prog:Program} {w:World} {A:Around} {E:Value->Shared->Prop} {s:Shared} {z TI TO i1 i2 l1 l2:Addr} {k1 k2:Nat} {xs ys:Array Value} {x a c:Value} {Q:PySem.Fin->Shared->Prop} (hh:A.handled=none) (D:ZipApart z TI TO i1 i2 l1 l2) (hz:IsZip s.heap z TI TO .none) (hTI:IsPair s.heap TI (.ref i1) (.ref i2)) (hTO:IsPair s.heap TO a c)
  (h1:SIt b s.heap i1 l1 k1) (h2:SIt b s.heap i2 l2 k2) (hl1:SSq b s.heap l1 xs) (hl2:SSq b s.heap l2 ys) (hx:xs[k1]?=some x) (hy:ys[k2]?=none)
  (hE:∀ (h':Heap) (e:Addr),(∀ (c:Addr) (o:Obj),c ≠ z->c ≠ TO->c ≠ i1->c ≠ i2->s.heap.get? c=some o->h'.get? c=some o)->(∃ o,h'.get? e=some o/\o.cls=.type "StopIteration")->E (.ref e) { s with heap:=h' }) :
  wpAny (model prog w) A (Builtin.«zip.__next__» { pos:=[.ref z] }) Q E s:=by
 show wpAny _ _ (field (.ref z) 2 >>= _) _ _ _;refine wpAny_bind (wpAny_field hz rfl rfl ?_);show wpAny _ _ (field (.ref z) 3 >>= _) _ _ _;refine wpAny_bind (wpAny_field hz rfl rfl ?_);refine wpAny_bind (wpAny_seqItems hTI rfl ?_);show wpAny _ _ (Y0 (.ref z) >>= _) _ _ _;refine wpAny_bind ?_;show wpAny _ _ (field (.ref z) 0 >>= _) _ _ _;refine wpAny_bind (wpAny_field hz rfl rfl (wpAny_pure ?_));refine wpAny_ite_true rfl ?_;refine wpAny_bind (wpAny_rule ?_);refine wpAny_bind (wpAny_field hz rfl rfl ?_);refine wpAny_bind (wpAny_setField_rec hz (by simp) fun hA gz sb=>?_)
 refine wpAny_bind ?_;show wpAny _ _ (forIn [(F3 i1,0),(F3 i2,1)] _ _) _ _ _;rw [X9];refine wpAny_bind ?_;dsimp only;refine wpAny_bind (wpAny_onRaise ?_);have e:((#[W8,Z5 false,Z5 false,F3 TI,F3 TO][2] == Z5 true)=false):=rfl;rw [e];have sA1:SIt b hA i1 l1 k1:=h1.at fun o q=>(sb.2 _ D.i1z).trans q;have sL1:SSq b hA l1 xs:=hl1.at fun o q=>(sb.2 _ D.l1z).trans q;refine wpAny_bind (qFF (s:={ s with heap:=hA }) sA1 sL1 hx fun hB nB sB=>?_);refine wpAny_pure ?_;have tB:IsPair hB TO a c:=(sB.2 _ D.TOi1).trans ((sb.2 _ D.TOz).trans hTO);refine wpAny_bind (wpAny_seqItems tB rfl ?_);refine wpAny_bind (wpAny_updateSeq_pair tB fun hC tC sC=>?_);refine wpAny_bind (wpAny_letGo (wpAny_pure ?_));dsimp only;rw [X9];refine wpAny_bind ?_;refine wpAny_bind (wpAny_onRaise ?_);have sC2:SIt b hC i2 l2 k2:=h2.at fun o q=>(sC.2 _ (M8 D.TOi2)).trans ((sB.2 _ (M8 D.i12)).trans ((sb.2 _ D.i2z).trans q));have sL2:SSq b hC l2 ys:=hl2.at fun o q=>(sC.2 _ D.l2TO).trans ((sB.2 _ D.l2i1).trans ((sb.2 _ D.l2z).trans q));refine wpAny_bind (qJH (s:={ s with heap:=hC }) hh sC2 sL2 hy fun hD ea xD ⟨ob,gb,cb⟩=>?_);have gzC:hC.get? z=some { cls:=.type "zip",data:=.fields #[.ellipsis,.bool false,.bool false,.ref TI,.ref TO] }:=(sC.2 _ (M8 D.TOz)).trans ((sB.2 _ (M8 D.i1z)).trans gz);have gzD:=xD z _ (M8 D.i2z) gzC;refine wpAny_setField_rec gzD (by simp) fun hF gF sF=>?_
 have nez:ea ≠ z:=fun q=>by
  rw [q,gzD] at gb;cases gb;exact absurd (show W9 "zip" = W9 "StopIteration" from cb) (by decide)
 exact hE hF ea (fun c o n1 n2 n3 n4 q=>(sF.2 _ n1).trans (xD c o n4 ((sC.2 _ n2).trans ((sB.2 _ n3).trans ((sb.2 _ n1).trans q))))) ⟨ob,(sF.2 _ nez).trans gb,cb⟩
section
variable {b:Bool} {prog:Program} {w:World} {A:Around} {E:Value->Shared->Prop} {s:Shared} {z TI TO i1 i2 l1 l2:Addr} {k1 k2:Nat} {xs ys:Array Value}
theorem qHI {x y a c:Value} {Q:Option Value->Shared->Prop} (D:ZipApart z TI TO i1 i2 l1 l2) (hz:IsZip s.heap z TI TO .none) (hTI:IsPair s.heap TI (.ref i1) (.ref i2)) (hTO:IsPair s.heap TO a c)
  (h1:SIt b s.heap i1 l1 k1) (h2:SIt b s.heap i2 l2 k2) (hl1:SSq b s.heap l1 xs) (hl2:SSq b s.heap l2 ys) (hx:xs[k1]?=some x) (hy:ys[k2]?=some y)
  (hQ:∀ h':Heap,IsZip h' z TI TO (rawInt (s.heap.objs.size:Int))->IsPair h' TO x y->SIt b h' i1 l1 (k1+1)->SIt b h' i2 l2 (k2+1)->IsPair h' s.heap.objs.size x y->h'.objs.size=s.heap.objs.size+1->
   (∀ (c:Addr) (o:Obj),c ≠ z->c ≠ TO->c ≠ i1->c ≠ i2->s.heap.get? c=some o->h'.get? c=some o)->Q (some (.ref s.heap.objs.size)) { s with heap:=h' }) :
  wpAny (model prog w) A (pyNext (.ref z)) Q E s:=by
 have hT:s.TypeIs (.ref z) "zip":=⟨_,hz,rfl⟩;unfold pyNext;refine wpAny_bind (wpAny_attempt (wpAny_callSpecial?_slot (name:=F9 "__next__") hT j8 (wpAny_call_entry j8 hT A57 ?_ (A40 _))));exact qQE (Q:=fun v s'=>wpAny (model prog w) A (pure (some v)) Q E s') D hz hTI hTO h1 h2 hl1 hl2 hx hy fun h' q1 q2 q3 q4 q5 q6 q7=>wpAny_pure (hQ h' q1 q2 q3 q4 q5 q6 q7)
theorem qI7 {Q:Option Value->Shared->Prop} (hh:A.handled=none) (D:ZipApart z TI TO i1 i2 l1 l2) (hz:IsZip s.heap z TI TO .none) (hTI:IsPair s.heap TI (.ref i1) (.ref i2))
  (h1:SIt b s.heap i1 l1 k1) (hl1:SSq b s.heap l1 xs) (hx:xs[k1]?=none)
  (hQ:∀ h':Heap,(∀ (c:Addr) (o:Obj),c ≠ z->c ≠ i1->s.heap.get? c=some o->h'.get? c=some o)->Q none { s with heap:=h' }) :
  wpAny (model prog w) A (pyNext (.ref z)) Q E s:=by
 have hT:s.TypeIs (.ref z) "zip":=⟨_,hz,rfl⟩;unfold pyNext;refine wpAny_bind (wpAny_attempt (wpAny_callSpecial?_slot (name:=F9 "__next__") hT j8 (wpAny_call_entry j8 hT A57 ?_ (A40 _))));refine qT4 hh D hz hTI h1 hl1 hx fun h' e k ⟨o,g,c⟩=>?_;refine wpAny_bind (wpAny_isInstance (T:="StopIteration") (b:=true) ⟨_,g,c⟩ isSubtype_stop ?_);exact wpAny_pure (hQ h' k)
theorem qHJ {x a c:Value} {Q:Option Value->Shared->Prop} (hh:A.handled=none) (D:ZipApart z TI TO i1 i2 l1 l2) (hz:IsZip s.heap z TI TO .none) (hTI:IsPair s.heap TI (.ref i1) (.ref i2)) (hTO:IsPair s.heap TO a c)
  (h1:SIt b s.heap i1 l1 k1) (h2:SIt b s.heap i2 l2 k2) (hl1:SSq b s.heap l1 xs) (hl2:SSq b s.heap l2 ys) (hx:xs[k1]?=some x) (hy:ys[k2]?=none)
  (hQ:∀ h':Heap,(∀ (c:Addr) (o:Obj),c ≠ z->c ≠ TO->c ≠ i1->c ≠ i2->s.heap.get? c=some o->h'.get? c=some o)->Q none { s with heap:=h' }) :
  wpAny (model prog w) A (pyNext (.ref z)) Q E s:=by
 have hT:s.TypeIs (.ref z) "zip":=⟨_,hz,rfl⟩;unfold pyNext;refine wpAny_bind (wpAny_attempt (wpAny_callSpecial?_slot (name:=F9 "__next__") hT j8 (wpAny_call_entry j8 hT A57 ?_ (A40 _))));refine qQF hh D hz hTI hTO h1 h2 hl1 hl2 hx hy fun h' e k ⟨o,g,c⟩=>?_;refine wpAny_bind (wpAny_isInstance (T:="StopIteration") (b:=true) ⟨_,g,c⟩ isSubtype_stop ?_);exact wpAny_pure (hQ h' k)
end
abbrev qJ5 (b:Bool) (l:Addr):Obj:={ cls:=.type (match b with | true=>"tuple_iterator" | false=>"list_iterator"),data:=.fields #[.ref l,.int 0 0] }
theorem qGJ {b:Bool} {prog:Program} {w:World} {A:Around} {E:Value->Shared->Prop} {s:Shared} {l:Addr} {xs:Array Value} {Q:Value->Shared->Prop} (h:SSq b s.heap l xs) (hQ:Q (.ref s.heap.objs.size) { s with heap:=s.heap.push (qJ5 b l) }):wpAny (model prog w) A (pyIter (.ref l)) Q E s:=by
 cases b
 ·exact wpAny_pyIter_list h hQ
 ·exact wpAny_pyIter_tuple h hQ
abbrev zb1 (b:Bool) (h:Heap) (l1:Addr):Heap:=h.push (qJ5 b l1)
abbrev zb2 (b:Bool) (h:Heap) (l1 l2:Addr):Heap:=(zb1 b h l1).push (qJ5 b l2)
abbrev zb3 (b:Bool) (h:Heap) (l1 l2:Addr):Heap:=(zb2 b h l1 l2).push { cls:=.type "tuple",data:=.seq #[.ref h.objs.size,.ref (zb1 b h l1).objs.size] }
abbrev zb4 (b:Bool) (h:Heap) (l1 l2:Addr):Heap:=(zb3 b h l1 l2).push { cls:=.type "tuple",data:=.seq #[.none,.none] }
abbrev zb5 (b:Bool) (h:Heap) (l1 l2:Addr):Heap:=(zb4 b h l1 l2).push { cls:=.type "zip",data:=.fields #[.none,.bool false,.bool false,.ref (zb2 b h l1 l2).objs.size,.ref (zb3 b h l1 l2).objs.size] }
theorem qT3 (b:Bool) (l1 l2:Addr) (xs ys:Array Value):Meets (Builtin.«zip.__new__» { pos:=[.type "zip",.ref l1,.ref l2] }) fun _ R s=>
  SSq b s.heap l1 xs/\SSq b s.heap l2 ys/\R (.ok (.ret (.ref (zb4 b s.heap l1 l2).objs.size))) { s with heap:=zb5 b s.heap l1 l2 }:=by
 refine Meets.of_wp fun prog w A R s h=>?_;obtain ⟨hp,g,d,tk,os⟩:=s;obtain ⟨hl1,hl2,h⟩:=h;have hL2:SSq b (hp.push (qJ5 b l1)) l2 ys:=SSq.at hl2 fun o q=>B8 _ q;refine wpAny_bind ?_;refine wpAny_bind (wpAny_pure ?_);refine wpAny_ite_false rfl ?_;refine wpAny_bind (wpAny_of_eq sub_zip ?_);refine wpAny_ite_false rfl ?_;refine wpAny_pure ?_;refine wpAny_ite_false rfl ?_;refine wpAny_bind ?_;refine wpAny_bind ?_;show wpAny _ _ (forIn [F3 l1,F3 l2] #[] _) _ _ _;rw [X9];refine wpAny_bind (wpAny_bind (wpAny_holding (qGJ hl1 (wpAny_pure ?_))));dsimp only;rw [X9];refine wpAny_bind (wpAny_bind (wpAny_holding (qGJ hL2 (wpAny_pure ?_))));dsimp only;rw [B72];refine wpAny_pure (wpAny_pure ?_);refine wpAny_bind (wpAny_newTuple ?_ (by show 2<=sizeLine;decide))
 refine wpAny_bind (wpAny_newTuple ?_ (by show 2<=sizeLine;decide))
 refine wpAny_bind ?_;unfold i6;dsimp only;refine wpAny_newObj_type ?_ (by first | rfl | (show (5:Nat)<=_;decide) | (show (5:Nat)<=sizeLine+2;rw [sizeLine_eq];decide))
 refine wpAny_pure ⟨_,rfl,h⟩
end L2
namespace L2
open PySem PySem.Spec PyProof.Rows
theorem qSL {b:Bool} {prog:Program} {w:World} {A:Around} {E:Value->Shared->Prop} {s:Shared} {l1 l2:Addr} {xs ys:Array Value} {Q:Value->Shared->Prop} (hl1:SSq b s.heap l1 xs) (hl2:SSq b s.heap l2 ys)
  (hQ:∀ (h':Heap) (z TI TO i1 i2:Addr),ZipApart z TI TO i1 i2 l1 l2->IsZip h' z TI TO .none->IsPair h' TI (.ref i1) (.ref i2)->IsPair h' TO .none .none->SIt b h' i1 l1 0->SIt b h' i2 l2 0->(∀ c ∈ [z,TI,TO,i1,i2],s.heap.objs.size<=c)->
   (∀ (c:Addr) (o:Obj),s.heap.get? c=some o->h'.get? c=some o)->Q (.ref z) { s with heap:=h' }) :
  wpAny (model prog w) A (call (.type "zip") [.ref l1,.ref l2]) Q E s:=by
 refine callType_new F.called_zip (by decide) (F.typeCall_zip_2 _ _) (F.newCall_zip_2 _ _) (fun obj=>F.args_object_init_3 obj _ _) F.entry_zip_new (qT3 b l1 l2 xs ys) ⟨hl1,hl2,?_⟩
 have z1:(zb1 b s.heap l1).objs.size=s.heap.objs.size+1:=P2 ..;have z2:(zb2 b s.heap l1 l2).objs.size=s.heap.objs.size+2:=(P2 ..).trans (by rw [z1])
 have z3:(zb3 b s.heap l1 l2).objs.size=s.heap.objs.size+3:=(P2 ..).trans (by rw [z2])
 have z4:(zb4 b s.heap l1 l2).objs.size=s.heap.objs.size+4:=(P2 ..).trans (by rw [z3])
 have g5:(zb5 b s.heap l1 l2).get? (zb4 b s.heap l1 l2).objs.size=some { cls:=.type "zip",data:=.fields #[.none,.bool false,.bool false,.ref (zb2 b s.heap l1 l2).objs.size,.ref (zb3 b s.heap l1 l2).objs.size] }:=D4 _ rfl;have g4:(zb5 b s.heap l1 l2).get? (zb3 b s.heap l1 l2).objs.size=some { cls:=.type "tuple",data:=.seq #[.none,.none] }:=B8 _ (D4 _ rfl);have g3:(zb5 b s.heap l1 l2).get? (zb2 b s.heap l1 l2).objs.size=some { cls:=.type "tuple",data:=.seq #[.ref s.heap.objs.size,.ref (zb1 b s.heap l1).objs.size] }:=B8 _ (B8 _ (D4 _ rfl));have g2:(zb5 b s.heap l1 l2).get? (zb1 b s.heap l1).objs.size=some (qJ5 b l2):=B8 _ (B8 _ (B8 _ (D4 _ rfl)));have g1:(zb5 b s.heap l1 l2).get? s.heap.objs.size=some (qJ5 b l1):=B8 _ (B8 _ (B8 _ (B8 _ (D4 _ rfl))));have lt:∀ {l:Addr} {zs:Array Value},SSq b s.heap l zs->l<s.heap.objs.size:=fun {l zs} q=>by
  cases b
  ·obtain ⟨o,e,_⟩:=q;exact D0 e
  ·obtain ⟨o,e,_⟩:=q;exact D0 e
 refine ⟨⟨_,g5,rfl⟩,?_⟩;have D:=zipApart_new (n:=s.heap.objs.size) (lt hl1) (lt hl2);rw [<- z4,<- z3,<- z2,<- z1] at D;refine hQ _ _ _ _ _ _ D g5 g3 g4 ?_ ?_ ?_ fun c o e=>B8 _ (B8 _ (B8 _ (B8 _ (B8 _ e))))
 ·cases b
  ·exact ⟨_,g1,rfl,rfl⟩
  ·exact ⟨_,g1,rfl,rfl⟩
 ·cases b
  ·exact ⟨_,g2,rfl,rfl⟩
  ·exact ⟨_,g2,rfl,rfl⟩
 ·intro c hc;have e':c=(zb4 b s.heap l1 l2).objs.size\/c=(zb2 b s.heap l1 l2).objs.size\/c=(zb3 b s.heap l1 l2).objs.size\/c=s.heap.objs.size\/c=(zb1 b s.heap l1).objs.size:=by simpa using hc
  rcases e' with rfl | rfl | rfl | rfl | rfl
  ·omega
  ·omega
  ·omega
  ·exact C1 _
  ·omega
def SqB (b:Bool) (K:PySem.W.Frag) (H:Hp) (a:Addr) (xs:List V):Prop:=match b with | true=>SqT K H a xs | false=>SqL K H a xs
def Itz (K:PySem.W.Frag) (b:Bool) (l1 l2:Addr):It:=
 ⟨fun i H=>∃ xs ys x y,SqB b K H l1 xs/\SqB b K H l2 ys/\xs[i]?=some x/\ys[i]?=some y,fun i H v H'=>∃ T x y,H T=none/\v=.ref T/\H'=Ah H T (.tup [x,y])/\∀ xs ys,SqB b K H l1 xs->SqB b K H l2 ys->xs[i]?=some x/\ys[i]?=some y,fun i H=>∃ xs,SqB b K H l1 xs/\(xs.length<=i\/∃ ys x,SqB b K H l2 ys/\xs[i]?=some x/\ys.length<=i)⟩
section
variable {X:Cx}
theorem Inv.seqB {b:Bool} {Ab:List (Addr × Obj)} {s:Shared} {σ:St} {H:Hp} {a:Addr} {xs:List V} (I:Inv X Ab σ H s) (h:SqB b X.K H a xs):∃ its:List Value,Vals xs its/\SSq b s.heap a its.toArray:=by
 cases b
 ·obtain ⟨its,rv,p,_⟩:=I.list h;exact ⟨its,rv,p.isList⟩
 ·obtain ⟨its,rv,p,_⟩:=I.tuple h;exact ⟨its,rv,p⟩
theorem Inv.seqB_inj {b:Bool} {Ab:List (Addr × Obj)} {s:Shared} {σ:St} {H:Hp} {a:Addr} {xs ys:List V} (I:Inv X Ab σ H s) (h:SqB b X.K H a xs) (h':SqB b X.K H a ys):xs=ys:=by
 cases b
 ·exact I.list_inj h h'
 ·exact I.tuple_inj h h'
theorem qT5 {P:Program} {w:World} {K:PySem.W.Frag} {elts:List Expr} {k:Nat} {pos:Pos} {b:Bool} {z TI TO i1 i2 l1 l2:Addr} (D:ZipApart z TI TO i1 i2 l1 l2):Turn P w K (.Tuple elts k pos) (Itz K b l1 l2) [z,TI,TO,i1,i2] z (fun i h=>IsZip h z TI TO .none/\IsPair h TI (.ref i1) (.ref i2)/\(∃ a c,IsPair h TO a c)/\SIt b h i1 l1 i/\SIt b h i2 l2 i) where
 mem:=by simp
 obj:=fun i h ⟨h1,h2,⟨a,c,h3⟩,h4,h5⟩ d hd=>by
  have it:∀ {j l:Addr},SIt b h j l i->∃ o,h.get? j=some o/\∀ v,o.data ≠ .cell v:=fun {j l} q=>by
   cases b
   ·obtain ⟨o,e,_,q⟩:=q;exact ⟨o,e,fun v z=>by rw [q] at z;cases z⟩
   ·obtain ⟨o,e,_,q⟩:=q;exact ⟨o,e,fun v z=>by rw [q] at z;cases z⟩
  have e':d=z\/d=TI\/d=TO\/d=i1\/d=i2:=by simpa using hd
  rcases e' with rfl | rfl | rfl | rfl | rfl
  ·exact ⟨_,h1,fun v z=>by
    have z':B00 _=A71 v:=z;cases z'⟩
  ·exact ⟨_,h2,fun v z=>by
    have z':B97 _=A71 v:=z;cases z'⟩
  ·exact ⟨_,h3,fun v z=>by
    have z':B97 _=A71 v:=z;cases z'⟩
  ·exact it h4
  ·exact it h5
 keep:=fun i h h' ⟨h1,h2,⟨a,c,h3⟩,h4,h5⟩ kk=>⟨kk z (by simp) _ h1,kk TI (by simp) _ h2,⟨a,c,kk TO (by simp) _ h3⟩,h4.at fun o q=>kk i1 (by simp) o q,h5.at fun o q=>kk i2 (by simp) o q⟩
 item:=by
  intro X hP hw hK hc i Ab s σ H E I hf st hg;subst hP hw hK;obtain ⟨xs,ys,x,y,hq1,hq2,hx,hy⟩:=hg;obtain ⟨its,rv,p1⟩:=I.seqB hq1;obtain ⟨jts,rw',p2⟩:=I.seqB hq2;obtain ⟨u,hu,ru⟩:=rv.get hx;obtain ⟨v,hv,rv'⟩:=rw'.get hy;obtain ⟨h1,h2,⟨a,c,h3⟩,h4,h5⟩:=st;refine qHI D h1 h2 h3 h4 h5 p1 p2 (x:=u) (y:=v) (by simpa using hu) (by simpa using hv) fun h' a1 a2 a3 a4 a5 a6 a7=>?_
  refine ⟨_,rfl,wpAny_letOwnedTupleGo_zip a1 fun h2' b1 b2=>?_⟩;have ltz:z<s.heap.objs.size:=D0 h1;have nz:s.heap.objs.size ≠ z:=n8 ltz;have I1:Inv X Ab σ H { s with heap:=h2',toks:=s.toks }:=I.turnedL (ch:=[z,TI,TO,i1,i2]) (fun d o hd q=>by
   have e1:d ≠ z:=fun q=>hd (by simp [q])
   exact (b2.2 d e1).trans (a7 d o e1 (fun q=>hd (by simp [q])) (fun q=>hd (by simp [q])) (fun q=>hd (by simp [q])) q)) hf
  have hT:H s.heap.objs.size=none:=I.hok.fresh (C1 _);have fT:=I.fpOk (H':=H) (b:=s.heap.objs.size) (C1 _) hT;have gT:h2'.get? s.heap.objs.size=some { cls:=.type "tuple",data:=.seq #[u,v] }:=(b2.2 _ nz).trans a5;refine ⟨.ref s.heap.objs.size,Ah H s.heap.objs.size (.tup [x,y]),I1.track hT I.sz fT.2.1 fT.2.2.2.2.1 fT.2.2.2.2.2 ⟨by simp only [E3,O5];rw [sizeLine_eq];decide,[u,v],.cons ru (.cons rv' .nil),⟨_,gT,rfl,_,rfl⟩⟩,rfl,
   ⟨_,x,y,hT,rfl,rfl,fun xs' ys' e1 e2=>by rw [I.seqB_inj e1 hq1,I.seqB_inj e2 hq2];exact ⟨hx,hy⟩⟩,⟨b1,(b2.2 _ D.TIz).trans (a7 _ _ D.TIz D.TITO D.TIi1 D.TIi2 h2),⟨u,v,(b2.2 _ D.TOz).trans a2⟩,a3.at fun o q=>(b2.2 _ D.i1z).trans q,a4.at fun o q=>(b2.2 _ D.i2z).trans q⟩,fun d hd=>?_⟩
  have ltb:d<s.heap.objs.size:=by
   have it:∀ {j l:Addr} {n:Nat},SIt b s.heap j l n->j<s.heap.objs.size:=fun {j l n} q=>by
    cases b
    ·obtain ⟨o,e,_,q⟩:=q;exact D0 e
    ·obtain ⟨o,e,_,q⟩:=q;exact D0 e
   have e':d=z\/d=TI\/d=TO\/d=i1\/d=i2:=by simpa using hd
   rcases e' with rfl | rfl | rfl | rfl | rfl
   ·exact ltz
   ·exact D0 h2
   ·exact D0 h3
   ·exact it h4
   ·exact it h5
  rw [qA8 (F0 ltb)];exact (hf d hd).1
 done:=by
  intro X hP hw hK hc i Ab s σ H E I hf st hg;subst hP hw hK;obtain ⟨xs,hq,hx⟩:=hg;obtain ⟨its,rv,p⟩:=I.seqB hq;have hl:=rv.length;obtain ⟨h1,h2,⟨a,c,h3⟩,h4,h5⟩:=st;rcases hx with hx | ⟨ys,x,hq2,hxx,hy⟩
  rotate_left
  ·obtain ⟨jts,rw',p2⟩:=I.seqB hq2;have hl2:=rw'.length;obtain ⟨u,hu,ru⟩:=rv.get hxx;exact qHJ (I.ok.hd hc) D h1 h2 h3 h4 h5 p p2 (x:=u) (by simpa using hu) (by simp;omega) fun h' eb=>⟨rfl,I.turnedL (t':=s.toks) (ch:=[z,TI,TO,i1,i2]) (fun d o hd q=>eb d o (fun z=>hd (by simp [z])) (fun z=>hd (by simp [z])) (fun z=>hd (by simp [z])) (fun z=>hd (by simp [z])) q) hf⟩
  exact qI7 (I.ok.hd hc) D h1 h2 h4 p (by simp;omega) fun h' eb=>⟨rfl,I.turnedL (t':=s.toks) (ch:=[z,TI,TO,i1,i2]) (fun d o hd q=>eb d o (fun z=>hd (by simp [z])) (fun z=>hd (by simp [z])) q) hf⟩
 self:=fun _ _ _ _ _ ⟨h1,_⟩ h=>wpAny_pyIter_zip h1 h
def iZip (K:PySem.W.Frag) (ta:TA):TI:=fun σ H R=>ta σ H fun vs H1=>∃ b l m,vs=[.ref l,.ref m]/\(∃ xs,SqB b K H1 l xs)/\(∃ xs,SqB b K H1 m xs)/\R (Itz K b l m) H1
theorem qR3 {elts:List Expr} {k:Nat} {tpos:Pos} {a b:Expr} {ta:TA} {p pos:Pos} (hg:Gl X "zip") (hm:X.mg "zip" = none) (hv:bootBuiltins "zip" = some (.type "zip")) (ha:PA X [a,b] ta) (hs:starEach [a,b] X.env=[(false,eval a X.env),(false,eval b X.env)]:=by rfl) (hs2:starEach [b] X.env=[(false,eval b X.env)]:=by rfl) :
  PI X (.Tuple elts k tpos) (.Call (.Name "zip" p) [a,b] [] pos) (iZip X.K ta):=by
 intro Ab s σ H R I h;refine Call_ (qIE I hg hm hv (T5 (thn (ha pos Ab s σ H _ I h) fun us s1 ⟨vs,H1,I1,r1,q1⟩=>?_) (by rw [hs,hs2]) (by rw [hs2];rfl)))
 obtain ⟨bb,l,m,e,⟨xs,hq⟩,⟨ys,hq2⟩,q⟩:=q1;subst e;obtain ⟨u,v,rfl,rx,ry⟩:=qP6 r1;cases rx;cases ry;obtain ⟨its,rv,pl⟩:=I1.seqB hq;obtain ⟨jts,rw',pm⟩:=I1.seqB hq2;refine qSL pl pm fun h' z TI TO i1 i2 D hz hTI hTO hi1 hi2 hfr hk=>?_;refine wpAny_pyIter_zip hz ?_;have I2:Inv X Ab σ H1 { s1 with heap:=h' }:=I1.kept (t':=s1.toks) hk;exact ⟨z,[z,TI,TO,i1,i2],_,_,H1,rfl,I2,qT5 (b:=bb) D,⟨hz,hTI,⟨_,_,hTO⟩,hi1,hi2⟩,fun c hc=>I1.fpOk (hfr c hc) (I1.hok.fresh (hfr c hc)),q⟩
end
theorem qWD {K:PySem.W.Frag} {b:Bool} {l m:Addr} {xs ys:List V} {g:TG} {tc:TT} {te:TE} {Kf:Hp->Prop} {σ0:St} {H0:Hp} {p:Addr} (hlen:ys.length<=xs.length) (Pv:Nat->St->Hp->Prop) (h0:Pv 0 σ0 H0) (hl:∀ i σ H,i<=ys.length->Pv i σ H->SqB b K H l xs/\SqB b K H m ys)
  (hs:∀ i x y σ H T,xs[i]?=some x->ys[i]?=some y->Pv i σ H->H T=none->g (.ref T) σ (Ah H T (.tup [x,y])) fun σ2 H2=>tc σ2 H2 fun b H3=>if b=true then te σ2 H3 fun y H4=>∃ ys,H4 p=some (.lst ys)/\ys.length<sizeLine/\Pv (i+1) σ2 (Ah H4 p (.lst (ys++[y]))) else Pv (i+1) σ2 H3)
  (hd:∀ σ H,Pv ys.length σ H->Kf H) :
  ∃ W:Nat->Nat->St->Hp->Prop,(∃ m,W 0 m σ0 H0)/\∀ i n σ H,W i n σ H->
   ((Itz K b l m).stop i H/\Kf H)\/((Itz K b l m).go i H/\∃ N:St->Hp->Prop,(∀ σ' H',N σ' H'->∃ m',m'<n/\W (i+1) m' σ' H')/\∀ x H',(Itz K b l m).yld i H x H'->g x σ H' fun σ2 H2=>tc σ2 H2 fun b H3=>
    if b=true then te σ2 H3 fun y H4=>∃ ys,H4 p=some (.lst ys)/\ys.length<sizeLine/\N σ2 (Ah H4 p (.lst (ys++[y]))) else N σ2 H3):=by
 refine ⟨fun i n σ H=>n=ys.length - i/\i<=ys.length/\Pv i σ H,⟨ys.length,by simp,G5 _,h0⟩,?_⟩
 rintro i n σ H ⟨rfl,hi,q⟩;have hq:=hl i σ H hi q;by_cases hlt:i<ys.length
 ·refine .inr ⟨⟨xs,ys,xs[i]'(by omega),ys[i],hq.1,hq.2,B9 _,by simp [hlt]⟩,Pv (i+1),fun σ' H' p'=>⟨ys.length - (i+1),by omega,rfl,hlt,p'⟩,fun v H' y=>?_⟩
  obtain ⟨T,x,y,hT,e1,e2,yy⟩:=y;subst e1 e2;exact hs i x y σ H T (yy xs ys hq.1 hq.2).1 (yy xs ys hq.1 hq.2).2 q hT
 ·have e:i=ys.length:=by omega
  subst e;by_cases c:ys.length<xs.length
  ·exact .inl ⟨⟨xs,hq.1,.inr ⟨ys,xs[ys.length],hq.2,B9 _,C1 _⟩⟩,hd σ H q⟩
  ·exact .inl ⟨⟨xs,hq.1,.inl (by omega)⟩,hd σ H q⟩
end L2
namespace L2
open PySem PySem.Spec PyProof.Rows
theorem qQ0 {M:Model} {A:Around} {E:Value->Shared->Prop} {s:Shared} {c:Value} {Q:Bool->Shared->Prop} (h:∀ b,Q b s):wpAny M A (m6 c) Q E s:=by
 unfold m6;exact wpAny_bind (wpAny_stack_any fun st=>wpAny_pure (h _))
theorem qS6 (l:Addr) (Ae:Array Value):Meets (Builtin.«enumerate.__new__» { pos:=[.type "enumerate",.ref l] }) fun _ R s=>
  s.heap.IsTuple l Ae/\R (.ok (.ret (.ref (s.heap.push (qJ5 true l)).objs.size))) { s with heap:=(s.heap.push (qJ5 true l)).push { cls:=.type "enumerate",data:=.fields #[.none,.bool false,.ref s.heap.objs.size,rawInt 0,.none,.none] } }:=by
 refine Meets.of_wp fun prog w A R s h=>?_;obtain ⟨hl,h⟩:=h;refine wpAny_bind ?_;refine wpAny_bind (wpAny_pure ?_);refine wpAny_ite_false rfl ?_;refine wpAny_bind (wpAny_of_eq sub_enumerate ?_);refine wpAny_ite_false rfl ?_;refine wpAny_pure ?_;refine wpAny_ite_true rfl ?_;refine wpAny_bind (qQ0 fun sh=>?_);have go:wpAny (model prog w) A.in1 (pyIter (.ref l) >>= fun it=>i6 (.type "enumerate") (B04++[it,rawInt 0,.none,.none]) >>= fun v=>ret v) (fun fin s'=>∃ v,fin=.done (.ret v)/\R (.ok (.ret v)) s') (fun e s'=>R (.error e) s') s:=by
  refine wpAny_bind (qGJ (b:=true) hl ?_);refine wpAny_bind ?_;unfold i6;dsimp only;refine wpAny_newObj_type ?_ (by first | rfl | (show (6:Nat)<=sizeLine+2;rw [sizeLine_eq];decide))
  exact wpAny_pure ⟨_,rfl,h⟩
 cases sh
 ·exact go
 ·exact go
theorem qQ3 {prog:Program} {w:World} {A:Around} {E:Value->Shared->Prop} {s:Shared} {l:Addr} {Ae:Array Value} {Q:Value->Shared->Prop} (hl:s.heap.IsTuple l Ae)
  (h:∀ h':Heap,IsEnum h' (s.heap.objs.size+1) s.heap.objs.size 0 .none->h'.IsTupleIter s.heap.objs.size l 0->h'.objs.size=s.heap.objs.size+2->(∀ (b:Addr) (o:Obj),s.heap.get? b=some o->h'.get? b=some o)->Q (.ref (s.heap.objs.size+1)) { s with heap:=h' }) :
  wpAny (model prog w) A (call (.type "enumerate") [.ref l]) Q E s:=by
 refine callType_new F.called_enumerate (by decide) (F.typeCall_enumerate_1 _) (F.newCall_enumerate_1 _) (fun obj=>A89 obj _) F.entry_enumerate_new (qS6 l Ae) ⟨hl,?_⟩
 have z1:(s.heap.push (qJ5 true l)).objs.size=s.heap.objs.size+1:=P2 ..;rw [z1];have g:((s.heap.push (qJ5 true l)).push { cls:=.type "enumerate",data:=.fields #[.none,.bool false,.ref s.heap.objs.size,rawInt 0,.none,.none] }).get? (s.heap.objs.size+1)=some { cls:=.type "enumerate",data:=.fields #[.none,.bool false,.ref s.heap.objs.size,rawInt 0,.none,.none] }:=by
  rw [<- z1];exact D4 _ rfl
 exact ⟨⟨_,g,rfl⟩,h _ g ⟨_,B8 _ (D4 _ rfl),rfl,rfl⟩ ((P2 ..).trans (by rw [z1])) fun b o e=>B8 _ (B8 _ e)⟩
theorem qVD {prog:Program} {w:World} {A:Around} (hh:A.handled=none) (it l:Addr) (hne:l ≠ it) (Ae:Array Value):Draws prog w A it [it,l] Ae.size (fun i v=>Ae[i]?=some v) fun i h=>h.IsTupleIter it l i/\h.IsTuple l Ae where
 live:=fun i h ⟨⟨o,e,_⟩,_⟩=>⟨o,e⟩
 frame:=fun i h h' ⟨⟨o,e,r⟩,⟨o2,e2,r2⟩⟩ k=>⟨⟨o,k it (by simp) _ e,r⟩,⟨o2,k l (by simp) _ e2,r2⟩⟩
 item:=fun i s Q E hi ⟨h1,h2⟩ hQ=>qDM h1 h2 (C3 hi) fun h' a b=>hQ _ h' s.toks (C3 hi) ⟨a,by obtain ⟨o,e,r⟩:=h2;exact ⟨o,(b.2 l hne).trans e,r⟩⟩ b
 done:=fun s Q E ⟨h1,h2⟩ hE=>qEF hh h1 h2 (by simp) hE
def IteT (K:PySem.W.Frag) (l:Addr):It:=
 ⟨fun i H=>∃ xs x,SqT K H l xs/\xs[i]?=some x,fun i H v H'=>∃ T x,H T=none/\v=.ref T/\H'=Ah H T (.tup [.int (i:Int),x])/\∀ xs,SqT K H l xs->xs[i]?=some x,fun i H=>∃ xs,SqT K H l xs/\xs.length=i⟩
section
variable {X:Cx}
theorem qP9 {P:Program} {w:World} {K:PySem.W.Frag} {elts:List Expr} {k:Nat} {pos:Pos} (l it e:Addr) (hne:e ≠ it) (hl:l ≠ it) (hle:l ≠ e):Turn P w K (.Tuple elts k pos) (IteT K l) [e,it] e (fun i h=>(∃ old,IsEnum h e it i old)/\h.IsTupleIter it l i) where
 mem:=by simp
 obj:=fun i h st b hb=>by
  obtain ⟨⟨old,h1⟩,o,h2,_,h4⟩:=st;have e':b=e\/b=it:=by simpa using hb
  rcases e' with rfl | rfl
  ·exact ⟨_,h1,fun v z=>by
    have z':B00 _=A71 v:=z;cases z'⟩
  ·exact ⟨o,h2,fun v z=>by rw [h4] at z;cases z⟩
 keep:=fun i h h' st kk=>by
  obtain ⟨⟨old,h1⟩,h2⟩:=st;exact ⟨⟨old,kk e (by simp) _ h1⟩,h2.at fun o q=>kk it (by simp) o q⟩
 item:=by
  intro X hP hw hK hc i Ab s σ H E I hf st hg;subst hP hw hK;obtain ⟨xs,x,hq,hx⟩:=hg;obtain ⟨its,rv,p,hz⟩:=I.tuple hq;obtain ⟨u,hu,ru⟩:=rv.get hx;obtain ⟨⟨old,h1⟩,h2⟩:=st;have hsz:i<its.toArray.size:=by have:=(B0.mp hu).1;simpa using this
  refine wpAny_pyNext_enum_itemD (qVD (A:=X.A.in1) (I.ok.hd hc) it l hl its.toArray) h1 ⟨h2,p⟩ hsz hne (by simp [hne,M8 hle]) fun u' h' tk a0 a1 a2 a3 a4 a5=>?_
  have eu:u'=u:=by
   have:its[i]?=some u':=by simpa using a0
   rw [hu] at this;exact (L9 this).symm
  subst eu;refine ⟨_,rfl,wpAny_letOwnedTupleGo_enum a1 fun h2' b1 b2=>?_⟩;have ltE:e<s.heap.objs.size:=D0 h1;have I1:Inv X Ab σ H { s with heap:=h2',toks:=tk+1 }:=I.turnedL (ch:=[e,it]) (fun b o hb q=>by
   have hb1:b ≠ e:=fun z=>hb (by simp [z])
   have hb2:b ≠ it:=fun z=>hb (by simp [z])
   exact (b2.2 b hb1).trans (a5 b o hb1 hb2 q)) hf
  have hT:H s.heap.objs.size=none:=I.hok.fresh (C1 _);have fT:=I.fpOk (H':=H) (b:=s.heap.objs.size) (C1 _) hT;have gT:h2'.get? s.heap.objs.size=some { cls:=.type "tuple",data:=.seq #[.int i tk,u'] }:=(b2.2 _ (n8 ltE)).trans a3;refine ⟨.ref s.heap.objs.size,Ah H s.heap.objs.size (.tup [.int (i:Int),x]),I1.track hT I.sz fT.2.1 fT.2.2.2.2.1 fT.2.2.2.2.2 ⟨by simp only [E3,O5];rw [sizeLine_eq];decide,[.int (i:Int) tk,u'],.cons ⟨_,rfl⟩ (.cons ru .nil),⟨_,gT,rfl,_,rfl⟩⟩,rfl,
   ⟨_,x,hT,rfl,rfl,fun ys hy=>by rw [I.tuple_inj hy hq];exact hx⟩,⟨⟨_,b1⟩,a2.1.at fun o q=>(b2.2 it (M8 hne)).trans q⟩,fun b hb=>?_⟩
  have ltb:b<s.heap.objs.size:=by
   have e':b=e\/b=it:=by simpa using hb
   rcases e' with rfl | rfl
   ·exact ltE
   ·obtain ⟨o,q,_⟩:=h2;exact D0 q
  rw [qA8 (F0 ltb)];exact (hf b hb).1
 done:=by
  intro X hP hw hK hc i Ab s σ H E I hf st hg;subst hP hw hK;obtain ⟨xs,hq,hx⟩:=hg;obtain ⟨its,rv,p,hz⟩:=I.tuple hq;have hl':=rv.length;obtain ⟨⟨old,h1⟩,h2⟩:=st;have hsz:i=its.toArray.size:=by simp;omega
  subst hsz;exact wpAny_pyNext_enum_endD (qVD (A:=X.A.in1) (I.ok.hd hc) it l hl its.toArray) h1 ⟨h2,p⟩ fun h' eb=>⟨rfl,I.turnedL (t':=s.toks) (ch:=[e,it]) (fun b o hb q=>eb b o (fun z=>hb (by simp [z])) q) hf⟩
 self:=fun _ _ _ _ _ st h=>by
  obtain ⟨⟨old,h1⟩,h2⟩:=st;exact wpAny_pyIter_enum h1 h
def qYK (K:PySem.W.Frag) (ta:TA):TI:=fun σ H R=>ta σ H fun vs H1=>∃ l,vs=[.ref l]/\(∃ xs,SqT K H1 l xs)/\R (IteT K l) H1
theorem qTN {elts:List Expr} {k:Nat} {tpos:Pos} {a:Expr} {ta:TA} {p pos:Pos} (hg:Gl X "enumerate") (hm:X.mg "enumerate" = none) (hv:bootBuiltins "enumerate" = some (.type "enumerate")) (ha:PA X [a] ta) (hs:starEach [a] X.env=[(false,eval a X.env)]:=by rfl) :
  PI X (.Tuple elts k tpos) (.Call (.Name "enumerate" p) [a] [] pos) (qYK X.K ta):=by
 intro Ab s σ H R I h;refine Call_ (qIE I hg hm hv (T5 (thn (ha pos Ab s σ H _ I h) fun us s1 ⟨vs,H1,I1,r1,q1⟩=>?_) hs rfl));obtain ⟨l,e,⟨xs,hq⟩,q⟩:=q1;subst e;obtain ⟨u,rfl,rx⟩:=qEI r1;cases rx;obtain ⟨its,rv,pl,hz⟩:=I1.tuple hq;have ltl:l<s1.heap.objs.size:=by obtain ⟨o,e,_⟩:=pl;exact D0 e
 refine qQ3 pl fun h' he hi hsz hk=>?_;refine wpAny_pyIter_enum he ?_;have I2:Inv X Ab σ H1 { s1 with heap:=h' }:=I1.kept (t':=s1.toks) hk;refine ⟨s1.heap.objs.size+1,[s1.heap.objs.size+1,s1.heap.objs.size],_,_,H1,rfl,I2,qP9 l s1.heap.objs.size (s1.heap.objs.size+1) (B47 _) (F0 ltl) (F0 (V1 ltl)),⟨⟨_,he⟩,hi⟩,fun b hb=>?_,q⟩;have e':b=s1.heap.objs.size+1\/b=s1.heap.objs.size:=by simpa using hb
 rcases e' with rfl | rfl
 ·exact I1.fpOk (i9 _) (I1.hok.fresh (i9 _))
 ·exact I1.fpOk (C1 _) (I1.hok.fresh (C1 _))
end
theorem qS3 {K:PySem.W.Frag} {a:Addr} {xs:List V} {g:TG} {tb:TS} {D:Ends} {σ0:St} {H0:Hp} (Pv:Nat->St->Hp->Prop) (h0:Pv 0 σ0 H0) (hl:∀ i σ H,i<=xs.length->Pv i σ H->SqT K H a xs)
  (hs:∀ i x σ H T,xs[i]?=some x->Pv i σ H->H T=none->g (.ref T) σ (Ah H T (.tup [.int (i:Int),x])) fun σ2 H2=>tb { D with nx:=Pv (i+1),ct:=Pv (i+1),bk:=D.nx } σ2 H2)
  (hd:∀ σ H,Pv xs.length σ H->D.nx σ H) :
  ∃ W:Nat->Nat->St->Hp->Prop,(∃ m,W 0 m σ0 H0)/\∀ i m σ H,W i m σ H->
   ((IteT K a).stop i H/\D.nx σ H)\/((IteT K a).go i H/\∃ N:St->Hp->Prop,(∀ σ' H',N σ' H'->∃ m',m'<m/\W (i+1) m' σ' H')/\∀ x H',(IteT K a).yld i H x H'->g x σ H' fun σ2 H2=>tb { D with nx:=N,ct:=N,bk:=D.nx } σ2 H2):=by
 refine ⟨fun i m σ H=>m=xs.length - i/\i<=xs.length/\Pv i σ H,⟨xs.length,by simp,G5 _,h0⟩,?_⟩
 rintro i m σ H ⟨rfl,hi,q⟩;have hq:=hl i σ H hi q;by_cases hlt:i<xs.length
 ·refine .inr ⟨⟨xs,xs[i],hq,by simp [hlt]⟩,Pv (i+1),fun σ' H' p'=>⟨xs.length - (i+1),by omega,rfl,hlt,p'⟩,fun v H' y=>?_⟩
  obtain ⟨T,x,hT,e1,e2,y⟩:=y;subst e1 e2;exact hs i x σ H T (y xs hq) q hT
 ·have e:i=xs.length:=by omega
  subst e;exact .inl ⟨⟨xs,hq,rfl⟩,hd σ H q⟩
end L2
namespace L2
open PySem
section
variable {es:List Expr} {env:Env} {p:Pos}
theorem qHV {c:Const} {k:Nat}:starEach (.Constant c k p::es) env=(false,eval (.Constant c k p) env)::starEach es env:=rfl
theorem qWO {x:Str}:starEach (.Name x p::es) env=(false,eval (.Name x p) env)::starEach es env:=rfl
theorem qRT {v sl:Expr}:starEach (.Subscript v sl p::es) env=(false,eval (.Subscript v sl p) env)::starEach es env:=rfl
theorem qN9 {f:Expr} {xs:List Expr} {ks:List Keyword}:starEach (.Call f xs ks p::es) env=(false,eval (.Call f xs ks p) env)::starEach es env:=rfl
theorem qH5 {a b:Expr} {o:Operator}:starEach (.BinOp a o b p::es) env=(false,eval (.BinOp a o b p) env)::starEach es env:=rfl
theorem qWP {xs:List Expr}:starEach (.List xs p::es) env=(false,eval (.List xs p) env)::starEach es env:=rfl
end
end L2
namespace L2
open PySem
@[irreducible] def cst (i:Int) (p:Pos):Expr:=.Constant (.int i) 0 p
end L2
namespace L2
open PySem
end L2
namespace L2
open PySem
@[elab_as_elim] theorem us0 {α:Type} {P:List α->Prop} (us:List α) (hl:us.length=0) (h:P []):P us:=by
 match us,hl with
 | [],_=>exact h
@[elab_as_elim] theorem us1 {α:Type} {P:List α->Prop} (us:List α) (hl:us.length=1) (h:∀ a,P [a]):P us:=by
 match us,hl with
 | [a],_=>exact h a
@[elab_as_elim] theorem us2 {α:Type} {P:List α->Prop} (us:List α) (hl:us.length=2) (h:∀ a b,P [a,b]):P us:=by
 match us,hl with
 | [a,b],_=>exact h a b
@[elab_as_elim] theorem us3 {α:Type} {P:List α->Prop} (us:List α) (hl:us.length=3) (h:∀ a b c,P [a,b,c]):P us:=by
 match us,hl with
 | [a,b,c],_=>exact h a b c
@[elab_as_elim] theorem us4 {α:Type} {P:List α->Prop} (us:List α) (hl:us.length=4) (h:∀ a b c d,P [a,b,c,d]):P us:=by
 match us,hl with
 | [a,b,c,d],_=>exact h a b c d
end L2
namespace L2.G
open PySem PyProof.Rows
abbrev gSM:=StateT SortSt Sem
class NM where
 nm:Value->Int
 good:Value->Prop
variable [NM]
def gkv (p:Keyed):Int:=NM.nm p.1
def gIK (p:Keyed):Prop:=NM.good p.1
class LtOk (prog:Program) (w:World) (A:Around) (s:Shared) (κ0:SortKind):Prop where
 lt:∀ {x y:Value} {Q:Bool->Shared->Prop} {E:Value->Shared->Prop},NM.good x->NM.good y->Q (decide (NM.nm x<NM.nm y)) s->wpAny (model prog w) A (keyLt' κ0 x y) Q E s
def gK (xs:Array Keyed) (i:Nat):Int:=match xs[i]? with
 | some p=>NM.nm p.1
 | none=>0
def gSortedTo (xs:Array Keyed) (k:Nat):Prop:=∀ i j,i<=j->j<k->gK xs i<=gK xs j
def qBV (xs:Array Keyed):Prop:=∀ p,p ∈ xs.toList->NM.good p.1
theorem qWR {xs:Array Keyed} {i:Nat} (hi:i<xs.size):gK xs i=NM.nm xs[i].1:=by unfold gK;rw [getElem?_pos xs i hi]
theorem qF0 {xs ys:Array Keyed} {i j:Nat} (h:xs[i]?=ys[j]?):gK xs i=gK ys j:=by unfold gK;rw [h]
theorem qIL {xs:Array Keyed} {src d:Nat} (hs:src<xs.size) (hd:d<=src) (k:Nat) :
  gK (bubble xs src d) k=if k=src - d then gK xs src else if src - d<k/\k<=src then gK xs (k - 1) else gK xs k:=by
 have e:=getElem?_bubble hs d hd k;by_cases h1:k=src - d
 ·rw [if_pos h1] at e ⊢;exact qF0 e
 ·rw [if_neg h1] at e ⊢;by_cases h2:src - d<k/\k<=src
  ·rw [if_pos h2] at e ⊢;exact qF0 e
  ·rw [if_neg h2] at e ⊢;exact qF0 e
theorem qG4 {xs:Array Keyed} {i j:Nat} (hj:j<=xs.size) (k:Nat) :
  gK (mirror xs i j ((j - i) / 2)) k=if i<=k/\k<j then gK xs (i+j - 1 - k) else gK xs k:=by
 have e:=getElem?_mirror_all (i:=i) hj k;by_cases h1:i<=k/\k<j
 ·rw [if_pos h1] at e ⊢;exact qF0 e
 ·rw [if_neg h1] at e ⊢;exact qF0 e
theorem qAS {xs:Array Keyed} {i j:Nat} (hj:j<=xs.size) (heq:∀ k,i<=k->k<j->gK xs k=gK xs (j - 1)) (k:Nat) :
  gK (mirror xs i j ((j - i) / 2)) k=gK xs k:=by
 rw [qG4 hj]
 split
 ·rw [heq _ (by omega) (by omega),heq k (by omega) (by omega)]
 ·rfl
def qU8:Bool->Keyed->Array Keyed->Nat->Nat->Nat->gSM (Option Nat):=sortPriv% PySem.Builtin.gallop
def gbey (left:Bool) (key:Keyed) (arr:Array Keyed) (base i:Nat):gSM (Option Bool):=do
 let x <- elem' arr (base+i)
 if left=true then lt' x key else do
  let r <- lt' key x
  pure (r.map fun b=>!b)
section
variable {prog:Program} {w:World} {A:Around} {E:Value->Shared->Prop} {s:Shared} {κ0:SortKind} [LtOk prog w A s κ0]
theorem qG1 {st:SortSt} {x y:Keyed} {Q:Option Bool->SortSt->Prop} (hk:kindOf st=κ0) (hx:gIK x) (hy:gIK y) (h:Q (some (decide (gkv x<gkv y))) st):wpS (model prog w) A E s (lt' x y) Q st:=by
 rw [lt'_eq];refine wpS_bind (wpS_get ?_);rw [hk];refine wpS_bind (wpS_lift (wpAny_attempt (LtOk.lt hx hy ⟨rfl,?_⟩)));exact wpS_pure h
theorem qAY {st:SortSt} {arr:Array Keyed} {i:Nat} {x:Keyed} {Q:Keyed->SortSt->Prop} (h:arr[i]?=some x) (hQ:Q x st):wpS (model prog w) A E s (elem' arr i) Q st:=by
 rw [elem'_eq,h];exact wpS_pure hQ
def qAI (left:Bool) (key:Keyed) (arr:Array Keyed) (base i:Nat):Bool:=match arr[base+i]? with
 | some x=>if left=true then decide (gkv x<gkv key) else decide (gkv x<=gkv key)
 | none=>false
theorem qG2 {st:SortSt} {left:Bool} {key:Keyed} {arr:Array Keyed} {base i:Nat} {Q:Option Bool->SortSt->Prop} (hk:kindOf st=κ0) (hkey:gIK key) (ha:∀ x ∈ arr.toList,gIK x) (hi:base+i<arr.size) (h:Q (some (qAI left key arr base i)) st) :
  wpS (model prog w) A E s (gbey left key arr base i) Q st:=by
 unfold gbey;have e:arr[base+i]?=some (arr[base+i]'hi):=C3 hi;have hx:gIK (arr[base+i]'hi):=ha _ (by simp)
 unfold qAI at h;rw [e] at h;refine wpS_bind (qAY e ?_);cases left with
 | true=>exact qG1 hk hx hkey h
 | false=>
  refine wpS_bind (qG1 hk hkey hx ?_);refine wpS_pure ?_;have:(!decide (gkv key<gkv arr[base+i]))=decide (gkv arr[base+i]<=gkv key):=by
   by_cases q:gkv key<gkv arr[base+i]
   ·rw [decide_eq_true q,decide_eq_false (by omega)];rfl
   ·rw [decide_eq_false q,decide_eq_true (by omega)];rfl
  show Q (some (!decide (gkv key<gkv arr[base+i]))) st;rw [this];exact h
theorem qEY {st:SortSt} {left:Bool} {key:Keyed} {arr:Array Keyed} {base n hint:Nat} {Q:Option Nat->SortSt->Prop} (hk:kindOf st=κ0) (hkey:gIK key) (ha:∀ x ∈ arr.toList,gIK x) (hn:base+n<=arr.size) (hh:hint<n)
  (mono:∀ i j,i<=j->j<n->qAI left key arr base j=true->qAI left key arr base i=true)
  (h:∀ k,k<=n->(∀ i,i<k->qAI left key arr base i=true)->(∀ i,k<=i->i<n->qAI left key arr base i=false)->Q (some k) st) :
  wpS (model prog w) A E s (qU8 left key arr base n hint) Q st:=by
 have mono':∀ i j,i<=j->j<n->qAI left key arr base i=false->qAI left key arr base j=false:=fun i j hij hj e=>by
  cases q:qAI left key arr base j with
  | false=>rfl
  | true=>rw [mono i j hij hj q] at e;cases e
 unfold qU8;show wpS _ _ _ _ (gbey left key arr base hint >>= _) _ _;refine wpS_bind (qG2 hk hkey ha (by omega) ?_)
 dsimp only;cases e:qAI left key arr base hint with
 | true=>
  rw [if_pos rfl];refine wpS_bind (wpS_mono (wpS_forRange (I:=fun x c st'=>st'=st/\∃ l o,c=(none,l,o)/\l<o/\x+1<=o/\hint+l<n/\qAI left key arr base (hint+l)=true)
   (Q:=fun c st'=>st'=st/\∃ l o,c=(none,l,o)/\l<o/\hint+l<n/\qAI left key arr base (hint+l)=true/\(o >= n - hint\/qAI left key arr base (hint+o)=false)) ?step ?fin ⟨rfl,0,1,rfl,by omega,by omega,by omega,e⟩) ?post)
  case fin=>
   rintro c st' ⟨rfl,l,o,rfl,h1,h2,h3,h4⟩;exact ⟨rfl,l,o,rfl,h1,h3,h4,.inl (by omega)⟩
  case step=>
   rintro x c st' _ hx ⟨rfl,l,o,rfl,h1,h2,h3,h4⟩;dsimp only;by_cases hge:o >= n - hint
   ·rw [if_pos hge];exact wpS_pure ⟨rfl,l,o,rfl,h1,h3,h4,.inl hge⟩
   ·rw [if_neg hge];show wpS _ _ _ _ (gbey left key arr base (hint+o) >>= _) _ _;refine wpS_bind (qG2 hk hkey ha (by omega) ?_)
    dsimp only;cases e2:qAI left key arr base (hint+o) with
    | false=>
     rw [if_pos (by rfl)]
     exact wpS_pure ⟨rfl,l,o,rfl,h1,h3,h4,.inr e2⟩
    | true=>
     rw [if_neg (by simp)]
     exact wpS_pure ⟨rfl,o,2 * o+1,rfl,by omega,by omega,by omega,e2⟩
  case post=>
   rintro c st' ⟨rfl,l,o,rfl,h1,h3,h4,h5⟩;dsimp only;have hl':∀ i,i<hint+l+1->qAI left key arr base i=true:=fun i hi=>mono i (hint+l) (by omega) h3 h4
   have hr':∀ i,hint+min o (n - hint)<=i->i<n->qAI left key arr base i=false:=fun i hi hin=>by
    rcases h5 with h5 | h5
    ·omega
    ·exact mono' (hint+o) i (by omega) hin h5
   refine wpS_bind (wpS_mono (wpS_forRange (I:=fun x c st''=>st''=st'/\∃ l r,c=(none,l,r)/\l<=r/\r<=n/\r - l<=n - x/\(∀ i,i<l->qAI left key arr base i=true)/\∀ i,r<=i->i<n->qAI left key arr base i=false)
    (Q:=fun c st''=>st''=st'/\∃ l,c=(none,l,l)/\l<=n/\(∀ i,i<l->qAI left key arr base i=true)/\∀ i,l<=i->i<n->qAI left key arr base i=false) ?bstep ?bfin ⟨rfl,hint+l+1,hint+min o (n - hint),rfl,by omega,by omega,by omega,hl',hr'⟩) ?bpost)
   case bfin=>
    rintro c st'' ⟨rfl,l,r,rfl,h1,h2,h3,h4,h5⟩;have:l=r:=by omega
    subst this;exact ⟨rfl,l,rfl,h2,h4,h5⟩
   case bpost=>
    rintro c st'' ⟨rfl,l,rfl,h1,h2,h3⟩;exact wpS_pure (h l h1 h2 h3)
   case bstep=>
    rintro x c st'' _ hx ⟨rfl,l,r,rfl,h1,h2,h3,h4,h5⟩;dsimp only;by_cases hge:l >= r
    ·rw [if_pos hge];have:l=r:=by omega
     subst this;exact wpS_pure ⟨rfl,l,rfl,h2,h4,h5⟩
    ·rw [if_neg hge];show wpS _ _ _ _ (gbey left key arr base (l+(r - l) / 2) >>= _) _ _;refine wpS_bind (qG2 hk hkey ha (by omega) ?_)
     dsimp only;cases e9:qAI left key arr base (l+(r - l) / 2) with
     | true=>
      rw [if_pos rfl];exact wpS_pure ⟨rfl,_,_,rfl,by omega,h2,by omega,fun i hi=>mono i _ (by omega) (by omega) e9,h5⟩
     | false=>
      rw [if_neg C6];exact wpS_pure ⟨rfl,_,_,rfl,by omega,by omega,by omega,h4,fun i hi hin=>mono' _ i hi hin e9⟩
 | false=>
  rw [if_neg C6];refine wpS_bind (wpS_mono (wpS_forRange (I:=fun x c st'=>st'=st/\∃ l o,c=(none,l,o)/\l<o/\x+1<=o/\l<=hint/\qAI left key arr base (hint - l)=false)
   (Q:=fun c st'=>st'=st/\∃ l o,c=(none,l,o)/\l<o/\l<=hint/\qAI left key arr base (hint - l)=false/\(o >= hint+1\/qAI left key arr base (hint - o)=true)) ?step ?fin ⟨rfl,0,1,rfl,by omega,by omega,by omega,e⟩) ?post)
  case fin=>
   rintro c st' ⟨rfl,l,o,rfl,h1,h2,h3,h4⟩;exact ⟨rfl,l,o,rfl,h1,h3,h4,.inl (by omega)⟩
  case step=>
   rintro x c st' _ hx ⟨rfl,l,o,rfl,h1,h2,h3,h4⟩;dsimp only;by_cases hge:o >= hint+1
   ·rw [if_pos hge];exact wpS_pure ⟨rfl,l,o,rfl,h1,h3,h4,.inl hge⟩
   ·rw [if_neg hge];show wpS _ _ _ _ (gbey left key arr base (hint - o) >>= _) _ _;refine wpS_bind (qG2 hk hkey ha (by omega) ?_)
    dsimp only;cases e2:qAI left key arr base (hint - o) with
    | true=>
     rw [if_pos rfl];exact wpS_pure ⟨rfl,l,o,rfl,h1,h3,h4,.inr e2⟩
    | false=>
     rw [if_neg C6];exact wpS_pure ⟨rfl,o,2 * o+1,rfl,by omega,by omega,by omega,e2⟩
  case post=>
   rintro c st' ⟨rfl,l,o,rfl,h1,h3,h4,h5⟩;dsimp only;have hl':∀ i,i<hint+1 - min o (hint+1)->qAI left key arr base i=true:=fun i hi=>by
    rcases h5 with h5 | h5
    ·omega
    ·exact mono i (hint - o) (by omega) (by omega) h5
   have hr':∀ i,hint - l<=i->i<n->qAI left key arr base i=false:=fun i hi hin=>mono' (hint - l) i hi hin h4;refine wpS_bind (wpS_mono (wpS_forRange (I:=fun x c st''=>st''=st'/\∃ l r,c=(none,l,r)/\l<=r/\r<=n/\r - l<=n - x/\(∀ i,i<l->qAI left key arr base i=true)/\∀ i,r<=i->i<n->qAI left key arr base i=false)
    (Q:=fun c st''=>st''=st'/\∃ l,c=(none,l,l)/\l<=n/\(∀ i,i<l->qAI left key arr base i=true)/\∀ i,l<=i->i<n->qAI left key arr base i=false) ?bstep ?bfin ⟨rfl,hint+1 - min o (hint+1),hint - l,rfl,by omega,by omega,by omega,hl',hr'⟩) ?bpost)
   case bfin=>
    rintro c st'' ⟨rfl,l,r,rfl,h1,h2,h3,h4,h5⟩;have:l=r:=by omega
    subst this;exact ⟨rfl,l,rfl,h2,h4,h5⟩
   case bpost=>
    rintro c st'' ⟨rfl,l,rfl,h1,h2,h3⟩;exact wpS_pure (h l h1 h2 h3)
   case bstep=>
    rintro x c st'' _ hx ⟨rfl,l,r,rfl,h1,h2,h3,h4,h5⟩;dsimp only;by_cases hge:l >= r
    ·rw [if_pos hge];have:l=r:=by omega
     subst this;exact wpS_pure ⟨rfl,l,rfl,h2,h4,h5⟩
    ·rw [if_neg hge];show wpS _ _ _ _ (gbey left key arr base (l+(r - l) / 2) >>= _) _ _;refine wpS_bind (qG2 hk hkey ha (by omega) ?_)
     dsimp only;cases e9:qAI left key arr base (l+(r - l) / 2) with
     | true=>
      rw [if_pos rfl];exact wpS_pure ⟨rfl,_,_,rfl,by omega,h2,by omega,fun i hi=>mono i _ (by omega) (by omega) e9,h5⟩
     | false=>
      rw [if_neg C6];exact wpS_pure ⟨rfl,_,_,rfl,by omega,by omega,by omega,h4,fun i hi hin=>mono' _ i hi hin e9⟩
end
end L2.G
namespace L2.G
open PySem PyProof.Rows
variable [NM]
structure gMR (R:Keyed->Keyed->Prop) (all out ra rb:List Keyed):Prop where
 perm:(out++(ra++rb)).Perm all
 up:out.Pairwise R
 ua:ra.Pairwise R
 ub:rb.Pairwise R
 la:∀ x ∈ out,∀ y ∈ ra,R x y
 lb:∀ x ∈ out,∀ y ∈ rb,R x y
section
variable {R:Keyed->Keyed->Prop} {all out ra rb xs:List Keyed}
theorem gMR.symm (h:gMR R all out ra rb):gMR R all out rb ra:=⟨((List.Perm.refl out).append (List.perm_append_comm)).trans h.perm,h.up,h.ub,h.ua,h.lb,h.la⟩
theorem gMR.takeA (h:gMR R all out (xs++ra) rb) (c:∀ x ∈ xs,∀ y ∈ rb,R x y):gMR R all (out++xs) ra rb:=by
 have ua:=P4.mp h.ua;refine ⟨?_,P4.mpr ⟨h.up,ua.1,fun x hx y hy=>h.la x hx y (C8.mpr (.inl hy))⟩,ua.2.1,h.ub,fun x hx y hy=>?_,fun x hx y hy=>?_⟩
 ·have e:out++xs++(ra++rb)=out++((xs++ra)++rb):=by simp [P0]
  rw [e];exact h.perm
 ·rcases C8.mp hx with hx | hx
  ·exact h.la x hx y (C8.mpr (.inr hy))
  ·exact ua.2.2 x hx y hy
 ·rcases C8.mp hx with hx | hx
  ·exact h.lb x hx y hy
  ·exact c x hx y hy
theorem gMR.takeB (h:gMR R all out ra (xs++rb)) (c:∀ x ∈ xs,∀ y ∈ ra,R x y):gMR R all (out++xs) ra rb:=(gMR.takeA h.symm c).symm
theorem gMR.allA (h:gMR R all out ra []):(out++ra).Perm all/\(out++ra).Pairwise R:=by
 have h':gMR R all out (ra++[]) []:=by rw [N9];exact h
 have q:=h'.takeA fun _ _ _ z=>nomatch z;exact ⟨by have:=q.perm;simpa using this,q.up⟩
theorem gMR.allB (h:gMR R all out [] rb):(out++rb).Perm all/\(out++rb).Pairwise R:=h.symm.allA
theorem gMR.lastA {z:Keyed} (h:gMR R all out [z] rb) (c:∀ y ∈ rb,R y z):(out++rb++[z]).Perm all/\(out++rb++[z]).Pairwise R:=by
 have h':gMR R all out [z] (rb++[]):=by rw [N9];exact h
 exact (h'.takeB fun x hx y hy=>by rw [C0.mp hy];exact c x hx).allA
end
abbrev grUp (x y:Keyed):Prop:=gkv x<=gkv y
abbrev grDn (x y:Keyed):Prop:=gkv y<=gkv x
def gRes (all r:List Keyed):Prop:=r.Perm all/\r.Pairwise grUp
def gSE (st st':SortSt):Prop:=kindOf st'=kindOf st/\arrOf st'=arrOf st/\pendingOf st'=pendingOf st/\failedOf st'=failedOf st
theorem gSE.refl (st:SortSt):gSE st st:=⟨rfl,rfl,rfl,rfl⟩
def gmLo:Array Keyed->Array Keyed->gSM (Array Keyed):=sortPriv% PySem.Builtin.mergeLo
def gmHi:Array Keyed->Array Keyed->gSM (Array Keyed):=sortPriv% PySem.Builtin.mergeHi
theorem qCV {l:List Keyed} {i:Nat} {x:Keyed} (h:l[i]?=some x):l.drop i=[x]++l.drop (i+1):=by
 obtain ⟨hi,e⟩:=B0.mp h;rw [List.drop_eq_getElem_cons hi,e]
 rfl
theorem qBP {a:Array Keyed} {i:Nat} (h:i<a.size):∃ x,a[i]?=some x/\a.toList[i]?=some x/\x ∈ a.toList:=⟨a[i],C3 h,by simp [h],by simp⟩
theorem qAN (a:Array Keyed) (i j:Nat):(a.extract i j).toList=(a.toList.drop i).take (j - i):=by simp
theorem qFH {l:List Keyed} {i k:Nat}:l.drop i=(l.drop i).take k++l.drop (i+k):=by
 rw [<- A32,V8]
theorem qE3 {left:Bool} {key:Keyed} {arr:Array Keyed} {base n:Nat} (hn:base+n<=arr.size) (u:(arr.toList.drop base).Pairwise grUp):∀ i j,i<=j->j<n->qAI left key arr base j=true->qAI left key arr base i=true:=by
 intro i j hij hj e;by_cases hij':i=j
 ·subst hij';exact e
 have hj':base+j<arr.size:=by omega
 have hi':base+i<arr.size:=by omega
 have le:gkv arr[base+i]<=gkv arr[base+j]:=by
  have:=R6.mp u i j (by simp;omega) (by simp;omega) (by omega)
  simpa using this
 unfold qAI at e ⊢;rw [C3 hj'] at e;rw [C3 hi'];cases left with
 | true=>
  have e':decide (gkv arr[base+j]<gkv key)=true:=e;show decide (gkv arr[base+i]<gkv key)=true;have:=of_decide_eq_true e';exact decide_eq_true (by omega)
 | false=>
  have e':decide (gkv arr[base+j]<=gkv key)=true:=e;show decide (gkv arr[base+i]<=gkv key)=true;have:=of_decide_eq_true e';exact decide_eq_true (by omega)
theorem qLY {key:Keyed} {arr:Array Keyed} {base n k:Nat} (hk:k<=n) (hn:base+n<=arr.size) (h:∀ i,i<k->qAI true key arr base i=true):∀ x ∈ (arr.toList.drop base).take k,gkv x<gkv key:=by
 intro x hx;obtain ⟨i,hi,rfl⟩:=Y1 hx;simp only [E5,F5,C2] at hi;have e:=h i (by omega)
 unfold qAI at e;rw [C3 (show base+i<arr.size by omega)] at e
 have e':decide (gkv arr[base+i]<gkv key)=true:=e;simpa using of_decide_eq_true e'
theorem qLZ {key:Keyed} {arr:Array Keyed} {base n k:Nat} (hk:k<=n) (hn:base+n<=arr.size) (h:∀ i,i<k->qAI false key arr base i=true):∀ x ∈ (arr.toList.drop base).take k,gkv x<=gkv key:=by
 intro x hx;obtain ⟨i,hi,rfl⟩:=Y1 hx;simp only [E5,F5,C2] at hi;have e:=h i (by omega)
 unfold qAI at e;rw [C3 (show base+i<arr.size by omega)] at e
 have e':decide (gkv arr[base+i]<=gkv key)=true:=e;simpa using of_decide_eq_true e'
theorem qJM {key:Keyed} {arr:Array Keyed} {base n k:Nat} (hn:base+n<=arr.size) (h:∀ i,k<=i->i<n->qAI true key arr base i=false):∀ x ∈ ((arr.toList.drop base).take n).drop k,gkv key<=gkv x:=by
 intro x hx;obtain ⟨i,hi,rfl⟩:=Y1 hx;simp only [E5,F5,C2] at hi;have e:=h (k+i) (by omega) (by omega)
 unfold qAI at e;rw [C3 (show base+(k+i)<arr.size by omega)] at e
 have e':decide (gkv arr[base+(k+i)]<gkv key)=false:=e;have:=of_decide_eq_false e';simp only [x0,w6,A90];omega
theorem qJL {key:Keyed} {arr:Array Keyed} {base n k:Nat} (hn:base+n<=arr.size) (h:∀ i,k<=i->i<n->qAI false key arr base i=false):∀ x ∈ ((arr.toList.drop base).take n).drop k,gkv key<gkv x:=by
 intro x hx;obtain ⟨i,hi,rfl⟩:=Y1 hx;simp only [E5,F5,C2] at hi;have e:=h (k+i) (by omega) (by omega)
 unfold qAI at e;rw [C3 (show base+(k+i)<arr.size by omega)] at e
 have e':decide (gkv arr[base+(k+i)]<=gkv key)=false:=e;have:=of_decide_eq_false e';simp only [x0,w6,A90];omega
end L2.G
namespace L2.G
open PySem PyProof.Rows
variable [NM]
theorem gifT {prog:Program} {w:World} {A:Around} {E:Value->Shared->Prop} {s:Shared} {α:Type} {c:Prop} [Decidable c] {x y:gSM α} {Q:α->SortSt->Prop} {st:SortSt} (h:c) (k:wpS (model prog w) A E s x Q st):wpS (model prog w) A E s (if c then x else y) Q st:=by rw [if_pos h];exact k
theorem gifF {prog:Program} {w:World} {A:Around} {E:Value->Shared->Prop} {s:Shared} {α:Type} {c:Prop} [Decidable c] {x y:gSM α} {Q:α->SortSt->Prop} {st:SortSt} (h:¬ c) (k:wpS (model prog w) A E s y Q st):wpS (model prog w) A E s (if c then x else y) Q st:=by rw [if_neg h];exact k
theorem gtwo {α:Type} {A:Prop} {M G:α->Prop} (h1:(∀ o,M o->G o)->A) (h2:∀ o,M o->G o):A:=h1 h2
section
variable {prog:Program} {w:World} {A:Around} {E:Value->Shared->Prop} {s:Shared} {κ0:SortKind} [LtOk prog w A s κ0]
theorem qU2 {st:SortSt} {a b:Array Keyed} {Q:Array Keyed->SortSt->Prop} (hk:kindOf st=κ0) (ka:∀ x ∈ a.toList,gIK x) (kb:∀ x ∈ b.toList,gIK x) (ua:a.toList.Pairwise grUp) (ub:b.toList.Pairwise grUp) (na:0<a.size) (nb:0<b.size)
  (first:∀ y,b.toList[0]?=some y->∀ x ∈ a.toList,gkv y<=gkv x) (last:∀ z,a.toList[a.size - 1]?=some z->∀ y ∈ b.toList,gkv y<=gkv z)
  (h:∀ r st',gSE st st'->gRes (a.toList++b.toList) r.toList->Q r st'):wpS (model prog w) A E s (gmLo a b) Q st:=by
 have tl:(a.toList++b.toList).length=a.size+b.size:=by simp
 -- ways out
 have outB:∀ (out:Array Keyed) (ia:Nat),gMR grUp (a.toList++b.toList) out.toList (a.toList.drop ia) (b.toList.drop b.size)->gRes (a.toList++b.toList) (out++a.extract ia a.size++b.extract b.size b.size).toList:=by
  intro out ia m;have e:b.toList.drop b.size=[]:=u9 (by simp)
  rw [e] at m;have q:=m.allA;have e2:(out++a.extract ia a.size++b.extract b.size b.size).toList=out.toList++a.toList.drop ia:=by
   rw [G8,G8,qAN,qAN,e,B85,N9,F7 (by simp)]
  rw [e2];exact q
 have outA:∀ (out:Array Keyed) (ib:Nat),gMR grUp (a.toList++b.toList) out.toList (a.toList.drop a.size) (b.toList.drop ib)->gRes (a.toList++b.toList) (out++a.extract a.size a.size++b.extract ib b.size).toList:=by
  intro out ib m;have e:a.toList.drop a.size=[]:=u9 (by simp)
  rw [e] at m;have q:=m.allB;have e2:(out++a.extract a.size a.size++b.extract ib b.size).toList=out.toList++b.toList.drop ib:=by
   rw [G8,G8,qAN,qAN,e,B85,N9,F7 (by simp)]
  rw [e2];exact q
 have outL:∀ (out:Array Keyed) (ia ib:Nat),ia+1=a.size->gMR grUp (a.toList++b.toList) out.toList (a.toList.drop ia) (b.toList.drop ib)->gRes (a.toList++b.toList) (out++b.extract ib b.size++a.extract ia a.size).toList:=by
  intro out ia ib hia m;obtain ⟨z,_,hz,_⟩:=qBP (a:=a) (i:=ia) (by omega)
  have e:a.toList.drop ia=[z]:=by rw [qCV hz,u9 (by simp;omega)];rfl
  rw [e] at m;have q:=m.lastA fun y hy=>last z (by rw [show a.size - 1=ia by omega];exact hz) y (M9 hy)
  have e2:(out++b.extract ib b.size++a.extract ia a.size).toList=out.toList++b.toList.drop ib++[z]:=by
   rw [G8,G8,qAN,qAN,e,F7 (by simp),F7 (by simp;omega)]
  rw [e2];exact q
 -- the first of b
 obtain ⟨y0,hy0,hy0',_⟩:=qBP (a:=b) (i:=0) nb;have m0:gMR grUp (a.toList++b.toList) #[y0].toList (a.toList.drop 0) (b.toList.drop 1):=by
  have m:gMR grUp (a.toList++b.toList) [] a.toList ([y0]++b.toList.drop 1):=by
   rw [<- qCV hy0'];exact ⟨.refl _,.nil,ua,ub,(fun _ z=>nomatch z),(fun _ z=>nomatch z)⟩
  exact m.takeB fun x hx y hy=>by rw [C0.mp hx];exact first y0 hy0' y hy
 -- a step of b,a step of a
 have stepB:∀ {out:Array Keyed} {ia ib:Nat} {y:Keyed},gMR grUp (a.toList++b.toList) out.toList (a.toList.drop ia) (b.toList.drop ib)->b.toList[ib]?=some y->(∀ x ∈ a.toList.drop ia,gkv y<=gkv x)->gMR grUp (a.toList++b.toList) (out.push y).toList (a.toList.drop ia) (b.toList.drop (ib+1)):=by
  intro out ia ib y m hy c;rw [qCV hy] at m;rw [b8];exact m.takeB fun x hx z hz=>by rw [C0.mp hx];exact c z hz
 have stepA:∀ {out:Array Keyed} {ia ib:Nat} {x:Keyed},gMR grUp (a.toList++b.toList) out.toList (a.toList.drop ia) (b.toList.drop ib)->a.toList[ia]?=some x->(∀ y ∈ b.toList.drop ib,gkv x<=gkv y)->gMR grUp (a.toList++b.toList) (out.push x).toList (a.toList.drop (ia+1)) (b.toList.drop ib):=by
  intro out ia ib x m hx c;rw [qCV hx] at m;rw [b8];exact m.takeA fun z hz y hy=>by rw [C0.mp hz];exact c y hy
 have least:∀ {l:List Keyed} {i:Nat} {x:Keyed},l.Pairwise grUp->l[i]?=some x->∀ y ∈ l.drop i,gkv x<=gkv y:=by
  intro l i x u hx y hy;have u':=u.sublist (b7 i l);rw [qCV hx] at u' hy;rcases C8.mp hy with hy | hy
  ·rw [C0.mp hy];exact O3 _
  ·exact (P4.mp u').2.2 x (by simp) y hy
 have room:∀ {out:Array Keyed} {ia ib:Nat},gMR grUp (a.toList++b.toList) out.toList (a.toList.drop ia) (b.toList.drop ib)->ia<a.size->ib<b.size->ia+ib<a.size+b.size:=fun _ _ _=>by omega
 unfold gmLo;show wpS _ _ _ _ (liftM (rule "list.sort.merge-lo") >>= _) _ _;refine wpS_bind (wpS_lift (wpAny_rule ⟨rfl,?_⟩));refine wpS_bind (qAY hy0 ?_);dsimp only;by_cases hb1:b.size=1
 ·refine gifT (by simp [hb1]) ?_
  refine wpS_pure (h _ _ (.refl st) ?_);have:=outB #[y0] 0 (by rw [hb1];exact m0)
  rw [hb1] at this ⊢;exact this
 refine gifF (by simp;omega) ?_
 by_cases ha1:a.size=1
 ·refine gifT (by simp [ha1]) ?_
  exact wpS_pure (h _ _ (.refl st) (outL #[y0] 0 1 (by omega) m0))
 refine gifF (by simp;omega) ?_
 refine wpS_bind (wpS_get ?_);refine wpS_bind (wpS_mono (wpS_forRange
  (I:=fun x c st'=>gSE st st'/\∃ (out:Array Keyed) (ia ib mg:Nat),c=(none,out,ia,ib,mg)/\gMR grUp (a.toList++b.toList) out.toList (a.toList.drop ia) (b.toList.drop ib)/\ia+1<a.size/\ib<b.size/\x+1<=ia+ib)
  (Q:=fun c st'=>gSE st st'/\∃ r rest,c=(some r,rest)/\gRes (a.toList++b.toList) r.toList) ?ostep ?ofin ⟨.refl st,_,0,1,_,rfl,m0,by omega,by omega,by omega⟩) ?opost)
 case opost=>
  rintro c st' ⟨se,r,rest,rfl,hr⟩;exact wpS_pure (h r st' se hr)
 case ofin=>
  rintro c st' ⟨se,out,ia,ib,mg,rfl,m,h1,h2,h3⟩;omega
 case ostep=>
  rintro x c st1 _ hx ⟨se,out,ia,ib,mg,rfl,m,h1,h2,h3⟩;dsimp only;refine wpS_bind (wpS_mono (wpS_forRange
   (I:=fun y c st'=>gSE st st'/\∃ (out:Array Keyed) (ia' ib' ac bc:Nat),c=(none,out,ia',ib',ac,bc)/\gMR grUp (a.toList++b.toList) out.toList (a.toList.drop ia') (b.toList.drop ib')/\ia'+1<a.size/\ib'<b.size/\ia+ib+y<=ia'+ib')
   (Q:=fun c st'=>gSE st st'/\((∃ r rest,c=(some r,rest)/\gRes (a.toList++b.toList) r.toList)\/∃ (out:Array Keyed) (ia' ib' ac bc:Nat),c=(none,out,ia',ib',ac,bc)/\gMR grUp (a.toList++b.toList) out.toList (a.toList.drop ia') (b.toList.drop ib')/\ia'+1<a.size/\ib'<b.size/\ia+ib+1<=ia'+ib')) ?istep ?ifin ⟨se,out,ia,ib,0,0,rfl,m,h1,h2,by omega⟩) ?ipost)
  case ifin=>
   rintro c st' ⟨se,out,ia',ib',ac,bc,rfl,m,g1,g2,g3⟩;omega
  case istep=>
   rintro y c st' _ hy ⟨se,out,ia',ib',ac,bc,rfl,m,g1,g2,g3⟩;dsimp only;obtain ⟨yb,e1,e1',mb⟩:=qBP (a:=b) (i:=ib') g2;obtain ⟨xa,e2,e2',ma⟩:=qBP (a:=a) (i:=ia') (by omega)
   have hk':kindOf st'=κ0:=se.1.trans hk;refine wpS_bind (qAY e1 (wpS_bind (qAY e2 (wpS_bind (qG1 hk' (kb _ mb) (ka _ ma) ?_)))));dsimp only;by_cases hw:gkv yb<gkv xa
   ·rw [decide_eq_true hw,if_pos rfl];refine wpS_bind (qAY e1 ?_);have m':=stepB m e1' fun x hx=>by have:=least ua e2' x hx;omega
    by_cases hbe:ib'+1=b.size
    ·refine gifT (by simp [hbe]) ?_
     refine wpS_pure ⟨se,.inl ⟨_,_,rfl,?_⟩⟩;rw [hbe] at m' ⊢;exact outB _ _ m'
    ·refine gifF (by simp;exact hbe) ?_
     split
     ·exact wpS_pure ⟨se,.inr ⟨_,_,_,_,_,rfl,m',g1,by omega,by omega⟩⟩
     ·exact wpS_pure ⟨se,_,_,_,_,_,rfl,m',g1,by omega,by omega⟩
   ·rw [decide_eq_false hw,if_neg C6];refine wpS_bind (qAY e2 ?_);have m':=stepA m e2' fun y hy=>by have:=least ub e1' y hy;omega
    by_cases hae:ia'+1+1=a.size
    ·refine gifT (by simp [hae]) ?_
     exact wpS_pure ⟨se,.inl ⟨_,_,rfl,outL _ _ _ hae m'⟩⟩
    ·refine gifF (by simp;exact hae) ?_
     split
     ·exact wpS_pure ⟨se,.inr ⟨_,_,_,_,_,rfl,m',by omega,g2,by omega⟩⟩
     ·exact wpS_pure ⟨se,_,_,_,_,_,rfl,m',by omega,g2,by omega⟩
  case ipost=>
   rintro c st2 ⟨se,⟨r,rest,rfl,hr⟩ | ⟨out,ia1,ib1,ac,bc,rfl,m,g1,g2,g3⟩⟩
   ·exact wpS_pure ⟨se,r,_,rfl,hr⟩
   dsimp only;refine wpS_bind (wpS_lift (wpAny_rule ⟨rfl,?_⟩));refine wpS_bind (wpS_mono (wpS_forRange
    (I:=fun y c st'=>gSE st st'/\∃ (out:Array Keyed) (ia' ib' mg ac bc:Nat),c=(none,out,ia',ib',mg,ac,bc)/\gMR grUp (a.toList++b.toList) out.toList (a.toList.drop ia') (b.toList.drop ib')/\ia'+1<a.size/\ib'<b.size/\ia1+ib1+y<=ia'+ib')
    (Q:=fun c st'=>gSE st st'/\((∃ r rest,c=(some r,rest)/\gRes (a.toList++b.toList) r.toList)\/∃ (out:Array Keyed) (ia' ib' mg ac bc:Nat),c=(none,out,ia',ib',mg,ac,bc)/\gMR grUp (a.toList++b.toList) out.toList (a.toList.drop ia') (b.toList.drop ib')/\ia'+1<a.size/\ib'<b.size/\ia1+ib1<=ia'+ib')) ?gstep ?gfin ⟨se,out,ia1,ib1,_,ac,bc,rfl,m,g1,g2,by omega⟩) ?gpost)
   case gfin=>
    rintro c st' ⟨se,out,ia',ib',mg,ac,bc,rfl,m,q1,q2,q3⟩;omega
   case gpost=>
    rintro c st3 ⟨se,⟨r,rest,rfl,hr⟩ | ⟨out,ia',ib',mg,ac,bc,rfl,m,q1,q2,q3⟩⟩
    ·exact wpS_pure ⟨se,r,_,rfl,hr⟩
    dsimp only;refine wpS_bind (wpS_modify (wpS_pure ?_));exact ⟨⟨se.1,se.2.1,se.2.2.1,se.2.2.2⟩,out,ia',ib',_,rfl,m,q1,q2,by omega⟩
   case gstep=>
    rintro y c st0 _ hy ⟨se,out,ia',ib',mg,ac,bc,rfl,m,q1,q2,q3⟩;dsimp only;obtain ⟨yb,e1,e1',mb⟩:=qBP (a:=b) (i:=ib') q2;have hm:b.toList.drop ib'=[yb]++b.toList.drop (ib'+1):=qCV e1';apply gtwo (α:=Nat) (M:=fun _=>True)
    ·intro J;by_cases hmg:mg > 1
     ·refine gifT hmg ?_;refine wpS_bind (wpS_modify ?_);generalize mg - 1=n;exact J n trivial
     ·refine gifF hmg ?_;refine wpS_bind (wpS_modify ?_);generalize mg=n;exact J n trivial
    ·intro n _;have se':gSE st st0:=se;refine wpS_bind (qAY e1 ?_);refine wpS_bind (qEY (left:=false) (n:=a.size - ia') (hint:=0) (se.1.trans hk) (kb _ mb) ka (by omega) (by omega) (qE3 (by omega) (ua.sublist (b7 _ _))) fun k k1 k2 k3=>?_)
     dsimp only;have gt1:∀ x ∈ a.toList.drop (ia'+k),gkv yb<=gkv x:=fun x hx=>by
      have q:=qJL (base:=ia') (n:=a.size - ia') (by omega) k3 x
      rw [F7 (by simp),A32] at q
      exact A75 (q hx)
     apply gtwo (α:=Array Keyed) (M:=fun o=>gMR grUp (a.toList++b.toList) o.toList (a.toList.drop (ia'+k)) (b.toList.drop ib')/\ia'+k+1<a.size)
     ·intro J;by_cases k0:k > 0
      ·refine gifT k0 ?_;have mk:gMR grUp (a.toList++b.toList) (out++a.extract ia' (ia'+k)).toList (a.toList.drop (ia'+k)) (b.toList.drop ib'):=by
        rw [G8,qAN,show ia'+k - ia'=k by omega]
        rw [qFH (l:=a.toList) (i:=ia') (k:=k)] at m;exact m.takeA fun x hx z hz=>by
         have q1:=qLZ k1 (by omega) k2 x hx
         have q2:=least ub e1' z hz;show gkv x<=gkv z;omega
       by_cases c1:ia'+k+1=a.size
       ·refine gifT (by simp [c1]) ?_
        exact wpS_pure ⟨se',.inl ⟨_,_,rfl,outL _ _ _ c1 mk⟩⟩
       refine gifF (by simp;exact c1) ?_
       by_cases c2:ia'+k=a.size
       ·refine gifT (by simp [c2]) ?_
        refine wpS_pure ⟨se',.inl ⟨_,_,rfl,?_⟩⟩;rw [c2] at mk ⊢;exact outA _ _ mk
       refine gifF (by simp;exact c2) ?_
       generalize out++a.extract ia' (ia'+k)=o at mk ⊢;exact J o ⟨mk,by omega⟩
      ·refine gifF k0 ?_;have k00:k=0:=by omega
       subst k00;exact J out ⟨m,by omega⟩
     ·rintro o ⟨mk,kp⟩;refine wpS_bind (qAY e1 ?_);have m1:=stepB mk e1' gt1;by_cases hbe:ib'+1=b.size
      ·refine gifT (by simp [hbe]) ?_
       refine wpS_pure ⟨se',.inl ⟨_,_,rfl,?_⟩⟩;rw [hbe] at m1 ⊢;exact outB _ _ m1
      refine gifF (by simp;exact hbe) ?_
      obtain ⟨xa,e2,e2',ma⟩:=qBP (a:=a) (i:=ia'+k) (by omega)
      refine wpS_bind (qAY e2 ?_);refine wpS_bind (qEY (left:=true) (n:=b.size - (ib'+1)) (hint:=0) (se.1.trans hk) (ka _ ma) kb (by omega) (by omega) (qE3 (by omega) (ub.sublist (b7 _ _))) fun k' j1 j2 j3=>?_)
      dsimp only;have ge2:∀ y ∈ b.toList.drop (ib'+1+k'),gkv xa<=gkv y:=fun y hy=>by
       have q:=qJM (base:=ib'+1) (n:=b.size - (ib'+1)) (by omega) j3 y
       rw [F7 (by simp),A32] at q
       exact q hy
      generalize o.push yb=o1 at m1 ⊢;apply gtwo (α:=Array Keyed) (M:=fun o=>gMR grUp (a.toList++b.toList) o.toList (a.toList.drop (ia'+k)) (b.toList.drop (ib'+1+k'))/\ib'+1+k'<b.size)
      ·intro J;by_cases k0':k' > 0
       ·rw [if_pos k0'];have m2:gMR grUp (a.toList++b.toList) (o1++b.extract (ib'+1) (ib'+1+k')).toList (a.toList.drop (ia'+k)) (b.toList.drop (ib'+1+k')):=by
         rw [G8,qAN,show ib'+1+k' - (ib'+1)=k' by omega]
         rw [qFH (l:=b.toList) (i:=ib'+1) (k:=k')] at m1;exact m1.takeB fun x hx z hz=>by
          have q1:=qLY j1 (by omega) j2 x hx
          have q2:=least ua e2' z hz;show gkv x<=gkv z;omega
        by_cases hb2:ib'+1+k'=b.size
        ·refine gifT (by simp [hb2]) ?_
         refine wpS_pure ⟨se',.inl ⟨_,_,rfl,?_⟩⟩;rw [hb2] at m2 ⊢;exact outB _ _ m2
        refine gifF (by simp;exact hb2) ?_
        generalize o1++b.extract (ib'+1) (ib'+1+k')=o2 at m2 ⊢;exact J o2 ⟨m2,by omega⟩
       ·rw [if_neg k0'];have k0'':k'=0:=by omega
        subst k0'';exact J o1 ⟨m1,by omega⟩
      ·rintro o2 ⟨m2,kp'⟩;refine wpS_bind (qAY e2 ?_);have m3:=stepA m2 e2' ge2;by_cases hae:ia'+k+1+1=a.size
       ·refine gifT (by simp [hae]) ?_
        exact wpS_pure ⟨se',.inl ⟨_,_,rfl,outL _ _ _ hae m3⟩⟩
       refine gifF (by simp;exact hae) ?_
       split
       ·exact wpS_pure ⟨se',.inr ⟨_,_,_,_,_,_,rfl,m3,by omega,by omega,by omega⟩⟩
       ·exact wpS_pure ⟨se',_,_,_,_,_,_,rfl,m3,by omega,by omega,by omega⟩
end
end L2.G
namespace L2.G
open PySem PyProof.Rows
variable [NM]
theorem qD0 {l:List Keyed} {i:Nat} {x:Keyed} (h0:0<i) (h:l[i - 1]?=some x):(l.take i).reverse=[x]++(l.take (i - 1)).reverse:=by
 obtain ⟨j,rfl⟩:∃ j,i=j+1:=⟨i - 1,by omega⟩
 have h':l[j]?=some x:=h;rw [E6,h',F4,d7]
 rfl
theorem qII {l:List Keyed} {i j:Nat} (h:i<=j):(l.take j).reverse=((l.drop i).take (j - i)).reverse++(l.take i).reverse:=by
 rw [<- d7];congr 1;have e:=B86 (l:=l) (i:=i) (j:=j - i);rw [show i+(j - i)=j by omega] at e
 exact e
section
variable {prog:Program} {w:World} {A:Around} {E:Value->Shared->Prop} {s:Shared} {κ0:SortKind} [LtOk prog w A s κ0]
theorem qU3 {st:SortSt} {a b:Array Keyed} {Q:Array Keyed->SortSt->Prop} (hk:kindOf st=κ0) (ka:∀ x ∈ a.toList,gIK x) (kb:∀ x ∈ b.toList,gIK x) (ua:a.toList.Pairwise grUp) (ub:b.toList.Pairwise grUp) (na:0<a.size) (nb:0<b.size)
  (first:∀ y,b.toList[0]?=some y->∀ x ∈ a.toList,gkv y<=gkv x) (last:∀ z,a.toList[a.size - 1]?=some z->∀ y ∈ b.toList,gkv y<=gkv z)
  (h:∀ r st',gSE st st'->gRes (a.toList++b.toList) r.toList->Q r st'):wpS (model prog w) A E s (gmHi a b) Q st:=by
 have back:∀ {l:List Keyed},l.Perm (a.toList++b.toList)/\l.Pairwise grDn->gRes (a.toList++b.toList) l.reverse:=fun {l} q=>⟨(x4 l).trans q.1,j9.mpr q.2⟩;have outA:∀ (out:Array Keyed) (nb':Nat),gMR grDn (a.toList++b.toList) out.toList (a.toList.take 0).reverse (b.toList.take nb').reverse->gRes (a.toList++b.toList) (a.extract 0 0++b.extract 0 nb'++out.reverse).toList:=by
  intro out nb' m;have q:=back (gMR.allB m);have e2:(a.extract 0 0++b.extract 0 nb'++out.reverse).toList=(out.toList++(b.toList.take nb').reverse).reverse:=by
   rw [G8,G8,qAN,qAN,Z4,d7,A02];simp
  rw [e2];exact q
 have outB:∀ (out:Array Keyed) (na':Nat),gMR grDn (a.toList++b.toList) out.toList (a.toList.take na').reverse (b.toList.take 0).reverse->gRes (a.toList++b.toList) (a.extract 0 na'++b.extract 0 0++out.reverse).toList:=by
  intro out na' m;have q:=back (gMR.allA m);have e2:(a.extract 0 na'++b.extract 0 0++out.reverse).toList=(out.toList++(a.toList.take na').reverse).reverse:=by
   rw [G8,G8,qAN,qAN,Z4,d7,A02];simp
  rw [e2];exact q
 obtain ⟨y0,hy0,hy0',_⟩:=qBP (a:=b) (i:=0) nb;have outF:∀ (out:Array Keyed) (na':Nat),gMR grDn (a.toList++b.toList) out.toList (a.toList.take na').reverse (b.toList.take 1).reverse->gRes (a.toList++b.toList) (b.extract 0 1++a.extract 0 na'++out.reverse).toList:=by
  intro out na' m;have e:(b.toList.take 1).reverse=[y0]:=by rw [qD0 (by decide) hy0'];simp
  rw [e] at m;have q:=back (m.symm.lastA fun y hy=>first y0 hy0' y (T9 (R8.mp hy)));have e1:b.toList.take 1=[y0]:=by have:=congrArg List.reverse e;simpa using this
  have e2:(b.extract 0 1++a.extract 0 na'++out.reverse).toList=(out.toList++(a.toList.take na').reverse++[y0]).reverse:=by
   rw [G8,G8,qAN,qAN,Z4];simp only [y4,B40,e1];simp
  rw [e2];exact q
 obtain ⟨z0,hz0,hz0',_⟩:=qBP (a:=a) (i:=a.size - 1) (by omega)
 have m0:gMR grDn (a.toList++b.toList) #[z0].toList (a.toList.take (a.size - 1)).reverse (b.toList.take b.size).reverse:=by
  have m:gMR grDn (a.toList++b.toList) [] ([z0]++(a.toList.take (a.size - 1)).reverse) (b.toList.take b.size).reverse:=by
   rw [<- qD0 na hz0',F7 (by simp),F7 (by simp)]
   refine ⟨?_,.nil,j9.mpr ua,j9.mpr ub,(fun _ z=>nomatch z),(fun _ z=>nomatch z)⟩;exact (x4 _).append (x4 _)
  exact m.takeA fun x hx y hy=>by rw [C0.mp hx];exact last z0 hz0' y (T9 (R8.mp hy))
 have stepB:∀ {out:Array Keyed} {na' nb':Nat} {y:Keyed},gMR grDn (a.toList++b.toList) out.toList (a.toList.take na').reverse (b.toList.take nb').reverse->0<nb'->b.toList[nb' - 1]?=some y->(∀ x ∈ (a.toList.take na').reverse,gkv x<=gkv y)->gMR grDn (a.toList++b.toList) (out.push y).toList (a.toList.take na').reverse (b.toList.take (nb' - 1)).reverse:=by
  intro out na' nb' y m h0 hy c;rw [qD0 h0 hy] at m;rw [b8];exact m.takeB fun x hx z hz=>by rw [C0.mp hx];exact c z hz
 have stepA:∀ {out:Array Keyed} {na' nb':Nat} {x:Keyed},gMR grDn (a.toList++b.toList) out.toList (a.toList.take na').reverse (b.toList.take nb').reverse->0<na'->a.toList[na' - 1]?=some x->(∀ y ∈ (b.toList.take nb').reverse,gkv y<=gkv x)->gMR grDn (a.toList++b.toList) (out.push x).toList (a.toList.take (na' - 1)).reverse (b.toList.take nb').reverse:=by
  intro out na' nb' x m h0 hx c;rw [qD0 h0 hx] at m;rw [b8];exact m.takeA fun z hz y hy=>by rw [C0.mp hz];exact c y hy
 have most:∀ {l:List Keyed} {i:Nat} {x:Keyed},l.Pairwise grUp->0<i->l[i - 1]?=some x->∀ y ∈ (l.take i).reverse,gkv y<=gkv x:=by
  intro l i x u h0 hx y hy;have u':((l.take i).reverse).Pairwise grDn:=j9.mpr (u.sublist (Z7 i l));rw [qD0 h0 hx] at u' hy;rcases C8.mp hy with hy | hy
  ·rw [C0.mp hy];exact O3 _
  ·exact (P4.mp u').2.2 x (by simp) y hy
 unfold gmHi;show wpS _ _ _ _ (liftM (rule "list.sort.merge-hi") >>= _) _ _;refine wpS_bind (wpS_lift (wpAny_rule ⟨rfl,?_⟩));refine wpS_bind (qAY hz0 ?_);dsimp only;by_cases ha1:a.size - 1=0
 ·refine gifT (by simp [ha1]) ?_
  refine wpS_pure (h _ _ (.refl st) ?_);rw [ha1] at m0 ⊢;exact outA _ _ m0
 refine gifF (by simp;omega) ?_
 by_cases hb1:b.size=1
 ·refine gifT (by simp [hb1]) ?_
  refine wpS_pure (h _ _ (.refl st) ?_);rw [hb1] at m0 ⊢;exact outF _ _ m0
 refine gifF (by simp;omega) ?_
 refine wpS_bind (wpS_get ?_);refine wpS_bind (wpS_mono (wpS_forRange
  (I:=fun x c st'=>gSE st st'/\∃ (na' nb':Nat) (out:Array Keyed) (mg:Nat),c=(none,na',nb',out,mg)/\gMR grDn (a.toList++b.toList) out.toList (a.toList.take na').reverse (b.toList.take nb').reverse/\(0<na'/\na'<=a.size)/\(1<nb'/\nb'<=b.size)/\na'+nb'+x+1<=a.size+b.size)
  (Q:=fun c st'=>gSE st st'/\∃ r rest,c=(some r,rest)/\gRes (a.toList++b.toList) r.toList) ?ostep ?ofin ⟨.refl st,_,_,_,_,rfl,m0,by omega,by omega,by omega⟩) ?opost)
 case opost=>
  rintro c st' ⟨se,r,rest,rfl,hr⟩;exact wpS_pure (h r st' se hr)
 case ofin=>
  rintro c st' ⟨se,na',nb',out,mg,rfl,m,h1,h2,h3⟩;omega
 case ostep=>
  rintro x c st1 _ hx ⟨se,na1,nb1,out,mg,rfl,m,h1,h2,h3⟩;dsimp only;refine wpS_bind (wpS_mono (wpS_forRange
   (I:=fun y c st'=>gSE st st'/\∃ (na' nb':Nat) (out:Array Keyed) (ac bc:Nat),c=(none,na',nb',out,ac,bc)/\gMR grDn (a.toList++b.toList) out.toList (a.toList.take na').reverse (b.toList.take nb').reverse/\(0<na'/\na'<=a.size)/\(1<nb'/\nb'<=b.size)/\na'+nb'+y<=na1+nb1)
   (Q:=fun c st'=>gSE st st'/\((∃ r rest,c=(some r,rest)/\gRes (a.toList++b.toList) r.toList)\/∃ (na' nb':Nat) (out:Array Keyed) (ac bc:Nat),c=(none,na',nb',out,ac,bc)/\gMR grDn (a.toList++b.toList) out.toList (a.toList.take na').reverse (b.toList.take nb').reverse/\(0<na'/\na'<=a.size)/\(1<nb'/\nb'<=b.size)/\na'+nb'+1<=na1+nb1)) ?istep ?ifin ⟨se,na1,nb1,out,0,0,rfl,m,h1,h2,by omega⟩) ?ipost)
  case ifin=>
   rintro c st' ⟨se,na',nb',out,ac,bc,rfl,m,g1,g2,g3⟩;omega
  case istep=>
   rintro y c st' _ hy ⟨se,na',nb',out,ac,bc,rfl,m,g1,g2,g3⟩;dsimp only;obtain ⟨yb,e1,e1',mb⟩:=qBP (a:=b) (i:=nb' - 1) (by omega)
   obtain ⟨xa,e2,e2',ma⟩:=qBP (a:=a) (i:=na' - 1) (by omega)
   have hk':kindOf st'=κ0:=se.1.trans hk;refine wpS_bind (qAY e1 (wpS_bind (qAY e2 (wpS_bind (qG1 hk' (kb _ mb) (ka _ ma) ?_)))));dsimp only;by_cases hw:gkv yb<gkv xa
   ·rw [decide_eq_true hw,if_pos rfl];refine wpS_bind (qAY e2 ?_);have m':=stepA m (by omega) e2' fun z hz=>by have:=most ub (by omega) e1' z hz;omega
    by_cases hae:na' - 1=0
    ·refine gifT (by simp [hae]) ?_
     refine wpS_pure ⟨se,.inl ⟨_,_,rfl,?_⟩⟩;rw [hae] at m' ⊢;exact outA _ _ m'
    ·refine gifF (by simp;omega) ?_
     split
     ·exact wpS_pure ⟨se,.inr ⟨_,_,_,_,_,rfl,m',by omega,by omega,by omega⟩⟩
     ·exact wpS_pure ⟨se,_,_,_,_,_,rfl,m',by omega,by omega,by omega⟩
   ·rw [decide_eq_false hw,if_neg C6];refine wpS_bind (qAY e1 ?_);have m':=stepB m (by omega) e1' fun z hz=>by have:=most ua (by omega) e2' z hz;omega
    by_cases hbe:nb' - 1=1
    ·refine gifT (by simp [hbe]) ?_
     refine wpS_pure ⟨se,.inl ⟨_,_,rfl,?_⟩⟩;rw [hbe] at m' ⊢;exact outF _ _ m'
    ·refine gifF (by simp;omega) ?_
     split
     ·exact wpS_pure ⟨se,.inr ⟨_,_,_,_,_,rfl,m',by omega,by omega,by omega⟩⟩
     ·exact wpS_pure ⟨se,_,_,_,_,_,rfl,m',by omega,by omega,by omega⟩
  case ipost=>
   rintro c st2 ⟨se,⟨r,rest,rfl,hr⟩ | ⟨na2,nb2,out,ac,bc,rfl,m,g1,g2,g3⟩⟩
   ·exact wpS_pure ⟨se,r,_,rfl,hr⟩
   dsimp only;refine wpS_bind (wpS_lift (wpAny_rule ⟨rfl,?_⟩));refine wpS_bind (wpS_mono (wpS_forRange
    (I:=fun y c st'=>gSE st st'/\∃ (na' nb':Nat) (out:Array Keyed) (mg ac bc:Nat),c=(none,na',nb',out,mg,ac,bc)/\gMR grDn (a.toList++b.toList) out.toList (a.toList.take na').reverse (b.toList.take nb').reverse/\(0<na'/\na'<=a.size)/\(1<nb'/\nb'<=b.size)/\na'+nb'+y<=na2+nb2)
    (Q:=fun c st'=>gSE st st'/\((∃ r rest,c=(some r,rest)/\gRes (a.toList++b.toList) r.toList)\/∃ (na' nb':Nat) (out:Array Keyed) (mg ac bc:Nat),c=(none,na',nb',out,mg,ac,bc)/\gMR grDn (a.toList++b.toList) out.toList (a.toList.take na').reverse (b.toList.take nb').reverse/\(0<na'/\na'<=a.size)/\(1<nb'/\nb'<=b.size)/\na'+nb'<=na2+nb2)) ?gstep ?gfin ⟨se,na2,nb2,out,_,ac,bc,rfl,m,g1,g2,by omega⟩) ?gpost)
   case gfin=>
    rintro c st' ⟨se,na',nb',out,mg,ac,bc,rfl,m,q1,q2,q3⟩;omega
   case gpost=>
    rintro c st3 ⟨se,⟨r,rest,rfl,hr⟩ | ⟨na',nb',out,mg,ac,bc,rfl,m,q1,q2,q3⟩⟩
    ·exact wpS_pure ⟨se,r,_,rfl,hr⟩
    dsimp only;refine wpS_bind (wpS_modify (wpS_pure ?_));exact ⟨⟨se.1,se.2.1,se.2.2.1,se.2.2.2⟩,na',nb',out,_,rfl,m,q1,q2,by omega⟩
   case gstep=>
    rintro y c st0 _ hy ⟨se,na',nb',out,mg,ac,bc,rfl,m,q1,q2,q3⟩;dsimp only;obtain ⟨yb,e1,e1',mb⟩:=qBP (a:=b) (i:=nb' - 1) (by omega)
    apply gtwo (α:=Nat) (M:=fun _=>True)
    ·intro J;by_cases hmg:mg > 1
     ·refine gifT hmg ?_;refine wpS_bind (wpS_modify ?_);generalize mg - 1=n;exact J n trivial
     ·refine gifF hmg ?_;refine wpS_bind (wpS_modify ?_);generalize mg=n;exact J n trivial
    ·intro n _;have se':gSE st st0:=se;refine wpS_bind (qAY e1 ?_);refine wpS_bind (qEY (left:=false) (base:=0) (n:=na') (hint:=na' - 1) (se.1.trans hk) (kb _ mb) ka (by omega) (by omega) (qE3 (by omega) ua) fun k k1 k2 k3=>?_)
     dsimp only;have le1:∀ x ∈ (a.toList.take k).reverse,gkv x<=gkv yb:=fun x hx=>qLZ (base:=0) k1 (by omega) k2 x (by simpa using hx)
     apply gtwo (α:=Array Keyed) (M:=fun o=>gMR grDn (a.toList++b.toList) o.toList (a.toList.take k).reverse (b.toList.take nb').reverse/\0<k)
     ·intro J;by_cases k0:na' - k > 0
      ·refine gifT k0 ?_;have mk:gMR grDn (a.toList++b.toList) (out++(a.extract k na').reverse).toList (a.toList.take k).reverse (b.toList.take nb').reverse:=by
        rw [G8,Z4,qAN];rw [qII (l:=a.toList) (i:=k) (j:=na') (by omega)] at m
        exact m.takeA fun x hx z hz=>by
         have q1:=qJL (base:=0) (n:=na') (by omega) k3 x (by rw [y4,B73];exact R8.mp hx)
         have q2:=most ub (by omega) e1' z hz
         show gkv z<=gkv x;omega
       by_cases c1:k=0
       ·refine gifT (by simp [c1]) ?_
        refine wpS_pure ⟨se',.inl ⟨_,_,rfl,?_⟩⟩;subst c1;exact outA _ _ mk
       refine gifF (by simp;exact c1) ?_
       generalize out++(a.extract k na').reverse=o at mk ⊢;exact J o ⟨mk,by omega⟩
      ·refine gifF k0 ?_;have k00:k=na':=by omega
       subst k00;exact J out ⟨m,by omega⟩
     ·rintro o ⟨mk,kp⟩;refine wpS_bind (qAY e1 ?_);have m1:=stepB mk (by omega) e1' le1
      by_cases hbe:nb' - 1=1
      ·refine gifT (by simp [hbe]) ?_
       refine wpS_pure ⟨se',.inl ⟨_,_,rfl,?_⟩⟩;rw [hbe] at m1 ⊢;exact outF _ _ m1
      refine gifF (by simp;omega) ?_
      obtain ⟨xa,e2,e2',ma⟩:=qBP (a:=a) (i:=k - 1) (by omega)
      refine wpS_bind (qAY e2 ?_);refine wpS_bind (qEY (left:=true) (base:=0) (n:=nb' - 1) (hint:=nb' - 1 - 1) (se.1.trans hk) (ka _ ma) kb (by omega) (by omega) (qE3 (by omega) ub) fun k' j1 j2 j3=>?_)
      dsimp only;have lt2:∀ y ∈ (b.toList.take k').reverse,gkv y<=gkv xa:=fun y hy=>by
       have q:=qLY (base:=0) j1 (by omega) j2 y (by simpa using hy)
       omega
      generalize o.push yb=o1 at m1 ⊢;apply gtwo (α:=Array Keyed) (M:=fun o=>gMR grDn (a.toList++b.toList) o.toList (a.toList.take k).reverse (b.toList.take k').reverse/\1<k')
      ·intro J;by_cases k0':nb' - 1 - k' > 0
       ·rw [if_pos k0'];have m2:gMR grDn (a.toList++b.toList) (o1++(b.extract k' (nb' - 1)).reverse).toList (a.toList.take (k)).reverse (b.toList.take k').reverse:=by
         rw [G8,Z4,qAN];rw [qII (l:=b.toList) (i:=k') (j:=nb' - 1) (by omega)] at m1
         exact m1.takeB fun x hx z hz=>by
          have q1:=qJM (base:=0) (n:=nb' - 1) (by omega) j3 x (by rw [y4,B73];exact R8.mp hx)
          have q2:=most ua (by omega) e2' z hz
          show gkv z<=gkv x;omega
        by_cases hb1':k'=1
        ·refine gifT (by simp [hb1']) ?_
         refine wpS_pure ⟨se',.inl ⟨_,_,rfl,?_⟩⟩;subst hb1';exact outF _ _ m2
        refine gifF (by simp;exact hb1') ?_
        by_cases hb0':k'=0
        ·refine gifT (by simp [hb0']) ?_
         refine wpS_pure ⟨se',.inl ⟨_,_,rfl,?_⟩⟩;subst hb0';exact outB _ _ m2
        refine gifF (by simp;exact hb0') ?_
        generalize o1++(b.extract k' (nb' - 1)).reverse=o2 at m2 ⊢;exact J o2 ⟨m2,by omega⟩
       ·rw [if_neg k0'];have k0'':k'=nb' - 1:=by omega
        subst k0'';exact J o1 ⟨m1,by omega⟩
      ·rintro o2 ⟨m2,kp'⟩;refine wpS_bind (qAY e2 ?_);have m3:=stepA m2 (by omega) e2' lt2
       by_cases hae:k - 1=0
       ·refine gifT (by simp [hae]) ?_
        refine wpS_pure ⟨se',.inl ⟨_,_,rfl,?_⟩⟩;rw [hae] at m3 ⊢;exact outA _ _ m3
       refine gifF (by simp;omega) ?_
       split
       ·exact wpS_pure ⟨se',.inr ⟨_,_,_,_,_,_,rfl,m3,by omega,by omega,by omega⟩⟩
       ·exact wpS_pure ⟨se',_,_,_,_,_,_,rfl,m3,by omega,by omega,by omega⟩
end
end L2.G
namespace L2.G
open PySem PyProof.Rows
variable [NM]
theorem qLX (b:Nat):∀ (r:List Keyed) (k:Nat) (xs:Array Keyed),b+k+r.length<=xs.size->((r.zipIdx k).foldl (fun a (p:Keyed × Nat)=>a.setIfInBounds (b+p.2) p.1) xs).toList=xs.toList.take (b+k)++r++xs.toList.drop (b+k+r.length)
 | [],k,xs,_=>by simp
 | p::r,k,xs,h=>by
  have hl:b+k<xs.toList.length:=by simp at h ⊢;omega
  rw [List.zipIdx_cons,X8,qLX b r (k+1) _ (by simp at h ⊢;omega)]
  simp only [A25,E3];have e1:(xs.toList.set (b+k) p).take (b+(k+1))=xs.toList.take (b+k)++[p]:=by
   rw [<- A51,E6,List.take_set_of_le (C1 _),u8 hl]
   rfl
  have e2:(xs.toList.set (b+k) p).drop (b+(k+1)+r.length)=xs.toList.drop (b+k+(r.length+1)):=by
   rw [List.drop_set_of_lt (by omega)]
   congr 1;omega
  rw [e1,e2];simp
def gSeg (xs:Array Keyed) (lo hi:Nat):Prop:=∀ i j,lo<=i->i<=j->j<hi->gK xs i<=gK xs j
theorem qRZ {xs:Array Keyed} {i:Nat} (h:i<xs.size):gK xs i=gkv (xs[i]'h):=qWR h
theorem qIK {xs:Array Keyed} {i:Nat} {x:Keyed} (h:xs[i]?=some x):gK xs i=gkv x:=by
 unfold gK;rw [h]
 rfl
theorem qG3 {left:Bool} {key:Keyed} {arr:Array Keyed} {base i:Nat} (h:base+i<arr.size):qAI left key arr base i=if left=true then decide (gK arr (base+i)<gkv key) else decide (gK arr (base+i)<=gkv key):=by
 unfold qAI;rw [C3 h,qRZ h]
theorem qH6 {left:Bool} {key:Keyed} {arr:Array Keyed} {base n:Nat} (hn:base+n<=arr.size) (u:gSeg arr base (base+n)):∀ i j,i<=j->j<n->qAI left key arr base j=true->qAI left key arr base i=true:=by
 intro i j hij hj e;have le:=u (base+i) (base+j) (by omega) (by omega) (by omega)
 rw [qG3 (by omega)] at e ⊢
 cases left with
 | true=>
  have:=of_decide_eq_true e;exact decide_eq_true (by omega)
 | false=>
  have:=of_decide_eq_true e;exact decide_eq_true (by omega)
theorem qLU {xs:Array Keyed} {lo hi:Nat} (h:hi<=xs.size) (u:gSeg xs lo hi):(xs.extract lo hi).toList.Pairwise grUp:=by
 rw [R6];intro i j hi' hj' hij;have e:(xs.extract lo hi).size=hi - lo:=by simp;omega
 have hi2:i<hi - lo:=by simp at hi';omega
 have hj2:j<hi - lo:=by simp at hj';omega
 have:=u (lo+i) (lo+j) (by omega) (by omega) (by omega)
 rw [qRZ (by omega),qRZ (by omega)] at this
 simpa using this
theorem qEZ {xs:Array Keyed} {lo hi:Nat} {x:Keyed} (m:x ∈ (xs.extract lo hi).toList):∃ j,lo<=j/\j<hi/\j<xs.size/\gK xs j=gkv x:=by
 obtain ⟨i,hi',e⟩:=Y1 m;have h2:i<hi - lo/\i<xs.size - lo:=by simp at hi';omega
 refine ⟨lo+i,by omega,by omega,by omega,?_⟩
 rw [qRZ (by omega),<- e]
 simp
theorem qRY {xs:Array Keyed} {lo hi i:Nat} {x:Keyed} (m:(xs.extract lo hi).toList[i]?=some x):gK xs (lo+i)=gkv x:=by
 obtain ⟨hi',e⟩:=B0.mp m;have h2:i<hi - lo/\i<xs.size - lo:=by simp at hi';omega
 rw [qRZ (by omega),<- e]
 simp
theorem qYM {xs ys:Array Keyed} {b:Nat} {r:List Keyed} (e:ys.toList=xs.toList.take b++r++xs.toList.drop (b+r.length)) (hb:b+r.length<=xs.size) (j:Nat) :
  (j<b\/b+r.length<=j->gK ys j=gK xs j)/\(b<=j->j<b+r.length->∃ x,r[j - b]?=some x/\gK ys j=gkv x):=by
 have lt:(xs.toList.take b).length=b:=by simp;omega
 constructor
 ·intro hj;apply qF0;rw [<- F2,<- F2,e,P0];rcases hj with hj | hj
  ·rw [F6 (by omega),Z6 hj]
  ·rw [E8 (by omega),lt,E8 (by omega),t5]
   congr 1;omega
 ·intro h1 h2;refine ⟨r[j - b]'(by omega),B9 _,qIK ?_⟩
  rw [<- F2,e,P0,E8 (by omega),lt,F6 (by omega)]
  exact B9 _
section
variable {prog:Program} {w:World} {A:Around} {E:Value->Shared->Prop} {s:Shared} {κ0:SortKind} [LtOk prog w A s κ0]
theorem qU1 {st st':SortSt} {Q:PUnit->SortSt->Prop} (h:Q ⟨⟩ st'):wpS (model prog w) A E s (set st':StateT SortSt Sem PUnit) Q st:=by
 unfold wpS;rw [StateT.run_set];exact wpAny_pure ⟨rfl,h⟩
structure gSG (κ0:SortKind) (a₀:Array Keyed) (st:SortSt):Prop where
 perm:(arrOf st).Perm a₀
 kind:kindOf st=κ0
 failed:failedOf st=none
theorem gSG.size {a₀:Array Keyed} {st:SortSt} (h:gSG κ0 a₀ st):(arrOf st).size=a₀.size:=h.perm.size_eq
theorem gSG.ik {a₀:Array Keyed} {st:SortSt} (h:gSG κ0 a₀ st) (h0:qBV a₀):∀ x ∈ (arrOf st).toList,gIK x:=fun x hx=>h0 x ((l8.mp h.perm).mem_iff.mp hx)
theorem qU4 {a₀:Array Keyed} {st:SortSt} {i sa na p nb q:Nat} {pre post:List (Nat × Nat × Nat)} {Q:Bool->SortSt->Prop} (h0:qBV a₀) (g:gSG κ0 a₀ st)
  (hp:(pendingOf st).toList=pre++(sa,na,p)::(sa+na,nb,q)::post) (hi:i=pre.length) (hna:0<na) (hnb:0<nb) (hsz:sa+na+nb<=a₀.size)
  (ua:gSeg (arrOf st) sa (sa+na)) (ub:gSeg (arrOf st) (sa+na) (sa+na+nb))
  (h:∀ st',gSG κ0 a₀ st'->(pendingOf st').toList=pre++(sa,na+nb,p)::post->gSeg (arrOf st') sa (sa+na+nb)->(∀ k,k<sa\/sa+na+nb<=k->gK (arrOf st') k=gK (arrOf st) k)->Q true st') :
  wpS (model prog w) A E s (mergeAt' i) Q st:=by
 have p1:(pendingOf st)[i]?=some (sa,na,p):=by
  rw [<- F2,hp,hi,E8 (C1 _),W4]
  rfl
 have p2:(pendingOf st)[i+1]?=some (sa+na,nb,q):=by
  rw [<- F2,hp,hi,E8 (by omega),show pre.length+1 - pre.length=1 by omega]
  rfl
 have p3:(((pendingOf st).setIfInBounds i (sa,na+nb,p)).eraseIdxIfInBounds (i+1)).toList=pre++(sa,na+nb,p)::post:=by
  rw [Array.toList_eraseIdxIfInBounds,A25,hp,hi];rw [List.set_append_right _ _ (C1 _),W4,List.eraseIdx_append_of_length_le (by omega),show pre.length+1 - pre.length=1 by omega]
  rfl
 have size:=g.size;have ik:=g.ik h0;unfold mergeAt';refine wpS_bind (wpS_get ?_);dsimp only;rw [p1,p2];dsimp only;obtain ⟨kb,ekb,_,mkb⟩:=qBP (a:=arrOf st) (i:=sa+na) (by omega)
 have kkb:gK (arrOf st) (sa+na)=gkv kb:=qIK ekb;refine wpS_bind (qU1 (wpS_bind (qAY ekb ?_)));have g1:gSG κ0 a₀ (setPending st (((pendingOf st).setIfInBounds i (sa,na+nb,p)).eraseIdxIfInBounds (i+1))):=⟨g.perm,g.kind,g.failed⟩;show wpS _ _ _ _ (qU8 false kb (arrOf st) sa na 0 >>= _) _ _;refine wpS_bind (qEY g1.kind (ik kb mkb) ik (by omega) hna (qH6 (by omega) ua) fun k hk h1 h2=>?_)
 have a1:∀ j,sa<=j->j<sa+k->gK (arrOf st) j<=gkv kb:=fun j hl hj=>by
  have e:=h1 (j - sa) (by omega)
  rw [qG3 (by omega),show sa+(j - sa)=j by omega] at e
  exact of_decide_eq_true e
 have a2:∀ j,sa+k<=j->j<sa+na->gkv kb<gK (arrOf st) j:=fun j hl hj=>by
  have e:=h2 (j - sa) (by omega) (by omega)
  rw [qG3 (by omega),show sa+(j - sa)=j by omega] at e
  have:=of_decide_eq_false e;omega
 dsimp only;by_cases ek:na - k=0
 ·refine gifT (by simpa using ek) ?_
  refine wpS_pure (h _ g1 p3 (fun i j hl hij hj=>?_) fun _ _=>rfl);show gK (arrOf st) i<=gK (arrOf st) j;by_cases c1:j<sa+na
  ·exact ua i j hl hij c1
  ·by_cases c2:i<sa+na
   ·have q1:=a1 i hl (by omega)
    have q2:=ub (sa+na) j (by omega) (by omega) hj
    omega
   ·exact ub i j (by omega) hij hj
 refine gifF (by simpa using ek) ?_
 rw [show sa+k+(na - k) - 1=sa+na - 1 by omega]
 obtain ⟨kz,ekz,_,mkz⟩:=qBP (a:=arrOf st) (i:=sa+na - 1) (by omega)
 have kkz:gK (arrOf st) (sa+na - 1)=gkv kz:=qIK ekz;refine wpS_bind (qAY ekz ?_);show wpS _ _ _ _ (qU8 true kz (arrOf st) (sa+na) nb (nb - 1) >>= _) _ _;refine wpS_bind (qEY g1.kind (ik kz mkz) ik (by omega) (by omega) (qH6 (by omega) ub) fun m hm h3 h4=>?_)
 have b1:∀ j,sa+na<=j->j<sa+na+m->gK (arrOf st) j<gkv kz:=fun j hl hj=>by
  have e:=h3 (j - (sa+na)) (by omega)
  rw [qG3 (by omega),show sa+na+(j - (sa+na))=j by omega] at e
  exact of_decide_eq_true e
 have b2:∀ j,sa+na+m<=j->j<sa+na+nb->gkv kz<=gK (arrOf st) j:=fun j hl hj=>by
  have e:=h4 (j - (sa+na)) (by omega) (by omega)
  rw [qG3 (by omega),show sa+na+(j - (sa+na))=j by omega] at e
  have:=of_decide_eq_false e;omega
 dsimp only;by_cases em:m=0
 ·refine gifT (by simpa using em) ?_
  refine wpS_pure (h _ g1 p3 (fun i j hl hij hj=>?_) fun _ _=>rfl);show gK (arrOf st) i<=gK (arrOf st) j;by_cases c1:j<sa+na
  ·exact ua i j hl hij c1
  ·by_cases c2:i<sa+na
   ·have q1:=ua i (sa+na - 1) hl (by omega) (by omega)
    have q2:=b2 j (by omega) hj
    omega
   ·exact ub i j (by omega) hij hj
 refine gifF (by simpa using em) ?_
 have sx:((arrOf st).extract (sa+k) (sa+na)).size=na - k:=by simp;omega
 have sy:((arrOf st).extract (sa+na) (sa+na+m)).size=m:=by simp;omega
 have ux:=qLU (xs:=arrOf st) (lo:=sa+k) (hi:=sa+na) (by omega) fun i j hl hij hj=>ua i j (by omega) hij hj
 have uy:=qLU (xs:=arrOf st) (lo:=sa+na) (hi:=sa+na+m) (by omega) fun i j hl hij hj=>ub i j hl hij (by omega)
 have kx:∀ x ∈ ((arrOf st).extract (sa+k) (sa+na)).toList,gIK x:=fun x hx=>ik x (by rw [qAN] at hx;exact M9 (T9 hx))
 have ky:∀ x ∈ ((arrOf st).extract (sa+na) (sa+na+m)).toList,gIK x:=fun x hx=>ik x (by rw [qAN] at hx;exact M9 (T9 hx))
 have fst:∀ y,((arrOf st).extract (sa+na) (sa+na+m)).toList[0]?=some y->∀ x ∈ ((arrOf st).extract (sa+k) (sa+na)).toList,gkv y<=gkv x:=by
  intro y hy x hx;have e:=qRY hy;obtain ⟨j,j1,j2,_,ej⟩:=qEZ hx;have:=a2 j j1 j2;rw [y9] at e;omega
 have lst:∀ z,((arrOf st).extract (sa+k) (sa+na)).toList[((arrOf st).extract (sa+k) (sa+na)).size - 1]?=some z->∀ y ∈ ((arrOf st).extract (sa+na) (sa+na+m)).toList,gkv y<=gkv z:=by
  intro z hz y hy;have e:=qRY hz;obtain ⟨j,j1,j2,_,ej⟩:=qEZ hy;have:=b1 j j1 j2;rw [sx,show sa+k+(na - k - 1)=sa+na - 1 by omega] at e
  omega
 have fin:∀ (r:Array Keyed) (st2:SortSt),gSE (setPending st (((pendingOf st).setIfInBounds i (sa,na+nb,p)).eraseIdxIfInBounds (i+1))) st2->gRes (((arrOf st).extract (sa+k) (sa+na)).toList++((arrOf st).extract (sa+na) (sa+na+m)).toList) r.toList->
   Q true (setArr st2 (r.toList.zipIdx.foldl (fun a (p:Keyed × Nat)=>a.setIfInBounds (sa+k+p.2) p.1) (arrOf st2))):=by
  rintro r st2 ⟨q1,q2,q3,q4⟩ ⟨rp,ru⟩;have q2':arrOf st2=arrOf st:=q2;have rl:r.toList.length=na - k+m:=by
   rw [rp.length_eq,A8,C2,C2,sx,sy]
  have e:=qLX (sa+k) r.toList 0 (arrOf st2) (by rw [q2',rl];omega)
  rw [y9,q2'] at e;have LK:=qYM e (by rw [rl];omega)
  have e0:(arrOf st).toList=(arrOf st).toList.take (sa+k)++(((arrOf st).extract (sa+k) (sa+na)).toList++((arrOf st).extract (sa+na) (sa+na+m)).toList)++(arrOf st).toList.drop (sa+k+r.toList.length):=by
   rw [qAN,qAN,rl,show sa+na - (sa+k)=na - k by omega,show sa+na+m - (sa+na)=m by omega]
   have t1:(arrOf st).toList.drop (sa+na)=((arrOf st).toList.drop (sa+k)).drop (na - k):=by rw [A32];congr 1;omega
   have t2:(arrOf st).toList.drop (sa+k)=((arrOf st).toList.drop (sa+k)).take (na - k+m)++(arrOf st).toList.drop (sa+k+(na - k+m)):=qFH;rw [t1,<- B86,P0,<- t2,V8]
  have gp:(r.toList.zipIdx.foldl (fun a (p:Keyed × Nat)=>a.setIfInBounds (sa+k+p.2) p.1) (arrOf st)).Perm (arrOf st):=by
   rw [l8,e]
   conv=>rhs;rw [e0]
   exact (j6 _ rp).append_right _
  have lowR:∀ x ∈ r.toList,∀ i,sa<=i->i<sa+k->gK (arrOf st) i<=gkv x:=by
   intro x hx i hl hi;rcases C8.mp (rp.mem_iff.mp hx) with hx | hx
   ·obtain ⟨j,j1,j2,_,ej⟩:=qEZ hx;rw [<- ej];exact ua i j hl (by omega) j2
   ·obtain ⟨j,j1,j2,_,ej⟩:=qEZ hx;have z1:=a1 i hl hi;have z2:=ub (sa+na) j (by omega) j1 (by omega)
    omega
  have highR:∀ x ∈ r.toList,∀ j,sa+na+m<=j->j<sa+na+nb->gkv x<=gK (arrOf st) j:=by
   intro x hx j hl hj;rcases C8.mp (rp.mem_iff.mp hx) with hx | hx
   ·obtain ⟨i,j1,j2,_,ej⟩:=qEZ hx;have z1:=ua i (sa+na - 1) (by omega) (by omega) (by omega)
    have z2:=b2 j hl hj;omega
   ·obtain ⟨i,j1,j2,_,ej⟩:=qEZ hx;rw [<- ej];exact ub i j j1 (by omega) hj
  rw [q2'];refine h _ ⟨gp.trans g.perm,q1.trans g.kind,q4.trans g.failed⟩ ((congrArg B38 q3).trans p3) ?_ fun j hj=>(LK j).1 (by rw [rl];omega)
  intro i j hl hij hj;show gK (r.toList.zipIdx.foldl (fun a (p:Keyed × Nat)=>a.setIfInBounds (sa+k+p.2) p.1) (arrOf st)) i<=gK (r.toList.zipIdx.foldl (fun a (p:Keyed × Nat)=>a.setIfInBounds (sa+k+p.2) p.1) (arrOf st)) j;have K1:∀ j,j<sa+k\/sa+k+(na - k+m)<=j->gK (r.toList.zipIdx.foldl (fun a (p:Keyed × Nat)=>a.setIfInBounds (sa+k+p.2) p.1) (arrOf st)) j=gK (arrOf st) j:=fun j hj=>(LK j).1 (by rw [rl];exact hj)
  have K2:∀ j,sa+k<=j->j<sa+k+(na - k+m)->∃ x,r.toList[j - (sa+k)]?=some x/\gK (r.toList.zipIdx.foldl (fun a (p:Keyed × Nat)=>a.setIfInBounds (sa+k+p.2) p.1) (arrOf st)) j=gkv x:=fun j h1 h2=>(LK j).2 h1 (by rw [rl];exact h2)
  by_cases c1:i<sa+k
  ·rw [K1 i (.inl c1)];by_cases c2:j<sa+k
   ·rw [K1 j (.inl c2)];exact ua i j hl hij (by omega)
   ·by_cases c3:j<sa+k+(na - k+m)
    ·obtain ⟨x,ex,kx2⟩:=K2 j (by omega) c3
     rw [kx2];exact lowR x (D8 ex) i hl c1
    ·rw [K1 j (.inr (by omega))]
     have z1:=a1 i hl c1;have z2:=ub (sa+na) j (by omega) (by omega) hj
     omega
  ·by_cases c2:i<sa+k+(na - k+m)
   ·obtain ⟨x,ex,kx2⟩:=K2 i (by omega) c2
    rw [kx2];by_cases c3:j<sa+k+(na - k+m)
    ·obtain ⟨y,ey,ky2⟩:=K2 j (by omega) c3
     rw [ky2];by_cases c4:i=j
     ·rw [c4] at ex;rw [ex] at ey;cases ey;exact O3 _
     ·obtain ⟨x1,x2⟩:=B0.mp ex;obtain ⟨y1,y2⟩:=B0.mp ey;have:=R6.mp ru (i - (sa+k)) (j - (sa+k)) x1 y1 (by omega)
      rw [x2,y2] at this;exact this
    ·rw [K1 j (.inr (by omega))]
     exact highR x (D8 ex) j (by omega) hj
   ·rw [K1 i (.inr (by omega)),K1 j (.inr (by omega))]
    exact ub i j (by omega) hij hj
 by_cases c:na - k<=m
 ·refine gifT c ?_;show wpS _ _ _ _ (gmLo ((arrOf st).extract (sa+k) (sa+na)) ((arrOf st).extract (sa+na) (sa+na+m)) >>= _) _ _;refine wpS_bind (qU2 g1.kind kx ky ux uy (by rw [sx];omega) (by rw [sy];omega) fst lst fun r st2 se rs=>?_)
  refine wpS_bind (wpS_modify (wpS_bind (wpS_get (wpS_pure ?_))));have e:(failedOf st2).isNone=true:=by rw [se.2.2.2,g1.failed];rfl
  show Q (failedOf st2).isNone _;rw [e];exact fin r st2 se rs
 ·refine gifF c ?_;show wpS _ _ _ _ (gmHi ((arrOf st).extract (sa+k) (sa+na)) ((arrOf st).extract (sa+na) (sa+na+m)) >>= _) _ _;refine wpS_bind (qU3 g1.kind kx ky ux uy (by rw [sx];omega) (by rw [sy];omega) fst lst fun r st2 se rs=>?_)
  refine wpS_bind (wpS_modify (wpS_bind (wpS_get (wpS_pure ?_))));have e:(failedOf st2).isNone=true:=by rw [se.2.2.2,g1.failed];rfl
  show Q (failedOf st2).isNone _;rw [e];exact fin r st2 se rs
end
end L2.G
namespace L2.G
open PySem PyProof.Rows
variable [NM]
def gOut (xs ys:Array Keyed) (lo hi:Nat):Prop:=∀ k,k<lo\/hi<=k->gK ys k=gK xs k
theorem gOut.refl (xs:Array Keyed) (lo hi:Nat):gOut xs xs lo hi:=fun _ _=>rfl
theorem gOut.trans {xs ys zs:Array Keyed} {lo hi:Nat} (h1:gOut xs ys lo hi) (h2:gOut ys zs lo hi):gOut xs zs lo hi:=fun k hk=>(h2 k hk).trans (h1 k hk)
theorem gOut.wide {xs ys:Array Keyed} {lo hi lo' hi':Nat} (h:gOut xs ys lo hi) (a:lo'<=lo) (b:hi<=hi'):gOut xs ys lo' hi':=fun k hk=>h k (by omega)
theorem gSG.lay {κ0:SortKind} {a₀:Array Keyed} {st:SortSt} (g:gSG κ0 a₀ st) {ys:Array Keyed} (p:ys.Perm (arrOf st)):gSG κ0 a₀ (setArr st ys):=⟨p.trans g.perm,g.kind,g.failed⟩
theorem qNA {xs:Array Keyed} {i j:Nat} (hj:j<=xs.size):gOut xs (mirror xs i j ((j - i) / 2)) i j:=fun k hk=>by rw [qG4 hj,if_neg (by omega)]
section
variable {prog:Program} {w:World} {A:Around} {E:Value->Shared->Prop} {s:Shared} {κ0:SortKind} [LtOk prog w A s κ0] {a₀:Array Keyed}
theorem qG0 {st:SortSt} {i j:Nat} {Q:Option Bool->SortSt->Prop} (h0:qBV a₀) (g:gSG κ0 a₀ st) (hi:i<a₀.size) (hj:j<a₀.size) (h:Q (some (decide (gK (arrOf st) i<gK (arrOf st) j))) st):wpS (model prog w) A E s (ltAt' i j) Q st:=by
 have hi2:i<(arrOf st).size:=by rw [g.size];exact hi
 have hj2:j<(arrOf st).size:=by rw [g.size];exact hj
 obtain ⟨x,ex,_,mx⟩:=qBP hi2;obtain ⟨y,ey,_,my⟩:=qBP hj2;rw [qIK ex,qIK ey] at h;rw [ltAt'_eq];refine wpS_bind (wpS_get ?_);exact wpS_bind (qAY ex (wpS_bind (qAY ey (qG1 g.kind (g.ik h0 x mx) (g.ik h0 y my) h))))
theorem qU7 {st:SortSt} {lo n ok:Nat} {Q:Bool->SortSt->Prop} (h0:qBV a₀) (g:gSG κ0 a₀ st) (hn:lo+n<=a₀.size) (hok:ok<=n) (u:gSeg (arrOf st) lo (lo+ok))
  (h:∀ st2,gSG κ0 a₀ st2->pendingOf st2=pendingOf st->gSeg (arrOf st2) lo (lo+n)->gOut (arrOf st) (arrOf st2) lo (lo+n)->Q true st2):wpS (model prog w) A E s (binarySort' lo n ok) Q st:=by
 rw [binarySort'_eq];refine wpS_bind (wpS_mono (wpS_forRange (I:=fun k c st2=>c=(none,())/\gSG κ0 a₀ st2/\pendingOf st2=pendingOf st/\gSeg (arrOf st2) lo (lo+min k n)/\gOut (arrOf st) (arrOf st2) lo (lo+n))
  (Q:=fun c st2=>c=(none,())/\gSG κ0 a₀ st2/\pendingOf st2=pendingOf st/\gSeg (arrOf st2) lo (lo+n)/\gOut (arrOf st) (arrOf st2) lo (lo+n)) ?step ?fin ?init) ?post)
 case post=>
  rintro c st2 ⟨rfl,g2,pe,u2,o2⟩;exact wpS_pure (h st2 g2 pe u2 o2)
 case init=>
  refine ⟨rfl,g,rfl,fun i j hl hij hj=>?_,.refl _ _ _⟩;by_cases h1:ok=0
  ·rw [show i=j by omega]
   exact O3 _
  ·exact u i j hl hij (by omega)
 case fin=>
  rintro c st2 ⟨hc,g2,pe,u2,o2⟩;rw [show min (max (max ok 1) n) n=n by omega] at u2
  exact ⟨hc,g2,pe,u2,o2⟩
 case step=>
  rintro k c st2 hak hkn ⟨rfl,g2,pe,u2,o2⟩;rw [show min k n=k by omega] at u2
  have hk:lo+k<a₀.size:=by omega
  refine wpS_bind (wpS_mono (wpS_forRange (I:=fun x c st3=>st3=st2/\∃ l r,c=(none,l,r)/\l<=r/\r<=k/\r - l<=k - x/\
    (∀ i,lo<=i->i<lo+l->gK (arrOf st2) i<=gK (arrOf st2) (lo+k))/\(∀ i,lo+r<=i->i<lo+k->gK (arrOf st2) (lo+k)<gK (arrOf st2) i))
   (Q:=fun c st3=>st3=st2/\∃ l r,c=(none,l,r)/\l<=k/\
    (∀ i,lo<=i->i<lo+l->gK (arrOf st2) i<=gK (arrOf st2) (lo+k))/\(∀ i,lo+l<=i->i<lo+k->gK (arrOf st2) (lo+k)<gK (arrOf st2) i)) ?istep ?ifin ?iinit) ?ipost)
  case iinit=>exact ⟨rfl,0,k,rfl,by omega,by omega,by omega,fun i _ hi=>by omega,fun i h1 h2=>by omega⟩
  case ifin=>
   rintro c st3 ⟨rfl,l,r,rfl,hlr,hrk,hm,ha,hb⟩;have e:l=r:=by omega
   rw [<- e] at hb hrk;exact ⟨rfl,l,r,rfl,hrk,ha,hb⟩
  case istep=>
   rintro x c st3 _ hxk ⟨rfl,l,r,rfl,hlr,hrk,hm,ha,hb⟩;dsimp only;by_cases hge:l >= r
   ·refine gifT hge ?_;have e:l=r:=by omega
    rw [<- e] at hb hrk;exact wpS_pure ⟨rfl,l,r,rfl,hrk,ha,hb⟩
   ·refine gifF hge ?_;refine wpS_bind (qG0 h0 g2 hk (by omega) ?_)
    by_cases less:gK (arrOf st3) (lo+k)<gK (arrOf st3) (lo+(l+r) / 2)
    ·rw [decide_eq_true less];dsimp only;refine gifT rfl ?_;refine wpS_pure ⟨rfl,l,(l+r) / 2,rfl,by omega,by omega,by omega,ha,fun i h1 h2=>?_⟩
     have:=u2 (lo+(l+r) / 2) i (by omega) h1 h2
     omega
    ·rw [decide_eq_false less];dsimp only;rw [if_neg C6];refine wpS_pure ⟨rfl,(l+r) / 2+1,r,rfl,by omega,by omega,by omega,fun i h3 h1=>?_,hb⟩
     have:=u2 i (lo+(l+r) / 2) h3 (by omega) (by omega)
     omega
  case ipost=>
   rintro c st3 ⟨rfl,l,r,rfl,hlk,ha,hb⟩;have hks:lo+k<(arrOf st3).size:=by rw [g2.size];exact hk
   show wpS _ _ _ _ (moveDown' (lo+k) (lo+l) >>= fun _=>pure (R5 (none,()))) _ _;rw [moveDown'_eq];refine wpS_bind (wpS_modify (wpS_pure ⟨rfl,g2.lay (bubble_perm _ _ _),pe,?_,o2.trans ?_⟩))
   ·rw [show min (k+1) n=k+1 by omega]
    intro i j hl hij hj;show gK (bubble (arrOf st3) (lo+k) (lo+k - (lo+l))) i<=gK (bubble (arrOf st3) (lo+k) (lo+k - (lo+l))) j;rw [qIL hks (by omega),qIL hks (by omega),show lo+k - (lo+k - (lo+l))=lo+l by omega]
    repeat' split
    all_goals first
     | (exfalso;omega)
     | exact O3 _
     | exact ha _ (by omega) (by omega)
     | exact A75 (hb _ (by omega) (by omega))
     | exact u2 _ _ (by omega) (by omega) (by omega)
   ·intro i hi;show gK (bubble (arrOf st3) (lo+k) (lo+k - (lo+l))) i=gK (arrOf st3) i;rw [qIL hks (by omega),if_neg (by omega),if_neg (by omega)]
abbrev gCUp:=Option (Option Nat) × Nat
abbrev gCDn:=Option (Option Nat) × Nat × Nat
def gupL (lo a m:Nat):gSM gCUp:=
 forIn [a:m] ((none,a):gCUp) fun _ c=>do
  let t <- ltAt' (lo+c.snd) (lo+c.snd - 1)
  match t with
  | some less=>if less=true then pure (y7 (none,c.snd)) else pure (R5 (none,c.snd+1))
  | _=>pure (y7 (some none,c.snd))
def qRW (lo n m:Nat):gSM (Option Nat):=do
 reverseSlice' lo (lo+n)
 let c <- gupL lo n m
 match c.fst with
 | some r=>pure r
 | none=>pure (some c.snd)
def gdnL (lo n m:Nat):gSM gCDn:=
 forIn [n:m] ((none,n,0):gCDn) fun _ c=>do
  let t <- ltAt' (lo+c.snd.fst) (lo+c.snd.fst - 1)
  match t with
  | some less=>
   if less=true then
    if c.snd.snd > 0 then do
     reverseSlice' (lo+c.snd.fst - (c.snd.snd+1)) (lo+c.snd.fst)
     pure (R5 (none,c.snd.fst+1,0))
    else pure (R5 (none,c.snd.fst+1,0))
   else do
    let t <- ltAt' (lo+c.snd.fst - 1) (lo+c.snd.fst)
    match t with
    | some more=>
     if more=true then pure (y7 (none,c.snd.fst,c.snd.snd))
     else pure (R5 (none,c.snd.fst+1,c.snd.snd+1))
    | _=>pure (y7 (some none,c.snd.fst,c.snd.snd))
  | _=>pure (y7 (some none,c.snd.fst,c.snd.snd))
def gdnP (lo n m:Nat):gSM (Option Nat):=do
 liftM (rule "list.sort.descending-run")
 let c <- gdnL lo (n+1) m
 match c.fst with
 | some r=>pure r
 | none=>
  if c.snd.snd > 0 then do
   reverseSlice' (lo+c.snd.fst - (c.snd.snd+1)) (lo+c.snd.fst)
   qRW lo c.snd.fst m
  else qRW lo c.snd.fst m
theorem qB2 {α β:Type} {x y:gSM α} {f g:α->gSM β} (h:x=y) (k:∀ a,f a=g a):(x >>= f)=(y >>= g):=by rw [h,show f=g from funext k]
theorem qRX (lo m:Nat):countRun' lo m=(do
  let c <- gupL lo 1 m
  match c.fst with
  | some r=>pure r
  | none=>
   if (c.snd == m)=true then pure (some c.snd)
   else if c.snd > 1 then do
    let t <- ltAt' lo (lo+c.snd - 1)
    match t with
    | some rose=>if rose=true then pure (some c.snd) else do
      reverseSlice' lo (lo+c.snd)
      gdnP lo c.snd m
    | _=>pure none
   else gdnP lo c.snd m):=by
 rw [countRun'_eq];unfold gdnP qRW gdnL gupL;refine qB2 rfl fun c=>?_;obtain ⟨r,n⟩:=c;cases r with
 | some r=>rfl
 | none=>
  have last:∀ c3:gCUp,(match c3.fst with | some r=>pure r | none=>pure (some c3.snd):gSM (Option Nat))=(match c3.fst with | some r=>pure r | none=>pure (some c3.snd)):=fun _=>rfl
  dsimp only
  split
  ·rfl
  ·split
   ·refine qB2 rfl fun x=>?_;cases x with
    | none=>rfl
    | some rose=>
     dsimp only
     split
     ·rfl
     ·refine qB2 rfl fun _=>qB2 rfl fun _=>qB2 rfl fun c2=>?_;obtain ⟨r2,n2,q2⟩:=c2;cases r2 with
      | some r2=>rfl
      | none=>
       dsimp only
       split
       ·refine qB2 rfl fun _=>qB2 rfl fun _=>qB2 rfl fun c3=>?_;obtain ⟨r3,n3⟩:=c3;cases r3 <;> rfl
       ·refine qB2 rfl fun _=>qB2 rfl fun c3=>?_;obtain ⟨r3,n3⟩:=c3;cases r3 <;> rfl
   ·refine qB2 rfl fun _=>qB2 rfl fun c2=>?_;obtain ⟨r2,n2,q2⟩:=c2;cases r2 with
    | some r2=>rfl
    | none=>
     dsimp only
     split
     ·refine qB2 rfl fun _=>qB2 rfl fun _=>qB2 rfl fun c3=>?_;obtain ⟨r3,n3⟩:=c3;cases r3 <;> rfl
     ·refine qB2 rfl fun _=>qB2 rfl fun c3=>?_;obtain ⟨r3,n3⟩:=c3;cases r3 <;> rfl
def gFal (xs:Array Keyed) (lo hi:Nat):Prop:=∀ i j,lo<=i->i<=j->j<hi->gK xs j<=gK xs i
theorem qOL {st:SortSt} {lo a m:Nat} {Q:gCUp->SortSt->Prop} (h0:qBV a₀) (g:gSG κ0 a₀ st) (hm:lo+m<=a₀.size) (ha:1<=a) (han:a<=m) (u:gSeg (arrOf st) lo (lo+a))
  (h:∀ n,a<=n->n<=m->gSeg (arrOf st) lo (lo+n)->(n=m\/gK (arrOf st) (lo+n)<gK (arrOf st) (lo+n - 1))->Q (none,n) st):wpS (model prog w) A E s (gupL lo a m) Q st:=by
 unfold gupL;refine wpS_forRange (I:=fun x c st2=>st2=st/\c=(none,x)/\gSeg (arrOf st) lo (lo+x)) ?step ?fin ⟨rfl,rfl,u⟩
 case fin=>
  rintro c st2 ⟨rfl,rfl,u2⟩;rw [show max a m=m by omega] at u2 ⊢
  exact h m han (C1 _) u2 (.inl rfl)
 case step=>
  rintro x c st2 hax hxn ⟨rfl,rfl,u2⟩;dsimp only;refine wpS_bind (qG0 h0 g (by omega) (by omega) ?_)
  by_cases less:gK (arrOf st2) (lo+x)<gK (arrOf st2) (lo+x - 1)
  ·rw [decide_eq_true less];dsimp only;refine gifT rfl ?_;exact wpS_pure (h x hax (by omega) u2 (.inr less))
  ·rw [decide_eq_false less];dsimp only;rw [if_neg C6];refine wpS_pure ⟨rfl,rfl,fun i j hl hij hj=>?_⟩;by_cases hjx:j<lo+x
   ·exact u2 i j hl hij hjx
   ·have ej:j=lo+x:=by omega
    rw [ej];by_cases ei:i=lo+x
    ·rw [ei];exact O3 _
    ·have:=u2 i (lo+x - 1) hl (by omega) (by omega)
     omega
theorem qLT {st:SortSt} {lo n m:Nat} {Q:Option Nat->SortSt->Prop} (h0:qBV a₀) (g:gSG κ0 a₀ st) (hm:lo+m<=a₀.size) (h1:1<=n) (hnm:n<=m) (u:gFal (arrOf st) lo (lo+n))
  (h:∀ k st2,gSG κ0 a₀ st2->pendingOf st2=pendingOf st->1<=k->k<=m->gSeg (arrOf st2) lo (lo+k)->gOut (arrOf st) (arrOf st2) lo (lo+m)->Q (some k) st2):wpS (model prog w) A E s (qRW lo n m) Q st:=by
 unfold qRW;have hsz:lo+n<=(arrOf st).size:=by rw [g.size];omega
 rw [reverseSlice'_eq];refine wpS_bind (wpS_modify ?_);have g2:gSG κ0 a₀ (setArr st (mirror (arrOf st) lo (lo+n) ((lo+n - lo) / 2))):=g.lay (mirror_perm _ _ _ _);refine wpS_bind (qOL h0 g2 hm h1 hnm ?_ fun k hk1 hk2 uk _=>wpS_pure (h k _ g2 rfl (by omega) hk2 uk ((qNA hsz).wide (C1 _) (by omega))))
 intro i j hl hij hj;show gK (mirror (arrOf st) lo (lo+n) ((lo+n - lo) / 2)) i<=gK (mirror (arrOf st) lo (lo+n) ((lo+n - lo) / 2)) j;rw [qG4 hsz,qG4 hsz,if_pos (by omega),if_pos (by omega)]
 exact u _ _ (by omega) (by omega) (by omega)
theorem qU5 {st:SortSt} {lo n m:Nat} {Q:gCDn->SortSt->Prop} (h0:qBV a₀) (g:gSG κ0 a₀ st) (hm:lo+m<=a₀.size) (h1:1<=n) (hnm:n<=m) (u:gFal (arrOf st) lo (lo+n))
  (h:∀ k e st2,gSG κ0 a₀ st2->pendingOf st2=pendingOf st->n<=k->k<=m->gFal (arrOf st2) lo (lo+k)->e+1<=k->(∀ i,lo+k - (e+1)<=i->i<lo+k->gK (arrOf st2) i=gK (arrOf st2) (lo+k - 1))->gOut (arrOf st) (arrOf st2) lo (lo+m)->Q (none,k,e) st2) :
  wpS (model prog w) A E s (gdnL lo n m) Q st:=by
 unfold gdnL;refine wpS_forRange (I:=fun x c st2=>∃ e,c=(none,x,e)/\gSG κ0 a₀ st2/\pendingOf st2=pendingOf st/\gFal (arrOf st2) lo (lo+x)/\e+1<=x/\
   (∀ i,lo+x - (e+1)<=i->i<lo+x->gK (arrOf st2) i=gK (arrOf st2) (lo+x - 1))/\gOut (arrOf st) (arrOf st2) lo (lo+m)) ?step ?fin ⟨0,rfl,g,rfl,u,by omega,fun i h1 h2=>by congr 1;omega,.refl _ _ _⟩
 case fin=>
  rintro c st2 ⟨e,rfl,g2,pe,u2,hq,he,o2⟩;rw [show max n m=m by omega] at u2 hq he ⊢
  exact h m e st2 g2 pe hnm (C1 _) u2 hq he o2
 case step=>
  rintro x c st2 hax hxn ⟨e,rfl,g2,pe,u2,hq,he,o2⟩;dsimp only;have hsz:lo+x<=(arrOf st2).size:=by rw [g2.size];omega
  refine wpS_bind (qG0 h0 g2 (by omega) (by omega) ?_)
  by_cases less:gK (arrOf st2) (lo+x)<gK (arrOf st2) (lo+x - 1)
  ·rw [decide_eq_true less];dsimp only;refine gifT rfl ?_;have more:∀ ys:Array Keyed,(∀ k,gK ys k=gK (arrOf st2) k)->gFal ys lo (lo+(x+1)):=by
    intro ys hk i j hl hij hj;rw [hk,hk];by_cases hjx:j<lo+x
    ·exact u2 i j hl hij hjx
    ·have ej:j=lo+x:=by omega
     rw [ej];by_cases ei:i=lo+x
     ·rw [ei];exact O3 _
     ·have:=u2 i (lo+x - 1) hl (by omega) (by omega)
      omega
   by_cases hpos:e > 0
   ·rw [if_pos hpos,reverseSlice'_eq];refine wpS_bind (wpS_modify (wpS_pure ⟨0,rfl,g2.lay (mirror_perm _ _ _ _),pe,more _ (qAS hsz he),by omega,fun i h1 h2=>by congr 1;omega,o2.trans ?_⟩))
    exact fun k _=>qAS hsz he k
   ·refine gifF hpos ?_;exact wpS_pure ⟨0,rfl,g2,pe,more _ (fun _=>rfl),by omega,fun i h1 h2=>by congr 1;omega,o2⟩
  ·rw [decide_eq_false less];dsimp only;rw [if_neg C6];refine wpS_bind (qG0 h0 g2 (by omega) (by omega) ?_)
   by_cases big:gK (arrOf st2) (lo+x - 1)<gK (arrOf st2) (lo+x)
   ·rw [decide_eq_true big];dsimp only;refine gifT rfl ?_;exact wpS_pure (h x e st2 g2 pe hax (by omega) u2 hq he o2)
   ·rw [decide_eq_false big];dsimp only;rw [if_neg C6];have ex:gK (arrOf st2) (lo+x)=gK (arrOf st2) (lo+x - 1):=by omega
    refine wpS_pure ⟨e+1,rfl,g2,pe,fun i j hl hij hj=>?_,by omega,fun i h1 h2=>?_,o2⟩
    ·by_cases hjx:j<lo+x
     ·exact u2 i j hl hij hjx
     ·have ej:j=lo+x:=by omega
      rw [ej];by_cases ei:i=lo+x
      ·rw [ei];exact O3 _
      ·rw [ex];exact u2 i (lo+x - 1) hl (by omega) (by omega)
    ·rw [show lo+(x+1) - 1=lo+x by omega]
     by_cases ei:i=lo+x
     ·rw [ei]
     ·rw [ex];exact he i (by omega) (by omega)
theorem qOM {st:SortSt} {lo n m:Nat} {Q:Option Nat->SortSt->Prop} (h0:qBV a₀) (g:gSG κ0 a₀ st) (hm:lo+m<=a₀.size) (hnm:n+1<=m) (u:gFal (arrOf st) lo (lo+(n+1)))
  (h:∀ k st2,gSG κ0 a₀ st2->pendingOf st2=pendingOf st->1<=k->k<=m->gSeg (arrOf st2) lo (lo+k)->gOut (arrOf st) (arrOf st2) lo (lo+m)->Q (some k) st2):wpS (model prog w) A E s (gdnP lo n m) Q st:=by
 unfold gdnP;refine wpS_bind (wpS_lift (wpAny_rule ⟨rfl,?_⟩));refine wpS_bind (qU5 h0 g hm (by omega) hnm u fun k e st2 g2 pe hk1 hk2 u2 hq he o2=>?_)
 dsimp only;have hsz:lo+k<=(arrOf st2).size:=by rw [g2.size];omega
 by_cases hpos:e > 0
 ·rw [if_pos hpos,reverseSlice'_eq];refine wpS_bind (wpS_modify (qLT h0 (g2.lay (mirror_perm _ _ _ _)) hm (by omega) hk2 ?_ fun k2 st3 g3 pe3 a1 a2 u3 o3=>h k2 st3 g3 (pe3.trans pe) a1 a2 u3 ?_))
  ·intro i j hl hij hj;show gK (mirror (arrOf st2) _ _ _) j<=gK (mirror (arrOf st2) _ _ _) i;rw [qAS hsz he,qAS hsz he];exact u2 i j hl hij hj
  ·exact o2.trans (gOut.trans (fun k _=>qAS hsz he k) o3)
 ·refine gifF hpos ?_;exact qLT h0 g2 hm (by omega) hk2 u2 fun k2 st3 g3 pe3 a1 a2 u3 o3=>h k2 st3 g3 (pe3.trans pe) a1 a2 u3 (o2.trans o3)
theorem qU6 {st:SortSt} {lo m:Nat} {Q:Option Nat->SortSt->Prop} (h0:qBV a₀) (g:gSG κ0 a₀ st) (hm:lo+m<=a₀.size) (h1:1<=m)
  (h:∀ k st2,gSG κ0 a₀ st2->pendingOf st2=pendingOf st->1<=k->k<=m->gSeg (arrOf st2) lo (lo+k)->gOut (arrOf st) (arrOf st2) lo (lo+m)->Q (some k) st2):wpS (model prog w) A E s (countRun' lo m) Q st:=by
 rw [qRX];refine wpS_bind (qOL h0 g hm (C1 1) h1 (fun i j hl hij hj=>by rw [show i=j by omega];exact O3 _) fun n hn1 hn2 un or=>?_)
 dsimp only;by_cases e:n=m
 ·refine gifT (by simpa using e) ?_
  exact wpS_pure (h n st g rfl hn1 hn2 un (.refl _ _ _))
 ·refine gifF (by simpa using e) ?_
  have hlt:gK (arrOf st) (lo+n)<gK (arrOf st) (lo+n - 1):=or.resolve_left e;by_cases hgt:n > 1
  ·refine gifT hgt ?_;refine wpS_bind (qG0 h0 g (by omega) (by omega) ?_)
   by_cases rose:gK (arrOf st) lo<gK (arrOf st) (lo+n - 1)
   ·rw [decide_eq_true rose];dsimp only;refine gifT rfl ?_;exact wpS_pure (h n st g rfl hn1 hn2 un (.refl _ _ _))
   ·rw [decide_eq_false rose];dsimp only;rw [if_neg C6,reverseSlice'_eq];have hsz:lo+n<=(arrOf st).size:=by rw [g.size];omega
    have same:∀ k,lo<=k->k<lo+n->gK (arrOf st) k=gK (arrOf st) (lo+n - 1):=by
     intro k hl hk;have a1:=un lo k (by omega) hl hk
     have a2:=un k (lo+n - 1) hl (by omega) (by omega)
     omega
    refine wpS_bind (wpS_modify (qOM h0 (g.lay (mirror_perm _ _ _ _)) hm (by omega) ?_ fun k st2 g2 pe a1 a2 u2 o2=>h k st2 g2 pe a1 a2 u2 (gOut.trans (fun k _=>qAS hsz same k) o2)))
    intro i j hl hij hj;show gK (mirror (arrOf st) _ _ _) j<=gK (mirror (arrOf st) _ _ _) i;rw [qAS hsz same,qAS hsz same];by_cases hjn:j<lo+n
    ·rw [same i hl (by omega),same j (by omega) hjn]
     exact O3 _
    ·have ej:j=lo+n:=by omega
     rw [ej];by_cases ei:i=lo+n
     ·rw [ei];exact O3 _
     ·rw [same i hl (by omega)]
      exact A75 hlt
  ·refine gifF hgt ?_;have e1:n=1:=by omega
   rw [e1] at hlt;rw [e1];refine qOM h0 g hm (by omega) ?_ h
   intro i j hl hij hj;by_cases ei:i=j
   ·rw [ei];exact O3 _
   ·have ei:i=lo:=by omega
    have ej:j=lo+1:=by omega
    rw [ei,ej];exact A75 hlt
end
end L2.G
namespace L2.G
open PySem PyProof.Rows
variable [NM]
def qCS (xs:Array Keyed):List (Nat × Nat × Nat)->Nat->Nat->Prop
 | [],a,b=>a=b
 | r::rs,a,b=>r.1=a/\0<r.2.1/\gSeg xs a (a+r.2.1)/\qCS xs rs (a+r.2.1) b
theorem qHW {xs:Array Keyed}:∀ {l:List (Nat × Nat × Nat)} {a b:Nat},qCS xs l a b->a+l.length<=b
 | [],a,b,h=>by
  have:a=b:=h;simp;omega
 | r::rs,a,b,h=>by
  have:=qHW h.2.2.2;have:=h.2.1;simp;omega
theorem gruns_app {xs:Array Keyed}:∀ {l m:List (Nat × Nat × Nat)} {a b:Nat},qCS xs (l++m) a b ↔ ∃ c,qCS xs l a c/\qCS xs m c b
 | [],m,a,b=>⟨fun h=>⟨a,rfl,h⟩,fun ⟨c,e,h⟩=>by cases (show a=c from e);exact h⟩
 | r::rs,m,a,b=>by
  constructor
  ·rintro ⟨h1,h2,h3,h4⟩;obtain ⟨c,q1,q2⟩:=gruns_app.mp h4;exact ⟨c,⟨h1,h2,h3,q1⟩,q2⟩
  ·rintro ⟨c,⟨h1,h2,h3,q1⟩,q2⟩;exact ⟨h1,h2,h3,gruns_app.mpr ⟨c,q1,q2⟩⟩
theorem qIJ {xs ys:Array Keyed}:∀ {l:List (Nat × Nat × Nat)} {a b:Nat},(∀ k,a<=k->k<b->gK ys k=gK xs k)->qCS xs l a b->qCS ys l a b
 | [],a,b,_,h=>h
 | r::rs,a,b,e,h=>by
  have le:=qHW h.2.2.2;refine ⟨h.1,h.2.1,fun i j hl hij hj=>?_,qIJ (fun k h1 h2=>e k (by omega) h2) h.2.2.2⟩
  rw [e i hl (by omega),e j (by omega) (by omega)]
  exact h.2.2.1 i j hl hij hj
theorem qRV {α:Type}:∀ {l:List α} {i:Nat},i+1<l.length->∃ pre x y post,l=pre++x::y::post/\pre.length=i
 | [],_,h=>by simp at h
 | [x],_,h=>by simp at h
 | x::y::r,0,_=>⟨[],x,y,r,rfl,rfl⟩
 | x::y::r,i+1,h=>by
  obtain ⟨pre,a,b,post,e,el⟩:=qRV (l:=y::r) (i:=i) (by simp at h ⊢;omega)
  exact ⟨x::pre,a,b,post,by rw [e];rfl,by simp [el]⟩
section
variable {prog:Program} {w:World} {A:Around} {E:Value->Shared->Prop} {s:Shared} {κ0:SortKind} [LtOk prog w A s κ0] {a₀:Array Keyed}
theorem qGP {st:SortSt} {i b:Nat} {Q:Bool->SortSt->Prop} (h0:qBV a₀) (g:gSG κ0 a₀ st) (r:qCS (arrOf st) (pendingOf st).toList 0 b) (hb:b<=a₀.size) (hi:i+1<(pendingOf st).size)
  (h:∀ st2,gSG κ0 a₀ st2->qCS (arrOf st2) (pendingOf st2).toList 0 b->(pendingOf st2).size+1=(pendingOf st).size->(∀ k,b<=k->gK (arrOf st2) k=gK (arrOf st) k)->Q true st2):wpS (model prog w) A E s (mergeAt' i) Q st:=by
 obtain ⟨pre,⟨sa,na,p⟩,⟨sb,nb,q⟩,post,e,el⟩:=qRV (l:=(pendingOf st).toList) (i:=i) (by simpa using hi)
 rw [e] at r;obtain ⟨c,r1,r2⟩:=gruns_app.mp r;obtain ⟨x1,x2,x3,y1,y2,y3,r4⟩:=r2;dsimp only at x1 x2 x3 y1 y2 y3 r4;subst x1;subst y1;have le:=qHW r4;refine qU4 h0 g e el.symm x2 y2 (by omega) x3 y3 fun st2 g2 pe u o=>h st2 g2 ?_ ?_ fun k hk=>o k (.inr (by omega))
 ·rw [pe];refine gruns_app.mpr ⟨sa,qIJ (fun k _ hk=>o k (.inl hk)) r1,rfl,by show 0<na+nb;omega,?_,?_⟩
  ·show gSeg _ sa (sa+(na+nb));rw [<- A51];exact u
  ·show qCS _ post (sa+(na+nb)) b;rw [<- A51];exact qIJ (fun k hk _=>o k (.inr hk)) r4
 ·have l1:=congrArg B56 pe;have l2:=congrArg B56 e;simp at l1 l2;omega
theorem qLW (f:Nat × Nat × Nat->Nat × Nat × Nat) (y:Nat × Nat × Nat):∀ l:List (Nat × Nat × Nat),(l++[y]).modify l.length f=l++[f y]
 | []=>rfl
 | z::l=>by
  show z::(l++[y]).modify l.length f=z::(l++[f y]);rw [qLW f y l]
theorem qLV {xs:Array Keyed} {p:Array (Nat × Nat × Nat)} {b pw:Nat} {f:Nat × Nat × Nat->Nat × Nat × Nat} (hf:∀ y,(f y).1=y.1/\(f y).2.1=y.2.1) (r:qCS xs p.toList 0 b):qCS xs (p.modify (p.size - 1) f).toList 0 b:=by
 rw [Array.toList_modify,<- C2];generalize p.toList=l at r;rcases A76 l with e | ⟨l',y,e⟩
 ·rw [e] at r ⊢;exact r
 ·rw [e] at r ⊢;rw [A77] at r ⊢;obtain ⟨c,q1,q2⟩:=gruns_app.mp r;rw [A8,D5,r8,qLW];refine gruns_app.mpr ⟨c,q1,?_⟩;obtain ⟨z1,z2,z3,z4⟩:=q2;have h1:=(hf y).1;have h2:=(hf y).2;refine ⟨h1.trans z1,by rw [h2];exact z2,by rw [h2];exact z3,by rw [h2];exact z4⟩
theorem gwpS_runs {st:SortSt} {Q:Unit->SortSt->Prop} (h0:qBV a₀) (g:gSG κ0 a₀ st) (hp:pendingOf st=#[]) (h:∀ st2,gSG κ0 a₀ st2->gSortedTo (arrOf st2) a₀.size->Q () st2):wpS (model prog w) A E s sortRuns' Q st:=by
 rw [sortRuns'_eq];refine wpS_bind (wpS_get ?_);dsimp only;rw [g.size];refine wpS_bind (wpS_mono (wpS_forRange
  (I:=fun x c st2=>∃ lo,c=(none,lo)/\x<=lo/\lo<=a₀.size/\gSG κ0 a₀ st2/\qCS (arrOf st2) (pendingOf st2).toList 0 lo)
  (Q:=fun c st2=>c.1=none/\gSG κ0 a₀ st2/\qCS (arrOf st2) (pendingOf st2).toList 0 a₀.size) ?step ?fin ⟨0,rfl,C1 _,G5 _,g,by rw [hp];rfl⟩) ?post)
 case fin=>
  rintro c st2 ⟨lo,rfl,h1,h2,g2,r2⟩;have e:lo=a₀.size:=by omega
  rw [e] at r2;exact ⟨rfl,g2,r2⟩
 case post=>
  rintro ⟨c,lo⟩ st2 ⟨e,g2,r2⟩;cases (show c=none from e);dsimp only;have le:=qHW r2;refine wpS_bind (wpS_mono (wpS_forRange (I:=fun x c st3=>c=(none,())/\gSG κ0 a₀ st3/\qCS (arrOf st3) (pendingOf st3).toList 0 a₀.size/\(pendingOf st3).size+x<=a₀.size)
   (Q:=fun c st3=>c=(none,())/\gSG κ0 a₀ st3/\qCS (arrOf st3) (pendingOf st3).toList 0 a₀.size/\(pendingOf st3).size<=1) ?_ ?_ ⟨rfl,g2,r2,by simpa using le⟩) ?_)
  ·rintro x c st3 _ _ ⟨rfl,g3,r3,le3⟩;refine wpS_bind (wpS_get ?_);by_cases c1:(pendingOf st3).size<=1
   ·rw [if_pos c1];exact wpS_pure ⟨rfl,g3,r3,c1⟩
   ·rw [if_neg c1];refine wpS_bind (qGP h0 g3 r3 (C1 _) ?_ fun st4 g4 r4 l4 _=>?_)
    ·repeat' split
     all_goals omega
    ·rw [if_neg (by simp)]
     exact wpS_pure ⟨rfl,g4,r4,by omega⟩
  ·rintro c st3 ⟨e,g3,r3,le3⟩;exact ⟨e,g3,r3,by omega⟩
  ·rintro c st3 ⟨rfl,g3,r3,le3⟩;refine wpS_pure (h st3 g3 ?_);have l3:(pendingOf st3).toList.length<=1:=by simpa using le3
   generalize (pendingOf st3).toList=l at r3 l3
   match l,r3,l3 with
   | [],r3,_=>
    have e:0=a₀.size:=r3;intro i j _ hj;omega
   | [r],r3,_=>
    have e:0+r.2.1=a₀.size:=r3.2.2.2;intro i j hij hj;exact r3.2.2.1 i j (G5 _) hij (by omega)
   | _::_::_,_,l3=>simp at l3
 case step=>
  rintro x c st2 _ hx ⟨lo,rfl,hxl,hlo,g2,r2⟩;dsimp only;by_cases c1:lo >= a₀.size
  ·rw [if_pos c1];have e:lo=a₀.size:=by omega
   rw [e] at r2;exact wpS_pure ⟨rfl,g2,r2⟩
  rw [if_neg c1];refine wpS_bind (qU6 h0 g2 (by omega) (by omega) fun k st3 g3 pe3 k1 k2 u3 o3=>?_)
  have r3:qCS (arrOf st3) (pendingOf st3).toList 0 lo:=by
   rw [pe3];exact qIJ (fun j _ hj=>o3 j (.inl hj)) r2
  dsimp only;have tail:∀ (st5:SortSt) (n:Nat),gSG κ0 a₀ st5->1<=n->lo+n<=a₀.size->gSeg (arrOf st5) lo (lo+n)->qCS (arrOf st5) (pendingOf st5).toList 0 lo->
    gSG κ0 a₀ (setPending st5 ((pendingOf st5).push (lo,n,0)))/\qCS (arrOf st5) ((pendingOf st5).push (lo,n,0)).toList 0 (lo+n):=by
   intro st5 n g5 h1 h2 u5 r5;refine ⟨⟨g5.perm,g5.kind,g5.failed⟩,?_⟩;rw [b8];exact gruns_app.mpr ⟨lo,r5,rfl,h1,u5,rfl⟩
  by_cases c2:k<minRun' a₀.size a₀.size 0
  ·rw [if_pos c2];refine wpS_bind (wpS_lift (wpAny_rule ⟨rfl,?_⟩));refine wpS_bind (qU7 h0 g3 (by omega) (by omega) u3 fun st4 g4 pe4 u4 o4=>?_)
   have r4:qCS (arrOf st4) (pendingOf st4).toList 0 lo:=by
    rw [pe4];exact qIJ (fun j _ hj=>o4 j (.inl hj)) r3
   rw [if_neg (by simp)]
   refine wpS_bind (wpS_get ?_);cases eb:(pendingOf st4).back? with
   | none=>
    dsimp only;refine wpS_bind (wpS_modify (wpS_pure ?_));obtain ⟨g9,r9⟩:=tail st4 (min (a₀.size - lo) (minRun' a₀.size a₀.size 0)) g4 (by omega) (by omega) u4 r4
    exact ⟨_,rfl,by omega,by omega,g9,r9⟩
   | some t=>
    obtain ⟨s1,n1,q1⟩:=t;dsimp only;refine wpS_bind (wpS_mono (wpS_forRange (I:=fun _ c st6=>c=(none,())/\gSG κ0 a₀ st6/\qCS (arrOf st6) (pendingOf st6).toList 0 lo/\gSeg (arrOf st6) lo (lo+(min (a₀.size - lo) (minRun' a₀.size a₀.size 0))))
     (Q:=fun c st6=>c=(none,())/\gSG κ0 a₀ st6/\qCS (arrOf st6) (pendingOf st6).toList 0 lo/\gSeg (arrOf st6) lo (lo+(min (a₀.size - lo) (minRun' a₀.size a₀.size 0)))) ?_ (fun _ _ q=>q) ⟨rfl,g4,r4,u4⟩) ?_)
    ·rintro x c st6 _ _ ⟨rfl,g6,r6,u6⟩;refine wpS_bind (wpS_get ?_);by_cases c7:(pendingOf st6).size > 1
     ·rw [if_pos c7];cases ep:(pendingOf st6)[(pendingOf st6).size - 2]? with
      | none=>
       dsimp only;exact wpS_pure ⟨rfl,g6,r6,u6⟩
      | some t=>
       obtain ⟨s2,n2,old⟩:=t;dsimp only
       split
       ·exact wpS_pure ⟨rfl,g6,r6,u6⟩
       ·refine wpS_bind (qGP h0 g6 r6 (by omega) (by omega) fun st7 g7 r7 _ o7=>?_)
        rw [if_neg (by simp)]
        refine wpS_pure ⟨rfl,g7,r7,fun i j hl hij hj=>?_⟩;rw [o7 i hl,o7 j (by omega)]
        exact u6 i j hl hij hj
     ·rw [if_neg c7];exact wpS_pure ⟨rfl,g6,r6,u6⟩
    ·rintro c st6 ⟨rfl,g6,r6,u6⟩;dsimp only;refine wpS_bind (wpS_modify (wpS_bind (wpS_modify (wpS_pure ?_))));obtain ⟨g9,r9⟩:=tail (setPending st6 ((pendingOf st6).modify ((pendingOf st6).size - 1) fun x=>(x.fst,x.2.fst,power' a₀.size (2 * s1+n1) (2 * s1+n1+n1+(min (a₀.size - lo) (minRun' a₀.size a₀.size 0))) a₀.size))) (min (a₀.size - lo) (minRun' a₀.size a₀.size 0)) ⟨g6.perm,g6.kind,g6.failed⟩ (by omega) (by omega) u6 (qLV (pw:=0) (fun _=>⟨rfl,rfl⟩) r6)
     exact ⟨_,rfl,by omega,by omega,g9,r9⟩
  ·rw [if_neg c2];refine wpS_bind (wpS_get ?_);cases eb:(pendingOf st3).back? with
   | none=>
    dsimp only;refine wpS_bind (wpS_modify (wpS_pure ?_));obtain ⟨g9,r9⟩:=tail st3 k g3 (by omega) (by omega) u3 r3
    exact ⟨_,rfl,by omega,by omega,g9,r9⟩
   | some t=>
    obtain ⟨s1,n1,q1⟩:=t;dsimp only;refine wpS_bind (wpS_mono (wpS_forRange (I:=fun _ c st6=>c=(none,())/\gSG κ0 a₀ st6/\qCS (arrOf st6) (pendingOf st6).toList 0 lo/\gSeg (arrOf st6) lo (lo+k))
     (Q:=fun c st6=>c=(none,())/\gSG κ0 a₀ st6/\qCS (arrOf st6) (pendingOf st6).toList 0 lo/\gSeg (arrOf st6) lo (lo+k)) ?_ (fun _ _ q=>q) ⟨rfl,g3,r3,u3⟩) ?_)
    ·rintro x c st6 _ _ ⟨rfl,g6,r6,u6⟩;refine wpS_bind (wpS_get ?_);by_cases c7:(pendingOf st6).size > 1
     ·rw [if_pos c7];cases ep:(pendingOf st6)[(pendingOf st6).size - 2]? with
      | none=>
       dsimp only;exact wpS_pure ⟨rfl,g6,r6,u6⟩
      | some t=>
       obtain ⟨s2,n2,old⟩:=t;dsimp only
       split
       ·exact wpS_pure ⟨rfl,g6,r6,u6⟩
       ·refine wpS_bind (qGP h0 g6 r6 (by omega) (by omega) fun st7 g7 r7 _ o7=>?_)
        rw [if_neg (by simp)]
        refine wpS_pure ⟨rfl,g7,r7,fun i j hl hij hj=>?_⟩;rw [o7 i hl,o7 j (by omega)]
        exact u6 i j hl hij hj
     ·rw [if_neg c7];exact wpS_pure ⟨rfl,g6,r6,u6⟩
    ·rintro c st6 ⟨rfl,g6,r6,u6⟩;dsimp only;refine wpS_bind (wpS_modify (wpS_bind (wpS_modify (wpS_pure ?_))));obtain ⟨g9,r9⟩:=tail (setPending st6 ((pendingOf st6).modify ((pendingOf st6).size - 1) fun x=>(x.fst,x.2.fst,power' a₀.size (2 * s1+n1) (2 * s1+n1+n1+k) a₀.size))) k ⟨g6.perm,g6.kind,g6.failed⟩ (by omega) (by omega) u6 (qLV (pw:=0) (fun _=>⟨rfl,rfl⟩) r6)
     exact ⟨_,rfl,by omega,by omega,g9,r9⟩
end
end L2.G
namespace L2
open PySem PySem.Spec PyProof.Rows
section
variable {prog:Program} {w:World} {A:Around} {E:Value->Shared->Prop} {s:Shared}
theorem qQU {a:Addr} {vs:List Value} {ns:List Int} {n:Nat} {P:Fin->Shared->Prop} (e0:s.heap.get? a=some (seqObj "list" vs.toArray n)) (ia:IntsAre vs ns) (hz:vs.length<=sizeLine)
  (h:∀ (out:Array Value) (zs:List Int),IntsAre out.toList zs->zs.Perm ns->zs.Pairwise (·<=·)->P (.done (.ret .none)) { s with heap:=sortedHeap s.heap a vs out }):wpAny (model prog w) A (Builtin.«list.sort» ⟨[.ref a],[]⟩) P E s:=by
 have la:=D0 e0;have z0:vs.toArray.size<=sizeLine:=by simpa using hz
 rw [list_sort_plain];refine wpAny_bind (listItems_at e0 rfl (wpAny_bind (listUpdate_at e0 rfl ?_ z0 (G5 _))));have e1:∃ k,(s.heap.update a (X0 fun _=>#[])).get? a=some (seqObj "list" #[] k):=⟨_,get?_update_seq e0 fun _=>#[]⟩;obtain ⟨k,e1⟩:=e1;refine wpAny_bind (seqEpoch_at e1 rfl (wpAny_bind (wpAny_newTuple ?_ (by simpa using hz))))
 refine wpAny_bind (wpAny_newList (wpAny_holding ?_));have e2:(((s.heap.update a (X0 fun _=>#[])).push (seqObj "tuple" vs.toArray 0)).push (seqObj "list" #[] 0)).get? a=some (seqObj "list" #[] k):=by
  rw [x5,x5]
  ·exact e1
  ·rw [A00];exact F0 la
  ·rw [size_push',A00];exact F0 (V1 la)
 have last:∀ xs:Array Keyed,xs.Perm (pairsOf vs)->SortedTo xs (pairsOf vs).size->P (.done (.ret .none)) { s with heap:=sortedHeap s.heap a vs (xs.map (·.2)) }:=by
  intro xs px sx;obtain ⟨zs,q1,q2,q3⟩:=sorted_out ia px sx;exact h _ zs q1 q2 q3
 have sz:∀ xs:Array Keyed,xs.Perm (pairsOf vs)->(xs.map (·.2)).size<=sizeLine+1:=by
  intro xs px;rw [A33,px.size_eq,pairsOf_size];omega
 show wpAny _ A _ P E { s with heap:=((s.heap.update a (X0 fun _=>#[])).push (seqObj "tuple" vs.toArray 0)).push (seqObj "list" #[] 0) };dsimp only;by_cases few:vs.toArray.size<2
 ·simp only [if_pos few];refine wpAny_bind (wpAny_pure ?_);rw [B61];refine wpAny_bind (wpAny_pure (wpAny_bind (seqEpoch_at e2 rfl (wpAny_bind (listUpdate_at e2 rfl ?_ (G5 _) (sz (pairsOf vs) (.refl _)))))));simp only [bne_self_eq_false,I0,if_false];refine wpAny_pure (last (pairsOf vs) (.refl _) fun i j hij hj=>?_);rw [pairsOf_size] at hj;rw [C5] at few;rw [show i=j by omega]
  exact O3 _
 ·simp only [if_neg few];have kk:keyKind' vs.toArray=pure oneType':=by
   match vs,few,ia with
   | [],few,_=>exact absurd (by simp) few
   | [_],few,_=>exact absurd (by simp) few
   | _::_::_,_,ia=>exact keyKind_ints ia
  rw [kk]
  letI:G.NM:=⟨numOf,fun v=>∃ n t,v=.int n t⟩
  haveI:G.LtOk prog w A { s with heap:=((s.heap.update a (X0 fun _=>#[])).push (seqObj "tuple" vs.toArray 0)).push (seqObj "list" #[] 0) } oneType':=⟨fun {x y Q E} hx hy h=>by
   obtain ⟨n,t,rfl⟩:=hx;obtain ⟨m,u,rfl⟩:=hy;rw [keyLt'_oneType];exact oneLt_int h⟩
  refine wpAny_bind (wpAny_pure (wpAny_bind (wpAny_mono (G.gwpS_runs (κ0:=oneType') (a₀:=pairsOf vs) (Q:=fun _ st2=>G.gSG oneType' (pairsOf vs) st2/\G.gSortedTo (arrOf st2) (pairsOf vs).size) ia.intKeys ⟨.refl _,rfl,rfl⟩ rfl fun st2 g u=>⟨g,u⟩) ?_ fun _ _ x=>x)));rintro ⟨_,st2⟩ s2 ⟨es,g,u⟩;cases (show s2=_ from es);refine wpAny_bind (seqEpoch_at e2 rfl (wpAny_bind (listUpdate_at e2 rfl ?_ (G5 _) (sz _ g.perm))));dsimp only;rw [g.failed];simp only [bne_self_eq_false,I0,if_false];exact wpAny_pure (last _ g.perm u)
end
section
variable {X:Cx}
theorem qQT {Ab:List (Addr × Obj)} {s:Shared} {σ:St} {H:Hp} {Q:VK} {A:Around} {E:Value->Shared->Prop} {ns:List Int} {D:Addr} (I:Inv X Ab σ (Ah H D (.lst (ns.map V.int))) s)
  (q:∀ zs:List Int,zs.Perm ns->zs.Pairwise (·<=·)->Q (.ref D) (Ah H D (.lst (zs.map V.int)))) :
  wpAny (model X.prog X.w) A (call (.builtin "list.sort") [.ref D]) (fun _ s'=>EP X Ab σ Q (.ref D) s') E s:=by
 obtain ⟨z,its,n,rv,hl,e⟩:=I.lstM qA1;have ia:=qC9 rv;have hlen:=rv.length;refine wpAny_call_entry slot_list_sort ⟨_,e,rfl⟩ entry_list_sort (qQU (ns:=ns) (n:=n) e ia (by rw [<- hlen];exact z) fun out zs a1 a2 a3=>⟨_,rfl,?_⟩) (args_list_sort _)
 obtain ⟨e2,hat⟩:=sortedHeap_at (vs:=its) (out:=out) e;refine ⟨.ref D,Ah H D (.lst (zs.map V.int)),?_,rfl,q zs a2 a3⟩;have hu:Ah (Ah H D (.lst (ns.map V.int))) D (.lst (zs.map V.int))=Ah H D (.lst (zs.map V.int)):=qGF;rw [<- hu];refine I.write (x:=D) (e:=D) (t':=s.toks) (by rw [qA1];exact trivial) (.inl rfl) (fun b u hb hbu=>?_) ⟨_,hat⟩ ?_
 ·rw [sortedHeap_old hb (D0 hbu)];exact hbu
 ·refine ⟨?_,out.toList,e2,qEH a1,by simpa using hat⟩
  rw [A0,a2.length_eq,<- A0 (f:=V.int)];exact z
theorem qR8 (hu:X.A.units<cLine):OpR X (compareOp .NotEq) (fun x y H Q=>∃ p l xs,x=.ref p/\y=.ref l/\SqL X.K H p xs/\SqL X.K H l []/\Q (.bl (!xs.isEmpty)) H):=by
 intro Ab s σ H x y v u Q I rx ry h;obtain ⟨p,l,xs,rfl,rfl,h1,h2,q⟩:=h;cases rx;cases ry;obtain ⟨its,r1,p1,z1⟩:=I.list h1;obtain ⟨its2,r2,p2,z2⟩:=I.list h2;cases r2;cases r1 with
 | nil=>exact B78 (e:=fun _=>true) p1.isList p2.isList rfl hu (fun j h _=>absurd h (by simp)) _ _ _ _ ⟨.bl false,H,I,rfl,q⟩
 | cons a r=>exact B22 p1.isList p2.isList (by simp) hu _ _ _ _ ⟨.bl true,H,I,rfl,q⟩
end
end L2
namespace L2
open PySem PySem.Spec PyProof.Rows
open PySem.AutoSeq1 in
theorem qPW (l:Addr) (Ae:Array Value) (n:Nat) (b:Addr) (items2:Array Value) (n2:Nat) (dd:Option Addr) (sl:Array (Option Value)) (hs0:¬(!Ae.isEmpty && T0 (Ae.size+items2.size))=true) (hs1:Ae.size<=sizeLine) (hs2:Ae.size+items2.size<=sizeLine+1) :
  Meets (Builtin.«list.extend» ⟨[.ref l,.ref b],[]⟩) (fun _ R s=>s.heap.get? l=some { cls:=.type "list",data:=.seq Ae n }/\s.heap.get? b=some ⟨.type "tuple",dd,.seq items2 n2,sl⟩/\R (.ok (.ret W8)) { s with heap:=s.heap.update l (X0 fun x=>x++items2),toks:=s.toks }):=
 .of_wp fun prog w A R s h=>by
  obtain ⟨hp,g,d,tk,os⟩:=s;obtain ⟨hl,hb,h⟩:=h;have f1:=idx_int;have f2:=A38;have f3:=AutoSeq1.sub_list_list;have f4:=AutoSeq1.sub_tuple_list;have f5:=AutoSeq1.sub_list_tuple;have hz':(Ae++items2).size<=sizeLine+1:=by rw [Array.size_append];exact hs2
  wp_walk using (wpAny_updateSeq hl rfl (hz:=hs1) (_hz':=hz')),wpAny_loadPart' hl,wpAny_loadPart' hb
  exact ⟨_,rfl,h⟩
section
variable {X:Cx}
def qTJ (K:PySem.W.Frag):V->List V->Hp->VK->Prop:=fun x vs H Q=>∃ l b xs zs,x=.ref l/\vs=[.ref b]/\H l=some (.lst xs)/\SqT K H b zs/\xs.length+zs.length<=sizeLine/\Q .non (Ah H l (.lst (xs++zs)))
theorem qPJ:MtM X "list.extend" (qTJ X.K):=by
 intro Ab s σ H x vs v us Q I rx rv h;obtain ⟨l,b,xs,zs,rfl,rfl,hH,hB,hz,q⟩:=h;cases rx;obtain ⟨u,rfl,ru⟩:=rv.one;cases ru;obtain ⟨z,its,n,r,hl,e⟩:=I.lstM hH;obtain ⟨its2,r2,p2,z2⟩:=I.tuple hB;have hl2:=r2.length;obtain ⟨⟨cls,dd,data,sl⟩,ho,hc,n2,hd⟩:=id p2;simp only at hc hd;subst hc hd;have hsz:its.toArray.size+its2.toArray.size<=sizeLine:=by rw [C5,C5];omega
 have hlong:¬ (!its.toArray.isEmpty && T0 (its.toArray.size+its2.toArray.size))=true:=by
  rw [qK2 hsz,P8];exact C6
 refine call_meets B15 ⟨_,e,rfl⟩ B01 (A87 _ _)
  (qPW l its.toArray n b its2.toArray n2 dd sl hlong (by rw [C5];omega) (by omega)) ⟨e,ho,?_⟩
 refine ⟨.non,_,I.lset (its':=its++its2) hH e (by simp) (r.append r2) ?_,rfl,q⟩
 rw [A8];omega
end
end L2
namespace L2
open PySem PySem.Spec PyProof.Rows
def topI (b:Int) (l:List Int):Int:=l.foldl (fun b x=>if x > b then x else b) b
section
variable {prog:Program} {w:World} {A:Around} {R:Result->Shared->Prop} {I:Addr} {fp wr:List Addr} {n:Nat} {P:Nat->Value->Prop} {St:Nat->Heap->Prop}
end
section
variable {prog:Program} {w:World} {A:Around} {E:Value->Shared->Prop} {s:Shared}
end
section
variable {X:Cx}
def topD (dv:Option Int):List Int->Option Int
 | []=>dv
 | y::r=>some (topI y r)
end
end L2
namespace L2
open PySem PySem.Spec PyProof.Rows
section
variable {prog:Program} {w:World} {A:Around} {E:Value->Shared->Prop} {s:Shared}
end
section
variable {prog:Program} {w:World} {A:Around} {R:Result->Shared->Prop} {I:Addr} {fp wr:List Addr} {n:Nat} {P:Nat->Value->Prop} {St:Nat->Heap->Prop}
end
section
variable {prog:Program} {w:World} {A:Around} {E:Value->Shared->Prop} {s:Shared}
end
section
variable {X:Cx}
theorem qJG (hu:X.A.units<cLine):OpR X (compareOp .Eq) (fun x y H Q=>∃ p l xs,x=.ref p/\y=.ref l/\SqT X.K H p xs/\SqT X.K H l []/\Q (.bl xs.isEmpty) H):=by
 intro Ab s σ H x y v u Q I rx ry h;obtain ⟨p,l,xs,rfl,rfl,h1,h2,q⟩:=h;cases rx;cases ry;obtain ⟨its,r1,p1,z1⟩:=I.tuple h1;obtain ⟨its2,r2,p2,z2⟩:=I.tuple h2;cases r2;cases r1 with
 | nil=>exact A67 (e:=fun _=>true) p1 p2 hu (fun j h _=>absurd h (by simp)) ⟨.bl true,H,I,rfl,q⟩
 | cons a r=>exact A67 (e:=fun _=>true) p1 p2 hu (fun j _ h=>absurd h (by simp)) ⟨.bl false,H,I,rfl,q⟩
end
end L2
namespace L2
open PySem PySem.Spec PyProof.Rows
section
variable {X:Cx}
def qZH (K:PySem.W.Frag):R2:=fun x y H Q=>∃ a b xs ys,x=.ref a/\y=.ref b/\SqT K H a xs/\SqT K H b ys/\ys ≠ []/\xs.length+ys.length<=sizeLine/\(xs=[]->Q (.ref b) H)/\(xs ≠ []->∀ p,H p=none->Q (.ref p) (Ah H p (.tup (xs++ys))))
theorem qW6:OpR X (binaryOp .Add) (qZH X.K):=by
 intro Ab s σ H x y v u Q I rx ry h;obtain ⟨a,b,xs,ys,rfl,rfl,ha,hb,hy,hz,q1,q2⟩:=h;by_cases hx:xs=[]
 ·subst hx;cases rx;cases ry;obtain ⟨its,r1,p1,_⟩:=I.tuple ha;obtain ⟨its2,r2,p2,_⟩:=I.tuple hb;cases r1;obtain ⟨⟨cls,dd,data,sl⟩,ho,hc,n,hd⟩:=id p1;obtain ⟨⟨cls2,dd2,data2,sl2⟩,ho2,hc2,n2,hd2⟩:=id p2;simp only at hc hd hc2 hd2;subst hc hd hc2 hd2;exact concat_meets ⟨_,ho,rfl⟩ ⟨_,ho2,rfl⟩ noFill_tuple_add seq_tuple_add h9 d4 (Z8 _ _) (tuple_addW0 a b #[] its2.toArray n n2 dd dd2 sl sl2 rfl) ⟨ho,ho2,.ref b,H,I,rfl,q1 rfl⟩
 ·exact qK1 Ab s σ H (.ref a) (.ref b) v u Q I rx ry ⟨a,b,xs,ys,rfl,rfl,ha,hb,hx,hz,fun z=>absurd z hy,fun _=>q2 hx⟩
end
end L2
namespace L2
open PySem
def g5:Nat->Nat
 | 0=>0
 | n+1=>5 * g5 n+1
theorem qOA:∀ n:Nat,5 ^ n=4 * g5 n+1
 | 0=>rfl
 | n+1=>by
  rw [W5,qOA n,g5];omega
theorem qS0 (m:Nat):∀ n:Nat,g5 (m+n)=5 ^ n * g5 m+g5 n
 | 0=>by simp [g5]
 | n+1=>by
  rw [<- A51,g5,qS0 m n,g5,W5,A17,<- d8,c6 5 (5 ^ n)];omega
theorem qV9 (n:Nat):g5 (n+n)=2 * (g5 n * (2 * g5 n+1)):=by
 rw [qS0,qOA,B62,A17 (g5 n),A17 2];have e1:4 * g5 n * g5 n=2 * (g5 n * (2 * g5 n)):=by
  rw [A41 (g5 n) 2,<- d8 2 2,d8 4]
 rw [e1];omega
theorem qMZ (k m:Nat) (h:m % 2=1):Nat.Coprime (2 ^ k) m:=by
 refine Nat.Coprime.pow_left k ?_;have:Nat.gcd 2 m=1:=by
  rw [Nat.gcd_rec,h]
  rfl
 exact this
theorem qV8:∀ (k n:Nat),2 ^ k ∣ g5 n->2 ^ k ∣ n
 | 0,n,_=>by simp
 | k+1,n,h=>by
  rcases Nat.mod_two_eq_zero_or_one n with e | e
  ·obtain ⟨m,rfl⟩:∃ m,n=m+m:=⟨n / 2,by omega⟩
   rw [qV9,W5,c6 (2 ^ k)] at h;have h2:2 ^ k ∣ g5 m * (2 * g5 m+1):=Nat.dvd_of_mul_dvd_mul_left (by decide) h
   have h3:2 ^ k ∣ g5 m:=(qMZ k (2 * g5 m+1) (by omega)).dvd_of_dvd_mul_right h2
   obtain ⟨c,hc⟩:=qV8 k m h3;exact ⟨c,by rw [W5,c6 (2 ^ k) 2,d8,<- hc];omega⟩
  ·obtain ⟨m,rfl⟩:∃ m,n=m+m+1:=⟨n / 2,by omega⟩
   exfalso
   rw [g5,qV9] at h;have h2:2 ∣ 5 * (2 * (g5 m * (2 * g5 m+1)))+1:=Nat.dvd_trans ⟨2 ^ k,by rw [W5,c6]⟩ h
   omega
def it5 (i n:Nat):Nat:=5 ^ n * i+g5 n
theorem qOK (i n:Nat):it5 i (n+1)=5 * it5 i n+1:=by
 unfold it5;rw [W5,g5,A17,<- d8,c6 5 (5 ^ n)];omega
theorem qWL {k i n d:Nat} (hd:0<d) (hlt:d<2 ^ k) (h:it5 i n % 2 ^ k=it5 i (n+d) % 2 ^ k):False:=by
 have e:it5 i (n+d)=it5 i n+5 ^ n * (g5 d * (4 * i+1)):=by
  unfold it5;rw [j4 n d,qS0 d n,Nat.pow_add,qOA d,A17 (g5 d),Nat.mul_one,A17 (5 ^ n)];have:(4 * g5 d+1) * 5 ^ n * i=5 ^ n * i+5 ^ n * (g5 d * (4 * i)):=by
   rw [B62,B63,B62,j4];congr 1;rw [c6 4,d8,d8,A41 (5 ^ n),A41 4 (5 ^ n)]
  rw [this];omega
 have h2:2 ^ k ∣ 5 ^ n * (g5 d * (4 * i+1)):=by
  rw [e] at h;have:=(Nat.dvd_iff_mod_eq_zero ..).mpr (Nat.sub_mod_eq_zero_of_mod_eq h.symm)
  rwa [Nat.add_sub_cancel_left] at this
 have h3:2 ^ k ∣ g5 d * (4 * i+1):=(qMZ k (5 ^ n) (by rw [qOA];omega)).dvd_of_dvd_mul_left h2
 have h4:2 ^ k ∣ g5 d:=(qMZ k (4 * i+1) (by omega)).dvd_of_dvd_mul_right h3
 have h5:=Nat.le_of_dvd hd (qV8 k d h4);omega
theorem qRO {k i j:Nat} (hj:j<2 ^ k):∃ n,n<2 ^ k/\it5 i n % 2 ^ k=j:=by
 apply P3;intro no;have nd:((J9 (2 ^ k)).map fun n=>it5 i n % 2 ^ k).Nodup:=by
  rw [A26,T1];refine i3.imp_of_mem fun {a b} ha hb hab e=>?_;have hb':=J7.mp hb;refine qWL (k:=k) (i:=i) (n:=a) (d:=b - a) (by omega) (by omega) ?_
  rw [show a+(b - a)=b by omega]
  exact e
 have sub:((J9 (2 ^ k)).map fun n=>it5 i n % 2 ^ k) ⊆ (J9 (2 ^ k)).filter fun x=>decide (x ≠ j):=fun x hx=>by
  obtain ⟨n,hn,e⟩:=G1.mp hx;refine V5.mpr ⟨J7.mpr (by rw [<- e];exact g8 _ (B64 k)),decide_eq_true fun z=>no ⟨n,J7.mp hn,e.trans z⟩⟩
 have l1:=G0 nd sub;have l2:((J9 (2 ^ k)).filter fun x=>decide (x ≠ j)).length<(J9 (2 ^ k)).length:=by
  refine List.length_filter_lt_length_iff_exists.mpr ⟨j,J7.mpr hj,by simp⟩
 rw [A0] at l1;omega
end L2
namespace L2
open PySem PySem.Spec PyProof.Rows
structure TabG (byText:Bool) (t:SetTable) (n:Nat):Prop where
 pow:∃ k,3<=k/\t.mask+1=2 ^ k
 dum:t.dummies=#[]
 plain:t.plain=true
 led:t.led=!byText
 size:t.place.size=n
 up:t.place.toList.Pairwise (·<·)
 le:∀ j ∈ t.place.toList,j<=t.mask
def qI9 (mask i pt:Nat):SetTable.Probe:={ j:=i,more:=O6 mask i - i,i:=i,perturb:=pt,dummy:=none }
theorem qL4 {mask i:Nat} (h:i<=mask):O6 mask i<=mask/\i<=O6 mask i/\O6 mask i<=i+9:=by
 unfold O6
 split <;> omega
section
variable {byText:Bool} {t:SetTable} {n:Nat}
theorem TabG.slot (T:TabG byText t n) (j:Nat):(t.slot j=.empty/\j ∉ t.place.toList)\/(∃ i,t.slot j=.live i/\j ∈ t.place.toList):=by
 have hd:A73 t.dummies j=false:=by rw [T.dum];rfl
 obtain ⟨b1,b2,b3⟩:=qCW (j:=j) T.up;unfold B83;dsimp only;by_cases hc:t.place[D6 t.place j]?=some j
 ·rw [if_pos (by rw [hc];simp)]
  exact .inr ⟨_,rfl,by rw [<- B84];exact A74 hc⟩
 ·rw [if_neg (by simpa using hc),hd,if_neg (by simp)]
  refine .inl ⟨rfl,fun hm=>hc ?_⟩;obtain ⟨i,hi,he⟩:=T8.mp hm;have hi':i<t.place.size:=by simpa using hi
  have he':t.place.getD i j=j:=by
   rw [E2,C3 hi'];simpa using he
  have h1:¬ i<D6 t.place j:=fun z=>by have:=b2 i z;omega
  have h2:D6 t.place j=i:=by
   apply B60 (d9 h1);apply d9;intro z;have:=b3 (D6 t.place j) (C1 _) (by omega)
   have:=qQI j T.up _ _ z hi';omega
  rw [h2,C3 hi'];simpa using he
theorem TabG.run (T:TabG byText t n) (h:Int) (i pt:Nat):∀ (more j f:Nat),(∃ j',G2 t (fun _=>h+1) h (more+1+f) { j:=j,more:=more,i:=i,perturb:=pt,dummy:=none }=some (.empty j' none)/\j' ∉ t.place.toList/\j'<=j+more)\/
  (G2 t (fun _=>h+1) h (more+1+f) { j:=j,more:=more,i:=i,perturb:=pt,dummy:=none }=G2 t (fun _=>h+1) h f (qI9 t.mask ((i * 5+1+pt / 32) % (t.mask+1)) (pt / 32))/\j ∈ t.place.toList):=by
 intro more
 induction more with
 | zero=>
  intro j f;rw [A28,j4 1 f];rcases T.slot j with ⟨e,m⟩ | ⟨k,e,m⟩
  ·left
   refine ⟨j,?_,m,C1 _⟩;unfold G2;dsimp only;rw [e]
  ·right
   refine ⟨?_,m⟩;rw [G2];dsimp only;rw [e];dsimp only;rw [if_neg (by simp;omega)]
   rfl
 | succ more ih=>
  intro j f;rw [show more+1+1+f=more+1+f+1 by omega]
  rcases T.slot j with ⟨e,m⟩ | ⟨k,e,m⟩
  ·left
   refine ⟨j,?_,m,A54 _ _⟩;unfold G2;dsimp only;rw [e]
  ·have st:G2 t (fun _=>h+1) h (more+1+f+1) { j:=j,more:=more+1,i:=i,perturb:=pt,dummy:=none }=G2 t (fun _=>h+1) h (more+1+f) { j:=j+1,more:=more,i:=i,perturb:=pt,dummy:=none }:=by
    rw [G2];dsimp only;rw [e];dsimp only;rw [if_neg (by simp;omega)]
    unfold B43;dsimp only;rw [if_pos (by omega)]
    rfl
   rw [st];rcases ih (j+1) f with ⟨j',e1,e2,e3⟩ | ⟨e1,_⟩
   ·exact .inl ⟨j',e1,e2,by omega⟩
   ·exact .inr ⟨e1,m⟩
theorem TabG.leap (T:TabG byText t n) (h:Int) (i pt F:Nat) (hi:i<=t.mask) (hF:10<=F):(∃ j',G2 t (fun _=>h+1) h F (qI9 t.mask i pt)=some (.empty j' none)/\j' ∉ t.place.toList/\j'<=t.mask)\/
  (∃ F',F<=F'+10/\G2 t (fun _=>h+1) h F (qI9 t.mask i pt)=G2 t (fun _=>h+1) h F' (qI9 t.mask ((i * 5+1+pt / 32) % (t.mask+1)) (pt / 32))/\i ∈ t.place.toList):=by
 obtain ⟨r1,r2,r3⟩:=qL4 hi;have e:F=(O6 t.mask i - i)+1+(F - 1 - (O6 t.mask i - i)):=by omega
 rcases T.run h i pt (O6 t.mask i - i) i (F - 1 - (O6 t.mask i - i)) with ⟨j',e1,e2,e3⟩ | ⟨e1,e2⟩
 ·refine .inl ⟨j',?_,e2,by omega⟩
  rw [e];exact e1
 ·refine .inr ⟨F - 1 - (O6 t.mask i - i),by omega,?_,e2⟩
  conv=>lhs;rw [e]
  exact e1
theorem TabG.go0 (T:TabG byText t n) (h:Int):∀ (m q i F:Nat),i<=t.mask->10 * m<=F->(∃ j',G2 t (fun _=>h+1) h F (qI9 t.mask (it5 i q % (t.mask+1)) 0)=some (.empty j' none)/\j' ∉ t.place.toList/\j'<=t.mask)\/(∀ c,c<m->it5 i (q+c) % (t.mask+1) ∈ t.place.toList)
 | 0,q,i,F,hi,hF=>.inr fun c hc=>absurd hc (by omega)
 | m+1,q,i,F,hi,hF=>by
  have lt:it5 i q % (t.mask+1)<t.mask+1:=g8 _ (by omega)
  rcases T.leap h (it5 i q % (t.mask+1)) 0 F (by omega) (by omega) with ok | ⟨F',hF',e,z⟩
  ·exact .inl ok
  ·have e2:((it5 i q % (t.mask+1)) * 5+1+0 / 32) % (t.mask+1)=it5 i (q+1) % (t.mask+1):=by
    rw [qOK,A78,y9,c6,B05,B06,Nat.mod_mod,<- B06,<- B05]
   rw [e2,A78] at e;rw [e];rcases T.go0 h m (q+1) i F' hi (by omega) with ok | all
   ·exact .inl ok
   ·refine .inr fun c hc=>?_;cases c with
    | zero=>exact z
    | succ c=>
     have:=all c (by omega)
     rw [show q+(c+1)=q+1+c by omega]
     exact this
theorem TabG.goK (T:TabG byText t n) (hn:n<=t.mask) (h:Int):∀ (k i pt F:Nat),i<=t.mask->pt<32 ^ k->10 * (k+(t.mask+1))<=F->∃ j',G2 t (fun _=>h+1) h F (qI9 t.mask i pt)=some (.empty j' none)/\j' ∉ t.place.toList/\j'<=t.mask
 | 0,i,pt,F,hi,hp,hF=>by
  have e:pt=0:=by omega
  subst e;have e0:it5 i 0 % (t.mask+1)=i:=by
   unfold it5 g5;rw [Nat.pow_zero,B63,y9,B48 (by omega)]
  have q:=T.go0 h (t.mask+1) 0 i F hi (by omega)
  rw [e0] at q;rcases q with ok | all
  ·exact ok
  ·exfalso
   obtain ⟨k,_,hk⟩:=T.pow;have sub:J9 (t.mask+1) ⊆ t.place.toList:=fun j hj=>by
    have hj':=J7.mp hj;rw [hk] at hj';obtain ⟨m,hm,e⟩:=qRO (i:=i) hj';rw [<- hk] at hm e;have:=all m hm;rw [A28,e] at this;exact this
   have:=G0 A58 sub;have hs:=T.size;simp at this;omega
 | k+1,i,pt,F,hi,hp,hF=>by
  rcases T.leap h i pt F hi (by omega) with ok | ⟨F',hF',e,z⟩
  ·exact ok
  ·rw [e];have lt:(i * 5+1+pt / 32) % (t.mask+1)<t.mask+1:=g8 _ (by omega)
   refine T.goK hn h k _ _ F' (by omega) ?_ (by omega)
   rw [W5] at hp;omega
theorem qST (h:Int):J5 h<32 ^ 13:=by
 unfold J5;have h1:0<=h % (2 ^ 64:Int):=b0 _ (by decide)
 have h2:h % (2 ^ 64:Int)<2 ^ 64:=W1 _ (by decide)
 have:((2:Int) ^ 64)=18446744073709551616:=by decide
 rw [this] at h1 h2 ⊢;have h3:(32:Nat) ^ 13=36893488147419103232:=by decide
 omega
theorem TabG.free (T:TabG byText t n) (hn:n<=t.mask) (h:Int):∃ j,t.freeSlot h=some (j,false)/\j ∉ t.place.toList/\j<=t.mask:=by
 have lt:J5 h % (t.mask+1)<t.mask+1:=g8 _ (by omega)
 obtain ⟨j,e,z,l⟩:=T.goK hn h 13 (J5 h % (t.mask+1)) (J5 h) (10 * W7 t.mask) (by omega) (qST h) (by unfold W7;omega)
 refine ⟨j,?_,z,l⟩;unfold B26 B71;have hst:t.probeStart h=qI9 t.mask (J5 h % (t.mask+1)) (J5 h):=rfl;rw [hst,e]
 rfl
theorem TabG.lay (T:TabG byText t n) (hn:n<t.mask) {es:Array (Int × Value)} (he:es.size=n) (h:Int) (x:Value) :
  ∃ p t',layNew t es h x=(E1 es p (h,x),t',false,false)/\TabG byText t' (n+1)/\t'.mask=t.mask/\p<=es.size:=by
 obtain ⟨j,e,z,l⟩:=T.free (by omega) h
 obtain ⟨b1,b2,b3⟩:=qCW (j:=j) T.up;have hd:A73 t.dummies j=false:=by rw [T.dum];rfl
 have tl:(E1 t.place (D6 t.place j) j).toList=t.place.toList.take (D6 t.place j)++j::t.place.toList.drop (D6 t.place j):=qAX _ _ _;have sz:(E1 t.place (D6 t.place j) j).size=n+1:=by
  rw [<- C2,tl,A8,E3,E5,F5,C2,T.size];rw [T.size] at b1;omega
 have T':TabG byText { t with place:=E1 t.place (D6 t.place j) j,dummies:=t.dummies } (n+1):=by
  refine ⟨T.pow,T.dum,T.plain,T.led,sz,?_,?_⟩
  ·show (E1 t.place (D6 t.place j) j).toList.Pairwise (·<·);rw [tl];have lo:∀ a ∈ t.place.toList.take (D6 t.place j),a<j:=fun a ha=>by
    obtain ⟨i,hi,hai⟩:=T8.mp ha;rw [E5,C2] at hi;have hi2:i<t.place.size:=by omega
    have:=b2 i (by omega)
    rw [E2,C3 hi2] at this;rw [w6] at hai;rw [<- hai];simpa using this
   have hi:∀ a ∈ t.place.toList.drop (D6 t.place j),j<a:=fun a ha=>by
    have hm:a ∈ t.place.toList:=M9 ha;obtain ⟨i,hi,hai⟩:=T8.mp ha;rw [F5,C2] at hi;have hi2:D6 t.place j+i<t.place.size:=by omega
    have:=b3 _ (A54 _ i) hi2;rw [E2,C3 hi2] at this;rw [x0] at hai;have h3:j<=a:=by
     rw [<- hai];simpa using this
    rcases B16 h3 with h4 | h4
    ·exact h4
    ·exact absurd (h4 ▸ hm) z
   refine P4.mpr ⟨T.up.sublist (Z7 _ _),R3.mpr ⟨hi,T.up.sublist (b7 _ _)⟩,fun a ha b hb=>?_⟩;rcases D9.mp hb with e | hb
   ·rw [e];exact lo a ha
   ·exact y8 (lo a ha) (hi b hb)
  ·show ∀ i ∈ (E1 t.place (D6 t.place j) j).toList,i<=t.mask;rw [tl];intro i hi;rcases C8.mp hi with hi | hi
   ·exact T.le i (T9 hi)
   ·rcases D9.mp hi with e | hi
    ·omega
    ·exact T.le i (M9 hi)
 have fits:d6 { t with place:=E1 t.place (D6 t.place j) j,dummies:=t.dummies } (n+1)=true:=by
  unfold d6 l0;dsimp only;rw [sz,T.dum];have:((#[]:Array Nat)).size=0:=rfl;simp only [this,beq_self_eq_true,R7,decide_eq_true_eq];omega
 have szE:(E1 es (D6 t.place j) (h,x)).size=n+1:=by
  rw [<- C2,qAX,A8,E3,E5,F5,C2];rw [T.size] at b1;omega
 refine ⟨D6 t.place j,{ t with place:=E1 t.place (D6 t.place j) j,dummies:=t.dummies },?_,T',rfl,by rw [he,<- T.size];exact b1⟩
 unfold layNew;rw [e];dsimp only;unfold B92;rw [hd];dsimp only;rw [szE];unfold B17;simp only [I0,if_false];rw [fits];simp
end
end L2
namespace L2
open PySem PySem.Spec PyProof.Rows
theorem qR5 {α:Type}:∀ {l m:List α},l.Nodup->m.Nodup->(∀ x,x ∈ l ↔ x ∈ m)->l.Perm m
 | [],[],_,_,_=>.refl _
 | [],y::m,_,_,h=>absurd ((h y).mpr C9) (by simp)
 | x::l,m,hl,hm,h=>by
  obtain ⟨s,t,rfl⟩:=List.append_of_mem ((h x).mp C9);have l1:=O0.mp hl;have m1:(x::(s++t)).Nodup:=(A59.nodup_iff).mp hm;have m2:=O0.mp m1;refine ((qR5 l1.2 m2.2 fun y=>?_).cons x).trans A59.symm;have key:=h y;rw [D9,A59.mem_iff,D9] at key
  constructor
  ·intro hy;rcases key.mp (.inr hy) with e | e
   ·exact absurd (e ▸ hy) l1.1
   ·exact e
  ·intro hy;rcases key.mpr (.inr hy) with e | e
   ·exact absurd (e ▸ hy) m2.1
   ·exact e
theorem qH1:∀ (fuel k n:Nat),3<=k->n<2 ^ k * 2 ^ fuel->∃ k',3<=k'/\A79 n fuel (2 ^ k)=2 ^ k'/\n<2 ^ k'
 | 0,k,n,hk,h=>⟨k,hk,rfl,by simpa using h⟩
 | fuel+1,k,n,hk,h=>by
  rw [A79];by_cases c:2 ^ k<=n
  ·rw [if_pos c,<- W5];exact qH1 fuel (k+1) n (by omega) (by rw [W5,d8,<- Nat.pow_succ'];exact h)
  ·rw [if_neg c];exact ⟨k,hk,rfl,by omega⟩
theorem qKW {n:Nat} (h:n<=1000000):∃ k,3<=k/\t7 n=2 ^ k/\n<2 ^ k:=by
 unfold t7;exact qH1 64 3 n (C1 _) (Y9 h (by decide))
section
variable {mask:Nat} {owner:Array (Option Nat)}
theorem qYQ (i pt F:Nat) (hi:i<=mask):(∃ j,K9 mask owner (F+1) i pt=some j/\owner.getD j (some 0)=none/\j<=mask)\/
  (K9 mask owner (F+1) i pt=K9 mask owner F ((i * 5+1+pt / 32) % (mask+1)) (pt / 32)/\owner.getD i (some 0) ≠ none):=by
 obtain ⟨r1,r2,r3⟩:=qL4 hi;cases e:(J9 (O6 mask i+1 - i)).find? fun k=>(owner.getD (i+k) (some 0)).isNone with
 | some k=>
  left
  have h1:=List.find?_some e;have h2:=J7.mp (List.mem_of_find?_eq_some e);refine ⟨i+k,?_,by simpa using h1,by omega⟩
  rw [K9,e]
 | none=>
  right
  refine ⟨?_,?_⟩
  ·rw [K9,e]
   rfl
  ·have:=List.find?_eq_none.mp e 0 (J7.mpr (by omega))
   simpa using this
theorem qYR:∀ (m q i F:Nat),i<=mask->m<=F->(∃ j,K9 mask owner F (it5 i q % (mask+1)) 0=some j/\owner.getD j (some 0)=none/\j<=mask)\/(∀ c,c<m->owner.getD (it5 i (q+c) % (mask+1)) (some 0) ≠ none)
 | 0,q,i,F,hi,hF=>.inr fun c hc=>absurd hc (by omega)
 | m+1,q,i,F,hi,hF=>by
  have lt:it5 i q % (mask+1)<mask+1:=g8 _ (by omega)
  obtain ⟨F',rfl⟩:∃ F',F=F'+1:=⟨F - 1,by omega⟩
  rcases qYQ (mask:=mask) (owner:=owner) (it5 i q % (mask+1)) 0 F' (by omega) with ok | ⟨e,z⟩
  ·exact .inl ok
  ·have e2:((it5 i q % (mask+1)) * 5+1+0 / 32) % (mask+1)=it5 i (q+1) % (mask+1):=by
    rw [qOK,A78,y9,c6,B05,B06,Nat.mod_mod,<- B06,<- B05]
   rw [e2,A78] at e;rw [e];rcases qYR m (q+1) i F' hi (by omega) with ok | all
   ·exact .inl ok
   ·refine .inr fun c hc=>?_;cases c with
    | zero=>exact z
    | succ c=>
     have:=all c (by omega)
     rw [show q+(c+1)=q+1+c by omega]
     exact this
theorem qYP {p:Nat} (hp:mask+1=2 ^ p) {j0:Nat} (h0:j0<=mask) (hj0:owner.getD j0 (some 0)=none):∀ (k i pt F:Nat),i<=mask->pt<32 ^ k->k+(mask+1)<=F->∃ j,K9 mask owner F i pt=some j/\owner.getD j (some 0)=none/\j<=mask
 | 0,i,pt,F,hi,hpt,hF=>by
  have e:pt=0:=by omega
  subst e;have e0:it5 i 0 % (mask+1)=i:=by
   unfold it5 g5;rw [Nat.pow_zero,B63,y9,B48 (by omega)]
  have q:=qYR (mask:=mask) (owner:=owner) (mask+1) 0 i F hi (by omega)
  rw [e0] at q;rcases q with ok | all
  ·exact ok
  ·exfalso
   obtain ⟨m,hm,e⟩:=qRO (k:=p) (i:=i) (j:=j0) (by omega)
   rw [<- hp] at hm e;have:=all m hm;rw [A28,e] at this;exact this hj0
 | k+1,i,pt,F,hi,hpt,hF=>by
  obtain ⟨F',rfl⟩:∃ F',F=F'+1:=⟨F - 1,by omega⟩
  rcases qYQ (mask:=mask) (owner:=owner) i pt F' hi with ok | ⟨e,z⟩
  ·exact ok
  ·rw [e];have lt:(i * 5+1+pt / 32) % (mask+1)<mask+1:=g8 _ (by omega)
   refine qYP hp h0 hj0 k _ _ F' (by omega) ?_ (by omega)
   rw [W5] at hpt;omega
end
structure Own (N:Nat) (L:List Nat) (owner:Array (Option Nat)):Prop where
 size:owner.size=N
 nd:L.Nodup
 lt:∀ j ∈ L,j<N
 at_:∀ (m j:Nat),L[m]?=some j->owner[j]?=some (some m)
 no:∀ j,j<N->j ∉ L->owner[j]?=some none
theorem Own.put {N:Nat} {L:List Nat} {owner:Array (Option Nat)} (o:Own N L owner) {j:Nat} (hj:j<N) (hn:j ∉ L):Own N (L++[j]) (owner.setIfInBounds j (some L.length)):=by
 refine ⟨by simp [o.size],qIC o.nd hn,fun i hi=>?_,fun m i h=>?_,fun i hi hni=>?_⟩
 ·rcases C8.mp hi with hi | hi
  ·exact o.lt i hi
  ·rw [C0.mp hi];exact hj
 ·by_cases c:m<L.length
  ·rw [F6 c] at h;have ne:j ≠ i:=fun z=>hn (z ▸ D8 h);rw [x6 ne];exact o.at_ m i h
  ·rw [E8 (by omega)] at h
   have hm:m=L.length:=by
    have:=(B0.mp h).1;simp at this;omega
   subst hm;rw [W4] at h;cases h;rw [Array.getElem?_setIfInBounds_self_of_lt (by rw [o.size];exact hj)]
 ·have ne:j ≠ i:=fun z=>hni (C8.mpr (.inr (by rw [z];exact C0.mpr rfl)))
  rw [x6 ne];exact o.no i hi fun z=>hni (C8.mpr (.inl z))
theorem qOG {mask p:Nat} (hp:mask+1=2 ^ p):∀ (hs:List Int) (L:List Nat) (owner:Array (Option Nat)),Own (mask+1) L owner->L.length+hs.length<=mask->
  ∃ L' owner',hs.foldl (fun (acc:Option (Array (Option Nat) × Nat)) (h:Int)=>acc >>= fun x=>K9 mask x.1 (W7 mask) (J5 h % (mask+1)) (J5 h) >>= fun j=>some (x.1.setIfInBounds j (some x.2),x.2+1)) (some (owner,L.length))=some (owner',L'.length)/\Own (mask+1) L' owner'/\L'.length=L.length+hs.length
 | [],L,owner,o,_=>⟨L,owner,rfl,o,by simp⟩
 | h::hs,L,owner,o,hl=>by
  rw [E3] at hl;obtain ⟨j0,hj0,hjn⟩:∃ j0,j0<mask+1/\j0 ∉ L:=by
   apply P3;intro no;have sub:J9 (mask+1) ⊆ L:=fun j hj=>P3 fun z=>no ⟨j,J7.mp hj,z⟩;have:=G0 A58 sub;simp at this;omega
  have g0:owner.getD j0 (some 0)=none:=by
   rw [E2,o.no j0 hj0 hjn]
   rfl
  have lt:J5 h % (mask+1)<mask+1:=g8 _ (by omega)
  obtain ⟨j,e,z,l⟩:=qYP hp (by omega) g0 13 (J5 h % (mask+1)) (J5 h) (W7 mask) (by omega) (qST h) (by unfold W7;omega)
  have jn:j ∉ L:=fun hm=>by
   obtain ⟨m,hm⟩:=R1 hm;rw [E2,o.at_ m j hm] at z;cases z
  have st:=o.put (show j<mask+1 by omega) jn
  obtain ⟨L',owner',e1,o',e2⟩:=qOG hp hs (L++[j]) _ st (by rw [A8,D5];omega)
  refine ⟨L',owner',?_,o',by rw [e2,A8,D5,E3];omega⟩
  rw [X8];have e3:((some (owner,L.length):Option (Array (Option Nat) × Nat)) >>= fun x=>K9 mask x.1 (W7 mask) (J5 h % (mask+1)) (J5 h) >>= fun j=>some (x.1.setIfInBounds j (some x.2),x.2+1))=some (owner.setIfInBounds j (some L.length),(L++[j]).length):=by
   show (K9 mask owner (W7 mask) (J5 h % (mask+1)) (J5 h) >>= _)=_;rw [e,A8,D5]
   rfl
  rw [e3];exact e1
theorem qW4 (N:Nat):Own N [] (B65 N none):=⟨by simp,.nil,fun _ h=>(nomatch h),fun m j h=>by simp at h,fun j hj _=>by simp [hj]⟩
theorem qN7 {mask p:Nat} (hp:mask+1=2 ^ p) (hashes:Array Int) (hl:hashes.size<=mask):∃ L owner,B34 mask hashes=some owner/\Own (mask+1) L owner/\L.length=hashes.size:=by
 obtain ⟨L,owner,e,o,l⟩:=qOG hp hashes.toList [] _ (qW4 (mask+1)) (by simpa using hl)
 refine ⟨L,owner,?_,o,by simpa using l⟩
 unfold B34;rw [<- Array.foldl_toList];have:(hashes.toList.foldl (fun (acc:Option (Array (Option Nat) × Nat)) (h:Int)=>do
   let (owner,k) <- acc
   let j <- K9 mask owner (W7 mask) (J5 h % (mask+1)) (J5 h)
   pure (owner.setIfInBounds j (some k),k+1)) (some (B65 (mask+1) none,0)))=some (owner,L.length):=e
 rw [this]
 rfl
theorem qL7 {α:Type}:∀ l:List α,(J9 l.length).filterMap (fun i=>l[i]?)=l
 | []=>rfl
 | a::l=>by
  rw [E3,A66,c9];show a::((J9 l.length).map Nat.succ).filterMap (fun i=>(a::l)[i]?)=a::l;rw [B13];congr 1;exact qL7 l
theorem qTH {b:Bool} {t:SetTable} {n:Nat} (T:TabG b t n) {es:Array (Int × Value)} (he:es.size=n) {wanted:Nat} (hw:wanted<=1000000) (hn:n<wanted) :
  ∃ es' t',relayAll t es wanted=(es',t',false)/\es'.toList.Perm es.toList/\TabG b t' n/\wanted<=t'.mask:=by
 obtain ⟨k,k3,hk,hlt⟩:=qKW hw;have hmk:t7 wanted - 1+1=2 ^ k:=by rw [hk];have:=B64 k;omega
 have h8:8<=2 ^ k:=by
  have:=A03 (n:=2) (by decide) k3
  exact this
 obtain ⟨L,owner,e,o,l⟩:=qN7 hmk (es.map (·.1)) (by rw [A33,he,hk];omega)
 rw [A33,he] at l;generalize hM:t7 wanted - 1=M at *;have fa:∀ j m,(owner.getD j none).map (fun x=>(j,x))=some (j,m) ↔ L[m]?=some j:=by
  intro j m;rw [E2];by_cases hj:j<M+1
  ·by_cases hjL:j ∈ L
   ·obtain ⟨m',hm'⟩:=R1 hjL;rw [o.at_ m' j hm']
    constructor
    ·intro z;have:m'=m:=by simpa using z
     rw [<- this];exact hm'
    ·intro z;have:some (some m')=some (some m):=(o.at_ m' j hm').symm.trans (o.at_ m j z);cases this
     rfl
   ·rw [o.no j hj hjL]
    constructor
    ·intro z;simp at z
    ·intro z;exact absurd (D8 z) hjL
  ·rw [Array.getElem?_eq_none (by rw [o.size];omega)]
   constructor
   ·intro z;simp at z
   ·intro z;exact absurd (o.lt j (D8 z)) hj
 have sh:∀ j x,x ∈ ((owner.getD j none).map fun y=>(j,y))->x.1=j/\L[x.2]?=some j:=by
  intro j x hx;have hx':(owner.getD j none).map (fun y=>(j,y))=some x:=hx;obtain ⟨y,hy,e⟩:=U0.mp hx';subst e;exact ⟨rfl,(fa j y).mp hx'⟩
 generalize hlive:(J9 (M+1)).filterMap (fun j=>(owner.getD j none).map (fun x=>(j,x)))=live;have p1:live.Pairwise fun a c=>a.1<c.1:=by
  rw [<- hlive,A52];refine i3.imp fun {a c} hac x hx y hy=>?_;rw [(sh a x hx).1,(sh c y hy).1];exact hac
 have p2:live.Pairwise fun a c=>a.2 ≠ c.2:=by
  rw [<- hlive,A52];refine i3.imp fun {a c} hac x hx y hy z=>?_;have h1:=(sh a x hx).2;have h2:=(sh c y hy).2;rw [z,h2] at h1;cases h1;omega
 have mem:∀ m,m ∈ live.map (·.2) ↔ m ∈ J9 n:=by
  intro m;rw [G1,J7]
  constructor
  ·rintro ⟨x,hx,rfl⟩;rw [<- hlive] at hx;obtain ⟨j,_,hj⟩:=i5.mp hx;have:=(B0.mp (sh j x hj).2).1;omega
  ·intro hm;have hm':m<L.length:=by omega
   have hL:=B9 hm';refine ⟨(L[m],m),?_,rfl⟩;rw [<- hlive];exact i5.mpr ⟨L[m],J7.mpr (o.lt _ (A56 hm')),(fa L[m] m).mpr hL⟩
 have pm:(live.map (·.2)).Perm (J9 n):=qR5 (by rw [A26,T1];exact p2) A58 mem
 have ll:live.length=n:=by have:=pm.length_eq;simpa using this
 have es':((live.map (·.2)).toArray.filterMap (fun i=>es[i]?)).toList.Perm es.toList:=by
  rw [Array.toList_filterMap];have:=pm.filterMap (fun i=>es[i]?);have e2:(J9 n).filterMap (fun i=>es[i]?)=es.toList:=by
   have:=qL7 es.toList;rw [C2,he] at this;simpa using this
  rw [e2] at this;simpa using this
 have szE:((live.map (·.2)).toArray.filterMap (fun i=>es[i]?)).size=n:=by
  rw [<- C2,es'.length_eq,C2,he]
 refine ⟨(live.map (·.2)).toArray.filterMap (fun i=>es[i]?),{ mask:=M,place:=(live.map (·.1)).toArray,dummies:=#[],finger:=t.finger,led:=t.led,moves:=t.movedTo M,plain:=t.plain },?_,es',⟨⟨k,k3,hmk⟩,rfl,T.plain,T.led,by simp [ll],?_,?_⟩,?_⟩
 ·have er:t.relaid (es.map (·.1)) wanted=some ({ mask:=M,place:=(live.map (·.1)).toArray,dummies:=#[],finger:=t.finger,led:=t.led,moves:=t.movedTo M,plain:=t.plain },(live.map (·.2)).toArray):=by
   unfold SetTable.relaid SetTable.laid;rw [hM,e];show some _=some _;rw [<- hlive]
  unfold relayAll;rw [er];dsimp only;have c1:coversAll (live.map (·.2)).toArray es.size=true:=by
   unfold coversAll;rw [he];exact List.isPerm_iff.mpr pm
  have c2:d6 { mask:=M,place:=(live.map (·.1)).toArray,dummies:=#[],finger:=t.finger,led:=t.led,moves:=t.movedTo M,plain:=t.plain } ((live.map (·.2)).toArray.filterMap (fun i=>es[i]?)).size=true:=by
   unfold d6 l0;rw [szE];simp [ll];omega
  rw [c1,c2]
  rfl
 ·show (live.map (·.1)).toArray.toList.Pairwise (·<·);rw [B07,T1];exact p1
 ·show ∀ j ∈ (live.map (·.1)).toArray.toList,j<=M;intro j hj;rw [B07] at hj;obtain ⟨x,hx,rfl⟩:=G1.mp hj;rw [<- hlive] at hx;obtain ⟨i,hi,hx⟩:=i5.mp hx;rw [(sh i x hx).1];have:=J7.mp hi;omega
 ·show wanted<=M;omega
end L2
namespace L2
open PySem PySem.Spec PyProof.Rows
def SetG (w:World) (a:Addr) (zs:List Int) (h:Heap):Prop:=
 ∃ (es:Array (Int × Value)) (ep:Nat) (t:SetTable) (ks:List Int),h.get? a=some { cls:=.type "set",data:=.set es ep t }/\TabG (byT w) t es.size/\Ents ks es.toList/\ks.Perm zs/\zs.Nodup/\zs.length<4095/\es.size * 5<t.mask * 3
theorem SetG.at {w:World} {a:Addr} {zs:List Int} {h h':Heap} (x:SetG w a zs h) (k:∀ o,h.get? a=some o->h'.get? a=some o):SetG w a zs h':=
 let ⟨es,ep,t,ks,h1,r⟩:=x;⟨es,ep,t,ks,k _ h1,r⟩
theorem TabG.fits {b:Bool} {t:SetTable} {n:Nat} (T:TabG b t n) (hn:n<=t.mask):t.fits n=true:=by
 unfold d6 l0;rw [T.size,T.dum];have:((#[]:Array Nat)).size=0:=rfl;simp only [this,beq_self_eq_true,R7,decide_eq_true_eq];omega
theorem TabG.mask7 {b:Bool} {t:SetTable} {n:Nat} (T:TabG b t n):7<=t.mask:=by
 obtain ⟨k,k3,hk⟩:=T.pow;have:=A03 (n:=2) (by decide) k3
 omega
theorem insertAt_perm {es:Array (Int × Value)} {p:Nat} {x:Int × Value}:(E1 es p x).toList.Perm (es.toList++[x]):=by
 rw [qAX];have e3:es.toList++[x]=es.toList.take p++(es.toList.drop p++[x]):=by
  rw [<- P0,V8]
 rw [e3];exact j6 _ (A23 _ _).symm
section
variable {prog:Program} {w:World} {A:Around} {E:Value->Shared->Prop} {s:Shared}
theorem qUT {a:Addr} {es es':Array (Int × Value)} {ep:Nat} {t t':SetTable} {h:Heap} (ho:h.get? a=some { cls:=.type "set",data:=.set es ep t }) :
  (h.update a (B28 es' t')).get? a=some { cls:=.type "set",data:=.set es' (ep+1) t' }:=by
 have:=P6 (B28 es' t') ho (by rw [putSet_of _ _ (ep:=ep) (es:=es) (t:=t) rfl];rfl)
 rw [putSet_of _ _ (ep:=ep) (es:=es) (t:=t) rfl] at this;exact this
theorem qTF {a:Addr} {zs:List Int} {k:Int} {tk:Tok} {Q:Bool->Shared->Prop} (hS:SetG w a zs s.heap) (hroom:zs.length<4094)
  (h:∀ h',Heap.SameBut a s.heap h'->SetG w a (addI zs k) h'->∀ b,Q b { s with heap:=h' }):wpAny (model prog w) A (setAddHashed a (.int k tk) (hashInt k)) Q E s:=by
 obtain ⟨es,ep,t,ks,ho,T,he,hp,hnd,hlen,hroom2⟩:=id hS;have hsz:es.size=zs.length:=SetI.size (a:=a) (h:=s.heap) he hp;have hel:ElemsOf (intKind prog w) es.toList:=he.elems;have h7:=T.mask7;have hb:es.size<scanBound:=by rw [hsz];unfold scanBound;omega
 have hf:t.fits es.size=true:=T.fits (by omega)
 unfold setAddHashed setAddHashedIn;refine wpAny_holding (wpAny_bind (wpAny_setState_of ho rfl hf ?_));dsimp only;rw [byScan_of (knd:=intKind prog w) (x:=.int k tk) rfl hb hel];simp only [↓reduceIte];unfold setAddByScan;refine wpAny_bind ?_;refine wpAny_bind (wpAny_rule ?_);refine wpAny_bind (wpAny_setScan_of (knd:=intKind prog w) (k:=k) (intKind_is _ _ _ _) ho rfl hf hel ?_);have hfd:=Ents.find (prog:=prog) (w:=w) (k:=k) he;cases hr:B18 (fun e=>(intKind prog w).is k e.2) es.toList with
 | some j=>
  dsimp only;rw [hr] at hfd;have hk:k ∈ zs:=hp.mem_iff.mp (hfd.mp rfl);refine wpAny_pure (wpAny_pure ?_);have e:s={ s with heap:=s.heap }:=by cases s;rfl
  rw [e];refine h s.heap (B27 a s.heap) ?_ _;unfold addI;rw [if_pos hk];exact hS
 | none=>
  dsimp only;rw [hr] at hfd;have hk:¬ k ∈ zs:=fun z=>by have:=hfd.mpr (hp.mem_iff.mpr z);cases this
  obtain ⟨p,t',e1,T',tm,hpe⟩:=T.lay (by omega) rfl (hashInt k) (.int k tk)
  rw [e1];dsimp only;refine wpAny_bind (wpAny_pure ?_);rw [T'.plain];simp only [↓reduceIte];rw [hashByValue_scannable 8 (x:=.int k tk) rfl];refine wpAny_bind (wpAny_pure ?_);have hszE:(E1 es p (hashInt k,W2 k tk)).size=es.size+1:=by
   rw [<- C2,insertAt_perm.length_eq,A8,C2]
   rfl
  rw [show plainKind (W2 k tk)=true from rfl];simp only [↓reduceIte];show wpAny _ _ (storeSet a (E1 es p (hashInt k,.int k tk)) t' >>= _) _ _ _;refine wpAny_bind (wpAny_storeSet_of ho rfl ?_ (by rw [hszE,hsz,sizeLine_eq];omega))
  have fin:∀ (es2:Array (Int × Value)) (ep2:Nat) (t2:SetTable) (h2:Heap),h2.get? a=some { cls:=.type "set",data:=.set es2 ep2 t2 }->es2.toList.Perm (E1 es p (hashInt k,W2 k tk)).toList->TabG (byT w) t2 (es.size+1)->(es.size+1) * 5<t2.mask * 3->SetG w a (addI zs k) h2:=by
   intro es2 ep2 t2 h2 g2 pm T2 full;obtain ⟨ks',h4,h5⟩:=Ents.perm (ks:=ks++[k]) (A07 he ⟨tk,rfl⟩) (pm.trans insertAt_perm);have hs2:es2.size=es.size+1:=by rw [<- hszE,<- C2,pm.length_eq,C2]
   refine ⟨es2,ep2,t2,ks',g2,by rw [hs2];exact T2,h4,?_,?_,?_,by rw [hs2];exact full⟩
   ·unfold addI;rw [if_neg hk];exact h5.trans (hp.append_right _)
   ·unfold addI;rw [if_neg hk];exact qIC hnd hk
   ·unfold addI;rw [if_neg hk,A8,D5];omega
  have hg:=qUT (es':=E1 es p (hashInt k,.int k tk)) (t':=t') ho;have fill:t'.fill=es.size+1:=by
   unfold l0;rw [T'.size,T'.dum]
   rfl
  cases tf:t'.tooFull with
  | false=>
   simp only [P8,I0,↓reduceIte];refine wpAny_pure (wpAny_pure ?_);refine h _ (R9 s.heap a _) (fin _ _ _ _ hg (.refl _) T' ?_) _;unfold B44 at tf;rw [fill] at tf;have:=of_decide_eq_false tf;omega
  | true=>
   simp only [A97,Bool.and_self,↓reduceIte];rw [hszE];have gr:A99 (es.size+1)=(es.size+1) * 4:=by
    unfold A99;rw [if_neg (by omega)]
   obtain ⟨es2,t2,e2,p2,T2,m2⟩:=qTH T' hszE (wanted:=A99 (es.size+1)) (by rw [gr];omega) (by rw [gr];omega)
   rw [gr] at m2;rw [e2];dsimp only;refine wpAny_bind (wpAny_pure ?_);refine wpAny_bind (wpAny_storeSet_of hg rfl ?_ (by rw [<- C2,p2.length_eq,C2,hszE,hsz,sizeLine_eq];omega))
   refine wpAny_pure (wpAny_pure ?_);exact h _ ((R9 s.heap a _).trans (R9 _ a _)) (fin _ _ _ _ (qUT hg) p2 T2 (by omega)) _
end
section
variable {prog:Program} {w:World} {A:Around} {R:Result->Shared->Prop} {I:Addr} {fp wr:List Addr} {G:Array GenState->Array GenState->Prop} {n:Nat} {P:Nat->Value->Prop} {St:Nat->Shared->Prop}
theorem qKZ (W:WalksS prog w A.in1 I fp wr G n P St) (S:Addr) (hSf:S ∉ fp) (ns:List Int) (hnn:ns.length=n) (h4:n<=4000) (hval:∀ i v,P i v->∃ t,v=.int (ns.getD i 0) t) :
  ∀ (k i:Nat) (s:Shared),n - i=k->i<=n->St i s->SetG w S (dedI (ns.take i)) s.heap->
   (∀ s',Moved (S::wr) G s s'->SetG w S (dedI ns) s'.heap->R (.ok (.ret .none)) s')->
   codeAny (model prog w) A (.builtin "set.update.loop" ⟨[.ref S,.ref I],[]⟩) R s:=by
 have hSw:S ∉ wr:=fun h=>hSf (W.sub _ h);have hsub:∀ b ∈ wr,b ∈ S::wr:=fun b hb=>C7 _ hb;intro k
 induction k with
 | zero=>
  intro i s hk hi hst hS hR;have hin:i=n:=by omega
  subst hin;refine codeAny_builtin F.entry_set_update_loop ?_;rw [R0 F.plain_set_update_loop _];show wpAny _ A.in1 (pyNext (.ref I) >>= _) _ _ s;refine wpAny_bind (W.done s _ _ hst fun s' hm=>?_);show wpAny _ A.in1 (ret W8) _ _ s';rw [F7 (by omega)] at hS
  exact wpAny_pure (hR s' (hm.mono hsub) (hS.at fun o e=>hm.heap S _ hSw e))
 | succ k ih=>
  intro i s hk hi hst hS hR;have hlt:i<n:=by omega
  refine codeAny_builtin F.entry_set_update_loop ?_;rw [R0 F.plain_set_update_loop _];show wpAny _ A.in1 (pyNext (.ref I) >>= _) _ _ s;refine wpAny_bind (W.item i s _ _ hlt hst fun v s' hP hst' hm=>?_);obtain ⟨t,rfl⟩:=hval i v hP;have hS':SetG w S (dedI (ns.take i)) s'.heap:=hS.at fun o e=>hm.heap S _ hSw e;show wpAny _ A.in1 (holding [W2 (ns.getD i 0) t] (setAdd S (.int (ns.getD i 0) t)) >>= _) _ _ s';refine wpAny_bind (wpAny_holding ?_);unfold setAdd;refine wpAny_holding ?_;refine wpAny_bind ((intKind prog w).pyHash (k:=ns.getD i 0) (intKind_is _ _ _ _) ?_);have hroom:(dedI (ns.take i)).length<4094:=by
   have:=qBS (ns.take i) [];rw [E5] at this;unfold dedI;simp at this;omega
  refine qTF (s:={ s' with toks:=s'.toks+1 }) hS' hroom fun h' hsb hS2 b=>?_;have e2:addI (dedI (ns.take i)) (ns.getD i 0)=dedI (ns.take (i+1)):=by
   have hi':i<ns.length:=by omega
   rw [E6,B9 hi',F4];unfold dedI;rw [B29,X8,A96,L8,B9 hi',z9]
  rw [e2] at hS2;refine wpAny_pure ⟨plainId_quiet F.plain_set_update_loop _,ih (i+1) _ (by omega) hlt (W.frame _ s' _ _ hst' (i9 _) fun b hb o e=>?_) hS2 fun s'' hm'' hS''=>?_⟩
  ·rw [hsb.2 b (fun h:b=S=>hSf (by rw [<- h];exact hb))];exact e
  ·refine hR s'' (Moved.trans W.gtrans ((hm.mono hsub).then_heap (i9 _) fun b o hb e=>?_) hm'') hS'';rw [hsb.2 b (fun h:b=S=>hb (by rw [h];exact C9))];exact e
end
section
variable {prog:Program} {w:World} {A:Around} {E:Value->Shared->Prop} {s:Shared}
theorem SetG.fresh {a:Addr} {h:Heap} (e:h.get? a=some (qAR w)):SetG w a [] h:=
 ⟨#[],0,_,[],e,⟨⟨3,C1 _,rfl⟩,rfl,rfl,rfl,rfl,.nil,fun _ z=>nomatch z⟩,.nil,.refl _,.nil,by decide,by show 0 * 5<7 * 3;decide⟩
theorem qQ2 {l:Addr} {Ae:Array Value} {ns:List Int} {Q:Value->Shared->Prop} (hh:A.handled=none) (hl:s.heap.IsList l Ae) (hi:IntsAre Ae.toList ns) (h4:Ae.size<=4000)
  (h:∀ (h':Heap) (tk:Nat),SetG w s.heap.objs.size (dedI ns) h'->(∀ b o,s.heap.get? b=some o->h'.get? b=some o)->Q (.ref s.heap.objs.size) { s with heap:=h',toks:=tk }) :
  wpAny (model prog w) A (call (.type "set") [.ref l]) Q E s:=by
 have hlen:ns.length=Ae.size:=by have:=IntsAre.length hi;simpa using this.symm
 obtain ⟨c,tl,hmro⟩:=P7.mro;have hmade:=P7.made;have hsub:=P7.sub;refine wpAny_call (codeAny_of_tree ?_);show wpAny _ _ (callAny (.type "set") _) _ _ _;refine wpAny_pure ⟨B19 _ (by decide +kernel),codeAny_builtin B30 ?_⟩
 rw [B20 (weight_type_call_type "set" [.ref l] []) rfl];have h1:=P7.notType;have h2:=P7.canCreate;have hct:=B45 (.ref l)
 repeat (any_goals (first | assumption | wp_step))
 refine codeAny_mono (qL0 (.ref l) (E:=E) (Q₁:=fun obj s₁=>obj=.ref s.heap.objs.size/\s₁={ s with heap:=s.heap.push (qAR w) }) ⟨rfl,rfl⟩) fun r s₁ hr=>?_;cases r with
 | error e=>exact hr
 | ok fl=>
  cases fl with
  | ret obj=>
   obtain ⟨rfl,rfl⟩:=hr;have hS:(s.heap.push (qAR w)).get? s.heap.objs.size=some (qAR w):=D4 _ rfl;have hT:Shared.TypeIs { s with heap:=s.heap.push (qAR w) } (.ref s.heap.objs.size) "set":=⟨_,hS,rfl⟩;have hli:=P7.init.lookup;have hbi:=P7.init.bind (.ref s.heap.objs.size)
   repeat (any_goals (first | assumption | wp_step))
   refine codeAny_mono (codeAny_call_builtin (R:=wants (fun r s₂=>r=.none/\∃ h' tk,s₂={ s with heap:=h',toks:=tk }/\SetG w s.heap.objs.size (dedI ns) h'/\
     (∀ b o,s.heap.get? b=some o->h'.get? b=some o)) E) P7.init.plain B46 (check_set_init_1 hT ?_)) fun r₂ s₂ hr₂=>?_
   ·obtain ⟨ol,hol,hcl,nl,hdl⟩:=hl;obtain ⟨ocls,odict,odata,oslots⟩:=ol;simp only at hcl hdl;subst hcl;subst hdl;have hol':(s.heap.push (qAR w)).get? l=some { cls:=.type "list",dict:=odict,data:=.seq Ae nl,slots:=oslots }:=B8 _ hol;have hsls:=F.sub_list_set;have hslf:=A88;have hne:(W9 "list" == W9 "dict")=false:=by decide
    have hl1:(s.heap.push (qAR w)).IsList l Ae:=⟨_,hol',rfl,nl,rfl⟩;unfold Builtin.«set.__init__» noKeywords A05;generalize hPI:pyIter=PI
    wp_walk
    subst hPI;refine wpAny_pyIter_list hl1 ?_;refine wpAny_bind (wpAny_runValue ?_);have hlS:l<s.heap.objs.size:=D0 hol;have hh3:A.in1.in1.in1.handled=none:=by simp [hh]
    have hneI:l ≠ (s.heap.push (qAR w)).objs.size:=by
     rw [P2];exact F0 (V1 hlS)
    have hSf:s.heap.objs.size ∉ [(s.heap.push (qAR w)).objs.size,l]:=by
     rw [P2];simp only [D9,C0,m9,or_false,not_or];exact ⟨F0 (A55 _),n8 hlS⟩
    have hval:∀ (i:Nat) (v:Value),Ae[i]?=some v->∃ t,v=.int (ns.getD i 0) t:=fun i v hv=>
     A08 hi i v (by rw [F2];exact hv)
    refine qKZ ((B31 hh3 _ l hneI Ae).toS) s.heap.objs.size hSf ns hlen h4 hval (Ae.size - 0) 0 _ (by omega) (G5 _)
     ⟨⟨_,D4 _ rfl,rfl,rfl⟩,(hl1.push _)⟩ ?hS0 ?hR
    case hS0=>exact SetG.fresh (B8 _ hS)
    case hR=>
     intro s' hm hS';obtain ⟨h',g',d',tk',os'⟩:=s';have eg:g'=s.gens:=hm.gens;have ed:d'=s.drawn:=hm.drawn;have eo:os'=s.os:=hm.os;subst eg;subst ed;subst eo;show wpAny _ _ _ _ _ _;refine wpAny_pure ?_;show wpAny _ _ (ret W8) _ _ _;refine wpAny_pure ⟨rfl,h',tk',rfl,hS',fun b o e=>?_⟩;have hb:=D0 e;have hb1:b ≠ s.heap.objs.size:=F0 hb;have hb2:b ≠ (s.heap.push (qAR w)).objs.size:=by
      rw [P2];exact F0 (V1 hb)
     exact hm.heap b o (by simp only [D9,C0,m9,or_false,not_or];exact ⟨hb1,hb2⟩) (B8 _ (B8 _ e))
   ·cases r₂ with
    | error e=>exact hr₂
    | ok fl₂=>
     cases fl₂ with
     | ret r=>
      obtain ⟨rfl,h',tk,rfl,hS',hk'⟩:=hr₂
      repeat (any_goals (first | assumption | wp_step))
      exact h _ _ hS' hk'
     | next=>exact hr₂
     | brk=>exact hr₂
     | cont=>exact hr₂
  | next=>exact hr
  | brk=>exact hr
  | cont=>exact hr
end
theorem TabG.below_at {b:Bool} {t:SetTable} {n:Nat} (T:TabG b t n) (i:Nat) (hi:i<=n):D6 t.place (if i=0 then 0 else t.place.getD (i - 1) 0+1)=i:=by
 obtain ⟨b1,b2,b3⟩:=qCW (j:=if i=0 then 0 else t.place.getD (i - 1) 0+1) T.up
 have hs:=T.size;have gd:∀ a c d,a<t.place.size->t.place.getD a c=t.place.getD a d:=fun a c d ha=>by
  rw [E2,E2,C3 ha]
  rfl
 by_cases h0:i=0
 ·rw [if_pos h0] at b1 b2 b3 ⊢;subst h0;apply A65;intro z;have:=b2 0 z;omega
 ·rw [if_neg h0] at b1 b2 b3 ⊢;have h1:¬ D6 t.place (t.place.getD (i - 1) 0+1)<i:=fun z=>by
   have:=b3 (i - 1) (by omega) (by omega)
   rw [gd (i - 1) (t.place.getD (i - 1) 0+1) 0 (by omega)] at this
   omega
  have h2:¬ i<D6 t.place (t.place.getD (i - 1) 0+1):=fun z=>by
   have q:=b2 i z;have:=qQI 0 T.up (i - 1) i (by omega) (by omega)
   rw [gd i (t.place.getD (i - 1) 0+1) 0 (by omega)] at q
   omega
  omega
section
variable {prog:Program} {w:World} {A:Around} {E:Value->Shared->Prop} {s:Shared} {a I:Addr} {es:Array (Int × Value)} {ep:Nat} {t:SetTable} {i:Nat}
theorem qL2 {Q:Option (Value × Nat)->Shared->Prop} (T:TabG (byT w) t es.size) (h8:es.size<=t.mask) (ho:s.heap.get? a=some { cls:=.type "set",data:=.set es ep t }) (hi:i<=es.size)
  (h:Q (match (qBX w a ep es)[i]? with | some e=>some (e.2,qBR w t (i+1)) | none=>none) s):wpAny (model prog w) A (setNext a (qBR w t i) i ep) Q E s:=by
 have hf:=T.fits h8;unfold setNext;refine wpAny_bind (wpAny_setState_of ho rfl hf ?_);dsimp only;unfold setsByText;refine wpAny_bind (wpAny_bind (wpAny_askSetting (wpAny_pure ?_)));show wpAny _ _ (if byT w=true then _ else _) _ _ _
 cases hb:byT w with
 | true=>
  rw [if_pos rfl];simp only [bne_self_eq_false,I0,if_false];refine wpAny_bind ?_;unfold setWalk;refine wpAny_bind (wpAny_setState_of ho rfl hf ?_);dsimp only;unfold setsByText;refine wpAny_bind (wpAny_bind (wpAny_askSetting (wpAny_pure ?_)));show wpAny _ _ (if byT w=true then _ else _) _ _ _
  rw [hb,if_pos rfl];refine wpAny_bind (wpAny_askSetting (wpAny_pure (wpAny_pure ?_)));have e:qBX w a ep es=(pickOrder (w.params.setOrder a ep) es).toList:=by unfold qBX;rw [if_pos hb]
  have e2:∀ j,qBR w t j=0:=fun j=>by unfold qBR;rw [if_pos hb]
  rw [e,F2,e2] at h;rw [e2];show Q (Option.map _ (pickOrder (w.params.setOrder a ep) es)[i]?) s;cases hx:(pickOrder (w.params.setOrder a ep) es)[i]? with
  | none=>rw [hx] at h;exact h
  | some v=>rw [hx] at h;exact h
 | false=>
  rw [if_neg (by simp)]
  show wpAny _ _ (if (!t.plain && decide (es.size > 1))=true then _ else _) _ _ _
  rw [T.plain];simp only [q0,O7,I0,if_false];refine wpAny_bind ?_;show wpAny _ _ (if (!t.led && !es.isEmpty)=true then _ else _) _ _ _
  rw [T.led,hb];simp only [A97,q0,O7,I0,if_false];refine wpAny_pure (wpAny_pure ?_);have e:qBX w a ep es=es.toList:=by unfold qBX;rw [if_neg (by rw [hb];simp)]
  have e2:∀ j,qBR w t j=if j=0 then 0 else t.place.getD (j - 1) 0+1:=fun j=>by unfold qBR;rw [if_neg (by rw [hb];simp)]
  rw [e,F2] at h;rw [e2,T.below_at i hi];cases hx:es[i]? with
  | none=>rw [hx] at h;exact h
  | some v=>
   rw [hx] at h;have hlt:i<t.place.size:=by rw [T.size];exact (A24.mp hx).1
   rw [C3 hlt];dsimp only at h ⊢;have e3:qBR w t (i+1)=t.place[i]+1:=by
    rw [e2,if_neg (by omega),r8,E2,C3 hlt]
    rfl
   rw [e3] at h;exact h
theorem qVV {Q:Option Value->Shared->Prop} (T:TabG (byT w) t es.size) (h8:es.size<=t.mask) (hit:SetIt w a I es ep t i s.heap) (hne:a ≠ I) {e:Int × Value} (hx:(qBX w a ep es)[i]?=some e)
  (hQ:∀ h',SetIt w a I es ep t (i+1) h'->(∀ b o,b ≠ I->s.heap.get? b=some o->h'.get? b=some o)->Q (some e.2) { s with heap:=h' }):wpAny (model prog w) A (pyNext (.ref I)) Q E s:=by
 obtain ⟨⟨o,ho,hc,hd⟩,hs⟩:=id hit;have hi:i<es.size:=by
  have:=(B0.mp hx).1;rw [(qBQ w a ep es).length_eq,C2] at this;exact this
 unfold pyNext;refine wpAny_bind (wpAny_attempt (wpAny_callSpecial?_slot (name:=F9 "__next__") hit.typeIs slot_si_next (wpAny_call_entry slot_si_next hit.typeIs qCU ?_ (qDD _))));unfold Builtin.«set_iterator.__next__»;refine wpAny_bind (wpAny_pure ?_);refine wpAny_bind (wpAny_fieldsOf ho hd ?_);dsimp only;unfold setEntries;refine wpAny_bind (wpAny_bind (wpAny_setState_of hs rfl (T.fits h8) (wpAny_pure ?_)));rw [if_neg (by simp)]
 simp only [S0];refine wpAny_bind (qL2 T h8 hs (c5 hi) ?_);rw [hx];dsimp only;show wpAny _ _ (setField (.ref I) 0 (rawInt _) >>= _) _ _ s;refine wpAny_bind (wpAny_setField ho hd (by simp) ?_)
 have g1:=P6 (A48 (·.setIfInBounds 0 (rawInt ((qBR w t (i+1):Nat):Int)))) ho (Z0 (P5 hd _));have d1:=P5 hd (·.setIfInBounds 0 (rawInt ((qBR w t (i+1):Nat):Int)));refine wpAny_bind (wpAny_setField g1 d1 (by simp) ?_)
 have g2:=P6 (A48 (·.setIfInBounds 1 (rawInt ((i:Int)+1)))) g1 (Z0 (P5 d1 _));have d2:=P5 d1 (·.setIfInBounds 1 (rawInt ((i:Int)+1)));refine wpAny_pure ⟨_,rfl,wpAny_pure (hQ _ ⟨⟨_,g2,(l5 ..).trans ((l5 ..).trans hc),?_⟩,?_⟩ fun b o' hb e=>?_)⟩
 ·rw [d2];simp [rawInt]
 ·exact (M5 _ _ (M8 hne)).trans ((M5 _ _ (M8 hne)).trans hs)
 ·exact (M5 _ _ (M8 hb)).trans ((M5 _ _ (M8 hb)).trans e)
theorem qXQ {Q:Option Value->Shared->Prop} (hh:A.handled=none) (T:TabG (byT w) t es.size) (h8:es.size<=t.mask) (hit:SetIt w a I es ep t es.size s.heap)
  (hQ:∀ h',(∀ b o,b ≠ I->s.heap.get? b=some o->h'.get? b=some o)->Q none { s with heap:=h' }):wpAny (model prog w) A (pyNext (.ref I)) Q E s:=by
 obtain ⟨⟨o,ho,hc,hd⟩,hs⟩:=id hit;unfold pyNext;refine wpAny_bind (wpAny_attempt (wpAny_callSpecial?_slot (name:=F9 "__next__") hit.typeIs slot_si_next (wpAny_call_entry slot_si_next hit.typeIs qCU ?_ (qDD _))));unfold Builtin.«set_iterator.__next__»;refine wpAny_bind (wpAny_pure ?_);refine wpAny_bind (wpAny_fieldsOf ho hd ?_);dsimp only;unfold setEntries;refine wpAny_bind (wpAny_bind (wpAny_setState_of hs rfl (T.fits h8) (wpAny_pure ?_)));rw [if_neg (by simp)]
 simp only [S0];have hx:(qBX w a ep es)[es.size]?=none:=K0 (by rw [(qBQ w a ep es).length_eq,C2];exact C1 _)
 refine wpAny_bind (qL2 T h8 hs (C1 _) ?_);rw [hx];dsimp only;show wpAny _ _ (setField (.ref I) 2 .none >>= _) _ _ s;refine wpAny_bind (wpAny_setField ho hd (by simp) ?_)
 show wpAny _ _ (newExc (.type "StopIteration") [] >>= _) _ _ _;refine wpAny_bind ?_;simp only [newExc,newTuple];refine wpAny_bind (wpAny_newObj_type ?_ (by size_fits))
 refine wpAny_bind (m:=firstArgMember _ _) (wpAny_of_eq (a:=W8) (by first | rfl | (simp only [firstArgMember];rfl)) ?_)
 refine wpAny_newObj_type ?_ (by size_fits)
 simp only [raiseNew];refine wpAny_bind (wpAny_handled ?_);rw [show A.in1.handled=none from hh];refine wpAny_bind (wpAny_pure (wpAny_throw ?_));refine wpAny_bind (wpAny_isInstance (T:="StopIteration") (b:=true) ⟨_,D4 _ rfl,rfl⟩ isSubtype_stop ?_);exact wpAny_pure (hQ _ (((R9 ..).extBut.push _).push _))
theorem qXP {Q:Value->Shared->Prop} (T:TabG (byT w) t es.size) (h8:es.size<=t.mask) (hs:s.heap.get? a=some { cls:=.type "set",data:=.set es ep t })
  (hQ:Q (.ref s.heap.objs.size) { s with heap:=s.heap.push { cls:=.type "set_iterator",data:=.fields #[.int 0 0,.int 0 0,.ref a,.int es.size 0,.int ep 0] } }):wpAny (model prog w) A (pyIter (.ref a)) Q E s:=by
 have hT:s.TypeIs (.ref a) "set":=⟨_,hs,rfl⟩;have hf:=T.fits h8;refine wpAny_pyIter_slot hT A09 (wpAny_call_entry A09 hT qFB ?_ (B32 _));unfold Builtin.«frozenset.__iter__» A49 A39 setEntries;refine wpAny_bind (wpAny_bind (wpAny_pure ?_));show wpAny _ _ (pure a) _ _ s;refine wpAny_pure ?_;refine wpAny_bind (wpAny_bind (wpAny_bind (wpAny_setState_of hs rfl hf (wpAny_pure (wpAny_pure ?_)))));unfold setDrawn setsByText;refine wpAny_bind (wpAny_bind (wpAny_setState_of hs rfl hf ?_));dsimp only;refine wpAny_bind (wpAny_bind (wpAny_askSetting (wpAny_pure (wpAny_pure ?_))));show wpAny _ _ (if (!byT w && (!t.plain && decide (es.size > 1)))=true then _ else _) _ _ _
 rw [T.plain];simp only [q0,O7,P8,I0,if_false];refine wpAny_bind (wpAny_pure ?_);unfold setEpoch;refine wpAny_bind (wpAny_bind (wpAny_setState_of hs rfl hf (wpAny_pure ?_)));refine wpAny_bind (wpAny_newObj_type (wpAny_pure ⟨_,rfl,"set_iterator",_,⟨_,D4 _ rfl,rfl⟩,slot_si_next.lookup,?_⟩));simpa [rawInt] using hQ
theorem qXO (T:TabG (byT w) t es.size) (h8:es.size<=t.mask):PySem.W.KdlSrc prog w "set" a a es.size (fun i v=>∃ e,(qBX w a ep es)[i]?=some e/\v=e.2) (fun h=>h.get? a=some { cls:=.type "set",data:=.set es ep t }) where
 type:=fun s h=>⟨_,h,rfl⟩
 there:=fun h x=>⟨D0 x,D0 x⟩
 keep:=fun h h' x k=>k a (.inl rfl) _ x
 notList:=by decide
 notTuple:=by decide
 hint:=fun A E s Q x q=>qQW ⟨_,x,rfl⟩ q
 iter:=fun A s hh x=>by
  have hne:a ≠ s.heap.objs.size:=F0 (D0 x);refine ⟨_,fun i h=>SetIt w a s.heap.objs.size es ep t i h,fun E Q q=>qXP T h8 x q,?_,⟨⟨_,D4 _ rfl,rfl,?_⟩,B8 _ x⟩⟩
  ·refine ⟨fun b hb=>?_,fun i h h' st k=>?_,fun i s' Q E hi st q=>?_,fun s' Q E st q=>?_,fun i s' Q E st q=>qQV st q⟩
   ·have e:b=s.heap.objs.size:=by simpa using hb
    simp [e]
   ·obtain ⟨⟨o,h1,h2,h3⟩,h4⟩:=st;exact ⟨⟨o,k _ (by simp) _ h1,h2,h3⟩,k _ (by simp) _ h4⟩
   ·have hl:i<(qBX w a ep es).length:=by rw [(qBQ w a ep es).length_eq,C2];exact hi
    refine qVV T h8 st hne (B9 hl) fun h' st' k=>?_;exact q _ h' s'.toks ⟨_,B9 hl,rfl⟩ st' fun b o hb e=>k b o (fun z=>hb (by simp [z])) e
   ·refine qXQ hh T h8 st fun h' k=>?_;exact q h' s'.toks fun b o hb e=>k b o (fun z=>hb (by simp [z])) e
  ·unfold qBR
   split <;> rfl
end
section
variable {X:Cx}
def SetM (w:World) (a:Addr) (zs:List Int):HO:=.ext (SetG w a zs)
theorem qM9 (hc:X.calm=true):qCI X (.type "set") (fun xs H Q=>∃ p ns,xs=[.ref p]/\SqL X.K H p (ns.map V.int)/\ns.length<=4000/\∀ a,H a=none->Q (.ref a) (Ah H a (SetM X.w a (dedI ns)))):=by
 intro Ab s σ H xs us Q I r h;obtain ⟨p,ns,rfl,hq,h4,q⟩:=h;obtain ⟨u,rfl,rx⟩:=qEI r;cases rx;obtain ⟨its,rv,pl,hz⟩:=I.list hq;have hlen:=rv.length;rw [A0] at hlen;refine qQ2 (ns:=ns) (I.ok.hd hc) pl.isList (by simpa using qC9 rv) (by simp;omega) fun h' tk hS hk=>?_
 refine ⟨.ref s.heap.objs.size,_,I.laid (t':=tk) hk (C1 _) ?_,rfl,q _ (I.hok.fresh (C1 _))⟩;obtain ⟨es,ep,t,ks,e,_⟩:=id hS;exact ⟨hS,⟨_,e⟩,fun h1 h2 x k=>x.at k⟩
theorem qS7 {ks:List Int} {l:List (Int × Value)} (h:Ents ks l):∀ vs:List Value,vs.length=l.length->(∀ (i:Nat) (v:Value),vs[i]?=some v->∃ e:Int × Value,l[i]?=some e/\v=e.2)->IntsAre vs ks:=by
 induction h with
 | nil=>
  intro vs hl _;have:vs=[]:=Q8.mp hl;subst this;exact .nil
 | cons r t ih=>
  intro vs hl hv;cases vs with
  | nil=>simp at hl
  | cons v vs=>
   obtain ⟨tk,rfl⟩:=r;obtain ⟨e,he,rfl⟩:=hv 0 v rfl;simp at he;subst he;exact IntsAre.cons _ _ (ih vs (by simpa using hl) fun i v hi=>by simpa using hv (i+1) v (by simpa using hi))
theorem qM8 (hc:X.calm=true):qCI X (.builtin "sorted") (fun xs H Q=>∃ p ns,xs=[.ref p]/\H p=some (SetM X.w p ns)/\
  ∀ (a:Addr) (zs:List Int),H a=none->zs.Perm ns->zs.Pairwise (·<=·)->Q (.ref a) (Ah H a (.lst (zs.map V.int)))):=by
 intro Ab s σ H xs us Q I r h;obtain ⟨p,ns,rfl,hq,q⟩:=h;obtain ⟨u,rfl,rx⟩:=qEI r;cases rx;refine m5 kind_sorted plain_sorted entry_sorted (args_sorted1 _) ?_;unfold Builtin.«sorted»;refine wpAny_bind (m:=checkCount "sorted" 1 1 _) (wpAny_pure ?_);have fin:∀ (s1:Shared) (vs:List Value) (zs:List Int),Inv X Ab σ H s1->IntsAre vs zs->zs.length<=sizeLine->zs.Perm ns->wpAny (model X.prog X.w) X.A.in1 (do
   let l <- newList vs
   let _ <- holding [l] (call (.builtin "list.sort") [l] [])
   ret l) (fun fin s'=>∃ r,fin=.done (.ret r)/\EP X Ab σ Q r s') X.xe s1:=by
  intro s1 vs zs I1 hv hz hp;have hlen:=IntsAre.length hv;refine wpAny_bind (wpAny_newList ?_ (by rw [hlen];exact hz))
  have hf:=I1.hok.fresh (C1 s1.heap.objs.size);refine wpAny_bind (wpAny_holding (wpAny_mono (qQT (E:=X.xe) (qJI I1 hv hz) fun zs a b=>q _ zs hf (a.trans hp) b) (fun _ s' x=>?_) fun _ _ e=>e));exact wpAny_pure ⟨_,rfl,x⟩
 obtain ⟨hS,_,_⟩:=(show ObjOk X.prog X.w H s.heap p (.ext (SetG X.w p ns)) from I.hok p _ hq);obtain ⟨es,ep,t,ks,e,T,he,hp,hnd,h4,full⟩:=hS;have hsz:es.size=ns.length:=SetI.size (a:=p) (h:=s.heap) he hp;obtain ⟨ks',h1,h2⟩:=he.perm (qBQ X.w p ep es);have h7:=T.mask7;refine wpAny_bind (B02 (A:=X.A.in1) (qXO (ep:=ep) T (by omega)) (I.ok.hd hc) e (by rw [hsz,sizeLine_eq];omega) fun h' tk acc hk hacc=>?_)
 refine fin _ _ ks' (I.kept (t':=tk) hk) ?_ (by rw [h2.length_eq,hp.length_eq,sizeLine_eq];omega) (h2.trans hp)
 obtain ⟨l1,l2⟩:=hacc;refine qS7 h1 acc.toList ?_ fun i v hi=>l2 i v (by rw [<- F2];exact hi)
 rw [C2,l1,(qBQ X.w p ep es).length_eq,C2]
end
end L2
namespace L2
open PySem PySem.Spec PyProof.Rows
section
variable {X:Cx}
def qZG (K:PySem.W.Frag):R2:=fun x y H Q=>∃ a b xs ys,x=.ref a/\y=.ref b/\SqT K H a xs/\SqT K H b ys/\((xs ≠ []/\H a=some (.tup xs))\/(ys ≠ []/\H b=some (.tup ys)))/\xs.length+ys.length<=sizeLine/\∀ p H',Same H H'->H' p=some (.tup (xs++ys))->Q (.ref p) H'
theorem qW5:OpR X (binaryOp .Add) (qZG X.K):=by
 intro Ab s σ H x y v u Q I rx ry h;obtain ⟨a,b,xs,ys,rfl,rfl,ha,hb,hd,hz,q⟩:=h;have nw:∀ p,H p=none->Q (.ref p) (Ah H p (.tup (xs++ys))):=fun p hp=>q p _ (fun b u e=>by rw [qA8 (qA5 e hp)];exact e) qA1
 rcases hd with ⟨hx,ga⟩ | ⟨hy,gb⟩
 ·exact qK1 Ab s σ H (.ref a) (.ref b) v u Q I rx ry ⟨a,b,xs,ys,rfl,rfl,ha,hb,hx,hz,fun z=>q a H (fun _ _ e=>e) (by rw [z,N9];exact ga),fun _=>nw⟩
 ·exact qW6 Ab s σ H (.ref a) (.ref b) v u Q I rx ry ⟨a,b,xs,ys,rfl,rfl,ha,hb,hy,hz,fun z=>q b H (fun _ _ e=>e) (by rw [z];exact gb),fun _=>nw⟩
end
section
variable {prog:Program} {w:World} {A:Around} {E:Value->Shared->Prop} {s:Shared}
end
section
variable {X:Cx}
end
end L2
namespace L2
open PySem PySem.Spec PyProof.Rows
structure Ex (B:Heap) (l:List Env) (e:Addr) (cls:Value) (dd:Option Addr) (nt:Bool) (h:Heap):Prop where
 stays:B.StaysIn h
 new:B.get? e=none
 frames:h.FunFrames B l
 rec_:∃ (oe:Obj) (vs:Array Value) (x1:Value),h.get? e=some oe/\oe.cls=cls/\oe.dict=dd/\oe.data=.fields vs/\vs[1]?=some x1/\
  ((x1=.none/\nt=false)\/∃ (T:Addr) (oT:Obj) (ts:Array Value) (x3:Value),x1=.ref T/\B.get? T=none/\T ≠ e/\h.get? T=some oT/\oT.data=.fields ts/\ts[3]?=some x3)
section
variable {M:Model} {A:Around} {E:Value->Shared->Prop} {s:Shared} {B:Heap} {env:Env} {outer l:List Env} {L e:Addr} {cls:Value} {dd:Option Addr} {nt:Bool} {Q:Unit->Shared->Prop}
end
end L2
namespace L2
open PySem PySem.Spec PyProof.Rows
def Kp (outer:List Env) (H':Hp) (h0:Heap) (b:Addr):Prop:=(∃ o,H' b=some o)\/((∃ o,h0.get? b=some o)/\b ∉ frs outer)
structure XD (P:Program) (w:World) (outer l:List Env) (H:Hp) (h0:Heap) (e:Addr) (cls:Value) (dd:Option Addr) (H':Hp) (B:Heap) (nt:Bool) (h:Heap):Prop where
 un:Un (frs outer) [] H H' h0 h
 hok:HOk P w H' h
 ex:Ex B l e cls dd nt h
 kp:∀ b o,h.get? b=some o->Kp outer H' h0 b->B.get? b=some o
 ne:H' e=none
 ge:h0.objs.size<=e
def XP (X:Cx) (G:XK) (ev:Value) (s':Shared):Prop:=X.A.frames=some X.stack/\∃ (e:Addr) (cls:Value) (dd:Option Addr) (H':Hp) (B:Heap) (nt:Bool),ev=.ref e/\s'.os=X.s₀.os/\AllBare s'.gens/\XD X.prog X.w X.outer X.stack X.H₀ X.s₀.heap e cls dd H' B nt s'.heap/\G cls dd H'
section
variable {X:Cx} {E:XK} {G:XK} {Ab:List (Addr × Obj)} {σ:St} {H:Hp} {s s':Shared}
end
section
variable {P:Program} {w:World} {K:PySem.W.Frag} {mg:Str->Option Value} {base:Heap}
end
end L2
namespace L2
open PySem PySem.Spec PyProof.Rows
section
variable {X:Cx} {Ab:List (Addr × Obj)} {σ:St} {H:Hp} {s:Shared} {ev:Value}
end
section
variable {X:Cx}
end
end L2
namespace L2
open PySem PySem.Spec PyProof.Rows
def bmV:List Value:=[.type "ValueError",.type "Exception",.type "BaseException",.type "object"]
def xcIn (K:PySem.W.Frag) (C:Addr) (init:Option Value):Bool:=match K.lookup C with
 | some ⟨.type "type",_,.cls cd,sl⟩=>(match cd.mro,sl.toList with
  | .ref C'::bm,[_,_,_,_,some (.builtin n),_]=>C' == C && n == "ValueError.__new__" && !cd.hasDel && cd.hasDict && PySem.W.tailIn K bmV bm && PySem.W.nsOkIn K cd.ns && E4 K cd.ns "__init__" == some init
  | _,_=>false)
 | _=>false
structure XCls (K:PySem.W.Frag) (C:Addr) (init:Option Value):Prop where
 cls:xcIn K C init=true
 set:V4 K (.ref C) "__setattr__" = some (some (.builtin "object.__setattr__"))
 kp:Z2 K (.ref C)=true
section
variable {prog:Program} {w:World} {A:Around} {E:Value->Shared->Prop} {h:Heap} {g:Array GenState} {d:Drawn} {t:Nat} {os:OsState} {K:PySem.W.Frag} {C x:Addr} {init:Option Value} {mA:Str->Option Value} {name:Str} {v:Value} {ns:List Str}
end
end L2
namespace L2
open PySem PySem.Spec PyProof.Rows
section
variable {prog:Program} {w:World} {A:Around} {R:Result->Shared->Prop} {h:Heap} {g:Array GenState} {d:Drawn} {t:Nat} {os:OsState} {K:PySem.W.Frag} {C fI:Addr} {rest:List Value}
end
section
variable {M:Model} {A:Around} {E:Value->Shared->Prop} {env:Env} {K:PySem.W.Frag} {C:Addr} {init:Option Value}
end
section
variable {X:Cx} {Ab:List (Addr × Obj)} {σ:St} {H:Hp} {s:Shared}
end
section
variable {X:Cx}
end
end L2
namespace L2
open PySem PySem.Spec PyProof.Rows
structure XGet (K:PySem.W.Frag) (C:Addr):Prop where
 ga:V4 K (.ref C) "__getattribute__" = some (some (.builtin "BaseException.__getattribute__"))
 gt:V4 K (.ref C) "__getattr__" = some none
 be:B11 K C (.type "BaseException")=some true
 hd:B23 K C=true
section
variable {prog:Program} {w:World} {A:Around} {E:Value->Shared->Prop} {s:Shared} {K:PySem.W.Frag} {x C:Addr} {ox:Obj} {od:Option Obj} {name:Str} {tk:Tok}
end
structure XTy (K:PySem.W.Frag) (C:Addr):Prop extends XGet K C where
 ca:V4 K (.ref C) "__class__" = some (some (.builtin "object.__class__"))
 cn:A36 K (.builtin "object.__class__") "__get__" = some (some (.builtin "getset_descriptor.__get__"))
 ct:B55 K (.builtin "object.__class__")=some true
 cm:B11 K C (.type "object")=some true
section
variable {K:PySem.W.Frag}
end
section
variable {X:Cx}
end
end L2
namespace L2
open PySem PySem.Spec PyProof.Rows
structure RoomH (k:Nat) (A:Around):Prop where
 dp:A.depth+3 * k+5<recursionLimit
 un:A.units+16 * k+200<cLine
structure FnOkH (P:Program) (w:World) (K:PySem.W.Frag) (mg:Str->Option Value) (base:Heap) (CX:CXT) (k:Nat) (f:Addr) (fd:FuncData) (ps:List Str) (sp:Sp):Prop where
 len:∀ vs H Q E,sp vs H Q E->vs.length=ps.length
 run:∀ (A:Around) (outer:List Env) (s:Shared) (H:Hp) (args:Args) (us:List Value) (vs:List V) (Q:VK) (E:XK),RoomH k A->Env0 P w K mg base A outer s H->BindsTo s fd args (ps.zip us)->Vals vs us->sp vs H Q E->
  codeAny (model P w) A (.call (.ref f) args) (CR CX outer P w H s Q E) s
section
variable {P:Program} {w:World} {K:PySem.W.Frag} {mg:Str->Option Value} {base:Heap}
end
section
variable {X:Cx} {CX:CXT} {k:Nat} {f C:Addr} {fd:FuncData} {ps:List Str} {sp:Sp} {dvs:List V} {ds:List Value} {E:XK} {x m:Str} {p pos apos:Pos} {e o:Expr} {es:List Expr} {ta:TE} {t:TA}
end
end L2
namespace L2
open PySem PySem.Spec PyProof.Rows
section
variable {X:Cx}
end
end L2
namespace L2
open PySem PySem.Spec PyProof.Rows
section
variable {prog:Program} {w:World} {A:Around} {E:Value->Shared->Prop} {s:Shared}
end
end L2
namespace L2
open PySem PySem.Spec PyProof.Rows
section
variable {X:Cx}
end
end L2
namespace L2
open PySem PySem.Spec PyProof.Rows
section
variable {X:Cx}
end
end L2
namespace L2
open PySem PySem.Spec PyProof.Rows
structure LcScopeO (X:Cx) (scope:Scope) (own:List Str) (fv:List Nat):Prop where
 kind:scope.kind=.function
 names:∀ y ∈ scope.names,y.2=.local->scope.names.lookup y.1=some .local
 cells:∀ y ∈ scope.names,y.2=.cell->scope.names.lookup y.1=some .cell
 frees:∀ y ∈ scope.names,y.2=.free->scope.names.lookup y.1=some .free
 free:∀ y ∈ scope.names,y.2=.free->X.env.kindOf y.1=some .cell\/X.env.kindOf y.1=some .free
 nd:(own++fv.map fun i=>X.N.getD i i7).Nodup
 fvs:∀ i ∈ fv,i<X.N.length/\scope.names.lookup (X.N.getD i i7)=some .free
 owns:∀ x ∈ own,scope.names.lookup x=some .local\/scope.names.lookup x=some .cell
section
variable {X:Cx} {Ab:List (Addr × Obj)} {σ:St} {H:Hp} {s:Shared}
end
section
variable {X:Cx} {tg iter elt:Expr} {ifs:List Expr} {scope:Scope} {pos:Pos} {own:List Str} {fv:List Nat} {wi:TI} {g:TG} {tc:TT} {te:TE}
end
end L2
namespace L2
open PySem PySem.Spec PyProof.Rows
section
variable {prog:Program} {w:World} {A:Around} {R:Result->Shared->Prop} {I:Addr} {fp wr:List Addr} {n:Nat} {P:Nat->Value->Prop} {St:Nat->Heap->Prop}
end
section
variable {prog:Program} {w:World} {A:Around} {E:Value->Shared->Prop} {s:Shared}
end
section
variable {X:Cx}
theorem qEJ:OpR X (binaryOp .Add) (fun x y H Q=>∃ a b xs ys,x=.ref a/\y=.ref b/\H a=some (.tup xs)/\H b=some (.tup ys)/\xs.length+ys.length<=sizeLine/\∀ p H',Same H H'->H' p=some (.tup (xs++ys))->Q (.ref p) H'):=by
 intro Ab s σ H x y v u Q I rx ry h;obtain ⟨a,b,xs,ys,rfl,rfl,ga,gb,hz,q⟩:=h;by_cases hx:xs=[]
 ·subst hx;cases rx;cases ry;obtain ⟨its,r1,p1,_⟩:=I.tuple (SqT.of ga);obtain ⟨its2,r2,p2,_⟩:=I.tuple (SqT.of gb);cases r1;obtain ⟨⟨cls,dd,data,sl⟩,ho,hc,n,hd⟩:=id p1;obtain ⟨⟨cls2,dd2,data2,sl2⟩,ho2,hc2,n2,hd2⟩:=id p2;simp only at hc hd hc2 hd2;subst hc hd hc2 hd2;exact concat_meets ⟨_,ho,rfl⟩ ⟨_,ho2,rfl⟩ noFill_tuple_add seq_tuple_add h9 d4 (Z8 _ _) (tuple_addW0 a b #[] its2.toArray n n2 dd dd2 sl sl2 rfl) ⟨ho,ho2,.ref b,H,I,rfl,q b H (fun _ _ e=>e) gb⟩
 ·exact qW5 Ab s σ H (.ref a) (.ref b) v u Q I rx ry ⟨a,b,xs,ys,rfl,rfl,SqT.of ga,SqT.of gb,.inl ⟨hx,ga⟩,hz,q⟩
end
end L2
namespace L2
open PySem PySem.Spec PyProof.Rows
theorem qYU:bootBuiltins "any" = some (.builtin "any"):=by decide +kernel
theorem qPC (bs:List Bool):((J9 bs.length).any fun i=>(bs[i]?).getD false)=bs.any id:=by
 rw [V6,Y6,Y6]
 constructor
 ·rintro ⟨i,hi,h⟩;have hi':=J7.mp hi;rw [B9 hi'] at h;exact ⟨_,A56 hi',h⟩
 ·rintro ⟨b,hb,h⟩;obtain ⟨i,hi,e⟩:=Y1 hb;exact ⟨i,J7.mpr hi,by rw [B9 hi,e];exact h⟩
section
variable {X:Cx}
theorem qUD (hc:X.calm=true):qCI X (.builtin "any") (fun xs H Q=>∃ (p:Addr) (bs:List Bool),xs=[.ref p]/\SqL X.K H p (bs.map V.bl)/\Q (.bl (bs.any id)) H):=by
 intro Ab s σ H xs us Q I r h;obtain ⟨p,bs,rfl,hq,q⟩:=h;obtain ⟨u,rfl,rx⟩:=qEI r;cases rx;obtain ⟨its,rv,pl,hz⟩:=I.list hq;have hl:=pl.isList;have hlt:p<s.heap.objs.size:=by obtain ⟨_,e,_⟩:=hl;exact D0 e
 have hlen:=rv.length;rw [A0] at hlen;refine call_any_walk (wpAny_pyIter_list hl ?_);refine ⟨s.heap.objs.size,[s.heap.objs.size,p],[s.heap.objs.size],its.toArray.size,_,_,fun i=>(bs[i]?).getD false,rfl,B31 (A:=X.A.in1) (I.ok.hd hc) _ p (F0 hlt) its.toArray,
  ⟨⟨_,D4 _ rfl,rfl,rfl⟩,hl.push _⟩,fun i v s' Q' E' hP hQ=>?_,fun h' tk hk=>?_⟩
 ·have hP':its[i]?=some v:=by simpa using hP
  have hi:i<bs.length:=by rw [hlen];exact (B0.mp hP').1
  obtain ⟨u,hu,ru⟩:=rv.get (i:=i) (x:=.bl bs[i]) (by rw [D7,B9 hi];rfl)
  rw [hP'] at hu;cases hu;cases ru;dsimp only at hQ;rw [B9 hi,z9] at hQ;exact wpAny_truthy_bool hQ
 ·have e:((J9 its.toArray.size).any fun i=>(bs[i]?).getD false)=bs.any id:=by
   rw [C5,<- hlen];exact qPC bs
  refine ⟨.bl (bs.any id),H,I.kept fun b x e=>hk b x (fun hm=>by rw [C0.mp hm] at e;exact c8 _ (D0 e)) (B8 _ e),?_,q⟩
  rw [e]
  rfl
end
end L2
namespace L2
open PySem PySem.Spec PyProof.Rows
section
variable {prog:Program} {w:World} {A:Around} {E:Value->Shared->Prop} {s:Shared}
end
section
variable {prog:Program} {w:World} {A:Around} {E:Value->Shared->Prop} {s:Shared}
end
section
variable {X:Cx}
def qa2 (H:Hp) (a:Addr) (xs:List V):Prop:=∃ o:Obj,H a=some (.frz o (.tup xs))/\o.cls=.type "tuple"/\o.dict=none
theorem qLF:OpR X (compareOp .IsNot) (fun x y H Q=>∃ a b:Bool,x=.bl a/\y=.bl b/\Q (.bl (a != b)) H):=by
 intro Ab s σ H x y v u Q I rx ry h;obtain ⟨a,b,rfl,rfl,q⟩:=h;cases rx;cases ry;exact wpAny_isNot_plain (by cases a <;> cases b <;> rfl) ⟨.bl (a != b),H,I,by cases a <;> cases b <;> rfl,q⟩
end
end L2
namespace L2
open PySem PySem.Spec PyProof.Rows
section
variable {X:Cx}
theorem qPI (hu:X.A.units<cLine):OpR X (compareOp .NotEq) (fun x y H Q=>∃ p l xs,x=.ref p/\y=.ref l/\SqT X.K H p xs/\SqT X.K H l []/\Q (.bl (!xs.isEmpty)) H):=by
 intro Ab s σ H x y v u Q I rx ry h;obtain ⟨p,l,xs,rfl,rfl,h1,h2,q⟩:=h;cases rx;cases ry;obtain ⟨its,r1,p1,z1⟩:=I.tuple h1;obtain ⟨its2,r2,p2,z2⟩:=I.tuple h2;cases r2;cases r1 with
 | nil=>exact A34 (e:=fun _=>true) p1 p2 hu (fun j h _=>absurd h (by simp)) _ _ _ _ ⟨.bl false,H,I,rfl,q⟩
 | cons a r=>exact A34 (e:=fun _=>true) p1 p2 hu (fun j _ h=>absurd h (by simp)) _ _ _ _ ⟨.bl true,H,I,rfl,q⟩
def qVW:V->List V->Hp->VK->Prop:=fun x vs H Q=>∃ (l:Addr) (zs:List Int) (y:Int) (j:Nat),x=.ref l/\vs=[.int y]/\H l=some (.lst (zs.map V.int))/\zs[j]?=some y/\(∀ i,i<j->zs[i]? ≠ some y)/\Q .non (Ah H l (.lst ((zs.eraseIdx j).map V.int)))
theorem qRC:MtM X "list.remove" qVW:=by
 intro Ab s σ H x vs v us Q I rx rv h;obtain ⟨l,zs,y,j,rfl,rfl,hH,hj,hn,q⟩:=h;cases rx;obtain ⟨u,rfl,ru⟩:=rv.one;obtain ⟨t,rfl⟩:=ru;obtain ⟨z,its,n,r,hl,e⟩:=I.lstM hH;have hlen:=r.length;rw [A0] at hlen;have hj1:j<zs.length:=(B0.mp hj).1;have hjs:j<its.toArray.size:=by simp;omega
 have isz:∀ (m:Nat) (hm:m<its.toArray.size),∃ (k:Int) (tk:Tok),its.toArray[m]=.int k tk/\zs[m]?=some k:=by
  intro m hm;have hm':m<zs.length:=by simp at hm;omega
  obtain ⟨u,eu,tk,ru⟩:=r.get (i:=m) (x:=.int zs[m]) (by rw [D7,B9 hm'];rfl)
  refine ⟨zs[m],tk,?_,B9 hm'⟩;rw [List.getElem_toArray,<- ru];exact (B0.mp eu).2
 let ev:Value->Bool:=fun v=>match v with | .int k _=>k == y | _=>false
 refine call_meets F.slot_list_remove ⟨_,e,rfl⟩ F.entry_list_remove (F.args_list_remove_2 _ _) (MeetsSeq.list_remove l its.toArray n (.int y t) ev (fun v hv=>?_) j hjs ?_ (fun m hm hlt=>?_) (by rw [C5,<- hl];exact z)) ⟨e,?_⟩
 ·obtain ⟨m,hm,em⟩:=Array.getElem_of_mem hv;obtain ⟨k,tk,e1,e2⟩:=isz m hm;rw [<- em,e1];exact B93 k y tk t
 ·obtain ⟨k,tk,e1,e2⟩:=isz j hjs;rw [e1];rw [hj] at e2;cases e2;exact beq_self_eq_true _
 ·obtain ⟨k,tk,e1,e2⟩:=isz m hm;rw [e1];have:k ≠ y:=fun z=>hn m hlt (by rw [e2,z])
  show (k == y)=false;simpa using this
 ·have er:((zs.map V.int).eraseIdx j)=(zs.eraseIdx j).map V.int:=by rw [x8,x8,D3,B87,B88]
  rw [<- er] at q;refine ⟨.non,_,I.lset (its':=its.eraseIdx j) hH e ?_ (r.eraseIdx j) ?_,rfl,q⟩
  ·show its.toArray.eraseIdxIfInBounds j=(its.eraseIdx j).toArray;rw [v9]
  ·have:=qLQ (zs.map V.int) j;omega
end
end L2
namespace HT
open PySem PySem.Spec PyProof.Rows
section
variable {prog:Program} {w:World} {A:Around} {E:Value->Shared->Prop} {s:Shared}
theorem getItem_tuple_whole {t sl:Addr} {Ae:Array Value} {vl vu:Value} {lo hi:Option Int} {Q:Value->Shared->Prop} (ht:IsTup s.heap t Ae) (hs:s.heap.IsSliceOf sl vl vu .none) (pl:IsPart vl lo) (pu:IsPart vu hi)
  (hw:sIx Ae.size 0 lo=0/\sIx Ae.size Ae.size hi=Ae.size) (h:Q (.ref t) s):wpAny (model prog w) A (getItem (.ref t) (.ref sl)) Q E s:=by
 obtain ⟨os,hos,hcs,hds⟩:=id hs;have hTs:s.TypeIs (.ref sl) "slice":=⟨os,hos,hcs⟩;unfold getItem
 try with_reducible refine wpAny_holding ?_
 first | refine wpAny_bind (wpAny_pure ?_) | skip
 refine wpAny_bind (wpAny_sequenceKey ht.typeIs (by decide) ?_)
 refine wpAny_bind (wpAny_callSpecial?_slot (name:=F9 "__getitem__") ht.typeIs J2
  (wpAny_call_entry J2 ht.typeIs entry_tuple_getitem ?_ (args_tuple_getitem _ _)))
 show wpAny _ _ (l7 (.ref t) >>= _) _ _ s;refine wpAny_bind (tupleItemsOf_ ht ?_);refine wpAny_bind (wpAny_typeOf hTs ?_);rw [if_pos (by decide)]
 refine wpAny_bind (qED hs pl pu ?_);have hyes:(((sIx Ae.size 0 lo:Nat):Int) == 0 && (1:Int) == 1 && (sIx Ae.size Ae.size hi - sIx Ae.size 0 lo) == Ae.size)=true:=by
  rw [hw.1,hw.2];simp
 show wpAny _ _ (if (((sIx Ae.size 0 lo:Nat):Int) == 0 && (1:Int) == 1 && (sIx Ae.size Ae.size hi - sIx Ae.size 0 lo) == Ae.size)=true then _ else _) _ _ s
 rw [if_pos hyes];unfold Builtin.Tuple.tupleIsExact;refine wpAny_bind (wpAny_bind (wpAny_typeOf ht.typeIs (wpAny_pure ?_)));rw [if_pos (by decide)]
 exact wpAny_bind (wpAny_rule (wpAny_pure ⟨_,rfl,wpAny_pure h⟩))
end
end HT
namespace L2
open PySem PySem.Spec PyProof.Rows
section
variable {X:Cx}
end
section
variable {A:Around} {s:Shared}
end
section
variable {X:Cx}
end
end L2
namespace L2
open PySem PySem.Spec PyProof.Rows
section
variable {X:Cx}
end
end L2
namespace L2
open PySem PySem.Spec PyProof.Rows
section
variable {X:Cx} {e:Expr} {te:TE} {st:Option Expr} {tst:TO} {pos p2:Pos}
end
end L2
namespace L2
open PySem PySem.Spec PyProof.Rows
section
variable {X:Cx}
end
end L2
namespace L2
open PySem PySem.Spec PyProof.Rows
section
variable {prog:Program} {w:World} {A:Around} {E:Value->Shared->Prop} {s:Shared}
end
section
variable {X:Cx}
theorem qI4:∀ (as:List Addr),Vals (as.map V.ref) (as.map F3)
 | []=>.nil
 | _::as=>.cons rfl (qI4 as)
end
end L2
namespace L2
open PySem PySem.Spec PyProof.Rows
end L2
namespace L2
open PySem PySem.Spec PyProof.Rows
section
variable {prog:Program} {w:World} {A:Around} {R:Result->Shared->Prop} {h:Heap} {g:Array GenState} {d:Drawn} {t:Nat} {os:OsState} {K:PySem.W.Frag} {C fI:Addr} {rest:List Value}
end
end L2
namespace L2
open PySem PySem.Spec PyProof.Rows
section
variable {X:Cx}
def TB:Type:=(St->XK)->TS
end
end L2
namespace L2
open PySem PySem.Spec PyProof.Rows
section
variable {prog:Program} {w:World} {A:Around} {E:Value->Shared->Prop} {s:Shared}
end
section
variable {X:Cx} {pos:Pos}
end
end L2
namespace L2
open PySem PySem.Spec PyProof.Rows
section
variable {X:Cx} {tg:Expr}
end
end L2
namespace L2
open PySem PySem.Spec PyProof.Rows
section
variable {prog:Program} {w:World} {A:Around} {E:Value->Shared->Prop} {s:Shared} {it d:Addr} {i n ep:Nat} {od:Obj} {es:Array DictEntry}
end
section
variable {X:Cx} {tg:Expr}
end
section
variable {X:Cx} {k v:Expr} {tk tv:TE} {pos:Pos}
end
end L2
namespace L2
open PySem PySem.Spec PyProof.Rows
section
variable {X:Cx} {Ab:List (Addr × Obj)} {σ:St} {H:Hp} {s:Shared}
structure LmScope (X:Cx) (scope:Scope) (p:Str) (fv:List Nat):Prop where
 kind:scope.kind=.function
 co:scope.isCoroutine=false
 gen:scope.isGenerator=false
 nocell:∀ y ∈ scope.names,y.2 ≠ .cell
 par:scope.names.lookup p=some .local
 free:∀ y ∈ scope.names,y.2=.free->X.env.kindOf y.1=some .cell\/X.env.kindOf y.1=some .free
 fvs:∀ i ∈ fv,i<X.N.length/\scope.names.lookup (X.N.getD i i7)=some .free
structure LmZ where
 A:Around
 f:Addr
 cd:Value
 s₀:Shared
 H₀:Hp
 rm:Room 0 A
def qWB (fv:List Nat) (σ:St) (x:V):St:=some x::fv.map fun i=>(σ[i]?).join
end
end L2
namespace L2
open PySem PySem.Spec PyProof.Rows
abbrev Sm0 (H H':Hp):Prop:=∀ b o,H b=some o->H' b=some o
section
variable {X:Cx}
structure KCmp (X:Cx) (KR:Hp->V->List Int->Prop):Prop where
 mono:∀ H H' y k,Sm0 H H'->KR H y k->KR H' y k
 cmp:∀ (Ab:List (Addr × Obj)) (σ:St) (s:Shared) (H:Hp) (y y':V) (u u':Value) (k k':List Int) (Q:Value->Shared->Prop) (E:Value->Shared->Prop),Inv X Ab σ H s->RelV y u->RelV y' u'->KR H y k->KR H y' k'->Q (.bool (HT.lexLt k k')) s->
  wpAny (model X.prog X.w) X.A.in1 (richCompare .Lt u u') Q E s
structure KeyAt (X:Cx) (σ:St) (fv:List Nat) (te:TE) (KR:Hp->V->List Int->Prop) (H0:Hp) (xs:List V) (ks:List (List Int)):Prop where
 len:ks.length=xs.length
 key:∀ (i:Nat) (x:V) (k:List Int),xs[i]?=some x->ks[i]?=some k->∀ Hc,Sm0 H0 Hc->te (qWB fv σ x) Hc fun y H'=>Sm0 Hc H'/\KR H' y k
section
variable {Ab:List (Addr × Obj)} {σ:St} {params:Arguments} {body:Expr} {scope:Scope} {p:Str} {fv:List Nat} {q:Str} {te:TE} {KR:Hp->V->List Int->Prop} {l f cc:Addr} {ctv:Value} {H0:Hp} {xs:List V} {ks:List (List Int)} {Q:VK}
end
end
end L2
namespace L2
open PySem PySem.Spec PyProof.Rows
section
variable {X:Cx}
end
structure LTab where
 x:Str
 c:Addr
 P:Addr
 q:Str
end L2
namespace L2
open PySem PySem.Spec PyProof.Rows
section
variable {prog:Program} {w:World} {A:Around} {E:Value->Shared->Prop} {s:Shared}
end
section
variable {X:Cx}
end
end L2
namespace L2
open PySem PySem.Spec PyProof.Rows
section
open PySem.SeqAt
open PySem.AutoSeq1 (wpAny_loadPart')
open PySem.MeetsSeq PySem.MeetsSeq2 PySem.MeetsSeq3
end
section
variable {X:Cx}
end
end L2
namespace L2.G
open PySem PySem.Spec PyProof.Rows
section
variable [NM]
variable {prog:Program} {w:World} {A:Around} {E:Value->Shared->Prop} {s:Shared}
theorem qGM {vs:List Value}:∀ p ∈ (pairsOf vs).toList,p.1=p.2:=by
 intro p hp;unfold pairsOf at hp;rw [B49] at hp
 induction vs with
 | nil=>cases hp
 | cons v vs ih=>
  rcases D9.mp hp with h | h
  ·rw [h]
  ·exact ih h
theorem qLE (vs:List Value):(pairsOf vs).toList.map (·.2)=vs:=by
 unfold pairsOf;rw [B49,List.map_snd_zip (by simp)]
theorem qR6 {vs:List Value} {xs:Array Keyed} (px:xs.Perm (pairsOf vs)) (sx:gSortedTo xs (pairsOf vs).size):(xs.map (·.2)).toList.Perm vs/\(xs.map (·.2)).toList.Pairwise (fun u v=>NM.nm u<=NM.nm v):=by
 have p2:=l8.mp px
 constructor
 ·have:=p2.map (·.2);rw [qLE] at this;rw [B50];exact this
 ·rw [B50,T1,R6];intro i j hi hj hij;have hs:=px.size_eq;have hi2:i<xs.size:=by simpa using hi
  have hj2:j<xs.size:=by simpa using hj
  have a:=sx i j (c5 hij) (by omega)
  rw [qWR hi2,qWR hj2] at a;have ei:=qGM _ (p2.mem_iff.mp (show xs[i] ∈ xs.toList by simp))
  have ej:=qGM _ (p2.mem_iff.mp (show xs[j] ∈ xs.toList by simp))
  rw [ei,ej] at a;simpa using a
theorem qO3 {κ0:SortKind} {a:Addr} {vs:List Value} {n:Nat} {P:Fin->Shared->Prop} (e0:s.heap.get? a=some (seqObj "list" vs.toArray n)) (hz:vs.length<=sizeLine) (gd:∀ v ∈ vs,NM.good v)
  (hk:∀ h':Heap,(∀ (b:Addr) (o:Obj),b ≠ a->s.heap.get? b=some o->h'.get? b=some o)->2<=vs.length->(∀ {Q:SortKind->Shared->Prop},Q κ0 { s with heap:=h' }->wpAny (model prog w) A (keyKind' vs.toArray) Q E { s with heap:=h' })/\LtOk prog w A { s with heap:=h' } κ0)
  (h:∀ (out:Array Value),out.toList.Perm vs->out.toList.Pairwise (fun u v=>NM.nm u<=NM.nm v)->P (.done (.ret .none)) { s with heap:=sortedHeap s.heap a vs out }):wpAny (model prog w) A (Builtin.«list.sort» ⟨[.ref a],[]⟩) P E s:=by
 have la:=D0 e0;have z0:vs.toArray.size<=sizeLine:=by simpa using hz
 rw [list_sort_plain];refine wpAny_bind (listItems_at e0 rfl (wpAny_bind (listUpdate_at e0 rfl ?_ z0 (G5 _))));have e1:∃ k,(s.heap.update a (X0 fun _=>#[])).get? a=some (seqObj "list" #[] k):=⟨_,get?_update_seq e0 fun _=>#[]⟩;obtain ⟨k,e1⟩:=e1;refine wpAny_bind (seqEpoch_at e1 rfl (wpAny_bind (wpAny_newTuple ?_ (by simpa using hz))))
 refine wpAny_bind (wpAny_newList (wpAny_holding ?_));have e2:(((s.heap.update a (X0 fun _=>#[])).push (seqObj "tuple" vs.toArray 0)).push (seqObj "list" #[] 0)).get? a=some (seqObj "list" #[] k):=by
  rw [x5,x5]
  ·exact e1
  ·rw [A00];exact F0 la
  ·rw [size_push',A00];exact F0 (V1 la)
 have kept:∀ (b:Addr) (o:Obj),b ≠ a->s.heap.get? b=some o->(((s.heap.update a (X0 fun _=>#[])).push (seqObj "tuple" vs.toArray 0)).push (seqObj "list" #[] 0)).get? b=some o:=fun b o hb q=>
  B8 _ (B8 _ ((Heap.get?_update_ne _ _ _ _ hb).trans q))
 have last:∀ xs:Array Keyed,xs.Perm (pairsOf vs)->gSortedTo xs (pairsOf vs).size->P (.done (.ret .none)) { s with heap:=sortedHeap s.heap a vs (xs.map (·.2)) }:=by
  intro xs px sx;obtain ⟨q1,q2⟩:=qR6 px sx;exact h _ q1 q2
 have sz:∀ xs:Array Keyed,xs.Perm (pairsOf vs)->(xs.map (·.2)).size<=sizeLine+1:=by
  intro xs px;rw [A33,px.size_eq,pairsOf_size];omega
 show wpAny _ A _ P E { s with heap:=((s.heap.update a (X0 fun _=>#[])).push (seqObj "tuple" vs.toArray 0)).push (seqObj "list" #[] 0) };dsimp only;by_cases few:vs.toArray.size<2
 ·simp only [if_pos few];refine wpAny_bind (wpAny_pure ?_);rw [B61];refine wpAny_bind (wpAny_pure (wpAny_bind (seqEpoch_at e2 rfl (wpAny_bind (listUpdate_at e2 rfl ?_ (G5 _) (sz (pairsOf vs) (.refl _)))))));simp only [bne_self_eq_false,I0,if_false];refine wpAny_pure (last (pairsOf vs) (.refl _) fun i j hij hj=>?_);rw [pairsOf_size] at hj;rw [C5] at few;rw [show i=j by omega]
  exact O3 _
 ·simp only [if_neg few];rw [C5] at few;obtain ⟨hk1,hk2⟩:=hk _ kept (by omega)
  have ik:qBV (pairsOf vs):=fun p hp=>by
   have m:=A18 (f:=(·.2)) hp;rw [qLE] at m;rw [qGM p hp];exact gd _ m
  refine wpAny_bind (hk1 (wpAny_bind (wpAny_mono (gwpS_runs (κ0:=κ0) (a₀:=pairsOf vs) (Q:=fun _ st2=>gSG κ0 (pairsOf vs) st2/\gSortedTo (arrOf st2) (pairsOf vs).size) ik ⟨.refl _,rfl,rfl⟩ rfl fun st2 g u=>⟨g,u⟩) ?_ fun _ _ x=>x)));rintro ⟨_,st2⟩ s2 ⟨es,g,u⟩;cases (show s2=_ from es);refine wpAny_bind (seqEpoch_at e2 rfl (wpAny_bind (listUpdate_at e2 rfl ?_ (G5 _) (sz _ g.perm))));dsimp only;rw [g.failed];simp only [bne_self_eq_false,I0,if_false];exact wpAny_pure (last _ g.perm u)
end
theorem qJJ:∀ a:List Int,HT.lexLt a a=false
 | []=>rfl
 | x::a=>by rw [HT.lexLt_cons,if_pos rfl];exact qJJ a
theorem qID:∀ a b c:List Int,HT.lexLt a b=true->HT.lexLt b c=true->HT.lexLt a c=true
 | [],[],_,h,_=>by cases h
 | [],_::_,[],_,h=>by cases h
 | [],_::_,_::_,_,_=>rfl
 | _::_,[],_,h,_=>by cases h
 | _::_,_::_,[],_,h=>by cases h
 | x::a,y::b,z::c,h1,h2=>by
  rw [HT.lexLt_cons] at h1 h2 ⊢;by_cases e1:x=y
  ·subst e1;rw [if_pos rfl] at h1;by_cases e2:x=z
   ·rw [if_pos e2] at h2 ⊢;exact qID a b c h1 h2
   ·rw [if_neg e2] at h2 ⊢;exact h2
  ·rw [if_neg e1] at h1;have h1:=of_decide_eq_true h1;by_cases e2:y=z
   ·subst e2;rw [if_neg e1];exact decide_eq_true h1
   ·rw [if_neg e2] at h2;have h2:=of_decide_eq_true h2;rw [if_neg (by omega)]
    exact decide_eq_true (by omega)
theorem qLP:∀ a b:List Int,HT.lexLt a b=false->HT.lexLt b a=false->a=b
 | [],[],_,_=>rfl
 | [],_::_,h,_=>by cases h
 | _::_,[],_,h=>by cases h
 | x::a,y::b,h1,h2=>by
  rw [HT.lexLt_cons] at h1 h2;by_cases e:x=y
  ·subst e;rw [if_pos rfl] at h1 h2;rw [qLP a b h1 h2]
  ·rw [if_neg e] at h1;rw [if_neg (fun z=>e z.symm)] at h2;have:=of_decide_eq_false h1;have:=of_decide_eq_false h2;omega
def qHH (L:List (List Int)) (a:List Int):Int:=(((L.filter fun x=>HT.lexLt x a).length:Nat):Int)
theorem qFZ {α:Type} {p q:α->Bool}:∀ {L:List α},(∀ x ∈ L,p x=true->q x=true)->(∃ x ∈ L,p x=false/\q x=true)->(L.filter p).length<(L.filter q).length
 | [],_,⟨x,hx,_⟩=>nomatch hx
 | y::L,h,⟨x,hx,h1,h2⟩=>by
  have le:∀ {M:List α},(∀ x ∈ M,p x=true->q x=true)->(M.filter p).length<=(M.filter q).length:=by
   intro M hM
   induction M with
   | nil=>exact C1 _
   | cons z M ih=>
    have i:=ih fun x hx=>hM x (C7 _ hx);rw [Y7,Y7];cases ep:p z
    ·cases q z
     ·simpa using i
     ·simp;omega
    ·rw [hM z (by simp) ep]
     simpa using i
  rw [Y7,Y7];rcases D9.mp hx with e | e
  ·subst e;have:=le fun x hx=>h x (C7 _ hx);rw [h1,h2];simp;omega
  ·have i:=qFZ (fun x hx=>h x (C7 _ hx)) ⟨x,e,h1,h2⟩;cases ep:p y
   ·cases q y
    ·simpa using i
    ·simp;omega
   ·rw [h y (by simp) ep]
    simpa using i
theorem qQY {L:List (List Int)} {a b:List Int} (ha:a ∈ L) (h:HT.lexLt a b=true):qHH L a<qHH L b:=by
 unfold qHH;have:=qFZ (p:=fun x=>HT.lexLt x a) (q:=fun x=>HT.lexLt x b) (L:=L) (fun x _ hx=>qID _ _ _ hx h) ⟨a,ha,qJJ a,h⟩;omega
theorem qO8 {L:List (List Int)} {a b:List Int} (ha:a ∈ L) (hb:b ∈ L):decide (qHH L a<qHH L b)=HT.lexLt a b:=by
 cases h:HT.lexLt a b with
 | true=>exact decide_eq_true (qQY ha h)
 | false=>
  refine decide_eq_false fun z=>?_;cases h2:HT.lexLt b a with
  | true=>have:=qQY hb h2;omega
  | false=>rw [qLP a b h h2] at z;omega
def qTY (xs:List V):List Int:=xs.map fun | .int i=>i | _=>0
theorem qRS (t:List Int):qTY (t.map V.int)=t:=by
 unfold qTY;rw [j7];exact (O4 fun x _=>rfl).trans (B66 _)
def keyH (H:Hp):Value->List Int
 | .ref r=>match H r with
  | some (.tup xs)=>qTY xs
  | _=>[]
 | _=>[]
@[reducible] def tupNM (H:Hp) (L:List (List Int)):NM:=⟨fun v=>qHH L (keyH H v),fun v=>∃ r t,v=.ref r/\H r=some (.tup (t.map V.int))/\t ∈ L⟩
theorem qK6 {H:Hp} {r:Addr} {t:List Int} (h:H r=some (.tup (t.map V.int))):keyH H (.ref r)=t:=by
 show (match H r with | some (.tup xs)=>qTY xs | _=>[])=t
 rw [h];exact qRS t
section
variable {prog:Program} {w:World} {A:Around} {E:Value->Shared->Prop} {s:Shared}
theorem qR9 {x y:Addr} {xs ys:Array Value} {ns ms:List Int} {Q:Bool->Shared->Prop} (hu:A.units<cLine) (hx:IsTup s.heap x xs) (hy:IsTup s.heap y ys) (ix:IntsAre xs.toList ns) (iy:IntsAre ys.toList ms) (h:Q (HT.lexLt ns ms) s):wpAny (model prog w) A (oneLt' true (.ref x) (.ref y)) Q E s:=by
 rw [oneLt'_eq];simp only [if_true];obtain ⟨⟨cls,dd,data,sl⟩,ho,hc,n,hd⟩:=id hx;obtain ⟨⟨cls2,dd2,data2,sl2⟩,ho2,hc2,n2,hd2⟩:=id hy;simp only at hc hd hc2 hd2;subst hc hd hc2 hd2;refine wpAny_bind (wpAny_cRoomFor hu ?_);refine wpAny_bind (wpAny_callSpecialIfBound?_slot ⟨_,ho,rfl⟩ A80 (call_meets A80 ⟨_,ho,rfl⟩ PySem.F.entry_tuple_lt (PySem.F.args_tuple_lt_2 _ _) (HT.tuple_lt_ints x y xs ys n n2 dd dd2 sl sl2 ns ms ix iy) ⟨ho,ho2,?_⟩));exact wpAny_truthy_bool h
end
end L2.G
namespace L2.G
open PySem PySem.Spec PyProof.Rows
section
variable {prog:Program} {w:World} {A:Around} {E:Value->Shared->Prop} {s:Shared}
theorem qIG {b:Bool} {Q:Bool->Shared->Prop}:∀ {vs ws:List Value} {ns ms:List Int} {i:Nat} {fin:Bool},IntsAre vs ns->IntsAre ws ms->
  (fin=decide (vs.length<ws.length))->Q (HT.lexLt ns ms) s->PySem.W.KatLex prog w A b fin Q (vs.zip ws) i s
 | _,_,_,_,i,fin,.nil,.nil,ef,h=>by
  rw [ef];exact A81 h
 | _,_,_,_,i,fin,.nil,.cons _ _ _,ef,h=>by
  rw [ef];exact A81 h
 | _,_,_,_,i,fin,.cons _ _ _,.nil,ef,h=>by
  rw [ef];exact A81 h
 | _,_,_,_,i,fin,.cons (vs:=vs) (ns:=ns) x t hv,.cons (vs:=ws) (ns:=ms) y u hw,ef,h=>by
  rw [A27];refine PySem.W.kat_cons (wpAny_eqBool_int ?_);rw [HT.lexLt_cons] at h;by_cases e:x=y
  ·rw [if_pos e] at h;rw [beq_iff_eq.mpr e];refine PySem.W.kat_yes (qIG hv hw ?_ h);rw [ef];simp
  ·rw [if_neg e] at h;rw [beq_eq_false_iff_ne.mpr e];refine PySem.W.kat_no ?_;cases eb:(b && i == 0) with
   | true=>exact oneLt_int h
   | false=>exact PySem.W.kat_one _ _ (lt_int h)
theorem qPQ {x y:Addr} {xs ys:Array Value} {ns ms:List Int} {b:Bool} {Q:Bool->Shared->Prop} (hx:IsTup s.heap x xs) (hy:IsTup s.heap y ys) (ix:IntsAre xs.toList ns) (iy:IntsAre ys.toList ms) (h:Q (HT.lexLt ns ms) s):wpAny (model prog w) A (keyLt' (tuples' b) (.ref x) (.ref y)) Q E s:=by
 obtain ⟨o,ho,hc,n,hd⟩:=id hx;obtain ⟨o2,ho2,hc2,n2,hd2⟩:=id hy;refine PySem.W.kat_lt ho hd ho2 hd2 (qIG ix iy ?_ h);simp
theorem qRK {rs:List Addr} {ts:List (List Int)} {Q:SortKind->Shared->Prop} (h:Paired (fun (r:Addr) (t:List Int)=>∃ xs:Array Value,IsTup s.heap r xs/\IntsAre xs.toList t) rs ts) (hne:∀ t ∈ ts,t ≠ []) (h2:2<=rs.length)
  (q:Q (tuples' true) s):wpAny (model prog w) A (keyKind' (rs.map F3).toArray) Q E s:=by
 have tu:∃ fs,PySem.W.KatTups s.heap (rs.map F3) fs/\fs.length=rs.length/\∀ v ∈ fs,∃ n t,v=.int n t:=by
  clear h2
  induction h with
  | nil=>exact ⟨[],trivial,rfl,fun _ z=>nomatch z⟩
  | @cons r t l1 l2 a _ ih=>
   obtain ⟨fs,k1,k2,k3⟩:=ih fun t ht=>hne t (C7 _ ht);obtain ⟨xs,⟨o,ho,hc,n,hd⟩,ia⟩:=a;have ht:t ≠ []:=hne t (by simp)
   obtain ⟨xs⟩:=xs;cases ia with
   | nil=>exact absurd rfl ht
   | cons x tk rest=>
    refine ⟨.int x tk::fs,.cons ho hc hd rfl k1,by simp [k2],fun v hv=>?_⟩
    rcases D9.mp hv with e | e
    ·exact ⟨x,tk,e⟩
    ·exact k3 v e
 obtain ⟨fs,k1,k2,k3⟩:=tu;refine PySem.W.kat_kind (T:=.type "int") k1 (by omega) (fun v hv=>?_) rfl ?_
 ·obtain ⟨n,t,rfl⟩:=k3 v hv;exact .now
 ·exact q
theorem qJN:∀ (rs:List Addr) {Q:List (Option Value)->Shared->Prop},(∀ r ∈ rs,∃ xs:Array Value,IsTup s.heap r xs)->(∀ L,Q L s)->wpAny (model prog w) A ((rs.map F3).mapM firstOfTuple') Q E s
 | [],_,_,h=>by rw [o5,List.mapM_nil];exact wpAny_pure (h _)
 | r::rs,Q,t,h=>by
  obtain ⟨xs,o,ho,hc,n,hd⟩:=t r (by simp)
  rw [G6,B74];refine wpAny_bind ?_;rw [A91];refine wpAny_bind (A29 (show PySem.W.Looks (model prog w) s.heap (typeOf (.ref r)) o.cls from (A60 ho).andThen .now) ?_);rw [hc,if_neg (by first | decide | simp)]
  refine wpAny_bind (listItems_at ho hd (wpAny_pure ?_));exact wpAny_bind (qJN rs (Q:=fun bs s'=>wpAny (model prog w) A (pure (xs[0]?::bs)) Q E s') (fun r hr=>t r (C7 _ hr)) fun L=>wpAny_pure (h _))
theorem qPP {r0:Addr} {rs:List Addr} {Q:SortKind->Shared->Prop} (h0:IsTup s.heap r0 #[]) (h:∀ r ∈ rs,∃ xs:Array Value,IsTup s.heap r xs)
  (q:Q oneType' s):wpAny (model prog w) A (keyKind' ((r0::rs).map F3).toArray) Q E s:=by
 rw [kat_kind_eq,B35,map_eq_pure_bind,G6,B74];obtain ⟨o,ho,hc,n,hd⟩:=id h0;refine wpAny_bind (wpAny_bind (wpAny_bind ?_));rw [A91];refine wpAny_bind (A29 (show PySem.W.Looks (model prog w) s.heap (typeOf (.ref r0)) o.cls from (A60 ho).andThen .now) ?_);rw [hc,if_neg (by first | decide | simp)]
 refine wpAny_bind (listItems_at ho hd (wpAny_pure ?_));refine wpAny_bind (qJN rs h fun L=>wpAny_pure (wpAny_pure ?_));have e1:((((#[]:Array Value)[0]?)::L).toArray.all fun x=>x.isSome)=false:=by simp
 have e2:((((((#[]:Array Value)[0]?)::L).toArray)[0]?).bind id).isSome=false:=by simp
 rw [if_neg (by rw [e1];exact C6),if_neg (by rw [e2];exact C6)]
 rw [oneTypeOnly'_eq,B35,map_eq_pure_bind];refine wpAny_bind (wpAny_bind (wpAny_bind (PySem.W.kas_mapM (r:=W9 "tuple") _ (fun v hv Q' hq=>?_) (wpAny_pure ?_))))
 ·rw [<- G6] at hv;obtain ⟨r,hr,rfl⟩:=G1.mp hv;have:∃ xs:Array Value,IsTup s.heap r xs:=by
   rcases D9.mp hr with e | e
   ·rw [e];exact ⟨_,h0⟩
   ·exact h r e
  obtain ⟨xs,o2,ho2,hc2,n2,hd2⟩:=this;refine A29 (show PySem.W.Looks (model prog w) s.heap (typeOf (.ref r)) o2.cls from (A60 ho2).andThen .now) ?_;rw [hc2];exact hq
 ·have h0':(B89 (fun _=>W9 "tuple") (F3 r0::B89 F3 rs)).toArray[0]?=some (W9 "tuple"):=by simp
  have hall2:((B89 (fun _=>W9 "tuple") (F3 r0::B89 F3 rs)).toArray.all fun x=>x == W9 "tuple")=true:=by
   simp only [List.all_toArray,A82,L0];intro _ _
   rfl
  rw [h0'];simp only [hall2,if_true];exact wpAny_pure (wpAny_pure q)
end
end L2.G
namespace L2.G
open PySem PySem.Spec PyProof.Rows
section
variable {X:Cx}
abbrev TupsAt (H:Hp) (rs:List Addr) (ts:List (List Int)):Prop:=Paired (fun (r:Addr) (t:List Int)=>H r=some (.tup (t.map V.int))) rs ts
theorem qDT:∀ {rs:List Addr} {its:List Value},Vals (rs.map V.ref) its->its=rs.map F3
 | [],_,.nil=>rfl
 | r::rs,_,.cons h t=>by
  rw [G6,<- qDT t];have:_=F3 r:=h;rw [this]
def qHF:Value->Addr
 | .ref a=>a
 | _=>0
theorem qL6:∀ {vs:List Value},(∀ v ∈ vs,∃ a,v=.ref a)->(vs.map qHF).map F3=vs
 | [],_=>rfl
 | v::vs,h=>by
  obtain ⟨a,rfl⟩:=h v (by simp)
  rw [G6,G6,qL6 fun v hv=>h v (C7 _ hv)]
  rfl
theorem qNV {H:Hp}:∀ {rs:List Addr} {ts:List (List Int)},TupsAt H rs ts->ts=rs.map fun r=>keyH H (.ref r)
 | _,_,.nil=>rfl
 | _,_,.cons h t=>by rw [G6,qK6 h,<- qNV t]
theorem qQM {H:Hp}:∀ {rs:List Addr},(∀ r ∈ rs,∃ t:List Int,H r=some (.tup (t.map V.int)))->TupsAt H rs (rs.map fun r=>keyH H (.ref r))
 | [],_=>.nil
 | r::rs,h=>by
  obtain ⟨t,e⟩:=h r (by simp)
  exact .cons (by dsimp only;rw [qK6 e];exact e) (qQM fun r hr=>h r (C7 _ hr))
theorem qHQ {H:Hp}:∀ {rs:List Addr} {ts:List (List Int)},TupsAt H rs ts->∀ {r:Addr},r ∈ rs->∃ t,t ∈ ts/\H r=some (.tup (t.map V.int))
 | _,_,.nil,_,h=>nomatch h
 | _,_,.cons (b:=t) g T,r,h=>by
  rcases D9.mp h with e | e
  ·exact ⟨t,by simp,by rw [e];exact g⟩
  ·obtain ⟨t,h1,h2⟩:=qHQ T e;exact ⟨t,C7 _ h1,h2⟩
theorem qQS {Ab:List (Addr × Obj)} {s:Shared} {σ:St} {H:Hp} {Q:VK} {A:Around} {E:Value->Shared->Prop} {rs:List Addr} {ts:List (List Int)} {D:Addr} (I:Inv X Ab σ (Ah H D (.lst (rs.map V.ref))) s) (hD:H D=none) (T:TupsAt H rs ts)
  (hk:(∀ t ∈ ts,t ≠ [])\/∃ ts',ts=[]::ts') (hu:A.units+8<cLine)
  (q:∀ rs' ts',rs'.Perm rs->TupsAt H rs' ts'->ts'.Perm ts->ts'.Pairwise (fun a b=>HT.lexLt b a=false)->Q (.ref D) (Ah H D (.lst (rs'.map V.ref)))) :
  wpAny (model X.prog X.w) A (call (.builtin "list.sort") [.ref D]) (fun _ s'=>EP X Ab σ Q (.ref D) s') E s:=by
 obtain ⟨z,its,n,rv,hl,e⟩:=I.lstM qA1;have ei:=qDT rv;subst ei;have hz:(rs.map F3).length<=sizeLine:=by simpa using z
 letI:NM:=tupNM H ts
 have gd:∀ v ∈ rs.map F3,NM.good v:=fun v hv=>by
  obtain ⟨r,hr,rfl⟩:=G1.mp hv;obtain ⟨t,ht,g⟩:=qHQ T hr;exact ⟨r,t,rfl,g,ht⟩
 have tat:∀ (h':Heap),(∀ (b:Addr) (o:Obj),b ≠ D->s.heap.get? b=some o->h'.get? b=some o)->∀ (r:Addr) (t:List Int),H r=some (.tup (t.map V.int))->∃ xs:Array Value,IsTup h' r xs/\IntsAre xs.toList t:=by
  intro h' kept r t g;have nr:r ≠ D:=qA5 g hD;obtain ⟨its,r1,⟨o,ho,hc,n,hd⟩,_⟩:=I.tuple (SqT.of (show (Ah H D (.lst (rs.map V.ref))) r=some (.tup (t.map V.int)) by rw [qA8 nr];exact g))
  exact ⟨its.toArray,⟨o,kept r o nr ho,hc,n,hd⟩,qPU r1⟩
 have lt_ok:∀ (A':Around) (h':Heap) (κ:SortKind),(∀ (x y:Addr) (xs ys:Array Value) (ns ms:List Int) (Q:Bool->Shared->Prop) (E:Value->Shared->Prop),IsTup h' x xs->IsTup h' y ys->IntsAre xs.toList ns->IntsAre ys.toList ms->Q (HT.lexLt ns ms) { s with heap:=h' }->wpAny (model X.prog X.w) A' (keyLt' κ (.ref x) (.ref y)) Q E { s with heap:=h' })->
   (∀ (b:Addr) (o:Obj),b ≠ D->s.heap.get? b=some o->h'.get? b=some o)->LtOk X.prog X.w A' { s with heap:=h' } κ:=by
  intro A' h' κ rule kept;refine ⟨fun {x y Q E} hx hy h=>?_⟩;obtain ⟨r1,t1,rfl,g1,m1⟩:=hx;obtain ⟨r2,t2,rfl,g2,m2⟩:=hy;obtain ⟨xs,i1,j1⟩:=tat h' kept r1 t1 g1;obtain ⟨ys,i2,j2⟩:=tat h' kept r2 t2 g2;refine rule r1 r2 xs ys t1 t2 Q E i1 i2 j1 j2 ?_;have e1:NM.nm (F3 r1)=qHH ts t1:=by show qHH ts (keyH H (.ref r1))=_;rw [qK6 g1]
  have e2:NM.nm (F3 r2)=qHH ts t2:=by show qHH ts (keyH H (.ref r2))=_;rw [qK6 g2]
  rw [e1,e2,qO8 m1 m2] at h;exact h
 have fin:∀ out:Array Value,out.toList.Perm (rs.map F3)->out.toList.Pairwise (fun u v=>NM.nm u<=NM.nm v)->EP X Ab σ Q (.ref D) { s with heap:=sortedHeap s.heap D (rs.map F3) out }:=by
  intro out p1 p2;have refs:∀ v ∈ out.toList,∃ a,v=F3 a:=fun v hv=>by
   obtain ⟨r,_,er⟩:=G1.mp (p1.mem_iff.mp hv);exact ⟨r,er.symm⟩
  have back:=qL6 refs;have p3:(out.toList.map qHF).Perm rs:=by
   have:=p1.map qHF;rw [j7] at this;have e:rs.map (qHF ∘ F3)=rs:=(O4 fun x _=>rfl).trans (B66 _)
   rwa [e] at this
  obtain ⟨e2,hat⟩:=sortedHeap_at (vs:=rs.map F3) (out:=out) e;have T':TupsAt H (out.toList.map qHF) ((out.toList.map qHF).map fun r=>keyH H (.ref r)):=qQM fun r hr=>by
   obtain ⟨t,_,g⟩:=qHQ T (p3.mem_iff.mp hr);exact ⟨t,g⟩
  have p4:((out.toList.map qHF).map fun r=>keyH H (.ref r)).Perm ts:=by
   have:=p3.map fun r=>keyH H (.ref r);rw [<- qNV T] at this;exact this
  have p5:((out.toList.map qHF).map fun r=>keyH H (.ref r)).Pairwise (fun a b=>HT.lexLt b a=false):=by
   rw [<- back,T1] at p2;rw [T1];refine p2.imp_of_mem fun {a b} ha hb le=>?_;have ma:keyH H (.ref a) ∈ ts:=p4.mem_iff.mp (G1.mpr ⟨a,ha,rfl⟩);have mb:keyH H (.ref b) ∈ ts:=p4.mem_iff.mp (G1.mpr ⟨b,hb,rfl⟩);have le:qHH ts (keyH H (.ref a))<=qHH ts (keyH H (.ref b)):=le;rw [<- qO8 mb ma];exact decide_eq_false (by omega)
  refine ⟨.ref D,Ah H D (.lst ((out.toList.map qHF).map V.ref)),?_,rfl,q _ _ p3 T' p4 p5⟩;have hu:Ah (Ah H D (.lst (rs.map V.ref))) D (.lst ((out.toList.map qHF).map V.ref))=Ah H D (.lst ((out.toList.map qHF).map V.ref)):=qGF;rw [<- hu];refine I.write (x:=D) (e:=D) (t':=s.toks) (by rw [qA1];exact trivial) (.inl rfl) (fun b u hb hbu=>?_) ⟨_,hat⟩ ?_
  ·rw [sortedHeap_old hb (D0 hbu)];exact hbu
  ·refine ⟨?_,out.toList,e2,?_,by simpa using hat⟩
   ·rw [A0,p3.length_eq];simpa using z
   ·have:=qI4 (out.toList.map qHF);rw [back] at this;exact this
 rcases hk with hk | ⟨ts',hk⟩
 ·refine wpAny_call_entry slot_list_sort ⟨_,e,rfl⟩ entry_list_sort (qO3 (κ0:=tuples' true) (n:=n) e hz gd (fun h' kept h2=>⟨fun {Q} hq=>?_,lt_ok _ h' _ (fun x y xs ys ns ms Q E i1 i2 j1 j2 hq=>qPQ i1 i2 j1 j2 hq) kept⟩) fun out p1 p2=>⟨_,rfl,fin out p1 p2⟩) (args_list_sort _);refine qRK (s:={ s with heap:=h' }) (ts:=ts) ?_ hk (by simpa using h2) hq
  exact Paired.mapP T fun r t g=>tat h' kept r t g
 ·refine wpAny_call_entry slot_list_sort ⟨_,e,rfl⟩ entry_list_sort (qO3 (κ0:=oneType') (n:=n) e hz gd (fun h' kept h2=>⟨fun {Q} hq=>?_,lt_ok _ h' _ (fun x y xs ys ns ms Q E i1 i2 j1 j2 hq=>?_) kept⟩) fun out p1 p2=>⟨_,rfl,fin out p1 p2⟩) (args_list_sort _)
  ·cases T with
   | nil=>cases hk
   | @cons r t l1 l2 g T=>
    have et:t=[]:=by cases hk;rfl
    subst et;obtain ⟨xs,i1,j1⟩:=tat h' kept r [] g;obtain ⟨xs⟩:=xs;cases j1;refine qPP (s:={ s with heap:=h' }) i1 (fun r hr=>?_) hq;obtain ⟨t,_,g⟩:=qHQ T hr;obtain ⟨xs,i,_⟩:=tat h' kept r t g;exact ⟨xs,i⟩
  ·rw [keyLt'_oneType];exact qR9 (s:={ s with heap:=h' }) (by first | exact Y9 (by show _<=A.units+8;simp [Around.in1]) hu | (show A.units+1<cLine;omega) | (show A.units<cLine;omega)) i1 i2 j1 j2 hq
theorem qMP {Ab:List (Addr × Obj)} {σ:St} {H:Hp} {Q:VK} {rs:List Addr} {ts:List (List Int)} (hu:X.A.units+64<cLine) {s1:Shared} (I1:Inv X Ab σ H s1) (T:TupsAt H rs ts) (hk:(∀ t ∈ ts,t ≠ [])\/∃ ts',ts=[]::ts') (hz:rs.length<=sizeLine)
  (q:∀ a rs' ts',H a=none->rs'.Perm rs->TupsAt H rs' ts'->ts'.Perm ts->ts'.Pairwise (fun a b=>HT.lexLt b a=false)->Q (.ref a) (Ah H a (.lst (rs'.map V.ref)))):wpAny (model X.prog X.w) X.A.in1 (do
   let l <- newList (rs.map F3)
   let _ <- holding [l] (call (.builtin "list.sort") [l] [])
   ret l) (fun fin s'=>∃ r,fin=.done (.ret r)/\EP X Ab σ Q r s') X.xe s1:=by
 refine wpAny_bind (wpAny_newList ?_ (by rw [A0];exact hz))
 have hf:=I1.hok.fresh (C1 s1.heap.objs.size);have I2:=I1.laid (a:=s1.heap.objs.size) (t':=s1.toks) (o:=.lst (rs.map V.ref)) (h':=s1.heap.push { cls:=.type "list",data:=.seq (rs.map F3).toArray }) (fun b u e=>B8 _ e) (C1 _) ⟨by rw [A0];exact hz,_,0,qI4 rs,D4 _ rfl⟩
 refine wpAny_bind (wpAny_holding (wpAny_mono (qQS (E:=X.xe) I2 hf T hk (by show X.A.units+1+8<cLine;omega) fun rs' ts' a b c d=>q _ rs' ts' hf a b c d) (fun _ s' x=>?_) fun _ _ e=>e))
 exact wpAny_pure ⟨_,rfl,x⟩
theorem call_sortedTL (hc:X.calm=true) (hu:X.A.units+64<cLine):qCI X (.builtin "sorted") (fun xs H Q=>∃ p rs ts,xs=[.ref p]/\SqL X.K H p (rs.map V.ref)/\TupsAt H rs ts/\(∀ t ∈ ts,t ≠ [])/\
  ∀ a rs' ts',H a=none->rs'.Perm rs->TupsAt H rs' ts'->ts'.Perm ts->ts'.Pairwise (fun a b=>HT.lexLt b a=false)->Q (.ref a) (Ah H a (.lst (rs'.map V.ref)))):=by
 intro Ab s σ H xs us Q I r h;obtain ⟨p,rs,ts,rfl,hq,T,hne,q⟩:=h;obtain ⟨u,rfl,rx⟩:=qEI r;cases rx;refine m5 kind_sorted plain_sorted entry_sorted (args_sorted1 _) ?_;unfold Builtin.«sorted»;refine wpAny_bind (m:=checkCount "sorted" 1 1 _) (wpAny_pure ?_);obtain ⟨its,rv,pl,hz⟩:=I.list hq;obtain ⟨o,ho,hc',n,hd⟩:=pl.isList;have hlen:=rv.length;have ei:=qDT rv;subst ei;refine wpAny_bind (wpAny_collect_seq p (.inl rfl) ho hc' hd (fun h' hk=>?_) (by rw [C5,<- hlen];exact hz))
 have:=qMP (s1:={ s with heap:=h' }) hu (I.kept (t':=s.toks) hk) T (.inl hne) (by rw [A0] at hz;exact hz) q
 exact this
end
end L2.G
namespace L2.G
open PySem PySem.Spec PyProof.Rows PySem.W
section
variable {X:Cx} {Ab:List (Addr × Obj)} {σ:St} {params:Arguments} {body:Expr} {scope:Scope} {p:Str} {fv:List Nat} {q:Str} {te:TE} {l f cc:Addr} {ctv:Value} {H0:Hp} {xs:List V} {ks:List (List Int)} {Q:VK}
end
end L2.G
namespace L2.G
open PySem PySem.Spec PyProof.Rows PySem.W
section
variable {X:Cx} {Ab:List (Addr × Obj)} {σ:St} {params:Arguments} {body:Expr} {scope:Scope} {p:Str} {fv:List Nat} {q:Str} {te:TE} {l f cc:Addr} {ctv:Value} {H0:Hp} {xs:List V} {ks:List (List Int)} {Q:VK}
end
end L2.G
namespace L2
open PySem PySem.Spec PyProof.Rows
section
variable {X:Cx}
end
end L2
namespace L2
open PySem PySem.Spec PyProof.Rows
section
variable {X:Cx}
theorem qSO:qCI X (.builtin "len") (fun xs H Q=>∃ p zs,xs=[V.ref p]/\H p=some (SetM X.w p zs)/\Q (.int (zs.length:Nat)) H):=by
 intro Ab s σ H xs us Q I r h;obtain ⟨p,zs,rfl,hq,q⟩:=h;obtain ⟨u,rfl,ru⟩:=qEI r;cases ru;obtain ⟨hS,_⟩:=(show ObjOk X.prog X.w H s.heap p (SetM X.w p zs) from I.hok p _ hq);obtain ⟨es,ep,t,ks,ho,T,en,pm,nd,l4,h5⟩:=hS;have le:es.size=zs.length:=by
  have:=E9 en;simp at this;rw [<- pm.length_eq,<- this]
 refine call_len_set ho ?_ rfl (T.fits (by omega)) (by omega) ?_
 ·exact ⟨rfl,rfl,rfl⟩
 ·rw [le];exact ⟨.int zs.length,H,I.tok _,⟨_,rfl⟩,q⟩
end
end L2
namespace L2
open PySem PySem.Spec PyProof.Rows
section
variable {prog:Program} {w:World} {A:Around} {R:Result->Shared->Prop} {I:Addr} {fp wr:List Addr} {n:Nat} {P:Nat->Value->Prop} {St:Nat->Heap->Prop}
end
section
variable {X:Cx}
end
end L2
namespace L2
open PySem PySem.Spec PyProof.Rows
structure Clb (P:Program) (w:World) (K:PySem.W.Frag) (mg:Str->Option Value) (base:Heap) (n:Nat) (f:Addr) (fd:FuncData) (x:Str) (ps:List Str) (sp:Sp):Prop where
 G:FnOk P w K mg base CX0 n f fd ps sp
 b:Binds K fd ps []
 k:Z2 K (.ref f)=true
 m:mg x=some (.ref f)
theorem qBB {X:Cx} {n k:Nat} {f:Addr} {fd:FuncData} {x:Str} {ps:List Str} {sp:Sp} {e:Expr} {es:List Expr} {t:TA} {p pos:Pos} (C:Clb X.prog X.w X.K X.mg X.base n f fd x ps sp) (hr:Room k X.A) (hg:Gl X x)
  (ha:PA X (e::es) t) (hnk:n<=k:=by decide) (hdb:(x == ("__debug__" : Str))=false:=by decide) (he:starEach (e::es) X.env=(false,eval e X.env)::starEach es X.env:=by rfl) (hpl:(backTo pos (starEach es X.env)).any (·.1)=false:=by rfl) :
  PE X (.Call (.Name x p) (e::es) [] pos) (qXH sp [] E0 t):=qW3 C.G (hr.mono hnk) hg C.m C.k C.b .nil qZK ha hdb he hpl
theorem nmD {i:Nat} {t u:TS} {D:Ends} {x:V} {σ:St} {H:Hp} (h:∀ D':Ends,(∀ σ H,D.nx σ H->D'.nx σ H)->(∀ v H,D.rt v H->D'.rt v H)->tSeq t u D' (σ.set i (some x)) H):qU9 i x σ H fun σ2 H2=>tSeq t u D σ2 H2:=h D (fun _ _ z=>z) fun _ _ z=>z
theorem nmT {t u:TS} {D:Ends} {σ:St} {H:Hp} (h:∀ D':Ends,(∀ σ H,D.nx σ H->D'.nx σ H)->(∀ v H,D.rt v H->D'.rt v H)->tSeq t u D' σ H):tSeq t u D σ H:=h D (fun _ _ z=>z) fun _ _ z=>z
theorem nmI {g:TG} {c:TT} {t u:TS} {D:Ends} {x:V} {σ:St} {H:Hp} (h:∀ D':Ends,(∀ σ H,D.nx σ H->D'.nx σ H)->(∀ v H,D.rt v H->D'.rt v H)->g x σ H fun σ2 H2=>tIfS c t u D' σ2 H2):g x σ H fun σ2 H2=>tIfS c t u D σ2 H2:=h D (fun _ _ z=>z) fun _ _ z=>z
end L2
namespace L2
open PySem PySem.Spec PyProof.Rows
section
variable {prog:Program} {w:World} {A:Around} {E:Value->Shared->Prop} {s:Shared}
end
section
variable {X:Cx}
end
end L2
namespace L2
open PySem PySem.Spec PyProof.Rows
section
variable {X:Cx} {tg:Expr}
end
section
variable {X:Cx}
end
end L2
namespace L2
open PySem PySem.Spec PyProof.Rows
section
variable {X:Cx}
end
end L2
namespace L2
open PySem PySem.Spec PyProof.Rows
section
variable {X:Cx}
theorem qTP {K:PySem.W.Frag} (hK:X.K=K):OpR X (binaryOp .Add) (qXV K):=by subst hK;exact qK1
end
end L2
namespace L2
open PySem PySem.Spec PyProof.Rows
theorem qON {K:PySem.W.Frag} {b:Bool} {l m:Addr} {xs ys:List V} {g:TG} {tb:TS} {D:Ends} {σ0:St} {H0:Hp} (hlen:ys.length<=xs.length) (Pv:Nat->St->Hp->Prop) (h0:Pv 0 σ0 H0) (hl:∀ i σ H,i<=ys.length->Pv i σ H->SqB b K H l xs/\SqB b K H m ys)
  (hs:∀ i x y σ H T,xs[i]?=some x->ys[i]?=some y->Pv i σ H->H T=none->g (.ref T) σ (Ah H T (.tup [x,y])) fun σ2 H2=>tb { D with nx:=Pv (i+1),ct:=Pv (i+1),bk:=D.nx } σ2 H2)
  (hd:∀ σ H,Pv ys.length σ H->D.nx σ H) :
  ∃ W:Nat->Nat->St->Hp->Prop,(∃ m,W 0 m σ0 H0)/\∀ i n σ H,W i n σ H->
   ((Itz K b l m).stop i H/\D.nx σ H)\/((Itz K b l m).go i H/\∃ N:St->Hp->Prop,(∀ σ' H',N σ' H'->∃ m',m'<n/\W (i+1) m' σ' H')/\∀ x H',(Itz K b l m).yld i H x H'->g x σ H' fun σ2 H2=>tb { D with nx:=N,ct:=N,bk:=D.nx } σ2 H2):=by
 refine ⟨fun i n σ H=>n=ys.length - i/\i<=ys.length/\Pv i σ H,⟨ys.length,by simp,G5 _,h0⟩,?_⟩
 rintro i n σ H ⟨rfl,hi,q⟩;have hq:=hl i σ H hi q;by_cases hlt:i<ys.length
 ·refine .inr ⟨⟨xs,ys,xs[i]'(by omega),ys[i],hq.1,hq.2,B9 _,by simp [hlt]⟩,Pv (i+1),fun σ' H' p'=>⟨ys.length - (i+1),by omega,rfl,hlt,p'⟩,fun v H' y=>?_⟩
  obtain ⟨T,x,y,hT,e1,e2,yy⟩:=y;subst e1 e2;exact hs i x y σ H T (yy xs ys hq.1 hq.2).1 (yy xs ys hq.1 hq.2).2 q hT
 ·have e:i=ys.length:=by omega
  subst e;by_cases c:ys.length<xs.length
  ·exact .inl ⟨⟨xs,hq.1,.inr ⟨ys,xs[ys.length],hq.2,B9 _,C1 _⟩⟩,hd σ H q⟩
  ·exact .inl ⟨⟨xs,hq.1,.inl (by omega)⟩,hd σ H q⟩
end L2
namespace Fw
open PySem L2
theorem qC3:bootBuiltins "len" = some (.builtin "len"):=by decide +kernel
theorem qSR:bootBuiltins "min" = some (.builtin "min"):=by decide +kernel
theorem qVJ:bootBuiltins "max" = some (.builtin "max"):=by decide +kernel
theorem qEO:bootBuiltins "sorted" = some (.builtin "sorted"):=by decide +kernel
theorem qSS:bootBuiltins "divmod" = some (.builtin "divmod"):=by decide +kernel
theorem qP0:bootBuiltins "all" = some (.builtin "all"):=by decide +kernel
theorem qAV:bootBuiltins "isinstance" = some (.builtin "isinstance"):=by decide +kernel
theorem qOZ:bootBuiltins "int" = some (.type "int"):=by decide +kernel
theorem qNJ:bootBuiltins "bool" = some (.type "bool"):=by decide +kernel
theorem qSQ:bootBuiltins "str" = some (.type "str"):=by decide +kernel
theorem qKF:bootBuiltins "list" = some (.type "list"):=by decide +kernel
theorem qB6:bootBuiltins "tuple" = some (.type "tuple"):=by decide +kernel
theorem qOY:bootBuiltins "set" = some (.type "set"):=by decide +kernel
theorem qUE:bootBuiltins "range" = some (.type "range"):=by decide +kernel
theorem qHC:bootBuiltins "enumerate" = some (.type "enumerate"):=by decide +kernel
structure StAt (H:Hp) (d c:Addr) (t:Int) (ns:List Int):Prop where
 dict:H d=some (.dK [(P9 "cells",.ref c),(P9 "turn",.int t)])
 list:H c=some (.lst (ns.map V.int))
 ne:0<ns.length
 len:ns.length<=63
 pos:0<=t
def Keep (d c:Addr) (H H':Hp):Prop:=∀ b o,H b=some o->b ≠ d->b ≠ c->H' b=some o
theorem Keep.refl {d c:Addr} {H:Hp}:Keep d c H H:=fun _ _ h _ _=>h
theorem Keep.trans {d c:Addr} {H H1 H2:Hp} (a:Keep d c H H1) (b:Keep d c H1 H2):Keep d c H H2:=fun x o h n m=>b x o (a x o h n m) n m
theorem Keep.of_same {d c:Addr} {H H':Hp} (h:Same H H'):Keep d c H H':=fun b o e _ _=>h b o e
theorem qA2 {H:Hp} {p:Addr} (h:H p=none) (o:HO):Same H (Ah H p o):=fun b u q=>by rw [qA8 (qA5 q h)];exact q
theorem qE2 {d c:Addr} {H:Hp} {p:Addr} (h:H p=none) (o:HO):Keep d c H (Ah H p o):=.of_same (qA2 h o)
theorem StAt.ndc {H:Hp} {d c:Addr} {t:Int} {ns:List Int} (S:StAt H d c t ns):d ≠ c:=qDN S.dict S.list (by intro z;cases z)
theorem StAt.same {H H':Hp} {d c:Addr} {t:Int} {ns:List Int} (S:StAt H d c t ns) (h:Same H H'):StAt H' d c t ns:=⟨h _ _ S.dict,h _ _ S.list,S.ne,S.len,S.pos⟩
theorem StAt.new {H:Hp} {d c p:Addr} {t:Int} {ns:List Int} (S:StAt H d c t ns) (h:H p=none) (o:HO):StAt (Ah H p o) d c t ns:=S.same (qA2 h o)
theorem s_cs:¬ (F9 "cells" = F9 "turn"):=by decide +kernel
theorem s_ct:¬ ((P9 (F9 "cells"):Key)=P9 (F9 "turn")):=fun h=>s_cs (B95 h)
theorem qWU {H:Hp} {d c:Addr} {t:Int} {ns:List Int} (S:StAt H d c t ns):DGet H d (.str "turn") (some (.int t)):=by
 have h:=DGet.k (k:=P9 "turn") S.dict;rw [qBT s_ct,qBK rfl] at h;exact h
theorem qKC {H:Hp} {d c:Addr} {t:Int} {ns:List Int} (S:StAt H d c t ns):DGet H d (.str "cells") (some (.ref c)):=by
 have h:=DGet.k (k:=P9 "cells") S.dict;rw [qBK rfl] at h;exact h
theorem qTK (c:Addr) (t u:Int):putK [((P9 "cells" : Key),V.ref c),(P9 "turn",V.int t)] (P9 "turn") (V.int u)=[((P9 "cells" : Key),V.ref c),(P9 "turn",V.int u)]:=by
 unfold putK;simp [s_cs]
theorem qWT {H:Hp} {d c:Addr} {t u:Int} {ns:List Int} (S:StAt H d c t ns):DPut H d (.str "turn") (.int u) (Ah H d (.dK [(P9 "cells",.ref c),(P9 "turn",.int u)])):=by
 have h:=DPut.k (k:=P9 "turn") (v:=.int u) S.dict (by rw [sizeLine_eq];exact (by decide:2<16777216))
 rw [qTK] at h;exact h
theorem StAt.turn {H:Hp} {d c:Addr} {t u:Int} {ns:List Int} (S:StAt H d c t ns) (h:0<=u):StAt (Ah H d (.dK [(P9 "cells",.ref c),(P9 "turn",.int u)])) d c u ns:=
 ⟨qA1,by rw [qA8 (M8 S.ndc)];exact S.list,S.ne,S.len,h⟩
theorem StAt.put {H:Hp} {d c:Addr} {t:Int} {ns ms:List Int} (S:StAt H d c t ns) (h:ms.length=ns.length):StAt (Ah H c (.lst (ms.map V.int))) d c t ms:=
 ⟨by rw [qA8 S.ndc];exact S.dict,qA1,by rw [h];exact S.ne,by rw [h];exact S.len,S.pos⟩
abbrev TB:Int:=1000000000
def qI6:Sp:=fun vs H Q _=>∃ d c t ns m,vs=[.ref d,.int m]/\StAt H d c t ns/\t<=TB/\1<=m/\m<=1000000/\∀ k ns' H',0<=k->k<m->StAt H' d c (t+1) ns'->Keep d c H H'->Q (.int k) H'
def qQR (K:PySem.W.Frag):Sp:=fun vs H Q _=>∃ (a:Addr) (ns:List Int),vs=[.ref a]/\SqL K H a (ns.map V.int)/\ns.length<=63/\∀ d c ms H',StAt H' d c 0 ms->Same H H'->H d=none->H c=none->Q (.ref d) H'
def cutI {α:Type} (xs:List α) (lo hi:Option Int):List α:=(xs.drop (HT.sIx xs.length 0 lo)).take (HT.sIx xs.length xs.length hi - HT.sIx xs.length 0 lo)
theorem qB5 {α:Type} (f:α->V) (xs:List α) (lo hi:Option Int):cutV (xs.map f) lo hi=(cutI xs lo hi).map f:=by
 unfold cutV cutI;rw [A0,<- B88,<- B87]
theorem qKD {α:Type} (xs:List α) (lo hi:Option Int):(cutI xs lo hi).length<=xs.length:=by
 unfold cutI;rw [E5,F5];omega
theorem qV4 (c:Addr) (t:Int):qEK [] [((P9 (F9 "cells"):Key),V.ref c),(P9 (F9 "turn"),V.int t)]=[((P9 (F9 "cells"):Key),V.ref c),(P9 (F9 "turn"),V.int t)]:=by
 unfold qEK;simp only [X8,A96];unfold putK;simp [s_cs]
theorem qWK {xs:List V} {j:Nat} (h:j<xs.length):ixN xs.length (j:Int)=some j:=by
 unfold ixN;rw [if_pos (by omega),if_pos (by omega),S0]
def qTA (K:PySem.W.Frag):Sp:=fun vs H Q _=>∃ (a:Addr) (ns:List Int),vs=[.ref a]/\SqL K H a (ns.map V.int)/\ns.length<=63/\∀ H',Q (.bl true) H'
theorem cut {t u:TS} {D:Ends} {σ:St} {H:Hp} (h:∀ N:St->Hp->Prop,(∀ σ H,u D σ H->N σ H)->t { D with nx:=N } σ H):tSeq t u D σ H:=h _ fun _ _ z=>z
theorem opq {A:Prop} (h:∀ G:Prop,(A->G)->G):A:=h A id
structure Rise (k:Int) (zs:List Int):Prop where
 up:zs.Pairwise (·<·)
 in_:∀ x ∈ zs,0<=x/\x<k
theorem Rise.nil {k:Int}:Rise k []:=⟨.nil,fun _ h=>nomatch h⟩
theorem Rise.mono {j k:Int} {zs:List Int} (h:Rise j zs) (l:j<=k):Rise k zs:=⟨h.up,fun x hx=>⟨(h.in_ x hx).1,by have:=(h.in_ x hx).2;omega⟩⟩
theorem Rise.sub {k:Int} {zs ys:List Int} (h:Rise k zs) (s:ys.Sublist zs):Rise k ys:=⟨h.up.sublist s,fun x hx=>h.in_ x (s.subset hx)⟩
theorem Rise.snoc {k:Int} {zs:List Int} (h:Rise k zs) (h0:0<=k):Rise (k+1) (zs++[k]):=by
 refine ⟨P4.mpr ⟨h.up,List.pairwise_singleton _ _,fun a ha b hb=>?_⟩,fun x hx=>?_⟩
 ·rw [C0.mp hb];exact (h.in_ a ha).2
 ·rcases C8.mp hx with hx | hx
  ·have:=h.in_ x hx;omega
  ·rw [C0.mp hx];omega
theorem Rise.shift {k j:Int} {zs:List Int} (h:Rise k zs) (hj:0<=j):Rise (k+j) (zs.map (·+j)):=by
 refine ⟨T1.mpr (h.up.imp fun {a b} hab=>by omega),fun x hx=>?_⟩
 obtain ⟨y,hy,e⟩:=G1.mp hx;have:=h.in_ y hy;omega
theorem Rise.nodup {k:Int} {zs:List Int} (h:Rise k zs):zs.Nodup:=h.up.imp fun {a b} hab=>by omega
theorem Rise.len {zs:List Int} {k:Nat} (h:Rise (k:Int) zs):zs.length<=k:=by
 have sub:zs ⊆ (J9 k).map fun (i:Nat)=>(i:Int):=fun x hx=>by
  have:=h.in_ x hx;exact G1.mpr ⟨x.toNat,J7.mpr (by omega),by omega⟩
 have:=G0 h.nodup sub;simpa using this
theorem qTR {zs:List Int} {k x:Int}:x ∈ addI zs k ↔ x ∈ zs\/x=k:=by
 unfold addI
 split
 ·rename_i h
  constructor
  ·exact .inl
  ·rintro (z | rfl)
   ·exact z
   ·exact h
 ·simp
theorem qW8 {zs:List Int} {k:Int} (h:zs.Nodup):(addI zs k).Nodup:=by
 unfold addI
 split
 ·exact h
 ·rename_i hk
  exact qIC h hk
theorem qSA:∀ (l zs:List Int),zs.Nodup->(l.foldl addI zs).Nodup/\∀ x,x ∈ l.foldl addI zs ↔ x ∈ zs\/x ∈ l
 | [],zs,h=>⟨h,fun x=>by simp⟩
 | k::r,zs,h=>by
  obtain ⟨a,b⟩:=qSA r (addI zs k) (qW8 h);refine ⟨a,fun x=>?_⟩;rw [X8,b x,qTR,D9,or_assoc]
theorem qPY (l:List Int):(dedI l).Nodup:=(qSA l [] .nil).1
theorem mem_dedI {l:List Int} {x:Int}:x ∈ dedI l ↔ x ∈ l:=by
 have:=(qSA l [] .nil).2 x;unfold dedI;rw [this];simp
theorem qOT (l:List Int):(dedI l).length<=l.length:=by
 have:=qBS l [];simpa [dedI] using this
theorem qLN {zs:List Int} (h1:zs.Pairwise (·<=·)) (h2:zs.Nodup):zs.Pairwise (·<·):=by
 have h3:zs.Pairwise (fun a b=>a<=b/\a ≠ b):=List.pairwise_and_iff.mpr ⟨h1,h2⟩;exact h3.imp fun {a b} ⟨x,y⟩=>by omega
theorem qO7 {k:Int} {fs zs:List Int} (hp:zs.Perm (dedI fs)) (hs:zs.Pairwise (·<=·)) (h:∀ x ∈ fs,0<=x/\x<k):Rise k zs:=
 ⟨qLN hs (hp.nodup_iff.mpr (qPY fs)),fun x hx=>h x (mem_dedI.mp (hp.mem_iff.mp hx))⟩
def qBG (lo hi:Int):List Int:=(J9 (hi - lo).toNat).map fun (i:Nat)=>lo+i
theorem qMT (lo hi:Int):qH2 lo hi=(qBG lo hi).map V.int:=by
 unfold qH2 qBG;rw [j7]
 rfl
theorem mem_rangeI {lo hi x:Int}:x ∈ qBG lo hi ↔ lo<=x/\x<hi:=by
 unfold qBG;rw [G1]
 constructor
 ·rintro ⟨i,hi',e⟩;have:=J7.mp hi';omega
 ·intro h;exact ⟨(x - lo).toNat,J7.mpr (by omega),by omega⟩
theorem qGI (lo hi:Int):(qBG lo hi).length=(hi - lo).toNat:=by unfold qBG;simp
theorem qFS (lo hi:Int):(qBG lo hi).Pairwise (·<·):=by
 unfold qBG;exact T1.mpr (i3.imp fun {a b} h=>by omega)
theorem qMU {lo hi:Int} (h:0<=lo):Rise hi (qBG lo hi):=⟨qFS _ _,fun x hx=>by have:=mem_rangeI.mp hx;omega⟩
theorem qDQ {α:Type} (xs:List α) (k:Nat) (h:k<=xs.length):cutI xs (some (k:Int)) none=xs.drop k:=by
 unfold cutI;rw [HT.sIx_nat,HT.sIx_none,B67 h];exact F7 (by rw [F5];exact C1 _)
theorem qWW {α:Type} (xs:List α) (k:Nat):cutI xs none (some (k:Int))=xs.take k:=by
 unfold cutI;rw [HT.sIx_nat,HT.sIx_none,y4,B40];rcases Nat.le_total k xs.length with h | h
 ·rw [B67 h]
 ·rw [Nat.min_eq_right h,F7 h,F7 (C1 _)]
abbrev NetL (H:Hp):List Addr->List (List Int)->Prop:=Paired fun r zs=>H r=some (.tup (zs.map V.int))
theorem NetL.keep {d c:Addr} {H H':Hp} {rs:List Addr} {Af:List (List Int)} (h:NetL H rs Af) (hd:∀ r zs,H r=some (.tup zs)->r ≠ d/\r ≠ c) (k:Keep d c H H'):NetL H' rs Af:=by
 induction h with
 | nil=>exact .nil
 | cons r t ih=>exact .cons (k _ _ r (hd _ _ r).1 (hd _ _ r).2) ih
theorem NetL.same {H H':Hp} {rs:List Addr} {Af:List (List Int)} (h:NetL H rs Af) (k:∀ r zs,H r=some (.tup zs)->H' r=some (.tup zs)):NetL H' rs Af:=by
 induction h with
 | nil=>exact .nil
 | cons r t ih=>exact .cons (k _ _ r) ih
theorem NetL.get {H:Hp}:∀ {rs:List Addr} {Af:List (List Int)} {i:Nat} {zs:List Int},NetL H rs Af->Af[i]?=some zs->∃ r,rs[i]?=some r/\H r=some (.tup (zs.map V.int))
 | _,_,_,_,.nil,e=>by simp at e
 | _,_,0,_,.cons r _,e=>by simp at e;subst e;exact ⟨_,rfl,r⟩
 | _,_,i+1,zs,.cons _ t,e=>by
  obtain ⟨r,h1,h2⟩:=NetL.get (i:=i) (zs:=zs) t (by simpa using e)
  exact ⟨r,by simpa using h1,h2⟩
def NetAt (H:Hp) (a:Addr) (Af:List (List Int)):Prop:=∃ rs:List Addr,H a=some (.tup (rs.map V.ref))/\NetL H rs Af
theorem StAt.tup {H:Hp} {d c:Addr} {t:Int} {ns:List Int} (S:StAt H d c t ns) {r:Addr} {zs:List V} (h:H r=some (.tup zs)):r ≠ d/\r ≠ c:=
 ⟨qDN h S.dict (by intro z;cases z),qDN h S.list (by intro z;cases z)⟩
theorem NetAt.keep {H H':Hp} {d c:Addr} {t:Int} {ns:List Int} (S:StAt H d c t ns) {a:Addr} {Af:List (List Int)} (h:NetAt H a Af) (k:Keep d c H H'):NetAt H' a Af:=by
 obtain ⟨rs,h1,h2⟩:=h;exact ⟨rs,k _ _ h1 (S.tup h1).1 (S.tup h1).2,h2.keep (fun r zs e=>S.tup e) k⟩
theorem NetAt.same {H H':Hp} {a:Addr} {Af:List (List Int)} (h:NetAt H a Af) (k:Same H H'):NetAt H' a Af:=by
 obtain ⟨rs,h1,h2⟩:=h;exact ⟨rs,k _ _ h1,h2.same fun r zs e=>k _ _ e⟩
theorem NetAt.len {H:Hp} {rs:List Addr} {Af:List (List Int)} (h:NetL H rs Af):rs.length=Af.length:=E9 h
def WFn (Af:List (List Int)):Prop:=∀ (i:Nat) zs,Af[i]?=some zs->Rise (i:Int) zs
theorem WFn.snoc {Af:List (List Int)} {zs:List Int} (h:WFn Af) (hz:Rise (Af.length:Int) zs):WFn (Af++[zs]):=by
 intro i ys e;rcases B36 i Af.length with l | l | l
 ·rw [F6 l] at e;exact h i ys e
 ·subst l;simp at e;subst e;exact hz
 ·rw [K0 (by rw [A8,D5];omega)] at e
  cases e
theorem WFn.nil:WFn []:=fun i zs e=>by simp at e
theorem qBL {α β:Type} {F:α->β->Prop} {a:α} {b:β} {l₁:List α} {l₂:List β} (h:Paired F l₁ l₂) (r:F a b):Paired F (l₁++[a]) (l₂++[b]):=A07 h r
def qMO:Sp:=fun vs H Q _=>∃ d c t ns k,vs=[.ref d,.int k]/\StAt H d c t ns/\t<=TB - 20/\0<=k/\k<=1000/\
 ∀ r zs t' ns' H',StAt H' d c t' ns'->t<=t'->t'<=t+9->Keep d c H H'->H' r=some (.tup (zs.map V.int))->Rise k zs->Q (.ref r) H'
def qXI:Sp:=fun vs H Q _=>∃ d c t ns m,vs=[.ref d,.int m]/\StAt H d c t ns/\t<=TB - 10000/\1<=m/\m<=400/\
 ∀ a Af t' ns' H',StAt H' d c t' ns'->t<=t'->t'<=t+10 * m+10->Keep d c H H'->NetAt H' a Af->WFn Af->(Af.length:Int)=m->Q (.ref a) H'
def qUQ:Sp:=fun vs H Q _=>∃ d c t ns m,vs=[.ref d,.int m]/\StAt H d c t ns/\t<=TB - 1000/\1<=m/\m<=400/\
 ∀ a Af t' ns' H',StAt H' d c t' ns'->t<=t'->t'<=t+m->Keep d c H H'->NetAt H' a Af->WFn Af->(Af.length:Int)=m->Q (.ref a) H'
theorem qZJ {a b k:Int} (h0:0<=k) (h1:k<4):∃ v,atI [V.int a,V.int b] (k / 3)=some (.int v)/\(v=a\/v=b):=by
 rcases (by omega:k=0\/k=1\/k=2\/k=3) with rfl | rfl | rfl | rfl
 ·exact ⟨a,rfl,.inl rfl⟩
 ·exact ⟨a,rfl,.inl rfl⟩
 ·exact ⟨a,rfl,.inl rfl⟩
 ·exact ⟨b,rfl,.inr rfl⟩
theorem qZI {k:Int} (h0:0<=k) (h1:k<6):∃ v,atI [V.int 0,V.int 0,V.int 1,V.int 2,V.int 2,V.int 3] k=some (.int v)/\0<=v/\v<=3:=by
 rcases (by omega:k=0\/k=1\/k=2\/k=3\/k=4\/k=5) with rfl | rfl | rfl | rfl | rfl | rfl
 all_goals exact ⟨_,rfl,by decide,by decide⟩
theorem qAF {H Hc:Hp} {p:Addr} {o:HO} (h:Same H Hc) (hp:H p=none):Same H (Ah Hc p o):=fun b u e=>by rw [qA8 (qA5 e hp)];exact h b u e
theorem qOJ {d c:Addr} {H Hc:Hp} {p:Addr} {o:HO} (h:Keep d c H Hc) (hp:H p=none):Keep d c H (Ah Hc p o):=fun b u e n1 n2=>by rw [qA8 (qA5 e hp)];exact h b u e n1 n2
theorem qBZ {H:Hp} {p:Addr} {xs:List V} {o:HO} {rs:List Addr} {Af:List (List Int)} (h:NetL H rs Af) (hp:H p=some (.lst xs)):NetL (Ah H p o) rs Af:=
 h.same fun r zs e=>by rw [qA8 (qDN e hp (by intro z;cases z))];exact e
theorem qCR (rs:List Addr) (r:Addr):rs.map V.ref++[V.ref r]=(rs++[r]).map V.ref:=by rw [D3];rfl
theorem qXT (b:Bool) (x:Int):(O8 (if b=true then (1:Int) else 0).toNat [V.int x]).flatten=(if b=true then [x] else []).map V.int:=by cases b <;> rfl
theorem qDL {α β:Type} {F:α->β->Prop}:∀ {l₁:List α} {l₂:List β} {i:Nat} {a:α},Paired F l₁ l₂->l₁[i]?=some a->∃ b,l₂[i]?=some b/\F a b
 | _,_,_,_,.nil,e=>by simp at e
 | _,_,0,_,.cons r _,e=>by simp at e;subst e;exact ⟨_,rfl,r⟩
 | _,_,i+1,a,.cons _ t,e=>by
  obtain ⟨b,h1,h2⟩:=qDL (i:=i) (a:=a) t (by simpa using e)
  exact ⟨b,by simpa using h1,h2⟩
theorem qGN {α β:Type} {F G:α->β->Prop} {l₁:List α} {l₂:List β} (h:Paired F l₁ l₂) (k:∀ a b,F a b->G a b):Paired G l₁ l₂:=by
 induction h with
 | nil=>exact .nil
 | cons r t ih=>exact .cons (k _ _ r) ih
theorem qNB {rs:List Addr} {i:Nat} {x:V} (h:(rs.map V.ref)[i]?=some x):∃ r,rs[i]?=some r/\x=.ref r:=by
 rw [D7] at h;cases e:rs[i]? with
 | none=>rw [e] at h;cases h
 | some r=>rw [e] at h;exact ⟨r,rfl,(L9 h).symm⟩
theorem qBA {zs:List Int} {i:Nat} {x:V} (h:(zs.map V.int)[i]?=some x):∃ z,zs[i]?=some z/\x=.int z:=by
 rw [D7] at h;cases e:zs[i]? with
 | none=>rw [e] at h;cases h
 | some r=>rw [e] at h;exact ⟨r,rfl,(L9 h).symm⟩
theorem qO4 {α:Type} {l:List α} {a b:α} {j:Nat} (h:(l++[a])[j]?=some b):l[j]?=some b\/(j=l.length/\b=a):=by
 rcases B36 j l.length with z | z | z
 ·rw [F6 z] at h;exact .inl h
 ·subst z;simp at h;exact .inr ⟨rfl,h.symm⟩
 ·rw [K0 (by rw [A8,D5];omega)] at h
  cases h
theorem qEL (a:Int) (zs:List Int):inV (.int a) (zs.map V.int)=decide (a ∈ zs):=by
 unfold inV
 induction zs with
 | nil=>simp
 | cons z r ih=>
  rw [G6,o9,ih];have e:eqV (.int z) (.int a)=decide (a=z):=by
   by_cases h:z=a
   ·subst h;simp [eqV]
   ·have h':¬ a=z:=fun q=>h q.symm;simp [eqV,h,h']
  rw [e];simp [D9]
theorem qCG (zs:List Int):(zs.map V.int).all qK9=true:=by
 rw [L0];intro x hx;obtain ⟨z,_,rfl⟩:=G1.mp hx
 rfl
def qX9 (ns st:List Int) (Aa wk:Int):V:=if wk ∈ st then .str "there" else if ∀ x ∈ ns,x ∈ st then (if Aa<=(st.length:Int) then .str "full" else .non) else .str "needs"
def qQG (st:List Int) (wk:Int):V:=if wk ∈ st then .non else .str "empty"
def qX8 (ns st:List Int) (Aa:Int) (Ac:Str) (wk:Int):V:=if Ac = "do" then qX9 ns st Aa wk else qQG st wk
theorem qCN {xs:List V} {i:Int} {x:V} (h0:0<=i) (h:xs[i.toNat]?=some x):atI xs i=some x:=by
 have e:i=((i.toNat:Nat):Int):=by omega
 rw [e];exact qSW (by simpa using h)
theorem NetAt.get {H:Hp} {a:Addr} {Af:List (List Int)} {ns:List Int} {i:Nat} (h:NetAt H a Af) (e:Af[i]?=some ns):∃ (rs:List Addr) (r:Addr),H a=some (.tup (rs.map V.ref))/\rs.length=Af.length/\(rs.map V.ref)[i]?=some (.ref r)/\H r=some (.tup (ns.map V.int)):=by
 obtain ⟨rs,h1,h2⟩:=h;obtain ⟨r,h3,h4⟩:=h2.get e;exact ⟨rs,r,h1,E9 h2,by rw [D7,h3];rfl,h4⟩
theorem qSP:bootBuiltins "zip" = some (.type "zip"):=by decide +kernel
def seqO (b:Bool) (xs:List V):HO:=match b with | true=>.tup xs | false=>.lst xs
section
variable {K:PySem.W.Frag}
end
def qJ7 (x:V) (d:PyData):Prop:=(x=.non/\d=.none)\/(∃ b,x=.bl b/\d=.bool b)\/(∃ i,x=.int i/\d=.int i)\/∃ y,x=.str y/\d=.str y
def seqD (b:Bool) (ds:List PyData):PyData:=match b with | true=>.tuple ds | false=>.list ds
def DatN (H:Hp):Nat->V->PyData->Prop
 | 0,x,d=>qJ7 x d
 | n+1,x,d=>qJ7 x d\/∃ (b:Bool) (a:Addr) (xs:List V) (ds:List PyData),x=.ref a/\d=seqD b ds/\H a=some (seqO b xs)/\xs.length=ds.length/\∀ (i:Nat) (x':V) (d':PyData),xs[i]?=some x'->ds[i]?=some d'->DatN H n x' d'
theorem DatN.same {H H':Hp} (s:Same H H'):∀ {n:Nat} {x:V} {d:PyData},DatN H n x d->DatN H' n x d:=by
 intro n
 induction n with
 | zero=>exact fun {x d} h=>show qJ7 x d from h
 | succ n ih=>
  rintro x d (h | ⟨b,a,xs,ds,e1,e2,h1,hl,h⟩)
  ·exact .inl h
  ·exact .inr ⟨b,a,xs,ds,e1,e2,s _ _ h1,hl,fun i x' d' q1 q2=>ih (h i x' d' q1 q2)⟩
theorem DatN.up {H:Hp}:∀ {n:Nat} {x:V} {d:PyData},DatN H n x d->DatN H (n+1) x d:=by
 intro n
 induction n with
 | zero=>exact fun {x d} h=>.inl h
 | succ n ih=>
  rintro x d (h | ⟨b,a,xs,ds,e1,e2,h1,hl,h⟩)
  ·exact .inl h
  ·exact .inr ⟨b,a,xs,ds,e1,e2,h1,hl,fun i x' d' q1 q2=>ih (h i x' d' q1 q2)⟩
end Fw
namespace L2
open PySem PySem.Spec PyProof.Rows Fw
theorem qFJ {n:Nat}:∀ {ds:List PyData},(∀ d ∈ ds,d.depth<=n)->A19 ds<=n
 | [],_=>G5 _
 | d::ds,h=>by
  show max d.depth (A19 ds)<=n;have h1:=h d (C9 ..);have h2:=qFJ (ds:=ds) fun d hd=>h d (C7 _ hd);omega
section
variable {X:Cx} {Ab:List (Addr × Obj)} {σ:St} {H:Hp} {s:Shared}
theorem qJC {x:V} {d:PyData} {v:Value} (h:qJ7 x d) (r:RelV x v):Reads s.heap v d []/\d.depth=0:=by
 rcases h with ⟨rfl,rfl⟩ | ⟨b,rfl,rfl⟩ | ⟨i,rfl,rfl⟩ | ⟨y,rfl,rfl⟩
 ·cases r;exact ⟨.none,rfl⟩
 ·cases r;exact ⟨.bool _,rfl⟩
 ·obtain ⟨t,rfl⟩:=r;exact ⟨.int _ _,rfl⟩
 ·obtain ⟨t,rfl⟩:=r;exact ⟨.str _ _,rfl⟩
theorem qPB (I:Inv X Ab σ H s):∀ (n:Nat) {x:V} {d:PyData} {v:Value},DatN H n x d->RelV x v->∃ as,Reads s.heap v d as/\d.depth<=n:=by
 intro n
 induction n with
 | zero=>
  intro x d v h r;obtain ⟨a,b⟩:=qJC (s:=s) h r;exact ⟨[],a,by omega⟩
 | succ n ih=>
  rintro x d v (h | ⟨b,a,xs,ds,rfl,rfl,h1,hl,h⟩) r
  ·obtain ⟨a,b⟩:=qJC (s:=s) h r;exact ⟨[],a,by omega⟩
  ·cases r;have all:∀ {us:List Value} {ys:List V} {es:List PyData},Vals ys us->ys.length=es.length->(∀ (i:Nat) (x':V) (d':PyData),ys[i]?=some x'->es[i]?=some d'->DatN H n x' d')->(∃ as,ReadsAll s.heap us es as)/\∀ e ∈ es,e.depth<=n:=by
    intro us ys es hv
    induction hv generalizing es with
    | nil=>
     intro hl _;cases es with
     | nil=>exact ⟨⟨[],.nil⟩,fun _ z=>nomatch z⟩
     | cons _ _=>cases hl
    | cons r t ih2=>
     intro hl h;cases es with
     | nil=>cases hl
     | cons e es=>
      obtain ⟨as,q1,q2⟩:=ih (h 0 _ _ rfl rfl) r;obtain ⟨⟨bs,q3⟩,q4⟩:=ih2 (by simpa using hl) fun i x' d' e1 e2=>h (i+1) x' d' e1 e2
      refine ⟨⟨as++bs,.cons q1 q3⟩,fun d' hd=>?_⟩;rcases D9.mp hd with z | z
      ·rw [z];exact q2
      ·exact q4 d' z
   cases b with
   | false=>
    obtain ⟨its,rv,⟨o,nn,e1,e2,e3,e4⟩,_⟩:=I.list (a:=a) (xs:=xs) (SqL.of h1);obtain ⟨⟨as,q1⟩,q2⟩:=all rv hl h;refine ⟨a::as,.list e1 e2 e4 (by simpa using q1),?_⟩
    show A19 ds+1<=n+1;have:=qFJ q2;omega
   | true=>
    obtain ⟨its,rv,⟨o,e1,e2,nn,e3⟩,_⟩:=I.tuple (a:=a) (xs:=xs) (SqT.of h1);obtain ⟨⟨as,q1⟩,q2⟩:=all rv hl h;refine ⟨as,.tuple e1 e2 e3 (by simpa using q1),?_⟩
    show A19 ds+1<=n+1;have:=qFJ q2;omega
end
end L2
namespace L2
open PySem PySem.Spec PyProof.Rows
end L2
namespace L2
open PySem PySem.Spec PyProof.Rows
section
variable {X:Cx}
end
end L2
namespace HT
open PySem PySem.Spec PyProof.Rows
section
variable {prog:Program} {w:World} {A:Around} {E:Value->Shared->Prop} {s:Shared}
theorem qHG {sl:Addr} {tk:Tok} {n:Nat} {Q:Int × Int × Nat->Shared->Prop} (hs:s.heap.IsSliceOf sl .none .none (.int (-1) tk))
  (h:Q ((n:Int) - 1,-1,n) s):wpAny (model prog w) A (Y4 (.ref sl) (pure (n:Int))) Q E s:=by
 obtain ⟨os,hos,hcs,hds⟩:=id hs;unfold Y4 A31;refine wpAny_bind (wpAny_bind (wpAny_field hos hds (x:=.none) rfl (wpAny_bind (wpAny_field hos hds (x:=.none) rfl (wpAny_bind (wpAny_field hos hds (x:=.int (-1) tk) rfl (wpAny_pure ?_)))))));refine wpAny_bind (slicePart_int ?_);show wpAny _ _ (if ((-1:Int) == 0)=true then _ else _) _ _ s
 rw [if_neg (by decide)]
 refine wpAny_bind (slicePart_none (wpAny_bind (slicePart_none (wpAny_bind (wpAny_pure ?_)))));show wpAny _ _ (pure ((n:Int) - 1,(-1:Int),O9 ((n:Int) - 1) (-1) (-1))) _ _ s;have e:O9 ((n:Int) - 1) (-1) (-1)=n:=by
  unfold O9;rw [if_neg (by decide)]
  split
  ·rw [show (-(-1):Int)=1 from rfl,Int.ediv_one];omega
  ·omega
 rw [e];exact wpAny_pure h
theorem qVB {α β:Type} {f:α->Option β} {g:α->β}:∀ {l:List α},(∀ x ∈ l,f x=some (g x))->l.filterMap f=l.map g
 | [],_=>rfl
 | x::l,h=>by rw [c9,h x C9,G6,qVB fun y hy=>h y (C7 _ hy)]
theorem qTL (xs:Array Value):((J9 xs.size).filterMap fun (m:Nat)=>xs[(((xs.size:Int) - 1)+(m:Int) * (-1)).toNat]?).toArray=xs.toList.reverse.toArray:=by
 congr 1;apply x9;intro i;have e:((J9 xs.size).filterMap fun (m:Nat)=>xs[(((xs.size:Int) - 1)+(m:Int) * (-1)).toNat]?)=(J9 xs.size).map fun (m:Nat)=>xs.toList.getD (xs.size - 1 - m) default:=by
  refine qVB fun m hm=>?_;have hm:=J7.mp hm;have e1:(((xs.size:Int) - 1)+(m:Int) * (-1)).toNat=xs.size - 1 - m:=by omega
  rw [e1];have hl:xs.size - 1 - m<xs.size:=by omega
  rw [C3 hl,L8,F2,C3 hl]
  rfl
 rw [e,D7];by_cases hi:i<xs.size
 ·rw [B08 hi,List.getElem?_reverse (by rw [C2];exact hi),C2]
  show some (xs.toList.getD (xs.size - 1 - i) default)=_;have hl:xs.size - 1 - i<xs.size:=by omega
  rw [L8,F2,C3 hl]
  rfl
 ·rw [K0 (by rw [List.length_range];omega),K0 (by rw [Y2,C2];omega)]
  rfl
theorem getItem_tuple_rev {t sl:Addr} {Ae:Array Value} {tk:Tok} {Q:Value->Shared->Prop} (ht:IsTup s.heap t Ae) (hs:s.heap.IsSliceOf sl .none .none (.int (-1) tk))
  (h:Q (.ref s.heap.objs.size) { s with heap:=s.heap.push { cls:=.type "tuple",data:=.seq Ae.toList.reverse.toArray } })
  (hsz:Ae.size<=sizeLine):wpAny (model prog w) A (getItem (.ref t) (.ref sl)) Q E s:=by
 have htake:sizeOk (.seq Ae.toList.reverse.toArray):=by
  show Ae.toList.reverse.toArray.size<=sizeLine;rw [C5,Y2,C2];exact hsz
 obtain ⟨os,hos,hcs,hds⟩:=id hs;have hTs:s.TypeIs (.ref sl) "slice":=⟨os,hos,hcs⟩;unfold getItem
 try with_reducible refine wpAny_holding ?_
 first | refine wpAny_bind (wpAny_pure ?_) | skip
 refine wpAny_bind (wpAny_sequenceKey ht.typeIs (by decide) ?_)
 refine wpAny_bind (wpAny_callSpecial?_slot (name:=F9 "__getitem__") ht.typeIs J2
  (wpAny_call_entry J2 ht.typeIs entry_tuple_getitem ?_ (args_tuple_getitem _ _)))
 show wpAny _ _ (l7 (.ref t) >>= _) _ _ s;refine wpAny_bind (tupleItemsOf_ ht ?_);refine wpAny_bind (wpAny_typeOf hTs ?_);rw [if_pos (by decide)]
 refine wpAny_bind (qHG hs ?_);have hno:¬ (((Ae.size:Int) - 1 == 0 && (-1:Int) == 1 && Ae.size == Ae.size)=true):=by
  rw [show ((-1:Int) == 1)=false by decide,P8,O7]
  decide
 show wpAny _ _ (if ((Ae.size:Int) - 1 == 0 && (-1:Int) == 1 && Ae.size == Ae.size)=true then _ else _) _ _ s
 rw [if_neg hno,qTL]
 first
  | exact wpAny_bind (m:=M7 _) (wpAny_newObj_type (wpAny_pure ⟨_,rfl,wpAny_pure h⟩) htake)
  | exact wpAny_bind (m:=M7 _) (wpAny_newObj_type (wpAny_bind (wpAny_pure (wpAny_pure ⟨_,rfl,wpAny_pure h⟩))) htake)
  | exact wpAny_bind (wpAny_bind (m:=M7 _) (wpAny_newObj_type (wpAny_pure (wpAny_pure ⟨_,rfl,wpAny_pure h⟩)) htake))
end
end HT
namespace L2
open PySem PySem.Spec PyProof.Rows Fw
section
variable {X:Cx} {e:Expr} {te:TE} {st:Option Expr} {tst:TO} {pos p2:Pos}
def qZ1 (K:PySem.W.Frag) (te:TE) (tst:TO):TE:=fun σ H Q=>te σ H fun x H1=>tst σ H1 fun l H2=>l=some (-1)/\∃ a xs,x=.ref a/\SqT K H2 a xs/\∀ p,H2 p=none->Q (.ref p) (Ah H2 p (.tup xs.reverse))
theorem qPG (he:PE X e te) (hst:PO X st tst) (hop:∀ v l:Value,∃ ops,subscripted (.Slice none none st p2) false v l=operate ops (getItem v l):=by intro v l;exact ⟨_,by with_unfolding_all rfl⟩):PE X (.Subscript e (.Slice none none st p2) pos) (qZ1 X.K te tst):=by
 intro Ab s σ H Q I h;refine Subscript_ (thn (he Ab s σ H _ I h) fun v s1 ⟨x,H1,I1,r1,q1⟩=>?_);refine wpAny_Slice ?_;rw [evalPart_none];refine wpAny_pure (wpAny_pure (thn (hst Ab s1 σ H1 _ I1 q1) fun vk s3 ⟨u,H3,I3,pu,q3⟩=>?_));obtain ⟨rfl,a,xs,rfl,hx,q⟩:=q3;cases r1;have I4:Inv X Ab σ H3 { s3 with heap:=s3.heap.push { cls:=.type "slice",data:=.fields #[.none,.none,vk] } }:=I3.kept (t':=s3.toks) fun b ob q=>B8 _ q;obtain ⟨its,r,ht,hz⟩:=I4.tuple hx;have hlen:=r.length;have hsl:Heap.IsSliceOf (s3.heap.push { cls:=.type "slice",data:=.fields #[.none,.none,vk] }) s3.heap.objs.size .none .none vk:=B14 ..;obtain ⟨ops,hops⟩:=hop (.ref a) (.ref s3.heap.objs.size);cases pu;refine tail_any (ops:=ops) ht.typeIs J2.lookup ?_ hops;refine HT.getItem_tuple_rev ht hsl ?_ (by rw [C5] <;> omega)
 rw [show its.toArray.toList.reverse.toArray=its.reverse.toArray by simp]
 refine ⟨.ref _,_,I4.laid (t':=s3.toks) (o:=.tup xs.reverse) (fun b ob q=>B8 _ q) (C1 _) ?_,rfl,q _ (I4.hok.fresh (C1 _))⟩;exact ⟨by rw [Y2];exact hz,_,r.reverse,⟨_,D4 _ rfl,rfl,0,rfl⟩⟩
def qZE:V->Option Int->Option Int->Hp->VK->Prop:=fun x lo hi H Q=>∃ a xs,x=.ref a/\H a=some (.tup xs)/\∀ p H',Same H H'->H' p=some (.tup (cutV xs lo hi))->Q (.ref p) H'
theorem qGH:SlR X qZE:=by
 intro Ab s σ H x v vl vu lo hi sl Q I rx hs pl pu h;obtain ⟨a,xs,rfl,hx,q⟩:=h;by_cases hw:HT.sIx xs.length 0 lo=0/\HT.sIx xs.length xs.length hi=xs.length
 ·cases rx;obtain ⟨its,r,ht,hz⟩:=I.tuple (SqT.of hx);have hlen:its.toArray.size=xs.length:=by rw [C5];exact r.length.symm
  refine ⟨"tuple",_,J2.lookup,ht.typeIs,?_⟩;refine HT.getItem_tuple_whole ht hs pl pu (by rw [hlen];exact hw) ⟨.ref a,H,I,rfl,q a H (fun _ _ e=>e) ?_⟩
  have:cutV xs lo hi=xs:=by
   unfold cutV;rw [hw.1,hw.2,y4,B40,J8]
  rw [this];exact hx
 ·exact qKV Ab s σ H (.ref a) v vl vu lo hi sl Q I rx hs pl pu ⟨a,xs,rfl,SqT.of hx,hw,fun p hp=>q p _ (fun b u e=>by rw [qA8 (qA5 e hp)];exact e) qA1⟩
theorem qHB {K:PySem.W.Frag} (hK:X.K=K):qCI X (.builtin "isinstance") (fun xs H Q=>∃ x T t b,xs=[x,.ty T]/\TyOf K H x t/\T4 K t (.type T)=some b/\Q (.bl b) H):=by subst hK;exact qBH
theorem qIV (hg:X.A.guards=some []) (hu:X.A.units+64<cLine):qCI X (.type "str") (fun xs H Q=>∃ (x:V) (n:Nat) (d:PyData),xs=[x]/\DatN H n x d/\n<=40/\d.showable=true/\d.hasDict=false/\d.shown.length<=sizeLine/\∀ z,(∃ g:PyData->Str,z=g d/\g=fun d=>match d with | .str y=>y | .bool b=>if b then "True" else "False" | .none=>"None" | .int i=>toString i | d=>d.shown)->Q (.str z) H):=by
 intro Ab s σ H xs us Q I r h;obtain ⟨x,n,d,rfl,hd,hn,h1,h2,h3,q⟩:=h;obtain ⟨u,rfl,rx⟩:=qEI r;have leaf:qJ7 x d\/∃ a,x=.ref a/\((∃ ds,d=.list ds)\/∃ ds,d=.tuple ds):=by
  cases n with
  | zero=>exact .inl hd
  | succ n=>
   rcases hd with h | ⟨b,a,xs,ds,e1,e2,_⟩
   ·exact .inl h
   ·cases b
    ·exact .inr ⟨a,e1,.inl ⟨ds,e2⟩⟩
    ·exact .inr ⟨a,e1,.inr ⟨ds,e2⟩⟩
 rcases leaf with (⟨rfl,rfl⟩ | ⟨b,rfl,rfl⟩ | ⟨i,rfl,rfl⟩ | ⟨y,rfl,rfl⟩) | ⟨a,rfl,hk⟩
 ·cases rx;exact P.str_of_none ⟨.str "None",H,I.tok _,⟨_,rfl⟩,q _ ⟨_,rfl,rfl⟩⟩
 ·cases rx;exact P.str_of_bool ⟨.str (if b then "True" else "False"),H,I.tok _,⟨_,rfl⟩,q _ ⟨_,rfl,rfl⟩⟩
 ·obtain ⟨t,rfl⟩:=rx;exact P.str_of_int (of_decide_eq_true h1) ⟨.str (toString i),H,I.tok _,⟨_,rfl⟩,q _ ⟨_,rfl,rfl⟩⟩
 ·obtain ⟨t,rfl⟩:=rx;exact P.str_of_str ⟨.str y,H,I,⟨_,rfl⟩,q _ ⟨_,rfl,rfl⟩⟩
 ·cases rx;obtain ⟨as,hr,dp⟩:=qPB I n hd (show RelV (.ref a) (.ref a) from rfl);refine str_of_reads hr h1 (PyData.noDict_hsm h2) hg (by omega) (fun _ _ e=>e) (fun h' u tk hk'=>⟨.str d.shown,H,I.kept hk',⟨_,rfl⟩,q _ ⟨_,?_,rfl⟩⟩) h3
  rcases hk with ⟨ds,rfl⟩ | ⟨ds,rfl⟩ <;> rfl
end
end L2
namespace Fw
open PySem L2
abbrev MovL (H:Hp):List Addr->List (Str × Int)->Prop:=Paired fun r m=>H r=some (.tup [.str m.1,.int m.2])
theorem qPH {α β:Type} {F:α->β->Prop} {a c:List α} {b d:List β} (h:Paired F a b) (k:Paired F c d):Paired F (a++c) (b++d):=by
 induction h with
 | nil=>exact k
 | cons r t ih=>exact .cons r ih
theorem qJF {α β:Type} {F:α->β->Prop}:∀ {l₁:List α} {l₂:List β} {i:Nat} {b:β},Paired F l₁ l₂->l₂[i]?=some b->∃ a,l₁[i]?=some a/\F a b
 | _,_,_,_,.nil,e=>by simp at e
 | _,_,0,_,.cons r _,e=>by simp at e;subst e;exact ⟨_,rfl,r⟩
 | _,_,i+1,b,.cons _ t,e=>by
  obtain ⟨a,h1,h2⟩:=qJF (i:=i) (b:=b) t (by simpa using e)
  exact ⟨a,by simpa using h1,h2⟩
def wd (Af:List (List Int)) (st:List Int) (Aa:Int) (m:Str × Int):V:=qX8 ((Af[m.2.toNat]?).getD []) st Aa m.1 m.2
theorem qT8 {α:Type} {l:List α} {n:Nat} (h:l.length=n):l.take n=l:=F7 (by omega)
structure Cnt (n:Nat) (cs:List Int) (seen:List Int):Prop where
 len:cs.length=n
 at_:∀ x:Nat,x<n->∃ c,cs[x]?=some c/\0<=c/\(c=0 ↔ (x:Int) ∉ seen)
theorem qB3 {n:Nat} (h:n<=1000000):n<sizeLine:=by rw [sizeLine_eq];omega
inductive Nd (Af:List (List Int)) (Ad:List Int):Int->Prop
 | ask {x:Int}:x ∈ Ad->Nd Af Ad x
 | need {w y:Int} {zs:List Int}:Nd Af Ad w->Af[w.toNat]?=some zs->y ∈ zs->Nd Af Ad y
structure KeysI (Ag:List (Key × V)) (ks:List Int):Prop where
 keys:Ag.map (·.1)=ks.map G7
 nd:ks.Nodup
theorem qY9 {ks:List Int} {n:Nat} (h:ks.Nodup) (b:∀ x ∈ ks,0<=x/\x<(n:Int)):ks.length<=n:=by
 have sub:ks ⊆ (J9 n).map fun (i:Nat)=>(i:Int):=fun x hx=>by
  have:=b x hx;exact G1.mpr ⟨x.toNat,J7.mpr (by omega),by omega⟩
 have:=G0 h sub;simpa using this
structure Fnd (Af:List (List Int)) (Ad ks:List Int) (j:Int):Prop where
 in_:∀ x ∈ ks,(0<=x/\x<(Af.length:Int))/\Nd Af Ad x
 ask:∀ x ∈ Ad,x ∈ ks
 clo:∀ (w:Nat) zs,j<=(w:Int)->(w:Int) ∈ ks->Af[w]?=some zs->∀ y ∈ zs,y ∈ ks
def qUK (Af:List (List Int)) (Ad zs:List Int):Prop:=Rise (Af.length:Int) zs/\∀ x,x ∈ zs ↔ Nd Af Ad x
theorem qXA:∀ {l m:List Int},l.Pairwise (·<·)->m.Pairwise (·<·)->(∀ x,x ∈ l ↔ x ∈ m)->l=m
 | [],[],_,_,_=>rfl
 | [],y::m,_,_,h=>absurd ((h y).mpr (by simp)) (by simp)
 | x::l,[],_,_,h=>absurd ((h x).mp (by simp)) (by simp)
 | x::l,y::m,hl,hm,h=>by
  have l1:=R3.mp hl;have m1:=R3.mp hm;have exy:x=y:=by
   rcases D9.mp ((h x).mp (by simp)) with e | e
   ·exact e
   ·rcases D9.mp ((h y).mpr (by simp)) with e2 | e2
    ·exact e2.symm
    ·have:=m1.1 x e;have:=l1.1 y e2;omega
  subst exy;rw [qXA l1.2 m1.2 fun z=>?_]
  constructor
  ·intro hz;rcases D9.mp ((h z).mp (by simp [hz])) with e | e
   ·have:=l1.1 z hz;omega
   ·exact e
  ·intro hz;rcases D9.mp ((h z).mpr (by simp [hz])) with e | e
   ·have:=m1.1 z hz;omega
   ·exact e
theorem qRB {Af:List (List Int)} (wf:WFn Af) (w:Nat):Rise (w:Int) ((Af[w]?).getD []):=by
 cases e:Af[w]? with
 | none=>exact Rise.nil
 | some zs=>exact wf w zs e
abbrev Mv:=Str × Int
def nd (Af:List (List Int)) (w:Int):List Int:=(Af[w.toNat]?).getD []
theorem qCF {Af:List (List Int)} {w:Int} {zs:List Int} (h:Af[w.toNat]?=some zs):nd Af w=zs:=by unfold nd;rw [h];rfl
def qV5 (Af:List (List Int)):List Int->Int->Option Int
 | [],_=>none
 | w::r,y=>match qV5 Af r y with
  | some v=>some v
  | none=>if y ∈ nd Af w then some w else none
def qWG (Af:List (List Int)) (zs:List Int) (j:Nat) (x:Int):Prop:=∃ v ∈ zs.drop j,x ∈ nd Af v
instance (Af:List (List Int)) (zs:List Int) (j:Nat) (x:Int):Decidable (qWG Af zs j x):=by unfold qWG;infer_instance
def clrs (Af:List (List Int)) (Ad zs:List Int) (w:Int):List Int:=(nd Af w).filter fun y=>decide (qV5 Af zs y=some w/\y ∉ Ad)
def qZL (Af:List (List Int)) (Ad zs:List Int) (w:Int):List Mv:=("do",w)::(clrs Af Ad zs w).map fun y=>("clear",y)
def qXZ (Af:List (List Int)) (Ad zs:List Int):List Mv:=zs.flatMap (qZL Af Ad zs)
inductive Run (Af:List (List Int)) (Aa:Int):List Int->List Mv->List Int->Prop
 | nil {s:List Int}:Run Af Aa s [] s
 | do_ {s s' t:List Int} {w:Int} {ms:List Mv}:w ∉ s->(∀ y ∈ nd Af w,y ∈ s)->(s.length:Int)<Aa->s'.Perm (s++[w])->s'.Pairwise (·<·)->Run Af Aa s' ms t->Run Af Aa s (("do",w)::ms) t
 | clear {s t:List Int} {w:Int} {ms:List Mv}:w ∈ s->Run Af Aa (s.filter fun x=>decide (x ≠ w)) ms t->Run Af Aa s (("clear",w)::ms) t
section
variable {Af:List (List Int)} {Ad zs:List Int}
theorem qZM (wf:WFn Af) (w:Int):(nd Af w).Pairwise (·<·):=(qRB wf w.toNat).up
end
def qVL (H:Hp) (l:Addr) (ms:List Mv):Prop:=∃ rs:List Addr,H l=some (.lst (rs.map V.ref))/\MovL H rs ms
def lv (L:List Int) (x:Int):Int:=(L[x.toNat]?).getD 0
structure Lev (Af:List (List Int)) (L:List Int):Prop where
 len:L.length=Af.length
 at_:∀ (i:Nat) zs,Af[i]?=some zs->∃ l,L[i]?=some l/\0<=l/\l<=(i:Int)/\(∀ y ∈ zs,lv L y+1<=l)/\(l=0\/∃ y ∈ zs,lv L y+1=l)
structure Fd (n:Nat) (L:List Int) (S:Int->Prop) (fs:List Int):Prop where
 len:fs.length=n
 at_:∀ w:Nat,w<n->(S w->fs[w]?=some (lv L w))/\(¬ S w->fs[w]?=some 0)
structure CntX (n:Nat) (cs:List Int) (seen:List Int):Prop where
 len:cs.length=n
 at_:∀ x:Nat,x<n->cs[x]?=some ((seen.count (x:Int):Nat):Int)
def Beh (st st':List Int) (Ac:Str) (wk:Int):Prop:=(Ac = "do"->st'.Perm (st++[wk])/\st'.Pairwise (·<=·))/\(Ac = "clear"->st'=st.filter fun x=>decide (x ≠ wk))
inductive Play (Af:List (List Int)) (Aa:Int):List Int->List Mv->List (List Int)->V->Prop
 | nil {st}:Play Af Aa st [] [] .non
 | stop {st m ms w0}:wd Af st Aa m=.str w0->Play Af Aa st (m::ms) [] (.str w0)
 | go {st st' m ms sts v}:wd Af st Aa m=.non->Beh st st' m.1 m.2->Play Af Aa st' ms sts v->Play Af Aa st (m::ms) (st'::sts) v
def MvOk (Af:List (List Int)) (ms:List Mv):Prop:=∀ m ∈ ms,(m.1 = "do"\/m.1 = "clear")/\0<=m.2/\m.2<(Af.length:Int)
def qUJ (H:Hp) (l:Addr) (sts:List (List Int)):Prop:=∃ rs:List Addr,H l=some (.lst (rs.map V.ref))/\NetL H rs sts
def lens (sts:List (List Int)):List Int:=sts.map fun z=>(z.length:Int)
structure YNa (K:PySem.W.Frag) (C:Addr):Prop where
 Af:qP2 K C "net"
 Aa:qP2 K C "rooms"
 made:qP2 K C "made"
 stands:qP2 K C "stands"
def yfs (a:Addr) (Aa:Int) (lm ls:Addr):List (Str × V):=putF "stands" (.ref ls) (putF "made" (.ref lm) (putF "rooms" (.int Aa) (putF "net" (.ref a) [])))
structure YardAt (C:Addr) (H:Hp) (y a lm ls:Addr) (Af:List (List Int)) (Aa:Int) (ms:List Mv) (sts:List (List Int)):Prop where
 obj:∃ dx,H y=some (.ins C dx (yfs a Aa lm ls))
 nat:NetAt H a Af
 wf:WFn Af
 n400:Af.length<=400
 r0:0<=Aa
 r62:Aa<=62
 made:qVL H lm ms
 ok:MvOk Af ms
 len:ms.length<=10000
 stands:qUJ H ls ([]::sts)
 play:Play Af Aa [] ms sts .non
 ne:lm ≠ ls
abbrev qYI (s:Nat × Nat):List Key:=[G7 (s.1:Int),G7 (s.2:Int)]
structure NumP (rs:List Addr) (ss:List (Nat × Nat)) (j:Nat) (ps:List (List Key × Addr × V)):Prop where
 keys:ps.map (·.1)=(ss.take j).map qYI
 at_:∀ (k:Nat) (s:Nat × Nat),k<j->ss[k]?=some s->∃ a,ps[k]?=some (qYI s,a,.int (k:Int))
def qWN (ins:List (Int × Int)) (x:Int):Option Int:=(ins.find? fun q=>decide (q.1=x)).map (·.2)
def qZD (ins:List (Int × Int)) (i:Nat):Nat:=((J9 i).filter fun (x:Nat)=>(qWN ins (x:Int)).isNone).length
def numO (m:Nat) (ins:List (Int × Int)) (x:Nat):Int:=match qWN ins (x:Int) with | some v=>v | none=>((m+qZD ins x:Nat):Int)
structure InsAt (H:Hp) (i:Addr) (ins:List (Int × Int)):Prop where
 at_:∃ rs:List Addr,qa2 H i (rs.map V.ref)/\Paired (fun r (q:Int × Int)=>H r=some (.tup [.int q.1,.int q.2])) rs ins
 nodup:(ins.map (·.1)).Nodup
structure InsOk (m:Nat) (other:List (List Int)) (k:Nat) (ins:List (Int × Int)) (fs:List Int):Prop where
 st:∀ q ∈ ins,(0<=q.1/\q.1<(k:Int))/\other[q.1.toNat]?=some []/\0<=q.2/\q.2<(m:Int)
 nd1:(ins.map (·.1)).Nodup
 nd2:(ins.map (·.2)).Nodup
 fr:fs.Nodup
 fin:∀ x ∈ fs,(0<=x/\x<(m:Int))/\x ∉ ins.map (·.2)
 len:ins.length<=k
def pm (m:Mv):Int:=if m.1 = "do" then 1 else -1
def peak:Int->List Mv->Int
 | n,[]=>n
 | n,m::ms=>max n (peak (n+pm m) ms)
def less (th s:List Int):List Int:=s.filter fun x=>decide (x ∉ th)
def qZO (th:List Int) (ms:List Mv):List Mv:=ms.filter fun m=>decide (m.2 ∉ th)
def pbGo (num:Int->Int) (jn:Int->Bool) (pl:Int->List Mv):List Int->List Mv->List Mv
 | _,[]=>[]
 | th,m::ms=>if m.1 = "clear" then ("clear",num m.2)::pbGo num jn pl (th.filter fun x=>decide (x ≠ num m.2)) ms else (if jn m.2 then qZO th (pl (num m.2)) else [("do",num m.2)])++pbGo num jn pl (th++[num m.2]) ms
structure ThOk (n:Nat) (num:Int->Int) (th s:List Int):Prop where
 perm:th.Perm (s.map num)
 rise:Rise (n:Int) s
structure TopO (Af:List (List Int)) (zs:List Int):Prop where
 nodup:zs.Nodup
 in_:∀ x ∈ zs,0<=x/\x<(Af.length:Int)
 bef:∀ (p:Nat) (o:Int),zs[p]?=some o->∀ x ∈ nd Af o,x ∈ zs.take p
 aft:∀ (p:Nat) (o:Int),zs[p]?=some o->p+1<zs.length->qWG Af zs (p+1) o
structure Begun (Af:List (List Int)) (some_ ord:List Int):Prop where
 nodup:ord.Nodup
 sub:∀ x ∈ ord,x ∈ some_
 bef:∀ (p:Nat) (o:Int),ord[p]?=some o->∀ x ∈ nd Af o,x ∈ ord.take p
noncomputable def ndOf (Af:List (List Int)) (Ad:List Int):List Int:=by
 classical
 exact if h:∃ zs,qUK Af Ad zs then Classical.choose h else []
noncomputable def qUX (Af:List (List Int)) (w:Int):List Mv:=qXZ Af [w] (ndOf Af [w])
def numF (m:Nat) (ins:List (Int × Int)) (x:Int):Int:=numO m ins x.toNat
def qZP (ins:List (Int × Int)) (x:Int):Bool:=(qWN ins x).isSome
noncomputable def qa4 (one:List (List Int)) (ins:List (Int × Int)) (ms:List Mv):List Mv:=pbGo (numF one.length ins) (qZP ins) (qUX one) [] ms
noncomputable def qZN (one:List (List Int)) (ins:List (Int × Int)):Int:=(topD (some 1) (ins.map fun q=>peak 0 (qUX one q.2))).getD 0
noncomputable def qa3 (one:List (List Int)) (ins:List (Int × Int)) (ms:List Mv):Int:=match ins with | []=>peak 0 ms | _::_=>qZN one ins+peak 0 ms - 1
structure BehIn (H:Hp) (a b i l:Addr) (one other:List (List Int)) (ins:List (Int × Int)) (ms:List Mv) (st:List Int):Prop where
 gA:NetAt H a one
 wf1:WFn one
 gB:NetAt H b other
 wf2:WFn other
 gI:InsAt H i ins
 ok:∃ fs,InsOk one.length other other.length ins fs
 plan:qVL H l ms
 mv:MvOk other ms
 len:ms.length<=400
 run:Run other (other.length:Int) [] ms st
 o1:1<=one.length
 o2:one.length<=60
 o3:1<=other.length
 o4:other.length<=60
structure TwoIn (H:Hp) (a b i:Addr) (one other:List (List Int)) (ins:List (Int × Int)):Prop where
 gA:NetAt H a one
 wf1:WFn one
 gB:NetAt H b other
 wf2:WFn other
 gI:InsAt H i ins
 ok:∃ fs,InsOk one.length other other.length ins fs
 o1:1<=one.length
 o2:one.length<=40
 o3:1<=other.length
 o4:other.length<=7
theorem qMY {α β:Type} {F:α->β->Prop} {l₁:List α} {l₂:List β} (h:Paired F l₁ l₂):Paired F l₁.reverse l₂.reverse:=by
 induction h with
 | nil=>exact .nil
 | cons r _ ih=>rw [k9,k9];exact qBL ih r
section
variable {Af:List (List Int)}
theorem qE1 (wf:WFn Af) {w y:Int} (h0:0<=w) (h:y ∈ nd Af w):0<=y/\y<w:=by
 unfold nd at h;cases e:Af[w.toNat]? with
 | none=>rw [e] at h;cases h
 | some zs=>
  rw [e] at h;have:=(wf _ _ e).in_ y h;omega
def qHL (Af:List (List Int)):Nat->List Int
 | 0=>[]
 | i+1=>qHL Af i++[if nd Af (i:Int)=[] then 1 else ((nd Af (i:Int)).map fun z=>(qHL Af i).getD z.toNat 0).sum]
def cn (Af:List (List Int)) (z:Int):Int:=(qHL Af (z.toNat+1)).getD z.toNat 0
theorem qEM:∀ i,(qHL Af i).length=i
 | 0=>rfl
 | i+1=>by rw [qHL,A8,qEM i];rfl
theorem qOV:∀ i,qHL Af i=(J9 i).map fun (k:Nat)=>cn Af (k:Int)
 | 0=>rfl
 | i+1=>by
  have e:cn Af (i:Int)=if nd Af (i:Int)=[] then 1 else ((nd Af (i:Int)).map fun z=>(qHL Af i).getD z.toNat 0).sum:=by
   unfold cn;rw [S0,qHL,L8,E8 (by rw [qEM];exact C1 _),qEM,W4]
   rfl
  rw [List.range_succ,D3,<- qOV i,qHL,List.map_singleton,e]
theorem qSH {i:Nat} {z:Int} (h0:0<=z) (h1:z<(i:Int)):(qHL Af i)[z.toNat]?=some (cn Af z):=by
 rw [qOV,D7,B08 (by omega)]
 show some (cn Af ((z.toNat:Nat):Int))=_;rw [show ((z.toNat:Nat):Int)=z by omega]
theorem qWX (wf:WFn Af) {z:Int} (h:0<=z):cn Af z=if nd Af z=[] then 1 else ((nd Af z).map (cn Af)).sum:=by
 obtain ⟨i,rfl⟩:∃ i:Nat,z=(i:Int):=⟨z.toNat,by omega⟩
 have e:cn Af (i:Int)=if nd Af (i:Int)=[] then 1 else ((nd Af (i:Int)).map fun z=>(qHL Af i).getD z.toNat 0).sum:=by
  unfold cn;rw [S0,qHL,L8,E8 (by rw [qEM];exact C1 _),qEM,W4]
  rfl
 rw [e];congr 2;refine O4 fun y hy=>?_;have b:=qE1 wf h hy;rw [L8,qSH b.1 b.2]
 rfl
theorem qQO:∀ {l:List Int},(∀ x ∈ l,1<=x)->(l.length:Int)<=l.sum
 | [],_=>by simp
 | x::l,h=>by
  have a:=h x C9;have b:=qQO fun y hy=>h y (C7 _ hy);rw [l6,E3];omega
theorem qVI (wf:WFn Af):∀ (n:Nat) (z:Int),z.toNat=n->0<=z->1<=cn Af z:=by
 intro n
 induction n using k7 with
 | ind n ih=>
  intro z hn h0;rw [qWX wf h0]
  split
  ·exact O3 _
  ·rename_i c
   have:=qQO (l:=(nd Af z).map (cn Af)) fun x hx=>by
    obtain ⟨y,hy,rfl⟩:=G1.mp hx;have b:=qE1 wf h0 hy;exact ih y.toNat (by omega) y rfl b.1
   have l:0<(nd Af z).length:=Y3.mpr c;rw [A0] at this;omega
def hd (p:List Int):Int:=p.headD 0
def apF (Af:List (List Int)):Nat->List Int->List (List Int)
 | 0,p=>[p]
 | n+1,p=>if nd Af (hd p)=[] then [p] else ((nd Af (hd p)).reverse.map fun z=>apF Af n (z::p)).flatten
theorem qX2 (wf:WFn Af):∀ (k n m:Nat) (p:List Int),(hd p).toNat=k->0<=hd p->k<n->k<m->apF Af n p=apF Af m p:=by
 intro k
 induction k using k7 with
 | ind k ih=>
  intro n m p hk h0 hn hm;obtain ⟨n,rfl⟩:∃ n',n=n'+1:=⟨n - 1,by omega⟩
  obtain ⟨m,rfl⟩:∃ m',m=m'+1:=⟨m - 1,by omega⟩
  unfold apF;congr 2;refine O4 fun z hz=>?_;have b:=qE1 wf h0 (R8.mp hz);exact ih z.toNat (by omega) n m (z::p) rfl b.1 (by omega) (by omega)
def aP (Af:List (List Int)) (p:List Int):List (List Int):=apF Af ((hd p).toNat+1) p
theorem qX5 (wf:WFn Af) {p:List Int} (h0:0<=hd p):aP Af p=if nd Af (hd p)=[] then [p] else ((nd Af (hd p)).reverse.map fun z=>aP Af (z::p)).flatten:=by
 unfold aP;rw [apF];congr 2;refine O4 fun z hz=>?_;have b:=qE1 wf h0 (R8.mp hz);exact qX2 wf z.toNat _ _ (z::p) rfl b.1 (by omega) (by show z.toNat<z.toNat+1;omega)
theorem qTV {α:Type} (l:List (List α)):((l.flatten.length:Nat):Int)=(l.map fun x=>(x.length:Int)).sum:=by
 induction l with
 | nil=>rfl
 | cons x l ih=>rw [Q0,A8,G6,l6,<- ih];omega
theorem qT9 {l m:List Int} (p:l.Perm m):l.sum=m.sum:=by
 induction p with
 | nil=>rfl
 | cons x _ ih=>rw [l6,l6,ih]
 | swap x y l=>simp only [l6];omega
 | trans _ _ h1 h2=>rw [h1,h2]
theorem qT0 (wf:WFn Af):∀ (k:Nat) (p:List Int),(hd p).toNat=k->0<=hd p->((aP Af p).length:Int)=cn Af (hd p):=by
 intro k
 induction k using k7 with
 | ind k ih=>
  intro p hk h0;rw [qX5 wf h0,qWX wf h0];by_cases c:nd Af (hd p)=[]
  ·rw [if_pos c,if_pos c];rfl
  ·rw [if_neg c,if_neg c,qTV,j7];rw [qT9 ((x4 (nd Af (hd p))).map (cn Af)).symm];congr 1;refine O4 fun z hz=>?_;have b:=qE1 wf h0 (R8.mp hz);exact ih z.toNat (by omega) (z::p) rfl b.1
def tmF (Af:List (List Int)):Nat->Int->Nat
 | 0,_=>1
 | n+1,w=>1+((nd Af w).map (tmF Af n)).sum
theorem qVQ (wf:WFn Af):∀ (k n m:Nat) (w:Int),w.toNat=k->0<=w->k<n->k<m->tmF Af n w=tmF Af m w:=by
 intro k
 induction k using k7 with
 | ind k ih=>
  intro n m w hk h0 hn hm;obtain ⟨n,rfl⟩:∃ n',n=n'+1:=⟨n - 1,by omega⟩
  obtain ⟨m,rfl⟩:∃ m',m=m'+1:=⟨m - 1,by omega⟩
  unfold tmF;congr 2;refine O4 fun z hz=>?_;have b:=qE1 wf h0 hz;exact ih z.toNat (by omega) n m z rfl b.1 (by omega) (by omega)
def tM (Af:List (List Int)) (w:Int):Nat:=tmF Af (w.toNat+1) w
theorem qZ5 (wf:WFn Af) {w:Int} (h0:0<=w):tM Af w=1+((nd Af w).map (tM Af)).sum:=by
 unfold tM;rw [tmF];congr 2;refine O4 fun z hz=>?_;have b:=qE1 wf h0 hz;exact qVQ wf z.toNat _ _ z rfl b.1 (by omega) (by omega)
structure POk (Af:List (List Int)) (p:List Int):Prop where
 ne:p ≠ []
 h0:0<=hd p
 h1:hd p<(Af.length:Int)
 len:(p.length:Int)+hd p<=(Af.length:Int)
structure PWay (Af:List (List Int)) (work:Int) (fs st:List (List Int)):Prop where
 all:fs++(st.map (aP Af)).flatten=aP Af [work]
 ok:∀ p ∈ st,POk Af p
 fok:∀ p ∈ fs,POk Af p
def msP (Af:List (List Int)) (st:List (List Int)):Nat:=(st.map fun p=>tM Af (hd p)).sum
theorem PWay.start {work:Int} (h0:0<=work) (h1:work<(Af.length:Int)):PWay Af work [] [[work]]:=by
 have e:hd [work]=work:=rfl;refine ⟨by simp,fun p hp=>?_,fun p hp=>nomatch hp⟩
 rw [C0.mp hp];exact ⟨by simp,by rw [e];exact h0,by rw [e];exact h1,by rw [e,D5];omega⟩
theorem POk.more (wf:WFn Af) {p:List Int} (h:POk Af p) {z:Int} (hz:z ∈ nd Af (hd p)):POk Af (z::p):=by
 have b:=qE1 wf h.h0 hz;have e:hd (z::p)=z:=rfl;exact ⟨by simp,by rw [e];exact b.1,by rw [e];have:=h.h1;omega,by rw [e,E3];have:=h.len;omega⟩
def nxF (Af:List (List Int)) (fs:List (List Int)) (p:List Int):List (List Int):=if nd Af (hd p)=[] then fs++[p] else fs
def nxS (Af:List (List Int)) (p:List Int) (st:List (List Int)):List (List Int):=((nd Af (hd p)).map fun z=>z::p).reverse++st
theorem PWay.step (wf:WFn Af) {work:Int} {fs st:List (List Int)} {p:List Int} (h:PWay Af work fs (p::st)):PWay Af work (nxF Af fs p) (nxS Af p st)/\msP Af (nxS Af p st)<msP Af (p::st):=by
 have P:=h.ok p C9;refine ⟨⟨?_,fun r hr=>?_,fun r hr=>?_⟩,?_⟩
 ·rw [<- h.all,G6,Q0,qX5 wf P.h0];unfold nxF nxS;by_cases c:nd Af (hd p)=[]
  ·rw [if_pos c,if_pos c,c];simp
  ·rw [if_neg c,if_neg c,D3,List.flatten_append,<- A01,j7]
   rfl
 ·unfold nxS at hr;rcases C8.mp hr with q | q
  ·obtain ⟨z,hz,rfl⟩:=G1.mp (R8.mp q);exact P.more wf hz
  ·exact h.ok r (C7 _ q)
 ·unfold nxF at hr
  split at hr
  ·rcases C8.mp hr with q | q
   ·exact h.fok r q
   ·rw [C0.mp q];exact P
  ·exact h.fok r hr
 ·unfold msP nxS;rw [D3,List.sum_append,G6,l6,qZ5 wf P.h0,<- A01,j7,A01];have e:((nd Af (hd p)).map ((fun q=>tM Af (hd q)) ∘ fun z=>z::p))=(nd Af (hd p)).map (tM Af):=O4 fun z _=>rfl;rw [e,List.sum_reverse];omega
theorem PWay.lens (wf:WFn Af) {work:Int} {fs st:List (List Int)} (h:PWay Af work fs st) (h0:0<=work) (hc:cn Af work<=300):fs.length+st.length<=300:=by
 have l:=qT0 wf _ [work] rfl h0;rw [<- h.all,A8] at l;have e:hd [work]=work:=rfl;rw [e] at l;have b:st.length<=((st.map (aP Af)).flatten).length:=by
  have hk:=h.ok;clear l h e
  induction st with
  | nil=>simp
  | cons p st ih=>
   rw [G6,Q0,A8,E3];have P:=hk p C9;have a:=qT0 wf _ p rfl P.h0;have c:=qVI wf _ (hd p) rfl P.h0;have d:=ih fun r hr=>hk r (C7 _ hr);omega
 omega
theorem PWay.done {work:Int} {fs:List (List Int)} (h:PWay Af work fs []):fs=aP Af [work]:=by
 have:=h.all;simpa using this
theorem PWay.lens1 (wf:WFn Af) {work:Int} {fs st:List (List Int)} {p:List Int} (h:PWay Af work fs (p::st)) (h0:0<=work) (hc:cn Af work<=300):fs.length+st.length+(nd Af (hd p)).length<=300/\fs.length+st.length+1<=300:=by
 have a:=(h.step wf).1.lens wf h0 hc;have b:=h.lens wf h0 hc;unfold nxS at a;rw [A8,Y2,A0] at a;rw [E3] at b;unfold nxF at a
 split at a
 ·rename_i c
  rw [c] at a ⊢;rw [A8] at a;simp only [O5,D5] at a ⊢;omega
 ·omega
end
def SortP (Af:List (List Int)) (work:Int) (ts:List (List Int)):Prop:=ts.Perm (aP Af [work])/\ts.Pairwise (fun a b=>HT.lexLt b a=false)
def TLAt (H:Hp) (l:Addr) (ts:List (List Int)):Prop:=∃ rs:List Addr,H l=some (.lst (rs.map V.ref))/\NetL H rs ts
def qNY:Sp:=fun vs H Q _=>∃ (a:Addr) (Af:List (List Int)) (work:Int),vs=[.ref a,.int work]/\NetAt H a Af/\WFn Af/\Af.length<=401/\0<=work/\work<(Af.length:Int)/\cn Af work<=300/\∀ l ts H',Same H H'->H l=none->TLAt H' l ts->SortP Af work ts->ts.length<=300->(∀ t ∈ ts,t.length<=401)->Q (.ref l) H'
def oV:Option Int->V
 | none=>.non
 | some i=>.int i
structure Mo where
 dk:Bool
 wk:Int
 rm:Int
def Mo.vs (m:Mo):List V:=match m.dk with | true=>[.str "do",.int m.wk,.int m.rm] | false=>[.str "clear",.int m.rm]
def Mo.res (m:Mo):Option Int:=match m.dk with | true=>some m.wk | false=>none
structure TIn (H:Hp) (a wd sz la mv:Addr) (Af:List (List Int)) (wides sizes:List Int) (lay:List (Option Int)) (m:Mo) (ns:List Int) (o:Option Int) (s w:Int):Prop where
 net_:NetAt H a Af
 wides_:H wd=some (.tup (wides.map V.int))
 sizes_:H sz=some (.tup (sizes.map V.int))
 lay_:H la=some (.tup (lay.map oV))
 move:H mv=some (.tup m.vs)
 work:m.dk=true->0<=m.wk/\Af[m.wk.toNat]?=some ns/\ns.length<=1000/\wides[m.wk.toNat]?=some w
 rm0:0<=m.rm
 at_:lay[m.rm.toNat]?=some o
 size:sizes[m.rm.toNat]?=some s
 len:lay.length<=1000
structure TKit (H:Hp) (a wd sz:Addr) (Af:List (List Int)) (wides sizes:List Int):Prop where
 net_:NetAt H a Af
 wf:WFn Af
 n1:1<=Af.length
 n6:Af.length<=6
 wides_:H wd=some (.tup (wides.map V.int))
 lw:wides.length=Af.length
 w9:∀ x ∈ wides,0<=x/\x<=99
 sizes_:H sz=some (.tup (sizes.map V.int))
 k1:1<=sizes.length
 k5:sizes.length<=5
 s9:∀ x ∈ sizes,0<=x/\x<=99
structure Sm (W:Nat) (d:PyData):Prop where
 sh:d.showable=true
 nd:d.hasDict=false
 ls:d.leavesShort 8=true
 wt:d.weight<=W
theorem Sm.mono {V W:Nat} {d:PyData} (h:Sm V d) (l:V<=W):Sm W d:=⟨h.sh,h.nd,h.ls,M6 h.wt l⟩
def numB:PyData->Bool | .int _=>true | _=>false
def qKG:PyData->Bool | .bool _=>true | _=>false
def tupB:PyData->Bool | .tuple _=>true | _=>false
def qCH (e:Int):PyData->Bool | .int i=>decide (0<=i) && decide (i<e) | _=>false
section
variable {K:PySem.W.Frag} {H:Hp}
theorem qNT {n:Nat} {x:V} {d:PyData} (h:DatN H n x d):∃ t,TyOf K H x t/\T4 K t (.type "int")=some (numB d || qKG d)/\T4 K t (.type "bool")=some (qKG d)/\T4 K t (.type "tuple")=some (tupB d):=by
 have leaf:qJ7 x d->∃ t,TyOf K H x t/\T4 K t (.type "int")=some (numB d || qKG d)/\T4 K t (.type "bool")=some (qKG d)/\T4 K t (.type "tuple")=some (tupB d):=by
  rintro (⟨rfl,rfl⟩ | ⟨b,rfl,rfl⟩ | ⟨i,rfl,rfl⟩ | ⟨y,rfl,rfl⟩)
  ·exact ⟨_,.non,rfl,rfl,rfl⟩
  ·exact ⟨_,.bl b,rfl,rfl,rfl⟩
  ·exact ⟨_,.int i,rfl,rfl,rfl⟩
  ·exact ⟨_,.str y,rfl,rfl,rfl⟩
 cases n with
 | zero=>exact leaf h
 | succ n=>
  rcases h with h | ⟨b,a,xs,ds,rfl,rfl,h1,_⟩
  ·exact leaf h
  ·cases b
   ·exact ⟨_,.lst h1,rfl,rfl,rfl⟩
   ·exact ⟨_,.tup h1,rfl,rfl,rfl⟩
theorem qIP {n:Nat} {x:V} {d:PyData} (h:DatN H n x d) (hn:numB d=true):∃ i,x=.int i/\d=.int i:=by
 have leaf:qJ7 x d->∃ i,x=.int i/\d=.int i:=by
  rintro (⟨rfl,rfl⟩ | ⟨b,rfl,rfl⟩ | ⟨i,rfl,rfl⟩ | ⟨y,rfl,rfl⟩)
  ·cases hn
  ·cases hn
  ·exact ⟨i,rfl,rfl⟩
  ·cases hn
 cases n with
 | zero=>exact leaf h
 | succ n=>
  rcases h with h | ⟨b,a,xs,ds,rfl,rfl,h1,_⟩
  ·exact leaf h
  ·cases b <;> cases hn
theorem qNE {n:Nat} {x:V} {d:PyData} (h:DatN H n x d) (hn:tupB d=true):∃ m a xs ds,n=m+1/\x=.ref a/\d=.tuple ds/\H a=some (.tup xs)/\xs.length=ds.length/\∀ (i:Nat) (x':V) (d':PyData),xs[i]?=some x'->ds[i]?=some d'->DatN H m x' d':=by
 have leaf:qJ7 x d->False:=by
  rintro (⟨rfl,rfl⟩ | ⟨b,rfl,rfl⟩ | ⟨i,rfl,rfl⟩ | ⟨y,rfl,rfl⟩) <;> cases hn
 cases n with
 | zero=>exact (leaf h).elim
 | succ n=>
  rcases h with h | ⟨b,a,xs,ds,rfl,rfl,h1,h2,h3⟩
  ·exact (leaf h).elim
  ·cases b
   ·cases hn
   ·exact ⟨n,a,xs,ds,rfl,rfl,rfl,h1,h2,h3⟩
end
theorem qRR:∀ {ds:List PyData},ds.all numB=true->∃ zs:List Int,ds=zs.map Y8
 | [],_=>⟨[],rfl⟩
 | d::ds,h=>by
  rw [A46,E7] at h;obtain ⟨zs,rfl⟩:=qRR h.2;cases d with
  | int i=>exact ⟨i::zs,rfl⟩
  | _=>cases h.1
def LenN:Nat->PyData->Prop
 | 0,_=>True
 | n+1,d=>∀ (b:Bool) (ds:List PyData),d=seqD b ds->ds.length<=2000/\∀ d' ∈ ds,LenN n d'
theorem LenN.down:∀ {n:Nat} {d:PyData},LenN (n+1) d->LenN n d
 | 0,_,_=>trivial
 | n+1,_,h=>fun b ds e=>⟨(h b ds e).1,fun d' hd=>LenN.down ((h b ds e).2 d' hd)⟩
def AnyN (H:Hp) (n W:Nat) (x:V):Prop:=∃ d,DatN H n x d/\Sm W d/\LenN 2 d
section
variable {H H':Hp} {n W:Nat} {x:V}
theorem AnyN.same (h:AnyN H n W x) (s:Same H H'):AnyN H' n W x:=by
 obtain ⟨d,a,b,c⟩:=h;exact ⟨d,a.same s,b,c⟩
theorem AnyN.up (h:AnyN H n W x):AnyN H (n+1) W x:=by
 obtain ⟨d,a,b,c⟩:=h;exact ⟨d,a.up,b,c⟩
theorem AnyN.mono {V:Nat} (h:AnyN H n W x) (l:W<=V):AnyN H n V x:=by
 obtain ⟨d,a,b,c⟩:=h;exact ⟨d,a,b.mono l,c⟩
theorem AnyN.non:AnyN H n W .non:=⟨.none,by cases n with | zero=>exact .inl ⟨rfl,rfl⟩ | succ n=>exact .inl (.inl ⟨rfl,rfl⟩),⟨rfl,rfl,rfl,G5 _⟩,fun b ds e=>by cases b <;> cases e⟩
theorem AnyN.bl {b:Bool}:AnyN H n W (.bl b):=⟨.bool b,by cases n with | zero=>exact .inr (.inl ⟨b,rfl,rfl⟩) | succ n=>exact .inl (.inr (.inl ⟨b,rfl,rfl⟩)),⟨rfl,rfl,rfl,G5 _⟩,fun b ds e=>by cases b <;> cases e⟩
theorem qUS {i:Int} (h : -2000<=i/\i<=2000):Sm 11 (.int i):=by
 have hb:i.natAbs<2 ^ 11:=by omega
 have hd:i.natAbs.log2<11:=by
  by_cases h0:i.natAbs=0
  ·rw [h0];decide
  ·exact (Nat.log2_lt h0).mpr hb
 refine ⟨decide_eq_true (G9 hd (by decide)),rfl,decide_eq_true ?_,by show (if i == 0 then 0 else i.natAbs.log2+1)<=11;split <;> omega⟩
 show (F9 (toString i)).length<=8;have e:=int_text_length_le10 (a:=i) (k:=6) (by decide) (by omega)
 rw [PySem.ofString_length];omega
theorem AnyN.str {y:Str} (h:(y.cps.toList.all fun c=>decide (c<16 ^ 8))=true) (l:y.length<=W):AnyN H n W (.str y):=⟨.str y,by cases n with | zero=>exact .inr (.inr (.inr ⟨y,rfl,rfl⟩)) | succ n=>exact .inl (.inr (.inr (.inr ⟨y,rfl,rfl⟩))),⟨rfl,rfl,h,l⟩,fun b ds e=>by cases b <;> cases e⟩
theorem AnyN.int {i:Int} (h : -2000<=i/\i<=2000):AnyN H n 11 (.int i):=⟨.int i,by cases n with | zero=>exact .inr (.inr (.inl ⟨i,rfl,rfl⟩)) | succ n=>exact .inl (.inr (.inr (.inl ⟨i,rfl,rfl⟩))),qUS h,fun b ds e=>by cases b <;> cases e⟩
def AnyL (H:Hp) (n T:Nat) (xs:List V):Prop:=∃ ds:List PyData,xs.length=ds.length/\(∀ (i:Nat) (x':V) (d':PyData),xs[i]?=some x'->ds[i]?=some d'->DatN H n x' d')/\(∀ d ∈ ds,d.showable=true/\d.hasDict=false/\d.leavesShort 8=true/\LenN 2 d)/\B51 ds<=T
theorem AnyL.nil:AnyL H n 0 []:=⟨[],rfl,(fun i x' d' e=>by simp at e),(fun d hd=>nomatch hd),C1 _⟩
theorem AnyL.cons {T:Nat} {xs:List V} (h:AnyN H n W x) (t:AnyL H n T xs):AnyL H n (W+1+T) (x::xs):=by
 obtain ⟨d,h1,h2,h3⟩:=h;obtain ⟨ds,l1,l2,l3,l4⟩:=t;refine ⟨d::ds,by rw [E3,E3,l1],fun i x' d' e1 e2=>?_,fun e he=>?_,?_⟩
 ·cases i with
  | zero=>cases e1;cases e2;exact h1
  | succ i=>exact l2 i x' d' e1 e2
 ·rcases D9.mp he with q | q
  ·rw [q];exact ⟨h2.sh,h2.nd,h2.ls,h3⟩
  ·exact l3 e q
 ·show d.weight+1+B51 ds<=_;have:=h2.wt;omega
theorem AnyL.all {xs:List V} (h:∀ x ∈ xs,AnyN H n W x):AnyL H n (xs.length * (W+1)) xs:=by
 induction xs with
 | nil=>rw [O5,Nat.zero_mul];exact .nil
 | cons x xs ih=>
  have:=AnyL.cons (h x C9) (ih fun y hy=>h y (C7 _ hy));rw [E3,Nat.succ_mul,j4];exact this
theorem AnyL.seq {b:Bool} {a:Addr} {xs:List V} {T:Nat} (h:H a=some (seqO b xs)) (l2:xs.length<=2000) (he:AnyL H n T xs):AnyN H (n+1) T (.ref a):=by
 obtain ⟨ds,k1,k2,k3,k4⟩:=he;have al:∀ {l:List PyData},(∀ d ∈ l,d.showable=true/\d.hasDict=false/\d.leavesShort 8=true/\LenN 2 d)->B21 l=true/\B37 l=false/\A83 8 l=true:=by
  intro l
  induction l with
  | nil=>exact fun _=>⟨rfl,rfl,rfl⟩
  | cons d l ih=>
   intro h;obtain ⟨a1,a2,a3⟩:=ih fun e he=>h e (C7 _ he);obtain ⟨b1,b2,b3,_⟩:=h d C9;refine ⟨?_,?_,?_⟩
   ·show (d.showable && B21 l)=true;rw [b1,a1];rfl
   ·show (d.hasDict || B37 l)=false;rw [b2,a2];rfl
   ·show (d.leavesShort 8 && A83 8 l)=true;rw [b3,a3];rfl
 obtain ⟨a1,a2,a3⟩:=al k3;refine ⟨seqD b ds,.inr ⟨b,a,xs,ds,rfl,rfl,h,k1,k2⟩,?_,fun b' ds' e=>?_⟩
 ·cases b
  ·exact ⟨a1,a2,a3,k4⟩
  ·exact ⟨a1,a2,a3,k4⟩
 ·have e2:ds=ds':=by cases b <;> cases b' <;> cases e <;> rfl
  subst e2;exact ⟨by omega,fun d' hd=>(k3 d' hd).2.2.2.down⟩
end
def qUR:Sp:=fun vs H Q _=>∃ x n d,vs=[x]/\DatN H n x d/\Q (.bl (numB d)) H
def qO2:Sp:=fun vs H Q _=>∃ x n d e,vs=[x,.int e]/\DatN H n x d/\Q (.bl (qCH e d)) H
theorem anyT {H:Hp} {p:Addr} {xs:List V} (g:H p=some (.tup xs)) (l:xs.length<=820) (h:∀ x ∈ xs,AnyN H 0 11 x):AnyN H 2 10000 (.ref p):=
 ((AnyL.seq (b:=true) g (by omega) (AnyL.all h)).up).mono (by omega)
theorem qZZ {H:Hp} {p:Addr} {xs:List V} (g:H p=some (.lst xs)) (l:xs.length<=820) (h:∀ x ∈ xs,AnyN H 0 11 x):AnyN H 2 10000 (.ref p):=
 ((AnyL.seq (b:=false) g (by omega) (AnyL.all h)).up).mono (by omega)
theorem qP1 {H:Hp} {zs:List Int} (h:∀ z ∈ zs,-2000<=z/\z<=2000):∀ x ∈ zs.map V.int,AnyN H 0 11 x:=fun x hx=>by
 obtain ⟨z,hz,rfl⟩:=G1.mp hx;exact .int (h z hz)
theorem qOU {α:Type} {xs:List α} {lo hi:Option Int} {x:α} (h:x ∈ cutI xs lo hi):x ∈ xs:=by
 unfold cutI at h;exact M9 (T9 h)
abbrev Wy:=Int->List Int
def upW (W:Wy) (a b:Int):Wy:=fun x=>if x=a then (W a).erase b else if x=b then W b++[a] else W x
structure Fl0 (W0 W:Wy):Prop where
 nd:∀ x,(W x).Nodup
 ex:∀ x y,y ∈ W0 x->(y ∈ W x ↔ x ∉ W y)
 on:∀ x y,y ∈ W x->y ∈ W0 x\/x ∈ W0 y
structure Anti (W0:Wy):Prop where
 nd:∀ x,(W0 x).Nodup
 no:∀ x y,y ∈ W0 x->x ∉ W0 y
section
variable {W0 W:Wy}
theorem Anti.self (A:Anti W0):Fl0 W0 W0:=⟨A.nd,fun x y h=>⟨fun _=>A.no x y h,fun _=>h⟩,fun _ _ h=>.inl h⟩
theorem qKQ {a b x:Int} (h1:x ≠ a) (h2:x ≠ b):upW W a b x=W x:=by unfold upW;rw [if_neg h1,if_neg h2]
theorem qVP {a b:Int}:upW W a b a=(W a).erase b:=by unfold upW;rw [if_pos rfl]
theorem qVO {a b:Int} (h:b ≠ a):upW W a b b=W b++[a]:=by unfold upW;rw [if_neg h,if_pos rfl]
theorem Fl0.turn (F:Fl0 W0 W) {a b:Int} (h:b ∈ W a) (ne:b ≠ a):Fl0 W0 (upW W a b):=by
 have na:a ∉ W b:=by
  intro z;rcases F.on a b h with e | e
  ·exact (F.ex a b e).mp h z
  ·exact (F.ex b a e).mp z h
 -- who is in the new one
 have mem:∀ x y,y ∈ upW W a b x ↔ (y ∈ W x/\¬ (x=a/\y=b))\/(x=b/\y=a):=by
  intro x y;by_cases e1:x=a
  ·subst e1;rw [qVP,(F.nd x).mem_erase_iff]
   constructor
   ·rintro ⟨h1,h2⟩;exact .inl ⟨h2,fun z=>h1 z.2⟩
   ·rintro (⟨h1,h2⟩ | ⟨h1,h2⟩)
    ·exact ⟨fun z=>h2 ⟨rfl,z⟩,h1⟩
    ·exact absurd h1.symm ne
  ·by_cases e2:x=b
   ·subst e2;rw [qVO e1,C8,C0]
    constructor
    ·rintro (h | h)
     ·exact .inl ⟨h,fun z=>e1 z.1⟩
     ·exact .inr ⟨rfl,h⟩
    ·rintro (⟨h,_⟩ | ⟨_,h⟩)
     ·exact .inl h
     ·exact .inr h
   ·rw [qKQ e1 e2];exact ⟨fun h=>.inl ⟨h,fun z=>e1 z.1⟩,fun h=>h.elim (fun z=>z.1) fun z=>absurd z.1 e2⟩
 refine ⟨fun x=>?_,fun x y hy=>?_,fun x y hy=>?_⟩
 ·by_cases e1:x=a
  ·subst e1;rw [qVP];exact (F.nd x).erase _
  ·by_cases e2:x=b
   ·subst e2;rw [qVO e1,V3];exact ⟨F.nd x,by simp,fun u hu v hv z=>na (by rw [C0.mp hv] at z;exact z ▸ hu)⟩
   ·rw [qKQ e1 e2];exact F.nd x
 ·rw [mem,mem];have:=F.ex x y hy;by_cases c1:x=a/\y=b
  ·obtain ⟨rfl,rfl⟩:=c1
   constructor
   ·rintro (⟨_,z⟩ | ⟨z,_⟩)
    ·exact absurd ⟨rfl,rfl⟩ z
    ·exact absurd z.symm ne
   ·intro z;exact absurd (.inr ⟨rfl,rfl⟩) z
  ·by_cases c2:x=b/\y=a
   ·obtain ⟨rfl,rfl⟩:=c2
    constructor
    ·rintro _ (⟨_,z⟩ | ⟨z,_⟩)
     ·exact z ⟨rfl,rfl⟩
     ·exact ne z.symm
    ·exact fun _=>.inr ⟨rfl,rfl⟩
   ·constructor
    ·rintro (⟨z,_⟩ | z)
     ·rintro (⟨u,_⟩ | ⟨u,v⟩)
      ·exact this.mp z u
      ·exact c1 ⟨v,u⟩
     ·exact absurd z c2
    ·intro z;refine .inl ⟨this.mpr fun u=>z (.inl ⟨u,fun v=>c2 ⟨v.2,v.1⟩⟩),c1⟩
 ·rcases (mem x y).mp hy with ⟨z,_⟩ | ⟨rfl,rfl⟩
  ·exact F.on x y z
  ·exact (F.on y x h).symm
def Pth (W:Wy):List Int->Prop
 | f::s::r=>f ∈ W s/\Pth W (s::r)
 | _=>True
def qC5:List Int->Wy->Wy
 | f::s::r,W=>qC5 (s::r) (upW W s f)
 | _,W=>W
theorem qUU {W W':Wy}:∀ {r:List Int},Pth W r->(∀ x ∈ r.tail,W' x=W x)->Pth W' r
 | [],_,_=>trivial
 | [_],_,_=>trivial
 | f::s::r,h,e=>⟨by rw [e s C9];exact h.1,qUU h.2 fun x hx=>e x (C7 _ hx)⟩
def oneI (p:Prop) [Decidable p]:Nat:=if p then 1 else 0
theorem qJU:∀ (st:List Int) (W:Wy),Fl0 W0 W->Pth W st->st.Nodup->∀ g l,st.head?=some g->st.getLast?=some l->Fl0 W0 (qC5 st W)/\∀ x,(qC5 st W x).length+oneI (x=l)=(W x).length+oneI (x=g)
 | [],_,_,_,_,_,_,h,_=>by cases h
 | [s],W,F,_,_,g,l,h1,h2=>by cases h1;cases h2;exact ⟨F,fun x=>rfl⟩
 | f::s::r,W,F,P,n,g,l,h1,h2=>by
  cases h1;obtain ⟨n1,n2⟩:=O0.mp n;have nfs:f ≠ s:=fun z=>n1 (by rw [z];exact C9)
  have F1:=F.turn P.1 nfs;have P1:Pth (upW W s f) (s::r):=qUU P.2 fun x hx=>by
   have hx:x ∈ r:=hx;exact qKQ (fun z=>(O0.mp n2).1 (z ▸ hx)) fun z=>n1 (z ▸ C7 _ hx)
  obtain ⟨k1,k2⟩:=qJU (s::r) (upW W s f) F1 P1 n2 s l rfl (by rw [A53] at h2;exact h2)
  refine ⟨k1,fun x=>?_⟩;have:=k2 x;show (qC5 (s::r) (upW W s f) x).length+_=_;rw [this];unfold oneI;by_cases e1:x=s
  ·subst e1;rw [qVP,b9 P.1,if_pos rfl,if_neg (fun z=>nfs z.symm)];have:=A68 P.1;omega
  ·by_cases e2:x=f
   ·subst e2;rw [qVO e1,A8,if_neg e1,if_pos rfl]
    rfl
   ·rw [qKQ e1 e2,if_neg e1,if_neg e2]
end
section
variable (Af:List (List Int)) (path:List Int)
def qAU (w:Int):Bool:=decide (0<=w) && decide (w<(Af.length:Int)) && decide (w ∉ path)
def qD2 (n:Int):Bool:=decide (n ∉ path) && (path.drop 1).any fun w=>decide (n ∈ nd Af w)
def fwW (i:Nat):Wy:=fun x=>
 if x = -1 then ((qBG 0 i).filter fun w=>qAU Af path w && (nd Af w).isEmpty).map (2 * ·)
 else if x % 2=0 then (if qAU Af path (x / 2) && decide (x / 2<(i:Int)) then [x+1] else [])
 else (if qAU Af path (x / 2) && decide (x / 2<(i:Int)) then (if qD2 Af path (x / 2) then [-2] else [])++((qBG 0 i).filter fun u=>qAU Af path u && decide (x / 2 ∈ nd Af u)).map (2 * ·) else [])
end
section
variable {Af:List (List Int)} {path:List Int}
theorem free_in {w:Int}:qAU Af path w=true ↔ (0<=w/\w<(Af.length:Int))/\w ∉ path:=by
 unfold qAU;rw [E7,E7,decide_eq_true_eq,decide_eq_true_eq,decide_eq_true_eq]
abbrev W0 (Af:List (List Int)) (path:List Int):Wy:=fwW Af path Af.length
theorem w0_s {y:Int}:y ∈ W0 Af path (-1) ↔ ∃ w,y=2 * w/\qAU Af path w=true/\nd Af w=[]:=by
 show y ∈ (if (-1:Int) = -1 then _ else _) ↔ _
 rw [if_pos rfl,G1]
 constructor
 ·rintro ⟨w,hw,rfl⟩;obtain ⟨_,h2⟩:=V5.mp hw;rw [E7,B52] at h2;exact ⟨w,rfl,h2⟩
 ·rintro ⟨w,rfl,h1,h2⟩;refine ⟨w,V5.mpr ⟨mem_rangeI.mpr (free_in.mp h1).1,?_⟩,rfl⟩;rw [E7,B52];exact ⟨h1,h2⟩
theorem w0_e {w:Int} (h0:0<=w):W0 Af path (2 * w)=if qAU Af path w=true then [2 * w+1] else []:=by
 show (if 2 * w = -1 then _ else if 2 * w % 2=0 then _ else _)=_
 rw [if_neg (by omega),if_pos (by omega),show 2 * w / 2=w by omega]
 cases e:qAU Af path w with
 | false=>rfl
 | true=>rw [decide_eq_true (free_in.mp e).1.2];rfl
theorem w0_o {w y:Int} (h0:0<=w):y ∈ W0 Af path (2 * w+1) ↔ qAU Af path w=true/\((y = -2/\qD2 Af path w=true)\/∃ u,y=2 * u/\qAU Af path u=true/\w ∈ nd Af u):=by
 show y ∈ (if 2 * w+1 = -1 then _ else if (2 * w+1) % 2=0 then _ else _) ↔ _
 rw [if_neg (by omega),if_neg (by omega),show (2 * w+1) / 2=w by omega]
 cases e:qAU Af path w with
 | false=>simp
 | true=>
  rw [decide_eq_true (free_in.mp e).1.2,if_pos (by rfl),C8,G1]
  constructor
  ·rintro (h | ⟨u,hu,rfl⟩)
   ·refine ⟨rfl,.inl ?_⟩
    split at h
    ·rename_i c;exact ⟨C0.mp h,c⟩
    ·cases h
   ·obtain ⟨_,h2⟩:=V5.mp hu;rw [E7,decide_eq_true_eq] at h2;exact ⟨rfl,.inr ⟨u,rfl,h2⟩⟩
  ·rintro ⟨_,⟨rfl,c⟩ | ⟨u,rfl,h1,h2⟩⟩
   ·left;rw [if_pos c];exact C9
   ·right
    refine ⟨u,V5.mpr ⟨mem_rangeI.mpr (free_in.mp h1).1,?_⟩,rfl⟩;rw [E7,decide_eq_true_eq];exact ⟨h1,h2⟩
theorem qCO {x y:Int} (h:y ∈ W0 Af path x):(x = -1/\∃ w,y=2 * w/\qAU Af path w=true/\nd Af w=[])\/(∃ w,x=2 * w/\y=2 * w+1/\qAU Af path w=true)\/∃ w,x=2 * w+1/\0<=w/\qAU Af path w=true/\((y = -2/\qD2 Af path w=true)\/∃ u,y=2 * u/\qAU Af path u=true/\w ∈ nd Af u):=by
 by_cases e1:x = -1
 ·subst e1;exact .inl ⟨rfl,w0_s.mp h⟩
 ·by_cases e2:x % 2=0
  ·right;left
   have h':=h;unfold W0 fwW at h;rw [if_neg e1,if_pos e2] at h
   split at h
   ·rename_i c
    rw [E7] at c;exact ⟨x / 2,by omega,by rw [C0.mp h];omega,c.1⟩
   ·cases h
  ·right;right
   have h':=h;unfold W0 fwW at h;rw [if_neg e1,if_neg e2] at h
   split at h
   ·rename_i c
    rw [E7] at c;have b:=(free_in.mp c.1).1;have ex:x=2 * (x / 2)+1:=by omega
    refine ⟨x / 2,ex,b.1,?_⟩;rw [ex] at h';exact (w0_o b.1).mp h'
   ·cases h
theorem qL5 (a b:Int):(qBG a b).Nodup:=(qFS a b).imp fun h e=>by omega
theorem qK7 {a b:Int} (h:2 * a=2 * b):a=b:=by omega
theorem qLI {l:List Int} (h:l.Nodup):(l.map (2 * ·)).Nodup:=by
 rw [List.Nodup,T1];exact h.imp fun z e=>z (by omega)
theorem qVM (wf:WFn Af):Anti (W0 Af path):=by
 constructor
 ·intro x;unfold W0 fwW
  split
  ·exact qLI ((qL5 _ _).filter _)
  ·split
   ·split
    ·simp
    ·exact .nil
   ·split
    ·rw [V3];refine ⟨by split <;> simp,qLI ((qL5 _ _).filter _),fun a ha b hb z=>?_⟩
     obtain ⟨u,hu,rfl⟩:=G1.mp hb;have:=(mem_rangeI.mp (V5.mp hu).1).1
     split at ha
     ·rw [C0.mp ha] at z;omega
     ·cases ha
    ·exact .nil
 ·intro x y h z;rcases qCO h with ⟨rfl,w,rfl,_⟩ | ⟨w,rfl,rfl,f⟩ | ⟨w,rfl,w0,f,⟨rfl,_⟩ | ⟨u,rfl,g,hu⟩⟩
  ·rcases qCO z with ⟨_,v,e,_⟩ | ⟨v,e,e2,f2⟩ | ⟨v,e,_,_,⟨e2,_⟩ | ⟨u,e2,_⟩⟩
   ·omega
   ·have:=(free_in.mp f2).1.1;omega
   ·cases e2
   ·omega
  ·have w0:=(free_in.mp f).1.1;rcases (w0_o w0).mp z with ⟨_,⟨e,_⟩ | ⟨u,e,_,hu⟩⟩
   ·omega
   ·have e:=qK7 e;subst e;have:=qE1 wf w0 hu;omega
  ·rcases qCO z with ⟨e,_⟩ | ⟨v,e,e2,f2⟩ | ⟨v,e,_⟩
   ·omega
   ·have:=(free_in.mp f2).1.1;omega
   ·omega
  ·have u0:=(free_in.mp g).1.1;rw [w0_e u0,if_pos g] at z;have:=C0.mp z;have e:w=u:=by omega
   subst e;have:=qE1 wf w0 hu;omega
structure Fl (Af:List (List Int)) (path:List Int) (W:Wy):Prop where
 fl:Fl0 (W0 Af path) W
 len:∀ x,x ≠ -1->x ≠ -2->(W x).length=(W0 Af path x).length
theorem qUA (wf:WFn Af):Fl Af path (W0 Af path):=⟨(qVM wf).self,fun _ _ _=>rfl⟩
theorem Fl.turn {W:Wy} (F:Fl Af path W) {st:List Int} (P:Pth W st) (n:st.Nodup) (h1:st.head?=some (-2)) (h2:st.getLast?=some (-1)):Fl Af path (qC5 st W)/\(qC5 st W (-2)).length=(W (-2)).length+1:=by
 obtain ⟨k1,k2⟩:=qJU st W F.fl P n _ _ h1 h2;refine ⟨⟨k1,fun x a b=>?_⟩,?_⟩
 ·have:=k2 x;unfold oneI at this;rw [if_neg a,if_neg b] at this;rw [<- F.len x a b];exact this
 ·have:=k2 (-2);unfold oneI at this;rw [if_neg (by decide),if_pos rfl] at this
  exact this
def Flw (W:Wy) (w:Int):Prop:=2 * w+1 ∉ W (2 * w)
variable {W:Wy}
theorem Fl.in1 (F:Fl Af path W) {w:Int} (f:qAU Af path w=true):∃ p,W (2 * w)=[p]:=by
 have b:=(free_in.mp f).1.1;have:=F.len (2 * w) (by omega) (by omega)
 rw [w0_e b,if_pos f] at this
 match e:W (2 * w),this with
 | [p],_=>exact ⟨p,rfl⟩
theorem Fl.pred (F:Fl Af path W) {w:Int} (f:qAU Af path w=true) (h:Flw W w):∃ p,W (2 * w)=[p]/\2 * w ∉ W p/\((p = -1/\nd Af w=[])\/∃ n,p=2 * n+1/\qAU Af path n=true/\n ∈ nd Af w):=by
 obtain ⟨p,e⟩:=F.in1 f;have b:=(free_in.mp f).1.1;have hp:p ∈ W (2 * w):=by rw [e];exact C9
 have n1:p ≠ 2 * w+1:=fun z=>h (z ▸ hp);rcases F.fl.on _ _ hp with z | z
 ·rw [w0_e b,if_pos f] at z;exact absurd (C0.mp z) n1
 ·refine ⟨p,e,fun y=>(F.fl.ex _ _ z).mp y hp,?_⟩;rcases qCO z with ⟨rfl,v,e1,_,e2⟩ | ⟨v,e1,e2,_⟩ | ⟨v,rfl,v0,g,⟨e1,_⟩ | ⟨u,e1,_,hu⟩⟩
  ·rw [<- qK7 e1] at e2;exact .inl ⟨rfl,e2⟩
  ·omega
  ·omega
  ·rw [<- qK7 e1] at hu;exact .inr ⟨v,rfl,g,hu⟩
theorem Fl.out (F:Fl Af path W) {n y:Int} (f:qAU Af path n=true) (h1:y ∈ W0 Af path (2 * n+1)) (h2:y ∉ W (2 * n+1)):Flw W n/\∀ z ∈ W0 Af path (2 * n+1),z ∉ W (2 * n+1)->z=y:=by
 have b:=(free_in.mp f).1.1;have ln:=F.len (2 * n+1) (by omega) (by omega)
 have new:∀ z ∈ W (2 * n+1),z ∉ W0 Af path (2 * n+1)->z=2 * n:=by
  intro z hz no;rcases F.fl.on _ _ hz with u | u
  ·exact absurd u no
  ·rcases qCO u with ⟨rfl,v,e1,_⟩ | ⟨v,rfl,e2,_⟩ | ⟨v,rfl,_,_,⟨e1,_⟩ | ⟨u,e1,_⟩⟩ <;> omega
 have has:2 * n ∈ W (2 * n+1):=by
  refine P3 fun no=>?_;have sub:∀ z ∈ W (2 * n+1),z ∈ (W0 Af path (2 * n+1)).erase y:=fun z hz=>by
   refine (l9 (show z ≠ y from fun e=>h2 (e ▸ hz))).mpr ?_;refine P3 fun nz=>no ?_;have:=new z hz nz;subst this;exact hz
  have:=G0 (F.fl.nd (2 * n+1)) sub;rw [b9 h1] at this;have:=A68 h1;omega
 constructor
 ·have e0:2 * n+1 ∈ W0 Af path (2 * n):=by rw [w0_e b,if_pos f];exact C9
  exact fun z=>(F.fl.ex _ _ e0).mp z has
 ·intro z hz no;refine P3 fun ne=>?_;have sub:∀ v ∈ W (2 * n+1),v ∈ 2 * n::((W0 Af path (2 * n+1)).erase y).erase z:=fun v hv=>by
   by_cases c:v ∈ W0 Af path (2 * n+1)
   ·refine C7 _ ((l9 (show v ≠ z from fun e=>no (e ▸ hv))).mpr ((l9 (show v ≠ y from fun e=>h2 (e ▸ hv))).mpr c))
   ·rw [new v hv c];exact C9
  have l1:=G0 (F.fl.nd (2 * n+1)) sub;rw [E3,b9 ((l9 ne).mpr hz),b9 h1] at l1;have:2<=(W0 Af path (2 * n+1)).length:=by
   have:=G0 (l₁:=[y,z]) (l₂:=W0 Af path (2 * n+1)) (by simp;exact fun e=>ne e.symm) (by intro v hv;simp at hv;rcases hv with rfl | rfl <;> assumption)
   simpa using this
  omega
inductive Sd (W:Wy):Int->List Int->Prop
 | top {w:Int}:W (2 * w)=[-1]->Sd W w [w]
 | step {w n:Int} {s:List Int}:0<=n->W (2 * w)=[2 * n+1]->Sd W n s->Sd W w (s++[w])
theorem qMQ {w:Int} {s:List Int} (h:Sd W w s):s.getLast?=some w:=by
 cases h with
 | top _=>rfl
 | step _ _ _=>rw [A92];rfl
theorem Fl.side (F:Fl Af path W) (wf:WFn Af):∀ (k:Nat) (w:Int),w.toNat<k->qAU Af path w=true->Flw W w->∃ s,Sd W w s
 | 0,_,h,_,_=>absurd h (t8 _)
 | k+1,w,h,f,fl=>by
  obtain ⟨p,e1,e2,⟨rfl,_⟩ | ⟨n,rfl,g,hn⟩⟩:=F.pred f fl
  ·exact ⟨[w],.top e1⟩
  ·have b:=(free_in.mp f).1.1;have bn:=qE1 wf b hn;have gn:=(free_in.mp g).1.1;obtain ⟨fn,_⟩:=F.out g (y:=2 * w) ((w0_o gn).mpr ⟨g,.inr ⟨w,rfl,f,hn⟩⟩) e2;obtain ⟨s,hs⟩:=Fl.side F wf k n (by omega) g fn
   exact ⟨s++[w],.step gn e1 hs⟩
structure SdIs (Af:List (List Int)) (path:List Int) (W:Wy) (w:Int) (s:List Int):Prop where
 up:s.Pairwise (·<·)
 le:∀ x ∈ s,x<=w
 fr:∀ x ∈ s,qAU Af path x=true/\Flw W x
 hd:∃ t r,s=t::r/\nd Af t=[]
 nx:∀ x ∈ s,x=w\/∃ u ∈ s,x<u/\W (2 * u)=[2 * x+1]
 co:∀ i a b,s[i]?=some a->s[i+1]?=some b->a ∈ nd Af b
theorem Fl.sdIs (F:Fl Af path W) (wf:WFn Af) {w:Int} {s:List Int} (h:Sd W w s):qAU Af path w=true->Flw W w->SdIs Af path W w s:=by
 induction h with
 | @top w e=>
  intro f fl;obtain ⟨p,e1,_,⟨rfl,nn⟩ | ⟨n,rfl,g,_⟩⟩:=F.pred f fl
  ·exact ⟨by simp,by simp,by simp;exact ⟨f,fl⟩,⟨w,[],rfl,nn⟩,by simp,fun i a b h1 h2=>by simp at h2⟩
  ·rw [e] at e1;have:=(Z1 e1).1;have:=(free_in.mp g).1.1;exfalso;omega
 | @step w n s h0 e hs ih=>
  intro f fl;obtain ⟨p,e1,e2,⟨rfl,nn⟩ | ⟨n',rfl,g,hn⟩⟩:=F.pred f fl
  ·rw [e] at e1;have:=(Z1 e1).1
   exfalso;omega
  ·have en:n=n':=by rw [e] at e1;have:=(Z1 e1).1;omega
   subst en;have b:=(free_in.mp f).1.1;have bn:=qE1 wf b hn;have gn:=(free_in.mp g).1.1;obtain ⟨fn,_⟩:=F.out g (y:=2 * w) ((w0_o gn).mpr ⟨g,.inr ⟨w,rfl,f,hn⟩⟩) e2;have k:=ih g fn;have hl:=qMQ hs;have nin:n ∈ s:=A93 hl;refine ⟨?_,fun x hx=>?_,fun x hx=>?_,?_,fun x hx=>?_,fun i a c h1 h2=>?_⟩
   ·rw [P4];exact ⟨k.up,by simp,fun x hx y hy=>by rw [C0.mp hy];have:=k.le x hx;omega⟩
   ·rcases C8.mp hx with z | z
    ·have:=k.le x z;omega
    ·rw [C0.mp z];exact O3 _
   ·rcases C8.mp hx with z | z
    ·exact k.fr x z
    ·rw [C0.mp z];exact ⟨f,fl⟩
   ·obtain ⟨t,r,rfl,ht⟩:=k.hd;exact ⟨t,r++[w],rfl,ht⟩
   ·rcases C8.mp hx with z | z
    ·rcases k.nx x z with rfl | ⟨u,hu,h1,h2⟩
     ·exact .inr ⟨w,J6 _ C9,by omega,e⟩
     ·exact .inr ⟨u,T6 _ hu,h1,h2⟩
    ·exact .inl (C0.mp z)
   ·by_cases c1:i+1<s.length
    ·rw [F6 (by omega)] at h1
     rw [F6 c1] at h2;exact k.co i a c h1 h2
    ·have li:=(B0.mp h2).1;rw [A8,D5] at li;have ei:i+1=s.length:=by omega
     rw [E8 (by omega),ei,W4] at h2
     cases h2;rw [F6 (by omega)] at h1
     rw [List.getLast?_eq_getElem?,show s.length - 1=i by omega,h1] at hl
     cases hl;exact hn
theorem Fl.apart (F:Fl Af path W) (wf:WFn Af) {w w':Int} {s s':List Int} (k:SdIs Af path W w s) (k':SdIs Af path W w' s') (h:2 * w+1 ∈ W (-2)) (h':2 * w'+1 ∈ W (-2)):∀ (m:Nat) (x:Int),(w - x).toNat<m->x ∈ s->x ∈ s'->w=w'
 | 0,_,hm,_,_=>absurd hm (t8 _)
 | m+1,x,hm,hx,hx'=>by
  have fx:=(k.fr x hx).1;have bx:=(free_in.mp fx).1.1
  -- what is turned behind x
  have out:∀ {v:Int} {t:List Int},SdIs Af path W v t->2 * v+1 ∈ W (-2)->x ∈ t->(x=v/\(-2:Int) ∈ W0 Af path (2 * x+1)/\(-2:Int) ∉ W (2 * x+1))\/∃ u ∈ t,x<u/\2 * u ∈ W0 Af path (2 * x+1)/\2 * u ∉ W (2 * x+1):=by
   intro v t kt hv ht;rcases kt.nx x ht with rfl | ⟨u,hu,h1,h2⟩
   ·left
    rcases F.fl.on _ _ hv with z | z
    ·rcases qCO z with ⟨e,_⟩ | ⟨v,e,e2,_⟩ | ⟨v,e,_⟩ <;> omega
    ·exact ⟨rfl,z,fun y=>(F.fl.ex _ _ z).mp y hv⟩
   ·right
    have fu:=kt.fr u hu;obtain ⟨p,e1,e2,⟨rfl,nn⟩ | ⟨n,rfl,g,hn⟩⟩:=F.pred fu.1 fu.2
    ·rw [h2] at e1;have:=(Z1 e1).1;exfalso;omega
    ·have en:x=n:=by rw [h2] at e1;have:=(Z1 e1).1;omega
     subst en;exact ⟨u,hu,h1,(w0_o bx).mpr ⟨fx,.inr ⟨u,rfl,fu.1,hn⟩⟩,e2⟩
  rcases out k h hx with ⟨rfl,a1,a2⟩ | ⟨u,hu,lt,a1,a2⟩
  ·rcases out k' h' hx' with ⟨rfl,_⟩ | ⟨u',hu',_,b1,b2⟩
   ·rfl
   ·have:=(F.out fx a1 a2).2 _ b1 b2;have:=(free_in.mp (k'.fr u' hu').1).1.1;omega
  ·rcases out k' h' hx' with ⟨rfl,b1,b2⟩ | ⟨u',hu',_,b1,b2⟩
   ·have:=(F.out fx b1 b2).2 _ a1 a2;have:=(free_in.mp (k.fr u hu).1).1.1;omega
   ·have e:=(F.out fx a1 a2).2 _ b1 b2;have e:u'=u:=by omega
    subst e;have:=k.le u' hu;exact Fl.apart F wf k k' h h' m u' (by omega) hu hu'
theorem Fl.ends (F:Fl Af path W) {x:Int} (h:x ∈ W (-2)):∃ w,x=2 * w+1/\qAU Af path w=true/\qD2 Af path w=true/\Flw W w:=by
 rcases F.fl.on _ _ h with z | z
 ·rcases qCO z with ⟨e,_⟩ | ⟨v,e,e2,f⟩ | ⟨v,e,b,_⟩
  ·cases e
  ·have:=(free_in.mp f).1.1;omega
  ·omega
 ·rcases qCO z with ⟨e,v,e2,f,_⟩ | ⟨v,e,e2,f⟩ | ⟨w,rfl,b,f,⟨_,c⟩ | ⟨u,e2,f2,_⟩⟩
  ·have:=(free_in.mp f).1.1;omega
  ·have:=(free_in.mp f).1.1;omega
  ·exact ⟨w,rfl,f,c,(F.out f z fun y=>(F.fl.ex _ _ z).mp y h).1⟩
  ·have:=(free_in.mp f2).1.1;omega
end
abbrev Cm:=List (Int × Int)
def vis (cm:Cm) (x:Int):Bool:=decide (x = -1) || cm.any fun p=>decide (p.1=x)
def look (cm:Cm) (x:Int):Option Int:=(cm.find? fun p=>decide (p.1=x)).map (·.2)
def dfsF (stop:Int):List Int->Cm × List Int->Cm × List Int
 | [],s=>s
 | f::r,s=>dfsF stop r (if vis s.1 f then s else (s.1++[(f,stop)],s.2++[f]))
def dfsC (s:Cm × List Int):Bool:=!s.2.isEmpty && !vis s.1 (-2)
inductive Dfs (W:Wy):Cm × List Int->Cm × List Int->Prop
 | stop {s}:dfsC s=false->Dfs W s s
 | go {cm:Cm} {due:List Int} {x:Int} {t}:vis cm (-2)=false->Dfs W (dfsF x (W x) (cm,due)) t->Dfs W (cm,due++[x]) t
inductive Back (cm:Cm):Int->List Int->Prop
 | src:Back cm (-1) [-1]
 | step {x p:Int} {r:List Int}:x ≠ -1->look cm x=some p->Back cm p r->Back cm x (x::r)
def WB (W:Wy) (st:List Int):Prop:=∃ cm due,Dfs W ([],[-1]) (cm,due)/\((vis cm (-2)=false/\st=[])\/(vis cm (-2)=true/\Back cm (-2) st))
theorem Back.one {cm:Cm} {x:Int} {r r':List Int} (h:Back cm x r):Back cm x r'->r=r':=by
 induction h generalizing r' with
 | src=>
  intro k;cases k with
  | src=>rfl
  | step h _ _=>exact absurd rfl h
 | step h1 h2 _ ih=>
  intro k;cases k with
  | src=>exact absurd rfl h1
  | step _ k2 k3=>
   have:=L9 (h2.symm.trans k2);subst this;rw [ih k3]
structure Gd (W:Wy) (cm:Cm):Prop where
 nd:(cm.map (·.1)).Nodup
 at_:∀ (i:Nat) f p,cm[i]?=some (f,p)->f ∈ W p/\f ≠ -1/\(p = -1\/∃ j q,j<i/\cm[j]?=some (p,q))
theorem vis_iff {cm:Cm} {x:Int}:vis cm x=true ↔ x = -1\/∃ (i:Nat) (q:Int),cm[i]?=some (x,q):=by
 unfold vis;rw [B59,decide_eq_true_eq,Y6];refine or_congr_right ⟨?_,?_⟩
 ·rintro ⟨⟨y,q⟩,h1,h2⟩;have:=of_decide_eq_true h2;dsimp only at this;subst this;obtain ⟨i,hi⟩:=R1 h1;exact ⟨i,q,hi⟩
 ·rintro ⟨i,q,h⟩;exact ⟨(x,q),D8 h,decide_eq_true rfl⟩
theorem Gd.snoc {W:Wy} {cm:Cm} (G:Gd W cm) {f p:Int} (h1:f ∈ W p) (h2:vis cm f=false) (h3:vis cm p=true):Gd W (cm++[(f,p)]):=by
 have nv:¬ (f = -1\/∃ (i:Nat) (q:Int),cm[i]?=some (f,q)):=fun z=>by rw [vis_iff.mpr z] at h2;cases h2
 refine ⟨?_,fun i g q e=>?_⟩
 ·rw [D3,V3];refine ⟨G.nd,by simp,fun a ha b hb z=>?_⟩
  obtain ⟨⟨y,q⟩,hy,rfl⟩:=G1.mp ha;obtain ⟨i,hi⟩:=R1 hy;simp at hb;rw [hb] at z;dsimp only at z;subst z;exact nv (.inr ⟨i,q,hi⟩)
 ·by_cases c:i<cm.length
  ·rw [F6 c] at e;obtain ⟨a,b,d⟩:=G.at_ i g q e;refine ⟨a,b,d.imp id ?_⟩;rintro ⟨j,r,hj,ej⟩;exact ⟨j,r,hj,by rw [F6 (by omega)];exact ej⟩
  ·have li:=(B0.mp e).1;rw [A8,D5] at li;have ei:i=cm.length:=by omega
   subst ei;rw [E8 (C1 _),W4] at e;cases e;refine ⟨h1,fun z=>nv (.inl z),?_⟩;rcases vis_iff.mp h3 with z | ⟨j,r,ej⟩
   ·exact .inl z
   ·have hj:=(B0.mp ej).1;exact .inr ⟨j,r,hj,by rw [F6 hj];exact ej⟩
theorem qRF {cm:Cm} (n:(cm.map (·.1)).Nodup) {i:Nat} {f p:Int} (h:cm[i]?=some (f,p)):look cm f=some p:=by
 unfold look
 induction cm generalizing i with
 | nil=>cases h
 | cons q cm ih=>
  obtain ⟨n1,n2⟩:=O0.mp n;cases i with
  | zero=>
   cases h;simp [Z9]
  | succ i=>
   have hm:=D8 (l:=cm) (i:=i) h;rw [i4 fun z=>?_]
   ·exact ih n2 h
   ·have:=of_decide_eq_true z;exact n1 (G1.mpr ⟨(f,p),hm,this.symm⟩)
theorem Gd.back {W:Wy} {cm:Cm} (G:Gd W cm):∀ (i:Nat) (f p:Int),cm[i]?=some (f,p)->∃ r,Back cm f r/\Pth W r/\r.Nodup/\r.head?=some f/\r.getLast?=some (-1)/\∀ x ∈ r,x = -1\/∃ j q,j<=i/\cm[j]?=some (x,q)
 | i,f,p,h=>by
  obtain ⟨h1,h2,h3⟩:=G.at_ i f p h;have hl:=qRF G.nd h;rcases h3 with rfl | ⟨j,q,hj,ej⟩
  ·refine ⟨[f,-1],.step h2 hl .src,⟨h1,trivial⟩,by simp;exact h2,rfl,rfl,fun x hx=>?_⟩
   simp at hx;rcases hx with rfl | rfl
   ·exact .inr ⟨i,-1,C1 _,h⟩
   ·exact .inl rfl
  ·obtain ⟨r,b1,b2,b3,b4,b5,b6⟩:=Gd.back G j p q ej;obtain ⟨r',rfl⟩:∃ r',r=p::r':=by
    cases r with
    | nil=>cases b4
    | cons y r'=>cases b4;exact ⟨r',rfl⟩
   refine ⟨f::p::r',.step h2 hl b1,⟨h1,b2⟩,O0.mpr ⟨fun z=>?_,b3⟩,rfl,by rw [A53];exact b5,fun x hx=>?_⟩
   ·rcases b6 f z with e | ⟨k,s,hk,ek⟩
    ·exact h2 e
    ·have n:=G.nd;have e1:(cm.map (·.1))[i]?=some f:=by rw [D7,h];rfl
     have e2:(cm.map (·.1))[k]?=some f:=by rw [D7,ek];rfl
     have:=(A42 (B0.mp e1).1 n).mp (e1.trans e2.symm);omega
   ·rcases D9.mp hx with rfl | hx
    ·exact .inr ⟨i,p,C1 _,h⟩
    ·exact (b6 x hx).imp id fun ⟨k,s,hk,ek⟩=>⟨k,s,by omega,ek⟩
 termination_by i=>i
def StOk (W:Wy) (st:List Int):Prop:=st=[]\/(Pth W st/\st.Nodup/\st.head?=some (-2)/\st.getLast?=some (-1))
theorem qYN {W:Wy}:Gd W []:=⟨by simp,fun i f p e=>by cases e⟩
structure Sk (W:Wy) (s:Cm × List Int):Prop where
 gd:Gd W s.1
 due:∀ x ∈ s.2,vis s.1 x=true
theorem qQH {cm:Cm} {x:Int} {q:Int × Int} (h:vis cm x=true):vis (cm++[q]) x=true:=by
 rcases vis_iff.mp h with z | ⟨i,r,e⟩
 ·exact vis_iff.mpr (.inl z)
 ·exact vis_iff.mpr (.inr ⟨i,r,by rw [F6 (B0.mp e).1];exact e⟩)
theorem qVN {cm:Cm} {x q:Int}:vis (cm++[(x,q)]) x=true:=vis_iff.mpr (.inr ⟨cm.length,q,by rw [E8 (C1 _),W4];rfl⟩)
def dfsO (stop f:Int) (s:Cm × List Int):Cm × List Int:=if vis s.1 f then s else (s.1++[(f,stop)],s.2++[f])
theorem qM5 {stop f:Int}:∀ (r:List Int) (s:Cm × List Int),dfsF stop (r++[f]) s=dfsO stop f (dfsF stop r s)
 | [],s=>rfl
 | g::r,s=>by
  show dfsF stop (r++[f]) _=dfsO stop f (dfsF stop r _);exact qM5 r _
theorem Sk.one {W:Wy} {s:Cm × List Int} (h:Sk W s) {stop f:Int} (h1:f ∈ W stop) (h2:vis s.1 stop=true):Sk W (dfsO stop f s)/\vis (dfsO stop f s).1 stop=true:=by
 unfold dfsO;cases e:vis s.1 f with
 | true=>rw [if_pos rfl];exact ⟨h,h2⟩
 | false=>
  rw [if_neg (by simp)]
  refine ⟨⟨h.gd.snoc h1 e h2,fun x hx=>?_⟩,qQH h2⟩;rcases C8.mp hx with z | z
  ·exact qQH (h.due x z)
  ·rw [C0.mp z];exact qVN
def inK (Af:List (List Int)) (path:List Int) (i:Nat) (k:Int):Prop:=k = -1\/k = -2\/∃ w,qAU Af path w=true/\w<(i:Int)/\(k=2 * w\/k=2 * w+1)
theorem qNR {Af:List (List Int)} {path:List Int} {x y:Int} (h:y ∈ W0 Af path x):inK Af path Af.length x/\inK Af path Af.length y:=by
 rcases qCO h with ⟨rfl,w,rfl,f,_⟩ | ⟨w,rfl,rfl,f⟩ | ⟨w,rfl,w0,f,⟨rfl,_⟩ | ⟨u,rfl,g,_⟩⟩
 ·exact ⟨.inl rfl,.inr (.inr ⟨w,f,(free_in.mp f).1.2,.inl rfl⟩)⟩
 ·exact ⟨.inr (.inr ⟨w,f,(free_in.mp f).1.2,.inl rfl⟩),.inr (.inr ⟨w,f,(free_in.mp f).1.2,.inr rfl⟩)⟩
 ·exact ⟨.inr (.inr ⟨w,f,(free_in.mp f).1.2,.inr rfl⟩),.inr (.inl rfl)⟩
 ·exact ⟨.inr (.inr ⟨w,f,(free_in.mp f).1.2,.inr rfl⟩),.inr (.inr ⟨u,g,(free_in.mp g).1.2,.inl rfl⟩)⟩
theorem Fl0.dom {Af:List (List Int)} {path:List Int} {W:Wy} (F:Fl0 (W0 Af path) W) {x y:Int} (h:y ∈ W x):inK Af path Af.length y:=by
 rcases F.on x y h with z | z
 ·exact (qNR z).2
 ·exact (qNR z).1
theorem qYJ {Af:List (List Int)} {path:List Int} {i:Nat} {k:Int} (h:inK Af path i k):k ∈ qBG (-2) (2 * (Af.length:Int)):=by
 rw [mem_rangeI];rcases h with rfl | rfl | ⟨w,f,_,rfl | rfl⟩
 ·omega
 ·omega
 ·have:=(free_in.mp f).1;omega
 ·have:=(free_in.mp f).1;omega
theorem qFW {Af:List (List Int)} {path:List Int} {l:List Int} (n:l.Nodup) (h:∀ x ∈ l,inK Af path Af.length x):l.length<=2 * Af.length+2:=by
 have:=G0 n fun x hx=>qYJ (h x hx);rw [qGI] at this;omega
structure WaysAt (H0 H:Hp) (d:Addr) (m:Nat) (P:Int->Prop) (W:Wy) (ad:Int->Addr):Prop where
 dict:∃ Ag,H d=some (.dK Ag)/\Ag.length<=m/\∀ k,P k->valV Ag (G7 k)=some (.ref (ad k))
 lst:∀ k,P k->H (ad k)=some (.lst ((W k).map V.int))
 inj:∀ k k',P k->P k'->ad k=ad k'->k=k'
 fr:∀ k,P k->H0 (ad k)=none
 frd:H0 d=none
 old:Same H0 H
section
variable {H0 H H':Hp} {d:Addr} {m:Nat} {P:Int->Prop} {W:Wy} {ad:Int->Addr}
theorem WaysAt.same (h:WaysAt H0 H d m P W ad) (s:Same H H'):WaysAt H0 H' d m P W ad:=by
 obtain ⟨Ag,a,b,c⟩:=h.dict;exact ⟨⟨Ag,s _ _ a,b,c⟩,fun k hk=>s _ _ (h.lst k hk),h.inj,h.fr,h.frd,h.old.trans s⟩
theorem WaysAt.nd (h:WaysAt H0 H d m P W ad) {k:Int} (hk:P k):ad k ≠ d:=by
 obtain ⟨Ag,a,_⟩:=h.dict;exact qDN (h.lst k hk) a (by intro z;cases z)
theorem WaysAt.put (h:WaysAt H0 H d m P W ad) {k:Int} (hk:P k) (zs:List Int):WaysAt H0 (Ah H (ad k) (.lst (zs.map V.int))) d m P (fun x=>if x=k then zs else W x) ad:=by
 obtain ⟨Ag,a,b,c⟩:=h.dict;refine ⟨⟨Ag,by rw [qA8 (h.nd hk).symm];exact a,b,c⟩,fun x hx=>?_,h.inj,h.fr,h.frd,qAF h.old (h.fr k hk)⟩
 by_cases e:x=k
 ·subst e;rw [qA1,if_pos rfl]
 ·rw [qA8 fun z=>e (h.inj _ _ hx hk z),if_neg e];exact h.lst x hx
theorem WaysAt.congr {W':Wy} (h:WaysAt H0 H d m P W ad) (e:∀ x,P x->W' x=W x):WaysAt H0 H d m P W' ad:=⟨h.dict,fun k hk=>by rw [e k hk];exact h.lst k hk,h.inj,h.fr,h.frd,h.old⟩
end
theorem WaysAt.add {H0 H:Hp} {d:Addr} {m:Nat} {P:Int->Prop} {W:Wy} {ad:Int->Addr} (h:WaysAt H0 H d m P W ad) {k:Int} (hk:¬ P k) {e:Addr} {zs:List Int} {Ag:List (Key × V)} (fe:H0 e=none) (ge:H e=some (.lst (zs.map V.int))) (na:∀ x,P x->ad x ≠ e) (hd:H d=some (.dK Ag)) (hl:Ag.length<=m) (hv:∀ x,P x->valV Ag (G7 x)=some (.ref (ad x))):WaysAt H0 (Ah H d (.dK (putK Ag (G7 k) (.ref e)))) d (m+1) (fun x=>P x\/x=k) (fun x=>if x=k then zs else W x) (fun x=>if x=k then e else ad x):=by
 have ned:e ≠ d:=qDN ge hd (by intro z;cases z)
 refine ⟨⟨_,qA1,M6 (qBW _ _ _) (by omega),fun x hx=>?_⟩,fun x hx=>?_,fun x y hx hy z=>?_,fun x hx=>?_,h.frd,qAF h.old h.frd⟩
 ·rw [qHO];by_cases c:x=k
  ·rw [if_pos (by rw [c]),if_pos c]
  ·rw [if_neg fun u=>c (v8 u),if_neg c];exact hv x (hx.resolve_right c)
 ·by_cases c:x=k
  ·rw [if_pos c,if_pos c,qA8 ned];exact ge
  ·rw [if_neg c,if_neg c,qA8 (h.nd (hx.resolve_right c))];exact h.lst x (hx.resolve_right c)
 ·by_cases c:x=k
  ·by_cases c':y=k
   ·rw [c,c']
   ·rw [if_pos c,if_neg c'] at z;exact absurd z.symm (na y (hy.resolve_right c'))
  ·by_cases c':y=k
   ·rw [if_neg c,if_pos c'] at z;exact absurd z (na x (hx.resolve_right c))
   ·rw [if_neg c,if_neg c'] at z;exact h.inj x y (hx.resolve_right c) (hy.resolve_right c') z
 ·by_cases c:x=k
  ·rw [if_pos c];exact fe
  ·rw [if_neg c];exact h.fr x (hx.resolve_right c)
theorem WaysAt.dom {H0 H:Hp} {d:Addr} {m m':Nat} {P P':Int->Prop} {W:Wy} {ad:Int->Addr} (h:WaysAt H0 H d m P W ad) (hm:m<=m') (hp:∀ x,P' x->P x):WaysAt H0 H d m' P' W ad:=by
 obtain ⟨Ag,a,b,c⟩:=h.dict;exact ⟨⟨Ag,a,by omega,fun k hk=>c k (hp k hk)⟩,fun k hk=>h.lst k (hp k hk),fun k k' a b=>h.inj k k' (hp k a) (hp k' b),fun k hk=>h.fr k (hp k hk),h.frd,h.old⟩
section
variable {Af:List (List Int)} {path:List Int} {i:Nat}
theorem qJY (i:Nat):qBG 0 ((i+1:Nat):Int)=qBG 0 (i:Int)++[(i:Int)]:=by
 refine qXA (qFS _ _) ?_ fun x=>?_
 ·rw [P4];exact ⟨qFS _ _,by simp,fun a ha b hb=>by rw [C0.mp hb];exact (mem_rangeI.mp ha).2⟩
 ·rw [C8,mem_rangeI,mem_rangeI,C0];omega
theorem qYO (h:qAU Af path (i:Int)=false) (x:Int):fwW Af path (i+1) x=fwW Af path i x:=by
 have fl:∀ p:Int->Bool,((qBG 0 ((i+1:Nat):Int)).filter fun w=>qAU Af path w && p w)=(qBG 0 (i:Int)).filter fun w=>qAU Af path w && p w:=fun p=>by
  rw [qJY,t9,Y7,h];simp
 unfold fwW;have lt:(qAU Af path (x / 2) && decide (x / 2<((i+1:Nat):Int)))=(qAU Af path (x / 2) && decide (x / 2<(i:Int))):=by
  by_cases c:x / 2=(i:Int)
  ·rw [c,h];rfl
  ·congr 1;exact decide_eq_decide.mpr (by omega)
 rw [lt,fl,fl]
theorem fw_s (h:qAU Af path (i:Int)=true):fwW Af path (i+1) (-1)=fwW Af path i (-1)++if (nd Af (i:Int)).isEmpty then [2 * (i:Int)] else []:=by
 unfold fwW;rw [if_pos rfl,if_pos rfl,qJY,t9,D3,Y7,h];cases (nd Af (i:Int)).isEmpty <;> rfl
theorem fw_g (k:Nat):fwW Af path k (-2)=[]:=by
 unfold fwW;rw [if_neg (by decide),if_pos (by decide)]
 have:qAU Af path (-2 / 2)=false:=by unfold qAU;rfl
 rw [this]
 rfl
theorem qNC (k:Nat) {n:Int} (h0:0<=n):fwW Af path k (2 * n)=if qAU Af path n && decide (n<(k:Int)) then [2 * n+1] else []:=by
 show (if 2 * n = -1 then _ else if 2 * n % 2=0 then _ else _)=_
 rw [if_neg (show ¬ 2 * n = -1 by omega),if_pos (show 2 * n % 2=0 by omega),show 2 * n / 2=n by omega]
theorem qS1 (k:Nat) {n:Int} (h0:0<=n):fwW Af path k (2 * n+1)=if qAU Af path n && decide (n<(k:Int)) then (if qD2 Af path n then [-2] else [])++((qBG 0 k).filter fun u=>qAU Af path u && decide (n ∈ nd Af u)).map (2 * ·) else []:=by
 show (if 2 * n+1 = -1 then _ else if (2 * n+1) % 2=0 then _ else _)=_
 rw [if_neg (show ¬ 2 * n+1 = -1 by omega),if_neg (show ¬ (2 * n+1) % 2=0 by omega),show (2 * n+1) / 2=n by omega]
theorem qZV (h:qAU Af path (i:Int)=true):fwW Af path (i+1) (2 * (i:Int))=[2 * (i:Int)+1]:=by
 rw [qNC _ (by omega),h,decide_eq_true (by omega)]
 rfl
theorem qZU (wf:WFn Af) (h:qAU Af path (i:Int)=true):fwW Af path (i+1) (2 * (i:Int)+1)=if qD2 Af path (i:Int) then [-2] else []:=by
 have:((qBG 0 ((i+1:Nat):Int)).filter fun u=>qAU Af path u && decide ((i:Int) ∈ nd Af u))=[]:=List.filter_eq_nil_iff.mpr fun u hu z=>by
  rw [E7,decide_eq_true_eq] at z;have b:=mem_rangeI.mp hu;have:=qE1 wf b.1 z.2;omega
 rw [qS1 _ (by omega),h,decide_eq_true (by omega),if_pos (by rfl),this,o5,N9]
theorem fw_e {n:Int} (h0:0<=n) (h1:n<(i:Int)):fwW Af path (i+1) (2 * n)=fwW Af path i (2 * n):=by
 rw [qNC _ h0,qNC _ h0,decide_eq_true (show n<((i+1:Nat):Int) by omega),decide_eq_true h1]
theorem fw_o (h:qAU Af path (i:Int)=true) {n:Int} (h0:qAU Af path n=true) (h1:n<(i:Int)):fwW Af path (i+1) (2 * n+1)=fwW Af path i (2 * n+1)++if n ∈ nd Af (i:Int) then [2 * (i:Int)] else []:=by
 have b:=(free_in.mp h0).1.1;rw [qS1 _ b,qS1 _ b,decide_eq_true (show n<((i+1:Nat):Int) by omega),decide_eq_true h1,h0]
 generalize (if qD2 Af path n then [(-2:Int)] else [])=E
 rw [if_pos (show (true && true)=true from rfl),if_pos (show (true && true)=true from rfl),qJY,t9,D3,P0,Y7,h];by_cases c:n ∈ nd Af (i:Int)
 ·rw [decide_eq_true c,if_pos c];rfl
 ·rw [decide_eq_false c,if_neg c];rfl
theorem qS2 (k:Nat) (x:Int):(fwW Af path k x).length<=k+1:=by
 have fl:∀ p:Int->Bool,(((qBG 0 (k:Int)).filter p).map (2 * ·)).length<=k:=fun p=>by
  rw [A0];have:=z8 p (qBG 0 (k:Int));rw [qGI] at this;omega
 unfold fwW
 split
 ·have:=fl fun w=>qAU Af path w && (nd Af w).isEmpty;omega
 ·split
  ·split <;> simp
  ·split
   ·rw [A8];have:=fl fun u=>qAU Af path u && decide (x / 2 ∈ nd Af u)
    split <;> simp <;> simp at this <;> omega
   ·simp
theorem qVA (wf:WFn Af) (h:qAU Af path (i:Int)=true) {zs:List Int} (en:nd Af (i:Int)=zs) {W3:Wy} (e1:W3 (-1)=fwW Af path i (-1)++if zs.isEmpty then [2 * (i:Int)] else []) (e2:W3 (2 * (i:Int))=[2 * (i:Int)+1]) (e3:W3 (2 * (i:Int)+1)=if qD2 Af path (i:Int) then [-2] else []) (e4:∀ x,x ≠ -1->x ≠ 2 * (i:Int)->x ≠ 2 * (i:Int)+1->W3 x=fwW Af path i x) {k:Int} (hk:inK Af path (i+1) k):W3 k++(if (0<=k/\k % 2=1/\k / 2 ∈ zs) then [2 * (i:Int)] else [])=fwW Af path (i+1) k:=by
 rcases hk with rfl | rfl | ⟨v,f,hv,rfl | rfl⟩
 ·rw [if_neg (by omega),N9,e1,fw_s h,en]
 ·rw [if_neg (by omega),N9,e4 _ (by omega) (by omega) (by omega),fw_g,fw_g]
 ·have b:=(free_in.mp f).1.1;rw [if_neg (by omega),N9]
  by_cases e:v=(i:Int)
  ·rw [e,e2,qZV h]
  ·rw [e4 _ (by omega) (by omega) (by omega),fw_e b (by omega)]
 ·have b:=(free_in.mp f).1.1;by_cases e:v=(i:Int)
  ·have no:¬ (0<=2 * (i:Int)+1/\(2 * (i:Int)+1) % 2=1/\(2 * (i:Int)+1) / 2 ∈ zs):=by
    rintro ⟨_,_,z⟩;rw [show (2 * (i:Int)+1) / 2=(i:Int) by omega,<- en] at z
    have:=qE1 wf (by omega) z
    omega
   rw [e,e3,qZU wf h,if_neg no,N9]
  ·rw [e4 _ (by omega) (by omega) (by omega),fw_o h f (by omega),en]
   congr 1;rw [show (2 * v+1) / 2=v by omega]
   by_cases c:v ∈ zs
   ·rw [if_pos ⟨by omega,by omega,c⟩,if_pos c]
   ·rw [if_neg fun z=>c z.2.2,if_neg c]
end
def qC4 (H:Hp) (a t:Addr) (Af:List (List Int)) (path:List Int):Prop:=NetAt H a Af/\WFn Af/\Af.length<=400/\H t=some (.tup (path.map V.int))/\path ≠ []/\path.length<=400/\∀ x ∈ path,0<=x/\x<(Af.length:Int)
def qGG:Sp:=fun vs H Q _=>∃ (a t:Addr) (Af:List (List Int)) (path:List Int),vs=[.ref a,.ref t]/\qC4 H a t Af path/\
 ∀ d Ag H',Same H H'->H d=none->H' d=some (.dK Ag)->(∀ z:Int,(valV Ag (G7 z)).isSome=true ↔ qD2 Af path z=true)->Q (.ref d) H'
def qJ8:Sp:=fun vs H Q _=>∃ (a t:Addr) (Af:List (List Int)) (path:List Int),vs=[.ref a,.ref t]/\qC4 H a t Af path/\
 ∀ d ad H',WaysAt H H' d 2002 (inK Af path Af.length) (W0 Af path) ad->Q (.ref d) H'
def qKT:Sp:=fun vs H Q _=>∃ (d:Addr) (H0:Hp) (Af:List (List Int)) (path:List Int) (W:Wy) (ad:Int->Addr),vs=[.ref d]/\Af.length<=400/\WaysAt H0 H d 2002 (inK Af path Af.length) W ad/\Fl0 (W0 Af path) W/\
 ∀ l st H',Same H H'->H l=none->H' l=some (.lst (st.map V.int))->WB W st->StOk W st->Q (.ref l) H'
def qUP:Sp:=fun vs H Q _=>∃ (d l:Addr) (H0:Hp) (Af:List (List Int)) (path:List Int) (W:Wy) (ad:Int->Addr) (st:List Int),vs=[.ref d,.ref l]/\Af.length<=400/\WaysAt H0 H d 2002 (inK Af path Af.length) W ad/\Fl0 (W0 Af path) W/\H l=some (.lst (st.map V.int))/\(∀ k,inK Af path Af.length k->ad k ≠ l)/\Pth W st/\st.Nodup/\st.head?=some (-2)/\
 ∀ H',WaysAt H0 H' d 2002 (inK Af path Af.length) (qC5 st W) ad->Q .non H'
def qNX:Sp:=fun vs H Q _=>∃ (d:Addr) (H0:Hp) (Af:List (List Int)) (path:List Int) (W:Wy) (ad:Int->Addr) (w:Int) (s:List Int),vs=[.ref d,.int w]/\Af.length<=400/\WaysAt H0 H d 2002 (inK Af path Af.length) W ad/\Fl Af path W/\WFn Af/\qAU Af path w=true/\Flw W w/\Sd W w s/\
 ∀ T H',Same H H'->H' T=some (.tup (s.map V.int))->Q (.ref T) H'
inductive SW:Wy->Wy->Prop
 | stop {W:Wy}:WB W []->SW W W
 | go {W W':Wy} {st:List Int}:WB W st->st ≠ []->SW (qC5 st W) W'->SW W W'
def SidesOf (Af:List (List Int)) (path:List Int) (ts:List (List Int)):Prop:=∃ (W:Wy) (ss:List (List Int)),SW (W0 Af path) W/\Fl Af path W/\Paired (fun x s=>Sd W (x / 2) s) (W (-2)) ss/\ts.Perm ss/\ts.Pairwise fun a b=>HT.lexLt b a=false
def qQP:Sp:=fun vs H Q _=>∃ (a t:Addr) (Af:List (List Int)) (path:List Int),vs=[.ref a,.ref t]/\qC4 H a t Af path/\Af.length<=60/\
 ∀ l rs ts H',Same H H'->H l=none->H' l=some (.lst (rs.map V.ref))->L2.G.TupsAt H' rs ts->SidesOf Af path ts->Q (.ref l) H'
def cmK (cm:Cm):List (Key × V):=(G7 (-1),.non)::cm.map fun p=>(G7 p.1,.int p.2)
theorem qSI (cm:Cm) (x:Int):valV (cmK cm) (G7 x)=if x = -1 then some .non else (look cm x).map V.int:=by
 unfold valV cmK look;by_cases c:x = -1
 ·rw [if_pos c,c];rfl
 ·rw [if_neg c,i4 (by simp;exact fun z=>c z.symm)]
  induction cm with
  | nil=>rfl
  | cons q cm ih=>
   rw [G6];by_cases e:q.1=x
   ·rw [A69 (by simp [e]),A69 (by simp [e])];rfl
   ·rw [i4 (by simp [e]),i4 (by simp [e])];exact ih
theorem qNH (cm:Cm) (x:Int):(valV (cmK cm) (G7 x)).isSome=vis cm x:=by
 rw [qSI];unfold vis look;by_cases c:x = -1
 ·rw [if_pos c,decide_eq_true c];rfl
 ·rw [if_neg c,decide_eq_false c,B81,a9,a9,V6,List.find?_isSome,Y6]
theorem qWY {cm:Cm} {f p:Int} (h:vis cm f=false):putK (cmK cm) (G7 f) (.int p)=cmK (cm++[(f,p)]):=by
 unfold putK;rw [if_neg]
 ·unfold cmK;simp
 ·intro z;obtain ⟨kv,h1,h2⟩:=Y6.mp z;have e:=of_decide_eq_true h2;have:vis cm f=true:=by
   unfold cmK at h1;rcases D9.mp h1 with rfl | h1
   ·exact vis_iff.mpr (.inl (v8 e).symm)
   ·obtain ⟨q,hq,rfl⟩:=G1.mp h1;obtain ⟨i,hi⟩:=R1 hq;have:=v8 e;exact vis_iff.mpr (.inr ⟨i,q.2,by rw [hi,<- this]⟩)
  rw [h] at this;cases this
structure SkI (Af:List (List Int)) (path:List Int) (W:Wy) (s:Cm × List Int):Prop where
 sk:Sk W s
 go:∀ t,Dfs W s t->Dfs W ([],[-1]) t
 dom:∀ q ∈ s.1,inK Af path Af.length q.1
theorem SkI.few {Af:List (List Int)} {path:List Int} {W:Wy} {s:Cm × List Int} (h:SkI Af path W s):s.1.length<=2 * Af.length+2:=by
 have:=qFW (Af:=Af) (path:=path) h.sk.gd.nd fun x hx=>by
  obtain ⟨q,hq,rfl⟩:=G1.mp hx;exact h.dom q hq
 rw [A0] at this;exact this
theorem SkI.inK {Af:List (List Int)} {path:List Int} {W:Wy} {s:Cm × List Int} (h:SkI Af path W s) {x:Int} (hx:vis s.1 x=true):Fw.inK Af path Af.length x:=by
 rcases vis_iff.mp hx with rfl | ⟨i,q,e⟩
 ·exact .inl rfl
 ·exact h.dom (x,q) (D8 e)
structure SkF (Af:List (List Int)) (path:List Int) (W:Wy) (stop:Int) (s:Cm × List Int):Prop where
 sk:Sk W s
 dom:∀ q ∈ s.1,Fw.inK Af path Af.length q.1
 at_:vis s.1 stop=true
theorem SkF.one {Af:List (List Int)} {path:List Int} {W:Wy} {stop f:Int} {s:Cm × List Int} (F:Fl0 (W0 Af path) W) (h:SkF Af path W stop s) (hf:f ∈ W stop):SkF Af path W stop (dfsO stop f s)/\(dfsO stop f s).2.length+s.1.length=s.2.length+(dfsO stop f s).1.length:=by
 obtain ⟨a,b⟩:=h.sk.one hf h.at_;refine ⟨⟨a,fun q hq=>?_,b⟩,?_⟩
 ·unfold dfsO at hq
  split at hq
  ·exact h.dom q hq
  ·rcases C8.mp hq with z | z
   ·exact h.dom q z
   ·rw [C0.mp z];exact F.dom hf
 ·unfold dfsO
  split
  ·omega
  ·rw [A8,A8];show _+1+_=_+(_+1);omega
theorem qKR {a b:Int}:∀ (r:List Int) (W:Wy),qC5 (r++[a]++[b]) W=upW (qC5 (r++[a]) W) b a
 | [],W=>rfl
 | [f],W=>rfl
 | f::s::r,W=>by
  show qC5 ((s::r)++[a]++[b]) (upW W s f)=upW (qC5 ((s::r)++[a]) (upW W s f)) b a;exact qKR (s::r) (upW W s f)
theorem qQJ {st:List Int} {W:Wy} {j:Nat} {f s:Int} (h1:st[j]?=some f) (h2:st[j+1]?=some s):qC5 (st.take (j+1+1)) W=upW (qC5 (st.take (j+1)) W) s f:=by
 have e1:st.take (j+1)=st.take j++[f]:=by rw [E6,h1];rfl
 have e2:st.take (j+1+1)=st.take j++[f]++[s]:=by rw [E6,h2,e1];rfl
 rw [e2,e1];exact qKR _ W
theorem qNU {x:Int}:∀ (st:List Int) (W:Wy),x ∉ st->qC5 st W x=W x
 | [],_,_=>rfl
 | [_],_,_=>rfl
 | f::s::r,W,h=>by
  show qC5 (s::r) (upW W s f) x=W x;rw [qNU (s::r) _ fun z=>h (C7 _ z)];exact qKQ (fun z=>h (by rw [z];simp)) fun z=>h (by rw [z];simp)
theorem qUV {W:Wy}:∀ {st:List Int} {j:Nat} {f s:Int},Pth W st->st[j]?=some f->st[j+1]?=some s->f ∈ W s
 | f'::s'::r,0,f,s,h,h1,h2=>by cases h1;cases h2;exact h.1
 | f'::s'::r,j+1,f,s,h,h1,h2=>qUV (j:=j) h.2 h1 h2
 | [_],0,f,s,h,h1,h2=>by cases h2
 | [_],j+1,f,s,h,h1,h2=>by cases h1
 | [],_,_,_,_,h1,_=>by cases h1
theorem qO9 {W:Wy}:∀ (st:List Int) (k:Nat),Pth W st->Pth W (st.take k)
 | [],_,_=>by simp [Pth]
 | [_],k,_=>by cases k <;> simp [Pth]
 | f::s::r,0,_=>trivial
 | f::s::r,1,_=>trivial
 | f::s::r,k+2,h=>⟨h.1,qO9 (s::r) (k+1) h.2⟩
theorem qOR:∀ {zs:List Int} {y:Int},y ∈ zs->∃ j:Nat,zs[j]?=some y/\(∀ i,i<j->zs[i]? ≠ some y)/\zs.eraseIdx j=zs.erase y
 | z::zs,y,h=>by
  by_cases e:z=y
  ·exact ⟨0,by rw [e];rfl,fun i hi=>absurd hi (t8 _),by rw [e];simp⟩
  ·obtain ⟨j,h1,h2,h3⟩:=qOR ((D9.mp h).resolve_left fun z=>e z.symm);refine ⟨j+1,h1,fun i hi=>?_,?_⟩
   ·cases i with
    | zero=>exact fun z=>e (L9 z)
    | succ i=>exact h2 i (by omega)
   ·rw [A47,h3,List.erase_cons_tail (by simpa using e)]
theorem end_iff {Af:List (List Int)} {path:List Int} {z:Int}:qD2 Af path z=true ↔ z ∉ path/\∃ w ∈ path.drop 1,z ∈ nd Af w:=by
 unfold qD2;rw [E7,decide_eq_true_eq,Y6];exact and_congr_right fun _=>⟨fun ⟨w,h1,h2⟩=>⟨w,h1,of_decide_eq_true h2⟩,fun ⟨w,h1,h2⟩=>⟨w,h1,decide_eq_true h2⟩⟩
theorem nmC {e:TE} {es:TA} {σ:St} {H:Hp} {Q:List V->Hp->Prop} (h:∀ Q':VK,(∀ v H1,es σ H1 (fun vs H2=>Q (v::vs) H2)->Q' v H1)->e σ H Q'):qXF e es σ H Q:=h _ fun _ _ z=>z
theorem nmL {t:TA} {σ:St} {H:Hp} {Q:VK} (h:∀ Q':List V->Hp->Prop,(∀ xs H1,(xs.length<=sizeLine/\∀ p,H1 p=none->Q (.ref p) (Ah H1 p (.lst xs)))->Q' xs H1)->t σ H Q'):tLst t σ H Q:=h _ fun _ _ z=>z
theorem nmA {t:TE} {g:TG} {D:Ends} {σ:St} {H:Hp} (h:∀ Q':VK,(∀ x H1,g x σ H1 D.nx->Q' x H1)->t σ H Q'):tAsg t g D σ H:=h _ fun _ _ z=>z
def qN8:PyData->Int | .int i=>i | _=>0
def qBC:PyData->List Int | .tuple ds=>ds.map qN8 | _=>[]
def qEN (Af:List (List Int)):List Int->Bool
 | a::b::r=>decide (a ∈ nd Af b) && qEN Af (b::r)
 | _=>true
def qF7 (Af:List (List Int)) (zs:List Int):Bool:=qEN Af zs && (nd Af (zs.headD 0)).isEmpty
def qLD (Af:List (List Int)):PyData->Bool
 | .tuple ds=>!ds.isEmpty && ds.all (qCH (Af.length:Int)) && qF7 Af (ds.map qN8)
 | _=>false
def qD1 (Af:List (List Int)) (path:List Int) (d:PyData):Bool:=qLD Af d && qD2 Af path ((qBC d).getLastD 0) && (qBC d).all fun x=>decide (x ∉ path)
def qDJ (Af:List (List Int)) (path:List Int):PyData->Bool
 | .list ds=>ds.all (qD1 Af path) && decide ((ds.flatMap qBC).Nodup)
 | _=>false
theorem qDO {zs:List Int}:(zs.map Y8).map qN8=zs:=by rw [j7];exact (O4 fun x _=>rfl).trans (B66 _)
theorem qGS {ds:List PyData} {e:Int} (h:ds.all (qCH e)=true):∃ zs:List Int,ds=zs.map Y8/\∀ z ∈ zs,0<=z/\z<e:=by
 obtain ⟨zs,rfl⟩:=qRR (ds:=ds) (L0.mpr fun d hd=>by
  have:=L0.mp h d hd;cases d <;> first | rfl | cases this)
 refine ⟨zs,rfl,fun z hz=>?_⟩;have:=L0.mp h (.int z) (A18 hz);have this:(decide (0<=z) && decide (z<e))=true:=this;rw [E7,decide_eq_true_eq,decide_eq_true_eq] at this;exact this
theorem chain_iff {Af:List (List Int)}:∀ {zs:List Int},qEN Af zs=true ↔ ∀ (i:Nat) a b,zs[i]?=some a->zs[i+1]?=some b->a ∈ nd Af b
 | []=>by simp [qEN]
 | [_]=>by simp [qEN]
 | a::b::r=>by
  show (decide (a ∈ nd Af b) && qEN Af (b::r))=true ↔ _;rw [E7,decide_eq_true_eq,chain_iff]
  constructor
  ·rintro ⟨h1,h2⟩ i c e h3 h4;cases i with
   | zero=>cases h3;cases h4;exact h1
   | succ i=>exact h2 i c e h3 h4
  ·exact fun h=>⟨h 0 a b rfl rfl,fun i c e h3 h4=>h (i+1) c e h3 h4⟩
def lstB:PyData->Bool | .list _=>true | _=>false
theorem qUN {K:PySem.W.Frag} {H:Hp} {n:Nat} {x:V} {d:PyData} (h:DatN H n x d):∃ t,TyOf K H x t/\T4 K t (.type "list")=some (lstB d):=by
 have leaf:qJ7 x d->∃ t,TyOf K H x t/\T4 K t (.type "list")=some (lstB d):=by
  rintro (⟨rfl,rfl⟩ | ⟨b,rfl,rfl⟩ | ⟨i,rfl,rfl⟩ | ⟨y,rfl,rfl⟩)
  ·exact ⟨_,.non,rfl⟩
  ·exact ⟨_,.bl b,rfl⟩
  ·exact ⟨_,.int i,rfl⟩
  ·exact ⟨_,.str y,rfl⟩
 cases n with
 | zero=>exact leaf h
 | succ n=>
  rcases h with h | ⟨b,a,xs,ds,rfl,rfl,h1,_⟩
  ·exact leaf h
  ·cases b
   ·exact ⟨_,.lst h1,rfl⟩
   ·exact ⟨_,.tup h1,rfl⟩
theorem qNF {H:Hp} {n:Nat} {x:V} {d:PyData} (h:DatN H n x d) (hn:lstB d=true):∃ m a xs ds,n=m+1/\x=.ref a/\d=.list ds/\H a=some (.lst xs)/\xs.length=ds.length/\∀ (i:Nat) (x':V) (d':PyData),xs[i]?=some x'->ds[i]?=some d'->DatN H m x' d':=by
 have leaf:qJ7 x d->False:=by
  rintro (⟨rfl,rfl⟩ | ⟨b,rfl,rfl⟩ | ⟨i,rfl,rfl⟩ | ⟨y,rfl,rfl⟩) <;> cases hn
 cases n with
 | zero=>exact (leaf h).elim
 | succ n=>
  rcases h with h | ⟨b,a,xs,ds,rfl,rfl,h1,h2,h3⟩
  ·exact (leaf h).elim
  ·cases b
   ·exact ⟨n,a,xs,ds,rfl,rfl,rfl,h1,h2,h3⟩
   ·cases hn
theorem qUB {H:Hp} {m:Nat} {xs:List V} {zs:List Int} (lx:xs.length=(zs.map Y8).length) (el:∀ (i:Nat) (x':V) (d':PyData),xs[i]?=some x'->(zs.map Y8)[i]?=some d'->DatN H m x' d'):xs=zs.map V.int:=x9 fun i=>by
 by_cases hi:i<xs.length
 ·have hx:=B9 hi;have hz:i<zs.length:=by rw [lx,A0] at hi;exact hi
  have ed:(zs.map Y8)[i]?=some (.int zs[i]):=by rw [D7,B9 hz];rfl
  obtain ⟨j,e1,e2⟩:=qIP (el i _ _ hx ed) rfl;rw [hx,D7,B9 hz,e1];cases e2
  rfl
 ·rw [K0 (by omega),K0 (by rw [A0];rw [lx,A0] at hi;omega)]
theorem qKX {Af:List (List Int)} {path zs:List Int} (ne:zs ≠ []) (zin:∀ z ∈ zs,0<=z/\z<(Af.length:Int)):qD1 Af path (.tuple (zs.map .int))=(qF7 Af zs && qD2 Af path (zs.getLastD 0) && zs.all fun x=>decide (x ∉ path)):=by
 unfold qD1;have e1:qBC (.tuple (zs.map .int))=zs:=qDO;have e2:qLD Af (.tuple (zs.map .int))=qF7 Af zs:=by
  show (!(zs.map Y8).isEmpty && _ && qF7 Af ((zs.map .int).map qN8))=_;have:(zs.map Y8).isEmpty=false:=by cases zs with | nil=>exact absurd rfl ne | cons _ _=>rfl
  have ab:(zs.map Y8).all (qCH (Af.length:Int))=true:=L0.mpr fun d hd=>by
   obtain ⟨z,hz,rfl⟩:=G1.mp hd;show (decide (0<=z) && decide (z<(Af.length:Int)))=true;rw [decide_eq_true (zin z hz).1,decide_eq_true (zin z hz).2]
   rfl
  rw [this,ab,qDO]
  rfl
 rw [e1,e2]
theorem qLC {H:Hp} {Af:List (List Int)} {n:Nat} {x:V} {d:PyData} (h:DatN H n x d) (hp:qLD Af d=true):∃ t zs,x=.ref t/\d=.tuple (zs.map .int)/\qBC d=zs/\H t=some (.tup (zs.map V.int))/\zs ≠ []/\∀ z ∈ zs,0<=z/\z<(Af.length:Int):=by
 have c:tupB d=true:=by cases d <;> first | rfl | cases hp
 obtain ⟨m,tt,xs,ds,rfl,rfl,rfl,ga,lx,el⟩:=qNE h c;have hp:(!ds.isEmpty && ds.all (qCH (Af.length:Int)) && qF7 Af (ds.map qN8))=true:=hp;rw [E7,E7] at hp;obtain ⟨zs,rfl,zin⟩:=qGS hp.1.2;have ex:xs=zs.map V.int:=x9 fun i=>by
  by_cases hi:i<xs.length
  ·have hx:=B9 hi;have hz:i<zs.length:=by rw [lx,A0] at hi;exact hi
   have ed:(zs.map Y8)[i]?=some (.int zs[i]):=by rw [D7,B9 hz];rfl
   obtain ⟨j,e1,e2⟩:=qIP (el i _ _ hx ed) rfl;rw [hx,D7,B9 hz,e1];cases e2
   rfl
  ·rw [K0 (by omega),K0 (by rw [A0];rw [lx,A0] at hi;omega)]
 subst ex;refine ⟨tt,zs,rfl,rfl,qDO,ga,?_,zin⟩;rintro rfl;have:=hp.1.1;cases this
theorem qFL {xs:List V} {x:V} (h:xs.getLast?=some x):atI xs (-1)=some x:=by
 obtain ⟨ys,rfl⟩:=List.getLast?_eq_some_iff.mp h;exact qKK _ _
theorem qSB:∀ (l zs:List Int),(l.foldl addI zs).length=zs.length+l.length ↔ l.Nodup/\∀ x ∈ l,x ∉ zs
 | [],zs=>by simp
 | k::l,zs=>by
  show (l.foldl addI (addI zs k)).length=zs.length+(l.length+1) ↔ _;by_cases c:k ∈ zs
  ·have e:addI zs k=zs:=by unfold addI;rw [if_pos c]
   rw [e];have:=qBS l zs;exact ⟨fun h=>by omega,fun h=>absurd c (h.2 k C9)⟩
  ·have e:addI zs k=zs++[k]:=by unfold addI;rw [if_neg c]
   have ih:=qSB l (zs++[k]);rw [A8,D5] at ih;rw [e,show zs.length+(l.length+1)=zs.length+1+l.length by omega,ih,O0]
   constructor
   ·rintro ⟨h1,h2⟩;refine ⟨⟨fun z=>h2 k z (by simp),h1⟩,fun x hx=>?_⟩
    rcases D9.mp hx with rfl | hx
    ·exact c
    ·exact fun z=>h2 x hx (T6 _ z)
   ·rintro ⟨⟨h1,h2⟩,h3⟩;refine ⟨h2,fun x hx z=>?_⟩;rcases C8.mp z with z | z
    ·exact h3 x (C7 _ hx) z
    ·exact h1 (C0.mp z ▸ hx)
theorem ded_nodup {l:List Int}:(dedI l).length=l.length ↔ l.Nodup:=by
 have:=qSB l [];rw [O5,A28] at this;show (l.foldl addI []).length=l.length ↔ _;rw [this];exact ⟨fun h=>h.1,fun h=>⟨h,fun x _=>by simp⟩⟩
theorem qTC {Af:List (List Int)} {path:List Int} (wf:WFn Af) {H:Hp} {n:Nat} {x:V} {d:PyData} (h:DatN H n x d) (hs:qD1 Af path d=true):∃ t zs,x=.ref t/\qBC d=zs/\H t=some (.tup (zs.map V.int))/\zs.length<=Af.length:=by
 unfold qD1 at hs;rw [E7,E7] at hs;obtain ⟨t,zs,rfl,rfl,ei,g,ne,zin⟩:=qLC h hs.1.1;refine ⟨t,zs,rfl,ei,g,?_⟩;have hp:(_ && _ && qF7 Af ((zs.map Y8).map qN8))=true:=hs.1.1;rw [E7,qDO] at hp;have hc:qEN Af zs=true:=by have:=hp.2;unfold qF7 at this;rw [E7] at this;exact this.1
 have up:zs.Pairwise (·<·):=by
  have key:∀ (l:List Int),qEN Af l=true->(∀ z ∈ l,0<=z/\z<(Af.length:Int))->l.Pairwise (·<·)/\True:=by
   intro l
   induction l with
   | nil=>exact fun _ _=>⟨.nil,trivial⟩
   | cons a r ih=>
    intro hc hin;cases r with
    | nil=>exact ⟨by simp,trivial⟩
    | cons b r=>
     have hc:(decide (a ∈ nd Af b) && qEN Af (b::r))=true:=hc;rw [E7,decide_eq_true_eq] at hc;have k:=(ih hc.2 fun z hz=>hin z (C7 _ hz)).1;have ab:=qE1 wf (hin b (by simp)).1 hc.1
     refine ⟨R3.mpr ⟨fun z hz=>?_,k⟩,trivial⟩;rcases D9.mp hz with rfl | hz
     ·exact ab.2
     ·have:=(R3.mp k).1 z hz;omega
  exact (key zs hc zin).1
 have:=(⟨up,zin⟩:Rise (Af.length:Int) zs).len;omega
def qO1:Sp:=fun vs H Q _=>∃ (a:Addr) (Af:List (List Int)) (x:V) (n:Nat) (d:PyData),vs=[.ref a,x]/\NetAt H a Af/\WFn Af/\Af.length<=400/\DatN H n x d/\LenN 1 d/\∀ H',Same H H'->Q (.bl (qLD Af d)) H'
def qMN:Sp:=fun vs H Q _=>∃ (a t:Addr) (Af:List (List Int)) (path:List Int) (x:V) (n:Nat) (d:PyData),vs=[.ref a,.ref t,x]/\qC4 H a t Af path/\DatN H n x d/\LenN 2 d/\∀ H',Same H H'->Q (.bl (qDJ Af path d)) H'
def qXJ:Sp:=fun vs H Q _=>∃ (a t:Addr) (Af:List (List Int)) (path:List Int),vs=[.ref a,.ref t]/\qC4 H a t Af path/\Af.length<60/\path.length<=60/\∀ (l:Addr) (zs:List Int) (H':Hp),Same H H'->H' l=some (.lst (zs.map V.int))->(∀ z,z ∈ zs ↔ qD2 Af path z=true)->Q (.ref l) H'
def qO0:Sp:=fun vs H Q _=>∃ (a t:Addr) (Af:List (List Int)) (path:List Int) (x:V) (n:Nat) (d:PyData),vs=[.ref a,.ref t,x]/\qC4 H a t Af path/\Af.length<60/\path.length<=60/\DatN H n x d/\LenN 1 d/\∀ H',Same H H'->Q (.bl (qD1 Af path d)) H'
def qJA:Sp:=fun vs H Q _=>∃ (a t:Addr) (Af:List (List Int)) (path:List Int) (x:V) (n:Nat) (d:PyData),vs=[.ref a,.ref t,x]/\qC4 H a t Af path/\Af.length<60/\path.length<=60/\(∀ ds,d=.list ds->ds.length<=60)/\DatN H n x d/\LenN 2 d/\∀ H',Same H H'->Q (.bl (qDJ Af path d)) H'
def AnyS (H:Hp) (n W:Nat) (x:V):Prop:=∃ d,DatN H n x d/\Sm W d/\LenN 2 d/\∀ ds,d=.list ds->ds.length<=60
theorem AnyS.same {H H':Hp} {n W:Nat} {x:V} (h:AnyS H n W x) (s:Same H H'):AnyS H' n W x:=by
 obtain ⟨d,a,b,c,e⟩:=h;exact ⟨d,a.same s,b,c,e⟩
theorem AnyS.of {H:Hp} {n W:Nat} {x:V} (h:AnyN H n W x) (l:∀ a xs,x=.ref a->H a=some (.lst xs)->xs.length<=60):AnyS H n W x:=by
 obtain ⟨d,D,S,L⟩:=h;refine ⟨d,D,S,L,fun ds e=>?_⟩;subst e;obtain ⟨m,a,xs,ds',rfl,rfl,e2,ga,lx,_⟩:=qNF D rfl;cases e2;rw [<- lx];exact l a xs rfl ga
theorem qXB {i:Int} (h0:0<=i) (h1:i<60):((F9 (toString i)).cps.toList.all fun c=>decide (c<16 ^ 8))=true/\(F9 (toString i)).length<=11:=by
 have all:∀ n:Fin 60,((F9 (toString ((n.val:Nat):Int))).cps.toList.all fun c=>decide (c<16 ^ 8))=true/\(F9 (toString ((n.val:Nat):Int))).length<=11:=by decide +kernel
 have:=all ⟨i.toNat,by omega⟩
 rw [show (((⟨i.toNat,by omega⟩:Fin 60).val:Nat):Int)=i by show ((i.toNat:Nat):Int)=i;omega] at this
 exact this
def qNZ:Sp:=fun vs H Q _=>∃ (a t:Addr) (Af:List (List Int)) (path:List Int) (x:V) (n W:Nat),vs=[.ref a,.ref t,x]/\qC4 H a t Af path/\Af.length<60/\path.length<=60/\AnyS H n W x/\n<=40/\W<=1500000/\∀ H',Same H H'->Q (.bl true) H'
def qJ9:Sp:=fun vs H Q _=>∃ (d c:Addr) (t:Int) (ns:List Int) (a tp ts:Addr) (Af:List (List Int)) (path side:List Int),vs=[.ref d,.ref a,.ref tp,.ref ts]/\StAt H d c t ns/\t<=TB - 100/\qC4 H a tp Af path/\Af.length<60/\path.length<=60/\H ts=some (.tup (side.map V.int))/\side ≠ []/\side.length<=60/\(∀ z ∈ side,0<=z/\z<(Af.length:Int))/\
 ∀ x t' ns' H',StAt H' d c t' ns'->t<=t'->t'<=t+10->Keep d c H H'->AnyN H' 3 20000 x->Q x H'
def qQQ:Sp:=fun vs H Q _=>∃ (d c:Addr) (t:Int) (ns:List Int) (a tp l:Addr) (Af:List (List Int)) (path:List Int) (rs:List Addr) (ts:List (List Int)),vs=[.ref d,.ref a,.ref tp,.ref l]/\StAt H d c t ns/\t<=TB - 200/\qC4 H a tp Af path/\Af.length<60/\path.length<=60/\H l=some (.lst (rs.map V.ref))/\l ≠ d/\l ≠ c/\L2.G.TupsAt H rs ts/\rs.length<=20/\(∀ s ∈ ts,s ≠ []/\s.length<=60/\∀ z ∈ s,0<=z/\z<(Af.length:Int))/\
 ∀ x t' ns' H',StAt H' d c t' ns'->t<=t'->t'<=t+20->Keep d c H H'->AnyS H' 6 1000000 x->Q x H'
def tupI (s:List Int):PyData:=.tuple (s.map .int)
section
variable {Af:List (List Int)} {path:List Int} {W:Wy}
theorem qPA (F:Fl Af path W) (wf:WFn Af) {xs:List Int} {ss:List (List Int)} (h:Paired (fun x s=>Sd W (x / 2) s) xs ss):xs.Nodup->(∀ x ∈ xs,x ∈ W (-2))->ss.flatten.Nodup/\∀ s ∈ ss,∃ w,2 * w+1 ∈ xs/\qD2 Af path w=true/\SdIs Af path W w s/\s.getLast?=some w:=by
 induction h with
 | nil=>exact fun _ _=>⟨.nil,fun s hs=>nomatch hs⟩
 | @cons x s xs ss h0 _ ih=>
  intro n hin;obtain ⟨n1,n2⟩:=O0.mp n;obtain ⟨k1,k2⟩:=ih n2 fun y hy=>hin y (C7 _ hy);obtain ⟨w,rfl,f,e,fl⟩:=F.ends (hin x C9);rw [show (2 * w+1) / 2=w by omega] at h0
  have I:=F.sdIs wf h0 f fl
  constructor
  ·rw [Q0,V3];refine ⟨I.up.imp fun h=>by omega,k1,fun a ha b hb=>?_⟩
   rintro rfl;obtain ⟨s',hs',ha'⟩:=A61.mp hb;obtain ⟨w',hw',_,I',_⟩:=k2 s' hs';have:=F.apart wf I I' (hin _ C9) (hin _ (C7 _ hw')) _ a (A55 _) ha ha';exact n1 (this ▸ hw')
  ·intro t ht;rcases D9.mp ht with rfl | ht
   ·exact ⟨w,C9,e,I,qMQ h0⟩
   ·obtain ⟨v,hv,r⟩:=k2 t ht;exact ⟨v,C7 _ hv,r⟩
theorem qPV (ts:List (List Int)):(ts.map tupI).flatMap qBC=ts.flatten:=by
 induction ts with
 | nil=>rfl
 | cons s ts ih=>
  rw [G6,A43,ih,Q0];congr 1;exact qDO
theorem qM1:∀ {ts:List (List Int)},(∀ s ∈ ts,s ≠ [])->ts.length<=ts.flatten.length
 | [],_=>G5 _
 | s::ts,h=>by
  have:=qM1 fun t ht=>h t (C7 _ ht);have l:=Y3.mpr (h s C9);rw [Q0,A8,E3];omega
theorem SidesOf.are {ts:List (List Int)} (wf:WFn Af) (h:SidesOf Af path ts):qDJ Af path (.list (ts.map tupI))=true/\(∀ s ∈ ts,s ≠ []/\s.length<=Af.length/\∀ z ∈ s,0<=z/\z<(Af.length:Int))/\ts.length<=Af.length:=by
 obtain ⟨W,ss,_,F,P,pm,_⟩:=h;obtain ⟨k1,k2⟩:=qPA F wf P (F.fl.nd _) fun _ h=>h;have each:∀ s ∈ ts,∃ w,qD2 Af path w=true/\SdIs Af path W w s/\s.getLast?=some w:=fun s hs=>by
  obtain ⟨w,_,r⟩:=k2 s (pm.mem_iff.mp hs);exact ⟨w,r⟩
 have zin:∀ s ∈ ts,s ≠ []/\∀ z ∈ s,0<=z/\z<(Af.length:Int):=fun s hs=>by
  obtain ⟨w,_,I,_⟩:=each s hs;obtain ⟨t,r,e,_⟩:=I.hd;exact ⟨by rw [e];simp,fun z hz=>(free_in.mp (I.fr z hz).1).1⟩
 have ndp:ts.flatten.Nodup:=(pm.flatten.nodup_iff).mpr k1;refine ⟨?_,fun s hs=>⟨(zin s hs).1,?_,(zin s hs).2⟩,?_⟩
 ·show ((ts.map tupI).all (qD1 Af path) && decide (((ts.map tupI).flatMap qBC).Nodup))=true;rw [qPV,decide_eq_true ndp,u7,L0];intro d hd;obtain ⟨s,hs,rfl⟩:=G1.mp hd;obtain ⟨w,e,I,gl⟩:=each s hs;have zz:=zin s hs;show qD1 Af path (.tuple (s.map .int))=true;rw [qKX zz.1 zz.2,m7,gl];show (qF7 Af s && qD2 Af path w && _)=true;rw [e,u7,E7]
  constructor
  ·unfold qF7;rw [chain_iff.mpr I.co,R7];obtain ⟨t,r,rfl,en⟩:=I.hd;show (nd Af t).isEmpty=true;rw [en]
   rfl
  ·exact L0.mpr fun x hx=>decide_eq_true (free_in.mp (I.fr x hx).1).2
 ·obtain ⟨w,_,I,_⟩:=each s hs;exact Rise.len ⟨I.up,(zin s hs).2⟩
 ·refine M6 (qM1 fun s hs=>(zin s hs).1) (qY9 ndp fun x hx=>?_);obtain ⟨s,hs,hx⟩:=A61.mp hx;exact (zin s hs).2 x hx
theorem p2 {a b:Nat} (h:a<=b):(2:Int) ^ a<=(2:Int) ^ b:=by
 have:=A03 (n:=2) (by decide) h
 exact_mod_cast this
theorem qQZ {f:Int->Int}:∀ {l:List Int} {lo m:Nat},l.Pairwise (·<·)->(∀ y ∈ l,(lo:Int)<=y/\y<(m:Int))->lo<=m->(∀ y ∈ l,f y<=(2:Int) ^ y.toNat)->(l.map f).sum+(2:Int) ^ lo<=(2:Int) ^ m
 | [],lo,m,_,_,h,_=>by
  rw [o5,List.sum_nil,Int.zero_add];exact p2 h
 | y::l,lo,m,up,hin,h,hf=>by
  have a:=hin y C9;have b:=hf y C9;obtain ⟨u1,u2⟩:=R3.mp up;have k:=qQZ (f:=f) (l:=l) (lo:=y.toNat+1) (m:=m) u2 (fun z hz=>by have:=u1 z hz;have:=hin z (C7 _ hz);omega) (by omega) fun z hz=>hf z (C7 _ hz)
  have c:(2:Int) ^ lo<=(2:Int) ^ y.toNat:=p2 (by omega)
  rw [Int.pow_succ] at k;rw [G6,l6];omega
theorem qZY (wf:WFn Af):∀ (n:Nat) (z:Int),z.toNat=n->0<=z->cn Af z<=(2:Int) ^ z.toNat:=by
 intro n
 induction n using k7 with
 | ind n ih=>
  intro z hn h0;rw [qWX wf h0];have p:(1:Int)<=(2:Int) ^ z.toNat:=p2 (a:=0) (G5 _)
  split
  ·exact p
  ·have:=qQZ (f:=cn Af) (l:=nd Af z) (lo:=0) (m:=z.toNat) (qZM wf z) (fun y hy=>by have:=qE1 wf h0 hy;omega) (G5 _) fun y hy=>by
    have b:=qE1 wf h0 hy;exact ih y.toNat (by omega) y rfl b.1
   have e:(2:Int) ^ 0=1:=rfl;omega
theorem qa0 (wf:WFn Af):∀ (k:Nat) (p:List Int),(hd p).toNat=k->0<=hd p->p ≠ []->Rise (Af.length:Int) p->∀ t ∈ aP Af p,t ≠ []/\Rise (Af.length:Int) t:=by
 intro k
 induction k using k7 with
 | ind k ih=>
  intro p hk h0 ne R t ht;rw [qX5 wf h0] at ht
  split at ht
  ·rw [C0.mp ht];exact ⟨ne,R⟩
  ·obtain ⟨l,hl,ht⟩:=A61.mp ht;obtain ⟨z,hz,rfl⟩:=G1.mp hl;have b:=qE1 wf h0 (R8.mp hz);refine ih z.toNat (by omega) (z::p) rfl b.1 (by simp) ⟨R3.mpr ⟨fun y hy=>?_,R.up⟩,fun y hy=>?_⟩ t ht
   ·cases p with
    | nil=>exact absurd rfl ne
    | cons a p=>
     have b2:z<a:=b.2;rcases D9.mp hy with rfl | hy
     ·exact b2
     ·have:=(R3.mp R.up).1 y hy;omega
   ·rcases D9.mp hy with rfl | hy
    ·cases p with
     | nil=>exact absurd rfl ne
     | cons a p=>
      have b2:y<a:=b.2;have:=R.in_ a C9;omega
    ·exact R.in_ y hy
theorem SortP.some {work:Int} {ts:List (List Int)} (wf:WFn Af) (h0:0<=work) (h1:work<(Af.length:Int)) (h:SortP Af work ts):1<=ts.length/\∀ t ∈ ts,t ≠ []/\Rise (Af.length:Int) t:=by
 constructor
 ·have a:=qT0 wf _ [work] rfl h0;have b:1<=cn Af (hd [work]):=qVI wf _ work rfl h0;rw [h.1.length_eq];omega
 ·exact fun t ht=>qa0 wf _ [work] rfl h0 (by simp) ⟨by simp,fun x hx=>by rw [C0.mp hx];exact ⟨h0,h1⟩⟩ t (h.1.mem_iff.mp ht)
end
theorem qT7 {H:Hp} {l:Addr} {rs:List Addr} {ts:List (List Int)} (g:H l=some (.lst (rs.map V.ref))) (T:L2.G.TupsAt H rs ts):DatN H 2 (.ref l) (.list (ts.map tupI)):=by
 have le:=E9 T;have at_:∀ (i:Nat) r s,rs[i]?=some r->ts[i]?=some s->H r=some (.tup (s.map V.int)):=by
  clear g le
  induction T with
  | nil=>exact fun i r s h=>by simp at h
  | cons h _ ih=>
   intro i r s e1 e2;cases i with
   | zero=>cases e1;cases e2;exact h
   | succ i=>exact ih i r s e1 e2
 refine .inr ⟨false,l,_,_,rfl,rfl,g,by rw [A0,A0];exact le,fun i x' d' e1 e2=>?_⟩
 rw [D7] at e1 e2;obtain ⟨r,er,rfl⟩:=U0.mp e1;obtain ⟨s,es,rfl⟩:=U0.mp e2;refine .inr ⟨true,r,_,_,rfl,rfl,at_ i r s er es,by rw [A0,A0],fun j y' z' f1 f2=>?_⟩
 rw [D7] at f1 f2;obtain ⟨u,eu,rfl⟩:=U0.mp f1;obtain ⟨v,ev,rfl⟩:=U0.mp f2;rw [eu] at ev;cases ev;exact .inr (.inr (.inl ⟨u,rfl,rfl⟩))
theorem qT6 {ts:List (List Int)} (h:ts.length<=2000) (h2:∀ s ∈ ts,s.length<=2000):LenN 2 (.list (ts.map tupI)):=fun b ds e=>by
 cases b with
 | true=>cases e
 | false=>
  cases e;refine ⟨by rw [A0];exact h,fun d hd b' ds' e'=>?_⟩
  obtain ⟨s,hs,rfl⟩:=G1.mp hd;cases b' with
  | false=>cases e'
  | true=>
   cases e';exact ⟨by rw [A0];exact h2 s hs,fun _ _=>trivial⟩
section
variable {P:Program} {w:World} {K:PySem.W.Frag} {mg:Str->Option Value} {base:Heap} {f:Addr} {fd:FuncData}
theorem sc_Lbegin:FnScope ["_law_script","_law_cells"] ["_law_script"] (qAC qHT):=⟨rfl,rfl,rfl,by decide +kernel,rfl,by decide +kernel,by decide +kernel⟩
theorem ok_Lbegin (F:Fun K "_law_begin" "_law_begin" qHT f fd) (qCX:mg "list" = none):FnOk P w K mg base CX0 1 f fd ["_law_script"] (qQR K):=by
 refine F.ok sc_Lbegin (fun vs H Q E h=>?_) (fun cdv A outer s H vs Q E hr h=>?_)
 ·obtain ⟨a,ns,rfl,_⟩:=h
  rfl
 obtain ⟨a,ns,rfl,hS,h63,q⟩:=h;have hu:=qFG hr;have hu0:=hr.units0;refine ⟨_,(qA4 (qAB (i:=1) sc_Lbegin.nd rfl (G4 rfl) (qAE qHA rfl qCX qKF (qA0 (qAT qDH (pv 0) qB9 (qB4 qA6)) qA3))) (qA4 (qBY (qAP (qLH hu0) (pv 1) (qAQ qA3) (qB1 _)) (qA7 (qAB (i:=1) sc_Lbegin.nd rfl (G4 rfl) (qAQ (qA0 qA6 qA3)))) qAO) (qA7 (qAK (qMX (qFU qH3 (pv 1) (qFU qH3 qA6 qMW)) rfl rfl (by simp) (by decide)))))),?_⟩
 try dsimp only [Cx.nox,Cx.wish,cxOf]
 refine ⟨_,rfl,_,rfl,a,_,rfl,hS,fun p hp=>?_⟩;rw [qB5];have hl:(cutI ns none (some 63)).length<=63:=M6 (qKD _ _ _) h63;refine ⟨p,_,rfl,.inl (SqL.of qA1),fun c hc=>?_⟩;have s1:Same H (Ah (Ah H p (.lst ((cutI ns none (some 63)).map V.int))) c (.lst ((cutI ns none (some 63)).map V.int))):=(qA2 hp _).trans (qA2 hc _);refine ⟨_,rfl,(by show 0<=sizeLine;decide),fun e he=>?_⟩
 have hce:c ≠ e:=qA5 qA1 he;refine ⟨c,e,_,rfl,rfl,SqL.of (by rw [qA8 hce];exact qA1),SqL.of qA1,_,rfl,?_⟩
 have s2:=s1.trans (qA2 he (.lst []));cases hm:cutI ns none (some 63) with
 | nil=>
  rw [hm] at s2 he;refine iteT ?_;refine ⟨(by show 1<=sizeLine;decide),fun c2 hc2=>?_⟩
  have s3:=s2.trans (qA2 hc2 (.lst [.int 7]));intro d hd;refine ⟨_,rfl,?_⟩;have s4:=s3.trans (qA2 hd (.dK []));refine ⟨qA1,[(P9 (F9 "cells"),.ref c2),(P9 (F9 "turn"),.int 0)],rfl,(by show 2<=15;decide),?_⟩
  have ncd:c2 ≠ d:=qA5 qA1 hd;refine q d c2 [7] _ ⟨?_,?_,by decide,by decide,by decide⟩ ?_ ?_ ?_
  ·rw [qA1,qV4]
  ·rw [qA8 ncd,qA8 ncd];exact qA1
  ·rw [qGF];exact s3.trans (qA2 hd _)
  ·exact s3.free hd
  ·exact s2.free hc2
 | cons x r=>
  rw [hm] at s2 he hl;refine iteF ?_;intro d hd;refine ⟨_,rfl,?_⟩;refine ⟨qA1,[(P9 (F9 "cells"),.ref c),(P9 (F9 "turn"),.int 0)],rfl,(by show 2<=15;decide),?_⟩
  have gc:(Ah (Ah (Ah H p (.lst ((x::r).map V.int))) c (.lst ((x::r).map V.int))) e (.lst [])) c=some (.lst ((x::r).map V.int)):=by rw [qA8 hce];exact qA1
  have ncd:c ≠ d:=qA5 gc hd;refine q d c (x::r) _ ⟨?_,?_,by simp,hl,by decide⟩ ?_ ?_ ?_
  ·rw [qA1,qV4]
  ·rw [qA8 ncd,qA8 ncd];exact gc
  ·rw [qGF];exact s2.trans (qA2 hd _)
  ·exact s2.free hd
  ·rw [hm] at hc;exact (qA2 hp _).free hc
theorem sc_Ltake:FnScope ["_law_state","_law_many","_law_turn","_law_place","_law_cell","_law_digit","_law_mixed"] ["_law_state","_law_many"] (qAC qJW):=⟨rfl,rfl,rfl,by decide +kernel,rfl,by decide +kernel,by decide +kernel⟩
theorem ok_Ltake (F:Fun K "_law_take" "_law_take" qJW f fd) (qBF:mg "len" = none) (qES:mg "divmod" = none):FnOk P w K mg base CX0 1 f fd ["_law_state","_law_many"] qI6:=by
 refine F.ok sc_Ltake (fun vs H Q E h=>?_) (fun cdv A outer s H vs Q E hr h=>?_)
 ·obtain ⟨d,c,t,ns,m,rfl,_⟩:=h
  rfl
 obtain ⟨d,c,t,ns,m,rfl,S,ht,hm1,hm2,q⟩:=h;have hu:=qFG hr;refine ⟨_,(qA4 (qAB (i:=2) sc_Ltake.nd rfl (G4 rfl) (qAD qCY (qC8 hu (pv 0) qH3 (fun _ _=>rfl)) qA6)) (qA4 (qFD hu (pv 0) qH3 (pv 2) rfl) (qA4 (qAB (i:=3) sc_Ltake.nd rfl (G4 rfl) (qAD qIA (pv 2) (qAA qAH rfl qBF qC3 (qA0 (qC8 hu (pv 0) qH3 (fun _ _=>rfl)) qA3)))) (qA4 (qAB (i:=4) sc_Ltake.nd rfl (G4 rfl) (qC7 qCZ (qC8 hu (pv 0) qH3 (fun _ _=>rfl)) (pv 3) (fun _ _=>rfl))) (qA4 (qBY (qAP qY6 (pv 4) (qAD qY2 qA6 qA6) (qB1 _)) (qA4 (qXY (qAA qNI rfl qES qSS (qA0 (pv 4) (qA0 (pv 1) qA3))) (qLA rfl (qBU (qY0 (qC8 hu (pv 0) qH3 (fun _ _=>rfl)) (pv 3) qTD) (qBU (qAG (i:=5) sc_Ltake.nd rfl (G4 rfl)) qGL)))) (qA7 (qAK (pv 5)))) qAO) (qA4 (qAB (i:=6) sc_Ltake.nd rfl (G4 rfl) (qAD qIA (qAD qD7 (qAD qCY (qAD qCY (qAD qIA (pv 4) qA6) (qAD qD7 (qAD qD7 (pv 2) (pv 2)) qA6)) qA6) qA6) qA6)) (qA4 (qAB (i:=6) sc_Ltake.nd rfl (G4 rfl) (qAD qIA (qAD qD7 (pv 6) (pv 6)) qA6)) (qA7 (qAK (qAD qIA (qAD qIB (qAD qIA (qAD qD7 (qAD qCY (pv 6) (qAD qD7 (pv 2) qA6)) qA6) qA6) qA6) (pv 1))))))))))),?_⟩
 try dsimp only [Cx.nox,Cx.wish,cxOf]
 have hpos:=S.pos;have hne:=S.ne;have ht':t<=1000000000:=ht;refine ⟨_,rfl,d,_,rfl,qWU S,_,_,rfl,rfl,?_⟩;refine ⟨_,rfl,_,rfl,d,_,rfl,qWT S,?_⟩;have S1:=S.turn (u:=t+1) (by omega)
 have k1:Keep d c H (Ah H d (.dK [(P9 (F9 "cells"),.ref c),(P9 (F9 "turn"),.int (t+1))])):=fun b o e n _=>by rw [qA8 n];exact e
 generalize Ah H d (.dK [(P9 (F9 "cells"),.ref c),(P9 (F9 "turn"),.int (t+1))])=H1 at S1 k1;have hlen:(((ns.map V.int).length:Nat):Int)=(ns.length:Int):=by rw [A0]
 refine ⟨_,rfl,_,rfl,d,_,rfl,qKC S1,c,_,rfl,.inl (SqL.of S1.list),_,_,rfl,rfl,(by rw [hlen];omega),?_⟩
 have p0:0<=(t+1) % (((ns.map V.int).length:Nat):Int):=b0 _ (by rw [hlen];omega)
 have p1:(t+1) % (((ns.map V.int).length:Nat):Int)<(ns.length:Int):=by
  have:=W1 (t+1) (b:=(((ns.map V.int).length:Nat):Int)) (by rw [hlen];omega)
  rw [hlen] at this ⊢;exact this
 dsimp only;generalize (t+1) % (((ns.map V.int).length:Nat):Int)=pl at p0 p1;obtain ⟨j,rfl⟩:∃ j:Nat,pl=(j:Int):=⟨pl.toNat,by omega⟩
 have hj:j<ns.length:=by omega
 have hat:atI (ns.map V.int) (j:Int)=some (.int ns[j]):=qSW (by rw [D7,B9 hj];rfl)
 refine ⟨_,rfl,d,_,rfl,qKC S1,_,rfl,c,_,_,_,rfl,rfl,SqL.of S1.list,hat,?_⟩;generalize hx:ns[j]=x at hat ⊢;refine ⟨_,rfl,_,_,rfl,rfl,⟨by decide,by decide,by decide⟩,_,_,rfl,rfl,_,rfl,?_⟩
 refine ite2 (fun _=>?_) (fun _=>?_)
 ·-- a great cell
  refine ⟨_,rfl,_,rfl,x,m,rfl,⟨by omega,by omega⟩,fun p hp=>?_⟩
  have S2:=S1.new hp (.tup [.int (x / m),.int (x % m)]);have npc:p ≠ c:=(qA5 S1.list hp).symm;refine ⟨p,_,rfl,SqT.of qA1,rfl,_,_,rfl,?_⟩;refine ⟨_,rfl,d,_,rfl,qKC S2,_,rfl,c,_,_,j,rfl,rfl,S2.list,qWK (by rw [A0];exact hj),?_⟩
  refine ⟨_,_,rfl,rfl,?_⟩;refine ⟨_,rfl,?_⟩;have e1:(ns.map V.int).set j (.int (x / m))=(ns.set j (x / m)).map V.int:=by rw [List.map_set]
  rw [e1];refine q (x % m) (ns.set j (x / m)) _ (b0 _ (by omega)) (W1 _ (by omega)) (S2.put (by rw [B57])) ?_
  have k2:=k1.trans (qE2 (d:=d) (c:=c) hp (.tup [.int (x / m),.int (x % m)]));exact fun b o e n1 n2=>by rw [qA8 n2];exact k2 b o e n1 n2
 ·have b1:0<=x % 2147483629:=b0 _ (by decide)
  have b2:x % 2147483629<2147483629:=W1 _ (by decide)
  refine ⟨_,rfl,_,_,rfl,rfl,(by show (0:Int)<2147483629;decide),_,rfl,_,rfl,_,_,rfl,rfl,.inl ⟨by omega,by omega⟩,_,_,rfl,rfl,.inr ⟨by decide,by decide⟩,_,_,rfl,rfl,_,_,rfl,rfl,_,_,rfl,rfl,.inr ⟨by decide,by decide⟩,_,_,rfl,rfl,(by show (0:Int)<2147483647;decide),?_⟩
  have c1:=b0 ((x % 2147483629+(t+1) * (t+1) * 7919+11) * 48271) (b:=2147483647) (by decide)
  have c2:=W1 ((x % 2147483629+(t+1) * (t+1) * 7919+11) * 48271) (b:=2147483647) (by decide)
  dsimp only;generalize ((x % 2147483629+(t+1) * (t+1) * 7919+11) * 48271) % 2147483647=y at c1 c2;refine ⟨_,rfl,_,rfl,_,_,rfl,rfl,.inl ⟨by omega,by omega⟩,_,_,rfl,rfl,(by show (0:Int)<2147483587;decide),?_⟩
  dsimp only;generalize y * y % 2147483587=z;refine ⟨_,rfl,_,rfl,_,_,rfl,rfl,.inr ⟨by decide,by decide⟩,_,_,rfl,rfl,_,_,rfl,rfl,.inr ⟨by decide,by decide⟩,_,_,rfl,rfl,(by show (0:Int)<2147483629;decide),_,_,rfl,rfl,⟨by decide,by decide⟩,_,rfl,_,_,rfl,rfl,(by omega),?_⟩
  exact q _ ns _ (b0 _ (by omega)) (W1 _ (by omega)) S1 k1
end
section
variable {P:Program} {w:World} {K:PySem.W.Frag} {mg:Str->Option Value} {base:Heap} {f:Addr} {fd:FuncData} {qCB:Addr} {qC1:FuncData}
theorem sc_Lsome_needs:FnScope ["_law_state","_law_k","_law_found","_law_turn","_law_far"] ["_law_state","_law_k"] (qAC qCQ):=⟨rfl,rfl,rfl,by decide +kernel,rfl,by decide +kernel,by decide +kernel⟩
theorem ok_Lsome_needs (F:Fun K "_law_some_needs" "_law_some_needs" qCQ f fd) (qAL:Clb P w K mg base 1 qCB qC1 "_law_take" ["_law_state","_law_many"] qI6)
  (qB7:mg "range" = none) (qHE:mg "min" = none) (qAJ:mg "tuple" = none) (qAZ:mg "sorted" = none) (qFC:mg "set" = none):FnOk P w K mg base CX0 2 f fd ["_law_state","_law_k"] qMO:=by
 refine F.ok sc_Lsome_needs (fun vs H Q E h=>?_) (fun cdv A outer s H vs Q E hr h=>?_)
 ·obtain ⟨d,c,t,ns,k,rfl,_⟩:=h
  rfl
 obtain ⟨d,c,t,ns,k,rfl,S,ht,hk0,hk1,q⟩:=h;have ht':t<=1000000000 - 20:=ht;have qTZ:Room 1 _:=hr;refine ⟨_,(qA4 (qAB (i:=2) sc_Lsome_needs.nd rfl (G4 rfl) (qAQ qA3)) (qA4 (qCK J3 rfl (qCD rfl qB7 (qA0 (qBB qAL hr rfl (qA0 (pv 0) (qA0 qA6 qA3))) qA3)) (qAG (i:=3) sc_Lsome_needs.nd rfl (G4 rfl)) (qA4 (qAB (i:=4) sc_Lsome_needs.nd rfl (G4 rfl) (qC7 qCZ (qAQ (qA0 (qAA (qIX rfl) rfl qHE qSR (qA0 (pv 1) (qA0 qA6 qA3))) (qA0 (pv 1) qA3))) (qAD qIB (qBB qAL hr rfl (qA0 (pv 0) (qA0 qA6 qA3))) qA6) (fun _ _=>rfl))) (qA7 (qBY (qAP qY5 (pv 1) qA6 (qB1 _)) (qA7 (qC6 (qHK G3 O1 O2 qC0 (pv 2) (qA0 (qAD qEE (qAD qEE (pv 1) qA6) (qBB qAL hr rfl (qA0 (pv 0) (qA0 (pv 4) qA3)))) qA3)))) qAO)))) (qA7 (qAK (qAE qAM rfl qAJ qB6 (qA0 (qAA (qIW rfl) rfl qAZ qEO (qA0 (qAE (qOX rfl) rfl qFC qOY (qA0 (pv 2) qA3)) qA3)) qA3)))))),?_⟩
 try dsimp only [Cx.nox,Cx.wish,cxOf]
 refine ⟨(by show 0<=sizeLine;decide),fun fo hfo=>?_⟩
 have S1:=S.new hfo (.lst []);have nd:fo ≠ d:=(qA5 S.dict hfo).symm;have nc:fo ≠ c:=(qA5 S.list hfo).symm;refine ⟨_,rfl,d,c,t,ns,5,rfl,S1,(by show t<=1000000000;omega),by decide,by decide,fun j ns1 H1 j0 j5 S2 K2=>?_⟩
 refine ⟨j,rfl,by omega,by omega,qG5 (lo:=0) (n:=j.toNat) (fun i σ Hc=>∃ (t':Int) (ms fs:List Int) (v1 v2:Option V),σ=[some (.ref d),some (.int k),some (.ref fo),v1,v2]/\StAt Hc d c t' ms/\t<=t'/\t'<=t+1+2 * i/\Keep d c H Hc/\
  Hc fo=some (.lst (fs.map V.int))/\fs.length<=i/\∀ x ∈ fs,0<=x/\x<k)
  ⟨t+1,ns1,[],none,none,rfl,S2,by omega,by omega,(qE2 hfo _).trans K2,K2 _ _ qA1 nd nc,C1 _,fun _ z=>nomatch z⟩ ?_ ?_⟩
 ·refine fun i σ Hc hi hI_1=>opq fun G_1 hG_1=>?_;obtain ⟨t',ms,fs,v1,v2,rfl,S3,a1,a2,K3,h3,l3,m3⟩:=hI_1;refine hG_1 ?_;have hi5:(i:Int)<5:=by omega
  -- far
  refine ⟨_,rfl,k,4,rfl,_,rfl,(by show 2<=sizeLine;decide),fun p hp=>?_⟩
  have S4:=S3.new hp (.lst [.int (if (4:Int)<k then 4 else k),.int k])
  have npd:p ≠ d:=(qA5 S3.dict hp).symm;have npc:p ≠ c:=(qA5 S3.list hp).symm;refine ⟨_,rfl,d,c,t',ms,4,rfl,S4,(by show t'<=1000000000;omega),by decide,by decide,fun k2 ms2 H2 g0 g4 S5 K5=>?_⟩
  obtain ⟨far,hfar,ef⟩:=qZJ (a:=if (4:Int)<k then 4 else k) (b:=k) g0 g4
  have far1:far<=k:=by rcases ef with e | e <;> (subst e;first | omega | (split <;> omega))
  have far2:0<k->1<=far:=fun hk=>by rcases ef with e | e <;> (subst e;first | omega | (split <;> omega))
  refine ⟨_,_,rfl,rfl,⟨by decide,by decide⟩,p,_,_,_,rfl,rfl,SqL.of (K5 _ _ qA1 npd npc),hfar,?_⟩
  have K6:=K3.trans ((qE2 (d:=d) (c:=c) hp (.lst [.int (if (4:Int)<k then 4 else k),.int k])).trans K5)
  have h6:H2 fo=some (.lst (fs.map V.int)):=K5 _ _ (by rw [qA8 (qA5 h3 hp)];exact h3) nd nc
  refine ⟨_,rfl,_,_,rfl,rfl,_,rfl,?_⟩;refine ite2 (fun ck=>?_) (fun ck=>?_)
  ·have hk:0<k:=of_decide_eq_true ck;refine ⟨_,rfl,.inl ⟨rfl,_,SqL.of h6⟩,_,rfl,_,_,rfl,rfl,_,rfl,_,rfl,d,c,t'+1,ms2,far,rfl,S5,(by show t'+1<=1000000000;omega),far2 hk,by omega,fun k3 ms3 H3 c0 c1 S6 K7=>?_⟩
   have h7:=K7 _ _ h6 nd nc;refine ⟨_,_,rfl,rfl,fo,_,_,rfl,rfl,h7,qB8 (by rw [A0];omega),?_⟩
   have S8:StAt (Ah H3 fo (.lst (fs.map V.int++[.int (k - 1 - k3)]))) d c (t'+1+1) ms3:=⟨by rw [qA8 (M8 nd)];exact S6.dict,by rw [qA8 (M8 nc)];exact S6.list,S6.ne,S6.len,S6.pos⟩
   have hH:H fo=none:=hfo;refine ⟨t'+1+1,ms3,fs++[k - 1 - k3],_,_,rfl,S8,by omega,by omega,fun b o e n1 n2=>?_,?_,?_,fun x hx=>?_⟩
   ·rw [qA8 (qA5 e hH)];exact (K6.trans K7) b o e n1 n2
   ·rw [qA1,D3];rfl
   ·rw [A8,D5];omega
   ·rcases C8.mp hx with hx | hx
    ·exact m3 x hx
    ·rw [C0.mp hx];omega
  ·exact ⟨t'+1,ms2,fs,_,_,rfl,S5,by omega,by omega,K6,h6,by omega,m3⟩
 ·refine fun σ Hc hI_2=>opq fun G_2 hG_2=>?_;obtain ⟨t',ms,fs,v1,v2,rfl,S3,a1,a2,K3,h3,l3,m3⟩:=hI_2;refine hG_2 ?_;refine ⟨_,rfl,fo,fs,rfl,SqL.of h3,by omega,fun a ha=>?_⟩
  have sm1:=qA2 ha (SetO w a (dedI fs));refine ⟨a,dedI fs,rfl,.inr (.inr qA1),Y9 (qOT fs) (by omega),fun b zs hb hp hs=>?_⟩
  have sm2:=sm1.trans (qA2 hb (.lst (zs.map V.int)));refine ⟨b,_,rfl,.inl ⟨SqL.of qA1,fun r hr'=>?_⟩⟩;have sm3:=sm2.trans (qA2 hr' (.tup (zs.map V.int)));exact q r zs t' ms _ (S3.same sm3) (by omega) (by omega) (K3.trans (.of_same sm3)) qA1 (qO7 hp hs m3)
theorem sc_Ltree_net:FnScope ["_law_state","_law_many","_law_open_ones","_law_found","_law_k","_law_so_many"] ["_law_state","_law_many"] (qAC qDX):=⟨rfl,rfl,rfl,by decide +kernel,rfl,by decide +kernel,by decide +kernel⟩
theorem ok_Ltree_net (F:Fun K "_law_tree_net" "_law_tree_net" qDX f fd) (qAL:Clb P w K mg base 1 qCB qC1 "_law_take" ["_law_state","_law_many"] qI6)
  (qB7:mg "range" = none) (qHE:mg "min" = none) (qAJ:mg "tuple" = none) (qBF:mg "len" = none):FnOk P w K mg base CX0 2 f fd ["_law_state","_law_many"] qUQ:=by
 refine F.ok sc_Ltree_net (fun vs H Q E h=>?_) (fun cdv A outer s H vs Q E hr h=>?_)
 ·obtain ⟨d,c,t,ns,m,rfl,_⟩:=h
  rfl
 obtain ⟨d,c,t,ns,m,rfl,S,ht,hm0,hm1,q⟩:=h;have ht':t<=1000000000 - 1000:=ht;have qTZ:Room 1 _:=hr;refine ⟨_,(qA4 (qAB (i:=2) sc_Ltree_net.nd rfl (G4 rfl) (qAQ qA3)) (qA4 (qAB (i:=3) sc_Ltree_net.nd rfl (G4 rfl) (qAQ qA3)) (qA4 (qCK J3 rfl (qCD rfl qB7 (qA0 (qAD qEE (pv 1) qA6) qA3)) (qAG (i:=4) sc_Ltree_net.nd rfl (G4 rfl)) (qA4 (qAB (i:=5) sc_Ltree_net.nd rfl (G4 rfl) (qAA (qIX rfl) rfl qHE qSR (qA0 (qAA qAH rfl qBF qC3 (qA0 (pv 2) qA3)) (qA0 (qC7 qCZ (qAQ (qA0 qA6 (qA0 qA6 (qA0 qA6 (qA0 qA6 (qA0 qA6 (qA0 qA6 qA3))))))) (qBB qAL hr rfl (qA0 (pv 0) (qA0 qA6 qA3))) (fun _ _=>rfl)) qA3)))) (qA4 (qC6 (qHK G3 O1 O2 qC0 (pv 3) (qA0 (qAE qAM rfl qAJ qB6 (qA0 (qAT qDH (pv 2) (qB4 (qAD qEE (qAA qAH rfl qBF qC3 (qA0 (pv 2) qA3)) (pv 5))) qB9) qA3)) qA3))) (qA7 (qAB (i:=2) sc_Ltree_net.nd rfl (G4 rfl) (qAD qD8 (qAT qDH (pv 2) qB9 (qB4 (qAD qEE (qAA qAH rfl qBF qC3 (qA0 (pv 2) qA3)) (pv 5)))) (qAQ (qA0 (pv 4) qA3)))))))) (qA7 (qAK (qAE qAM rfl qAJ qB6 (qA0 (qAD qD8 (pv 3) (qAQ (qA0 (qAE qAM rfl qAJ qB6 (qA0 (pv 2) qA3)) qA3))) qA3))))))),?_⟩
 try dsimp only [Cx.nox,Cx.wish,cxOf]
 refine ⟨(by show 0<=sizeLine;decide),fun o0 ho0=>?_⟩
 have S1:=S.new ho0 (.lst []);refine ⟨(by show 0<=sizeLine;decide),fun fo hfo=>?_⟩
 have S2:=S1.new hfo (.lst []);have nd:fo ≠ d:=(qA5 S1.dict hfo).symm;have nc:fo ≠ c:=(qA5 S1.list hfo).symm;have no0:o0 ≠ fo:=qA5 qA1 hfo;have hF:H fo=none:=(qA2 ho0 _).free hfo;refine ⟨_,rfl,_,_,rfl,rfl,m - 1,rfl,by omega,by omega,qG5 (lo:=0) (n:=(m - 1).toNat) (fun i σ Hc=>∃ (t':Int) (ms os:List Int) (o:Addr) (rs:List Addr) (Af:List (List Int)) (v1 v2:Option V),σ=[some (.ref d),some (.int m),some (.ref o),some (.ref fo),v1,v2]/\StAt Hc d c t' ms/\t<=t'/\t'<=t+i/\Keep d c H Hc/\
  Hc o=some (.lst (os.map V.int))/\(o ≠ fo/\o ≠ c)/\Hc fo=some (.lst (rs.map V.ref))/\NetL Hc rs Af/\Af.length=i/\WFn Af/\Rise (i:Int) os)
  ⟨t,ns,[],o0,[],[],none,none,rfl,S2,by omega,by omega,(qE2 ho0 _).trans (qE2 hfo _),by rw [qA8 no0];exact qA1,⟨no0,(qA5 S.list ho0).symm⟩,qA1,.nil,rfl,WFn.nil,Rise.nil⟩ ?_ ?_⟩
 ·refine fun i σ Hc hi hI_3=>opq fun G_3 hG_3=>?_;obtain ⟨t',ms,os,o,rs,Af,v1,v2,rfl,S3,a1,a2,K3,h3,⟨n3,n3c⟩,f3,N3,l3,w3,r3⟩:=hI_3;refine hG_3 ?_;have hlo:os.length<=i:=r3.len;refine ⟨_,rfl,o,_,rfl,.inl (SqL.of h3),(by show 6<=sizeLine;decide),fun p hp=>?_⟩
  have S4:=S3.new hp (.lst [.int 0,.int 0,.int 1,.int 2,.int 2,.int 3]);have npd:p ≠ d:=(qA5 S3.dict hp).symm;have npc:p ≠ c:=(qA5 S3.list hp).symm;refine ⟨_,rfl,d,c,t',ms,6,rfl,S4,(by show t'<=1000000000;omega),by decide,by decide,fun k2 ms2 H2 g0 g6 S5 K5=>?_⟩
  obtain ⟨v,hv,v0,v3⟩:=qZI g0 g6;refine ⟨p,_,_,_,rfl,rfl,SqL.of (K5 _ _ qA1 npd npc),hv,?_⟩;have sm:Same Hc (Ah Hc p (.lst [.int 0,.int 0,.int 1,.int 2,.int 2,.int 3])):=qA2 hp _;have K6:=(Keep.of_same (d:=d) (c:=c) sm).trans K5;have nod:o ≠ d:=qDN h3 S3.dict (by intro z;cases z)
  have h6:H2 o=some (.lst (os.map V.int)):=K6 _ _ h3 nod n3c;have f6:H2 fo=some (.lst (rs.map V.ref)):=K6 _ _ f3 nd nc;have N6:NetL H2 rs Af:=N3.keep (fun r zs e=>S3.tup e) K6;refine ⟨_,_,rfl,?_⟩;dsimp only;have so0:0<=(if v<(((os.map V.int).length:Nat):Int) then v else (((os.map V.int).length:Nat):Int)):=by split <;> omega
  have so1:(if v<(((os.map V.int).length:Nat):Int) then v else (((os.map V.int).length:Nat):Int))<=(os.length:Int):=by rw [A0];split <;> omega
  generalize (if v<(((os.map V.int).length:Nat):Int) then v else (((os.map V.int).length:Nat):Int))=so at so0 so1
  obtain ⟨kk,ek⟩:∃ kk:Nat,(os.length:Int) - so=(kk:Int):=⟨((os.length:Int) - so).toNat,by omega⟩
  have ek':(((os.map V.int).length:Nat):Int) - so=(kk:Int):=by rw [A0];exact ek
  have hkk:kk<=os.length:=by omega
  -- found.append(tuple(open_ones[len(open_ones) - so_many:]))
  refine ⟨_,rfl,.inl ⟨rfl,_,SqL.of f6⟩,_,rfl,_,rfl,o,_,rfl,.inl (SqL.of h6),_,rfl,_,_,rfl,rfl,_,rfl,o,_,rfl,SqL.of h6,fun p1 hp1=>?_⟩;refine ⟨p1,_,rfl,.inl ⟨SqL.of qA1,fun r hr1=>?_⟩⟩;rw [ek',qB5,qDQ _ _ hkk] at hr1 ⊢;have sm1:=(qA2 hp1 (.lst ((os.drop kk).map V.int))).trans (qA2 hr1 (.tup ((os.drop kk).map V.int)));have f7:=sm1 _ _ f6;have h7:=sm1 _ _ h6;have N7:NetL _ (rs++[r]) (Af++[os.drop kk]):=qBL (N6.same fun r zs e=>sm1 _ _ e) (show (Ah (Ah H2 p1 (.lst ((os.drop kk).map V.int))) r (.tup ((os.drop kk).map V.int))) r=some (.tup ((os.drop kk).map V.int)) from qA1);have S7:=S5.same sm1;have K7:=K6.trans (.of_same sm1);generalize (Ah (Ah H2 p1 (.lst ((os.drop kk).map V.int))) r (.tup ((os.drop kk).map V.int)))=H7 at f7 h7 N7 S7 K7 ⊢;refine ⟨fo,_,_,rfl,rfl,f7,qB8 (by rw [A0,NetAt.len N3];omega),?_⟩
  have e8:rs.map V.ref++[V.ref r]=(rs++[r]).map V.ref:=by rw [D3];rfl
  rw [e8];have S8:StAt (Ah H7 fo (.lst ((rs++[r]).map V.ref))) d c (t'+1) ms2:=⟨by rw [qA8 (M8 nd)];exact S7.dict,by rw [qA8 (M8 nc)];exact S7.list,S7.ne,S7.len,S7.pos⟩
  have h8:(Ah H7 fo (.lst ((rs++[r]).map V.ref))) o=some (.lst (os.map V.int)):=by rw [qA8 n3];exact h7
  have N8:NetL (Ah H7 fo (.lst ((rs++[r]).map V.ref))) (rs++[r]) (Af++[os.drop kk]):=N7.same fun r' zs e=>by rw [qA8 (qDN e f7 (by intro z;cases z))];exact e
  have K8:Keep d c H (Ah H7 fo (.lst ((rs++[r]).map V.ref))):=fun b u e n1 n2=>by rw [qA8 (qA5 e hF)];exact (K3.trans K7) b u e n1 n2
  have f8:(Ah H7 fo (.lst ((rs++[r]).map V.ref))) fo=some (.lst ((rs++[r]).map V.ref)):=qA1;generalize Ah H7 fo (.lst ((rs++[r]).map V.ref))=H8 at S8 h8 N8 K8 f8 ⊢
  -- open_ones=open_ones[:len(open_ones) - so_many]+[k]
  refine ⟨_,rfl,_,rfl,o,_,rfl,.inl (SqL.of h8),_,rfl,_,_,rfl,rfl,_,rfl,o,_,rfl,SqL.of h8,fun p2 hp2=>?_⟩;rw [ek',qB5,qWW];refine ⟨_,rfl,(by show 1<=sizeLine;decide),fun p3 hp3=>?_⟩
  have n23:p2 ≠ p3:=qA5 qA1 hp3;refine ⟨p2,p3,_,_,rfl,rfl,by rw [qA8 n23];exact qA1,qA1,c5 (qB8 (by rw [A0,E5,D5];omega)),fun p4 hp4=>?_⟩
  have sm2:=((qA2 hp2 (.lst ((os.take kk).map V.int))).trans (qA2 hp3 (.lst [.int (0+(i:Int))]))).trans (qA2 hp4 (.lst ((os.take kk).map V.int++[.int (0+(i:Int))])));have e9:(os.take kk).map V.int++[V.int (0+(i:Int))]=(os.take kk++[(i:Int)]).map V.int:=by rw [D3,Int.zero_add];rfl
  have nf4:p4 ≠ fo:=(qA5 ((qA2 hp3 _) _ _ ((qA2 hp2 _) _ _ f8)) hp4).symm;have nc4:p4 ≠ c:=(qA5 ((qA2 hp3 _) _ _ ((qA2 hp2 _) _ _ S8.list)) hp4).symm;refine ⟨t'+1,ms2,os.take kk++[(i:Int)],p4,rs++[r],Af++[os.drop kk],_,_,rfl,S8.same sm2,by omega,by omega,K8.trans (.of_same sm2),by rw [<- e9];exact qA1,⟨nf4,nc4⟩,sm2 _ _ f8,N8.same fun r' zs e=>sm2 _ _ e,by rw [A8,D5,l3],w3.snoc ?_,?_⟩
  ·rw [l3];exact r3.sub (b7 _ _)
  ·have:=(r3.sub (Z7 kk os)).snoc (by omega)
   rw [show ((i+1:Nat):Int)=(i:Int)+1 by omega]
   exact this
 ·refine fun σ Hc hI_4=>opq fun G_4 hG_4=>?_;obtain ⟨t',ms,os,o,rs,Af,v1,v2,rfl,S3,a1,a2,K3,h3,⟨n3,n3c⟩,f3,N3,l3,w3,r3⟩:=hI_4;refine hG_4 ?_;refine ⟨_,rfl,_,rfl,o,_,rfl,.inl ⟨SqL.of h3,fun r hr1=>?_⟩⟩;refine ⟨(by show 1<=sizeLine;decide),fun p hp=>?_⟩
  have sm1:=(qA2 hr1 (.tup (os.map V.int))).trans (qA2 hp (.lst [.ref r]));refine ⟨fo,p,_,_,rfl,rfl,sm1 _ _ f3,qA1,c5 (qB8 (by rw [A0,NetAt.len N3,D5];omega)),fun p2 hp2=>?_⟩
  refine ⟨p2,_,rfl,.inl ⟨SqL.of qA1,fun a ha=>?_⟩⟩;have sm2:=(sm1.trans (qA2 hp2 (.lst (rs.map V.ref++[.ref r])))).trans (qA2 ha (.tup (rs.map V.ref++[.ref r])));have gr:=(qA2 ha (.tup (rs.map V.ref++[.ref r]))) _ _ ((qA2 hp2 (.lst (rs.map V.ref++[.ref r]))) _ _ ((qA2 hp (.lst [.ref r])) r _ (qA1 (H:=Hc) (o:=.tup (os.map V.int)))));have e8:rs.map V.ref++[V.ref r]=(rs++[r]).map V.ref:=by rw [D3];rfl
  refine q a (Af++[os]) t' ms _ (S3.same sm2) (by omega) (by omega) (K3.trans (.of_same sm2)) ⟨rs++[r],by rw [<- e8];exact qA1,qBL (N3.same fun r' zs e=>sm2 _ _ e) gr⟩ (w3.snoc (by rw [l3];exact r3)) ?_
  rw [A8,D5,l3];omega
end
section
variable {P:Program} {w:World} {K:PySem.W.Frag} {mg:Str->Option Value} {base:Heap} {f:Addr} {fd:FuncData} {qCB:Addr} {qC1:FuncData} {qCT:Addr} {qFA:FuncData} {qE6:Addr} {qH9:FuncData}
theorem sc_Lnet:FnScope ["_law_state","_law_many","_law_way","_law_wide","_law_some","_law_half"] ["_law_state","_law_many"] (qAC qO5):=⟨rfl,rfl,rfl,by decide +kernel,rfl,by decide +kernel,by decide +kernel⟩
theorem ok_Lnet (F:Fun K "_law_net" "_law_net" qO5 f fd) (qAL:Clb P w K mg base 1 qCB qC1 "_law_take" ["_law_state","_law_many"] qI6)
  (qC2:Clb P w K mg base 2 qCT qFA "_law_some_needs" ["_law_state","_law_k"] qMO)
  (qEB:Clb P w K mg base 2 qE6 qH9 "_law_tree_net" ["_law_state","_law_many"] qUQ)
  (qB7:mg "range" = none) (qJT:mg "max" = none) (qGD:mg "int" = none) (qBD:mg "enumerate" = none) (qAJ:mg "tuple" = none) (qAZ:mg "sorted" = none) (qFC:mg "set" = none):FnOk P w K mg base CX0 3 f fd ["_law_state","_law_many"] qXI:=by
 refine F.ok sc_Lnet (fun vs H Q E h=>?_) (fun cdv A outer s H vs Q E hr h=>?_)
 ·obtain ⟨d,c,t,ns,m,rfl,_⟩:=h
  rfl
 obtain ⟨d,c,t,ns,m,rfl,S,ht,hm0,hm1,q⟩:=h;have ht':t<=1000000000 - 10000:=ht;have qT2:Room 2 _:=hr;have qV7:Room 2 _:=hr;refine ⟨_,(qA4 (qAB (i:=2) sc_Lnet.nd rfl (G4 rfl) (qBB qAL hr rfl (qA0 (pv 0) (qA0 qA6 qA3)))) (qA4 (qAB (i:=3) sc_Lnet.nd rfl (B58 rfl) (qAD qCY qA6 (qBB qAL hr rfl (qA0 (pv 0) (qA0 qA6 qA3))))) (qA4 (qBY (qAP qGO (pv 2) qA6 (qB1 _)) (qA7 (qAK (qAE qAM rfl qAJ qB6 (qA0 (qFE rfl (lcs (own:=["_law_k"]) (fv:=[3]) (by kernel_rfl)) (qCD rfl qB7 (qA0 (pv 1) qA3)) (fun z1=>qAG (i:=0) (qE0 (by kernel_rfl)) rfl (G4 rfl)) (fun z1=>qBN) (fun z1=>(qAE (qJ6 rfl) rfl qAJ qB6 (qA0 (qAE qSN rfl qB7 qUE (qA0 (qAA (qMA rfl) rfl qJT qVJ (qA0 qA6 (qA0 (qAD qEE (pv 0) (pv 1)) qA3))) (qA0 (pv 0) qA3))) qA3)))) qA3)))) qAO) (qA4 (qBY (qAP qGO (pv 2) qA6 (qB1 _)) (qA4 (qXX (i:=4) sc_Lnet.nd rfl rfl rfl (lcs (own:=["_law_k"]) (fv:=[3]) (by kernel_rfl)) (qCD rfl qB7 (qA0 (pv 1) qA3)) (fun z2=>qAG (i:=0) (qE0 (by kernel_rfl)) rfl (G4 rfl)) (fun z2=>qBN) (fun z2=>(qAD qD8 (qAD qV1 (qAQ (qA0 (qAD qEE (pv 0) (pv 1)) qA3)) (qAE qMC rfl qGD qOZ (qA0 (qDY qY6 (pv 0) (pv 1) (qB1 _)) qA3))) (qAD qV1 (qAQ (qA0 (qAD qEE (pv 0) qA6) qA3)) (qAE qMC rfl qGD qOZ (qA0 (qDY qY5 (qAD qIA (pv 0) (pv 1)) qA6 (qB1 _)) qA3))))) (by kernel_rfl)) (qA7 (qAK (qAE qAM rfl qAJ qB6 (qA0 (qFE rfl (lcs (own:=["_law_needs"]) (fv:=[]) (by kernel_rfl)) (qGK (pv 4)) (fun z3=>qAG (i:=0) (qE0 (by kernel_rfl)) rfl (G4 rfl)) (fun z3=>qBN) (fun z3=>(qAE (qIU (K:=K) rfl) rfl qAJ qB6 (qA0 (qAA (qM7 (K:=K) (w:=w) rfl rfl rfl) rfl qAZ qEO (qA0 (qAE (qSM (K:=K) (w:=w) rfl rfl rfl) rfl qFC qOY (qA0 (pv 0) qA3)) qA3)) qA3)))) qA3))))) qAO) (qA4 (qBY (qAP qGO (pv 2) qA6 (qB1 _)) (qA7 (qAK (qBB qEB hr rfl (qA0 (pv 0) (qA0 (pv 1) qA3))))) qAO) (qA4 (qBY (qAP qGO (pv 2) qA6 (qB1 _)) (qA4 (qAB (i:=5) sc_Lnet.nd rfl (B58 rfl) (qAD qIB (pv 1) qA6)) (qA4 (qXX (i:=4) sc_Lnet.nd rfl rfl rfl (lcs (own:=["_law_k"]) (fv:=[0,5]) (by kernel_rfl)) (qCD rfl qB7 (qA0 (pv 1) qA3)) (fun z4=>qAG (i:=0) (qE0 (by kernel_rfl)) rfl (G4 rfl)) (fun z4=>qBN) (fun z4=>(qBB qC2 hr rfl (qA0 (pv 1) (qA0 (qK0 (qAP qTO (pv 0) (pv 2) (qB1 _)) (pv 0) (qAD qEE (pv 0) (pv 2))) qA3)))) (by kernel_rfl)) (qA7 (qAK (qAE qAM rfl qAJ qB6 (qA0 (qFE rfl (lcs (own:=["_law_k","_law_needs"]) (fv:=[5]) (by kernel_rfl)) (qW2 rfl qBD qHC (qA0 (pv 4) qA3)) (fun z5=>qR4 (K:=K) (n:=2) rfl rfl (qBU (qAG (i:=0) (qE0 (by kernel_rfl)) rfl (G4 rfl)) (qBU (qAG (i:=1) (qE0 (by kernel_rfl)) rfl (G4 rfl)) qGL)) rfl rfl) (fun z5=>qBN) (fun z5=>(qK0 (qAP qTO (pv 0) (pv 2) (qB1 _)) (pv 1) (qAE (qIU (K:=K) rfl) rfl qAJ qB6 (qA0 (qFE (X:=lcCx _ _ _ _ z5) rfl (lcs (own:=["_law_n"]) (fv:=[2]) (by kernel_rfl)) (qW1 (K:=K) rfl (pv 1)) (fun z6=>qAG (i:=0) (qE0 (by kernel_rfl)) rfl (G4 rfl)) (fun z6=>qBN) (fun z6=>(qAD qCY (pv 0) (pv 1)))) qA3))))) qA3)))))) qAO) (qA7 (qAK (qAE qAM rfl qAJ qB6 (qA0 (qFE rfl (lcs (own:=["_law_k"]) (fv:=[0]) (by kernel_rfl)) (qCD rfl qB7 (qA0 (pv 1) qA3)) (fun z7=>qAG (i:=0) (qE0 (by kernel_rfl)) rfl (G4 rfl)) (fun z7=>qBN) (fun z7=>(qBB qC2 hr rfl (qA0 (pv 1) (qA0 (pv 0) qA3))))) qA3)))))))))),?_⟩
 try dsimp only [Cx.nox,Cx.wish,cxOf]
 refine cut fun N1 hN1=>?_;refine ⟨_,rfl,d,c,t,ns,8,rfl,S,(by show t<=1000000000;omega),by decide,by decide,fun way ns1 H1 w0 w8 S1 K1=>?_⟩
 refine hN1 _ _ (cut fun N2 hN2=>?_);refine ⟨_,rfl,d,c,t+1,ns1,4,rfl,S1,(by show t+1<=1000000000;omega),by decide,by decide,fun wd ns2 H2 wd0 wd4 S2 K2=>⟨_,_,rfl,rfl,?_⟩⟩
 dsimp only;have K12:=K1.trans K2;generalize hwide:(1:Int)+wd=wide;have wi0:1<=wide:=by omega
 have wi4:wide<=4:=by omega
 refine hN2 _ _ (cut fun N3 hN3=>?_);refine ⟨_,rfl,rfl,_,rfl,?_⟩;refine ite2 (fun _=>?_) (fun _=>?_)
 ·refine ⟨_,rfl,m,rfl,by omega,by omega,fun p hp=>?_⟩
  refine qHU (p:=p) (lo:=0) (n:=m.toNat) (fun i σ Hc=>∃ (v:Option V) (rs:List Addr) (Af:List (List Int)),σ=[v,some (.int wide)]/\Same H2 Hc/\Hc p=some (.lst (rs.map V.ref))/\NetL Hc rs Af/\Af.length=i/\WFn Af) ?_ ?_ ?_
  ·exact ⟨none,[],[],rfl,qA2 hp _,qA1,.nil,rfl,WFn.nil⟩
  ·refine fun i σ Hc hi hI_1=>opq fun G_1 hG_1=>?_;obtain ⟨v,rs,Af,rfl,sm,hpc,N,hl,wf⟩:=hI_1;refine hG_1 ?_;refine ⟨_,rfl,_,rfl,_,_,rfl,rfl,0,_,rfl,_,rfl,_,_,rfl,fun p1 hp1=>?_⟩;refine ⟨p1,_,_,rfl,qA1,by split <;> omega,by split <;> omega,by omega,by omega,fun r hr1=>?_⟩
   have lo0:0<=(if (0+(i:Int)) - wide > 0 then (0+(i:Int)) - wide else 0):=by split <;> omega
   have hri:=qMU (hi:=0+(i:Int)) lo0;dsimp only;rw [qMT];generalize qBG (if (0+(i:Int)) - wide > 0 then (0+(i:Int)) - wide else 0) (0+(i:Int))=zs at hri ⊢
   generalize HO.rng (if (0+(i:Int)) - wide > 0 then (0+(i:Int)) - wide else 0) (0+(i:Int))=ho at hp1 hr1 ⊢
   have s1:=(qA2 hp1 ho).trans (qA2 hr1 (.tup (zs.map V.int)));have g1:=s1 _ _ hpc;refine ⟨_,g1,qB8 (by rw [A0,NetAt.len N];omega),?_⟩
   rw [qCR];refine ⟨_,rs++[r],Af++[zs],rfl,qAF (sm.trans s1) hp,qA1,qBZ (qBL (N.same fun r' ys e=>s1 _ _ e) qA1) g1,by rw [A8,D5,hl],wf.snoc ?_⟩
   rw [hl];exact hri.mono (by omega)
  ·refine fun σ Hc hI_2=>opq fun G_2 hG_2=>?_;obtain ⟨v,rs,Af,rfl,sm,hpc,N,hl,wf⟩:=hI_2;refine hG_2 ?_;refine ⟨p,_,rfl,.inl ⟨SqL.of hpc,fun a ha=>?_⟩⟩;have s1:=qA2 ha (.tup (rs.map V.ref));exact q a Af (t+1+1) ns2 _ (S2.same (sm.trans s1)) (by omega) (by omega) (K12.trans (.of_same (sm.trans s1))) ⟨rs,qA1,N.same fun r ys e=>s1 _ _ e⟩ wf (by rw [hl];omega)
 refine hN3 _ _ (cut fun N4 hN4=>?_);refine ⟨_,rfl,rfl,_,rfl,?_⟩;refine ite2 (fun _=>?_) (fun _=>?_)
 ·refine ⟨_,rfl,m,rfl,by omega,by omega,fun p hp=>?_⟩
  refine qHU (p:=p) (lo:=0) (n:=m.toNat) (fun i σ Hc=>∃ (v:Option V) (rs:List Addr) (ls:List (List Int)),σ=[v,some (.int wide)]/\Same H2 Hc/\Hc p=some (.lst (rs.map V.ref))/\Paired (fun r zs=>r ≠ p/\Hc r=some (.lst (zs.map V.int))) rs ls/\ls.length=i/\
   ∀ (j:Nat) zs,ls[j]?=some zs->zs.length<=2/\∀ x ∈ zs,0<=x/\x<(j:Int)) ?_ ?_ ?_
  ·exact ⟨none,[],[],rfl,qA2 hp _,qA1,.nil,rfl,fun j zs e=>by simp at e⟩
  ·refine fun i σ Hc hi hI_3=>opq fun G_3 hG_3=>?_;obtain ⟨v,rs,ls,rfl,sm,hpc,N,hl,wf⟩:=hI_3;refine hG_3 ?_;refine ⟨_,rfl,_,rfl,_,_,rfl,rfl,(by show 1<=sizeLine;decide),fun a1 ha1=>?_⟩
   refine ⟨_,rfl,_,rfl,_,_,rfl,rfl,.inr ⟨_,rfl,?_⟩⟩;refine ⟨a1,_,_,rfl,rfl,qA1,by split <;> decide,by split <;> decide,?_,fun a2 ha2=>?_⟩
   ·have:∀ b:Bool,[V.int (0+(i:Int) - wide)].length * (if b=true then (1:Int) else 0).toNat<=sizeLine:=by intro b;cases b <;> simp [sizeLine_eq]
    exact this _
   dsimp only;rw [qXT];refine ⟨_,rfl,_,_,rfl,rfl,(by show 1<=sizeLine;decide),fun a3 ha3=>?_⟩
   refine ⟨_,rfl,_,rfl,_,_,rfl,rfl,(by show 0<wide;omega),_,_,rfl,rfl,.inr ⟨_,rfl,?_⟩⟩
   refine ⟨a3,_,_,rfl,rfl,qA1,by split <;> decide,by split <;> decide,?_,fun a4 ha4=>?_⟩
   ·have:∀ b:Bool,[V.int (0+(i:Int) - 1)].length * (if b=true then (1:Int) else 0).toNat<=sizeLine:=by intro b;cases b <;> simp [sizeLine_eq]
    exact this _
   dsimp only;rw [qXT];have b1:∀ x ∈ (if decide (wide<=0+(i:Int))=true then [0+(i:Int) - wide] else []),0<=x/\x<(i:Int):=by
    intro x hx
    split at hx
    ·rename_i hd
     have:=of_decide_eq_true hd;rw [C0.mp hx];omega
    ·cases hx
   have b2:∀ x ∈ (if decide (0<(0+(i:Int)) % wide)=true then [0+(i:Int) - 1] else []),0<=x/\x<(i:Int):=by
    intro x hx
    split at hx
    ·rename_i hd
     have hd':=of_decide_eq_true hd;have:(i:Int) ≠ 0:=by
      intro e;rw [e] at hd';simp at hd'
     rw [C0.mp hx];omega
    ·cases hx
   have c1:(if decide (wide<=0+(i:Int))=true then [0+(i:Int) - wide] else []).length<=1:=by split <;> simp
   have c2:(if decide (0<(0+(i:Int)) % wide)=true then [0+(i:Int) - 1] else []).length<=1:=by split <;> simp
   generalize (if decide (wide<=0+(i:Int))=true then [0+(i:Int) - wide] else [])=z1 at b1 c1 ha3 ha4 ⊢
   generalize (if decide (0<(0+(i:Int)) % wide)=true then [0+(i:Int) - 1] else [])=z2 at b2 c2 ⊢
   have s2:=(qA2 ha3 (.lst [.int (0+(i:Int) - 1)])).trans (qA2 ha4 (.lst (z2.map V.int)));refine ⟨a2,a4,_,_,rfl,rfl,s2 _ _ qA1,qA1,c5 (qB8 (by rw [A0,A0];omega)),fun a5 ha5=>?_⟩
   have s1:=(qA2 ha1 (.lst [.int (0+(i:Int) - wide)])).trans (qA2 ha2 (.lst (z1.map V.int)));have s3:=(s1.trans s2).trans (qA2 ha5 (.lst (z1.map V.int++z2.map V.int)));have e5:z1.map V.int++z2.map V.int=(z1++z2).map V.int:=by rw [D3]
   rw [e5] at s3 ⊢;have g1:=s3 _ _ hpc;have n5:a5 ≠ p:=(qA5 ((s1.trans s2) _ _ hpc) ha5).symm;refine ⟨_,g1,qB8 (by rw [A0,E9 N];omega),?_⟩
   rw [qCR];refine ⟨_,rs++[a5],ls++[z1++z2],rfl,qAF (sm.trans s3) hp,qA1,A07 (qGN N fun r zs e=>⟨e.1,by rw [qA8 e.1];exact s3 _ _ e.2⟩) ⟨n5,by rw [qA8 n5];exact qA1⟩,by rw [A8,D5,hl],fun j zs e=>?_⟩
   rcases qO4 e with e | ⟨rfl,rfl⟩
   ·exact wf j zs e
   ·rw [hl];refine ⟨by rw [A8];omega,fun x hx=>?_⟩
    rcases C8.mp hx with hx | hx
    ·exact b1 x hx
    ·exact b2 x hx
  ·refine fun σ Hc hI_4=>opq fun G_4 hG_4=>?_;obtain ⟨v,rs,ls,rfl,sm,hpc,N,hl,wf⟩:=hI_4;refine hG_4 ?_;refine ⟨_,rfl,p,rfl,⟨_,SqL.of hpc⟩,fun p' hp'=>?_⟩;refine qN6 (p:=p') (a:=p) (xs:=rs.map V.ref) (fun i σ Hd=>∃ (v:Option V) (rs':List Addr) (Af:List (List Int)),σ=[v]/\Same Hc Hd/\Hd p'=some (.lst (rs'.map V.ref))/\NetL Hd rs' Af/\Af.length=i/\WFn Af) ?_ ?_ ?_ ?_
   ·exact ⟨none,[],[],rfl,qA2 hp' _,qA1,.nil,rfl,WFn.nil⟩
   ·rintro i σ Hd hi ⟨v,rs',Af,rfl,sm2,_⟩;exact SqL.of (sm2 _ _ hpc)
   ·refine fun i x σ Hd hx hI_6=>opq fun G_6 hG_6=>?_;obtain ⟨v,rs',Af,rfl,sm2,hpd,N2,hl2,wf2⟩:=hI_6;obtain ⟨r,hr1,rfl⟩:=qNB hx;obtain ⟨zs,hz,_,hr2⟩:=qDL N hr1;obtain ⟨l2,m2⟩:=wf i zs hz;refine hG_6 ?_;refine ⟨_,rfl,r,zs,rfl,SqL.of (sm2 _ _ hr2),by omega,fun a ha=>?_⟩
    refine ⟨a,dedI zs,rfl,.inr (.inr qA1),Y9 (qOT zs) (by omega),fun b ys hb hpm hs=>?_⟩
    refine ⟨b,_,rfl,.inl ⟨SqL.of qA1,fun r2 hr3=>?_⟩⟩;have s1:=((qA2 ha (SetO w a (dedI zs))).trans (qA2 hb (.lst (ys.map V.int)))).trans (qA2 hr3 (.tup (ys.map V.int)));have g1:=s1 _ _ hpd;have lrs:rs.length=m.toNat:=by rw [E9 N,hl]
    have hi:i<rs.length:=(B0.mp hr1).1;refine ⟨_,g1,qB8 (by rw [A0,NetAt.len N2];omega),?_⟩
    rw [qCR];refine ⟨_,rs'++[r2],Af++[ys],rfl,qAF (sm2.trans s1) hp',qA1,qBZ (qBL (N2.same fun r' zs' e=>s1 _ _ e) qA1) g1,by rw [A8,D5,hl2],wf2.snoc ?_⟩
    rw [hl2];exact qO7 hpm hs m2
   ·refine fun σ Hd hI_7=>opq fun G_7 hG_7=>?_;obtain ⟨v,rs',Af,rfl,sm2,hpd,N2,hl2,wf2⟩:=hI_7;refine hG_7 ?_;refine ⟨p',_,rfl,.inl ⟨SqL.of hpd,fun a ha=>?_⟩⟩;have s1:=qA2 ha (.tup (rs'.map V.ref));refine q a Af (t+1+1) ns2 _ (S2.same ((sm.trans sm2).trans s1)) (by omega) (by omega) (K12.trans (.of_same ((sm.trans sm2).trans s1))) ⟨rs',qA1,N2.same fun r ys e=>s1 _ _ e⟩ wf2 ?_
    rw [hl2,A0,E9 N,hl];omega
 refine hN4 _ _ (cut fun N5 hN5=>?_);refine ⟨_,rfl,rfl,_,rfl,?_⟩;refine ite2 (fun _=>?_) (fun _=>?_)
 ·refine ⟨_,rfl,_,rfl,d,c,t+1+1,ns2,m,rfl,S2,?_,hm0,hm1,fun a Af t' ms H' a1 a2 a3 a4 a5 a6 a7=>?_⟩
  ·show t+1+1<=1000000000 - 1000;omega
  ·exact q a Af t' ms H' a1 (by omega) (by omega) (K12.trans a4) a5 a6 a7
 refine hN5 _ _ (cut fun N6 hN6=>?_);refine ⟨_,rfl,rfl,_,rfl,?_⟩;refine ite2 (fun _=>?_) (fun _=>?_)
 ·refine ⟨_,rfl,_,_,rfl,rfl,⟨by decide,by decide⟩,?_⟩
  dsimp only;have hf0:0<=m / 2:=by omega
  have hf1:m / 2<=m:=by omega
  generalize m / 2=half at hf0 hf1;refine ⟨_,rfl,m,rfl,by omega,by omega,fun p hp=>?_⟩
  refine qHU (p:=p) (lo:=0) (n:=m.toNat) (fun i σ Hc=>∃ (v:Option V) (t':Int) (ms:List Int) (rs:List Addr) (Af:List (List Int)),σ=[v,some (.ref d),some (.int half)]/\StAt Hc d c t' ms/\t+2<=t'/\t'<=t+2+9 * i/\Keep d c H2 Hc/\Hc p=some (.lst (rs.map V.ref))/\NetL Hc rs Af/\Af.length=i/\
   ∀ (j:Nat) zs,Af[j]?=some zs->Rise (if (j:Int)<half then (j:Int) else (j:Int) - half) zs) ?_ ?_ ?_
  ·exact ⟨none,t+1+1,ns2,[],[],rfl,S2.new hp _,by omega,by omega,qE2 hp _,qA1,.nil,rfl,fun j zs e=>by simp at e⟩
  ·refine fun i σ Hc hi hI_8=>opq fun G_8 hG_8=>?_;obtain ⟨v,t',ms,rs,Af,rfl,S3,b1,b2,k3,hpc,N,hl,wf⟩:=hI_8;refine hG_8 ?_;have npd:p ≠ d:=(qA5 S2.dict hp).symm;have npc:p ≠ c:=(qA5 S2.list hp).symm;have nx:∀ (kk:Int),kk=(if (i:Int)<half then (i:Int) else (i:Int) - half)->qMO [.ref d,.int kk] Hc (fun y H4=>∃ ys,H4 p=some (.lst ys)/\ys.length<sizeLine/\∃ (v:Option V) (t':Int) (ms:List Int) (rs:List Addr) (Af:List (List Int)),[some (V.int (0+(i:Int))),some (.ref d),some (.int half)]=[v,some (.ref d),some (.int half)]/\StAt (Ah H4 p (.lst (ys++[y]))) d c t' ms/\t+2<=t'/\t'<=t+2+9 * (i+1:Nat)/\Keep d c H2 (Ah H4 p (.lst (ys++[y])))/\(Ah H4 p (.lst (ys++[y]))) p=some (.lst (rs.map V.ref))/\NetL (Ah H4 p (.lst (ys++[y]))) rs Af/\Af.length=i+1/\
     ∀ (j:Nat) zs,Af[j]?=some zs->Rise (if (j:Int)<half then (j:Int) else (j:Int) - half) zs) E0:=by
    intro kk ek;refine ⟨d,c,t',ms,kk,rfl,S3,(by show t'<=1000000000 - 20;omega),by rw [ek];split <;> omega,by rw [ek];split <;> omega,fun r zs t'' ms2 H3 e1 e2 e3 e4 e5 e6=>?_⟩
    have g1:=e4 _ _ hpc npd npc;refine ⟨_,g1,qB8 (by rw [A0,NetAt.len N];omega),?_⟩
    rw [qCR];refine ⟨_,t'',ms2,rs++[r],Af++[zs],rfl,⟨by rw [qA8 (M8 npd)];exact e1.dict,by rw [qA8 (M8 npc)];exact e1.list,e1.ne,e1.len,e1.pos⟩,by omega,by omega,qOJ (k3.trans e4) hp,qA1,qBZ (qBL (N.keep (fun r ys e=>S3.tup e) e4) e5) g1,by rw [A8,D5,hl],fun j ys e=>?_⟩
    rcases qO4 e with e | ⟨rfl,rfl⟩
    ·exact wf j ys e
    ·rw [hl,<- ek];exact e6
   refine ⟨_,rfl,_,rfl,_,rfl,_,_,rfl,rfl,_,rfl,?_⟩;refine ite2 (fun ck=>?_) (fun ck=>?_)
   ·have ck':0+(i:Int)<half:=of_decide_eq_true ck;exact ⟨_,rfl,nx _ (by rw [if_pos (by omega)];omega)⟩
   ·have ck':¬ 0+(i:Int)<half:=of_decide_eq_false (Q9.mpr ck);exact ⟨_,rfl,_,rfl,_,_,rfl,rfl,nx _ (by rw [if_neg (by omega)];omega)⟩
  ·refine fun σ Hc hI_9=>opq fun G_9 hG_9=>?_;obtain ⟨v,t',ms,rs,Af,rfl,S3,b1,b2,k3,hpc,N,hl,wf⟩:=hI_9;refine hG_9 ?_;have lrs:rs.length=m.toNat:=by rw [E9 N,hl]
   refine ⟨_,rfl,p,rfl,⟨_,SqL.of hpc⟩,fun p' hp'=>?_⟩;refine qWE (p:=p') (a:=p) (xs:=rs.map V.ref) (fun i σ Hd=>∃ (v1 v2:Option V) (rs':List Addr) (net':List (List Int)),σ=[v1,v2,some (.int half)]/\Same Hc Hd/\Hd p'=some (.lst (rs'.map V.ref))/\NetL Hd rs' net'/\net'.length=i/\WFn net') ?_ ?_ ?_ ?_
   ·exact ⟨none,none,[],[],rfl,qA2 hp' _,qA1,.nil,rfl,WFn.nil⟩
   ·rintro i σ Hd hi ⟨v1,v2,rs',net',rfl,sm2,_⟩;exact SqL.of (sm2 _ _ hpc)
   ·refine fun i x σ Hd T hx hI_11 hT=>opq fun G_11 hG_11=>?_;obtain ⟨v1,v2,rs',net',rfl,sm2,hpd,N2,hl2,wf2⟩:=hI_11;obtain ⟨r,hr1,rfl⟩:=qNB hx;obtain ⟨zs,hz,hr2⟩:=qDL N hr1;refine hG_11 ?_;have hi:i<rs.length:=(B0.mp hr1).1;have rz:=wf i zs hz;have sT:=qA2 hT (.tup [.int (i:Int),.ref r]);have hrT:=sT _ _ (sm2 _ _ hr2);have hpT:=sT _ _ hpd;have NT:=N2.same fun r' zs' e=>sT _ _ e;have smT:=sm2.trans sT;have gT:SqT K (Ah Hd T (.tup [.int (i:Int),.ref r])) T [.int (i:Int),.ref r]:=SqT.of qA1;generalize Ah Hd T (.tup [.int (i:Int),.ref r])=HT' at hrT hpT NT smT gT ⊢;refine ⟨T,_,rfl,gT,rfl,_,_,rfl,_,_,rfl,rfl,?_⟩;refine ⟨_,rfl,_,rfl,_,_,rfl,rfl,_,rfl,?_⟩;refine ite2 (fun ck=>?_) (fun ck=>?_)
    ·have ck':(i:Int)<half:=of_decide_eq_true ck;rw [if_pos ck'] at rz;refine ⟨_,rfl,_,hpT,qB8 (by rw [A0,NetAt.len N2];omega),?_⟩
     rw [qCR];refine ⟨_,_,rs'++[r],net'++[zs],rfl,qAF smT hp',qA1,qBZ (qBL NT hrT) hpT,by rw [A8,D5,hl2],wf2.snoc ?_⟩
     rw [hl2];exact rz
    ·have ck':¬ (i:Int)<half:=of_decide_eq_false (Q9.mpr ck);rw [if_neg ck'] at rz;have lz:zs.length<=i:=by
      have e:((i:Int) - half)=(((i:Int) - half).toNat:Nat):=by omega
      rw [e] at rz;have:=rz.len;omega
     refine ⟨_,rfl,r,rfl,⟨_,SqT.of hrT⟩,fun p2 hp2=>?_⟩;refine qH4 (p:=p2) (a:=r) (xs:=zs.map V.int) (fun j σ He=>∃ (v:Option V),σ=[v,some (.int half)]/\Same HT' He/\He p2=some (.lst (((zs.take j).map (·+half)).map V.int))) ?_ ?_ ?_ ?_
     ·exact ⟨none,rfl,qA2 hp2 _,qA1⟩
     ·rintro j σ He hj ⟨v,rfl,sm3,_⟩;exact SqT.of (sm3 _ _ hrT)
     ·refine fun j x σ He hx2 hI_13=>opq fun G_13 hG_13=>?_;obtain ⟨v,rfl,sm3,hp3⟩:=hI_13;obtain ⟨z,hz2,rfl⟩:=qBA hx2;refine hG_13 ?_;refine ⟨_,rfl,_,rfl,_,_,rfl,rfl,_,hp3,qB8 (by rw [A0,A0,E5];omega),_,rfl,qAF sm3 hp2,?_⟩
      rw [qA1,E6,hz2,F4,D3,D3]
      rfl
     ·refine fun σ He hI_14=>opq fun G_14 hG_14=>?_;obtain ⟨v,rfl,sm3,hp3⟩:=hI_14;refine hG_14 ?_;rw [A0,F7 (C1 _)] at hp3;refine ⟨p2,_,rfl,.inl ⟨SqL.of hp3,fun r2 hr3=>?_⟩⟩;have s1:=qA2 hr3 (.tup ((zs.map (·+half)).map V.int));have s2:=sm3.trans s1;have g1:=s2 _ _ hpT;refine ⟨_,g1,qB8 (by rw [A0,NetAt.len N2];omega),?_⟩
      rw [qCR];refine ⟨_,_,rs'++[r2],net'++[zs.map (·+half)],rfl,qAF (smT.trans s2) hp',qA1,qBZ (qBL (NT.same fun r' zs' e=>s2 _ _ e) qA1) g1,by rw [A8,D5,hl2],wf2.snoc ?_⟩
      rw [hl2];have:=rz.shift hf0;rw [show (i:Int) - half+half=(i:Int) by omega] at this
      exact this
   ·refine fun σ Hd hI_15=>opq fun G_15 hG_15=>?_;obtain ⟨v1,v2,rs',net',rfl,sm2,hpd,N2,hl2,wf2⟩:=hI_15;refine hG_15 ?_;refine ⟨p',_,rfl,.inl ⟨SqL.of hpd,fun a ha=>?_⟩⟩;have s1:=qA2 ha (.tup (rs'.map V.ref));refine q a net' t' ms _ (S3.same (sm2.trans s1)) (by omega) (by omega) (K12.trans (k3.trans (.of_same (sm2.trans s1)))) ⟨rs',qA1,N2.same fun r ys e=>s1 _ _ e⟩ wf2 ?_
    rw [hl2,A0,E9 N,hl];omega
 refine hN6 _ _ ?_;refine ⟨_,rfl,m,rfl,by omega,by omega,fun p hp=>?_⟩
 refine qHU (p:=p) (lo:=0) (n:=m.toNat) (fun i σ Hc=>∃ (v:Option V) (t':Int) (ms:List Int) (rs:List Addr) (Af:List (List Int)),σ=[v,some (.ref d)]/\StAt Hc d c t' ms/\t+2<=t'/\t'<=t+2+9 * i/\Keep d c H2 Hc/\Hc p=some (.lst (rs.map V.ref))/\NetL Hc rs Af/\Af.length=i/\WFn Af) ?_ ?_ ?_
 ·exact ⟨none,t+1+1,ns2,[],[],rfl,S2.new hp _,by omega,by omega,qE2 hp _,qA1,.nil,rfl,WFn.nil⟩
 ·refine fun i σ Hc hi hI_16=>opq fun G_16 hG_16=>?_;obtain ⟨v,t',ms,rs,Af,rfl,S3,b1,b2,k3,hpc,N,hl,wf⟩:=hI_16;refine hG_16 ?_;have npd:p ≠ d:=(qA5 S2.dict hp).symm;have npc:p ≠ c:=(qA5 S2.list hp).symm;refine ⟨_,rfl,_,rfl,d,c,t',ms,0+(i:Int),rfl,S3,(by show t'<=1000000000 - 20;omega),by omega,by omega,fun r zs t'' ms2 H3 e1 e2 e3 e4 e5 e6=>?_⟩
  have g1:=e4 _ _ hpc npd npc;refine ⟨_,g1,qB8 (by rw [A0,NetAt.len N];omega),?_⟩
  rw [qCR];refine ⟨_,t'',ms2,rs++[r],Af++[zs],rfl,⟨by rw [qA8 (M8 npd)];exact e1.dict,by rw [qA8 (M8 npc)];exact e1.list,e1.ne,e1.len,e1.pos⟩,by omega,by omega,qOJ (k3.trans e4) hp,qA1,qBZ (qBL (N.keep (fun r ys e=>S3.tup e) e4) e5) g1,by rw [A8,D5,hl],wf.snoc ?_⟩
  rw [hl];exact e6.mono (by omega)
 ·refine fun σ Hc hI_17=>opq fun G_17 hG_17=>?_;obtain ⟨v,t',ms,rs,Af,rfl,S3,b1,b2,k3,hpc,N,hl,wf⟩:=hI_17;refine hG_17 ?_;refine ⟨p,_,rfl,.inl ⟨SqL.of hpc,fun a ha=>?_⟩⟩;have s1:=qA2 ha (.tup (rs.map V.ref));exact q a Af t' ms _ (S3.same s1) (by omega) (by omega) (K12.trans (k3.trans (.of_same s1))) ⟨rs,qA1,N.same fun r ys e=>s1 _ _ e⟩ wf (by rw [hl];omega)
end
section
variable {P:Program} {w:World} {K:PySem.W.Frag} {mg:Str->Option Value} {base:Heap} {f:Addr} {fd:FuncData} {qE4 qDP:Addr} {qH7 qFI:FuncData}
theorem qL3:FnScope ["thing"] ["thing"] (qAC qDV):=⟨rfl,rfl,rfl,by decide +kernel,rfl,by decide +kernel,by decide +kernel⟩
theorem ok_is_number (F:Fun K "is_number" "is_number" qDV f fd) (qA9:mg "isinstance" = none) (qGD:mg "int" = none) (qEC:mg "bool" = none):FnOk P w K mg base CX0 1 f fd ["thing"] qUR:=by
 refine F.ok qL3 (fun vs H Q E h=>?_) (fun cdv A outer s H vs Q E hr h=>?_)
 ·obtain ⟨x,n,d,rfl,_⟩:=h
  rfl
 obtain ⟨x,n,d,rfl,D,q⟩:=h;refine ⟨_,(qA7 (qAK (qJE (qAA qBH rfl qA9 qAV (qA0 (pv 0) (qA0 (qDZ (v:=.ty "int") rfl qGD qOZ rfl) qA3))) (qOB (qUY (qAA qBH rfl qA9 qAV (qA0 (pv 0) (qA0 (qDZ (v:=.ty "bool") rfl qEC qNJ rfl) qA3)))))))),?_⟩
 try dsimp only [Cx.nox,Cx.wish,cxOf]
 obtain ⟨t,ty,k1,k2,k3⟩:=qNT (K:=K) D;refine ⟨_,rfl,x,"int",t,_,rfl,ty,k1,_,rfl,?_⟩;have e:numB d=((numB d || qKG d) && !qKG d):=by cases d <;> rfl
 cases c:(numB d || qKG d) with
 | false=>
  rw [if_neg C6];rw [c,O7] at e;rw [e] at q;exact q
 | true=>
  rw [if_pos rfl];rw [c,R7] at e;rw [e] at q;exact ⟨_,rfl,x,"bool",t,_,rfl,ty,k2,_,rfl,q⟩
theorem qMR:FnScope ["thing","end"] ["thing","end"] (qAC qEV):=⟨rfl,rfl,rfl,by decide +kernel,rfl,by decide +kernel,by decide +kernel⟩
theorem ok_is_below (F:Fun K "is_below" "is_below" qEV f fd) (qE9:Clb P w K mg base 1 qE4 qH7 "is_number" ["thing"] qUR):FnOk P w K mg base CX0 2 f fd ["thing","end"] qO2:=by
 refine F.ok qMR (fun vs H Q E h=>?_) (fun cdv A outer s H vs Q E hr h=>?_)
 ·obtain ⟨x,n,d,e,rfl,_⟩:=h
  rfl
 obtain ⟨x,n,d,e,rfl,D,q⟩:=h;refine ⟨_,(qA7 (qAK (qJE (qBB qE9 hr rfl (qA0 (pv 0) qA3)) (qOB (qOE qY4 qTO qA6 (pv 0) (pv 1)))))),?_⟩
 try dsimp only [Cx.nox,Cx.wish,cxOf]
 refine ⟨_,rfl,x,n,d,rfl,D,_,rfl,?_⟩;cases c:numB d with
 | false=>
  rw [if_neg C6];have e1:qCH e d=false:=by cases d <;> first | rfl | cases c
  rw [e1] at q;exact q
 | true=>
  rw [if_pos rfl];obtain ⟨i,rfl,rfl⟩:=qIP D c;refine ⟨_,rfl,_,_,rfl,rfl,?_⟩;refine ⟨_,rfl,?_⟩;have q:Q (.bl (decide (0<=i) && decide (i<e))) H:=q;cases c1:decide ((0:Int)<=i) with
  | false=>
   rw [c1,O7] at q;exact iteF q
  | true=>
   rw [c1,R7] at q;exact iteT ⟨_,rfl,_,_,rfl,rfl,q⟩
end
section
variable {P:Program} {w:World} {K:PySem.W.Frag} {mg:Str->Option Value} {base:Heap} {f:Addr} {fd:FuncData}
theorem qYL {p:List Int} (h:p ≠ []):atI (p.map V.int) 0=some (.int (hd p)):=by
 cases p with
 | nil=>exact absurd rfl h
 | cons x p=>exact qCN (O3 _) rfl
theorem qOI {r:Addr} {rs:List Addr}:(((r::rs).reverse.map V.ref)[((r::rs).reverse.map V.ref).length - 1]?=some (V.ref r))/\((r::rs).reverse.map V.ref).dropLast=rs.reverse.map V.ref:=by
 rw [k9,D3]
 constructor
 ·rw [A8,A0,A0];simp
 ·simp
theorem sc_Lpaths:FnScope ["_law_net_here","_law_work","_law_found","_law_pile","_law_path"] ["_law_net_here","_law_work"] (qAC qHR):=⟨rfl,rfl,rfl,by decide +kernel,rfl,by decide +kernel,by decide +kernel⟩
theorem ok_Lpaths (F:Fun K "_law_paths" "_law_paths" qHR f fd) (qAZ:mg "sorted" = none):FnOk P w K mg base CX0 1 f fd ["_law_net_here","_law_work"] qNY:=by
 refine F.ok sc_Lpaths (fun vs H Q E h=>?_) (fun cdv A outer s H vs Q E hr h=>?_)
 ·obtain ⟨a,Af,work,rfl,_⟩:=h
  rfl
 obtain ⟨a,Af,work,rfl,hN,wf,n401,w0,w1,few,q⟩:=h;have hu64:=hr.units;have hu0:=hr.units0;refine ⟨_,(qA4 (qAB (i:=2) sc_Lpaths.nd rfl (G4 rfl) (qAQ qA3)) (qA4 (qAB (i:=3) sc_Lpaths.nd rfl (G4 rfl) (qAQ (qA0 (qCL (qA0 (pv 1) qA3)) qA3))) (qA4 (qFT J3 (qAP (qR8 hu0) (pv 3) (qAQ qA3) (qB1 _)) (qA4 (qAB (i:=4) sc_Lpaths.nd rfl (B58 rfl) (qUZ G3 A84 A85 qV3 (pv 3))) (qA4 (qBY (qAP (qJG hu0) (qC7 qCM (pv 0) (qC7 qCM (pv 4) qA6 (fun _ _=>rfl)) (fun _ _=>rfl)) (qCL qA3) (qB1 _)) (qA7 (qC6 (qHK G3 O1 O2 qC0 (pv 2) (qA0 (pv 4) qA3)))) qAO) (qA7 (qC6 (qHK G3 o6 o8 qLJ (pv 3) (qA0 (qFE rfl (lcs (own:=["_law_need"]) (fv:=[4]) (by kernel_rfl)) (qD6 (qC7 qCM (pv 0) (qC7 qCM (pv 4) qA6 (fun _ _=>rfl)) (fun _ _=>rfl))) (fun z1=>qAG (i:=0) (qE0 (by kernel_rfl)) rfl (G4 rfl)) (fun z1=>qBN) (fun z1=>(qAD (qTP (K:=K) rfl) (qCL (qA0 (pv 0) qA3)) (pv 1)))) qA3))))))) (qA7 (qAK (qAA (L2.G.call_sortedTL rfl hu64) rfl qAZ qEO (qA0 (pv 2) qA3))))))),?_⟩
 try dsimp only [Cx.nox,Cx.wish,cxOf]
 obtain ⟨rs,hA,NL⟩:=id hN;have lrs:=E9 NL;refine cut fun N1 hN1=>?_;refine ⟨(by show 0<=sizeLine;decide),fun lp hlp=>?_⟩
 have s2:=qA2 hlp (.lst []);have flp:H lp=none:=hlp;have g2:(Ah H lp (.lst [])) lp=some (.lst (([]:List Addr).map V.ref)):=qA1;generalize Ah H lp (.lst [])=H2 at s2 g2 ⊢;refine hN1 _ _ (cut fun N2 hN2=>?_);refine ⟨_,rfl,(by show 1<=sizeLine;decide),fun r0 hr0=>?_⟩
 have t3:=qA2 hr0 (.tup [.int work]);have g3:(Ah H2 r0 (.tup [.int work])) r0=some (.tup ([work].map V.int)):=qA1;generalize Ah H2 r0 (.tup [.int work])=H3 at t3 g3 ⊢;refine ⟨(by show 1<=sizeLine;decide),fun lb hlb=>?_⟩
 have t4:=qA2 hlb (.lst [.ref r0]);have s4:=s2.trans (t3.trans t4);have flb:H lb=none:=(s2.trans t3).free hlb;have g4:(Ah H3 lb (.lst [.ref r0])) lb=some (.lst ([r0].reverse.map V.ref)):=qA1;have g4p:=(t3.trans t4) _ _ g2;have N4:NetL (Ah H3 lb (.lst [.ref r0])) [r0] [[work]]:=.cons (t4 _ _ g3) .nil;have npb:lp ≠ lb:=qA5 (t3 _ _ g2) hlb;generalize Ah H3 lb (.lst [.ref r0])=H4 at s4 g4 g4p N4 ⊢;refine hN2 _ _ (cut fun N3 hN3=>?_);refine ⟨fun m σ Hc=>∃ (fs st:List (List Int)) (frs srs:List Addr) (v4:Option V),σ=[some (.ref a),some (.int work),some (.ref lp),some (.ref lb),v4]/\m=msP Af st/\Same H Hc/\Hc lp=some (.lst (frs.map V.ref))/\NetL Hc frs fs/\Hc lb=some (.lst (srs.reverse.map V.ref))/\NetL Hc srs st/\PWay Af work fs st,
  ⟨_,[],[[work]],[],[r0],none,rfl,rfl,s4,g4p,.nil,g4,N4,PWay.start w0 w1⟩,?_⟩
 refine fun m σ Hb hI_1=>opq fun G_1 hG_1=>?_;obtain ⟨fs,st,frs,srs,v4,rfl,rfl,sb,gp0,NF0,gb0,NS0,PW⟩:=hI_1;refine hG_1 ?_;refine ⟨_,rfl,(by show 0<=sizeLine;decide),fun en hen=>?_⟩
 have t0:=qA2 hen (.lst []);have gen:(Ah Hb en (.lst [])) en=some (.lst []):=qA1;have sc:=sb.trans t0;have gp:=t0 _ _ gp0;have gb:=t0 _ _ gb0;have NF:NetL (Ah Hb en (.lst [])) frs fs:=NF0.same fun r ys e=>t0 _ _ e;have NS:NetL (Ah Hb en (.lst [])) srs st:=NS0.same fun r ys e=>t0 _ _ e;clear gp0 NF0 gb0 NS0;generalize Ah Hb en (.lst [])=Hc at gen sc gp gb NF NS ⊢;refine ⟨lb,en,_,rfl,rfl,SqL.of gb,SqL.of gen,_,rfl,?_⟩;cases NS with
 | nil=>
  refine iteF ?_;refine hN3 _ _ ?_;have lf:=PW.lens wf w0 few;have fok:=PW.fok;have ef:=PW.done;refine ⟨_,rfl,lp,frs,fs,rfl,SqL.of gp,NF,(fun t ht=>(fok t ht).ne),fun l rs' ts' hl pr T pm so=>?_⟩;have sl:=qA2 hl (.lst (rs'.map V.ref));refine q l ts' _ (sc.trans sl) (sc.free hl) ⟨rs',qA1,NetL.same T fun r ys e=>sl _ _ e⟩ ⟨by rw [<- ef];exact pm,so⟩ ?_ fun t ht=>?_
  ·rw [pm.length_eq];omega
  ·have P:=fok t (pm.mem_iff.mp ht);have:=P.len;have:=P.h0;omega
 | @cons r p srs st gr NS=>
  have nr:(!((r::srs).reverse.map V.ref).isEmpty)=true:=by simp
  rw [if_pos nr];have P:=PW.ok p C9;have lens:=PW.lens1 wf w0 few;obtain ⟨PW2,ms2⟩:=PW.step wf;have lfr:=E9 NF;have lsr:=E9 NS;refine ⟨fun σ' H'=>∃ (fs' st':List (List Int)) (frs srs:List Addr) (v4:Option V),σ'=[some (.ref a),some (.int work),some (.ref lp),some (.ref lb),v4]/\msP Af st'<msP Af (p::st)/\Same H H'/\H' lp=some (.lst (frs.map V.ref))/\NetL H' frs fs'/\H' lb=some (.lst (srs.reverse.map V.ref))/\NetL H' srs st'/\PWay Af work fs' st',
   fun σ' H' ⟨fs',st',frs,srs,v4,e,ms,z⟩=>⟨_,ms,fs',st',frs,srs,v4,e,rfl,z⟩,?_⟩
  refine cut fun M0 hM0=>?_;refine ⟨_,rfl,.inl ⟨rfl,_,SqL.of gb⟩,lb,_,_,rfl,rfl,gb,qOI.1,?_⟩;rw [qOI.2];have k5:∀ (b:Addr) (xs:List V),Hc b=some (.tup xs)->(Ah Hc lb (.lst (srs.reverse.map V.ref))) b=some (.tup xs):=fun b xs e=>by rw [qA8 (qDN e gb (by intro z;cases z))];exact e
  have s5:Same H (Ah Hc lb (.lst (srs.reverse.map V.ref))):=qAF sc flb;have gb5:(Ah Hc lb (.lst (srs.reverse.map V.ref))) lb=some (.lst (srs.reverse.map V.ref)):=qA1;have gp5:(Ah Hc lb (.lst (srs.reverse.map V.ref))) lp=some (.lst (frs.map V.ref)):=by rw [qA8 npb];exact gp
  have NF5:=NF.same k5;have NS5:=NetL.same NS k5;have gr5:=k5 _ _ gr;generalize Ah Hc lb (.lst (srs.reverse.map V.ref))=H5 at s5 gb5 gp5 NF5 NS5 gr5 ⊢;have hw:(hd p).toNat<Af.length:=by have:=P.h0;have:=P.h1;omega
  obtain ⟨rs',rn,h1,l1,h2,h3⟩:=hN.get (B9 hw);have ey:=qCF (B9 hw);generalize Af[(hd p).toNat]=ys at h3 ey;refine hM0 _ _ (cut fun M1 hM1=>?_);refine ⟨_,rfl,_,rfl,r,_,_,_,rfl,rfl,SqT.of gr5,qYL P.ne,a,_,_,_,rfl,rfl,SqT.of (s5 _ _ h1),qCN P.h0 h2,(by show 0<=sizeLine;decide),fun et het=>?_⟩
  have t6:=qA2 het (.tup []);refine ⟨rn,et,_,rfl,rfl,SqT.of (t6 _ _ (s5 _ _ h3)),SqT.of qA1,_,rfl,?_⟩;have s5:=s5.trans t6;have gb5:=t6 _ _ gb5;have gp5:=t6 _ _ gp5;have NF5:=NF5.same fun r ys e=>t6 _ _ e;have NS5:=NetL.same NS5 fun r ys e=>t6 _ _ e;have gr5:=t6 _ _ gr5;generalize Ah H5 et (.tup [])=H5 at s5 gb5 gp5 NF5 NS5 gr5 ⊢;have rest:∀ (frs':List Addr) (H6:Hp),Same H H6->H6 lp=some (.lst (frs'.map V.ref))->NetL H6 frs' (nxF Af fs p)->H6 lb=some (.lst (srs.reverse.map V.ref))->NetL H6 srs st->H6 r=some (.tup (p.map V.int))->M1 [some (.ref a),some (.int work),some (.ref lp),some (.ref lb),some (.ref r)] H6:=by
   intro frs' H6 s6 gp6 NF6 gb6 NS6 gr6;refine hM1 _ _ ?_;refine ⟨_,rfl,.inl ⟨rfl,_,SqL.of gb6⟩,_,rfl,_,rfl,r,_,_,_,rfl,rfl,SqT.of gr6,qYL P.ne,a,_,_,_,rfl,rfl,SqT.of (s6 _ _ h1),qCN P.h0 h2,rn,rfl,⟨_,SqT.of (s6 _ _ h3)⟩,fun lq hlq=>?_⟩;refine qH4 (p:=lq) (a:=rn) (xs:=ys.map V.int) (fun j σ Hd=>∃ (v:Option V) (qs:List Addr),σ=[v,some (.ref r)]/\Same H6 Hd/\Hd lq=some (.lst (qs.map V.ref))/\NetL Hd qs ((ys.take j).map fun z=>z::p)) ?_ ?_ ?_ ?_
   ·exact ⟨none,[],rfl,qA2 hlq _,qA1,.nil⟩
   ·rintro j σ Hd hj ⟨v,qs,rfl,sd,_⟩;exact SqT.of (sd _ _ (s6 _ _ h3))
   ·refine fun j x σ Hd hx hI_3=>opq fun G_3 hG_3=>?_;obtain ⟨v,qs,rfl,sd,gqd,NQ⟩:=hI_3;obtain ⟨y,eyy,rfl⟩:=qBA hx;refine hG_3 ?_;have hj:=(B0.mp eyy).1;have lqs:=E9 NQ;rw [A0,E5] at lqs;rw [ey] at lens;have grd:=sd _ _ gr6;refine ⟨_,rfl,(by show 1<=sizeLine;decide),fun t1 ht1=>?_⟩
    have u1:=qA2 ht1 (.tup [.int y]);have pl:=P.len;have p0:=P.h0;refine ⟨_,rfl,t1,r,_,_,rfl,rfl,SqT.of qA1,SqT.of (u1 _ _ grd),by simp,by simp only [E3,O5,A0,sizeLine_eq];omega,fun z=>?_,fun _ t2 ht2=>?_⟩
    ·exact absurd (List.map_eq_nil_iff.mp z) P.ne
    have u2:=qA2 ht2 (.tup ([.int y]++p.map V.int));have uu:=u1.trans u2;have gq2:=uu _ _ gqd;have gt2:(Ah (Ah Hd t1 (.tup [.int y])) t2 (.tup ([.int y]++p.map V.int))) t2=some (.tup ((y::p).map V.int)):=qA1;generalize Ah (Ah Hd t1 (.tup [.int y])) t2 (.tup ([.int y]++p.map V.int))=He at uu gq2 gt2 ⊢;refine ⟨_,gq2,qB3 (by rw [A0];omega),?_⟩
    rw [qCR];have eT:(ys.take (j+1)).map (fun z=>z::p)=(ys.take j).map (fun z=>z::p)++[y::p]:=by rw [E6,eyy,F4,D3];rfl
    rw [eT];exact ⟨_,qs++[t2],rfl,qAF (sd.trans uu) hlq,qA1,qBZ (qBL (NQ.same fun r ys e=>uu _ _ e) gt2) gq2⟩
   ·refine fun σ Hd hI_4=>opq fun G_4 hG_4=>?_;obtain ⟨v,qs,rfl,sd,gqd,NQ⟩:=hI_4;refine hG_4 ?_;rw [A0,qT8 rfl] at NQ;have lqs:=E9 NQ;rw [A0] at lqs;rw [ey] at lens;have gbd:=sd _ _ gb6;refine ⟨lb,lq,_,_,rfl,rfl,gbd,gqd,by rw [A0,A0,Y2,sizeLine_eq];omega,?_⟩
    rw [<- D3];refine ⟨nxF Af fs p,nxS Af p st,frs',qs.reverse++srs,_,rfl,ms2,qAF (s6.trans sd) flb,by rw [qA8 npb];exact sd _ _ gp6,qBZ (NF6.same fun r ys e=>sd _ _ e) gbd,by rw [qA1,d7,A02],?_,PW2⟩
    unfold nxS;rw [ey];exact qBZ (qPH (qMY NQ) (NetL.same NS6 fun r ys e=>sd _ _ e)) gbd
  unfold nxF at rest;rw [ey] at rest;cases ys with
  | nil=>
   refine iteT ?_;have l1:=lens.2;refine ⟨_,rfl,.inl ⟨rfl,_,SqL.of gp5⟩,_,rfl,lp,_,_,rfl,rfl,gp5,qB3 (by rw [A0];omega),?_⟩
   rw [qCR];refine rest (frs++[r]) _ (qAF s5 flp) qA1 ?_ (by rw [qA8 npb.symm];exact gb5) (qBZ NS5 gp5) (by rw [qA8 (qDN gr5 gp5 (by intro z;cases z))];exact gr5)
   rw [if_pos rfl];exact qBZ (qBL NF5 gr5) gp5
  | cons y ys=>
   refine iteF ?_;refine rest frs _ s5 gp5 ?_ gb5 NS5 gr5;rw [if_neg (by simp)]
   exact NF5
end
section
variable {P:Program} {w:World} {K:PySem.W.Frag} {mg:Str->Option Value} {base:Heap} {f:Addr} {fd:FuncData}
theorem sc_side_ends:FnScope ["net","path","ends","work","need"] ["net","path"] (qAC qDU):=⟨rfl,rfl,rfl,by decide +kernel,rfl,by decide +kernel,by decide +kernel⟩
theorem ok_side_ends (F:Fun K "side_ends" "side_ends" qDU f fd):FnOk P w K mg base CX0 1 f fd ["net","path"] qGG:=by
 refine F.ok sc_side_ends (fun vs H Q E h=>?_) (fun cdv A outer s H vs Q E hr h=>?_)
 ·obtain ⟨a,t,Af,path,rfl,_⟩:=h
  rfl
 obtain ⟨a,t,Af,path,rfl,⟨hN,wf,n400,hT,pne,lp,pin⟩,q⟩:=h;have hu:=qFG hr;refine ⟨_,(qA4 (qAB (i:=2) sc_side_ends.nd rfl (G4 rfl) qOD) (qA4 (qCK J3 rfl (qD6 (qAT qKV (pv 1) (qB4 qA6) qB9)) (qAG (i:=3) sc_side_ends.nd rfl (G4 rfl)) (qA7 (qCK J3 rfl (qD6 (qC7 qCM (pv 0) (pv 3) (fun _ _=>rfl))) (qAG (i:=4) sc_side_ends.nd rfl (G4 rfl)) (qA7 (qBY (qAP qCE (pv 4) (pv 1) (by with_unfolding_all rfl)) (qA7 (qFD hu (pv 2) (pv 4) qDK rfl)) qAO))))) (qA7 (qAK (pv 2))))),?_⟩
 try dsimp only [Cx.nox,Cx.wish,cxOf]
 obtain ⟨rs,hA,NL⟩:=id hN;have lrs:=E9 NL;refine cut fun N0 hN0=>?_;refine fun d hd=>?_;have s1:=qA2 hd (.dK []);have gd1:(Ah H d (.dK [])) d=some (.dK []):=qA1;generalize Ah H d (.dK [])=H1 at s1 gd1 ⊢;refine hN0 _ _ (cut fun N1 hN1=>?_);have lpath:1<=path.length:=Y3.mpr pne;refine ⟨_,rfl,_,rfl,t,_,rfl,SqT.of (s1 _ _ hT),?_,fun t1 ht1=>?_⟩
 ·rw [A0,show (1:Int)=((1:Nat):Int) from rfl,HT.sIx_nat];omega
 rw [qB5,show (1:Int)=((1:Nat):Int) from rfl,qDQ _ _ lpath];have s2:=qA2 ht1 (.tup ((path.drop 1).map V.int));have g2:(Ah H1 t1 (.tup ((path.drop 1).map V.int))) t1=some (.tup ((path.drop 1).map V.int)):=qA1;have gd2:=s2 _ _ gd1;generalize Ah H1 t1 (.tup ((path.drop 1).map V.int))=H2 at s2 g2 gd2 ⊢;have s02:=s1.trans s2;have nt1:t1 ≠ d:=qDN g2 gd2 (by intro z;cases z)
 refine ⟨t1,rfl,⟨_,SqT.of g2⟩,qGQ (a:=t1) (xs:=(path.drop 1).map V.int) (fun i σ Hc=>∃ (Ag:List (Key × V)) (v3 v4:Option V),σ=[some (.ref a),some (.ref t),some (.ref d),v3,v4]/\Same H Hc/\Hc t1=some (.tup ((path.drop 1).map V.int))/\Hc d=some (.dK Ag)/\Ag.length<=400 * i/\∀ z:Int,(valV Ag (G7 z)).isSome=true ↔ z ∉ path/\∃ w ∈ (path.drop 1).take i,z ∈ nd Af w)
  ⟨[],none,none,rfl,s02,g2,gd2,G5 _,fun z=>by simp [valV]⟩ (fun i σ Hc _ hP=>by obtain ⟨_,_,_,_,_,g,_⟩:=hP;exact SqT.of g) ?_ ?_⟩
 ·refine fun i x σ Hc hx hI_1=>opq fun G_1 hG_1=>?_;obtain ⟨Ag,v3,v4,rfl,sc,gt,gd,lk,hv⟩:=hI_1;obtain ⟨wk,ew,rfl⟩:=qBA hx;refine hG_1 ?_;have hi:=(B0.mp ew).1;rw [F5] at hi;have wb:=pin wk (M9 (D8 ew));have hw:wk.toNat<Af.length:=by omega
  have hz:=B9 hw;obtain ⟨r,h3,h4⟩:=NL.get hz;have en:=qCF hz;have ln:=(wf wk.toNat _ hz).len;generalize Af[wk.toNat]=zs at h4 hz en ln;refine ⟨_,rfl,_,rfl,a,_,_,_,rfl,rfl,SqT.of (sc _ _ hA),qCN wb.1 (by rw [D7,h3];rfl),r,rfl,⟨_,SqT.of (sc _ _ h4)⟩,qGQ (a:=r) (xs:=zs.map V.int) (fun j σ Hd=>∃ (Ag:List (Key × V)) (v4:Option V),σ=[some (.ref a),some (.ref t),some (.ref d),some (.int wk),v4]/\Same H Hd/\Hd t1=some (.tup ((path.drop 1).map V.int))/\Hd d=some (.dK Ag)/\Ag.length<=400 * i+j/\∀ z:Int,(valV Ag (G7 z)).isSome=true ↔ z ∉ path/\((∃ w ∈ (path.drop 1).take i,z ∈ nd Af w)\/z ∈ zs.take j))
   ⟨Ag,v4,rfl,sc,gt,gd,by omega,fun z=>by rw [hv z];simp⟩ (fun j σ Hd _ hP=>by obtain ⟨_,_,_,sd,_⟩:=hP;exact SqT.of (sd _ _ h4)) ?_ ?_⟩
  ·refine fun j x σ Hd hx hI_2=>opq fun G_2 hG_2=>?_;obtain ⟨Ag,v4,rfl,sd,gtd,gd,lk,hv⟩:=hI_2;obtain ⟨y,ey,rfl⟩:=qBA hx;refine hG_2 ?_;have hj:=(B0.mp ey).1;refine ⟨_,rfl,_,rfl,t,_,rfl,.inr (SqT.of (sd _ _ hT)),rfl,qCG path,_,rfl,?_⟩;rw [qEL];by_cases c:y ∈ path
   ·rw [decide_eq_true c];refine iteF ?_;refine ⟨Ag,_,rfl,sd,gtd,gd,by omega,fun z=>?_⟩
    rw [hv z,E6,ey,F4,C8,C0];refine and_congr_right fun nz=>⟨fun h=>h.imp id .inl,fun h=>h.imp id fun h=>h.resolve_right fun e=>nz (e ▸ c)⟩
   ·rw [decide_eq_false c];refine iteT ?_;refine ⟨_,rfl,_,rfl,d,_,rfl,DPut.k (k:=G7 y) gd (qB3 (by omega)),?_⟩
    refine ⟨_,_,rfl,qAF sd hd,by rw [qA8 nt1];exact gtd,qA1,M6 (qBW _ _ _) (by omega),fun z=>?_⟩
    rw [qHO,E6,ey,F4,C8,C0];by_cases e:z=y
    ·rw [e,if_pos rfl];exact ⟨fun _=>⟨c,.inr (.inr rfl)⟩,fun _=>rfl⟩
    ·rw [if_neg fun u=>e (v8 u),hv z];exact and_congr_right fun _=>or_congr_right ⟨.inl,fun h=>h.resolve_right e⟩
  ·refine fun σ Hd hI_3=>opq fun G_3 hG_3=>?_;obtain ⟨Ag,v4,rfl,sd,gtd,gd,lk,hv⟩:=hI_3;refine hG_3 ?_;rw [A0] at lk hv;rw [J8] at hv;refine ⟨Ag,_,_,rfl,sd,gtd,gd,by omega,fun z=>?_⟩
   rw [hv z,E6,ew,F4];refine and_congr_right fun _=>⟨?_,?_⟩
   ·rintro (⟨u,h1,h2⟩ | h)
    ·exact ⟨u,T6 _ h1,h2⟩
    ·exact ⟨wk,J6 _ C9,by rw [en];exact h⟩
   ·refine fun hI_4=>opq fun G_4 hG_4=>?_;obtain ⟨u,h1,h2⟩:=hI_4;refine hG_4 ?_;rcases C8.mp h1 with h | h
    ·exact .inl ⟨u,h,h2⟩
    ·rw [C0.mp h,en] at h2;exact .inr h2
 ·refine fun σ Hc hI_5=>opq fun G_5 hG_5=>?_;obtain ⟨Ag,v3,v4,rfl,sc,gt,gd,lk,hv⟩:=hI_5;refine hG_5 ?_;rw [A0,J8] at hv;exact hN1 _ _ ⟨_,rfl,q d Ag Hc sc hd gd fun z=>(hv z).trans end_iff.symm⟩
end
section
variable {P:Program} {w:World} {K:PySem.W.Frag} {mg:Str->Option Value} {base:Heap} {f:Addr} {fd:FuncData} {qCA:Addr} {qD9:FuncData} {tk_SOURCE tk_GOAL:Tok}
theorem sc_free_ways:FnScope ["net","path","ends","ways","work","needs","need"] ["net","path"] (qAC qDW):=⟨rfl,rfl,rfl,by decide +kernel,rfl,by decide +kernel,by decide +kernel⟩
theorem ok_free_ways (F:Fun K "free_ways" "free_ways" qDW f fd) (m_SOURCE:mg "SOURCE" = some (.int (-1) tk_SOURCE)) (m_GOAL:mg "GOAL" = some (.int (-2) tk_GOAL)) (qBI:Clb P w K mg base 1 qCA qD9 "side_ends" ["net","path"] qGG) (qBD:mg "enumerate" = none):FnOk P w K mg base CX0 2 f fd ["net","path"] qJ8:=by
 refine F.ok sc_free_ways (fun vs H Q E h=>?_) (fun cdv A outer s H vs Q E hr h=>?_)
 ·obtain ⟨a,t,Af,path,rfl,_⟩:=h
  rfl
 obtain ⟨a,t,Af,path,rfl,PI,q⟩:=h;have hu:=qFG hr;refine ⟨_,(qA4 (qAB (i:=2) sc_free_ways.nd rfl (G4 rfl) (qBB qBI hr rfl (qA0 (pv 0) (qA0 (pv 1) qA3)))) (qA4 (qAB (i:=3) sc_free_ways.nd rfl (G4 rfl) (qMX (qFU (qCJ (v:=.int (-1)) rfl m_SOURCE ⟨_,rfl⟩) (qAQ qA3) (qFU (qCJ (v:=.int (-2)) rfl m_GOAL ⟨_,rfl⟩) (qAQ qA3) qMW)) rfl rfl (by simp) (by decide))) (qA4 (qCK J3 rfl (qTN rfl qBD qHC (qA0 (pv 0) qA3)) (qLA rfl (qBU (qAG (i:=4) sc_free_ways.nd rfl (G4 rfl)) (qBU (qAG (i:=5) sc_free_ways.nd rfl (G4 rfl)) qGL))) (qA4 (qBY (qAP qLG (pv 4) (pv 1) (by with_unfolding_all rfl)) (qA7 qMV) qAO) (qA4 (qFD hu (pv 3) (qAD qD7 qA6 (pv 4)) (qAQ (qA0 (qAD qCY (qAD qD7 qA6 (pv 4)) qA6) qA3)) rfl) (qA4 (qFD hu (pv 3) (qAD qCY (qAD qD7 qA6 (pv 4)) qA6) (qK0 (qJD (qV0 hu (pv 4) (pv 2))) (qAQ (qA0 (qCJ (v:=.int (-2)) rfl m_GOAL ⟨_,rfl⟩) qA3)) (qAQ qA3)) rfl) (qA4 (qBY (qF9 (qJZ (pv 5) (fun _=>rfl))) (qA7 (qC6 (qHK G3 O1 O2 qC0 (qC8 hu (pv 3) (qCJ (v:=.int (-1)) rfl m_SOURCE ⟨_,rfl⟩) (fun _ _=>rfl)) (qA0 (qAD qD7 qA6 (pv 4)) qA3)))) qAO) (qA7 (qCK J3 rfl (qD6 (pv 5)) (qAG (i:=6) sc_free_ways.nd rfl (G4 rfl)) (qA7 (qBY (qAP qCE (pv 6) (pv 1) (by with_unfolding_all rfl)) (qA7 (qC6 (qHK G3 O1 O2 qC0 (qC8 hu (pv 3) (qAD qCY (qAD qD7 qA6 (pv 6)) qA6) (fun _ _=>rfl)) (qA0 (qAD qD7 qA6 (pv 4)) qA3)))) qAO))))))))) (qA7 (qAK (pv 3)))))),?_⟩
 try dsimp only [Cx.nox,Cx.wish,cxOf]
 obtain ⟨hN,wf,n400,hT,pne,lp,pin⟩:=id PI;obtain ⟨rs,hA,NL⟩:=id hN;have lrs:=E9 NL;refine cut fun N0 hN0=>?_;refine ⟨_,rfl,_,rfl,a,t,Af,path,rfl,PI,fun de kve H1 s1 fde gde hve=>?_⟩;refine hN0 _ _ (cut fun N1 hN1=>?_);refine fun d hd=>?_;have sd:=qA2 hd (.dK []);refine ⟨(by show 0<=sizeLine;decide),fun l1 hl1=>⟨(by show 0<=sizeLine;decide),fun l2 hl2=>?_⟩⟩
 have sl1:=qA2 hl1 (.lst []);have sl2:=qA2 hl2 (.lst []);have gd3:=(sl1.trans sl2) _ _ (qA1 (H:=H1) (a:=d) (o:=.dK []));refine ⟨gd3,[(G7 (-1),.ref l1),(G7 (-2),.ref l2)],rfl,(by show 2<=15;decide),?_⟩
 have em:qEK [] [((G7 (-1):Key),V.ref l1),(G7 (-2),V.ref l2)]=[(G7 (-1),.ref l1),(G7 (-2),.ref l2)]:=by
  unfold qEK;simp [putK]
 rw [em];have g1:=sl2 _ _ (qA1 (H:=Ah H1 d (.dK [])) (a:=l1) (o:=.lst []));have g2:(Ah (Ah (Ah H1 d (.dK [])) l1 (.lst [])) l2 (.lst [])) l2=some (.lst []):=qA1;have s13:=sd.trans (sl1.trans sl2);have n12:l1 ≠ l2:=qA5 (qA1 (H:=Ah H1 d (.dK [])) (a:=l1) (o:=.lst [])) hl2;have fl1:H l1=none:=(s1.trans sd).free hl1;have fl2:H l2=none:=(s1.trans (sd.trans sl1)).free hl2;have fd0:H d=none:=s1.free hd;have n1d:l1 ≠ d:=qDN g1 gd3 (by intro z;cases z)
 have n2d:l2 ≠ d:=qDN g2 gd3 (by intro z;cases z)
 have gde3:=s13 _ _ gde;generalize Ah (Ah (Ah H1 d (.dK [])) l1 (.lst [])) l2 (.lst [])=H2 at gd3 g1 g2 s13 gde3 ⊢;have s02:=s1.trans s13;have ndd:de ≠ d:=fun z=>by rw [z,hd] at gde;cases gde
 have WA0:WaysAt H (Ah H2 d (.dK [(G7 (-1),.ref l1),(G7 (-2),.ref l2)])) d (2 * 0+2) (inK Af path 0) (fwW Af path 0) (fun k=>if k = -1 then l1 else l2):=by
  have only:∀ k,inK Af path 0 k->k = -1\/k = -2:=fun k hk=>by
   rcases hk with h | h | ⟨v,f,h,_⟩
   ·exact .inl h
   ·exact .inr h
   ·have:=(free_in.mp f).1.1;omega
  refine ⟨⟨_,qA1,C1 _,fun k hk=>?_⟩,fun k hk=>?_,fun k k' hk hk' z=>?_,fun k hk=>?_,fd0,qAF s02 fd0⟩
  ·rcases only k hk with rfl | rfl <;> rfl
  ·rcases only k hk with rfl | rfl
   ·rw [if_pos rfl,qA8 n1d];exact g1
   ·rw [if_neg (by decide),qA8 n2d,fw_g];exact g2
  ·rcases only k hk with rfl | rfl <;> rcases only k' hk' with rfl | rfl
   ·rfl
   ·exact absurd z n12
   ·exact absurd z.symm n12
   ·rfl
  ·rcases only k hk with rfl | rfl
   ·exact fl1
   ·exact fl2
 have gde4:(Ah H2 d (.dK [(G7 (-1),.ref l1),(G7 (-2),.ref l2)])) de=some (.dK kve):=by rw [qA8 ndd];exact gde3
 generalize Ah H2 d (.dK [(G7 (-1),.ref l1),(G7 (-2),.ref l2)])=H3 at WA0 gde4 ⊢;refine hN1 _ _ (cut fun N2 hN2=>?_);refine ⟨_,rfl,a,rfl,⟨_,SqT.of (WA0.old _ _ hA)⟩,qS3 (a:=a) (xs:=rs.map V.ref) (fun i σ Hc=>∃ (ad:Int->Addr) (v4 v5 v6:Option V),σ=[some (.ref a),some (.ref t),some (.ref de),some (.ref d),v4,v5,v6]/\WaysAt H Hc d (2 * i+2) (inK Af path i) (fwW Af path i) ad/\Hc de=some (.dK kve)/\∀ k,inK Af path i k->ad k ≠ de)
  ⟨_,none,none,none,rfl,WA0,gde4,?_⟩ (fun i σ Hc _ hP=>by obtain ⟨_,_,_,_,_,WA,_⟩:=hP;exact SqT.of (WA.old _ _ hA)) ?_ ?_⟩
 ·intro k hk z;have:=WA0.lst k hk;rw [z,gde4] at this;cases this
 ·refine fun i x σ Hc T hx hI_1 hT0=>opq fun G_1 hG_1=>?_;obtain ⟨ad,v4,v5,v6,rfl,WA,gd,nde⟩:=hI_1;obtain ⟨r,er,rfl⟩:=qNB hx;obtain ⟨zs,hz,hr0⟩:=qDL NL er;refine hG_1 ?_;have hi:=(B0.mp hz).1;have rz:=wf i _ hz;have en:nd Af (i:Int)=zs:=by have:=qCF (Af:=Af) (w:=(i:Int)) (zs:=zs) (by rw [S0];exact hz);exact this
  have sT:=qA2 hT0 (.tup [.int (i:Int),.ref r]);have gT:SqT K (Ah Hc T (.tup [.int (i:Int),.ref r])) T [.int (i:Int),.ref r]:=SqT.of qA1;have WA1:=WA.same sT;have gd1:=sT _ _ gd;generalize Ah Hc T (.tup [.int (i:Int),.ref r])=H4 at sT gT WA1 gd1 ⊢;refine ⟨T,_,rfl,gT,rfl,_,_,rfl,_,_,rfl,rfl,?_⟩;refine cut fun N3 hN3=>?_;refine ⟨_,rfl,_,rfl,t,_,rfl,.inr (SqT.of (WA1.old _ _ hT)),rfl,qCG path,_,rfl,?_⟩;rw [qEL];by_cases c:(i:Int) ∈ path
  ·have nf:qAU Af path (i:Int)=false:=Q9.mpr fun z=>(free_in.mp z).2 c;have dm:∀ k,inK Af path (i+1) k->inK Af path i k:=by
    rintro k (h | h | ⟨v,f,h,hk⟩)
    ·exact .inl h
    ·exact .inr (.inl h)
    ·refine .inr (.inr ⟨v,f,?_,hk⟩);rcases Int.lt_trichotomy v (i:Int) with z | z | z
     ·exact z
     ·rw [z,nf] at f;cases f
     ·omega
   rw [decide_eq_true c];refine iteT ?_;exact ⟨ad,_,_,_,rfl,(WA1.dom (by omega) dm).congr fun x _=>qYO nf x,gd1,fun k hk=>nde k (dm k hk)⟩
  ·rw [decide_eq_false c];refine iteF ?_;have fr:qAU Af path (i:Int)=true:=free_in.mpr ⟨⟨by omega,by omega⟩,c⟩
   refine hN3 _ _ (cut fun N4 hN4=>?_);have cm2:∀ j:Int,CMul 2 j:=fun j=>.inl ⟨by decide,by decide⟩
   -- the work's own two
   refine ⟨_,rfl,_,_,rfl,rfl,cm2 _,_,_,rfl,rfl,(by show 1<=sizeLine;decide),fun e1 he1=>?_⟩
   have se1:=qA2 he1 (.lst [.int (2 * (i:Int)+1)]);have ge1:(Ah H4 e1 (.lst [.int (2 * (i:Int)+1)])) e1=some (.lst (([2 * (i:Int)+1]:List Int).map V.int)):=qA1;have WA2:=WA1.same se1;have fe1:H e1=none:=WA1.old.free he1;have ne1:∀ x,inK Af path i x->ad x ≠ e1:=fun x hx z=>by have:=WA1.lst x hx;rw [z,he1] at this;cases this
   have gd2:=se1 _ _ gd1;have nee:e1 ≠ de:=fun z=>by rw [z,gd1] at he1;cases he1
   generalize Ah H4 e1 (.lst [.int (2 * (i:Int)+1)])=H5 at se1 ge1 WA2 gd2 ⊢;obtain ⟨Ag,gkv,lkv,hkv⟩:=WA2.dict;refine ⟨_,rfl,_,rfl,_,_,rfl,rfl,cm2 _,d,_,rfl,DPut.k (k:=G7 (2 * (i:Int))) gkv (qB3 (by omega)),?_⟩
   have out1:¬ inK Af path i (2 * (i:Int)):=by
    rintro (h | h | ⟨v,f,h,hk | hk⟩) <;> omega
   have WA3:=WA2.add out1 fe1 ge1 ne1 gkv lkv hkv;have gd3':(Ah H5 d (.dK (putK Ag (G7 (2 * (i:Int))) (.ref e1)))) de=some (.dK kve):=by rw [qA8 ndd];exact gd2
   generalize Ah H5 d (.dK (putK Ag (G7 (2 * (i:Int))) (.ref e1)))=H6 at WA3 gd3' ⊢;clear hkv gkv lkv Ag;refine hN4 _ _ (cut fun N5 hN5=>?_);refine ⟨_,rfl,_,rfl,de,_,rfl,DGet.k (k:=G7 (i:Int)) gd3',_,rfl,?_⟩;have nde3:∀ k,(inK Af path i k\/k=2 * (i:Int))->(if k=2 * (i:Int) then e1 else ad k) ≠ de:=fun k hk z=>by
    by_cases e:k=2 * (i:Int)
    ·rw [if_pos e] at z;exact nee z
    ·rw [if_neg e] at z;exact nde k (hk.resolve_right e) z
   have two:∀ (zs2:List Int) (e2:Addr),zs2=(if qD2 Af path (i:Int) then [-2] else [])->H6 e2=none->∃ H7,DPut (Ah H6 e2 (.lst (zs2.map V.int))) d (.int (2 * (i:Int)+1)) (.ref e2) H7/\N5 [some (.ref a),some (.ref t),some (.ref de),some (.ref d),some (.int (i:Int)),some (.ref r),v6] H7:=by
    intro zs2 e2 ez he2;have se2:=qA2 he2 (.lst (zs2.map V.int));have ge2:(Ah H6 e2 (.lst (zs2.map V.int))) e2=some (.lst (zs2.map V.int)):=qA1;have WA4:=WA3.same se2;have fe2:H e2=none:=WA3.old.free he2;have ne2:∀ x,(inK Af path i x\/x=2 * (i:Int))->(if x=2 * (i:Int) then e1 else ad x) ≠ e2:=fun x hx z=>by have:=WA3.lst x hx;rw [z,he2] at this;cases this
    have gd4:=se2 _ _ gd3';have nee2:e2 ≠ de:=fun z=>by rw [z,gd3'] at he2;cases he2
    generalize Ah H6 e2 (.lst (zs2.map V.int))=H7 at se2 ge2 WA4 gd4 ⊢;obtain ⟨Ag,gkv,lkv,hkv⟩:=WA4.dict;refine ⟨_,DPut.k (k:=G7 (2 * (i:Int)+1)) gkv (qB3 (by omega)),?_⟩
    have out2:¬ (inK Af path i (2 * (i:Int)+1)\/2 * (i:Int)+1=2 * (i:Int)):=by
     rintro ((h | h | ⟨v,f,h,hk | hk⟩) | h) <;> omega
    have WA5:=WA4.add out2 fe2 ge2 ne2 gkv lkv hkv;have gd5:(Ah H7 d (.dK (putK Ag (G7 (2 * (i:Int)+1)) (.ref e2)))) de=some (.dK kve):=by rw [qA8 ndd];exact gd4
    generalize Ah H7 d (.dK (putK Ag (G7 (2 * (i:Int)+1)) (.ref e2)))=H8 at WA5 gd5 ⊢;have dm:∀ k,inK Af path (i+1) k->(inK Af path i k\/k=2 * (i:Int))\/k=2 * (i:Int)+1:=by
     rintro k (h | h | ⟨v,f,h,hk⟩)
     ·exact .inl (.inl (.inl h))
     ·exact .inl (.inl (.inr (.inl h)))
     ·by_cases e:v=(i:Int)
      ·subst e;rcases hk with hk | hk
       ·exact .inl (.inr hk)
       ·exact .inr hk
      ·exact .inl (.inl (.inr (.inr ⟨v,f,by omega,hk⟩)))
    obtain ⟨ad3,ead⟩:∃ ad3:Int->Addr,ad3=fun x=>if x=2 * (i:Int)+1 then e2 else if x=2 * (i:Int) then e1 else ad x:=⟨_,rfl⟩
    have nde5:∀ k,inK Af path (i+1) k->ad3 k ≠ de:=fun k hk z=>by
     rw [ead] at z;dsimp only at z;by_cases e:k=2 * (i:Int)+1
     ·rw [if_pos e] at z;exact nee2 z
     ·rw [if_neg e] at z;exact nde3 k ((dm k hk).resolve_right e) z
    have WA6:=WA5.dom (m':=2 * (i+1)+2) (by omega) dm
    rw [<- ead] at WA6;clear WA5 WA4 gkv lkv hkv Ag ead ne2 fe2 ge2;refine hN5 _ _ (cut fun N6 hN6=>?_);have hrr:=WA6.old _ _ hr0
    -- the rest,with the ways from the beginning laid
    have needs:∀ (W3:Wy) (H9:Hp),WaysAt H H9 d (2 * (i+1)+2) (inK Af path (i+1)) W3 ad3->(∀ k,inK Af path (i+1) k->W3 k++(if (0<=k/\k % 2=1/\k / 2 ∈ zs) then [2 * (i:Int)] else [])=fwW Af path (i+1) k)->(∀ k,inK Af path (i+1) k->(W3 k).length<=900)->H9 de=some (.dK kve)->N6 [some (.ref a),some (.ref t),some (.ref de),some (.ref d),some (.int (i:Int)),some (.ref r),v6] H9:=by
     intro W3 H9 WB eqW lenW gd9;refine hN6 _ _ ?_;refine ⟨_,rfl,r,rfl,⟨_,SqT.of (WB.old _ _ hr0)⟩,qGQ (a:=r) (xs:=zs.map V.int) (fun j σ Hd=>∃ (v6:Option V),σ=[some (.ref a),some (.ref t),some (.ref de),some (.ref d),some (.int (i:Int)),some (.ref r),v6]/\WaysAt H Hd d (2 * (i+1)+2) (inK Af path (i+1)) (fun k=>W3 k++(if (0<=k/\k % 2=1/\k / 2 ∈ zs.take j) then [2 * (i:Int)] else [])) ad3/\Hd de=some (.dK kve))
      ⟨v6,rfl,WB.congr fun x _=>by rw [if_neg (by simp)];simp,gd9⟩ (fun j σ Hd _ hP=>by obtain ⟨_,_,WD,_⟩:=hP;exact SqT.of (WD.old _ _ hr0)) ?_ ?_⟩
     ·refine fun j x σ Hd hx hI_2=>opq fun G_2 hG_2=>?_;obtain ⟨v6,rfl,WD,gdd⟩:=hI_2;obtain ⟨y,ey,rfl⟩:=qBA hx;refine hG_2 ?_;have hj:=(B0.mp ey).1;have yb:=rz.in_ y (D8 ey);have ynew:y ∉ zs.take j:=fun z=>by
       obtain ⟨m,hm⟩:=R1 z;have hm2:=(B0.mp hm).1;rw [E5] at hm2;rw [Z6 (by omega)] at hm
       have up:=R6.mp rz.up m j (by omega) hj (by omega)
       have e1:=(B0.mp hm).2;have e2:=(B0.mp ey).2;omega
      refine ⟨_,rfl,_,rfl,t,_,rfl,.inr (SqT.of (WD.old _ _ hT)),rfl,qCG path,_,rfl,?_⟩;rw [qEL];by_cases cy:y ∈ path
      ·rw [decide_eq_true cy];refine iteF ?_;refine ⟨_,rfl,WD.congr fun k hk=>?_,gdd⟩;rw [E6,ey,F4];congr 1;by_cases e:0<=k/\k % 2=1/\k / 2=y
       ·exfalso
        rcases hk with h | h | ⟨v,f,_,h | h⟩
        ·omega
        ·omega
        ·omega
        ·exact (free_in.mp f).2 (by rw [show v=y by omega];exact cy)
       ·have:(0<=k/\k % 2=1/\k / 2 ∈ zs.take j++[y]) ↔ (0<=k/\k % 2=1/\k / 2 ∈ zs.take j):=by
         rw [C8,C0];exact ⟨fun ⟨a,b,c⟩=>⟨a,b,c.resolve_right fun z=>e ⟨a,b,z⟩⟩,fun ⟨a,b,c⟩=>⟨a,b,.inl c⟩⟩
        simp only [this]
      ·rw [decide_eq_false cy];refine iteT ?_;have fy:qAU Af path y=true:=free_in.mpr ⟨⟨yb.1,by omega⟩,cy⟩
       have hk:inK Af path (i+1) (2 * y+1):=.inr (.inr ⟨y,fy,by omega,.inr rfl⟩)
       obtain ⟨Ag,gkv,lkv,hkv⟩:=WD.dict;have gl:=WD.lst _ hk;rw [if_neg (by rw [show (2 * y+1) / 2=y by omega];exact fun z=>ynew z.2.2),N9] at gl
       have hgk:=DGet.k (k:=G7 (2 * y+1)) gkv;rw [hkv _ hk] at hgk;refine ⟨_,rfl,_,rfl,_,_,rfl,rfl,cm2 _,_,_,rfl,rfl,d,_,rfl,hgk,.inl ⟨rfl,_,SqL.of gl⟩,_,rfl,_,_,rfl,rfl,cm2 _,ad3 (2 * y+1),_,_,rfl,rfl,gl,qB3 (by rw [A0];have:=lenW _ hk;omega),?_⟩
       have:=WD.put hk (W3 (2 * y+1)++[2 * (i:Int)]);rw [D3] at this;refine ⟨_,rfl,this.congr fun k hk2=>?_,by rw [qA8 (nde5 _ hk).symm];exact gdd⟩
       rw [E6,ey,F4];by_cases e:k=2 * y+1
       ·subst e;rw [if_pos rfl,if_pos ⟨by omega,by omega,by rw [show (2 * y+1) / 2=y by omega];simp⟩]
       ·rw [if_neg e];congr 1;have:(0<=k/\k % 2=1/\k / 2 ∈ zs.take j++[y]) ↔ (0<=k/\k % 2=1/\k / 2 ∈ zs.take j):=by
         rw [C8,C0];exact ⟨fun ⟨a,b,c⟩=>⟨a,b,c.resolve_right fun z=>e (by omega)⟩,fun ⟨a,b,c⟩=>⟨a,b,.inl c⟩⟩
        simp only [this]
     ·refine fun σ Hd hI_3=>opq fun G_3 hG_3=>?_;obtain ⟨v6,rfl,WD,gdd⟩:=hI_3;refine hG_3 ?_;rw [A0,J8] at WD;exact ⟨ad3,_,_,_,rfl,WD.congr fun k hk=>(eqW k hk).symm,gdd,nde5⟩
    have W6e:∀ k,inK Af path (i+1) k->((fun x=>if x=2 * (i:Int)+1 then zs2 else if x=2 * (i:Int) then [2 * (i:Int)+1] else fwW Af path i x) k).length<=800:=fun k hk=>by
     dsimp only
     split
     ·rw [ez];split <;> simp
     ·split
      ·simp
      ·have:=qS2 (Af:=Af) (path:=path) i k;omega
    have k1:inK Af path (i+1) (-1):=.inl rfl;refine ⟨_,rfl,_,.inr (.inl ⟨_,SqT.of hrr,rfl⟩),?_⟩;cases zs with
    | cons z0 zr=>
     refine iteF ?_;refine needs _ _ WA6 (fun k hk=>?_) (fun k hk=>M6 (W6e k hk) (by omega)) gd5
     refine qVA (W3:=fun x=>if x=2 * (i:Int)+1 then zs2 else if x=2 * (i:Int) then [2 * (i:Int)+1] else fwW Af path i x) wf fr en ?_ ?_ ?_ (fun x h1 h2 h3=>?_) hk
     ·rw [if_neg (by omega),if_neg (by omega)];simp
     ·rw [if_neg (by omega),if_pos rfl]
     ·rw [if_pos rfl,ez]
     ·rw [if_neg h3,if_neg h2]
    | nil=>
     refine iteT ?_;obtain ⟨Ag,gkv,lkv,hkv⟩:=WA6.dict;have gl:=WA6.lst _ k1;rw [if_neg (by omega),if_neg (by omega)] at gl
     have hgk:=DGet.k (k:=G7 (-1)) gkv;rw [hkv _ k1] at hgk;refine ⟨_,rfl,d,_,rfl,hgk,.inl ⟨rfl,_,SqL.of gl⟩,_,rfl,_,_,rfl,rfl,cm2 _,ad3 (-1),_,_,rfl,rfl,gl,qB3 (by rw [A0];have:=qS2 (Af:=Af) (path:=path) i (-1);omega),?_⟩
     have pu:=WA6.put k1 (fwW Af path i (-1)++[2 * (i:Int)]);rw [D3] at pu;refine needs _ _ pu (fun k hk=>?_) (fun k hk=>?_) (by rw [qA8 (nde5 _ k1).symm];exact gd5)
     ·refine qVA (W3:=fun x=>if x = -1 then fwW Af path i (-1)++[2 * (i:Int)] else if x=2 * (i:Int)+1 then zs2 else if x=2 * (i:Int) then [2 * (i:Int)+1] else fwW Af path i x) wf fr en ?_ ?_ ?_ (fun x h1 h2 h3=>?_) hk
      ·rw [if_pos rfl];rfl
      ·rw [if_neg (by omega),if_neg (by omega),if_pos rfl]
      ·rw [if_neg (by omega),if_pos rfl,ez]
      ·rw [if_neg h1,if_neg h3,if_neg h2]
     ·split
      ·rw [A8];have:=qS2 (Af:=Af) (path:=path) i (-1);show _+1<=_;omega
      ·exact M6 (W6e k hk) (by omega)
   cases ie:(valV kve (G7 (i:Int))).isSome with
   | true=>
    have e0:qD2 Af path (i:Int)=true:=(hve _).mp ie;refine iteT ?_;refine ⟨(by show 1<=sizeLine;decide),fun e2 he2=>?_⟩
    obtain ⟨H7,dp,n5⟩:=two [-2] e2 (by rw [e0];rfl) he2
    exact ⟨_,rfl,_,rfl,_,_,rfl,rfl,cm2 _,_,_,rfl,rfl,d,H7,rfl,dp,n5⟩
   | false=>
    have e0:qD2 Af path (i:Int)=false:=Q9.mpr fun z=>by rw [(hve _).mpr z] at ie;cases ie
    refine iteF ?_;refine ⟨(by show 0<=sizeLine;decide),fun e2 he2=>?_⟩
    obtain ⟨H7,dp,n5⟩:=two [] e2 (by rw [e0];rfl) he2
    exact ⟨_,rfl,_,rfl,_,_,rfl,rfl,cm2 _,_,_,rfl,rfl,d,H7,rfl,dp,n5⟩
 ·refine fun σ Hc hI_4=>opq fun G_4 hG_4=>?_;obtain ⟨ad,v4,v5,v6,rfl,WA,gd,nde⟩:=hI_4;refine hG_4 ?_;rw [A0,lrs] at WA;exact hN2 _ _ ⟨_,rfl,q d ad Hc (WA.dom (by omega) fun _ h=>h)⟩
end
section
variable {P:Program} {w:World} {K:PySem.W.Frag} {mg:Str->Option Value} {base:Heap} {f:Addr} {fd:FuncData} {tk_SOURCE tk_GOAL:Tok}
theorem sc_way_back:FnScope ["ways","came_from","due","stop","further","stops"] ["ways"] (qAC qET):=⟨rfl,rfl,rfl,by decide +kernel,rfl,by decide +kernel,by decide +kernel⟩
theorem ok_way_back (F:Fun K "way_back" "way_back" qET f fd) (m_SOURCE:mg "SOURCE" = some (.int (-1) tk_SOURCE)) (m_GOAL:mg "GOAL" = some (.int (-2) tk_GOAL)):FnOk P w K mg base CX0 1 f fd ["ways"] qKT:=by
 refine F.ok sc_way_back (fun vs H Q E h=>?_) (fun cdv A outer s H vs Q E hr h=>?_)
 ·obtain ⟨d,H0,Af,path,W,ad,rfl,_⟩:=h
  rfl
 obtain ⟨d,H0,Af,path,W,ad,rfl,n400,WA,FL,q⟩:=h;have hu:=qFG hr;refine ⟨_,(qA4 (qAB (i:=1) sc_way_back.nd rfl (G4 rfl) (qMX (qFU (qCJ (v:=.int (-1)) rfl m_SOURCE ⟨_,rfl⟩) qOC qMW) rfl rfl (by simp) (by decide))) (qA4 (qAB (i:=2) sc_way_back.nd rfl (G4 rfl) (qAQ (qA0 (qCJ (v:=.int (-1)) rfl m_SOURCE ⟨_,rfl⟩) qA3))) (qA4 (qFT J3 (PW.pt (qXW (qJZ (pv 2) (fun _=>rfl)) (qVZ (qJD (qFV hu (qCJ (v:=.int (-2)) rfl m_GOAL ⟨_,rfl⟩) (pv 1)))))) (qA4 (qAB (i:=3) sc_way_back.nd rfl (G4 rfl) (qUZ G3 A84 A85 qV3 (pv 2))) (qA7 (qCK J3 rfl (qGK (qC8 hu (pv 0) (pv 3) (fun _ _=>rfl))) (qAG (i:=4) sc_way_back.nd rfl (G4 rfl)) (qA7 (qBY (qJD (qFV hu (pv 4) (pv 1))) (qA4 (qFD hu (pv 1) (pv 4) (pv 3) rfl) (qA7 (qC6 (qHK G3 O1 O2 qC0 (pv 2) (qA0 (pv 4) qA3))))) qAO)))))) (qA4 (qBY (qJD (qFV hu (qCJ (v:=.int (-2)) rfl m_GOAL ⟨_,rfl⟩) (pv 1))) (qA7 (qAK (qAQ qA3))) qAO) (qA4 (qAB (i:=5) sc_way_back.nd rfl (G4 rfl) (qAQ (qA0 (qCJ (v:=.int (-2)) rfl m_GOAL ⟨_,rfl⟩) qA3))) (qA4 (qFT J3 (qAP qY3 (qC7 qCZ (pv 5) (qLB qGZ qA6) (fun _ _=>rfl)) (qCJ (v:=.int (-1)) rfl m_SOURCE ⟨_,rfl⟩) (qB1 _)) (qA7 (qC6 (qHK G3 O1 O2 qC0 (pv 5) (qA0 (qC8 hu (pv 1) (qC7 qCZ (pv 5) (qLB qGZ qA6) (fun _ _=>rfl)) (fun _ _=>rfl)) qA3))))) (qA7 (qAK (pv 5))))))))),?_⟩
 try dsimp only [Cx.nox,Cx.wish,cxOf]
 refine cut fun N0 hN0=>?_;refine fun cd hcd=>?_;refine ⟨qA1,[(G7 (-1),.non)],rfl,(by show 1<=15;decide),?_⟩
 have em:qEK [] [((G7 (-1):Key),V.non)]=cmK []:=by
  unfold qEK;simp [putK]
  rfl
 rw [em,qGF];have s1:=qA2 hcd (.dK (cmK []));have g1:(Ah H cd (.dK (cmK []))) cd=some (.dK (cmK [])):=qA1;generalize Ah H cd (.dK (cmK []))=H1 at s1 g1 ⊢;refine hN0 _ _ (cut fun N1 hN1=>?_);refine ⟨(by show 1<=sizeLine;decide),fun ld hld=>?_⟩
 have s2:=qA2 hld (.lst [.int (-1)]);have g2:(Ah H1 ld (.lst [.int (-1)])) ld=some (.lst (([-1]:List Int).map V.int)):=qA1;have gc2:=s2 _ _ g1;have fld:H ld=none:=s1.free hld;have ncl:cd ≠ ld:=qDN gc2 g2 (by intro z;cases z)
 have s02:=s1.trans s2;generalize Ah H1 ld (.lst [.int (-1)])=H2 at s2 g2 gc2 s02 ⊢;refine hN1 _ _ (cut fun N2 hN2=>?_);obtain ⟨I,eI⟩:∃ I:Nat->St->Hp->Prop,I=fun m σ Hc=>∃ (cm:Cm) (due:List Int) (v3 v4:Option V),σ=[some (.ref d),some (.ref cd),some (.ref ld),v3,v4,none]/\Same H Hc/\Hc cd=some (.dK (cmK cm))/\Hc ld=some (.lst (due.map V.int))/\SkI Af path W (cm,due)/\m=2 * (2 * Af.length+2 - cm.length)+due.length/\due.length<=cm.length+1:=⟨_,rfl⟩;refine ⟨I,⟨_,by rw [eI];exact ⟨[],[-1],none,none,rfl,s02,gc2,g2,⟨⟨qYN,fun x hx=>by rw [C0.mp hx];rfl⟩,fun t h=>h,fun q hq=>nomatch hq⟩,rfl,C1 _⟩⟩,?_⟩
 intro m σ Hc hI;rw [eI] at hI;obtain ⟨cm,due,v3,v4,rfl,sc,gc,gl,SK,rfl,dul⟩:=hI;have few:cm.length<=2 * Af.length+2:=SK.few
 -- behind the search
 have behind:dfsC (cm,due)=false->N2 [some (.ref d),some (.ref cd),some (.ref ld),v3,v4,none] Hc:=by
  intro ce;refine hN2 _ _ (cut fun N3 hN3=>?_);have DF:=SK.go _ (.stop ce);refine ⟨_,rfl,cd,_,rfl,DGet.k (k:=G7 (-2)) gc,_,rfl,?_⟩;rw [qNH];cases vg:vis cm (-2) with
  | false=>
   refine iteT ?_;refine ⟨(by show 0<=sizeLine;decide),fun lr hlr=>?_⟩
   exact q lr [] _ (sc.trans (qA2 hlr _)) (sc.free hlr) qA1 ⟨cm,due,DF,.inl ⟨vg,rfl⟩⟩ (.inl rfl)
  | true=>
   refine iteF ?_;refine hN3 _ _ (cut fun N4 hN4=>?_);refine ⟨(by show 1<=sizeLine;decide),fun lr hlr=>?_⟩
   have s3:=qA2 hlr (.lst [.int (-2)]);have g3:(Ah Hc lr (.lst [.int (-2)])) lr=some (.lst (([]++[-2]:List Int).map V.int)):=qA1;have gc3:=s3 _ _ gc;have flr:H lr=none:=sc.free hlr;have nlc:cd ≠ lr:=qDN gc3 g3 (by intro z;cases z)
   have sc3:=sc.trans s3;generalize Ah Hc lr (.lst [.int (-2)])=H3 at s3 g3 gc3 sc3 ⊢;refine hN4 _ _ (cut fun N5 hN5=>?_);obtain ⟨i0,p0,e0⟩:∃ (i:Nat) (p:Int),cm[i]?=some (-2,p):=(vis_iff.mp vg).resolve_left (by decide)
   obtain ⟨r0,b1,b2,b3,b4,b5,_⟩:=SK.sk.gd.back i0 (-2) p0 e0;have hi0:=(B0.mp e0).1;refine ⟨fun m σ Hd=>∃ (pre:List Int) (x:Int),σ=[some (.ref d),some (.ref cd),some (.ref ld),v3,v4,some (.ref lr)]/\Same H Hd/\Hd cd=some (.dK (cmK cm))/\Hd lr=some (.lst ((pre++[x]).map V.int))/\(∀ r,Back cm x r->Back cm (-2) (pre++r))/\((x = -1/\m=0)\/∃ (i:Nat) (p:Int),cm[i]?=some (x,p)/\m=i+1)/\pre.length+m<=cm.length,⟨_,[],-2,rfl,sc3,gc3,g3,fun r h=>h,.inr ⟨i0,p0,e0,rfl⟩,by simp;omega⟩,?_⟩
   refine fun m σ Hd hI_1=>opq fun G_1 hG_1=>?_;obtain ⟨pre,x,rfl,sd,gcd,gld,bk,hm,lm⟩:=hI_1;refine hG_1 ?_;refine ⟨_,rfl,_,rfl,lr,_,_,_,rfl,rfl,SqL.of gld,(by rw [D3];exact qKK _ _),rfl,_,rfl,?_⟩
   rcases hm with ⟨rfl,rfl⟩ | ⟨i,p,ei,rfl⟩
   ·refine iteF ?_;have bf:=bk _ .src;have er:=bf.one b1;refine hN5 _ _ ⟨_,rfl,q lr (pre++[-1]) Hd sd flr gld ⟨cm,due,DF,.inr ⟨vg,bf⟩⟩ (.inr ?_)⟩;rw [er];exact ⟨b2,b3,b4,b5⟩
   ·obtain ⟨_,nx,r3⟩:=SK.sk.gd.at_ i x p ei;have hlk:look cm x=some p:=qRF SK.sk.gd.nd ei;rw [decide_eq_false (show ¬ V.int x=V.int (-1) from fun z=>nx (V.int.inj z))];refine iteT ?_;obtain ⟨m',hm',lt⟩:∃ m':Nat,((p = -1/\m'=0)\/∃ (j:Nat) (q:Int),cm[j]?=some (p,q)/\m'=j+1)/\m'<=i:=by
     rcases r3 with rfl | ⟨j,q,hj,ej⟩
     ·exact ⟨0,.inl ⟨rfl,rfl⟩,G5 _⟩
     ·exact ⟨j+1,.inr ⟨j,q,ej,rfl⟩,hj⟩
    refine ⟨_,fun σ' H' h=>⟨m',by omega,h⟩,?_⟩
    have hg:=DGet.k (k:=G7 x) gcd;rw [qSI,if_neg nx,hlk] at hg;refine ⟨_,rfl,.inl ⟨rfl,_,SqL.of gld⟩,_,rfl,_,rfl,_,rfl,lr,_,_,_,rfl,rfl,SqL.of gld,(by rw [D3];exact qKK _ _),cd,_,rfl,hg,lr,_,_,rfl,rfl,gld,qB3 (by rw [A0,A8,D5];omega),?_⟩
    refine ⟨pre++[x],p,rfl,qAF sd flr,by rw [qA8 nlc];exact gcd,by rw [qA1,D3 (l₁:=pre++[x])];rfl,fun r h=>?_,hm',by rw [A8,D5];omega⟩
    rw [P0];exact bk _ (.step nx hlk h)
 refine ⟨_,rfl,_,.inl ⟨_,SqL.of gl,rfl⟩,?_⟩;rcases A76 due with rfl | ⟨pre,x,rfl⟩
 ·refine iteF ?_;refine iteF ?_;exact behind rfl
 rw [A77] at gl SK behind dul ⊢;rw [A8,D5] at dul;have tru:(!((pre++[x]).map V.int).isEmpty)=true:=by simp
 rw [tru];refine iteT ?_;refine ⟨_,rfl,cd,_,rfl,DGet.k (k:=G7 (-2)) gc,_,rfl,?_⟩;rw [qNH];cases vg:vis cm (-2) with
 | true=>
  refine iteF ?_;exact behind (by unfold dfsC;rw [vg];simp)
 | false=>
  refine iteT ?_;refine ⟨fun σ' H'=>∃ m',m'<2 * (2 * Af.length+2 - cm.length)+(pre++[x]).length/\I m' σ' H',fun _ _ h=>h,?_⟩;refine cut fun M1 hM1=>?_;have lastx:((pre++[x]).map V.int)[((pre++[x]).map V.int).length - 1]?=some (.int x):=by
   rw [A0,D7,A8,D5,r8,E8 (C1 _),W4]
   rfl
  have hx:vis cm x=true:=SK.sk.due x (by simp)
  have kx:=SK.inK hx;refine ⟨_,rfl,.inl ⟨rfl,_,SqL.of gl⟩,ld,_,_,rfl,rfl,gl,lastx,?_⟩;have dl:((pre++[x]).map V.int).dropLast=pre.map V.int:=by rw [D3];exact List.dropLast_concat
  rw [dl];have sc4:=qAF (o:=.lst (pre.map V.int)) sc fld;have gl4:(Ah Hc ld (.lst (pre.map V.int))) ld=some (.lst (pre.map V.int)):=qA1;have gc4:(Ah Hc ld (.lst (pre.map V.int))) cd=some (.dK (cmK cm)):=by rw [qA8 ncl];exact gc
  generalize Ah Hc ld (.lst (pre.map V.int))=H4 at sc4 gl4 gc4 ⊢;refine hM1 _ _ ?_;have SF0:SkF Af path W x (cm,pre):=⟨⟨SK.sk.gd,fun y hy=>SK.sk.due y (T6 _ hy)⟩,SK.dom,hx⟩;have WA4:=WA.same sc4;obtain ⟨Ag,gkv,lkv,hkv⟩:=WA4.dict;have hgk:=DGet.k (k:=G7 x) gkv;rw [hkv _ kx] at hgk;have fewF:∀ {s:Cm × List Int},SkF Af path W x s->s.1.length<=2 * Af.length+2:=fun {s} h=>by
   have:=qFW (Af:=Af) (path:=path) h.sk.gd.nd fun y hy=>by
    obtain ⟨q,hq,rfl⟩:=G1.mp hy;exact h.dom q hq
   rw [A0] at this;exact this
  refine ⟨_,rfl,_,rfl,d,_,rfl,hgk,ad x,rfl,⟨_,SqL.of (WA4.lst _ kx)⟩,qK8 (a:=ad x) (xs:=(W x).map V.int) (fun j σ Hd=>∃ (v4:Option V) (s:Cm × List Int),σ=[some (.ref d),some (.ref cd),some (.ref ld),some (.int x),v4,none]/\Same H Hd/\s=dfsF x ((W x).take j) (cm,pre)/\Hd cd=some (.dK (cmK s.1))/\Hd ld=some (.lst (s.2.map V.int))/\SkF Af path W x s/\s.2.length+cm.length=pre.length+s.1.length/\cm.length<=s.1.length)
   ⟨v4,_,rfl,sc4,rfl,gc4,gl4,SF0,rfl,C1 _⟩ (fun j σ Hd _ hP=>by obtain ⟨_,_,_,sd,_⟩:=hP;exact SqL.of ((WA.same sd).lst _ kx)) ?_ ?_⟩
  ·refine fun j y σ Hd hy hI_2=>opq fun G_2 hG_2=>?_;obtain ⟨v4,s,rfl,sd,es,gcd,gld,SF,ln,mo⟩:=hI_2;obtain ⟨f1,ef,rfl⟩:=qBA hy;refine hG_2 ?_;have hf:=D8 ef;have es1:dfsO x f1 s=dfsF x ((W x).take (j+1)) (cm,pre):=by rw [E6,ef,F4,qM5,es]
   obtain ⟨SF1,ln1⟩:=SF.one FL hf;have b1:=fewF SF;refine ⟨_,rfl,_,rfl,cd,_,rfl,DGet.k (k:=G7 f1) gcd,_,rfl,?_⟩;rw [qNH];cases vf:vis s.1 f1 with
   | true=>
    refine iteF ?_;have e0:dfsO x f1 s=s:=by unfold dfsO;rw [if_pos vf]
    rw [e0] at es1;exact ⟨_,s,rfl,sd,es1,gcd,gld,SF,ln,mo⟩
   | false=>
    refine iteT ?_;have e0:dfsO x f1 s=(s.1++[(f1,x)],s.2++[f1]):=by unfold dfsO;rw [if_neg (by rw [vf];simp)]
    rw [e0] at es1 SF1 ln1;refine cut fun M2 hM2=>?_;refine ⟨_,rfl,_,rfl,_,rfl,cd,_,rfl,DPut.k (k:=G7 f1) gcd (qB3 (by unfold cmK;rw [E3,A0];omega)),?_⟩
    rw [qWY vf];have sd5:=qAF (o:=.dK (cmK (s.1++[(f1,x)]))) sd hcd;have gc5:(Ah Hd cd (.dK (cmK (s.1++[(f1,x)])))) cd=some (.dK (cmK (s.1++[(f1,x)]))):=qA1;have gl5:(Ah Hd cd (.dK (cmK (s.1++[(f1,x)])))) ld=some (.lst (s.2.map V.int)):=by rw [qA8 ncl.symm];exact gld
    generalize Ah Hd cd (.dK (cmK (s.1++[(f1,x)])))=H5 at sd5 gc5 gl5 ⊢;refine hM2 _ _ ?_;refine ⟨_,rfl,.inl ⟨rfl,_,SqL.of gl5⟩,_,rfl,ld,_,_,rfl,rfl,gl5,qB3 (by rw [A0];omega),?_⟩
    refine ⟨_,_,rfl,qAF sd5 fld,es1,by rw [qA8 ncl];exact gc5,by rw [qA1,D3];rfl,SF1,by omega,by rw [A8];omega⟩
  ·refine fun σ Hd hI_3=>opq fun G_3 hG_3=>?_;obtain ⟨v4,s,rfl,sd,es,gcd,gld,SF,ln,mo⟩:=hI_3;refine hG_3 ?_;rw [A0,J8] at es;have b1:=fewF SF;rw [eI];refine ⟨2 * (2 * Af.length+2 - s.1.length)+s.2.length,?_,s.1,s.2,_,_,rfl,sd,gcd,gld,⟨SF.sk,fun t h=>SK.go t (.go vg (by rw [<- es];exact h)),SF.dom⟩,rfl,by omega⟩
   rw [A8,D5];omega
end
section
variable {P:Program} {w:World} {K:PySem.W.Frag} {mg:Str->Option Value} {base:Heap} {f:Addr} {fd:FuncData} {tk_SOURCE:Tok}
theorem sc_turn_round:FnScope ["ways","stops","further","stop"] ["ways","stops"] (qAC qD3):=⟨rfl,rfl,rfl,by decide +kernel,rfl,by decide +kernel,by decide +kernel⟩
theorem ok_turn_round (F:Fun K "turn_round" "turn_round" qD3 f fd) (qHD:mg "zip" = none):FnOk P w K mg base CX0 1 f fd ["ways","stops"] qUP:=by
 refine F.ok sc_turn_round (fun vs H Q E h=>?_) (fun cdv A outer s H vs Q E hr h=>?_)
 ·obtain ⟨d,l,H0,Af,path,W,ad,st,rfl,_⟩:=h
  rfl
 obtain ⟨d,l,H0,Af,path,W,ad,st,rfl,n400,WA,FL,hl,nl,PT,ND,hh,q⟩:=h;have hu:=qFG hr;have hu0:=hr.units0;refine ⟨_,(qA7 (qCK J3 rfl (qR3 rfl qHD qSP (qA0 (pv 1) (qA0 (qAT qDH (pv 1) (qB4 qA6) qB9) qA3))) (qLA rfl (qBU (qAG (i:=2) sc_turn_round.nd rfl (G4 rfl)) (qBU (qAG (i:=3) sc_turn_round.nd rfl (G4 rfl)) qGL))) (qA4 (qC6 (qHK G3 PySem.F.slot_list_remove PySem.F.type_list_remove qRC (qC8 hu (pv 0) (pv 3) (fun _ _=>rfl)) (qA0 (pv 2) qA3))) (qA7 (qC6 (qHK G3 O1 O2 qC0 (qC8 hu (pv 0) (pv 2) (fun _ _=>rfl)) (qA0 (pv 3) qA3))))))),?_⟩
 try dsimp only [Cx.nox,Cx.wish,cxOf]
 have lst1:1<=st.length:=by cases st with | nil=>cases hh | cons _ _=>simp
 -- the ways behind some of it
 have flp:∀ j,j<st.length->Fl0 (W0 Af path) (qC5 (st.take (j+1)) W):=fun j hj=>by
  have hd1:(st.take (j+1)).head?=some (-2):=by cases st with | nil=>cases hh | cons a r=>exact hh
  exact (qJU (st.take (j+1)) W FL (qO9 _ _ PT) (ND.sublist (Z7 _ _)) _ st[j] hd1 (by rw [E6,B9 hj,F4,A92];rfl)).1
 have few:∀ {V:Wy},Fl0 (W0 Af path) V->∀ x,(V x).length<=802:=fun {V} F x=>by
  have:=qFW (F.nd x) fun y hy=>F.dom hy;omega
 refine ⟨_,rfl,_,rfl,_,rfl,l,_,rfl,SqL.of hl,fun l2 hl2=>?_⟩;rw [qB5,show (1:Int)=((1:Nat):Int) from rfl,qDQ _ _ lst1];have s1:=qA2 hl2 (.lst ((st.drop 1).map V.int));have g2:(Ah H l2 (.lst ((st.drop 1).map V.int))) l2=some (.lst ((st.drop 1).map V.int)):=qA1;have WA1:=WA.same s1;have nl2:∀ k,inK Af path Af.length k->ad k ≠ l2:=fun k hk z=>by have:=WA.lst k hk;rw [z,hl2] at this;cases this
 have gl1:=s1 _ _ hl;generalize Ah H l2 (.lst ((st.drop 1).map V.int))=H1 at s1 g2 WA1 gl1 ⊢;refine ⟨false,l,l2,rfl,⟨_,SqL.of gl1⟩,⟨_,SqL.of g2⟩,qON (b:=false) (l:=l) (m:=l2) (xs:=st.map V.int) (ys:=(st.drop 1).map V.int) (by rw [A0,A0,F5];omega) (fun j σ Hc=>∃ (v2 v3:Option V),σ=[some (.ref d),some (.ref l),v2,v3]/\WaysAt H0 Hc d 2002 (inK Af path Af.length) (qC5 (st.take (j+1)) W) ad/\Hc l=some (.lst (st.map V.int))/\Hc l2=some (.lst ((st.drop 1).map V.int)))
  ⟨none,none,rfl,?_,gl1,g2⟩ (fun j σ Hc _ ⟨_,_,_,_,a,b⟩=>⟨SqL.of a,SqL.of b⟩) ?_ ?_⟩
 ·cases st with
  | nil=>cases hh
  | cons a r=>exact WA1
 ·refine fun j x y σ Hc T hx hy hI_1 hT=>opq fun G_1 hG_1=>?_;obtain ⟨v2,v3,rfl,WC,glc,g2c⟩:=hI_1;obtain ⟨f1,ef,rfl⟩:=qBA hx;obtain ⟨s1',es,rfl⟩:=qBA hy;refine hG_1 ?_;rw [t5,j4] at es;have hj:=(B0.mp es).1;have sT:=qA2 hT (.tup [.int f1,.int s1']);have gT:SqT K (Ah Hc T (.tup [.int f1,.int s1'])) T [.int f1,.int s1']:=SqT.of qA1;have WD:=WC.same sT;have gld:=sT _ _ glc;have g2d:=sT _ _ g2c;generalize Ah Hc T (.tup [.int f1,.int s1'])=H2 at sT gT WD gld g2d ⊢;refine ⟨T,_,rfl,gT,rfl,_,_,rfl,_,_,rfl,rfl,?_⟩;refine nmT fun D1 d1 _=>?_;have FJ:=flp j (by omega)
  have inW:=qUV PT ef es
  -- the next stop isn't touched yet
  have nin:s1' ∉ st.take (j+1):=fun z=>by
   obtain ⟨m,hm⟩:=R1 z;have hm2:=(B0.mp hm).1;rw [E5] at hm2;rw [Z6 (by omega)] at hm
   have:=(A42 (B0.mp hm).1 ND).mp (hm.trans es.symm);omega
  have eWs:qC5 (st.take (j+1)) W s1'=W s1':=qNU _ _ nin;have inJ:f1 ∈ qC5 (st.take (j+1)) W s1':=by rw [eWs];exact inW
  have nfs:f1 ≠ s1':=fun z=>by
   have:=(A42 (B0.mp ef).1 ND).mp ((ef.trans (congrArg some z)).trans es.symm);omega
  have kf:=FL.dom inW;have ks:inK Af path Af.length s1':=by
   rcases FL.on _ _ inW with z | z
   ·exact (qNR z).1
   ·exact (qNR z).2
  obtain ⟨k1,h1,h2,h3⟩:=qOR inJ;obtain ⟨Ag,gkv,lkv,hkv⟩:=WD.dict;have hgs:=DGet.k (k:=G7 s1') gkv;rw [hkv _ ks] at hgs;have gls:=WD.lst _ ks;refine cut fun M1 hM1=>?_;refine ⟨_,rfl,_,rfl,d,_,rfl,hgs,.inl ⟨rfl,_,SqL.of gls⟩,_,rfl,ad s1',_,f1,k1,rfl,rfl,gls,h1,h2,?_⟩;rw [h3];have WE:=WD.put ks ((qC5 (st.take (j+1)) W s1').erase f1);have glE:(Ah H2 (ad s1') (.lst (((qC5 (st.take (j+1)) W s1').erase f1).map V.int))) l=some (.lst (st.map V.int)):=by rw [qA8 (nl _ ks).symm];exact gld
  have g2E:(Ah H2 (ad s1') (.lst (((qC5 (st.take (j+1)) W s1').erase f1).map V.int))) l2=some (.lst ((st.drop 1).map V.int)):=by rw [qA8 (nl2 _ ks).symm];exact g2d
  generalize Ah H2 (ad s1') (.lst (((qC5 (st.take (j+1)) W s1').erase f1).map V.int))=H3 at WE glE g2E ⊢;refine hM1 _ _ ?_;obtain ⟨kvs2,gkv2,lkv2,hkv2⟩:=WE.dict;have hgf:=DGet.k (k:=G7 f1) gkv2;rw [hkv2 _ kf] at hgf;have glf:=WE.lst _ kf;rw [if_neg nfs] at glf;refine ⟨_,rfl,_,rfl,d,_,rfl,hgf,.inl ⟨rfl,_,SqL.of glf⟩,_,rfl,ad f1,_,_,rfl,rfl,glf,qB3 (by rw [A0];have:=few FJ f1;omega),?_⟩
  have WF:=WE.put kf (qC5 (st.take (j+1)) W f1++[s1']);rw [D3] at WF;refine d1 _ _ ⟨_,_,rfl,WF.congr fun x _=>?_,by rw [qA8 (nl _ kf).symm];exact glE,by rw [qA8 (nl2 _ kf).symm];exact g2E⟩
  rw [qQJ ef es];unfold upW;by_cases c1:x=s1'
  ·subst c1;rw [if_pos rfl,if_neg fun z=>nfs z.symm,if_pos rfl]
  ·by_cases c2:x=f1
   ·rw [if_neg c1,if_pos c2,if_pos c2]
   ·rw [if_neg c1,if_neg c2,if_neg c2,if_neg c1]
 ·refine fun σ Hc hI_2=>opq fun G_2 hG_2=>?_;obtain ⟨v2,v3,rfl,WC,glc,g2c⟩:=hI_2;refine hG_2 ?_;rw [A0,F5,show st.length - 1+1=st.length by omega,J8] at WC
  exact q Hc WC
end
section
variable {P:Program} {w:World} {K:PySem.W.Frag} {mg:Str->Option Value} {base:Heap} {f:Addr} {fd:FuncData} {tk_SOURCE:Tok}
theorem sc_side_to:FnScope ["ways","work","side","stop"] ["ways","work"] (qAC qFQ):=⟨rfl,rfl,rfl,by decide +kernel,rfl,by decide +kernel,by decide +kernel⟩
theorem ok_side_to (F:Fun K "side_to" "side_to" qFQ f fd) (m_SOURCE:mg "SOURCE" = some (.int (-1) tk_SOURCE)):FnOk P w K mg base CX0 1 f fd ["ways","work"] qNX:=by
 refine F.ok sc_side_to (fun vs H Q E h=>?_) (fun cdv A outer s H vs Q E hr h=>?_)
 ·obtain ⟨d,H0,Af,path,W,ad,w,s,rfl,_⟩:=h
  rfl
 obtain ⟨d,H0,Af,path,W,ad,wk,sd,rfl,n400,WA,FL,wf,fw,fl,SD,q⟩:=h;have hu:=qFG hr;refine ⟨_,(qA4 (qAB (i:=2) sc_side_to.nd rfl (G4 rfl) (qCL (qA0 (pv 1) qA3))) (qA4 (qAB (i:=3) sc_side_to.nd rfl (G4 rfl) (qC7 qCZ (qC8 hu (pv 0) (qAD qD7 qA6 (pv 1)) (fun _ _=>rfl)) qA6 (fun _ _=>rfl))) (qA4 (qFT J3 (qAP qY3 (pv 3) (qCJ (v:=.int (-1)) rfl m_SOURCE ⟨_,rfl⟩) (qB1 _)) (qA4 (qAB (i:=2) sc_side_to.nd rfl (G4 rfl) (qAD qK1 (qCL (qA0 (qAD qIB (pv 3) qA6) qA3)) (pv 2))) (qA7 (qAB (i:=3) sc_side_to.nd rfl (G4 rfl) (qC7 qCZ (qC8 hu (pv 0) (qAD qD7 qA6 (qC7 qCM (pv 2) qA6 (fun _ _=>rfl))) (fun _ _=>rfl)) qA6 (fun _ _=>rfl)))))) (qA7 (qAK (pv 2)))))),?_⟩
 try dsimp only [Cx.nox,Cx.wish,cxOf]
 have cm2:∀ j:Int,CMul 2 j:=fun j=>.inl ⟨by decide,by decide⟩
 have k2:∀ {u:Int},qAU Af path u=true->inK Af path Af.length (2 * u):=fun {u} h=>.inr (.inr ⟨u,h,(free_in.mp h).1.2,.inl rfl⟩);have cdv2:∀ j:Int,CDiv (2 * j+1) 2:=fun j=>by unfold CDiv;decide
 -- what stands first at a work's way in
 have rd:∀ {Hz:Hp} {u p:Int},Same H Hz->qAU Af path u=true->W (2 * u)=[p]->DGet Hz d (.int (2 * u)) (some (.ref (ad (2 * u))))/\Hz (ad (2 * u))=some (.lst [.int p]):=fun {Hz u p} sz h e=>by
  have WZ:=WA.same sz;obtain ⟨Ag,gkv,_,hkv⟩:=WZ.dict;have hg:=DGet.k (k:=G7 (2 * u)) gkv;rw [hkv _ (k2 h)] at hg;have gl:=WZ.lst _ (k2 h);rw [e] at gl;exact ⟨hg,gl⟩
 refine cut fun N0 hN0=>?_;refine ⟨_,rfl,(by show 1<=sizeLine;decide),fun t1 ht1=>?_⟩
 have s1:=qA2 ht1 (.tup [.int wk]);have g1:(Ah H t1 (.tup [.int wk])) t1=some (.tup (([wk]:List Int).map V.int)):=qA1;generalize Ah H t1 (.tup [.int wk])=H1 at s1 g1 ⊢;refine hN0 _ _ (cut fun N1 hN1=>?_);obtain ⟨p0,ep0⟩:=FL.in1 fw;obtain ⟨hg0,gl0⟩:=rd s1 fw ep0;refine ⟨_,rfl,_,rfl,_,_,rfl,rfl,cm2 _,d,_,rfl,hg0,?_⟩;refine ⟨ad (2 * wk),_,_,_,rfl,rfl,SqL.of gl0,rfl,?_⟩;refine hN1 _ _ (cut fun N2 hN2=>?_);refine ⟨fun m σ Hc=>∃ (T:Addr) (u p:Int) (r s1:List Int),σ=[some (.ref d),some (.int wk),some (.ref T),some (.int p)]/\m=u.toNat/\Same H Hc/\Hc T=some (.tup ((u::r).map V.int))/\qAU Af path u=true/\Flw W u/\W (2 * u)=[p]/\Sd W u s1/\sd=s1++r/\r.length+u.toNat<=400,⟨_,t1,wk,p0,[],sd,rfl,rfl,s1,g1,fw,fl,ep0,SD,by simp,?_⟩,?_⟩
 ·have:=(free_in.mp fw).1;simp;omega
 refine fun m σ Hc hI_1=>opq fun G_1 hG_1=>?_;obtain ⟨T,u,p,r,s1',rfl,rfl,sc,gT,fu,flu,ep,SU,es,lr⟩:=hI_1;refine hG_1 ?_;refine ⟨_,rfl,rfl,_,rfl,?_⟩;have b:=(free_in.mp fu).1;cases SU with
 | top e=>
  rw [ep] at e;have e1:=(Z1 e).1;subst e1;refine iteF ?_;refine hN2 _ _ ⟨_,rfl,q T Hc sc ?_⟩;rw [gT,es]
  rfl
 | @step _ n s2' n0 e SN=>
  rw [ep] at e;have e1:=(Z1 e).1;subst e1;obtain ⟨p',e2,e3,⟨rfl,_⟩ | ⟨n',rfl,g,hn⟩⟩:=FL.pred fu flu
  ·rw [ep] at e2;have:=(Z1 e2).1;exfalso;omega
  have en:n=n':=by rw [ep] at e2;have:=(Z1 e2).1;omega
  subst en;obtain ⟨fn,_⟩:=FL.out g (y:=2 * u) ((w0_o n0).mpr ⟨g,.inr ⟨u,rfl,fu,hn⟩⟩) e3;have bn:=qE1 wf b.1 hn;rw [decide_eq_false (show ¬ V.int (2 * n+1)=V.int (-1) from fun z=>by have:=V.int.inj z;omega)]
  refine iteT ?_;refine ⟨_,fun σ' H' h=>⟨n.toNat,by omega,h⟩,?_⟩
  refine cut fun M1 hM1=>?_;refine ⟨_,rfl,_,_,rfl,rfl,cdv2 n,?_⟩;dsimp only;rw [show (2 * n+1) / 2=n by omega]
  refine ⟨(by show 1<=sizeLine;decide),fun t2 ht2=>?_⟩
  have s2:=qA2 ht2 (.tup [.int n]);have g2:(Ah Hc t2 (.tup [.int n])) t2=some (.tup [.int n]):=qA1;have gT2:=s2 _ _ gT;have sc2:=sc.trans s2;generalize Ah Hc t2 (.tup [.int n])=H2 at s2 g2 gT2 sc2 ⊢;refine ⟨_,rfl,t2,T,_,_,rfl,rfl,SqT.of g2,SqT.of gT2,by simp,by rw [sizeLine_eq];simp;omega,fun z=>(nomatch z),fun _ t3 ht3=>?_⟩
  have s3:=qA2 ht3 (.tup ([.int n]++(u::r).map V.int));have g3:(Ah H2 t3 (.tup ([.int n]++(u::r).map V.int))) t3=some (.tup ((n::u::r).map V.int)):=qA1;have sc3:=sc2.trans s3;generalize Ah H2 t3 (.tup ([.int n]++(u::r).map V.int))=H3 at s3 g3 sc3 ⊢;refine hM1 _ _ ?_;obtain ⟨p1,ep1⟩:=FL.in1 g;obtain ⟨hg1,gl1⟩:=rd sc3 g ep1;refine ⟨_,rfl,_,rfl,t3,_,_,_,rfl,rfl,SqT.of g3,qCN (O3 0) rfl,_,_,rfl,rfl,cm2 _,d,_,rfl,hg1,?_⟩;refine ⟨ad (2 * n),_,_,_,rfl,rfl,SqL.of gl1,rfl,?_⟩;refine ⟨t3,n,p1,u::r,s2',rfl,rfl,sc3,g3,g,fn,ep1,SN,by rw [es];simp,?_⟩
  rw [E3];omega
end
section
variable {P:Program} {w:World} {K:PySem.W.Frag} {mg:Str->Option Value} {base:Heap} {f:Addr} {fd:FuncData} {qE5 qF1 qDA qG9:Addr} {qH8 qIM qG6 qJO:FuncData} {tk_GOAL:Tok}
theorem sc_sides_of:FnScope ["net","path","ways","stops"] ["net","path"] (qAC qEU):=⟨rfl,rfl,rfl,by decide +kernel,rfl,by decide +kernel,by decide +kernel⟩
theorem ok_sides_of (F:Fun K "sides_of" "sides_of" qEU f fd) (m_GOAL:mg "GOAL" = some (.int (-2) tk_GOAL)) (qEA:Clb P w K mg base 2 qE5 qH8 "free_ways" ["net","path"] qJ8) (qDR:Clb P w K mg base 1 qF1 qIM "way_back" ["ways"] qKT) (qDE:Clb P w K mg base 1 qDA qG6 "turn_round" ["ways","stops"] qUP) (qGB:Clb P w K mg base 1 qG9 qJO "side_to" ["ways","work"] qNX) (qAZ:mg "sorted" = none):FnOk P w K mg base CX0 3 f fd ["net","path"] qQP:=by
 refine F.ok sc_sides_of (fun vs H Q E h=>?_) (fun cdv A outer s H vs Q E hr h=>?_)
 ·obtain ⟨a,t,Af,path,rfl,_⟩:=h
  rfl
 obtain ⟨a,t,Af,path,rfl,PI,n60,q⟩:=h;have hu:=qFG hr;have hu64:=hr.units;refine ⟨_,(qA4 (qAB (i:=2) sc_sides_of.nd rfl (B58 rfl) (qBB qEA hr rfl (qA0 (pv 0) (qA0 (pv 1) qA3)))) (qA4 (qAB (i:=3) sc_sides_of.nd rfl (G4 rfl) (qBB qDR hr rfl (qA0 (pv 2) qA3))) (qA4 (qFT J3 (qJZ (pv 3) (fun _=>rfl)) (qA4 (qC6 (qBB qDE hr rfl (qA0 (pv 2) (qA0 (pv 3) qA3)))) (qA7 (qAB (i:=3) sc_sides_of.nd rfl (G4 rfl) (qBB qDR hr rfl (qA0 (pv 2) qA3)))))) (qA7 (qAK (qAA (L2.G.call_sortedTL rfl hu64) rfl qAZ qEO (qA0 (qFE rfl (lcs (own:=["stop"]) (fv:=[2]) (by kernel_rfl)) (qGK (qC8 hu (pv 2) (qCJ (v:=.int (-2)) rfl m_GOAL ⟨_,rfl⟩) (fun _ _=>rfl))) (fun z1=>qAG (i:=0) (qE0 (by kernel_rfl)) rfl (G4 rfl)) (fun z1=>qBN) (fun z1=>(qBB qGB hr rfl (qA0 (pv 1) (qA0 (qAD qIB (pv 0) qA6) qA3))))) qA3))))))),?_⟩
 try dsimp only [Cx.nox,Cx.wish,cxOf]
 obtain ⟨hN,wf,n400,hT,pne,lp,pin⟩:=id PI;refine cut fun N0 hN0=>?_;refine ⟨_,rfl,_,rfl,a,t,Af,path,rfl,PI,fun d ad H1 WA1=>?_⟩;refine hN0 _ _ (cut fun N1 hN1=>?_);have FL1:=qUA (Af:=Af) (path:=path) wf;refine ⟨_,rfl,d,H,Af,path,W0 Af path,ad,rfl,n400,WA1,FL1.fl,fun l1 st1 H2 s2 fl1 gl1 wb1 ok1=>?_⟩;refine hN1 _ _ (cut fun N2 hN2=>?_);refine ⟨fun m σ Hc=>∃ (l:Addr) (st:List Int) (W:Wy),σ=[some (.ref a),some (.ref t),some (.ref d),some (.ref l)]/\WaysAt H Hc d 2002 (inK Af path Af.length) W ad/\Fl Af path W/\Hc l=some (.lst (st.map V.int))/\(∀ k,inK Af path Af.length k->ad k ≠ l)/\WB W st/\StOk W st/\(∀ W',SW W W'->SW (W0 Af path) W')/\m+(W (-2)).length=2 * Af.length+2,⟨2 * Af.length+2,l1,st1,W0 Af path,rfl,WA1.same s2,FL1,gl1,fun k hk z=>?_,wb1,ok1,fun _ h=>h,?_⟩,?_⟩
 ·have:=WA1.lst k hk;rw [z,fl1] at this;cases this
 ·show 2 * Af.length+2+(fwW Af path Af.length (-2)).length=_;rw [fw_g];rfl
 refine fun m σ Hc hI_2=>opq fun G_2 hG_2=>?_;obtain ⟨l,st,W,rfl,WA,FL,gl,nl,wb,ok,go,em⟩:=hI_2;refine hG_2 ?_;refine ⟨_,rfl,_,.inl ⟨_,SqL.of gl,rfl⟩,?_⟩;rcases ok with rfl | ⟨PT,ND,hh,hl⟩
 ·refine iteF ?_;refine hN2 _ _ ?_;have SWE:=go W (.stop wb);have k2:inK Af path Af.length (-2):=.inr (.inl rfl);obtain ⟨Ag,gkv,lkv,hkv⟩:=WA.dict;have hgk:=DGet.k (k:=G7 (-2)) gkv;rw [hkv _ k2] at hgk;have gl2:=WA.lst _ k2;have few:(W (-2)).length<=Af.length:=by
   have sub:∀ x ∈ W (-2),x ∈ (qBG 0 (Af.length:Int)).map (fun w=>2 * w+1):=fun x hx=>by
    obtain ⟨v,rfl,f,_⟩:=FL.ends hx;exact G1.mpr ⟨v,mem_rangeI.mpr (free_in.mp f).1,rfl⟩
   have:=G0 (FL.fl.nd (-2)) sub;rw [A0,qGI] at this;omega
  refine ⟨_,rfl,d,_,rfl,hgk,ad (-2),rfl,⟨_,SqL.of gl2⟩,fun px hpx=>?_⟩;refine qN6 (p:=px) (a:=ad (-2)) (xs:=(W (-2)).map V.int) (fun j σ Hd=>∃ (v:Option V) (rs:List Addr) (ss:List (List Int)),σ=[v,some (.ref d)]/\Same Hc Hd/\Hd px=some (.lst (rs.map V.ref))/\L2.G.TupsAt Hd rs ss/\Paired (fun x s=>Sd W (x / 2) s) ((W (-2)).take j) ss) ?_ ?_ ?_ ?_
  ·exact ⟨none,[],[],rfl,qA2 hpx _,qA1,.nil,.nil⟩
  ·rintro j σ Hd hj ⟨v,rs,ss,rfl,sd,_⟩;exact SqL.of (sd _ _ gl2)
  ·refine fun j x σ Hd hx hI_4=>opq fun G_4 hG_4=>?_;obtain ⟨v,rs,ss,rfl,sd,gp,TA,PA⟩:=hI_4;obtain ⟨y,ey,rfl⟩:=qBA hx;obtain ⟨u,rfl,fu,eu,flu⟩:=FL.ends (D8 ey);obtain ⟨sd0,SD⟩:=FL.side wf (u.toNat+1) u (by omega) fu flu
   refine hG_4 ?_;have hj:=(B0.mp ey).1;have lrs:=E9 TA;have lss:=E9 PA;rw [E5] at lss;refine ⟨_,rfl,_,rfl,_,_,rfl,rfl,(by unfold CDiv;decide),?_⟩
   dsimp only;rw [show (2 * u+1) / 2=u by omega]
   refine ⟨d,H,Af,path,W,ad,u,sd0,rfl,n400,WA.same sd,FL,wf,fu,flu,SD,fun T Hx sx gT=>?_⟩;refine ⟨_,sx _ _ gp,qB3 (by rw [A0];omega),?_⟩
   have gp':=sx _ _ gp;refine ⟨_,rs++[T],ss++[sd0],rfl,qAF (sd.trans sx) hpx,by rw [qA1,D3];rfl,qBL (qGN TA fun b m e=>?_) ?_,?_⟩
   ·rw [qA8 (qDN (sx _ _ e) gp' (by intro z;cases z))];exact sx _ _ e
   ·rw [qA8 (qDN gT gp' (by intro z;cases z))];exact gT
   ·rw [E6,ey,F4];exact qBL PA (by rw [show (2 * u+1) / 2=u by omega];exact SD)
  refine fun σ Hd hI_5=>opq fun G_5 hG_5=>?_;obtain ⟨v,rs,ss,rfl,sd,gp,TA,PA⟩:=hI_5;refine hG_5 ?_;rw [A0,J8] at PA;have lrs:=E9 TA;have lss:=E9 PA;have ne0:∀ t ∈ ss,t ≠ []:=fun t ht=>by
   obtain ⟨i,hi⟩:=R1 ht;obtain ⟨x,_,hS⟩:=qJF PA hi;have:=qMQ hS;intro z;rw [z] at this;cases this
  refine ⟨px,rs,ss,rfl,SqL.of gp,TA,ne0,fun lz rs' ts' flz pm TA' pt st'=>?_⟩;have s9:=qA2 flz (.lst (rs'.map V.ref));have sHd:=(WA.same sd).old;exact q lz rs' ts' _ (sHd.trans s9) (sHd.free flz) qA1 (qGN TA' fun b m e=>s9 _ _ e) ⟨W,ss,SWE,FL,PA,pt,st'⟩
 have tru:(!(st.map V.int).isEmpty)=true:=by cases st with | nil=>cases hh | cons _ _=>rfl
 rw [tru];refine iteT ?_;have ne:st ≠ []:=fun z=>by rw [z] at hh;cases hh
 obtain ⟨FL',len'⟩:=FL.turn PT ND hh hl;have few:=qFW (FL'.fl.nd (-2)) fun y hy=>FL'.fl.dom hy;refine ⟨_,fun σ' H' h=>⟨m - 1,by omega,h⟩,?_⟩
 refine cut fun M1 hM1=>?_;refine ⟨_,rfl,_,rfl,d,l,H,Af,path,W,ad,st,rfl,n400,WA,FL.fl,gl,nl,PT,ND,hh,fun H3 WA3=>?_⟩;refine hM1 _ _ ?_;refine ⟨_,rfl,d,H,Af,path,qC5 st W,ad,rfl,n400,WA3,FL'.fl,fun l2 st2 H4 s4 fl2 gl2 wb2 ok2=>?_⟩;refine ⟨l2,st2,qC5 st W,rfl,WA3.same s4,FL',gl2,fun k hk z=>?_,wb2,ok2,fun W' h=>go W' (.go wb ne h),by omega⟩
 have:=WA3.lst k hk;rw [z,fl2] at this;cases this
end
section
variable {P:Program} {w:World} {K:PySem.W.Frag} {mg:Str->Option Value} {base:Heap} {f:Addr} {fd:FuncData} {qDP:Addr} {qFI:FuncData}
theorem sc_is_path:FnScope ["net","thing","ahead","work"] ["net","thing"] (qAC qFR):=⟨rfl,rfl,rfl,by decide +kernel,rfl,by decide +kernel,by decide +kernel⟩
theorem ok_is_path (F:Fun K "is_path" "is_path" qFR f fd) (qF5:Clb P w K mg base 2 qDP qFI "is_below" ["thing","end"] qO2) (qA9:mg "isinstance" = none) (qAJ:mg "tuple" = none) (qBF:mg "len" = none) (qGE:mg "all" = none) (qHD:mg "zip" = none):FnOk P w K mg base CX0 3 f fd ["net","thing"] qO1:=by
 refine F.ok sc_is_path (fun vs H Q E h=>?_) (fun cdv A outer s H vs Q E hr h=>?_)
 ·obtain ⟨a,Af,x,n,dt,rfl,_⟩:=h
  rfl
 obtain ⟨a,Af,x,n,dt,rfl,hN,wf,n400,D,LD,q⟩:=h;have hu:=qFG hr;have hu0:=hr.units0;refine ⟨_,(qA4 (qBY (PW.pt (qL8 (qF9 (qF8 (qAA qBH rfl qA9 qAV (qA0 (pv 1) (qA0 (qDZ (v:=.ty "tuple") rfl qAJ qB6 rfl) qA3))))) (qI8 (qAP qGO (qAA qAH rfl qBF qC3 (qA0 (pv 1) qA3)) qA6 (qB1 _))))) (qA7 (qAK qDK)) qAO) (qA4 (qBY (qF9 (qF8 (qAA (qI0 rfl) rfl qGE qP0 (qA0 (qFE rfl (lcs (own:=["part"]) (fv:=[0]) (by kernel_rfl)) (qD6 (pv 1)) (fun z1=>qAG (i:=0) (qE0 (by kernel_rfl)) rfl (G4 rfl)) (fun z1=>qBN) (fun z1=>(qBB qF5 hr rfl (qA0 (pv 0) (qA0 (qAA (qMB (K:=K) rfl) rfl qBF qC3 (qA0 (pv 1) qA3)) qA3))))) qA3)))) (qA7 (qAK qDK)) qAO) (qA4 (qCK J3 rfl (qR3 rfl qHD qSP (qA0 (pv 1) (qA0 (qAT qKV (pv 1) (qB4 qA6) qB9) qA3))) (qLA rfl (qBU (qAG (i:=2) sc_is_path.nd rfl (G4 rfl)) (qBU (qAG (i:=3) sc_is_path.nd rfl (G4 rfl)) qGL))) (qA7 (qBY (qAP qCE (pv 2) (qC7 qCM (pv 0) (pv 3) (fun _ _=>rfl)) (by with_unfolding_all rfl)) (qA7 (qAK qDK)) qAO))) (qA7 (qAK (qDY qGO (qAA qAH rfl qBF qC3 (qA0 (qC7 qCM (pv 0) (qC7 qCM (pv 1) qA6 (fun _ _=>rfl)) (fun _ _=>rfl)) qA3)) qA6 (qB1 _))))))),?_⟩
 try dsimp only [Cx.nox,Cx.wish,cxOf]
 obtain ⟨rs,hA,NL⟩:=id hN;have lrs:=E9 NL;obtain ⟨ty,tyo,k1,k2,k3⟩:=qNT (K:=K) D;refine cut fun N0 hN0=>?_;refine ⟨_,rfl,x,"tuple",ty,_,rfl,tyo,k3,_,rfl,?_⟩;cases c:tupB dt with
 | false=>
  refine iteT ?_;refine iteT ?_;have e1:qLD Af dt=false:=by cases dt <;> first | rfl | cases c
  rw [e1] at q;exact q H (.refl _)
 | true=>
  refine iteF ?_;obtain ⟨m,tt,xs,ds,rfl,rfl,rfl,ga,lx,el⟩:=qNE D c;refine ⟨_,rfl,tt,_,rfl,.inr (SqT.of ga),rfl,_,rfl,?_⟩;have ld:ds.length<=2000:=(LD true ds rfl).1;cases ds with
  | nil=>
   have ex:xs=[]:=Q8.mp lx;subst ex;refine iteT ?_;exact q H (.refl _)
  | cons d0 dr=>
   rw [decide_eq_false (show ¬ V.int ((xs.length:Nat):Int)=V.int 0 from fun z=>by have:=V.int.inj z;rw [lx] at this;simp at this;omega)]
   refine iteF ?_;generalize hds:d0::dr=ds at *;have ne0:ds ≠ []:=by rw [<- hds];simp
   clear hds;have emp:ds.isEmpty=false:=by cases ds with | nil=>exact absurd rfl ne0 | cons _ _=>rfl
   refine hN0 _ _ (cut fun N1 hN1=>?_);refine ⟨_,rfl,tt,rfl,⟨_,SqT.of ga⟩,fun px hpx=>?_⟩;refine qH4 (p:=px) (a:=tt) (xs:=xs) (fun i σ Hd=>∃ (v:Option V),σ=[v,some (.ref a)]/\Same H Hd/\Hd px=some (.lst (((ds.take i).map (qCH (Af.length:Int))).map V.bl))) ?_ ?_ ?_ ?_
   ·exact ⟨none,rfl,qA2 hpx _,qA1⟩
   ·rintro i σ Hd hi ⟨v,rfl,sd,_⟩;exact SqT.of (sd _ _ ga)
   ·refine fun i x' σ Hd hx hI_2=>opq fun G_2 hG_2=>?_;obtain ⟨v,rfl,sd,gp⟩:=hI_2;refine hG_2 ?_;have hi:=(B0.mp hx).1;have ed:=B9 (show i<ds.length by omega)
    have Di:=DatN.same sd (el i x' _ hx ed);refine ⟨_,rfl,_,rfl,a,_,rfl,.inr (SqT.of (sd _ _ hA)),?_⟩;rw [A0,lrs];refine ⟨x',m,_,(Af.length:Int),rfl,Di,_,gp,qB3 (by rw [A0,A0,E5];omega),_,rfl,qAF sd hpx,?_⟩
    rw [qA1,E6,ed,F4,D3,D3]
    rfl
   refine fun σ Hd hI_3=>opq fun G_3 hG_3=>?_;obtain ⟨v,rfl,sd,gp⟩:=hI_3;refine hG_3 ?_;rw [lx,J8] at gp;refine ⟨px,_,rfl,SqL.of gp,_,rfl,?_⟩;have ea:((ds.map (qCH (Af.length:Int))).all id)=ds.all (qCH (Af.length:Int)):=by rw [A82];rfl
   rw [ea];have pe:qLD Af (.tuple ds)=(ds.all (qCH (Af.length:Int)) && qF7 Af (ds.map qN8)):=by
    show (!ds.isEmpty && _ && _)=_;rw [emp]
    rfl
   rw [pe] at q;cases cb:ds.all (qCH (Af.length:Int)) with
   | false=>
    refine iteT ?_;rw [cb,O7] at q;exact q Hd sd
   | true=>
    refine iteF ?_;rw [cb,R7] at q;obtain ⟨zs,rfl,zin⟩:=qGS cb;rw [qDO] at q;have ex:xs=zs.map V.int:=x9 fun i=>by
     by_cases hi:i<xs.length
     ·have hx:=B9 hi;have hz:i<zs.length:=by rw [lx,A0] at hi;exact hi
      have ed:(zs.map Y8)[i]?=some (.int zs[i]):=by rw [D7,B9 hz];rfl
      obtain ⟨j,e1,e2⟩:=qIP (el i _ _ hx ed) rfl;rw [hx,D7,B9 hz,e1];cases e2
      rfl
     ·rw [K0 (by omega),K0 (by rw [A0];rw [lx,A0] at hi;omega)]
    subst ex;have lz1:1<=zs.length:=by cases zs with | nil=>exact absurd rfl ne0 | cons _ _=>simp
    refine hN1 _ _ (cut fun N2 hN2=>?_);have gtd:=sd _ _ ga;refine ⟨_,rfl,_,rfl,_,rfl,tt,_,rfl,SqT.of gtd,?_,fun t2 ht2=>?_⟩
    ·rw [A0,show (1:Int)=((1:Nat):Int) from rfl,HT.sIx_nat];omega
    rw [qB5,show (1:Int)=((1:Nat):Int) from rfl,qDQ _ _ lz1];have s2:=qA2 ht2 (.tup ((zs.drop 1).map V.int));have g2:(Ah Hd t2 (.tup ((zs.drop 1).map V.int))) t2=some (.tup ((zs.drop 1).map V.int)):=qA1;have sd2:=sd.trans s2;generalize Ah Hd t2 (.tup ((zs.drop 1).map V.int))=H2 at s2 g2 sd2 ⊢;refine ⟨true,tt,t2,rfl,⟨_,SqT.of (sd2 _ _ ga)⟩,⟨_,SqT.of g2⟩,qON (b:=true) (l:=tt) (m:=t2) (xs:=zs.map V.int) (ys:=(zs.drop 1).map V.int) (by rw [A0,A0,F5];omega) (fun j σ Hc=>∃ (v2 v3:Option V),σ=[some (.ref a),some (.ref tt),v2,v3]/\Same H2 Hc/\∀ (i:Nat) x y,i<j->zs[i]?=some x->zs[i+1]?=some y->x ∈ nd Af y)
     ⟨none,none,rfl,.refl _,fun i _ _ h=>absurd h (t8 _)⟩ (fun j σ Hc _ h=>?_) ?_ ?_⟩
    ·obtain ⟨_,_,_,sc,_⟩:=h;exact ⟨SqT.of ((sd2.trans sc) _ _ ga),SqT.of (sc _ _ g2)⟩
    ·refine fun j x y σ Hc T hx hy hI_4 hT=>opq fun G_4 hG_4=>?_;obtain ⟨v2,v3,rfl,sc,ok⟩:=hI_4;obtain ⟨f1,ef,rfl⟩:=qBA hx;obtain ⟨s1,es,rfl⟩:=qBA hy;refine hG_4 ?_;rw [t5,j4] at es;have sT:=qA2 hT (.tup [.int f1,.int s1]);have gT:SqT K (Ah Hc T (.tup [.int f1,.int s1])) T [.int f1,.int s1]:=SqT.of qA1;generalize Ah Hc T (.tup [.int f1,.int s1])=H3 at sT gT ⊢;refine ⟨T,_,rfl,gT,rfl,_,_,rfl,_,_,rfl,rfl,?_⟩;have sb:=zin s1 (D8 es);have hw:s1.toNat<Af.length:=by omega
     have hz:=B9 hw;obtain ⟨r,h3,h4⟩:=NL.get hz;have en:=qCF hz;generalize Af[s1.toNat]=ys at h4 hz en;have s03:=sd2.trans (sc.trans sT);refine ⟨_,rfl,_,rfl,_,rfl,a,_,_,_,rfl,rfl,SqT.of (s03 _ _ hA),qCN sb.1 (by rw [D7,h3];rfl),r,_,rfl,.inr (SqT.of (s03 _ _ h4)),rfl,qCG ys,_,rfl,?_⟩
     rw [qEL];by_cases cy:f1 ∈ ys
     ·rw [decide_eq_true cy];refine iteF ?_;refine ⟨_,_,rfl,sc.trans sT,fun i x y hi h1 h2=>?_⟩;by_cases e:i=j
      ·subst e;rw [ef] at h1;rw [es] at h2;cases h1;cases h2;rw [en];exact cy
      ·exact ok i x y (by omega) h1 h2
     ·rw [decide_eq_false cy];refine iteT ?_;have no:qEN Af zs=false:=Q9.mpr fun z=>cy (by rw [<- en];exact chain_iff.mp z j f1 s1 ef es)
      have:qF7 Af zs=false:=by unfold qF7;rw [no];rfl
      rw [this] at q;exact q H3 s03
    ·refine fun σ Hc hI_5=>opq fun G_5 hG_5=>?_;obtain ⟨v2,v3,rfl,sc,ok⟩:=hI_5;refine hG_5 ?_;rw [A0,F5] at ok;have yes:qEN Af zs=true:=chain_iff.mpr fun i x y h1 h2=>ok i x y (by have:=(B0.mp h2).1;omega) h1 h2
     refine hN2 _ _ ?_;have s03:=sd2.trans sc;obtain ⟨z0,zr,rfl⟩:∃ z0 zr,zs=z0::zr:=by cases zs with | nil=>exact absurd rfl ne0 | cons a b=>exact ⟨a,b,rfl⟩
     have sb:=zin z0 C9;have hw:z0.toNat<Af.length:=by omega
     have hz:=B9 hw;obtain ⟨r,h3,h4⟩:=NL.get hz;have en:=qCF hz;generalize Af[z0.toNat]=ys at h4 hz en;refine ⟨_,rfl,_,rfl,tt,_,_,_,rfl,rfl,SqT.of (s03 _ _ ga),qCN (O3 0) rfl,a,_,_,_,rfl,rfl,SqT.of (s03 _ _ hA),qCN sb.1 (by rw [D7,h3];rfl),r,_,rfl,.inr (SqT.of (s03 _ _ h4)),rfl,?_⟩
     have pi:qF7 Af (z0::zr)=decide (V.int (((ys.map V.int).length:Nat):Int)=V.int 0):=by
      unfold qF7;rw [yes,R7,List.headD_cons,en,A0];cases ys with
      | nil=>rfl
      | cons _ _=>rw [decide_eq_false (fun z=>by have:=V.int.inj z;simp at this;omega)];rfl
     rw [pi] at q;exact q Hc s03
end
section
variable {P:Program} {w:World} {K:PySem.W.Frag} {mg:Str->Option Value} {base:Heap} {f:Addr} {fd:FuncData} {qCA qGA:Addr} {qD9 qJP:FuncData}
theorem sc_shows_sides:FnScope ["net","path","thing","ends","taken","work","side"] ["net","path","thing"] (qAC qCP):=⟨rfl,rfl,rfl,by decide +kernel,rfl,by decide +kernel,by decide +kernel⟩
theorem ok_shows_sides (F:Fun K "shows_sides" "shows_sides" qCP f fd) (qBI:Clb P w K mg base 1 qCA qD9 "side_ends" ["net","path"] qGG) (qGC:Clb P w K mg base 3 qGA qJP "is_path" ["net","thing"] qO1) (qA9:mg "isinstance" = none) (qCX:mg "list" = none):FnOk P w K mg base CX0 4 f fd ["net","path","thing"] qMN:=by
 refine F.ok sc_shows_sides (fun vs H Q E h=>?_) (fun cdv A outer s H vs Q E hr h=>?_)
 ·obtain ⟨a,t,Af,path,x,n,dt,rfl,_⟩:=h
  rfl
 obtain ⟨a,t,Af,path,x,n,dt,rfl,PI,D,LD,q⟩:=h;have hu:=qFG hr;have hu0:=hr.units0;refine ⟨_,(qA4 (qBY (qF9 (qF8 (qAA qBH rfl qA9 qAV (qA0 (pv 2) (qA0 (qDZ (v:=.ty "list") rfl qCX qKF rfl) qA3))))) (qA7 (qAK qDK)) qAO) (qA4 (qAB (i:=3) sc_shows_sides.nd rfl (G4 rfl) (qBB qBI hr rfl (qA0 (pv 0) (qA0 (pv 1) qA3)))) (qA4 (qAB (i:=4) sc_shows_sides.nd rfl (G4 rfl) qOD) (qA4 (qCK J3 rfl (qD6 (pv 1)) (qAG (i:=5) sc_shows_sides.nd rfl (G4 rfl)) (qA7 (qFD hu (pv 4) (pv 5) qDK rfl))) (qA4 (qCK J3 rfl (qGK (pv 2)) (qAG (i:=6) sc_shows_sides.nd rfl (G4 rfl)) (qA4 (qBY (PW.pt (qL8 (qF9 (qF8 (qBB qGC hr rfl (qA0 (pv 0) (qA0 (pv 6) qA3))))) (qI8 (qJD (qFV hu (qC7 qCM (pv 6) (qLB qGZ qA6) (fun _ _=>rfl)) (pv 3)))))) (qA7 (qAK qDK)) qAO) (qA7 (qCK J3 rfl (qD6 (pv 6)) (qAG (i:=5) sc_shows_sides.nd rfl (G4 rfl)) (qA4 (qBY (qJD (qV0 hu (pv 5) (pv 4))) (qA7 (qAK qDK)) qAO) (qA7 (qFD hu (pv 4) (pv 5) qDK rfl))))))) (qA7 (qAK qDK))))))),?_⟩
 try dsimp only [Cx.nox,Cx.wish,cxOf]
 obtain ⟨hN,wf,n400,hT,pne,lp,pin⟩:=id PI;obtain ⟨ty,tyo,k1⟩:=qUN (K:=K) D;refine cut fun N0 hN0=>?_;refine ⟨_,rfl,x,"list",ty,_,rfl,tyo,k1,_,rfl,?_⟩;cases c:lstB dt with
 | false=>
  refine iteT ?_;have e1:qDJ Af path dt=false:=by cases dt <;> first | rfl | cases c
  rw [e1] at q;exact q H (.refl _)
 | true=>
  refine iteF ?_;obtain ⟨m,ll,xs,ds,rfl,rfl,rfl,ga,lx,el⟩:=qNF D c;have ld:=LD false ds rfl;refine hN0 _ _ (cut fun N1 hN1=>?_);refine ⟨_,rfl,_,rfl,a,t,Af,path,rfl,PI,fun de kve H1 s1 fde gde hve=>?_⟩;refine hN1 _ _ (cut fun N2 hN2=>?_);refine fun dk hdk=>?_;have s2:=qA2 hdk (.dK []);have g2:(Ah H1 dk (.dK [])) dk=some (.dK []):=qA1;have gde2:=s2 _ _ gde;have fdk:H dk=none:=s1.free hdk;have ndk:de ≠ dk:=qA5 gde hdk;have s02:=s1.trans s2;generalize Ah H1 dk (.dK [])=H2 at s2 g2 gde2 s02 ⊢;refine hN2 _ _ (cut fun N3 hN3=>?_);refine ⟨_,rfl,t,rfl,⟨_,SqT.of (s02 _ _ hT)⟩,qGQ (a:=t) (xs:=path.map V.int) (fun i σ Hc=>∃ (Ag:List (Key × V)) (v5:Option V),σ=[some (.ref a),some (.ref t),some (.ref ll),some (.ref de),some (.ref dk),v5,none]/\Same H Hc/\Hc de=some (.dK kve)/\Hc dk=some (.dK Ag)/\Ag.length<=i/\∀ z:Int,(valV Ag (G7 z)).isSome=decide (z ∈ path.take i))
   ⟨[],none,rfl,s02,gde2,g2,C1 _,fun z=>by simp [valV]⟩ (fun i σ Hc _ hP=>by obtain ⟨_,_,_,sc,_⟩:=hP;exact SqT.of (sc _ _ hT)) ?_ ?_⟩
  ·refine fun i y σ Hc hy hI_1=>opq fun G_1 hG_1=>?_;obtain ⟨Ag,v5,rfl,sc,ge,gk,lk,hv⟩:=hI_1;obtain ⟨z0,ez,rfl⟩:=qBA hy;refine hG_1 ?_;have hi:=(B0.mp ez).1;refine ⟨_,rfl,_,rfl,dk,_,rfl,DPut.k (k:=G7 z0) gk (qB3 (by omega)),?_⟩
   refine ⟨_,_,rfl,qAF sc fdk,by rw [qA8 ndk];exact ge,qA1,M6 (qBW _ _ _) (by omega),fun z=>?_⟩
   rw [qHO,E6,ez,F4];by_cases e:z=z0
   ·rw [e,if_pos rfl];simp
   ·rw [if_neg fun u=>e (v8 u),hv z];simp [e]
  refine fun σ Hc hI_2=>opq fun G_2 hG_2=>?_;obtain ⟨Ag,v5,rfl,sc,ge,gk,lk,hv⟩:=hI_2;refine hG_2 ?_;rw [A0] at lk hv;rw [J8] at hv;refine hN3 _ _ (cut fun N4 hN4=>?_);refine ⟨_,rfl,ll,rfl,⟨_,SqL.of (sc _ _ ga)⟩,qK8 (a:=ll) (xs:=xs) (fun i σ Hd=>∃ (Ag:List (Key × V)) (v5 v6:Option V),σ=[some (.ref a),some (.ref t),some (.ref ll),some (.ref de),some (.ref dk),v5,v6]/\Same H Hd/\Hd de=some (.dK kve)/\Hd dk=some (.dK Ag)/\Ag.length<=400+2000 * i/\(∀ z:Int,(valV Ag (G7 z)).isSome=decide (z ∈ path\/z ∈ (ds.take i).flatMap qBC))/\(ds.take i).all (qD1 Af path)=true/\((ds.take i).flatMap qBC).Nodup)
   ⟨Ag,v5,none,rfl,sc,ge,gk,by omega,fun z=>by rw [hv z];simp,rfl,by simp⟩ (fun i σ Hd _ hP=>by obtain ⟨_,_,_,_,sd,_⟩:=hP;exact SqL.of (sd _ _ ga)) ?_ ?_⟩
  ·refine fun i x' σ Hd hx hI_3=>opq fun G_3 hG_3=>?_;obtain ⟨Ag,v5,v6,rfl,sd,ge,gk,lk,hv,ok,nd0⟩:=hI_3;refine hG_3 ?_;have hi:=(B0.mp hx).1;have ed:=B9 (show i<ds.length by omega)
   have hmem:=D8 ed;generalize ds[i]=d1 at ed hmem;have Di:=DatN.same sd (el i x' _ hx ed);have et:ds.take (i+1)=ds.take i++[d1]:=by rw [E6,ed];rfl
   refine nmD fun D1 dn dr=>?_
   -- a side that isn't one
   have bad:qD1 Af path d1=false->∀ Hx,Same H Hx->D1.rt (.bl false) Hx:=fun z Hx sx=>by
    have e1:qDJ Af path (.list ds)=false:=by
     show (ds.all _ && _)=false;have:ds.all (qD1 Af path)=false:=Q9.mpr fun y=>by rw [L0.mp y d1 hmem] at z;cases z
     rw [this];rfl
    rw [e1] at q;exact dr _ _ (q Hx sx)
   refine cut fun M1 hM1=>?_;refine ⟨_,rfl,_,rfl,a,Af,x',m,d1,rfl,hN.same sd,wf,n400,Di,ld.2 d1 hmem,fun H3 s3=>⟨_,rfl,?_⟩⟩;have sd3:=sd.trans s3;cases cp:qLD Af d1 with
   | false=>
    refine iteT ?_;refine iteT ?_;exact bad (by unfold qD1;rw [cp];rfl) H3 sd3
   | true=>
    refine iteF ?_;obtain ⟨tz,zs,rfl,rfl,ei,gz,zne,zin⟩:=qLC (DatN.same s3 Di) cp;have ef:(ds.take (i+1)).flatMap qBC=(ds.take i).flatMap qBC++zs:=by rw [et,A20,A43,ei,B53,N9]
    have dup:¬ ((ds.take i).flatMap qBC++zs).Nodup->∀ Hx,Same H Hx->D1.rt (.bl false) Hx:=fun z Hx sx=>by
     have e1:qDJ Af path (.list ds)=false:=by
      show (_ && decide _)=false;rw [decide_eq_false,P8];intro y;rw [<- V8 (i+1) ds,A20,ef] at y;exact z (V3.mp y).1
     rw [e1] at q;exact dr _ _ (q Hx sx)
    have lz:zs.length<=2000:=by have:=(ld.2 _ hmem true _ rfl).1;rw [A0] at this;exact this
    obtain ⟨zl,hzl⟩:∃ zl,zs.getLast?=some zl:=⟨_,e7 zne⟩;have el1:(zs.map V.int).getLast?=some (.int zl):=by rw [A44,hzl];rfl
    have eld:zs.getLastD 0=zl:=by rw [m7,hzl];rfl
    refine ⟨_,rfl,_,rfl,tz,_,_,_,rfl,rfl,SqT.of gz,qFL el1,_,rfl,de,_,rfl,DGet.k (k:=G7 zl) (s3 _ _ ge),_,rfl,?_⟩;cases ie:(valV kve (G7 zl)).isSome with
    | false=>
     refine iteT ?_;refine bad ?_ H3 sd3;have:qD2 Af path zl=false:=Q9.mpr fun z=>by rw [(hve _).mpr z] at ie;cases ie
     unfold qD1;rw [ei,eld,this,P8,O7]
    | true=>
     refine iteF ?_;have ien:=(hve _).mp ie;refine hM1 _ _ ?_;refine ⟨_,rfl,tz,rfl,⟨_,SqT.of gz⟩,qGQ (a:=tz) (xs:=zs.map V.int) (fun j σ He=>∃ (Ag:List (Key × V)) (v5:Option V),σ=[some (.ref a),some (.ref t),some (.ref ll),some (.ref de),some (.ref dk),v5,some (.ref tz)]/\Same H He/\He tz=some (.tup (zs.map V.int))/\He de=some (.dK kve)/\He dk=some (.dK Ag)/\Ag.length<=400+2000 * i+j/\(∀ z:Int,(valV Ag (G7 z)).isSome=decide (z ∈ path\/z ∈ (ds.take i).flatMap qBC++zs.take j))/\((ds.take i).flatMap qBC++zs.take j).Nodup/\∀ z ∈ zs.take j,z ∉ path)
      ⟨Ag,v5,rfl,sd3,gz,s3 _ _ ge,s3 _ _ gk,by omega,fun z=>by rw [hv z];simp,by simpa using nd0,fun z hz=>by simp at hz⟩ (fun j σ He _ hP=>by obtain ⟨_,_,_,_,g,_⟩:=hP;exact SqT.of g) ?_ ?_⟩
     ·refine fun j y σ He hy hI_4=>opq fun G_4 hG_4=>?_;obtain ⟨Ag,v5,rfl,se,gze,gee,gke,lke,hve2,nde,npe⟩:=hI_4;obtain ⟨z0,ez,rfl⟩:=qBA hy;refine hG_4 ?_;have hj:=(B0.mp ez).1;have ntz:tz ≠ dk:=qDN gze gke (by intro z;cases z)
      have etk:zs.take (j+1)=zs.take j++[z0]:=by rw [E6,ez];rfl
      refine nmD fun D2 dn2 dr2=>?_;refine cut fun M2 hM2=>?_;refine ⟨_,rfl,_,rfl,dk,_,rfl,DGet.k (k:=G7 z0) gke,_,rfl,?_⟩;rw [hve2];by_cases cz:z0 ∈ path\/z0 ∈ (ds.take i).flatMap qBC++zs.take j
      ·rw [decide_eq_true cz];refine iteT ?_;rcases cz with cz | cz
       ·refine dr2 _ _ (bad ?_ He se);unfold qD1;have:((qBC (PyData.tuple (zs.map .int))).all fun x=>decide (x ∉ path))=false:=by
         rw [ei];exact Q9.mpr fun y=>of_decide_eq_true (L0.mp y z0 (D8 ez)) cz
        rw [this,P8]
       ·refine dr2 _ _ (dup (fun y=>?_) He se);rw [<- V8 (j+1) zs,etk] at y;have y':((ds.take i).flatMap qBC++zs.take j++[z0]).Nodup:=by
         have e:(ds.take i).flatMap qBC++(zs.take j++[z0]++zs.drop (j+1))=((ds.take i).flatMap qBC++zs.take j++[z0])++zs.drop (j+1):=by simp
         rw [e] at y;exact (V3.mp y).1
        exact (V3.mp y').2.2 z0 cz z0 C9 rfl
      ·rw [decide_eq_false cz];refine iteF ?_;refine hM2 _ _ ?_;refine ⟨_,rfl,_,rfl,dk,_,rfl,DPut.k (k:=G7 z0) gke (by rw [sizeLine_eq];omega),?_⟩
       refine dn2 _ _ ⟨_,_,rfl,qAF se fdk,by rw [qA8 ntz];exact gze,by rw [qA8 ndk];exact gee,qA1,M6 (qBW _ _ _) (by omega),fun z=>?_,?_,fun z hz=>?_⟩
       ·rw [qHO,etk];by_cases e:z=z0
        ·rw [e,if_pos rfl];simp
        ·rw [if_neg fun u=>e (v8 u),hve2 z];simp [e]
       ·rw [etk,<- P0,V3];exact ⟨nde,by simp,fun u hu v hv z=>cz (.inr (by rw [C0.mp hv] at z;exact z ▸ hu))⟩
       ·rw [etk] at hz;rcases C8.mp hz with z1 | z1
        ·exact npe z z1
        ·rw [C0.mp z1];exact fun y=>cz (.inl y)
     ·refine fun σ He hI_5=>opq fun G_5 hG_5=>?_;obtain ⟨Ag,v5,rfl,se,gze,gee,gke,lke,hve2,nde,npe⟩:=hI_5;refine hG_5 ?_;rw [A0] at lke hve2 nde npe;rw [J8] at hve2 nde npe;refine dn _ _ ⟨Ag,_,_,rfl,se,gee,gke,by omega,fun z=>by rw [ef];exact hve2 z,?_,by rw [ef];exact nde⟩
      rw [et,B68,ok,R7,A46,List.all_nil,u7];unfold qD1;rw [cp,ei,eld,ien,R7,R7];exact L0.mpr fun z hz=>decide_eq_true (npe z hz)
  ·refine fun σ Hd hI_6=>opq fun G_6 hG_6=>?_;obtain ⟨Ag,v5,v6,rfl,sd,ge,gk,lk,hv,ok,nd0⟩:=hI_6;refine hG_6 ?_;rw [lx,J8] at ok nd0;have e1:qDJ Af path (.list ds)=true:=by
    show (ds.all _ && _)=true;rw [ok,decide_eq_true nd0];rfl
   rw [e1] at q;exact hN4 _ _ (q Hd sd)
end
section
variable {P:Program} {w:World} {K:PySem.W.Frag} {mg:Str->Option Value} {base:Heap} {f:Addr} {fd:FuncData}
theorem sc_Lhit:FnScope ["_law_net_here","_law_path","_law_found","_law_work"] ["_law_net_here","_law_path"] (qAC qO6):=⟨rfl,rfl,rfl,by decide +kernel,rfl,by decide +kernel,by decide +kernel⟩
theorem ok_Lhit (F:Fun K "_law_hit" "_law_hit" qO6 f fd) (qAZ:mg "sorted" = none) (qFC:mg "set" = none):FnOk P w K mg base CX0 1 f fd ["_law_net_here","_law_path"] qXJ:=by
 refine F.ok sc_Lhit (fun vs H Q E h=>?_) (fun cdv A outer s H vs Q E hr h=>?_)
 ·obtain ⟨a,t,Af,path,rfl,_⟩:=h
  rfl
 obtain ⟨a,t,Af,path,rfl,⟨hN,wf,n400,hT,pne,lp,pin⟩,n60,p60,q⟩:=h;have hu:=qFG hr;have hu0:=hr.units0;refine ⟨_,(qA4 (qAB (i:=2) sc_Lhit.nd rfl (G4 rfl) (qAQ qA3)) (qA4 (qCK J3 rfl (qD6 (qAT qKV (pv 1) (qB4 qA6) qB9)) (qAG (i:=3) sc_Lhit.nd rfl (G4 rfl)) (qA7 (qC6 (qHK G3 o6 o8 qLJ (pv 2) (qA0 (qFE rfl (lcs (own:=["_law_need"]) (fv:=[1]) (by kernel_rfl)) (qD6 (qC7 qCM (pv 0) (pv 3) (fun _ _=>rfl))) (fun z1=>qAG (i:=0) (qE0 (by kernel_rfl)) rfl (G4 rfl)) (fun z1=>(qW0 (qAP (qR7 (K:=K) rfl) (pv 0) (pv 1) (by with_unfolding_all rfl)))) (fun z1=>(pv 0))) qA3))))) (qA7 (qAK (qAA (qM8 rfl) rfl qAZ qEO (qA0 (qAE (qM9 rfl) rfl qFC qOY (qA0 (pv 2) qA3)) qA3)))))),?_⟩
 try dsimp only [Cx.nox,Cx.wish,cxOf]
 obtain ⟨rs,hA,NL⟩:=id hN;have lrs:=E9 NL;refine cut fun N0 hN0=>?_;refine ⟨(by show 0<=sizeLine;decide),fun l hl=>?_⟩
 have s1:=qA2 hl (.lst []);have g1:(Ah H l (.lst [])) l=some (.lst (([]:List Int).map V.int)):=qA1;generalize Ah H l (.lst [])=H1 at s1 g1 ⊢;refine hN0 _ _ (cut fun N1 hN1=>?_);have lpath:1<=path.length:=Y3.mpr pne;refine ⟨_,rfl,_,rfl,t,_,rfl,SqT.of (s1 _ _ hT),?_,fun t1 ht1=>?_⟩
 ·rw [A0,show (1:Int)=((1:Nat):Int) from rfl,HT.sIx_nat];omega
 rw [qB5,show (1:Int)=((1:Nat):Int) from rfl,qDQ _ _ lpath];have s2:=qA2 ht1 (.tup ((path.drop 1).map V.int));have g2:(Ah H1 t1 (.tup ((path.drop 1).map V.int))) t1=some (.tup ((path.drop 1).map V.int)):=qA1;have gl2:=s2 _ _ g1;generalize Ah H1 t1 (.tup ((path.drop 1).map V.int))=H2 at s2 g2 gl2 ⊢;have s02:=s1.trans s2;have nt1:t1 ≠ l:=qDN g2 gl2 (by intro z;cases z)
 refine ⟨t1,rfl,⟨_,SqT.of g2⟩,qGQ (a:=t1) (xs:=(path.drop 1).map V.int) (fun i σ Hc=>∃ (fs:List Int) (v3:Option V),σ=[some (.ref a),some (.ref t),some (.ref l),v3]/\Same H Hc/\Hc t1=some (.tup ((path.drop 1).map V.int))/\Hc l=some (.lst (fs.map V.int))/\fs.length<=60 * i/\∀ z:Int,z ∈ fs ↔ z ∉ path/\∃ w ∈ (path.drop 1).take i,z ∈ nd Af w)
  ⟨[],none,rfl,s02,g2,gl2,G5 _,fun z=>by simp⟩ (fun i σ Hc _ hP=>by obtain ⟨_,_,_,_,g,_⟩:=hP;exact SqT.of g) ?_ ?_⟩
 ·refine fun i x σ Hc hx hI_1=>opq fun G_1 hG_1=>?_;obtain ⟨fs,v3,rfl,sc,gt,gl,lf,hv⟩:=hI_1;obtain ⟨wk,ew,rfl⟩:=qBA hx;refine hG_1 ?_;have hi:=(B0.mp ew).1;rw [F5] at hi;have wb:=pin wk (M9 (D8 ew));have hw:wk.toNat<Af.length:=by omega
  have hz:=B9 hw;obtain ⟨r,h3,h4⟩:=NL.get hz;have en:=qCF hz;have ln:=(wf wk.toNat _ hz).len;generalize Af[wk.toNat]=zs at h4 hz en ln;refine ⟨_,rfl,.inl ⟨rfl,_,SqL.of gl⟩,?_⟩;refine ⟨_,rfl,_,rfl,a,_,_,_,rfl,rfl,SqT.of (sc _ _ hA),qCN wb.1 (by rw [D7,h3];rfl),r,rfl,⟨_,SqT.of (sc _ _ h4)⟩,fun px hpx=>?_⟩
  have nlp:l ≠ px:=qA5 gl hpx;have ntp:t1 ≠ px:=qA5 gt hpx;refine qH4 (p:=px) (a:=r) (xs:=zs.map V.int) (fun j σ Hd=>∃ (v:Option V),σ=[v,some (.ref t)]/\Same Hc Hd/\Hd px=some (.lst (((zs.take j).filter fun z=>decide (z ∉ path)).map V.int))) ?_ ?_ ?_ ?_
  ·exact ⟨none,rfl,qA2 hpx _,qA1⟩
  ·rintro j σ Hd hj ⟨v,rfl,sd,_⟩;exact SqT.of (sd _ _ (sc _ _ h4))
  ·refine fun j y σ Hd hy hI_3=>opq fun G_3 hG_3=>?_;obtain ⟨v,rfl,sd,gp⟩:=hI_3;obtain ⟨z0,ez,rfl⟩:=qBA hy;refine hG_3 ?_;have hj:=(B0.mp ez).1;have lfl:=z8 (fun z=>decide (z ∉ path)) (zs.take j);rw [E5] at lfl;refine ⟨_,rfl,_,rfl,t,_,rfl,.inr (SqT.of ((sc.trans sd) _ _ hT)),rfl,qCG path,_,rfl,?_⟩;rw [qEL,E6,ez,F4,t9];by_cases cz:z0 ∈ path
   ·rw [decide_eq_true cz];refine iteF ?_;exact ⟨_,rfl,sd,by rw [gp];simp [cz]⟩
   ·rw [decide_eq_false cz];refine iteT ?_;exact ⟨_,rfl,_,gp,qB3 (by rw [A0];omega),_,rfl,qAF sd hpx,by rw [qA1];simp [cz]⟩
  refine fun σ Hd hI_4=>opq fun G_4 hG_4=>?_;obtain ⟨v,rfl,sd,gp⟩:=hI_4;refine hG_4 ?_;rw [A0,J8] at gp;have lfl:=z8 (fun z=>decide (z ∉ path)) zs;refine ⟨l,px,_,_,rfl,rfl,sd _ _ gl,gp,by rw [sizeLine_eq,A0,A0];omega,?_⟩
  rw [<- D3];refine ⟨_,_,rfl,qAF (sc.trans sd) hl,by rw [qA8 nt1];exact sd _ _ gt,qA1,by rw [A8];omega,fun z=>?_⟩
  rw [C8,hv z,V5,decide_eq_true_eq,E6,ew,F4]
  constructor
  ·rintro (⟨h1,u,h2,h3⟩ | ⟨h1,h2⟩)
   ·exact ⟨h1,u,T6 _ h2,h3⟩
   ·exact ⟨h2,wk,J6 _ C9,by rw [en];exact h1⟩
  ·refine fun hI_5=>opq fun G_5 hG_5=>?_;obtain ⟨h1,u,h2,h3⟩:=hI_5;refine hG_5 ?_;rcases C8.mp h2 with h | h
   ·exact .inl ⟨h1,u,h,h3⟩
   ·rw [C0.mp h,en] at h3;exact .inr ⟨h3,h1⟩
 ·refine fun σ Hc hI_6=>opq fun G_6 hG_6=>?_;obtain ⟨fs,v3,rfl,sc,gt,gl,lf,hv⟩:=hI_6;refine hG_6 ?_;rw [A0] at lf hv;rw [J8] at hv;rw [F5] at lf;refine hN1 _ _ ?_;refine ⟨_,rfl,l,fs,rfl,SqL.of gl,by omega,fun e he=>?_⟩
  refine ⟨e,dedI fs,rfl,qA1,fun b ys hb hpm hs=>?_⟩;refine q b ys _ ((sc.trans (qA2 he _)).trans (qA2 hb _)) qA1 fun z=>?_;rw [hpm.mem_iff,mem_dedI,hv z,end_iff]
end
section
variable {P:Program} {w:World} {K:PySem.W.Frag} {mg:Str->Option Value} {base:Heap} {f:Addr} {fd:FuncData} {qOQ:Addr} {qS5:FuncData}
theorem qMS:FnScope ["_law_net_here","_law_path","_law_thing"] ["_law_net_here","_law_path","_law_thing"] (qAC qEW):=⟨rfl,rfl,rfl,by decide +kernel,rfl,by decide +kernel,by decide +kernel⟩
theorem ok_Lis_side (F:Fun K "_law_is_side" "_law_is_side" qEW f fd) (qP4:Clb P w K mg base 1 qOQ qS5 "_law_hit" ["_law_net_here","_law_path"] qXJ) (qA9:mg "isinstance" = none) (qAJ:mg "tuple" = none) (qGD:mg "int" = none) (qEC:mg "bool" = none) (qBF:mg "len" = none) (qGE:mg "all" = none) (qP5:mg "any" = none) (qHD:mg "zip" = none):FnOk P w K mg base CX0 2 f fd ["_law_net_here","_law_path","_law_thing"] qO0:=by
 refine F.ok qMS (fun vs H Q E h=>?_) (fun cdv A outer s H vs Q E hr h=>?_)
 ·obtain ⟨a,t,Af,path,x,n,dt,rfl,_⟩:=h
  rfl
 obtain ⟨a,t,Af,path,x,n,dt,rfl,PI,n60,p60,D,LD,q⟩:=h;have hu:=qFG hr;have hu0:=hr.units0;refine ⟨_,(qA4 (qBY (PW.pt (qL8 (qF9 (qF8 (qAA qBH rfl qA9 qAV (qA0 (pv 2) (qA0 (qDZ (v:=.ty "tuple") rfl qAJ qB6 rfl) qA3))))) (qI8 (qAP (qJG hu0) (pv 2) (qCL qA3) (qB1 _))))) (qA7 (qAK qDK)) qAO) (qA4 (qBY (qF9 (qF8 (qAA (qI0 rfl) rfl qGE qP0 (qA0 (qFE rfl (lcs (own:=["_law_work"]) (fv:=[0]) (by kernel_rfl)) (qD6 (pv 2)) (fun z2=>qAG (i:=0) (qE0 (by kernel_rfl)) rfl (G4 rfl)) (fun z2=>qBN) (fun z2=>(qJE (qAA (qHB (K:=K) rfl) rfl qA9 qAV (qA0 (pv 0) (qA0 (qDZ (v:=.ty "int") rfl qGD qOZ rfl) qA3))) (qJE (qUY (qAA (qHB (K:=K) rfl) rfl qA9 qAV (qA0 (pv 0) (qA0 (qDZ (v:=.ty "bool") rfl qEC qNJ rfl) qA3)))) (qOB (qOE qY4 qTO qA6 (pv 0) (qAA (qMB (K:=K) rfl) rfl qBF qC3 (qA0 (pv 1) qA3)))))))) qA3)))) (qA7 (qAK qDK)) qAO) (qA4 (qBY (PW.pt (qL8 (qAP (qPI hu0) (qC7 qCM (pv 0) (qC7 qCM (pv 2) qA6 (fun _ _=>rfl)) (fun _ _=>rfl)) (qCL qA3) (qB1 _)) (qL8 (qF8 (qAA (qUD rfl) rfl qP5 qYU (qA0 (qFE rfl (lcs (own:=["_law_work"]) (fv:=[1]) (by kernel_rfl)) (qD6 (pv 2)) (fun z3=>qAG (i:=0) (qE0 (by kernel_rfl)) rfl (G4 rfl)) (fun z3=>qBN) (fun z3=>(qDY (qV2 (K:=K) rfl) (pv 0) (pv 1) (by with_unfolding_all rfl)))) qA3))) (qI8 (qAP qCE (qC7 qCM (pv 2) (qLB qGZ qA6) (fun _ _=>rfl)) (qBB qP4 hr rfl (qA0 (pv 0) (qA0 (pv 1) qA3))) (by with_unfolding_all rfl)))))) (qA7 (qAK qDK)) qAO) (qA7 (qAK (qAA (qI0 rfl) rfl qGE qP0 (qA0 (qFE rfl (lcs (own:=["_law_one","_law_other"]) (fv:=[0]) (by kernel_rfl)) (qR3 rfl qHD qSP (qA0 (pv 2) (qA0 (qAT qKV (pv 2) (qB4 qA6) qB9) qA3))) (fun z4=>qR4 (K:=K) (n:=2) rfl rfl (qBU (qAG (i:=0) (qE0 (by kernel_rfl)) rfl (G4 rfl)) (qBU (qAG (i:=1) (qE0 (by kernel_rfl)) rfl (G4 rfl)) qGL)) rfl rfl) (fun z4=>qBN) (fun z4=>(qDY (qV2 (K:=K) rfl) (pv 0) (qC7 (qWJ (K:=K) rfl) (pv 2) (pv 1) (fun _ _=>rfl)) (by with_unfolding_all rfl)))) qA3))))))),?_⟩
 try dsimp only [Cx.nox,Cx.wish,cxOf]
 obtain ⟨hN,wf,n400,hT,pne,lp,pin⟩:=id PI;obtain ⟨rs,hA,NL⟩:=id hN;have lrs:=E9 NL;obtain ⟨ty,tyo,k1,k2,k3⟩:=qNT (K:=K) D;have no:∀ {b:Bool},qD1 Af path dt=b->∀ Hx,Same H Hx->Q (.bl b) Hx:=fun e Hx sx=>by rw [<- e];exact q Hx sx
 refine cut fun N0 hN0=>?_;refine ⟨_,rfl,x,"tuple",ty,_,rfl,tyo,k3,_,rfl,?_⟩;cases c:tupB dt with
 | false=>
  refine iteT ?_;refine iteT ?_;exact no (by cases dt <;> first | rfl | cases c) H (.refl _)
 | true=>
  refine iteF ?_;obtain ⟨m,tt,xs,ds,rfl,rfl,rfl,ga,lx,el⟩:=qNE D c;have ld:ds.length<=2000:=(LD true ds rfl).1;refine ⟨_,rfl,(by show 0<=sizeLine;decide),fun e0 he0=>?_⟩
  have s1:=qA2 he0 (.tup []);refine ⟨tt,e0,xs,rfl,rfl,SqT.of (s1 _ _ ga),SqT.of qA1,_,rfl,?_⟩;generalize Ah H e0 (.tup [])=H1 at s1 ⊢;by_cases ne0:ds=[]
  ·subst ne0;have ex:xs=[]:=Q8.mp lx;subst ex;refine iteT ?_;exact no rfl H1 s1
  have xne:xs.isEmpty=false:=by cases xs with | nil=>exact absurd (Q8.mp lx.symm) ne0 | cons _ _=>rfl
  have emp:ds.isEmpty=false:=by cases ds with | nil=>exact absurd rfl ne0 | cons _ _=>rfl
  rw [xne];refine iteF ?_;refine hN0 _ _ (cut fun N1 hN1=>?_);refine ⟨_,rfl,tt,rfl,⟨_,SqT.of (s1 _ _ ga)⟩,fun px hpx=>?_⟩;refine qH4 (p:=px) (a:=tt) (xs:=xs) (fun i σ Hd=>∃ (v:Option V),σ=[v,some (.ref a)]/\Same H1 Hd/\Hd px=some (.lst (((ds.take i).map (qCH (Af.length:Int))).map V.bl))) ?_ ?_ ?_ ?_
  ·exact ⟨none,rfl,qA2 hpx _,qA1⟩
  ·rintro i σ Hd hi ⟨v,rfl,sd,_⟩;exact SqT.of ((s1.trans sd) _ _ ga)
  ·refine fun i x' σ Hd hx hI_8=>opq fun G_8 hG_8=>?_;obtain ⟨v,rfl,sd,gp⟩:=hI_8;refine hG_8 ?_;have hi:=(B0.mp hx).1;have ed:=B9 (show i<ds.length by omega)
   generalize ds[i]=d1 at ed;have sd1:=s1.trans sd;have Di:=DatN.same sd1 (el i x' _ hx ed);obtain ⟨ty1,tyo1,j1,j2,j3⟩:=qNT (K:=K) Di;have fin:∀ b:Bool,qCH (Af.length:Int) d1=b->∃ ys,Hd px=some (.lst ys)/\ys.length<sizeLine/\∃ v:Option V,[some x',some (.ref a)]=[v,some (.ref a)]/\Same H1 (Ah Hd px (.lst (ys++[.bl b])))/\(Ah Hd px (.lst (ys++[.bl b]))) px=some (.lst (((ds.take (i+1)).map (qCH (Af.length:Int))).map V.bl)):=by
    intro b eb;refine ⟨_,gp,qB3 (by rw [A0,A0,E5];omega),_,rfl,qAF sd hpx,?_⟩
    rw [qA1,E6,ed,F4,D3,D3,<- eb]
    rfl
   refine ⟨_,rfl,x',"int",ty1,_,rfl,tyo1,j1,_,rfl,?_⟩;cases c1:(numB d1 || qKG d1) with
   | false=>
    refine iteF ?_;exact fin false (by cases d1 <;> first | rfl | cases c1)
   | true=>
    refine iteT ?_;refine ⟨_,rfl,x',"bool",ty1,_,rfl,tyo1,j2,?_⟩;refine ⟨_,rfl,_,rfl,?_⟩;cases c2:qKG d1 with
    | true=>
     refine iteF ?_;exact fin false (by cases d1 <;> first | rfl | cases c2)
    | false=>
     refine iteT ?_;have num:numB d1=true:=by rw [c2,Bool.or_false] at c1;exact c1
     obtain ⟨i1,rfl,rfl⟩:=qIP Di num;refine ⟨_,rfl,_,_,rfl,rfl,_,rfl,?_⟩;cases c3:decide ((0:Int)<=i1) with
     | false=>
      refine iteF ?_;exact fin false (by show (decide (0<=i1) && _)=false;rw [c3];rfl)
     | true=>
      refine iteT ?_;refine ⟨_,rfl,a,_,rfl,.inr (SqT.of (sd1 _ _ hA)),?_⟩;rw [A0,lrs];refine ⟨_,_,rfl,rfl,?_⟩;exact fin _ (by show (decide (0<=i1) && decide (i1<_))=_;rw [c3];rfl)
  refine fun σ Hd hI_9=>opq fun G_9 hG_9=>?_;obtain ⟨v,rfl,sd,gp⟩:=hI_9;refine hG_9 ?_;rw [lx,J8] at gp;refine ⟨px,_,rfl,SqL.of gp,_,rfl,?_⟩;have ea:((ds.map (qCH (Af.length:Int))).all id)=ds.all (qCH (Af.length:Int)):=by rw [A82];rfl
  rw [ea];have s01:=s1.trans sd;cases cb:ds.all (qCH (Af.length:Int)) with
  | false=>
   refine iteT ?_;refine no ?_ Hd s01;unfold qD1;have:qLD Af (.tuple ds)=false:=by
    show (!ds.isEmpty && _ && _)=false;rw [cb,P8,O7]
   rw [this];rfl
  | true=>
   refine iteF ?_;obtain ⟨zs,rfl,zin⟩:=qGS cb;have ex:=qUB lx el;subst ex;have zne:zs ≠ []:=fun z=>by subst z;exact ne0 rfl
   have es:=qKX (path:=path) zne zin;rw [es] at no;obtain ⟨zl,hzl⟩:∃ zl,zs.getLast?=some zl:=⟨_,e7 zne⟩;have el1:(zs.map V.int).getLast?=some (.int zl):=by rw [A44,hzl];rfl
   have eld:zs.getLastD 0=zl:=by rw [m7,hzl];rfl
   rw [eld] at no;have lz:zs.length<=2000:=by rw [A0] at ld;exact ld
   obtain ⟨z0,zr,ezs⟩:∃ z0 zr,zs=z0::zr:=by cases zs with | nil=>exact absurd rfl zne | cons a b=>exact ⟨a,b,rfl⟩
   have h0z:(zs.map V.int)[(0:Int).toNat]?=some (.int z0):=by rw [ezs];rfl
   refine hN1 _ _ (cut fun N2 hN2=>?_);have sb:=zin z0 (by rw [ezs];exact C9)
   have hw:z0.toNat<Af.length:=by omega
   have hz:=B9 hw;obtain ⟨r,h3,h4⟩:=NL.get hz;have en:=qCF hz;generalize Af[z0.toNat]=ys at h4 hz en;refine ⟨_,rfl,_,rfl,tt,_,_,_,rfl,rfl,SqT.of (s01 _ _ ga),qCN (O3 0) h0z,a,_,_,_,rfl,rfl,SqT.of (s01 _ _ hA),qCN sb.1 (by rw [D7,h3];rfl),(by show 0<=sizeLine;decide),fun e2 he2=>?_⟩
   have s2:=qA2 he2 (.tup []);have s02:=s01.trans s2;refine ⟨r,e2,_,rfl,rfl,SqT.of (s02 _ _ h4),SqT.of qA1,_,rfl,?_⟩;generalize Ah Hd e2 (.tup [])=H2 at s2 s02 ⊢;cases ys with
   | cons y0 yr=>
    refine iteT ?_;refine iteT ?_;refine no ?_ H2 s02;unfold qF7;rw [show zs.headD 0=z0 by rw [ezs];rfl,en]
    simp
   | nil=>
    refine iteF ?_;refine ⟨_,rfl,tt,rfl,⟨_,SqT.of (s02 _ _ ga)⟩,fun pa hpa=>?_⟩;refine qH4 (p:=pa) (a:=tt) (xs:=zs.map V.int) (fun i σ He=>∃ (v:Option V),σ=[v,some (.ref t)]/\Same H2 He/\He pa=some (.lst (((zs.take i).map fun z=>decide (z ∈ path)).map V.bl))) ?_ ?_ ?_ ?_
    ·exact ⟨none,rfl,qA2 hpa _,qA1⟩
    ·rintro i σ He hi ⟨v,rfl,se,_⟩;exact SqT.of ((s02.trans se) _ _ ga)
    ·refine fun i x' σ He hx hI_11=>opq fun G_11 hG_11=>?_;obtain ⟨v,rfl,se,gpa⟩:=hI_11;obtain ⟨y1,ey,rfl⟩:=qBA hx;refine hG_11 ?_;have hi:=(B0.mp ey).1;refine ⟨_,rfl,_,rfl,t,_,rfl,.inr (SqT.of ((s02.trans se) _ _ hT)),rfl,qCG path,_,gpa,qB3 (by rw [A0,A0,E5];omega),_,rfl,qAF se hpa,?_⟩
     rw [qA1,E6,ey,F4,D3,D3];show some (HO.lst (_++[V.bl (inV (.int y1) (path.map V.int))]))=_;rw [qEL]
     rfl
    refine fun σ He hI_12=>opq fun G_12 hG_12=>?_;obtain ⟨v,rfl,se,gpa⟩:=hI_12;refine hG_12 ?_;rw [A0,J8] at gpa;refine ⟨pa,_,rfl,SqL.of gpa,_,rfl,?_⟩;have s03:=s02.trans se;have eany:((zs.map fun z=>decide (z ∈ path)).any id)=!(zs.all fun x=>decide (x ∉ path)):=by
     rw [List.any_map,V6,Bool.not_eq_true',Y6,Q9,ne_eq,L0]
     constructor
     ·refine fun hI_13 h3=>opq fun G_13 hG_13=>?_;obtain ⟨z,h1,h2⟩:=hI_13;refine hG_13 ?_;exact of_decide_eq_true (h3 z h1) (of_decide_eq_true h2)
     ·intro h;refine P3 fun n=>h fun z hz=>decide_eq_true fun y=>n ⟨z,hz,decide_eq_true y⟩
    rw [eany];cases call:(zs.all fun x=>decide (x ∉ path)) with
    | false=>
     refine iteT ?_;refine iteT ?_;exact no (by rw [call,P8]) He s03
    | true=>
     rw [call,u7] at no;refine iteF ?_;refine ⟨_,rfl,_,rfl,tt,_,_,_,rfl,rfl,SqT.of (s03 _ _ ga),qFL el1,?_⟩;have PI3:qC4 He a t Af path:=⟨hN.same s03,wf,n400,s03 _ _ hT,pne,lp,pin⟩;refine ⟨_,rfl,_,rfl,a,t,Af,path,rfl,PI3,n60,p60,fun lh hz2 H4 s4 glh hmem=>?_⟩;refine ⟨lh,_,rfl,.inl (SqL.of glh),rfl,qCG hz2,_,rfl,?_⟩;rw [qEL];have s04:=s03.trans s4;by_cases ce:zl ∈ hz2
     ·have ie:=(hmem zl).mp ce;rw [ie,u7] at no;rw [decide_eq_true ce];refine iteF ?_;refine hN2 _ _ ?_;have lz1:1<=zs.length:=Y3.mpr zne;refine ⟨_,rfl,_,rfl,_,rfl,tt,_,rfl,SqT.of (s04 _ _ ga),?_,fun t2 ht2=>?_⟩
      ·rw [A0,show (1:Int)=((1:Nat):Int) from rfl,HT.sIx_nat];omega
      rw [qB5,show (1:Int)=((1:Nat):Int) from rfl,qDQ _ _ lz1];have s5:=qA2 ht2 (.tup ((zs.drop 1).map V.int));have g5:(Ah H4 t2 (.tup ((zs.drop 1).map V.int))) t2=some (.tup ((zs.drop 1).map V.int)):=qA1;have s05:=s04.trans s5;generalize Ah H4 t2 (.tup ((zs.drop 1).map V.int))=H5 at s5 g5 s05 ⊢;refine ⟨true,tt,t2,rfl,⟨_,SqT.of (s05 _ _ ga)⟩,⟨_,SqT.of g5⟩,fun pz hpz=>?_⟩;refine qWD (p:=pz) (b:=true) (l:=tt) (m:=t2) (xs:=zs.map V.int) (ys:=(zs.drop 1).map V.int) (by rw [A0,A0,F5];omega) (fun j σ Hy=>∃ (v1 v2:Option V) (bs:List Bool),σ=[v1,v2,some (.ref a)]/\Same H5 Hy/\Hy pz=some (.lst (bs.map V.bl))/\bs.length=j/\(bs.all id=true ↔ ∀ (i:Nat) x y,i<j->zs[i]?=some x->zs[i+1]?=some y->x ∈ nd Af y)) ?_ (fun j σ Hy _ h=>?_) ?_ ?_
      ·exact ⟨none,none,[],rfl,qA2 hpz _,qA1,rfl,⟨fun _ i _ _ h=>absurd h (t8 _),fun _=>rfl⟩⟩
      ·obtain ⟨_,_,_,_,sy,_⟩:=h;exact ⟨SqT.of ((s05.trans sy) _ _ ga),SqT.of (sy _ _ g5)⟩
      ·refine fun j x y σ Hy T hx hy hI_14 hT0=>opq fun G_14 hG_14=>?_;obtain ⟨v1,v2,bs,rfl,sy,gpz,lb,ab⟩:=hI_14;obtain ⟨f1,ef,rfl⟩:=qBA hx;obtain ⟨s1',es1,rfl⟩:=qBA hy;refine hG_14 ?_;rw [t5,j4] at es1;have hj:=(B0.mp es1).1;have sT:=qA2 hT0 (.tup [.int f1,.int s1']);have gT:SqT K (Ah Hy T (.tup [.int f1,.int s1'])) T [.int f1,.int s1']:=SqT.of qA1;have gpz2:=sT _ _ gpz;have sy2:=sy.trans sT;generalize Ah Hy T (.tup [.int f1,.int s1'])=H6 at sT gT gpz2 sy2 ⊢;refine ⟨T,_,rfl,gT,rfl,_,_,rfl,_,_,rfl,rfl,?_⟩;have sb1:=zin s1' (D8 es1);have hw1:s1'.toNat<Af.length:=by omega
       have hz1:=B9 hw1;obtain ⟨r1,h31,h41⟩:=NL.get hz1;have en1:=qCF hz1;generalize Af[s1'.toNat]=ys1 at h41 hz1 en1;have s06:=s05.trans sy2;refine ⟨_,rfl,_,rfl,_,rfl,a,_,_,_,rfl,rfl,SqT.of (s06 _ _ hA),qCN sb1.1 (by rw [D7,h31];rfl),r1,_,rfl,.inr (SqT.of (s06 _ _ h41)),rfl,qCG ys1,_,gpz2,qB3 (by rw [A0];omega),?_⟩
       refine ⟨_,_,bs++[decide (f1 ∈ ys1)],rfl,qAF sy2 hpz,?_,by rw [A8,lb];rfl,?_⟩
       ·rw [qA1,D3];show some (HO.lst (_++[V.bl (inV (.int f1) (ys1.map V.int))]))=_;rw [qEL]
        rfl
       ·rw [B68,E7,ab]
        constructor
        ·refine fun hI_15 i x y hi e1 e2=>opq fun G_15 hG_15=>?_;obtain ⟨h1,h2⟩:=hI_15;refine hG_15 ?_;by_cases e:i=j
         ·subst e;rw [ef] at e1;rw [es1] at e2;cases e1;cases e2;rw [en1];simpa using h2
         ·exact h1 i x y (by omega) e1 e2
        ·intro h;refine ⟨fun i x y hi e1 e2=>h i x y (by omega) e1 e2,?_⟩
         have:=h j f1 s1' (by omega) ef es1
         rw [en1] at this;simpa using this
      ·refine fun σ Hy hI_16=>opq fun G_16 hG_16=>?_;obtain ⟨v1,v2,bs,rfl,sy,gpz,lb,ab⟩:=hI_16;refine hG_16 ?_;rw [A0,F5] at ab;refine ⟨pz,bs,rfl,SqL.of gpz,?_⟩;refine no ?_ Hy (s05.trans sy);unfold qF7;rw [show zs.headD 0=z0 by rw [ezs];rfl,en,List.isEmpty_nil,u7,V6,ab,chain_iff]
       exact ⟨fun h i x y _ e1 e2=>h i x y e1 e2,fun h i x y e1 e2=>h i x y (by have:=(B0.mp e2).1;omega) e1 e2⟩
     ·rw [decide_eq_false ce];refine iteT ?_;have ie:qD2 Af path zl=false:=Q9.mpr fun z=>ce ((hmem zl).mpr z);exact no (by rw [ie,P8]) H4 s04
end
section
variable {P:Program} {w:World} {K:PySem.W.Frag} {mg:Str->Option Value} {base:Heap} {f:Addr} {fd:FuncData} {qF3:Addr} {qIO:FuncData}
theorem sc_Lare_sides:FnScope ["_law_net_here","_law_path","_law_thing","_law_works","_law_side"] ["_law_net_here","_law_path","_law_thing"] (qAC qD5):=⟨rfl,rfl,rfl,by decide +kernel,rfl,by decide +kernel,by decide +kernel⟩
theorem ok_Lare_sides (F:Fun K "_law_are_sides" "_law_are_sides" qD5 f fd) (qF6:Clb P w K mg base 2 qF3 qIO "_law_is_side" ["_law_net_here","_law_path","_law_thing"] qO0) (qA9:mg "isinstance" = none) (qCX:mg "list" = none) (qBF:mg "len" = none) (qGE:mg "all" = none) (qFC:mg "set" = none):FnOk P w K mg base CX0 3 f fd ["_law_net_here","_law_path","_law_thing"] qJA:=by
 refine F.ok sc_Lare_sides (fun vs H Q E h=>?_) (fun cdv A outer s H vs Q E hr h=>?_)
 ·obtain ⟨a,t,Af,path,x,n,dt,rfl,_⟩:=h
  rfl
 obtain ⟨a,t,Af,path,x,n,dt,rfl,PI,n60,p60,l60,D,LD,q⟩:=h;have hu:=qFG hr;have hu0:=hr.units0;refine ⟨_,(qA4 (qBY (PW.pt (qL8 (qF9 (qF8 (qAA qBH rfl qA9 qAV (qA0 (pv 2) (qA0 (qDZ (v:=.ty "list") rfl qCX qKF rfl) qA3))))) (qI8 (qF9 (qF8 (qAA (qI0 rfl) rfl qGE qP0 (qA0 (qFE rfl (lcs (own:=["_law_side"]) (fv:=[0,1]) (by kernel_rfl)) (qGK (pv 2)) (fun z1=>qAG (i:=0) (qE0 (by kernel_rfl)) rfl (G4 rfl)) (fun z1=>qBN) (fun z1=>(qBB qF6 hr rfl (qA0 (pv 1) (qA0 (pv 2) (qA0 (pv 0) qA3)))))) qA3))))))) (qA7 (qAK qDK)) qAO) (qA4 (qAB (i:=3) sc_Lare_sides.nd rfl (G4 rfl) (qAQ qA3)) (qA4 (qCK J3 rfl (qGK (pv 2)) (qAG (i:=4) sc_Lare_sides.nd rfl (G4 rfl)) (qA7 (qC6 (qHK G3 o6 o8 qPJ (pv 3) (qA0 (pv 4) qA3))))) (qA7 (qAK (qDY qGO (qAA qAH rfl qBF qC3 (qA0 (pv 3) qA3)) (qAA qSO rfl qBF qC3 (qA0 (qAE (qM9 rfl) rfl qFC qOY (qA0 (pv 3) qA3)) qA3)) (qB1 _))))))),?_⟩
 try dsimp only [Cx.nox,Cx.wish,cxOf]
 obtain ⟨hN,wf,n400,hT,pne,lp,pin⟩:=id PI;obtain ⟨ty,tyo,k1⟩:=qUN (K:=K) D;have PIs:∀ {H':Hp},Same H H'->qC4 H' a t Af path:=fun k=>⟨hN.same k,wf,n400,k _ _ hT,pne,lp,pin⟩;refine cut fun N0 hN0=>?_;refine ⟨_,rfl,x,"list",ty,_,rfl,tyo,k1,_,rfl,?_⟩;cases c:lstB dt with
 | false=>
  refine iteT ?_;refine iteT ?_;have e1:qDJ Af path dt=false:=by cases dt <;> first | rfl | cases c
  rw [e1] at q;exact q H (.refl _)
 | true=>
  refine iteF ?_;obtain ⟨m,ll,xs,ds,rfl,rfl,rfl,ga,lx,el⟩:=qNF D c;have ld:=LD false ds rfl;have ld60:=l60 ds rfl;refine ⟨_,rfl,ll,rfl,⟨_,SqL.of ga⟩,fun px hpx=>?_⟩;refine qN6 (p:=px) (a:=ll) (xs:=xs) (fun i σ Hd=>∃ (v:Option V),σ=[v,some (.ref a),some (.ref t)]/\Same H Hd/\Hd px=some (.lst (((ds.take i).map (qD1 Af path)).map V.bl))) ?_ ?_ ?_ ?_
  ·exact ⟨none,rfl,qA2 hpx _,qA1⟩
  ·rintro i σ Hd hi ⟨v,rfl,sd,_⟩;exact SqL.of (sd _ _ ga)
  ·refine fun i x' σ Hd hx hI_2=>opq fun G_2 hG_2=>?_;obtain ⟨v,rfl,sd,gp⟩:=hI_2;refine hG_2 ?_;have hi:=(B0.mp hx).1;have ed:=B9 (show i<ds.length by omega)
   have hmem:=D8 ed;generalize ds[i]=d1 at ed hmem;have Di:=DatN.same sd (el i x' _ hx ed);refine ⟨_,rfl,_,rfl,_,rfl,a,t,Af,path,x',m,d1,rfl,PIs sd,n60,p60,Di,ld.2 d1 hmem,fun H2 s2=>?_⟩;have gp2:=s2 _ _ gp;refine ⟨_,gp2,qB3 (by rw [A0,A0,E5];omega),_,rfl,qAF (sd.trans s2) hpx,?_⟩
   rw [qA1,E6,ed,F4,D3,D3]
   rfl
  refine fun σ Hd hI_3=>opq fun G_3 hG_3=>?_;obtain ⟨v,rfl,sd,gp⟩:=hI_3;refine hG_3 ?_;rw [lx,J8] at gp;refine ⟨px,_,rfl,SqL.of gp,_,rfl,?_⟩;have ea:((ds.map (qD1 Af path)).all id)=ds.all (qD1 Af path):=by rw [A82];rfl
  rw [ea];have eq0:qDJ Af path (.list ds)=(ds.all (qD1 Af path) && decide ((ds.flatMap qBC).Nodup)):=rfl;rw [eq0] at q;cases ca:ds.all (qD1 Af path) with
  | false=>
   refine iteT ?_;rw [ca,O7] at q;exact q Hd sd
  | true=>
   rw [ca,R7] at q;refine iteF ?_;refine hN0 _ _ (cut fun N1 hN1=>?_);refine ⟨(by show 0<=sizeLine;decide),fun lw hlw=>?_⟩
   have s2:=qA2 hlw (.lst []);have g2:(Ah Hd lw (.lst [])) lw=some (.lst (([]:List Int).map V.int)):=qA1;have flw:H lw=none:=sd.free hlw;have sd2:=sd.trans s2;generalize Ah Hd lw (.lst [])=H2 at s2 g2 sd2 ⊢;refine hN1 _ _ (cut fun N2 hN2=>?_);refine ⟨_,rfl,ll,rfl,⟨_,SqL.of (sd2 _ _ ga)⟩,qK8 (a:=ll) (xs:=xs) (fun i σ Hc=>∃ (v4:Option V),σ=[some (.ref a),some (.ref t),some (.ref ll),some (.ref lw),v4]/\Same H Hc/\Hc lw=some (.lst (((ds.take i).flatMap qBC).map V.int))/\((ds.take i).flatMap qBC).length<=60 * i)
    ⟨none,rfl,sd2,g2,C1 _⟩ (fun i σ Hc _ hP=>by obtain ⟨_,_,sc,_⟩:=hP;exact SqL.of (sc _ _ ga)) ?_ ?_⟩
   ·refine fun i x' σ Hc hx hI_4=>opq fun G_4 hG_4=>?_;obtain ⟨v4,rfl,sc,gl,lf⟩:=hI_4;refine hG_4 ?_;have hi:=(B0.mp hx).1;have ed:=B9 (show i<ds.length by omega)
    have hmem:=D8 ed;generalize ds[i]=d1 at ed hmem;have Di:=DatN.same sc (el i x' _ hx ed);obtain ⟨tz,zs,rfl,ei,gz,lz⟩:=qTC wf Di (L0.mp ca d1 hmem);have ef:(ds.take (i+1)).flatMap qBC=(ds.take i).flatMap qBC++zs:=by rw [E6,ed,F4,A20,A43,ei,B53,N9]
    refine ⟨_,rfl,.inl ⟨rfl,_,SqL.of gl⟩,_,rfl,lw,tz,_,_,rfl,rfl,gl,SqT.of gz,by rw [sizeLine_eq,A0,A0];omega,?_⟩
    refine ⟨_,rfl,qAF sc flw,by rw [qA1,ef,D3],by rw [ef,A8];omega⟩
   ·refine fun σ Hc hI_5=>opq fun G_5 hG_5=>?_;obtain ⟨v4,rfl,sc,gl,lf⟩:=hI_5;refine hG_5 ?_;rw [lx] at gl lf;rw [J8] at gl lf;refine hN2 _ _ ?_;generalize ds.flatMap qBC=zs at gl lf q;refine ⟨_,rfl,lw,_,rfl,.inl (SqL.of gl),?_⟩;rw [A0];refine ⟨_,rfl,lw,zs,rfl,SqL.of gl,by omega,fun e he=>?_⟩
    refine ⟨e,dedI zs,rfl,qA1,rfl,?_⟩;have ev:decide (V.int ((zs.length:Nat):Int)=V.int (((dedI zs).length:Nat):Int))=decide zs.Nodup:=by
     refine decide_eq_decide.mpr ⟨fun z=>?_,fun z=>?_⟩
     ·have:=V.int.inj z;exact ded_nodup.mp (by omega)
     ·rw [ded_nodup.mpr z]
    rw [ev];exact q _ (sc.trans (qA2 he _))
end
section
variable {P:Program} {w:World} {K:PySem.W.Frag} {mg:Str->Option Value} {base:Heap} {f:Addr} {fd:FuncData} {qBM qDC:Addr} {qCC qG8:FuncData}
theorem sc_Llooks:FnScope ["_law_net_here","_law_path","_law_thing","_law_written","_law_found"] ["_law_net_here","_law_path","_law_thing"] (qAC qHS):=⟨rfl,rfl,rfl,by decide +kernel,rfl,by decide +kernel,by decide +kernel⟩
theorem ok_Llooks (F:Fun K "_law_looks" "_law_looks" qHS f fd) (qAW:Clb P w K mg base 4 qBM qCC "shows_sides" ["net","path","thing"] qMN) (qDG:Clb P w K mg base 3 qDC qG8 "_law_are_sides" ["_law_net_here","_law_path","_law_thing"] qJA) (qA9:mg "isinstance" = none) (qEC:mg "bool" = none) (qJ1:mg "str" = none):FnOk P w K mg base CX0 5 f fd ["_law_net_here","_law_path","_law_thing"] qNZ:=by
 refine F.ok sc_Llooks (fun vs H Q E h=>?_) (fun cdv A outer s H vs Q E hr h=>?_)
 ·obtain ⟨a,t,Af,path,x,n,W,rfl,_⟩:=h
  rfl
 obtain ⟨a,t,Af,path,x,n,W,rfl,PI,n60,p60,⟨d,D,S,LN,L60⟩,n40,hW,q⟩:=h;have hgd:=hr.gd;have hu64:=hr.units;refine ⟨_,(qA4 (qAB (i:=3) sc_Llooks.nd rfl (G4 rfl) (qAE (qIV hgd hu64) rfl qJ1 qSQ (qA0 (pv 2) qA3))) (qA4 (qAB (i:=4) sc_Llooks.nd rfl (G4 rfl) (qBB qAW hr rfl (qA0 (pv 0) (qA0 (pv 1) (qA0 (pv 2) qA3))))) (qA7 (qAK (qJE (qAA qBH rfl qA9 qAV (qA0 (pv 4) (qA0 (qDZ (v:=.ty "bool") rfl qEC qNJ rfl) qA3))) (qJE (qDY qGO (pv 4) (qBB qDG hr rfl (qA0 (pv 0) (qA0 (pv 1) (qA0 (pv 2) qA3)))) (qB1 _)) (qOB (qDY qGO (qAE (qIV hgd hu64) rfl qJ1 qSQ (qA0 (pv 2) qA3)) (pv 3) (qB1 _))))))))),?_⟩
 try dsimp only [Cx.nox,Cx.wish,cxOf]
 obtain ⟨hN,wf,n400,hT,pne,lp,pin⟩:=id PI;have PIs:∀ {H':Hp},Same H H'->qC4 H' a t Af path:=fun k=>⟨hN.same k,wf,n400,k _ _ hT,pne,lp,pin⟩;have hsz:d.shown.length<=sizeLine:=by
  have a:=B69 8 (by decide) d S.ls
  have b:=S.wt;rw [sizeLine_eq];omega
 refine cut fun N0 hN0=>?_;refine ⟨_,rfl,x,n,d,rfl,D,n40,S.sh,S.nd,hsz,fun z1 ⟨g1,e1,eg1⟩=>?_⟩;refine hN0 _ _ (cut fun N1 hN1=>?_);refine ⟨_,rfl,_,rfl,_,rfl,a,t,Af,path,x,n,d,rfl,PI,D,LN,fun H1 s1=>?_⟩;refine hN1 _ _ ?_;refine ⟨_,rfl,_,"bool",_,true,rfl,.bl _,rfl,true,rfl,?_⟩;rw [if_pos rfl];refine ⟨_,rfl,_,rfl,_,rfl,_,rfl,a,t,Af,path,x,n,d,rfl,PIs s1,n60,p60,L60,D.same s1,LN,fun H2 s2=>?_⟩;refine ⟨rfl,_,rfl,?_⟩;rw [decide_eq_true (rfl:V.bl (qDJ Af path d)=V.bl (qDJ Af path d)),if_pos rfl];refine ⟨_,rfl,x,n,d,rfl,D.same (s1.trans s2),n40,S.sh,S.nd,hsz,fun z2 ⟨g2,e2,eg2⟩=>?_⟩;have ez:z2=z1:=by rw [e1,e2,eg1,eg2]
 refine ⟨_,rfl,rfl,?_⟩;rw [ez,decide_eq_true (rfl:V.str z1=V.str z1)];exact q H2 (s1.trans s2)
end
section
variable {P:Program} {w:World} {K:PySem.W.Frag} {mg:Str->Option Value} {base:Heap} {f:Addr} {fd:FuncData} {qCB:Addr} {qC1:FuncData}
theorem sc_Lbent_side:FnScope ["_law_state","_law_net_here","_law_path","_law_side","_law_k","_law_work","_law_some"] ["_law_state","_law_net_here","_law_path","_law_side"] (qAC qD4):=⟨rfl,rfl,rfl,by decide +kernel,rfl,by decide +kernel,by decide +kernel⟩
theorem ok_Lbent_side (F:Fun K "_law_bent_side" "_law_bent_side" qD4 f fd) (qAL:Clb P w K mg base 1 qCB qC1 "_law_take" ["_law_state","_law_many"] qI6) (qBF:mg "len" = none) (qCX:mg "list" = none) (qAJ:mg "tuple" = none) (qJ1:mg "str" = none):FnOk P w K mg base CX0 2 f fd ["_law_state","_law_net_here","_law_path","_law_side"] qJ9:=by
 refine F.ok sc_Lbent_side (fun vs H Q E h=>?_) (fun cdv A outer s H vs Q E hr h=>?_)
 ·obtain ⟨d,c,t,ns,a,tp,ts,Af,path,side,rfl,_⟩:=h
  rfl
 obtain ⟨d,c,t,ns,a,tp,ts,Af,path,side,rfl,S,ht,PI,n60,p60,hS,sne,ls,sin,q⟩:=h;have ht':t<=1000000000 - 100:=ht;have hgd:=hr.gd;have hu64:=hr.units;have hu0:=hr.units0;have hu:=qFG hr;refine ⟨_,(qA4 (qAB (i:=4) sc_Lbent_side.nd rfl (G4 rfl) (qBB qAL hr rfl (qA0 (pv 0) (qA0 (qAD qCY (qAA qAH rfl qBF qC3 (qA0 (pv 3) qA3)) qA6) qA3)))) (qA4 (qAB (i:=5) sc_Lbent_side.nd rfl (G4 rfl) (qBB qAL hr rfl (qA0 (pv 0) (qA0 (qAA qAH rfl qBF qC3 (qA0 (pv 1) qA3)) qA3)))) (qA4 (qAB (i:=6) sc_Lbent_side.nd rfl (G4 rfl) (qAQ (qA0 (qAD qEJ (qAD qEJ (qAT qGH (pv 3) qB9 (qB4 (pv 4))) (qCL (qA0 (pv 5) qA3))) (qAT qGH (pv 3) (qB4 (pv 4)) qB9)) (qA0 (qAD qEJ (qAD qEJ (qAT qGH (pv 3) qB9 (qB4 (pv 4))) (qCL (qA0 (pv 5) qA3))) (qAT qGH (pv 3) (qB4 (qAD qCY (pv 4) qA6)) qB9)) (qA0 (qAT qGH (pv 3) (qB4 qA6) qB9) (qA0 (qAT qGH (pv 3) qB9 (qB4 (qLB qGZ qA6))) (qA0 (qPG (pv 3) (qB4 (qLB qGZ qA6))) qA3 (hs:=qRT)) (hs:=qRT)) (hs:=qRT)) (hs:=qH5)) (hs:=qH5)))) (qA4 (qAB (i:=6) sc_Lbent_side.nd rfl (G4 rfl) (qAD qD8 (pv 6) (qAQ (qA0 (qAE qHA rfl qCX qKF (qA0 (pv 3) qA3)) (qA0 (qAD qEJ (pv 3) (qCL (qA0 (qC7 qCM (pv 2) (qLB qGZ qA6) (fun _ _=>rfl)) qA3))) (qA0 (pv 2) (qA0 (qAE qAM rfl qAJ qB6 (qA0 (qFE rfl (lcs (own:=["_law_work"]) (fv:=[]) (by kernel_rfl)) (qD6 (pv 3)) (fun z1=>qAG (i:=0) (qE0 (by kernel_rfl)) rfl (G4 rfl)) (fun z1=>qBN) (fun z1=>(qDY qGO (pv 0) qA6 (qB1 _)))) qA3)) (qA0 (qAD qEJ (pv 3) (pv 3)) qA3 (hs:=qH5)) (hs:=qN9)) (hs:=qWO)) (hs:=qH5)) (hs:=qN9))))) (qA4 (qAB (i:=6) sc_Lbent_side.nd rfl (G4 rfl) (qAD qD8 (pv 6) (qAQ (qA0 (qCL (qA0 (pv 5) qA3)) (qA0 (qCL qA3) (qA0 qOC qA3)))))) (qA4 (qAB (i:=6) sc_Lbent_side.nd rfl (G4 rfl) (qAD qD8 (pv 6) (qAQ (qA0 (qAE qAM rfl qAJ qB6 (qA0 (qFE rfl (lcs (own:=["_law_work"]) (fv:=[]) (by kernel_rfl)) (qD6 (pv 3)) (fun z2=>qAG (i:=0) (qE0 (by kernel_rfl)) rfl (G4 rfl)) (fun z2=>qBN) (fun z2=>(qAE (qIV hgd hu64) rfl qJ1 qSQ (qA0 (pv 0) qA3)))) qA3)) (qA0 (qCL (qA0 (pv 3) qA3)) (qA0 (qAD qEJ (qCL (qA0 (qLB qGZ qA6) qA3)) (pv 3)) (qA0 (qAD qEJ (pv 3) (qCL (qA0 (qAA qAH rfl qBF qC3 (qA0 (pv 1) qA3)) qA3))) qA3))))))) (qA7 (qAK (qC7 qCZ (pv 6) (qBB qAL hr rfl (qA0 (pv 0) (qA0 (qAA qAH rfl qBF qC3 (qA0 (pv 6) qA3)) qA3))) (fun _ _=>rfl)))))))))),?_⟩
 try dsimp only [Cx.nox,Cx.wish,cxOf]
 obtain ⟨hN,wf,n400,hP,pne,lp,pin⟩:=id PI;refine cut fun N0 hN0=>?_;refine ⟨_,rfl,_,rfl,ts,_,rfl,.inr (SqT.of hS),?_⟩;rw [A0];refine ⟨_,_,rfl,rfl,d,c,t,ns,_,rfl,S,(by show t<=1000000000;omega),by omega,by omega,fun k ns1 H1 k0 k1 S1 K1=>?_⟩
 obtain ⟨kk,rfl⟩:∃ kk:Nat,k=(kk:Int):=⟨k.toNat,by omega⟩
 refine hN0 _ _ (cut fun N1 hN1=>?_);obtain ⟨rs0,hA0,NL0⟩:=hN.keep S K1;have lrs0:=E9 NL0;have nl1:1<=Af.length:=by
  obtain ⟨z,hz⟩:=List.exists_mem_of_ne_nil side sne;have:=sin z hz;omega
 refine ⟨_,rfl,_,rfl,a,_,rfl,.inr (SqT.of hA0),?_⟩;rw [A0,lrs0];refine ⟨d,c,t+1,ns1,_,rfl,S1,(by show t+1<=1000000000;omega),by omega,by omega,fun wk ns2 H2 w0 w1 S2 K2=>?_⟩
 refine hN1 _ _ (cut fun N2 hN2=>?_);have K12:=K1.trans K2;have hS2:=K12 _ _ hS (S.tup hS).1 (S.tup hS).2;have hP2:=K12 _ _ hP (S.tup hP).1 (S.tup hP).2;obtain ⟨rsN,hA2,NL2⟩:=hN.keep S K12;have lrN:=E9 NL2;obtain ⟨red,ered⟩:∃ red:Hp->Hp,red=fun Hx b=>if b=d\/b=c then none else Hx b:=⟨_,rfl⟩
 have rd:∀ {Hx:Hp} {p:Addr} {o:HO},p ≠ d/\p ≠ c->Hx p=some o->red Hx p=some o:=fun {Hx p o} n g=>by
  rw [ered];show (if p=d\/p=c then none else Hx p)=some o
  rw [if_neg fun z=>z.elim n.1 n.2];exact g
 have rs:∀ {Ha Hb:Hp},Same Ha Hb->Same (red Ha) (red Hb):=fun {Ha Hb} k b o e=>by
  rw [ered] at e ⊢;dsimp only at e ⊢;by_cases z:b=d\/b=c
  ·rw [if_pos z] at e;cases e
  ·rw [if_neg z] at e ⊢;exact k b o e
 have nw:∀ {Hx:Hp} {q:Addr},Same H2 Hx->Hx q=none->q ≠ d/\q ≠ c:=fun {Hx q} k h=>⟨(qA5 (S2.same k).dict h).symm,(qA5 (S2.same k).list h).symm⟩;have any:∀ {Hx:Hp} {p:Addr} {zs:List Int},Same H2 Hx->Hx p=some (.tup (zs.map V.int))->zs.length<=800->(∀ z ∈ zs,-2000<=z/\z<=2000)->AnyN (red Hx) 3 20000 (.ref p):=fun k g l h=>((anyT (rd ((S2.same k).tup g) g) (by rw [A0];omega) (qP1 h)).up).mono (by omega)
 have sin':∀ z ∈ side,-2000<=z/\z<=2000:=fun z hz=>by have:=sin z hz;omega
 have cin:∀ (lo hi:Option Int),∀ z ∈ cutI side lo hi,-2000<=z/\z<=2000:=fun lo hi z hz=>sin' z (qOU hz);have cl:∀ (lo hi:Option Int),(cutI side lo hi).length<=60:=fun lo hi=>by have:=qKD side lo hi;omega
 have wk' : -2000<=wk/\wk<=2000:=by omega
 have sz:∀ {n:Nat},n<=400->n<=sizeLine:=fun h=>by rw [sizeLine_eq];omega
 -- three slices with one work
 refine ⟨_,rfl,_,rfl,_,rfl,ts,_,rfl,hS2,fun p1 Ha sa ga=>?_⟩;rw [qB5] at ga;refine ⟨_,rfl,(by show 1<=sizeLine;decide),fun p2 hp2=>?_⟩
 have sb:=qA2 hp2 (.tup [.int wk]);have gb:(Ah Ha p2 (.tup [.int wk])) p2=some (.tup [.int wk]):=qA1;generalize Ah Ha p2 (.tup [.int wk])=Hb at sb gb ⊢;refine ⟨p1,p2,_,_,rfl,rfl,sb _ _ ga,gb,sz (by rw [A0];have:=cl none (some (kk:Int));show _+1<=_;omega),fun p3 Hc sc gc=>?_⟩
 have T3:=sa.trans (sb.trans sc);refine ⟨_,rfl,_,rfl,_,rfl,ts,_,rfl,T3 _ _ hS2,fun p4 Hd sd gd=>?_⟩;rw [qB5] at gd;have sum1:∀ {u v:List Int} {w:V},(u.map V.int++[w]).length+(v.map V.int).length=u.length+1+v.length:=fun {u v w}=>by simp
 refine ⟨p3,p4,_,_,rfl,rfl,sd _ _ gc,gd,sz (by rw [sum1];have:=cl none (some (kk:Int));have:=cl (some (kk:Int)) none;omega),fun q1 He se ge=>?_⟩
 have A1:AnyN (red He) 3 20000 (.ref q1):=any (T3.trans (sd.trans se)) (zs:=cutI side none (some (kk:Int))++[wk]++cutI side (some (kk:Int)) none) (by rw [ge,D3,D3];rfl) (by rw [A8,A8];have:=cl none (some (kk:Int));have:=cl (some (kk:Int)) none;show _+1+_<=_;omega) (fun z hz=>by
  rcases C8.mp hz with h | h
  ·rcases C8.mp h with h | h
   ·exact cin _ _ z h
   ·rw [C0.mp h];exact wk'
  ·exact cin _ _ z h)
 have U1:=T3.trans (sd.trans se);clear gc gd ge ga gb sc sd se sa sb T3
 -- the second
 refine ⟨_,rfl,_,rfl,_,rfl,ts,_,rfl,U1 _ _ hS2,fun p5 Hf sf gf=>?_⟩;rw [qB5] at gf;refine ⟨_,rfl,(by show 1<=sizeLine;decide),fun p6 hp6=>?_⟩
 have sg:=qA2 hp6 (.tup [.int wk]);have gg:(Ah Hf p6 (.tup [.int wk])) p6=some (.tup [.int wk]):=qA1;generalize Ah Hf p6 (.tup [.int wk])=Hg at sg gg ⊢;refine ⟨p5,p6,_,_,rfl,rfl,sg _ _ gf,gg,sz (by rw [A0];have:=cl none (some (kk:Int));show _+1<=_;omega),fun p7 Hh sh gh=>?_⟩
 have T7:=U1.trans (sf.trans (sg.trans sh));refine ⟨_,rfl,_,rfl,_,_,rfl,rfl,_,rfl,ts,_,rfl,T7 _ _ hS2,fun p8 Hi si gi=>?_⟩;rw [qB5] at gi;refine ⟨p7,p8,_,_,rfl,rfl,si _ _ gh,gi,sz (by rw [sum1];have:=cl none (some (kk:Int));have:=cl (some ((kk:Int)+1)) none;omega),fun q2 Hj sj gj=>?_⟩
 have A2:AnyN (red Hj) 3 20000 (.ref q2):=any (T7.trans (si.trans sj)) (zs:=cutI side none (some (kk:Int))++[wk]++cutI side (some ((kk:Int)+1)) none) (by rw [gj,D3,D3];rfl) (by rw [A8,A8];have:=cl none (some (kk:Int));have:=cl (some ((kk:Int)+1)) none;show _+1+_<=_;omega) (fun z hz=>by
  rcases C8.mp hz with h | h
  ·rcases C8.mp h with h | h
   ·exact cin _ _ z h
   ·rw [C0.mp h];exact wk'
  ·exact cin _ _ z h)
 have V2:=sf.trans (sg.trans (sh.trans (si.trans sj)));have B1:=A1.same (rs V2);have U2:=U1.trans V2;clear gf gg gh gi gj sf sg sh si sj T7 A1 U1 V2
 -- three slices
 refine ⟨_,rfl,_,rfl,ts,_,rfl,U2 _ _ hS2,fun q3 Hk sk gk=>?_⟩;rw [qB5] at gk;have A3:AnyN (red Hk) 3 20000 (.ref q3):=any (U2.trans sk) gk (by have:=cl (some 1) none;omega) (cin _ _)
 have U3:=U2.trans sk;refine ⟨_,rfl,_,rfl,_,rfl,ts,_,rfl,U3 _ _ hS2,fun q4 Hl sl gl=>?_⟩;rw [qB5] at gl;have A4:AnyN (red Hl) 3 20000 (.ref q4):=any (U3.trans sl) gl (by have:=cl none (some (-1));omega) (cin _ _)
 have U4:=U3.trans sl;refine ⟨_,rfl,_,rfl,_,rfl,rfl,ts,_,rfl,SqT.of (U4 _ _ hS2),fun q5 hq5=>?_⟩;have sm:=qA2 hq5 (.tup (side.map V.int).reverse);have A5:AnyN (red (Ah Hl q5 (.tup (side.map V.int).reverse))) 3 20000 (.ref q5):=any (U4.trans sm) (zs:=side.reverse) (by rw [qA1,A01]) (by rw [Y2];omega) (fun z hz=>sin' z (R8.mp hz))
 have B:=fun x h=>((((show ∀ x ∈ [V.ref q1,.ref q2,.ref q3,.ref q4],AnyN (red Hl) 3 20000 x from fun x hx=>by
  simp at hx;rcases hx with rfl | rfl | rfl | rfl
  ·exact B1.same (rs (sk.trans sl))
  ·exact A2.same (rs (sk.trans sl))
  ·exact A3.same (rs sl)
  ·exact A4) x h).same (rs sm)))
 have U5:=U4.trans sm;generalize Ah Hl q5 (.tup (side.map V.int).reverse)=Hm at sm A5 B U5 ⊢;refine ⟨(by show 5<=sizeLine;decide),fun L1 hL1=>?_⟩
 have sn:=qA2 hL1 (.lst [.ref q1,.ref q2,.ref q3,.ref q4,.ref q5]);obtain ⟨X1,eX1⟩:∃ X:List V,X=[.ref q1,.ref q2,.ref q3,.ref q4,.ref q5]:=⟨_,rfl⟩;have g1:(Ah Hm L1 (.lst [.ref q1,.ref q2,.ref q3,.ref q4,.ref q5])) L1=some (.lst X1):=by rw [eX1];exact qA1
 have AX1:∀ x ∈ X1,AnyN (red (Ah Hm L1 (.lst [.ref q1,.ref q2,.ref q3,.ref q4,.ref q5]))) 3 20000 x:=fun x hx=>by
  rw [eX1] at hx;refine AnyN.same ?_ (rs sn);rcases C8.mp (show x ∈ [V.ref q1,.ref q2,.ref q3,.ref q4]++[.ref q5] from hx) with h | h
  ·exact B x h
  ·rw [C0.mp h];exact A5
 have lX1:X1.length=5:=by rw [eX1];rfl
 have U6:=U5.trans sn;generalize Ah Hm L1 (.lst [.ref q1,.ref q2,.ref q3,.ref q4,.ref q5])=Hn at sn g1 AX1 U6 ⊢;clear eX1 B A5 A4 A3 A2 B1 sk sl sm sn gk gl U2 U3 U4 U5;refine hN2 _ _ (cut fun N3 hN3=>?_);obtain ⟨pl,hpl⟩:∃ pl,path.getLast?=some pl:=⟨_,e7 pne⟩;have elp:(path.map V.int).getLast?=some (.int pl):=by rw [A44,hpl];rfl
 have plin : -2000<=pl/\pl<=2000:=by have:=pin pl (A93 hpl);omega
 have anyPath:∀ {Hx:Hp},Same H2 Hx->Hx tp=some (.tup (path.map V.int))->AnyN (red Hx) 3 20000 (.ref tp):=fun k g=>any k g (by omega) fun z hz=>by have:=pin z hz;omega
 -- list(side)
 refine ⟨_,rfl,_,rfl,ts,_,rfl,.inr (SqT.of (U6 _ _ hS2)),fun q6 hq6=>?_⟩;have sa:=qA2 hq6 (.lst (side.map V.int));have A6:AnyN (red (Ah Hn q6 (.lst (side.map V.int)))) 3 20000 (.ref q6):=((qZZ (rd (nw U6 hq6) qA1) (by rw [A0];omega) (qP1 sin')).up).mono (by omega)
 have U7:=U6.trans sa;generalize Ah Hn q6 (.lst (side.map V.int))=Ha at sa A6 U7 ⊢
 -- one more behind
 refine ⟨_,rfl,_,rfl,_,rfl,tp,_,_,_,rfl,rfl,SqT.of (U7 _ _ hP2),qFL elp,(by show 1<=sizeLine;decide),fun p9 hp9=>?_⟩
 have sb:=qA2 hp9 (.tup [.int pl]);have gb:(Ah Ha p9 (.tup [.int pl])) p9=some (.tup [.int pl]):=qA1;have U8:=U7.trans sb;generalize Ah Ha p9 (.tup [.int pl])=Hb at sb gb U8 ⊢;refine ⟨ts,p9,_,_,rfl,rfl,U8 _ _ hS2,gb,sz (by rw [A0];show _+1<=_;omega),fun q7 Hc sc gc=>?_⟩
 have A7:AnyN (red Hc) 3 20000 (.ref q7):=any (U8.trans sc) (zs:=side++[pl]) (by rw [gc,D3];rfl) (by rw [A8];show _+1<=_;omega) (fun z hz=>by
  rcases C8.mp hz with h | h
  ·exact sin' z h
  ·rw [C0.mp h];exact plin)
 have U9:=U8.trans sc
 -- the path;a tuple of bools
 refine ⟨_,rfl,_,rfl,ts,rfl,⟨_,SqT.of (U9 _ _ hS2)⟩,fun px hpx=>?_⟩;refine qH4 (p:=px) (a:=ts) (xs:=side.map V.int) (fun i σ Hd=>∃ (v:Option V) (bs:List Bool),σ=[v]/\Same Hc Hd/\Hd px=some (.lst (bs.map V.bl))/\bs.length=i) ?_ ?_ ?_ ?_
 ·exact ⟨none,[],rfl,qA2 hpx _,qA1,rfl⟩
 ·rintro i σ Hd hi ⟨v,bs,rfl,sd,_⟩;exact SqT.of ((U9.trans sd) _ _ hS2)
 ·refine fun i x' σ Hd hx hI_2=>opq fun G_2 hG_2=>?_;obtain ⟨v,bs,rfl,sd,gp,lb⟩:=hI_2;obtain ⟨y1,ey,rfl⟩:=qBA hx;refine hG_2 ?_;have hi:=(B0.mp ey).1;refine ⟨_,rfl,rfl,_,gp,qB3 (by rw [A0];omega),_,bs++[_],rfl,qAF sd hpx,by rw [qA1,D3];rfl,by rw [A8,lb];rfl⟩
 refine fun σ Hd hI_3=>opq fun G_3 hG_3=>?_;obtain ⟨v,bs,rfl,sd,gp,lb⟩:=hI_3;refine hG_3 ?_;rw [A0] at lb;refine ⟨px,_,rfl,.inl ⟨SqL.of gp,fun q9 hq9=>?_⟩⟩;have se:=qA2 hq9 (.tup (bs.map V.bl));have A9:AnyN (red (Ah Hd q9 (.tup (bs.map V.bl)))) 3 20000 (.ref q9):=((anyT (rd (nw (U9.trans sd) hq9) qA1) (by rw [A0];omega) fun x hx=>by obtain ⟨b,_,rfl⟩:=G1.mp hx;exact .bl).up).mono (by omega)
 have U10:=U9.trans (sd.trans se);have B7:=A7.same (rs (sd.trans se));have B6:=A6.same (rs (sb.trans (sc.trans (sd.trans se))));generalize Ah Hd q9 (.tup (bs.map V.bl))=He at se A9 U10 B7 B6 ⊢
 -- twice
 refine ⟨_,rfl,_,rfl,ts,ts,_,_,rfl,rfl,U10 _ _ hS2,U10 _ _ hS2,sz (by rw [A0];omega),fun q10 Hf sf gf=>?_⟩
 have A10:AnyN (red Hf) 3 20000 (.ref q10):=any (U10.trans sf) (zs:=side++side) (by rw [gf,D3]) (by rw [A8];omega) (fun z hz=>(C8.mp hz).elim (sin' z) (sin' z))
 have U11:=U10.trans sf;refine ⟨(by show 5<=sizeLine;decide),fun Lb hL2=>?_⟩
 have sg:=qA2 hL2 (.lst [.ref q6,.ref q7,.ref tp,.ref q9,.ref q10]);obtain ⟨X2,eX2⟩:∃ X:List V,X=[.ref q6,.ref q7,.ref tp,.ref q9,.ref q10]:=⟨_,rfl⟩;have g2:(Ah Hf Lb (.lst [.ref q6,.ref q7,.ref tp,.ref q9,.ref q10])) Lb=some (.lst X2):=by rw [eX2];exact qA1
 have AX2:∀ x ∈ X2,AnyN (red (Ah Hf Lb (.lst [.ref q6,.ref q7,.ref tp,.ref q9,.ref q10]))) 3 20000 x:=fun x hx=>by
  rw [eX2] at hx;refine AnyN.same ?_ (rs sg);simp at hx;rcases hx with rfl | rfl | rfl | rfl | rfl
  ·exact B6.same (rs sf)
  ·exact B7.same (rs sf)
  ·exact anyPath U11 (U11 _ _ hP2)
  ·exact A9.same (rs sf)
  ·exact A10
 have lX2:X2.length=5:=by rw [eX2];rfl
 have U12:=U11.trans sg;have V12:=sa.trans (sb.trans (sc.trans (sd.trans (se.trans (sf.trans sg)))));have g1':=V12 _ _ g1;have AX1':=fun x hx=>(AX1 x hx).same (rs V12);generalize Ah Hf Lb (.lst [.ref q6,.ref q7,.ref tp,.ref q9,.ref q10])=Hg at sg g2 AX2 U12 V12 g1' AX1' ⊢;clear eX2 A6 A7 A9 A10 B6 B7 sa sb sc sd se sf sg gb gc gf gp U7 U8 U9 U10 U11 V12 AX1 g1 U6
 -- two lists put together
 have join:∀ {Hx:Hp} {X Y:List V},(∀ x ∈ X,AnyN (red Hx) 3 20000 x)->(∀ x ∈ Y,AnyN (red Hx) 3 20000 x)->∀ x ∈ X++Y,AnyN (red Hx) 3 20000 x:=fun h k x hx=>(C8.mp hx).elim (h x) (k x);refine ⟨L1,Lb,X1,X2,rfl,rfl,g1',g2,sz (by omega),fun L3 hL3=>?_⟩
 have sa:=qA2 hL3 (.lst (X1++X2));have g3:(Ah Hg L3 (.lst (X1++X2))) L3=some (.lst (X1++X2)):=qA1;have AX3:=fun x hx=>(join AX1' AX2 x hx).same (rs sa);have lX3:(X1++X2).length=10:=by rw [A8];omega
 have U13:=U12.trans sa;generalize Ah Hg L3 (.lst (X1++X2))=Hh at sa g3 AX3 U13 ⊢;generalize X1++X2=X3 at g3 AX3 lX3;clear sa U12 g1' g2 AX1' AX2;refine hN3 _ _ (cut fun N4 hN4=>?_);refine ⟨_,rfl,_,rfl,(by show 1<=sizeLine;decide),fun r1 hr1=>⟨(by show 0<=sizeLine;decide),fun r2 hr2=>⟨(by show 3<=sizeLine;decide),fun L4 hL4=>?_⟩⟩⟩
 have sa:=qA2 hr1 (.tup [.int wk]);have sb:=qA2 hr2 (.tup []);have sc:=qA2 hL4 (.lst [.ref r1,.ref r2,.non]);have VV:=sa.trans (sb.trans sc);obtain ⟨X4,eX4⟩:∃ X:List V,X=[.ref r1,.ref r2,.non]:=⟨_,rfl⟩;have AX4:∀ x ∈ X4,AnyN (red (Ah (Ah (Ah Hh r1 (.tup [.int wk])) r2 (.tup [])) L4 (.lst [.ref r1,.ref r2,.non]))) 3 20000 x:=fun x hx=>by
  rw [eX4] at hx;simp at hx;rcases hx with rfl | rfl | rfl
  ·exact any (U13.trans VV) (zs:=[wk]) ((sb.trans sc) _ _ qA1) (by simp) (fun z hz=>by rw [C0.mp hz];exact wk')
  ·exact any (U13.trans VV) (zs:=[]) (sc _ _ qA1) (by simp) (fun z hz=>nomatch hz)
  ·exact .non
 have g4:(Ah (Ah (Ah Hh r1 (.tup [.int wk])) r2 (.tup [])) L4 (.lst [.ref r1,.ref r2,.non])) L4=some (.lst X4):=by rw [eX4];exact qA1
 have lX4:X4.length=3:=by rw [eX4];rfl
 have g3':=VV _ _ g3;have AX3':=fun x hx=>(AX3 x hx).same (rs VV);have U14:=U13.trans VV;generalize Ah (Ah (Ah Hh r1 (.tup [.int wk])) r2 (.tup [])) L4 (.lst [.ref r1,.ref r2,.non])=Hi at VV AX4 g4 g3' AX3' U14 ⊢;clear eX4 sa sb sc VV AX3 g3 U13;refine ⟨L3,L4,X3,X4,rfl,rfl,g3',g4,sz (by omega),fun L5 hL5=>?_⟩
 have sa:=qA2 hL5 (.lst (X3++X4));have g5:(Ah Hi L5 (.lst (X3++X4))) L5=some (.lst (X3++X4)):=qA1;have AX5:=fun x hx=>(join AX3' AX4 x hx).same (rs sa);have lX5:(X3++X4).length=13:=by rw [A8];omega
 have U15:=U14.trans sa;generalize Ah Hi L5 (.lst (X3++X4))=Hj at sa g5 AX5 U15 ⊢;generalize X3++X4=X5 at g5 AX5 lX5;clear sa U14 g3' g4 AX3' AX4;refine hN4 _ _ (cut fun N5 hN5=>?_)
 -- texts
 refine ⟨_,rfl,_,rfl,ts,rfl,⟨_,SqT.of (U15 _ _ hS2)⟩,fun px hpx=>?_⟩;refine qH4 (p:=px) (a:=ts) (xs:=side.map V.int) (fun i σ Hd=>∃ (v:Option V) (ys:List Str),σ=[v]/\Same Hj Hd/\Hd px=some (.lst (ys.map V.str))/\ys.length=i/\∀ y ∈ ys,(y.cps.toList.all fun c=>decide (c<16 ^ 8))=true/\y.length<=11) ?_ ?_ ?_ ?_
 ·exact ⟨none,[],rfl,qA2 hpx _,qA1,rfl,fun y hy=>nomatch hy⟩
 ·rintro i σ Hd hi ⟨v,ys,rfl,sd,_⟩;exact SqT.of ((U15.trans sd) _ _ hS2)
 ·refine fun i x' σ Hd hx hI_5=>opq fun G_5 hG_5=>?_;obtain ⟨v,ys,rfl,sd,gp,ly,oky⟩:=hI_5;obtain ⟨y1,ey,rfl⟩:=qBA hx;refine hG_5 ?_;have hi:=(B0.mp ey).1;have yb:=sin y1 (D8 ey);have S1':=qUS (i:=y1) (by omega)
  have hsz:(Y8 y1).shown.length<=sizeLine:=by
   have a:=B69 8 (by decide) (.int y1) S1'.ls
   have b:=S1'.wt;rw [sizeLine_eq];omega
  refine ⟨_,rfl,.int y1,0,.int y1,rfl,.inr (.inr (.inl ⟨y1,rfl,rfl⟩)),by omega,S1'.sh,S1'.nd,hsz,fun z1 ⟨g1,e1,eg1⟩=>?_⟩
  have ez:z1=F9 (toString y1):=by rw [e1,eg1]
  refine ⟨_,gp,qB3 (by rw [A0];omega),_,ys++[z1],rfl,qAF sd hpx,by rw [qA1,D3];rfl,by rw [A8,ly];rfl,fun y hy=>?_⟩
  rcases C8.mp hy with h | h
  ·exact oky y h
  ·rw [C0.mp h,ez];exact qXB yb.1 (by omega)
 refine fun σ Hd hI_6=>opq fun G_6 hG_6=>?_;obtain ⟨v,ys,rfl,sd,gp,ly,oky⟩:=hI_6;refine hG_6 ?_;rw [A0] at ly;refine ⟨px,_,rfl,.inl ⟨SqL.of gp,fun q11 hq11=>?_⟩⟩;have se:=qA2 hq11 (.tup (ys.map V.str));have A11:AnyN (red (Ah Hd q11 (.tup (ys.map V.str)))) 3 20000 (.ref q11):=((anyT (rd (nw (U15.trans sd) hq11) qA1) (by rw [A0];omega) fun x hx=>by obtain ⟨y,hy,rfl⟩:=G1.mp hx;exact .str (oky y hy).1 (oky y hy).2).up).mono (by omega)
 have U16:=U15.trans (sd.trans se);generalize Ah Hd q11 (.tup (ys.map V.str))=He at se A11 U16 ⊢
 -- the side in a tuple
 refine ⟨_,rfl,(by show 1<=sizeLine;decide),fun q12 hq12=>?_⟩
 have sf:=qA2 hq12 (.tup [.ref ts]);have U17:=U16.trans sf;have A12:AnyN (red (Ah He q12 (.tup [.ref ts]))) 3 20000 (.ref q12):=(AnyL.seq (b:=true) (T:=10000+1+0) (rd (nw U16 hq12) qA1) (by show 1<=2000;decide) (.cons (anyT (rd ((S2.same U17).tup (U17 _ _ hS2)) (U17 _ _ hS2)) (by rw [A0];omega) (qP1 sin')) .nil)).mono (by omega)
 generalize Ah He q12 (.tup [.ref ts])=Hf at sf A12 U17 ⊢
 -- one ahead
 refine ⟨_,rfl,(by show 1<=sizeLine;decide),fun p13 hp13=>?_⟩
 have sg:=qA2 hp13 (.tup [.int (-1)]);have gg:(Ah Hf p13 (.tup [.int (-1)])) p13=some (.tup [.int (-1)]):=qA1;have U18:=U17.trans sg;generalize Ah Hf p13 (.tup [.int (-1)])=Hg' at sg gg U18 ⊢;refine ⟨_,rfl,p13,ts,_,_,rfl,rfl,gg,U18 _ _ hS2,sz (by rw [A0];show 1+_<=_;omega),fun q13 Hh' sh gh=>?_⟩
 have A13:AnyN (red Hh') 3 20000 (.ref q13):=any (U18.trans sh) (zs:=-1::side) (by rw [gh];rfl) (by rw [E3];omega) (fun z hz=>by
  rcases D9.mp hz with rfl | h
  ·omega
  ·exact sin' z h)
 have U19:=U18.trans sh
 -- the net's length behind
 refine ⟨_,rfl,_,rfl,a,_,rfl,.inr (SqT.of (U19 _ _ hA2)),?_⟩;rw [A0,lrN];refine ⟨(by show 1<=sizeLine;decide),fun p14 hp14=>?_⟩
 have si:=qA2 hp14 (.tup [.int (Af.length:Int)]);have gi:(Ah Hh' p14 (.tup [.int (Af.length:Int)])) p14=some (.tup [.int (Af.length:Int)]):=qA1;have U20:=U19.trans si;generalize Ah Hh' p14 (.tup [.int (Af.length:Int)])=Hi' at si gi U20 ⊢;refine ⟨ts,p14,_,_,rfl,rfl,U20 _ _ hS2,gi,sz (by rw [A0];show _+1<=_;omega),fun q14 Hk sk gk=>?_⟩
 have A14:AnyN (red Hk) 3 20000 (.ref q14):=any (U20.trans sk) (zs:=side++[(Af.length:Int)]) (by rw [gk,D3];rfl) (by rw [A8];show _+1<=_;omega) (fun z hz=>by
  rcases C8.mp hz with h | h
  ·exact sin' z h
  ·rw [C0.mp h];omega)
 have U21:=U20.trans sk;refine ⟨(by show 4<=sizeLine;decide),fun L6 hL6=>?_⟩
 have sl:=qA2 hL6 (.lst [.ref q11,.ref q12,.ref q13,.ref q14]);obtain ⟨X6,eX6⟩:∃ X:List V,X=[.ref q11,.ref q12,.ref q13,.ref q14]:=⟨_,rfl⟩;have AX6:∀ x ∈ X6,AnyN (red (Ah Hk L6 (.lst [.ref q11,.ref q12,.ref q13,.ref q14]))) 3 20000 x:=fun x hx=>by
  rw [eX6] at hx;refine AnyN.same ?_ (rs sl);simp at hx;rcases hx with rfl | rfl | rfl | rfl
  ·exact A11.same (rs (sf.trans (sg.trans (sh.trans (si.trans sk)))))
  ·exact A12.same (rs (sg.trans (sh.trans (si.trans sk))))
  ·exact A13.same (rs (si.trans sk))
  ·exact A14
 have g6:(Ah Hk L6 (.lst [.ref q11,.ref q12,.ref q13,.ref q14])) L6=some (.lst X6):=by rw [eX6];exact qA1
 have lX6:X6.length=4:=by rw [eX6];rfl
 have W6:=sd.trans (se.trans (sf.trans (sg.trans (sh.trans (si.trans (sk.trans sl))))));have g5':=W6 _ _ g5;have AX5':=fun x hx=>(AX5 x hx).same (rs W6);have U22:=U21.trans sl;generalize Ah Hk L6 (.lst [.ref q11,.ref q12,.ref q13,.ref q14])=Hl' at sl AX6 g6 W6 g5' AX5' U22 ⊢;refine ⟨L5,L6,X5,X6,rfl,rfl,g5',g6,sz (by omega),fun L7 hL7=>?_⟩
 have sm:=qA2 hL7 (.lst (X5++X6));have g7:(Ah Hl' L7 (.lst (X5++X6))) L7=some (.lst (X5++X6)):=qA1;have AX7:=fun x hx=>(join AX5' AX6 x hx).same (rs sm);have lX7:(X5++X6).length=17:=by rw [A8];omega
 have U23:=U22.trans sm;generalize Ah Hl' L7 (.lst (X5++X6))=Hm' at sm g7 AX7 U23 ⊢;generalize X5++X6=X7 at g7 AX7 lX7;refine hN5 _ _ ?_;have S3:=S2.same U23;have nL7:L7 ≠ d/\L7 ≠ c:=⟨(qA5 (S2.same U22).dict hL7).symm,(qA5 (S2.same U22).list hL7).symm⟩;refine ⟨_,rfl,_,rfl,_,rfl,L7,_,rfl,.inl (SqL.of g7),?_⟩;rw [lX7];refine ⟨d,c,t+1+1,ns2,_,rfl,S3,(by show t+1+1<=1000000000;omega),by decide,by decide,fun j ns4 Hz j0 j1 S4 K4=>?_⟩
 have K24:Keep d c H Hz:=K12.trans ((Keep.of_same U23).trans K4);obtain ⟨x,ex⟩:∃ x,X7[j.toNat]?=some x:=⟨_,B9 (by omega)⟩
 have sz4:Same (red Hm') Hz:=fun b o e=>by
  rw [ered] at e;dsimp only at e;by_cases z:b=d\/b=c
  ·rw [if_pos z] at e;cases e
  ·rw [if_neg z] at e;exact K4 b o e (fun y=>z (.inl y)) fun y=>z (.inr y)
 refine ⟨L7,_,j,_,rfl,rfl,SqL.of (K4 _ _ g7 nL7.1 nL7.2),qCN j0 ex,?_⟩;exact q x (t+1+1+1) ns4 Hz S4 (by omega) (by omega) K24 ((AX7 x (D8 ex)).same sz4)
end
section
variable {P:Program} {w:World} {K:PySem.W.Frag} {mg:Str->Option Value} {base:Heap} {f:Addr} {fd:FuncData} {qCB qDB:Addr} {qC1 qG7:FuncData}
theorem nmB {c:TT} {t u:TS} {D:Ends} {σ:St} {H:Hp} (h:∀ T:Hp->Prop,(∀ H',t D σ H'->T H')->c σ H fun b H1=>if b=true then T H1 else u D σ H1):tIfS c t u D σ H:=h (t D σ) fun _ z=>z
theorem sc_Lbent:FnScope ["_law_state","_law_net_here","_law_path","_law_told","_law_way","_law_k","_law_some"] ["_law_state","_law_net_here","_law_path","_law_told"] (qAC qJX):=⟨rfl,rfl,rfl,by decide +kernel,rfl,by decide +kernel,by decide +kernel⟩
theorem ok_Lbent (F:Fun K "_law_bent" "_law_bent" qJX f fd) (qAL:Clb P w K mg base 1 qCB qC1 "_law_take" ["_law_state","_law_many"] qI6) (qDF:Clb P w K mg base 2 qDB qG7 "_law_bent_side" ["_law_state","_law_net_here","_law_path","_law_side"] qJ9) (qBF:mg "len" = none) (qAJ:mg "tuple" = none) (qJT:mg "max" = none) (qHE:mg "min" = none):FnOk P w K mg base CX0 3 f fd ["_law_state","_law_net_here","_law_path","_law_told"] qQQ:=by
 refine F.ok sc_Lbent (fun vs H Q E h=>?_) (fun cdv A outer s H vs Q E hr h=>?_)
 ·obtain ⟨d,c,t,ns,a,tp,l,Af,path,rs,ts,rfl,_⟩:=h
  rfl
 obtain ⟨d,c,t,ns,a,tp,l,Af,path,rs,ts,rfl,S,ht,PI,n60,p60,hL,ld,lc,hT,l20,tin,q⟩:=h;have ht':t<=1000000000 - 200:=ht;have hgd:=hr.gd;have hu64:=hr.units;have hu0:=hr.units0;have hu:=qFG hr;refine ⟨_,(qA4 (qAB (i:=4) sc_Lbent.nd rfl (G4 rfl) (qBB qAL hr rfl (qA0 (pv 0) (qA0 qA6 qA3)))) (qA4 (qAB (i:=5) sc_Lbent.nd rfl (G4 rfl) (qBB qAL hr rfl (qA0 (pv 0) (qA0 (qAD qCY (qAA qAH rfl qBF qC3 (qA0 (pv 3) qA3)) qA6) qA3)))) (qA4 (qBY (PW.pt (qL8 (qAP qGO (pv 4) qA6 (qB1 _)) (qI8 (qAP (qLH hu0) (pv 3) (qAQ qA3) (qB1 _))))) (qA4 (qAB (i:=6) sc_Lbent.nd rfl (G4 rfl) (qAQ (qA0 (qAE qAM rfl qAJ qB6 (qA0 (pv 3) qA3)) (qA0 qOC (qA0 qDK (qA0 qH3 (qA0 (qAD qD8 (pv 3) (qAQ (qA0 (qCL qA3) qA3))) (qA0 (qAD qD8 (pv 3) (qAQ (qA0 (pv 2) qA3))) (qA0 (qAD qD8 (pv 3) (qAQ (qA0 qOC qA3))) (qA0 (qAQ (qA0 (pv 3) qA3)) (qA0 qA6 (qA0 (qAD qD8 (pv 3) (pv 3)) qA3 (hs:=qH5)) (hs:=qHV)) (hs:=qWP)) (hs:=qH5)) (hs:=qH5)) (hs:=qH5)) (hs:=qHV)) (hs:=qHV)) (hs:=qHV)) (hs:=qN9)))) (qA7 (qAK (qC7 qCZ (pv 6) (qBB qAL hr rfl (qA0 (pv 0) (qA0 qA6 qA3))) (fun _ _=>rfl))))) qAO) (qA4 (qBY (qAP qGO (pv 4) qA6 (qB1 _)) (qA7 (qAK (qAD qD8 (qAT qDH (pv 3) qB9 (qB4 (pv 5))) (qAT qDH (pv 3) (qB4 (qAA (qMA rfl) rfl qJT qVJ (qA0 qA6 (qA0 (qAD qEE (pv 5) qA6) qA3)))) qB9)))) qAO) (qA4 (qBY (qAP qGO (pv 4) qA6 (qB1 _)) (qA7 (qAK (qAD qD8 (qAT qDH (pv 3) qB9 (qB4 (pv 5))) (qAT qDH (pv 3) (qB4 (qAD qCY (pv 5) qA6)) qB9)))) qAO) (qA4 (qAB (i:=5) sc_Lbent.nd rfl (G4 rfl) (qAA (qIX rfl) rfl qHE qSR (qA0 (pv 5) (qA0 (qAD qEE (qAA qAH rfl qBF qC3 (qA0 (pv 3) qA3)) qA6) qA3)))) (qA7 (qAK (qAD qD8 (qAD qD8 (qAT qDH (pv 3) qB9 (qB4 (pv 5))) (qAQ (qA0 (qBB qDF hr rfl (qA0 (pv 0) (qA0 (pv 1) (qA0 (pv 2) (qA0 (qC7 qCZ (pv 3) (pv 5) (fun _ _=>rfl)) qA3))))) qA3))) (qAT qDH (pv 3) (qB4 (qAD qCY (pv 5) qA6)) qB9)))))))))),?_⟩
 try dsimp only [Cx.nox,Cx.wish,cxOf]
 obtain ⟨hN,wf,n400,hP,pne,lp,pin⟩:=id PI;refine cut fun N0 hN0=>?_;refine ⟨_,rfl,d,c,t,ns,_,rfl,S,(by show t<=1000000000;omega),by omega,by omega,fun way ns1 H1 w0 w1 S1 K1=>?_⟩
 refine hN0 _ _ (cut fun N1 hN1=>?_);have hL1:=K1 _ _ hL ld lc;refine ⟨_,rfl,_,rfl,l,_,rfl,.inl (SqL.of hL1),?_⟩;rw [A0];refine ⟨_,_,rfl,rfl,d,c,t+1,ns1,_,rfl,S1,(by show t+1<=1000000000;omega),by omega,by omega,fun k ns2 H2 k0 k1 S2 K2=>?_⟩
 obtain ⟨kk,rfl⟩:∃ kk:Nat,k=(kk:Int):=⟨k.toNat,by omega⟩
 refine hN1 _ _ (cut fun N2 hN2=>?_);have K12:=K1.trans K2;have hL2:=K12 _ _ hL ld lc;have hP2:=K12 _ _ hP (S.tup hP).1 (S.tup hP).2;have memL:∀ {rs:List Addr} {ts:List (List Int)},L2.G.TupsAt H rs ts->∀ r ∈ rs,∃ s ∈ ts,H r=some (.tup (s.map V.int)):=by
  intro rs ts h
  induction h with
  | nil=>exact fun r hr=>nomatch hr
  | cons h0 _ ih=>
   intro r hr;rcases D9.mp hr with rfl | hr
   ·exact ⟨_,C9,h0⟩
   ·obtain ⟨s,hs,e⟩:=ih r hr;exact ⟨s,C7 _ hs,e⟩
 have told2:∀ r ∈ rs,∃ s ∈ ts,H2 r=some (.tup (s.map V.int))/\r ≠ d/\r ≠ c:=fun r hr=>by
  obtain ⟨s,hs,e⟩:=memL hT r hr;exact ⟨s,hs,K12 _ _ e (S.tup e).1 (S.tup e).2,(S.tup e).1,(S.tup e).2⟩
 obtain ⟨red,ered⟩:∃ red:Hp->Hp,red=fun Hx b=>if b=d\/b=c then none else Hx b:=⟨_,rfl⟩
 have rd:∀ {Hx:Hp} {p:Addr} {o:HO},p ≠ d/\p ≠ c->Hx p=some o->red Hx p=some o:=fun {Hx p o} n g=>by
  rw [ered];show (if p=d\/p=c then none else Hx p)=some o
  rw [if_neg fun z=>z.elim n.1 n.2];exact g
 have rs':∀ {Ha Hb:Hp},Same Ha Hb->Same (red Ha) (red Hb):=fun {Ha Hb} k b o e=>by
  rw [ered] at e ⊢;dsimp only at e ⊢;by_cases z:b=d\/b=c
  ·rw [if_pos z] at e;cases e
  ·rw [if_neg z] at e ⊢;exact k b o e
 have nw:∀ {Hx:Hp} {q:Addr},Same H2 Hx->Hx q=none->q ≠ d/\q ≠ c:=fun {Hx q} k h=>⟨(qA5 (S2.same k).dict h).symm,(qA5 (S2.same k).list h).symm⟩;have one:∀ {Hx:Hp} {p:Addr} {zs:List Int},Same H2 Hx->Hx p=some (.tup (zs.map V.int))->zs.length<=800->(∀ z ∈ zs,-2000<=z/\z<=2000)->AnyN (red Hx) 3 20000 (.ref p):=fun k g l h=>((anyT (rd ((S2.same k).tup g) g) (by rw [A0];omega) (qP1 h)).up).mono (by omega)
 have told:∀ {Hx:Hp},Same H2 Hx->∀ x ∈ rs.map V.ref,AnyN (red Hx) 3 20000 x:=fun {Hx} k x hx=>by
  obtain ⟨r,hr,rfl⟩:=G1.mp hx;obtain ⟨s,hs,e,_⟩:=told2 r hr;exact one k (k _ _ e) (by have:=(tin s hs).2.1;omega) fun z hz=>by have:=(tin s hs).2.2 z hz;omega
 have anyQ:∀ {Hx:Hp} {p:Addr} {b:Bool} {xs:List V},red Hx p=some (seqO b xs)->xs.length<=45->(∀ x ∈ xs,AnyN (red Hx) 3 20000 x)->AnyS (red Hx) 6 1000000 (.ref p):=fun {Hx p b xs} g l h=>AnyS.of (((AnyL.seq g (by omega) (AnyL.all h)).up.up).mono (M6 (A04 _ l) (by decide))) fun a xs' e g'=>by
  cases e;rw [g] at g';cases b
  ·cases g';omega
  ·cases g'
 have sz:∀ {n:Nat},n<=400->n<=sizeLine:=fun h=>by rw [sizeLine_eq];omega
 have lm:(rs.map V.ref).length<=20:=by rw [A0];exact l20
 have join:∀ {Hx:Hp} {X Y:List V},(∀ x ∈ X,AnyN (red Hx) 3 20000 x)->(∀ x ∈ Y,AnyN (red Hx) 3 20000 x)->∀ x ∈ X++Y,AnyN (red Hx) 3 20000 x:=fun h k x hx=>(C8.mp hx).elim (h x) (k x);refine nmB fun T hT'=>?_;have blk:∀ Hx,Same H2 Hx->T Hx:=by
  intro Hx sx;refine hT' _ (cut fun N3 hN3=>?_);refine nmA fun Qa ka=>nmL fun Ql kl=>nmC fun Q1 k1=>?_;refine ⟨_,rfl,l,_,rfl,.inl ⟨SqL.of (sx _ _ hL2),fun q1 hq1=>?_⟩⟩;have s1:=qA2 hq1 (.tup (rs.map V.ref));have U1:=sx.trans s1;have A1:AnyS (red (Ah Hx q1 (.tup (rs.map V.ref)))) 6 1000000 (.ref q1):=anyQ (b:=true) (rd (nw sx hq1) qA1) (by omega) (told U1)
  generalize Ah Hx q1 (.tup (rs.map V.ref))=Ha at U1 A1 ⊢;refine k1 _ _ (nmC fun _ k=>k _ _ (nmC fun _ k=>k _ _ (nmC fun _ k=>k _ _ (nmC fun Q2 k2=>?_))));refine ⟨_,rfl,(by show 0<=sizeLine;decide),fun e he=>⟨(by show 1<=sizeLine;decide),fun p hp=>?_⟩⟩
  have s2:=qA2 he (.tup []);have ge:=qA1 (H:=Ha) (a:=e) (o:=.tup (([]:List Int).map V.int));have s3:=qA2 hp (.lst [.ref e]);have s23:=s2.trans s3;have U3:=U1.trans s23;have gp:(Ah (Ah Ha e (.tup [])) p (.lst [.ref e])) p=some (.lst [.ref e]):=qA1;have ge3:=s3 _ _ ge;have A1b:=A1.same (rs' s23);generalize Ah (Ah Ha e (.tup [])) p (.lst [.ref e])=Hb at U3 gp ge3 A1b ⊢;refine ⟨l,p,_,_,rfl,rfl,U3 _ _ hL2,gp,sz (by show _+1<=_;omega),fun q2 hq2=>?_⟩
  have s4:=qA2 hq2 (.lst (rs.map V.ref++[.ref e]));have U4:=U3.trans s4;have A2:AnyS (red (Ah Hb q2 (.lst (rs.map V.ref++[.ref e])))) 6 1000000 (.ref q2):=anyQ (b:=false) (rd (nw U3 hq2) qA1) (by rw [A8];show _+1<=_;omega) (join (told U4) fun x hx=>by rw [C0.mp hx];exact one U4 (s4 _ _ ge3) (by simp) (by simp))
  have A1c:=A1b.same (rs' s4);generalize Ah Hb q2 (.lst (rs.map V.ref++[.ref e]))=Hc at U4 A2 A1c ⊢;clear s1 s2 s3 s23 s4 A1 A1b ge ge3 gp U1 U3
  -- with the path
  refine k2 _ _ (nmC fun Q3 k3=>?_);refine ⟨_,rfl,_,rfl,(by show 1<=sizeLine;decide),fun p hp=>?_⟩
  have s5:=qA2 hp (.lst [.ref tp]);have U5:=U4.trans s5;have gp:(Ah Hc p (.lst [.ref tp])) p=some (.lst [.ref tp]):=qA1;have A1d:=A1c.same (rs' s5);have A2d:=A2.same (rs' s5);generalize Ah Hc p (.lst [.ref tp])=Hd at U5 gp A1d A2d ⊢;refine ⟨l,p,_,_,rfl,rfl,U5 _ _ hL2,gp,sz (by show _+1<=_;omega),fun q3 hq3=>?_⟩
  have s6:=qA2 hq3 (.lst (rs.map V.ref++[.ref tp]));have U6:=U5.trans s6;have A3:AnyS (red (Ah Hd q3 (.lst (rs.map V.ref++[.ref tp])))) 6 1000000 (.ref q3):=anyQ (b:=false) (rd (nw U5 hq3) qA1) (by rw [A8];show _+1<=_;omega) (join (told U6) fun x hx=>by rw [C0.mp hx];exact one U6 (U6 _ _ hP2) (by omega) (fun z hz=>by have:=pin z hz;omega))
  have A1e:=A1d.same (rs' s6);have A2e:=A2d.same (rs' s6);generalize Ah Hd q3 (.lst (rs.map V.ref++[.ref tp]))=He at U6 A3 A1e A2e ⊢;clear s5 s6 A1c A1d A2 A2d gp U4 U5
  -- with None
  refine k3 _ _ (nmC fun Q4 k4=>?_);refine ⟨_,rfl,(by show 1<=sizeLine;decide),fun p hp=>?_⟩
  have s5:=qA2 hp (.lst [.non]);have U5:=U6.trans s5;have gp:(Ah He p (.lst [.non])) p=some (.lst [.non]):=qA1;have B:∀ x ∈ [V.ref q1,.ref q2,.ref q3],AnyS (red He) 6 1000000 x:=fun x hx=>by
   simp at hx;rcases hx with rfl | rfl | rfl
   ·exact A1e
   ·exact A2e
   ·exact A3
  have B2:=fun x hx=>(B x hx).same (rs' s5);generalize Ah He p (.lst [.non])=Hf at U5 gp B2 ⊢;refine ⟨l,p,_,_,rfl,rfl,U5 _ _ hL2,gp,sz (by show _+1<=_;omega),fun q4 hq4=>?_⟩
  have s6:=qA2 hq4 (.lst (rs.map V.ref++[.non]));have U7:=U5.trans s6;have A4:AnyS (red (Ah Hf q4 (.lst (rs.map V.ref++[.non])))) 6 1000000 (.ref q4):=anyQ (b:=false) (rd (nw U5 hq4) qA1) (by rw [A8];show _+1<=_;omega) (join (told U7) fun x hx=>by rw [C0.mp hx];exact .non)
  have B3:=fun x hx=>(B2 x hx).same (rs' s6);generalize Ah Hf q4 (.lst (rs.map V.ref++[.non]))=Hg at U7 A4 B3 ⊢;clear B B2 A1e A2e A3 s5 s6 gp U5 U6
  -- in a list
  refine k4 _ _ (nmC fun Q5 k5=>?_);refine ⟨_,rfl,(by show 1<=sizeLine;decide),fun q5 hq5=>?_⟩
  have s5:=qA2 hq5 (.lst [.ref l]);have U5:=U7.trans s5;have A5:AnyS (red (Ah Hg q5 (.lst [.ref l]))) 6 1000000 (.ref q5):=AnyS.of (((AnyL.seq (b:=false) (rd (nw U7 hq5) qA1) (by show 1<=2000;decide) (.cons ((AnyL.seq (b:=false) (rd ⟨ld,lc⟩ (U5 _ _ hL2)) (by omega) (AnyL.all (told U5))).mono (W:=_) (M6 (A04 _ lm) (show 20 * (20000+1)<=500000 by decide))) .nil)).up).mono (by decide)) fun a xs' e g'=>by
   cases e;rw [rd (nw U7 hq5) qA1] at g';cases g';show 1<=60
   decide
  have B4:=fun x hx=>(B3 x hx).same (rs' s5);have A4b:=A4.same (rs' s5);generalize Ah Hg q5 (.lst [.ref l])=Hh at U5 A5 B4 A4b ⊢
  -- twice
  refine k5 _ _ (nmC fun _ k=>k _ _ (nmC fun Q6 k6=>?_));refine ⟨_,rfl,_,rfl,l,l,_,_,rfl,rfl,U5 _ _ hL2,U5 _ _ hL2,sz (by omega),fun q6 hq6=>?_⟩
  have s6:=qA2 hq6 (.lst (rs.map V.ref++rs.map V.ref));have U8:=U5.trans s6;have A6:AnyS (red (Ah Hh q6 (.lst (rs.map V.ref++rs.map V.ref)))) 6 1000000 (.ref q6):=anyQ (b:=false) (rd (nw U5 hq6) qA1) (by rw [A8];omega) (join (told U8) (told U8))
  have B5:=fun x hx=>(B4 x hx).same (rs' s6);have A4c:=A4b.same (rs' s6);have A5c:=A5.same (rs' s6);generalize Ah Hh q6 (.lst (rs.map V.ref++rs.map V.ref))=Hi at U8 A6 B5 A4c A5c ⊢;refine k6 _ _ (kl _ _ ⟨(by show 10<=sizeLine;decide),fun L hL=>ka _ _ ?_⟩)
  obtain ⟨X,eX⟩:∃ X:List V,X=[.ref q1,.non,.bl true,.str (F9 "[]"),.ref q2,.ref q3,.ref q4,.ref q5,.int 0,.ref q6]:=⟨_,rfl⟩;have AX:∀ x ∈ X,AnyS (red Hi) 6 1000000 x:=fun x hx=>by
   rw [eX] at hx;simp only [D9,m9,or_false] at hx;rcases hx with rfl | rfl | rfl | rfl | rfl | rfl | rfl | rfl | rfl | rfl
   ·exact B5 _ (by simp)
   ·exact AnyS.of .non fun a xs e=>by cases e
   ·exact AnyS.of .bl fun a xs e=>by cases e
   ·exact AnyS.of (.str (by decide) (by decide)) fun a xs e=>by cases e
   ·exact B5 _ (by simp)
   ·exact B5 _ (by simp)
   ·exact A4c
   ·exact A5c
   ·exact AnyS.of ((AnyN.int (by decide)).mono (by decide)) fun a xs e=>by cases e
   ·exact A6
  have lX:X.length=10:=by rw [eX];rfl
  rw [<- eX];have s7:=qA2 hL (.lst X);have U9:=U8.trans s7;have gL:(Ah Hi L (.lst X)) L=some (.lst X):=qA1;have nL:=nw U8 hL;have AX2:=fun x hx=>(AX x hx).same (rs' s7);generalize Ah Hi L (.lst X)=Hj at U9 gL AX2 ⊢;refine hN3 _ _ ?_;have S3:=S2.same U9;refine ⟨_,rfl,_,rfl,d,c,t+1+1,ns2,_,rfl,S3,(by show t+1+1<=1000000000;omega),by decide,by decide,fun j ns4 Hz j0 j1 S4 K4=>?_⟩
  obtain ⟨x,ex⟩:∃ x,X[j.toNat]?=some x:=⟨_,B9 (by omega)⟩
  have sz4:Same (red Hj) Hz:=fun b o e=>by
   rw [ered] at e;dsimp only at e;by_cases z:b=d\/b=c
   ·rw [if_pos z] at e;cases e
   ·rw [if_neg z] at e;exact K4 b o e (fun y=>z (.inl y)) fun y=>z (.inr y)
  refine ⟨L,_,j,_,rfl,rfl,SqL.of (K4 _ _ gL nL.1 nL.2),qCN j0 ex,?_⟩;exact q x (t+1+1+1) ns4 Hz S4 (by omega) (by omega) (K12.trans ((Keep.of_same U9).trans K4)) ((AX2 x (D8 ex)).same sz4)
 refine ⟨_,rfl,rfl,_,rfl,?_⟩;by_cases c0:(V.int way=V.int 0)
 ·rw [decide_eq_true c0];exact iteT (iteT (blk _ (Same.refl _)))
 rw [decide_eq_false c0];refine iteF ?_;refine ⟨_,rfl,(by show 0<=sizeLine;decide),fun pe hpe=>?_⟩
 have s0:=qA2 hpe (.lst []);refine ⟨l,pe,_,rfl,rfl,SqL.of (s0 _ _ hL2),SqL.of qA1,_,rfl,?_⟩;cases ee:(rs.map V.ref).isEmpty with
 | true=>exact iteT (blk _ s0)
 | false=>
 refine iteF ?_;clear blk hT';have rne:rs ≠ []:=by rintro rfl;cases ee
 have lpos:1<=rs.length:=Y3.mpr rne;generalize Ah H2 pe (.lst [])=Ha at s0 ⊢;have hLa:=s0 _ _ hL2;have S3:=S2.same s0
 -- what is cut out of the told
 have cutE:∀ {Hx:Hp} (lo hi:Option Int),Same H2 Hx->∀ x ∈ cutV (rs.map V.ref) lo hi,AnyN (red Hx) 3 20000 x:=fun {Hx} lo hi k x hx=>by
  rw [qB5] at hx;obtain ⟨r,hr,rfl⟩:=G1.mp hx;exact told k _ (A18 (qOU hr))
 have cutL:∀ (lo hi:Option Int),(cutV (rs.map V.ref) lo hi).length<=20:=fun lo hi=>by
  rw [qB5,A0];have:=qKD rs lo hi;omega
 have toS:∀ {Hx Hy:Hp} {x:V},AnyS (red Hx) 6 1000000 x->Same (red Hx) Hy->AnyS Hy 6 1000000 x:=fun h k=>h.same k;have rsame:∀ {Hx:Hp},Same (red Hx) Hx:=fun {Hx} b o e=>by
  rw [ered] at e;dsimp only at e;by_cases z:b=d\/b=c
  ·rw [if_pos z] at e;cases e
  ·rw [if_neg z] at e;exact e
 -- two cuts
 have two:∀ {lo1 hi1 lo2 hi2:Option Int} {p1 p2 p3:Addr} {Hx:Hp},Same H2 Hx->Hx p1=none->(Ah Hx p1 (.lst (cutV (rs.map V.ref) lo1 hi1))) p2=none->(Ah (Ah Hx p1 (.lst (cutV (rs.map V.ref) lo1 hi1))) p2 (.lst (cutV (rs.map V.ref) lo2 hi2))) p3=none->Q (.ref p3) (Ah (Ah (Ah Hx p1 (.lst (cutV (rs.map V.ref) lo1 hi1))) p2 (.lst (cutV (rs.map V.ref) lo2 hi2))) p3 (.lst (cutV (rs.map V.ref) lo1 hi1++cutV (rs.map V.ref) lo2 hi2))):=by
  intro lo1 hi1 lo2 hi2 p1 p2 p3 Hx k h1 h2 h3;have k2:=k.trans ((qA2 h1 (.lst (cutV (rs.map V.ref) lo1 hi1))).trans (qA2 h2 (.lst (cutV (rs.map V.ref) lo2 hi2))));have k3:=k2.trans (qA2 h3 (.lst (cutV (rs.map V.ref) lo1 hi1++cutV (rs.map V.ref) lo2 hi2)));refine q _ (t+1+1) ns2 _ (S2.same k3) (by omega) (by omega) (K12.trans (Keep.of_same k3)) ((anyQ (b:=false) (rd (nw k2 h3) qA1) ?_ (join (cutE _ _ k3) (cutE _ _ k3))).same rsame)
  rw [A8];have:=cutL lo1 hi1;have:=cutL lo2 hi2;omega
 refine hN2 _ _ (cut fun N3 hN3=>?_);refine ⟨_,rfl,rfl,_,rfl,?_⟩;by_cases c1:(V.int way=V.int 1)
 ·rw [decide_eq_true c1];refine iteT ?_;refine ⟨_,rfl,_,rfl,_,rfl,l,_,rfl,SqL.of hLa,fun p1 hp1=>?_⟩;have hLb:=(qA2 hp1 (.lst (cutV (rs.map V.ref) none (some (kk:Int))))) _ _ hLa;refine ⟨_,rfl,_,rfl,_,_,rfl,rfl,_,_,rfl,_,rfl,l,_,rfl,SqL.of hLb,fun p2 hp2=>?_⟩;refine ⟨p1,p2,_,_,rfl,rfl,(qA2 hp2 _) _ _ qA1,qA1,sz (by have:=cutL none (some (kk:Int));have:=cutL (some (if (kk:Int) - 1 > 0 then (kk:Int) - 1 else 0)) none;omega),fun p3 hp3=>?_⟩
  exact two s0 hp1 hp2 hp3
 rw [decide_eq_false c1];refine iteF ?_;refine hN3 _ _ (cut fun N4 hN4=>?_);refine ⟨_,rfl,rfl,_,rfl,?_⟩;by_cases c2:(V.int way=V.int 2)
 ·rw [decide_eq_true c2];refine iteT ?_;refine ⟨_,rfl,_,rfl,_,rfl,l,_,rfl,SqL.of hLa,fun p1 hp1=>?_⟩;have hLb:=(qA2 hp1 (.lst (cutV (rs.map V.ref) none (some (kk:Int))))) _ _ hLa;refine ⟨_,rfl,_,rfl,_,_,rfl,rfl,_,rfl,l,_,rfl,SqL.of hLb,fun p2 hp2=>?_⟩;refine ⟨p1,p2,_,_,rfl,rfl,(qA2 hp2 _) _ _ qA1,qA1,sz (by have:=cutL none (some (kk:Int));have:=cutL (some ((kk:Int)+1)) none;omega),fun p3 hp3=>?_⟩
  exact two s0 hp1 hp2 hp3
 rw [decide_eq_false c2];refine iteF ?_;refine hN4 _ _ (cut fun N5 hN5=>?_);refine ⟨_,rfl,_,rfl,l,_,rfl,.inl (SqL.of hLa),_,_,rfl,rfl,_,_,rfl,?_⟩;rw [A0];refine hN5 _ _ ?_;have m0:0<=(if (rs.length:Int) - 1<(kk:Int) then (rs.length:Int) - 1 else (kk:Int))/\(if (rs.length:Int) - 1<(kk:Int) then (rs.length:Int) - 1 else (kk:Int))<(rs.length:Int):=by split <;> omega
 generalize (if (rs.length:Int) - 1<(kk:Int) then (rs.length:Int) - 1 else (kk:Int))=m at m0 ⊢
 refine ⟨_,rfl,_,rfl,_,rfl,l,_,rfl,SqL.of hLa,fun p1 hp1=>?_⟩;have s1:=qA2 hp1 (.lst (cutV (rs.map V.ref) none (some m)));have U1:=s0.trans s1;have n1:=nw s0 hp1;have g1:(Ah Ha p1 (.lst (cutV (rs.map V.ref) none (some m)))) p1=some (.lst (cutV (rs.map V.ref) none (some m))):=qA1;generalize Ah Ha p1 (.lst (cutV (rs.map V.ref) none (some m)))=Hb at s1 U1 g1 ⊢;obtain ⟨r,er⟩:∃ r,rs[m.toNat]?=some r:=⟨_,B9 (by omega)⟩
 obtain ⟨sd,hsd,gr,_⟩:=told2 r (D8 er);have em:(rs.map V.ref)[m.toNat]?=some (.ref r):=by rw [D7,er];rfl
 have tn:=tin sd hsd;have PIb:qC4 Hb a tp Af path:=⟨(hN.keep S K12).same U1,wf,n400,U1 _ _ hP2,pne,lp,pin⟩;refine ⟨_,rfl,_,rfl,_,rfl,_,rfl,_,rfl,l,_,_,_,rfl,rfl,SqL.of (U1 _ _ hL2),qCN m0.1 em,?_⟩;refine ⟨d,c,t+1+1,ns2,a,tp,r,Af,path,sd,rfl,S2.same U1,(by show t+1+1<=1000000000 - 100;omega),PIb,n60,p60,U1 _ _ gr,tn.1,tn.2.1,tn.2.2,fun x t4 ns4 H4 S4 t40 t41 K4 A4=>?_⟩
 have sz4:Same (red Hb) H4:=fun b o e=>by
  rw [ered] at e;dsimp only at e;by_cases z:b=d\/b=c
  ·rw [if_pos z] at e;cases e
  ·rw [if_neg z] at e;exact K4 b o e (fun y=>z (.inl y)) fun y=>z (.inr y)
 have g14:=K4 _ _ g1 n1.1 n1.2;have hL4:=K4 _ _ (U1 _ _ hL2) ld lc;have C4:∀ (lo hi:Option Int),∀ x ∈ cutV (rs.map V.ref) lo hi,AnyN H4 3 20000 x:=fun lo hi x hx=>(cutE lo hi U1 x hx).same sz4;refine ⟨(by show 1<=sizeLine;decide),fun p2 hp2=>?_⟩
 have s2:=qA2 hp2 (.lst [x]);have g2:(Ah H4 p2 (.lst [x])) p2=some (.lst [x]):=qA1;generalize Ah H4 p2 (.lst [x])=H5 at s2 g2 ⊢;refine ⟨p1,p2,_,_,rfl,rfl,s2 _ _ g14,g2,sz (by have:=cutL none (some m);show _+1<=_;omega),fun p3 hp3=>?_⟩
 have s3:=qA2 hp3 (.lst (cutV (rs.map V.ref) none (some m)++[x]));have g3:(Ah H5 p3 (.lst (cutV (rs.map V.ref) none (some m)++[x]))) p3=some (.lst (cutV (rs.map V.ref) none (some m)++[x])):=qA1;generalize Ah H5 p3 (.lst (cutV (rs.map V.ref) none (some m)++[x]))=H6 at s3 g3 ⊢;have U6:=s2.trans s3;refine ⟨_,rfl,_,rfl,_,_,rfl,rfl,_,rfl,l,_,rfl,SqL.of (U6 _ _ hL4),fun p4 hp4=>?_⟩;have s4:=qA2 hp4 (.lst (cutV (rs.map V.ref) (some (m+1)) none));have g4:(Ah H6 p4 (.lst (cutV (rs.map V.ref) (some (m+1)) none))) p4=some (.lst (cutV (rs.map V.ref) (some (m+1)) none)):=qA1;generalize Ah H6 p4 (.lst (cutV (rs.map V.ref) (some (m+1)) none))=H7 at s4 g4 ⊢;have lz:(cutV (rs.map V.ref) none (some m)++[x]).length+(cutV (rs.map V.ref) (some (m+1)) none).length<=41:=by
  rw [A8];have:=cutL none (some m);have:=cutL (some (m+1)) none;show _+1+_<=_;omega
 refine ⟨p3,p4,_,_,rfl,rfl,s4 _ _ g3,g4,sz (by omega),fun p5 hp5=>?_⟩
 have s5:=qA2 hp5 (.lst (cutV (rs.map V.ref) none (some m)++[x]++cutV (rs.map V.ref) (some (m+1)) none));have U8:=U6.trans (s4.trans s5);have al:∀ y ∈ cutV (rs.map V.ref) none (some m)++[x]++cutV (rs.map V.ref) (some (m+1)) none,AnyN (Ah H7 p5 (.lst (cutV (rs.map V.ref) none (some m)++[x]++cutV (rs.map V.ref) (some (m+1)) none))) 3 20000 y:=fun y hy=>by
  refine AnyN.same ?_ U8;rcases C8.mp hy with h | h
  ·rcases C8.mp h with h | h
   ·exact C4 _ _ y h
   ·rw [C0.mp h];exact A4
  ·exact C4 _ _ y h
 rw [<- A8] at lz;refine q _ t4 ns4 _ (S4.same U8) (by omega) (by omega) (K12.trans ((Keep.of_same U1).trans (K4.trans (Keep.of_same U8)))) ?_
 refine AnyS.of (((AnyL.seq (b:=false) qA1 (by omega) (AnyL.all al)).up.up).mono (M6 (A04 _ lz) (by decide))) fun a' xs' e' g'=>by
  cases e';rw [qA1] at g';cases g';omega
end
section
variable {P:Program} {w:World} {K:PySem.W.Frag} {mg:Str->Option Value} {base:Heap} {f:Addr} {fd:FuncData} {qHZ qCB qOP qHX qF2 qBM qKA qHY:Addr} {qM4 qC1 qS4 qM2 qIN qCC qOO qM3:FuncData}
theorem sc_law:FnScope ["_law_script","_law_state","_law_turn","_law_net_here","_law_paths_here","_law_path","_law_told","_law_more"] ["_law_script"] (qAC qJ2):=⟨rfl,rfl,rfl,by decide +kernel,rfl,by decide +kernel,by decide +kernel⟩
theorem ok_law (F:Fun K "law" "law" qJ2 f fd) (qI3:Clb P w K mg base 1 qHZ qM4 "_law_begin" ["_law_script"] (qQR K)) (qAL:Clb P w K mg base 1 qCB qC1 "_law_take" ["_law_state","_law_many"] qI6) (qP3:Clb P w K mg base 3 qOP qS4 "_law_net" ["_law_state","_law_many"] qXI) (qI1:Clb P w K mg base 1 qHX qM2 "_law_paths" ["_law_net_here","_law_work"] qNY) (qF4:Clb P w K mg base 3 qF2 qIN "sides_of" ["net","path"] qQP) (qAW:Clb P w K mg base 4 qBM qCC "shows_sides" ["net","path","thing"] qMN) (qKO:Clb P w K mg base 3 qKA qOO "_law_bent" ["_law_state","_law_net_here","_law_path","_law_told"] qQQ) (qI2:Clb P w K mg base 5 qHY qM3 "_law_looks" ["_law_net_here","_law_path","_law_thing"] qNZ) (qB7:mg "range" = none) (qBF:mg "len" = none):FnOk P w K mg base CX0 6 f fd ["_law_script"] (qTA K):=by
 refine F.ok sc_law (fun vs H Q E h=>?_) (fun cdv A outer s H vs Q E hr h=>?_)
 ·obtain ⟨sc,ns,rfl,_⟩:=h
  rfl
 obtain ⟨sc,ns,rfl,hS,h63,q⟩:=h;refine ⟨_,(qA4 (qAB (i:=1) sc_law.nd rfl (G4 rfl) (qBB qI3 hr rfl (qA0 (pv 0) qA3))) (qA4 (qCK J3 rfl (qCD rfl qB7 (qA0 qA6 qA3)) (qAG (i:=2) sc_law.nd rfl (G4 rfl)) (qA4 (qAB (i:=3) sc_law.nd rfl (G4 rfl) (qBB qP3 hr rfl (qA0 (pv 1) (qA0 (qAD qCY qA6 (qBB qAL hr rfl (qA0 (pv 1) (qA0 qA6 qA3)))) qA3)))) (qA4 (qAB (i:=4) sc_law.nd rfl (G4 rfl) (qBB qI1 hr rfl (qA0 (pv 3) (qA0 (qAD qEE (qAA qAH rfl qBF qC3 (qA0 (pv 3) qA3)) qA6) qA3)))) (qA4 (qAB (i:=5) sc_law.nd rfl (G4 rfl) (qC7 qCZ (pv 4) (qBB qAL hr rfl (qA0 (pv 1) (qA0 (qAA qAH rfl qBF qC3 (qA0 (pv 4) qA3)) qA3))) (fun _ _=>rfl))) (qA4 (qAB (i:=6) sc_law.nd rfl (G4 rfl) (qBB qF4 hr rfl (qA0 (pv 3) (qA0 (pv 5) qA3)))) (qA4 (qBY (PW.pt (qL8 (qAP qLF (qBB qAW hr rfl (qA0 (pv 3) (qA0 (pv 5) (qA0 (pv 6) qA3)))) qDK (qB1 _)) (qI8 (qAP qLF (qBB qAW hr rfl (qA0 (pv 3) (qA0 (pv 5) (qA0 (qAQ qA3) qA3)))) qDK (qB1 _))))) (qA7 (qAK qDK)) qAO) (qA7 (qCK J3 rfl (qCD rfl qB7 (qA0 qA6 qA3)) (qAG (i:=7) sc_law.nd rfl (G4 rfl)) (qA7 (qBY (qF9 (qF8 (qBB qI2 hr rfl (qA0 (pv 3) (qA0 (pv 5) (qA0 (qBB qKO hr rfl (qA0 (pv 1) (qA0 (pv 3) (qA0 (pv 5) (qA0 (pv 6) qA3))))) qA3)))))) (qA7 (qAK qDK)) qAO)))))))))) (qA7 (qAK qDK)))),?_⟩
 try dsimp only [Cx.nox,Cx.wish,cxOf]
 refine cut fun N0 hN0=>?_;refine ⟨_,rfl,sc,ns,rfl,hS,h63,fun d c ms1 H1 S1 sm0 hd0 hc0=>?_⟩;refine hN0 _ _ (cut fun N1 hN1=>?_);refine ⟨4,rfl,by decide,by decide,qG5 (lo:=0) (n:=4) (fun i σ Hc=>∃ (t:Int) (ms:List Int) (v2 v3 v4 v5 v6 v7:Option V),σ=[some (.ref sc),some (.ref d),v2,v3,v4,v5,v6,v7]/\StAt Hc d c t ms/\t<=1000 * i)
  ⟨0,ms1,none,none,none,none,none,none,rfl,S1,by omega⟩ ?_ ?_⟩
 ·refine fun i σ Hc hi hI_1=>opq fun G_1 hG_1=>?_;obtain ⟨t,ms,v2,v3,v4,v5,v6,v7,rfl,S2,t1⟩:=hI_1;refine hG_1 ?_;refine nmD fun D1 d1 dr=>?_;refine cut fun M0 hM0=>?_;refine ⟨_,rfl,_,rfl,d,c,t,ms,_,rfl,S2,(by show t<=1000000000;omega),by decide,by decide,fun k ms2 H2 k0 k1 S3 K2=>?_⟩
  refine ⟨_,_,rfl,rfl,d,c,t+1,ms2,_,rfl,S3,(by show t+1<=1000000000 - 10000;omega),by omega,by omega,fun a Af t3 ms3 H3 S4 g3 g4 K3 hN wf nk=>?_⟩
  have n9:3<=Af.length/\Af.length<=9:=by omega
  refine hM0 _ _ (cut fun M1 hM1=>?_);obtain ⟨ra,hA,NL⟩:=id hN;have lra:=E9 NL;refine ⟨_,rfl,_,rfl,a,_,rfl,.inr (SqT.of hA),_,_,rfl,rfl,?_⟩;rw [A0,lra];have few:cn Af ((Af.length:Int) - 1)<=300:=by
   have a:=qZY wf _ ((Af.length:Int) - 1) rfl (by omega)
   have b:(2:Int) ^ ((Af.length:Int) - 1).toNat<=(2:Int) ^ 8:=p2 (by omega)
   have e:(2:Int) ^ 8=256:=rfl;omega
  refine ⟨a,Af,_,rfl,hN,wf,by omega,by omega,by omega,few,fun lP tsP H4 s4 fl4 TL SP _ _=>?_⟩
  refine hM1 _ _ (cut fun M2 hM2=>?_);obtain ⟨rp,gP,NP⟩:=TL;obtain ⟨p1,pr⟩:=SP.some wf (by omega) (by omega)
  have lrp:=E9 NP;have nP:lP ≠ d/\lP ≠ c:=⟨(qA5 S4.dict fl4).symm,(qA5 S4.list fl4).symm⟩;refine ⟨_,rfl,_,rfl,_,rfl,lP,_,rfl,.inl (SqL.of gP),?_⟩;rw [A0,lrp];refine ⟨d,c,t3,ms3,_,rfl,S4.same s4,(by show t3<=1000000000;omega),by omega,by omega,fun j ms5 H5 j0 j1 S5 K5=>?_⟩
  obtain ⟨tp,etp⟩:∃ tp,rp[j.toNat]?=some tp:=⟨_,B9 (by omega)⟩
  obtain ⟨path,epa,gtp⟩:=qDL NP etp;obtain ⟨pne,R⟩:=pr path (D8 epa);have lpa:=R.len;have S4':=S4.same s4;have gt5:=K5 _ _ gtp (S4'.tup gtp).1 (S4'.tup gtp).2;refine ⟨lP,_,j,_,rfl,rfl,SqL.of (K5 _ _ gP nP.1 nP.2),qCN j0 (x:=.ref tp) (by rw [D7,etp];rfl),?_⟩
  refine hM2 _ _ (cut fun M3 hM3=>?_);have PI:qC4 H5 a tp Af path:=⟨(hN.same s4).keep S4' K5,wf,by omega,gt5,pne,by omega,R.in_⟩
  have PIs:∀ {H':Hp},Same H5 H'->qC4 H' a tp Af path:=fun k=>⟨PI.1.same k,wf,by omega,k _ _ gt5,pne,by omega,R.in_⟩
  refine ⟨_,rfl,_,rfl,a,tp,Af,path,rfl,PI,by omega,fun l rs ts H6 s6 fl6 gl TT SO=>?_⟩
  obtain ⟨all,tin,tl⟩:=SO.are wf;have lrs:=E9 TT;have nl:l ≠ d/\l ≠ c:=⟨(qA5 S5.dict fl6).symm,(qA5 S5.list fl6).symm⟩;refine hM3 _ _ (cut fun M4 hM4=>?_);refine ⟨_,rfl,_,rfl,_,rfl,a,tp,Af,path,_,2,_,rfl,PIs s6,qT7 gl TT,qT6 (by omega) (fun s hs=>by have:=(tin s hs).2.1;omega),fun H7 s7=>?_⟩
  rw [all];refine ⟨_,_,rfl,rfl,_,rfl,iteF ?_⟩;refine ⟨_,rfl,_,rfl,(by show 0<=sizeLine;decide),fun pe hpe=>?_⟩
  have s8:=qA2 hpe (.lst []);have U8:=s6.trans (s7.trans s8);have none_:qDJ Af path (.list [])=true:=by simp [qDJ]
  refine ⟨a,tp,Af,path,_,1,.list [],rfl,PIs U8,.inr ⟨false,pe,[],[],rfl,rfl,qA1,rfl,fun i x d e=>by simp at e⟩,fun b ds e=>?_,fun H9 s9=>?_⟩
  ·cases b with
   | true=>cases e
   | false=>cases e;exact ⟨G5 _,fun d hd=>nomatch hd⟩
  rw [none_];refine ⟨_,_,rfl,rfl,_,rfl,iteF ?_⟩;have U9:=U8.trans s9;have V9:=s7.trans (s8.trans s9);have S9:=S5.same U9;have gl9:=V9 _ _ gl;have TT9:L2.G.TupsAt H9 rs ts:=Paired.mapP TT fun r s e=>V9 _ _ e;have PI9:=PIs U9;clear PI PIs s8 U8 U9 V9 all TT gl;refine hM4 _ _ ?_;refine ⟨6,rfl,by decide,by decide,qG5 (lo:=0) (n:=6) (fun j σ He=>∃ (t':Int) (ms':List Int) (v7:Option V),σ=[some (.ref sc),some (.ref d),some (.int (0+(i:Int))),some (.ref a),some (.ref lP),some (.ref tp),some (.ref l),v7]/\StAt He d c t' ms'/\t'<=t3+1+30 * j/\Keep d c H9 He)
   ⟨t3+1,ms5,v7,rfl,S9,by omega,Keep.refl⟩ ?_ ?_⟩
  ·refine fun j2 σ He hj hI_2=>opq fun G_2 hG_2=>?_;obtain ⟨t',ms',v7',rfl,Se,te,Ke⟩:=hI_2;refine hG_2 ?_;refine nmI fun D2 e1 er=>?_;obtain ⟨hN9,_,n400,hP9,_,lp,pin⟩:=id PI9;have PIe:qC4 He a tp Af path:=⟨hN9.keep S9 Ke,wf,n400,Ke _ _ hP9 (S9.tup hP9).1 (S9.tup hP9).2,pne,lp,pin⟩;refine ⟨_,rfl,_,rfl,_,rfl,_,rfl,_,rfl,_,rfl,d,c,t',ms',a,tp,l,Af,path,rs,ts,rfl,Se,(by show t'<=1000000000 - 200;omega),PIe,by omega,by omega,Ke _ _ gl9 nl.1 nl.2,nl.1,nl.2,Paired.mapP TT9 fun r s e=>Ke _ _ e (S9.tup e).1 (S9.tup e).2,by omega,fun s hs=>⟨(tin s hs).1,by have:=(tin s hs).2.1;omega,(tin s hs).2.2⟩,fun x t2 ns2 Hx Sx g1 g2 Kx Ax=>?_⟩
   have PIx:qC4 Hx a tp Af path:=⟨PIe.1.keep Se Kx,wf,n400,Kx _ _ PIe.2.2.2.1 (Se.tup PIe.2.2.2.1).1 (Se.tup PIe.2.2.2.1).2,pne,lp,pin⟩;refine ⟨a,tp,Af,path,x,6,1000000,rfl,PIx,by omega,by omega,Ax,by omega,by omega,fun Hy sy=>?_⟩
   refine ⟨_,rfl,iteF ?_⟩;exact e1 _ _ ⟨t2,ns2,_,rfl,Sx.same sy,by omega,Ke.trans (Kx.trans (Keep.of_same sy))⟩
  ·refine fun σ He hI_3=>opq fun G_3 hG_3=>?_;obtain ⟨t',ms',v7',rfl,Se,te,Ke⟩:=hI_3;refine hG_3 ?_;exact d1 _ _ ⟨t',ms',_,_,_,_,_,_,rfl,Se,by omega⟩
 ·refine fun σ Hc hI_4=>opq fun G_4 hG_4=>?_;obtain ⟨t,ms,v2,v3,v4,v5,v6,v7,rfl,S2,t1⟩:=hI_4;refine hG_4 ?_;refine hN1 _ _ ?_;exact q Hc
end
theorem all_mk {l:PySem.W.OpenLaw} {w:World} {K:PySem.W.Frag} {h:Heap} {mg:Str->Option Value} {fa qE4 qDP qCA qE5 qF1 qDA qG9 qF2 qGA qBM qHZ qCB qCT qE6 qOP qHX qOQ qF3 qDC qDB qKA qHY qWS:Addr} (X:K.In h) (G:h.Ns mainGlobals mg) (hfa:mg "law" = some (.ref fa))
  {qY7 qVK:Option Addr} {qXK:Array (Option Value)} {qY8 qV6 qVG qUW qSK qVH:Value}
  {tk_GOAL:Tok} (a_GOAL:E4 K mainGlobals "GOAL" = some (some (.int (-2) tk_GOAL)))
  {tk_SOURCE:Tok} (a_SOURCE:E4 K mainGlobals "SOURCE" = some (some (.int (-1) tk_SOURCE)))
  (qFN:E4 K mainGlobals "is_number" = some (some (.ref qE4))) (F_is_number:∃ fd,Fun K "is_number" "is_number" qDV qE4 fd)
  (qGV:E4 K mainGlobals "is_below" = some (some (.ref qDP))) (F_is_below:∃ fd,Fun K "is_below" "is_below" qEV qDP fd)
  (qFM:E4 K mainGlobals "side_ends" = some (some (.ref qCA))) (F_side_ends:∃ fd,Fun K "side_ends" "side_ends" qDU qCA fd)
  (qFO:E4 K mainGlobals "free_ways" = some (some (.ref qE5))) (F_free_ways:∃ fd,Fun K "free_ways" "free_ways" qDW qE5 fd)
  (qGT:E4 K mainGlobals "way_back" = some (some (.ref qF1))) (F_way_back:∃ fd,Fun K "way_back" "way_back" qET qF1 fd)
  (qEP:E4 K mainGlobals "turn_round" = some (some (.ref qDA))) (F_turn_round:∃ fd,Fun K "turn_round" "turn_round" qD3 qDA fd)
  (qIZ:E4 K mainGlobals "side_to" = some (some (.ref qG9))) (F_side_to:∃ fd,Fun K "side_to" "side_to" qFQ qG9 fd)
  (qGU:E4 K mainGlobals "sides_of" = some (some (.ref qF2))) (F_sides_of:∃ fd,Fun K "sides_of" "sides_of" qEU qF2 fd)
  (qJ0:E4 K mainGlobals "is_path" = some (some (.ref qGA))) (F_is_path:∃ fd,Fun K "is_path" "is_path" qFR qGA fd)
  (qE7:E4 K mainGlobals "shows_sides" = some (some (.ref qBM))) (F_shows_sides:∃ fd,Fun K "shows_sides" "shows_sides" qCP qBM fd)
  (qKN:E4 K mainGlobals "_law_begin" = some (some (.ref qHZ))) (F_Lbegin:∃ fd,Fun K "_law_begin" "_law_begin" qHT qHZ fd)
  (qNO:E4 K mainGlobals "_law_take" = some (some (.ref qCB))) (F_Ltake:∃ fd,Fun K "_law_take" "_law_take" qJW qCB fd)
  (qE8:E4 K mainGlobals "_law_some_needs" = some (some (.ref qCT))) (F_Lsome_needs:∃ fd,Fun K "_law_some_needs" "_law_some_needs" qCQ qCT fd)
  (qFP:E4 K mainGlobals "_law_tree_net" = some (some (.ref qE6))) (F_Ltree_net:∃ fd,Fun K "_law_tree_net" "_law_tree_net" qDX qE6 fd)
  (qSY:E4 K mainGlobals "_law_net" = some (some (.ref qOP))) (F_Lnet:∃ fd,Fun K "_law_net" "_law_net" qO5 qOP fd)
  (qKL:E4 K mainGlobals "_law_paths" = some (some (.ref qHX))) (F_Lpaths:∃ fd,Fun K "_law_paths" "_law_paths" qHR qHX fd)
  (qSZ:E4 K mainGlobals "_law_hit" = some (some (.ref qOQ))) (F_Lhit:∃ fd,Fun K "_law_hit" "_law_hit" qO6 qOQ fd)
  (qGW:E4 K mainGlobals "_law_is_side" = some (some (.ref qF3))) (F_Lis_side:∃ fd,Fun K "_law_is_side" "_law_is_side" qEW qF3 fd)
  (qER:E4 K mainGlobals "_law_are_sides" = some (some (.ref qDC))) (F_Lare_sides:∃ fd,Fun K "_law_are_sides" "_law_are_sides" qD5 qDC fd)
  (qEQ:E4 K mainGlobals "_law_bent_side" = some (some (.ref qDB))) (F_Lbent_side:∃ fd,Fun K "_law_bent_side" "_law_bent_side" qD4 qDB fd)
  (qNP:E4 K mainGlobals "_law_bent" = some (some (.ref qKA))) (F_Lbent:∃ fd,Fun K "_law_bent" "_law_bent" qJX qKA fd)
  (qKM:E4 K mainGlobals "_law_looks" = some (some (.ref qHY))) (F_Llooks:∃ fd,Fun K "_law_looks" "_law_looks" qHS qHY fd)
  (qX4:E4 K mainGlobals "law" = some (some (.ref qWS))) (qWH:K.lookup qWS=some ⟨qY8,qY7,.func (i8 "law" "law" (qGR qJ2) (qFK qJ2) (qAC qJ2) .none qV6 qVG qUW qVK qSK qVH),qXK⟩) (qWZ:A30 K qSK "law" = true) (qWI:Z2 K (.ref qWS)=true)
  (qGE:E4 K mainGlobals "all" = some none)
  (qP5:E4 K mainGlobals "any" = some none)
  (qEC:E4 K mainGlobals "bool" = some none)
  (qES:E4 K mainGlobals "divmod" = some none)
  (qBD:E4 K mainGlobals "enumerate" = some none)
  (qGD:E4 K mainGlobals "int" = some none)
  (qA9:E4 K mainGlobals "isinstance" = some none)
  (qBF:E4 K mainGlobals "len" = some none)
  (qCX:E4 K mainGlobals "list" = some none)
  (qJT:E4 K mainGlobals "max" = some none)
  (qHE:E4 K mainGlobals "min" = some none)
  (qB7:E4 K mainGlobals "range" = some none)
  (qFC:E4 K mainGlobals "set" = some none)
  (qAZ:E4 K mainGlobals "sorted" = some none)
  (qJ1:E4 K mainGlobals "str" = some none)
  (qAJ:E4 K mainGlobals "tuple" = some none)
  (qHD:E4 K mainGlobals "zip" = some none)
  : ∃ fd:FuncData,(∀ (s:Shared) (v:Value),BindsTo s fd ⟨[v],[]⟩ [("_law_script",v)])/\∀ base:Heap,K.In base->base.Ns mainGlobals mg->FnOk l.prog w K mg base CX0 6 fa fd ["_law_script"] (qTA K):=by
 have e:=hfa.symm.trans (J4 X G qX4);cases e;obtain ⟨qH7,F_is_number⟩:=F_is_number;have qNL:=F_is_number.binds (ps:=["thing"]) fun _ _ _ _ _ _ us hl=>us1 us hl (fun _=>rfl);have qN3:=J4 X G qFN;obtain ⟨qFI,F_is_below⟩:=F_is_below;have qQ6:=F_is_below.binds (ps:=["thing","end"]) fun _ _ _ _ _ _ us hl=>us2 us hl (fun _ _=>rfl);have qPN:=J4 X G qGV;obtain ⟨qD9,F_side_ends⟩:=F_side_ends;have qNK:=F_side_ends.binds (ps:=["net","path"]) fun _ _ _ _ _ _ us hl=>us2 us hl (fun _ _=>rfl);have qN2:=J4 X G qFM;obtain ⟨qH8,F_free_ways⟩:=F_free_ways;have qNM:=F_free_ways.binds (ps:=["net","path"]) fun _ _ _ _ _ _ us hl=>us2 us hl (fun _ _=>rfl);have qN4:=J4 X G qFO;obtain ⟨qIM,F_way_back⟩:=F_way_back;have qQ4:=F_way_back.binds (ps:=["ways"]) fun _ _ _ _ _ _ us hl=>us1 us hl (fun _=>rfl);have qPL:=J4 X G qGT;obtain ⟨qG6,F_turn_round⟩:=F_turn_round;have qMH:=F_turn_round.binds (ps:=["ways","stops"]) fun _ _ _ _ _ _ us hl=>us2 us hl (fun _ _=>rfl);have qLK:=J4 X G qEP;obtain ⟨qJO,F_side_to⟩:=F_side_to;have qSU:=F_side_to.binds (ps:=["ways","work"]) fun _ _ _ _ _ _ us hl=>us2 us hl (fun _ _=>rfl);have qRD:=J4 X G qIZ;obtain ⟨qIN,F_sides_of⟩:=F_sides_of;have qQ5:=F_sides_of.binds (ps:=["net","path"]) fun _ _ _ _ _ _ us hl=>us2 us hl (fun _ _=>rfl);have qPM:=J4 X G qGU;obtain ⟨qJP,F_is_path⟩:=F_is_path;have qSV:=F_is_path.binds (ps:=["net","thing"]) fun _ _ _ _ _ _ us hl=>us2 us hl (fun _ _=>rfl);have qRE:=J4 X G qJ0;obtain ⟨qCC,F_shows_sides⟩:=F_shows_sides;have qKI:=F_shows_sides.binds (ps:=["net","path","thing"]) fun _ _ _ _ _ _ us hl=>us3 us hl (fun _ _ _=>rfl);have qK3:=J4 X G qE7;obtain ⟨qM4,F_Lbegin⟩:=F_Lbegin;have qUH:=F_Lbegin.binds (ps:=["_law_script"]) fun _ _ _ _ _ _ us hl=>us1 us hl (fun _=>rfl);have qTU:=J4 X G qKN;obtain ⟨qC1,F_Ltake⟩:=F_Ltake;have qX0:=F_Ltake.binds (ps:=["_law_state","_law_many"]) fun _ _ _ _ _ _ us hl=>us2 us hl (fun _ _=>rfl);have qW9:=J4 X G qNO;obtain ⟨qFA,F_Lsome_needs⟩:=F_Lsome_needs;have qKJ:=F_Lsome_needs.binds (ps:=["_law_state","_law_k"]) fun _ _ _ _ _ _ us hl=>us2 us hl (fun _ _=>rfl);have qK4:=J4 X G qE8;obtain ⟨qH9,F_Ltree_net⟩:=F_Ltree_net;have qNN:=F_Ltree_net.binds (ps:=["_law_state","_law_many"]) fun _ _ _ _ _ _ us hl=>us2 us hl (fun _ _=>rfl);have qN5:=J4 X G qFP;obtain ⟨qS4,F_Lnet⟩:=F_Lnet;have qYV:=F_Lnet.binds (ps:=["_law_state","_law_many"]) fun _ _ _ _ _ _ us hl=>us2 us hl (fun _ _=>rfl);have qYA:=J4 X G qSY;obtain ⟨qM2,F_Lpaths⟩:=F_Lpaths;have qUF:=F_Lpaths.binds (ps:=["_law_net_here","_law_work"]) fun _ _ _ _ _ _ us hl=>us2 us hl (fun _ _=>rfl);have qTS:=J4 X G qKL;obtain ⟨qS5,F_Lhit⟩:=F_Lhit;have qYW:=F_Lhit.binds (ps:=["_law_net_here","_law_path"]) fun _ _ _ _ _ _ us hl=>us2 us hl (fun _ _=>rfl);have qYB:=J4 X G qSZ;obtain ⟨qIO,F_Lis_side⟩:=F_Lis_side;have qQ7:=F_Lis_side.binds (ps:=["_law_net_here","_law_path","_law_thing"]) fun _ _ _ _ _ _ us hl=>us3 us hl (fun _ _ _=>rfl);have qPO:=J4 X G qGW;obtain ⟨qG8,F_Lare_sides⟩:=F_Lare_sides;have qMJ:=F_Lare_sides.binds (ps:=["_law_net_here","_law_path","_law_thing"]) fun _ _ _ _ _ _ us hl=>us3 us hl (fun _ _ _=>rfl);have qLM:=J4 X G qER;obtain ⟨qG7,F_Lbent_side⟩:=F_Lbent_side;have qMI:=F_Lbent_side.binds (ps:=["_law_state","_law_net_here","_law_path","_law_side"]) fun _ _ _ _ _ _ us hl=>us4 us hl (fun _ _ _ _=>rfl);have qLL:=J4 X G qEQ;obtain ⟨qOO,F_Lbent⟩:=F_Lbent;have qX1:=F_Lbent.binds (ps:=["_law_state","_law_net_here","_law_path","_law_told"]) fun _ _ _ _ _ _ us hl=>us4 us hl (fun _ _ _ _=>rfl);have qWA:=J4 X G qNP;obtain ⟨qM3,F_Llooks⟩:=F_Llooks;have qUG:=F_Llooks.binds (ps:=["_law_net_here","_law_path","_law_thing"]) fun _ _ _ _ _ _ us hl=>us3 us hl (fun _ _ _=>rfl);have qTT:=J4 X G qKM;have qa1:=fun_mk (st:=qJ2) qWH qWZ qWI;have m_GOAL:=J4 X G a_GOAL;have m_SOURCE:=J4 X G a_SOURCE;have qQD:=J1 X G qGE;have qX7:=J1 X G qP5;have qML:=J1 X G qEC;have qQC:=J1 X G qES;have qGY:=J1 X G qBD;have qQB:=J1 X G qGD;have qBJ:=J1 X G qA9;have qGX:=J1 X G qBF;have qJS:=J1 X G qCX;have qUM:=J1 X G qJT;have qQA:=J1 X G qHE;have qHN:=J1 X G qB7;have qNQ:=J1 X G qFC;have qEG:=J1 X G qAZ;have qUL:=J1 X G qJ1;have qDS:=J1 X G qAJ;have qQ9:=J1 X G qHD;refine ⟨i8 "law" "law" (qGR qJ2) (qFK qJ2) (qAC qJ2) .none qV6 qVG qUW qVK qSK qVH,fun s v=>.of_eq rfl,fun base _ _=>?_⟩;have qE9:=Clb.mk (ok_is_number (P:=l.prog) (w:=w) (mg:=mg) (base:=base) (F:=F_is_number) (qEC:=qML) (qGD:=qQB) (qA9:=qBJ)) qNL F_is_number.kp qN3;have qF5:=Clb.mk (ok_is_below (P:=l.prog) (w:=w) (mg:=mg) (base:=base) (F:=F_is_below) (qE9:=qE9)) qQ6 F_is_below.kp qPN;have qBI:=Clb.mk (ok_side_ends (P:=l.prog) (w:=w) (mg:=mg) (base:=base) (F:=F_side_ends)) qNK F_side_ends.kp qN2;have qEA:=Clb.mk (ok_free_ways (P:=l.prog) (w:=w) (mg:=mg) (base:=base) (F:=F_free_ways) (qBI:=qBI) (qBD:=qGY) (m_SOURCE:=m_SOURCE) (m_GOAL:=m_GOAL)) qNM F_free_ways.kp qN4;have qDR:=Clb.mk (ok_way_back (P:=l.prog) (w:=w) (mg:=mg) (base:=base) (F:=F_way_back) (m_SOURCE:=m_SOURCE) (m_GOAL:=m_GOAL)) qQ4 F_way_back.kp qPL;have qDE:=Clb.mk (ok_turn_round (P:=l.prog) (w:=w) (mg:=mg) (base:=base) (F:=F_turn_round) (qHD:=qQ9)) qMH F_turn_round.kp qLK;have qGB:=Clb.mk (ok_side_to (P:=l.prog) (w:=w) (mg:=mg) (base:=base) (F:=F_side_to) (m_SOURCE:=m_SOURCE)) qSU F_side_to.kp qRD;have qF4:=Clb.mk (ok_sides_of (P:=l.prog) (w:=w) (mg:=mg) (base:=base) (F:=F_sides_of) (qEA:=qEA) (qDR:=qDR) (qDE:=qDE) (qGB:=qGB) (qAZ:=qEG) (m_GOAL:=m_GOAL)) qQ5 F_sides_of.kp qPM;have qGC:=Clb.mk (ok_is_path (P:=l.prog) (w:=w) (mg:=mg) (base:=base) (F:=F_is_path) (qF5:=qF5) (qGE:=qQD) (qA9:=qBJ) (qBF:=qGX) (qAJ:=qDS) (qHD:=qQ9)) qSV F_is_path.kp qRE;have qAW:=Clb.mk (ok_shows_sides (P:=l.prog) (w:=w) (mg:=mg) (base:=base) (F:=F_shows_sides) (qBI:=qBI) (qGC:=qGC) (qA9:=qBJ) (qCX:=qJS)) qKI F_shows_sides.kp qK3;have qI3:=Clb.mk (ok_Lbegin (P:=l.prog) (w:=w) (mg:=mg) (base:=base) (F:=F_Lbegin) (qCX:=qJS)) qUH F_Lbegin.kp qTU;have qAL:=Clb.mk (ok_Ltake (P:=l.prog) (w:=w) (mg:=mg) (base:=base) (F:=F_Ltake) (qES:=qQC) (qBF:=qGX)) qX0 F_Ltake.kp qW9;have qC2:=Clb.mk (ok_Lsome_needs (P:=l.prog) (w:=w) (mg:=mg) (base:=base) (F:=F_Lsome_needs) (qAL:=qAL) (qHE:=qQA) (qB7:=qHN) (qFC:=qNQ) (qAZ:=qEG) (qAJ:=qDS)) qKJ F_Lsome_needs.kp qK4;have qEB:=Clb.mk (ok_Ltree_net (P:=l.prog) (w:=w) (mg:=mg) (base:=base) (F:=F_Ltree_net) (qAL:=qAL) (qBF:=qGX) (qHE:=qQA) (qB7:=qHN) (qAJ:=qDS)) qNN F_Ltree_net.kp qN5;have qP3:=Clb.mk (ok_Lnet (P:=l.prog) (w:=w) (mg:=mg) (base:=base) (F:=F_Lnet) (qAL:=qAL) (qEB:=qEB) (qC2:=qC2) (qBD:=qGY) (qGD:=qQB) (qJT:=qUM) (qB7:=qHN) (qFC:=qNQ) (qAZ:=qEG) (qAJ:=qDS)) qYV F_Lnet.kp qYA;have qI1:=Clb.mk (ok_Lpaths (P:=l.prog) (w:=w) (mg:=mg) (base:=base) (F:=F_Lpaths) (qAZ:=qEG)) qUF F_Lpaths.kp qTS;have qP4:=Clb.mk (ok_Lhit (P:=l.prog) (w:=w) (mg:=mg) (base:=base) (F:=F_Lhit) (qFC:=qNQ) (qAZ:=qEG)) qYW F_Lhit.kp qYB;have qF6:=Clb.mk (ok_Lis_side (P:=l.prog) (w:=w) (mg:=mg) (base:=base) (F:=F_Lis_side) (qP4:=qP4) (qGE:=qQD) (qP5:=qX7) (qEC:=qML) (qGD:=qQB) (qA9:=qBJ) (qBF:=qGX) (qAJ:=qDS) (qHD:=qQ9)) qQ7 F_Lis_side.kp qPO;have qDG:=Clb.mk (ok_Lare_sides (P:=l.prog) (w:=w) (mg:=mg) (base:=base) (F:=F_Lare_sides) (qF6:=qF6) (qGE:=qQD) (qA9:=qBJ) (qBF:=qGX) (qCX:=qJS) (qFC:=qNQ)) qMJ F_Lare_sides.kp qLM;have qDF:=Clb.mk (ok_Lbent_side (P:=l.prog) (w:=w) (mg:=mg) (base:=base) (F:=F_Lbent_side) (qAL:=qAL) (qBF:=qGX) (qCX:=qJS) (qJ1:=qUL) (qAJ:=qDS)) qMI F_Lbent_side.kp qLL;have qKO:=Clb.mk (ok_Lbent (P:=l.prog) (w:=w) (mg:=mg) (base:=base) (F:=F_Lbent) (qAL:=qAL) (qDF:=qDF) (qBF:=qGX) (qJT:=qUM) (qHE:=qQA) (qAJ:=qDS)) qX1 F_Lbent.kp qWA;have qI2:=Clb.mk (ok_Llooks (P:=l.prog) (w:=w) (mg:=mg) (base:=base) (F:=F_Llooks) (qAW:=qAW) (qDG:=qDG) (qEC:=qML) (qA9:=qBJ) (qJ1:=qUL)) qUG F_Llooks.kp qTT;exact ok_law (P:=l.prog) (w:=w) (mg:=mg) (base:=base) (F:=qa1) (qI3:=qI3) (qP3:=qP3) (qAL:=qAL) (qI1:=qI1) (qF4:=qF4) (qAW:=qAW) (qI2:=qI2) (qKO:=qKO) (qBF:=qGX) (qB7:=qHN)
theorem walk {l:PySem.W.OpenLaw} {q:Program} {loose:List Str} {XP:(Str->Option Value)->Heap->Prop} {YP:World->Heap->Prop} {d:DefRec} {K:Params->PySem.W.Frag} (hn:l.most=some 63) (hdf:d.params.defaults=[])
  (hY:∀ (w:World) (h:Heap),YP w h->(K w.params).In h)
  (F:∀ (w:World) (mg:Str->Option Value) (fa:Addr) (h:Heap),(K w.params).In h->h.Ns mainGlobals mg->mg d.name=some (.ref fa)->
   ∃ fd:FuncData,(∀ (s:Shared) (u:Value),BindsTo s fd ⟨[u],[]⟩ [("_law_script",u)])/\∀ base:Heap,(K w.params).In base->base.Ns mainGlobals mg->FnOk l.prog w (K w.params) mg base CX0 6 fa fd ["_law_script"] (qTA (K w.params))) :
  PySem.W.WalkO q loose XP YP l.row.toRowW d [] (fun f vs=>B77 f vs):=
 L2.walk_of (n:=63) (k:=6) (x:="_law_script") (CX:=fun _=>CX0) (sp:=fun w=>qTA (K w.params)) hn (by decide) hdf ⟨rfl,by decide,by decide,rfl⟩ hY F (fun _ _ a ns hl _ hS=>⟨a,ns,rfl,hS,hl,fun _=>rfl⟩) fun _ _ _ _ _ z=>z
end Fw
open PySem PySem.W PyProof.Rows
set_option maxRecDepth 100000 in
set_option maxHeartbeats 0 in
theorem PySem.Challenge.cw_fewrooms_k38_sides_shown_holds : PySem.Challenge.rw_fewrooms_k38_sides_shown.Holds := by
 w_on;refine holds_law Fw.hpSaid fun said=>?_
 refine holds_open (q:=Fw.hpQ) (Xt:=Fw.hpX) (XP:=XL Fw.hpQ []) (YP:=(kHook Fw.hpK Fw.hpA Fw.hpE).says)
  Fw.hpLeft (kHook Fw.hpK Fw.hpA Fw.hpE).of (kHook Fw.hpK Fw.hpA Fw.hpE).keeps (fun s e=>xl_of s (A94.mp e).1) XL.keeps
  (by rfl) (by rfl) (by rfl) (fun s e=>recFacts_of (A94.mp e).2) (by rfl)
  (by first | assumption | decide +kernel) (by decide +kernel) ⟨rfl,rfl,rfl,rfl,rfl,by decide +kernel⟩ ?hw ?hc
 case hw=>w_witness2
 k_fill
 refine Fw.walk (l:=PySem.Challenge.rw_fewrooms_k38_sides_shown) rfl rfl (fun w h Y=>PySem.W.kIn_of Y) ?F
 case F=>
  intro w mg fa h KX G hmg;refine' Fw.all_mk KX G hmg ?a_GOAL ?a_SOURCE ?qFN ?F_is_number ?qGV ?F_is_below ?qFM ?F_side_ends ?qFO ?F_free_ways ?qGT ?F_way_back ?qEP ?F_turn_round ?qIZ ?F_side_to ?qGU ?F_sides_of ?qJ0 ?F_is_path ?qE7 ?F_shows_sides ?qKN ?F_Lbegin ?qNO ?F_Ltake ?qE8 ?F_Lsome_needs ?qFP ?F_Ltree_net ?qSY ?F_Lnet ?qKL ?F_Lpaths ?qSZ ?F_Lhit ?qGW ?F_Lis_side ?qER ?F_Lare_sides ?qEQ ?F_Lbent_side ?qNP ?F_Lbent ?qKM ?F_Llooks ?qX4 ?qWH ?qWZ ?qWI ?qGE ?qP5 ?qEC ?qES ?qBD ?qGD ?qA9 ?qBF ?qCX ?qJT ?qHE ?qB7 ?qFC ?qAZ ?qJ1 ?qAJ ?qHD
  (case a_GOAL=>k_is)
  (case a_SOURCE=>k_is)
  (case qFN=>k_is)
  (case F_is_number=>exact ⟨_,L2.fun_mk (by k_is) (by k_is) (by k_is)⟩)
  (case qGV=>k_is)
  (case F_is_below=>exact ⟨_,L2.fun_mk (by k_is) (by k_is) (by k_is)⟩)
  (case qFM=>k_is)
  (case F_side_ends=>exact ⟨_,L2.fun_mk (by k_is) (by k_is) (by k_is)⟩)
  (case qFO=>k_is)
  (case F_free_ways=>exact ⟨_,L2.fun_mk (by k_is) (by k_is) (by k_is)⟩)
  (case qGT=>k_is)
  (case F_way_back=>exact ⟨_,L2.fun_mk (by k_is) (by k_is) (by k_is)⟩)
  (case qEP=>k_is)
  (case F_turn_round=>exact ⟨_,L2.fun_mk (by k_is) (by k_is) (by k_is)⟩)
  (case qIZ=>k_is)
  (case F_side_to=>exact ⟨_,L2.fun_mk (by k_is) (by k_is) (by k_is)⟩)
  (case qGU=>k_is)
  (case F_sides_of=>exact ⟨_,L2.fun_mk (by k_is) (by k_is) (by k_is)⟩)
  (case qJ0=>k_is)
  (case F_is_path=>exact ⟨_,L2.fun_mk (by k_is) (by k_is) (by k_is)⟩)
  (case qE7=>k_is)
  (case F_shows_sides=>exact ⟨_,L2.fun_mk (by k_is) (by k_is) (by k_is)⟩)
  (case qKN=>k_is)
  (case F_Lbegin=>exact ⟨_,L2.fun_mk (by k_is) (by k_is) (by k_is)⟩)
  (case qNO=>k_is)
  (case F_Ltake=>exact ⟨_,L2.fun_mk (by k_is) (by k_is) (by k_is)⟩)
  (case qE8=>k_is)
  (case F_Lsome_needs=>exact ⟨_,L2.fun_mk (by k_is) (by k_is) (by k_is)⟩)
  (case qFP=>k_is)
  (case F_Ltree_net=>exact ⟨_,L2.fun_mk (by k_is) (by k_is) (by k_is)⟩)
  (case qSY=>k_is)
  (case F_Lnet=>exact ⟨_,L2.fun_mk (by k_is) (by k_is) (by k_is)⟩)
  (case qKL=>k_is)
  (case F_Lpaths=>exact ⟨_,L2.fun_mk (by k_is) (by k_is) (by k_is)⟩)
  (case qSZ=>k_is)
  (case F_Lhit=>exact ⟨_,L2.fun_mk (by k_is) (by k_is) (by k_is)⟩)
  (case qGW=>k_is)
  (case F_Lis_side=>exact ⟨_,L2.fun_mk (by k_is) (by k_is) (by k_is)⟩)
  (case qER=>k_is)
  (case F_Lare_sides=>exact ⟨_,L2.fun_mk (by k_is) (by k_is) (by k_is)⟩)
  (case qEQ=>k_is)
  (case F_Lbent_side=>exact ⟨_,L2.fun_mk (by k_is) (by k_is) (by k_is)⟩)
  (case qNP=>k_is)
  (case F_Lbent=>exact ⟨_,L2.fun_mk (by k_is) (by k_is) (by k_is)⟩)
  (case qKM=>k_is)
  (case F_Llooks=>exact ⟨_,L2.fun_mk (by k_is) (by k_is) (by k_is)⟩)
  (case qX4=>k_is)
  (case qWH=>k_is)
  (case qWZ=>k_is)
  (case qWI=>k_is)
  (case qGE=>k_is)
  (case qP5=>k_is)
  (case qEC=>k_is)
  (case qES=>k_is)
  (case qBD=>k_is)
  (case qGD=>k_is)
  (case qA9=>k_is)
  (case qBF=>k_is)
  (case qCX=>k_is)
  (case qJT=>k_is)
  (case qHE=>k_is)
  (case qB7=>k_is)
  (case qFC=>k_is)
  (case qAZ=>k_is)
  (case qJ1=>k_is)
  (case qAJ=>k_is)
  (case qHD=>k_is)

