import PyProof.Rows.All
import Wide.All
import OpenK.AllK
import Wide.FinOn
import Lean
import PyProof.EqAt
import PyProof.EqKinds
import PyProof.TupleCall
import PySem.Challenge.RW_fewrooms_k54_rooms_of_one_size
noncomputable section
set_option compiler.extract_closed false
set_option bootstrap.genMatcherCode false
open Array renaming getElem?_eq_getElem→B8,length_toList→C7,toList_append→D8,getElem?_toList→E4,getD_eq_getD_getElem?→F2,perm_iff_toList_perm→Q6,toList_reverse→R5,toList_push→U1,getElem_toList→W3,forIn_toList→X6,toList_setIfInBounds→j6,toList_zip→t7,toList_map→t8,getElem?_eq_none→y8,toList→A54,size_map→A84
open Bool renaming false_ne_true→B0,false_eq_true→E1,and_eq_true→L3,eq_false_iff→O3,eq_iff_iff→Q1,not_true→V7,false_and→l9,and_eq_true_iff→A14,and_false→A15,true_and→A35,or_eq_true→A74,not_false→A80
open Classical renaming byContradiction→M7,choose→A66
open False renaming elim→U4
open ForInStep renaming yield→M4,done→Z6
open Int renaming toNat_natCast→F9,le_refl→L6,emod_lt_of_pos→R1,emod_nonneg→V2,fdiv_eq_ediv_of_nonneg→i8,fmod_eq_emod_of_nonneg→i9,le_of_lt→k9,natCast_nonneg→A37
open List renaming length_map→A0,length_append→A4,mem_singleton→A6,mem_append→A7,getElem?_eq_getElem→A8,mem_cons_of_mem→A9,length_singleton→B1,getD_eq_getElem?_getD→B3,size_toArray→B4,getElem?_eq_some_iff→B5,mem_cons→B7,take_of_length_le→C2,length_take→C3,mem_of_getElem?→C4,map_append→C8,map_cons→C9,getElem?_map→D0,replicate→D2,take_add_one→D7,mem_map→E2,length_cons→E3,length_drop→E5,mem_filter→E6,length_replicate→F1,getElem?_append_right→F4,length_eq_zero_iff→F5,zip_cons_cons→F7,mem_append_right→G1,getElem?_append_left→G2,append_assoc→G5,mem_cons_self→G7,getElem?_eq_none→J1,length_filter_le→J2,pairwise_map→J5,getElem_of_mem→K0,mem_range→L0,mem_of_mem_take→L5,append_nil→L8,length_nil→L9,pairwise_iff_getElem→M5,getElem?_zip_eq_some→M6,all_eq_true→M8,not_mem_nil→M9,replicate_succ→N9,eq_of_mem_replicate→O2,mem_of_mem_drop→O5,filter_cons→O6,range→O7,nodup_cons→P0,length_set→P1,lookup_cons_self→P2,pairwise_cons→P4,pairwise_append→P6,map_map→P8,length→Q2,reverse_append→Q4,take_length→Q9,getElem?_of_mem→R6,reverse_cons→R9,flatten_cons→T1,foldl_cons→V0,find?_cons→V1,pairwise_reverse→V4,any_cons→V8,drop_sublist→V9,perm_ext_iff_of_nodup→W1,mem_iff_getElem→W2,drop_eq_getElem_cons→W5,drop_drop→W6,drop_zero→W7,lookup_cons→W9,getElem_mem→X0,filterMap_cons→X1,nil_append→X9,length_zip→Y2,filter_append→Y4,getElem?_set_self→Y5,drop_eq_nil_of_le→Y7,length_pos_of_mem→Y9,take_sublist→Z1,take_append_drop→Z9,mem_reverse→a9,mem_flatMap→c5,countP_cons→c6,mem_erase_of_ne→c8,of_mem_zip→d5,length_reverse→d6,map_congr_left→i0,map_nil→j8,getElem?_drop→l6,mem_of_find?_eq_some→m5,getElem?_take_of_lt→o6,getElem_take→p6,getElem_drop→p7,reverse_perm→p8,length_erase_of_mem→p9,getElem?_replicate→q9,getElem?_cons_succ→t0,drop_of_length_le→y7,getElem_replicate→y9,perm_append_comm→A00,filter_nil→A03,countP_eq_length→A04,countP_le_length→A05,mem_append_left→A06,getElem?_set_ne→A07,reverse_reverse→A10,getElem?_append→A13,map_eq_nil_iff→A25,length_pos_iff→A27,mem_filterMap→A30,getElem?_take→A39,foldl→A42,foldl_append→A45,ext_getElem?→A48,mapM_toArray→A50,nodup_append→A52,length_range→A53,cons_append→A60,map_reverse→A67,forIn_cons→A73,find?_some→A76,range_succ→A78,foldl_nil→A81,drop_take→A82,mapM_cons→A85,all_cons→A92,findIdx?→A94,take_nil→A96,take_add→A97,map→A99
open List.Nodup renaming length_le_of_subset→Z7
open List.Perm renaming append_left→Z8
open Nat renaming le_refl→A5,lt_of_lt_of_le→D4,ne_of_lt→D6,zero_le→F0,le_trans→F3,le_of_lt→G0,lt_succ_of_lt→O8,not_lt_zero→P3,lt_irrefl→R0,pow_le_pow_right→R7,lt_of_le_of_lt→U7,min_eq_left→V6,le_of_not_lt→W8,le_succ→X2,ne_of_gt→X3,add_assoc→X7,lt_trichotomy→Z5,lt_trans→j9,sub_self→k7,lt_or_eq_of_le→k8,add_mul_mod_self_left→m6,lt_pow_two_of_testBit→m7,lt_of_succ_lt→n8,succ_ne_self→t5,sub_zero→A01,pow_le_pow_left→A26,add_sub_cancel→A36,mod_lt→A44,zero_add→A55,mod_eq_of_lt→A65,mul_le_mul→A86
open Ne renaming symm→G8
open Option renaming toList_some→D5,map_some→Q3,isSome_iff_exists→X4,isSome_map→Z3,map_eq_some_iff→y4,isSome→A38,getD_none→A57,getD_some→A61,none→B06
open Option.some renaming inj→D3
open Or renaming inl→E9,inr→A16
open PyProof renaming noPylong_small→u8
open PyProof.Rows renaming slot_tuple_getitem→G3,callWith_type1→U8,callWith_kw→X5
open PyProof.Rows.IntsAre renaming int_at→d9
open PySem renaming mem_of_lookup→J3,seqSlot_of→A64,call→A88,eqBool→B01
open PySem.Around renaming under_plainId→E8,frames_deeper→A08
open PySem.AutoSeq1 renaming sub_tuple_tuple→o8
open PySem.Builtin.Builtins renaming bindParams→Q5
open PySem.Builtin.Dict_items renaming ownsTuple→d3
open PySem.Builtin.Frozenset renaming updateFrom→A68,newClass→A79,sizeOf→A89,slot0→A95
open PySem.Builtin.List renaming listTooLong→U0,listLengthHint→f9
open PySem.Builtin.Range renaming rangeSize→U2,small→A24
open PySem.Builtin.Slice renaming slicePlaces→R4,sliceAdjust→W4,sliceApplied→j4
open PySem.Builtin.Tuple renaming tupleExact→J7,tupleItemsOf→W0,tupleCompareSizes→Z2,tupleIsExact→j7,tupleHashOf→l8
open PySem.Calls renaming call_function_entry→m4,callWith_builtin→w6
open PySem.F renaming plainAttrs_list→F6,slot_list_append→J8,type_list_append→J9,plain_min_loop→L7,slot_dict_keyiterator_next→O4,plain_max_loop→Q8,args_tuple_add_2→R8,entry_tuple_add→U3,slot_tuple_add→U6,slot_tuple_lt→U9,called_set→V3,args_tuple_lt_2→X8,entry_tuple_lt→Y6,entry_min_loop→Y8,args_dict_keyiterator_next_1→a8,entry_dict_keyiterator_next→b7,slot_int_rmul→d7,slot_list_reverse→m8,type_list_reverse→n4,plain_list_iadd→r8,entry_max_loop→t6,slot_tuple_mul→u7,slot_tuple_eq→z8,slot_list_lt→A12,called_tuple→A17,args_int_rmul_2→A43,plain_tuple_new→A47,slot_tuple_rmul→A51,slot_int_index→A58,entry_int_rmul→A59,slot_dict_iter→A62
open PySem.Heap renaming get?_push_of_some→A3,lt_size→C0,get?_push_size→C1,get?_update_other→C5,get?_update_self→G9,size_push→P7,get?_push_ne→A49,size_update→A63
open PySem.Heap.IsSliceOf renaming new→B07
open PySem.Heap.SameBut renaming update→d8
open PySem.NameKind renaming free→J4,cell→A93
open PySem.Obj renaming mapSeq→G4,data_mapFields→Y1,mapFields→c9,isFreed_of_fields→z9,cls_mapFields→A46
open PySem.Paired renaming length→B9,snoc→J6
open PySem.PassesOwn renaming never→G6
open PySem.SeqAt.EqAt renaming int_none→A20,str_none→A21,none_int→A22,none_str→A23,int_str→A28,str_int→A29,int_int→A32,same→A70
open PySem.SetTable renaming below→D9,insertAt→E7,bits→Y0,fits→A33,fill→A34,runEnd→A75,has→B03
open PySem.SetTable.below renaming go→Z4
open PySem.SetTable.probe renaming go→P9
open PySem.Str renaming ofString→B6,empty→P5
open PySem.Value renaming ref→C6,int→O0,none→Q7,type→Z0,isInt→q5,notImplemented→A09,bool→A40,str→A69,isStrOf→A91
open PySem.W renaming keepIn→M3,fnOf→O1,findIn→O9,codeIn→R3,kla_fn→U5,nsIn→V5,mg_of→Y3,kdu_collect→g8,methodObj→n9,specialIn→o5,cellsFrom_some→w5,kat_nil→A02,kas_first_eq→A11,noTabs→A18,mroIn→A31,hasDictIn→A41,instObj→A71,takesIn→A72,tabObj→A83,kHook→A90,tabIn→A98,isFn→B02
open PySem.W.Looks renaming ld→b8,here→l7
open PySem.W.OpenLaw renaming wellSaid→A87,row→B04
open PySem.W.OpenRow renaming toRowW→B00
open PySem.pickOrder renaming go→A56
open StateT renaming run_pure→A77
open Sum renaming inr→L4,inl→Q0
open Sum.inl renaming inj→A19
open Sum.inr renaming inj→B05
open True renaming intro→d4
set_option Elab.async false
set_option linter.all false
set_option maxRecDepth 100000
set_option maxHeartbeats 0
namespace Fw
open PySem
noncomputable def top (i:Nat):Stmt:=PySem.Challenge.pw_fewrooms_k54_rooms_of_one_size.main.body.getD i (.Pass ⟨0,0,0,0⟩)
abbrev qAR:Stmt:=top 1
noncomputable abbrev qET:Stmt:=top 3
noncomputable abbrev qC4:Stmt:=top 4
noncomputable abbrev qG7:Stmt:=top 5
noncomputable abbrev qES:Stmt:=top 6
abbrev qER:Stmt:=top 8
noncomputable abbrev qAA:Stmt:=top 10
noncomputable abbrev qC0:Stmt:=top 11
noncomputable abbrev qDB:Stmt:=top 12
abbrev qCM:Stmt:=top 13
abbrev qAM:Stmt:=top 15
abbrev qCN:Stmt:=top 17
abbrev qBU:Stmt:=top 18
abbrev qCL:Stmt:=top 19
abbrev qBK:Stmt:=top 20
abbrev qG6:Stmt:=top 21
abbrev qBF:Stmt:=top 22
noncomputable abbrev qHM:Stmt:=top 24
noncomputable abbrev qKD:Stmt:=top 25
noncomputable abbrev qCO:Stmt:=top 26
noncomputable abbrev qDF:Stmt:=top 27
noncomputable abbrev qOH:Stmt:=top 28
noncomputable abbrev qHN:Stmt:=top 29
abbrev qHK:Stmt:=top 30
abbrev qHL:Stmt:=top 31
noncomputable abbrev qJ4:Stmt:=top 32
end Fw
namespace Fw
open PySem
noncomputable def dA (s:Stmt):Arguments:=match s with
 | .FunctionDef _ a _ _ _ _ _ _ _ _=>a
 | _=>{ posonlyargs:=[],args:=[],vararg:=none,kwonlyargs:=[],kw_defaults:=[],kwarg:=none,defaults:=[] }
noncomputable def dB (s:Stmt):List Stmt:=match s with
 | .FunctionDef _ _ b _ _ _ _ _ _ _=>b
 | _=>[]
noncomputable def dS (s:Stmt):Scope:=match s with
 | .FunctionDef _ _ _ _ _ _ sc _ _ _=>sc
 | _=>{ kind:=.function,names:=[],isGenerator:=false,isCoroutine:=false }
noncomputable abbrev so (s:String):Str:=PySem.Str.ofString s
noncomputable abbrev kh (P:Params) (s:Str):Int:=PySem.PyData.keyHash P s
noncomputable abbrev hde (P:Params) (s:String) (n:Nat) (v:Value):DictEntry:=⟨kh P (so s),.str (so s) n,v⟩
noncomputable abbrev hvs (s:String) (n:Nat):Value:=.str (so s) n
noncomputable abbrev hcut (n:Nat):Value:=hvs "/claim/cut.py" n
noncomputable abbrev hfd (x q:String) (s:Stmt) (a b c d:Value) (e:Option Addr) (f g:Value) (i:Addr):FuncData:=⟨so x,so q,dA s,.stmts (dB s),dS s,3,[],a,b,c,d,e,f,g,i⟩
noncomputable abbrev htp (d:Data) (s:Array (Option Value)):Obj:=⟨.type "tuple",none,d,s⟩
noncomputable abbrev hcd (d:Data) (s:Array (Option Value)):Obj:=⟨.type "code",none,d,s⟩
noncomputable abbrev hfn (d:Data) (s:Array (Option Value)):Obj:=⟨.type "function",none,d,s⟩
noncomputable abbrev ht0:Obj:=htp (.seq #[]) #[]
noncomputable def hvl:List String->Nat->List Value
 | [],_=>[]
 | x::r,n=>hvs x n::hvl r (n+1)
noncomputable abbrev hts (l:List String) (n:Nat):Obj:=htp (.seq (hvl l n).toArray) #[]
noncomputable abbrev hco (x:String) (t:Nat) (ln ac fl:Int) (b:Nat) (md e:Int) (n:Nat):Obj:=hcd (.fields #[hvs x t,hvs x (t+1),hcut (t+2),.int ln 0,.int ac 0,.int 0 0,.int 0 0,.int fl 0,.ref b,.bool .true,.int md 0,.ref (b+1),.none,.ref (b+2),.ref (b+3),.ref (b+4),.int e 0,.int ln 0,hcut n]) #[]
noncomputable abbrev hcp (x:String) (t:Nat) (ln ac:Int) (b:Nat) (md e:Int):Obj:=hcd (.fields #[hvs x t,hvs x (t+1),hcut (t+2),.int ln 0,.int ac 0,.int 0 0,.int 0 0,.int 3 0,.ref b,.bool .true,.int md 0,.ref (b+1),.none,.none,.none,.ref (b+2),.int e 0,.int ln 0,hcut (t+4)]) #[]
noncomputable abbrev hfo (x:String) (s:Stmt) (m:String) (t c:Nat):Obj:=hfn (.func (hfd x x s .none .none .none (hvs m t) .none (.ref c) .none 0)) #[]
noncomputable def hpK:Params->PySem.W.Frag:=fun P=>
 (nat_lit 2,Obj.mk .none .none (.dict #[]) #[]) ::
 (nat_lit 3,Obj.mk (.type "dict") .none (.dict #[hde P "__name__" 165 (hvs "law_fewrooms_k54_rooms_of_one_size" 348),hde P "__doc__" 166 .none,hde P "__package__" 167 .none,hde P "__loader__" 168 (.builtin "__main__.__loader__#opaque"),hde P "__spec__" 169 .none,hde P "__annotations__" 170 (.ref 6),hde P "__builtins__" 171 (.ref 4),hde P "__file__" 173 (hcut 172),hde P "__cached__" 174 .none,hde P "fault_of_do" 201 (.ref 79),hde P "fault_of_do_moves" 202 (.ref 21),hde P "fault_of" 212 (.ref 28),hde P "stand_behind" 218 (.ref 33),hde P "has_all" 224 (.ref 38),hde P "moves_of" 230 (.ref 43),hde P "steps_of" 238 (.ref 48),hde P "stands_reached" 255 (.ref 55),hde P "best_end" 261 (.ref 60),hde P "plan_to" 270 (.ref 67),hde P "least_steps" 276 (.ref 72),hde P "fault_of_do_unlike" 292 (.ref 79),hde P "fault_there" 303 (.ref 86),hde P "layout_behind" 313 (.ref 93),hde P "moves_there" 319 (.ref 98),hde P "layouts_reached" 335 (.ref 105),hde P "rank_of" 341 (.ref 110),hde P "least_there" 347 (.ref 115),hde P "_law_begin" 357 (.ref 122),hde P "_law_take" 370 (.ref 129),hde P "_law_some_needs" 381 (.ref 136),hde P "_law_tree_net" 393 (.ref 143),hde P "_law_net" 399 (.ref 148),hde P "_law_asked" 409 (.ref 155),hde P "_law_there" 415 (.ref 160),hde P "_law_steps" 426 (.ref 167),hde P "law" 432 (.ref 172)] 36) #[]) ::
 (nat_lit 15,ht0) ::
 (nat_lit 17,hts ["net","rooms","stand","work","there","result","need"] 192) ::
 (nat_lit 18,ht0) ::
 (nat_lit 20,hco "fault_of_do" 189 2 4 3 15 181 199 200) ::
 (nat_lit 21,hfo "fault_of_do" qAR "fewrooms.moves" 187 20) ::
 (nat_lit 22,ht0) ::
 (nat_lit 24,hts ["net","rooms","stand","move"] 206) ::
 (nat_lit 25,ht0) ::
 (nat_lit 27,hco "fault_of" 203 15 4 3 22 181 210 211) ::
 (nat_lit 28,hfo "fault_of" qET "fewrooms.moves" 187 27) ::
 (nat_lit 29,ht0) ::
 (nat_lit 32,hcp "stand_behind" 213 21 2 29 181 216) ::
 (nat_lit 33,hfo "stand_behind" qC4 "fewrooms.moves" 187 32) ::
 (nat_lit 34,ht0) ::
 (nat_lit 37,hcp "has_all" 219 25 2 34 181 222) ::
 (nat_lit 38,hfo "has_all" qG7 "fewrooms.moves" 187 37) ::
 (nat_lit 39,ht0) ::
 (nat_lit 42,hcp "moves_of" 225 27 3 39 181 228) ::
 (nat_lit 43,hfo "moves_of" qES "fewrooms.moves" 187 42) ::
 (nat_lit 44,ht0) ::
 (nat_lit 47,hcp "steps_of" 233 32 1 44 181 236) ::
 (nat_lit 48,hfo "steps_of" qER "fewrooms.plans" 231 47) ::
 (nat_lit 49,ht0) ::
 (nat_lit 51,hts ["net","rooms","reached","due","later","stand","move","further","steps"] 244) ::
 (nat_lit 52,ht0) ::
 (nat_lit 54,hco "stands_reached" 241 35 2 3 49 181 253 254) ::
 (nat_lit 55,hfo "stands_reached" qAA "fewrooms.stairs" 239 54) ::
 (nat_lit 56,ht0) ::
 (nat_lit 59,hcp "best_end" 256 49 2 56 181 259) ::
 (nat_lit 60,hfo "best_end" qC0 "fewrooms.stairs" 239 59) ::
 (nat_lit 61,ht0) ::
 (nat_lit 63,hts ["reached","stand","plan"] 265) ::
 (nat_lit 64,ht0) ::
 (nat_lit 66,hco "plan_to" 262 52 2 3 61 181 268 269) ::
 (nat_lit 67,hfo "plan_to" qDB "fewrooms.stairs" 239 66) ::
 (nat_lit 68,ht0) ::
 (nat_lit 71,hcp "least_steps" 271 59 3 68 181 274) ::
 (nat_lit 72,hfo "least_steps" qCM "fewrooms.stairs" 239 71) ::
 (nat_lit 73,ht0) ::
 (nat_lit 75,hts ["net","wides","sizes","layout","move","work","room"] 282) ::
 (nat_lit 76,ht0) ::
 (nat_lit 78,hco "fault_of_do" 279 67 5 3 73 181 289 290) ::
 (nat_lit 79,hfo "fault_of_do" qAM "fewrooms.unlike" 277 78) ::
 (nat_lit 80,ht0) ::
 (nat_lit 82,hts ["net","wides","sizes","layout","move"] 296) ::
 (nat_lit 83,ht0) ::
 (nat_lit 85,hco "fault_there" 293 80 5 3 80 181 301 302) ::
 (nat_lit 86,hfo "fault_there" qCN "fewrooms.unlike" 277 85) ::
 (nat_lit 87,ht0) ::
 (nat_lit 89,hts ["layout","move","room","result"] 307) ::
 (nat_lit 90,ht0) ::
 (nat_lit 92,hco "layout_behind" 304 86 2 3 87 181 311 312) ::
 (nat_lit 93,hfo "layout_behind" qBU "fewrooms.unlike" 277 92) ::
 (nat_lit 94,ht0) ::
 (nat_lit 97,hcp "moves_there" 314 90 4 94 181 317) ::
 (nat_lit 98,hfo "moves_there" qCL "fewrooms.unlike" 277 97) ::
 (nat_lit 99,ht0) ::
 (nat_lit 101,hts ["net","wides","sizes","start","reached","due","later","layout","move","further"] 323) ::
 (nat_lit 102,ht0) ::
 (nat_lit 104,hco "layouts_reached" 320 95 3 3 99 181 333 334) ::
 (nat_lit 105,hfo "layouts_reached" qBK "fewrooms.unlike" 277 104) ::
 (nat_lit 106,ht0) ::
 (nat_lit 109,hcp "rank_of" 336 109 1 106 181 339) ::
 (nat_lit 110,hfo "rank_of" qG6 "fewrooms.unlike" 277 109) ::
 (nat_lit 111,ht0) ::
 (nat_lit 114,hcp "least_there" 342 111 4 111 181 345) ::
 (nat_lit 115,hfo "least_there" qBF "fewrooms.unlike" 277 114) ::
 (nat_lit 116,ht0) ::
 (nat_lit 118,hts ["_law_script","_law_cells"] 353) ::
 (nat_lit 119,ht0) ::
 (nat_lit 121,hco "_law_begin" 350 119 1 3 116 181 355 356) ::
 (nat_lit 122,hfo "_law_begin" qHM "law_fewrooms_k54_rooms_of_one_size" 348 121) ::
 (nat_lit 123,ht0) ::
 (nat_lit 125,hts ["_law_state","_law_many","_law_turn","_law_place","_law_cell","_law_digit","_law_mixed"] 361) ::
 (nat_lit 126,ht0) ::
 (nat_lit 128,hco "_law_take" 358 124 2 3 123 181 368 369) ::
 (nat_lit 129,hfo "_law_take" qKD "law_fewrooms_k54_rooms_of_one_size" 348 128) ::
 (nat_lit 130,ht0) ::
 (nat_lit 132,hts ["_law_state","_law_k","_law_found","_law_turn","_law_far"] 374) ::
 (nat_lit 133,ht0) ::
 (nat_lit 135,hco "_law_some_needs" 371 135 2 3 130 181 379 380) ::
 (nat_lit 136,hfo "_law_some_needs" qCO "law_fewrooms_k54_rooms_of_one_size" 348 135) ::
 (nat_lit 137,ht0) ::
 (nat_lit 139,hts ["_law_state","_law_many","_law_open_ones","_law_found","_law_k","_law_so_many"] 385) ::
 (nat_lit 140,ht0) ::
 (nat_lit 142,hco "_law_tree_net" 382 142 2 3 137 181 391 392) ::
 (nat_lit 143,hfo "_law_tree_net" qDF "law_fewrooms_k54_rooms_of_one_size" 348 142) ::
 (nat_lit 144,ht0) ::
 (nat_lit 147,hcp "_law_net" 394 150 2 144 181 397) ::
 (nat_lit 148,hfo "_law_net" qOH "law_fewrooms_k54_rooms_of_one_size" 348 147) ::
 (nat_lit 149,ht0) ::
 (nat_lit 151,hts ["_law_state","_law_net_here","_law_found","_law_turn"] 403) ::
 (nat_lit 152,ht0) ::
 (nat_lit 154,hco "_law_asked" 400 165 2 3 149 181 407 408) ::
 (nat_lit 155,hfo "_law_asked" qHN "law_fewrooms_k54_rooms_of_one_size" 348 154) ::
 (nat_lit 156,ht0) ::
 (nat_lit 159,hcp "_law_there" 410 170 1 156 181 413) ::
 (nat_lit 160,hfo "_law_there" qHK "law_fewrooms_k54_rooms_of_one_size" 348 159) ::
 (nat_lit 161,ht0) ::
 (nat_lit 163,hts ["_law_net_here","_law_wides","_law_sizes","_law_asked_here","_law_told"] 419) ::
 (nat_lit 164,ht0) ::
 (nat_lit 166,hco "_law_steps" 416 182 4 3 161 181 424 425) ::
 (nat_lit 167,hfo "_law_steps" qHL "law_fewrooms_k54_rooms_of_one_size" 348 166) ::
 (nat_lit 168,ht0) ::
 (nat_lit 171,hcp "law" 427 185 1 168 181 430) ::
 (nat_lit 172,hfo "law" qJ4 "law_fewrooms_k54_rooms_of_one_size" 348 171) ::
 []
noncomputable def hpA:List Addr:=[2,3,15,17,18,20,21,22,24,25,27,28,29,32,33,34,37,38,39,42,43,44,47,48,49,51,52,54,55,56,59,60,61,63,64,66,67,68,71,72,73,75,76,78,79,80,82,83,85,86,87,89,90,92,93,94,97,98,99,101,102,104,105,106,109,110,111,114,115,116,118,119,121,122,123,125,126,128,129,130,132,133,135,136,137,139,140,142,143,144,147,148,149,151,152,154,155,156,159,160,161,163,164,166,167,168,171,172]
noncomputable def hpQ:Program:=PySem.W.view PySem.Challenge.pw_fewrooms_k54_rooms_of_one_size [2,3,4,5,6,8,10,11,12,13,15,16,17,18,19,20,21,22,24,25,26,27,28,29,30,31,32]
def hpN:Nat:=1820
theorem hpE (P:Params):hpA=(hpK P).map (·.1):=by kernel_rfl
noncomputable def hpX (s:Shared):Bool:=PySem.W.xlAt hpQ [] s && PySem.W.recOk (PySem.W.RowW.records (B00 (B04 PySem.Challenge.rw_fewrooms_k54_rooms_of_one_size))) s
theorem hpLeft:PySem.W.LeftO PySem.Challenge.pw_fewrooms_k54_rooms_of_one_size hpQ ["fault_of_do_moves","fault_of_do_unlike"] hpX (A90 hpK hpA hpE).obs (A90 hpK hpA hpE).val hpN:=fun w=>by kernel_rfl
theorem hpSaid:A87 PySem.Challenge.rw_fewrooms_k54_rooms_of_one_size=true:=by kernel_rfl
end Fw
namespace L2
open PySem PySem.Spec PyProof.Rows
abbrev Key:=Sum Int Str
noncomputable def qM8:Key->Value->Bool
 | .inl k,v=>q5 k v
 | .inr x,v=>A91 x v
noncomputable def keyH (w:World):Key->Int
 | .inl k=>hashInt k
 | .inr x=>hashStr w x
theorem qAN:∀ {k:Key} {v:Value},qM8 k v=true->(∃ i t,k=Q0 i/\v=O0 i t)\/(∃ x t,k=L4 x/\v=A69 x t)
 | .inl i,v,h=>by
  obtain ⟨t,e⟩:=Value.isInt_shape (k:=i) (v:=v) h;exact .inl ⟨i,t,rfl,e⟩
 | .inr x,v,h=>by
  obtain ⟨t,e⟩:=Value.isStrOf_shape (x:=x) (v:=v) h;exact .inr ⟨x,t,rfl,e⟩
theorem qM7 (i:Int) (t:Tok):qM8 (.inl i) (.int i t)=true:=by simp [qM8,q5]
theorem qM6 (x:Str) (t:Tok):qM8 (.inr x) (.str x t)=true:=by simp [qM8,A91]
theorem qYM (a b:Int):decide ((Q0 a:Key)=Q0 b)=(a == b):=by
 by_cases e:a=b
 ·subst e;simp
 ·have h:¬ (Q0 a:Key)=Q0 b:=fun q=>e (A19 q);rw [decide_eq_false h];exact (beq_eq_false_iff_ne.mpr e).symm
theorem qYJ (a b:Str):decide ((L4 a:Key)=L4 b)=decide (a=b):=by
 by_cases e:a=b
 ·subst e;simp
 ·have h:¬ (L4 a:Key)=L4 b:=fun q=>e (B05 q);rw [decide_eq_false h,decide_eq_false e]
theorem qYL (a:Int) (b:Str):decide ((Q0 a:Key)=L4 b)=false:=decide_eq_false (fun q=>nomatch q)
theorem qYK (a:Str) (b:Int):decide ((L4 a:Key)=Q0 b)=false:=decide_eq_false (fun q=>nomatch q)
noncomputable def qCG (prog:Program) (w:World):PySem.KeyKind prog w Key where
 is:=qM8
 hash:=keyH w
 inj:=fun v a b ha hb=>by
  rcases qAN ha with ⟨i,t,rfl,rfl⟩ | ⟨x,t,rfl,rfl⟩
  ·rcases qAN hb with ⟨j,u,rfl,e⟩ | ⟨y,u,rfl,e⟩
   ·injection e with e1 _;rw [e1]
   ·exact nomatch e
  ·rcases qAN hb with ⟨j,u,rfl,e⟩ | ⟨y,u,rfl,e⟩
   ·exact nomatch e
   ·injection e with e1 _;rw [e1]
 byValue:=fun k v h=>by
  rcases qAN h with ⟨i,t,rfl,rfl⟩ | ⟨x,t,rfl,rfl⟩ <;> rfl
 pyHash:=fun hv h=>by
  rcases qAN hv with ⟨i,t,rfl,rfl⟩ | ⟨x,t,rfl,rfl⟩
  ·exact wpAny_pyHash_int h
  ·exact wpAny_pyHash_str h
 eqBool:=fun hu hv h=>by
  rcases qAN hu with ⟨i,t,rfl,rfl⟩ | ⟨x,t,rfl,rfl⟩
  ·rcases qAN hv with ⟨j,u,rfl,rfl⟩ | ⟨y,u,rfl,rfl⟩
   ·rw [qYM] at h;exact wpAny_eqBool_int h
   ·rw [qYL] at h;exact A28 i t y u _ _ _ _ h
  ·rcases qAN hv with ⟨j,u,rfl,rfl⟩ | ⟨y,u,rfl,rfl⟩
   ·rw [qYK] at h;exact A29 x t j u _ _ _ _ h
   ·rw [qYJ] at h;exact wpAny_eqBool_str h
 «strs»:=fun k x t v h=>by
  rcases qAN h with ⟨i,u,rfl,e⟩ | ⟨y,u,rfl,e⟩
  ·exact nomatch e
  ·injection e with e1 _
   subst e1;cases v <;> rfl
theorem qNL (prog:Program) (w:World) (i:Int) (t:Tok):(qCG prog w).is (.inl i) (.int i t)=true:=qM7 i t
theorem qNK (prog:Program) (w:World) (x:Str) (t:Tok):(qCG prog w).is (.inr x) (.str x t)=true:=qM6 x t
abbrev KI:=Option Key
def kiIs:KI->Value->Bool
 | some k,v=>qM8 k v
 | none,.none=>true
 | none,_=>false
def kiH (w:World):KI->Int
 | some k=>keyH w k
 | none=>0xFCA86420
theorem qCT:∀ {k:KI} {v:Value},kiIs k v=true->(∃ i,k=some i/\qM8 i v=true)\/(k=none/\v=.none)
 | some i,v,h=>.inl ⟨i,rfl,h⟩
 | none,v,h=>by
  cases v with
  | none=>exact .inr ⟨rfl,rfl⟩
  | _=>exact nomatch h
theorem qYI {a b:KI} {v:Value} (ha:kiIs a v=true) (hb:kiIs b v=true):a=b:=by
 rcases qCT ha with ⟨i,rfl,x⟩ | ⟨rfl,rfl⟩ <;> rcases qCT hb with ⟨j,rfl,y⟩ | ⟨rfl,e⟩
 ·rcases qAN x with ⟨k,t,rfl,rfl⟩ | ⟨k,t,rfl,rfl⟩ <;> rcases qAN y with ⟨m,u,rfl,e⟩ | ⟨m,u,rfl,e⟩ <;> first | (injection e with e _;rw [e]) | exact nomatch e
 ·subst e;rcases qAN x with ⟨_,_,_,z⟩ | ⟨_,_,_,z⟩ <;> exact nomatch z
 ·rcases qAN y with ⟨_,_,_,z⟩ | ⟨_,_,_,z⟩ <;> exact nomatch z
 ·rfl
section
variable {prog:Program} {w:World} {A:Around} {E:Value->Shared->Prop} {s:Shared}
theorem qWX {k:KI} {v:Value} {Q:Int->Shared->Prop} (hu:A.units<cLine) (h:kiIs k v=true) (q:Q (kiH w k) { s with toks:=s.toks+1 }):wpAny (model prog w) A (pyHash v) Q E s:=by
 rcases qCT h with ⟨i,rfl,x⟩ | ⟨rfl,rfl⟩
 ·exact (qCG prog w).pyHash x q
 ·exact W.pyHash_slot (T:="NoneType") rfl F.slot_NoneType_hash F.entry_NoneType_hash (F.args_NoneType_hash_1 _) (beq_builtin_none _) (.inr hu) (wpAny_bind (wpAny_pure (wpAny_bind (wpAny_mkInt (wpAny_pure ⟨_,_,rfl,q⟩)))))
theorem qa1 {a b:KI} {u v:Value} {Q:Bool->Shared->Prop} (ha:kiIs a u=true) (hb:kiIs b v=true) (q:Q (decide (a=b)) s):wpAny (model prog w) A (B01 u v) Q E s:=by
 have ne:∀ {c:Bool},c=decide (a=b)->SeqAt.EqAt A s u v c->wpAny (model prog w) A (B01 u v) Q E s:=fun e z=>z _ _ _ _ (e ▸ q);rcases qCT ha with ⟨i,rfl,x⟩ | ⟨rfl,rfl⟩ <;> rcases qCT hb with ⟨j,rfl,y⟩ | ⟨rfl,rfl⟩
 ·refine (qCG prog w).eqBool x y ?_;have e:decide (i=j)=decide ((some i:KI)=some j):=decide_eq_decide.mpr ⟨congrArg some,fun z=>D3 z⟩;rw [e];exact q
 ·rcases qAN x with ⟨k,t,rfl,rfl⟩ | ⟨k,t,rfl,rfl⟩
  ·exact ne rfl (A20 k t)
  ·exact ne rfl (A21 k t)
 ·rcases qAN y with ⟨k,t,rfl,rfl⟩ | ⟨k,t,rfl,rfl⟩
  ·exact ne rfl (A22 k t)
  ·exact ne rfl (A23 k t)
 ·exact ne rfl (A70 _)
def IsNK (h:Heap) (ks:List KI) (a:Addr):Prop:=∃ o Ae n,h.get? a=some o/\o.cls=.type "tuple"/\o.data=.seq Ae n/\Paired (fun k v=>kiIs k v=true) ks Ae.toList
theorem qS6:∀ {x y:List KI} {vs:List Value},Paired (fun k v=>kiIs k v=true) x vs->Paired (fun k v=>kiIs k v=true) y vs->x=y
 | [],_,_,.nil,h=>by cases h;rfl
 | _::_,_,_,.cons a r,h=>by
  cases h with
  | cons b t=>rw [qYI a b,qS6 r t]
theorem qS5:∀ {x:List KI} {vs:List Value},Paired (fun k v=>kiIs k v=true) x vs->∀ v ∈ vs,carriedByValue v=true
 | _,_,.nil,v,hv=>by simp at hv
 | _,_,.cons a r,v,hv=>by
  rcases B7.mp hv with e | hv
  ·subst e;rcases qCT a with ⟨i,_,x⟩ | ⟨_,e⟩
   ·rcases qAN x with ⟨_,_,_,rfl⟩ | ⟨_,_,_,rfl⟩ <;> rfl
   ·rw [e];rfl
  ·exact qS5 r v hv
theorem IsNK.typeIs {ks:List KI} {a:Addr} (x:IsNK s.heap ks a):s.TypeIs (.ref a) "tuple":=let ⟨o,_,_,ho,hc,_⟩:=x;⟨o,ho,hc⟩
theorem IsNK.inj {h:Heap} {a:Addr} {x y:List KI} (hx:IsNK h x a) (hy:IsNK h y a):x=y:=by
 obtain ⟨o,Ae,n,ho,_,hd,hi⟩:=hx;obtain ⟨o',items',n',ho',_,hd',hi'⟩:=hy;obtain rfl:o=o':=D3 (ho.symm.trans ho');rw [hd] at hd'
 injection hd' with h1 _
 subst h1;exact qS6 hi hi'
def qRR (w:World) (ks:List KI):Int:=reduceHash (l8 (ks.map (kiH w)))
theorem qWO {ks:List KI} {a:Addr} {Q:Int->Shared->Prop} (hu:A.units+1<cLine) (hk:IsNK s.heap ks a) (h:Q (qRR w ks) { s with toks:=s.toks+(ks.length+1) }):wpAny (model prog w) A (pyHash (.ref a)) Q E s:=by
 have hT:=hk.typeIs;obtain ⟨o,Ae,n,ho,_,hd,hi⟩:=hk;refine W.pyHash_slot (T:="tuple") hT F.slot_tuple_hash F.entry_tuple_hash (F.args_tuple_hash_1 _) (beq_builtin_none _) (.inr (n8 hu)) ?_;show wpAny _ _ (W0 (.ref a) >>= _) _ _ s;refine wpAny_bind (wpAny_tupleItemsOf ho hd ?_);refine wpAny_bind ?_;rw [<- X6];refine wpAny_forIn_list _
  (fun rest (b:Array Int) s'=>∃ done left,ks=done++left/\Paired (fun k v=>kiIs k v=true) left rest/\b.toList=done.map (kiH w)/\s'={ s with toks:=s.toks+done.length })
  _ ?_ ?_ _ _ ⟨[],ks,rfl,hi,rfl,rfl⟩
 ·rintro x rest b s' ⟨done,left,rfl,hl,hb,rfl⟩;cases hl with
  | @cons k _ ks' _ h1 hl'=>
   refine wpAny_bind (qWX hu h1 ?_)
   first
    | exact wpAny_pure ⟨done++[k],ks',by simp,hl',by simp [hb],by simp [X7]⟩
    | exact wpAny_bind (wpAny_pure (wpAny_pure ⟨done++[k],ks',by simp,hl',by simp [hb],by simp [X7]⟩))
 ·rintro b s' ⟨done,left,rfl,hl,hb,rfl⟩;cases hl;rw [L8] at h;show wpAny _ _ (retInt (l8 b.toList)) _ _ _;rw [hb];exact wpAny_bind (wpAny_mkInt (wpAny_pure ⟨_,_,rfl,by simpa [qRR,X7] using h⟩))
theorem qWN {x y:List KI} {a b:Addr} {P:Fin->Shared->Prop} (hx:IsNK s.heap x a) (hy:IsNK s.heap y b) (h:P (.done (.ret (.bool (decide (x=y))))) s) :
  wpAny (model prog w) A (Builtin.«tuple.__eq__» ⟨[.ref a,.ref b],[]⟩) P E s:=by
 have hTb:=hy.typeIs;obtain ⟨oa,xs,na,hoa,_,hda,hia⟩:=hx;obtain ⟨ob,ys,nb,hob,_,hdb,hib⟩:=hy;show wpAny _ _ (isInstance (.ref b) (.type "tuple") >>= _) _ _ s;refine wpAny_bind (wpAny_isInstance hTb isSubtype_tuple_tuple ?_);simp only [V7,E1,if_false];refine wpAny_bind (wpAny_tupleItemsOf hoa hda ?_);refine wpAny_bind (wpAny_tupleItemsOf hob hdb ?_);refine wpAny_bind ?_;refine wpAny_forIn_list _
  (fun rest r s'=>r.1=none/\s'=s/\∃ x' y' xs' ys',rest=List.zip xs' ys'/\Paired (fun k v=>kiIs k v=true) x' xs'/\Paired (fun k v=>kiIs k v=true) y' ys'/\decide (x'=y')=decide (x=y)/\(xs'.length == ys'.length)=(xs.size == ys.size))
  _ ?_ ?_ _ _ ⟨rfl,rfl,x,y,xs.toList,ys.toList,rfl,hia,hib,rfl,by simp⟩
 ·rintro ⟨u,v⟩ rest r s' ⟨hr,rfl,x',y',xs',ys',hz,hx',hy',hdec,hlen⟩;cases hx' with
  | nil=>simp at hz
  | @cons k1 u' x'' xs'' h1 hx''=>
   cases hy' with
   | nil=>simp at hz
   | @cons k2 v' y'' ys'' h2 hy''=>
    simp only [F7,List.cons.injEq,Prod.mk.injEq] at hz;obtain ⟨⟨rfl,rfl⟩,rfl⟩:=hz;refine wpAny_bind (qa1 (a:=k1) (b:=k2) h1 h2 ?_);by_cases hk:k1=k2
    ·subst hk;rw [decide_eq_true rfl];simp only [V7,E1,if_false];refine wpAny_pure ⟨rfl,rfl,x'',y'',xs'',ys'',rfl,hx'',hy'',?_,by simpa using hlen⟩
     rw [<- hdec];by_cases hxy:x''=y''
     ·simp [hxy]
     ·simp [hxy]
    ·rw [decide_eq_false hk];simp only [A80,if_true];have hf:decide (x=y)=false:=by rw [<- hdec];simp [hk]
     rw [hf] at h;exact wpAny_bind (wpAny_pure (wpAny_pure (wpAny_pure h)))
 ·rintro ⟨r1,r2⟩ s' ⟨hr,rfl,x',y',xs',ys',hz,hx',hy',hdec,hlen⟩;simp only at hr;subst hr;refine wpAny_pure ?_;have hfin:(xs.size == ys.size)=decide (x=y):=by
   rw [<- hdec,<- hlen];cases hx' with
   | nil=>
    cases hy' with
    | nil=>simp
    | cons _ _=>simp
   | cons _ _=>
    cases hy' with
    | nil=>simp
    | cons _ _=>simp at hz
  show P (.done (.ret (.bool (xs.size == ys.size)))) s';rw [hfin];exact h
theorem qZV {x y:List KI} {a b:Addr} {Q:Bool->Shared->Prop} (hu:A.units<cLine) (hx:IsNK s.heap x a) (hy:IsNK s.heap y b) (h:Q (decide (x=y)) s):wpAny (model prog w) A (eqBool (.ref a) (.ref b)) Q E s:=by
 unfold eqBool
 try with_reducible refine wpAny_holding ?_
 show wpAny _ _ (if (C6 a == C6 b)=true then _ else _) Q E s
 by_cases hab:(C6 a == C6 b)=true
 ·rw [if_pos hab];have e:a=b:=by have:=eq_of_beq hab;injection this
  subst e;obtain rfl:=hx.inj hy;exact wpAny_bind (wpAny_rule (wpAny_pure (by simpa using h)))
 ·rw [if_neg hab];exact wpAny_bind (wpAny_richCompare_same_room (op:=.Eq) hx.typeIs hy.typeIs z8
   (wpAny_call_entry z8 hx.typeIs F.entry_tuple_eq (qWN hx hy ⟨_,rfl,(fun e=>nomatch e),wpAny_truthy_bool h⟩) (F.args_tuple_eq_2 _ _)) hu)
theorem qU6 {ks:List KI} {a:Addr} {Q:Bool->Shared->Prop} (hk:IsNK s.heap ks a) (h:Q true s):wpAny (model prog w) A (eqIsQuiet 8 (.ref a)) Q E s:=by
 have hT:=hk.typeIs;obtain ⟨o,Ae,n,ho,_,hd,hi⟩:=hk;unfold eqIsQuiet;refine wpAny_bind (wpAny_specialOf hT z8.lookup ?_);show wpAny _ _ (isInstance (.ref a) (.type "tuple") >>= _) _ _ s;refine wpAny_bind (wpAny_isInstance hT isSubtype_tuple_tuple ?_);simp only [V7,E1,if_false];refine wpAny_bind (wpAny_seqItems ho hd ?_);refine wpAny_bind ?_;show wpAny _ _ (forIn Ae _ _) _ _ s;rw [<- X6];refine wpAny_forIn_list _ (fun rest r s'=>r.1=none/\s'=s/\∀ v ∈ rest,carriedByValue v=true) _ ?_ ?_ _ _ ⟨rfl,rfl,qS5 hi⟩
 ·rintro v rest r s' ⟨hr,rfl,hall⟩;rw [eqIsQuiet_byValue _ (hall v G7)];refine wpAny_bind (wpAny_pure ?_);simp only [V7,E1,if_false];exact wpAny_pure ⟨rfl,rfl,fun u hu'=>hall u (A9 _ hu')⟩
 ·rintro ⟨r1,r2⟩ s' ⟨hr,rfl,_⟩;simp only at hr;subst hr;exact wpAny_pure h
end
def qM0 (prog:Program) (w:World):HeapKind prog w (List KI) where
 is:=IsNK
 hash:=qRR w
 draws:=fun ks=>ks.length+1
 room:=fun A=>A.units+1<cLine
 inj:=fun hx hy=>hx.inj hy
 keeps:=fun x ho hd hs=>by
  obtain ⟨o',Ae,n,ho',hc,hd',hi⟩:=x;refine ⟨o',Ae,n,(hs.2 _ ?_).trans ho',hc,hd',hi⟩;rintro rfl;obtain rfl:=D3 (ho'.symm.trans ho);rw [hd] at hd';exact nomatch hd'
 pyHash:=fun hu hk h=>qWO hu hk h
 eqBool:=fun hu hx hy h=>qZV (n8 hu) hx hy h
 quiet:=fun hk h=>qU6 hk h
end L2
namespace L2
open PySem PySem.Spec PyProof.Rows
inductive V where
 | non | bl (b:Bool) | int (i:Int) | str (x:Str) | byt (b:Array UInt8) | flt (b:UInt64) | ref (a:Addr) | ty (n:String)
 deriving DecidableEq
def RelV:V->Value->Prop
 | .non,u=>u=Q7
 | .bl b,u=>u=A40 b
 | .int i,u=>∃ t,u=O0 i t
 | .str x,u=>∃ t,u=A69 x t
 | .byt b,u=>∃ t,u=Value.bytes b t
 | .flt b,u=>∃ t,u=Value.float b t
 | .ref a,u=>u=C6 a
 | .ty n,u=>u=Z0 n
abbrev Vals:List V->List Value->Prop:=Paired RelV
theorem Vals.length {xs:List V} {us:List Value} (r:Vals xs us):xs.length=us.length:=B9 r
theorem Vals.get:∀ {xs:List V} {us:List Value} {i:Nat} {x:V},Vals xs us->xs[i]?=some x->∃ u,us[i]?=some u/\RelV x u
 | _,_,_,_,.nil,e=>by simp at e
 | _,_,0,_,.cons r _,e=>by simp at e;subst e;exact ⟨_,rfl,r⟩
 | _,_,i+1,x,.cons _ t,e=>by
  obtain ⟨u,h1,h2⟩:=Vals.get (i:=i) (x:=x) t (by simpa using e)
  exact ⟨u,by simpa using h1,h2⟩
theorem Vals.set {x:V} {u:Value} (r:RelV x u):∀ {xs:List V} {us:List Value} (i:Nat),Vals xs us->Vals (xs.set i x) (us.set i u)
 | _,_,_,.nil=>.nil
 | _,_,0,.cons _ t=>.cons r t
 | _,_,i+1,.cons q t=>.cons q (Vals.set r i t)
theorem Vals.append:∀ {xs ys:List V} {us ws:List Value},Vals xs us->Vals ys ws->Vals (xs++ys) (us++ws)
 | _,_,_,_,.nil,s=>s
 | _,_,_,_,.cons r t,s=>.cons r (Vals.append t s)
theorem Vals.take:∀ {xs:List V} {us:List Value} (n:Nat),Vals xs us->Vals (xs.take n) (us.take n)
 | _,_,0,_=>.nil
 | _,_,_+1,.nil=>.nil
 | _,_,n+1,.cons r t=>.cons r (Vals.take n t)
theorem Vals.drop:∀ {xs:List V} {us:List Value} (n:Nat),Vals xs us->Vals (xs.drop n) (us.drop n)
 | _,_,0,r=>r
 | _,_,_+1,.nil=>.nil
 | _,_,n+1,.cons _ t=>Vals.drop n t
def RelO:Option V->Option Value->Prop
 | some v,some u=>RelV v u
 | none,none=>True
 | _,_=>False
def KV {κ:Type}:List (κ × V)->List (κ × Value)->Prop:=Paired fun (p:κ × V) (q:κ × Value)=>p.1=q.1/\RelV p.2 q.2
inductive CTb where
 | tab (q:Str)
 | cod (q:Str)
noncomputable def kV:Key->V
 | .inl i=>.int i
 | .inr x=>.str x
def kI:KI->V
 | some k=>kV k
 | none=>.non
theorem qKK {prog:Program} {w:World} {A:Around} (hu:A.units+2<cLine):(qM0 prog w).room A.in1:=by
 show A.in1.units+1<cLine;rw [Around.in1_units];exact hu
inductive HO where
 | lst (xs:List V)
 | tup (xs:List V)
 | dK (Ag:List (Key × V)) | dT (Ag:List (List KI × V))
 | set (S:Int->Bool) (n:Nat)
 | ins (C dx:Addr) (fs:List (Str × V))
 | own (x:Addr)
 | xd (fs:List (Str × V))
 | met (f x:Addr)
 | rng (lo hi:Int)
 | frz (o:Obj) (u:HO)
 | tbl (t:CTb)
 | ext (φ:Heap->Prop)
abbrev Hp:=Addr->Option HO
noncomputable def Ah (H:Hp) (a:Addr) (o:HO):Hp:=fun b=>if b=a then some o else H b
theorem qA1 {H:Hp} {a:Addr} {o:HO}:Ah H a o a=some o:=by unfold Ah;rw [if_pos rfl]
theorem qA7 {H:Hp} {a b:Addr} {o:HO} (h:b ≠ a):Ah H a o b=H b:=by unfold Ah;rw [if_neg h]
theorem qK8 {H:Hp} {a:Addr} {o u:HO}:Ah (Ah H a o) a u=Ah H a u:=by
 funext b;unfold Ah;split <;> rfl
theorem qCD {H:Hp} {a b:Addr} {o u:HO} (h:H a=some o) (h':H b=some u) (d:o ≠ u):a ≠ b:=by
 intro e;subst e;rw [h] at h';exact d (D3 h')
theorem qA5 {H:Hp} {a b:Addr} {o:HO} (h:H a=some o) (h':H b=none):a ≠ b:=by
 intro e;subst e;rw [h] at h';cases h'
section
variable (P:Program) (w:World)
def ObjOk (H:Hp) (h:Heap) (a:Addr):HO->Prop
 | .lst xs=>xs.length<=sizeLine/\∃ (its:List Value) (n:Nat),Vals xs its/\h.get? a=some { cls:=.type "list",data:=.seq its.toArray n }
 | .tup xs=>xs.length<=sizeLine/\∃ its:List Value,Vals xs its/\IsTup h a its.toArray
 | .dK Ag=>Ag.length<=sizeLine/\(a == sysModules)=false/\∃ vs,KV Ag vs/\h.DictOf (qCG P w) a vs
 | .dT Ag=>Ag.length<=sizeLine/\(a == sysModules)=false/\∃ xs:List (List KI × Addr × Value),
   Paired (fun (p:List KI × V) (q:List KI × Addr × Value)=>p.1=q.1/\H q.2.1=some (.tup (p.1.map kI))/\RelV p.2 q.2.2) Ag xs/\
   ∃ o es ep,h.get? a=some o/\o.ExactDict/\o.data=.dict es ep/\es.toList=xs.map (entryOfKey (qM0 P w))/\(xs.map (·.1)).Nodup
 | .set S n=>h.SetOf (intKind P w) a S n
 | .ins C dx fs=>H dx=some (.own a)/\fs.length<=1000/\dx ≠ a/\h.get? a=some (A71 C dx)/\
   ∃ mA,h.Ns1 dx mA/\(∀ f,RelO (fs.lookup f) (mA f))/\PySem.Within mA (fs.map (·.1))
 | .own _=>∃ o,h.get? a=some o
 | .xd fs=>∃ mA,h.Ns1 a mA/\∀ f,RelO (fs.lookup f) (mA f)
 | .rng lo hi=>∃ t u v,h.get? a=some { cls:=.type "range",data:=.fields #[.int lo t,.int hi u,.int 1 v] }
 | .frz o u=>h.get? a=some o/\ObjOk H h a u
 | .tbl (.tab q)=>∃ more:Array Value,h.get? a=some { cls:=.none,data:=.fields more }/\TriplesOk more.toList/\∀ pos cv,codeAmong pos more.toList=some cv->∃ c,cv=.ref c/\H c=some (.tbl (.cod q))
 | .tbl (.cod q)=>h.CodeRec (.ref a) q
 | .met f x=>h.get? a=some (n9 (.ref f) (.ref x))
 | .ext φ=>φ h/\(∃ o,h.get? a=some o)/\∀ h1 h2:Heap,φ h1->(∀ o,h1.get? a=some o->h2.get? a=some o)->φ h2
def HOk (H:Hp) (h:Heap):Prop:=∀ a o,H a=some o->ObjOk P w H h a o
end
section
variable {P:Program} {w:World} {H H':Hp} {h h':Heap} {a:Addr} {o:HO}
theorem ObjOk.lt (x:ObjOk P w H h a o):a<h.objs.size:=by
 cases o with
 | lst xs=>obtain ⟨_,_,_,_,e⟩:=x;exact C0 e
 | tup xs=>obtain ⟨_,_,_,p⟩:=x;exact p.lt
 | dK Ag=>obtain ⟨_,_,_,_,o,_,_,e,_⟩:=x;exact C0 e
 | dT Ag=>obtain ⟨_,_,_,_,o,_,_,e,_⟩:=x;exact C0 e
 | set S n=>obtain ⟨o,_,_,_,e,_⟩:=x;exact C0 e
 | ins C dx fs=>obtain ⟨_,_,_,e,_⟩:=x;exact C0 e
 | own y=>obtain ⟨_,e⟩:=x;exact C0 e
 | xd fs=>obtain ⟨_,⟨_,_,_,e,_⟩,_⟩:=x;exact C0 e
 | rng lo hi=>obtain ⟨_,_,_,e⟩:=x;exact C0 e
 | frz ob u=>obtain ⟨e,_⟩:=x;exact C0 e
 | tbl t=>
  cases t with
  | tab q=>obtain ⟨_,e,_⟩:=x;exact C0 e
  | cod q=>obtain ⟨c,o,_,_,e,g,_⟩:=x;cases e;exact C0 g
 | met f y=>exact C0 (show h.get? a=some _ from x)
 | ext φ=>obtain ⟨_,⟨_,e⟩,_⟩:=x;exact C0 e
theorem Paired.mapP {α β:Type} {F G:α->β->Prop}:∀ {l₁:List α} {l₂:List β},Paired F l₁ l₂->(∀ a b,F a b->G a b)->Paired G l₁ l₂
 | _,_,.nil,_=>.nil
 | _,_,.cons r t,f=>.cons (f _ _ r) (Paired.mapP t f)
theorem ObjOk.stay (x:ObjOk P w H h a o) (k:∀ b u,(b=a\/H b=some (.own a))->h.get? b=some u->h'.get? b=some u)
  (ho:∀ b,H b=some (.own a)->H' b=some (.own a)) (ht:∀ b xs,H b=some (.tup xs)->H' b=some (.tup xs)) (hb:∀ b t,H b=some (.tbl t)->H' b=some (.tbl t):=by exact fun _ _ q=>q):ObjOk P w H' h' a o:=by
 induction o with
 | lst xs=>obtain ⟨z,its,n,r,e⟩:=x;exact ⟨z,its,n,r,k _ _ (.inl rfl) e⟩
 | tup xs=>obtain ⟨z,its,r,ob,e,c⟩:=x;exact ⟨z,its,r,ob,k _ _ (.inl rfl) e,c⟩
 | dK Ag=>obtain ⟨z,y,vs,r,ob,es,ep,e,c⟩:=x;exact ⟨z,y,vs,r,ob,es,ep,k _ _ (.inl rfl) e,c⟩
 | dT Ag=>
  obtain ⟨z,y,xs,r,ob,es,ep,e,c⟩:=x;exact ⟨z,y,xs,Paired.mapP r fun p q z=>⟨z.1,ht _ _ z.2.1,z.2.2⟩,ob,es,ep,k _ _ (.inl rfl) e,c⟩
 | set S n=>obtain ⟨ob,es,ep,t,e,c⟩:=x;exact ⟨ob,es,ep,t,k _ _ (.inl rfl) e,c⟩
 | ins C dx fs=>
  obtain ⟨d,z,ne,e,mA,⟨od,es,ep,e2,c⟩,r⟩:=x;exact ⟨ho _ d,z,ne,k _ _ (.inl rfl) e,mA,⟨od,es,ep,k _ _ (.inr d) e2,c⟩,r⟩
 | own y=>obtain ⟨ob,e⟩:=x;exact ⟨ob,k _ _ (.inl rfl) e⟩
 | xd fs=>obtain ⟨mA,⟨od,es,ep,e,c⟩,r⟩:=x;exact ⟨mA,⟨od,es,ep,k _ _ (.inl rfl) e,c⟩,r⟩
 | rng lo hi=>obtain ⟨t,u,v,e⟩:=x;exact ⟨t,u,v,k _ _ (.inl rfl) e⟩
 | frz ob u ih=>obtain ⟨e,q⟩:=x;exact ⟨k _ _ (.inl rfl) e,ih q⟩
 | tbl t=>
  cases t with
  | tab q=>obtain ⟨m,e,tr,c⟩:=x;exact ⟨m,k a _ (.inl rfl) e,tr,fun pos cv z=>let ⟨c',e1,e2⟩:=c pos cv z;⟨c',e1,hb _ _ e2⟩⟩
  | cod q=>obtain ⟨c,o,vs,t,e,g,r⟩:=x;cases e;exact ⟨a,o,vs,t,rfl,k a _ (.inl rfl) g,r⟩
 | met f y=>
  have e:h.get? a=some (n9 (.ref f) (.ref y)):=x;show h'.get? a=some (n9 (.ref f) (.ref y));exact k a _ (.inl rfl) e
 | ext φ=>obtain ⟨p,⟨o,e⟩,st⟩:=x;exact ⟨st _ _ p fun o q=>k _ _ (.inl rfl) q,⟨o,k _ _ (.inl rfl) e⟩,st⟩
theorem HOk.lt (x:HOk P w H h) (e:H a=some o):a<h.objs.size:=(x a o e).lt
theorem HOk.fresh (x:HOk P w H h) (e:h.objs.size<=a):H a=none:=by
 cases q:H a with
 | none=>rfl
 | some u=>exact absurd (D4 (x.lt q) e) (R0 _)
theorem HOk.kept (x:HOk P w H h) (k:∀ b u,h.get? b=some u->h'.get? b=some u):HOk P w H h':=fun a o e=>
 (x a o e).stay (fun b u _ q=>k b u q) (fun _ q=>q) fun _ _ q=>q
theorem HOk.laid (x:HOk P w H h) (k:∀ b u,h.get? b=some u->h'.get? b=some u) (hp:h.objs.size<=a) (new:ObjOk P w (Ah H a o) h' a o):HOk P w (Ah H a o) h':=fun b u e=>by
 have hn:=x.fresh hp;by_cases hb:b=a
 ·subst hb;rw [qA1] at e;cases e;exact new
 ·rw [qA7 hb] at e;exact (x b u e).stay (fun c v _ q=>k c v q) (fun c q=>by rw [qA7 (qA5 q hn)];exact q) (fun c xs q=>by rw [qA7 (qA5 q hn)];exact q) fun c t q=>by rw [qA7 (qA5 q hn)];exact q
end
def Rd (H:Hp) (a:Addr) (u:HO):Prop:=H a=some u\/∃ o,H a=some (.frz o u)
theorem Rd.ok {P:Program} {w:World} {H:Hp} {h:Heap} {a:Addr} {u:HO} (r:Rd H a u) (x:HOk P w H h):ObjOk P w H h a u:=by
 rcases r with r | ⟨o,r⟩
 ·exact x a u r
 ·obtain ⟨_,q⟩:=x a _ r;exact q
def Mut:Option HO->Prop
 | some (.lst _)=>True
 | some (.dK _)=>True
 | some (.dT _)=>True
 | some (.set _ _)=>True
 | some (.ins _ _ _)=>True
 | some (.ext _)=>True
 | _=>False
section
variable {P:Program} {w:World} {H:Hp} {h h':Heap} {x e:Addr} {o':HO}
theorem HOk.write (ok:HOk P w H h) (mu:Mut (H x)) (he:e=x\/H e=some (.own x)) (k:∀ b u,b ≠ e->h.get? b=some u->h'.get? b=some u) (heo:∃ u,h'.get? e=some u)
  (new:ObjOk P w (Ah H x o') h' x o'):HOk P w (Ah H x o') h':=fun b u q=>by
 have nown:∀ c y,H c=some (.own y)->c ≠ x:=fun c y r z=>by subst z;rw [r] at mu;exact mu
 have ntup:∀ c xs,H c=some (.tup xs)->c ≠ x:=fun c xs r z=>by subst z;rw [r] at mu;exact mu
 by_cases hb:b=x
 ·subst hb;rw [qA1] at q;cases q;exact new
 ·rw [qA7 hb] at q;by_cases hbe:b=e
  ·have q':H b=some (.own x):=by
    rcases he with z | z
    ·exact absurd (hbe.trans z) hb
    ·rw [hbe];exact z
   rw [q] at q';cases q';obtain ⟨v,hv⟩:=heo;exact ⟨v,by rw [hbe];exact hv⟩
  ·refine (ok b u q).stay (fun c v hc r=>k c v ?_ r) (fun c r=>by rw [qA7 (nown c b r)];exact r) (fun c xs r=>by rw [qA7 (ntup c xs r)];exact r) fun c t r=>by rw [qA7 (fun z=>by subst z;rw [r] at mu;exact mu)];exact r
   rcases hc with rfl | hc
   ·exact hbe
   ·rintro rfl;rcases he with z | z
    ·exact nown c b hc z
    ·rw [hc] at z;cases z;exact hb rfl
end
structure Un (fs ex:List Addr) (H H':Hp) (h h':Heap):Prop where
 keep:∀ b o,h.get? b=some o->H b=none->b ∉ fs->b ∉ ex->h'.get? b=some o
 slot:∀ b o,h.get? b=some o->H b=none->b ∈ fs->b ∉ ex->∃ sl,h'.get? b=some { o with slots:=sl }
 free:∀ b o,h.get? b=some o->H b=none->b ∉ ex->H' b=none
 there:∀ b o,h.get? b=some o->b ∉ ex->∃ o',h'.get? b=some o'
 tups:∀ b xs,H b=some (.tup xs)->H' b=some (.tup xs)
 frzs:∀ b o u,H b=some (.frz o u)->H' b=some (.frz o u)
 tbls:∀ b ps,H b=some (.tbl ps)->H' b=some (.tbl ps)
section
variable {fs fs' ex ex':List Addr} {H H1 H2:Hp} {h h1 h2 h':Heap} {a x e:Addr} {o:HO}
theorem Un.any (u:Un fs ex H H1 h h1) {b:Addr} {ob:Obj} (q:h.get? b=some ob) (n:H b=none) (hx:b ∉ ex):∃ sl,h1.get? b=some { ob with slots:=sl }:=by
 by_cases hb:b ∈ fs
 ·exact u.slot b ob q n hb hx
 ·exact ⟨ob.slots,u.keep b ob q n hb hx⟩
theorem Un.kept (k:∀ b u,h.get? b=some u->h'.get? b=some u):Un fs ex H H h h':=
 ⟨fun b ob q _ _ _=>k b ob q,fun b ob q _ _ _=>⟨ob.slots,k b ob q⟩,fun _ _ _ n _=>n,fun b ob q _=>⟨ob,k b ob q⟩,fun _ _ q=>q,fun _ _ _ q=>q,fun _ _ q=>q⟩
theorem Un.refl:Un fs ex H H h h:=Un.kept fun _ _ q=>q
theorem Un.laid (k:∀ b u,h.get? b=some u->h'.get? b=some u) (hp:h.objs.size<=a) (hn:H a=none):Un fs ex H (Ah H a o) h h' where
 keep:=fun b u q _ _ _=>k b u q
 slot:=fun b u q _ _ _=>⟨u.slots,k b u q⟩
 free:=fun b u q n _=>by rw [qA7 (D6 (D4 (C0 q) hp))];exact n
 there:=fun b u q _=>⟨u,k b u q⟩
 tups:=fun b xs q=>by rw [qA7 (qA5 q hn)];exact q
 frzs:=fun b u xs q=>by rw [qA7 (qA5 q hn)];exact q
 tbls:=fun b ps q=>by rw [qA7 (qA5 q hn)];exact q
theorem Un.write (mu:Mut (H x)) (he:e=x\/H e=some (.own x)) (k:∀ b u,b ≠ e->h.get? b=some u->h'.get? b=some u) (heo:∃ u,h'.get? e=some u):Un fs ex H (Ah H x o) h h':=by
 have hx:∀ b,H b=none->b ≠ x:=fun b n z=>by subst z;rw [n] at mu;exact mu
 have hb:∀ b,H b=none->b ≠ e:=fun b n z=>by
  subst z;rcases he with r | r
  ·exact hx b n r
  ·rw [n] at r;cases r
 have hm:∀ b u,H b=some u->¬ Mut (some u)->b ≠ x:=fun b u q nm z=>by subst z;rw [q] at mu;exact nm mu
 refine ⟨fun b u q n _ _=>k b u (hb b n) q,fun b u q n _ _=>⟨u.slots,k b u (hb b n) q⟩,fun b u q n _=>by rw [qA7 (hx b n)];exact n,fun b u q _=>?_,
  fun b xs q=>by rw [qA7 (hm b _ q fun z=>z)];exact q,fun b u xs q=>by rw [qA7 (hm b _ q fun z=>z)];exact q,fun b ps q=>by rw [qA7 (hm b _ q fun z=>z)];exact q⟩
 by_cases hbe:b=e
 ·subst hbe;exact heo
 ·exact ⟨u,k b u hbe q⟩
end
noncomputable def trk (h:Heap) (H:Hp):List Addr:=(O7 h.objs.size).filter fun a=>(H a).isSome
noncomputable def hidT (h:Heap) (H:Hp):Heap:=PySem.W.hideAll h (trk h H)
theorem qSE (h:Heap) (H:Hp):(hidT h H).objs.size=h.objs.size:=PySem.W.hideAll_size _ _
theorem qUG {h:Heap} {H:Hp} {b:Addr} {o:Obj} (e:h.get? b=some o) (n:H b=none):(hidT h H).get? b=some o:=
 PySem.W.hideAll_get _ e fun hm=>by
  have q:(H b).isSome=true:=(E6.mp hm).2;rw [n] at q;simp at q
theorem qWM {h:Heap} {H:Hp} {b:Addr} {o:Obj} (e:(hidT h H).get? b=some o):h.get? b=some o/\H b=none:=by
 have e':h.get? b=some o:=PySem.W.of_hideAll (trk h H) e;refine ⟨e',?_⟩;cases q:H b with
 | none=>rfl
 | some x=>
  have hm:b ∈ trk h H:=E6.mpr ⟨L0.mpr (C0 e'),by simp [q]⟩
  have z:(hidT h H).get? b=none:=PySem.W.hideAll_none (trk h H) hm;rw [z] at e;cases e
noncomputable def qXF (g h:Heap) (L:Addr):List (Addr × Obj):=(O7 h.objs.size).filterMap fun a=>if a=L\/(g.get? a).isSome=true then none else (h.get? a).map fun o=>(a,o)
noncomputable def rest (g h:Heap) (L d:Addr):List (Addr × Obj):=(qXF g h L).filter fun p=>decide (p.1 ≠ d)
end L2
namespace L2
open PySem PySem.Spec PyProof.Rows
structure Mod (K:PySem.W.Frag) (mg:Str->Option Value) (base:Heap):Prop where
 kin:K.In base
 glob:base.Ns mainGlobals mg
 blt:∃ mb,base.Ns builtinsNs mb/\∀ x:Str,x ≠ "__name__"->mb x=bootBuiltins x
 nolimit:base.NoLimit
structure Cx where
 prog:Program
 w:World
 K:PySem.W.Frag
 mg:Str->Option Value
 base:Heap
 A:Around
 N:List Str
 s₀:Shared
 H₀:Hp
 env:Env
 outer:List Env
 stack:List Env
 ex:List Addr
 fn:Str->Bool
 calm:Bool
 pn:List (Addr × Obj)
 xe:Value->Shared->Prop
noncomputable def frs (l:List Env):List Addr:=l.filterMap (·.frame)
noncomputable abbrev Cx.fs (X:Cx):List Addr:=frs X.outer
def Vis (sc:Scope) (x:Str):Prop:=sc.names.lookup x=some .local\/sc.names.lookup x=some .cell\/sc.names.lookup x=some .free
def Loc (sc:Scope) (x:Str):Prop:=sc.names.lookup x=some .local\/sc.names.lookup x=some .cell
def Look (env:Env) (h:Heap) (m:Str->Option Value) (x:Str) (u:Value):Prop:=
 (env.kindOf x=some .local/\m x=some u)\/((env.kindOf x=some .cell\/env.kindOf x=some .free)/\∃ c,env.cells.lookup x=some c/\h.IsCell c (some u))
structure Cx.Ok (X:Cx):Prop where
 mod:Mod X.K X.mg X.base
 kind:X.env.scope.kind=.function
 glob:X.env.globals=mainGlobals
 blt:X.env.builtins=builtinsNs
 above:X.s₀.heap.objs.size<=X.env.locals
 inj:∀ x y c,X.env.cells.lookup x=some c->X.env.cells.lookup y=some c->x=y
 has:∀ x,(X.env.kindOf x=some .cell\/X.env.kindOf x=some .free)->∃ c,X.env.cells.lookup x=some c
 cab:∀ x c,X.fn x=true->X.env.cells.lookup x=some c->X.s₀.heap.objs.size<=c
 hd:X.calm=true->X.A.handled=none
 frames:X.A.frames=some X.stack
 stk:X.stack=X.outer\/(X.stack=X.env::X.outer/\X.env.frame=some X.env.locals)
 exf:∀ b ∈ X.ex,b ≠ X.env.locals/\∀ x c,X.env.cells.lookup x=some c->c ≠ b
 bs:∀ b o,X.base.get? b=some o->X.s₀.heap.get? b=some o/\X.H₀ b=none
 bsz:X.base.objs.size<=X.s₀.heap.objs.size
 noex:∀ b o,X.base.get? b=some o->b ∉ X.ex
 exfs:∀ b ∈ X.ex,b ∉ X.fs
 funs:X.s₀.heap.FunFrames X.base X.outer
 frf:∀ b ∈ X.fs,X.H₀ b=none
structure Inv (X:Cx) (Ab:List (Addr × Obj)) (σ:List (Option V)) (H:Hp) (s:Shared):Prop where
 ok:X.Ok
 os:s.os=X.s₀.os
 bare:AllBare s.gens
 base:Un X.fs X.ex X.H₀ H X.s₀.heap s.heap
 loc:∃ m,s.heap.Ns X.env.locals m/\∀ (i:Nat) (x:Str) (v:V),X.N[i]?=some x->σ[i]?=some (some v)->Vis X.env.scope x->∃ u,RelV v u/\Look X.env s.heap m x u
 cell:∀ x c,X.env.cells.lookup x=some c->∃ v,s.heap.IsCell c v
 free:H X.env.locals=none
 freeC:∀ x c,X.env.cells.lookup x=some c->H c=none
 pin:∀ p ∈ X.pn++Ab,s.heap.get? p.1=some p.2/\H p.1=none/\p.1 ≠ X.env.locals/\p.1 ∉ X.fs/\∀ v,p.2.data ≠ .cell v
 hok:HOk X.prog X.w H s.heap
 len:σ.length=X.N.length
section
variable {X:Cx} {Ab:List (Addr × Obj)} {σ:List (Option V)} {H H':Hp} {s:Shared} {h':Heap}
theorem Cx.Ok.nofr (ok:X.Ok) {b:Addr} {o:Obj} (e:X.base.get? b=some o):b ∉ X.fs:=fun hb=>by
 have:=(ok.funs.mem hb).1;rw [e] at this;cases this
theorem Inv.bs (I:Inv X Ab σ H s):∀ b o,X.base.get? b=some o->s.heap.get? b=some o/\H b=none:=fun b o e=>
 ⟨I.base.keep b o (I.ok.bs b o e).1 (I.ok.bs b o e).2 (I.ok.nofr e) (I.ok.noex b o e),I.base.free b o (I.ok.bs b o e).1 (I.ok.bs b o e).2 (I.ok.noex b o e)⟩
theorem Inv.bk (I:Inv X Ab σ H s):∀ b o,X.base.get? b=some o->s.heap.get? b=some o:=fun b o e=>(I.bs b o e).1
theorem Inv.mod (I:Inv X Ab σ H s):Mod X.K X.mg X.base:=I.ok.mod
theorem Inv.kIn (I:Inv X Ab σ H s):X.K.In s.heap:=I.ok.mod.kin.keeps I.bk
theorem Inv.nolimit (I:Inv X Ab σ H s):s.heap.NoLimit:=I.ok.mod.nolimit.keeps I.bk
theorem Inv.lt (I:Inv X Ab σ H s):X.env.locals<s.heap.objs.size:=let ⟨_,hn,_⟩:=I.loc;hn.lt
theorem Inv.sz (I:Inv X Ab σ H s):X.s₀.heap.objs.size<=s.heap.objs.size:=F3 I.ok.above (G0 I.lt)
theorem Inv.nofs (I:Inv X Ab σ H s) {a:Addr} (h:s.heap.objs.size<=a):a ∉ X.fs:=fun hb=>by
 obtain ⟨_,o,ho,_⟩:=I.ok.funs.mem hb;exact absurd (D4 (C0 ho) (F3 I.sz h)) (R0 _)
theorem Inv.cne (I:Inv X Ab σ H s):∀ x c,X.env.cells.lookup x=some c->c ≠ X.env.locals:=fun x c e z=>by
 obtain ⟨v,o,ho,hd⟩:=I.cell x c e;obtain ⟨m,⟨o',es,ep,ho',hd',_⟩,_⟩:=I.loc;rw [z,ho'] at ho;cases ho;rw [hd'] at hd;cases hd
theorem Inv.funs (I:Inv X Ab σ H s):s.heap.FunFrames X.base X.outer:=by
 have all:∀ (l:List Env),(∀ b ∈ frs l,b ∈ X.fs)->X.s₀.heap.FunFrames X.base l->s.heap.FunFrames X.base l:=by
  intro l
  induction l with
  | nil=>intro _ _;trivial
  | cons env r ih=>
   intro hs hl;obtain ⟨hk,⟨L,o,hf,hn,ho,hd⟩,hr⟩:=hl;have hL:L ∈ X.fs:=hs L (by unfold frs;rw [X1,hf];exact G7)
   obtain ⟨sl,e⟩:=I.base.slot L o ho (I.ok.frf L hL) hL fun z=>I.ok.exfs L z hL;exact ⟨hk,⟨L,_,hf,hn,e,hd⟩,ih (fun b hb=>hs b (by unfold frs;rw [X1,hf];exact A9 _ hb)) hr⟩
 exact all X.outer (fun _ hb=>hb) I.ok.funs
theorem Inv.stack (I:Inv X Ab σ H s):s.heap.FunFrames X.base X.stack:=by
 rcases I.ok.stk with e | ⟨e,hf⟩
 ·rw [e];exact I.funs
 ·rw [e];obtain ⟨m,hn,_⟩:=I.loc;refine .cons (by rw [I.ok.kind];decide) hf hn ?_ I.funs
  exact Heap.get?_none_of_le (F3 I.ok.bsz I.ok.above)
theorem Inv.stkSub (I:Inv X Ab σ H s):∀ b ∈ frs X.stack,b ∈ X.env.locals::X.fs:=fun b hb=>by
 rcases I.ok.stk with e | ⟨e,hf⟩
 ·rw [e] at hb;exact A9 _ hb
 ·rw [e] at hb;unfold frs at hb;rw [X1,hf] at hb;exact hb
theorem Inv.stkFree (I:Inv X Ab σ H s):∀ b ∈ frs X.stack,H b=none:=fun b hb=>by
 rcases B7.mp (I.stkSub b hb) with e | hb
 ·rw [e];exact I.free
 ·obtain ⟨_,o,ho,_⟩:=I.ok.funs.mem hb;exact I.base.free b o ho (I.ok.frf b hb) fun z=>I.ok.exfs b z hb
theorem Inv.step {g':Array GenState} {t':Nat} {d':Drawn} {ch:List Addr} (I:Inv X Ab σ H s)
  (hch:∀ b ∈ ch,(b ∈ X.ex\/X.s₀.heap.objs.size<=b)/\b ≠ X.env.locals/\(∀ x c,X.env.cells.lookup x=some c->c ≠ b)/\∀ p ∈ X.pn++Ab,p.1 ≠ b)
  (keep:∀ b o,b ≠ X.env.locals->b ∉ X.fs->b ∉ ch->s.heap.get? b=some o->H b=none->h'.get? b=some o)
  (slot:∀ b o,b ≠ X.env.locals->b ∈ X.fs->b ∉ ch->s.heap.get? b=some o->H b=none->∃ sl,h'.get? b=some { o with slots:=sl }) (free:∀ b o,b ∉ ch->s.heap.get? b=some o->H b=none->H' b=none)
  (there:∀ b o,b ∉ ch->s.heap.get? b=some o->∃ o',h'.get? b=some o')
  (tups:∀ b xs,H b=some (.tup xs)->H' b=some (.tup xs)) (frzs:∀ b o u,H b=some (.frz o u)->H' b=some (.frz o u)) (tbls:∀ b ps,H b=some (.tbl ps)->H' b=some (.tbl ps))
  (ns:∀ m,s.heap.Ns X.env.locals m->h'.Ns X.env.locals m) (hok:HOk X.prog X.w H' h') (hg:AllBare g') :
  Inv X Ab σ H' { s with heap:=h',gens:=g',drawn:=d',toks:=t' }:=by
 have neL:∀ b o,X.s₀.heap.get? b=some o->b ≠ X.env.locals:=fun b o e=>D6 (D4 (C0 e) I.ok.above);have neC:∀ b o,X.s₀.heap.get? b=some o->b ∉ X.ex->b ∉ ch:=fun b o e hx hb=>by
  rcases (hch b hb).1 with z | z
  ·exact hx z
  ·exact absurd (D4 (C0 e) z) (R0 _)
 have cellK:∀ x c,X.env.cells.lookup x=some c->∀ v,s.heap.IsCell c v->h'.IsCell c v:=fun x c e v ⟨o,ho,hd⟩=>by
  have nch:c ∉ ch:=fun z=>(hch c z).2.2.1 x c e rfl;by_cases hc:c ∈ X.fs
  ·obtain ⟨sl,q⟩:=slot c o (I.cne x c e) hc nch ho (I.freeC x c e);exact ⟨_,q,hd⟩
  ·exact ⟨o,keep c o (I.cne x c e) hc nch ho (I.freeC x c e),hd⟩
 refine ⟨I.ok,I.os,hg,⟨fun b o e n hb hx=>?_,fun b o e n hb hx=>?_,fun b o e n hx=>?_,fun b o e hx=>?_,fun b xs e=>tups b xs (I.base.tups b xs e),fun b o xs e=>frzs b o xs (I.base.frzs b o xs e),fun b ps e=>?_⟩,?_,fun x c e=>?_,?_,fun x c e=>?_,fun p hp=>?_,hok,I.len⟩
 ·exact keep b o (neL b o e) hb (neC b o e hx) (I.base.keep b o e n hb hx) (I.base.free b o e n hx)
 ·obtain ⟨sl,e1⟩:=I.base.slot b o e n hb hx;obtain ⟨sl',e2⟩:=slot b _ (neL b o e) hb (neC b o e hx) e1 (I.base.free b o e n hx);exact ⟨sl',e2⟩
 ·obtain ⟨o',e1⟩:=I.base.there b o e hx;exact free b o' (neC b o e hx) e1 (I.base.free b o e n hx)
 ·obtain ⟨o',e1⟩:=I.base.there b o e hx;exact there b o' (neC b o e hx) e1
 ·exact tbls b ps (I.base.tbls b ps e)
 ·obtain ⟨m,hn,hl⟩:=I.loc;refine ⟨m,ns m hn,fun i x v e1 e2 e3=>?_⟩;obtain ⟨u,r,l⟩:=hl i x v e1 e2 e3;refine ⟨u,r,?_⟩;rcases l with l | ⟨k,c,e,z⟩
  ·exact .inl l
  ·exact .inr ⟨k,c,e,cellK x c e _ z⟩
 ·obtain ⟨v,z⟩:=I.cell x c e;exact ⟨v,cellK x c e v z⟩
 ·obtain ⟨m,⟨o,_,_,ho,_⟩,_⟩:=I.loc;exact free _ o (fun z=>(hch _ z).2.1 rfl) ho I.free
 ·obtain ⟨v,o,ho,hd⟩:=I.cell x c e;exact free c o (fun z=>(hch c z).2.2.1 x c e rfl) ho (I.freeC x c e)
 ·obtain ⟨e,n,ne,nf,d⟩:=I.pin p hp;have nch:p.1 ∉ ch:=fun z=>(hch p.1 z).2.2.2 p hp rfl;exact ⟨keep p.1 p.2 ne nf nch e n,free p.1 p.2 nch e n,ne,nf,d⟩
theorem Inv.un {t':Nat} (I:Inv X Ab σ H s) (u:Un X.fs [] H H' s.heap h') (hok:HOk X.prog X.w H' h'):Inv X Ab σ H' { s with heap:=h',toks:=t' }:=by
 obtain ⟨m,⟨o,es,ep,ho,r⟩,_⟩:=id I.loc;obtain ⟨sl,hL⟩:=u.any ho I.free (by simp)
 exact I.step (g':=s.gens) (d':=s.drawn) (ch:=[]) (fun _ z=>nomatch z) (fun b o _ hb _ e n=>u.keep b o e n hb (by simp)) (fun b o _ hb _ e n=>u.slot b o e n hb (by simp)) (fun b o _ e n=>u.free b o e n (by simp)) (fun b o _ e=>u.there b o e (by simp)) u.tups u.frzs u.tbls (fun m' hm=>by
  obtain ⟨o',es',ep',ho',r'⟩:=hm;rw [ho] at ho';cases ho';exact ⟨_,es',ep',hL,r'⟩) hok I.bare
theorem Inv.call {g':Array GenState} {t':Nat} {d':Drawn} {ch:List Addr} (I:Inv X Ab σ H s) (u:Un (frs X.stack) ch H H' s.heap h') (hok:HOk X.prog X.w H' h') (hg:AllBare g')
  (hch:∀ b ∈ ch,(b ∈ X.ex\/X.s₀.heap.objs.size<=b)/\b ≠ X.env.locals/\(∀ x c,X.env.cells.lookup x=some c->c ≠ b)/\∀ p ∈ X.pn++Ab,p.1 ≠ b) :
  Inv X Ab σ H' { s with heap:=h',gens:=g',drawn:=d',toks:=t' }:=by
 obtain ⟨m,⟨o,es,ep,ho,r⟩,_⟩:=id I.loc;obtain ⟨sl,hL⟩:=u.any ho I.free fun z=>(hch _ z).2.1 rfl;exact I.step (ch:=ch) hch (fun b o hL hb hc e n=>u.keep b o e n (fun z=>(B7.mp (I.stkSub b z)).elim hL hb) hc) (fun b o _ _ hc e n=>u.any e n hc) (fun b o hc e n=>u.free b o e n hc) (fun b o hc e=>u.there b o e hc) u.tups u.frzs u.tbls (fun m' hm=>by
  obtain ⟨o',es',ep',ho',r'⟩:=hm;rw [ho] at ho';cases ho';exact ⟨_,es',ep',hL,r'⟩) hok hg
theorem Inv.turned {t':Nat} {it:Addr} (I:Inv X Ab σ H s) (k:∀ b o,b ≠ it->s.heap.get? b=some o->h'.get? b=some o) (hn:H it=none) (hL:it ≠ X.env.locals)
  (h1:it ∈ X.ex\/X.s₀.heap.objs.size<=it) (h2:∀ x c,X.env.cells.lookup x=some c->c ≠ it) (h3:∀ p ∈ X.pn++Ab,p.1 ≠ it):Inv X Ab σ H { s with heap:=h',toks:=t' }:=by
 have nit:∀ b u,H b=some u->b ≠ it:=fun b u e z=>by rw [z,hn] at e;cases e
 refine I.step (g':=s.gens) (d':=s.drawn) (ch:=[it]) (fun b hb=>?_) (fun b o _ _ hc e _=>k b o (fun z=>hc (by simp [z])) e) (fun b o _ _ hc e _=>⟨o.slots,k b o (fun z=>hc (by simp [z])) e⟩) (fun _ _ _ _ n=>n)
  (fun b o hc e=>⟨o,k b o (fun z=>hc (by simp [z])) e⟩) (fun _ _ e=>e) (fun _ _ _ e=>e) (fun _ _ e=>e) (fun m hm=>?_) (fun b u e=>?_) I.bare
 ·have e:b=it:=by simpa using hb
  subst e;exact ⟨h1,hL,h2,h3⟩
 ·obtain ⟨o,es,ep,ho,r⟩:=hm;exact ⟨o,es,ep,k _ o (G8 hL) ho,r⟩
 ·refine (I.hok b u e).stay (fun c v hc q=>k c v ?_ q) (fun _ q=>q) fun _ _ q=>q;rcases hc with z | z
  ·rw [z];exact nit b u e
  ·exact nit c _ z
theorem Inv.tok (I:Inv X Ab σ H s) (t:Nat):Inv X Ab σ H { s with toks:=t }:=I.un (h':=s.heap) (t':=t) Un.refl I.hok
theorem Inv.kept {t':Nat} (I:Inv X Ab σ H s) (k:∀ b u,s.heap.get? b=some u->h'.get? b=some u):Inv X Ab σ H { s with heap:=h',toks:=t' }:=I.un (Un.kept k) (I.hok.kept k)
theorem Inv.laid {a:Addr} {o:HO} {t':Nat} (I:Inv X Ab σ H s) (k:∀ b u,s.heap.get? b=some u->h'.get? b=some u) (hp:s.heap.objs.size<=a) (new:ObjOk X.prog X.w (Ah H a o) h' a o) :
  Inv X Ab σ (Ah H a o) { s with heap:=h',toks:=t' }:=I.un (Un.laid k hp (I.hok.fresh hp)) (I.hok.laid k hp new)
theorem Inv.write {x e:Addr} {o:HO} {t':Nat} (I:Inv X Ab σ H s) (mu:Mut (H x)) (he:e=x\/H e=some (.own x)) (k:∀ b u,b ≠ e->s.heap.get? b=some u->h'.get? b=some u) (heo:∃ u,h'.get? e=some u)
  (new:ObjOk X.prog X.w (Ah H x o) h' x o):Inv X Ab σ (Ah H x o) { s with heap:=h',toks:=t' }:=I.un (Un.write mu he k heo) (I.hok.write mu he k heo new)
theorem Inv.pins_of {pins':List (Addr × Obj)} (I:Inv X Ab σ H s) (h:∀ p ∈ pins',s.heap.get? p.1=some p.2/\H p.1=none/\p.1 ≠ X.env.locals/\p.1 ∉ X.fs/\∀ v,p.2.data ≠ .cell v):Inv X pins' σ H s:=
 ⟨I.ok,I.os,I.bare,I.base,I.loc,I.cell,I.free,I.freeC,fun p hp=>(A7.mp hp).elim (fun z=>I.pin p (A06 _ z)) (h p),I.hok,I.len⟩
theorem qOT {N:List Str} (hN:N.Nodup) {i j:Nat} {x:Str} (a:N[i]?=some x) (b:N[j]?=some x):i=j:=by
 obtain ⟨h1,e1⟩:=B5.mp a;obtain ⟨h2,e2⟩:=B5.mp b;exact (List.getElem_inj hN).mp (e1.trans e2.symm)
theorem qLI {M:Model} {A:Around} {E:Value->Shared->Prop} {i:Nat} {x:Str} {v:V} {u:Value} {Q:Unit->Shared->Prop} (I:Inv X Ab σ H s) (hN:X.N.Nodup) (hi:X.N[i]?=some x) (hx:Loc X.env.scope x) (r:RelV v u)
  (h:∀ s',Inv X Ab (σ.set i (some v)) H s'->(∃ a,Heap.SameBut a s.heap s'.heap/\(a=X.env.locals\/X.env.cells.lookup x=some a))->Q () s') (hf:X.fn x=true\/X.env.scope.names.lookup x=some .local:=by first | exact .inl rfl | exact .inr rfl | assumption):wpAny M A (storeName X.env x u) Q E s:=by
 obtain ⟨m,hn,hl⟩:=id I.loc;have hcls:(X.env.scope.kind == .class || (X.env.scope.kind == .module && X.env.locals != X.env.globals))=false:=by rw [I.ok.kind];rfl
 have hiσ:i<σ.length:=by rw [I.len];exact (B5.mp hi).1
 have cne:=I.cne;have tracked:∀ {a:Addr} {h':Heap},(∃ o,s.heap.get? a=some o/\H a=none)->Heap.SameBut a s.heap h'->HOk X.prog X.w H h':=fun {a h'} ha hs b ob e=>by
  obtain ⟨_,_,hfree⟩:=ha;refine (I.hok b ob e).stay (fun c w' hc q=>(hs.2 c ?_).trans q) (fun _ q=>q) fun _ _ q=>q;rintro rfl;rcases hc with rfl | hc
  ·rw [hfree] at e;cases e
  ·rw [hfree] at hc;cases hc
 rcases hx with hk | hk
 ·refine wpAny_storeName_local hk hn (fun h' hn' hs=>?_) hcls;obtain ⟨oL,_,_,hoL,_⟩:=id hn;refine h _ ⟨I.ok,I.os,I.bare,⟨fun b o e n hb hx=>?_,fun b o e n hb hx=>?_,I.base.free,fun b o e hx=>?_,I.base.tups,I.base.frzs,I.base.tbls⟩,⟨_,hn',fun j y v' e1 e2 e3=>?_⟩,fun y c e=>?_,I.free,I.freeC,fun p hp=>?_,tracked ⟨oL,hoL,I.free⟩ hs,by simpa using I.len⟩ ⟨_,hs,.inl rfl⟩
  ·exact (hs.2 b (D6 (D4 (C0 e) I.ok.above))).trans (I.base.keep b o e n hb hx)
  ·obtain ⟨sl,e1⟩:=I.base.slot b o e n hb hx;exact ⟨sl,(hs.2 b (D6 (D4 (C0 e) I.ok.above))).trans e1⟩
  ·obtain ⟨o',e1⟩:=I.base.there b o e hx;exact ⟨o',(hs.2 b (D6 (D4 (C0 e) I.ok.above))).trans e1⟩
  ·by_cases hj:j=i
   ·subst hj;rw [hi] at e1;cases e1;rw [Y5 hiσ] at e2;cases e2;exact ⟨u,r,.inl ⟨hk,by simp⟩⟩
   ·rw [A07 (G8 hj)] at e2;obtain ⟨u',r',q⟩:=hl j y v' e1 e2 e3;refine ⟨u',r',?_⟩;rcases q with ⟨k,e⟩ | ⟨k,c,e,z⟩
    ·refine .inl ⟨k,?_⟩;have:y ≠ x:=fun e=>hj (qOT hN e1 (e ▸ hi));simp [this,e]
    ·exact .inr ⟨k,c,e,z.sameBut hs (cne y c e)⟩
  ·obtain ⟨w',z⟩:=I.cell y c e;exact ⟨w',z.sameBut hs (cne y c e)⟩
  ·obtain ⟨e,n,ne,nf,d⟩:=I.pin p hp;exact ⟨(hs.2 p.1 ne).trans e,n,ne,nf,d⟩
 ·have hfn:X.fn x=true:=by
   rcases hf with z | z
   ·exact z
   ·rw [z] at hk;cases hk
  obtain ⟨c,hc⟩:=I.ok.has x (.inl hk);obtain ⟨w',z⟩:=I.cell x c hc;refine wpAny_storeName_cell I.ok.kind hk hc z (fun h' hc' hs=>?_);obtain ⟨oc,hoc,hocd⟩:=id z;refine h { s with heap:=h' } ⟨I.ok,I.os,I.bare,⟨fun b o e n hb hx=>?_,fun b o e n hb hx=>?_,I.base.free,fun b o e hx=>?_,I.base.tups,I.base.frzs,I.base.tbls⟩,⟨m,hn.sameBut hs (G8 (cne x c hc)),fun j y v' e1 e2 e3=>?_⟩,fun y c' e=>?_,I.free,I.freeC,fun p hp=>?_,tracked ⟨oc,hoc,I.freeC x c hc⟩ hs,by simpa using I.len⟩ ⟨c,hs,.inr hc⟩
  ·exact (hs.2 b (D6 (D4 (C0 e) (I.ok.cab x c hfn hc)))).trans (I.base.keep b o e n hb hx)
  ·obtain ⟨sl,e1⟩:=I.base.slot b o e n hb hx;exact ⟨sl,(hs.2 b (D6 (D4 (C0 e) (I.ok.cab x c hfn hc)))).trans e1⟩
  ·obtain ⟨o',e1⟩:=I.base.there b o e hx;exact ⟨o',(hs.2 b (D6 (D4 (C0 e) (I.ok.cab x c hfn hc)))).trans e1⟩
  ·by_cases hj:j=i
   ·subst hj;rw [hi] at e1;cases e1;rw [Y5 hiσ] at e2;cases e2;exact ⟨u,r,.inr ⟨.inl hk,c,hc,hc'⟩⟩
   ·rw [A07 (G8 hj)] at e2;obtain ⟨u',r',q⟩:=hl j y v' e1 e2 e3;refine ⟨u',r',?_⟩;rcases q with q | ⟨k,c',e,z'⟩
    ·exact .inl q
    ·refine .inr ⟨k,c',e,z'.sameBut hs ?_⟩;rintro rfl;exact hj (qOT hN e1 (I.ok.inj _ _ _ e hc ▸ hi))
  ·by_cases hcc:c'=c
   ·subst hcc;exact ⟨_,hc'⟩
   ·obtain ⟨w2,z2⟩:=I.cell y c' e;exact ⟨w2,z2.sameBut hs hcc⟩
  ·obtain ⟨e,n,ne,nf,d⟩:=I.pin p hp;refine ⟨(hs.2 p.1 ?_).trans e,n,ne,nf,d⟩;intro q;rw [q,hoc] at e;have q':oc=p.2:=D3 e;exact d w' (by rw [<- q'];exact hocd)
theorem qO7 {M:Model} {A:Around} {E:Value->Shared->Prop} {i:Nat} {x:Str} {v:V} {u:Value} {Q:Unit->Shared->Prop} (I:Inv X Ab σ H s) (hN:X.N.Nodup) (hi:X.N[i]?=some x) (hx:Loc X.env.scope x) (r:RelV v u)
  (h:∀ s',Inv X Ab (σ.set i (some v)) H s'->Q () s') (hf:X.fn x=true\/X.env.scope.names.lookup x=some .local:=by first | exact .inl rfl | exact .inr rfl | assumption):wpAny M A (storeName X.env x u) Q E s:=
 qLI I hN hi hx r (fun s' I' _=>h s' I') hf
theorem Inv.call' {s':Shared} {ch:List Addr} (I:Inv X Ab σ H s) (ho:s'.os=s.os) (u:Un (frs X.stack) ch H H' s.heap s'.heap) (hok:HOk X.prog X.w H' s'.heap) (hg:AllBare s'.gens)
  (hch:∀ b ∈ ch,(b ∈ X.ex\/X.s₀.heap.objs.size<=b)/\b ≠ X.env.locals/\(∀ x c,X.env.cells.lookup x=some c->c ≠ b)/\∀ p ∈ X.pn++Ab,p.1 ≠ b):Inv X Ab σ H' s':=by
 obtain ⟨h',g',d',t',o'⟩:=s';have e:o'=s.os:=ho;subst e;exact I.call (g':=g') (t':=t') (d':=d') u hok hg hch
end
abbrev XK:=Value->Option Addr->Hp->Prop
abbrev St:=List (Option V)
abbrev VK:=V->Hp->Prop
abbrev TE:=St->Hp->VK->Prop
abbrev TT:=St->Hp->(Bool->Hp->Prop)->Prop
abbrev TA:=St->Hp->(List V->Hp->Prop)->Prop
structure Ends where
 nx:St->Hp->Prop
 rt:VK
 bk:St->Hp->Prop:=fun _ _=>False
 ct:St->Hp->Prop:=fun _ _=>False
abbrev TS:=Ends->St->Hp->Prop
def EP (X:Cx) (Ab:List (Addr × Obj)) (σ:St) (Q:VK) (u:Value) (s':Shared):Prop:=∃ v H',Inv X Ab σ H' s'/\RelV v u/\Q v H'
def TP (X:Cx) (Ab:List (Addr × Obj)) (σ:St) (Q:Bool->Hp->Prop) (b:Bool) (s':Shared):Prop:=∃ H',Inv X Ab σ H' s'/\Q b H'
def AP (X:Cx) (Ab:List (Addr × Obj)) (σ:St) (Q:List V->Hp->Prop) (us:List Value) (s':Shared):Prop:=∃ vs H',Inv X Ab σ H' s'/\Vals vs us/\Q vs H'
def SP (X:Cx) (Ab:List (Addr × Obj)) (D:Ends) (f:Flow) (s':Shared):Prop:=
 match f with
 | .next=>∃ σ' H',Inv X Ab σ' H' s'/\D.nx σ' H'
 | .brk=>∃ σ' H',Inv X Ab σ' H' s'/\D.bk σ' H'
 | .cont=>∃ σ' H',Inv X Ab σ' H' s'/\D.ct σ' H'
 | .ret u=>∃ v σ' H',Inv X Ab σ' H' s'/\RelV v u/\D.rt v H'
def PE (X:Cx) (e:Expr) (t:TE):Prop:=
 ∀ (Ab:List (Addr × Obj)) (s:Shared) (σ:St) (H:Hp) (Q:VK),Inv X Ab σ H s->t σ H Q->wpAny (model X.prog X.w) X.A (eval e X.env) (EP X Ab σ Q) X.xe s
def PT (X:Cx) (e:Expr) (t:TT):Prop:=
 ∀ (Ab:List (Addr × Obj)) (s:Shared) (σ:St) (H:Hp) (Q:Bool->Hp->Prop),Inv X Ab σ H s->t σ H Q->wpAny (model X.prog X.w) X.A (isTrue e X.env (eval e X.env)) (TP X Ab σ Q) X.xe s
def PW (X:Cx) (e:Expr) (t:TT):Prop:=
 ∀ (whole:Sem Value) (Ab:List (Addr × Obj)) (s:Shared) (σ:St) (H:Hp) (Q:Bool->Hp->Prop),Inv X Ab σ H s->t σ H Q->wpAny (model X.prog X.w) X.A (isTrue e X.env whole) (TP X Ab σ Q) X.xe s
theorem PW.pt {X:Cx} {e:Expr} {t:TT} (h:PW X e t):PT X e t:=h _
def PA (X:Cx) (es:List Expr) (t:TA):Prop:=
 ∀ (pos:Pos) (Ab:List (Addr × Obj)) (s:Shared) (σ:St) (H:Hp) (Q:List V->Hp->Prop),Inv X Ab σ H s->t σ H Q->wpAny (model X.prog X.w) X.A (spliced (backTo pos (starEach es X.env))) (AP X Ab σ Q) X.xe s
def PS (X:Cx) (st:Stmt) (t:TS):Prop:=
 ∀ (Ab:List (Addr × Obj)) (s:Shared) (σ:St) (H:Hp) (D:Ends),Inv X Ab σ H s->t D σ H->wpAny (model X.prog X.w) X.A (exec st X.env) (SP X Ab D) X.xe s
def PSs (X:Cx) (st:List Stmt) (t:TS):Prop:=
 ∀ (Ab:List (Addr × Obj)) (s:Shared) (σ:St) (H:Hp) (D:Ends),Inv X Ab σ H s->t D σ H->wpAny (model X.prog X.w) X.A (execs st X.env) (SP X Ab D) X.xe s
theorem thn {α:Type} {t:Sem α} {Q Q':α->Shared->Prop} {M:Model} {A:Around} {E:Value->Shared->Prop} {s:Shared} (h:wpAny M A t Q E s) (hQ:∀ a s,Q a s->Q' a s):wpAny M A t Q' E s:=wpAny_mono h hQ fun _ _ x=>x
end L2
namespace L2
open PySem PySem.Spec PyProof.Rows
section
variable {X:Cx}
theorem bin {a b:Expr} {ta tb:TE} (ha:PE X a ta) (hb:PE X b tb) {Ab:List (Addr × Obj)} {s:Shared} {σ:St} {H:Hp} {R:V->V->Hp->Prop} (I:Inv X Ab σ H s) (h:ta σ H fun x H1=>tb σ H1 fun y H2=>R x y H2)
  {α:Type} {Q:α->Shared->Prop} {f:Value->Value->Sem α}
  (hf:∀ v u s2 x y H2,Inv X Ab σ H2 s2->RelV x v->RelV y u->R x y H2->wpAny (model X.prog X.w) X.A (f v u) Q X.xe s2) :
  wpAny (model X.prog X.w) X.A (eval a X.env) (fun v s₁=>wpAny (model X.prog X.w) X.A (eval b X.env) (fun u s₂=>wpAny (model X.prog X.w) X.A (f v u) Q X.xe s₂) X.xe s₁) X.xe s:=by
 refine thn (ha Ab s σ H _ I h) fun v s1 ⟨x,H1,I1,r1,q1⟩=>?_;refine thn (hb Ab s1 σ H1 _ I1 q1) fun u s2 ⟨y,H2,I2,r2,q2⟩=>?_;exact hf v u s2 x y H2 I2 r1 r2 q2
def tVar (i:Nat):TE:=fun σ H Q=>∃ v,σ[i]?=some (some v)/\Q v H
def tC (v:V):TE:=fun _ H Q=>Q v H
theorem qY8 {i:Nat} {x:Str} {pos:Pos} (hN:X.N[i]?=some x) (hv:Vis X.env.scope x) (hd:(x == ("__debug__" : Str))=false:=by decide) (hcd:(x == ("__classdict__" : Str))=false:=by decide):PE X (.Name x pos) (tVar i):=by
 intro Ab s σ H Q I h;obtain ⟨v,e,h⟩:=h;obtain ⟨m,hn,hl⟩:=I.loc;obtain ⟨u,r,l⟩:=hl i x v hN e hv;have fin:EP X Ab σ Q u s:=⟨v,H,I,r,h⟩;rcases l with ⟨hk,hm⟩ | ⟨hk,c,hc,hcell⟩
 ·exact wpAny_Name (wpAny_loadName_local I.ok.kind hk hn hm fin) hd
 ·rcases hk with hk | hk
  ·exact wpAny_Name (wpAny_loadName_cell I.ok.kind hk hc hcell fin) hd
  ·exact wpAny_Name (wpAny_loadName_free I.ok.kind hk hc hcell fin hcd) hd
theorem qA6 {i j pos}:PE X (.Constant (.int i) j pos) (tC (.int i)):=fun _ _ _ H _ I h=>wpAny_Constant_int ⟨.int i,H,I.tok _,⟨_,rfl⟩,h⟩
theorem qLW {b j pos}:PE X (.Constant (.bool b) j pos) (tC (.bl b)):=fun _ _ _ H _ I h=>Constant_bool ⟨.bl b,H,I,rfl,h⟩
theorem qE7 {j pos}:PE X (.Constant .none j pos) (tC .non):=fun _ _ _ H _ I h=>Constant_none ⟨.non,H,I,rfl,h⟩
theorem qB2 {x j pos}:PE X (.Constant (.str x) j pos) (tC (.str x)):=fun _ _ _ H _ I h=>Calls.Constant_str ⟨.str x,H,I.tok _,⟨_,rfl⟩,h⟩
def Gl (X:Cx) (x:Str):Prop:=X.env.kindOf x=some .globalImplicit
theorem qS0 {E:Value->Shared->Prop} {Ab:List (Addr × Obj)} {s:Shared} {σ:St} {H:Hp} {x:Str} {u:Value} {pos:Pos} {Q:Value->Shared->Prop} (I:Inv X Ab σ H s) (hg:Gl X x) (hm:X.mg x=some u) (h:Q u s)
  (hd:(x == ("__debug__" : Str))=false:=by decide):wpAny (model X.prog X.w) X.A (eval (.Name x pos) X.env) Q E s:=
 Calls.Name_function_global I.ok.kind hg (Calls.loadGlobal_global (by rw [I.ok.glob];exact I.mod.glob.keeps I.bk) hm h) hd
theorem qIG {E:Value->Shared->Prop} {Ab:List (Addr × Obj)} {s:Shared} {σ:St} {H:Hp} {x:Str} {u:Value} {pos:Pos} {Q:Value->Shared->Prop} (I:Inv X Ab σ H s) (hg:Gl X x) (hm:X.mg x=none) (hv:bootBuiltins x=some u) (h:Q u s)
  (hn:x ≠ "__name__":=by decide) (hd:(x == ("__debug__" : Str))=false:=by decide):wpAny (model X.prog X.w) X.A (eval (.Name x pos) X.env) Q E s:=by
 obtain ⟨mb,h1,h2⟩:=I.mod.blt;exact Calls.Name_function_global I.ok.kind hg (Calls.loadGlobal_builtin (by rw [I.ok.glob];exact I.mod.glob.keeps I.bk) hm (by rw [I.ok.blt];exact h1.keeps I.bk) ((h2 x hn).trans hv) h) hd
theorem qWI {x:Str} {v:V} {u:Value} {pos:Pos} (hg:Gl X x) (hm:X.mg x=some u) (r:RelV v u) (hd:(x == ("__debug__" : Str))=false:=by decide):PE X (.Name x pos) (tC v):=
 fun _ _ _ H _ I h=>qS0 I hg hm ⟨v,H,I,r,h⟩ hd
variable {a b:Expr} {ta tb:TE} {pos:Pos}
def PC (X:Cx) (op:CmpOp) (a b:Expr) (t:TE):Prop:=
 ∀ (Ab:List (Addr × Obj)) (s:Shared) (σ:St) (H:Hp) (Q:VK),Inv X Ab σ H s->t σ H Q->
  wpAny (model X.prog X.w) X.A (eval a X.env) (fun v s₁=>wpAny (model X.prog X.w) X.A (eval b X.env) (fun u s₂=>wpAny (model X.prog X.w) X.A (compareOp op v u) (EP X Ab σ Q) X.xe s₂) X.xe s₁) X.xe s
theorem qU5 (b:Expr) {op:CmpOp} (h:op ≠ .In) (h2:op ≠ .NotIn):behindInMarks op b=false:=by
 have e1:(op == CmpOp.In)=false:=by cases op <;> first | rfl | exact absurd rfl h
 have e2:(op == CmpOp.NotIn)=false:=by cases op <;> first | rfl | exact absurd rfl h2
 cases b <;> simp [behindInMarks,e1,e2]
def tIsN (ta:TE):TE:=fun σ H Q=>ta σ H fun x H1=>Q (.bl (decide (x=.non))) H1
def qZ9 (ta:TE):TE:=fun σ H Q=>ta σ H fun x H1=>Q (.bl (!decide (x=.non))) H1
theorem RelV.none_iff {x:V} {v:Value} (r:RelV x v):(v == Q7)=decide (x=.non):=by
 cases x with
 | non=>cases r;rfl
 | bl _=>cases r;rfl
 | int _=>obtain ⟨t,rfl⟩:=r;rfl
 | str _=>obtain ⟨t,rfl⟩:=r;rfl
 | byt _=>obtain ⟨t,rfl⟩:=r;rfl
 | flt _=>obtain ⟨t,rfl⟩:=r;rfl
 | ref _=>cases r;rfl
 | ty _=>cases r;rfl
theorem qLX {j pos'} (ha:PE X a ta):PC X .Is a (.Constant .none j pos') (tIsN ta):=by
 intro Ab s σ H Q I h;refine thn (ha Ab s σ H _ I h) fun v s1 ⟨x,H1,I1,r1,q1⟩=>?_;exact Constant_none (is_none_gen ⟨.bl _,H1,I1,by rw [r1.none_iff];rfl,q1⟩)
theorem qNF {j pos'} (ha:PE X a ta):PC X .IsNot a (.Constant .none j pos') (qZ9 ta):=by
 intro Ab s σ H Q I h;refine thn (ha Ab s σ H _ I h) fun v s1 ⟨x,H1,I1,r1,q1⟩=>?_;exact Constant_none (isnot_none_gen ⟨.bl _,H1,I1,by rw [r1.none_iff];rfl,q1⟩)
def tB (t:TE):TT:=fun σ H Q=>t σ H fun x H1=>∃ c,x=.bl c/\Q c H1
theorem qDW {op:CmpOp} {t:TE} (h:PC X op a b t) (h1:behindInMarks op b=false:=by first | exact qU5 _ (by decide) (by decide) | rfl):PT X (.Compare a [op] [b] pos) (tB t):=by
 intro Ab s σ H Q I hw;refine wpAny_isTrue_Compare1 (thn (h Ab s σ H _ I hw) fun v s1 h1=>thn h1 fun u s2 h2=>thn h2 fun c s3 ⟨x,H1,I1,r1,q1⟩=>?_) h1;obtain ⟨d,rfl,q⟩:=q1;cases r1;exact wpAny_truthy_bool ⟨H1,I1,q⟩
theorem qR8 {e:Expr} {t:TE} (h:PE X e t) (he:∀ whole,isTrue e X.env whole=(do let v <- whole;standAt e.pos;holding [v] (truthy v)):=by intro _;rfl):PT X e (tB t):=by
 intro Ab s σ H Q I hw;refine isTrue_plain (thn (h Ab s σ H _ I hw) fun v s1 ⟨x,H1,I1,r1,q1⟩=>?_) (he _);obtain ⟨d,rfl,q⟩:=q1;cases r1;exact wpAny_truthy_bool ⟨H1,I1,q⟩
variable {tA tB':TT} {rest:List Expr}
def tAnd (t u:TT):TT:=fun σ H Q=>t σ H fun c H1=>if c=true then u σ H1 Q else Q false H1
def tOr (t u:TT):TT:=fun σ H Q=>t σ H fun c H1=>if c=true then Q true H1 else u σ H1 Q
def tNot (t:TT):TT:=fun σ H Q=>t σ H fun c H1=>Q (!c) H1
theorem qR6 (ha:PT X a tA):PW X (.BoolOp .And [a] pos) tA:=by
 intro wh Ab s σ H Q I h;refine isTrue_and (thn (ha Ab s σ H Q I h) fun c s1 e=>?_);cases c with
 | true=>exact isTrue_and_nil e
 | false=>exact e
theorem qY4 (ha:PT X a tA):PW X (.BoolOp .Or [a] pos) tA:=by
 intro wh Ab s σ H Q I h;refine isTrue_or (thn (ha Ab s σ H Q I h) fun c s1 e=>?_);cases c with
 | false=>exact isTrue_or_nil e
 | true=>exact e
theorem qVA (ha:PT X a tA) (hb:PW X (.BoolOp .And (b::rest) pos) tB'):PW X (.BoolOp .And (a::b::rest) pos) (tAnd tA tB'):=by
 intro wh Ab s σ H Q I h;refine isTrue_and (thn (ha Ab s σ H _ I h) fun c s1 ⟨H1,I1,q1⟩=>?_);cases c with
 | true=>exact hb wh Ab s1 σ H1 Q I1 q1
 | false=>exact ⟨H1,I1,q1⟩
theorem qZQ (ha:PT X a tA) (hb:PW X (.BoolOp .Or (b::rest) pos) tB'):PW X (.BoolOp .Or (a::b::rest) pos) (tOr tA tB'):=by
 intro wh Ab s σ H Q I h;refine isTrue_or (thn (ha Ab s σ H _ I h) fun c s1 ⟨H1,I1,q1⟩=>?_);cases c with
 | true=>exact ⟨H1,I1,q1⟩
 | false=>exact hb wh Ab s1 σ H1 Q I1 q1
theorem qVB (ha:PT X a tA):PT X (.UnaryOp .Not a pos) (tNot tA):=by
 intro Ab s σ H Q I h;exact isTrue_not (ha Ab s σ H (fun c H1=>Q (!c) H1) I h)
def tIf (t:TT) (ta tb:TE):TE:=fun σ H Q=>t σ H fun c H1=>if c=true then ta σ H1 Q else tb σ H1 Q
theorem qDI {c:Expr} (hc:PT X c tA) (ha:PE X a ta) (hb:PE X b tb):PE X (.IfExp c a b pos) (tIf tA ta tb):=by
 intro Ab s σ H Q I h;refine wpAny_IfExp (thn (hc Ab s σ H _ I h) fun d s1 ⟨H1,I1,q1⟩=>?_);cases d with
 | true=>exact ha Ab s1 σ H1 Q I1 q1
 | false=>exact hb Ab s1 σ H1 Q I1 q1
end
end L2
namespace L2
open PySem PySem.Spec PyProof.Rows
def SqL (K:PySem.W.Frag) (H:Hp) (a:Addr) (xs:List V):Prop:=
 Rd H a (.lst xs)\/
  ∃ (o:Obj) (its:Array Value) (n:Nat),K.lookup a=some o/\o.cls=.type "list"/\o.dict=none/\o.data=.seq its n/\its.size<=sizeLine/\Vals xs its.toList
def SqT (K:PySem.W.Frag) (H:Hp) (a:Addr) (xs:List V):Prop:=
 Rd H a (.tup xs)\/
  ∃ (o:Obj) (its:Array Value) (n:Nat),K.lookup a=some o/\o.cls=.type "tuple"/\o.data=.seq its n/\its.size<=sizeLine/\Vals xs its.toList
noncomputable def absV:Value->Option V
 | .none=>some .non
 | .bool b=>some (.bl b)
 | .int i _=>some (.int i)
 | .str x _=>some (.str x)
 | .bytes b _=>some (.byt b)
 | .float b _=>some (.flt b)
 | .ref a=>some (.ref a)
 | .type n=>some (.ty n)
 | _=>none
theorem RelV.abs {x:V} {u:Value} (r:RelV x u):absV u=some x:=by
 cases x with
 | non=>cases r;rfl
 | bl _=>cases r;rfl
 | int _=>obtain ⟨t,rfl⟩:=r;rfl
 | str _=>obtain ⟨t,rfl⟩:=r;rfl
 | byt _=>obtain ⟨t,rfl⟩:=r;rfl
 | flt _=>obtain ⟨t,rfl⟩:=r;rfl
 | ref _=>cases r;rfl
 | ty _=>cases r;rfl
theorem RelV.inj {x y:V} {u:Value} (r:RelV x u) (q:RelV y u):x=y:=D3 (r.abs.symm.trans q.abs)
theorem Vals.inj:∀ {xs ys:List V} {us:List Value},Vals xs us->Vals ys us->xs=ys
 | _,_,_,.nil,.nil=>rfl
 | _,_,_,.cons r t,.cons r' t'=>by rw [r.inj r',Vals.inj t t']
section
variable {X:Cx} {Ab:List (Addr × Obj)} {σ:St} {H:Hp} {s:Shared} {a:Addr} {xs ys:List V}
theorem SqL.of {K:PySem.W.Frag} (h:H a=some (.lst xs)):SqL K H a xs:=.inl (.inl h)
theorem SqT.of {K:PySem.W.Frag} (h:H a=some (.tup xs)):SqT K H a xs:=.inl (.inl h)
theorem Inv.list (I:Inv X Ab σ H s) (h:SqL X.K H a xs):∃ its:List Value,Vals xs its/\PlainL s.heap a its.toArray/\xs.length<=sizeLine:=by
 rcases h with h | ⟨o,its,n,hk,hc,hd,hs,hz,r⟩
 ·obtain ⟨z,its,n,r,e⟩:=h.ok I.hok;exact ⟨its,r,⟨_,n,e,rfl,rfl,rfl⟩,z⟩
 ·refine ⟨its.toList,r,⟨o,n,I.kIn a o hk,hc,hd,by simpa using hs⟩,?_⟩
  have e:=r.length;simp only [C7] at e
  lia
theorem Inv.tuple (I:Inv X Ab σ H s) (h:SqT X.K H a xs):∃ its:List Value,Vals xs its/\IsTup s.heap a its.toArray/\xs.length<=sizeLine:=by
 rcases h with h | ⟨o,its,n,hk,hc,hs,hz,r⟩
 ·obtain ⟨z,its,r,p⟩:=h.ok I.hok;exact ⟨its,r,p,z⟩
 ·refine ⟨its.toList,r,⟨o,I.kIn a o hk,hc,n,by simpa using hs⟩,?_⟩
  have e:=r.length;simp only [C7] at e
  lia
theorem Inv.list_inj (I:Inv X Ab σ H s) (h:SqL X.K H a xs) (h':SqL X.K H a ys):xs=ys:=by
 obtain ⟨its,r,⟨o,n,e,_,_,d⟩,_⟩:=I.list h;obtain ⟨its',r',⟨o',n',e',_,_,d'⟩,_⟩:=I.list h';rw [e] at e';cases e';rw [d] at d'
 injection d' with d1 _
 have:its=its':=by simpa using congrArg A54 d1
 subst this;exact r.inj r'
theorem Inv.tuple_inj (I:Inv X Ab σ H s) (h:SqT X.K H a xs) (h':SqT X.K H a ys):xs=ys:=by
 obtain ⟨its,r,⟨o,e,_,n,d⟩,_⟩:=I.tuple h;obtain ⟨its',r',⟨o',e',_,n',d'⟩,_⟩:=I.tuple h';rw [e] at e';cases e';rw [d] at d'
 injection d' with d1 _
 have:its=its':=by simpa using congrArg A54 d1
 subst this;exact r.inj r'
end
noncomputable abbrev Cx.wish (X:Cx) (E:Value->Shared->Prop):Cx:={ X with xe:=E }
noncomputable abbrev Cx.nox (X:Cx):Cx:=X.wish fun _ _=>False
theorem Cx.Ok.wish {X:Cx} (ok:X.Ok) (E:Value->Shared->Prop):(X.wish E).Ok:=
 ⟨ok.mod,ok.kind,ok.glob,ok.blt,ok.above,ok.inj,ok.has,ok.cab,ok.hd,ok.frames,ok.stk,ok.exf,ok.bs,ok.bsz,ok.noex,ok.exfs,ok.funs,ok.frf⟩
theorem Cx.Ok.unwish {X:Cx} {E:Value->Shared->Prop} (ok:(X.wish E).Ok):X.Ok:=
 ⟨ok.mod,ok.kind,ok.glob,ok.blt,ok.above,ok.inj,ok.has,ok.cab,ok.hd,ok.frames,ok.stk,ok.exf,ok.bs,ok.bsz,ok.noex,ok.exfs,ok.funs,ok.frf⟩
section
variable {X:Cx} {Ab:List (Addr × Obj)} {σ:St} {H:Hp} {s:Shared} {E:Value->Shared->Prop}
theorem Inv.wish (I:Inv X Ab σ H s) (E:Value->Shared->Prop):Inv (X.wish E) Ab σ H s:=⟨I.ok.wish E,I.os,I.bare,I.base,I.loc,I.cell,I.free,I.freeC,I.pin,I.hok,I.len⟩
theorem Inv.unwish (I:Inv (X.wish E) Ab σ H s):Inv X Ab σ H s:=⟨I.ok.unwish,I.os,I.bare,I.base,I.loc,I.cell,I.free,I.freeC,I.pin,I.hok,I.len⟩
theorem SP.unwish {D:Ends} {f:Flow} {s':Shared} (h:SP (X.wish E) Ab D f s'):SP X Ab D f s':=by
 cases f with
 | next=>obtain ⟨σ',H',I,q⟩:=h;exact ⟨σ',H',I.unwish,q⟩
 | brk=>obtain ⟨σ',H',I,q⟩:=h;exact ⟨σ',H',I.unwish,q⟩
 | cont=>obtain ⟨σ',H',I,q⟩:=h;exact ⟨σ',H',I.unwish,q⟩
 | ret u=>obtain ⟨v,σ',H',I,r,q⟩:=h;exact ⟨v,σ',H',I.unwish,r,q⟩
theorem PSs.nox {st:List Stmt} {t:TS} (h:PSs X.nox st t):PSs X st t:=fun Ab s σ H D I hw=>
 wpAny_mono (h Ab s σ H D (I.wish _) hw) (fun _ _ q=>q.unwish) fun _ _ z=>U4 z
end
section
variable {X:Cx} {st:Stmt} {rest:List Stmt} {t u:TS} {e:Expr} {te:TE} {pos:Pos}
def qZA:TS:=fun D σ H=>D.nx σ H
def tSeq (t u:TS):TS:=fun D σ H=>t { D with nx:=u D } σ H
theorem qAP:PSs X [] qZA:=fun _ _ σ H _ I h=>wpAny_execs_nil ⟨σ,H,I,h⟩
theorem qA3 (h1:PS X st t) (h2:PSs X rest u):PSs X (st::rest) (tSeq t u):=by
 intro Ab s σ H D I h;refine wpAny_execs_cons (thn (h1 Ab s σ H { D with nx:=u D } I h) fun f s1 q=>?_);cases f with
 | next=>
  obtain ⟨σ',H',I',q⟩:=q;exact h2 Ab s1 σ' H' D I' q
 | ret v=>exact q
 | brk=>exact q
 | cont=>exact q
theorem qA8 (h1:PS X st t):PSs X [st] t:=by
 intro Ab s σ H D I h;refine wpAny_execs_cons (thn (h1 Ab s σ H D I h) fun f s1 q=>?_);cases f with
 | next=>exact wpAny_execs_nil q
 | ret v=>exact q
 | brk=>exact q
 | cont=>exact q
theorem Inv.quiet {Ab:List (Addr × Obj)} {σ:St} {H:Hp} {s:Shared} (I:Inv X Ab σ H s):interactive X.env=false:=by simp [interactive,I.ok.kind]
def qZE (te:TE):TS:=fun D σ H=>te σ H fun _ H1=>D.nx σ H1
theorem qD2 (he:PE X e te) (hs:swapsWith e none pos.line X.env=pure false:=by rfl):PS X (.Expr e pos) (qZE te):=by
 intro Ab s σ H D I h;exact wpAny_Expr_any (thn (he Ab s σ H _ I h) fun v s1 ⟨x,H1,I1,r1,q1⟩=>⟨σ,H1,I1,q1⟩) I.quiet hs
def tRet (te:TE):TS:=fun D σ H=>te σ H D.rt
theorem qAH (he:PE X e te):PS X (.Return (some e) pos) (tRet te):=by
 intro Ab s σ H D I h;exact wpAny_Return_some (thn (he Ab s σ H _ I h) fun v s1 ⟨x,H1,I1,r1,q1⟩=>⟨x,σ,H1,I1,r1,q1⟩)
def tIfS (c:TT) (t u:TS):TS:=fun D σ H=>c σ H fun b H1=>if b=true then t D σ H1 else u D σ H1
theorem qBP {c:Expr} {a b:List Stmt} {tc:TT} (hc:PT X c tc) (ha:PSs X a t) (hb:PSs X b u):PS X (.If c a b pos) (tIfS tc t u):=by
 intro Ab s σ H D I h;refine wpAny_If (thn (hc Ab s σ H _ I h) fun d s1 ⟨H1,I1,q1⟩=>?_);cases d with
 | true=>exact ha Ab s1 σ H1 D I1 q1
 | false=>exact hb Ab s1 σ H1 D I1 q1
end
abbrev TG:=V->St->Hp->(St->Hp->Prop)->Prop
abbrev TGs:=List V->St->Hp->(St->Hp->Prop)->Prop
def PG (X:Cx) (target:Expr) (t:TG):Prop:=
 ∀ (Ab:List (Addr × Obj)) (s:Shared) (σ:St) (H:Hp) (v:V) (u:Value) (Q:St->Hp->Prop),Inv X Ab σ H s->RelV v u->t v σ H Q->
  wpAny (model X.prog X.w) X.A (assign target X.env u) (fun _ s'=>∃ σ' H',Inv X Ab σ' H' s'/\Q σ' H') X.xe s
def PGs (X:Cx) (ts:List Expr) (t:TGs):Prop:=
 ∀ (Ab:List (Addr × Obj)) (s:Shared) (σ:St) (H:Hp) (vs:List V) (us:List Value) (Q:St->Hp->Prop),Inv X Ab σ H s->Vals vs us->t vs σ H Q->
  wpAny (model X.prog X.w) X.A (assignInOrder ((assignEach ts X.env).map (·.2)) us) (fun _ s'=>∃ σ' H',Inv X Ab σ' H' s'/\Q σ' H') X.xe s
abbrev TSet:=V->V->V->Hp->(Hp->Prop)->Prop
def PSet (X:Cx) (t:TSet):Prop:=
 ∀ (Ab:List (Addr × Obj)) (s:Shared) (σ:St) (H:Hp) (o i v:V) (ov iv u:Value) (Q:Hp->Prop),Inv X Ab σ H s->RelV o ov->RelV i iv->RelV v u->t o i v H Q->
  wpAny (model X.prog X.w) X.A (setItem ov iv u) (fun _ s'=>∃ H',Inv X Ab σ H' s'/\Q H') X.xe s
section
variable {X:Cx} {pos:Pos}
def qSJ (i:Nat):TG:=fun v σ H Q=>Q (σ.set i (some v)) H
theorem qBR {i:Nat} {x:Str} (hN:X.N.Nodup) (hi:X.N[i]?=some x) (hx:Loc X.env.scope x) (hf:X.fn x=true\/X.env.scope.names.lookup x=some .local:=by first | exact .inl rfl | exact .inr rfl | assumption):PG X (.Name x pos) (qSJ i):=by
 intro Ab s σ H v u Q I r h;exact wpAny_assign_Name (qO7 I hN hi hx r (fun s' I'=>⟨_,H,I',h⟩) hf)
def gNil:TGs:=fun vs σ H Q=>vs=[]/\Q σ H
def qaC (t:TG) (u:TGs):TGs:=fun vs σ H Q=>∃ v r,vs=v::r/\t v σ H fun σ' H'=>u r σ' H' Q
theorem qNE:PGs X [] gNil:=by
 intro Ab s σ H vs us Q I r h;obtain ⟨e,h⟩:=h;subst e;cases r;exact assignInOrder_nil ⟨σ,H,I,h⟩
theorem qDH {e:Expr} {es:List Expr} {t:TG} {u:TGs} (h1:PG X e t) (h2:PGs X es u)
  (hs:(assignEach (e::es) X.env).map (·.2)=assign e X.env::(assignEach es X.env).map (·.2):=by rfl):PGs X (e::es) (qaC t u):=by
 intro Ab s σ H vs us Q I r h;obtain ⟨v,vr,e1,h⟩:=h;subst e1;cases r with
 | cons r rr=>
  rw [hs];refine assignInOrder_cons (thn (h1 Ab s σ H _ _ _ I r h) fun _ s1 ⟨σ1,H1,I1,q1⟩=>?_);exact h2 Ab s1 σ1 H1 _ _ Q I1 rr q1
def gTup (K:PySem.W.Frag) (n:Nat) (t:TGs):TG:=fun v σ H Q=>∃ a xs,v=.ref a/\SqT K H a xs/\xs.length=n/\t xs σ H Q
theorem qRG {es:List Expr} {k:Nat} {t:TGs} {n:Nat} (hc:X.calm=true) (h:PGs X es t)
  (hn:(assignEach es X.env).length=n:=by rfl) (hst:(assignEach es X.env).findIdx? (·.1)=none:=by rfl):PG X (.Tuple es k pos) (gTup X.K n t):=by
 intro Ab s σ H v u Q I r hw;obtain ⟨a,xs,e1,hq,hl,hw⟩:=hw;subst e1;cases r;obtain ⟨its,rv,ht,hz⟩:=I.tuple hq;refine assign_Tuple_tuple (I.ok.hd hc) ht (by simp [hn,<- hl,rv.length]) hst fun h' hx=>?_
 have I1:Inv X Ab σ H { s with heap:=h' }:=I.kept (t':=s.toks) fun b o e=>hx b o (D6 (C0 e)) e;exact h Ab _ σ H xs _ Q I1 (by simpa using rv) hw
def gSub (to ti:TE) (t:TSet):TG:=fun v σ H Q=>to σ H fun o H1=>ti σ H1 fun i H2=>t o i v H2 fun H3=>Q σ H3
theorem qY7 {o i:Expr} {to ti:TE} {t:TSet} (ho:PE X o to) (hi:PE X i ti) (hs:PSet X t)
  (ha:∀ v,assign (.Subscript o i pos) X.env v=(do
   let ov <- holding [v] (eval o X.env)
   let iv <- holding [v,ov] (eval i X.env)
   standAt pos
   holding [v,ov,iv] (setItem ov iv v)
   release [v,ov,iv] []):=by intro _;rfl):PG X (.Subscript o i pos) (gSub to ti t):=by
 intro Ab s σ H v u Q I r h;rw [ha];refine wpAny_bind (wpAny_holding (thn (ho Ab s σ H _ I h) fun ov s1 ⟨x,H1,I1,r1,q1⟩=>?_));refine wpAny_bind (wpAny_holding (thn (hi Ab s1 σ H1 _ I1 q1) fun iv s2 ⟨y,H2,I2,r2,q2⟩=>?_));refine wpAny_bind (wpAny_standAt (wpAny_bind (wpAny_holding (thn (hs Ab s2 σ H2 x y v ov iv u _ I2 r1 r2 r q2) fun _ s3 ⟨H3,I3,q3⟩=>?_))));exact wpAny_release ⟨σ,H3,I3,q3⟩
def tAsg (te:TE) (g:TG):TS:=fun D σ H=>te σ H fun x H1=>g x σ H1 D.nx
theorem qVC {tg e:Expr} {te:TE} {g:TG} (he:PE X e te) (hg:PG X tg g) (hs:swapsWithSole [tg] e pos.line X.env=pure false:=by rfl) (hw:swappedStores [tg] e X.env=pure none:=by rfl)
  (h1:(assignEach [tg] X.env).map (·.2)=[assign tg X.env]:=by rfl):PS X (.Assign [tg] e pos) (tAsg te g):=by
 intro Ab s σ H D I h;refine wpAny_Assign_stores (thn (he Ab s σ H _ I h) fun v s1 ⟨x,H1,I1,r1,q1⟩=>?_) hs hw;rw [h1];exact thn (hg Ab s1 σ H1 x v _ I1 r1 q1) fun _ s2 q=>q
theorem qAC {i:Nat} {x:Str} {e:Expr} {te:TE} {pos':Pos} (hN:X.N.Nodup) (hi:X.N[i]?=some x) (hx:Loc X.env.scope x) (he:PE X e te) (hs:swapsWith e (some (.Name x pos')) pos.line X.env=pure false:=by rfl) (hf:X.fn x=true\/X.env.scope.names.lookup x=some .local:=by first | exact .inl rfl | exact .inr rfl | assumption) :
  PS X (.Assign [.Name x pos'] e pos) (tAsg te (qSJ i)):=by
 intro Ab s σ H D I h;refine wpAny_Assign_Name (thn (he Ab s σ H _ I h) fun v s1 ⟨y,H1,I1,r1,q1⟩=>?_) hs;exact qO7 I1 hN hi hx r1 (fun s2 I2=>⟨_,H1,I2,q1⟩) hf
end
section
variable {X:Cx} {pos:Pos}
def qXQ (c:TT) (tb:TS):TS:=fun D σ H=>∃ W:Nat->St->Hp->Prop,(∃ m,W m σ H)/\∀ m σ H,W m σ H->
 c σ H fun b H1=>if b=true then ∃ N:St->Hp->Prop,(∀ σ' H',N σ' H'->∃ m',m'<m/\W m' σ' H')/\tb { D with nx:=N,ct:=N,bk:=D.nx } σ H1 else D.nx σ H1
theorem qHP {c:Expr} {body:List Stmt} {tc:TT} {tb:TS} (hp:PassesOwn (model X.prog X.w) X.A X.env X.xe) (hc:PT X c tc) (hb:PSs X body tb):PS X (.While c body [] pos) (qXQ tc tb):=by
 intro Ab s σ H D I h;obtain ⟨W,⟨m0,w0⟩,turn⟩:=h;refine wpAny_While (codeAny_whileLoop (fun n s'=>∃ σ' H',Inv X Ab σ' H' s'/\W n σ' H') ?_ m0 ⟨σ,H,I,w0⟩);rintro n s1 ⟨σ1,H1,I1,w1⟩;refine wpAny_passesOwn hp (thn (hc Ab s1 σ1 H1 _ I1 (turn n σ1 H1 w1)) fun b s2 ⟨H2,I2,q2⟩=>?_);cases b with
 | true=>
  obtain ⟨N,hN,q2⟩:=q2;rw [if_pos rfl];refine wpAny_passesOwn hp (thn (hb Ab s2 σ1 H2 _ I2 q2) fun f s3 q3=>?_);cases f with
  | next=>
   obtain ⟨σ3,H3,I3,n3⟩:=q3;obtain ⟨m',hm,w3⟩:=hN σ3 H3 n3;exact ⟨m',hm,σ3,H3,I3,w3⟩
  | cont=>
   obtain ⟨σ3,H3,I3,n3⟩:=q3;obtain ⟨m',hm,w3⟩:=hN σ3 H3 n3;exact ⟨m',hm,σ3,H3,I3,w3⟩
  | brk=>exact q3
  | ret v=>exact q3
 | false=>
  rw [if_neg B0];exact wpAny_execs_nil ⟨σ1,H2,I2,q2⟩
end
structure It where
 go:Nat->Hp->Prop
 yld:Nat->Hp->V->Hp->Prop
 stop:Nat->Hp->Prop
def FpOk (X:Cx) (Ab:List (Addr × Obj)) (H:Hp) (b:Addr):Prop:=
 H b=none/\b ≠ X.env.locals/\b ∉ X.fs/\(b ∈ X.ex\/X.s₀.heap.objs.size<=b)/\(∀ x c,X.env.cells.lookup x=some c->c ≠ b)/\∀ p ∈ X.pn++Ab,p.1 ≠ b
theorem Inv.fpOk {X:Cx} {Ab:List (Addr × Obj)} {σ:St} {H H':Hp} {s:Shared} {b:Addr} (I:Inv X Ab σ H s) (hb:s.heap.objs.size<=b) (hn:H' b=none):FpOk X Ab H' b:=by
 refine ⟨hn,X3 (D4 I.lt hb),I.nofs hb,.inr (F3 I.sz hb),fun x c e z=>?_,fun p hp z=>?_⟩
 ·obtain ⟨v,q⟩:=I.cell x c e;exact absurd (D4 q.lt (by rw [z];exact hb)) (R0 _)
 ·exact absurd (D4 (C0 (I.pin p hp).1) (by rw [z];exact hb)) (R0 _)
structure Turn (P:Program) (w:World) (K:PySem.W.Frag) (tg:Expr) (J:It) (fp:List Addr) (it:Addr) (tn:Nat->Heap->Prop):Prop where
 mem:it ∈ fp
 obj:∀ i h,tn i h->∀ b ∈ fp,∃ o,h.get? b=some o/\∀ v,o.data ≠ .cell v
 keep:∀ i h h',tn i h->(∀ b ∈ fp,∀ o,h.get? b=some o->h'.get? b=some o)->tn i h'
 item:∀ (X:Cx),X.prog=P->X.w=w->X.K=K->X.calm=true->∀ (i:Nat) (Ab:List (Addr × Obj)) (s:Shared) (σ:St) (H:Hp) (E:Value->Shared->Prop),Inv X Ab σ H s->(∀ b ∈ fp,FpOk X Ab H b)->tn i s.heap->J.go i H->
  wpAny (model P w) X.A (pyNext (.ref it)) (fun r s1=>∃ u,r=some u/\
   wpAny (model P w) X.A (letOwnedTupleGo tg (.ref it) u) (fun _ s2=>∃ x H',Inv X Ab σ H' s2/\RelV x u/\J.yld i H x H'/\tn (i+1) s2.heap/\∀ b ∈ fp,H' b=none) E s1) E s
 done:∀ (X:Cx),X.prog=P->X.w=w->X.K=K->X.calm=true->∀ (i:Nat) (Ab:List (Addr × Obj)) (s:Shared) (σ:St) (H:Hp) (E:Value->Shared->Prop),Inv X Ab σ H s->(∀ b ∈ fp,FpOk X Ab H b)->tn i s.heap->J.stop i H->
  wpAny (model P w) X.A (pyNext (.ref it)) (fun r s1=>r=none/\Inv X Ab σ H s1) E s
 self:∀ (A:Around) (i:Nat) (s:Shared) (Q:Value->Shared->Prop) (E:Value->Shared->Prop),tn i s.heap->Q (.ref it) s->wpAny (model P w) A (pyIter (.ref it)) Q E s
abbrev TI:=St->Hp->(It->Hp->Prop)->Prop
def PIE (X:Cx) (Ab:List (Addr × Obj)) (σ:St) (tg:Expr) (R:It->Hp->Prop) (itv:Value) (s2:Shared):Prop:=
 ∃ (it:Addr) (fp:List Addr) (tn:Nat->Heap->Prop) (J:It) (H':Hp),itv=.ref it/\Inv X Ab σ H' s2/\Turn X.prog X.w X.K tg J fp it tn/\tn 0 s2.heap/\(∀ b ∈ fp,FpOk X Ab H' b)/\R J H'
def PI (X:Cx) (tg iter:Expr) (wi:TI):Prop:=
 ∀ (Ab:List (Addr × Obj)) (s:Shared) (σ:St) (H:Hp) (R:It->Hp->Prop),Inv X Ab σ H s->wi σ H R->
  wpAny (model X.prog X.w) X.A (eval iter X.env) (fun v s1=>wpAny (model X.prog X.w) X.A (pyIter v) (PIE X Ab σ tg R) X.xe s1) X.xe s
theorem qUP {M:Model} {A:Around} {E:Value->Shared->Prop} {s:Shared} {tg:Expr} {it:Addr} {u:Value} {o:Obj} {n:String} {vs:Array Value} {Q:Unit->Shared->Prop} (ho:s.heap.get? it=some o) (hc:o.cls=.type n) (hd:o.data=.fields vs)
  (hn:["enumerate","zip","dict_itemiterator","dict_reverseitemiterator","odict_iterator","itertools.zip_longest","itertools.pairwise"].contains n=false) (hQ:Q () s):wpAny M A (letOwnedTupleGo tg (.ref it) u) Q E s:=by
 unfold letOwnedTupleGo;cases tg <;> first
  | exact wpAny_pure hQ
  | (cases u <;> first
    | exact wpAny_pure hQ
    | (refine wpAny_bind (wpAny_load ho ?_)
       rw [hc,hd];show wpAny M A (if (["enumerate","zip","dict_itemiterator","dict_reverseitemiterator","odict_iterator","itertools.zip_longest","itertools.pairwise"].contains n && vs[0]? == some (rawInt _))=true then _ else _) Q E s
       rw [if_neg (by intro h;rw [hn,l9] at h;cases h)]
       exact wpAny_pure hQ))
def Itl (K:PySem.W.Frag) (a:Addr):It:=
 ⟨fun i H=>∃ xs x,SqL K H a xs/\xs[i]?=some x,fun i H x H'=>H'=H/\∀ xs,SqL K H a xs->xs[i]?=some x,fun i H=>∃ xs,SqL K H a xs/\xs.length<=i⟩
def Itt (K:PySem.W.Frag) (a:Addr):It:=
 ⟨fun i H=>∃ xs x,SqT K H a xs/\xs[i]?=some x,fun i H x H'=>H'=H/\∀ xs,SqT K H a xs->xs[i]?=some x,fun i H=>∃ xs,SqT K H a xs/\xs.length<=i⟩
def Itr (lo:Int) (n:Nat):It:=⟨fun i _=>i<n,fun i H x H'=>H'=H/\x=.int (lo+i),fun i _=>n<=i⟩
theorem qQL {P:Program} {w:World} {K:PySem.W.Frag} {tg:Expr} (a it:Addr):Turn P w K tg (Itl K a) [it] it (fun i h=>h.IsListIter it a i) where
 mem:=by simp
 obj:=fun i h st b hb=>by
  have e:b=it:=by simpa using hb
  subst e;obtain ⟨o,e,c,d⟩:=st;exact ⟨o,e,fun v z=>by rw [d] at z;cases z⟩
 keep:=fun i h h' st k=>st.at fun o e=>k it (by simp) o e
 item:=by
  intro X hP hw hK hc i Ab s σ H E I hf st hg;subst hP hw hK;obtain ⟨xs,x,hq,hx⟩:=hg;obtain ⟨its,rv,p,hz⟩:=I.list hq;obtain ⟨u,hu,ru⟩:=rv.get hx;obtain ⟨f0,f1,f2,f3,f4,f5⟩:=hf it (by simp)
  refine wpAny_pyNext_list_item st p.isList (x:=u) (by simpa using hu) fun h' st' sb=>?_
  have I1:Inv X Ab σ H { s with heap:=h' }:=I.turned (t':=s.toks) (fun b o hb e=>(sb.2 b hb).trans e) f0 f1 f3 f4 f5;obtain ⟨o,e,c,d⟩:=id st';exact ⟨u,rfl,qUP (s:={ s with heap:=h' }) e c d (by decide) ⟨x,H,I1,ru,⟨rfl,fun ys hy=>by rw [I.list_inj hy hq];exact hx⟩,st',fun b hb=>(hf b hb).1⟩⟩
 done:=by
  intro X hP hw hK hc i Ab s σ H E I hf st hg;subst hP hw hK;obtain ⟨xs,hq,hx⟩:=hg;obtain ⟨its,rv,p,hz⟩:=I.list hq;obtain ⟨f0,f1,f2,f3,f4,f5⟩:=hf it (by simp)
  have hl:=rv.length;exact wpAny_pyNext_list_end (I.ok.hd hc) st p.isList (by simp;lia) fun h' eb=>⟨rfl,I.turned (t':=s.toks) (fun b o hb e=>eb b o hb e) f0 f1 f3 f4 f5⟩
 self:=fun _ _ _ _ _ st h=>wpAny_pyIter_listiter st h
theorem qPG {P:Program} {w:World} {K:PySem.W.Frag} {tg:Expr} (a it:Addr):Turn P w K tg (Itt K a) [it] it (fun i h=>h.IsTupleIter it a i) where
 mem:=by simp
 obj:=fun i h st b hb=>by
  have e:b=it:=by simpa using hb
  subst e;obtain ⟨o,e,c,d⟩:=st;exact ⟨o,e,fun v z=>by rw [d] at z;cases z⟩
 keep:=fun i h h' st k=>st.at fun o e=>k it (by simp) o e
 item:=by
  intro X hP hw hK hc i Ab s σ H E I hf st hg;subst hP hw hK;obtain ⟨xs,x,hq,hx⟩:=hg;obtain ⟨its,rv,p,hz⟩:=I.tuple hq;obtain ⟨u,hu,ru⟩:=rv.get hx;obtain ⟨f0,f1,f2,f3,f4,f5⟩:=hf it (by simp)
  refine wpAny_pyNext_tuple_item st (show s.heap.IsTuple a its.toArray from p) (x:=u) (by simpa using hu) fun h' st' sb=>?_
  have I1:Inv X Ab σ H { s with heap:=h' }:=I.turned (t':=s.toks) (fun b o hb e=>(sb.2 b hb).trans e) f0 f1 f3 f4 f5;obtain ⟨o,e,c,d⟩:=id st';exact ⟨u,rfl,qUP (s:={ s with heap:=h' }) e c d (by decide) ⟨x,H,I1,ru,⟨rfl,fun ys hy=>by rw [I.tuple_inj hy hq];exact hx⟩,st',fun b hb=>(hf b hb).1⟩⟩
 done:=by
  intro X hP hw hK hc i Ab s σ H E I hf st hg;subst hP hw hK;obtain ⟨xs,hq,hx⟩:=hg;obtain ⟨its,rv,p,hz⟩:=I.tuple hq;obtain ⟨f0,f1,f2,f3,f4,f5⟩:=hf it (by simp)
  have hl:=rv.length;exact wpAny_pyNext_tuple_end (I.ok.hd hc) st (show s.heap.IsTuple a its.toArray from p) (by simp;lia) fun h' eb=>⟨rfl,I.turned (t':=s.toks) (fun b o hb e=>eb b o hb e) f0 f1 f3 f4 f5⟩
 self:=fun _ _ _ _ _ st h=>wpAny_pyIter_tupleiter st h
theorem qPH {P:Program} {w:World} {K:PySem.W.Frag} {tg:Expr} (it:Addr) (lo:Int) (n:Nat):Turn P w K tg (Itr lo n) [it] it (fun i h=>IsRangeIter h it (lo+(i:Nat) * 1) ((n:Int) - (i:Nat)) 1) where
 mem:=by simp
 obj:=fun i h st b hb=>by
  have e:b=it:=by simpa using hb
  subst e;exact ⟨_,st,fun v z=>by
   have z':Data.fields _=Data.cell v:=z;cases z'⟩
 keep:=fun i h h' st k=>k it (by simp) _ st
 item:=by
  intro X hP hw hK hc i Ab s σ H E I hf st hg;subst hP hw hK;obtain ⟨f0,f1,f2,f3,f4,f5⟩:=hf it (by simp)
  have W:=Walks.range (prog:=X.prog) (w:=X.w) (I.ok.hd hc) it lo 1 n;refine W.item i s _ _ hg st fun v h' tk hv st' kk=>?_;obtain ⟨t,rfl⟩:=hv;have I1:Inv X Ab σ H { s with heap:=h',toks:=tk }:=I.turned (fun b o hb e=>kk b o (by simpa using hb) e) f0 f1 f3 f4 f5
  refine ⟨_,rfl,qUP (s:={ s with heap:=h',toks:=tk }) (n:="range_iterator") st' rfl rfl (by decide) ⟨.int (lo+i),H,I1,⟨t,?_⟩,⟨rfl,rfl⟩,st',fun b hb=>(hf b hb).1⟩⟩
  rw [Int.mul_one]
 done:=by
  intro X hP hw hK hc i Ab s σ H E I hf st hg;subst hP hw hK;obtain ⟨f0,f1,f2,f3,f4,f5⟩:=hf it (by simp)
  exact wpAny_pyNext_range_end (I.ok.hd hc) st (by have:n<=i:=hg;lia) fun h' eb=>⟨rfl,I.turned (t':=s.toks) (fun b o hb e=>eb b o hb e) f0 f1 f3 f4 f5⟩
 self:=fun _ _ _ _ _ st h=>wpAny_pyIter_rangeiter st h
end L2
namespace L2
open PySem PySem.Spec PyProof.Rows
section
variable {X:Cx} {tg:Expr}
def qaA (K:PySem.W.Frag) (tl:TE):TI:=fun σ H R=>tl σ H fun x H1=>∃ a,x=.ref a/\(∃ xs,SqL K H1 a xs)/\R (Itl K a) H1
def iTup (K:PySem.W.Frag) (tl:TE):TI:=fun σ H R=>tl σ H fun x H1=>∃ a,x=.ref a/\(∃ xs,SqT K H1 a xs)/\R (Itt K a) H1
theorem qD5 {l:Expr} {tl:TE} (hl:PE X l tl):PI X tg l (qaA X.K tl):=by
 intro Ab s σ H R I h;refine thn (hl Ab s σ H _ I h) fun v s1 ⟨x,H1,I1,r1,q1⟩=>?_;obtain ⟨a,e,⟨xs,hq⟩,q⟩:=q1;subst e;cases r1;obtain ⟨its,rv,p,hz⟩:=I1.list hq;refine wpAny_pyIter_list p.isList ?_;refine ⟨s1.heap.objs.size,[s1.heap.objs.size],_,_,H1,rfl,I1.kept (t':=s1.toks) fun b o e=>A3 _ e,qQL a _,⟨_,C1 _ rfl,rfl,rfl⟩,fun b hb=>?_,q⟩;have e:b=s1.heap.objs.size:=by simpa using hb
 subst e;exact I1.fpOk (A5 _) (I1.hok.fresh (A5 _))
theorem qI6 {l:Expr} {tl:TE} (hl:PE X l tl):PI X tg l (iTup X.K tl):=by
 intro Ab s σ H R I h;refine thn (hl Ab s σ H _ I h) fun v s1 ⟨x,H1,I1,r1,q1⟩=>?_;obtain ⟨a,e,⟨xs,hq⟩,q⟩:=q1;subst e;cases r1;obtain ⟨its,rv,p,hz⟩:=I1.tuple hq;refine wpAny_pyIter_tuple (show s1.heap.IsTuple a its.toArray from p) ?_;refine ⟨s1.heap.objs.size,[s1.heap.objs.size],_,_,H1,rfl,I1.kept (t':=s1.toks) fun b o e=>A3 _ e,qPG a _,⟨_,C1 _ rfl,rfl,rfl⟩,fun b hb=>?_,q⟩;have e:b=s1.heap.objs.size:=by simpa using hb
 subst e;exact I1.fpOk (A5 _) (I1.hok.fresh (A5 _))
theorem range_it {Ab:List (Addr × Obj)} {σ:St} {H:Hp} {s:Shared} {R:It->Hp->Prop} {E:Value->Shared->Prop} {lo hi:Int} {t u v:Tok} {tk:Nat} (I:Inv X Ab σ H s) (h1 : -(2 ^ 62)<=lo) (h2:lo<2 ^ 62) (h3 : -(2 ^ 62)<=hi) (h4:hi<2 ^ 62)
  (q:R (Itr lo (hi - lo).toNat) H):wpAny (model X.prog X.w) X.A (pyIter (.ref s.heap.objs.size)) (PIE X Ab σ tg R) E { s with heap:=s.heap.push { cls:=.type "range",data:=.fields #[.int lo t,.int hi u,.int 1 v] },toks:=tk }:=by
 refine wpAny_pyIter_range (IsRange.new ..) (small_one h1 h2 h3 h4) ?_;have I1:Inv X Ab σ H { s with heap:=s.heap.push { cls:=.type "range",data:=.fields #[.int lo t,.int hi u,.int 1 v] },toks:=tk }:=I.kept fun b o e=>A3 _ e;refine ⟨(s.heap.push { cls:=.type "range",data:=.fields #[.int lo t,.int hi u,.int 1 v] }).objs.size,[(s.heap.push { cls:=.type "range",data:=.fields #[.int lo t,.int hi u,.int 1 v] }).objs.size],_,_,H,rfl,
  I1.kept (t':=tk) fun b o e=>A3 _ e,qPH _ lo (hi - lo).toNat,?_,fun b hb=>?_,q⟩
 ·have e1:lo+((0:Nat):Int) * 1=lo:=by simp
  have e2:(((hi - lo).toNat:Nat):Int) - ((0:Nat):Int)=U2 lo hi 1:=by rw [rangeSize_one];split <;> lia
  show IsRangeIter _ _ (lo+((0:Nat):Int) * 1) ((((hi - lo).toNat:Nat):Int) - ((0:Nat):Int)) 1;rw [e1,e2];exact C1 _ rfl
 ·have e:b=(s.heap.push { cls:=.type "range",data:=.fields #[.int lo t,.int hi u,.int 1 v] }).objs.size:=by simpa using hb
  subst e;exact I1.fpOk (A5 _) (I1.hok.fresh (A5 _))
def qa9 (ta:TA):TI:=fun σ H R=>ta σ H fun vs H1=>∃ j:Int,vs=[.int j]/\-(2 ^ 62)<=j/\j<2 ^ 62/\R (Itr 0 j.toNat) H1
theorem qB8 {a:Expr} {ta:TA} {p pos:Pos} (hg:Gl X "range") (hm:X.mg "range" = none) (ha:PA X [a] ta) (hs:starEach [a] X.env=[(false,eval a X.env)]:=by rfl):PI X tg (.Call (.Name "range" p) [a] [] pos) (qa9 ta):=by
 intro Ab s σ H R I h;refine Call_ (qIG I hg hm boot_range (U8 (thn (ha pos Ab s σ H _ I h) fun us s1 ⟨vs,H1,I1,r1,q1⟩=>?_) hs rfl));obtain ⟨j,e,q1,q2,q⟩:=q1;subst e;cases r1 with
 | cons r rr=>
  cases rr;obtain ⟨t,rfl⟩:=r;exact call_range_1 (range_it I1 (by lia) (by lia) q1 q2 (by simpa using q))
def tFor (wi:TI) (g:TG) (tb:TS):TS:=fun D σ H=>wi σ H fun J H1=>∃ W:Nat->Nat->St->Hp->Prop,(∃ m,W 0 m σ H1)/\∀ i m σ H,W i m σ H->
 (J.stop i H/\D.nx σ H)\/(J.go i H/\∃ N:St->Hp->Prop,(∀ σ' H',N σ' H'->∃ m',m'<m/\W (i+1) m' σ' H')/\∀ x H',J.yld i H x H'->g x σ H' fun σ2 H2=>tb { D with nx:=N,ct:=N,bk:=D.nx } σ2 H2)
noncomputable def qLT (fp:List Addr) (h:Heap):List (Addr × Obj):=fp.filterMap fun b=>(h.get? b).map fun o=>(b,o)
theorem qEW {fp:List Addr} {h:Heap} {b:Addr} {o:Obj} (hb:b ∈ fp) (e:h.get? b=some o):(b,o) ∈ qLT fp h:=A30.mpr ⟨b,hb,by rw [e];rfl⟩
theorem qRQ {fp:List Addr} {h:Heap} {p:Addr × Obj} (hp:p ∈ qLT fp h):p.1 ∈ fp/\h.get? p.1=some p.2:=by
 obtain ⟨b,hb,e⟩:=A30.mp hp;cases q:h.get? b with
 | none=>rw [q] at e;cases e
 | some o=>
  rw [q] at e;have e':(b,o)=p:=D3 e;subst e';exact ⟨hb,q⟩
theorem Inv.pinned {Ab:List (Addr × Obj)} {σ:St} {H:Hp} {s:Shared} {fp:List Addr} (I:Inv X Ab σ H s) (hf:∀ b ∈ fp,FpOk X Ab H b) (ho:∀ b ∈ fp,∃ o,s.heap.get? b=some o/\∀ v,o.data ≠ .cell v):Inv X (Ab++qLT fp s.heap) σ H s:=
 I.pins_of fun p hp=>(A7.mp hp).elim (fun z=>I.pin p (G1 _ z)) fun z=>by
  obtain ⟨hb,e⟩:=qRQ z;obtain ⟨f0,f1,f2,_⟩:=hf p.1 hb;obtain ⟨o,e',d⟩:=ho p.1 hb;rw [e] at e';cases e';exact ⟨e,f0,f1,f2,d⟩
theorem Inv.unpinned {Ab pl:List (Addr × Obj)} {σ:St} {H:Hp} {s:Shared} (I:Inv X (Ab++pl) σ H s):Inv X Ab σ H s:=I.pins_of fun p hp=>I.pin p (G1 _ (A06 _ hp))
theorem qFK {iter:Expr} {body:List Stmt} {wi:TI} {g:TG} {tb:TS} {pos:Pos} (hp:PassesOwn (model X.prog X.w) X.A X.env X.xe) (hc:X.calm=true) (hi:PI X tg iter wi) (hg:PG X tg g) (hb:PSs X body tb)
  (hs:∀ x,foldedSetIterable iter X.env x=pure x:=by intro _;rfl):PS X (.For tg iter body [] pos) (tFor wi g tb):=by
 intro Ab s σ H D I h;refine wpAny_For (thn (hi Ab s σ H _ I h) fun v s1 h1=>thn h1 fun itv s2 h2=>?_) hs;obtain ⟨it,fp,tn,J,H2,e,I2,T,st2,f2,W,⟨m0,w0⟩,turn⟩:=h2;subst e
 -- what stays true of the iterator's objects through the loop
 have stat:∀ {H':Hp},(∀ b ∈ fp,H' b=none)->∀ b ∈ fp,FpOk X Ab H' b:=fun hn b hb=>⟨hn b hb,(f2 b hb).2⟩;refine codeAny_forLoop_any (fun n s'=>∃ i σ' H',Inv X Ab σ' H' s'/\tn i s'.heap/\(∀ b ∈ fp,H' b=none)/\W i n σ' H') ?_ m0 ⟨0,σ,H2,I2,st2,fun b hb=>(f2 b hb).1,w0⟩;rintro n s3 ⟨i,σ3,H3,I3,st3,fr3,w3⟩;rcases turn i n σ3 H3 w3 with ⟨stop,qn⟩ | ⟨go,N,hN,step⟩
 ·refine wpAny_passesOwn hp (thn (T.done X rfl rfl rfl hc i Ab s3 σ3 H3 X.xe I3 (stat fr3) st3 stop) fun r s4 ⟨hr,I4⟩=>?_);subst hr;exact wpAny_execs_nil ⟨σ3,H3,I4,qn⟩
 ·refine wpAny_passesOwn hp (thn (T.item X rfl rfl rfl hc i Ab s3 σ3 H3 X.xe I3 (stat fr3) st3 go) fun r s4 ⟨u,hr,h4⟩=>?_);subst hr;refine wpAny_passesOwn hp (thn h4 fun _ s5 ⟨x,H5,I5,r5,y5,st5,fr5⟩=>?_);have I5':=I5.pinned (stat fr5) (T.obj _ _ st5);refine wpAny_passesOwn hp (thn (hg _ s5 σ3 H5 x u _ I5' r5 (step x H5 y5)) fun _ s6 ⟨σ6,H6,I6,q6⟩=>?_);refine wpAny_passesOwn hp (thn (hb _ s6 σ6 H6 _ I6 q6) fun f s7 q7=>?_);have again:∀ {σ7:St} {H7:Hp},Inv X (Ab++qLT fp s5.heap) σ7 H7 s7->N σ7 H7->∃ m,m<n/\∃ i σ' H',Inv X Ab σ' H' s7/\tn i s7.heap/\(∀ b ∈ fp,H' b=none)/\W i m σ' H':=fun {σ7 H7} I7 n7=>by
   obtain ⟨m',hm,w7⟩:=hN σ7 H7 n7;refine ⟨m',hm,i+1,σ7,H7,I7.unpinned,T.keep _ _ _ st5 fun b hb o e=>(I7.pin (b,o) (G1 _ (G1 _ (qEW hb e)))).1,fun b hb=>?_,w7⟩;obtain ⟨o,e,d⟩:=T.obj _ _ st5 b hb;exact (I7.pin (b,o) (G1 _ (G1 _ (qEW hb e)))).2.1
  cases f with
  | next=>obtain ⟨σ7,H7,I7,n7⟩:=q7;exact again I7 n7
  | cont=>obtain ⟨σ7,H7,I7,n7⟩:=q7;exact again I7 n7
  | brk=>obtain ⟨σ7,H7,I7,q7⟩:=q7;exact ⟨σ7,H7,I7.unpinned,q7⟩
  | ret v=>obtain ⟨x7,σ7,H7,I7,r7,q7⟩:=q7;exact ⟨x7,σ7,H7,I7.unpinned,r7,q7⟩
end
abbrev ForG (I:It) (g:TG) (tb:TS) (D:Ends) (σ:St) (H:Hp):Prop:=∃ W:Nat->Nat->St->Hp->Prop,(∃ m,W 0 m σ H)/\∀ i m σ H,W i m σ H->(I.stop i H/\D.nx σ H)\/(I.go i H/\∃ N:St->Hp->Prop,(∀ σ' H',N σ' H'->∃ m',m'<m/\W (i+1) m' σ' H')/\∀ x H',I.yld i H x H'->g x σ H' fun σ2 H2=>tb { D with nx:=N,ct:=N,bk:=D.nx } σ2 H2)
theorem qUR {K:PySem.W.Frag} {a:Addr} {xs:List V} {g:TG} {tb:TS} {D:Ends} {σ:St} {H:Hp} (Pv:Nat->St->Hp->Prop) (h0:Pv 0 σ H) (hl:∀ i σ H,i<=xs.length->Pv i σ H->SqL K H a xs)
  (hs:∀ i x σ H,xs[i]?=some x->Pv i σ H->g x σ H fun σ2 H2=>tb { D with nx:=Pv (i+1),ct:=Pv (i+1),bk:=D.nx } σ2 H2) (hd:∀ σ H,Pv xs.length σ H->D.nx σ H) :
  ForG (Itl K a) g tb D σ H:=by
 refine ⟨fun i m σ H=>m=xs.length - i/\i<=xs.length/\Pv i σ H,⟨xs.length,by simp,F0 _,h0⟩,?_⟩
 rintro i m σ H ⟨rfl,hi,p⟩;have q:=hl i σ H hi p;by_cases hlt:i<xs.length
 ·refine .inr ⟨⟨xs,xs[i],q,by simp [hlt]⟩,Pv (i+1),fun σ' H' p'=>⟨xs.length - (i+1),by lia,rfl,hlt,p'⟩,fun x H' y=>?_⟩
  obtain ⟨e,y⟩:=y;subst e;exact hs i x σ _ (y xs q) p
 ·have e:i=xs.length:=by lia
  subst e;exact .inl ⟨⟨xs,q,A5 _⟩,hd σ H p⟩
theorem qSO {K:PySem.W.Frag} {a:Addr} {xs:List V} {g:TG} {tb:TS} {D:Ends} {σ:St} {H:Hp} (Pv:Nat->St->Hp->Prop) (h0:Pv 0 σ H) (hl:∀ i σ H,i<=xs.length->Pv i σ H->SqT K H a xs)
  (hs:∀ i x σ H,xs[i]?=some x->Pv i σ H->g x σ H fun σ2 H2=>tb { D with nx:=Pv (i+1),ct:=Pv (i+1),bk:=D.nx } σ2 H2) (hd:∀ σ H,Pv xs.length σ H->D.nx σ H) :
  ForG (Itt K a) g tb D σ H:=by
 refine ⟨fun i m σ H=>m=xs.length - i/\i<=xs.length/\Pv i σ H,⟨xs.length,by simp,F0 _,h0⟩,?_⟩
 rintro i m σ H ⟨rfl,hi,p⟩;have q:=hl i σ H hi p;by_cases hlt:i<xs.length
 ·refine .inr ⟨⟨xs,xs[i],q,by simp [hlt]⟩,Pv (i+1),fun σ' H' p'=>⟨xs.length - (i+1),by lia,rfl,hlt,p'⟩,fun x H' y=>?_⟩
  obtain ⟨e,y⟩:=y;subst e;exact hs i x σ _ (y xs q) p
 ·have e:i=xs.length:=by lia
  subst e;exact .inl ⟨⟨xs,q,A5 _⟩,hd σ H p⟩
theorem qGH {lo:Int} {n:Nat} {g:TG} {tb:TS} {D:Ends} {σ:St} {H:Hp} (Pv:Nat->St->Hp->Prop) (h0:Pv 0 σ H)
  (hs:∀ i σ H,i<n->Pv i σ H->g (.int (lo+i)) σ H fun σ2 H2=>tb { D with nx:=Pv (i+1),ct:=Pv (i+1),bk:=D.nx } σ2 H2) (hd:∀ σ H,Pv n σ H->D.nx σ H) :
  ForG (Itr lo n) g tb D σ H:=by
 refine ⟨fun i m σ H=>m=n - i/\i<=n/\Pv i σ H,⟨n,by simp,F0 _,h0⟩,?_⟩
 rintro i m σ H ⟨rfl,hi,p⟩;by_cases hlt:i<n
 ·refine .inr ⟨hlt,Pv (i+1),fun σ' H' p'=>⟨n - (i+1),by lia,rfl,hlt,p'⟩,fun x H' y=>?_⟩
  obtain ⟨e,y⟩:=y;subst e y;exact hs i σ _ hlt p
 ·have e:i=n:=by lia
  subst e;exact .inl ⟨A5 _,hd σ H p⟩
end L2
namespace L2
open PySem PySem.Spec PyProof.Rows
abbrev R2:=V->V->Hp->VK->Prop
def OpR (X:Cx) (f:Value->Value->Sem Value) (r:R2):Prop:=
 ∀ (Ab:List (Addr × Obj)) (s:Shared) (σ:St) (H:Hp) (x y:V) (v u:Value) (Q:VK),Inv X Ab σ H s->RelV x v->RelV y u->r x y H Q->
  wpAny (model X.prog X.w) X.A (f v u) (EP X Ab σ Q) X.xe s
def UnR (X:Cx) (f:Value->Sem Value) (r:V->Hp->VK->Prop):Prop:=
 ∀ (Ab:List (Addr × Obj)) (s:Shared) (σ:St) (H:Hp) (x:V) (v:Value) (Q:VK),Inv X Ab σ H s->RelV x v->r x H Q->
  wpAny (model X.prog X.w) X.A (f v) (EP X Ab σ Q) X.xe s
def qDT (X:Cx) (f:Value) (r:List V->Hp->VK->Prop):Prop:=
 ∀ (Ab:List (Addr × Obj)) (s:Shared) (σ:St) (H:Hp) (xs:List V) (us:List Value) (Q:VK),Inv X Ab σ H s->Vals xs us->r xs H Q->
  wpAny (model X.prog X.w) X.A (call f us) (EP X Ab σ Q) X.xe s
def TruR (X:Cx) (r:V->Hp->(Bool->Hp->Prop)->Prop):Prop:=
 ∀ (Ab:List (Addr × Obj)) (s:Shared) (σ:St) (H:Hp) (x:V) (v:Value) (Q:Bool->Hp->Prop),Inv X Ab σ H s->RelV x v->r x H Q->
  wpAny (model X.prog X.w) X.A (truthy v) (TP X Ab σ Q) X.xe s
def tOp (r:R2) (ta tb:TE):TE:=fun σ H Q=>ta σ H fun x H1=>tb σ H1 fun y H2=>r x y H2 Q
def tUn (r:V->Hp->VK->Prop) (ta:TE):TE:=fun σ H Q=>ta σ H fun x H1=>r x H1 Q
def rI (C:Int->Int->Prop) (g:Int->Int->V):R2:=fun x y H Q=>∃ i j,x=.int i/\y=.int j/\C i j/\Q (g i j) H
def rI0 (g:Int->Int->V):R2:=fun x y H Q=>∃ i j,x=.int i/\y=.int j/\Q (g i j) H
def rU (g:Int->V):V->Hp->VK->Prop:=fun x H Q=>∃ i,x=.int i/\Q (g i) H
section
variable {X:Cx} {a b c:Expr} {ta tb tc:TE} {pos:Pos}
theorem binT (ha:PE X a ta) (hb:PE X b tb) {Ab:List (Addr × Obj)} {s:Shared} {σ:St} {H:Hp} {R:V->V->Hp->Prop} (I:Inv X Ab σ H s)
  (h:ta σ H fun x H1=>tb σ H1 fun y H2=>R x y H2) {Q:Value->Shared->Prop} {f:Value->Value->Sem Value}
  (hf:∀ v u s2 x y H2,Inv X Ab σ H2 s2->RelV x v->RelV y u->R x y H2->wpAny (model X.prog X.w) X.A (f v u) Q X.xe s2) :
  wpAny (model X.prog X.w) X.A (eval a X.env) (fun v s₁=>wpAny (model X.prog X.w) X.A (eval b X.env) (fun u s₂=>wpAny (model X.prog X.w) X.A (f v u) Q X.xe s₂) X.xe s₁) X.xe s:=by
 refine thn (ha Ab s σ H _ I h) fun v s1 ⟨x,H1,I1,r1,q1⟩=>?_;refine thn (hb Ab s1 σ H1 _ I1 q1) fun u s2 ⟨y,H2,I2,r2,q2⟩=>?_;exact hf v u s2 x y H2 I2 r1 r2 q2
theorem qAQ {op:Operator} {r:R2} (ho:OpR X (binaryOp op) r) (ha:PE X a ta) (hb:PE X b tb):PE X (.BinOp a op b pos) (tOp r ta tb):=by
 intro Ab s σ H Q I h;exact wpAny_BinOp (binT ha hb I h fun v u s2 x y H2 I2 rx ry q=>ho Ab s2 σ H2 x y v u Q I2 rx ry q)
theorem qY9 {op:UnaryOp} {r:V->Hp->VK->Prop} (ho:UnR X (unaryOp op) r) (ha:PE X a ta):PE X (.UnaryOp op a pos) (tUn r ta):=by
 intro Ab s σ H Q I h;exact UnaryOp_ (thn (ha Ab s σ H _ I h) fun v s1 ⟨x,H1,I1,r1,q1⟩=>ho Ab s1 σ H1 x v Q I1 r1 q1)
theorem opI {f:Value->Value->Sem Value} {C:Int->Int->Prop} {g:Int->Int->Int}
  (rule:∀ (i j:Int) (t u:Tok) (s:Shared) (Q:Value->Shared->Prop) (E:Value->Shared->Prop),C i j->Q (.int (g i j) s.toks) { s with toks:=s.toks+1 }->wpAny (model X.prog X.w) X.A (f (.int i t) (.int j u)) Q E s) :
  OpR X f (rI C fun i j=>.int (g i j)):=by
 intro Ab s σ H x y v u Q I rx ry h;obtain ⟨i,j,rfl,rfl,hc,q⟩:=h;obtain ⟨t,rfl⟩:=rx;obtain ⟨t',rfl⟩:=ry;exact rule i j t t' s _ _ hc ⟨.int (g i j),H,I.tok _,⟨_,rfl⟩,q⟩
theorem opI0 {f:Value->Value->Sem Value} {g:Int->Int->Int}
  (rule:∀ (i j:Int) (t u:Tok) (s:Shared) (Q:Value->Shared->Prop) (E:Value->Shared->Prop),Q (.int (g i j) s.toks) { s with toks:=s.toks+1 }->wpAny (model X.prog X.w) X.A (f (.int i t) (.int j u)) Q E s) :
  OpR X f (rI0 fun i j=>.int (g i j)):=by
 intro Ab s σ H x y v u Q I rx ry h;obtain ⟨i,j,rfl,rfl,q⟩:=h;obtain ⟨t,rfl⟩:=rx;obtain ⟨t',rfl⟩:=ry;exact rule i j t t' s _ _ ⟨.int (g i j),H,I.tok _,⟨_,rfl⟩,q⟩
theorem opB0 {f:Value->Value->Sem Value} {g:Int->Int->Bool}
  (rule:∀ (i j:Int) (t u:Tok) (s:Shared) (Q:Value->Shared->Prop) (E:Value->Shared->Prop),Q (.bool (g i j)) s->wpAny (model X.prog X.w) X.A (f (.int i t) (.int j u)) Q E s) :
  OpR X f (rI0 fun i j=>.bl (g i j)):=by
 intro Ab s σ H x y v u Q I rx ry h;obtain ⟨i,j,rfl,rfl,q⟩:=h;obtain ⟨t,rfl⟩:=rx;obtain ⟨t',rfl⟩:=ry;exact rule i j t t' s _ _ ⟨.bl (g i j),H,I,rfl,q⟩
def CDiv (i j:Int):Prop:=0<j/\j<1073741824
def CPow (i j:Int):Prop:=0<=j/\j<=1000000/\i.natAbs<2 ^ 64
def CMul (i j:Int):Prop:=(-(2 ^ 64)<i/\i<2 ^ 64)\/(-(2 ^ 64)<j/\j<2 ^ 64)
theorem CMul.ok {i j:Int} (h:CMul i j):IntMulOk i j:=by
 rcases h with ⟨h1,h2⟩ | ⟨h1,h2⟩
 ·exact .of_left (intBits_le_64 h1 h2)
 ·exact .of_right (intBits_le_64 h1 h2)
theorem qBV:OpR X (binaryOp .Add) (rI0 fun i j=>.int (i+j)):=opI0 fun _ _ _ _ _ _ _ q=>add_int q
theorem qE9:OpR X (binaryOp .Sub) (rI0 fun i j=>.int (i - j)):=opI0 fun _ _ _ _ _ _ _ q=>sub_int q
theorem qJQ:OpR X (binaryOp .Mult) (rI CMul fun i j=>.int (i * j)):=opI fun _ _ _ _ _ _ _ hc q=>mul_int q hc.ok
theorem qKJ:OpR X (binaryOp .FloorDiv) (rI CDiv fun i j=>.int (i / j)):=opI fun i j _ _ _ _ _ hc q=>by
 have h1:(0:Int)<j:=hc.1;have h2:j<1073741824:=hc.2;exact floordiv_int (by lia) (by rw [i8 i (by lia)];exact q) (.inl (u8 (by lia)))
theorem qI9:OpR X (binaryOp .Mod) (rI (fun _ j=>0<j) fun i j=>.int (i % j)):=opI fun i j _ _ _ _ _ hc q=>by
 have h1:(0:Int)<j:=hc;exact mod_int' (by lia) (by rw [i9 i (by lia)];exact q)
theorem qYB:OpR X (binaryOp .Pow) (rI CPow fun i j=>.int (i ^ j.toNat)):=opI fun _ _ _ _ _ _ _ hc q=>pow_int_small hc.1 hc.2.1 hc.2.2 q
theorem unI {f:Value->Sem Value} {g:Int->Int}
  (rule:∀ (i:Int) (t:Tok) (s:Shared) (Q:Value->Shared->Prop) (E:Value->Shared->Prop),Q (.int (g i) s.toks) { s with toks:=s.toks+1 }->wpAny (model X.prog X.w) X.A (f (.int i t)) Q E s) :
  UnR X f (rU fun i=>.int (g i)):=by
 intro Ab s σ H x v Q I rx h;obtain ⟨i,rfl,q⟩:=h;obtain ⟨t,rfl⟩:=rx;exact rule i t s _ _ ⟨.int (g i),H,I.tok _,⟨_,rfl⟩,q⟩
theorem qV6:UnR X (unaryOp .USub) (rU fun i=>.int (-i)):=unI fun _ _ _ _ _ q=>neg_int q
end
noncomputable def scal:V->V->Bool
 | .non,.non=>true | .non,.int _=>true | .int _,.non=>true | .non,.bl _=>true | .bl _,.non=>true | .non,.str _=>true | .str _,.non=>true
 | .int _,.int _=>true | .bl _,.bl _=>true | .str _,.str _=>true | .byt _,.byt _=>true
 | .int _,.str _=>true | .str _,.int _=>true | .bl _,.str _=>true | .str _,.bl _=>true
 | _,_=>false
def rEq:R2:=fun x y H Q=>scal x y=true/\Q (.bl (decide (x=y))) H
def rNe:R2:=fun x y H Q=>scal x y=true/\Q (.bl (!decide (x=y))) H
theorem qNX {i j:Int}:decide (V.int i=V.int j)=(i == j):=by
 rw [Q1];simp
theorem qVS {i j:Bool}:decide (V.bl i=V.bl j)=(i == j):=by
 rw [Q1];simp
theorem qNW {i j:Str}:decide (V.str i=V.str j)=(i == j):=by
 rw [Q1];simp
theorem qT1 {i j:Array UInt8}:decide (V.byt i=V.byt j)=(i.toList == j.toList):=by
 rw [Q1];cases i;cases j;simp
section
variable {X:Cx} {a b c:Expr} {ta tb tc:TE} {pos:Pos}
theorem qB6 {Ab:List (Addr × Obj)} {σ:St} {H:Hp} {s:Shared} {Q:VK} {k k':Bool} (I:Inv X Ab σ H s) (q:Q (.bl k) H) (e:k=k'):EP X Ab σ Q (.bool k') s:=by
 subst e;exact ⟨.bl k,H,I,rfl,q⟩
theorem qFO:OpR X (compareOp .Eq) rEq:=by
 intro Ab s σ H x y v u Q I rx ry h;obtain ⟨hs,q⟩:=h;cases x with
 | non=>
  cases rx;cases y with
  | non=>cases ry;exact PySem.EqNone.eq_none_none (qB6 I q (by simp))
  | bl j=>cases ry;exact PySem.EqNone.eq_none_bool (qB6 I q (by simp))
  | int j=>obtain ⟨t',rfl⟩:=ry;exact PySem.EqNone.eq_none_int (qB6 I q (by simp))
  | str j=>obtain ⟨t',rfl⟩:=ry;exact PySem.EqNone.eq_none_str (qB6 I q (by simp))
  | _=>exact absurd (show false=true from hs) B0
 | bl i=>
  cases rx;cases y with
  | non=>cases ry;exact PySem.EqNone.eq_bool_none (qB6 I q (by simp))
  | bl j=>cases ry;exact eq_bool (qB6 I q qVS)
  | str j=>obtain ⟨t',rfl⟩:=ry;exact PySem.EqMixed.eq_bool_str (qB6 I q (by simp))
  | _=>exact absurd (show false=true from hs) B0
 | int i=>
  obtain ⟨t,rfl⟩:=rx;cases y with
  | non=>cases ry;exact PySem.EqNone.eq_int_none (qB6 I q (by simp))
  | int j=>obtain ⟨t',rfl⟩:=ry;exact eq_int (qB6 I q qNX)
  | str j=>obtain ⟨t',rfl⟩:=ry;exact PySem.EqMixed.eq_int_str (qB6 I q (by simp))
  | _=>exact absurd (show false=true from hs) B0
 | str i=>
  obtain ⟨t,rfl⟩:=rx;cases y with
  | non=>cases ry;exact PySem.EqNone.eq_str_none (qB6 I q (by simp))
  | bl j=>cases ry;exact PySem.EqMixed.eq_str_bool (qB6 I q (by simp))
  | int j=>obtain ⟨t',rfl⟩:=ry;exact PySem.EqMixed.eq_str_int (qB6 I q (by simp))
  | str j=>obtain ⟨t',rfl⟩:=ry;exact eq_str (qB6 I q qNW)
  | _=>exact absurd (show false=true from hs) B0
 | byt i=>
  obtain ⟨t,rfl⟩:=rx;cases y with
  | byt j=>obtain ⟨t',rfl⟩:=ry;exact PySem.W.eq_bytes (qB6 I q qT1)
  | _=>exact absurd (show false=true from hs) B0
 | _=>cases y <;> exact absurd (show false=true from hs) B0
theorem qRK:OpR X (compareOp .NotEq) rNe:=by
 intro Ab s σ H x y v u Q I rx ry h;obtain ⟨hs,q⟩:=h;cases x with
 | non=>
  cases rx;cases y with
  | non=>cases ry;exact PySem.EqNone.ne_none_none (qB6 I q (by simp))
  | bl j=>cases ry;exact PySem.EqNone.ne_none_bool (qB6 I q (by simp))
  | int j=>obtain ⟨t',rfl⟩:=ry;exact PySem.EqNone.ne_none_int (qB6 I q (by simp))
  | str j=>obtain ⟨t',rfl⟩:=ry;exact PySem.EqNone.ne_none_str (qB6 I q (by simp))
  | _=>exact absurd (show false=true from hs) B0
 | bl i=>
  cases rx;cases y with
  | non=>cases ry;exact PySem.EqNone.ne_bool_none (qB6 I q (by simp))
  | bl j=>cases ry;exact ne_bool (qB6 I q (congrArg not qVS))
  | str j=>obtain ⟨t',rfl⟩:=ry;exact PySem.EqMixed.ne_bool_str (qB6 I q (by simp))
  | _=>exact absurd (show false=true from hs) B0
 | int i=>
  obtain ⟨t,rfl⟩:=rx;cases y with
  | non=>cases ry;exact PySem.EqNone.ne_int_none (qB6 I q (by simp))
  | int j=>obtain ⟨t',rfl⟩:=ry;exact ne_int (qB6 I q (congrArg not qNX))
  | str j=>obtain ⟨t',rfl⟩:=ry;exact PySem.EqMixed.ne_int_str (qB6 I q (by simp))
  | _=>exact absurd (show false=true from hs) B0
 | str i=>
  obtain ⟨t,rfl⟩:=rx;cases y with
  | non=>cases ry;exact PySem.EqNone.ne_str_none (qB6 I q (by simp))
  | bl j=>cases ry;exact PySem.EqMixed.ne_str_bool (qB6 I q (by simp))
  | int j=>obtain ⟨t',rfl⟩:=ry;exact PySem.EqMixed.ne_str_int (qB6 I q (by simp))
  | str j=>obtain ⟨t',rfl⟩:=ry;exact ne_str (qB6 I q (congrArg not qNW))
  | _=>exact absurd (show false=true from hs) B0
 | byt i=>
  obtain ⟨t,rfl⟩:=rx;cases y with
  | byt j=>obtain ⟨t',rfl⟩:=ry;exact PySem.W.ne_bytes (qB6 I q (congrArg not qT1))
  | _=>exact absurd (show false=true from hs) B0
 | _=>cases y <;> exact absurd (show false=true from hs) B0
theorem qPS:OpR X (compareOp .Lt) (rI0 fun i j=>.bl (decide (i<j))):=opB0 fun _ _ _ _ _ _ _ q=>lt_int q
theorem qPT:OpR X (compareOp .Gt) (rI0 fun i j=>.bl (decide (j<i))):=opB0 fun _ _ _ _ _ _ _ q=>gt_int q
theorem qWL:OpR X (compareOp .GtE) (rI0 fun i j=>.bl (decide (j<=i))):=opB0 fun _ _ _ _ _ _ _ q=>ge_int q
theorem qAV (b:Expr) {op:CmpOp} (h:op ≠ .In:=by decide) (h2:op ≠ .NotIn:=by decide):behindInMarks op b=false:=by
 have e1:(op == CmpOp.In)=false:=by cases op <;> first | rfl | exact absurd rfl h
 have e2:(op == CmpOp.NotIn)=false:=by cases op <;> first | rfl | exact absurd rfl h2
 cases b <;> simp [behindInMarks,e1,e2]
theorem qI7 {op:CmpOp} {r:R2} (ho:OpR X (compareOp op) r) (ha:PE X a ta) (hb:PE X b tb) (hm:behindInMarks op b=false):PE X (.Compare a [op] [b] pos) (tOp r ta tb):=by
 intro Ab s σ H Q I h;exact wpAny_Compare1 (binT ha hb I h fun v u s2 x y H2 I2 rx ry q=>ho Ab s2 σ H2 x y v u Q I2 rx ry q) hm
def qZ7 (t:TE):TT:=fun σ H Q=>t σ H fun x H'=>∃ k,x=.bl k/\Q k H'
theorem qAL {op:CmpOp} {r:R2} (ho:OpR X (compareOp op) r) (ha:PE X a ta) (hb:PE X b tb) (hm:behindInMarks op b=false):PT X (.Compare a [op] [b] pos) (qZ7 (tOp r ta tb)):=by
 intro Ab s σ H Q I h;refine wpAny_isTrue_Compare1 (thn (ha Ab s σ H _ I h) fun v s1 ⟨x,H1,I1,r1,q1⟩=>thn (hb Ab s1 σ H1 _ I1 q1) fun u s2 ⟨y,H2,I2,r2,q2⟩=>
  thn (ho Ab s2 σ H2 x y v u _ I2 r1 r2 q2) fun c s3 ⟨z,H3,I3,r3,k,e,q3⟩=>?_) hm
 subst e;cases r3;exact wpAny_truthy_bool ⟨H3,I3,q3⟩
def TruV (K:PySem.W.Frag) (x:V) (H:Hp) (k:Bool):Prop:=
 match x with
 | .non=>k=false
 | .bl b=>k=b
 | .int i=>k=(i != 0)
 | .str y=>y.length<=sizeLine/\k=((y.length:Int) != 0)
 | .byt y=>y.size<=sizeLine/\k=((y.size:Int) != 0)
 | .ref p=>(∃ xs,SqL K H p xs/\k=!xs.isEmpty)\/(∃ xs,SqT K H p xs/\k=!xs.isEmpty)\/∃ Ag,H p=some (.dK Ag)/\k=!Ag.isEmpty
 | _=>False
theorem qQ6 {κ:Type} {Ag:List (κ × V)} {vs:List (κ × Value)} (r:KV Ag vs):(!vs.isEmpty)=!Ag.isEmpty:=by
 cases r <;> rfl
theorem qJW {xs:List V} {its:List Value} (r:Vals xs its):(!its.toArray.isEmpty)=!xs.isEmpty:=by
 cases r <;> simp
theorem qM2:(sizeLine:Nat)<2 ^ 63:=by rw [sizeLine_eq];decide
theorem qXO:TruR X (fun x H Q=>∃ k,TruV X.K x H k/\Q k H):=by
 intro Ab s σ H x v Q I rx h;obtain ⟨k,e,q⟩:=h;have hl:=qM2;have hs:sizeLine=16777216:=sizeLine_eq;cases x with
 | non=>
  cases rx;have e':k=false:=e;subst e';exact truthy_none ⟨H,I,q⟩
 | bl b=>
  cases rx;have e':k=b:=e;subst e';exact wpAny_truthy_bool ⟨H,I,q⟩
 | int i=>
  obtain ⟨t,rfl⟩:=rx;have e':k=(i != 0):=e;subst e';exact PySem.P.truthy_int ⟨H,I,q⟩
 | str y=>
  obtain ⟨t,rfl⟩:=rx;obtain ⟨hy,e'⟩:y.length<=sizeLine/\k=((y.length:Int) != 0):=e;subst e';exact PySem.P.truthy_str (by lia) ⟨H,I.tok _,q⟩
 | byt y=>
  obtain ⟨t,rfl⟩:=rx;obtain ⟨hy,e'⟩:y.size<=sizeLine/\k=((y.size:Int) != 0):=e;subst e';exact PySem.W.truthy_bytes (by lia) ⟨H,I.tok _,q⟩
 | ref p=>
  cases rx;have e':(∃ xs,SqL X.K H p xs/\k=!xs.isEmpty)\/(∃ xs,SqT X.K H p xs/\k=!xs.isEmpty)\/∃ Ag,H p=some (.dK Ag)/\k=!Ag.isEmpty:=e;rcases e' with ⟨xs,hx,e'⟩ | ⟨xs,hx,e'⟩ | ⟨Ag,hx,e'⟩
  ·subst e';obtain ⟨its,r,pl,hz⟩:=I.list hx;have hlen:=r.length;exact wpAny_truthy_list pl.isList (by simp only [B4];lia) ⟨H,I.tok _,by rw [qJW r];exact q⟩
  ·subst e';obtain ⟨its,r,pl,hz⟩:=I.tuple hx;have hlen:=r.length;exact truthy_tuple pl (by simp only [B4];lia) ⟨H,I.tok _,by rw [qJW r];exact q⟩
  ·subst e';obtain ⟨hz,hS,vs,r,m⟩:Ag.length<=sizeLine/\(p == sysModules)=false/\∃ vs,KV Ag vs/\s.heap.DictOf (qCG X.prog X.w) p vs:=I.hok p _ hx;have hlen:Ag.length=vs.length:=B9 r;exact wpAny_truthy_dict hS m (by lia) ⟨H,I.tok _,by rw [qQ6 r];exact q⟩
 | _=>exact (show False from e).elim
theorem qKG (ha:PE X a ta) (he:∀ whole,isTrue a X.env whole=(do let v <- whole;standAt a.pos;holding [v] (truthy v))) :
  PT X a (fun σ H Q=>ta σ H fun x H'=>∃ k,TruV X.K x H' k/\Q k H'):=by
 intro Ab s σ H Q I h;exact isTrue_plain (thn (ha Ab s σ H _ I h) fun v s1 ⟨x,H1,I1,r1,q1⟩=>qXO Ab s1 σ H1 x v Q I1 r1 q1) (he _)
theorem qE2 {x:V} {us:List Value} (r:Vals [x] us):∃ u,us=[u]/\RelV x u:=by
 cases r with
 | cons r1 r2=>cases r2;exact ⟨_,rfl,r1⟩
theorem qTO {x y:V} {us:List Value} (r:Vals [x,y] us):∃ u w',us=[u,w']/\RelV x u/\RelV y w':=by
 cases r with
 | cons r1 r2=>
  cases r2 with
  | cons r3 r4=>cases r4;exact ⟨_,_,rfl,r1,r3⟩
theorem qT9 (hc:X.calm=true):qDT X (.builtin "max") (fun xs H Q=>∃ i j,xs=[.int i,.int j]/\Q (.int (if j > i then j else i)) H):=by
 intro Ab s σ H xs us Q I r h;obtain ⟨i,j,rfl,q⟩:=h;obtain ⟨u,w',rfl,⟨t,rfl⟩,⟨t',rfl⟩⟩:=qTO r;refine max_two_ints (I.ok.hd hc) fun h' tk k=>⟨_,H,I.kept k,?_,q⟩;by_cases hj:j > i
 ·rw [if_pos hj,if_pos hj];exact ⟨_,rfl⟩
 ·rw [if_neg hj,if_neg hj];exact ⟨_,rfl⟩
theorem qEO (hc:X.calm=true):qDT X (.builtin "min") (fun xs H Q=>∃ i j,xs=[.int i,.int j]/\Q (.int (if j<i then j else i)) H):=by
 intro Ab s σ H xs us Q I r h;obtain ⟨i,j,rfl,q⟩:=h;obtain ⟨u,w',rfl,⟨t,rfl⟩,⟨t',rfl⟩⟩:=qTO r;refine min_two_ints (I.ok.hd hc) fun h' tk k=>⟨_,H,I.kept k,?_,q⟩;by_cases hj:j<i
 ·rw [if_pos hj,if_pos hj];exact ⟨_,rfl⟩
 ·rw [if_neg hj,if_neg hj];exact ⟨_,rfl⟩
theorem qIZ:qDT X (.type "int") (fun xs H Q=>(∃ i,xs=[.int i]/\Q (.int i) H)\/∃ k,xs=[.bl k]/\Q (.int (if k then 1 else 0)) H):=by
 intro Ab s σ H xs us Q I r h;rcases h with ⟨i,rfl,q⟩ | ⟨k,rfl,q⟩
 ·obtain ⟨u,rfl,t,rfl⟩:=qE2 r;exact call_int_int ⟨.int i,H,I,⟨_,rfl⟩,q⟩
 ·obtain ⟨u,rfl,r1⟩:=qE2 r;cases r1;exact call_int_bool ⟨.int (if k then 1 else 0),H,I.tok _,⟨_,rfl⟩,q⟩
theorem qO0:qDT X (.builtin "divmod") (fun xs H Q=>∃ i j,xs=[.int i,.int j]/\CDiv i j/\∀ p,H p=none->Q (.ref p) (Ah H p (.tup [.int (i / j),.int (i % j)]))):=by
 intro Ab s σ H xs us Q I r h;obtain ⟨i,j,rfl,⟨h1,h2⟩,q⟩:=h;obtain ⟨u,w',rfl,⟨t,rfl⟩,⟨t',rfl⟩⟩:=qTO r;refine divmod_int (by lia) ?_ (.inl (u8 (by lia)))
 rw [i8 i (by lia),i9 i (by lia)]
 have hn:H s.heap.objs.size=none:=I.hok.fresh (A5 _);refine ⟨.ref s.heap.objs.size,_,?_,rfl,q _ hn⟩;refine I.laid (fun b o e=>A3 _ e) (A5 _) ⟨by simp only [E3,L9];rw [sizeLine_eq];decide,[.int (i / j) s.toks,.int (i % j) (s.toks+1)],.cons ⟨_,rfl⟩ (.cons ⟨_,rfl⟩ .nil),?_⟩
 exact ⟨_,C1 s.heap rfl,rfl,0,rfl⟩
end
end L2
namespace L2
open PySem PySem.Spec PyProof.Rows
structure ObjM (h:Heap) (x dx C:Addr) (mA:Str->Option Value):Prop where
 obj:h.get? x=some (A71 C dx)
 ns:h.Ns1 dx mA
 ne:dx ≠ x
section
variable {prog:Program} {w:World} {A:Around} {E:Value->Shared->Prop} {s:Shared} {K:PySem.W.Frag} {x dx C f:Addr} {mA:Str->Option Value} {name:Str} {v:Value}
end
noncomputable def putF (f:Str) (v:V):List (Str × V)->List (Str × V)
 | []=>[(f,v)]
 | (g,x)::r=>if g=f then (g,v)::r else (g,x)::putF f v r
theorem RelO.some_of {v:V} {o:Option Value} (r:RelO (some v) o):∃ u,o=some u/\RelV v u:=by
 cases o with
 | none=>exact (show False from r).elim
 | some u=>exact ⟨u,rfl,r⟩
section
variable {P:Program} {w:World} {H H':Hp} {h h':Heap} {a C dx:Addr} {fs fs':List (Str × V)}
end
structure Cls (K:PySem.W.Frag) (C:Addr):Prop where
 pg:PySem.W.plainGet K C P5=true
 hd:A41 K C=true
 po:PySem.W.plainOver K C=true
 sa:O9 K (.ref C) "__setattr__" = some (some (.builtin "object.__setattr__"))
def qPD (K:PySem.W.Frag) (C:Addr) (f:Str):Prop:=O9 K (.ref C) f=some none
structure Con (K:PySem.W.Frag) (C:Addr) (f:Str) (v:V) (u:Value):Prop where
 at_:O9 K (.ref C) f=some (some u)
 rel:RelV v u
 get:o5 K u "__get__" = some none
 cp:PySem.W.copiedNames.contains f=false
structure Meth (K:PySem.W.Frag) (C:Addr) (m:Str) (f:Addr):Prop where
 at_:O9 K (.ref C) m=some (some (.ref f))
 fn:B02 K (.ref f)=true
 kp:M3 K (.ref f)=true
section
variable {X:Cx} {Ab:List (Addr × Obj)} {σ:St} {H:Hp} {s:Shared} {a C dx:Addr} {fs:List (Str × V)} {f:Str} {v:V} {A:Around} {E:Value->Shared->Prop}
end
section
variable {X:Cx} {o e value:Expr} {f:Str} {pos pos' tpos:Pos} {ta tv:TE}
end
section
variable {X:Cx} {Ab:List (Addr × Obj)} {σ:St} {H:Hp} {s:Shared} {A:Around} {E:Value->Shared->Prop} {Q:Value->Shared->Prop} {c:Value} {b:Bool}
inductive TyOf (K:PySem.W.Frag) (H:Hp):V->Value->Prop where
 | non:TyOf K H .non (.type "NoneType")
 | bl (x:Bool):TyOf K H (.bl x) (.type "bool")
 | int (i:Int):TyOf K H (.int i) (.type "int")
 | str (x:Str):TyOf K H (.str x) (.type "str")
 | flt (x:UInt64):TyOf K H (.flt x) (.type "float")
 | lst {a:Addr} {xs:List V} (e:H a=some (.lst xs)):TyOf K H (.ref a) (.type "list")
 | frz {a:Addr} {o:Obj} {xs:List V} (e:H a=some (.frz o (.lst xs))):TyOf K H (.ref a) (.type "list")
 | tup {a:Addr} {xs:List V} (e:H a=some (.tup xs)):TyOf K H (.ref a) (.type "tuple")
 | dK {a:Addr} {Ag:List (Key × V)} (e:H a=some (.dK Ag)):TyOf K H (.ref a) (.type "dict")
 | dT {a:Addr} {Ag:List (List KI × V)} (e:H a=some (.dT Ag)):TyOf K H (.ref a) (.type "dict")
 | ins {a C dx:Addr} {fs:List (Str × V)} (e:H a=some (.ins C dx fs)) (cl:Cls K C) (ha:O9 K (.ref C) "__class__" = some (some (.builtin "object.__class__")))
   (hn:o5 K (.builtin "object.__class__") "__get__" = some (some (.builtin "getset_descriptor.__get__"))) (htk:A72 K (.builtin "object.__class__")=some true)
   (hm:A31 K C (.type "object")=some true):TyOf K H (.ref a) (.ref C)
end
end L2
namespace L2
open PySem PySem.Spec PyProof.Rows
structure Room (k:Nat) (A:Around):Prop where
 hd:A.handled=none
 dp:A.depth+3 * k+5<recursionLimit
 un:A.units+16 * k+200<cLine
 gd:A.guards=some []
theorem Room.mono {j k:Nat} {A:Around} (r:Room k A) (h:j<=k):Room j A:=⟨r.hd,by have:=r.dp;lia,by have:=r.un;lia,r.gd⟩
theorem Room.deeper {k:Nat} {A:Around} (r:Room (k+1) A) (env:Env):Room k (A.deeper env):=
 ⟨r.hd,by have:=r.dp;show A.depth+1+3 * k+5<_;lia,by have:=r.un;show A.units+3+16 * k+200<_;lia,r.gd⟩
theorem Room.in1 {k:Nat} {A:Around} (r:Room (k+1) A):Room k A.in1:=
 ⟨r.hd,by have:=r.dp;show A.depth+3 * k+5<_;lia,by have:=r.un;show A.units+1+16 * k+200<_;lia,r.gd⟩
theorem Room.depth {k:Nat} {A:Around} (r:Room k A):A.depth<recursionLimit:=by have:=r.dp;lia
theorem Room.units {k:Nat} {A:Around} (r:Room k A):A.units+64<cLine:=by have:=r.un;lia
theorem Room.units0 {k:Nat} {A:Around} (r:Room k A):A.units<cLine:=by have:=r.un;lia
def tNil:TA:=fun _ H Q=>Q [] H
def qLH (ta:TE) (tr:TA):TA:=fun σ H Q=>ta σ H fun x H1=>tr σ H1 fun xs H2=>Q (x::xs) H2
section
variable {X:Cx} {e:Expr} {es:List Expr} {te:TE} {t:TA} {pos:Pos}
theorem qA4:PA X [] tNil:=fun _ _ _ _ H Q I h=>Calls.spliced_nil ⟨[],H,I,.nil,h⟩
theorem qA0 (ha:PE X e te) (hr:PA X es t) (hs:starEach (e::es) X.env=(false,eval e X.env)::starEach es X.env:=by rfl):PA X (e::es) (qLH te t):=by
 intro pos Ab s σ H Q I h;rw [hs];show wpAny _ _ (spliced ((false,eval e X.env)::backTo pos (starEach es X.env))) _ _ s;refine Calls.spliced_cons (thn (ha Ab s σ H _ I h) fun u s1 ⟨x,H1,I1,r1,q1⟩=>?_);exact thn (hr pos Ab s1 σ H1 _ I1 q1) fun us s2 ⟨xs,H2,I2,r2,q2⟩=>⟨x::xs,H2,I2,.cons r1 r2,q2⟩
def tTup (t:TA):TE:=fun σ H Q=>t σ H fun xs H1=>xs.length<=sizeLine/\∀ p,H1 p=none->Q (.ref p) (Ah H1 p (.tup xs))
def tLst (t:TA):TE:=fun σ H Q=>t σ H fun xs H1=>xs.length<=sizeLine/\∀ p,H1 p=none->Q (.ref p) (Ah H1 p (.lst xs))
theorem qBH {x1} (h:PA X es t):PE X (.Tuple es x1 pos) (tTup t):=by
 intro Ab s σ H Q I hq;refine wpAny_Tuple_spliced (thn (h pos Ab s σ H _ I hq) fun us s1 ⟨xs,H1,I1,r,z,q⟩=>⟨by rw [<- r.length];exact z,?_⟩)
 have hf:H1 s1.heap.objs.size=none:=I1.hok.fresh (A5 _);refine ⟨.ref s1.heap.objs.size,Ah H1 s1.heap.objs.size (.tup xs),I1.laid (t':=s1.toks) (fun b u e=>A3 _ e) (A5 _) ?_,rfl,q _ hf⟩;exact ⟨z,us,r,⟨_,C1 _ rfl,rfl,_,rfl⟩⟩
theorem qBN (h:PA X es t):PE X (.List es pos) (tLst t):=by
 intro Ab s σ H Q I hq;refine wpAny_List_spliced (thn (h pos Ab s σ H _ I hq) fun us s1 ⟨xs,H1,I1,r,z,q⟩=>⟨by rw [<- r.length];exact z,?_⟩)
 have hf:H1 s1.heap.objs.size=none:=I1.hok.fresh (A5 _);refine ⟨.ref s1.heap.objs.size,Ah H1 s1.heap.objs.size (.lst xs),I1.laid (t':=s1.toks) (fun b u e=>A3 _ e) (A5 _) ?_,rfl,q _ hf⟩;exact ⟨z,us,0,r,C1 _ rfl⟩
end
abbrev Sp:=List V->Hp->VK->XK->Prop
abbrev CXT:=List Env->Hp->Shared->XK->Value->Shared->Prop
structure Env0 (P:Program) (w:World) (K:PySem.W.Frag) (mg:Str->Option Value) (base:Heap) (A:Around) (outer:List Env) (s:Shared) (H:Hp):Prop where
 frames:A.frames=some outer
 mod:Mod K mg base
 bs:∀ b o,base.get? b=some o->s.heap.get? b=some o/\H b=none
 bsz:base.objs.size<=s.heap.objs.size
 funs:s.heap.FunFrames base outer
 frf:∀ b ∈ frs outer,H b=none
 hok:HOk P w H s.heap
 bare:AllBare s.gens
def CE (outer:List Env) (P:Program) (w:World) (H:Hp) (s:Shared) (Q:VK) (u:Value) (s':Shared):Prop:=
 ∃ v H',s'.os=s.os/\AllBare s'.gens/\Un (frs outer) [] H H' s.heap s'.heap/\HOk P w H' s'.heap/\RelV v u/\Q v H'
def CR (CX:CXT) (outer:List Env) (P:Program) (w:World) (H:Hp) (s:Shared) (Q:VK) (E:XK) (r:Result) (s':Shared):Prop:=
 match r with
 | .ok (.ret u)=>CE outer P w H s Q u s'
 | .ok _=>False
 | .error e=>CX outer H s E e s'
structure FnOk (P:Program) (w:World) (K:PySem.W.Frag) (mg:Str->Option Value) (base:Heap) (CX:CXT) (k:Nat) (f:Addr) (fd:FuncData) (ps:List Str) (sp:Sp):Prop where
 len:∀ vs H Q E,sp vs H Q E->vs.length=ps.length
 run:∀ (A:Around) (outer:List Env) (s:Shared) (H:Hp) (args:Args) (us:List Value) (vs:List V) (Q:VK) (E:XK),Room k A->Env0 P w K mg base A outer s H->BindsTo s fd args (ps.zip us)->Vals vs us->sp vs H Q E->
  codeAny (model P w) A (.call (.ref f) args) (CR CX outer P w H s Q E) s
theorem FnOk.imp {P:Program} {w:World} {K:PySem.W.Frag} {mg:Str->Option Value} {base:Heap} {CX:CXT} {k:Nat} {f:Addr} {fd:FuncData} {ps:List Str} {sp sp':Sp} (F:FnOk P w K mg base CX k f fd ps sp)
  (h:∀ vs H Q E,sp' vs H Q E->sp vs H Q E):FnOk P w K mg base CX k f fd ps sp':=
 ⟨fun vs H Q E q=>F.len vs H Q E (h _ _ _ _ q),fun A outer s H args us vs Q E hr he hb hv hs=>F.run A outer s H args us vs Q E hr he hb hv (h _ _ _ _ hs)⟩
section
variable {X:Cx} {Ab:List (Addr × Obj)} {σ:St} {H:Hp} {s s':Shared}
theorem Inv.env0 (I:Inv X Ab σ H s):Env0 X.prog X.w X.K X.mg X.base X.A X.stack s H:=
 ⟨I.ok.frames,I.ok.mod,I.bs,F3 I.ok.bsz I.sz,I.stack,I.stkFree,I.hok,I.bare⟩
theorem Inv.after {Q:VK} {u:Value} (I:Inv X Ab σ H s) (h:CE X.stack X.prog X.w H s Q u s'):EP X Ab σ Q u s':=by
 obtain ⟨v,H',os,bare,un,hok,r,q⟩:=h;obtain ⟨hh,g,d,t,os'⟩:=s';obtain rfl:os'=s.os:=os;exact ⟨v,H',I.call (h':=hh) (g':=g) (d':=d) (t':=t) (ch:=[]) un hok bare (fun b z=>absurd z (by simp)),r,q⟩
end
def qXU (sp:Sp) (dvs:List V) (E:XK) (t:TA):TE:=fun σ H Q=>t σ H fun vs H1=>sp (vs++dvs) H1 Q E
def Binds (K:PySem.W.Frag) (fd:FuncData) (ps:List Str) (ds:List Value):Prop:=
 ∀ (s:Shared) (us:List Value),K.In s.heap->(us++ds).length=ps.length->BindsTo s fd ⟨us,[]⟩ (ps.zip (us++ds))
theorem Binds.all {K:PySem.W.Frag} {fd:FuncData} {ps:List Str} (h:∀ us:List Value,us.length=ps.length->bindArgs fd ⟨us,[]⟩=pure (ps.zip us)):Binds K fd ps []:=fun s us _ hl=>by
 rw [L8] at hl ⊢;exact .of_eq (h us hl)
def qTH (CX:CXT) (X:Cx) (E:XK):Prop:=∀ (Ab:List (Addr × Obj)) (σ:St) (H:Hp) (s:Shared) (e:Value) (s':Shared),Inv X Ab σ H s->CX X.stack H s E e s'->X.xe e s'
section
variable {X:Cx} {CX:CXT} {k:Nat} {f C:Addr} {fd:FuncData} {ps:List Str} {sp:Sp} {dvs:List V} {ds:List Value} {E:XK} {x m:Str} {p pos apos:Pos} {e o:Expr} {es:List Expr} {ta:TE} {t:TA}
theorem qY1 {Ab:List (Addr × Obj)} {σ:St} {H:Hp} {s:Shared} {Q:VK} {us:List Value} {vs:List V} (F:FnOk X.prog X.w X.K X.mg X.base CX k f fd ps sp) (hr:Room k X.A) (hb:Binds X.K fd ps ds) (hd:Vals dvs ds) (hx:qTH CX X E)
  (I:Inv X Ab σ H s) (r:Vals vs us) (h:sp (vs++dvs) H Q E):wpAny (model X.prog X.w) X.A (call (.ref f) us) (EP X Ab σ Q) X.xe s:=by
 have r2:Vals (vs++dvs) (us++ds):=r.append hd;have hl:(us++ds).length=ps.length:=by rw [<- r2.length];exact F.len _ _ _ _ h
 refine wpAny_call (codeAny_mono (F.run X.A X.stack s H ⟨us,[]⟩ (us++ds) (vs++dvs) Q E hr I.env0 (hb s us I.kIn hl) r2 h) fun r s' hq=>?_);cases r with
 | error e=>exact hx Ab σ H s e s' I hq
 | ok fl=>
  cases fl with
  | ret u=>exact I.after hq
  | next=>exact U4 hq
  | brk=>exact U4 hq
  | cont=>exact U4 hq
theorem qWK (F:FnOk X.prog X.w X.K X.mg X.base CX k f fd ps sp) (hr:Room k X.A) (hg:Gl X x) (hm:X.mg x=some (.ref f)) (hk:M3 X.K (.ref f)=true) (hb:Binds X.K fd ps ds) (hd:Vals dvs ds) (hx:qTH CX X E)
  (ha:PA X (e::es) t) (hdb:(x == ("__debug__" : Str))=false:=by decide) (he:starEach (e::es) X.env=(false,eval e X.env)::starEach es X.env:=by rfl) (hpl:(backTo pos (starEach es X.env)).any (·.1)=false:=by rfl) :
  PE X (.Call (.Name x p) (e::es) [] pos) (qXU sp dvs E t):=by
 intro Ab s σ H Q I h;refine wpAny_Call_Name_kw (qS0 I hg hm ?_ hdb);refine PySem.W.callWith_K (h₀:=X.base) I.ok.mod.kin hk (thn (ha pos Ab s σ H _ I h) fun us s1 ⟨vs,H1,I1,r,q⟩=>⟨I1.kIn,?_⟩) he hpl;exact qY1 F hr hb hd hx I1 r q
structure Mk (K:PySem.W.Frag) (C f:Addr):Prop where
 makes:PySem.W.makesIn K C=true
 init:O9 K (.ref C) "__init__" = some (some (.ref f))
 fn:B02 K (.ref f)=true
 kp:M3 K (.ref C)=true
end
def PK (X:Cx) (kws:List Keyword) (t:TA):Prop:=
 ∀ (pos:Pos) (Ab:List (Addr × Obj)) (s:Shared) (σ:St) (H:Hp) (Q:List V->Hp->Prop),Inv X Ab σ H s->t σ H Q->wpAny (model X.prog X.w) X.A (evalAll ((backToKw pos (keywordEach kws X.env)).map (·.2))) (AP X Ab σ Q) X.xe s
section
variable {X:Cx} {CX:CXT} {k:Nat} {f C:Addr} {fd:FuncData} {ps ks:List Str} {sp:Sp} {E:XK} {x m:Str} {p pos apos kpos:Pos} {e o:Expr} {es:List Expr} {kws:List Keyword} {te ta:TE} {t tk:TA} {nm:Option Str}
theorem qRC:PK X [] tNil:=fun _ _ _ _ H Q I h=>wpAny_evalAll_nil ⟨[],H,I,.nil,h⟩
theorem qKI (ha:PE X e te) (hr:PK X kws t):PK X (⟨nm,e,kpos⟩::kws) (qLH te t):=by
 intro pos Ab s σ H Q I h;show wpAny _ _ (evalAll ((do let v <- eval e X.env;standAt pos;pure v)::(backToKw pos (keywordEach kws X.env)).map (·.2))) _ _ s
 refine wpAny_evalAll_cons (wpAny_bind (thn (ha Ab s σ H _ I h) fun u s1 ⟨x,H1,I1,r1,q1⟩=>wpAny_bind (wpAny_standAt (wpAny_pure ?_))));exact thn (hr pos Ab s1 σ H1 _ I1 q1) fun us s2 ⟨xs,H2,I2,r2,q2⟩=>⟨x::xs,H2,I2,.cons r1 r2,q2⟩
structure KBinds (K:PySem.W.Frag) (fd:FuncData) (ps ks:List Str) (g:List Value->List Value->List Value) (gV:List V->List V->List V):Prop where
 to:∀ (s:Shared) (us ws:List Value),K.In s.heap->(g us ws).length=ps.length->BindsTo s fd ⟨us,ks.zip ws⟩ (ps.zip (g us ws))
 rel:∀ {vs:List V} {us:List Value} {zs:List V} {ws:List Value},Vals vs us->Vals zs ws->Vals (gV vs zs) (g us ws)
variable {g:List Value->List Value->List Value} {gV:List V->List V->List V}
end
structure FnScope (N P:List Str) (sc:Scope):Prop where
 kind:sc.kind=.function
 co:sc.isCoroutine=false
 gen:sc.isGenerator=false
 nd:N.Nodup
 pre:N.take P.length=P
 par:∀ x ∈ P,sc.names.lookup x=some .local\/sc.names.lookup x=some .cell
 nofree:∀ y ∈ sc.names,y.2 ≠ .free
theorem qMS {kindOf:Str->Option NameKind} {x:Str}:∀ {binds:List (Str × Value)} {m:Str->Option Value},(∀ v,(x,v) ∉ binds)->bindL kindOf binds m x=m x
 | [],_,_=>rfl
 | (n,v)::r,m,h=>by
  unfold bindL;rw [qMS fun w hw=>h w (A9 _ hw)]
  split
  ·have:x ≠ n:=by rintro rfl;exact h v G7
   simp [this]
  ·rfl
theorem qMU {kindOf:Str->Option NameKind} {x:Str}:∀ {binds:List (Str × Value)} {m:Str->Option Value},(∀ v,(x,v) ∉ binds)->bindC kindOf binds m x=m x
 | [],_,_=>rfl
 | (n,v)::r,m,h=>by
  unfold bindC;rw [qMU fun w hw=>h w (A9 _ hw)]
  split
  ·rfl
  ·have:x ≠ n:=by rintro rfl;exact h v G7
   simp [this]
theorem qMT {kindOf:Str->Option NameKind} {x:Str} {v:Value}:∀ {P:List Str} {vs:List Value} {i:Nat} {m:Str->Option Value},P.Nodup->P[i]?=some x->vs[i]?=some v->kindOf x=some .local->
  bindL kindOf (P.zip vs) m x=some v
 | [],_,_,_,_,h,_,_=>by simp at h
 | _::_,[],_,_,_,_,h,_=>by simp at h
 | p::P,w::vs,0,m,nd,h1,h2,hk=>by
  simp at h1 h2;subst h1;subst h2;show bindL kindOf ((p,w)::P.zip vs) m p=_;unfold bindL;rw [qMS fun v hv=>(P0.mp nd).1 (d5 hv).1,if_pos hk];simp
 | p::P,w::vs,i+1,m,nd,h1,h2,hk=>by
  show bindL kindOf ((p,w)::P.zip vs) m x=_;unfold bindL;exact qMT (i:=i) (P0.mp nd).2 (by simpa using h1) (by simpa using h2) hk
theorem qMV {kindOf:Str->Option NameKind} {x:Str} {v:Value}:∀ {P:List Str} {vs:List Value} {i:Nat} {m:Str->Option Value},P.Nodup->P[i]?=some x->vs[i]?=some v->kindOf x ≠ some .local->
  bindC kindOf (P.zip vs) m x=some v
 | [],_,_,_,_,h,_,_=>by simp at h
 | _::_,[],_,_,_,_,h,_=>by simp at h
 | p::P,w::vs,0,m,nd,h1,h2,hk=>by
  simp at h1 h2;subst h1;subst h2;show bindC kindOf ((p,w)::P.zip vs) m p=_;unfold bindC;rw [qMU fun v hv=>(P0.mp nd).1 (d5 hv).1,if_neg hk];simp
 | p::P,w::vs,i+1,m,nd,h1,h2,hk=>by
  show bindC kindOf ((p,w)::P.zip vs) m x=_;unfold bindC;exact qMV (i:=i) (P0.mp nd).2 (by simpa using h1) (by simpa using h2) hk
noncomputable def start (N:List Str) (vs:List V):St:=vs.map some++D2 (N.length - vs.length) none
noncomputable def cxOf (CX:CXT) (P:Program) (w:World) (K:PySem.W.Frag) (mg:Str->Option Value) (base:Heap) (N:List Str) (qual:Str) (scope:Scope) (f:Addr) (cd:Value) (A:Around) (outer:List Env) (s:Shared) (H:Hp) (E:XK):Cx where
 prog:=P
 w:=w
 K:=K
 mg:=mg
 base:=base
 A:=A.deeper (envOfC qual scope s.heap.objs.size f cd)
 N:=N
 s₀:=s
 H₀:=H
 env:=envOfC qual scope s.heap.objs.size f cd
 outer:=outer
 stack:=envOfC qual scope s.heap.objs.size f cd::outer
 ex:=[]
 calm:=true
 fn:=fun _=>true
 pn:=[]
 xe:=fun e s'=>wpAny (model P w) (A.deeper (envOfC qual scope s.heap.objs.size f cd)) (leaving (envOfC qual scope s.heap.objs.size f cd) e) (fun _ s''=>CX outer H s E e s'') (fun e' s''=>CX outer H s E e' s'') s'
theorem qP8 {sc:Scope} {n:Nat} {x:Str} (h:sc.names.lookup x=some .cell):∃ c,(cellsFrom n sc.names []).lookup x=some c:=by
 have q:=w5 sc.names n [] (.inl h);exact X4.mp q
theorem qSB {CX:CXT} {P:Program} {w:World} {K:PySem.W.Frag} {mg:Str->Option Value} {base:Heap} {N ps:List Str} {qual:Str} {scope:Scope} {f:Addr} {cd:Value} {A:Around} {outer:List Env} {s s1:Shared} {H:Hp} {E:XK} {us:List Value} {vs:List V}
  (S:FnScope N ps scope) (hd:A.handled=none) (e0:Env0 P w K mg base A outer s H) (hl:vs.length=ps.length) (r:Vals vs us)
  (x:InCallC s s.heap.objs.size (bindL (envOfC qual scope s.heap.objs.size f cd).kindOf (ps.zip us) fun _=>none) (cellsFrom (s.heap.objs.size+1) scope.names []) (bindC (envOfC qual scope s.heap.objs.size f cd).kindOf (ps.zip us) fun _=>none) s1) :
  Inv (cxOf CX P w K mg base N qual scope f cd A outer s H E) [] (start N vs) H s1:=by
 have hpl:ps.length<=N.length:=by have:=congrArg Q2 S.pre;rw [C3] at this;lia
 obtain ⟨h1,tk,rfl,hk⟩:=x.done;have noA:∀ b:Addr,b ∉ (cxOf CX P w K mg base N qual scope f cd A outer s H E).ex:=fun b z=>absurd (show b ∈ ([]:List Addr) from z) (by simp)
 refine ⟨⟨e0.mod,S.kind,rfl,rfl,A5 _,fun y z c h1 h2=>?_,fun y hy=>?_,fun y c _ h=>?_,fun _=>hd,A08 e0.frames,.inr ⟨rfl,rfl⟩,fun b z=>absurd z (noA b),e0.bs,e0.bsz,fun b _ _=>noA b,fun b z=>absurd z (noA b),e0.funs,e0.frf⟩,
  rfl,e0.bare,Un.kept hk,⟨_,x.toInCall.ns,fun i y v h1 h2 h3=>?_⟩,fun y c h=>⟨_,x.cell y c h⟩,e0.hok.fresh (A5 _),fun y c h=>?_,fun p hp=>absurd (show p ∈ ([]:List (Addr × Obj)) from hp) (by simp),e0.hok.kept hk,?_⟩
 ·exact name_of_addr x.apart (J3 h1) (J3 h2)
 ·have hy:scope.names.lookup y=some .cell\/scope.names.lookup y=some .free:=hy;rcases hy with hy | hy
  ·exact qP8 hy
  ·exact absurd rfl (S.nofree _ (J3 hy))
 ·exact G0 (x.above y c (J3 h))
 ·have hi:i<vs.length:=by
   unfold start at h2;by_cases hi:i<vs.length
   ·exact hi
   ·rw [F4 (by simpa using hi)] at h2
    rw [q9] at h2
    split at h2 <;> cases h2
  have ha:vs[i]?=some v:=by
   unfold start at h2;rw [G2 (by simpa using hi),D0] at h2
   cases e:vs[i]? with
   | none=>rw [e] at h2;cases h2
   | some a=>rw [e] at h2;cases h2;rfl
  obtain ⟨u,hu,rv⟩:=r.get ha;have hp:ps[i]?=some y:=by
   rw [<- S.pre,o6 (by lia)];exact h1
  have ndP:ps.Nodup:=by rw [<- S.pre];exact S.nd.sublist (Z1 _ _)
  refine ⟨u,rv,?_⟩;rcases S.par y (C4 hp) with k | k
  ·exact .inl ⟨k,qMT ndP hp hu k⟩
  ·obtain ⟨c,e⟩:=qP8 (n:=s.heap.objs.size+1) k;refine .inr ⟨.inl k,c,e,?_⟩;have q:=x.cell y c e;rw [qMV ndP hp hu (by show scope.names.lookup y ≠ _;rw [k];decide)] at q
   exact q
 ·exact e0.hok.fresh (G0 (x.above y c (J3 h)))
 ·unfold start;show _=N.length;rw [A4,A0,F1]
  lia
theorem qYQ {CX:CXT} {P:Program} {w:World} {K:PySem.W.Frag} {mg:Str->Option Value} {base:Heap} {k:Nat} {f:Addr} {name qual:Str} {params:Arguments} {body:List Stmt} {scope:Scope} {dV kV doc pm cdv ct oc:Value} {an od:Option Addr}
  {osl:Array (Option Value)} {N ps:List Str} {sp:Sp} (lk:K.lookup f=some ⟨oc,od,.func (O1 name qual params body scope dV kV doc pm an cdv ct),osl⟩) (hcd:R3 K cdv qual=true) (S:FnScope N ps scope)
  (len:∀ vs H Q E,sp vs H Q E->vs.length=ps.length)
  (hbody:∀ (A:Around) (outer:List Env) (s:Shared) (H:Hp) (vs:List V) (Q:VK) (E:XK),Room k (A.deeper (envOfC qual scope s.heap.objs.size f cdv))->sp vs H Q E->
   ∃ t,PSs (cxOf CX P w K mg base N qual scope f cdv A outer s H E) body t/\t { nx:=fun _ H'=>Q .non H',rt:=Q } (start N vs) H) :
  FnOk P w K mg base CX (k+1) f (O1 name qual params body scope dV kV doc pm an cdv ct) ps sp:=by
 refine ⟨len,fun A outer s H args us vs Q E hr e0 hb r hsp=>?_⟩;have hl:=len _ _ _ _ hsp;have KX:K.In s.heap:=e0.mod.kin.keeps fun b o e=>(e0.bs b o e).1;have lim:s.heap.NoLimit:=e0.mod.nolimit.keeps fun b o e=>(e0.bs b o e).1;have hkind:∀ y ∈ ps.zip us,scope.names.lookup y.1=some .local\/(scope.names.lookup y.1=some .cell/\((cellsFrom (s.heap.objs.size+1) scope.names []).lookup y.1).isSome=true):=fun ⟨n,v⟩ hy=>by
  rcases S.par n (d5 hy).1 with q | q
  ·exact .inl q
  ·exact .inr ⟨q,w5 _ _ _ (.inl q)⟩
 refine codeAny_call_function hr.depth (KX _ _ lk) rfl S.co S.gen rfl (PySem.W.codeRec_of KX hcd) (hb _ _ _ _ ?_);refine wpAny_newFunctionEnv_cells S.kind hkind fun env he s1 x=>?_;subst he;refine ⟨lim.keeps x.toInCall.keep,codeAny_func ?_⟩;obtain ⟨t,ht,hq⟩:=hbody A outer s H vs Q E (hr.deeper _) hsp;have I:Inv (cxOf CX P w K mg base N qual scope f cdv A outer s H E) [] (start N vs) H s1:=qSB S hr.hd e0 hl r x;refine wpAny_mono (ht [] s1 (start N vs) H _ I hq) (fun fl s' hs=>?_) fun e s' hs=>hs;have fin:∀ {σ':St} {H':Hp} {v:V} {u:Value},Inv (cxOf CX P w K mg base N qual scope f cdv A outer s H E) [] σ' H' s'->RelV v u->Q v H'->CE outer P w H s Q u s':=
  fun {σ' H' v u} J rv q=>⟨v,H',J.os,J.bare,J.base,J.hok,rv,q⟩
 cases fl with
 | ret u=>
  obtain ⟨v,σ',H',J,rv,q⟩:=hs;exact fin J rv q
 | next=>
  obtain ⟨σ',H',J,q⟩:=hs;exact fin (v:=V.non) (u:=Q7) J rfl q
 | brk=>
  obtain ⟨_,_,_,q⟩:=hs;exact U4 q
 | cont=>
  obtain ⟨_,_,_,q⟩:=hs;exact U4 q
end L2
namespace L2
open PySem PySem.Spec PyProof.Rows
section
variable {X:Cx} {x:Str} {p pos:Pos} {e:Expr} {es:List Expr} {t:TA} {id T:String} {r:List V->Hp->VK->Prop}
def tCB (r:List V->Hp->VK->Prop) (t:TA):TE:=fun σ H Q=>t σ H fun vs H1=>r vs H1 Q
theorem qAE (hc:qDT X (.builtin id) r) (hg:Gl X x) (hm:X.mg x=none) (hv:bootBuiltins x=some (.builtin id)) (ha:PA X (e::es) t) (hn:x ≠ "__name__":=by decide) (hdb:(x == ("__debug__" : Str))=false:=by decide)
  (he:starEach (e::es) X.env=(false,eval e X.env)::starEach es X.env:=by rfl) (hpl:(backTo pos (starEach es X.env)).any (·.1)=false:=by rfl):PE X (.Call (.Name x p) (e::es) [] pos) (tCB r t):=by
 intro Ab s σ H Q I h;refine wpAny_Call_Name_kw (qIG I hg hm hv ?_ hn hdb);exact PyProof.Rows.callWith_builtin1 (thn (ha pos Ab s σ H _ I h) fun us s1 ⟨vs,H1,I1,r1,q1⟩=>hc Ab s1 σ H1 vs us Q I1 r1 q1) he hpl
theorem qAI (hc:qDT X (.type T) r) (hg:Gl X x) (hm:X.mg x=none) (hv:bootBuiltins x=some (.type T)) (ha:PA X (e::es) t) (hn:x ≠ "__name__":=by decide) (hdb:(x == ("__debug__" : Str))=false:=by decide)
  (he:starEach (e::es) X.env=(false,eval e X.env)::starEach es X.env:=by rfl) (hpl:(backTo pos (starEach es X.env)).any (·.1)=false:=by rfl):PE X (.Call (.Name x p) (e::es) [] pos) (tCB r t):=by
 intro Ab s σ H Q I h;refine wpAny_Call_Name_kw (qIG I hg hm hv ?_ hn hdb);exact U8 (thn (ha pos Ab s σ H _ I h) fun us s1 ⟨vs,H1,I1,r1,q1⟩=>hc Ab s1 σ H1 vs us Q I1 r1 q1) he hpl
end
end L2
namespace HT
open PySem PyProof.Rows
noncomputable def lexLt:List Int->List Int->Bool
 | [],[]=>false
 | [],_::_=>true
 | _::_,[]=>false
 | x::xs,y::ys=>if x=y then lexLt xs ys else decide (x<y)
theorem lexLt_cons (x y:Int) (xs ys:List Int):lexLt (x::xs) (y::ys)=if x=y then lexLt xs ys else decide (x<y):=rfl
theorem lexLt_nil_nil:lexLt [] []=false:=rfl
theorem qFL (y:Int) (ys:List Int):lexLt [] (y::ys)=true:=rfl
theorem qFM (x:Int) (xs:List Int):lexLt (x::xs) []=false:=rfl
theorem eqAt_int (A:Around) (s:Shared) (a:Int) (t:Tok) (c:Int) (u:Tok):∃ e,SeqAt.EqAt A s (.int a t) (.int c u) e/\(e=true ↔ a=c):=
 ⟨(a == c),A32 a t c u,by simp⟩
theorem rcLt_int (A:Around) (s:Shared) (a:Int) (t:Tok) (c:Int) (u:Tok) (prog:Program) (w:World) (E:Value->Shared->Prop) (Q:Value->Shared->Prop) (h:Q (.bool (decide (a<c))) s) :
  wpAny (model prog w) A (richCompare .Lt (.int a t) (.int c u)) Q E s:=
 (PyProof.Rows.lt_int h:wpAny (model prog w) A (compareOp .Lt (.int a t) (.int c u)) Q E s)
section
open PySem.SeqAt
open PySem.AutoSeq1 (wpAny_loadPart')
open PySem.MeetsSeq PySem.MeetsSeq2 PySem.MeetsSeq3
theorem tuple_lt_ints (l b:Addr) (Ae items2:Array Value) (n n2:Nat) (dd dd2:Option Addr) (sl sl2:Array (Option Value)) (ns ms:List Int) (hi:IntsAre Ae.toList ns) (hj:IntsAre items2.toList ms) :
  Meets (Builtin.«tuple.__lt__» ⟨[.ref l,.ref b],[]⟩)
   (fun _ R s=>s.heap.get? l=some { cls:=.type "tuple",dict:=dd,data:=.seq Ae n,slots:=sl }/\s.heap.get? b=some { cls:=.type "tuple",dict:=dd2,data:=.seq items2 n2,slots:=sl2 }/\
    R (.ok (.ret (.bool (lexLt ns ms)))) s):=
 .of_wp fun prog w A R s h=>by
  obtain ⟨hp,g,d,tk,os⟩:=s;obtain ⟨hl,hb,h⟩:=h;have f2:=o8;have z1:Ae.size=ns.length:=by rw [<- hi.length];simp
  have z2:items2.size=ms.length:=by rw [<- hj.length];simp
  wp_walk using wpAny_loadPart' hl,wpAny_loadPart' hb,wpAny_forIn_list _ (fun rest b s'=>b.1=none/\s'=⟨hp,g,d,tk,os⟩/\∃ (vs ws:List Value) (ns' ms':List Int),rest=vs.zip ws/\
   IntsAre vs ns'/\IntsAre ws ms'/\ns'.length+items2.size=ms'.length+Ae.size/\R (.ok (.ret (.bool (lexLt ns' ms')))) ⟨hp,g,d,tk,os⟩) _
  case turn=>
   rintro ⟨y,x⟩ rest b s' ⟨hb',rfl,vs,ws,ns',ms',hz,hvi,hwi,hlen,hR⟩;cases hvi with
   | nil=>rw [List.zip_nil_left] at hz;cases hz
   | cons a t hvi'=>
    cases hwi with
    | nil=>rw [List.zip_nil_right] at hz;cases hz
    | cons c u hwi'=>
     rw [F7] at hz
     injection hz with hyx hrest
     injection hyx with hy hx
     subst hy hx;rw [lexLt_cons] at hR;simp only [E3] at hlen;obtain ⟨e,he,hiff⟩:=eqAt_int A.in1 ⟨hp,g,d,tk,os⟩ a t c u;refine wpAny_bind (he prog w _ _ ?_);cases e with
     | true=>
      rw [if_pos (hiff.mp rfl)] at hR
      wp_walk
      exact ⟨rfl,rfl,_,_,_,_,hrest,hvi',hwi',by lia,hR⟩
     | false=>
      rw [if_neg (fun q=>absurd (hiff.mpr q) B0)] at hR;have hri:=rcLt_int A.in1 ⟨hp,g,d,tk,os⟩ a t c u prog w
      wp_walk using hri
      exact ⟨_,rfl,by simpa using hR⟩
  case fin=>
   rintro ⟨b1,b2⟩ s' ⟨hb',rfl,vs,ws,ns',ms',hz,hvi,hwi,hlen,hR⟩;simp only at hb';subst hb';have hv:lexLt ns' ms'=decide (Ae.size<items2.size):=by
    cases hvi with
    | nil=>
     cases hwi with
     | nil=>
      simp only [L9] at hlen;rw [lexLt_nil_nil];exact (decide_eq_false (by lia)).symm
     | cons c u hw=>
      simp only [L9,E3] at hlen;rw [qFL];exact (decide_eq_true (by lia)).symm
    | cons a t hv=>
     cases hwi with
     | nil=>
      simp only [L9,E3] at hlen;rw [qFM];exact (decide_eq_false (by lia)).symm
     | cons c u hw=>
      rw [F7] at hz;cases hz
   rw [hv] at hR
   wp_walk
   exact ⟨_,rfl,by simpa [Z2] using hR⟩
  case h=>
   exact ⟨rfl,rfl,Ae.toList,items2.toList,ns,ms,rfl,hi,hj,by lia,h⟩
end
section
variable {prog:Program} {w:World} {A:Around} {E:Value->Shared->Prop} {s:Shared}
theorem lt_tupInts {l b:Addr} {Ae items2:Array Value} {ns ms:List Int} {Q:Value->Shared->Prop} (hl:IsTup s.heap l Ae) (hb:IsTup s.heap b items2) (hi:IntsAre Ae.toList ns) (hj:IntsAre items2.toList ms)
  (hu:A.units<cLine) (h:Q (.bool (lexLt ns ms)) s):wpAny (model prog w) A (compareOp .Lt (.ref l) (.ref b)) Q E s:=by
 obtain ⟨⟨cls,dd,data,sl⟩,ho,hc,n,hd⟩:=id hl;obtain ⟨⟨cls2,dd2,data2,sl2⟩,ho2,hc2,n2,hd2⟩:=id hb;simp only at hc hd hc2 hd2;subst hc hd hc2 hd2;exact richCompare_meets_room (op:=.Lt) ⟨_,ho,rfl⟩ ⟨_,ho2,rfl⟩ U9 Y6 (X8 _ _) (tuple_lt_ints l b Ae items2 n n2 dd dd2 sl sl2 ns ms hi hj)
  ⟨ho,ho2,show A40 (lexLt ns ms) ≠ A09/\Q (.bool (lexLt ns ms)) s from ⟨(fun x=>nomatch x),h⟩⟩ hu
theorem cat_tup {t b:Addr} {vs ws:List Value} {Q:Value->Shared->Prop} (ht:IsTup s.heap t vs.toArray) (hb:IsTup s.heap b ws.toArray) (hv:vs ≠ [])
  (h1:ws=[]->Q (.ref t) s) (h2:ws ≠ []->Q (.ref s.heap.objs.size) { s with heap:=s.heap.push { cls:=.type "tuple",data:=.seq (vs++ws).toArray } })
  (hsz:vs.length+ws.length<=sizeLine):wpAny (model prog w) A (binaryOp .Add (.ref t) (.ref b)) Q E s:=by
 obtain ⟨⟨cls,dd,data,sl⟩,ho,hc,n,hd⟩:=id ht;obtain ⟨⟨cls2,dd2,data2,sl2⟩,ho2,hc2,n2,hd2⟩:=id hb;simp only at hc hd hc2 hd2;subst hc hd hc2 hd2;have e:vs.toArray++ws.toArray=(vs++ws).toArray:=by simp
 by_cases hw:ws=[]
 ·exact concat_meets ⟨_,ho,rfl⟩ ⟨_,ho2,rfl⟩ noFill_tuple_add seq_tuple_add U6 U3 (R8 _ _)
   (tuple_addW1 t b vs.toArray ws.toArray n n2 dd dd2 sl sl2 (by simpa using hv) (by simp [hw])) ⟨ho,ho2,h1 hw⟩
 ·refine concat_meets ⟨_,ho,rfl⟩ ⟨_,ho2,rfl⟩ noFill_tuple_add seq_tuple_add U6 U3 (R8 _ _)
   (tuple_addW2 t b vs.toArray ws.toArray n n2 dd dd2 sl sl2 (by simpa using hv) (by simpa using hw) (by rw [B4,B4];exact hsz)) ⟨ho,ho2,?_⟩
  rw [e];exact h2 hw
noncomputable def sIx (n d:Nat):Option Int->Nat
 | none=>d
 | some v=>if v<0 then (v+(n:Int)).toNat else min v.toNat n
theorem sIx_none (n d:Nat):sIx n d none=d:=rfl
theorem sIx_nat (n d k:Nat):sIx n d (some (k:Int))=min k n:=by
 show (if (k:Int)<0 then ((k:Int)+(n:Int)).toNat else min (k:Int).toNat n)=min k n
 rw [if_neg (by lia),F9]
theorem qY0 (n d:Nat) (hd:d<=n) (o:Option Int):sIx n d o<=n:=by
 cases o with
 | none=>exact hd
 | some v=>
  show (if v<0 then (v+(n:Int)).toNat else min v.toNat n)<=n
  by_cases hv:v<0
  ·rw [if_pos hv];lia
  ·rw [if_neg hv];exact Nat.min_le_right _ _
theorem qT4 (v:Int) (n d:Nat):(if v<0 then max (v+(n:Int)) 0 else min v (n:Int))=((sIx n d (some v):Nat):Int):=by
 show (if v<0 then max (v+(n:Int)) 0 else min v (n:Int))=(((if v<0 then (v+(n:Int)).toNat else min v.toNat n):Nat):Int)
 by_cases hv:v<0
 ·simp only [if_pos hv];lia
 ·simp only [if_neg hv];lia
theorem qQE (lo hi:Option Int) (n:Nat):W4 lo hi 1 (n:Int)=(((sIx n 0 lo:Nat):Int),((sIx n n hi:Nat):Int)):=by
 have h1:¬ ((1:Int)<0):=by lia
 unfold W4;simp only [h1,if_false];refine Prod.ext ?_ ?_
 ·cases lo with
  | none=>rfl
  | some v=>exact qT4 v n 0
 ·cases hi with
  | none=>rfl
  | some v=>exact qT4 v n n
theorem qPR (i j:Nat):R4 (i:Int) (j:Int) 1=j - i:=by
 unfold R4;have h1:(1:Int) > 0:=by lia
 simp only [h1,if_true,Int.ediv_one]
 split <;> lia
theorem qJO {v:Value} {o:Option Int} {Q:Option Int->Shared->Prop} (p:IsPart v o) (h:Q o s):wpAny (model prog w) A (Builtin.Slice.slicePartIndex v) Q E s:=by
 cases p with
 | none=>exact slicePart_none h
 | int i t=>exact slicePart_int h
theorem qDV {sl:Addr} {vl vu:Value} {lo hi:Option Int} {n:Nat} {Q:Int × Int × Nat->Shared->Prop} (hs:s.heap.IsSliceOf sl vl vu .none) (pl:IsPart vl lo) (pu:IsPart vu hi)
  (h:Q (((sIx n 0 lo:Nat):Int),1,sIx n n hi - sIx n 0 lo) s):wpAny (model prog w) A (j4 (.ref sl) (pure (n:Int))) Q E s:=by
 obtain ⟨os,hos,hcs,hds⟩:=id hs;unfold j4 Builtin.Slice.sliceFields;refine wpAny_bind (wpAny_bind (wpAny_field hos hds (x:=vl) rfl (wpAny_bind (wpAny_field hos hds (x:=vu) rfl (wpAny_bind (wpAny_field hos hds (x:=.none) rfl (wpAny_pure ?_)))))));refine wpAny_bind (slicePart_none ?_);show wpAny _ _ (if ((1:Int) == 0)=true then _ else _) _ _ s
 rw [if_neg (by decide)]
 refine wpAny_bind (qJO pl (wpAny_bind (qJO pu (wpAny_bind (wpAny_pure ?_)))));show wpAny _ _ (match W4 lo hi 1 (n:Int) with | (lo,hi)=>pure (lo,(1:Int),R4 lo hi 1)) _ _ s
 rw [qQE lo hi n];show wpAny _ _ (pure (((sIx n 0 lo:Nat):Int),(1:Int),R4 ((sIx n 0 lo:Nat):Int) ((sIx n n hi:Nat):Int) 1)) _ _ s;rw [qPR];exact wpAny_pure h
theorem qTZ (xs:Array Value) (i k:Nat):((O7 k).filterMap fun (m:Nat)=>xs[((i:Int)+(m:Int) * 1).toNat]?).toArray=((xs.toList.drop i).take k).toArray:=by
 have e:(fun (m:Nat)=>xs[((i:Int)+(m:Int) * 1).toNat]?)=fun m=>xs[i+m]?:=by
  funext m
  have:((i:Int)+(m:Int) * 1).toNat=i+m:=by lia
  rw [this]
 rw [e];have:=pick_run xs i k;rw [List.filterMap_map] at this;have e2:((fun x=>xs[x]?) ∘ fun x=>i+x)=fun m=>xs[i+m]?:=rfl;rw [e2] at this;rw [this]
theorem getItem_tuple_cut {t sl:Addr} {Ae:Array Value} {vl vu:Value} {lo hi:Option Int} {Q:Value->Shared->Prop} (ht:IsTup s.heap t Ae) (hs:s.heap.IsSliceOf sl vl vu .none) (pl:IsPart vl lo) (pu:IsPart vu hi)
  (hw:¬ (sIx Ae.size 0 lo=0/\sIx Ae.size Ae.size hi=Ae.size))
  (h:Q (.ref s.heap.objs.size) { s with heap:=s.heap.push { cls:=.type "tuple",data:=.seq ((Ae.toList.drop (sIx Ae.size 0 lo)).take (sIx Ae.size Ae.size hi - sIx Ae.size 0 lo)).toArray } })
  (hsz:Ae.size<=sizeLine):wpAny (model prog w) A (getItem (.ref t) (.ref sl)) Q E s:=by
 have htake:sizeOk (.seq ((Ae.toList.drop (sIx Ae.size 0 lo)).take (sIx Ae.size Ae.size hi - sIx Ae.size 0 lo)).toArray):=by
  show ((Ae.toList.drop (sIx Ae.size 0 lo)).take (sIx Ae.size Ae.size hi - sIx Ae.size 0 lo)).toArray.size<=sizeLine;rw [B4,C3,E5,C7]
  lia
 have hj:sIx Ae.size Ae.size hi<=Ae.size:=qY0 _ _ (A5 _) hi;obtain ⟨os,hos,hcs,hds⟩:=id hs;have hTs:s.TypeIs (.ref sl) "slice":=⟨os,hos,hcs⟩;unfold getItem
 try with_reducible refine wpAny_holding ?_
 first | refine wpAny_bind (wpAny_pure ?_) | skip
 refine wpAny_bind (wpAny_sequenceKey ht.typeIs (by decide) ?_)
 refine wpAny_bind (wpAny_callSpecial?_slot (name:=B6 "__getitem__") ht.typeIs G3
  (wpAny_call_entry G3 ht.typeIs entry_tuple_getitem ?_ (args_tuple_getitem _ _)))
 show wpAny _ _ (W0 (.ref t) >>= _) _ _ s;refine wpAny_bind (tupleItemsOf_ ht ?_);refine wpAny_bind (wpAny_typeOf hTs ?_);rw [if_pos (by decide)]
 refine wpAny_bind (qDV hs pl pu ?_);have hno:¬ ((((sIx Ae.size 0 lo:Nat):Int) == 0 && (1:Int) == 1 && (sIx Ae.size Ae.size hi - sIx Ae.size 0 lo) == Ae.size)=true):=by
  intro q;rw [L3,L3] at q;have q1:((sIx Ae.size 0 lo:Nat):Int)=0:=eq_of_beq q.1.1;have q2:sIx Ae.size Ae.size hi - sIx Ae.size 0 lo=Ae.size:=eq_of_beq q.2;exact hw ⟨by lia,by lia⟩
 show wpAny _ _ (if (((sIx Ae.size 0 lo:Nat):Int) == 0 && (1:Int) == 1 && (sIx Ae.size Ae.size hi - sIx Ae.size 0 lo) == Ae.size)=true then _ else _) _ _ s
 rw [if_neg hno,qTZ]
 first
  | exact wpAny_bind (m:=J7 _) (wpAny_newObj_type (wpAny_pure ⟨_,rfl,wpAny_pure h⟩) htake)
  | exact wpAny_bind (m:=J7 _) (wpAny_newObj_type (wpAny_bind (wpAny_pure (wpAny_pure ⟨_,rfl,wpAny_pure h⟩))) htake)
  | exact wpAny_bind (wpAny_bind (m:=J7 _) (wpAny_newObj_type (wpAny_pure (wpAny_pure ⟨_,rfl,wpAny_pure h⟩)) htake))
  | exact wpAny_bind (wpAny_bind (m:=J7 _) (wpAny_newObj_type (wpAny_pure ⟨_,rfl,wpAny_pure h⟩) htake))
end
end HT
namespace L2
open PySem PySem.Spec PyProof.Rows
abbrev TO:=St->Hp->(Option Int->Hp->Prop)->Prop
def PO (X:Cx) (e:Option Expr) (t:TO):Prop:=
 ∀ (Ab:List (Addr × Obj)) (s:Shared) (σ:St) (H:Hp) (Q:Option Int->Hp->Prop),Inv X Ab σ H s->t σ H Q->
  wpAny (model X.prog X.w) X.A (evalPart e X.env) (fun u s'=>∃ o H',Inv X Ab σ H' s'/\IsPart u o/\Q o H') X.xe s
def qW1:TO:=fun _ H Q=>Q none H
def qZ8 (t:TE):TO:=fun σ H Q=>t σ H fun x H1=>∃ i,x=.int i/\Q (some i) H1
theorem qEX {ns:List Int}:∀ {us:List Value},Vals (ns.map V.int) us->IntsAre us ns:=by
 induction ns with
 | nil=>intro us r;rw [j8] at r;cases r;exact .nil
 | cons n ns ih=>
  intro us r;rw [C9] at r;cases r with
  | cons r1 r2=>
   obtain ⟨t,e⟩:=r1;subst e;exact .cons n t (ih r2)
section
variable {X:Cx} {e:Expr} {te:TE} {lo hi:Option Expr} {tl th:TO} {pos p2:Pos}
theorem qD4:PO X none qW1:=by
 intro Ab s σ H Q I h;rw [evalPart_none];exact wpAny_pure ⟨none,H,I,.none,h⟩
theorem qD3 (h:PE X e te):PO X (some e) (qZ8 te):=by
 intro Ab s σ H Q I hw;rw [evalPart_some];refine thn (h Ab s σ H _ I hw) fun u s1 ⟨x,H1,I1,r1,q1⟩=>?_;obtain ⟨i,rfl,q⟩:=q1;obtain ⟨t,rfl⟩:=r1;exact ⟨some i,H1,I1,.int i t,q⟩
def SlR (X:Cx) (r:V->Option Int->Option Int->Hp->VK->Prop):Prop:=
 ∀ (Ab:List (Addr × Obj)) (s:Shared) (σ:St) (H:Hp) (x:V) (v vl vu:Value) (lo hi:Option Int) (sl:Addr) (Q:VK),Inv X Ab σ H s->RelV x v->s.heap.IsSliceOf sl vl vu .none->IsPart vl lo->IsPart vu hi->r x lo hi H Q->
  ∃ T id,typeLookup (.type T) "__getitem__" = pure (some (.builtin id))/\s.TypeIs v T/\wpAny (model X.prog X.w) X.A (getItem v (.ref sl)) (EP X Ab σ Q) X.xe s
def tSl (r:V->Option Int->Option Int->Hp->VK->Prop) (te:TE) (tl th:TO):TE:=fun σ H Q=>te σ H fun x H1=>tl σ H1 fun l H2=>th σ H2 fun u H3=>r x l u H3 Q
theorem qC5 {r:V->Option Int->Option Int->Hp->VK->Prop} (hr:SlR X r) (he:PE X e te) (hl:PO X lo tl) (hu:PO X hi th):PE X (.Subscript e (.Slice lo hi none p2) pos) (tSl r te tl th):=by
 intro Ab s σ H Q I h;refine Subscript_ (thn (he Ab s σ H _ I h) fun v s1 ⟨x,H1,I1,r1,q1⟩=>?_);refine wpAny_Slice (thn (hl Ab s1 σ H1 _ I1 q1) fun vl s2 ⟨l,H2,I2,pl,q2⟩=>thn (hu Ab s2 σ H2 _ I2 q2) fun vu s3 ⟨u,H3,I3,pu,q3⟩=>?_);rw [evalPart_none];refine wpAny_pure ?_;have I4:Inv X Ab σ H3 { s3 with heap:=s3.heap.push { cls:=.type "slice",data:=.fields #[vl,vu,.none] } }:=I3.kept (t':=s3.toks) fun b ob q=>A3 _ q;obtain ⟨T,id,hT,ht,hg⟩:=hr Ab { s3 with heap:=s3.heap.push { cls:=.type "slice",data:=.fields #[vl,vu,.none] } } σ H3 x v vl vu l u s3.heap.objs.size Q I4 r1 (B07 ..) pl pu q3;show wpAny (model X.prog X.w) X.A (subscriptTail e (.Slice lo hi none p2) v (.ref s3.heap.objs.size)) (EP X Ab σ Q) X.xe { s3 with heap:=s3.heap.push { cls:=.type "slice",data:=.fields #[vl,vu,.none] } };exact tail_any (ops:=[.ref s3.heap.objs.size,v]) ht hT hg (by with_unfolding_all rfl)
noncomputable def cutV (xs:List V) (lo hi:Option Int):List V:=(xs.drop (HT.sIx xs.length 0 lo)).take (HT.sIx xs.length xs.length hi - HT.sIx xs.length 0 lo)
theorem qIW (xs:List V) (lo hi:Option Int):(cutV xs lo hi).length<=xs.length:=by
 unfold cutV;rw [C3,E5]
 lia
def rSlT (K:PySem.W.Frag):V->Option Int->Option Int->Hp->VK->Prop:=fun x lo hi H Q=>∃ a xs,x=.ref a/\SqT K H a xs/\
 ¬ (HT.sIx xs.length 0 lo=0/\HT.sIx xs.length xs.length hi=xs.length)/\∀ p,H p=none->Q (.ref p) (Ah H p (.tup (cutV xs lo hi)))
theorem qR0:SlR X (rSlT X.K):=by
 intro Ab s σ H x v vl vu lo hi sl Q I rx hs pl pu h;obtain ⟨a,xs,rfl,hx,hw,q⟩:=h;cases rx;obtain ⟨its,r,ht,hz⟩:=I.tuple hx;have hlen:its.toArray.size=xs.length:=by rw [B4];exact r.length.symm
 refine ⟨"tuple",_,G3.lookup,ht.typeIs,?_⟩;refine HT.getItem_tuple_cut ht hs pl pu (by rw [hlen];exact hw) ?_ (by rw [hlen];exact hz)
 rw [hlen];refine ⟨.ref s.heap.objs.size,_,I.laid (t':=s.toks) (o:=.tup (cutV xs lo hi)) (fun b ob q=>A3 _ q) (A5 _) ?_,rfl,q _ (I.hok.fresh (A5 _))⟩;exact ⟨F3 (qIW xs lo hi) hz,_,(r.drop (HT.sIx xs.length 0 lo)).take (HT.sIx xs.length xs.length hi - HT.sIx xs.length 0 lo),IsTup.new _ _⟩
def qZO (K:PySem.W.Frag):R2:=fun x y H Q=>∃ a b xs ys,x=.ref a/\y=.ref b/\SqT K H a xs/\SqT K H b ys/\xs ≠ []/\xs.length+ys.length<=sizeLine/\
 (ys=[]->Q (.ref a) H)/\(ys ≠ []->∀ p,H p=none->Q (.ref p) (Ah H p (.tup (xs++ys))))
theorem Vals.nil_iff {xs:List V} {us:List Value} (r:Vals xs us):us=[] ↔ xs=[]:=by
 cases r with
 | nil=>simp
 | cons _ _=>simp
theorem qRM:OpR X (binaryOp .Add) (qZO X.K):=by
 intro Ab s σ H x y v u Q I rx ry h;obtain ⟨a,b,xs,ys,rfl,rfl,ha,hb,hx,hz,q1,q2⟩:=h;cases rx;cases ry;obtain ⟨its,r1,p1,_⟩:=I.tuple ha;obtain ⟨its2,r2,p2,_⟩:=I.tuple hb;refine HT.cat_tup p1 p2 (fun z=>hx (r1.nil_iff.mp z)) (fun z=>⟨.ref a,H,I,rfl,q1 (r2.nil_iff.mp z)⟩) (fun z=>?_) (by rw [<- r1.length,<- r2.length];exact hz)
 refine ⟨.ref s.heap.objs.size,_,I.laid (t':=s.toks) (o:=.tup (xs++ys)) (fun b ob q=>A3 _ q) (A5 _) ?_,rfl,q2 (fun w=>z (r2.nil_iff.mpr w)) _ (I.hok.fresh (A5 _))⟩;exact ⟨by rw [A4];exact hz,_,r1.append r2,IsTup.new _ _⟩
end
end L2
namespace L2
open PySem PySem.Spec PyProof.Rows
noncomputable def ixN (n:Nat) (i:Int):Option Nat:=if 0<=i then (if i<n then some i.toNat else none) else if -(n:Int)<=i then some (i+n).toNat else none
noncomputable def atI {α:Type} (xs:List α) (i:Int):Option α:=(ixN xs.length i).bind fun j=>xs[j]?
theorem qSA {n:Nat} {i:Int} {j:Nat} (h:ixN n i=some j):seqIndex? i n=some j/\j<n/\-(n:Int)<=i/\i<n:=by
 unfold ixN at h;by_cases h0:0<=i
 ·rw [if_pos h0] at h;by_cases h1:i<n
  ·rw [if_pos h1] at h;have e:i.toNat=j:=D3 h;exact ⟨by rw [seqIndex_of h0 h1,e],by lia,by lia,h1⟩
  ·rw [if_neg h1] at h;cases h
 ·rw [if_neg h0] at h;by_cases h1 : -(n:Int)<=i
  ·rw [if_pos h1] at h;have e:(i+n).toNat=j:=D3 h;exact ⟨by rw [seqIndex_neg (by lia) h1,e],by lia,h1,by lia⟩
  ·rw [if_neg h1] at h;cases h
theorem qTF {α:Type} {xs:List α} {i:Int} {v:α} (h:atI xs i=some v):∃ j,seqIndex? i xs.length=some j/\xs[j]?=some v/\j<xs.length/\-(xs.length:Int)<=i/\i<xs.length:=by
 unfold atI at h;cases e:ixN xs.length i with
 | none=>rw [e] at h;cases h
 | some j=>
  rw [e] at h;obtain ⟨h1,h2,h3,h4⟩:=qSA e;exact ⟨j,h1,h,h2,h3,h4⟩
theorem qTE {α:Type} {xs:List α} {j:Nat} {v:α} (h:xs[j]?=some v):atI xs (j:Int)=some v:=by
 have hj:j<xs.length:=(B5.mp h).1;have e:ixN xs.length (j:Int)=some j:=by
  unfold ixN;rw [if_pos (by lia),if_pos (by lia)];simp
 unfold atI;rw [e];exact h
def qXG (b:Expr):Prop:=∀ o i,subscripted b false o i=operate [o,i] (getItem o i)
def IxR (X:Cx) (r:R2):Prop:=
 ∀ (value slice:Expr) (Ab:List (Addr × Obj)) (s:Shared) (σ:St) (H:Hp) (x y:V) (v u:Value) (Q:VK),Inv X Ab σ H s->RelV x v->RelV y u->r x y H Q->
  subscripted slice false v u=operate [v,u] (getItem v u)->wpAny (model X.prog X.w) X.A (subscriptTail value slice v u) (EP X Ab σ Q) X.xe s
def MtR (X:Cx) (id:String) (r:V->List V->Hp->VK->Prop):Prop:=
 ∀ (Ab:List (Addr × Obj)) (s:Shared) (σ:St) (H:Hp) (x:V) (xs:List V) (v:Value) (us:List Value) (Q:VK),Inv X Ab σ H s->RelV x v->Vals xs us->r x xs H Q->
  wpAny (model X.prog X.w) X.A (call (.builtin id) (v::us)) (EP X Ab σ Q) X.xe s
section
variable {X:Cx} {a b:Expr} {ta tb:TE} {pos:Pos}
theorem qB3 {r:R2} (hr:IxR X r) (ha:PE X a ta) (hb:PE X b tb) (hs:qXG b):PE X (.Subscript a b pos) (tOp r ta tb):=by
 intro Ab s σ H Q I h;exact Subscript_ (binT ha hb I h fun v u s2 x y H2 I2 rx ry q=>hr a b Ab s2 σ H2 x y v u Q I2 rx ry q (hs _ _))
def rIxL (K:PySem.W.Frag):R2:=fun x y H Q=>∃ p xs i v,x=.ref p/\y=.int i/\SqL K H p xs/\atI xs i=some v/\Q v H
def rIxT (K:PySem.W.Frag):R2:=fun x y H Q=>∃ p xs i v,x=.ref p/\y=.int i/\SqT K H p xs/\atI xs i=some v/\Q v H
theorem qEE:IxR X (rIxL X.K):=by
 intro value slice Ab s σ H x y v u Q I rx ry h hs;obtain ⟨p,xs,i,z,rfl,rfl,hq,he,q⟩:=h;cases rx;obtain ⟨t,rfl⟩:=ry;obtain ⟨its,r,pl,hz⟩:=I.list hq;obtain ⟨j,h1,h2,h3,h4,h5⟩:=qTF he;obtain ⟨w,ew,rw'⟩:=r.get h2;have hl:=r.length;have hn:=qM2;have fin:EP X Ab σ Q w s:=⟨z,H,I,rw',q⟩;by_cases h0:0<=i
 ·have hj:i.toNat=j:=by
   rw [seqIndex_of h0 h5] at h1;exact D3 h1
  exact item_listR pl.isList h0 (by lia) (by rw [hj];simpa using ew) fin hs
 ·have hj:(i+(its.toArray.size:Int)).toNat=j:=by
   rw [seqIndex_neg (by lia) h4] at h1
   rw [B4,<- hl];exact D3 h1
  exact subscriptTail_builtinR (x:=w) pl.isList.typeIs slot_list_getitem.lookup
   (wpAny_getItem_list_neg (Q:=fun r s'=>r=w/\EP X Ab σ Q r s') pl.isList (by lia) (by rw [B4] <;> lia) (by lia) (by rw [hj];simpa using ew) ⟨rfl,fin⟩) hs
theorem qAX:IxR X (rIxT X.K):=by
 intro value slice Ab s σ H x y v u Q I rx ry h hs;obtain ⟨p,xs,i,z,rfl,rfl,hq,he,q⟩:=h;cases rx;obtain ⟨t,rfl⟩:=ry;obtain ⟨its,r,pl,hz⟩:=I.tuple hq;obtain ⟨j,h1,h2,h3,h4,h5⟩:=qTF he;obtain ⟨w,ew,rw'⟩:=r.get h2;have hl:=r.length;have hn:=qM2;have fin:EP X Ab σ Q w s:=⟨z,H,I,rw',q⟩;exact subscriptTail_builtinR (x:=w) pl.typeIs slot_tuple_getitem.lookup
  (getItem_tuple (j:=j) (Q:=fun r s'=>r=w/\EP X Ab σ Q r s') pl (by lia) (by lia) (by rw [B4,<- hl];exact h1) (by simpa using ew) ⟨rfl,fin⟩) hs
theorem qQ0 (its:List Value) (n j:Nat) (u:Value):G4 (·.setIfInBounds j u) { cls:=.type "list",data:=.seq its.toArray n }={ cls:=.type "list",data:=.seq (its.set j u).toArray n }:=by
 simp [G4]
theorem Inv.lst {Ab:List (Addr × Obj)} {σ:St} {H:Hp} {s:Shared} {p:Addr} {xs:List V} (I:Inv X Ab σ H s) (h:H p=some (.lst xs)) :
  ∃ (its:List Value) (n:Nat),Vals xs its/\s.heap.get? p=some { cls:=.type "list",data:=.seq its.toArray n }/\xs.length<=sizeLine:=by
 obtain ⟨z,its,n,r,e⟩:=I.hok p _ h;exact ⟨its,n,r,e,z⟩
theorem Inv.lstUpd {Ab:List (Addr × Obj)} {σ:St} {H:Hp} {s:Shared} {p:Addr} {xs ys:List V} {its its':List Value} {n n':Nat} {f:Obj->Obj} (I:Inv X Ab σ H s) (h:H p=some (.lst xs))
  (ho:s.heap.get? p=some { cls:=.type "list",data:=.seq its.toArray n }) (hf:f { cls:=.type "list",data:=.seq its.toArray n }={ cls:=.type "list",data:=.seq its'.toArray n' }) (r:Vals ys its') (hz:ys.length<=sizeLine) (t:Nat) :
  Inv X Ab σ (Ah H p (.lst ys)) { s with heap:=s.heap.update p f,toks:=t }:=by
 have e:(s.heap.update p f).get? p=some { cls:=.type "list",data:=.seq its'.toArray n' }:=by
  rw [G9 f ho (by rw [hf] <;> rfl),hf]
 refine I.write (x:=p) (e:=p) (by rw [h];trivial) (.inl rfl) (fun b u hb q=>(C5 _ _ (G8 hb)).trans q) ⟨_,e⟩ ?_
 exact ⟨hz,its',n',r,e⟩
def qZM:V->V->V->Hp->(Hp->Prop)->Prop:=fun o i v H Q=>∃ p xs k j,o=.ref p/\i=.int k/\H p=some (.lst xs)/\ixN xs.length k=some j/\Q (Ah H p (.lst (xs.set j v)))
theorem qTT:PSet X qZM:=by
 intro Ab s σ H o i v ov iv u Q I ro ri rv h;obtain ⟨p,xs,k,j,rfl,rfl,hp,hj,q⟩:=h;cases ro;obtain ⟨t,rfl⟩:=ri;obtain ⟨its,n,r,ho,hz⟩:=I.lst hp;obtain ⟨h1,h2,h3,h4⟩:=qSA hj;have hl:=r.length;have hn:=qM2;have I':Inv X Ab σ (Ah H p (.lst (xs.set j v))) { s with heap:=s.heap.update p (G4 (·.setIfInBounds j u)) }:=
  I.lstUpd hp ho (qQ0 its n j u) (r.set rv j) (by rw [P1];exact hz) s.toks
 by_cases h0:0<=k
 ·have hk:k.toNat=j:=by
   rw [seqIndex_of h0 h4] at h1;exact D3 h1
  exact PySem.W.ki_setAt ho h0 (by lia) (by rw [B4,<- hl];exact h4) (by rw [hk];exact ⟨_,I',q⟩)
 ·have hk:(k+(its.toArray.size:Int)).toNat=j:=by
   rw [seqIndex_neg (by lia) h3] at h1
   rw [B4,<- hl];exact D3 h1
  exact PySem.W.ki_setBack ho (by lia) (by rw [B4,<- hl];exact h3) (by lia) (by rw [hk];exact ⟨_,I',q⟩)
theorem qLO (lo hi:Option Int) (n:Nat):(sliceBounds lo hi none n).1=((HT.sIx n 0 lo:Nat):Int)/\(sliceBounds lo hi none n).2.1=((HT.sIx n n hi:Nat):Int)/\(sliceBounds lo hi none n).2.2=1:=by
 refine ⟨?_,?_,rfl⟩
 ·cases lo with
  | none=>simp [sliceBounds,HT.sIx]
  | some i=>
   simp only [sliceBounds,HT.sIx,A57,show (1:Int) > 0 by decide,if_true]
   by_cases h:i<0
   ·simp only [h,if_true] <;> lia
   ·simp only [h,if_false] <;> lia
 ·cases hi with
  | none=>simp [sliceBounds,HT.sIx]
  | some i=>
   simp only [sliceBounds,HT.sIx,A57,show (1:Int) > 0 by decide,if_true]
   by_cases h:i<0
   ·simp only [h,if_true] <;> lia
   ·simp only [h,if_false] <;> lia
theorem qKC (its:List Value) (lo hi:Option Int):slicePick its.toArray lo hi none=((its.drop (HT.sIx its.length 0 lo)).take (HT.sIx its.length its.length hi - HT.sIx its.length 0 lo)).toArray:=by
 obtain ⟨h1,h2,h3⟩:=qLO lo hi its.toArray.size;unfold slicePick;rw [h1,h2,h3];simp only [sliceRange_one,pick_run,B4] <;> rfl
def rSlL (K:PySem.W.Frag):V->Option Int->Option Int->Hp->VK->Prop:=fun x lo hi H Q=>∃ a xs,x=.ref a/\SqL K H a xs/\∀ p,H p=none->Q (.ref p) (Ah H p (.lst (cutV xs lo hi)))
theorem qN7:SlR X (rSlL X.K):=by
 intro Ab s σ H x v vl vu lo hi sl Q I rx hs pl pu h;obtain ⟨a,xs,rfl,hx,q⟩:=h;cases rx;obtain ⟨its,r,ht,hz⟩:=I.list hx;have hlen:=r.length;refine ⟨"list",_,slot_list_getitem.lookup,ht.isList.typeIs,?_⟩;refine wpAny_getItem_list_slice ht.isList hs pl pu .none (by simp) ?_ (by rw [B4] <;> lia)
 rw [qKC,<- hlen];refine ⟨.ref s.heap.objs.size,_,I.laid (t':=s.toks) (o:=.lst (cutV xs lo hi)) (fun b ob q=>A3 _ q) (A5 _) ?_,rfl,q _ (I.hok.fresh (A5 _))⟩;exact ⟨F3 (qIW xs lo hi) hz,_,0,(r.drop (HT.sIx xs.length 0 lo)).take (HT.sIx xs.length xs.length hi - HT.sIx xs.length 0 lo),C1 _ rfl⟩
noncomputable def qJB:V->Bool
 | .non=>true
 | .bl _=>true
 | .int _=>true
 | .str _=>true
 | _=>false
noncomputable def eqV:V->V->Bool
 | .non,.non=>true
 | .bl a,.bl b=>a == b
 | .bl a,.int b=>(if a then 1 else 0) == b
 | .int a,.bl b=>a == (if b then 1 else 0)
 | .int a,.int b=>a == b
 | .str a,.str b=>a == b
 | _,_=>false
theorem qYS {A:Around} {s:Shared} {y x:V} {u v:Value} (ry:RelV y u) (rx:RelV x v) (fy:qJB y=true) (fx:qJB x=true):SeqAt.EqAt A s u v (eqV y x):=by
 cases y with
 | non=>
  cases ry;cases x with
  | non=>cases rx;exact A70 _
  | bl b=>cases rx;exact SeqAt.EqAt.none_bool b
  | int b=>obtain ⟨t,rfl⟩:=rx;exact A22 b t
  | str b=>obtain ⟨t,rfl⟩:=rx;exact A23 b t
  | _=>exact absurd (show false=true from fx) B0
 | bl a=>
  cases ry;cases x with
  | non=>cases rx;exact SeqAt.EqAt.bool_none a
  | bl b=>cases rx;exact SeqAt.EqAt.bool_bool a b
  | int b=>obtain ⟨t,rfl⟩:=rx;exact SeqAt.EqAt.bool_int a b t
  | str b=>obtain ⟨t,rfl⟩:=rx;exact SeqAt.EqAt.bool_str a b t
  | _=>exact absurd (show false=true from fx) B0
 | int a=>
  obtain ⟨t',rfl⟩:=ry;cases x with
  | non=>cases rx;exact A20 a t'
  | bl b=>cases rx;exact SeqAt.EqAt.int_bool a t' b
  | int b=>obtain ⟨t,rfl⟩:=rx;exact A32 a t' b t
  | str b=>obtain ⟨t,rfl⟩:=rx;exact A28 a t' b t
  | _=>exact absurd (show false=true from fx) B0
 | str a=>
  obtain ⟨t',rfl⟩:=ry;cases x with
  | non=>cases rx;exact A21 a t'
  | bl b=>cases rx;exact SeqAt.EqAt.str_bool a t' b
  | int b=>obtain ⟨t,rfl⟩:=rx;exact A29 a t' b t
  | str b=>obtain ⟨t,rfl⟩:=rx;exact SeqAt.EqAt.str_str a t' b t
  | _=>exact absurd (show false=true from fx) B0
 | _=>exact absurd (show false=true from fy) B0
noncomputable def eqU (x:V) (u:Value):Bool:=match u with
 | .none=>eqV .non x
 | .bool b=>eqV (.bl b) x
 | .int i _=>eqV (.int i) x
 | .str z _=>eqV (.str z) x
 | _=>false
theorem qVP {x y:V} {u:Value} (r:RelV y u) (f:qJB y=true):eqU x u=eqV y x:=by
 cases y with
 | non=>cases r;rfl
 | bl b=>cases r;rfl
 | int i=>obtain ⟨t,rfl⟩:=r;rfl
 | str z=>obtain ⟨t,rfl⟩:=r;rfl
 | _=>exact absurd (show false=true from f) B0
theorem qO1 {x:V}:∀ {xs:List V} {us:List Value},Vals xs us->xs.all qJB=true->us.any (eqU x)=xs.any fun y=>eqV y x
 | _,_,.nil,_=>rfl
 | y::xs,u::us,.cons r t,f=>by
  rw [A92,L3] at f;rw [V8,V8,qVP r f.1,qO1 t f.2]
theorem qKM {A:Around} {s:Shared} {x:V} {v:Value} (rx:RelV x v) (fx:qJB x=true):∀ {xs:List V} {us:List Value},Vals xs us->xs.all qJB=true->∀ u ∈ us,SeqAt.EqAt A s u v (eqU x u)
 | _,_,.nil,_=>fun u hu=>by cases hu
 | y::xs,u::us,.cons r t,f=>fun u' hu=>by
  rw [A92,L3] at f;rcases B7.mp hu with rfl | hu
  ·rw [qVP r f.1];exact qYS r rx f.1 fx
  ·exact qKM rx fx t f.2 u' hu
noncomputable def inV (x:V) (xs:List V):Bool:=xs.any fun y=>eqV y x
def rIn (K:PySem.W.Frag) (neg:Bool):R2:=fun x y H Q=>∃ p xs,y=.ref p/\(SqL K H p xs\/SqT K H p xs)/\qJB x=true/\xs.all qJB=true/\Q (.bl (if neg then !inV x xs else inV x xs)) H
theorem qIA:OpR X (compareOp .In) (rIn X.K false):=by
 intro Ab s σ H x y v u Q I rx ry h;obtain ⟨p,xs,rfl,hq,fx,fs,q⟩:=h;cases ry;rcases hq with hq | hq
 ·obtain ⟨its,r,pl,hz⟩:=I.list hq;refine SeqAt.in_listAt (eqU x) pl.isList (fun w hw=>qKM rx fx r fs w (by simpa using hw)) ⟨.bl _,H,I,rfl,?_⟩
  rw [show its.toArray.any (eqU x)=its.any (eqU x) by simp,qO1 r fs]
  exact q
 ·obtain ⟨its,r,pl,hz⟩:=I.tuple hq;refine SeqAt.in_tupleAt (eqU x) pl (fun w hw=>qKM rx fx r fs w (by simpa using hw)) ⟨.bl _,H,I,rfl,?_⟩
  rw [show its.toArray.any (eqU x)=its.any (eqU x) by simp,qO1 r fs]
  exact q
theorem qAB:qDT X (.builtin "len") (fun xs H Q=>∃ p ys,xs=[.ref p]/\(SqL X.K H p ys\/SqT X.K H p ys)/\Q (.int ys.length) H):=by
 intro Ab s σ H xs us Q I r h;obtain ⟨p,ys,rfl,hq,q⟩:=h;obtain ⟨u,rfl,rx⟩:=qE2 r;cases rx;have hn:=qM2;rcases hq with hq | hq
 ·obtain ⟨its,r',pl,hz⟩:=I.list hq;have hlen:=r'.length;exact Calls.call_len_list pl.isList (by simp only [B4] <;> lia) ⟨.int ys.length,H,I.tok _,⟨s.toks+1,by rw [B4,hlen]⟩,q⟩
 ·obtain ⟨its,r',pl,hz⟩:=I.tuple hq;have hlen:=r'.length;exact len_tuple pl (by simp only [B4] <;> lia) ⟨.int ys.length,H,I.tok _,⟨s.toks+1,by rw [B4,hlen]⟩,q⟩
theorem qMQ:qDT X (.type "list") (fun xs H Q=>∃ p ys,xs=[.ref p]/\(SqL X.K H p ys\/SqT X.K H p ys)/\∀ l,H l=none->Q (.ref l) (Ah H l (.lst ys))):=by
 intro Ab s σ H xs us Q I r h;obtain ⟨p,ys,rfl,hq,q⟩:=h;obtain ⟨u,rfl,rx⟩:=qE2 r;cases rx;have fin:∀ (its:List Value),Vals ys its->ys.length<=sizeLine->∀ (h':Heap) (c':Nat),(∀ b o',s.heap.get? b=some o'->h'.get? b=some o')->
   h'.get? s.heap.objs.size=some { cls:=.type "list",dict:=none,data:=.seq its.toArray c',slots:=#[] }->EP X Ab σ Q (.ref s.heap.objs.size) { s with heap:=h' }:=fun its r' hz h' c' kp e=>
  ⟨.ref s.heap.objs.size,_,I.laid (t':=s.toks) kp (A5 _) (show ObjOk X.prog X.w _ h' _ (.lst ys) from ⟨hz,its,c',r',e⟩),rfl,q _ (I.hok.fresh (A5 _))⟩
 rcases hq with hq | hq
 ·obtain ⟨its,r',pl,hz⟩:=I.list hq;have hlen:=r'.length;obtain ⟨o,ho,hc,n,hd⟩:=pl.isList;exact call_list_seq p (.inl rfl) ho hc hd (fun h' c' kp e=>fin its r' hz h' c' kp e) (by simp only [B4] <;> lia)
 ·obtain ⟨its,r',pl,hz⟩:=I.tuple hq;have hlen:=r'.length;obtain ⟨o,ho,hc,n,hd⟩:=pl;exact call_list_seq p (.inr rfl) ho hc hd (fun h' c' kp e=>fin its r' hz h' c' kp e) (by simp only [B4] <;> lia)
theorem qAJ:qDT X (.type "tuple") (fun xs H Q=>∃ p ys,xs=[.ref p]/\((SqL X.K H p ys/\∀ l,H l=none->Q (.ref l) (Ah H l (.tup ys)))\/(SqT X.K H p ys/\Q (.ref p) H))):=by
 intro Ab s σ H xs us Q I r h;obtain ⟨p,ys,rfl,h⟩:=h;obtain ⟨u,rfl,rx⟩:=qE2 r;cases rx;rcases h with ⟨hq,q⟩ | ⟨hq,q⟩
 ·obtain ⟨its,r',pl,hz⟩:=I.list hq;have hlen:=r'.length;refine call_tuple_list pl.isList (fun h' kp=>?_) (by simp only [B4] <;> lia)
  have I1:Inv X Ab σ H { s with heap:=h' }:=I.kept (t':=s.toks) kp;have I2:Inv X Ab σ (Ah H h'.objs.size (.tup ys)) { s with heap:=h'.push { cls:=.type "tuple",data:=.seq its.toArray } }:=
   I1.laid (t':=s.toks) (fun b o e=>A3 _ e) (A5 _) (show ObjOk X.prog X.w _ _ _ (.tup ys) from ⟨hz,its,r',IsTup.new _ _⟩)
  exact ⟨.ref h'.objs.size,_,I2,rfl,q _ (I1.hok.fresh (A5 _))⟩
 ·obtain ⟨its,r',pl,hz⟩:=I.tuple hq;exact call_tuple_same pl ⟨.ref p,H,I,rfl,q⟩
def tyV (K:PySem.W.Frag) (T:String) (x:V) (H:Hp):Prop:=match x with
 | .str _=>T = "str"
 | .int _=>T = "int"
 | .ref p=>(T = "list"/\∃ xs,SqL K H p xs)\/(T = "tuple"/\∃ o,K.lookup p=some o/\o.cls=.type "tuple"/\o.dict=none)\/
   (T = "dict"/\((∃ Ag,H p=some (.dK Ag))\/∃ Ag,H p=some (.dT Ag)))\/(T = "set"/\∃ S n,H p=some (.set S n))
 | _=>False
theorem qV7 {Ab:List (Addr × Obj)} {σ:St} {H:Hp} {s:Shared} {T:String} {x:V} {v:Value} (I:Inv X Ab σ H s) (r:RelV x v) (ty:tyV X.K T x H) :
  s.TypeIs v T/\∀ a,v=.ref a->∃ ob,s.heap.get? a=some ob/\ob.dict=none:=by
 cases x with
 | str z=>
  obtain ⟨t,rfl⟩:=r;cases (show T = "str" from ty);exact ⟨typeIs_str s z t,fun _ e=>nomatch e⟩
 | int i=>
  obtain ⟨t,rfl⟩:=r;cases (show T = "int" from ty);exact ⟨typeIs_int s i t,fun _ e=>nomatch e⟩
 | ref p=>
  cases r;rcases ty with ⟨rfl,xs,hq⟩ | ⟨rfl,o,hk,hc,hd⟩ | ⟨rfl,hk⟩ | ⟨rfl,S,n,hk⟩
  ·obtain ⟨its,_,pl,_⟩:=I.list hq;refine ⟨pl.isList.typeIs,fun a e=>?_⟩;cases e;obtain ⟨o,n,e,c,hd,_⟩:=pl;exact ⟨o,e,hd⟩
  ·refine ⟨⟨o,I.kIn p o hk,hc⟩,fun a e=>?_⟩;cases e;exact ⟨o,I.kIn _ o hk,hd⟩
  ·have z:∃ o,s.heap.get? p=some o/\o.ExactDict:=by
    rcases hk with ⟨Ag,hk⟩ | ⟨Ag,hk⟩
    ·obtain ⟨_,_,_,_,o,_,_,e,ex,_⟩:=I.hok p _ hk;exact ⟨o,e,ex⟩
    ·obtain ⟨_,_,_,_,o,_,_,e,ex,_⟩:=I.hok p _ hk;exact ⟨o,e,ex⟩
   obtain ⟨o,e,ex⟩:=z;refine ⟨⟨o,e,ex.1⟩,fun a e2=>?_⟩;cases e2;exact ⟨o,e,ex.2.1⟩
  ·obtain ⟨o,_,_,_,e,ex,_⟩:=I.hok p _ hk;refine ⟨⟨o,e,ex.1⟩,fun a e2=>?_⟩;cases e2;exact ⟨o,e,ex.2.1⟩
 | _=>exact U4 ty
def tBM0 (K:PySem.W.Frag) (T:String) (r:V->List V->Hp->VK->Prop) (to:TE):TE:=fun σ H Q=>to σ H fun x H1=>tyV K T x H1/\r x [] H1 Q
def tBM (K:PySem.W.Frag) (T:String) (r:V->List V->Hp->VK->Prop) (to:TE) (t:TA):TE:=fun σ H Q=>to σ H fun x H1=>tyV K T x H1/\t σ H1 fun xs H2=>r x xs H2 Q
variable {o e:Expr} {es:List Expr} {to:TE} {t:TA} {name:Str} {apos cpos:Pos} {T id:String} {r:V->List V->Hp->VK->Prop}
theorem qVG (pa:PlainAttrs T) (slot:Slot T name id) (hty:typeOf (.builtin id)=pure (.type "method_descriptor")) (hm:MtR X id r) (ho:PE X o to)
  (hbase:attributeBase o name X.env (eval o X.env)=eval o X.env:=by rfl) (hline:(apos.endLine == cpos.line)=true:=by rfl):PE X (.Call (.Attribute o name apos) [] [] cpos) (tBM0 X.K T r to):=by
 intro Ab s σ H Q I h;refine wpAny_Call_method0_late hbase hline (thn (ho Ab s σ H _ I h) fun v s1 ⟨x,H1,I1,r1,ty,q1⟩=>?_);obtain ⟨h1,h2⟩:=qV7 I1 r1 ty;exact ⟨T,id,pa,slot,hty,h1,h2,w6 rfl (PySem.evalArgs_none (hm Ab s1 σ H1 x [] v [] Q I1 r1 .nil q1))⟩
theorem qLV (pa:PlainAttrs T) (slot:Slot T name id) (hty:typeOf (.builtin id)=pure (.type "method_descriptor")) (hm:MtR X id r) (ho:PE X o to) (ha:PA X (e::es) t)
  (hbase:attributeBase o name X.env (eval o X.env)=eval o X.env:=by rfl)
  (hfew:((backTo cpos (starEach (e::es) X.env)).all (fun x=>!x.1) && (backToKw cpos (keywordEach [] X.env)).all (fun x=>x.1.isSome)
   && decide ((e::es).length+([]:List Keyword).length+(if ([]:List Keyword).isEmpty then 0 else 1)<30))=true:=by rfl)
  (hline:(apos.endLine == cpos.line)=true:=by rfl) (hs:starEach (e::es) X.env=(false,eval e X.env)::starEach es X.env:=by rfl) (hplain:(backTo cpos (starEach es X.env)).any (·.1)=false:=by rfl) :
  PE X (.Call (.Attribute o name apos) (e::es) [] cpos) (tBM X.K T r to t):=by
 intro Ab s σ H Q I h;refine wpAny_Call_method_late hbase hfew hline rfl (thn (ho Ab s σ H _ I h) fun v s1 ⟨x,H1,I1,r1,ty,q1⟩=>?_);obtain ⟨h1,h2⟩:=qV7 I1 r1 ty;refine ⟨T,id,pa,slot,hty,h1,h2,?_⟩;have hA:=ha cpos Ab s1 σ H1 _ I1 q1;rw [hs] at hA ⊢;refine w6 (by show (false || (backTo cpos (starEach es X.env)).any (·.1))=false;rw [hplain] <;> rfl) (Calls.evalArgs_plain ?_)
 exact thn hA fun us s2 ⟨vs,H2,I2,r2,q2⟩=>hm Ab s2 σ H2 x vs v us Q I2 r1 r2 q2
end
end L2
namespace L2
open PySem PySem.Spec PyProof.Rows
def MtM (X:Cx) (id:String) (r:V->List V->Hp->VK->Prop):Prop:=
 ∀ (Ab:List (Addr × Obj)) (s:Shared) (σ:St) (H:Hp) (x:V) (xs:List V) (v:Value) (us:List Value) (Q:VK),Inv X Ab σ H s->RelV x v->Vals xs us->r x xs H Q->
  wpAny (model X.prog X.w) X.A (call (.builtin id) (v::us)) (EP X Ab σ Q) X.xe s
theorem Vals.one:∀ {x:V} {us:List Value},Vals [x] us->∃ u,us=[u]/\RelV x u
 | _,_,.cons r .nil=>⟨_,rfl,r⟩
theorem Vals.two:∀ {x y:V} {us:List Value},Vals [x,y] us->∃ u v,us=[u,v]/\RelV x u/\RelV y v
 | _,_,_,.cons r (.cons q .nil)=>⟨_,_,rfl,r,q⟩
theorem Vals.zero:∀ {us:List Value},Vals [] us->us=[]
 | _,.nil=>rfl
theorem Vals.reverse {xs:List V} {us:List Value} (h:Vals xs us):Vals xs.reverse us.reverse:=by
 induction h with
 | nil=>exact .nil
 | cons r t ih=>rw [R9,R9];exact Vals.append ih (.cons r .nil)
theorem Vals.rep {xs:List V} {us:List Value} (h:Vals xs us):∀ k:Nat,Vals (D2 k xs).flatten (D2 k us).flatten
 | 0=>.nil
 | k+1=>by
  rw [N9,N9,T1,T1];exact Vals.append h (Vals.rep h k)
theorem qIR (its:List Value):∀ (k:Nat) (acc:List Value),
  A42 (fun x1 x2=>x1++x2) acc.toArray (D2 k its.toArray)=(acc++(D2 k its).flatten).toArray
 | 0,acc=>by simp
 | k+1,acc=>by
  have e:acc.toArray++its.toArray=(acc++its).toArray:=by simp
  have e2:(acc++its)++(D2 k its).flatten=acc++(D2 (k+1) its).flatten:=by
   rw [N9,T1,G5]
  rw [<- e2,<- qIR its k (acc++its),<- e,N9,V0]
section
variable {X:Cx} {Ab:List (Addr × Obj)} {σ:St} {H:Hp} {s:Shared} {l b:Addr} {xs ys zs:List V}
theorem Inv.lset {its its':List Value} {n:Nat} {f:Array Value->Array Value} {t':Nat} (I:Inv X Ab σ H s) (hH:H l=some (.lst xs))
  (e:s.heap.get? l=some { cls:=.type "list",data:=.seq its.toArray n }) (hf:f its.toArray=its'.toArray) (hv:Vals ys its') (hz:ys.length<=sizeLine) :
  Inv X Ab σ (Ah H l (.lst ys)) { s with heap:=s.heap.update l (G4 f),toks:=t' }:=by
 have q:=PySem.IsL.update e f;rw [hf] at q;refine I.write (x:=l) (e:=l) (by rw [hH];exact trivial) (.inl rfl) (fun b' u hb hu=>(C5 s.heap (G4 f) (G8 hb)).trans hu) ⟨_,q⟩ ?_
 exact ⟨hz,its',_,hv,q⟩
theorem Inv.lnew {its:List Value} {t':Nat} (I:Inv X Ab σ H s) (hv:Vals ys its) (hz:ys.length<=sizeLine) :
  Inv X Ab σ (Ah H s.heap.objs.size (.lst ys)) { s with heap:=s.heap.push { cls:=.type "list",data:=.seq its.toArray },toks:=t' }:=
 I.laid (fun _ _ q=>A3 _ q) (A5 _) ⟨hz,its,0,hv,C1 _ rfl⟩
theorem Inv.fresh (I:Inv X Ab σ H s):H s.heap.objs.size=none:=I.hok.fresh (A5 _)
theorem Inv.lstM (I:Inv X Ab σ H s) (hH:H l=some (.lst xs)):xs.length<=sizeLine/\∃ (its:List Value) (n:Nat),Vals xs its/\xs.length=its.length/\s.heap.get? l=some { cls:=.type "list",data:=.seq its.toArray n }:=by
 obtain ⟨z,its,n,r,e⟩:=I.hok l _ hH;exact ⟨z,its,n,r,r.length,e⟩
theorem qOS {n:Nat} (h:n<=sizeLine):U0 n=false:=by
 unfold U0;exact decide_eq_false (by lia)
end
section
variable {X:Cx}
def qWB:V->List V->Hp->VK->Prop:=fun x vs H Q=>∃ l xs y,x=.ref l/\vs=[y]/\H l=some (.lst xs)/\xs.length<sizeLine/\Q .non (Ah H l (.lst (xs++[y])))
theorem qCE:MtM X "list.append" qWB:=by
 intro Ab s σ H x vs v us Q I rx rv h;obtain ⟨l,xs,y,rfl,rfl,hH,hz,q⟩:=h;cases rx;obtain ⟨u,rfl,ru⟩:=rv.one;obtain ⟨z,its,n,r,hl,e⟩:=I.lstM hH;refine call_meets F.slot_list_append ⟨_,e,rfl⟩ F.entry_list_append (F.args_list_append_2 _ _) (PySem.list_append l its.toArray n u (by rw [B4];lia)) ⟨e,?_⟩
 refine ⟨.non,_,I.lset (its':=its++[u]) hH e (by simp) (r.append (.cons ru .nil)) ?_,rfl,q⟩
 rw [A4,B1]
 lia
def qWA:V->List V->Hp->VK->Prop:=fun x vs H Q=>∃ l b xs zs,x=.ref l/\vs=[.ref b]/\H l=some (.lst xs)/\H b=some (.lst zs)/\xs.length+zs.length<=sizeLine/\Q .non (Ah H l (.lst (xs++zs)))
theorem qRT:MtM X "list.extend" qWA:=by
 intro Ab s σ H x vs v us Q I rx rv h;obtain ⟨l,b,xs,zs,rfl,rfl,hH,hB,hz,q⟩:=h;cases rx;obtain ⟨u,rfl,ru⟩:=rv.one;cases ru;obtain ⟨z,its,n,r,hl,e⟩:=I.lstM hH;obtain ⟨z2,its2,n2,r2,hl2,e2⟩:=I.lstM hB;have hsz:its.toArray.size+its2.toArray.size<=sizeLine:=by rw [B4,B4];lia
 have hlong:¬ (!its.toArray.isEmpty && U0 (its.toArray.size+its2.toArray.size))=true:=by
  rw [qOS hsz,A15];exact B0
 refine call_meets F.slot_list_extend ⟨_,e,rfl⟩ F.entry_list_extend (F.args_list_extend_2 _ _)
  (AutoSeq1.list_extend_list_list_0 l its.toArray n b its2.toArray n2 hlong (by rw [B4];lia) (by lia)) ⟨e,e2,?_⟩
 refine ⟨.non,_,I.lset (its':=its++its2) hH e (by simp) (r.append r2) ?_,rfl,q⟩
 rw [A4]
 lia
def qTX:V->List V->Hp->VK->Prop:=fun x vs H Q=>∃ l xs,x=.ref l/\vs=[]/\H l=some (.lst xs)/\Q .non (Ah H l (.lst xs.reverse))
theorem qJS:MtM X "list.reverse" qTX:=by
 intro Ab s σ H x vs v us Q I rx rv h;obtain ⟨l,xs,rfl,rfl,hH,q⟩:=h;cases rx;have hus:=rv.zero;subst hus;obtain ⟨z,its,n,r,hl,e⟩:=I.lstM hH;refine call_meets F.slot_list_reverse ⟨_,e,rfl⟩ F.entry_list_reverse (F.args_list_reverse_1 _) (AutoSeq1.list_reverse_list_0 l its.toArray n (by rw [B4];lia)) ⟨e,?_⟩
 refine ⟨.non,_,I.lset (its':=its.reverse) hH e (by simp) r.reverse ?_,rfl,q⟩
 rw [d6]
 lia
def rCat:R2:=fun x y H Q=>∃ l b xs zs,x=.ref l/\y=.ref b/\H l=some (.lst xs)/\H b=some (.lst zs)/\xs.length+zs.length<=sizeLine/\∀ p,H p=none->Q (.ref p) (Ah H p (.lst (xs++zs)))
theorem qOR:OpR X (binaryOp .Add) rCat:=by
 intro Ab s σ H x y v u Q I rx ry h;obtain ⟨l,b,xs,zs,rfl,rfl,hH,hB,hz,q⟩:=h;cases rx;cases ry;obtain ⟨z,its,n,r,hl,e⟩:=I.lstM hH;obtain ⟨z2,its2,n2,r2,hl2,e2⟩:=I.lstM hB;refine PySem.P.add_list e e2 ?_ (by rw [B4,B4];lia)
 have ea:its.toArray++its2.toArray=(its++its2).toArray:=by simp
 rw [ea];exact ⟨.ref _,_,I.lnew (t':=s.toks) (r.append r2) (by rw [A4];lia),rfl,q _ I.fresh⟩
def rRep:R2:=fun x y H Q=>∃ l k xs,x=.ref l/\y=.int k/\H l=some (.lst xs)/\-(2 ^ 63)<=k/\k<2 ^ 63/\xs.length * k.toNat<=sizeLine/\
 ∀ p,H p=none->Q (.ref p) (Ah H p (.lst (D2 k.toNat xs).flatten))
theorem qWR {α:Type} (xs:List α) (k:Nat):(D2 k xs).flatten.length=k * xs.length:=by
 induction k with
 | zero=>simp
 | succ k ih=>rw [N9,T1,A4,ih,Nat.succ_mul,Nat.add_comm]
theorem qVH:OpR X (binaryOp .Mult) rRep:=by
 intro Ab s σ H x y v u Q I rx ry h;obtain ⟨l,k,xs,rfl,rfl,hH,h1,h2,hz,q⟩:=h;cases rx;obtain ⟨t,rfl⟩:=ry;obtain ⟨z,its,n,r,hl,e⟩:=I.lstM hH;have hlen:its.toArray.size * k.toNat<=sizeLine:=by rw [B4,<- hl];exact hz
 have hcap:¬ its.toArray.size * k.toNat > (2 ^ 63 - 1) / 8:=by
  have:(sizeLine:Nat)<=(2 ^ 63 - 1) / 8:=by decide
  lia
 have hfit:¬ (!Builtin.List.listFitsIndex k)=true:=by
  rw [fitsIndex_both h1 h2];exact B0
 have hlong:¬ U0 (its.toArray.size * k.toNat)=true:=by
  rw [qOS hlen];exact B0
 have hnew:A42 (fun x1 x2=>x1++x2) #[] (D2 (if its.toArray.isEmpty=true then 0 else k.toNat) its.toArray)=(D2 k.toNat its).flatten.toArray:=by
  have f0:∀ m:Nat,A42 (fun x1 x2=>x1++x2) #[] (D2 m its.toArray)=(D2 m its).flatten.toArray:=fun m=>by
   have:=qIR its m [];rw [X9] at this;exact this
  rw [f0];cases its with
  | nil=>simp
  | cons a r'=>rw [if_neg (by simp)]
 refine wpAny_binaryOp_repeat_ref (T:="list") (U:="int") (by decide) ⟨_,e,rfl⟩ (fun s'=>typeIs_int s' k t) noFill_list_mul F.fills_int_mul d7 repeat_list A58.lookup
  (call_meets d7 (typeIs_int s k t) A59 (A43 _ _) (int___rmul___int_list k t l its.toArray n)
   ⟨e,rfl,⟨_,e,rfl⟩,call_meets F.slot_list_mul ⟨_,e,rfl⟩ F.entry_list_mul (F.args_list_mul_2 _ _) (AutoListH.list___mul___list_int_3 l its.toArray n k t hfit hcap hlong) ⟨e,?_⟩⟩)
 rw [hnew];exact ⟨.ref _,_,I.lnew (t':=s.toks) (r.rep k.toNat) (by rw [qWR,Nat.mul_comm];exact hz),rfl,q _ I.fresh⟩
end
section
variable {prog:Program} {w:World} {A:Around} {E:Value->Shared->Prop} {s:Shared}
set_option maxRecDepth 100000 in
end
section
variable {X:Cx}
end
end L2
namespace Att
open PySem PySem.W PySem.Calls PyProof.Rows
theorem qIK {P:Params} {h:Heap}:∀ (ns:List Int) (vs:List Value),WellAll P h vs (ns.map WData.int)->IntsAre vs ns:=by
 intro ns
 induction ns with
 | nil=>
  intro vs w;rw [j8] at w;cases w;exact .nil
 | cons n ns ih=>
  intro vs w;rw [C9] at w;cases w with
  | cons a b=>
   cases a;exact .cons _ _ (ih _ b)
theorem qR2 {l:OpenLaw} {n:Nat} (hn:l.most=some n) {P:Params} {h:Heap} {args:List WData} {vals:List Value}
  (hpre:l.row.toRowW.claim.pre args=true) (hwl:WellAll P h vals args) :
  ∃ a vs ns,vals=[C6 a]/\args=[WData.list (ns.map WData.int)]/\h.get? a=some { cls:=.type "list",data:=.seq vs.toArray }/\IntsAre vs ns/\ns.length<=n:=by
 have hsh:WShape.hasAll [] args [.list .int]=true:=(pre_splitW hpre).1;have hc:l.pre.holds [] { args:=args }=true:=(pre_splitW hpre).2;obtain ⟨d,r,rfl,h1,h2⟩:=hasAllW_cons hsh;obtain rfl:=hasAllW_nil h2;obtain ⟨xs,rfl,h3⟩:=hasW_list h1;obtain ⟨ns,rfl⟩:=items_int h3;have hlen:ns.length<=n:=by
  unfold OpenLaw.pre at hc;have h4:(WTm.not (.lt (.lit (.int (n:Int))) (.len (.arg 0)))).holds [] { args:=[.list (ns.map .int)] }=true:=by
   have h4:=(holds_andW hc).1;rw [hn] at h4;exact h4
  have h5:=condW_of h4 (w_not (w_lt w_lit (w_len_list (w_arg rfl))));rw [A0] at h5;refine W8 fun q=>?_;have q':(n:Int)<((ns.length:Nat):Int):=by lia
  first
   | (rw [decide_eq_true q'] at h5;exact absurd h5 (by decide))
   | (simp at h5;lia)
 cases hwl with
 | cons w1 w2=>
  cases w2;cases w1 with
  | list ho hall=>exact ⟨_,_,ns,rfl,rfl,ho,qIK ns _ hall,hlen⟩
theorem qRB (l:OpenLaw) (args:List WData):l.row.toRowW.claim.post args (.bool true) args=true:=
 postW_of (r:=l.row.toRowW) (X:=(true == true))
  (show WShape.has [] (.bool true) .bool=true by first | rfl | decide | simp [WShape.has,WShape.arms,WShape.armsAll])
  (show (WTm.eq .res (.lit (.bool true))).value [] { args:=args,res:=some (.bool true),after:=args }=some (.bool (true == true)) from w_eq_bool (w_res rfl) w_lit) rfl
theorem attach_call {l:OpenLaw} {n:Nat} {q:Program} {loose:List Str} {XP:(Str->Option Value)->Heap->Prop} {YP:World->Heap->Prop} {d:DefRec}
  (hn:l.most=some n) (hdf:d.params.defaults=[])
  (call:∀ (w:World) (s₀ s₁:Shared) (mg mb:Str->Option Value) (fa:Addr) (o:Obj) (pm cd doc:Value) (a:Addr) (vs:List Value) (ns:List Int),
   Ground q loose [] XP w s₀ mg mb s₁.heap->YP w s₁.heap->
   s₁.heap.get? fa=some o->o.data=.func (docDef d.name d.params d.body d.scope pm cd doc)->s₁.heap.CodeRec cd d.name->mg d.name=some (.ref fa)->
   s₁.heap.get? a=some { cls:=.type "list",data:=.seq vs.toArray }->IntsAre vs ns->ns.length<=n->s₁.gens=#[]->
   codeAny (model l.prog w) callerA (.call (.ref fa) ⟨[.ref a],[]⟩) (fun r s'=>r=.ok (.ret (.bool true))/\OldK s₁.heap s'.heap/\s'.os=s₁.os/\AllBare s'.gens) s₁) :
  WalkO q loose XP YP l.row.toRowW d [] (fun f vs=>A88 f vs):=by
 intro w s₀ s₁ mg mb G Y fa o pm cd doc dV kV ho hd hcd hD hmg hg args vals as hpre hlay hrd hwl hlo;obtain rfl:dV=.none:=Dflts.none hD hdf;obtain rfl:kV=.none:=Dflts.noKw hD;obtain ⟨a,vs,ns,rfl,rfl,hobj,hints,hlen⟩:=qR2 hn hpre hwl;refine enter_call (codeAny_mono (call w s₀ s₁ mg mb fa o pm cd doc a vs ns G Y ho (fd_plain hd) hcd hmg hobj hints hlen hg) fun r s' hq=>?_);obtain ⟨rfl,h2,h3,h4⟩:=hq;exact ⟨.inl ⟨.bool true,.bool true,[],rfl,fun _=>rfl,.bool true,qRB l _,fun _=>⟨List.Pairwise.nil,fun _ hm=>(nomatch hm)⟩⟩,h2,h3,h4⟩
section
variable {prog:Program} {w:World} {A:Around} {E:Value->Shared->Prop} {s:Shared} {K:Frag}
end
end Att
namespace L2
open PySem PySem.Spec PyProof.Rows
theorem qHX:∀ {vs:List Value} {ns:List Int},IntsAre vs ns->Vals (ns.map V.int) vs
 | _,_,.nil=>.nil
 | _,_,.cons n t h=>.cons ⟨t,rfl⟩ (qHX h)
end L2
namespace L2
open PySem PySem.Spec PyProof.Rows
end L2
namespace L2
open PySem PySem.Spec PyProof.Rows
noncomputable def qCI (s:Stmt):Arguments:=match s with
 | .FunctionDef _ a _ _ _ _ _ _ _ _=>a
 | _=>{ posonlyargs:=[],args:=[],vararg:=none,kwonlyargs:=[],kw_defaults:=[],kwarg:=none,defaults:=[] }
noncomputable def qAZ (s:Stmt):List Stmt:=match s with
 | .FunctionDef _ _ b _ _ _ _ _ _ _=>b
 | _=>[]
noncomputable def qA9 (s:Stmt):Scope:=match s with
 | .FunctionDef _ _ _ _ _ _ sc _ _ _=>sc
 | _=>{ kind:=.function,names:=[],isGenerator:=false,isCoroutine:=false }
abbrev CX0:CXT:=fun _ _ _ _ _ _=>False
abbrev E0:XK:=fun _ _ _=>False
theorem qZT {X:Cx}:qTH CX0 X E0:=fun _ _ _ _ _ _ _ h=>h.elim
structure Fun (K:PySem.W.Frag) (x qual:Str) (st:Stmt) (f:Addr) (fd:FuncData):Prop where
 ex:∃ (oc:Value) (od:Option Addr) (kV doc pm:Value) (an:Option Addr) (cdv ct:Value) (osl:Array (Option Value)),
  fd=O1 x qual (qCI st) (qAZ st) (qA9 st) .none kV doc pm an cdv ct/\K.lookup f=some ⟨oc,od,.func fd,osl⟩/\R3 K cdv qual=true
 kp:M3 K (.ref f)=true
section
variable {P:Program} {w:World} {K:PySem.W.Frag} {mg:Str->Option Value} {base:Heap}
theorem Fun.ok {x qual:Str} {st:Stmt} {f:Addr} {fd:FuncData} {N ps:List Str} {k:Nat} {sp:Sp} (F:Fun K x qual st f fd) (S:FnScope N ps (qA9 st)) (len:∀ vs H Q E,sp vs H Q E->vs.length=ps.length)
  (hbody:∀ (cdv:Value) (A:Around) (outer:List Env) (s:Shared) (H:Hp) (vs:List V) (Q:VK) (E:XK),Room k (A.deeper (envOfC qual (qA9 st) s.heap.objs.size f cdv))->sp vs H Q E->
   ∃ t,PSs (cxOf CX0 P w K mg base N qual (qA9 st) f cdv A outer s H E).nox (qAZ st) t/\t { nx:=fun _ H'=>Q .non H',rt:=Q } (start N vs) H):FnOk P w K mg base CX0 (k+1) f fd ps sp:=by
 obtain ⟨oc,od,kV,doc,pm,an,cdv,ct,osl,rfl,lk,hcd⟩:=F.ex;refine qYQ lk hcd S len fun A outer s H vs Q E hr hsp=>?_;obtain ⟨t,h,q⟩:=hbody cdv A outer s H vs Q E hr hsp;exact ⟨t,h.nox,q⟩
theorem Fun.binds {x qual:Str} {st:Stmt} {f:Addr} {fd:FuncData} {ps:List Str} (F:Fun K x qual st f fd)
  (h:∀ (kV doc pm:Value) (an:Option Addr) (cdv ct:Value) (us:List Value),us.length=ps.length->bindArgs (O1 x qual (qCI st) (qAZ st) (qA9 st) .none kV doc pm an cdv ct) ⟨us,[]⟩=pure (ps.zip us)):Binds K fd ps []:=by
 obtain ⟨oc,od,kV,doc,pm,an,cdv,ct,osl,rfl,lk,hcd⟩:=F.ex;exact .all (h kV doc pm an cdv ct)
theorem fun_mk {x qual:Str} {st:Stmt} {f:Addr} {oc:Value} {od an:Option Addr} {osl:Array (Option Value)} {kV doc pm cdv ct:Value} (l:K.lookup f=some ⟨oc,od,.func (O1 x qual (qCI st) (qAZ st) (qA9 st) .none kV doc pm an cdv ct),osl⟩)
  (c:R3 K cdv qual=true) (k:M3 K (.ref f)=true):Fun K x qual st f (O1 x qual (qCI st) (qAZ st) (qA9 st) .none kV doc pm an cdv ct):=⟨⟨oc,od,kV,doc,pm,an,cdv,ct,osl,rfl,l,c⟩,k⟩
end
theorem qJA {A:Around} {k:Nat} (hr:Room k A):A.units+2<cLine:=U7 (Nat.add_le_add_left (by decide:2<=64) _) hr.units
theorem qAF {n:Nat} (h:n<=1000):n<sizeLine:=U7 h (by decide)
section
variable {X:Cx}
theorem pv (i:Nat) {x:Str} {pos:Pos} (hN:X.N[i]?=some x:=by rfl) (hv:Vis X.env.scope x:=by first | exact E9 rfl | exact A16 (E9 rfl) | exact A16 (A16 rfl)) (hd:(x == ("__debug__" : Str))=false:=by decide)
  (hcd:(x == ("__classdict__" : Str))=false:=by decide):PE X (.Name x pos) (tVar i):=qY8 hN hv hd hcd
end
theorem iteF {A B:Prop} (h:B):if false=true then A else B:=by
 rw [if_neg B0];exact h
theorem iteT {A B:Prop} (h:A):if true=true then A else B:=by
 rw [if_pos rfl];exact h
theorem ite2 {c A B:Prop} [Decidable c] (h1:c->A) (h2:¬ c->B):if c then A else B:=by
 by_cases h:c
 ·rw [if_pos h];exact h1 h
 ·rw [if_neg h];exact h2 h
def Same (H H':Hp):Prop:=∀ b o,H b=some o->H' b=some o
theorem Same.refl (H:Hp):Same H H:=fun _ _ h=>h
theorem Same.trans {H H1 H2:Hp} (a:Same H H1) (b:Same H1 H2):Same H H2:=fun c o h=>b c o (a c o h)
theorem Same.free {H H':Hp} (e:Same H H') {l:Addr} (h:H' l=B06):H l=B06:=by
 cases q:H l with
 | none=>rfl
 | some o=>
  rw [e l o q] at h;cases h
end L2
namespace L2
open PySem PySem.Spec PyProof.Rows
section
variable {κ:Type} [DecidableEq κ]
noncomputable def valV (Ag:List (κ × V)) (k:κ):Option V:=(Ag.find? fun kv=>decide (kv.1=k)).map (·.2)
noncomputable def putK (Ag:List (κ × V)) (k:κ) (v:V):List (κ × V):=
 if (Ag.any fun kv=>decide (kv.1=k))=true then Ag.map (fun kv=>if kv.1=k then (kv.1,v) else kv) else Ag++[(k,v)]
theorem qBE {p:κ × V} {r:List (κ × V)} {k:κ} (e:p.1=k):valV (p::r) k=some p.2:=by simp [valV,V1,e]
theorem qB7 {p:κ × V} {r:List (κ × V)} {k:κ} (e:¬ p.1=k):valV (p::r) k=valV r k:=by simp [valV,V1,e]
theorem qG5 (k:κ):∀ Ag:List (κ × V),(Ag.any fun kv=>decide (kv.1=k))=(valV Ag k).isSome
 | []=>rfl
 | p::r=>by
  rw [V8];by_cases e:p.1=k
  ·simp only [qBE e,decide_eq_true e,Bool.true_or,Option.isSome_some]
  ·rw [qB7 e,decide_eq_false e,Bool.false_or];exact qG5 k r
theorem qO3 (k j:κ) (y:V):∀ Ag:List (κ × V),valV (Ag.map fun kv=>if kv.1=k then (kv.1,y) else kv) j=(valV Ag j).map fun x=>if j=k then y else x
 | []=>rfl
 | p::r=>by
  have ih:=qO3 k j y r;rw [C9];by_cases h:p.1=k
  ·rw [if_pos h];by_cases e:p.1=j
   ·rw [qBE (p:=(p.1,y)) e,qBE e,Q3,if_pos (e.symm.trans h)]
   ·rw [qB7 (p:=(p.1,y)) e,qB7 e,ih]
  ·rw [if_neg h];by_cases e:p.1=j
   ·rw [qBE (p:=p) e,qBE e,Q3,if_neg (fun z=>h (e.trans z))]
   ·rw [qB7 (p:=p) e,qB7 e,ih]
theorem qLG (k j:κ) (y:V):∀ Ag:List (κ × V),valV Ag k=none->valV (Ag++[(k,y)]) j=if j=k then some y else valV Ag j
 | [],_=>by
  by_cases e:k=j
  ·rw [if_pos e.symm];exact qBE (p:=(k,y)) e
  ·rw [if_neg (fun z=>e z.symm)];exact qB7 (p:=(k,y)) e
 | p::r,hn=>by
  rw [A60];have hk:¬ p.1=k:=fun z=>by rw [qBE z] at hn;cases hn
  rw [qB7 hk] at hn;have ih:=qLG k j y r hn;by_cases e:p.1=j
  ·rw [qBE e,qBE e,if_neg (fun z=>hk (e.trans z))]
  ·rw [qB7 e,qB7 e,ih]
theorem qTP (Ag:List (κ × V)) (k j:κ) (y:V):valV (putK Ag k y) j=if j=k then some y else valV Ag j:=by
 unfold putK;by_cases a:(Ag.any fun kv=>decide (kv.1=k))=true
 ·rw [if_pos a,qO3];rw [qG5] at a;by_cases e:j=k
  ·obtain ⟨x,hx⟩:=X4.mp a;rw [if_pos e,e,hx,Q3,if_pos rfl]
  ·rw [if_neg e];cases valV Ag j with
   | none=>rfl
   | some x=>rw [Q3,if_neg e]
 ·rw [if_neg a];refine qLG k j y Ag ?_;rw [qG5] at a;cases q:valV Ag k with
  | none=>rfl
  | some x=>rw [q] at a;exact (a rfl).elim
theorem qDJ (Ag:List (κ × V)) (k:κ) (v:V):(putK Ag k v).length<=Ag.length+1:=by
 unfold putK
 split
 ·rw [A0];lia
 ·rw [A4,E3,L9];lia
theorem qOJ {Ag:List (κ × V)} {k:κ} (v:V) (h:valV Ag k=none):putK Ag k v=Ag++[(k,v)]:=by
 unfold putK;rw [qG5,h];exact if_neg (by decide)
theorem RelO.isSome_eq {o:Option V} {u:Option Value} (r:RelO o u):o.isSome=u.isSome:=by
 cases o with
 | none=>cases u with
  | none=>rfl
  | some _=>exact (show False from r).elim
 | some _=>cases u with
  | none=>exact (show False from r).elim
  | some _=>rfl
theorem KV.val {Ag:List (κ × V)} {vs:List (κ × Value)} (r:KV Ag vs) (k:κ):RelO (valV Ag k) (valueAt vs k):=by
 unfold KV at r
 induction r with
 | nil=>exact d4
 | @cons p q ps qs h t ih=>
  obtain ⟨h1,h2⟩:=h;by_cases e:p.1=k
  ·have e':q.1=k:=h1.symm.trans e;have b:valueAt (q::qs) k=some q.2:=by simp [valueAt,V1,e']
   rw [qBE e,b];exact h2
  ·have e':¬ q.1=k:=fun z=>e (h1.trans z);have b:valueAt (q::qs) k=valueAt qs k:=by simp [valueAt,V1,e']
   rw [qB7 e,b];exact ih
theorem KV.any {Ag:List (κ × V)} {vs:List (κ × Value)} (r:KV Ag vs) (k:κ):(Ag.any fun kv=>decide (kv.1=k))=vs.any fun kv=>decide (kv.1=k):=by
 unfold KV at r
 induction r with
 | nil=>rfl
 | cons h t ih=>rw [V8,V8,ih,h.1]
theorem KV.repl {Ag:List (κ × V)} {vs:List (κ × Value)} (r:KV Ag vs) (k:κ) {y:V} {u:Value} (ry:RelV y u) :
  KV (Ag.map fun kv=>if kv.1=k then (kv.1,y) else kv) (vs.map fun kv=>if kv.1=k then (kv.1,u) else kv):=by
 unfold KV at r ⊢
 induction r with
 | nil=>exact .nil
 | @cons p q ps qs h t ih=>
  rw [C9,C9];refine .cons ?_ ih;obtain ⟨h1,h2⟩:=h;by_cases e:p.1=k
  ·rw [if_pos e,if_pos (h1.symm.trans e)];exact ⟨h1,ry⟩
  ·rw [if_neg e,if_neg (fun z=>e (h1.trans z))];exact ⟨h1,h2⟩
theorem KV.put {Ag:List (κ × V)} {vs:List (κ × Value)} (r:KV Ag vs) (k:κ) {y:V} {u:Value} (ry:RelV y u):KV (putK Ag k y) (stored vs k u):=by
 unfold putK stored;rw [r.any k];by_cases e:(vs.any fun kv=>decide (kv.1=k))=true
 ·rw [if_pos e,if_pos e];exact r.repl k ry
 ·rw [if_neg e,if_neg e];exact J6 r ⟨rfl,ry⟩
theorem KV.length {Ag:List (κ × V)} {vs:List (κ × Value)} (r:KV Ag vs):Ag.length=vs.length:=B9 r
end
theorem qS9 {P:Program} {w:World} {k:Key} {u:Value} (r:RelV (kV k) u):(qCG P w).is k u=true:=by
 cases k with
 | inl i=>obtain ⟨t,e⟩:=(show ∃ t,u=O0 i t from r);subst e;exact qNL P w i t
 | inr x=>obtain ⟨t,e⟩:=(show ∃ t,u=A69 x t from r);subst e;exact qNK P w x t
theorem qa7 {k:KI} {u:Value} (r:RelV (kI k) u):kiIs k u=true:=by
 cases k with
 | some k=>cases k with
  | inl i=>obtain ⟨t,e⟩:=(show ∃ t,u=O0 i t from r);subst e;exact qM7 i t
  | inr x=>obtain ⟨t,e⟩:=(show ∃ t,u=A69 x t from r);subst e;exact qM6 x t
 | none=>have e:u=Q7:=r;subst e;rfl
theorem qM9:∀ {ks:List KI} {us:List Value},Vals (ks.map kI) us->Paired (fun k v=>kiIs k v=true) ks us
 | [],_,r=>by rw [j8] at r;cases r;exact .nil
 | k::ks,_,r=>by
  rw [C9] at r;cases r with
  | cons h t=>exact .cons (qa7 h) (qM9 t)
abbrev KT (H:Hp):List (List KI × V)->List (List KI × Addr × Value)->Prop:=Paired fun p q=>p.1=q.1/\H q.2.1=some (.tup (p.1.map kI))/\RelV p.2 q.2.2
theorem KT.val {H:Hp} {Ag:List (List KI × V)} {xs:List (List KI × Addr × Value)} (r:KT H Ag xs) (k:List KI):RelO (valV Ag k) ((atKey xs k).map (·.2)):=by
 induction r with
 | nil=>exact d4
 | @cons p q ps qs h t ih=>
  obtain ⟨h1,_,h2⟩:=h;by_cases e:p.1=k
  ·have e':q.1=k:=h1.symm.trans e;have b:atKey (q::qs) k=some q.2:=by simp [atKey,V1,e']
   rw [qBE e,b];exact h2
  ·have e':¬ q.1=k:=fun z=>e (h1.trans z);have b:atKey (q::qs) k=atKey qs k:=by simp [atKey,V1,e']
   rw [qB7 e,b];exact ih
theorem KT.repl {H:Hp} {Ag:List (List KI × V)} {xs:List (List KI × Addr × Value)} (r:KT H Ag xs) (k:List KI) {y:V} {u:Value} (ry:RelV y u) :
  KT H (Ag.map fun kv=>if kv.1=k then (kv.1,y) else kv) (xs.map (putAt k u)):=by
 induction r with
 | nil=>exact .nil
 | @cons p q ps qs h t ih=>
  rw [C9,C9];refine .cons ?_ ih;obtain ⟨h1,h2,h3⟩:=h;unfold putAt;by_cases e:p.1=k
  ·rw [if_pos e,if_pos (h1.symm.trans e)];exact ⟨h1,h2,ry⟩
  ·rw [if_neg e,if_neg (fun z=>e (h1.trans z))];exact ⟨h1,h2,h3⟩
theorem KT.put {H:Hp} {Ag:List (List KI × V)} {xs:List (List KI × Addr × Value)} (r:KT H Ag xs) (k:List KI) {b:Addr} {y:V} {u:Value} (hb:H b=some (.tup (k.map kI))) (ry:RelV y u) :
  KT H (putK Ag k y) (storedH xs k b u):=by
 have e:(Ag.any fun kv=>decide (kv.1=k))=(atKey xs k).isSome:=by
  rw [qG5,(r.val k).isSome_eq,Z3]
 unfold putK storedH;rw [e];by_cases q:(atKey xs k).isSome=true
 ·rw [if_pos q,if_pos q];exact r.repl k ry
 ·rw [if_neg q,if_neg q];exact J6 r ⟨rfl,hb,ry⟩
theorem KT.keeps {H H':Hp} {Ag:List (List KI × V)} {xs:List (List KI × Addr × Value)} (r:KT H Ag xs) (ht:∀ b ys,H b=some (.tup ys)->H' b=some (.tup ys)):KT H' Ag xs:=
 Paired.mapP r fun _ _ z=>⟨z.1,ht _ _ z.2.1,z.2.2⟩
section
variable {P:Program} {w:World} {H:Hp} {h:Heap} {a:Addr}
theorem qY3 {u:HO} (ok:HOk P w H h) (e:Rd H a u):ObjOk P w H h a u:=e.ok ok
theorem qSZ {Ag:List (Key × V)} (ok:HOk P w H h) (e:Rd H a (.dK Ag)):Ag.length<=sizeLine/\(a == sysModules)=false/\∃ vs,KV Ag vs/\h.DictOf (qCG P w) a vs:=
 show ObjOk P w H h a (.dK Ag) from qY3 ok e
theorem qYV {Ag:List (Key × V)} (ok:HOk P w H h) (e:H a=some (.dK Ag)):Ag.length<=sizeLine/\(a == sysModules)=false/\∃ vs,KV Ag vs/\h.DictOf (qCG P w) a vs:=qSZ ok (.inl e)
theorem qJV {ks:List KI} (ok:HOk P w H h) (e:H a=some (.tup (ks.map kI))):(qM0 P w).is h ks a:=by
 obtain ⟨_,its,r,o,h1,h2,n,h3⟩:=(show ObjOk P w H h a (.tup (ks.map kI)) from ok a _ e);exact ⟨o,its.toArray,n,h1,h2,h3,by simpa using qM9 r⟩
theorem qSX {Ag:List (List KI × V)} (ok:HOk P w H h) (e:Rd H a (.dT Ag)):Ag.length<=sizeLine/\(a == sysModules)=false/\
  ∃ xs,KT H Ag xs/\h.DictOfH (qM0 P w) a xs:=by
 obtain ⟨z,y,xs,r,o,es,ep,h1,h2,h3,h4,h5⟩:=(show ObjOk P w H h a (.dT Ag) from qY3 ok e);refine ⟨z,y,xs,r,o,es,ep,h1,h2,h3,h4,fun x hx=>?_,h5⟩;have all:∀ {l:List (List KI × V)} {m:List (List KI × Addr × Value)},KT H l m->∀ x ∈ m,(qM0 P w).is h x.1 x.2.1:=by
  intro l m q
  induction q with
  | nil=>intro x hx;exact nomatch hx
  | @cons p q ps qs hq t ih=>
   intro x hx;rcases B7.mp hx with e | hx
   ·subst e;exact qJV ok (by rw [<- hq.1];exact hq.2.1)
   ·exact ih x hx
 exact all r x hx
theorem qYU {Ag:List (List KI × V)} (ok:HOk P w H h) (e:H a=some (.dT Ag)):Ag.length<=sizeLine/\(a == sysModules)=false/\
  ∃ xs,KT H Ag xs/\h.DictOfH (qM0 P w) a xs:=qSX ok (.inl e)
end
def DGet (H:Hp) (a:Addr) (y:V) (r:Option V):Prop:=
 (∃ Ag k,Rd H a (.dK Ag)/\y=kV k/\r=valV Ag k)\/∃ Ag k b,Rd H a (.dT Ag)/\y=.ref b/\H b=some (.tup (k.map kI))/\r=valV Ag k
def DPut (H:Hp) (a:Addr) (y v:V) (H':Hp):Prop:=
 (∃ Ag k,H a=some (.dK Ag)/\y=kV k/\Ag.length<sizeLine/\H'=Ah H a (.dK (putK Ag k v)))\/
 ∃ Ag k b,H a=some (.dT Ag)/\y=.ref b/\H b=some (.tup (k.map kI))/\Ag.length<sizeLine/\H'=Ah H a (.dT (putK Ag k v))
theorem DGet.k {H:Hp} {a:Addr} {Ag:List (Key × V)} {k:Key} (e:H a=some (.dK Ag)):DGet H a (kV k) (valV Ag k):=.inl ⟨Ag,k,.inl e,rfl,rfl⟩
theorem DPut.k {H:Hp} {a:Addr} {Ag:List (Key × V)} {k:Key} {v:V} (e:H a=some (.dK Ag)) (hl:Ag.length<sizeLine):DPut H a (kV k) v (Ah H a (.dK (putK Ag k v))):=.inl ⟨Ag,k,e,rfl,hl,rfl⟩
section
variable {X:Cx} {Ab:List (Addr × Obj)} {σ:St} {H:Hp} {s:Shared} {a:Addr} {y v:V} {u r:Value} {o:Option V} {A:Around} {E:Value->Shared->Prop}
theorem Inv.big (I:Inv X Ab σ H s):sysModules<s.heap.objs.size:=by
 have h:mainGlobals<s.heap.objs.size:=(I.mod.glob.keeps I.bk).lt;exact j9 (by decide) h
theorem qT3 {Q:Value->Shared->Prop} (hu:A.units+2<cLine) (I:Inv X Ab σ H s) (g:DGet H a y (some v)) (ry:RelV y u) (h:∀ w' s',Inv X Ab σ H s'->RelV v w'->Q w' s') :
  wpAny (model X.prog X.w) A (getItem (.ref a) u) Q E s:=by
 rcases g with ⟨Ag,k,e,ey,l⟩ | ⟨Ag,k,b,e,ey,eb,l⟩
 ·subst ey;obtain ⟨z,hd,vs,rel,dd⟩:=qSZ I.hok e;obtain ⟨w',hw,rw'⟩:=RelO.some_of (v:=v) (o:=valueAt vs k) (by rw [l];exact rel.val k)
  exact wpAny_getItem_of (qS9 ry) dd.mapOf hw (h w' _ (I.tok _) rw')
 ·subst ey;cases (show u=C6 b from ry);obtain ⟨z,hd,xs,rel,dd⟩:=qSX I.hok e;obtain ⟨w',hw,rw'⟩:=RelO.some_of (v:=v) (o:=(atKey xs k).map (·.2)) (by rw [l];exact rel.val k)
  obtain ⟨p,hp,hp2⟩:=y4.mp hw;refine wpAny_getItem_heap (qKK hu) (qJV I.hok eb) dd hp ?_;rw [hp2];exact h w' _ (I.tok _) rw'
theorem d_in {Q:Value->Shared->Prop} (hu:A.units+2<cLine) (I:Inv X Ab σ H s) (g:DGet H a y o) (ry:RelV y u) (h:∀ s',Inv X Ab σ H s'->Q (.bool o.isSome) s') :
  wpAny (model X.prog X.w) A (compareOp .In u (.ref a)) Q E s:=by
 rcases g with ⟨Ag,k,e,ey,l⟩ | ⟨Ag,k,b,e,ey,eb,l⟩
 ·subst ey;obtain ⟨z,hd,vs,rel,dd⟩:=qSZ I.hok e;refine wpAny_in_of (qS9 ry) hd dd.mapOf ?_;rw [<- (rel.val k).isSome_eq,<- l];exact h _ (I.tok _)
 ·subst ey;cases (show u=C6 b from ry);obtain ⟨z,hd,xs,rel,dd⟩:=qSX I.hok e;refine wpAny_in_heap (qKK hu) (qJV I.hok eb) hd dd ?_;have q:=(rel.val k).isSome_eq;rw [Z3] at q;rw [<- q,<- l];exact h _ (I.tok _)
theorem qX8 {Q:Value->Shared->Prop} (hu:A.units+2<cLine) (I:Inv X Ab σ H s) (g:DGet H a y o) (ry:RelV y u) (h:∀ s',Inv X Ab σ H s'->Q (.bool (!o.isSome)) s') :
  wpAny (model X.prog X.w) A (compareOp .NotIn u (.ref a)) Q E s:=by
 rcases g with ⟨Ag,k,e,ey,l⟩ | ⟨Ag,k,b,e,ey,eb,l⟩
 ·subst ey;obtain ⟨z,hd,vs,rel,dd⟩:=qSZ I.hok e;refine wpAny_notIn_of (qS9 ry) hd dd.mapOf ?_;rw [<- (rel.val k).isSome_eq,<- l];exact h _ (I.tok _)
 ·subst ey;cases (show u=C6 b from ry);obtain ⟨z,hd,xs,rel,dd⟩:=qSX I.hok e;refine wpAny_notIn_heap (qKK hu) (qJV I.hok eb) hd dd ?_;have q:=(rel.val k).isSome_eq;rw [Z3] at q;rw [<- q,<- l];exact h _ (I.tok _)
theorem qL5 {h':Heap} {t':Nat} {ob:HO} (I:Inv X Ab σ H s) (mu:Mut (H a)) (hs:Heap.SameBut a s.heap h') (he:∃ q,h'.get? a=some q) (new:ObjOk X.prog X.w (Ah H a ob) h' a ob) :
  Inv X Ab σ (Ah H a ob) { s with heap:=h',toks:=t' }:=
 I.write (x:=a) (e:=a) mu (.inl rfl) (fun b q hb z=>(hs.2 b hb).trans z) he new
theorem qVR {P:Program} {w:World} {H':Hp} {h':Heap} {Ag:List (Key × V)} {vs:List (Key × Value)} (z:Ag.length<=sizeLine) (hd:(a == sysModules)=false) (rel:KV Ag vs) (dd:h'.DictOf (qCG P w) a vs) :
  ObjOk P w H' h' a (.dK Ag):=⟨z,hd,vs,rel,dd⟩
theorem qT2 {H':Hp} {Q:Unit->Shared->Prop} (hu:A.units+2<cLine) (I:Inv X Ab σ H s) (g:DPut H a y v H') (ry:RelV y u) (rv:RelV v r) (h:∀ s',Inv X Ab σ H' s'->Q () s') :
  wpAny (model X.prog X.w) A (setItem (.ref a) u r) Q E s:=by
 rcases g with ⟨Ag,k,e,ey,l,eH⟩ | ⟨Ag,k,b,e,ey,eb,l,eH⟩
 ·subst ey eH;obtain ⟨z,hd,vs,rel,dd⟩:=qYV I.hok e;have hz:vs.length<=sizeLine:=by rw [<- rel.length];exact z
  have hl:(putK Ag k v).length<=sizeLine:=by have:=qDJ Ag k v;lia
  refine wpAny_setItem_pairs (hsz:=hz) (qS9 ry) dd fun h' dd' hs=>h _ ?_;have he:∃ q,h'.get? a=some q:=let ⟨q,_,_,hq,_⟩:=dd';⟨q,hq⟩
  exact qL5 I (by rw [e];exact d4) hs he (qVR hl hd (rel.put k rv) dd')
 ·subst ey eH;cases (show u=C6 b from ry);obtain ⟨z,hd,xs,rel,dd⟩:=qYU I.hok e;have hz:xs.length<=sizeLine:=by rw [<- B9 rel];exact z
  have hl:(putK Ag k v).length<=sizeLine:=by have:=qDJ Ag k v;lia
  refine wpAny_setItem_heap (hsz:=hz) (qKK hu) (qJV I.hok eb) dd fun h' dd' hs=>h _ ?_;obtain ⟨q,es,ep,hq,h2,h3,h4,_,h5⟩:=dd';refine qL5 I (by rw [e];exact d4) hs ⟨q,hq⟩ ⟨hl,hd,_,(rel.put k eb rv).keeps fun c ys ec=>?_,q,es,ep,hq,h2,h3,h4,h5⟩
  rw [qA7 (qCD ec e (fun z=>nomatch z))];exact ec
end
section
variable {X:Cx} {Ab:List (Addr × Obj)} {σ:St} {H:Hp} {s:Shared} {a:Addr} {Ag:List (Key × V)} {k:Key} {u:Value} {A:Around} {E:Value->Shared->Prop}
end
def NoSl (i:Expr):Prop:=∀ ov iv,subscripted i false ov iv=operate [ov,iv] (getItem ov iv)
theorem qW4 {prog:Program} {w:World} {A:Around} {E:Value->Shared->Prop} {s:Shared} {env:Env} {value slice:Expr} {pos:Pos} {T id:String} {Q:Value->Shared->Prop}
  (hl:typeLookup (.type T) "__getitem__" = pure (some (.builtin id))) (hs:NoSl slice)
  (h:wpAny (model prog w) A (eval value env) (fun o s₁=>wpAny (model prog w) A (eval slice env) (fun i s₂=>s₂.TypeIs o T/\wpAny (model prog w) A (getItem o i) Q E s₂) E s₁) E s) :
  wpAny (model prog w) A (eval (.Subscript value slice pos) env) Q E s:=by
 refine Subscript_ (wpAny_mono h (fun o s₁ h₁=>wpAny_mono h₁ (fun i s₂ h₂=>?_) fun _ _ x=>x) fun _ _ x=>x);obtain ⟨hT,h₂⟩:=h₂;unfold subscriptTail;refine wpAny_bind ?_;rw [getitemInPython_of_ne hT.not_modules];refine wpAny_bind (wpAny_specialOf hT hl ?_);have fin:wpAny (model prog w) A (subscripted slice false o i) (fun r s₃=>wpAny (model prog w) A (letTemporaryGo value o r >>= fun _=>pure r) Q E s₃) E s₂:=by
  rw [hs o i];exact wpAny_operating (wpAny_mono h₂ (fun r s₃ h₃=>wpAny_bind (wpAny_letTemporaryGo (wpAny_pure h₃))) fun _ _ x=>x)
 first
  | exact wpAny_pure (wpAny_bind fin)
  | exact wpAny_bind (wpAny_pure (wpAny_bind fin))
  | exact wpAny_bind fin
theorem qNV {X:Cx} {Ab:List (Addr × Obj)} {σ:St} {H:Hp} {s:Shared} {a:Addr} {y:V} {o:Option V} (I:Inv X Ab σ H s) (g:DGet H a y o):s.TypeIs (.ref a) "dict":=by
 rcases g with ⟨Ag,k,e,_,_⟩ | ⟨Ag,k,b,e,_,_,_⟩
 ·obtain ⟨_,_,vs,_,dd⟩:=qSZ I.hok e;exact dd.typeIs
 ·obtain ⟨_,_,xs,_,dd⟩:=qSX I.hok e;exact dd.typeIs
def qZG (td ty:TE):TE:=fun σ H Q=>td σ H fun x H1=>ty σ H1 fun y H2=>∃ a v,x=.ref a/\DGet H2 a y (some v)/\Q v H2
def tDIn (ty td:TE):TE:=fun σ H Q=>ty σ H fun y H1=>td σ H1 fun x H2=>∃ a o,x=.ref a/\DGet H2 a y o/\Q (.bl o.isSome) H2
def qW3 (ty td:TE):TE:=fun σ H Q=>ty σ H fun y H1=>td σ H1 fun x H2=>∃ a o,x=.ref a/\DGet H2 a y o/\Q (.bl (!o.isSome)) H2
def qZI (td ty tv:TE):TS:=fun D σ H=>tv σ H fun v H1=>td σ H1 fun x H2=>ty σ H2 fun y H3=>∃ a H4,x=.ref a/\DPut H3 a y v H4/\D.nx σ H4
section
variable {X:Cx} {o i e value:Expr} {pos pos' tpos:Pos} {td ty tv:TE}
theorem qBJ (hu:X.A.units+2<cLine) (ho:PE X o td) (hi:PE X i ty) (hs:NoSl i):PE X (.Subscript o i pos) (qZG td ty):=by
 intro Ab s σ H Q I h;refine qW4 PySem.F.slot_dict_getitem.lookup hs (thn (ho Ab s σ H _ I h) fun u s1 ⟨x,H1,I1,rx,q1⟩=>thn (hi Ab s1 σ H1 _ I1 q1) fun iv s2 ⟨y,H2,I2,ry,a,v,ex,g,q2⟩=>?_);subst ex;obtain rfl:u=C6 a:=rx;exact ⟨qNV I2 g,qT3 hu I2 g ry fun w' s3 I3 rw'=>⟨v,H2,I3,rw',q2⟩⟩
theorem qYA (hu:X.A.units+2<cLine) (hi:PE X i ty) (ho:PE X o td):PC X .In i o (tDIn ty td):=by
 intro Ab s σ H Q I h;refine thn (hi Ab s σ H _ I h) fun iv s1 ⟨y,H1,I1,ry,q1⟩=>thn (ho Ab s1 σ H1 _ I1 q1) fun u s2 ⟨x,H2,I2,rx,a,ov,ex,g,q2⟩=>?_;subst ex;obtain rfl:u=C6 a:=rx;exact d_in hu I2 g ry fun s3 I3=>⟨.bl ov.isSome,H2,I3,rfl,q2⟩
theorem qI8 (hu:X.A.units+2<cLine) (hi:PE X i ty) (ho:PE X o td):PC X .NotIn i o (qW3 ty td):=by
 intro Ab s σ H Q I h;refine thn (hi Ab s σ H _ I h) fun iv s1 ⟨y,H1,I1,ry,q1⟩=>thn (ho Ab s1 σ H1 _ I1 q1) fun u s2 ⟨x,H2,I2,rx,a,ov,ex,g,q2⟩=>?_;subst ex;obtain rfl:u=C6 a:=rx;exact qX8 hu I2 g ry fun s3 I3=>⟨.bl (!ov.isSome),H2,I3,rfl,q2⟩
theorem qKH (hu:X.A.units+2<cLine) (ho:PE X o td) (hi:PE X i ty) (hv:PE X value tv) (hs:swapsWith value (some (.Subscript o i pos')) pos.line X.env=pure false) :
  PS X (.Assign [.Subscript o i pos'] value pos) (qZI td ty tv):=by
 intro Ab s σ H D I h;refine wpAny_Assign_Subscript (thn (hv Ab s σ H _ I h) fun r s1 ⟨v,H1,I1,rv,q1⟩=>thn (ho Ab s1 σ H1 _ I1 q1) fun u s2 ⟨x,H2,I2,rx,q2⟩=>thn (hi Ab s2 σ H2 _ I2 q2) fun iv s3 ⟨y,H3,I3,ry,a,H4,ex,g,q3⟩=>?_) hs;subst ex;obtain rfl:u=C6 a:=rx;exact qT2 hu I3 g ry rv fun s4 I4=>⟨σ,H4,I4,q3⟩
end
theorem qP7 {P:Program} {w:World} {H:Hp} (h:Heap) (hb:sysModules<h.objs.size):ObjOk P w H (h.push { cls:=.type "dict",data:=.dict #[] }) h.objs.size (.dK []):=
 ⟨F0 _,beq_eq_false_iff_ne.mpr (G8 (D6 hb)),[],.nil,Heap.DictOf.new h⟩
theorem qUT {P:Program} {w:World} {H:Hp} (h:Heap) (hb:sysModules<h.objs.size):ObjOk P w H (h.push { cls:=.type "dict",data:=.dict #[] }) h.objs.size (.dT []):=
 ⟨F0 _,beq_eq_false_iff_ne.mpr (G8 (D6 hb)),[],.nil,_,#[],0,C1 _ rfl,⟨rfl,rfl,rfl⟩,rfl,rfl,List.nodup_nil⟩
def qXT:TE:=fun _ H Q=>∀ p,H p=none->Q (.ref p) (Ah H p (.dK []))
section
variable {X:Cx} {pos:Pos}
theorem qU4:PE X (.Dict [] [] pos) qXT:=fun Ab s σ H Q I h=>
 wpAny_Dict_empty ⟨.ref s.heap.objs.size,_,I.laid (a:=s.heap.objs.size) (o:=.dK []) (t':=s.toks) (fun _ _ q=>A3 _ q) (A5 _) (qP7 s.heap I.big),rfl,h _ (I.hok.fresh (A5 _))⟩
end
def qQP:List (TE × TE)->St->Hp->(List (V × V)->Hp->Prop)->Prop
 | [],_,H,Q=>Q [] H
 | (tk,tv)::r,σ,H,Q=>tk σ H fun x H1=>tv σ H1 fun y H2=>qQP r σ H2 fun ps H3=>Q ((x,y)::ps) H3
abbrev VV:List (V × V)->List (Value × Value)->Prop:=Paired fun p q=>RelV p.1 q.1/\RelV p.2 q.2
def PPs (X:Cx) (pos:Pos) (keys:List (Option Expr)) (values:List Expr) (trs:List (TE × TE)):Prop:=
 ∀ (Ab:List (Addr × Obj)) (s:Shared) (σ:St) (H:Hp) (Q:List (V × V)->Hp->Prop),Inv X Ab σ H s->qQP trs σ H Q->
  wpAny (model X.prog X.w) X.A (evalPairs (pairTrees keys values X.env pos)) (fun vs s'=>∃ ps H',Inv X Ab σ H' s'/\VV ps vs/\Q ps H') X.xe s
theorem qWC {X:Cx} {pos:Pos}:PPs X pos [] [] []:=fun Ab s σ H Q I h=>pairTrees_nil_walk ⟨[],H,I,.nil,h⟩
theorem qOM {X:Cx} {pos:Pos} {k v:Expr} {ks:List (Option Expr)} {vs:List Expr} {tk tv:TE} {trs:List (TE × TE)} (hk:PE X k tk) (hv:PE X v tv) (hr:PPs X pos ks vs trs) :
  PPs X pos (some k::ks) (v::vs) ((tk,tv)::trs):=fun Ab s σ H Q I h=>
 pairTrees_cons_walk (thn (hk Ab s σ H _ I h) fun u s1 ⟨x,H1,I1,rx,q1⟩=>thn (hv Ab s1 σ H1 _ I1 q1) fun w2 s2 ⟨y,H2,I2,ry,q2⟩=>
  thn (hr Ab s2 σ H2 _ I2 q2) fun ws s3 ⟨ps,H3,I3,rel,q3⟩=>⟨(x,y)::ps,H3,I3,.cons ⟨rx,ry⟩ rel,q3⟩)
noncomputable def qIE (Ag more:List (Key × V)):List (Key × V):=more.foldl (fun acc kv=>putK acc kv.1 kv.2) Ag
theorem KV.merge:∀ {more:List (Key × V)} {rs:List (Key × Value)} {Ag:List (Key × V)} {vs:List (Key × Value)},KV more rs->KV Ag vs->KV (qIE Ag more) (merged vs rs):=by
 intro more rs Ag vs r;unfold KV at r
 induction r generalizing Ag vs with
 | nil=>intro q;exact q
 | @cons p q ps qs h t ih=>
  intro r0;have e:KV (putK Ag p.1 p.2) (stored vs q.1 q.2):=by
   have:=r0.put p.1 h.2;rw [<- h.1];exact this
  exact ih e
theorem qG9:∀ (more Ag:List (Key × V)),(qIE Ag more).length<=Ag.length+more.length
 | [],Ag=>by show Ag.length<=Ag.length+0;lia
 | p::r,Ag=>by
  have h1:=qG9 r (putK Ag p.1 p.2);have h2:=qDJ Ag p.1 p.2;show (qIE (putK Ag p.1 p.2) r).length<=_;rw [E3];lia
theorem qK3 {P:Program} {w:World}:∀ {Ag:List (Key × V)} {ws:List (Value × Value)},VV (Ag.map fun kv=>(kV kv.1,kv.2)) ws->∃ rs,Carries (qCG P w) ws rs/\KV Ag rs
 | [],_,r=>by rw [j8] at r;cases r;exact ⟨[],d4,.nil⟩
 | p::Ag,_,r=>by
  rw [C9] at r;cases r with
  | @cons a b as bs h t=>
   obtain ⟨rs,c,q⟩:=qK3 (P:=P) (w:=w) t;obtain ⟨b1,b2⟩:=b;exact ⟨(p.1,b2)::rs,⟨qS9 h.1,rfl,c⟩,.cons ⟨rfl,h.2⟩ q⟩
def qZF (trs:List (TE × TE)):TE:=fun σ H Q=>∀ p,H p=none->qQP trs σ (Ah H p (.dK [])) fun ps H2=>H2 p=some (.dK [])/\∃ Ag:List (Key × V),ps=Ag.map (fun kv=>(kV kv.1,kv.2))/\Ag.length<=15/\Q (.ref p) (Ah H2 p (.dK (qIE [] Ag)))
theorem qWJ {X:Cx} {pos:Pos} {keys:List (Option Expr)} {values:List Expr} {trs:List (TE × TE)} (h:PPs X pos keys values trs) (hall:keys.all (·.isSome)=true) (hl:keys.length=values.length) (h0:keys ≠ [])
  (h15:keys.length<=15):PE X (.Dict keys values pos) (qZF trs):=by
 intro Ab s σ H Q I q;have hn:=I.hok.fresh (A5 s.heap.objs.size);have I1:=I.laid (a:=s.heap.objs.size) (o:=.dK []) (h':=s.heap.push { cls:=.type "dict",data:=.dict #[] }) (t':=s.toks) (fun _ _ q=>A3 _ q) (A5 _) (qP7 s.heap I.big);refine wpAny_Dict_walk (knd:=qCG X.prog X.w) hall hl h0 h15 (thn (h Ab _ σ _ _ I1 (q _ hn)) fun ws s2 ⟨ps,H2,I2,rel,e,Ag,ep,lk,q2⟩=>?_);subst ep;obtain ⟨rs,c,rk⟩:=qK3 (P:=X.prog) (w:=X.w) rel;obtain ⟨z,hd,vs0,r0,dd⟩:=qYV I2.hok e;cases r0;refine ⟨rs,c,dd,fun h' dd' hs=>⟨.ref s.heap.objs.size,_,?_,rfl,q2⟩⟩;have hz:(qIE [] Ag).length<=sizeLine:=by
  have h1:=qG9 Ag [];rw [L9] at h1;rw [sizeLine_eq];lia
 have he:∃ q,h'.get? s.heap.objs.size=some q:=let ⟨q,_,_,hq,_⟩:=dd';⟨q,hq⟩
 exact qL5 I2 (by rw [e];exact d4) hs he (qVR hz hd (rk.merge .nil) dd')
structure M1 (X:Cx) (o:Expr) (m:Str) (apos:Pos) (e:Expr) (cpos:Pos):Prop where
 base:attributeBase o m X.env (eval o X.env)=eval o X.env
 few:((backTo cpos (starEach [e] X.env)).all (fun x=>!x.1) && (backToKw cpos (keywordEach [] X.env)).all (fun x=>x.1.isSome)
  && decide (([e]:List Expr).length+([]:List Keyword).length+(if ([]:List Keyword).isEmpty then 0 else 1)<30))=true
 line:(apos.endLine == cpos.line)=true
 trees:backTo cpos (starEach [e] X.env)=[(false,eval e X.env)]
structure M2 (X:Cx) (o:Expr) (m:Str) (apos:Pos) (e f:Expr) (cpos:Pos):Prop where
 base:attributeBase o m X.env (eval o X.env)=eval o X.env
 few:((backTo cpos (starEach [e,f] X.env)).all (fun x=>!x.1) && (backToKw cpos (keywordEach [] X.env)).all (fun x=>x.1.isSome)
  && decide (([e,f]:List Expr).length+([]:List Keyword).length+(if ([]:List Keyword).isEmpty then 0 else 1)<30))=true
 line:(apos.endLine == cpos.line)=true
 trees:backTo cpos (starEach [e,f] X.env)=[(false,eval e X.env),(false,eval f X.env)]
section
variable {X:Cx} {Ab:List (Addr × Obj)} {σ:St} {H:Hp} {s:Shared} {a:Addr} {y d:V} {u r:Value} {o:Option V} {A:Around} {E:Value->Shared->Prop}
end
section
variable {X:Cx} {o e f:Expr} {apos cpos:Pos} {td ty tx:TE}
end
section
variable {X:Cx} {Ab:List (Addr × Obj)} {σ:St} {H:Hp} {s:Shared} {a:Addr} {Ag:List (Key × V)} {A:Around} {E:Value->Shared->Prop}
end
section
variable {X:Cx} {Ab:List (Addr × Obj)} {σ:St} {H:Hp} {s:Shared} {a:Addr} {y:V} {u:Value} {A:Around} {E:Value->Shared->Prop}
end
end L2
namespace L2
open PySem PySem.Spec PyProof.Rows
section
variable {X:Cx}
end
section
variable {κ:Type} [DecidableEq κ]
theorem qKL:∀ {l:List κ} {k:κ},l.Nodup->¬ k ∈ l->(l++[k]).Nodup
 | [],k,_,_=>by simp
 | a::r,k,h,hk=>by
  obtain ⟨h1,h2⟩:=P0.mp h;show (a::(r++[k])).Nodup;refine P0.mpr ⟨fun m=>?_,qKL h2 fun m=>hk (B7.mpr (A16 m))⟩;rcases A7.mp m with q | q
  ·exact h1 q
  ·exact hk (B7.mpr (E9 (A6.mp q).symm))
end
end L2
namespace L2
open PySem PySem.Spec PyProof.Rows
def noX:Value->Shared->Prop:=fun _ _=>False
noncomputable def qGO (env:Env):List (Str × NameKind)->List (Str × Addr)->List (Str × Addr)
 | [],acc=>acc
 | (n,k)::r,acc=>qGO env r (if (k == J4)=true then (n,(env.cells.lookup n).getD 0)::acc else acc)
theorem qEM {env:Env}:∀ {names:List (Str × NameKind)} {acc:List (Str × Addr)},(∀ x,(x,J4) ∈ names->∃ c,env.cells.lookup x=some c)->(∀ x c,acc.lookup x=some c->env.cells.lookup x=some c)->
  ∀ x c,(qGO env names acc).lookup x=some c->env.cells.lookup x=some c
 | [],acc,_,ha,x,c,h=>ha x c h
 | (n,k)::r,acc,hf,ha,x,c,h=>by
  refine qEM (names:=r) (fun y hy=>hf y (A9 _ hy)) (fun y d hd=>?_) x c h
  split at hd
  ·rename_i hk
   have hk':k=J4:=by simpa using hk
   subst hk';obtain ⟨e,he⟩:=hf n G7;by_cases hyn:y=n
   ·subst hyn;rw [P2,he] at hd;rw [he];exact hd
   ·rw [W9,beq_eq_false_iff_ne.mpr hyn] at hd;exact ha y d hd
  ·exact ha y d hd
theorem qEN {env:Env}:∀ {names:List (Str × NameKind)} {acc:List (Str × Addr)} {x:Str},((x,J4) ∈ names\/∃ c,acc.lookup x=some c)->∃ c,(qGO env names acc).lookup x=some c
 | [],acc,x,h=>by
  rcases h with h | h
  ·exact absurd h (by simp)
  ·exact h
 | (n,k)::r,acc,x,h=>by
  refine qEN (names:=r) ?_;rcases h with h | ⟨c,h⟩
  ·rcases B7.mp h with e | h
   ·cases e;refine .inr ⟨(env.cells.lookup n).getD 0,?_⟩;rw [if_pos (by rfl),P2]
   ·exact .inl h
  ·refine .inr ?_
   split
   ·by_cases hyn:x=n
    ·subst hyn;exact ⟨_,P2⟩
    ·refine ⟨c,?_⟩;rw [W9,beq_eq_false_iff_ne.mpr hyn];exact h
   ·exact ⟨c,h⟩
theorem qIY {env:Env} (f:Str × NameKind->List (Str × Addr)->Sem (ForInStep (List (Str × Addr))))
  (hf:∀ n k c,f (n,k) c=(if (k == J4)=true then (do let a <- cellOf env n;pure (M4 ((n,a)::c))) else pure (M4 c))) :
  ∀ (names:List (Str × NameKind)) (acc:List (Str × Addr)),(∀ x,(x,J4) ∈ names->∃ c,env.cells.lookup x=some c)->forIn names acc f=(pure (qGO env names acc):Sem _)
 | [],acc,_=>rfl
 | (n,k)::r,acc,h=>by
  have ih:=fun acc=>qIY f hf r acc fun x hx=>h x (A9 _ hx);rw [A73,hf];by_cases hk:(k == J4)=true
  ·have hk':k=J4:=by simpa using hk
   subst hk';obtain ⟨c,hc⟩:=h n G7;rw [if_pos hk];unfold cellOf qGO;rw [hc,if_pos hk];exact ih _
  ·rw [if_neg hk];unfold qGO;rw [if_neg hk];exact ih _
theorem qH5 {scope:Scope} {env:Env} (h:∀ x,(x,J4) ∈ scope.names->∃ c,env.cells.lookup x=some c):closureFor scope env=pure (qGO env scope.names []):=by
 unfold closureFor;dsimp only;rw [qIY (env:=env) _ (fun n k c=>?_) scope.names [] h]
 ·rfl
 ·rfl
theorem qD1 {env:Env} {x:Str}:∀ {names:List (Str × NameKind)},
  (names.map fun (n,k)=>if (k == J4 && env.scope.kind == .function && env.kindOf n == some .cell)=true then (n,A93) else (n,k)).lookup x =
   (names.lookup x).map fun k=>if (k == J4 && env.scope.kind == .function && env.kindOf x == some .cell)=true then A93 else k
 | []=>rfl
 | (n,k)::r=>by
  have ih:=@qD1 env x r;rw [C9];by_cases hx:x=n
  ·subst hx;dsimp only;rw [P2 (b:=k),Q3]
   split
   ·rw [P2]
   ·rw [P2]
  ·have hb:(x == n)=false:=beq_eq_false_iff_ne.mpr hx;dsimp only;rw [W9 (k:=n) (b:=k),hb];dsimp only;rw [<- ih]
   split
   ·rw [W9,hb]
   ·rw [W9,hb]
structure LcZ where
 L:Addr
 cl:List (Str × Addr)
 ex:List Addr
 s₀:Shared
 H₀:Hp
noncomputable def lcCx (X:Cx) (scope:Scope) (own:List Str) (fv:List Nat) (z:LcZ):Cx where
 prog:=X.prog
 w:=X.w
 K:=X.K
 mg:=X.mg
 base:=X.base
 A:=X.A
 N:=own++fv.map fun i=>X.N.getD i P5
 s₀:=z.s₀
 H₀:=z.H₀
 env:=compEnvC scope z.cl z.L X.env
 outer:=X.stack
 stack:=X.stack
 ex:=z.ex
 fn:=fun _=>false
 calm:=X.calm
 pn:=[]
 xe:=noX
structure LcScope (X:Cx) (scope:Scope) (own:List Str) (fv:List Nat):Prop where
 kind:scope.kind=.function
 nocell:∀ y ∈ scope.names,y.2 ≠ .cell
 names:∀ y ∈ scope.names,y.2=.local->scope.names.lookup y.1=some .local
 free:∀ y ∈ scope.names,y.2=.free->X.env.kindOf y.1=some .cell\/X.env.kindOf y.1=some .free
 nd:(own++fv.map fun i=>X.N.getD i P5).Nodup
 fvs:∀ i ∈ fv,i<X.N.length/\scope.names.lookup (X.N.getD i P5)=some .free
noncomputable def qIH (own:List Str) (fv:List Nat) (σ:St):St:=(own.map fun _=>none)++fv.map fun i=>(σ[i]?).join
theorem qMN {prog:Program} {w:World} {A:Around} {R:Result->Shared->Prop} {s:Shared} {elt target iter:Expr} {ifs:List Expr} {scope:Scope} {pos:Pos} {it acc:Value} {env:Env} (I:Nat->Shared->Prop)
  (turn:∀ n s,I n s->wpAny (model prog w) A (pyNext it) (fun r s₁=>match r with
   | none=>R (.ok .next) s₁
   | some v=>wpAny (model prog w) A (letOwnedTupleGo target it v) (fun _ s₁=>wpAny (model prog w) A (assign target env v) (fun _ s₂=>
     wpAny (model prog w) A (forIn ifs true fun c r=>if r=true then do let ok <- isTrue c env (eval c env);pure (M4 ok) else pure (M4 r)) (fun ok s₃=>
      if ok=true then wpAny (model prog w) A (eval elt env) (fun x s₄=>
       wpAny (model prog w) A (call (.builtin "list.append") [acc,x]) (fun _ s₅=>∃ m,m<n/\I m s₅) noX s₄) noX s₃
      else ∃ m,m<n/\I m s₃) noX s₂) noX s₁) noX s₁) noX s)
  (n:Nat) (h:I n s) :
  codeAny (model prog w) A (.compLoop (.ListComp elt [⟨target,iter,ifs,0⟩] scope pos) 0 it acc env) R s:=by
 refine codeAny_loop rfl I (fun n s hI=>?_) n h;show wpAny _ A ((compTurn (.ListComp elt [⟨target,iter,ifs,0⟩] scope pos) 0 it acc env).onRaise (fun x=>do noteFrame x env;theTreesLotGoes x)) _ _ s
 refine wpAny_noted ?_;rw [compTurn_list];refine wpAny_bind (wpAny_standAt (wpAny_bind (wpAny_mono (turn n s hI) (fun r s₁ h₁=>?_) fun _ _ h'=>h'.elim)));cases r with
 | none=>exact wpAny_pure h₁
 | some v=>
  refine wpAny_bind (wpAny_mono h₁ (fun _ s₁ h₁=>?_) fun _ _ h'=>h'.elim);refine wpAny_bind (wpAny_mono h₁ (fun _ s₂ h₂=>wpAny_bind (wpAny_mono h₂ (fun ok s₃ h₃=>?_) fun _ _ h'=>h'.elim)) fun _ _ h'=>h'.elim);cases ok with
  | false=>exact wpAny_pure ⟨rfl,h₃⟩
  | true=>
   exact wpAny_bind (wpAny_bind (wpAny_mono h₃ (fun x s₄ h₄=>wpAny_bind (wpAny_mono h₄ (fun _ s₅ h₅=>wpAny_pure (wpAny_pure ⟨rfl,h₅⟩)) fun _ _ h'=>h'.elim)) fun _ _ h'=>h'.elim))
section
variable {X:Cx} {Ab:List (Addr × Obj)} {σ:St} {H:Hp} {s:Shared}
theorem Inv.other {h':Heap} {L:Addr} {n:Nat} (I:Inv X Ab σ H s) (hb:X.s₀.heap.objs.size<=L) (h0:H L=none) (h1:L ≠ X.env.locals) (h2:∀ x c,X.env.cells.lookup x=some c->c ≠ L) (h3:∀ p ∈ X.pn++Ab,p.1 ≠ L)
  (k:Heap.SameBut L s.heap h'):Inv X Ab σ H { s with heap:=h' }:=
 I.turned (t':=s.toks) (fun b o hb e=>(k.2 b hb).trans e) h0 h1 (.inr hb) h2 h3
theorem qYG {scope:Scope} {own:List Str} {fv:List Nat} {fp:List Addr} (I:Inv X Ab σ H s) (S:LcScope X scope own fv) (hf:∀ b ∈ fp,FpOk X Ab H b) (hsz:∀ b ∈ fp,b<s.heap.objs.size) :
  (lcCx X scope own fv ⟨s.heap.objs.size,qGO X.env scope.names [],fp,s,H⟩).Ok:=by
 have hfr:∀ x,(x,J4) ∈ scope.names->∃ c,X.env.cells.lookup x=some c:=fun x hx=>I.ok.has x (S.free _ hx rfl);have sub:=qEM (env:=X.env) (names:=scope.names) (acc:=[]) hfr (fun x c z=>by simp at z)
 refine ⟨I.ok.mod,S.kind,I.ok.glob,I.ok.blt,A5 _,fun x y c h1 h2=>I.ok.inj x y c (sub _ _ h1) (sub _ _ h2),fun x hx=>?_,fun x c hx=>?_,I.ok.hd,I.ok.frames,.inl rfl,fun b hb=>⟨?_,fun x c e=>?_⟩,I.bs,F3 I.ok.bsz I.sz,fun b o e hb=>?_,fun b hb hb'=>?_,I.stack,I.stkFree⟩
 ·refine qEN (.inl ?_);have hx':(relabel scope X.env).names.lookup x=some .cell\/(relabel scope X.env).names.lookup x=some .free:=hx;unfold relabel at hx';rw [qD1] at hx';cases e:scope.names.lookup x with
  | none=>rw [e] at hx';simp at hx'
  | some k=>
   have hm:=J3 e;have nc:=S.nocell _ hm;rw [e] at hx';simp only [Q3,Option.some.injEq] at hx';cases k with
   | free=>exact hm
   | cell=>exact absurd rfl nc
   | _=>simp at hx'
 ·cases hx
 ·exact D6 (hsz b hb)
 ·exact (hf b hb).2.2.2.2.1 x c (sub _ _ e)
 ·rcases (hf b hb).2.2.2.1 with z | z
  ·exact I.ok.noex b o e z
  ·exact absurd (D4 (C0 (I.ok.bs b o e).1) z) (R0 _)
 ·rcases B7.mp (I.stkSub b hb') with z | z
  ·exact (hf b hb).2.1 z
  ·exact (hf b hb).2.2.1 z
theorem qUC {scope:Scope} {own:List Str} {fv:List Nat} {fp:List Addr} {h₁:Heap} {tk:Nat} (I:Inv X Ab σ H s) (S:LcScope X scope own fv) (hf:∀ b ∈ fp,FpOk X Ab H b) (hsz:∀ b ∈ fp,b<s.heap.objs.size)
  (hns:h₁.Ns s.heap.objs.size (fun _=>none)) (hk:∀ b o,s.heap.get? b=some o->h₁.get? b=some o) :
  Inv (lcCx X scope own fv ⟨s.heap.objs.size,qGO X.env scope.names [],fp,s,H⟩) [] (qIH own fv σ) H { s with heap:=h₁,toks:=tk }:=by
 have hfr:∀ x,(x,J4) ∈ scope.names->∃ c,X.env.cells.lookup x=some c:=fun x hx=>I.ok.has x (S.free _ hx rfl);have sub:=qEM (env:=X.env) (names:=scope.names) (acc:=[]) hfr (fun x c z=>by simp at z)
 refine ⟨qYG I S hf hsz,rfl,I.bare,Un.kept hk,⟨_,hns,fun i x v h1 h2 h3=>?_⟩,fun x c e=>?_,I.hok.fresh (A5 _),fun x c e=>I.freeC x c (sub _ _ e),fun p hp=>absurd (show p ∈ ([]:List (Addr × Obj)) from hp) (by simp),I.hok.kept hk,?_⟩
 ·have h1:(own++fv.map fun i=>X.N.getD i P5)[i]?=some x:=h1;unfold qIH at h2;have hi:own.length<=i:=by
   apply W8;intro hi;rw [G2 (by simpa using hi),D0] at h2
   cases e:own[i]? with
   | none=>rw [e] at h2;cases h2
   | some z=>rw [e] at h2;cases h2
  rw [F4 (by simpa using hi),A0,D0] at h2
  rw [F4 hi,D0] at h1;cases e:fv[i - own.length]? with
  | none=>rw [e] at h1;cases h1
  | some j=>
   rw [e] at h1 h2;have hj:=S.fvs j (C4 e);have h1:X.N.getD j P5=x:=D3 h1;have h2:(σ[j]?).join=some v:=D3 h2;have h2':σ[j]?=some (some v):=by
    cases q:σ[j]? with
    | none=>rw [q] at h2;cases h2
    | some y=>rw [q] at h2;exact congrArg some h2
   have hx:X.N[j]?=some x:=by
    rw [B3] at h1;rw [A8 hj.1] at h1 ⊢;exact congrArg some h1
   have hlk:scope.names.lookup x=some .free:=h1 ▸ hj.2;have hmem:=J3 hlk;obtain ⟨m,hn,hl⟩:=id I.loc;have hkd:=S.free _ hmem rfl;obtain ⟨u,ru,lk⟩:=hl j x v hx h2' (by
    rcases hkd with z | z
    ·exact .inr (.inl z)
    ·exact .inr (.inr z))
   refine ⟨u,ru,?_⟩;rcases lk with ⟨z,_⟩ | ⟨_,c,e1,z⟩
   ·rcases hkd with y | y
    ·have y':X.env.kindOf x=some .cell:=y;rw [z] at y';cases y'
    ·have y':X.env.kindOf x=some .free:=y;rw [z] at y';cases y'
   ·obtain ⟨c',e2⟩:=qEN (env:=X.env) (names:=scope.names) (acc:=[]) (x:=x) (.inl hmem);have e3:=sub _ _ e2;rw [e1] at e3;cases e3;obtain ⟨o,ho,hd⟩:=z;refine .inr ⟨?_,c,e2,o,hk _ _ ho,hd⟩;show (relabel scope X.env).names.lookup x=some .cell\/(relabel scope X.env).names.lookup x=some .free;unfold relabel;rw [qD1,hlk,Q3]
    split
    ·exact .inl rfl
    ·exact .inr rfl
 ·obtain ⟨v,o,ho,hd⟩:=I.cell x c (sub _ _ e);exact ⟨v,o,hk _ _ ho,hd⟩
 ·unfold qIH;show _=(own++fv.map fun i=>X.N.getD i P5).length;rw [A4,A4,A0,A0,A0]
theorem qWV {scope:Scope} {own:List Str} {fv:List Nat} {fp:List Addr} {pins':List (Addr × Obj)} {σ':St} {H':Hp} {s':Shared} {cl:List (Str × Addr)} (I:Inv X Ab σ H s) (hf:∀ b ∈ fp,FpOk X Ab H b)
  (J:Inv (lcCx X scope own fv ⟨s.heap.objs.size,cl,fp,s,H⟩) pins' σ' H' s'):Inv X Ab σ H' s':=
 I.call' (ch:=fp) J.os J.base J.hok J.bare fun b hb=>⟨(hf b hb).2.2.2.1,(hf b hb).2.1,(hf b hb).2.2.2.2.1,(hf b hb).2.2.2.2.2⟩
end
def PTs (X:Cx) (ifs:List Expr) (t:TT):Prop:=
 ∀ (Ab:List (Addr × Obj)) (s:Shared) (σ:St) (H:Hp) (Q:Bool->Hp->Prop),Inv X Ab σ H s->t σ H Q->
  wpAny (model X.prog X.w) X.A (forIn ifs true fun c r=>if r=true then do let ok <- isTrue c X.env (eval c X.env);pure (M4 ok) else pure (M4 r)) (TP X Ab σ Q) X.xe s
def qZ6:TT:=fun _ H Q=>Q true H
theorem qBG {X:Cx}:PTs X [] qZ6:=fun Ab s σ H Q I h=>wpAny_tests_nil ⟨H,I,h⟩
theorem qGT {X:Cx} {c:Expr} {t:TT} (h:PT X c t):PTs X [c] t:=fun Ab s σ H Q I hq=>wpAny_tests_one (h Ab s σ H Q I hq)
def qYH (own:List Str) (fv:List Nat) (wi:TI) (g:TG) (tc:TT) (te:TE) (K:Addr->Hp->Prop):St->Hp->Prop:=fun σ H=>wi σ H fun J H1=>∀ p,H1 p=none->
 ∃ W:Nat->Nat->St->Hp->Prop,(∃ m,W 0 m (qIH own fv σ) (Ah H1 p (.lst [])))/\∀ i m σ H,W i m σ H->
  (J.stop i H/\K p H)\/(J.go i H/\∃ N:St->Hp->Prop,(∀ σ' H',N σ' H'->∃ m',m'<m/\W (i+1) m' σ' H')/\∀ x H',J.yld i H x H'->g x σ H' fun σ2 H2=>tc σ2 H2 fun b H3=>
   if b=true then te σ2 H3 fun y H4=>∃ ys,H4 p=some (.lst ys)/\ys.length<sizeLine/\N σ2 (Ah H4 p (.lst (ys++[y])))
   else N σ2 H3)
def tLc (own:List Str) (fv:List Nat) (wi:TI) (g:TG) (tc:TT) (te:TE):TE:=fun σ H Q=>qYH own fv wi g tc te (fun p H'=>Q (.ref p) H') σ H
section
variable {X:Cx} {tg iter elt:Expr} {ifs:List Expr} {scope:Scope} {pos:Pos} {own:List Str} {fv:List Nat} {wi:TI} {g:TG} {tc:TT} {te:TE}
theorem qS1 {Ab:List (Addr × Obj)} {s:Shared} {σ:St} {H:Hp} {K:Addr->Hp->Prop} {use:Option (Value->Sem Unit)} {Q:Value->Shared->Prop} {E:Value->Shared->Prop} (hc:X.calm=true) (S:LcScope X scope own fv) (hi:PI X tg iter wi)
  (hg:∀ z,PG (lcCx X scope own fv z) tg g) (ht:∀ z,PTs (lcCx X scope own fv z) ifs tc) (he:∀ z,PE (lcCx X scope own fv z) elt te)
  (I:Inv X Ab σ H s) (h:qYH own fv wi g tc te K σ H) (hxe:∀ e s,X.xe e s->E e s)
  (fin:∀ (p:Addr) (L:Addr) (H':Hp) (s':Shared) (m:Str->Option Value),Inv X Ab σ H' s'->K p H'->s'.heap.Ns L m->X.s₀.heap.objs.size<=L->H' L=none->L ≠ X.env.locals->(∀ x c,X.env.cells.lookup x=some c->c ≠ L)->(∀ q ∈ X.pn++Ab,q.1 ≠ L)->
   compPost (model X.prog X.w) X.A E use Q (.ref p) L (.ok .next) s') (hs:∀ x,foldedSetIterable iter X.env x=pure x:=by intro _;rfl) :
  wpAny (model X.prog X.w) X.A (comprehension (.ListComp elt [⟨tg,iter,ifs,0⟩] scope pos) scope X.env (firstIterPos [⟨tg,iter,ifs,0⟩] pos) (newList []) false (eval iter X.env) use) Q E s:=by
 have hfr:∀ x,(x,J4) ∈ scope.names->∃ c,X.env.cells.lookup x=some c:=fun x hx=>I.ok.has x (S.free _ hx rfl);refine wpAny_comprehension_free rfl hs (qH5 hfr) S.kind S.names (wpAny_mono (hi Ab s σ H _ I h) (fun v s1 h1=>wpAny_mono h1 (fun itv s2 h2=>?_) hxe) hxe);obtain ⟨it,fp,tn,J,H2,e,I2,T,st2,f2,q2⟩:=h2;subst e
 -- the list
 refine wpAny_newObj_type ?_;have fresh2:H2 s2.heap.objs.size=none:=I2.hok.fresh (A5 _);have I3:Inv X Ab σ (Ah H2 s2.heap.objs.size (.lst [])) { s2 with heap:=s2.heap.push { cls:=.type "list",dict:=none,data:=.seq ([]:List Value).toArray } }:=
  I2.laid (t':=s2.toks) (fun b u e=>A3 _ e) (A5 _) ⟨F0 _,[],0,.nil,C1 _ rfl⟩
 obtain ⟨W,⟨m0,w0⟩,turn⟩:=q2 s2.heap.objs.size fresh2;have lt2:∀ b ∈ fp,b<s2.heap.objs.size:=fun b hb=>by
  obtain ⟨o,e,_⟩:=T.obj 0 _ st2 b hb;exact C0 e
 have f3:∀ b ∈ fp,FpOk X Ab (Ah H2 s2.heap.objs.size (.lst [])) b:=fun b hb=>⟨by rw [qA7 (D6 (lt2 b hb))];exact (f2 b hb).1,(f2 b hb).2⟩
 generalize hp:s2.heap.objs.size=p at *;generalize hH3:Ah H2 p (.lst [])=H3 at *;have st3:tn 0 (s2.heap.push { cls:=.type "list",dict:=none,data:=.seq ([]:List Value).toArray }):=T.keep _ _ _ st2 fun b _ o e=>A3 _ e;have lt3:∀ b ∈ fp,b<(s2.heap.push { cls:=.type "list",dict:=none,data:=.seq ([]:List Value).toArray }).objs.size:=fun b hb=>by
  rw [P7];have:=lt2 b hb;rw [hp];exact O8 this
 generalize hs3:({ s2 with heap:=s2.heap.push { cls:=.type "list",dict:=none,data:=.seq ([]:List Value).toArray } }:Shared)=s3 at *;have st3':tn 0 s3.heap:=by rw [<- hs3];exact st3
 have lt3':∀ b ∈ fp,b<s3.heap.objs.size:=by rw [<- hs3];exact lt3
 -- the block's frame
 refine wpAny_newFunctionEnv S.nocell (by intro y hy;simp at hy) (fun h₁ hns₁ hsb₁=>?_) S.kind
 have keep1:∀ b o,s3.heap.get? b=some o->h₁.get? b=some o:=fun b o e=>hsb₁.extBut b o (D6 (C0 e)) (A3 _ e);have J0:Inv (lcCx X scope own fv ⟨s3.heap.objs.size,qGO X.env scope.names [],fp,s3,H3⟩) [] (qIH own fv σ) H3 { s3 with heap:=h₁,toks:=s3.toks+([]:List (Str × Value)).length }:=qUC I3 S f3 lt3' hns₁ keep1;have cOk:=qYG I3 S f3 lt3';generalize hz:(⟨s3.heap.objs.size,qGO X.env scope.names [],fp,s3,H3⟩:LcZ)=z at *;have st4:tn 0 h₁:=T.keep _ _ _ st3' fun b _ o e=>keep1 b o e;have fr4:∀ b ∈ fp,H3 b=none:=fun b hb=>(f3 b hb).1;have stat:∀ {H':Hp},(∀ b ∈ fp,H' b=none)->∀ b ∈ fp,FpOk (lcCx X scope own fv z) [] H' b:=fun hn b hb=>by
  subst hz;refine ⟨hn b hb,(cOk.exf b hb).1,cOk.exfs b hb,.inl hb,(cOk.exf b hb).2,fun q hq=>absurd (show q ∈ ([]:List (Addr × Obj)) from hq) (by simp)⟩
 have envE:({ newEnv scope s3.heap.objs.size X.env.globals (qGO X.env scope.names []) X.env.qual none .none (some X.env) builtinsNs with scope:=relabel scope X.env }:Env)=(lcCx X scope own fv z).env:=by
  subst hz
  rfl
 have loop:∀ sA:Shared,sA={ s3 with heap:=h₁,toks:=s3.toks+([]:List (Str × Value)).length }->codeAny (model X.prog X.w) X.A (.compLoop (.ListComp elt [⟨tg,iter,ifs,0⟩] scope pos) 0 (.ref it) (.ref p) (lcCx X scope own fv z).env)
   (compPost (model X.prog X.w) X.A E use Q (.ref p) s3.heap.objs.size) sA:=by
  rintro sA rfl;refine qMN (fun n s'=>∃ i σ' H',Inv (lcCx X scope own fv z) [] σ' H' s'/\tn i s'.heap/\(∀ b ∈ fp,H' b=none)/\W i n σ' H') ?_ m0 ⟨0,_,H3,J0,st4,fr4,w0⟩;rintro n s4 ⟨i,σ4,H4,I4,st4,fr4,w4⟩;rcases turn i n σ4 H4 w4 with ⟨stop,qn⟩ | ⟨go,Nx,hNx,step⟩
  ·refine thn (T.done (lcCx X scope own fv z) rfl rfl rfl hc i [] s4 σ4 H4 noX I4 (stat fr4) st4 stop) fun r s5 ⟨hr,I5⟩=>?_;subst hr;subst hz;have I6:Inv X Ab σ H4 s5:=qWV I3 f3 I5;obtain ⟨m,hn,_⟩:=id I5.loc;have fpL:=I3.fpOk (H':=H4) (b:=s3.heap.objs.size) (A5 _) I5.free;refine fin p s3.heap.objs.size H4 s5 m I6 qn hn I3.sz fpL.1 fpL.2.1 fpL.2.2.2.2.1 fpL.2.2.2.2.2
  ·refine thn (T.item (lcCx X scope own fv z) rfl rfl rfl hc i [] s4 σ4 H4 noX I4 (stat fr4) st4 go) fun r s5 ⟨u,hr,h5⟩=>?_;subst hr;refine thn h5 fun _ s6 ⟨x,H6,I6,r6,y6,st6,fr6⟩=>?_;have I6':=I6.pinned (stat fr6) (T.obj _ _ st6);have again:∀ {σ7:St} {H7:Hp} {s7:Shared} {m':Nat},m'<n->Inv (lcCx X scope own fv z) ([]++qLT fp s6.heap) σ7 H7 s7->W (i+1) m' σ7 H7->
     ∃ m,m<n/\∃ i σ' H',Inv (lcCx X scope own fv z) [] σ' H' s7/\tn i s7.heap/\(∀ b ∈ fp,H' b=none)/\W i m σ' H':=fun {σ7 H7 s7 m'} hm I7 w7=>by
    refine ⟨m',hm,i+1,σ7,H7,I7.unpinned,T.keep _ _ _ st6 fun b hb o e=>(I7.pin (b,o) (G1 _ (G1 _ (qEW hb e)))).1,fun b hb=>?_,w7⟩;obtain ⟨o,e,d⟩:=T.obj _ _ st6 b hb;exact (I7.pin (b,o) (G1 _ (G1 _ (qEW hb e)))).2.1
   refine thn (hg z _ s6 σ4 H6 x u _ I6' r6 (step x H6 y6)) fun _ s7 ⟨σ7,H7,I7,q7⟩=>?_;refine thn (ht z _ s7 σ7 H7 _ I7 q7) fun b s8 ⟨H8,I8,q8⟩=>?_;cases b with
   | false=>
    obtain ⟨m',hm,w8⟩:=hNx _ _ q8;exact again hm I8 w8
   | true=>
    refine thn (he z _ s8 σ7 H8 _ I8 q8) fun v s9 ⟨y,H9,I9,r9,ys,ep,hl,w9⟩=>?_;refine thn (qCE (X:=lcCx X scope own fv z) _ s9 σ7 H9 (.ref p) [y] (.ref p) [v] (fun _ H'=>Nx σ7 H') I9 rfl (.cons r9 .nil) ⟨p,ys,y,rfl,rfl,ep,hl,w9⟩) fun _ s10 ⟨_,H10,I10,_,q10⟩=>?_;obtain ⟨m',hm,w10⟩:=hNx _ _ q10;exact again hm I10 w10
 rw [envE];exact codeAny_compStart_list (loop _ rfl) (T.self _ _ _ _ _ st4 (loop _ rfl))
theorem qG8 (hc:X.calm=true) (S:LcScope X scope own fv) (hi:PI X tg iter wi) (hg:∀ z,PG (lcCx X scope own fv z) tg g) (ht:∀ z,PTs (lcCx X scope own fv z) ifs tc) (he:∀ z,PE (lcCx X scope own fv z) elt te)
  (hs:∀ x,foldedSetIterable iter X.env x=pure x:=by intro _;rfl):PE X (.ListComp elt [⟨tg,iter,ifs,0⟩] scope pos) (tLc own fv wi g tc te):=by
 intro Ab s σ H Q I h;rw [eval_ListComp];refine qS1 (use:=none) (K:=fun p H'=>Q (.ref p) H') hc S hi hg ht he I h (fun _ _ q=>q) (fun p L H' s' m I' q hn h1 h2 h3 h4 h5=>?_) hs;exact ⟨m,hn,fun h' hs'=>⟨.ref p,H',I'.other (n:=0) h1 h2 h3 h4 h5 hs',rfl,q⟩⟩
theorem qI4 {i:Nat} {x:Str} {pos' spos:Pos} (hN:X.N.Nodup) (hx:X.N[i]?=some x) (hl:X.env.scope.names.lookup x=some .local) (hc:X.calm=true) (S:LcScope X scope own fv) (hi:PI X tg iter wi) (hg:∀ z,PG (lcCx X scope own fv z) tg g)
  (ht:∀ z,PTs (lcCx X scope own fv z) ifs tc) (he:∀ z,PE (lcCx X scope own fv z) elt te) (hsw:swapsWith (.ListComp elt [⟨tg,iter,ifs,0⟩] scope pos) (some (.Name x pos')) spos.line X.env=pure true)
  (hs:∀ x,foldedSetIterable iter X.env x=pure x:=by intro _;rfl):PS X (.Assign [.Name x pos'] (.ListComp elt [⟨tg,iter,ifs,0⟩] scope pos) spos) (tAsg (tLc own fv wi g tc te) (qSJ i)):=by
 intro Ab s σ H D I h;rw [exec_Assign_Name_used _ _ _ _ hsw];refine wpAny_bind (wpAny_standAt (wpAny_bind ?_));show wpAny _ X.A (do let _ <- comprehension (.ListComp elt [⟨tg,iter,ifs,0⟩] scope pos) scope X.env _ (newList []) false (eval iter X.env) (some (assign (.Name x pos') X.env))) _ _ s
 refine wpAny_bind (wpAny_mono (qS1 (use:=some (assign (.Name x pos') X.env)) (K:=fun p H'=>D.nx (σ.set i (some (.ref p))) H') (Q:=fun _ s'=>SP X Ab D .next s') (E:=X.xe) hc S hi hg ht he I h (fun _ _ q=>q) (fun p L H' s' m I' q hn h1 h2 h3 h4 h5=>?_) hs)
  (fun _ s' hq=>wpAny_pure (wpAny_pure hq)) fun _ _ e=>e)
 show wpAny _ X.A (assign (.Name x pos') X.env (.ref p)) _ _ _;refine wpAny_assign_Name (qLI (v:=.ref p) I' hN hx (.inl hl) rfl (fun s2 I2 ⟨a,hsb,ha⟩=>?_) (.inr hl));have hLa:L ≠ a:=by
  rcases ha with z | z
  ·rw [z];exact h3
  ·exact fun y=>h4 x a z y.symm
 exact ⟨m,hn.sameBut hsb hLa,fun h' hs'=>⟨_,H',I2.other (n:=0) h1 h2 h3 h4 h5 hs',q⟩⟩
end
abbrev LcG (I:It) (g:TG) (tc:TT) (te:TE) (Kf:Hp->Prop) (σ0:St) (H0:Hp) (p:Addr):Prop:=∃ W:Nat->Nat->St->Hp->Prop,(∃ m,W 0 m σ0 H0)/\∀ i m σ H,W i m σ H->(I.stop i H/\Kf H)\/(I.go i H/\∃ N:St->Hp->Prop,(∀ σ' H',N σ' H'->∃ m',m'<m/\W (i+1) m' σ' H')/\∀ x H',I.yld i H x H'->g x σ H' fun σ2 H2=>tc σ2 H2 fun b H3=>if b=true then te σ2 H3 fun y H4=>∃ ys,H4 p=some (.lst ys)/\ys.length<sizeLine/\N σ2 (Ah H4 p (.lst (ys++[y]))) else N σ2 H3)
theorem qC6 {lo:Int} {n:Nat} {g:TG} {tc:TT} {te:TE} {Kf:Hp->Prop} {σ0:St} {H0:Hp} {p:Addr} (Pv:Nat->St->Hp->Prop) (h0:Pv 0 σ0 H0)
  (hs:∀ i σ H,i<n->Pv i σ H->g (.int (lo+i)) σ H fun σ2 H2=>tc σ2 H2 fun b H3=>if b=true then te σ2 H3 fun y H4=>∃ ys,H4 p=some (.lst ys)/\ys.length<sizeLine/\Pv (i+1) σ2 (Ah H4 p (.lst (ys++[y]))) else Pv (i+1) σ2 H3)
  (hd:∀ σ H,Pv n σ H->Kf H) :
  LcG (Itr lo n) g tc te Kf σ0 H0 p:=by
 refine ⟨fun i m σ H=>m=n - i/\i<=n/\Pv i σ H,⟨n,by simp,F0 _,h0⟩,?_⟩
 rintro i m σ H ⟨rfl,hi,q⟩;by_cases hlt:i<n
 ·refine .inr ⟨hlt,Pv (i+1),fun σ' H' p'=>⟨n - (i+1),by omega,rfl,hlt,p'⟩,fun x H' y=>?_⟩
  obtain ⟨e,y⟩:=y;subst e y;exact hs i σ _ hlt q
 ·have e:i=n:=by omega
  subst e;exact .inl ⟨A5 _,hd σ H q⟩
theorem qGX {K:PySem.W.Frag} {a:Addr} {xs:List V} {g:TG} {tc:TT} {te:TE} {Kf:Hp->Prop} {σ0:St} {H0:Hp} {p:Addr} (Pv:Nat->St->Hp->Prop) (h0:Pv 0 σ0 H0) (hl:∀ i σ H,i<=xs.length->Pv i σ H->SqL K H a xs)
  (hs:∀ i x σ H,xs[i]?=some x->Pv i σ H->g x σ H fun σ2 H2=>tc σ2 H2 fun b H3=>if b=true then te σ2 H3 fun y H4=>∃ ys,H4 p=some (.lst ys)/\ys.length<sizeLine/\Pv (i+1) σ2 (Ah H4 p (.lst (ys++[y]))) else Pv (i+1) σ2 H3)
  (hd:∀ σ H,Pv xs.length σ H->Kf H) :
  LcG (Itl K a) g tc te Kf σ0 H0 p:=by
 refine ⟨fun i m σ H=>m=xs.length - i/\i<=xs.length/\Pv i σ H,⟨xs.length,by simp,F0 _,h0⟩,?_⟩
 rintro i m σ H ⟨rfl,hi,q⟩;have hq:=hl i σ H hi q;by_cases hlt:i<xs.length
 ·refine .inr ⟨⟨xs,xs[i],hq,by simp [hlt]⟩,Pv (i+1),fun σ' H' p'=>⟨xs.length - (i+1),by omega,rfl,hlt,p'⟩,fun x H' y=>?_⟩
  obtain ⟨e,y⟩:=y;subst e;exact hs i x σ _ (y xs hq) q
 ·have e:i=xs.length:=by omega
  subst e;exact .inl ⟨⟨xs,hq,A5 _⟩,hd σ H q⟩
theorem qJU {K:PySem.W.Frag} {a:Addr} {xs:List V} {g:TG} {tc:TT} {te:TE} {Kf:Hp->Prop} {σ0:St} {H0:Hp} {p:Addr} (Pv:Nat->St->Hp->Prop) (h0:Pv 0 σ0 H0) (hl:∀ i σ H,i<=xs.length->Pv i σ H->SqT K H a xs)
  (hs:∀ i x σ H,xs[i]?=some x->Pv i σ H->g x σ H fun σ2 H2=>tc σ2 H2 fun b H3=>if b=true then te σ2 H3 fun y H4=>∃ ys,H4 p=some (.lst ys)/\ys.length<sizeLine/\Pv (i+1) σ2 (Ah H4 p (.lst (ys++[y]))) else Pv (i+1) σ2 H3)
  (hd:∀ σ H,Pv xs.length σ H->Kf H) :
  LcG (Itt K a) g tc te Kf σ0 H0 p:=by
 refine ⟨fun i m σ H=>m=xs.length - i/\i<=xs.length/\Pv i σ H,⟨xs.length,by simp,F0 _,h0⟩,?_⟩
 rintro i m σ H ⟨rfl,hi,q⟩;have hq:=hl i σ H hi q;by_cases hlt:i<xs.length
 ·refine .inr ⟨⟨xs,xs[i],hq,by simp [hlt]⟩,Pv (i+1),fun σ' H' p'=>⟨xs.length - (i+1),by omega,rfl,hlt,p'⟩,fun x H' y=>?_⟩
  obtain ⟨e,y⟩:=y;subst e;exact hs i x σ _ (y xs hq) q
 ·have e:i=xs.length:=by omega
  subst e;exact .inl ⟨⟨xs,hq,A5 _⟩,hd σ H q⟩
noncomputable def qS2 (scope:Scope) (own:List Str) (fv:List Nat) (osc:Scope) (N:List Str):Bool:=
 decide (scope.kind=.function) && scope.names.all (fun y=>decide (y.2 ≠ .cell)) && scope.names.all (fun y=>decide (y.2 ≠ .local) || decide (scope.names.lookup y.1=some .local)) &&
 scope.names.all (fun y=>decide (y.2 ≠ .free) || (decide (osc.names.lookup y.1=some .cell) || decide (osc.names.lookup y.1=some .free))) && decide ((own++fv.map fun i=>N.getD i P5).Nodup) &&
 fv.all fun i=>decide (i<N.length) && decide (scope.names.lookup (N.getD i P5)=some .free)
theorem lcs {X:Cx} {scope:Scope} {own:List Str} {fv:List Nat} (h:qS2 scope own fv X.env.scope X.N=true):LcScope X scope own fv:=by
 unfold qS2 at h;simp only [L3,decide_eq_true_eq,M8,A74] at h;obtain ⟨⟨⟨⟨⟨h1,h2⟩,h3⟩,h4⟩,h5⟩,h6⟩:=h;exact ⟨h1,h2,fun y hy e=>(h3 y hy).resolve_left fun z=>z e,fun y hy e=>(h4 y hy).resolve_left fun z=>z e,h5,h6⟩
theorem qZW {N:List Str} (h:decide N.Nodup=true):N.Nodup:=of_decide_eq_true h
theorem qWF {X:Cx} {K:PySem.W.Frag} {es:List Expr} {k n:Nat} {t:TGs} {pos:Pos} (hK:X.K=K) (hc:X.calm=true) (h:PGs X es t) (hn:(assignEach es X.env).length=n) (hst:(assignEach es X.env).findIdx? (·.1)=none):PG X (.Tuple es k pos) (gTup K n t):=by
 subst hK hn;exact qRG hc h rfl hst
theorem qRF {X:Cx} {K:PySem.W.Frag} {tg l:Expr} {tl:TE} (hK:X.K=K) (hl:PE X l tl):PI X tg l (iTup K tl):=by subst hK;exact qI6 hl
theorem qIJ {X:Cx} {K:PySem.W.Frag} (hK:X.K=K):IxR X (rIxT K):=by subst hK;exact qAX
theorem qYC {X:Cx} {K:PySem.W.Frag} (hK:X.K=K):OpR X (compareOp .In) (rIn K false):=by subst hK;exact qIA
theorem qFX {X:Cx} {K:PySem.W.Frag} (hK:X.K=K):qDT X (.type "tuple") (fun xs H Q=>∃ p ys,xs=[.ref p]/\((SqL K H p ys/\∀ l,H l=none->Q (.ref l) (Ah H l (.tup ys)))\/(SqT K H p ys/\Q (.ref p) H))):=by subst hK;exact qAJ
end L2
namespace L2
open PySem PySem.Spec PyProof.Rows
theorem qLB {xs:Array Nat} {j:Nat} (up:∀ a b,a<b->b<xs.size->xs.getD a j<xs.getD b j):∀ (fuel lo hi:Nat),lo<=hi->hi<=xs.size->hi - lo<=fuel->(∀ i,i<lo->xs.getD i j<j)->(∀ i,hi<=i->i<xs.size->j<=xs.getD i j)->
  Z4 xs j fuel lo hi<=xs.size/\(∀ i,i<Z4 xs j fuel lo hi->xs.getD i j<j)/\(∀ i,Z4 xs j fuel lo hi<=i->i<xs.size->j<=xs.getD i j)
 | 0,lo,hi,h1,h2,h3,a,b=>by
  have e:lo=hi:=by lia
  subst e;exact ⟨h2,a,b⟩
 | fuel+1,lo,hi,h1,h2,h3,a,b=>by
  unfold Z4;by_cases hlt:lo<hi
  ·rw [if_pos hlt];dsimp only;have hm1:lo<=(lo+hi) / 2:=by lia
   have hm2:(lo+hi) / 2<hi:=by lia
   by_cases hc:xs.getD ((lo+hi) / 2) j<j
   ·rw [if_pos hc];refine qLB up fuel _ _ (by lia) h2 (by lia) (fun i hi'=>?_) b
    by_cases e:i=(lo+hi) / 2
    ·rw [e];exact hc
    ·exact j9 (up i ((lo+hi) / 2) (by lia) (by lia)) hc
   ·rw [if_neg hc];refine qLB up fuel _ _ (by lia) (by lia) (by lia) a (fun i hi' hs=>?_)
    by_cases e:i=(lo+hi) / 2
    ·rw [e];lia
    ·have:=up ((lo+hi) / 2) i (by lia) hs
     lia
  ·rw [if_neg hlt];have e:lo=hi:=by lia
   subst e;exact ⟨h2,a,b⟩
theorem qVZ {xs:Array Nat} (j:Nat) (h:xs.toList.Pairwise (·<·)):∀ a b,a<b->b<xs.size->xs.getD a j<xs.getD b j:=fun a b hab hb=>by
 have:=M5.mp h a b (by simpa using j9 hab hb) (by simpa using hb) hab
 rw [F2,F2,B8 (j9 hab hb),B8 hb];simpa using this
theorem qH6 {xs:Array Nat} {j:Nat} (h:xs.toList.Pairwise (·<·)):D9 xs j<=xs.size/\(∀ i,i<D9 xs j->xs.getD i j<j)/\(∀ i,D9 xs j<=i->i<xs.size->j<=xs.getD i j):=by
 unfold D9;exact qLB (qVZ j h) xs.size 0 xs.size (F0 _) (A5 _) (by lia) (fun i hi=>absurd hi (by lia)) (fun i hi hs=>absurd hs (by lia))
theorem qBW {α:Type} (xs:Array α) (p:Nat) (x:α):(E7 xs p x).toList=xs.toList.take p++x::xs.toList.drop p:=by
 unfold E7;simp [Array.toList_extract,C2]
structure T7 (byText:Bool) (t:SetTable) (n:Nat):Prop where
 mask:t.mask=7
 dum:t.dummies=#[]
 plain:t.plain=true
 led:t.led=!byText
 size:t.place.size=n
 up:t.place.toList.Pairwise (·<·)
 le:∀ j ∈ t.place.toList,j<=7
section
variable {byText:Bool} {t:SetTable} {n:Nat}
theorem T7.slot (T:T7 byText t n) (j:Nat):(t.slot j=.empty/\j ∉ t.place.toList)\/(∃ i,t.slot j=.live i/\j ∈ t.place.toList):=by
 unfold SetTable.slot;dsimp only;have hd:B03 t.dummies j=false:=by rw [T.dum];rfl
 obtain ⟨b1,b2,b3⟩:=qH6 (j:=j) T.up;by_cases hc:t.place[D9 t.place j]?=some j
 ·rw [if_pos (by rw [hc];simp)]
  exact .inr ⟨_,rfl,by rw [<- Array.mem_def];exact Array.mem_of_getElem? hc⟩
 ·rw [if_neg (by simpa using hc),hd,if_neg (by simp)]
  refine .inl ⟨rfl,fun hm=>?_⟩;obtain ⟨i,hi,he⟩:=W2.mp hm;have hi':i<t.place.size:=by simpa using hi
  have he':t.place.getD i j=j:=by
   rw [F2,B8 hi'];simpa using he
  have h1:¬ i<D9 t.place j:=fun z=>by have:=b2 i z;lia
  have h2:D9 t.place j=i:=by
   apply Nat.le_antisymm (W8 h1);apply W8;intro z;have:=b3 (D9 t.place j) (A5 _) (by lia)
   have:=qVZ j T.up _ _ z hi'
   lia
  apply hc;rw [h2,B8 hi'];simpa using he
def pr (i pt:Nat):SetTable.Probe:={ j:=i,more:=0,i:=i,perturb:=pt,dummy:=none }
theorem T7.adv (T:T7 byText t n) (i pt:Nat):t.advance (pr i pt)=pr ((i * 5+1+pt / 32) % 8) (pt / 32):=by
 unfold SetTable.advance pr SetTable.leap A75;rw [T.mask];dsimp only;rw [if_neg (by lia),if_neg (by lia),k7]
theorem T7.go1 (T:T7 byText t n) (h:Int) (f i pt:Nat) :
  (P9 t (fun _=>h+1) h (f+1) (pr i pt)=some (.empty i none)/\i ∉ t.place.toList)\/
  (P9 t (fun _=>h+1) h (f+1) (pr i pt)=P9 t (fun _=>h+1) h f (pr ((i * 5+1+pt / 32) % 8) (pt / 32))/\i ∈ t.place.toList):=by
 rcases T.slot i with ⟨e,m⟩ | ⟨k,e,m⟩
 ·left
  refine ⟨?_,m⟩;unfold P9;rw [show (pr i pt).j=i from rfl,e]
  rfl
 ·right
  refine ⟨?_,m⟩;rw [P9];rw [show (pr i pt).j=i from rfl,e];dsimp only;rw [if_neg (by simp;lia),T.adv]
def F8 (i:Nat):Nat:=(i * 5+1) % 8
def F8n:Nat->Nat->Nat
 | 0,i=>i
 | m+1,i=>F8n m (F8 i)
theorem T7.go0 (T:T7 byText t n) (h:Int) (f:Nat):∀ (m i:Nat),(∃ j,P9 t (fun _=>h+1) h (m+f) (pr i 0)=some (.empty j none)/\j ∉ t.place.toList/\∃ q,q<m/\j=F8n q i)\/(∀ q,q<m->F8n q i ∈ t.place.toList)
 | 0,i=>.inr fun q hq=>absurd hq (by lia)
 | m+1,i=>by
  rcases T.go1 h (m+f) i 0 with ⟨e,z⟩ | ⟨e,z⟩
  ·exact .inl ⟨i,by rw [show m+1+f=m+f+1 by lia];exact e,z,0,by lia,rfl⟩
  ·rw [show m+1+f=m+f+1 by lia,e]
   have e2:(i * 5+1+0 / 32) % 8=F8 i:=by unfold F8;lia
   rw [e2];rcases T.go0 h f m (F8 i) with ⟨j,e3,z3,q,hq,e4⟩ | e3
   ·exact .inl ⟨j,e3,z3,q+1,by lia,e4⟩
   ·refine .inr fun q hq=>?_;cases q with
    | zero=>exact z
    | succ q=>exact e3 q (by lia)
theorem qZ2:∀ i:_root_.Fin 8,∀ j:_root_.Fin 8,∃ q:_root_.Fin 8,F8n q.1 i.1=j.1:=by decide
theorem qZ1:∀ (q i:Nat),i<8->F8n q i<8
 | 0,i,h=>h
 | q+1,i,h=>qZ1 q (F8 i) (A44 _ (by decide))
theorem T7.goK (T:T7 byText t n) (hn:n<=7) (h:Int) (f:Nat):∀ (k i pt:Nat),i<8->pt<32 ^ k->∃ j,P9 t (fun _=>h+1) h (k+(8+f)) (pr i pt)=some (.empty j none)/\j ∉ t.place.toList/\j<=7
 | 0,i,pt,hi,hp=>by
  have e:pt=0:=by lia
  subst e;rw [A55];rcases T.go0 h f 8 i with ⟨j,e,z,q,hq,e2⟩ | e
  ·exact ⟨j,e,z,by have:=qZ1 q i hi;lia⟩
  ·exfalso
   have sub:[0,1,2,3,4,5,6,7] ⊆ t.place.toList:=fun j hj=>by
    have hj8:j<8:=by
     simp at hj
     lia
    obtain ⟨q,hq⟩:=qZ2 ⟨i,hi⟩ ⟨j,hj8⟩;rw [<- show F8n q.1 i=j from hq];exact e q.1 q.2
   have:=Z7 (by decide:[0,1,2,3,4,5,6,7].Nodup) sub
   have hs:=T.size;simp at this
   lia
 | k+1,i,pt,hi,hp=>by
  rw [show k+1+(8+f)=k+(8+f)+1 by lia]
  rcases T.go1 h (k+(8+f)) i pt with ⟨e,z⟩ | ⟨e,z⟩
  ·exact ⟨i,e,z,by lia⟩
  ·rw [e];refine T.goK hn h f k _ _ (A44 _ (by decide)) ?_
   rw [Nat.pow_succ] at hp
   lia
theorem T7.free (T:T7 byText t n) (hn:n<=7) (h:Int):∃ j,t.freeSlot h=some (j,false)/\j ∉ t.place.toList/\j<=7:=by
 have hb:Y0 h<32 ^ 13:=by
  unfold Y0;have h1:0<=h % (2 ^ 64:Int):=V2 _ (by decide)
  have h2:h % (2 ^ 64:Int)<2 ^ 64:=R1 _ (by decide)
  have:((2:Int) ^ 64)=18446744073709551616:=by decide
  rw [this] at h1 h2 ⊢;have h3:(32:Nat) ^ 13=36893488147419103232:=by decide
  lia
 obtain ⟨j,e,z,l⟩:=T.goK hn h 199 13 (Y0 h % 8) (Y0 h) (A44 _ (by decide)) hb
 refine ⟨j,?_,z,l⟩;have hst:t.probeStart h=pr (Y0 h % 8) (Y0 h):=by
  unfold SetTable.probeStart pr A75;rw [T.mask];dsimp only;rw [if_neg (by lia),k7]
 unfold SetTable.freeSlot SetTable.probe;rw [hst,show 10 * SetTable.turns t.mask=13+(8+199) by rw [T.mask];rfl,e]
 rfl
theorem T7.lay (T:T7 byText t n) (hn:n<=3) {es:Array (Int × Value)} (he:es.size=n) (h:Int) (x:Value) :
  ∃ p t',layNew t es h x=(E7 es p (h,x),t',false,false)/\T7 byText t' (n+1)/\t'.tooFull=false/\p<=es.size:=by
 obtain ⟨j,e,z,l⟩:=T.free (by lia) h
 obtain ⟨b1,b2,b3⟩:=qH6 (j:=j) T.up;have hd:B03 t.dummies j=false:=by rw [T.dum];rfl
 have tl:(E7 t.place (D9 t.place j) j).toList=t.place.toList.take (D9 t.place j)++j::t.place.toList.drop (D9 t.place j):=qBW _ _ _;have sz:(E7 t.place (D9 t.place j) j).size=n+1:=by
  rw [<- C7,tl,A4,E3,C3,E5,C7,T.size];rw [T.size] at b1
  lia
 have T':T7 byText { t with place:=E7 t.place (D9 t.place j) j,dummies:=t.dummies } (n+1):=by
  refine ⟨T.mask,T.dum,T.plain,T.led,sz,?_,?_⟩
  ·show (E7 t.place (D9 t.place j) j).toList.Pairwise (·<·);rw [tl];have geti:∀ i,i<t.place.size->t.place.getD i j=t.place.toList.getD i j:=fun i hi=>by
    rw [F2,B3,E4]
   have lo:∀ a ∈ t.place.toList.take (D9 t.place j),a<j:=fun a ha=>by
    obtain ⟨i,hi,hai⟩:=W2.mp ha;rw [C3,C7] at hi;have hi1:i<D9 t.place j:=by lia
    have hi2:i<t.place.size:=by lia
    have:=b2 i hi1;rw [F2,B8 hi2] at this;rw [p6] at hai;rw [<- hai];simpa using this
   have hi:∀ a ∈ t.place.toList.drop (D9 t.place j),j<a:=fun a ha=>by
    have hm:a ∈ t.place.toList:=O5 ha;obtain ⟨i,hi,hai⟩:=W2.mp ha;rw [E5,C7] at hi;have hi2:D9 t.place j+i<t.place.size:=by lia
    have:=b3 _ (Nat.le_add_right _ i) hi2;rw [F2,B8 hi2] at this;rw [p7] at hai;have h3:j<=a:=by
     rw [<- hai];simpa using this
    rcases k8 h3 with h4 | h4
    ·exact h4
    ·exact absurd (h4 ▸ hm) z
   refine P6.mpr ⟨T.up.sublist (Z1 _ _),P4.mpr ⟨hi,T.up.sublist (V9 _ _)⟩,fun a ha b hb=>?_⟩;rcases B7.mp hb with e | hb
   ·rw [e];exact lo a ha
   ·exact j9 (lo a ha) (hi b hb)
  ·show ∀ i ∈ (E7 t.place (D9 t.place j) j).toList,i<=7;rw [tl];intro i hi;rcases A7.mp hi with hi | hi
   ·exact T.le i (L5 hi)
   ·rcases B7.mp hi with e | hi
    ·lia
    ·exact T.le i (O5 hi)
 have fits:A33 { t with place:=E7 t.place (D9 t.place j) j,dummies:=t.dummies } (n+1)=true:=by
  unfold A33 A34;dsimp only;rw [sz,T.dum,T.mask];have:((#[]:Array Nat)).size=0:=rfl;simp only [this,beq_self_eq_true,A35,decide_eq_true_eq]
  lia
 have szE:(E7 es (D9 t.place j) (h,x)).size=n+1:=by
  rw [<- C7,qBW,A4,E3,C3,E5,C7];rw [T.size] at b1
  lia
 refine ⟨D9 t.place j,{ t with place:=E7 t.place (D9 t.place j) j,dummies:=t.dummies },?_,T',?_,by rw [he,<- T.size];exact b1⟩
 ·unfold layNew;rw [e];dsimp only;unfold SetTable.put;rw [hd];dsimp only;rw [szE];unfold SetTable.orStandIn;simp only [E1,if_false];rw [fits];simp
 ·unfold SetTable.tooFull A34;dsimp only;rw [sz,T.dum,T.mask];have:((#[]:Array Nat)).size=0:=rfl;rw [this];exact decide_eq_false (by lia)
end
end L2
namespace L2
open PySem PySem.Spec PyProof.Rows
theorem qK2 {α:Type}:∀ (l:List α) (i:Nat) (h:i<l.length),(l[i]::l.eraseIdx i).Perm l
 | [],i,h=>absurd h (by simp)
 | a::r,0,h=>.refl _
 | a::r,i+1,h=>by
  have hi:i<r.length:=by simpa using h
  have ih:=qK2 r i hi;show (r[i]::a::r.eraseIdx i).Perm (a::r);exact (List.Perm.swap _ _ _).trans (ih.cons a)
theorem qRE {α:Type} (next:Nat->Nat):∀ (fuel k:Nat) (left:List α) (out:Array α),fuel=left.length->(A56 next fuel k left out).toList.Perm (out.toList++left)
 | 0,k,left,out,h=>by
  have:left=[]:=F5.mp h.symm;subst this;unfold A56;simp
 | fuel+1,k,left,out,h=>by
  have hl:0<left.length:=by lia
  have hm:next k % left.length<left.length:=A44 _ hl;unfold A56;rw [A8 hm];dsimp only;refine (qRE next fuel (k+1) _ _ (by rw [List.length_eraseIdx_of_lt hm];lia)).trans ?_
  rw [U1,G5];exact Z8 _ (qK2 left _ hm)
theorem qRD {α:Type} (next:Nat->Nat) (xs:Array α):(pickOrder next xs).toList.Perm xs.toList:=by
 unfold pickOrder;have:=qRE next xs.size 0 xs.toList #[] (by simp)
 simpa using this
abbrev Ents:List Int->List (Int × Value)->Prop:=Paired fun k e=>∃ tk,e=(hashInt k,O0 k tk)
theorem Ents.perm:∀ {es es':List (Int × Value)} {ks:List Int},Ents ks es->es'.Perm es->∃ ks',Ents ks' es'/\ks'.Perm ks:=by
 intro es es' ks h p;have key:∀ {a b:List (Int × Value)},a.Perm b->∀ ks,Ents ks b->∃ ks',Ents ks' a/\ks'.Perm ks:=by
  intro a b p
  induction p with
  | nil=>intro ks h;exact ⟨ks,h,.refl _⟩
  | cons x p ih=>
   intro ks h;cases h with
   | cons r t=>
    obtain ⟨ks',h1,h2⟩:=ih _ t;exact ⟨_::ks',.cons r h1,h2.cons _⟩
  | swap x y l=>
   intro ks h;cases h with
   | cons r t=>
    cases t with
    | cons r' t'=>exact ⟨_,.cons r' (.cons r t'),.swap _ _ _⟩
  | trans p q ih1 ih2=>
   intro ks h;obtain ⟨k1,h1,h2⟩:=ih2 ks h;obtain ⟨k2,h3,h4⟩:=ih1 k1 h1;exact ⟨k2,h3,h4.trans h2⟩
 exact key p ks h
theorem Ents.elems {prog:Program} {w:World} {es:List (Int × Value)} {ks:List Int} (h:Ents ks es):ElemsOf (intKind prog w) es:=by
 intro e he;have key:∀ {ks:List Int} {es:List (Int × Value)},Ents ks es->∀ e ∈ es,∃ k tk,e=(hashInt k,O0 k tk):=by
  intro ks es h
  induction h with
  | nil=>intro e he;cases he
  | cons r t ih=>
   intro e he;rcases B7.mp he with z | z
   ·subst z;obtain ⟨tk,e⟩:=r;exact ⟨_,tk,e⟩
   ·exact ih e z
 obtain ⟨k,tk,rfl⟩:=key h e he;exact ⟨⟨k,by simp [intKind,q5],rfl⟩,rfl⟩
theorem Ents.find {prog:Program} {w:World} {k:Int}:∀ {es:List (Int × Value)} {ks:List Int},Ents ks es->((A94 (fun e=>(intKind prog w).is k e.2) es).isSome=true ↔ k ∈ ks)
 | _,_,.nil=>by simp
 | _,_,.cons r t=>by
  obtain ⟨tk,rfl⟩:=r
  rename_i k' ks' es'
  have ih:=Ents.find (prog:=prog) (w:=w) (k:=k) t;rw [List.findIdx?_cons,B7];have hi:(intKind prog w).is k (O0 k' tk)=decide (k=k'):=by
   by_cases e:k=k'
   ·simp [intKind,q5,e]
   ·have e':¬ k'=k:=fun z=>e z.symm;simp [intKind,q5,e,e']
  dsimp only;rw [hi];by_cases e:k=k'
  ·simp [e]
  ·simp only [e,decide_false,E1,if_false,false_or,Z3];exact ih
noncomputable def byT (w:World):Bool:=w.params.followText "set-order"
def SetI (w:World) (a:Addr) (zs:List Int) (h:Heap):Prop:=
 ∃ (es:Array (Int × Value)) (ep:Nat) (t:SetTable) (ks:List Int),h.get? a=some { cls:=.type "set",data:=.set es ep t }/\T7 (byT w) t es.size/\Ents ks es.toList/\ks.Perm zs/\zs.Nodup/\zs.length<=4
theorem SetI.at {w:World} {a:Addr} {zs:List Int} {h h':Heap} (x:SetI w a zs h) (k:∀ o,h.get? a=some o->h'.get? a=some o):SetI w a zs h':=
 let ⟨es,ep,t,ks,h1,r⟩:=x;⟨es,ep,t,ks,k _ h1,r⟩
theorem T7.fits {b:Bool} {t:SetTable} {n:Nat} (T:T7 b t n) (hn:n<=7):t.fits n=true:=by
 unfold A33 A34;rw [T.size,T.dum,T.mask];have:((#[]:Array Nat)).size=0:=rfl;simp only [this,beq_self_eq_true,A35,decide_eq_true_eq]
 lia
noncomputable def addI (zs:List Int) (k:Int):List Int:=if k ∈ zs then zs else zs++[k]
section
variable {prog:Program} {w:World} {A:Around} {E:Value->Shared->Prop} {s:Shared}
theorem SetI.size {a:Addr} {zs:List Int} {h:Heap} {es:Array (Int × Value)} {ks:List Int} (he:Ents ks es.toList) (hp:ks.Perm zs):es.size=zs.length:=by
 rw [<- hp.length_eq,B9 he,C7]
theorem qTU {a:Addr} {zs:List Int} {k:Int} {tk:Tok} {Q:Bool->Shared->Prop} (hS:SetI w a zs s.heap) (hroom:zs.length<=3\/k ∈ zs)
  (h:∀ h',Heap.SameBut a s.heap h'->SetI w a (addI zs k) h'->∀ b,Q b { s with heap:=h' }):wpAny (model prog w) A (setAddHashed a (.int k tk) (hashInt k)) Q E s:=by
 obtain ⟨es,ep,t,ks,ho,T,he,hp,hnd,hlen⟩:=id hS;have hsz:es.size=zs.length:=SetI.size (a:=a) (h:=s.heap) he hp;have hel:ElemsOf (intKind prog w) es.toList:=he.elems;have hb:es.size<scanBound:=by rw [hsz];unfold scanBound;lia
 have hf:t.fits es.size=true:=T.fits (by lia)
 unfold setAddHashed setAddHashedIn;refine wpAny_holding (wpAny_bind (wpAny_setState_of ho rfl hf ?_));dsimp only;rw [byScan_of (knd:=intKind prog w) (x:=.int k tk) rfl hb hel];simp only [↓reduceIte];unfold setAddByScan;refine wpAny_bind ?_;refine wpAny_bind (wpAny_rule ?_);refine wpAny_bind (wpAny_setScan_of (knd:=intKind prog w) (k:=k) (intKind_is _ _ _ _) ho rfl hf hel ?_);have hfd:=Ents.find (prog:=prog) (w:=w) (k:=k) he;cases hr:A94 (fun e=>(intKind prog w).is k e.2) es.toList with
 | some j=>
  dsimp only;rw [hr] at hfd;have hk:k ∈ zs:=hp.mem_iff.mp (hfd.mp rfl);refine wpAny_pure (wpAny_pure ?_);have e:s={ s with heap:=s.heap }:=by cases s;rfl
  rw [e];refine h s.heap (Heap.SameBut.refl a s.heap) ?_ _;unfold addI;rw [if_pos hk];exact hS
 | none=>
  dsimp only;rw [hr] at hfd;have hk:¬ k ∈ zs:=fun z=>by have:=hfd.mpr (hp.mem_iff.mpr z);cases this
  have h3:zs.length<=3:=hroom.resolve_right hk;obtain ⟨p,t',e1,T',tf,hpe⟩:=T.lay (by lia) rfl (hashInt k) (.int k tk)
  rw [e1];dsimp only;refine wpAny_bind (wpAny_pure ?_);rw [T'.plain];simp only [↓reduceIte];rw [hashByValue_scannable 8 (x:=.int k tk) rfl];refine wpAny_bind (wpAny_pure ?_);have hszE:(E7 es p (hashInt k,O0 k tk)).size=es.size+1:=by
   rw [<- C7,qBW,A4,E3,C3,E5,C7]
   lia
  rw [show plainKind (O0 k tk)=true from rfl];simp only [↓reduceIte];show wpAny _ _ (storeSet a (E7 es p (hashInt k,.int k tk)) t' >>= _) _ _ _;refine wpAny_bind (wpAny_storeSet_of ho rfl ?_ (by rw [hszE,hsz,sizeLine_eq];lia))
  rw [tf];simp only [A15,E1,↓reduceIte];refine wpAny_pure (wpAny_pure ?_);refine h _ (d8 s.heap a _) ?_ _;have hg:(s.heap.update a (Obj.putSet (E7 es p (hashInt k,.int k tk)) t')).get? a=some { cls:=.type "set",data:=.set (E7 es p (hashInt k,.int k tk)) (ep+1) t' }:=by
   have:=G9 (Obj.putSet (E7 es p (hashInt k,.int k tk)) t') ho (by rw [putSet_of _ _ (ep:=ep) (es:=es) (t:=t) rfl];rfl)
   rw [putSet_of _ _ (ep:=ep) (es:=es) (t:=t) rfl] at this;exact this
  have hpm:(E7 es p (hashInt k,O0 k tk)).toList.Perm (es.toList++[(hashInt k,.int k tk)]):=by
   rw [qBW];have e3:es.toList++[(hashInt k,O0 k tk)]=es.toList.take p++(es.toList.drop p++[(hashInt k,O0 k tk)]):=by
    rw [<- G5,Z9]
   rw [e3];exact Z8 _ (List.perm_append_singleton _ _).symm
  obtain ⟨ks',h4,h5⟩:=Ents.perm (ks:=ks++[k]) (J6 he ⟨tk,rfl⟩) hpm;refine ⟨_,_,t',ks',hg,by rw [hszE];exact T',h4,?_,?_,?_⟩
  ·unfold addI;rw [if_neg hk];exact h5.trans (hp.append_right _)
  ·unfold addI;rw [if_neg hk];exact qKL hnd hk
  ·unfold addI;rw [if_neg hk,A4,B1]
   lia
end
noncomputable def dedI:List Int->List Int:=fun l=>l.foldl addI []
theorem qV0 (zs:List Int) (k:Int):(addI zs k).length<=zs.length+1:=by
 unfold addI
 split <;> simp
theorem qD8:∀ (l zs:List Int),(l.foldl addI zs).length<=zs.length+l.length
 | [],zs=>by simp
 | k::r,zs=>by
  have h1:=qD8 r (addI zs k);have h2:=qV0 zs k;rw [V0,E3]
  lia
section
variable {prog:Program} {w:World} {A:Around} {R:Result->Shared->Prop} {I:Addr} {fp wr:List Addr} {G:Array GenState->Array GenState->Prop} {n:Nat} {P:Nat->Value->Prop} {St:Nat->Shared->Prop}
theorem qLP (W:WalksS prog w A.in1 I fp wr G n P St) (S:Addr) (hSf:S ∉ fp) (ns:List Int) (hnn:ns.length=n) (h4:n<=4) (hval:∀ i v,P i v->∃ t,v=.int (ns.getD i 0) t) :
  ∀ (k i:Nat) (s:Shared),n - i=k->i<=n->St i s->SetI w S (dedI (ns.take i)) s.heap->
   (∀ s',Moved (S::wr) G s s'->SetI w S (dedI ns) s'.heap->R (.ok (.ret .none)) s')->
   codeAny (model prog w) A (.builtin "set.update.loop" ⟨[.ref S,.ref I],[]⟩) R s:=by
 have hSw:S ∉ wr:=fun h=>hSf (W.sub _ h);have hsub:∀ b ∈ wr,b ∈ S::wr:=fun b hb=>A9 _ hb;intro k
 induction k with
 | zero=>
  intro i s hk hi hst hS hR;have hin:i=n:=by lia
  subst hin;refine codeAny_builtin F.entry_set_update_loop ?_;rw [E8 F.plain_set_update_loop _];show wpAny _ A.in1 (pyNext (.ref I) >>= _) _ _ s;refine wpAny_bind (W.done s _ _ hst fun s' hm=>?_);show wpAny _ A.in1 (ret Q7) _ _ s';rw [C2 (by lia)] at hS
  exact wpAny_pure (hR s' (hm.mono hsub) (hS.at fun o e=>hm.heap S _ hSw e))
 | succ k ih=>
  intro i s hk hi hst hS hR;have hlt:i<n:=by lia
  refine codeAny_builtin F.entry_set_update_loop ?_;rw [E8 F.plain_set_update_loop _];show wpAny _ A.in1 (pyNext (.ref I) >>= _) _ _ s;refine wpAny_bind (W.item i s _ _ hlt hst fun v s' hP hst' hm=>?_);obtain ⟨t,rfl⟩:=hval i v hP;have hS':SetI w S (dedI (ns.take i)) s'.heap:=hS.at fun o e=>hm.heap S _ hSw e;show wpAny _ A.in1 (holding [O0 (ns.getD i 0) t] (setAdd S (.int (ns.getD i 0) t)) >>= _) _ _ s';refine wpAny_bind (wpAny_holding ?_);unfold setAdd;refine wpAny_holding ?_;refine wpAny_bind ((intKind prog w).pyHash (k:=ns.getD i 0) (intKind_is _ _ _ _) ?_);have hroom:(dedI (ns.take i)).length<=3:=by
   have:=qD8 (ns.take i) [];rw [C3] at this;unfold dedI;simp at this
   lia
  refine qTU (s:={ s' with toks:=s'.toks+1 }) hS' (.inl hroom) fun h' hsb hS2 b=>?_;have e2:addI (dedI (ns.take i)) (ns.getD i 0)=dedI (ns.take (i+1)):=by
   have hi':i<ns.length:=by lia
   rw [D7,A8 hi',D5];unfold dedI;rw [A45,V0,A81,B3,A8 hi',A61]
  rw [e2] at hS2;refine wpAny_pure ⟨plainId_quiet F.plain_set_update_loop _,ih (i+1) _ (by lia) hlt (W.frame _ s' _ _ hst' (X2 _) fun b hb o e=>?_) hS2 fun s'' hm'' hS''=>?_⟩
  ·rw [hsb.2 b (fun h:b=S=>hSf (by rw [<- h];exact hb))];exact e
  ·refine hR s'' (Moved.trans W.gtrans ((hm.mono hsub).then_heap (X2 _) fun b o hb e=>?_) hm'') hS'';rw [hsb.2 b (fun h:b=S=>hb (by rw [h];exact G7))];exact e
end
end L2
namespace L2
open PySem PySem.Spec PyProof.Rows
noncomputable abbrev freshSet (w:World):Obj:={ cls:=.type "set",dict:=none,data:=.set #[] 0 (.fresh 0 0 (!byT w)) }
section
variable {prog:Program} {w:World} {A:Around} {E:Value->Shared->Prop} {s:Shared}
theorem qR1 (a:Value) {Q₁:Value->Shared->Prop} (h:Q₁ (.ref s.heap.objs.size) { s with heap:=s.heap.push (freshSet w) }) :
  codeAny (model prog w) A (.call (.builtin "set.__new__") ⟨[.type "set",a],[]⟩) (wants Q₁ E) s:=by
 refine codeAny_of_tree ?_;show wpAny _ A.in1 (do checkBuiltinCall "set.__new__" ⟨[.type "set",a],[]⟩;again (.builtin "set.__new__" ⟨[.type "set",a],[]⟩)) _ _ s
 refine wpAny_bind (wpAny_of_eq (F.newCall_set_1 a) (wpAny_pure ⟨plainId_quiet F.plain_set_new _,codeAny_builtin F.entry_set_new ?_⟩));rw [E8 F.plain_set_new _];unfold Builtin.«set.__new__» A79;have hsub:=sub_set_self;obtain ⟨hp,g,d,tk,os⟩:=s;dsimp only
 wp_walk
 refine wpAny_askSetting (wpAny_pure ?_);dsimp only;simp only [newObj];refine wpAny_bind (wpAny_alloc (wpAny_pure ?_));exact wpAny_pure h
theorem SetI.fresh {a:Addr} {h:Heap} (e:h.get? a=some (freshSet w)):SetI w a [] h:=
 ⟨#[],0,_,[],e,⟨rfl,rfl,rfl,rfl,rfl,.nil,fun _ z=>nomatch z⟩,.nil,.refl _,.nil,F0 _⟩
set_option maxHeartbeats 3200000 in
theorem qQB {l:Addr} {Ae:Array Value} {ns:List Int} {Q:Value->Shared->Prop} (hh:A.handled=none) (hl:s.heap.IsList l Ae) (hi:IntsAre Ae.toList ns) (h4:Ae.size<=4)
  (h:∀ (h':Heap) (tk:Nat),SetI w s.heap.objs.size (dedI ns) h'->(∀ b o,s.heap.get? b=some o->h'.get? b=some o)->Q (.ref s.heap.objs.size) { s with heap:=h',toks:=tk }) :
  wpAny (model prog w) A (call (.type "set") [.ref l]) Q E s:=by
 have hlen:ns.length=Ae.size:=by have:=IntsAre.length hi;simpa using this.symm
 obtain ⟨c,tl,hmro⟩:=V3.mro;have hmade:=V3.made;have hsub:=V3.sub;refine wpAny_call (codeAny_of_tree ?_);show wpAny _ _ (callAny (.type "set") _) _ _ _;refine wpAny_pure ⟨Code.quiet_builtin _ (by decide +kernel),codeAny_builtin F.entry_type_call ?_⟩
 rw [Around.under_plain (weight_type_call_type "set" [.ref l] []) rfl];have h1:=V3.notType;have h2:=V3.canCreate;have hct:=F.typeCall_set_1 (.ref l)
 repeat (any_goals (first | assumption | wp_step))
 refine codeAny_mono (qR1 (.ref l) (E:=E) (Q₁:=fun obj s₁=>obj=.ref s.heap.objs.size/\s₁={ s with heap:=s.heap.push (freshSet w) }) ⟨rfl,rfl⟩) fun r s₁ hr=>?_;cases r with
 | error e=>exact hr
 | ok fl=>
  cases fl with
  | ret obj=>
   obtain ⟨rfl,rfl⟩:=hr;have hS:(s.heap.push (freshSet w)).get? s.heap.objs.size=some (freshSet w):=C1 _ rfl;have hT:Shared.TypeIs { s with heap:=s.heap.push (freshSet w) } (.ref s.heap.objs.size) "set":=⟨_,hS,rfl⟩;have hli:=V3.init.lookup;have hbi:=V3.init.bind (.ref s.heap.objs.size)
   repeat (any_goals (first | assumption | wp_step))
   refine codeAny_mono (codeAny_call_builtin (R:=wants (fun r s₂=>r=.none/\∃ h' tk,s₂={ s with heap:=h',toks:=tk }/\SetI w s.heap.objs.size (dedI ns) h'/\
     (∀ b o,s.heap.get? b=some o->h'.get? b=some o)) E) V3.init.plain F.entry_set_init (check_set_init_1 hT ?_)) fun r₂ s₂ hr₂=>?_
   ·obtain ⟨ol,hol,hcl,nl,hdl⟩:=hl;obtain ⟨ocls,odict,odata,oslots⟩:=ol;simp only at hcl hdl;subst hcl;subst hdl;have hol':(s.heap.push (freshSet w)).get? l=some { cls:=.type "list",dict:=odict,data:=.seq Ae nl,slots:=oslots }:=A3 _ hol;have hsls:=F.sub_list_set;have hslf:=F.sub_list_frozenset;have hne:(Z0 "list" == Z0 "dict")=false:=by decide
    have hl1:(s.heap.push (freshSet w)).IsList l Ae:=⟨_,hol',rfl,nl,rfl⟩;unfold Builtin.«set.__init__» noKeywords A68;generalize hPI:pyIter=PI
    wp_walk
    subst hPI;refine wpAny_pyIter_list hl1 ?_;refine wpAny_bind (wpAny_runValue ?_);have hlS:l<s.heap.objs.size:=C0 hol;have hh3:A.in1.in1.in1.handled=none:=by simp [hh]
    have hneI:l ≠ (s.heap.push (freshSet w)).objs.size:=by
     rw [P7];exact D6 (O8 hlS)
    have hSf:s.heap.objs.size ∉ [(s.heap.push (freshSet w)).objs.size,l]:=by
     rw [P7];simp only [B7,A6,M9,or_false,not_or];exact ⟨D6 (Nat.lt_succ_self _),X3 hlS⟩
    have hval:∀ (i:Nat) (v:Value),Ae[i]?=some v->∃ t,v=.int (ns.getD i 0) t:=fun i v hv=>
     d9 hi i v (by rw [E4];exact hv)
    refine qLP ((Walks.list hh3 _ l hneI Ae).toS) s.heap.objs.size hSf ns hlen h4 hval (Ae.size - 0) 0 _ (by lia) (F0 _)
     ⟨⟨_,C1 _ rfl,rfl,rfl⟩,(hl1.push _)⟩ ?hS0 ?hR
    case hS0=>exact SetI.fresh (A3 _ hS)
    case hR=>
     intro s' hm hS';obtain ⟨h',g',d',tk',os'⟩:=s';have eg:g'=s.gens:=hm.gens;have ed:d'=s.drawn:=hm.drawn;have eo:os'=s.os:=hm.os;subst eg;subst ed;subst eo;show wpAny _ _ _ _ _ _;refine wpAny_pure ?_;show wpAny _ _ (ret Q7) _ _ _;refine wpAny_pure ⟨rfl,h',tk',rfl,hS',fun b o e=>?_⟩;have hb:=C0 e;have hb1:b ≠ s.heap.objs.size:=D6 hb;have hb2:b ≠ (s.heap.push (freshSet w)).objs.size:=by
      rw [P7];exact D6 (O8 hb)
     exact hm.heap b o (by simp only [B7,A6,M9,or_false,not_or];exact ⟨hb1,hb2⟩) (A3 _ (A3 _ e))
   ·cases r₂ with
    | error e=>exact hr₂
    | ok fl₂=>
     cases fl₂ with
     | ret r=>
      obtain ⟨rfl,h',tk,rfl,hS',hk'⟩:=hr₂
      repeat (any_goals (first | assumption | wp_step))
      exact h _ _ hS' hk'
     | next=>exact hr₂
     | brk=>exact hr₂
     | cont=>exact hr₂
  | next=>exact hr
  | brk=>exact hr
  | cont=>exact hr
end
end L2
namespace L2
open PySem PySem.Spec PyProof.Rows
theorem slot_si_next:Slot "set_iterator" "__next__" "set_iterator.__next__":=
 .of (owner:="set_iterator") (n:="__next__") (by rw [typeLookup_type,builtinLookup_eq_fast];kernel_rfl) (by decide +kernel) (by decide +kernel) (by decide +kernel)
  (by first | exact .inl (by decide +kernel) | exact .inr (by decide +kernel)) (by rw [isSubtype_type];kernel_rfl)
theorem qH8:Slot "set_iterator" "__iter__" "set_iterator.__iter__":=
 .of (owner:="set_iterator") (n:="__iter__") (by rw [typeLookup_type,builtinLookup_eq_fast];kernel_rfl) (by decide +kernel) (by decide +kernel) (by decide +kernel)
  (by first | exact .inl (by decide +kernel) | exact .inr (by decide +kernel)) (by rw [isSubtype_type];kernel_rfl)
theorem qGL:entryFor table "set_iterator.__next__" = some Builtin.«set_iterator.__next__»:=entryFor_of_tree (by kernel_rfl)
theorem qL2:entryFor table "set_iterator.__iter__" = some Builtin.«dict_keyiterator.__iter__»:=
 entryFor_alias (id':="dict_keyiterator.__iter__") (by kernel_rfl) rfl (by decide +kernel) (by kernel_rfl)
theorem qJH:entryFor table "set.__iter__" = some Builtin.«frozenset.__iter__»:=
 entryFor_alias (id':="frozenset.__iter__") (by kernel_rfl) rfl (by decide +kernel) (by kernel_rfl)
theorem qOQ:Manifest.owners.lookup (String.ofList "set_iterator".toList.reverse.reverse)=some Manifest.sig_set_iterator:=by kernel_rfl
theorem qHD (a:Value):argsOk "set_iterator.__next__" ⟨[a],[]⟩:=by
 unfold argsOk;rw [signature?_of (id:="set_iterator.__next__") (n:="__next__".toList.reverse) (o:="set_iterator".toList.reverse) (by kernel_rfl) qOQ];kernel_rfl
theorem qMZ (a:Value):argsOk "set_iterator.__iter__" ⟨[a],[]⟩:=by
 unfold argsOk;rw [signature?_of (id:="set_iterator.__iter__") (n:="__iter__".toList.reverse) (o:="set_iterator".toList.reverse) (by kernel_rfl) qOQ];kernel_rfl
noncomputable def qE1 (w:World) (a:Addr) (ep:Nat) (es:Array (Int × Value)):List (Int × Value):=if byT w=true then (pickOrder (w.params.setOrder a ep) es).toList else es.toList
noncomputable def qE4 (w:World) (t:SetTable) (i:Nat):Nat:=if byT w=true then 0 else if i=0 then 0 else t.place.getD (i - 1) 0+1
theorem qE0 (w:World) (a:Addr) (ep:Nat) (es:Array (Int × Value)):(qE1 w a ep es).Perm es.toList:=by
 unfold qE1
 split
 ·exact qRD _ _
 ·exact .refl _
theorem T7.below_at {b:Bool} {t:SetTable} {n:Nat} (T:T7 b t n) (i:Nat) (hi:i<=n):D9 t.place (if i=0 then 0 else t.place.getD (i - 1) 0+1)=i:=by
 obtain ⟨b1,b2,b3⟩:=qH6 (j:=if i=0 then 0 else t.place.getD (i - 1) 0+1) T.up
 have hs:=T.size;have gd:∀ a c d,a<t.place.size->t.place.getD a c=t.place.getD a d:=fun a c d ha=>by
  rw [F2,F2,B8 ha]
  rfl
 by_cases h0:i=0
 ·rw [if_pos h0] at b1 b2 b3 ⊢;subst h0;apply Nat.eq_zero_of_not_pos;intro z;have:=b2 0 z;omega
 ·rw [if_neg h0] at b1 b2 b3 ⊢;have h1:¬ D9 t.place (t.place.getD (i - 1) 0+1)<i:=fun z=>by
   have:=b3 (i - 1) (by omega) (by omega)
   rw [gd (i - 1) (t.place.getD (i - 1) 0+1) 0 (by omega)] at this
   omega
  have h2:¬ i<D9 t.place (t.place.getD (i - 1) 0+1):=fun z=>by
   have q:=b2 i z;have:=qVZ 0 T.up (i - 1) i (by omega) (by omega)
   rw [gd i (t.place.getD (i - 1) 0+1) 0 (by omega)] at q
   omega
  omega
def SetIt (w:World) (a I:Addr) (es:Array (Int × Value)) (ep:Nat) (t:SetTable) (i:Nat) (h:Heap):Prop:=
 (∃ o,h.get? I=some o/\o.cls=.type "set_iterator"/\o.data=.fields #[.int (qE4 w t i) 0,.int i 0,.ref a,.int es.size 0,.int ep 0])/\h.get? a=some { cls:=.type "set",data:=.set es ep t }
section
variable {prog:Program} {w:World} {A:Around} {E:Value->Shared->Prop} {s:Shared} {a I:Addr} {es:Array (Int × Value)} {ep:Nat} {t:SetTable} {i:Nat}
theorem SetIt.typeIs (x:SetIt w a I es ep t i s.heap):s.TypeIs (.ref I) "set_iterator":=let ⟨⟨o,h1,h2,_⟩,_⟩:=x;⟨o,h1,h2⟩
theorem qLQ {Q:Option (Value × Nat)->Shared->Prop} (T:T7 (byT w) t es.size) (h8:es.size<=7) (ho:s.heap.get? a=some { cls:=.type "set",data:=.set es ep t }) (hi:i<=es.size)
  (h:Q (match (qE1 w a ep es)[i]? with | some e=>some (e.2,qE4 w t (i+1)) | none=>none) s):wpAny (model prog w) A (setNext a (qE4 w t i) i ep) Q E s:=by
 have hf:=T.fits h8;unfold setNext;refine wpAny_bind (wpAny_setState_of ho rfl hf ?_);dsimp only;unfold setsByText;refine wpAny_bind (wpAny_bind (wpAny_askSetting (wpAny_pure ?_)));show wpAny _ _ (if byT w=true then _ else _) _ _ _
 cases hb:byT w with
 | true=>
  rw [if_pos rfl];simp only [bne_self_eq_false,E1,if_false];refine wpAny_bind ?_;unfold setWalk;refine wpAny_bind (wpAny_setState_of ho rfl hf ?_);dsimp only;unfold setsByText;refine wpAny_bind (wpAny_bind (wpAny_askSetting (wpAny_pure ?_)));show wpAny _ _ (if byT w=true then _ else _) _ _ _
  rw [hb,if_pos rfl];refine wpAny_bind (wpAny_askSetting (wpAny_pure (wpAny_pure ?_)));have e:qE1 w a ep es=(pickOrder (w.params.setOrder a ep) es).toList:=by unfold qE1;rw [if_pos hb]
  have e2:∀ j,qE4 w t j=0:=fun j=>by unfold qE4;rw [if_pos hb]
  rw [e,E4,e2] at h;rw [e2];show Q (Option.map _ (pickOrder (w.params.setOrder a ep) es)[i]?) s;cases hx:(pickOrder (w.params.setOrder a ep) es)[i]? with
  | none=>rw [hx] at h;exact h
  | some v=>rw [hx] at h;exact h
 | false=>
  rw [if_neg (by simp)]
  show wpAny _ _ (if (!t.plain && decide (es.size > 1))=true then _ else _) _ _ _
  rw [T.plain];simp only [V7,l9,E1,if_false];refine wpAny_bind ?_;show wpAny _ _ (if (!t.led && !es.isEmpty)=true then _ else _) _ _ _
  rw [T.led,hb];simp only [A80,V7,l9,E1,if_false];refine wpAny_pure (wpAny_pure ?_);have e:qE1 w a ep es=es.toList:=by unfold qE1;rw [if_neg (by rw [hb];simp)]
  have e2:∀ j,qE4 w t j=if j=0 then 0 else t.place.getD (j - 1) 0+1:=fun j=>by unfold qE4;rw [if_neg (by rw [hb];simp)]
  rw [e,E4] at h;rw [e2,T.below_at i hi];cases hx:es[i]? with
  | none=>rw [hx] at h;exact h
  | some v=>
   rw [hx] at h;have hlt:i<t.place.size:=by rw [T.size];exact (Array.getElem?_eq_some_iff.mp hx).1
   rw [B8 hlt];dsimp only at h ⊢;have e3:qE4 w t (i+1)=t.place[i]+1:=by
    rw [e2,if_neg (by omega),A36,F2,B8 hlt]
    rfl
   rw [e3] at h;exact h
theorem qW6 {Q:Option Value->Shared->Prop} (T:T7 (byT w) t es.size) (h8:es.size<=7) (hit:SetIt w a I es ep t i s.heap) (hne:a ≠ I) {e:Int × Value} (hx:(qE1 w a ep es)[i]?=some e)
  (hQ:∀ h',SetIt w a I es ep t (i+1) h'->(∀ b o,b ≠ I->s.heap.get? b=some o->h'.get? b=some o)->Q (some e.2) { s with heap:=h' }):wpAny (model prog w) A (pyNext (.ref I)) Q E s:=by
 obtain ⟨⟨o,ho,hc,hd⟩,hs⟩:=id hit;have hi:i<es.size:=by
  have:=(B5.mp hx).1;rw [(qE0 w a ep es).length_eq,C7] at this;exact this
 unfold pyNext;refine wpAny_bind (wpAny_attempt (wpAny_callSpecial?_slot (name:=B6 "__next__") hit.typeIs slot_si_next (wpAny_call_entry slot_si_next hit.typeIs qGL ?_ (qHD _))));unfold Builtin.«set_iterator.__next__»;refine wpAny_bind (wpAny_pure ?_);refine wpAny_bind (wpAny_fieldsOf ho hd ?_);dsimp only;unfold setEntries;refine wpAny_bind (wpAny_bind (wpAny_setState_of hs rfl (T.fits h8) (wpAny_pure ?_)));rw [if_neg (by simp)]
 simp only [F9];refine wpAny_bind (qLQ T h8 hs (G0 hi) ?_);rw [hx];dsimp only;show wpAny _ _ (setField (.ref I) 0 (rawInt _) >>= _) _ _ s;refine wpAny_bind (wpAny_setField ho hd (by simp) ?_)
 have g1:=G9 (c9 (·.setIfInBounds 0 (rawInt ((qE4 w t (i+1):Nat):Int)))) ho (z9 (Y1 hd _));have d1:=Y1 hd (·.setIfInBounds 0 (rawInt ((qE4 w t (i+1):Nat):Int)));refine wpAny_bind (wpAny_setField g1 d1 (by simp) ?_)
 have g2:=G9 (c9 (·.setIfInBounds 1 (rawInt ((i:Int)+1)))) g1 (z9 (Y1 d1 _));have d2:=Y1 d1 (·.setIfInBounds 1 (rawInt ((i:Int)+1)));refine wpAny_pure ⟨_,rfl,wpAny_pure (hQ _ ⟨⟨_,g2,(A46 ..).trans ((A46 ..).trans hc),?_⟩,?_⟩ fun b o' hb e=>?_)⟩
 ·rw [d2];simp [rawInt]
 ·exact (C5 _ _ (G8 hne)).trans ((C5 _ _ (G8 hne)).trans hs)
 ·exact (C5 _ _ (G8 hb)).trans ((C5 _ _ (G8 hb)).trans e)
theorem qXZ {Q:Option Value->Shared->Prop} (hh:A.handled=none) (T:T7 (byT w) t es.size) (h8:es.size<=7) (hit:SetIt w a I es ep t es.size s.heap)
  (hQ:∀ h',(∀ b o,b ≠ I->s.heap.get? b=some o->h'.get? b=some o)->Q none { s with heap:=h' }):wpAny (model prog w) A (pyNext (.ref I)) Q E s:=by
 obtain ⟨⟨o,ho,hc,hd⟩,hs⟩:=id hit;unfold pyNext;refine wpAny_bind (wpAny_attempt (wpAny_callSpecial?_slot (name:=B6 "__next__") hit.typeIs slot_si_next (wpAny_call_entry slot_si_next hit.typeIs qGL ?_ (qHD _))));unfold Builtin.«set_iterator.__next__»;refine wpAny_bind (wpAny_pure ?_);refine wpAny_bind (wpAny_fieldsOf ho hd ?_);dsimp only;unfold setEntries;refine wpAny_bind (wpAny_bind (wpAny_setState_of hs rfl (T.fits h8) (wpAny_pure ?_)));rw [if_neg (by simp)]
 simp only [F9];have hx:(qE1 w a ep es)[es.size]?=none:=J1 (by rw [(qE0 w a ep es).length_eq,C7];exact A5 _)
 refine wpAny_bind (qLQ T h8 hs (A5 _) ?_);rw [hx];dsimp only;show wpAny _ _ (setField (.ref I) 2 .none >>= _) _ _ s;refine wpAny_bind (wpAny_setField ho hd (by simp) ?_)
 show wpAny _ _ (newExc (.type "StopIteration") [] >>= _) _ _ _;refine wpAny_bind ?_;simp only [newExc,newTuple];refine wpAny_bind (wpAny_newObj_type ?_ (by size_fits))
 refine wpAny_bind (m:=firstArgMember _ _) (wpAny_of_eq (a:=Q7) (by first | rfl | (simp only [firstArgMember];rfl)) ?_)
 refine wpAny_newObj_type ?_ (by size_fits)
 simp only [raiseNew];refine wpAny_bind (wpAny_handled ?_);rw [show A.in1.handled=none from hh];refine wpAny_bind (wpAny_pure (wpAny_throw ?_));refine wpAny_bind (wpAny_isInstance (T:="StopIteration") (b:=true) ⟨_,C1 _ rfl,rfl⟩ isSubtype_stop ?_);exact wpAny_pure (hQ _ (((d8 ..).extBut.push _).push _))
theorem qW5 {Q:Value->Shared->Prop} (hit:SetIt w a I es ep t i s.heap) (h:Q (.ref I) s):wpAny (model prog w) A (pyIter (.ref I)) Q E s:=by
 refine wpAny_pyIter_slot hit.typeIs qH8 (wpAny_call_entry qH8 hit.typeIs qL2 ?_ (qMZ _));show wpAny _ _ (ret (.ref I)) _ _ s;exact wpAny_pure ⟨_,rfl,"set_iterator",_,hit.typeIs,slot_si_next.lookup,h⟩
theorem qXY {Q:Value->Shared->Prop} (T:T7 (byT w) t es.size) (h8:es.size<=7) (hs:s.heap.get? a=some { cls:=.type "set",data:=.set es ep t })
  (hQ:Q (.ref s.heap.objs.size) { s with heap:=s.heap.push { cls:=.type "set_iterator",data:=.fields #[.int 0 0,.int 0 0,.ref a,.int es.size 0,.int ep 0] } }):wpAny (model prog w) A (pyIter (.ref a)) Q E s:=by
 have hT:s.TypeIs (.ref a) "set":=⟨_,hs,rfl⟩;have hf:=T.fits h8;refine wpAny_pyIter_slot hT F.slot_set_iter (wpAny_call_entry F.slot_set_iter hT qJH ?_ (F.args_set_iter_1 _));unfold Builtin.«frozenset.__iter__» A95 A89 setEntries;refine wpAny_bind (wpAny_bind (wpAny_pure ?_));show wpAny _ _ (pure a) _ _ s;refine wpAny_pure ?_;refine wpAny_bind (wpAny_bind (wpAny_bind (wpAny_setState_of hs rfl hf (wpAny_pure (wpAny_pure ?_)))));unfold setDrawn setsByText;refine wpAny_bind (wpAny_bind (wpAny_setState_of hs rfl hf ?_));dsimp only;refine wpAny_bind (wpAny_bind (wpAny_askSetting (wpAny_pure (wpAny_pure ?_))));show wpAny _ _ (if (!byT w && (!t.plain && decide (es.size > 1)))=true then _ else _) _ _ _
 rw [T.plain];simp only [V7,l9,A15,E1,if_false];refine wpAny_bind (wpAny_pure ?_);unfold setEpoch;refine wpAny_bind (wpAny_bind (wpAny_setState_of hs rfl hf (wpAny_pure ?_)));refine wpAny_bind (wpAny_newObj_type (wpAny_pure ⟨_,rfl,"set_iterator",_,⟨_,C1 _ rfl,rfl⟩,slot_si_next.lookup,?_⟩));simpa [rawInt] using hQ
theorem qW7 {Q:Bool->Shared->Prop} (hT:s.TypeIs (.ref a) "set") (h:Q false s):wpAny (model prog w) A (f9 (.ref a)) Q E s:=by
 unfold f9;refine wpAny_bind (wpAny_specialOf hT PySem.F.slot_set_len.lookup ?_);generalize hid:("set.__len__" : String)=id0
 wp_delta
 rw [show splitId id0=some ("set","__len__") from by subst hid;decide +kernel]
 subst hid;refine wpAny_bind (wpAny_isInstance (T:="set") (b:=true) hT (by rw [isSubtype_type];kernel_rfl) ?_)
 refine wpAny_ite_split (fun hab=>absurd hab (by decide)) (fun _=>?_)
 refine wpAny_ite_split (fun _=>?_) (fun hab=>absurd (by decide +kernel) hab)
 refine wpAny_bind (wpAny_typeOf hT ?_);exact wpAny_pure h
theorem qXX (T:T7 (byT w) t es.size) (h8:es.size<=7):PySem.W.KdlSrc prog w "set" a a es.size (fun i v=>∃ e,(qE1 w a ep es)[i]?=some e/\v=e.2) (fun h=>h.get? a=some { cls:=.type "set",data:=.set es ep t }) where
 type:=fun s h=>⟨_,h,rfl⟩
 there:=fun h x=>⟨C0 x,C0 x⟩
 keep:=fun h h' x k=>k a (.inl rfl) _ x
 notList:=by decide
 notTuple:=by decide
 hint:=fun A E s Q x q=>qW7 ⟨_,x,rfl⟩ q
 iter:=fun A s hh x=>by
  have hne:a ≠ s.heap.objs.size:=D6 (C0 x);refine ⟨_,fun i h=>SetIt w a s.heap.objs.size es ep t i h,fun E Q q=>qXY T h8 x q,?_,⟨⟨_,C1 _ rfl,rfl,?_⟩,A3 _ x⟩⟩
  ·refine ⟨fun b hb=>?_,fun i h h' st k=>?_,fun i s' Q E hi st q=>?_,fun s' Q E st q=>?_,fun i s' Q E st q=>qW5 st q⟩
   ·have e:b=s.heap.objs.size:=by simpa using hb
    simp [e]
   ·obtain ⟨⟨o,h1,h2,h3⟩,h4⟩:=st;exact ⟨⟨o,k _ (by simp) _ h1,h2,h3⟩,k _ (by simp) _ h4⟩
   ·have hl:i<(qE1 w a ep es).length:=by rw [(qE0 w a ep es).length_eq,C7];exact hi
    refine qW6 T h8 st hne (A8 hl) fun h' st' k=>?_;exact q _ h' s'.toks ⟨_,A8 hl,rfl⟩ st' fun b o hb e=>k b o (fun z=>hb (by simp [z])) e
   ·refine qXZ hh T h8 st fun h' k=>?_;exact q h' s'.toks fun b o hb e=>k b o (fun z=>hb (by simp [z])) e
  ·unfold qE4
   split <;> rfl
end
end L2
namespace L2
open PySem PySem.Spec PyProof.Rows
theorem qCV {ns:List Int}:∀ {us:List Value},Vals (ns.map V.int) us->IntsAre us ns:=by
 induction ns with
 | nil=>intro us h;cases h;exact .nil
 | cons n r ih=>
  intro us h;cases h with
  | cons r1 r2=>
   obtain ⟨t,rfl⟩:=r1;exact IntsAre.cons _ _ (ih r2)
theorem qH7:∀ {us:List Value} {ns:List Int},IntsAre us ns->Vals (ns.map V.int) us:=qHX
section
variable {X:Cx}
def SetO (w:World) (a:Addr) (zs:List Int):HO:=.ext (SetI w a zs)
theorem qL9 (hc:X.calm=true):qDT X (.type "set") (fun xs H Q=>∃ p ns,xs=[.ref p]/\SqL X.K H p (ns.map V.int)/\ns.length<=4/\∀ a,H a=none->Q (.ref a) (Ah H a (SetO X.w a (dedI ns)))):=by
 intro Ab s σ H xs us Q I r h;obtain ⟨p,ns,rfl,hq,h4,q⟩:=h;obtain ⟨u,rfl,rx⟩:=qE2 r;cases rx;obtain ⟨its,rv,pl,hz⟩:=I.list hq;have hlen:=rv.length;rw [A0] at hlen;refine qQB (ns:=ns) (I.ok.hd hc) pl.isList (by simpa using qCV rv) (by simp;lia) fun h' tk hS hk=>?_
 refine ⟨.ref s.heap.objs.size,_,I.laid (t':=tk) hk (A5 _) ?_,rfl,q _ (I.hok.fresh (A5 _))⟩;obtain ⟨es,ep,t,ks,e,_⟩:=id hS;exact ⟨hS,⟨_,e⟩,fun h1 h2 x k=>x.at k⟩
theorem Inv.track {Ab:List (Addr × Obj)} {s:Shared} {σ:St} {H:Hp} {T:Addr} {o:HO} (I:Inv X Ab σ H s) (h0:H T=none) (h1:X.s₀.heap.objs.size<=T) (h2:T ≠ X.env.locals) (h3:∀ x c,X.env.cells.lookup x=some c->c ≠ T) (h4:∀ p ∈ X.pn++Ab,p.1 ≠ T)
  (new:ObjOk X.prog X.w (Ah H T o) s.heap T o):Inv X Ab σ (Ah H T o) s:=by
 have old:∀ b ob,X.s₀.heap.get? b=some ob->b ≠ T:=fun b ob e=>D6 (D4 (C0 e) h1);have some':∀ b u,H b=some u->(Ah H T o) b=some u:=fun b u e=>by rw [qA7 (qA5 e h0)];exact e
 refine ⟨I.ok,I.os,I.bare,⟨I.base.keep,I.base.slot,fun b ob e n hx=>?_,I.base.there,fun b xs e=>some' _ _ (I.base.tups b xs e),fun b ob u e=>some' _ _ (I.base.frzs b ob u e),fun b ps e=>?_⟩,I.loc,I.cell,?_,fun x c e=>?_,fun p hp=>?_,fun b u e=>?_,I.len⟩
 ·rw [qA7 (old b ob e)];exact I.base.free b ob e n hx
 ·exact some' _ _ (I.base.tbls b ps e)
 ·rw [qA7 (G8 h2)];exact I.free
 ·rw [qA7 (h3 x c e)];exact I.freeC x c e
 ·obtain ⟨e1,n,r⟩:=I.pin p hp;exact ⟨e1,by rw [qA7 (h4 p hp)];exact n,r⟩
 ·by_cases hb:b=T
  ·subst hb;rw [qA1] at e;cases e;exact new
  ·rw [qA7 hb] at e;exact (I.hok b u e).stay (fun c v _ q=>q) (fun c q=>some' _ _ q) (fun c ys q=>some' _ _ q) fun c t q=>some' _ _ q
theorem qTS {Ab:List (Addr × Obj)} {s:Shared} {σ:St} {H:Hp} {Q:VK} {A:Around} {E:Value->Shared->Prop} {vs:List Value} {ns:List Int} {D:Addr} (I:Inv X Ab σ (Ah H D (.lst (ns.map V.int))) s) (hD:H D=none) (h64:ns.length<64)
  (q:∀ ns':List Int,ns'.Perm ns->ns'.Pairwise (·<=·)->Q (.ref D) (Ah H D (.lst (ns'.map V.int)))) :
  wpAny (model X.prog X.w) A (call (.builtin "list.sort") [.ref D]) (fun _ s'=>EP X Ab σ Q (.ref D) s') E s:=by
 obtain ⟨z,its,n,rv,hl,e⟩:=I.lstM qA1;have hI:=qCV rv;have hlen:=rv.length;rw [A0] at hlen;refine wpAny_call_entry slot_list_sort ⟨_,e,rfl⟩ entry_list_sort (list_sort_tree (ns:=ns) (n:=n) e hI (by lia) fun out ns' a1 a2 a3=>⟨_,rfl,?_⟩) (args_list_sort _)
 have hat:=sortedHeap_at (vs:=its) (out:=out) e;obtain ⟨e2,hat⟩:=hat;refine ⟨.ref D,Ah H D (.lst (ns'.map V.int)),?_,rfl,q ns' a2 a3⟩;have hu:Ah (Ah H D (.lst (ns.map V.int))) D (.lst (ns'.map V.int))=Ah H D (.lst (ns'.map V.int)):=qK8;rw [<- hu];refine I.write (x:=D) (e:=D) (t':=s.toks) (by rw [qA1];exact trivial) (.inl rfl) (fun b u hb hbu=>?_) ⟨_,hat⟩ ?_
 ·rw [sortedHeap_old hb (C0 hbu)];exact hbu
 ·refine ⟨?_,out.toList,e2,qH7 a1,by simpa using hat⟩
  rw [A0,a2.length_eq,<- A0 (f:=V.int)];exact z
theorem qPX {Ab:List (Addr × Obj)} {s:Shared} {σ:St} {H:Hp} {vs:List Value} {ns:List Int} (I:Inv X Ab σ H s) (hv:IntsAre vs ns) (hz:ns.length<=sizeLine) :
  Inv X Ab σ (Ah H s.heap.objs.size (.lst (ns.map V.int))) { s with heap:=s.heap.push { cls:=.type "list",data:=.seq vs.toArray } }:=
 I.lnew (t':=s.toks) (qH7 hv) (by rw [A0];exact hz)
theorem qDS (hc:X.calm=true):qDT X (.builtin "sorted") (fun xs H Q=>∃ p ns,xs=[.ref p]/\(SqL X.K H p (ns.map V.int)\/SqT X.K H p (ns.map V.int)\/H p=some (SetO X.w p ns))/\ns.length<64/\
  ∀ (a:Addr) (ns':List Int),H a=none->ns'.Perm ns->ns'.Pairwise (·<=·)->Q (.ref a) (Ah H a (.lst (ns'.map V.int)))):=by
 intro Ab s σ H xs us Q I r h;obtain ⟨p,ns,rfl,hq,h64,q⟩:=h;obtain ⟨u,rfl,rx⟩:=qE2 r;cases rx;refine m4 kind_sorted plain_sorted entry_sorted (args_sorted1 _) ?_;unfold Builtin.«sorted»;refine wpAny_bind (m:=checkCount "sorted" 1 1 _) (wpAny_pure ?_);have fin:∀ (s1:Shared) (vs:List Value) (zs:List Int),Inv X Ab σ H s1->IntsAre vs zs->zs.Perm ns->wpAny (model X.prog X.w) X.A.in1 (do
   let l <- newList vs
   let _ <- holding [l] (call (.builtin "list.sort") [l] [])
   ret l) (fun fin s'=>∃ r,fin=.done (.ret r)/\EP X Ab σ Q r s') X.xe s1:=by
  intro s1 vs zs I1 hv hp;have hlen:=IntsAre.length hv;have hz:zs.length<=sizeLine:=by rw [hp.length_eq,sizeLine_eq];lia
  refine wpAny_bind (wpAny_newList ?_ (by rw [hlen];exact hz))
  have hf:=I1.hok.fresh (A5 s1.heap.objs.size);refine wpAny_bind (wpAny_holding (wpAny_mono (qTS (E:=X.xe) (vs:=vs) (qPX I1 hv hz) hf (by rw [hp.length_eq];exact h64) fun ns' a b=>q _ ns' hf (a.trans hp) b) (fun _ s' x=>?_) fun _ _ e=>e))
  exact wpAny_pure ⟨_,rfl,x⟩
 rcases hq with hq | hq | hq
 ·obtain ⟨its,rv,pl,hz⟩:=I.list hq;obtain ⟨o,ho,hc',n,hd⟩:=pl.isList;have hlen:=rv.length;refine wpAny_bind (wpAny_collect_seq p (.inl rfl) ho hc' hd (fun h' hk=>?_) (by simp;lia))
  exact fin _ _ ns (I.kept (t':=s.toks) hk) (by simpa using qCV rv) (.refl _)
 ·obtain ⟨its,rv,pl,hz⟩:=I.tuple hq;obtain ⟨o,ho,hc',n,hd⟩:=pl;have hlen:=rv.length;refine wpAny_bind (wpAny_collect_seq p (.inr rfl) ho hc' hd (fun h' hk=>?_) (by simp;lia))
  exact fin _ _ ns (I.kept (t':=s.toks) hk) (by simpa using qCV rv) (.refl _)
 ·obtain ⟨hS,_,_⟩:=(show ObjOk X.prog X.w H s.heap p (.ext (SetI X.w p ns)) from I.hok p _ hq);obtain ⟨es,ep,t,ks,e,T,he,hp,hnd,h4⟩:=hS;have hsz:es.size=ns.length:=SetI.size (a:=p) (h:=s.heap) he hp;obtain ⟨ks',h1,h2⟩:=he.perm (qE0 X.w p ep es);refine wpAny_bind (g8 (A:=X.A.in1) (qXX (ep:=ep) T (by lia)) (I.ok.hd hc) e (by rw [hsz,sizeLine_eq];lia) fun h' tk acc hk hacc=>?_)
  refine fin _ _ ks' (I.kept (t':=tk) hk) ?_ (h2.trans hp);obtain ⟨l1,l2⟩:=hacc;have key:∀ {ks:List Int} {l:List (Int × Value)},Ents ks l->∀ vs:List Value,vs.length=l.length->(∀ (i:Nat) (v:Value),vs[i]?=some v->∃ e:Int × Value,l[i]?=some e/\v=e.2)->IntsAre vs ks:=by
   intro ks l h
   induction h with
   | nil=>
    intro vs hl _;have:vs=[]:=F5.mp hl;subst this;exact .nil
   | cons r t ih=>
    intro vs hl hv;cases vs with
    | nil=>simp at hl
    | cons v vs=>
     obtain ⟨tk,rfl⟩:=r;obtain ⟨e,he,rfl⟩:=hv 0 v rfl;simp at he;subst he;exact IntsAre.cons _ _ (ih vs (by simpa using hl) fun i v hi=>by simpa using hv (i+1) v (by simpa using hi))
  refine key h1 acc.toList ?_ fun i v hi=>l2 i v (by rw [<- E4];exact hi)
  rw [C7,l1,(qE0 X.w p ep es).length_eq,C7]
end
end L2
namespace L2
open PySem PySem.Spec PyProof.Rows
section
variable {X:Cx}
noncomputable def qH9 (lo hi:Int):List V:=(O7 (hi - lo).toNat).map fun (i:Nat)=>V.int (lo+i)
theorem qT7:qDT X (.type "range") (fun xs H Q=>∃ i j,xs=[.int i,.int j]/\∀ p,H p=none->Q (.ref p) (Ah H p (.rng i j))):=by
 intro Ab s σ H xs us Q I r h;obtain ⟨i,j,rfl,q⟩:=h;obtain ⟨u,v,rfl,⟨t,rfl⟩,⟨t',rfl⟩⟩:=qTO r;refine call_range_2 ⟨.ref s.heap.objs.size,_,I.laid (fun b o e=>A3 _ e) (A5 _) ?_,rfl,q _ (I.hok.fresh (A5 _))⟩;exact ⟨_,_,_,C1 _ rfl⟩
theorem qTV {lo hi:Int} {n:Nat} {acc:List Value} (hn:n=(hi - lo).toNat) (hl:acc.length=n) (h:∀ (i:Nat) (v:Value),acc[i]?=some v->∃ t,v=.int (lo+i * 1) t):Vals (qH9 lo hi) acc:=by
 have key:∀ (m:Nat) (acc:List Value),acc.length=m->∀ lo:Int,(∀ (i:Nat) (v:Value),acc[i]?=some v->∃ t,v=.int (lo+i) t)->Vals ((O7 m).map fun (i:Nat)=>V.int (lo+i)) acc:=by
  intro m
  induction m with
  | zero=>
   intro acc hl lo h;have:acc=[]:=F5.mp hl;subst this;exact .nil
  | succ m ih=>
   intro acc hl lo h;cases acc with
   | nil=>simp at hl
   | cons v acc=>
    rw [List.range_succ_eq_map,C9,P8];have h0:=h 0 v rfl;refine .cons h0 ?_;have h1:=ih acc (by simpa using hl) (lo+1) fun i v hi=>by
     have:=h (i+1) v (by simpa using hi)
     obtain ⟨t,e⟩:=this;refine ⟨t,?_⟩;rw [e];congr 1
     push_cast
     lia
    have e:((fun (i:Nat)=>V.int (lo+i)) ∘ Nat.succ)=fun (i:Nat)=>V.int (lo+1+i):=by
     funext i
     simp only [Function.comp];congr 1
     push_cast
     lia
    rw [e];exact h1
 unfold qH9;rw [<- hn];refine key n acc hl lo fun i v hi=>?_;obtain ⟨t,e⟩:=h i v hi;exact ⟨t,by rw [e,Int.mul_one]⟩
theorem qPQ (lo hi:Int):(qH9 lo hi).length=(hi - lo).toNat:=by unfold qH9;simp
theorem qZJ {lo hi:Int}:U2 lo hi 1=((hi - lo).toNat:Nat):=by rw [rangeSize_one];split <;> lia
theorem qL8 {prog:Program} {w:World} {A:Around} {E:Value->Shared->Prop} {s:Shared} {R:List Value->Shared->Prop} {r:Addr} {a b:Int} {t u v:Tok} {n:Nat} (hh:A.handled=none) (hr:IsRange s.heap r a b 1 t u v) (hsmall:A24 a b 1=true)
  (hn:U2 a b 1=n) (hlen:n<=2 ^ 24)
  (h:∀ (h':Heap) (tk:Nat) (acc:Array Value),(∀ b o,s.heap.get? b=some o->h'.get? b=some o)->ItemsOf (fun i v=>∃ t,v=.int (a+i * 1) t) acc n->R acc.toList { s with heap:=h',toks:=tk }) :
  wpAny (model prog w) A (collect (.ref r)) R E s:=by
 unfold collect;refine wpAny_bind (wpAny_runValue (codeAny_builtin entry_proto_collect' ?_));rw [E8 PySem.F.plain_proto_collect _];show wpAny _ A.in1 (newList [] >>= fun l=>again (.builtin "list.__iadd__" ⟨[l,.ref r],[]⟩)) _ _ s;refine wpAny_bind (wpAny_newObj_type ?_);refine wpAny_pure ⟨plainId_quiet r8 _,codeAny_builtin entry_list_iadd' ?_⟩;rw [E8 r8 _];have hS₁:(s.heap.push { cls:=.type "list",data:=.seq ([]:List Value).toArray }).get? s.heap.objs.size=some { cls:=.type "list",data:=.seq #[] }:=C1 _ rfl;show wpAny _ A.in1 (Builtin.List.listExtendWith (.ref s.heap.objs.size) (.ref r) (.ref s.heap.objs.size)) _ _ _;have key:=wpAny_extend_range (prog:=prog) (w:=w) (A:=A) (s:={ s with heap:=s.heap.push { cls:=.type "list",data:=.seq ([]:List Value).toArray } })
  (R:=fun (q:Result) (s':Shared)=>∃ (h':Heap) (tk:Nat) (acc':Array Value) (c':Nat),q=.ok (.ret (.ref s.heap.objs.size))/\s'={ s with heap:=h',toks:=tk }/\
   (∀ b o,s.heap.get? b=some o->h'.get? b=some o)/\h'.get? s.heap.objs.size=some { cls:=.type "list",dict:=none,data:=.seq acc' c',slots:=#[] }/\ItemsOf (fun i v=>∃ t,v=.int (a+i * 1) t) acc' n)
  hh (A3 _ hr) hsmall hn hlen s.heap.objs.size (.ref s.heap.objs.size) 0 hS₁
  (fun h' tk acc' c' hk hS' hacc=>⟨h',tk,acc',c',rfl,rfl,fun b o e=>hk b o (D6 (C0 e)) (A3 _ e),hS',hacc⟩)
 refine wpAny_mono key (fun fin s' x=>?_) fun e s' x=>?_
 ·cases fin with
  | done f=>
   obtain ⟨h',tk,acc',c',e,rfl,hk,hS',hacc⟩:=x;cases e;show wpAny _ A (load s.heap.objs.size >>= _) _ _ _;refine wpAny_bind (wpAny_load hS' ?_);exact wpAny_pure (h h' tk acc' hk hacc)
  | again c₁=>
   refine ⟨x.1,codeAny_mono x.2 fun q s₂ y=>?_⟩;obtain ⟨h',tk,acc',c',rfl,rfl,hk,hS',hacc⟩:=y;show wpAny _ A (load s.heap.objs.size >>= _) _ _ _;refine wpAny_bind (wpAny_load hS' ?_);exact wpAny_pure (h h' tk acc' hk hacc)
 ·obtain ⟨_,_,_,_,e',_⟩:=x;cases e'
theorem qN2 {prog:Program} {w:World} {A:Around} {E:Value->Shared->Prop} {s:Shared} {Q:Value->Shared->Prop} {r:Addr} {a b:Int} {t u v:Tok} {n:Nat} (hh:A.handled=none) (hr:IsRange s.heap r a b 1 t u v) (hsmall:A24 a b 1=true)
  (hn:U2 a b 1=n) (hlen:n<=2 ^ 24)
  (h:∀ (h':Heap) (tk:Nat) (acc:Array Value),(∀ b o,s.heap.get? b=some o->h'.get? b=some o)->ItemsOf (fun i v=>∃ t,v=.int (a+i * 1) t) acc n->Q (.ref h'.objs.size) { s with heap:=h'.push { cls:=.type "tuple",data:=.seq acc },toks:=tk }) :
  wpAny (model prog w) A (call (.type "tuple") [.ref r]) Q E s:=by
 have hcode:codeAny (model prog w) A.in1 (.call (.builtin "tuple.__new__") ⟨[.type "tuple",.ref r],[]⟩) (wants (fun obj s₁=>s₁.TypeIs obj "tuple"/\Q obj s₁) E) s:=by
  refine codeAny_of_tree ?_;show wpAny _ A.in1.in1 (do checkBuiltinCall "tuple.__new__" ⟨[.type "tuple",.ref r],[]⟩;again (.builtin "tuple.__new__" ⟨[.type "tuple",.ref r],[]⟩)) _ _ s
  refine wpAny_bind (wpAny_of_eq (F.newCall_tuple_1 _) (wpAny_pure ⟨plainId_quiet A47 _,codeAny_builtin F.entry_tuple_new ?_⟩));rw [E8 A47 _];have hsub:=sub_tuple_self;have hinit:=init_tuple_lookup;have hmh:=madeHere_tuple;have hTI:s.TypeIs (.ref r) "range":=⟨_,hr,rfl⟩
  wp_walk using wpAny_typeOf hTI,qL8 (prog:=prog) (w:=w) (A:=A.in1.in1) hh hr hsmall hn hlen
  intro h' tk acc hk hacc;show wpAny _ _ (J7 acc.toList.toArray >>= fun v=>ret v) _ _ _;unfold J7;refine wpAny_bind (wpAny_newObj_type ?_ (by show acc.toList.toArray.size<=sizeLine;simp only [Array.toArray_toList];rw [hacc.1,sizeLine_eq];lia))
  refine wpAny_pure ?_;have e:acc.toList.toArray=acc:=by simp
  rw [e];exact ⟨⟨_,C1 _ rfl,rfl⟩,h h' tk acc hk hacc⟩
 refine callType_codes (Q₁:=fun obj s₁=>s₁.TypeIs obj "tuple"/\Q obj s₁) A17 (F.typeCall_tuple_1 _) F.entry_object_init hcode fun obj s₁ h₁=>?_;exact ⟨h₁.1,F.args_object_init_2 obj _,object_init_meets A17.init.lookup A17.made (by decide) prog w A.in1 _ s₁ ⟨h₁.1,rfl,h₁.2⟩⟩
theorem qJL (hc:X.calm=true):qDT X (.type "tuple") (fun xs H Q=>∃ p lo hi,xs=[.ref p]/\H p=some (.rng lo hi)/\-1000000<=lo/\lo<=1000000/\-1000000<=hi/\hi<=1000000/\∀ l,H l=none->Q (.ref l) (Ah H l (.tup (qH9 lo hi)))):=by
 intro Ab s σ H xs us Q I r h;obtain ⟨p,lo,hi,rfl,hp,l1,l2,l3,l4,q⟩:=h;obtain ⟨u,rfl,rx⟩:=qE2 r;cases rx;obtain ⟨t,u,v,e⟩:=(show ∃ t u v,s.heap.get? p=some { cls:=.type "range",data:=.fields #[.int lo t,.int hi u,.int 1 v] } from I.hok p _ hp);refine qN2 (n:=(hi - lo).toNat) (I.ok.hd hc) (show IsRange s.heap p lo hi 1 t u v from e) (small_one (by lia) (by lia) (by lia) (by lia)) qZJ (by lia) fun h' tk acc hk hacc=>?_
 obtain ⟨a1,a2⟩:=hacc;have I1:Inv X Ab σ H { s with heap:=h',toks:=tk }:=I.kept hk;refine ⟨.ref h'.objs.size,_,I1.laid (t':=tk) (fun b o e=>A3 _ e) (A5 _) (show ObjOk X.prog X.w _ _ _ (.tup (qH9 lo hi)) from ⟨?_,acc.toList,qTV rfl (by simpa using a1) fun i v hi=>a2 i v (by rw [<- E4];exact hi),?_⟩),rfl,q _ (I1.hok.fresh (A5 _))⟩
 ·rw [qPQ,sizeLine_eq]
  lia
 ·have:=IsTup.new h' acc;simpa using this
theorem qPP:∀ (bs:List Bool),((O7 bs.length).all fun i=>(bs[i]?).getD true)=bs.all id:=by
 intro bs;rw [Q1,M8,M8]
 constructor
 ·intro h b hb;obtain ⟨i,hi,e⟩:=W2.mp hb;have:=h i (L0.mpr hi);rw [A8 hi,e] at this;exact this
 ·intro h i hi;have hi':=L0.mp hi;rw [A8 hi'];exact h _ (X0 hi')
theorem qUU (hc:X.calm=true):qDT X (.builtin "all") (fun xs H Q=>∃ (p:Addr) (bs:List Bool),xs=[.ref p]/\SqL X.K H p (bs.map V.bl)/\Q (.bl (bs.all id)) H):=by
 intro Ab s σ H xs us Q I r h;obtain ⟨p,bs,rfl,hq,q⟩:=h;obtain ⟨u,rfl,rx⟩:=qE2 r;cases rx;obtain ⟨its,rv,pl,hz⟩:=I.list hq;have hl:=pl.isList;have hlt:p<s.heap.objs.size:=by obtain ⟨_,e,_⟩:=hl;exact C0 e
 have hlen:=rv.length;rw [A0] at hlen;refine call_all_walk (wpAny_pyIter_list hl ?_);refine ⟨s.heap.objs.size,[s.heap.objs.size,p],[s.heap.objs.size],its.toArray.size,_,_,fun i=>(bs[i]?).getD true,rfl,Walks.list (A:=X.A.in1) (I.ok.hd hc) _ p (D6 hlt) its.toArray,
  ⟨⟨_,C1 _ rfl,rfl,rfl⟩,hl.push _⟩,fun i v s' Q' E' hP hQ=>?_,fun h' tk hk=>?_⟩
 ·have hP':its[i]?=some v:=by simpa using hP
  have hi:i<bs.length:=by rw [hlen];exact (B5.mp hP').1
  obtain ⟨u,hu,ru⟩:=rv.get (i:=i) (x:=.bl bs[i]) (by rw [D0,A8 hi];rfl)
  rw [hP'] at hu;cases hu;cases ru;dsimp only at hQ;rw [A8 hi,A61] at hQ;exact wpAny_truthy_bool hQ
 ·have e:((O7 its.toArray.size).all fun i=>(bs[i]?).getD true)=bs.all id:=by
   rw [B4,<- hlen];exact qPP bs
  refine ⟨.bl (bs.all id),H,I.kept fun b x e=>hk b x (fun hm=>by rw [A6.mp hm] at e;exact R0 _ (C0 e)) (A3 _ e),?_,q⟩
  rw [e]
  rfl
theorem qRL (hu:X.A.units<cLine):OpR X (compareOp .Eq) (fun x y H Q=>∃ p l xs,x=.ref p/\y=.ref l/\SqL X.K H p xs/\SqL X.K H l []/\Q (.bl xs.isEmpty) H):=by
 intro Ab s σ H x y v u Q I rx ry h;obtain ⟨p,l,xs,rfl,rfl,h1,h2,q⟩:=h;cases rx;cases ry;obtain ⟨its,r1,p1,z1⟩:=I.list h1;obtain ⟨its2,r2,p2,z2⟩:=I.list h2;cases r2;cases xs with
 | nil=>
  cases r1;exact SeqAt.eq_listAt (e:=fun _=>true) p1.isList p2.isList rfl hu (fun j h _=>absurd h (by simp)) ⟨.bl true,H,I,rfl,q⟩
 | cons a r=>
  cases r1;exact SeqAt.eq_list_lengthsAt p1.isList p2.isList (by simp) hu ⟨.bl false,H,I,rfl,q⟩
end
theorem qMP {X:Cx} {K:PySem.W.Frag} {w:World} (hK:X.K=K) (hw:X.w=w) (hc:X.calm=true):qDT X (.builtin "sorted") (fun xs H Q=>∃ p ns,xs=[.ref p]/\(SqL K H p (ns.map V.int)\/SqT K H p (ns.map V.int)\/H p=some (SetO w p ns))/\ns.length<64/\
  ∀ (a:Addr) (ns':List Int),H a=none->ns'.Perm ns->ns'.Pairwise (·<=·)->Q (.ref a) (Ah H a (.lst (ns'.map V.int)))):=by subst hK hw;exact qDS hc
theorem qT6 {X:Cx} {K:PySem.W.Frag} {w:World} (hK:X.K=K) (hw:X.w=w) (hc:X.calm=true):qDT X (.type "set") (fun xs H Q=>∃ p ns,xs=[.ref p]/\SqL K H p (ns.map V.int)/\ns.length<=4/\∀ a,H a=none->Q (.ref a) (Ah H a (SetO w a (dedI ns)))):=by subst hK hw;exact qL9 hc
end L2
namespace L2
open PySem PySem.Spec PyProof.Rows
def Ite (K:PySem.W.Frag) (l:Addr):It:=
 ⟨fun i H=>∃ xs x,SqL K H l xs/\xs[i]?=some x,fun i H v H'=>∃ T x,H T=none/\v=.ref T/\H'=Ah H T (.tup [.int (i:Int),x])/\∀ xs,SqL K H l xs->xs[i]?=some x,fun i H=>∃ xs,SqL K H l xs/\xs.length<=i⟩
section
variable {X:Cx}
theorem Inv.turnedL {Ab:List (Addr × Obj)} {s:Shared} {σ:St} {H:Hp} {h':Heap} {t':Nat} {ch:List Addr} (I:Inv X Ab σ H s) (k:∀ b o,b ∉ ch->s.heap.get? b=some o->h'.get? b=some o) (hc:∀ b ∈ ch,FpOk X Ab H b):Inv X Ab σ H { s with heap:=h',toks:=t' }:=by
 have nit:∀ b u,H b=some u->b ∉ ch:=fun b u e z=>by rw [(hc b z).1] at e;cases e
 refine I.step (g':=s.gens) (d':=s.drawn) (ch:=ch) (fun b hb=>⟨(hc b hb).2.2.2.1,(hc b hb).2.1,(hc b hb).2.2.2.2.1,(hc b hb).2.2.2.2.2⟩) (fun b o _ _ hc' e _=>k b o hc' e) (fun b o _ _ hc' e _=>⟨o.slots,k b o hc' e⟩) (fun _ _ _ _ n=>n)
  (fun b o hc' e=>⟨o,k b o hc' e⟩) (fun _ _ e=>e) (fun _ _ _ e=>e) (fun _ _ e=>e) (fun m hm=>?_) (fun b u e=>?_) I.bare
 ·obtain ⟨o,es,ep,ho,r⟩:=hm;exact ⟨o,es,ep,k _ o (fun z=>(hc _ z).2.1 rfl) ho,r⟩
 ·refine (I.hok b u e).stay (fun c v hc' q=>k c v ?_ q) (fun _ q=>q) fun _ _ q=>q;rcases hc' with z | z
  ·rw [z];exact nit b u e
  ·exact nit c _ z
theorem qQM {P:Program} {w:World} {K:PySem.W.Frag} {elts:List Expr} {k:Nat} {pos:Pos} (l it e:Addr) (hne:e ≠ it):Turn P w K (.Tuple elts k pos) (Ite K l) [e,it] e (fun i h=>(∃ old,IsEnum h e it i old)/\h.IsListIter it l i) where
 mem:=by simp
 obj:=fun i h st b hb=>by
  obtain ⟨⟨old,h1⟩,o,h2,_,h4⟩:=st;have e':b=e\/b=it:=by simpa using hb
  rcases e' with rfl | rfl
  ·exact ⟨_,h1,fun v z=>by
    have z':Data.fields _=Data.cell v:=z;cases z'⟩
  ·exact ⟨o,h2,fun v z=>by rw [h4] at z;cases z⟩
 keep:=fun i h h' st kk=>by
  obtain ⟨⟨old,h1⟩,h2⟩:=st;exact ⟨⟨old,kk e (by simp) _ h1⟩,h2.at fun o q=>kk it (by simp) o q⟩
 item:=by
  intro X hP hw hK hc i Ab s σ H E I hf st hg;subst hP hw hK;obtain ⟨xs,x,hq,hx⟩:=hg;obtain ⟨its,rv,p,hz⟩:=I.list hq;obtain ⟨u,hu,ru⟩:=rv.get hx;obtain ⟨⟨old,h1⟩,h2⟩:=st;refine wpAny_pyNext_enum_item h1 h2 p.isList (x:=u) (by simpa using hu) hne fun h' a1 a2 a3 a4 a5=>?_
  refine ⟨_,rfl,wpAny_letOwnedTupleGo_enum a1 fun h2 b1 b2=>?_⟩;have ltE:e<s.heap.objs.size:=C0 h1;have I1:Inv X Ab σ H { s with heap:=h2,toks:=s.toks+1 }:=I.turnedL (ch:=[e,it]) (fun b o hb q=>by
   have hb1:b ≠ e:=fun z=>hb (by simp [z])
   have hb2:b ≠ it:=fun z=>hb (by simp [z])
   exact (b2.2 b hb1).trans (a5 b o hb1 hb2 q)) hf
  have hT:H s.heap.objs.size=none:=I.hok.fresh (A5 _);have fT:=I.fpOk (H':=H) (b:=s.heap.objs.size) (A5 _) hT;have gT:h2.get? s.heap.objs.size=some { cls:=.type "tuple",data:=.seq #[.int i s.toks,u] }:=(b2.2 _ (X3 ltE)).trans a3;refine ⟨.ref s.heap.objs.size,Ah H s.heap.objs.size (.tup [.int (i:Int),x]),I1.track hT I.sz fT.2.1 fT.2.2.2.2.1 fT.2.2.2.2.2 ⟨by simp only [E3,L9];rw [sizeLine_eq];decide,[.int (i:Int) s.toks,u],.cons ⟨_,rfl⟩ (.cons ru .nil),⟨_,gT,rfl,_,rfl⟩⟩,rfl,
   ⟨_,x,hT,rfl,rfl,fun ys hy=>by rw [I.list_inj hy hq];exact hx⟩,⟨⟨_,b1⟩,a2.at fun o q=>(b2.2 it (G8 hne)).trans q⟩,fun b hb=>?_⟩
  have ltb:b<s.heap.objs.size:=by
   have e':b=e\/b=it:=by simpa using hb
   rcases e' with rfl | rfl
   ·exact ltE
   ·obtain ⟨o,q,_⟩:=h2;exact C0 (by assumption)
  rw [qA7 (D6 ltb)];exact (hf b hb).1
 done:=by
  intro X hP hw hK hc i Ab s σ H E I hf st hg;subst hP hw hK;obtain ⟨xs,hq,hx⟩:=hg;obtain ⟨its,rv,p,hz⟩:=I.list hq;have hl:=rv.length;obtain ⟨⟨old,h1⟩,h2⟩:=st;exact wpAny_pyNext_enum_end (I.ok.hd hc) h1 h2 p.isList (by simp;lia) fun h' eb=>⟨rfl,I.turnedL (t':=s.toks) (ch:=[e,it]) (fun b o hb q=>eb b o (fun z=>hb (by simp [z])) q) hf⟩
 self:=fun _ _ _ _ _ st h=>by
  obtain ⟨⟨old,h1⟩,h2⟩:=st;exact wpAny_pyIter_enum h1 h
def qaB (K:PySem.W.Frag) (ta:TA):TI:=fun σ H R=>ta σ H fun vs H1=>∃ l,vs=[.ref l]/\(∃ xs,SqL K H1 l xs)/\R (Ite K l) H1
theorem qWE {elts:List Expr} {k:Nat} {tpos:Pos} {a:Expr} {ta:TA} {p pos:Pos} (hg:Gl X "enumerate") (hm:X.mg "enumerate" = none) (hv:bootBuiltins "enumerate" = some (.type "enumerate")) (ha:PA X [a] ta) (hs:starEach [a] X.env=[(false,eval a X.env)]:=by rfl) :
  PI X (.Tuple elts k tpos) (.Call (.Name "enumerate" p) [a] [] pos) (qaB X.K ta):=by
 intro Ab s σ H R I h;refine Call_ (qIG I hg hm hv (U8 (thn (ha pos Ab s σ H _ I h) fun us s1 ⟨vs,H1,I1,r1,q1⟩=>?_) hs rfl));obtain ⟨l,e,⟨xs,hq⟩,q⟩:=q1;subst e;obtain ⟨u,rfl,rx⟩:=qE2 r1;cases rx;obtain ⟨its,rv,pl,hz⟩:=I1.list hq;refine call_enumerate_list pl.isList fun h' he hi hsz hk=>?_;refine wpAny_pyIter_enum he ?_;have I2:Inv X Ab σ H1 { s1 with heap:=h' }:=I1.kept (t':=s1.toks) hk;refine ⟨s1.heap.objs.size+1,[s1.heap.objs.size+1,s1.heap.objs.size],_,_,H1,rfl,I2,qQM l s1.heap.objs.size (s1.heap.objs.size+1) (t5 _),⟨⟨_,he⟩,hi⟩,fun b hb=>?_,q⟩;have e':b=s1.heap.objs.size+1\/b=s1.heap.objs.size:=by simpa using hb
 rcases e' with rfl | rfl
 ·exact I1.fpOk (X2 _) (I1.hok.fresh (X2 _))
 ·exact I1.fpOk (A5 _) (I1.hok.fresh (A5 _))
end
theorem qWU {K:PySem.W.Frag} {a:Addr} {xs:List V} {g:TG} {tc:TT} {te:TE} {Kf:Hp->Prop} {σ0:St} {H0:Hp} {p:Addr} (Pv:Nat->St->Hp->Prop) (h0:Pv 0 σ0 H0) (hl:∀ i σ H,i<=xs.length->Pv i σ H->SqL K H a xs)
  (hs:∀ i x σ H T,xs[i]?=some x->Pv i σ H->H T=none->g (.ref T) σ (Ah H T (.tup [.int (i:Int),x])) fun σ2 H2=>tc σ2 H2 fun b H3=>if b=true then te σ2 H3 fun y H4=>∃ ys,H4 p=some (.lst ys)/\ys.length<sizeLine/\Pv (i+1) σ2 (Ah H4 p (.lst (ys++[y]))) else Pv (i+1) σ2 H3)
  (hd:∀ σ H,Pv xs.length σ H->Kf H) :
  LcG (Ite K a) g tc te Kf σ0 H0 p:=by
 refine ⟨fun i m σ H=>m=xs.length - i/\i<=xs.length/\Pv i σ H,⟨xs.length,by simp,F0 _,h0⟩,?_⟩
 rintro i m σ H ⟨rfl,hi,q⟩;have hq:=hl i σ H hi q;by_cases hlt:i<xs.length
 ·refine .inr ⟨⟨xs,xs[i],hq,by simp [hlt]⟩,Pv (i+1),fun σ' H' p'=>⟨xs.length - (i+1),by lia,rfl,hlt,p'⟩,fun v H' y=>?_⟩
  obtain ⟨T,x,hT,e1,e2,y⟩:=y;subst e1 e2;exact hs i x σ H T (y xs hq) q hT
 ·have e:i=xs.length:=by lia
  subst e;exact .inl ⟨⟨xs,hq,A5 _⟩,hd σ H q⟩
end L2
namespace L2
open PySem PySem.Spec PyProof.Rows
section
variable {b b':Bool} {prog:Program} {w:World} {A:Around} {E:Value->Shared->Prop} {s:Shared} {z TI TO i1 i2 l1 l2:Addr} {k1 k2:Nat} {xs ys:Array Value}
end
end L2
namespace L2
open PySem PySem.Spec PyProof.Rows
section
variable {X:Cx}
end
end L2
namespace L2
open PySem PySem.Spec PyProof.Rows
section
variable {X:Cx}
end
end L2
namespace L2
open PySem
section
variable {es:List Expr} {env:Env} {p:Pos}
end
end L2
namespace L2
open PySem
@[irreducible] def cst (i:Int) (p:Pos):Expr:=.Constant (.int i) 0 p
end L2
namespace L2
open PySem
theorem qU7 {P:(St->Hp->Prop)->Prop} {B:St->Hp->Prop} (h:∀ N:St->Hp->Prop,(∀ σ H,B σ H->N σ H)->P N):∃ N:St->Hp->Prop,(∀ σ' H',N σ' H'->B σ' H')/\P N:=⟨B,fun _ _ z=>z,h B fun _ _ z=>z⟩
theorem qGI {K:PySem.W.Frag} {a:Addr} {xs:List V} {g:TG} {tb:TS} {D:Ends} {σ:St} {H:Hp} (Pv:Nat->St->Hp->Prop) (h0:Pv 0 σ H) (hl:∀ i σ H,i<=xs.length->Pv i σ H->SqL K H a xs)
  (hs:∀ i x σ H,xs[i]?=some x->Pv i σ H->∀ N:St->Hp->Prop,(∀ σ H,Pv (i+1) σ H->N σ H)->g x σ H fun σ2 H2=>tb { D with nx:=N,ct:=N,bk:=D.nx } σ2 H2) (hd:∀ σ H,Pv xs.length σ H->D.nx σ H) :
  ForG (Itl K a) g tb D σ H:=
 qUR Pv h0 hl (fun i x σ H hx hp=>hs i x σ H hx hp _ fun _ _ z=>z) hd
end L2
namespace L2
open PySem
@[elab_as_elim] theorem us0 {α:Type} {P:List α->Prop} (us:List α) (hl:us.length=0) (h:P []):P us:=by
 match us,hl with
 | [],_=>exact h
@[elab_as_elim] theorem us1 {α:Type} {P:List α->Prop} (us:List α) (hl:us.length=1) (h:∀ a,P [a]):P us:=by
 match us,hl with
 | [a],_=>exact h a
@[elab_as_elim] theorem us2 {α:Type} {P:List α->Prop} (us:List α) (hl:us.length=2) (h:∀ a b,P [a,b]):P us:=by
 match us,hl with
 | [a,b],_=>exact h a b
@[elab_as_elim] theorem us3 {α:Type} {P:List α->Prop} (us:List α) (hl:us.length=3) (h:∀ a b c,P [a,b,c]):P us:=by
 match us,hl with
 | [a,b,c],_=>exact h a b c
@[elab_as_elim] theorem us4 {α:Type} {P:List α->Prop} (us:List α) (hl:us.length=4) (h:∀ a b c d,P [a,b,c,d]):P us:=by
 match us,hl with
 | [a,b,c,d],_=>exact h a b c d
end L2
namespace L2.G
open PySem PyProof.Rows
abbrev gSM:=StateT SortSt Sem
class NM where
 nm:Value->Int
 good:Value->Prop
variable [NM]
def gkv (p:Keyed):Int:=NM.nm p.1
def gIK (p:Keyed):Prop:=NM.good p.1
class LtOk (prog:Program) (w:World) (A:Around) (s:Shared) (κ0:SortKind):Prop where
 lt:∀ {x y:Value} {Q:Bool->Shared->Prop} {E:Value->Shared->Prop},NM.good x->NM.good y->Q (decide (NM.nm x<NM.nm y)) s->wpAny (model prog w) A (keyLt' κ0 x y) Q E s
noncomputable def gK (xs:Array Keyed) (i:Nat):Int:=match xs[i]? with
 | some p=>NM.nm p.1
 | none=>0
def qCX (xs:Array Keyed) (k:Nat):Prop:=∀ i j,i<=j->j<k->gK xs i<=gK xs j
def qBL (xs:Array Keyed):Prop:=∀ p,p ∈ xs.toList->NM.good p.1
theorem qSL {xs:Array Keyed} {i:Nat} (hi:i<xs.size):gK xs i=NM.nm xs[i].1:=by unfold gK;rw [getElem?_pos xs i hi]
theorem qF0 {xs ys:Array Keyed} {i j:Nat} (h:xs[i]?=ys[j]?):gK xs i=gK ys j:=by unfold gK;rw [h]
theorem qIQ {xs:Array Keyed} {src d:Nat} (hs:src<xs.size) (hd:d<=src) (k:Nat) :
  gK (bubble xs src d) k=if k=src - d then gK xs src else if src - d<k/\k<=src then gK xs (k - 1) else gK xs k:=by
 have e:=getElem?_bubble hs d hd k;by_cases h1:k=src - d
 ·rw [if_pos h1] at e ⊢;exact qF0 e
 ·rw [if_neg h1] at e ⊢;by_cases h2:src - d<k/\k<=src
  ·rw [if_pos h2] at e ⊢;exact qF0 e
  ·rw [if_neg h2] at e ⊢;exact qF0 e
theorem qGG {xs:Array Keyed} {i j:Nat} (hj:j<=xs.size) (k:Nat) :
  gK (mirror xs i j ((j - i) / 2)) k=if i<=k/\k<j then gK xs (i+j - 1 - k) else gK xs k:=by
 have e:=getElem?_mirror_all (i:=i) hj k;by_cases h1:i<=k/\k<j
 ·rw [if_pos h1] at e ⊢;exact qF0 e
 ·rw [if_neg h1] at e ⊢;exact qF0 e
theorem qAY {xs:Array Keyed} {i j:Nat} (hj:j<=xs.size) (heq:∀ k,i<=k->k<j->gK xs k=gK xs (j - 1)) (k:Nat) :
  gK (mirror xs i j ((j - i) / 2)) k=gK xs k:=by
 rw [qGG hj]
 split
 ·rw [heq _ (by omega) (by omega),heq k (by omega) (by omega)]
 ·rfl
noncomputable def qUQ:Bool->Keyed->Array Keyed->Nat->Nat->Nat->gSM (Option Nat):=sortPriv% PySem.Builtin.gallop
noncomputable def gbey (left:Bool) (key:Keyed) (arr:Array Keyed) (base i:Nat):gSM (Option Bool):=do
 let x <- elem' arr (base+i)
 if left=true then lt' x key else do
  let r <- lt' key x
  pure (r.map fun b=>!b)
section
variable {prog:Program} {w:World} {A:Around} {E:Value->Shared->Prop} {s:Shared} {κ0:SortKind} [LtOk prog w A s κ0]
theorem qGD {st:SortSt} {x y:Keyed} {Q:Option Bool->SortSt->Prop} (hk:kindOf st=κ0) (hx:gIK x) (hy:gIK y) (h:Q (some (decide (gkv x<gkv y))) st):wpS (model prog w) A E s (lt' x y) Q st:=by
 rw [lt'_eq];refine wpS_bind (wpS_get ?_);rw [hk];refine wpS_bind (wpS_lift (wpAny_attempt (LtOk.lt hx hy ⟨rfl,?_⟩)));exact wpS_pure h
theorem qB4 {st:SortSt} {arr:Array Keyed} {i:Nat} {x:Keyed} {Q:Keyed->SortSt->Prop} (h:arr[i]?=some x) (hQ:Q x st):wpS (model prog w) A E s (elem' arr i) Q st:=by
 rw [elem'_eq,h];exact wpS_pure hQ
noncomputable def qAK (left:Bool) (key:Keyed) (arr:Array Keyed) (base i:Nat):Bool:=match arr[base+i]? with
 | some x=>if left=true then decide (gkv x<gkv key) else decide (gkv x<=gkv key)
 | none=>false
theorem qGE {st:SortSt} {left:Bool} {key:Keyed} {arr:Array Keyed} {base i:Nat} {Q:Option Bool->SortSt->Prop} (hk:kindOf st=κ0) (hkey:gIK key) (ha:∀ x ∈ arr.toList,gIK x) (hi:base+i<arr.size) (h:Q (some (qAK left key arr base i)) st) :
  wpS (model prog w) A E s (gbey left key arr base i) Q st:=by
 unfold gbey;have e:arr[base+i]?=some (arr[base+i]'hi):=B8 hi;have hx:gIK (arr[base+i]'hi):=ha _ (by simp)
 unfold qAK at h;rw [e] at h;refine wpS_bind (qB4 e ?_);cases left with
 | true=>exact qGD hk hx hkey h
 | false=>
  refine wpS_bind (qGD hk hkey hx ?_);refine wpS_pure ?_;have:(!decide (gkv key<gkv arr[base+i]))=decide (gkv arr[base+i]<=gkv key):=by
   by_cases q:gkv key<gkv arr[base+i]
   ·rw [decide_eq_true q,decide_eq_false (by omega)];rfl
   ·rw [decide_eq_false q,decide_eq_true (by omega)];rfl
  show Q (some (!decide (gkv key<gkv arr[base+i]))) st;rw [this];exact h
theorem qEY {st:SortSt} {left:Bool} {key:Keyed} {arr:Array Keyed} {base n hint:Nat} {Q:Option Nat->SortSt->Prop} (hk:kindOf st=κ0) (hkey:gIK key) (ha:∀ x ∈ arr.toList,gIK x) (hn:base+n<=arr.size) (hh:hint<n)
  (mono:∀ i j,i<=j->j<n->qAK left key arr base j=true->qAK left key arr base i=true)
  (h:∀ k,k<=n->(∀ i,i<k->qAK left key arr base i=true)->(∀ i,k<=i->i<n->qAK left key arr base i=false)->Q (some k) st) :
  wpS (model prog w) A E s (qUQ left key arr base n hint) Q st:=by
 have mono':∀ i j,i<=j->j<n->qAK left key arr base i=false->qAK left key arr base j=false:=fun i j hij hj e=>by
  cases q:qAK left key arr base j with
  | false=>rfl
  | true=>rw [mono i j hij hj q] at e;cases e
 unfold qUQ;show wpS _ _ _ _ (gbey left key arr base hint >>= _) _ _;refine wpS_bind (qGE hk hkey ha (by omega) ?_)
 dsimp only;cases e:qAK left key arr base hint with
 | true=>
  rw [if_pos rfl];refine wpS_bind (wpS_mono (wpS_forRange (I:=fun x c st'=>st'=st/\∃ l o,c=(none,l,o)/\l<o/\x+1<=o/\hint+l<n/\qAK left key arr base (hint+l)=true)
   (Q:=fun c st'=>st'=st/\∃ l o,c=(none,l,o)/\l<o/\hint+l<n/\qAK left key arr base (hint+l)=true/\(o >= n - hint\/qAK left key arr base (hint+o)=false)) ?step ?fin ⟨rfl,0,1,rfl,by omega,by omega,by omega,e⟩) ?post)
  case fin=>
   rintro c st' ⟨rfl,l,o,rfl,h1,h2,h3,h4⟩;exact ⟨rfl,l,o,rfl,h1,h3,h4,.inl (by omega)⟩
  case step=>
   rintro x c st' _ hx ⟨rfl,l,o,rfl,h1,h2,h3,h4⟩;dsimp only;by_cases hge:o >= n - hint
   ·rw [if_pos hge];exact wpS_pure ⟨rfl,l,o,rfl,h1,h3,h4,.inl hge⟩
   ·rw [if_neg hge];show wpS _ _ _ _ (gbey left key arr base (hint+o) >>= _) _ _;refine wpS_bind (qGE hk hkey ha (by omega) ?_)
    dsimp only;cases e2:qAK left key arr base (hint+o) with
    | false=>
     rw [if_pos (by rfl)]
     exact wpS_pure ⟨rfl,l,o,rfl,h1,h3,h4,.inr e2⟩
    | true=>
     rw [if_neg (by simp)]
     exact wpS_pure ⟨rfl,o,2 * o+1,rfl,by omega,by omega,by omega,e2⟩
  case post=>
   rintro c st' ⟨rfl,l,o,rfl,h1,h3,h4,h5⟩;dsimp only;have hl':∀ i,i<hint+l+1->qAK left key arr base i=true:=fun i hi=>mono i (hint+l) (by omega) h3 h4
   have hr':∀ i,hint+min o (n - hint)<=i->i<n->qAK left key arr base i=false:=fun i hi hin=>by
    rcases h5 with h5 | h5
    ·omega
    ·exact mono' (hint+o) i (by omega) hin h5
   refine wpS_bind (wpS_mono (wpS_forRange (I:=fun x c st''=>st''=st'/\∃ l r,c=(none,l,r)/\l<=r/\r<=n/\r - l<=n - x/\(∀ i,i<l->qAK left key arr base i=true)/\∀ i,r<=i->i<n->qAK left key arr base i=false)
    (Q:=fun c st''=>st''=st'/\∃ l,c=(none,l,l)/\l<=n/\(∀ i,i<l->qAK left key arr base i=true)/\∀ i,l<=i->i<n->qAK left key arr base i=false) ?bstep ?bfin ⟨rfl,hint+l+1,hint+min o (n - hint),rfl,by omega,by omega,by omega,hl',hr'⟩) ?bpost)
   case bfin=>
    rintro c st'' ⟨rfl,l,r,rfl,h1,h2,h3,h4,h5⟩;have:l=r:=by omega
    subst this;exact ⟨rfl,l,rfl,h2,h4,h5⟩
   case bpost=>
    rintro c st'' ⟨rfl,l,rfl,h1,h2,h3⟩;exact wpS_pure (h l h1 h2 h3)
   case bstep=>
    rintro x c st'' _ hx ⟨rfl,l,r,rfl,h1,h2,h3,h4,h5⟩;dsimp only;by_cases hge:l >= r
    ·rw [if_pos hge];have:l=r:=by omega
     subst this;exact wpS_pure ⟨rfl,l,rfl,h2,h4,h5⟩
    ·rw [if_neg hge];show wpS _ _ _ _ (gbey left key arr base (l+(r - l) / 2) >>= _) _ _;refine wpS_bind (qGE hk hkey ha (by omega) ?_)
     dsimp only;cases e9:qAK left key arr base (l+(r - l) / 2) with
     | true=>
      rw [if_pos rfl];exact wpS_pure ⟨rfl,_,_,rfl,by omega,h2,by omega,fun i hi=>mono i _ (by omega) (by omega) e9,h5⟩
     | false=>
      rw [if_neg B0];exact wpS_pure ⟨rfl,_,_,rfl,by omega,by omega,by omega,h4,fun i hi hin=>mono' _ i hi hin e9⟩
 | false=>
  rw [if_neg B0];refine wpS_bind (wpS_mono (wpS_forRange (I:=fun x c st'=>st'=st/\∃ l o,c=(none,l,o)/\l<o/\x+1<=o/\l<=hint/\qAK left key arr base (hint - l)=false)
   (Q:=fun c st'=>st'=st/\∃ l o,c=(none,l,o)/\l<o/\l<=hint/\qAK left key arr base (hint - l)=false/\(o >= hint+1\/qAK left key arr base (hint - o)=true)) ?step ?fin ⟨rfl,0,1,rfl,by omega,by omega,by omega,e⟩) ?post)
  case fin=>
   rintro c st' ⟨rfl,l,o,rfl,h1,h2,h3,h4⟩;exact ⟨rfl,l,o,rfl,h1,h3,h4,.inl (by omega)⟩
  case step=>
   rintro x c st' _ hx ⟨rfl,l,o,rfl,h1,h2,h3,h4⟩;dsimp only;by_cases hge:o >= hint+1
   ·rw [if_pos hge];exact wpS_pure ⟨rfl,l,o,rfl,h1,h3,h4,.inl hge⟩
   ·rw [if_neg hge];show wpS _ _ _ _ (gbey left key arr base (hint - o) >>= _) _ _;refine wpS_bind (qGE hk hkey ha (by omega) ?_)
    dsimp only;cases e2:qAK left key arr base (hint - o) with
    | true=>
     rw [if_pos rfl];exact wpS_pure ⟨rfl,l,o,rfl,h1,h3,h4,.inr e2⟩
    | false=>
     rw [if_neg B0];exact wpS_pure ⟨rfl,o,2 * o+1,rfl,by omega,by omega,by omega,e2⟩
  case post=>
   rintro c st' ⟨rfl,l,o,rfl,h1,h3,h4,h5⟩;dsimp only;have hl':∀ i,i<hint+1 - min o (hint+1)->qAK left key arr base i=true:=fun i hi=>by
    rcases h5 with h5 | h5
    ·omega
    ·exact mono i (hint - o) (by omega) (by omega) h5
   have hr':∀ i,hint - l<=i->i<n->qAK left key arr base i=false:=fun i hi hin=>mono' (hint - l) i hi hin h4;refine wpS_bind (wpS_mono (wpS_forRange (I:=fun x c st''=>st''=st'/\∃ l r,c=(none,l,r)/\l<=r/\r<=n/\r - l<=n - x/\(∀ i,i<l->qAK left key arr base i=true)/\∀ i,r<=i->i<n->qAK left key arr base i=false)
    (Q:=fun c st''=>st''=st'/\∃ l,c=(none,l,l)/\l<=n/\(∀ i,i<l->qAK left key arr base i=true)/\∀ i,l<=i->i<n->qAK left key arr base i=false) ?bstep ?bfin ⟨rfl,hint+1 - min o (hint+1),hint - l,rfl,by omega,by omega,by omega,hl',hr'⟩) ?bpost)
   case bfin=>
    rintro c st'' ⟨rfl,l,r,rfl,h1,h2,h3,h4,h5⟩;have:l=r:=by omega
    subst this;exact ⟨rfl,l,rfl,h2,h4,h5⟩
   case bpost=>
    rintro c st'' ⟨rfl,l,rfl,h1,h2,h3⟩;exact wpS_pure (h l h1 h2 h3)
   case bstep=>
    rintro x c st'' _ hx ⟨rfl,l,r,rfl,h1,h2,h3,h4,h5⟩;dsimp only;by_cases hge:l >= r
    ·rw [if_pos hge];have:l=r:=by omega
     subst this;exact wpS_pure ⟨rfl,l,rfl,h2,h4,h5⟩
    ·rw [if_neg hge];show wpS _ _ _ _ (gbey left key arr base (l+(r - l) / 2) >>= _) _ _;refine wpS_bind (qGE hk hkey ha (by omega) ?_)
     dsimp only;cases e9:qAK left key arr base (l+(r - l) / 2) with
     | true=>
      rw [if_pos rfl];exact wpS_pure ⟨rfl,_,_,rfl,by omega,h2,by omega,fun i hi=>mono i _ (by omega) (by omega) e9,h5⟩
     | false=>
      rw [if_neg B0];exact wpS_pure ⟨rfl,_,_,rfl,by omega,by omega,by omega,h4,fun i hi hin=>mono' _ i hi hin e9⟩
end
end L2.G
namespace L2.G
open PySem PyProof.Rows
variable [NM]
structure gMR (R:Keyed->Keyed->Prop) (all out ra rb:List Keyed):Prop where
 perm:(out++(ra++rb)).Perm all
 up:out.Pairwise R
 ua:ra.Pairwise R
 ub:rb.Pairwise R
 la:∀ x ∈ out,∀ y ∈ ra,R x y
 lb:∀ x ∈ out,∀ y ∈ rb,R x y
section
variable {R:Keyed->Keyed->Prop} {all out ra rb xs:List Keyed}
theorem gMR.symm (h:gMR R all out ra rb):gMR R all out rb ra:=⟨((List.Perm.refl out).append (A00)).trans h.perm,h.up,h.ub,h.ua,h.lb,h.la⟩
theorem gMR.takeA (h:gMR R all out (xs++ra) rb) (c:∀ x ∈ xs,∀ y ∈ rb,R x y):gMR R all (out++xs) ra rb:=by
 have ua:=P6.mp h.ua;refine ⟨?_,P6.mpr ⟨h.up,ua.1,fun x hx y hy=>h.la x hx y (A7.mpr (.inl hy))⟩,ua.2.1,h.ub,fun x hx y hy=>?_,fun x hx y hy=>?_⟩
 ·have e:out++xs++(ra++rb)=out++((xs++ra)++rb):=by simp [G5]
  rw [e];exact h.perm
 ·rcases A7.mp hx with hx | hx
  ·exact h.la x hx y (A7.mpr (.inr hy))
  ·exact ua.2.2 x hx y hy
 ·rcases A7.mp hx with hx | hx
  ·exact h.lb x hx y hy
  ·exact c x hx y hy
theorem gMR.takeB (h:gMR R all out ra (xs++rb)) (c:∀ x ∈ xs,∀ y ∈ ra,R x y):gMR R all (out++xs) ra rb:=(gMR.takeA h.symm c).symm
theorem gMR.allA (h:gMR R all out ra []):(out++ra).Perm all/\(out++ra).Pairwise R:=by
 have h':gMR R all out (ra++[]) []:=by rw [L8];exact h
 have q:=h'.takeA fun _ _ _ z=>nomatch z;exact ⟨by have:=q.perm;simpa using this,q.up⟩
theorem gMR.allB (h:gMR R all out [] rb):(out++rb).Perm all/\(out++rb).Pairwise R:=h.symm.allA
theorem gMR.lastA {z:Keyed} (h:gMR R all out [z] rb) (c:∀ y ∈ rb,R y z):(out++rb++[z]).Perm all/\(out++rb++[z]).Pairwise R:=by
 have h':gMR R all out [z] (rb++[]):=by rw [L8];exact h
 exact (h'.takeB fun x hx y hy=>by rw [A6.mp hy];exact c x hx).allA
end
abbrev grUp (x y:Keyed):Prop:=gkv x<=gkv y
abbrev grDn (x y:Keyed):Prop:=gkv y<=gkv x
def gRes (all r:List Keyed):Prop:=r.Perm all/\r.Pairwise grUp
def gSE (st st':SortSt):Prop:=kindOf st'=kindOf st/\arrOf st'=arrOf st/\pendingOf st'=pendingOf st/\failedOf st'=failedOf st
theorem gSE.refl (st:SortSt):gSE st st:=⟨rfl,rfl,rfl,rfl⟩
def gmLo:Array Keyed->Array Keyed->gSM (Array Keyed):=sortPriv% PySem.Builtin.mergeLo
def gmHi:Array Keyed->Array Keyed->gSM (Array Keyed):=sortPriv% PySem.Builtin.mergeHi
theorem qCU {l:List Keyed} {i:Nat} {x:Keyed} (h:l[i]?=some x):l.drop i=[x]++l.drop (i+1):=by
 obtain ⟨hi,e⟩:=B5.mp h;rw [W5 hi,e]
 rfl
theorem qBO {a:Array Keyed} {i:Nat} (h:i<a.size):∃ x,a[i]?=some x/\a.toList[i]?=some x/\x ∈ a.toList:=⟨a[i],B8 h,by simp [h],by simp⟩
theorem qAS (a:Array Keyed) (i j:Nat):(a.extract i j).toList=(a.toList.drop i).take (j - i):=by simp
theorem qFV {l:List Keyed} {i k:Nat}:l.drop i=(l.drop i).take k++l.drop (i+k):=by
 rw [<- W6,Z9]
theorem qDL {left:Bool} {key:Keyed} {arr:Array Keyed} {base n:Nat} (hn:base+n<=arr.size) (u:(arr.toList.drop base).Pairwise grUp):∀ i j,i<=j->j<n->qAK left key arr base j=true->qAK left key arr base i=true:=by
 intro i j hij hj e;by_cases hij':i=j
 ·subst hij';exact e
 have hj':base+j<arr.size:=by omega
 have hi':base+i<arr.size:=by omega
 have le:gkv arr[base+i]<=gkv arr[base+j]:=by
  have:=M5.mp u i j (by simp;omega) (by simp;omega) (by omega)
  simpa using this
 unfold qAK at e ⊢;rw [B8 hj'] at e;rw [B8 hi'];cases left with
 | true=>
  have e':decide (gkv arr[base+j]<gkv key)=true:=e;show decide (gkv arr[base+i]<gkv key)=true;have:=of_decide_eq_true e';exact decide_eq_true (by omega)
 | false=>
  have e':decide (gkv arr[base+j]<=gkv key)=true:=e;show decide (gkv arr[base+i]<=gkv key)=true;have:=of_decide_eq_true e';exact decide_eq_true (by omega)
theorem qMH {key:Keyed} {arr:Array Keyed} {base n k:Nat} (hk:k<=n) (hn:base+n<=arr.size) (h:∀ i,i<k->qAK true key arr base i=true):∀ x ∈ (arr.toList.drop base).take k,gkv x<gkv key:=by
 intro x hx;obtain ⟨i,hi,rfl⟩:=K0 hx;simp only [C3,E5,C7] at hi;have e:=h i (by omega)
 unfold qAK at e;rw [B8 (show base+i<arr.size by omega)] at e
 have e':decide (gkv arr[base+i]<gkv key)=true:=e;simpa using of_decide_eq_true e'
theorem qMI {key:Keyed} {arr:Array Keyed} {base n k:Nat} (hk:k<=n) (hn:base+n<=arr.size) (h:∀ i,i<k->qAK false key arr base i=true):∀ x ∈ (arr.toList.drop base).take k,gkv x<=gkv key:=by
 intro x hx;obtain ⟨i,hi,rfl⟩:=K0 hx;simp only [C3,E5,C7] at hi;have e:=h i (by omega)
 unfold qAK at e;rw [B8 (show base+i<arr.size by omega)] at e
 have e':decide (gkv arr[base+i]<=gkv key)=true:=e;simpa using of_decide_eq_true e'
theorem qJY {key:Keyed} {arr:Array Keyed} {base n k:Nat} (hn:base+n<=arr.size) (h:∀ i,k<=i->i<n->qAK true key arr base i=false):∀ x ∈ ((arr.toList.drop base).take n).drop k,gkv key<=gkv x:=by
 intro x hx;obtain ⟨i,hi,rfl⟩:=K0 hx;simp only [C3,E5,C7] at hi;have e:=h (k+i) (by omega) (by omega)
 unfold qAK at e;rw [B8 (show base+(k+i)<arr.size by omega)] at e
 have e':decide (gkv arr[base+(k+i)]<gkv key)=false:=e;have:=of_decide_eq_false e';simp only [p7,p6,W3];omega
theorem qJX {key:Keyed} {arr:Array Keyed} {base n k:Nat} (hn:base+n<=arr.size) (h:∀ i,k<=i->i<n->qAK false key arr base i=false):∀ x ∈ ((arr.toList.drop base).take n).drop k,gkv key<gkv x:=by
 intro x hx;obtain ⟨i,hi,rfl⟩:=K0 hx;simp only [C3,E5,C7] at hi;have e:=h (k+i) (by omega) (by omega)
 unfold qAK at e;rw [B8 (show base+(k+i)<arr.size by omega)] at e
 have e':decide (gkv arr[base+(k+i)]<=gkv key)=false:=e;have:=of_decide_eq_false e';simp only [p7,p6,W3];omega
end L2.G
namespace L2.G
open PySem PyProof.Rows
variable [NM]
theorem gifT {prog:Program} {w:World} {A:Around} {E:Value->Shared->Prop} {s:Shared} {α:Type} {c:Prop} [Decidable c] {x y:gSM α} {Q:α->SortSt->Prop} {st:SortSt} (h:c) (k:wpS (model prog w) A E s x Q st):wpS (model prog w) A E s (if c then x else y) Q st:=by rw [if_pos h];exact k
theorem gifF {prog:Program} {w:World} {A:Around} {E:Value->Shared->Prop} {s:Shared} {α:Type} {c:Prop} [Decidable c] {x y:gSM α} {Q:α->SortSt->Prop} {st:SortSt} (h:¬ c) (k:wpS (model prog w) A E s y Q st):wpS (model prog w) A E s (if c then x else y) Q st:=by rw [if_neg h];exact k
theorem gtwo {α:Type} {A:Prop} {M G:α->Prop} (h1:(∀ o,M o->G o)->A) (h2:∀ o,M o->G o):A:=h1 h2
section
variable {prog:Program} {w:World} {A:Around} {E:Value->Shared->Prop} {s:Shared} {κ0:SortKind} [LtOk prog w A s κ0]
theorem gopq {A:Prop} (h:∀ G:Prop,(A->G)->G):A:=h A id
theorem gnm {prog:Program} {w:World} {A:Around} {E:Value->Shared->Prop} {s:Shared} {α:Type} {x:gSM α} {Q:α->SortSt->Prop} {st:SortSt} (h:∀ R:α->SortSt->Prop,(∀ a st,Q a st->R a st)->wpS (model prog w) A E s x R st):wpS (model prog w) A E s x Q st:=h Q fun _ _ z=>z
theorem qUJ {st:SortSt} {a b:Array Keyed} {Q:Array Keyed->SortSt->Prop} (hk:kindOf st=κ0) (ka:∀ x ∈ a.toList,gIK x) (kb:∀ x ∈ b.toList,gIK x) (ua:a.toList.Pairwise grUp) (ub:b.toList.Pairwise grUp) (na:0<a.size) (nb:0<b.size)
  (first:∀ y,b.toList[0]?=some y->∀ x ∈ a.toList,gkv y<=gkv x) (last:∀ z,a.toList[a.size - 1]?=some z->∀ y ∈ b.toList,gkv y<=gkv z)
  (h:∀ r st',gSE st st'->gRes (a.toList++b.toList) r.toList->Q r st'):wpS (model prog w) A E s (gmLo a b) Q st:=by
 have tl:(a.toList++b.toList).length=a.size+b.size:=by simp
 -- ways out
 have outB:∀ (out:Array Keyed) (ia:Nat),gMR grUp (a.toList++b.toList) out.toList (a.toList.drop ia) (b.toList.drop b.size)->gRes (a.toList++b.toList) (out++a.extract ia a.size++b.extract b.size b.size).toList:=by
  intro out ia m;have e:b.toList.drop b.size=[]:=Y7 (by simp)
  rw [e] at m;have q:=m.allA;have e2:(out++a.extract ia a.size++b.extract b.size b.size).toList=out.toList++a.toList.drop ia:=by
   rw [D8,D8,qAS,qAS,e,A96,L8,C2 (by simp)]
  rw [e2];exact q
 have outA:∀ (out:Array Keyed) (ib:Nat),gMR grUp (a.toList++b.toList) out.toList (a.toList.drop a.size) (b.toList.drop ib)->gRes (a.toList++b.toList) (out++a.extract a.size a.size++b.extract ib b.size).toList:=by
  intro out ib m;have e:a.toList.drop a.size=[]:=Y7 (by simp)
  rw [e] at m;have q:=m.allB;have e2:(out++a.extract a.size a.size++b.extract ib b.size).toList=out.toList++b.toList.drop ib:=by
   rw [D8,D8,qAS,qAS,e,A96,L8,C2 (by simp)]
  rw [e2];exact q
 have outL:∀ (out:Array Keyed) (ia ib:Nat),ia+1=a.size->gMR grUp (a.toList++b.toList) out.toList (a.toList.drop ia) (b.toList.drop ib)->gRes (a.toList++b.toList) (out++b.extract ib b.size++a.extract ia a.size).toList:=by
  intro out ia ib hia m;refine gopq fun G_101 hG_101=>?_;obtain ⟨z,_,hz,_⟩:=qBO (a:=a) (i:=ia) (by lia)
  refine hG_101 ?_;have e:a.toList.drop ia=[z]:=by rw [qCU hz,Y7 (by simp;lia)];rfl
  rw [e] at m;have q:=m.lastA fun y hy=>last z (by rw [show a.size - 1=ia by lia];exact hz) y (O5 hy)
  have e2:(out++b.extract ib b.size++a.extract ia a.size).toList=out.toList++b.toList.drop ib++[z]:=by
   rw [D8,D8,qAS,qAS,e,C2 (by simp),C2 (by simp;lia)]
  rw [e2];exact q
 -- the first of b
 refine gopq fun G_102 hG_102=>?_;obtain ⟨y0,hy0,hy0',_⟩:=qBO (a:=b) (i:=0) nb;refine hG_102 ?_;have m0:gMR grUp (a.toList++b.toList) #[y0].toList (a.toList.drop 0) (b.toList.drop 1):=by
  have m:gMR grUp (a.toList++b.toList) [] a.toList ([y0]++b.toList.drop 1):=by
   rw [<- qCU hy0'];exact ⟨.refl _,.nil,ua,ub,(fun _ z=>nomatch z),(fun _ z=>nomatch z)⟩
  exact m.takeB fun x hx y hy=>by rw [A6.mp hx];exact first y0 hy0' y hy
 -- a step of b,a step of a
 have stepB:∀ {out:Array Keyed} {ia ib:Nat} {y:Keyed},gMR grUp (a.toList++b.toList) out.toList (a.toList.drop ia) (b.toList.drop ib)->b.toList[ib]?=some y->(∀ x ∈ a.toList.drop ia,gkv y<=gkv x)->gMR grUp (a.toList++b.toList) (out.push y).toList (a.toList.drop ia) (b.toList.drop (ib+1)):=by
  intro out ia ib y m hy c;rw [qCU hy] at m;rw [U1];exact m.takeB fun x hx z hz=>by rw [A6.mp hx];exact c z hz
 have stepA:∀ {out:Array Keyed} {ia ib:Nat} {x:Keyed},gMR grUp (a.toList++b.toList) out.toList (a.toList.drop ia) (b.toList.drop ib)->a.toList[ia]?=some x->(∀ y ∈ b.toList.drop ib,gkv x<=gkv y)->gMR grUp (a.toList++b.toList) (out.push x).toList (a.toList.drop (ia+1)) (b.toList.drop ib):=by
  intro out ia ib x m hx c;rw [qCU hx] at m;rw [U1];exact m.takeA fun z hz y hy=>by rw [A6.mp hz];exact c y hy
 have least:∀ {l:List Keyed} {i:Nat} {x:Keyed},l.Pairwise grUp->l[i]?=some x->∀ y ∈ l.drop i,gkv x<=gkv y:=by
  intro l i x u hx y hy;have u':=u.sublist (V9 i l);rw [qCU hx] at u' hy;rcases A7.mp hy with hy | hy
  ·rw [A6.mp hy];exact L6 _
  ·exact (P6.mp u').2.2 x (by simp) y hy
 have room:∀ {out:Array Keyed} {ia ib:Nat},gMR grUp (a.toList++b.toList) out.toList (a.toList.drop ia) (b.toList.drop ib)->ia<a.size->ib<b.size->ia+ib<a.size+b.size:=fun _ _ _=>by lia
 unfold gmLo;show wpS _ _ _ _ (liftM (rule "list.sort.merge-lo") >>= _) _ _;refine wpS_bind (wpS_lift (wpAny_rule ⟨rfl,?_⟩));refine wpS_bind (qB4 hy0 ?_);dsimp only;by_cases hb1:b.size=1
 ·refine gifT (by simp [hb1]) ?_
  refine wpS_pure (h _ _ (.refl st) ?_);have:=outB #[y0] 0 (by rw [hb1];exact m0)
  rw [hb1] at this ⊢;exact this
 refine gifF (by simp;lia) ?_
 by_cases ha1:a.size=1
 ·refine gifT (by simp [ha1]) ?_
  exact wpS_pure (h _ _ (.refl st) (outL #[y0] 0 1 (by lia) m0))
 refine gifF (by simp;lia) ?_
 refine wpS_bind (wpS_get ?_);refine wpS_bind (wpS_mono (wpS_forRange
  (I:=fun x c st'=>gSE st st'/\∃ (out:Array Keyed) (ia ib mg:Nat),c=(none,out,ia,ib,mg)/\gMR grUp (a.toList++b.toList) out.toList (a.toList.drop ia) (b.toList.drop ib)/\ia+1<a.size/\ib<b.size/\x+1<=ia+ib)
  (Q:=fun c st'=>gSE st st'/\∃ r rest,c=(some r,rest)/\gRes (a.toList++b.toList) r.toList) ?ostep ?ofin ⟨.refl st,_,0,1,_,rfl,m0,by lia,by lia,by lia⟩) ?opost)
 case opost=>
  refine fun c st' hI_103=>gopq fun G_103 hG_103=>?_;obtain ⟨se,r,rest,rfl,hr⟩:=hI_103;refine hG_103 ?_;exact wpS_pure (h r st' se hr)
 case ofin=>
  refine fun c st' hI_104=>gopq fun G_104 hG_104=>?_;obtain ⟨se,out,ia,ib,mg,rfl,m,h1,h2,h3⟩:=hI_104;refine hG_104 ?_
  lia
 case ostep=>
  refine fun x c st1 _ hx hI_105=>gopq fun G_105 hG_105=>?_;obtain ⟨se,out,ia,ib,mg,rfl,m,h1,h2,h3⟩:=hI_105;refine hG_105 ?_;dsimp only;refine wpS_bind (wpS_mono (wpS_forRange
   (I:=fun y c st'=>gSE st st'/\∃ (out:Array Keyed) (ia' ib' ac bc:Nat),c=(none,out,ia',ib',ac,bc)/\gMR grUp (a.toList++b.toList) out.toList (a.toList.drop ia') (b.toList.drop ib')/\ia'+1<a.size/\ib'<b.size/\ia+ib+y<=ia'+ib')
   (Q:=fun c st'=>gSE st st'/\((∃ r rest,c=(some r,rest)/\gRes (a.toList++b.toList) r.toList)\/∃ (out:Array Keyed) (ia' ib' ac bc:Nat),c=(none,out,ia',ib',ac,bc)/\gMR grUp (a.toList++b.toList) out.toList (a.toList.drop ia') (b.toList.drop ib')/\ia'+1<a.size/\ib'<b.size/\ia+ib+1<=ia'+ib')) ?istep ?ifin ⟨se,out,ia,ib,0,0,rfl,m,h1,h2,by lia⟩) ?ipost)
  case ifin=>
   refine fun c st' hI_106=>gopq fun G_106 hG_106=>?_;obtain ⟨se,out,ia',ib',ac,bc,rfl,m,g1,g2,g3⟩:=hI_106;refine hG_106 ?_
   lia
  case istep=>
   refine fun y c st' _ hy hI_107=>gopq fun G_107 hG_107=>?_;obtain ⟨se,out,ia',ib',ac,bc,rfl,m,g1,g2,g3⟩:=hI_107;refine hG_107 ?_;dsimp only;refine gnm fun R hR=>?_;refine gopq fun G_108 hG_108=>?_;obtain ⟨yb,e1,e1',mb⟩:=qBO (a:=b) (i:=ib') g2;refine hG_108 ?_;refine gopq fun G_109 hG_109=>?_;obtain ⟨xa,e2,e2',ma⟩:=qBO (a:=a) (i:=ia') (by lia)
   refine hG_109 ?_;have hk':kindOf st'=κ0:=se.1.trans hk;refine wpS_bind (qB4 e1 (wpS_bind (qB4 e2 (wpS_bind (qGD hk' (kb _ mb) (ka _ ma) ?_)))));dsimp only;by_cases hw:gkv yb<gkv xa
   ·rw [decide_eq_true hw,if_pos rfl];refine wpS_bind (qB4 e1 ?_);have m':=stepB m e1' fun x hx=>by have:=least ua e2' x hx;lia
    by_cases hbe:ib'+1=b.size
    ·refine gifT (by simp [hbe]) ?_
     refine wpS_pure (hR _ _ ⟨se,.inl ⟨_,_,rfl,?_⟩⟩);rw [hbe] at m' ⊢;exact outB _ _ m'
    ·refine gifF (by simp;exact hbe) ?_
     split
     ·exact wpS_pure (hR _ _ ⟨se,.inr ⟨_,_,_,_,_,rfl,m',g1,by lia,by lia⟩⟩)
     ·exact wpS_pure (hR _ _ ⟨se,_,_,_,_,_,rfl,m',g1,by lia,by lia⟩)
   ·rw [decide_eq_false hw,if_neg B0];refine wpS_bind (qB4 e2 ?_);have m':=stepA m e2' fun y hy=>by have:=least ub e1' y hy;lia
    by_cases hae:ia'+1+1=a.size
    ·refine gifT (by simp [hae]) ?_
     exact wpS_pure (hR _ _ ⟨se,.inl ⟨_,_,rfl,outL _ _ _ hae m'⟩⟩)
    ·refine gifF (by simp;exact hae) ?_
     split
     ·exact wpS_pure (hR _ _ ⟨se,.inr ⟨_,_,_,_,_,rfl,m',by lia,g2,by lia⟩⟩)
     ·exact wpS_pure (hR _ _ ⟨se,_,_,_,_,_,rfl,m',by lia,g2,by lia⟩)
  case ipost=>
   rintro c st2 ⟨se,⟨r,rest,rfl,hr⟩ | ⟨out,ia1,ib1,ac,bc,rfl,m,g1,g2,g3⟩⟩
   ·exact wpS_pure ⟨se,r,_,rfl,hr⟩
   dsimp only;refine wpS_bind (wpS_lift (wpAny_rule ⟨rfl,?_⟩));refine wpS_bind (wpS_mono (wpS_forRange
    (I:=fun y c st'=>gSE st st'/\∃ (out:Array Keyed) (ia' ib' mg ac bc:Nat),c=(none,out,ia',ib',mg,ac,bc)/\gMR grUp (a.toList++b.toList) out.toList (a.toList.drop ia') (b.toList.drop ib')/\ia'+1<a.size/\ib'<b.size/\ia1+ib1+y<=ia'+ib')
    (Q:=fun c st'=>gSE st st'/\((∃ r rest,c=(some r,rest)/\gRes (a.toList++b.toList) r.toList)\/∃ (out:Array Keyed) (ia' ib' mg ac bc:Nat),c=(none,out,ia',ib',mg,ac,bc)/\gMR grUp (a.toList++b.toList) out.toList (a.toList.drop ia') (b.toList.drop ib')/\ia'+1<a.size/\ib'<b.size/\ia1+ib1<=ia'+ib')) ?gstep ?gfin ⟨se,out,ia1,ib1,_,ac,bc,rfl,m,g1,g2,by lia⟩) ?gpost)
   case gfin=>
    refine fun c st' hI_110=>gopq fun G_110 hG_110=>?_;obtain ⟨se,out,ia',ib',mg,ac,bc,rfl,m,q1,q2,q3⟩:=hI_110;refine hG_110 ?_
    lia
   case gpost=>
    rintro c st3 ⟨se,⟨r,rest,rfl,hr⟩ | ⟨out,ia',ib',mg,ac,bc,rfl,m,q1,q2,q3⟩⟩
    ·exact wpS_pure ⟨se,r,_,rfl,hr⟩
    dsimp only;refine wpS_bind (wpS_modify (wpS_pure ?_));exact ⟨⟨se.1,se.2.1,se.2.2.1,se.2.2.2⟩,out,ia',ib',_,rfl,m,q1,q2,by lia⟩
   case gstep=>
    refine fun y c st0 _ hy hI_111=>gopq fun G_111 hG_111=>?_;obtain ⟨se,out,ia',ib',mg,ac,bc,rfl,m,q1,q2,q3⟩:=hI_111;refine hG_111 ?_;dsimp only;refine gnm fun R hR=>?_;refine gopq fun G_112 hG_112=>?_;obtain ⟨yb,e1,e1',mb⟩:=qBO (a:=b) (i:=ib') q2;refine hG_112 ?_;have hm:b.toList.drop ib'=[yb]++b.toList.drop (ib'+1):=qCU e1';apply gtwo (α:=Nat) (M:=fun _=>True)
    ·intro J;by_cases hmg:mg > 1
     ·refine gifT hmg ?_;refine wpS_bind (wpS_modify ?_);generalize mg - 1=n;exact J n trivial
     ·refine gifF hmg ?_;refine wpS_bind (wpS_modify ?_);generalize mg=n;exact J n trivial
    ·intro n _;have se':gSE st st0:=se;refine wpS_bind (qB4 e1 ?_);refine wpS_bind (qEY (left:=false) (n:=a.size - ia') (hint:=0) (se.1.trans hk) (kb _ mb) ka (by lia) (by lia) (qDL (by lia) (ua.sublist (V9 _ _))) fun k k1 k2 k3=>?_)
     dsimp only;have gt1:∀ x ∈ a.toList.drop (ia'+k),gkv yb<=gkv x:=fun x hx=>by
      have q:=qJX (base:=ia') (n:=a.size - ia') (by lia) k3 x
      rw [C2 (by simp),W6] at q
      exact k9 (q hx)
     apply gtwo (α:=Array Keyed) (M:=fun o=>gMR grUp (a.toList++b.toList) o.toList (a.toList.drop (ia'+k)) (b.toList.drop ib')/\ia'+k+1<a.size)
     ·intro J;by_cases k0:k > 0
      ·refine gifT k0 ?_;have mk:gMR grUp (a.toList++b.toList) (out++a.extract ia' (ia'+k)).toList (a.toList.drop (ia'+k)) (b.toList.drop ib'):=by
        rw [D8,qAS,show ia'+k - ia'=k by lia]
        rw [qFV (l:=a.toList) (i:=ia') (k:=k)] at m;exact m.takeA fun x hx z hz=>by
         have q1:=qMI k1 (by lia) k2 x hx
         have q2:=least ub e1' z hz;show gkv x<=gkv z
         lia
       by_cases c1:ia'+k+1=a.size
       ·refine gifT (by simp [c1]) ?_
        exact wpS_pure (hR _ _ ⟨se',.inl ⟨_,_,rfl,outL _ _ _ c1 mk⟩⟩)
       refine gifF (by simp;exact c1) ?_
       by_cases c2:ia'+k=a.size
       ·refine gifT (by simp [c2]) ?_
        refine wpS_pure (hR _ _ ⟨se',.inl ⟨_,_,rfl,?_⟩⟩);rw [c2] at mk ⊢;exact outA _ _ mk
       refine gifF (by simp;exact c2) ?_
       generalize out++a.extract ia' (ia'+k)=o at mk ⊢;exact J o ⟨mk,by lia⟩
      ·refine gifF k0 ?_;have k00:k=0:=by lia
       subst k00;exact J out ⟨m,by lia⟩
     ·rintro o ⟨mk,kp⟩;refine wpS_bind (qB4 e1 ?_);have m1:=stepB mk e1' gt1;by_cases hbe:ib'+1=b.size
      ·refine gifT (by simp [hbe]) ?_
       refine wpS_pure (hR _ _ ⟨se',.inl ⟨_,_,rfl,?_⟩⟩);rw [hbe] at m1 ⊢;exact outB _ _ m1
      refine gifF (by simp;exact hbe) ?_
      refine gopq fun G_113 hG_113=>?_;obtain ⟨xa,e2,e2',ma⟩:=qBO (a:=a) (i:=ia'+k) (by lia)
      refine hG_113 ?_;refine wpS_bind (qB4 e2 ?_);refine wpS_bind (qEY (left:=true) (n:=b.size - (ib'+1)) (hint:=0) (se.1.trans hk) (ka _ ma) kb (by lia) (by lia) (qDL (by lia) (ub.sublist (V9 _ _))) fun k' j1 j2 j3=>?_)
      dsimp only;have ge2:∀ y ∈ b.toList.drop (ib'+1+k'),gkv xa<=gkv y:=fun y hy=>by
       have q:=qJY (base:=ib'+1) (n:=b.size - (ib'+1)) (by lia) j3 y
       rw [C2 (by simp),W6] at q
       exact q hy
      generalize o.push yb=o1 at m1 ⊢;apply gtwo (α:=Array Keyed) (M:=fun o=>gMR grUp (a.toList++b.toList) o.toList (a.toList.drop (ia'+k)) (b.toList.drop (ib'+1+k'))/\ib'+1+k'<b.size)
      ·intro J;by_cases k0':k' > 0
       ·rw [if_pos k0'];have m2:gMR grUp (a.toList++b.toList) (o1++b.extract (ib'+1) (ib'+1+k')).toList (a.toList.drop (ia'+k)) (b.toList.drop (ib'+1+k')):=by
         rw [D8,qAS,show ib'+1+k' - (ib'+1)=k' by lia]
         rw [qFV (l:=b.toList) (i:=ib'+1) (k:=k')] at m1;exact m1.takeB fun x hx z hz=>by
          have q1:=qMH j1 (by lia) j2 x hx
          have q2:=least ua e2' z hz;show gkv x<=gkv z
          lia
        by_cases hb2:ib'+1+k'=b.size
        ·refine gifT (by simp [hb2]) ?_
         refine wpS_pure (hR _ _ ⟨se',.inl ⟨_,_,rfl,?_⟩⟩);rw [hb2] at m2 ⊢;exact outB _ _ m2
        refine gifF (by simp;exact hb2) ?_
        generalize o1++b.extract (ib'+1) (ib'+1+k')=o2 at m2 ⊢;exact J o2 ⟨m2,by lia⟩
       ·rw [if_neg k0'];have k0'':k'=0:=by lia
        subst k0'';exact J o1 ⟨m1,by lia⟩
      ·rintro o2 ⟨m2,kp'⟩;refine wpS_bind (qB4 e2 ?_);have m3:=stepA m2 e2' ge2;by_cases hae:ia'+k+1+1=a.size
       ·refine gifT (by simp [hae]) ?_
        exact wpS_pure (hR _ _ ⟨se',.inl ⟨_,_,rfl,outL _ _ _ hae m3⟩⟩)
       refine gifF (by simp;exact hae) ?_
       split
       ·exact wpS_pure (hR _ _ ⟨se',.inr ⟨_,_,_,_,_,_,rfl,m3,by lia,by lia,by lia⟩⟩)
       ·exact wpS_pure (hR _ _ ⟨se',_,_,_,_,_,_,rfl,m3,by lia,by lia,by lia⟩)
end
end L2.G
namespace L2.G
open PySem PyProof.Rows
variable [NM]
theorem qCW {l:List Keyed} {i:Nat} {x:Keyed} (h0:0<i) (h:l[i - 1]?=some x):(l.take i).reverse=[x]++(l.take (i - 1)).reverse:=by
 obtain ⟨j,rfl⟩:∃ j,i=j+1:=⟨i - 1,by lia⟩
 have h':l[j]?=some x:=h;rw [D7,h',D5,Q4]
 rfl
theorem qIM {l:List Keyed} {i j:Nat} (h:i<=j):(l.take j).reverse=((l.drop i).take (j - i)).reverse++(l.take i).reverse:=by
 rw [<- Q4];congr 1;have e:=A97 (l:=l) (i:=i) (j:=j - i);rw [show i+(j - i)=j by lia] at e
 exact e
section
variable {prog:Program} {w:World} {A:Around} {E:Value->Shared->Prop} {s:Shared} {κ0:SortKind} [LtOk prog w A s κ0]
theorem qUK {st:SortSt} {a b:Array Keyed} {Q:Array Keyed->SortSt->Prop} (hk:kindOf st=κ0) (ka:∀ x ∈ a.toList,gIK x) (kb:∀ x ∈ b.toList,gIK x) (ua:a.toList.Pairwise grUp) (ub:b.toList.Pairwise grUp) (na:0<a.size) (nb:0<b.size)
  (first:∀ y,b.toList[0]?=some y->∀ x ∈ a.toList,gkv y<=gkv x) (last:∀ z,a.toList[a.size - 1]?=some z->∀ y ∈ b.toList,gkv y<=gkv z)
  (h:∀ r st',gSE st st'->gRes (a.toList++b.toList) r.toList->Q r st'):wpS (model prog w) A E s (gmHi a b) Q st:=by
 have back:∀ {l:List Keyed},l.Perm (a.toList++b.toList)/\l.Pairwise grDn->gRes (a.toList++b.toList) l.reverse:=fun {l} q=>⟨(p8 l).trans q.1,V4.mpr q.2⟩;have outA:∀ (out:Array Keyed) (nb':Nat),gMR grDn (a.toList++b.toList) out.toList (a.toList.take 0).reverse (b.toList.take nb').reverse->gRes (a.toList++b.toList) (a.extract 0 0++b.extract 0 nb'++out.reverse).toList:=by
  intro out nb' m;have q:=back (gMR.allB m);have e2:(a.extract 0 0++b.extract 0 nb'++out.reverse).toList=(out.toList++(b.toList.take nb').reverse).reverse:=by
   rw [D8,D8,qAS,qAS,R5,Q4,A10];simp
  rw [e2];exact q
 have outB:∀ (out:Array Keyed) (na':Nat),gMR grDn (a.toList++b.toList) out.toList (a.toList.take na').reverse (b.toList.take 0).reverse->gRes (a.toList++b.toList) (a.extract 0 na'++b.extract 0 0++out.reverse).toList:=by
  intro out na' m;have q:=back (gMR.allA m);have e2:(a.extract 0 na'++b.extract 0 0++out.reverse).toList=(out.toList++(a.toList.take na').reverse).reverse:=by
   rw [D8,D8,qAS,qAS,R5,Q4,A10];simp
  rw [e2];exact q
 refine gopq fun G_101 hG_101=>?_;obtain ⟨y0,hy0,hy0',_⟩:=qBO (a:=b) (i:=0) nb;refine hG_101 ?_;have outF:∀ (out:Array Keyed) (na':Nat),gMR grDn (a.toList++b.toList) out.toList (a.toList.take na').reverse (b.toList.take 1).reverse->gRes (a.toList++b.toList) (b.extract 0 1++a.extract 0 na'++out.reverse).toList:=by
  intro out na' m;have e:(b.toList.take 1).reverse=[y0]:=by rw [qCW (by decide) hy0'];simp
  rw [e] at m;have q:=back (m.symm.lastA fun y hy=>first y0 hy0' y (L5 (a9.mp hy)));have e1:b.toList.take 1=[y0]:=by have:=congrArg List.reverse e;simpa using this
  have e2:(b.extract 0 1++a.extract 0 na'++out.reverse).toList=(out.toList++(a.toList.take na').reverse++[y0]).reverse:=by
   rw [D8,D8,qAS,qAS,R5];simp only [W7,A01,e1];simp
  rw [e2];exact q
 refine gopq fun G_102 hG_102=>?_;obtain ⟨z0,hz0,hz0',_⟩:=qBO (a:=a) (i:=a.size - 1) (by lia)
 refine hG_102 ?_;have m0:gMR grDn (a.toList++b.toList) #[z0].toList (a.toList.take (a.size - 1)).reverse (b.toList.take b.size).reverse:=by
  have m:gMR grDn (a.toList++b.toList) [] ([z0]++(a.toList.take (a.size - 1)).reverse) (b.toList.take b.size).reverse:=by
   rw [<- qCW na hz0',C2 (by simp),C2 (by simp)]
   refine ⟨?_,.nil,V4.mpr ua,V4.mpr ub,(fun _ z=>nomatch z),(fun _ z=>nomatch z)⟩;exact (p8 _).append (p8 _)
  exact m.takeA fun x hx y hy=>by rw [A6.mp hx];exact last z0 hz0' y (L5 (a9.mp hy))
 have stepB:∀ {out:Array Keyed} {na' nb':Nat} {y:Keyed},gMR grDn (a.toList++b.toList) out.toList (a.toList.take na').reverse (b.toList.take nb').reverse->0<nb'->b.toList[nb' - 1]?=some y->(∀ x ∈ (a.toList.take na').reverse,gkv x<=gkv y)->gMR grDn (a.toList++b.toList) (out.push y).toList (a.toList.take na').reverse (b.toList.take (nb' - 1)).reverse:=by
  intro out na' nb' y m h0 hy c;rw [qCW h0 hy] at m;rw [U1];exact m.takeB fun x hx z hz=>by rw [A6.mp hx];exact c z hz
 have stepA:∀ {out:Array Keyed} {na' nb':Nat} {x:Keyed},gMR grDn (a.toList++b.toList) out.toList (a.toList.take na').reverse (b.toList.take nb').reverse->0<na'->a.toList[na' - 1]?=some x->(∀ y ∈ (b.toList.take nb').reverse,gkv y<=gkv x)->gMR grDn (a.toList++b.toList) (out.push x).toList (a.toList.take (na' - 1)).reverse (b.toList.take nb').reverse:=by
  intro out na' nb' x m h0 hx c;rw [qCW h0 hx] at m;rw [U1];exact m.takeA fun z hz y hy=>by rw [A6.mp hz];exact c y hy
 have most:∀ {l:List Keyed} {i:Nat} {x:Keyed},l.Pairwise grUp->0<i->l[i - 1]?=some x->∀ y ∈ (l.take i).reverse,gkv y<=gkv x:=by
  intro l i x u h0 hx y hy;have u':((l.take i).reverse).Pairwise grDn:=V4.mpr (u.sublist (Z1 i l));rw [qCW h0 hx] at u' hy;rcases A7.mp hy with hy | hy
  ·rw [A6.mp hy];exact L6 _
  ·exact (P6.mp u').2.2 x (by simp) y hy
 unfold gmHi;show wpS _ _ _ _ (liftM (rule "list.sort.merge-hi") >>= _) _ _;refine wpS_bind (wpS_lift (wpAny_rule ⟨rfl,?_⟩));refine wpS_bind (qB4 hz0 ?_);dsimp only;by_cases ha1:a.size - 1=0
 ·refine gifT (by simp [ha1]) ?_
  refine wpS_pure (h _ _ (.refl st) ?_);rw [ha1] at m0 ⊢;exact outA _ _ m0
 refine gifF (by simp;lia) ?_
 by_cases hb1:b.size=1
 ·refine gifT (by simp [hb1]) ?_
  refine wpS_pure (h _ _ (.refl st) ?_);rw [hb1] at m0 ⊢;exact outF _ _ m0
 refine gifF (by simp;lia) ?_
 refine wpS_bind (wpS_get ?_);refine wpS_bind (wpS_mono (wpS_forRange
  (I:=fun x c st'=>gSE st st'/\∃ (na' nb':Nat) (out:Array Keyed) (mg:Nat),c=(none,na',nb',out,mg)/\gMR grDn (a.toList++b.toList) out.toList (a.toList.take na').reverse (b.toList.take nb').reverse/\(0<na'/\na'<=a.size)/\(1<nb'/\nb'<=b.size)/\na'+nb'+x+1<=a.size+b.size)
  (Q:=fun c st'=>gSE st st'/\∃ r rest,c=(some r,rest)/\gRes (a.toList++b.toList) r.toList) ?ostep ?ofin ⟨.refl st,_,_,_,_,rfl,m0,by lia,by lia,by lia⟩) ?opost)
 case opost=>
  refine fun c st' hI_103=>gopq fun G_103 hG_103=>?_;obtain ⟨se,r,rest,rfl,hr⟩:=hI_103;refine hG_103 ?_;exact wpS_pure (h r st' se hr)
 case ofin=>
  refine fun c st' hI_104=>gopq fun G_104 hG_104=>?_;obtain ⟨se,na',nb',out,mg,rfl,m,h1,h2,h3⟩:=hI_104;refine hG_104 ?_
  lia
 case ostep=>
  refine fun x c st1 _ hx hI_105=>gopq fun G_105 hG_105=>?_;obtain ⟨se,na1,nb1,out,mg,rfl,m,h1,h2,h3⟩:=hI_105;refine hG_105 ?_;dsimp only;refine wpS_bind (wpS_mono (wpS_forRange
   (I:=fun y c st'=>gSE st st'/\∃ (na' nb':Nat) (out:Array Keyed) (ac bc:Nat),c=(none,na',nb',out,ac,bc)/\gMR grDn (a.toList++b.toList) out.toList (a.toList.take na').reverse (b.toList.take nb').reverse/\(0<na'/\na'<=a.size)/\(1<nb'/\nb'<=b.size)/\na'+nb'+y<=na1+nb1)
   (Q:=fun c st'=>gSE st st'/\((∃ r rest,c=(some r,rest)/\gRes (a.toList++b.toList) r.toList)\/∃ (na' nb':Nat) (out:Array Keyed) (ac bc:Nat),c=(none,na',nb',out,ac,bc)/\gMR grDn (a.toList++b.toList) out.toList (a.toList.take na').reverse (b.toList.take nb').reverse/\(0<na'/\na'<=a.size)/\(1<nb'/\nb'<=b.size)/\na'+nb'+1<=na1+nb1)) ?istep ?ifin ⟨se,na1,nb1,out,0,0,rfl,m,h1,h2,by lia⟩) ?ipost)
  case ifin=>
   refine fun c st' hI_106=>gopq fun G_106 hG_106=>?_;obtain ⟨se,na',nb',out,ac,bc,rfl,m,g1,g2,g3⟩:=hI_106;refine hG_106 ?_
   lia
  case istep=>
   refine fun y c st' _ hy hI_107=>gopq fun G_107 hG_107=>?_;obtain ⟨se,na',nb',out,ac,bc,rfl,m,g1,g2,g3⟩:=hI_107;refine hG_107 ?_;dsimp only;refine gnm fun R hR=>?_;refine gopq fun G_108 hG_108=>?_;obtain ⟨yb,e1,e1',mb⟩:=qBO (a:=b) (i:=nb' - 1) (by lia)
   refine hG_108 ?_;refine gopq fun G_109 hG_109=>?_;obtain ⟨xa,e2,e2',ma⟩:=qBO (a:=a) (i:=na' - 1) (by lia)
   refine hG_109 ?_;have hk':kindOf st'=κ0:=se.1.trans hk;refine wpS_bind (qB4 e1 (wpS_bind (qB4 e2 (wpS_bind (qGD hk' (kb _ mb) (ka _ ma) ?_)))));dsimp only;by_cases hw:gkv yb<gkv xa
   ·rw [decide_eq_true hw,if_pos rfl];refine wpS_bind (qB4 e2 ?_);have m':=stepA m (by lia) e2' fun z hz=>by have:=most ub (by lia) e1' z hz;lia
    by_cases hae:na' - 1=0
    ·refine gifT (by simp [hae]) ?_
     refine wpS_pure (hR _ _ ⟨se,.inl ⟨_,_,rfl,?_⟩⟩);rw [hae] at m' ⊢;exact outA _ _ m'
    ·refine gifF (by simp;lia) ?_
     split
     ·exact wpS_pure (hR _ _ ⟨se,.inr ⟨_,_,_,_,_,rfl,m',by lia,by lia,by lia⟩⟩)
     ·exact wpS_pure (hR _ _ ⟨se,_,_,_,_,_,rfl,m',by lia,by lia,by lia⟩)
   ·rw [decide_eq_false hw,if_neg B0];refine wpS_bind (qB4 e1 ?_);have m':=stepB m (by lia) e1' fun z hz=>by have:=most ua (by lia) e2' z hz;lia
    by_cases hbe:nb' - 1=1
    ·refine gifT (by simp [hbe]) ?_
     refine wpS_pure (hR _ _ ⟨se,.inl ⟨_,_,rfl,?_⟩⟩);rw [hbe] at m' ⊢;exact outF _ _ m'
    ·refine gifF (by simp;lia) ?_
     split
     ·exact wpS_pure (hR _ _ ⟨se,.inr ⟨_,_,_,_,_,rfl,m',by lia,by lia,by lia⟩⟩)
     ·exact wpS_pure (hR _ _ ⟨se,_,_,_,_,_,rfl,m',by lia,by lia,by lia⟩)
  case ipost=>
   rintro c st2 ⟨se,⟨r,rest,rfl,hr⟩ | ⟨na2,nb2,out,ac,bc,rfl,m,g1,g2,g3⟩⟩
   ·exact wpS_pure ⟨se,r,_,rfl,hr⟩
   dsimp only;refine wpS_bind (wpS_lift (wpAny_rule ⟨rfl,?_⟩));refine wpS_bind (wpS_mono (wpS_forRange
    (I:=fun y c st'=>gSE st st'/\∃ (na' nb':Nat) (out:Array Keyed) (mg ac bc:Nat),c=(none,na',nb',out,mg,ac,bc)/\gMR grDn (a.toList++b.toList) out.toList (a.toList.take na').reverse (b.toList.take nb').reverse/\(0<na'/\na'<=a.size)/\(1<nb'/\nb'<=b.size)/\na'+nb'+y<=na2+nb2)
    (Q:=fun c st'=>gSE st st'/\((∃ r rest,c=(some r,rest)/\gRes (a.toList++b.toList) r.toList)\/∃ (na' nb':Nat) (out:Array Keyed) (mg ac bc:Nat),c=(none,na',nb',out,mg,ac,bc)/\gMR grDn (a.toList++b.toList) out.toList (a.toList.take na').reverse (b.toList.take nb').reverse/\(0<na'/\na'<=a.size)/\(1<nb'/\nb'<=b.size)/\na'+nb'<=na2+nb2)) ?gstep ?gfin ⟨se,na2,nb2,out,_,ac,bc,rfl,m,g1,g2,by lia⟩) ?gpost)
   case gfin=>
    refine fun c st' hI_110=>gopq fun G_110 hG_110=>?_;obtain ⟨se,na',nb',out,mg,ac,bc,rfl,m,q1,q2,q3⟩:=hI_110;refine hG_110 ?_
    lia
   case gpost=>
    rintro c st3 ⟨se,⟨r,rest,rfl,hr⟩ | ⟨na',nb',out,mg,ac,bc,rfl,m,q1,q2,q3⟩⟩
    ·exact wpS_pure ⟨se,r,_,rfl,hr⟩
    dsimp only;refine wpS_bind (wpS_modify (wpS_pure ?_));exact ⟨⟨se.1,se.2.1,se.2.2.1,se.2.2.2⟩,na',nb',out,_,rfl,m,q1,q2,by lia⟩
   case gstep=>
    refine fun y c st0 _ hy hI_111=>gopq fun G_111 hG_111=>?_;obtain ⟨se,na',nb',out,mg,ac,bc,rfl,m,q1,q2,q3⟩:=hI_111;refine hG_111 ?_;dsimp only;refine gnm fun R hR=>?_;refine gopq fun G_112 hG_112=>?_;obtain ⟨yb,e1,e1',mb⟩:=qBO (a:=b) (i:=nb' - 1) (by lia)
    refine hG_112 ?_;apply gtwo (α:=Nat) (M:=fun _=>True)
    ·intro J;by_cases hmg:mg > 1
     ·refine gifT hmg ?_;refine wpS_bind (wpS_modify ?_);generalize mg - 1=n;exact J n trivial
     ·refine gifF hmg ?_;refine wpS_bind (wpS_modify ?_);generalize mg=n;exact J n trivial
    ·intro n _;have se':gSE st st0:=se;refine wpS_bind (qB4 e1 ?_);refine wpS_bind (qEY (left:=false) (base:=0) (n:=na') (hint:=na' - 1) (se.1.trans hk) (kb _ mb) ka (by lia) (by lia) (qDL (by lia) ua) fun k k1 k2 k3=>?_)
     dsimp only;have le1:∀ x ∈ (a.toList.take k).reverse,gkv x<=gkv yb:=fun x hx=>qMI (base:=0) k1 (by lia) k2 x (by simpa using hx)
     apply gtwo (α:=Array Keyed) (M:=fun o=>gMR grDn (a.toList++b.toList) o.toList (a.toList.take k).reverse (b.toList.take nb').reverse/\0<k)
     ·intro J;by_cases k0:na' - k > 0
      ·refine gifT k0 ?_;have mk:gMR grDn (a.toList++b.toList) (out++(a.extract k na').reverse).toList (a.toList.take k).reverse (b.toList.take nb').reverse:=by
        rw [D8,R5,qAS];rw [qIM (l:=a.toList) (i:=k) (j:=na') (by lia)] at m
        exact m.takeA fun x hx z hz=>by
         have q1:=qJX (base:=0) (n:=na') (by lia) k3 x (by rw [W7,A82];exact a9.mp hx)
         have q2:=most ub (by lia) e1' z hz
         show gkv z<=gkv x
         lia
       by_cases c1:k=0
       ·refine gifT (by simp [c1]) ?_
        refine wpS_pure (hR _ _ ⟨se',.inl ⟨_,_,rfl,?_⟩⟩);subst c1;exact outA _ _ mk
       refine gifF (by simp;exact c1) ?_
       generalize out++(a.extract k na').reverse=o at mk ⊢;exact J o ⟨mk,by lia⟩
      ·refine gifF k0 ?_;have k00:k=na':=by lia
       subst k00;exact J out ⟨m,by lia⟩
     ·rintro o ⟨mk,kp⟩;refine wpS_bind (qB4 e1 ?_);have m1:=stepB mk (by lia) e1' le1
      by_cases hbe:nb' - 1=1
      ·refine gifT (by simp [hbe]) ?_
       refine wpS_pure (hR _ _ ⟨se',.inl ⟨_,_,rfl,?_⟩⟩);rw [hbe] at m1 ⊢;exact outF _ _ m1
      refine gifF (by simp;lia) ?_
      refine gopq fun G_113 hG_113=>?_;obtain ⟨xa,e2,e2',ma⟩:=qBO (a:=a) (i:=k - 1) (by lia)
      refine hG_113 ?_;refine wpS_bind (qB4 e2 ?_);refine wpS_bind (qEY (left:=true) (base:=0) (n:=nb' - 1) (hint:=nb' - 1 - 1) (se.1.trans hk) (ka _ ma) kb (by lia) (by lia) (qDL (by lia) ub) fun k' j1 j2 j3=>?_)
      dsimp only;have lt2:∀ y ∈ (b.toList.take k').reverse,gkv y<=gkv xa:=fun y hy=>by
       have q:=qMH (base:=0) j1 (by lia) j2 y (by simpa using hy)
       lia
      generalize o.push yb=o1 at m1 ⊢;apply gtwo (α:=Array Keyed) (M:=fun o=>gMR grDn (a.toList++b.toList) o.toList (a.toList.take k).reverse (b.toList.take k').reverse/\1<k')
      ·intro J;by_cases k0':nb' - 1 - k' > 0
       ·rw [if_pos k0'];have m2:gMR grDn (a.toList++b.toList) (o1++(b.extract k' (nb' - 1)).reverse).toList (a.toList.take (k)).reverse (b.toList.take k').reverse:=by
         rw [D8,R5,qAS];rw [qIM (l:=b.toList) (i:=k') (j:=nb' - 1) (by lia)] at m1
         exact m1.takeB fun x hx z hz=>by
          have q1:=qJY (base:=0) (n:=nb' - 1) (by lia) j3 x (by rw [W7,A82];exact a9.mp hx)
          have q2:=most ua (by lia) e2' z hz
          show gkv z<=gkv x
          lia
        by_cases hb1':k'=1
        ·refine gifT (by simp [hb1']) ?_
         refine wpS_pure (hR _ _ ⟨se',.inl ⟨_,_,rfl,?_⟩⟩);subst hb1';exact outF _ _ m2
        refine gifF (by simp;exact hb1') ?_
        by_cases hb0':k'=0
        ·refine gifT (by simp [hb0']) ?_
         refine wpS_pure (hR _ _ ⟨se',.inl ⟨_,_,rfl,?_⟩⟩);subst hb0';exact outB _ _ m2
        refine gifF (by simp;exact hb0') ?_
        generalize o1++(b.extract k' (nb' - 1)).reverse=o2 at m2 ⊢;exact J o2 ⟨m2,by lia⟩
       ·rw [if_neg k0'];have k0'':k'=nb' - 1:=by lia
        subst k0'';exact J o1 ⟨m1,by lia⟩
      ·rintro o2 ⟨m2,kp'⟩;refine wpS_bind (qB4 e2 ?_);have m3:=stepA m2 (by lia) e2' lt2
       by_cases hae:k - 1=0
       ·refine gifT (by simp [hae]) ?_
        refine wpS_pure (hR _ _ ⟨se',.inl ⟨_,_,rfl,?_⟩⟩);rw [hae] at m3 ⊢;exact outA _ _ m3
       refine gifF (by simp;lia) ?_
       split
       ·exact wpS_pure (hR _ _ ⟨se',.inr ⟨_,_,_,_,_,_,rfl,m3,by lia,by lia,by lia⟩⟩)
       ·exact wpS_pure (hR _ _ ⟨se',_,_,_,_,_,_,rfl,m3,by lia,by lia,by lia⟩)
end
end L2.G
namespace L2.G
open PySem PyProof.Rows
variable [NM]
theorem qMG (b:Nat):∀ (r:List Keyed) (k:Nat) (xs:Array Keyed),b+k+r.length<=xs.size->((r.zipIdx k).foldl (fun a (p:Keyed × Nat)=>a.setIfInBounds (b+p.2) p.1) xs).toList=xs.toList.take (b+k)++r++xs.toList.drop (b+k+r.length)
 | [],k,xs,_=>by simp
 | p::r,k,xs,h=>by
  have hl:b+k<xs.toList.length:=by simp at h ⊢;lia
  rw [List.zipIdx_cons,V0,qMG b r (k+1) _ (by simp at h ⊢;lia)]
  simp only [j6,E3];have e1:(xs.toList.set (b+k) p).take (b+(k+1))=xs.toList.take (b+k)++[p]:=by
   rw [<- X7,D7,List.take_set_of_le (A5 _),Y5 hl]
   rfl
  have e2:(xs.toList.set (b+k) p).drop (b+(k+1)+r.length)=xs.toList.drop (b+k+(r.length+1)):=by
   rw [List.drop_set_of_lt (by lia)]
   congr 1
   lia
  rw [e1,e2];simp
def gSeg (xs:Array Keyed) (lo hi:Nat):Prop:=∀ i j,lo<=i->i<=j->j<hi->gK xs i<=gK xs j
theorem qSK {xs:Array Keyed} {i:Nat} (h:i<xs.size):gK xs i=gkv (xs[i]'h):=qSL h
theorem qIP {xs:Array Keyed} {i:Nat} {x:Keyed} (h:xs[i]?=some x):gK xs i=gkv x:=by
 unfold gK;rw [h]
 rfl
theorem qGF {left:Bool} {key:Keyed} {arr:Array Keyed} {base i:Nat} (h:base+i<arr.size):qAK left key arr base i=if left=true then decide (gK arr (base+i)<gkv key) else decide (gK arr (base+i)<=gkv key):=by
 unfold qAK;rw [B8 h,qSK h]
theorem qHB {left:Bool} {key:Keyed} {arr:Array Keyed} {base n:Nat} (hn:base+n<=arr.size) (u:gSeg arr base (base+n)):∀ i j,i<=j->j<n->qAK left key arr base j=true->qAK left key arr base i=true:=by
 intro i j hij hj e;have le:=u (base+i) (base+j) (by lia) (by lia) (by lia)
 rw [qGF (by lia)] at e ⊢
 cases left with
 | true=>
  have:=of_decide_eq_true e;exact decide_eq_true (by lia)
 | false=>
  have:=of_decide_eq_true e;exact decide_eq_true (by lia)
theorem qMD {xs:Array Keyed} {lo hi:Nat} (h:hi<=xs.size) (u:gSeg xs lo hi):(xs.extract lo hi).toList.Pairwise grUp:=by
 rw [M5];intro i j hi' hj' hij;have e:(xs.extract lo hi).size=hi - lo:=by simp;lia
 have hi2:i<hi - lo:=by simp at hi';lia
 have hj2:j<hi - lo:=by simp at hj';lia
 have:=u (lo+i) (lo+j) (by lia) (by lia) (by lia)
 rw [qSK (by lia),qSK (by lia)] at this
 simpa using this
theorem qEZ {xs:Array Keyed} {lo hi:Nat} {x:Keyed} (m:x ∈ (xs.extract lo hi).toList):∃ j,lo<=j/\j<hi/\j<xs.size/\gK xs j=gkv x:=by
 obtain ⟨i,hi',e⟩:=K0 m;have h2:i<hi - lo/\i<xs.size - lo:=by simp at hi';lia
 refine ⟨lo+i,by lia,by lia,by lia,?_⟩
 rw [qSK (by lia),<- e]
 simp
theorem qSI {xs:Array Keyed} {lo hi i:Nat} {x:Keyed} (m:(xs.extract lo hi).toList[i]?=some x):gK xs (lo+i)=gkv x:=by
 obtain ⟨hi',e⟩:=B5.mp m;have h2:i<hi - lo/\i<xs.size - lo:=by simp at hi';lia
 rw [qSK (by lia),<- e]
 simp
theorem qYP {xs ys:Array Keyed} {b:Nat} {r:List Keyed} (e:ys.toList=xs.toList.take b++r++xs.toList.drop (b+r.length)) (hb:b+r.length<=xs.size) (j:Nat) :
  (j<b\/b+r.length<=j->gK ys j=gK xs j)/\(b<=j->j<b+r.length->∃ x,r[j - b]?=some x/\gK ys j=gkv x):=by
 have lt:(xs.toList.take b).length=b:=by simp;lia
 constructor
 ·intro hj;apply qF0;rw [<- E4,<- E4,e,G5];rcases hj with hj | hj
  ·rw [G2 (by lia),o6 hj]
  ·rw [F4 (by lia),lt,F4 (by lia),l6]
   congr 1
   lia
 ·intro h1 h2;refine ⟨r[j - b]'(by lia),A8 _,qIP ?_⟩
  rw [<- E4,e,G5,F4 (by lia),lt,G2 (by lia)]
  exact A8 _
section
variable {prog:Program} {w:World} {A:Around} {E:Value->Shared->Prop} {s:Shared} {κ0:SortKind} [LtOk prog w A s κ0]
theorem qUI {st st':SortSt} {Q:PUnit->SortSt->Prop} (h:Q ⟨⟩ st'):wpS (model prog w) A E s (set st':StateT SortSt Sem PUnit) Q st:=by
 unfold wpS;rw [StateT.run_set];exact wpAny_pure ⟨rfl,h⟩
structure gSG (κ0:SortKind) (a₀:Array Keyed) (st:SortSt):Prop where
 perm:(arrOf st).Perm a₀
 kind:kindOf st=κ0
 failed:failedOf st=none
theorem gSG.size {a₀:Array Keyed} {st:SortSt} (h:gSG κ0 a₀ st):(arrOf st).size=a₀.size:=h.perm.size_eq
theorem gSG.ik {a₀:Array Keyed} {st:SortSt} (h:gSG κ0 a₀ st) (h0:qBL a₀):∀ x ∈ (arrOf st).toList,gIK x:=fun x hx=>h0 x ((Q6.mp h.perm).mem_iff.mp hx)
theorem qUL {a₀:Array Keyed} {st:SortSt} {i sa na p nb q:Nat} {pre post:List (Nat × Nat × Nat)} {Q:Bool->SortSt->Prop} (h0:qBL a₀) (g:gSG κ0 a₀ st)
  (hp:(pendingOf st).toList=pre++(sa,na,p)::(sa+na,nb,q)::post) (hi:i=pre.length) (hna:0<na) (hnb:0<nb) (hsz:sa+na+nb<=a₀.size)
  (ua:gSeg (arrOf st) sa (sa+na)) (ub:gSeg (arrOf st) (sa+na) (sa+na+nb))
  (h:∀ st',gSG κ0 a₀ st'->(pendingOf st').toList=pre++(sa,na+nb,p)::post->gSeg (arrOf st') sa (sa+na+nb)->(∀ k,k<sa\/sa+na+nb<=k->gK (arrOf st') k=gK (arrOf st) k)->Q true st') :
  wpS (model prog w) A E s (mergeAt' i) Q st:=by
 have p1:(pendingOf st)[i]?=some (sa,na,p):=by
  rw [<- E4,hp,hi,F4 (A5 _),k7]
  rfl
 have p2:(pendingOf st)[i+1]?=some (sa+na,nb,q):=by
  rw [<- E4,hp,hi,F4 (by lia),show pre.length+1 - pre.length=1 by lia]
  rfl
 have p3:(((pendingOf st).setIfInBounds i (sa,na+nb,p)).eraseIdxIfInBounds (i+1)).toList=pre++(sa,na+nb,p)::post:=by
  rw [Array.toList_eraseIdxIfInBounds,j6,hp,hi];rw [List.set_append_right _ _ (A5 _),k7,List.eraseIdx_append_of_length_le (by lia),show pre.length+1 - pre.length=1 by lia]
  rfl
 have size:=g.size;have ik:=g.ik h0;unfold mergeAt';refine wpS_bind (wpS_get ?_);dsimp only;rw [p1,p2];dsimp only;obtain ⟨kb,ekb,_,mkb⟩:=qBO (a:=arrOf st) (i:=sa+na) (by lia)
 have kkb:gK (arrOf st) (sa+na)=gkv kb:=qIP ekb;refine wpS_bind (qUI (wpS_bind (qB4 ekb ?_)));have g1:gSG κ0 a₀ (setPending st (((pendingOf st).setIfInBounds i (sa,na+nb,p)).eraseIdxIfInBounds (i+1))):=⟨g.perm,g.kind,g.failed⟩;show wpS _ _ _ _ (qUQ false kb (arrOf st) sa na 0 >>= _) _ _;refine wpS_bind (qEY g1.kind (ik kb mkb) ik (by lia) hna (qHB (by lia) ua) fun k hk h1 h2=>?_)
 have a1:∀ j,sa<=j->j<sa+k->gK (arrOf st) j<=gkv kb:=fun j hl hj=>by
  have e:=h1 (j - sa) (by lia)
  rw [qGF (by lia),show sa+(j - sa)=j by lia] at e
  exact of_decide_eq_true e
 have a2:∀ j,sa+k<=j->j<sa+na->gkv kb<gK (arrOf st) j:=fun j hl hj=>by
  have e:=h2 (j - sa) (by lia) (by lia)
  rw [qGF (by lia),show sa+(j - sa)=j by lia] at e
  have:=of_decide_eq_false e
  lia
 dsimp only;by_cases ek:na - k=0
 ·refine gifT (by simpa using ek) ?_
  refine wpS_pure (h _ g1 p3 (fun i j hl hij hj=>?_) fun _ _=>rfl);show gK (arrOf st) i<=gK (arrOf st) j;by_cases c1:j<sa+na
  ·exact ua i j hl hij c1
  ·by_cases c2:i<sa+na
   ·have q1:=a1 i hl (by lia)
    have q2:=ub (sa+na) j (by lia) (by lia) hj
    lia
   ·exact ub i j (by lia) hij hj
 refine gifF (by simpa using ek) ?_
 rw [show sa+k+(na - k) - 1=sa+na - 1 by lia]
 obtain ⟨kz,ekz,_,mkz⟩:=qBO (a:=arrOf st) (i:=sa+na - 1) (by lia)
 have kkz:gK (arrOf st) (sa+na - 1)=gkv kz:=qIP ekz;refine wpS_bind (qB4 ekz ?_);show wpS _ _ _ _ (qUQ true kz (arrOf st) (sa+na) nb (nb - 1) >>= _) _ _;refine wpS_bind (qEY g1.kind (ik kz mkz) ik (by lia) (by lia) (qHB (by lia) ub) fun m hm h3 h4=>?_)
 have b1:∀ j,sa+na<=j->j<sa+na+m->gK (arrOf st) j<gkv kz:=fun j hl hj=>by
  have e:=h3 (j - (sa+na)) (by lia)
  rw [qGF (by lia),show sa+na+(j - (sa+na))=j by lia] at e
  exact of_decide_eq_true e
 have b2:∀ j,sa+na+m<=j->j<sa+na+nb->gkv kz<=gK (arrOf st) j:=fun j hl hj=>by
  have e:=h4 (j - (sa+na)) (by lia) (by lia)
  rw [qGF (by lia),show sa+na+(j - (sa+na))=j by lia] at e
  have:=of_decide_eq_false e
  lia
 dsimp only;by_cases em:m=0
 ·refine gifT (by simpa using em) ?_
  refine wpS_pure (h _ g1 p3 (fun i j hl hij hj=>?_) fun _ _=>rfl);show gK (arrOf st) i<=gK (arrOf st) j;by_cases c1:j<sa+na
  ·exact ua i j hl hij c1
  ·by_cases c2:i<sa+na
   ·have q1:=ua i (sa+na - 1) hl (by lia) (by lia)
    have q2:=b2 j (by lia) hj
    lia
   ·exact ub i j (by lia) hij hj
 refine gifF (by simpa using em) ?_
 have sx:((arrOf st).extract (sa+k) (sa+na)).size=na - k:=by simp;lia
 have sy:((arrOf st).extract (sa+na) (sa+na+m)).size=m:=by simp;lia
 have ux:=qMD (xs:=arrOf st) (lo:=sa+k) (hi:=sa+na) (by lia) fun i j hl hij hj=>ua i j (by lia) hij hj
 have uy:=qMD (xs:=arrOf st) (lo:=sa+na) (hi:=sa+na+m) (by lia) fun i j hl hij hj=>ub i j hl hij (by lia)
 have kx:∀ x ∈ ((arrOf st).extract (sa+k) (sa+na)).toList,gIK x:=fun x hx=>ik x (by rw [qAS] at hx;exact O5 (L5 hx))
 have ky:∀ x ∈ ((arrOf st).extract (sa+na) (sa+na+m)).toList,gIK x:=fun x hx=>ik x (by rw [qAS] at hx;exact O5 (L5 hx))
 have fst:∀ y,((arrOf st).extract (sa+na) (sa+na+m)).toList[0]?=some y->∀ x ∈ ((arrOf st).extract (sa+k) (sa+na)).toList,gkv y<=gkv x:=by
  intro y hy x hx;have e:=qSI hy;obtain ⟨j,j1,j2,_,ej⟩:=qEZ hx;have:=a2 j j1 j2;rw [Nat.add_zero] at e
  lia
 have lst:∀ z,((arrOf st).extract (sa+k) (sa+na)).toList[((arrOf st).extract (sa+k) (sa+na)).size - 1]?=some z->∀ y ∈ ((arrOf st).extract (sa+na) (sa+na+m)).toList,gkv y<=gkv z:=by
  intro z hz y hy;have e:=qSI hz;obtain ⟨j,j1,j2,_,ej⟩:=qEZ hy;have:=b1 j j1 j2;rw [sx,show sa+k+(na - k - 1)=sa+na - 1 by lia] at e
  lia
 have fin:∀ (r:Array Keyed) (st2:SortSt),gSE (setPending st (((pendingOf st).setIfInBounds i (sa,na+nb,p)).eraseIdxIfInBounds (i+1))) st2->gRes (((arrOf st).extract (sa+k) (sa+na)).toList++((arrOf st).extract (sa+na) (sa+na+m)).toList) r.toList->
   Q true (setArr st2 (r.toList.zipIdx.foldl (fun a (p:Keyed × Nat)=>a.setIfInBounds (sa+k+p.2) p.1) (arrOf st2))):=by
  rintro r st2 ⟨q1,q2,q3,q4⟩ ⟨rp,ru⟩;have q2':arrOf st2=arrOf st:=q2;have rl:r.toList.length=na - k+m:=by
   rw [rp.length_eq,A4,C7,C7,sx,sy]
  have e:=qMG (sa+k) r.toList 0 (arrOf st2) (by rw [q2',rl];lia)
  rw [Nat.add_zero,q2'] at e;have LK:=qYP e (by rw [rl];lia)
  have e0:(arrOf st).toList=(arrOf st).toList.take (sa+k)++(((arrOf st).extract (sa+k) (sa+na)).toList++((arrOf st).extract (sa+na) (sa+na+m)).toList)++(arrOf st).toList.drop (sa+k+r.toList.length):=by
   rw [qAS,qAS,rl,show sa+na - (sa+k)=na - k by lia,show sa+na+m - (sa+na)=m by lia]
   have t1:(arrOf st).toList.drop (sa+na)=((arrOf st).toList.drop (sa+k)).drop (na - k):=by rw [W6];congr 1;lia
   have t2:(arrOf st).toList.drop (sa+k)=((arrOf st).toList.drop (sa+k)).take (na - k+m)++(arrOf st).toList.drop (sa+k+(na - k+m)):=qFV;rw [t1,<- A97,G5,<- t2,Z9]
  have gp:(r.toList.zipIdx.foldl (fun a (p:Keyed × Nat)=>a.setIfInBounds (sa+k+p.2) p.1) (arrOf st)).Perm (arrOf st):=by
   rw [Q6,e]
   conv=>rhs;rw [e0]
   exact (Z8 _ rp).append_right _
  have lowR:∀ x ∈ r.toList,∀ i,sa<=i->i<sa+k->gK (arrOf st) i<=gkv x:=by
   intro x hx i hl hi;rcases A7.mp (rp.mem_iff.mp hx) with hx | hx
   ·obtain ⟨j,j1,j2,_,ej⟩:=qEZ hx;rw [<- ej];exact ua i j hl (by lia) j2
   ·obtain ⟨j,j1,j2,_,ej⟩:=qEZ hx;have z1:=a1 i hl hi;have z2:=ub (sa+na) j (by lia) j1 (by lia)
    lia
  have highR:∀ x ∈ r.toList,∀ j,sa+na+m<=j->j<sa+na+nb->gkv x<=gK (arrOf st) j:=by
   intro x hx j hl hj;rcases A7.mp (rp.mem_iff.mp hx) with hx | hx
   ·obtain ⟨i,j1,j2,_,ej⟩:=qEZ hx;have z1:=ua i (sa+na - 1) (by lia) (by lia) (by lia)
    have z2:=b2 j hl hj
    lia
   ·obtain ⟨i,j1,j2,_,ej⟩:=qEZ hx;rw [<- ej];exact ub i j j1 (by lia) hj
  rw [q2'];refine h _ ⟨gp.trans g.perm,q1.trans g.kind,q4.trans g.failed⟩ ((congrArg A54 q3).trans p3) ?_ fun j hj=>(LK j).1 (by rw [rl];lia)
  intro i j hl hij hj;show gK (r.toList.zipIdx.foldl (fun a (p:Keyed × Nat)=>a.setIfInBounds (sa+k+p.2) p.1) (arrOf st)) i<=gK (r.toList.zipIdx.foldl (fun a (p:Keyed × Nat)=>a.setIfInBounds (sa+k+p.2) p.1) (arrOf st)) j;have K1:∀ j,j<sa+k\/sa+k+(na - k+m)<=j->gK (r.toList.zipIdx.foldl (fun a (p:Keyed × Nat)=>a.setIfInBounds (sa+k+p.2) p.1) (arrOf st)) j=gK (arrOf st) j:=fun j hj=>(LK j).1 (by rw [rl];exact hj)
  have K2:∀ j,sa+k<=j->j<sa+k+(na - k+m)->∃ x,r.toList[j - (sa+k)]?=some x/\gK (r.toList.zipIdx.foldl (fun a (p:Keyed × Nat)=>a.setIfInBounds (sa+k+p.2) p.1) (arrOf st)) j=gkv x:=fun j h1 h2=>(LK j).2 h1 (by rw [rl];exact h2)
  by_cases c1:i<sa+k
  ·rw [K1 i (.inl c1)];by_cases c2:j<sa+k
   ·rw [K1 j (.inl c2)];exact ua i j hl hij (by lia)
   ·by_cases c3:j<sa+k+(na - k+m)
    ·obtain ⟨x,ex,kx2⟩:=K2 j (by lia) c3
     rw [kx2];exact lowR x (C4 ex) i hl c1
    ·rw [K1 j (.inr (by lia))]
     have z1:=a1 i hl c1;have z2:=ub (sa+na) j (by lia) (by lia) hj
     lia
  ·by_cases c2:i<sa+k+(na - k+m)
   ·obtain ⟨x,ex,kx2⟩:=K2 i (by lia) c2
    rw [kx2];by_cases c3:j<sa+k+(na - k+m)
    ·obtain ⟨y,ey,ky2⟩:=K2 j (by lia) c3
     rw [ky2];by_cases c4:i=j
     ·rw [c4] at ex;rw [ex] at ey;cases ey;exact L6 _
     ·obtain ⟨x1,x2⟩:=B5.mp ex;obtain ⟨y1,y2⟩:=B5.mp ey;have:=M5.mp ru (i - (sa+k)) (j - (sa+k)) x1 y1 (by lia)
      rw [x2,y2] at this;exact this
    ·rw [K1 j (.inr (by lia))]
     exact highR x (C4 ex) j (by lia) hj
   ·rw [K1 i (.inr (by lia)),K1 j (.inr (by lia))]
    exact ub i j (by lia) hij hj
 by_cases c:na - k<=m
 ·refine gifT c ?_;show wpS _ _ _ _ (gmLo ((arrOf st).extract (sa+k) (sa+na)) ((arrOf st).extract (sa+na) (sa+na+m)) >>= _) _ _;refine wpS_bind (qUJ g1.kind kx ky ux uy (by rw [sx];lia) (by rw [sy];lia) fst lst fun r st2 se rs=>?_)
  refine wpS_bind (wpS_modify (wpS_bind (wpS_get (wpS_pure ?_))));have e:(failedOf st2).isNone=true:=by rw [se.2.2.2,g1.failed];rfl
  show Q (failedOf st2).isNone _;rw [e];exact fin r st2 se rs
 ·refine gifF c ?_;show wpS _ _ _ _ (gmHi ((arrOf st).extract (sa+k) (sa+na)) ((arrOf st).extract (sa+na) (sa+na+m)) >>= _) _ _;refine wpS_bind (qUK g1.kind kx ky ux uy (by rw [sx];lia) (by rw [sy];lia) fst lst fun r st2 se rs=>?_)
  refine wpS_bind (wpS_modify (wpS_bind (wpS_get (wpS_pure ?_))));have e:(failedOf st2).isNone=true:=by rw [se.2.2.2,g1.failed];rfl
  show Q (failedOf st2).isNone _;rw [e];exact fin r st2 se rs
end
end L2.G
namespace L2.G
open PySem PyProof.Rows
variable [NM]
def gOut (xs ys:Array Keyed) (lo hi:Nat):Prop:=∀ k,k<lo\/hi<=k->gK ys k=gK xs k
theorem gOut.refl (xs:Array Keyed) (lo hi:Nat):gOut xs xs lo hi:=fun _ _=>rfl
theorem gOut.trans {xs ys zs:Array Keyed} {lo hi:Nat} (h1:gOut xs ys lo hi) (h2:gOut ys zs lo hi):gOut xs zs lo hi:=fun k hk=>(h2 k hk).trans (h1 k hk)
theorem gOut.wide {xs ys:Array Keyed} {lo hi lo' hi':Nat} (h:gOut xs ys lo hi) (a:lo'<=lo) (b:hi<=hi'):gOut xs ys lo' hi':=fun k hk=>h k (by lia)
theorem gSG.lay {κ0:SortKind} {a₀:Array Keyed} {st:SortSt} (g:gSG κ0 a₀ st) {ys:Array Keyed} (p:ys.Perm (arrOf st)):gSG κ0 a₀ (setArr st ys):=⟨p.trans g.perm,g.kind,g.failed⟩
theorem qNO {xs:Array Keyed} {i j:Nat} (hj:j<=xs.size):gOut xs (mirror xs i j ((j - i) / 2)) i j:=fun k hk=>by rw [qGG hj,if_neg (by lia)]
section
variable {prog:Program} {w:World} {A:Around} {E:Value->Shared->Prop} {s:Shared} {κ0:SortKind} [LtOk prog w A s κ0] {a₀:Array Keyed}
theorem qGC {st:SortSt} {i j:Nat} {Q:Option Bool->SortSt->Prop} (h0:qBL a₀) (g:gSG κ0 a₀ st) (hi:i<a₀.size) (hj:j<a₀.size) (h:Q (some (decide (gK (arrOf st) i<gK (arrOf st) j))) st):wpS (model prog w) A E s (ltAt' i j) Q st:=by
 have hi2:i<(arrOf st).size:=by rw [g.size];exact hi
 have hj2:j<(arrOf st).size:=by rw [g.size];exact hj
 obtain ⟨x,ex,_,mx⟩:=qBO hi2;obtain ⟨y,ey,_,my⟩:=qBO hj2;rw [qIP ex,qIP ey] at h;rw [ltAt'_eq];refine wpS_bind (wpS_get ?_);exact wpS_bind (qB4 ex (wpS_bind (qB4 ey (qGD g.kind (g.ik h0 x mx) (g.ik h0 y my) h))))
theorem qUO {st:SortSt} {lo n ok:Nat} {Q:Bool->SortSt->Prop} (h0:qBL a₀) (g:gSG κ0 a₀ st) (hn:lo+n<=a₀.size) (hok:ok<=n) (u:gSeg (arrOf st) lo (lo+ok))
  (h:∀ st2,gSG κ0 a₀ st2->pendingOf st2=pendingOf st->gSeg (arrOf st2) lo (lo+n)->gOut (arrOf st) (arrOf st2) lo (lo+n)->Q true st2):wpS (model prog w) A E s (binarySort' lo n ok) Q st:=by
 rw [binarySort'_eq];refine wpS_bind (wpS_mono (wpS_forRange (I:=fun k c st2=>c=(none,())/\gSG κ0 a₀ st2/\pendingOf st2=pendingOf st/\gSeg (arrOf st2) lo (lo+min k n)/\gOut (arrOf st) (arrOf st2) lo (lo+n))
  (Q:=fun c st2=>c=(none,())/\gSG κ0 a₀ st2/\pendingOf st2=pendingOf st/\gSeg (arrOf st2) lo (lo+n)/\gOut (arrOf st) (arrOf st2) lo (lo+n)) ?step ?fin ?init) ?post)
 case post=>
  rintro c st2 ⟨rfl,g2,pe,u2,o2⟩;exact wpS_pure (h st2 g2 pe u2 o2)
 case init=>
  refine ⟨rfl,g,rfl,fun i j hl hij hj=>?_,.refl _ _ _⟩;by_cases h1:ok=0
  ·rw [show i=j by lia]
   exact L6 _
  ·exact u i j hl hij (by lia)
 case fin=>
  rintro c st2 ⟨hc,g2,pe,u2,o2⟩;rw [show min (max (max ok 1) n) n=n by lia] at u2
  exact ⟨hc,g2,pe,u2,o2⟩
 case step=>
  rintro k c st2 hak hkn ⟨rfl,g2,pe,u2,o2⟩;rw [show min k n=k by lia] at u2
  have hk:lo+k<a₀.size:=by lia
  refine wpS_bind (wpS_mono (wpS_forRange (I:=fun x c st3=>st3=st2/\∃ l r,c=(none,l,r)/\l<=r/\r<=k/\r - l<=k - x/\
    (∀ i,lo<=i->i<lo+l->gK (arrOf st2) i<=gK (arrOf st2) (lo+k))/\(∀ i,lo+r<=i->i<lo+k->gK (arrOf st2) (lo+k)<gK (arrOf st2) i))
   (Q:=fun c st3=>st3=st2/\∃ l r,c=(none,l,r)/\l<=k/\
    (∀ i,lo<=i->i<lo+l->gK (arrOf st2) i<=gK (arrOf st2) (lo+k))/\(∀ i,lo+l<=i->i<lo+k->gK (arrOf st2) (lo+k)<gK (arrOf st2) i)) ?istep ?ifin ?iinit) ?ipost)
  case iinit=>exact ⟨rfl,0,k,rfl,by lia,by lia,by lia,fun i _ hi=>by lia,fun i h1 h2=>by lia⟩
  case ifin=>
   rintro c st3 ⟨rfl,l,r,rfl,hlr,hrk,hm,ha,hb⟩;have e:l=r:=by lia
   rw [<- e] at hb hrk;exact ⟨rfl,l,r,rfl,hrk,ha,hb⟩
  case istep=>
   rintro x c st3 _ hxk ⟨rfl,l,r,rfl,hlr,hrk,hm,ha,hb⟩;dsimp only;by_cases hge:l >= r
   ·refine gifT hge ?_;have e:l=r:=by lia
    rw [<- e] at hb hrk;exact wpS_pure ⟨rfl,l,r,rfl,hrk,ha,hb⟩
   ·refine gifF hge ?_;refine wpS_bind (qGC h0 g2 hk (by lia) ?_)
    by_cases less:gK (arrOf st3) (lo+k)<gK (arrOf st3) (lo+(l+r) / 2)
    ·rw [decide_eq_true less];dsimp only;refine gifT rfl ?_;refine wpS_pure ⟨rfl,l,(l+r) / 2,rfl,by lia,by lia,by lia,ha,fun i h1 h2=>?_⟩
     have:=u2 (lo+(l+r) / 2) i (by lia) h1 h2
     lia
    ·rw [decide_eq_false less];dsimp only;rw [if_neg B0];refine wpS_pure ⟨rfl,(l+r) / 2+1,r,rfl,by lia,by lia,by lia,fun i h3 h1=>?_,hb⟩
     have:=u2 i (lo+(l+r) / 2) h3 (by lia) (by lia)
     lia
  case ipost=>
   rintro c st3 ⟨rfl,l,r,rfl,hlk,ha,hb⟩;have hks:lo+k<(arrOf st3).size:=by rw [g2.size];exact hk
   show wpS _ _ _ _ (moveDown' (lo+k) (lo+l) >>= fun _=>pure (M4 (none,()))) _ _;rw [moveDown'_eq];refine wpS_bind (wpS_modify (wpS_pure ⟨rfl,g2.lay (bubble_perm _ _ _),pe,?_,o2.trans ?_⟩))
   ·rw [show min (k+1) n=k+1 by lia]
    intro i j hl hij hj;show gK (bubble (arrOf st3) (lo+k) (lo+k - (lo+l))) i<=gK (bubble (arrOf st3) (lo+k) (lo+k - (lo+l))) j;rw [qIQ hks (by lia),qIQ hks (by lia),show lo+k - (lo+k - (lo+l))=lo+l by lia]
    repeat' split
    all_goals first
     | (exfalso;lia)
     | exact L6 _
     | exact ha _ (by lia) (by lia)
     | exact k9 (hb _ (by lia) (by lia))
     | exact u2 _ _ (by lia) (by lia) (by lia)
   ·intro i hi;show gK (bubble (arrOf st3) (lo+k) (lo+k - (lo+l))) i=gK (arrOf st3) i;rw [qIQ hks (by lia),if_neg (by lia),if_neg (by lia)]
abbrev gCUp:=Option (Option Nat) × Nat
abbrev gCDn:=Option (Option Nat) × Nat × Nat
noncomputable def gupL (lo a m:Nat):gSM gCUp:=
 forIn [a:m] ((none,a):gCUp) fun _ c=>do
  let t <- ltAt' (lo+c.snd) (lo+c.snd - 1)
  match t with
  | some less=>if less=true then pure (Z6 (none,c.snd)) else pure (M4 (none,c.snd+1))
  | _=>pure (Z6 (some none,c.snd))
noncomputable def qSG (lo n m:Nat):gSM (Option Nat):=do
 reverseSlice' lo (lo+n)
 let c <- gupL lo n m
 match c.fst with
 | some r=>pure r
 | none=>pure (some c.snd)
noncomputable def gdnL (lo n m:Nat):gSM gCDn:=
 forIn [n:m] ((none,n,0):gCDn) fun _ c=>do
  let t <- ltAt' (lo+c.snd.fst) (lo+c.snd.fst - 1)
  match t with
  | some less=>
   if less=true then
    if c.snd.snd > 0 then do
     reverseSlice' (lo+c.snd.fst - (c.snd.snd+1)) (lo+c.snd.fst)
     pure (M4 (none,c.snd.fst+1,0))
    else pure (M4 (none,c.snd.fst+1,0))
   else do
    let t <- ltAt' (lo+c.snd.fst - 1) (lo+c.snd.fst)
    match t with
    | some more=>
     if more=true then pure (Z6 (none,c.snd.fst,c.snd.snd))
     else pure (M4 (none,c.snd.fst+1,c.snd.snd+1))
    | _=>pure (Z6 (some none,c.snd.fst,c.snd.snd))
  | _=>pure (Z6 (some none,c.snd.fst,c.snd.snd))
noncomputable def gdnP (lo n m:Nat):gSM (Option Nat):=do
 liftM (rule "list.sort.descending-run")
 let c <- gdnL lo (n+1) m
 match c.fst with
 | some r=>pure r
 | none=>
  if c.snd.snd > 0 then do
   reverseSlice' (lo+c.snd.fst - (c.snd.snd+1)) (lo+c.snd.fst)
   qSG lo c.snd.fst m
  else qSG lo c.snd.fst m
theorem qB9 {α β:Type} {x y:gSM α} {f g:α->gSM β} (h:x=y) (k:∀ a,f a=g a):(x >>= f)=(y >>= g):=by rw [h,show f=g from funext k]
theorem qSH (lo m:Nat):countRun' lo m=(do
  let c <- gupL lo 1 m
  match c.fst with
  | some r=>pure r
  | none=>
   if (c.snd == m)=true then pure (some c.snd)
   else if c.snd > 1 then do
    let t <- ltAt' lo (lo+c.snd - 1)
    match t with
    | some rose=>if rose=true then pure (some c.snd) else do
      reverseSlice' lo (lo+c.snd)
      gdnP lo c.snd m
    | _=>pure none
   else gdnP lo c.snd m):=by
 rw [countRun'_eq];unfold gdnP qSG gdnL gupL;refine qB9 rfl fun c=>?_;obtain ⟨r,n⟩:=c;cases r with
 | some r=>rfl
 | none=>
  have last:∀ c3:gCUp,(match c3.fst with | some r=>pure r | none=>pure (some c3.snd):gSM (Option Nat))=(match c3.fst with | some r=>pure r | none=>pure (some c3.snd)):=fun _=>rfl
  dsimp only
  split
  ·rfl
  ·split
   ·refine qB9 rfl fun x=>?_;cases x with
    | none=>rfl
    | some rose=>
     dsimp only
     split
     ·rfl
     ·refine qB9 rfl fun _=>qB9 rfl fun _=>qB9 rfl fun c2=>?_;obtain ⟨r2,n2,q2⟩:=c2;cases r2 with
      | some r2=>rfl
      | none=>
       dsimp only
       split
       ·refine qB9 rfl fun _=>qB9 rfl fun _=>qB9 rfl fun c3=>?_;obtain ⟨r3,n3⟩:=c3;cases r3 <;> rfl
       ·refine qB9 rfl fun _=>qB9 rfl fun c3=>?_;obtain ⟨r3,n3⟩:=c3;cases r3 <;> rfl
   ·refine qB9 rfl fun _=>qB9 rfl fun c2=>?_;obtain ⟨r2,n2,q2⟩:=c2;cases r2 with
    | some r2=>rfl
    | none=>
     dsimp only
     split
     ·refine qB9 rfl fun _=>qB9 rfl fun _=>qB9 rfl fun c3=>?_;obtain ⟨r3,n3⟩:=c3;cases r3 <;> rfl
     ·refine qB9 rfl fun _=>qB9 rfl fun c3=>?_;obtain ⟨r3,n3⟩:=c3;cases r3 <;> rfl
def gFal (xs:Array Keyed) (lo hi:Nat):Prop:=∀ i j,lo<=i->i<=j->j<hi->gK xs j<=gK xs i
theorem qOZ {st:SortSt} {lo a m:Nat} {Q:gCUp->SortSt->Prop} (h0:qBL a₀) (g:gSG κ0 a₀ st) (hm:lo+m<=a₀.size) (ha:1<=a) (han:a<=m) (u:gSeg (arrOf st) lo (lo+a))
  (h:∀ n,a<=n->n<=m->gSeg (arrOf st) lo (lo+n)->(n=m\/gK (arrOf st) (lo+n)<gK (arrOf st) (lo+n - 1))->Q (none,n) st):wpS (model prog w) A E s (gupL lo a m) Q st:=by
 unfold gupL;refine wpS_forRange (I:=fun x c st2=>st2=st/\c=(none,x)/\gSeg (arrOf st) lo (lo+x)) ?step ?fin ⟨rfl,rfl,u⟩
 case fin=>
  rintro c st2 ⟨rfl,rfl,u2⟩;rw [show max a m=m by lia] at u2 ⊢
  exact h m han (A5 _) u2 (.inl rfl)
 case step=>
  rintro x c st2 hax hxn ⟨rfl,rfl,u2⟩;dsimp only;refine wpS_bind (qGC h0 g (by lia) (by lia) ?_)
  by_cases less:gK (arrOf st2) (lo+x)<gK (arrOf st2) (lo+x - 1)
  ·rw [decide_eq_true less];dsimp only;refine gifT rfl ?_;exact wpS_pure (h x hax (by lia) u2 (.inr less))
  ·rw [decide_eq_false less];dsimp only;rw [if_neg B0];refine wpS_pure ⟨rfl,rfl,fun i j hl hij hj=>?_⟩;by_cases hjx:j<lo+x
   ·exact u2 i j hl hij hjx
   ·have ej:j=lo+x:=by lia
    rw [ej];by_cases ei:i=lo+x
    ·rw [ei];exact L6 _
    ·have:=u2 i (lo+x - 1) hl (by lia) (by lia)
     lia
theorem qMC {st:SortSt} {lo n m:Nat} {Q:Option Nat->SortSt->Prop} (h0:qBL a₀) (g:gSG κ0 a₀ st) (hm:lo+m<=a₀.size) (h1:1<=n) (hnm:n<=m) (u:gFal (arrOf st) lo (lo+n))
  (h:∀ k st2,gSG κ0 a₀ st2->pendingOf st2=pendingOf st->1<=k->k<=m->gSeg (arrOf st2) lo (lo+k)->gOut (arrOf st) (arrOf st2) lo (lo+m)->Q (some k) st2):wpS (model prog w) A E s (qSG lo n m) Q st:=by
 unfold qSG;have hsz:lo+n<=(arrOf st).size:=by rw [g.size];lia
 rw [reverseSlice'_eq];refine wpS_bind (wpS_modify ?_);have g2:gSG κ0 a₀ (setArr st (mirror (arrOf st) lo (lo+n) ((lo+n - lo) / 2))):=g.lay (mirror_perm _ _ _ _);refine wpS_bind (qOZ h0 g2 hm h1 hnm ?_ fun k hk1 hk2 uk _=>wpS_pure (h k _ g2 rfl (by lia) hk2 uk ((qNO hsz).wide (A5 _) (by lia))))
 intro i j hl hij hj;show gK (mirror (arrOf st) lo (lo+n) ((lo+n - lo) / 2)) i<=gK (mirror (arrOf st) lo (lo+n) ((lo+n - lo) / 2)) j;rw [qGG hsz,qGG hsz,if_pos (by lia),if_pos (by lia)]
 exact u _ _ (by lia) (by lia) (by lia)
theorem qUM {st:SortSt} {lo n m:Nat} {Q:gCDn->SortSt->Prop} (h0:qBL a₀) (g:gSG κ0 a₀ st) (hm:lo+m<=a₀.size) (h1:1<=n) (hnm:n<=m) (u:gFal (arrOf st) lo (lo+n))
  (h:∀ k e st2,gSG κ0 a₀ st2->pendingOf st2=pendingOf st->n<=k->k<=m->gFal (arrOf st2) lo (lo+k)->e+1<=k->(∀ i,lo+k - (e+1)<=i->i<lo+k->gK (arrOf st2) i=gK (arrOf st2) (lo+k - 1))->gOut (arrOf st) (arrOf st2) lo (lo+m)->Q (none,k,e) st2) :
  wpS (model prog w) A E s (gdnL lo n m) Q st:=by
 unfold gdnL;refine wpS_forRange (I:=fun x c st2=>∃ e,c=(none,x,e)/\gSG κ0 a₀ st2/\pendingOf st2=pendingOf st/\gFal (arrOf st2) lo (lo+x)/\e+1<=x/\
   (∀ i,lo+x - (e+1)<=i->i<lo+x->gK (arrOf st2) i=gK (arrOf st2) (lo+x - 1))/\gOut (arrOf st) (arrOf st2) lo (lo+m)) ?step ?fin ⟨0,rfl,g,rfl,u,by lia,fun i h1 h2=>by congr 1;lia,.refl _ _ _⟩
 case fin=>
  rintro c st2 ⟨e,rfl,g2,pe,u2,hq,he,o2⟩;rw [show max n m=m by lia] at u2 hq he ⊢
  exact h m e st2 g2 pe hnm (A5 _) u2 hq he o2
 case step=>
  rintro x c st2 hax hxn ⟨e,rfl,g2,pe,u2,hq,he,o2⟩;dsimp only;have hsz:lo+x<=(arrOf st2).size:=by rw [g2.size];lia
  refine wpS_bind (qGC h0 g2 (by lia) (by lia) ?_)
  by_cases less:gK (arrOf st2) (lo+x)<gK (arrOf st2) (lo+x - 1)
  ·rw [decide_eq_true less];dsimp only;refine gifT rfl ?_;have more:∀ ys:Array Keyed,(∀ k,gK ys k=gK (arrOf st2) k)->gFal ys lo (lo+(x+1)):=by
    intro ys hk i j hl hij hj;rw [hk,hk];by_cases hjx:j<lo+x
    ·exact u2 i j hl hij hjx
    ·have ej:j=lo+x:=by lia
     rw [ej];by_cases ei:i=lo+x
     ·rw [ei];exact L6 _
     ·have:=u2 i (lo+x - 1) hl (by lia) (by lia)
      lia
   by_cases hpos:e > 0
   ·rw [if_pos hpos,reverseSlice'_eq];refine wpS_bind (wpS_modify (wpS_pure ⟨0,rfl,g2.lay (mirror_perm _ _ _ _),pe,more _ (qAY hsz he),by lia,fun i h1 h2=>by congr 1;lia,o2.trans ?_⟩))
    exact fun k _=>qAY hsz he k
   ·refine gifF hpos ?_;exact wpS_pure ⟨0,rfl,g2,pe,more _ (fun _=>rfl),by lia,fun i h1 h2=>by congr 1;lia,o2⟩
  ·rw [decide_eq_false less];dsimp only;rw [if_neg B0];refine wpS_bind (qGC h0 g2 (by lia) (by lia) ?_)
   by_cases big:gK (arrOf st2) (lo+x - 1)<gK (arrOf st2) (lo+x)
   ·rw [decide_eq_true big];dsimp only;refine gifT rfl ?_;exact wpS_pure (h x e st2 g2 pe hax (by lia) u2 hq he o2)
   ·rw [decide_eq_false big];dsimp only;rw [if_neg B0];have ex:gK (arrOf st2) (lo+x)=gK (arrOf st2) (lo+x - 1):=by lia
    refine wpS_pure ⟨e+1,rfl,g2,pe,fun i j hl hij hj=>?_,by lia,fun i h1 h2=>?_,o2⟩
    ·by_cases hjx:j<lo+x
     ·exact u2 i j hl hij hjx
     ·have ej:j=lo+x:=by lia
      rw [ej];by_cases ei:i=lo+x
      ·rw [ei];exact L6 _
      ·rw [ex];exact u2 i (lo+x - 1) hl (by lia) (by lia)
    ·rw [show lo+(x+1) - 1=lo+x by lia]
     by_cases ei:i=lo+x
     ·rw [ei]
     ·rw [ex];exact he i (by lia) (by lia)
theorem qP0 {st:SortSt} {lo n m:Nat} {Q:Option Nat->SortSt->Prop} (h0:qBL a₀) (g:gSG κ0 a₀ st) (hm:lo+m<=a₀.size) (hnm:n+1<=m) (u:gFal (arrOf st) lo (lo+(n+1)))
  (h:∀ k st2,gSG κ0 a₀ st2->pendingOf st2=pendingOf st->1<=k->k<=m->gSeg (arrOf st2) lo (lo+k)->gOut (arrOf st) (arrOf st2) lo (lo+m)->Q (some k) st2):wpS (model prog w) A E s (gdnP lo n m) Q st:=by
 unfold gdnP;refine wpS_bind (wpS_lift (wpAny_rule ⟨rfl,?_⟩));refine wpS_bind (qUM h0 g hm (by lia) hnm u fun k e st2 g2 pe hk1 hk2 u2 hq he o2=>?_)
 dsimp only;have hsz:lo+k<=(arrOf st2).size:=by rw [g2.size];lia
 by_cases hpos:e > 0
 ·rw [if_pos hpos,reverseSlice'_eq];refine wpS_bind (wpS_modify (qMC h0 (g2.lay (mirror_perm _ _ _ _)) hm (by lia) hk2 ?_ fun k2 st3 g3 pe3 a1 a2 u3 o3=>h k2 st3 g3 (pe3.trans pe) a1 a2 u3 ?_))
  ·intro i j hl hij hj;show gK (mirror (arrOf st2) _ _ _) j<=gK (mirror (arrOf st2) _ _ _) i;rw [qAY hsz he,qAY hsz he];exact u2 i j hl hij hj
  ·exact o2.trans (gOut.trans (fun k _=>qAY hsz he k) o3)
 ·refine gifF hpos ?_;exact qMC h0 g2 hm (by lia) hk2 u2 fun k2 st3 g3 pe3 a1 a2 u3 o3=>h k2 st3 g3 (pe3.trans pe) a1 a2 u3 (o2.trans o3)
theorem qUN {st:SortSt} {lo m:Nat} {Q:Option Nat->SortSt->Prop} (h0:qBL a₀) (g:gSG κ0 a₀ st) (hm:lo+m<=a₀.size) (h1:1<=m)
  (h:∀ k st2,gSG κ0 a₀ st2->pendingOf st2=pendingOf st->1<=k->k<=m->gSeg (arrOf st2) lo (lo+k)->gOut (arrOf st) (arrOf st2) lo (lo+m)->Q (some k) st2):wpS (model prog w) A E s (countRun' lo m) Q st:=by
 rw [qSH];refine wpS_bind (qOZ h0 g hm (A5 1) h1 (fun i j hl hij hj=>by rw [show i=j by lia];exact L6 _) fun n hn1 hn2 un or=>?_)
 dsimp only;by_cases e:n=m
 ·refine gifT (by simpa using e) ?_
  exact wpS_pure (h n st g rfl hn1 hn2 un (.refl _ _ _))
 ·refine gifF (by simpa using e) ?_
  have hlt:gK (arrOf st) (lo+n)<gK (arrOf st) (lo+n - 1):=or.resolve_left e;by_cases hgt:n > 1
  ·refine gifT hgt ?_;refine wpS_bind (qGC h0 g (by lia) (by lia) ?_)
   by_cases rose:gK (arrOf st) lo<gK (arrOf st) (lo+n - 1)
   ·rw [decide_eq_true rose];dsimp only;refine gifT rfl ?_;exact wpS_pure (h n st g rfl hn1 hn2 un (.refl _ _ _))
   ·rw [decide_eq_false rose];dsimp only;rw [if_neg B0,reverseSlice'_eq];have hsz:lo+n<=(arrOf st).size:=by rw [g.size];lia
    have same:∀ k,lo<=k->k<lo+n->gK (arrOf st) k=gK (arrOf st) (lo+n - 1):=by
     intro k hl hk;have a1:=un lo k (by lia) hl hk
     have a2:=un k (lo+n - 1) hl (by lia) (by lia)
     lia
    refine wpS_bind (wpS_modify (qP0 h0 (g.lay (mirror_perm _ _ _ _)) hm (by lia) ?_ fun k st2 g2 pe a1 a2 u2 o2=>h k st2 g2 pe a1 a2 u2 (gOut.trans (fun k _=>qAY hsz same k) o2)))
    intro i j hl hij hj;show gK (mirror (arrOf st) _ _ _) j<=gK (mirror (arrOf st) _ _ _) i;rw [qAY hsz same,qAY hsz same];by_cases hjn:j<lo+n
    ·rw [same i hl (by lia),same j (by lia) hjn]
     exact L6 _
    ·have ej:j=lo+n:=by lia
     rw [ej];by_cases ei:i=lo+n
     ·rw [ei];exact L6 _
     ·rw [same i hl (by lia)]
      exact k9 hlt
  ·refine gifF hgt ?_;have e1:n=1:=by lia
   rw [e1] at hlt;rw [e1];refine qP0 h0 g hm (by lia) ?_ h
   intro i j hl hij hj;by_cases ei:i=j
   ·rw [ei];exact L6 _
   ·have ei:i=lo:=by lia
    have ej:j=lo+1:=by lia
    rw [ei,ej];exact k9 hlt
end
end L2.G
namespace L2.G
open PySem PyProof.Rows
variable [NM]
def qCQ (xs:Array Keyed):List (Nat × Nat × Nat)->Nat->Nat->Prop
 | [],a,b=>a=b
 | r::rs,a,b=>r.1=a/\0<r.2.1/\gSeg xs a (a+r.2.1)/\qCQ xs rs (a+r.2.1) b
theorem qHR {xs:Array Keyed}:∀ {l:List (Nat × Nat × Nat)} {a b:Nat},qCQ xs l a b->a+l.length<=b
 | [],a,b,h=>by
  have:a=b:=h;simp
  lia
 | r::rs,a,b,h=>by
  have:=qHR h.2.2.2;have:=h.2.1;simp
  lia
theorem gruns_app {xs:Array Keyed}:∀ {l m:List (Nat × Nat × Nat)} {a b:Nat},qCQ xs (l++m) a b ↔ ∃ c,qCQ xs l a c/\qCQ xs m c b
 | [],m,a,b=>⟨fun h=>⟨a,rfl,h⟩,fun ⟨c,e,h⟩=>by cases (show a=c from e);exact h⟩
 | r::rs,m,a,b=>by
  constructor
  ·rintro ⟨h1,h2,h3,h4⟩;obtain ⟨c,q1,q2⟩:=gruns_app.mp h4;exact ⟨c,⟨h1,h2,h3,q1⟩,q2⟩
  ·rintro ⟨c,⟨h1,h2,h3,q1⟩,q2⟩;exact ⟨h1,h2,h3,gruns_app.mpr ⟨c,q1,q2⟩⟩
theorem qIN {xs ys:Array Keyed}:∀ {l:List (Nat × Nat × Nat)} {a b:Nat},(∀ k,a<=k->k<b->gK ys k=gK xs k)->qCQ xs l a b->qCQ ys l a b
 | [],a,b,_,h=>h
 | r::rs,a,b,e,h=>by
  have le:=qHR h.2.2.2;refine ⟨h.1,h.2.1,fun i j hl hij hj=>?_,qIN (fun k h1 h2=>e k (by lia) h2) h.2.2.2⟩
  rw [e i hl (by lia),e j (by lia) (by lia)]
  exact h.2.2.1 i j hl hij hj
theorem qSF {α:Type}:∀ {l:List α} {i:Nat},i+1<l.length->∃ pre x y post,l=pre++x::y::post/\pre.length=i
 | [],_,h=>by simp at h
 | [x],_,h=>by simp at h
 | x::y::r,0,_=>⟨[],x,y,r,rfl,rfl⟩
 | x::y::r,i+1,h=>by
  obtain ⟨pre,a,b,post,e,el⟩:=qSF (l:=y::r) (i:=i) (by simp at h ⊢;lia)
  exact ⟨x::pre,a,b,post,by rw [e];rfl,by simp [el]⟩
section
variable {prog:Program} {w:World} {A:Around} {E:Value->Shared->Prop} {s:Shared} {κ0:SortKind} [LtOk prog w A s κ0] {a₀:Array Keyed}
theorem qGY {st:SortSt} {i b:Nat} {Q:Bool->SortSt->Prop} (h0:qBL a₀) (g:gSG κ0 a₀ st) (r:qCQ (arrOf st) (pendingOf st).toList 0 b) (hb:b<=a₀.size) (hi:i+1<(pendingOf st).size)
  (h:∀ st2,gSG κ0 a₀ st2->qCQ (arrOf st2) (pendingOf st2).toList 0 b->(pendingOf st2).size+1=(pendingOf st).size->(∀ k,b<=k->gK (arrOf st2) k=gK (arrOf st) k)->Q true st2):wpS (model prog w) A E s (mergeAt' i) Q st:=by
 obtain ⟨pre,⟨sa,na,p⟩,⟨sb,nb,q⟩,post,e,el⟩:=qSF (l:=(pendingOf st).toList) (i:=i) (by simpa using hi)
 rw [e] at r;obtain ⟨c,r1,r2⟩:=gruns_app.mp r;obtain ⟨x1,x2,x3,y1,y2,y3,r4⟩:=r2;dsimp only at x1 x2 x3 y1 y2 y3 r4;subst x1;subst y1;have le:=qHR r4;refine qUL h0 g e el.symm x2 y2 (by lia) x3 y3 fun st2 g2 pe u o=>h st2 g2 ?_ ?_ fun k hk=>o k (.inr (by lia))
 ·rw [pe];refine gruns_app.mpr ⟨sa,qIN (fun k _ hk=>o k (.inl hk)) r1,rfl,by show 0<na+nb;lia,?_,?_⟩
  ·show gSeg _ sa (sa+(na+nb));rw [<- X7];exact u
  ·show qCQ _ post (sa+(na+nb)) b;rw [<- X7];exact qIN (fun k hk _=>o k (.inr hk)) r4
 ·have l1:=congrArg Q2 pe;have l2:=congrArg Q2 e;simp at l1 l2
  lia
theorem qMF (f:Nat × Nat × Nat->Nat × Nat × Nat) (y:Nat × Nat × Nat):∀ l:List (Nat × Nat × Nat),(l++[y]).modify l.length f=l++[f y]
 | []=>rfl
 | z::l=>by
  show z::(l++[y]).modify l.length f=z::(l++[f y]);rw [qMF f y l]
theorem qME {xs:Array Keyed} {p:Array (Nat × Nat × Nat)} {b pw:Nat} {f:Nat × Nat × Nat->Nat × Nat × Nat} (hf:∀ y,(f y).1=y.1/\(f y).2.1=y.2.1) (r:qCQ xs p.toList 0 b):qCQ xs (p.modify (p.size - 1) f).toList 0 b:=by
 rw [Array.toList_modify,<- C7];generalize p.toList=l at r;rcases List.eq_nil_or_concat l with e | ⟨l',y,e⟩
 ·rw [e] at r ⊢;exact r
 ·rw [e] at r ⊢;rw [List.concat_eq_append] at r ⊢;obtain ⟨c,q1,q2⟩:=gruns_app.mp r;rw [A4,B1,A36,qMF];refine gruns_app.mpr ⟨c,q1,?_⟩;obtain ⟨z1,z2,z3,z4⟩:=q2;have h1:=(hf y).1;have h2:=(hf y).2;refine ⟨h1.trans z1,by rw [h2];exact z2,by rw [h2];exact z3,by rw [h2];exact z4⟩
theorem qMB {st:SortSt} {Q:Unit->SortSt->Prop} (h0:qBL a₀) (g:gSG κ0 a₀ st) (hp:pendingOf st=#[]) (h:∀ st2,gSG κ0 a₀ st2->qCX (arrOf st2) a₀.size->Q () st2):wpS (model prog w) A E s sortRuns' Q st:=by
 rw [sortRuns'_eq];refine wpS_bind (wpS_get ?_);dsimp only;rw [g.size];refine wpS_bind (wpS_mono (wpS_forRange
  (I:=fun x c st2=>∃ lo,c=(none,lo)/\x<=lo/\lo<=a₀.size/\gSG κ0 a₀ st2/\qCQ (arrOf st2) (pendingOf st2).toList 0 lo)
  (Q:=fun c st2=>c.1=none/\gSG κ0 a₀ st2/\qCQ (arrOf st2) (pendingOf st2).toList 0 a₀.size) ?step ?fin ⟨0,rfl,A5 _,F0 _,g,by rw [hp];rfl⟩) ?post)
 case fin=>
  rintro c st2 ⟨lo,rfl,h1,h2,g2,r2⟩;have e:lo=a₀.size:=by lia
  rw [e] at r2;exact ⟨rfl,g2,r2⟩
 case post=>
  rintro ⟨c,lo⟩ st2 ⟨e,g2,r2⟩;cases (show c=none from e);dsimp only;have le:=qHR r2;refine wpS_bind (wpS_mono (wpS_forRange (I:=fun x c st3=>c=(none,())/\gSG κ0 a₀ st3/\qCQ (arrOf st3) (pendingOf st3).toList 0 a₀.size/\(pendingOf st3).size+x<=a₀.size)
   (Q:=fun c st3=>c=(none,())/\gSG κ0 a₀ st3/\qCQ (arrOf st3) (pendingOf st3).toList 0 a₀.size/\(pendingOf st3).size<=1) ?_ ?_ ⟨rfl,g2,r2,by simpa using le⟩) ?_)
  ·rintro x c st3 _ _ ⟨rfl,g3,r3,le3⟩;refine wpS_bind (wpS_get ?_);by_cases c1:(pendingOf st3).size<=1
   ·rw [if_pos c1];exact wpS_pure ⟨rfl,g3,r3,c1⟩
   ·rw [if_neg c1];refine wpS_bind (qGY h0 g3 r3 (A5 _) ?_ fun st4 g4 r4 l4 _=>?_)
    ·repeat' split
     all_goals lia
    ·rw [if_neg (by simp)]
     exact wpS_pure ⟨rfl,g4,r4,by lia⟩
  ·rintro c st3 ⟨e,g3,r3,le3⟩;exact ⟨e,g3,r3,by lia⟩
  ·rintro c st3 ⟨rfl,g3,r3,le3⟩;refine wpS_pure (h st3 g3 ?_);have l3:(pendingOf st3).toList.length<=1:=by simpa using le3
   generalize (pendingOf st3).toList=l at r3 l3
   match l,r3,l3 with
   | [],r3,_=>
    have e:0=a₀.size:=r3;intro i j _ hj
    lia
   | [r],r3,_=>
    have e:0+r.2.1=a₀.size:=r3.2.2.2;intro i j hij hj;exact r3.2.2.1 i j (F0 _) hij (by lia)
   | _::_::_,_,l3=>simp at l3
 case step=>
  rintro x c st2 _ hx ⟨lo,rfl,hxl,hlo,g2,r2⟩;dsimp only;by_cases c1:lo >= a₀.size
  ·rw [if_pos c1];have e:lo=a₀.size:=by lia
   rw [e] at r2;exact wpS_pure ⟨rfl,g2,r2⟩
  rw [if_neg c1];refine wpS_bind (qUN h0 g2 (by lia) (by lia) fun k st3 g3 pe3 k1 k2 u3 o3=>?_)
  have r3:qCQ (arrOf st3) (pendingOf st3).toList 0 lo:=by
   rw [pe3];exact qIN (fun j _ hj=>o3 j (.inl hj)) r2
  dsimp only;have tail:∀ (st5:SortSt) (n:Nat),gSG κ0 a₀ st5->1<=n->lo+n<=a₀.size->gSeg (arrOf st5) lo (lo+n)->qCQ (arrOf st5) (pendingOf st5).toList 0 lo->
    gSG κ0 a₀ (setPending st5 ((pendingOf st5).push (lo,n,0)))/\qCQ (arrOf st5) ((pendingOf st5).push (lo,n,0)).toList 0 (lo+n):=by
   intro st5 n g5 h1 h2 u5 r5;refine ⟨⟨g5.perm,g5.kind,g5.failed⟩,?_⟩;rw [U1];exact gruns_app.mpr ⟨lo,r5,rfl,h1,u5,rfl⟩
  by_cases c2:k<minRun' a₀.size a₀.size 0
  ·rw [if_pos c2];refine wpS_bind (wpS_lift (wpAny_rule ⟨rfl,?_⟩));refine wpS_bind (qUO h0 g3 (by lia) (by lia) u3 fun st4 g4 pe4 u4 o4=>?_)
   have r4:qCQ (arrOf st4) (pendingOf st4).toList 0 lo:=by
    rw [pe4];exact qIN (fun j _ hj=>o4 j (.inl hj)) r3
   rw [if_neg (by simp)]
   refine wpS_bind (wpS_get ?_);cases eb:(pendingOf st4).back? with
   | none=>
    dsimp only;refine wpS_bind (wpS_modify (wpS_pure ?_));obtain ⟨g9,r9⟩:=tail st4 (min (a₀.size - lo) (minRun' a₀.size a₀.size 0)) g4 (by lia) (by lia) u4 r4
    exact ⟨_,rfl,by lia,by lia,g9,r9⟩
   | some t=>
    obtain ⟨s1,n1,q1⟩:=t;dsimp only;refine wpS_bind (wpS_mono (wpS_forRange (I:=fun _ c st6=>c=(none,())/\gSG κ0 a₀ st6/\qCQ (arrOf st6) (pendingOf st6).toList 0 lo/\gSeg (arrOf st6) lo (lo+(min (a₀.size - lo) (minRun' a₀.size a₀.size 0))))
     (Q:=fun c st6=>c=(none,())/\gSG κ0 a₀ st6/\qCQ (arrOf st6) (pendingOf st6).toList 0 lo/\gSeg (arrOf st6) lo (lo+(min (a₀.size - lo) (minRun' a₀.size a₀.size 0)))) ?_ (fun _ _ q=>q) ⟨rfl,g4,r4,u4⟩) ?_)
    ·rintro x c st6 _ _ ⟨rfl,g6,r6,u6⟩;refine wpS_bind (wpS_get ?_);by_cases c7:(pendingOf st6).size > 1
     ·rw [if_pos c7];cases ep:(pendingOf st6)[(pendingOf st6).size - 2]? with
      | none=>
       dsimp only;exact wpS_pure ⟨rfl,g6,r6,u6⟩
      | some t=>
       obtain ⟨s2,n2,old⟩:=t;dsimp only
       split
       ·exact wpS_pure ⟨rfl,g6,r6,u6⟩
       ·refine wpS_bind (qGY h0 g6 r6 (by lia) (by lia) fun st7 g7 r7 _ o7=>?_)
        rw [if_neg (by simp)]
        refine wpS_pure ⟨rfl,g7,r7,fun i j hl hij hj=>?_⟩;rw [o7 i hl,o7 j (by lia)]
        exact u6 i j hl hij hj
     ·rw [if_neg c7];exact wpS_pure ⟨rfl,g6,r6,u6⟩
    ·rintro c st6 ⟨rfl,g6,r6,u6⟩;dsimp only;refine wpS_bind (wpS_modify (wpS_bind (wpS_modify (wpS_pure ?_))));obtain ⟨g9,r9⟩:=tail (setPending st6 ((pendingOf st6).modify ((pendingOf st6).size - 1) fun x=>(x.fst,x.2.fst,power' a₀.size (2 * s1+n1) (2 * s1+n1+n1+(min (a₀.size - lo) (minRun' a₀.size a₀.size 0))) a₀.size))) (min (a₀.size - lo) (minRun' a₀.size a₀.size 0)) ⟨g6.perm,g6.kind,g6.failed⟩ (by lia) (by lia) u6 (qME (pw:=0) (fun _=>⟨rfl,rfl⟩) r6)
     exact ⟨_,rfl,by lia,by lia,g9,r9⟩
  ·rw [if_neg c2];refine wpS_bind (wpS_get ?_);cases eb:(pendingOf st3).back? with
   | none=>
    dsimp only;refine wpS_bind (wpS_modify (wpS_pure ?_));obtain ⟨g9,r9⟩:=tail st3 k g3 (by lia) (by lia) u3 r3
    exact ⟨_,rfl,by lia,by lia,g9,r9⟩
   | some t=>
    obtain ⟨s1,n1,q1⟩:=t;dsimp only;refine wpS_bind (wpS_mono (wpS_forRange (I:=fun _ c st6=>c=(none,())/\gSG κ0 a₀ st6/\qCQ (arrOf st6) (pendingOf st6).toList 0 lo/\gSeg (arrOf st6) lo (lo+k))
     (Q:=fun c st6=>c=(none,())/\gSG κ0 a₀ st6/\qCQ (arrOf st6) (pendingOf st6).toList 0 lo/\gSeg (arrOf st6) lo (lo+k)) ?_ (fun _ _ q=>q) ⟨rfl,g3,r3,u3⟩) ?_)
    ·rintro x c st6 _ _ ⟨rfl,g6,r6,u6⟩;refine wpS_bind (wpS_get ?_);by_cases c7:(pendingOf st6).size > 1
     ·rw [if_pos c7];cases ep:(pendingOf st6)[(pendingOf st6).size - 2]? with
      | none=>
       dsimp only;exact wpS_pure ⟨rfl,g6,r6,u6⟩
      | some t=>
       obtain ⟨s2,n2,old⟩:=t;dsimp only
       split
       ·exact wpS_pure ⟨rfl,g6,r6,u6⟩
       ·refine wpS_bind (qGY h0 g6 r6 (by lia) (by lia) fun st7 g7 r7 _ o7=>?_)
        rw [if_neg (by simp)]
        refine wpS_pure ⟨rfl,g7,r7,fun i j hl hij hj=>?_⟩;rw [o7 i hl,o7 j (by lia)]
        exact u6 i j hl hij hj
     ·rw [if_neg c7];exact wpS_pure ⟨rfl,g6,r6,u6⟩
    ·rintro c st6 ⟨rfl,g6,r6,u6⟩;dsimp only;refine wpS_bind (wpS_modify (wpS_bind (wpS_modify (wpS_pure ?_))));obtain ⟨g9,r9⟩:=tail (setPending st6 ((pendingOf st6).modify ((pendingOf st6).size - 1) fun x=>(x.fst,x.2.fst,power' a₀.size (2 * s1+n1) (2 * s1+n1+n1+k) a₀.size))) k ⟨g6.perm,g6.kind,g6.failed⟩ (by lia) (by lia) u6 (qME (pw:=0) (fun _=>⟨rfl,rfl⟩) r6)
     exact ⟨_,rfl,by lia,by lia,g9,r9⟩
end
end L2.G
namespace L2
open PySem PySem.Spec PyProof.Rows
section
variable {prog:Program} {w:World} {A:Around} {E:Value->Shared->Prop} {s:Shared}
end
section
variable {X:Cx}
end
end L2
namespace L2
open PySem PySem.Spec PyProof.Rows
open PySem.AutoSeq1 in
section
variable {X:Cx}
end
end L2
namespace L2
open PySem PySem.Spec PyProof.Rows
noncomputable def topI (b:Int) (l:List Int):Int:=l.foldl (fun b x=>if x > b then x else b) b
theorem qQO:∀ (l:List Int) (b:Int),b<=topI b l/\(∀ x ∈ l,x<=topI b l)/\(topI b l=b\/topI b l ∈ l)
 | [],b=>⟨L6 _,(fun _ z=>nomatch z),.inl rfl⟩
 | y::l,b=>by
  obtain ⟨h1,h2,h3⟩:=qQO l (if y > b then y else b)
  have e:topI b (y::l)=topI (if y > b then y else b) l:=rfl
  rw [e];have hb:b<=(if y > b then y else b)/\y<=(if y > b then y else b):=by split <;> omega
  refine ⟨by omega,fun x hx=>?_,?_⟩
  ·rcases B7.mp hx with hx | hx
   ·omega
   ·exact h2 x hx
  ·rcases h3 with h3 | h3
   ·split at h3
    ·rw [if_pos (by assumption)]
     exact .inr (by rw [h3];exact G7)
    ·rw [if_neg (by assumption)]
     exact .inl h3
   ·exact .inr (A9 _ h3)
section
variable {prog:Program} {w:World} {A:Around} {R:Result->Shared->Prop} {I:Addr} {fp wr:List Addr} {n:Nat} {P:Nat->Value->Prop} {St:Nat->Heap->Prop}
theorem qWQ (W:Walks prog w A.in1 I fp wr n P St) (kw:List (Str × Value)) (ns:List Int) (hn:ns.length=n) (hval:∀ i v,P i v->∃ t,v=.int (ns.getD i 0) t) (S:Addr) (hSf:S ∉ fp) :
  ∀ (k j:Nat) (s:Shared) (b:Int) (t:Tok) (c:Nat),n - j=k->j<=n->St j s.heap->s.heap.get? S=some { cls:=.type "list",dict:=none,data:=.seq #[.int b t,.int b t] c,slots:=#[] }->
  (∀ t' h' tk,(∀ x o,x ∉ wr->x ≠ S->s.heap.get? x=some o->h'.get? x=some o)->R (.ok (.ret (.int (topI b (ns.drop j)) t'))) { s with heap:=h',toks:=tk })->
  codeAny (model prog w) A (.builtin "max.loop" ⟨[.ref I,.none,.ref S],kw⟩) R s:=by
 have hSw:S ∉ wr:=fun h=>hSf (W.sub _ h);have hname:(toString "max" ++ toString ".loop" : String) = "max.loop":=by decide
 intro k
 induction k with
 | zero=>
  intro j s b t c hk hj st hS hR;have e:j=n:=by omega
  refine codeAny_builtin t6 ?_;rw [E8 Q8 _];show wpAny _ A.in1 (seqItems? (.ref S) >>= _) _ _ s;refine wpAny_bind (wpAny_seqItems hS rfl ?_);show wpAny _ A.in1 (tryCatch (pyNext (.ref I)) _ >>= _) _ _ s;refine wpAny_bind (wpAny_tryCatch (W.done s _ _ (e ▸ st) fun h' tk hk'=>?_));show wpAny _ A.in1 (updateSeq S (fun _=>#[]) >>= _) _ _ _;refine wpAny_bind (wpAny_updateSeq (hk' S _ hSw hS) rfl (wpAny_bind (wpAny_letGo (wpAny_pure ?_))));rw [y7 (by omega)] at hR
  exact hR t _ tk fun x o hx hxS ex=>(C5 _ _ (G8 hxS)).trans (hk' x o hx ex)
 | succ k ih=>
  intro j s b t c hk hj st hS hR;have hlt:j<n:=by omega
  refine codeAny_builtin t6 ?_;rw [E8 Q8 _];show wpAny _ A.in1 (seqItems? (.ref S) >>= _) _ _ s;refine wpAny_bind (wpAny_seqItems hS rfl ?_);show wpAny _ A.in1 (tryCatch (pyNext (.ref I)) _ >>= _) _ _ s;refine wpAny_bind (wpAny_tryCatch (W.item j s _ _ hlt st fun v h' tk hP st' hk'=>?_));have hS':=hk' S _ hSw hS;obtain ⟨u,rfl⟩:=hval j v hP;have ed:ns.drop j=ns.getD j 0::ns.drop (j+1):=by
   have hj':j<ns.length:=by omega
   rw [W5 hj',B3,A8 hj']
   rfl
  rw [ed] at hR;generalize ns.getD j 0=y at hR hP ⊢;show wpAny _ A.in1 (tryCatch (holding [O0 y u,O0 y u] (richCompare .Gt (.int y u) (.int b t) >>= _)) _ >>= _) _ _ _;refine wpAny_bind (wpAny_tryCatch (wpAny_holding (wpAny_bind (richCompare_gives (op:=.Gt) (typeIs_int _ _ u) (typeIs_int _ _ t) F.slot_int_gt F.entry_int_gt (F.args_int_gt_2 _ _) (gives_int_gt _ _ u t) (fun x=>nomatch x) ?_))));refine wpAny_bind (wpAny_holding (wpAny_truthy_bool (wpAny_bind (wpAny_letGo (wpAny_pure ?_)))));by_cases hb:y > b
  ·rw [decide_eq_true hb,if_pos rfl];have et:topI b (y::ns.drop (j+1))=topI y (ns.drop (j+1)):=by show topI (if y > b then y else b) _=_;rw [if_pos hb]
   rw [et] at hR;refine wpAny_bind (wpAny_updateSeq hS' rfl (wpAny_bind (wpAny_letGo ?_)));rw [hname];refine wpAny_pure ⟨plainId_quiet Q8 _,ih (j+1) _ y u _ (by omega) hlt (W.frame _ _ _ st' fun x hx o ex=>?_) (G9 _ hS' rfl) fun t' h2 tk2 hk2=>?_⟩
   ·exact (C5 _ _ (fun z:S=x=>hSf (by rw [z];exact hx))).trans ex
   ·exact hR t' h2 tk2 fun x o hx hxS ex=>hk2 x o hx hxS ((C5 _ _ (G8 hxS)).trans (hk' x o hx ex))
  ·rw [decide_eq_false hb,if_neg B0];have et:topI b (y::ns.drop (j+1))=topI b (ns.drop (j+1)):=by show topI (if y > b then y else b) _=_;rw [if_neg hb]
   rw [et] at hR;refine wpAny_bind (wpAny_letGo ?_);rw [hname];exact wpAny_pure ⟨plainId_quiet Q8 _,ih (j+1) _ b t c (by omega) hlt st' hS' fun t' h2 tk2 hk2=>hR t' h2 tk2 fun x o hx hxS ex=>hk2 x o hx hxS (hk' x o hx ex)⟩
theorem qRY (W:Walks prog w A.in1 I fp wr n P St) (kw:List (Str × Value)) (ns:List Int) (hn:ns.length=n) (hval:∀ i v,P i v->∃ t,v=.int (ns.getD i 0) t) (S:Addr) (hSf:S ∉ fp) {s:Shared} {c:Nat} (st:St 0 s.heap)
  (hS:s.heap.get? S=some { cls:=.type "list",dict:=none,data:=.seq #[] c,slots:=#[] })
  (h1:∀ y r,ns=y::r->∀ t' h' tk,(∀ x o,x ∉ wr->x ≠ S->s.heap.get? x=some o->h'.get? x=some o)->R (.ok (.ret (.int (topI y r) t'))) { s with heap:=h',toks:=tk })
  (h2:ns=[]->∃ nm dv,kw=[(nm,dv)]/\∀ h' tk,(∀ x o,x ∉ wr->x ≠ S->s.heap.get? x=some o->h'.get? x=some o)->R (.ok (.ret dv)) { s with heap:=h',toks:=tk }) :
  codeAny (model prog w) A (.builtin "max.loop" ⟨[.ref I,.none,.ref S],kw⟩) R s:=by
 have hSw:S ∉ wr:=fun h=>hSf (W.sub _ h);have hname:(toString "max" ++ toString ".loop" : String) = "max.loop":=by decide
 refine codeAny_builtin t6 ?_;rw [E8 Q8 _];show wpAny _ A.in1 (seqItems? (.ref S) >>= _) _ _ s;refine wpAny_bind (wpAny_seqItems hS rfl ?_);show wpAny _ A.in1 (tryCatch (pyNext (.ref I)) _ >>= _) _ _ s;cases ns with
 | nil=>
  obtain ⟨nm,dv,rfl,h3⟩:=h2 rfl;refine wpAny_bind (wpAny_tryCatch (W.done s _ _ (hn ▸ st) fun h' tk hk'=>?_));show wpAny _ A.in1 (rule _ >>= fun _=>ret dv) _ _ _;exact wpAny_bind (wpAny_rule (wpAny_pure (h3 _ tk fun x o hx _ ex=>hk' x o hx ex)))
 | cons y r=>
  refine wpAny_bind (wpAny_tryCatch (W.item 0 s _ _ (by rw [<- hn];simp) st fun v h' tk hP st' hk'=>?_))
  have hS':=hk' S _ hSw hS;obtain ⟨u,rfl⟩:=hval 0 v hP;show wpAny _ A.in1 (updateSeq S (fun _=>#[O0 y u,O0 y u]) >>= _) _ _ _;refine wpAny_bind (wpAny_updateSeq hS' rfl ?_);rw [hname];refine wpAny_pure ⟨plainId_quiet Q8 _,qWQ W kw (y::r) hn hval S hSf _ 1 _ y u _ rfl (by rw [<- hn];simp) (W.frame _ _ _ st' fun x hx o ex=>?_) (G9 _ hS' rfl) fun t' h2 tk2 hk2=>?_⟩
  ·exact (C5 _ _ (fun z:S=x=>hSf (by rw [z];exact hx))).trans ex
  ·exact h1 y r rfl t' h2 tk2 fun x o hx hxS ex=>hk2 x o hx hxS ((C5 _ _ (G8 hxS)).trans (hk' x o hx ex))
end
section
variable {prog:Program} {w:World} {A:Around} {E:Value->Shared->Prop} {s:Shared}
theorem qHC {id:String} {b:Builtin} {args:List Value} {kw:List (Str × Value)} {Q:Value->Shared->Prop} (hk:builtinKind id=none) (hp:plainId id=true) (hb:entryFor table id=some b) (ha:argsOk id ⟨args,kw⟩)
  (hc:wpAny (model prog w) A.in1 (b ⟨args,kw⟩) (fun fin s'=>∃ c',fin=.again c'/\c'.quiet=true/\codeAny (model prog w) A c' (fun r s'=>∃ v,r=.ok (.ret v)/\Q v s') s') E s):wpAny (model prog w) A (call (.builtin id) args kw) Q E s:=by
 refine wpAny_call (codeAny_call_builtin hp hb ?_);have h2:=wpAny_mono hc (Q':=fun fin s'=>match fin with
   | .done f=>(match (Except.ok f:Result) with | .ok (.ret v)=>Q v s' | .ok _=>False | .error e=>E e s')
   | .again c'=>c'.quiet=true/\codeAny (model prog w) A c' (fun r s'=>match r with | .ok (.ret v)=>Q v s' | .ok _=>False | .error e=>E e s') s')
  (fun fin s' ⟨c',e,h1,h2⟩=>by subst e;exact ⟨h1,codeAny_mono h2 fun r s' ⟨v,e,q⟩=>by subst e;exact q⟩) fun _ _ h'=>h'
 simp only [checkBuiltinCall,hk];cases sg:Manifest.signature? id with
 | none=>exact wpAny_pure h2
 | some sig=>
  have ha':Bind.checkArgs id sig ⟨args,kw⟩=pure ():=by simpa only [argsOk,sg] using ha
  simp only [ha'];exact wpAny_pure h2
end
section
variable {X:Cx}
noncomputable def topD (dv:Option Int):List Int->Option Int
 | []=>dv
 | y::r=>some (topI y r)
end
end L2
namespace L2
open PySem PySem.Spec PyProof.Rows
section
variable {prog:Program} {w:World} {A:Around} {E:Value->Shared->Prop} {s:Shared}
end
section
variable {prog:Program} {w:World} {A:Around} {R:Result->Shared->Prop} {I:Addr} {fp wr:List Addr} {n:Nat} {P:Nat->Value->Prop} {St:Nat->Heap->Prop}
end
section
variable {prog:Program} {w:World} {A:Around} {E:Value->Shared->Prop} {s:Shared}
end
theorem qOP {α β:Type} {F:α->β->Prop}:∀ {l₁:List α} {l₂:List β} {i:Nat} {a:α},Paired F l₁ l₂->l₁[i]?=some a->∃ b,l₂[i]?=some b/\F a b
 | _,_,_,_,.nil,e=>by simp at e
 | _,_,0,_,.cons r _,e=>by simp at e;subst e;exact ⟨_,rfl,r⟩
 | _,_,i+1,a,.cons _ t,e=>by
  obtain ⟨b,h1,h2⟩:=qOP (i:=i) (a:=a) t (by simpa using e)
  exact ⟨b,by simpa using h1,h2⟩
section
variable {X:Cx}
end
end L2
namespace L2
open PySem PySem.Spec PyProof.Rows
section
variable {X:Cx}
def qZP (K:PySem.W.Frag):R2:=fun x y H Q=>∃ a b xs ys,x=.ref a/\y=.ref b/\SqT K H a xs/\SqT K H b ys/\ys ≠ []/\xs.length+ys.length<=sizeLine/\(xs=[]->Q (.ref b) H)/\(xs ≠ []->∀ p,H p=none->Q (.ref p) (Ah H p (.tup (xs++ys))))
theorem qRN:OpR X (binaryOp .Add) (qZP X.K):=by
 intro Ab s σ H x y v u Q I rx ry h;obtain ⟨a,b,xs,ys,rfl,rfl,ha,hb,hy,hz,q1,q2⟩:=h;by_cases hx:xs=[]
 ·subst hx;cases rx;cases ry;obtain ⟨its,r1,p1,_⟩:=I.tuple ha;obtain ⟨its2,r2,p2,_⟩:=I.tuple hb;cases r1;obtain ⟨⟨cls,dd,data,sl⟩,ho,hc,n,hd⟩:=id p1;obtain ⟨⟨cls2,dd2,data2,sl2⟩,ho2,hc2,n2,hd2⟩:=id p2;simp only at hc hd hc2 hd2;subst hc hd hc2 hd2;exact concat_meets ⟨_,ho,rfl⟩ ⟨_,ho2,rfl⟩ noFill_tuple_add seq_tuple_add U6 U3 (R8 _ _) (tuple_addW0 a b #[] its2.toArray n n2 dd dd2 sl sl2 rfl) ⟨ho,ho2,.ref b,H,I,rfl,q1 rfl⟩
 ·exact qRM Ab s σ H (.ref a) (.ref b) v u Q I rx ry ⟨a,b,xs,ys,rfl,rfl,ha,hb,hx,hz,fun z=>absurd z hy,fun _=>q2 hx⟩
end
end L2
namespace L2
open PySem
noncomputable def g5:Nat->Nat
 | 0=>0
 | n+1=>5 * g5 n+1
end L2
namespace L2
open PySem PySem.Spec PyProof.Rows
structure TabG (byText:Bool × Bool) (t:SetTable) (n:Nat):Prop where
 pow:∃ k,3<=k/\t.mask+1=2 ^ k
 dum:t.dummies=#[]
 plain:t.plain=byText.2
 led:t.led=!byText.1
 size:t.place.size=n
 up:t.place.toList.Pairwise (·<·)
 le:∀ j ∈ t.place.toList,j<=t.mask
section
variable {byText:Bool × Bool} {t:SetTable} {n:Nat}
end
end L2
namespace L2
open PySem PySem.Spec PyProof.Rows
section
variable {mask:Nat} {owner:Array (Option Nat)}
end
structure Own (N:Nat) (L:List Nat) (owner:Array (Option Nat)):Prop where
 size:owner.size=N
 nd:L.Nodup
 lt:∀ j ∈ L,j<N
 at_:∀ (m j:Nat),L[m]?=some j->owner[j]?=some (some m)
 no:∀ j,j<N->j ∉ L->owner[j]?=some none
end L2
namespace L2
open PySem PySem.Spec PyProof.Rows
section
variable {prog:Program} {w:World} {A:Around} {E:Value->Shared->Prop} {s:Shared}
end
section
variable {prog:Program} {w:World} {A:Around} {R:Result->Shared->Prop} {I:Addr} {fp wr:List Addr} {G:Array GenState->Array GenState->Prop} {n:Nat} {P:Nat->Value->Prop} {St:Nat->Shared->Prop}
end
section
variable {prog:Program} {w:World} {A:Around} {E:Value->Shared->Prop} {s:Shared}
end
section
variable {prog:Program} {w:World} {A:Around} {E:Value->Shared->Prop} {s:Shared} {a I:Addr} {es:Array (Int × Value)} {ep:Nat} {t:SetTable} {i:Nat}
end
section
variable {X:Cx}
end
end L2
namespace L2
open PySem PySem.Spec PyProof.Rows
section
variable {X:Cx}
def qZN (K:PySem.W.Frag):R2:=fun x y H Q=>∃ a b xs ys,x=.ref a/\y=.ref b/\SqT K H a xs/\SqT K H b ys/\((xs ≠ []/\H a=some (.tup xs))\/(ys ≠ []/\H b=some (.tup ys)))/\xs.length+ys.length<=sizeLine/\∀ p H',Same H H'->H' p=some (.tup (xs++ys))->Q (.ref p) H'
theorem qNH:OpR X (binaryOp .Add) (qZN X.K):=by
 intro Ab s σ H x y v u Q I rx ry h;obtain ⟨a,b,xs,ys,rfl,rfl,ha,hb,hd,hz,q⟩:=h;have nw:∀ p,H p=none->Q (.ref p) (Ah H p (.tup (xs++ys))):=fun p hp=>q p _ (fun b u e=>by rw [qA7 (qA5 e hp)];exact e) qA1
 rcases hd with ⟨hx,ga⟩ | ⟨hy,gb⟩
 ·exact qRM Ab s σ H (.ref a) (.ref b) v u Q I rx ry ⟨a,b,xs,ys,rfl,rfl,ha,hb,hx,hz,fun z=>q a H (fun _ _ e=>e) (by rw [z,L8];exact ga),fun _=>nw⟩
 ·exact qRN Ab s σ H (.ref a) (.ref b) v u Q I rx ry ⟨a,b,xs,ys,rfl,rfl,ha,hb,hy,hz,fun z=>q b H (fun _ _ e=>e) (by rw [z];exact gb),fun _=>nw⟩
end
section
variable {prog:Program} {w:World} {A:Around} {E:Value->Shared->Prop} {s:Shared}
end
section
variable {X:Cx}
end
end L2
namespace L2
open PySem PySem.Spec PyProof.Rows
structure Ex (B:Heap) (l:List Env) (e:Addr) (cls:Value) (dd:Option Addr) (nt:Bool) (h:Heap):Prop where
 stays:B.StaysIn h
 new:B.get? e=none
 frames:h.FunFrames B l
 rec_:∃ (oe:Obj) (vs:Array Value) (x1:Value),h.get? e=some oe/\oe.cls=cls/\oe.dict=dd/\oe.data=.fields vs/\vs[1]?=some x1/\
  ((x1=.none/\nt=false)\/∃ (T:Addr) (oT:Obj) (ts:Array Value) (x3:Value),x1=.ref T/\B.get? T=none/\T ≠ e/\h.get? T=some oT/\oT.data=.fields ts/\ts[3]?=some x3)
section
variable {M:Model} {A:Around} {E:Value->Shared->Prop} {s:Shared} {B:Heap} {env:Env} {outer l:List Env} {L e:Addr} {cls:Value} {dd:Option Addr} {nt:Bool} {Q:Unit->Shared->Prop}
end
end L2
namespace L2
open PySem PySem.Spec PyProof.Rows
def Kp (outer:List Env) (H':Hp) (h0:Heap) (b:Addr):Prop:=(∃ o,H' b=some o)\/((∃ o,h0.get? b=some o)/\b ∉ frs outer)
structure XD (P:Program) (w:World) (outer l:List Env) (H:Hp) (h0:Heap) (e:Addr) (cls:Value) (dd:Option Addr) (H':Hp) (B:Heap) (nt:Bool) (h:Heap):Prop where
 un:Un (frs outer) [] H H' h0 h
 hok:HOk P w H' h
 ex:Ex B l e cls dd nt h
 kp:∀ b o,h.get? b=some o->Kp outer H' h0 b->B.get? b=some o
 ne:H' e=none
 ge:h0.objs.size<=e
def XP (X:Cx) (G:XK) (ev:Value) (s':Shared):Prop:=X.A.frames=some X.stack/\∃ (e:Addr) (cls:Value) (dd:Option Addr) (H':Hp) (B:Heap) (nt:Bool),ev=.ref e/\s'.os=X.s₀.os/\AllBare s'.gens/\XD X.prog X.w X.outer X.stack X.H₀ X.s₀.heap e cls dd H' B nt s'.heap/\G cls dd H'
section
variable {X:Cx} {E:XK} {G:XK} {Ab:List (Addr × Obj)} {σ:St} {H:Hp} {s s':Shared}
end
section
variable {P:Program} {w:World} {K:PySem.W.Frag} {mg:Str->Option Value} {base:Heap}
end
end L2
namespace L2
open PySem PySem.Spec PyProof.Rows
section
variable {X:Cx} {Ab:List (Addr × Obj)} {σ:St} {H:Hp} {s:Shared} {ev:Value}
end
section
variable {X:Cx}
def Ends.off (D:Ends):Option Nat->Ends
 | none=>D
 | some j=>{ nx:=fun σ H=>D.nx (σ.set j none) H,rt:=D.rt,bk:=fun σ H=>D.bk (σ.set j none) H,ct:=fun σ H=>D.ct (σ.set j none) H }
end
end L2
namespace L2
open PySem PySem.Spec PyProof.Rows
noncomputable def bmV:List Value:=[.type "ValueError",.type "Exception",.type "BaseException",.type "object"]
noncomputable def xcIn (K:PySem.W.Frag) (C:Addr) (init:Option Value):Bool:=match K.lookup C with
 | some ⟨.type "type",_,.cls cd,sl⟩=>(match cd.mro,sl.toList with
  | .ref C'::bm,[_,_,_,_,some (.builtin n),_]=>C' == C && n == "ValueError.__new__" && !cd.hasDel && cd.hasDict && PySem.W.tailIn K bmV bm && PySem.W.nsOkIn K cd.ns && V5 K cd.ns "__init__" == some init
  | _,_=>false)
 | _=>false
structure XCls (K:PySem.W.Frag) (C:Addr) (init:Option Value):Prop where
 cls:xcIn K C init=true
 set:O9 K (.ref C) "__setattr__" = some (some (.builtin "object.__setattr__"))
 kp:M3 K (.ref C)=true
section
variable {prog:Program} {w:World} {A:Around} {E:Value->Shared->Prop} {h:Heap} {g:Array GenState} {d:Drawn} {t:Nat} {os:OsState} {K:PySem.W.Frag} {C x:Addr} {init:Option Value} {mA:Str->Option Value} {name:Str} {v:Value} {ns:List Str}
end
end L2
namespace L2
open PySem PySem.Spec PyProof.Rows
section
variable {prog:Program} {w:World} {A:Around} {R:Result->Shared->Prop} {h:Heap} {g:Array GenState} {d:Drawn} {t:Nat} {os:OsState} {K:PySem.W.Frag} {C fI:Addr} {rest:List Value}
end
section
variable {M:Model} {A:Around} {E:Value->Shared->Prop} {env:Env} {K:PySem.W.Frag} {C:Addr} {init:Option Value}
end
section
variable {X:Cx} {Ab:List (Addr × Obj)} {σ:St} {H:Hp} {s:Shared}
end
section
variable {X:Cx}
end
end L2
namespace L2
open PySem PySem.Spec PyProof.Rows
structure XGet (K:PySem.W.Frag) (C:Addr):Prop where
 ga:O9 K (.ref C) "__getattribute__" = some (some (.builtin "BaseException.__getattribute__"))
 gt:O9 K (.ref C) "__getattr__" = some none
 be:A31 K C (.type "BaseException")=some true
 hd:A41 K C=true
section
variable {prog:Program} {w:World} {A:Around} {E:Value->Shared->Prop} {s:Shared} {K:PySem.W.Frag} {x C:Addr} {ox:Obj} {od:Option Obj} {name:Str} {tk:Tok}
end
structure XTy (K:PySem.W.Frag) (C:Addr):Prop extends XGet K C where
 ca:O9 K (.ref C) "__class__" = some (some (.builtin "object.__class__"))
 cn:o5 K (.builtin "object.__class__") "__get__" = some (some (.builtin "getset_descriptor.__get__"))
 ct:A72 K (.builtin "object.__class__")=some true
 cm:A31 K C (.type "object")=some true
section
variable {K:PySem.W.Frag}
end
section
variable {X:Cx}
end
end L2
namespace L2
open PySem PySem.Spec PyProof.Rows
structure RoomH (k:Nat) (A:Around):Prop where
 dp:A.depth+3 * k+5<recursionLimit
 un:A.units+16 * k+200<cLine
structure FnOkH (P:Program) (w:World) (K:PySem.W.Frag) (mg:Str->Option Value) (base:Heap) (CX:CXT) (k:Nat) (f:Addr) (fd:FuncData) (ps:List Str) (sp:Sp):Prop where
 len:∀ vs H Q E,sp vs H Q E->vs.length=ps.length
 run:∀ (A:Around) (outer:List Env) (s:Shared) (H:Hp) (args:Args) (us:List Value) (vs:List V) (Q:VK) (E:XK),RoomH k A->Env0 P w K mg base A outer s H->BindsTo s fd args (ps.zip us)->Vals vs us->sp vs H Q E->
  codeAny (model P w) A (.call (.ref f) args) (CR CX outer P w H s Q E) s
section
variable {P:Program} {w:World} {K:PySem.W.Frag} {mg:Str->Option Value} {base:Heap}
end
section
variable {X:Cx} {CX:CXT} {k:Nat} {f C:Addr} {fd:FuncData} {ps:List Str} {sp:Sp} {dvs:List V} {ds:List Value} {E:XK} {x m:Str} {p pos apos:Pos} {e o:Expr} {es:List Expr} {ta:TE} {t:TA}
end
end L2
namespace L2
open PySem PySem.Spec PyProof.Rows
section
variable {X:Cx}
end
end L2
namespace L2
open PySem PySem.Spec PyProof.Rows
section
variable {prog:Program} {w:World} {A:Around} {E:Value->Shared->Prop} {s:Shared}
end
end L2
namespace L2
open PySem PySem.Spec PyProof.Rows
section
variable {X:Cx}
end
end L2
namespace L2
open PySem PySem.Spec PyProof.Rows
section
variable {X:Cx}
end
end L2
namespace L2
open PySem PySem.Spec PyProof.Rows
structure LcScopeO (X:Cx) (scope:Scope) (own:List Str) (fv:List Nat):Prop where
 kind:scope.kind=.function
 names:∀ y ∈ scope.names,y.2=.local->scope.names.lookup y.1=some .local
 cells:∀ y ∈ scope.names,y.2=.cell->scope.names.lookup y.1=some .cell
 frees:∀ y ∈ scope.names,y.2=.free->scope.names.lookup y.1=some .free
 free:∀ y ∈ scope.names,y.2=.free->X.env.kindOf y.1=some .cell\/X.env.kindOf y.1=some .free
 nd:(own++fv.map fun i=>X.N.getD i P5).Nodup
 fvs:∀ i ∈ fv,i<X.N.length/\scope.names.lookup (X.N.getD i P5)=some .free
 owns:∀ x ∈ own,scope.names.lookup x=some .local\/scope.names.lookup x=some .cell
section
variable {X:Cx} {Ab:List (Addr × Obj)} {σ:St} {H:Hp} {s:Shared}
end
section
variable {X:Cx} {tg iter elt:Expr} {ifs:List Expr} {scope:Scope} {pos:Pos} {own:List Str} {fv:List Nat} {wi:TI} {g:TG} {tc:TT} {te:TE}
end
end L2
namespace L2
open PySem PySem.Spec PyProof.Rows
section
variable {prog:Program} {w:World} {A:Around} {R:Result->Shared->Prop} {I:Addr} {fp wr:List Addr} {n:Nat} {P:Nat->Value->Prop} {St:Nat->Heap->Prop}
end
section
variable {prog:Program} {w:World} {A:Around} {E:Value->Shared->Prop} {s:Shared}
end
section
variable {X:Cx}
theorem qIB:OpR X (binaryOp .Add) (fun x y H Q=>∃ a b xs ys,x=.ref a/\y=.ref b/\H a=some (.tup xs)/\H b=some (.tup ys)/\xs.length+ys.length<=sizeLine/\∀ p H',Same H H'->H' p=some (.tup (xs++ys))->Q (.ref p) H'):=by
 intro Ab s σ H x y v u Q I rx ry h;obtain ⟨a,b,xs,ys,rfl,rfl,ga,gb,hz,q⟩:=h;by_cases hx:xs=[]
 ·subst hx;cases rx;cases ry;obtain ⟨its,r1,p1,_⟩:=I.tuple (SqT.of ga);obtain ⟨its2,r2,p2,_⟩:=I.tuple (SqT.of gb);cases r1;obtain ⟨⟨cls,dd,data,sl⟩,ho,hc,n,hd⟩:=id p1;obtain ⟨⟨cls2,dd2,data2,sl2⟩,ho2,hc2,n2,hd2⟩:=id p2;simp only at hc hd hc2 hd2;subst hc hd hc2 hd2;exact concat_meets ⟨_,ho,rfl⟩ ⟨_,ho2,rfl⟩ noFill_tuple_add seq_tuple_add U6 U3 (R8 _ _) (tuple_addW0 a b #[] its2.toArray n n2 dd dd2 sl sl2 rfl) ⟨ho,ho2,.ref b,H,I,rfl,q b H (fun _ _ e=>e) gb⟩
 ·exact qNH Ab s σ H (.ref a) (.ref b) v u Q I rx ry ⟨a,b,xs,ys,rfl,rfl,SqT.of ga,SqT.of gb,.inl ⟨hx,ga⟩,hz,q⟩
end
end L2
namespace L2
open PySem PySem.Spec PyProof.Rows
section
variable {X:Cx}
end
end L2
namespace L2
open PySem PySem.Spec PyProof.Rows
section
variable {prog:Program} {w:World} {A:Around} {E:Value->Shared->Prop} {s:Shared}
end
section
variable {prog:Program} {w:World} {A:Around} {E:Value->Shared->Prop} {s:Shared}
end
section
variable {X:Cx}
def qaG (H:Hp) (a:Addr) (xs:List V):Prop:=∃ o:Obj,H a=some (.frz o (.tup xs))/\o.cls=.type "tuple"/\o.dict=none
end
end L2
namespace L2
open PySem PySem.Spec PyProof.Rows
section
variable {X:Cx}
end
end L2
namespace HT
open PySem PySem.Spec PyProof.Rows
section
variable {prog:Program} {w:World} {A:Around} {E:Value->Shared->Prop} {s:Shared}
theorem getItem_tuple_whole {t sl:Addr} {Ae:Array Value} {vl vu:Value} {lo hi:Option Int} {Q:Value->Shared->Prop} (ht:IsTup s.heap t Ae) (hs:s.heap.IsSliceOf sl vl vu .none) (pl:IsPart vl lo) (pu:IsPart vu hi)
  (hw:sIx Ae.size 0 lo=0/\sIx Ae.size Ae.size hi=Ae.size) (h:Q (.ref t) s):wpAny (model prog w) A (getItem (.ref t) (.ref sl)) Q E s:=by
 obtain ⟨os,hos,hcs,hds⟩:=id hs;have hTs:s.TypeIs (.ref sl) "slice":=⟨os,hos,hcs⟩;unfold getItem
 try with_reducible refine wpAny_holding ?_
 first | refine wpAny_bind (wpAny_pure ?_) | skip
 refine wpAny_bind (wpAny_sequenceKey ht.typeIs (by decide) ?_)
 refine wpAny_bind (wpAny_callSpecial?_slot (name:=B6 "__getitem__") ht.typeIs G3
  (wpAny_call_entry G3 ht.typeIs entry_tuple_getitem ?_ (args_tuple_getitem _ _)))
 show wpAny _ _ (W0 (.ref t) >>= _) _ _ s;refine wpAny_bind (tupleItemsOf_ ht ?_);refine wpAny_bind (wpAny_typeOf hTs ?_);rw [if_pos (by decide)]
 refine wpAny_bind (qDV hs pl pu ?_);have hyes:(((sIx Ae.size 0 lo:Nat):Int) == 0 && (1:Int) == 1 && (sIx Ae.size Ae.size hi - sIx Ae.size 0 lo) == Ae.size)=true:=by
  rw [hw.1,hw.2];simp
 show wpAny _ _ (if (((sIx Ae.size 0 lo:Nat):Int) == 0 && (1:Int) == 1 && (sIx Ae.size Ae.size hi - sIx Ae.size 0 lo) == Ae.size)=true then _ else _) _ _ s
 rw [if_pos hyes];unfold j7;refine wpAny_bind (wpAny_bind (wpAny_typeOf ht.typeIs (wpAny_pure ?_)));rw [if_pos (by decide)]
 exact wpAny_bind (wpAny_rule (wpAny_pure ⟨_,rfl,wpAny_pure h⟩))
end
end HT
namespace L2
open PySem PySem.Spec PyProof.Rows
section
variable {X:Cx}
end
section
variable {A:Around} {s:Shared}
end
section
variable {X:Cx}
end
end L2
namespace L2
open PySem PySem.Spec PyProof.Rows
section
variable {X:Cx}
end
end L2
namespace L2
open PySem PySem.Spec PyProof.Rows
section
variable {X:Cx} {e:Expr} {te:TE} {st:Option Expr} {tst:TO} {pos p2:Pos}
end
end L2
namespace L2
open PySem PySem.Spec PyProof.Rows
section
variable {X:Cx}
end
end L2
namespace L2
open PySem PySem.Spec PyProof.Rows
section
variable {prog:Program} {w:World} {A:Around} {E:Value->Shared->Prop} {s:Shared}
end
section
variable {X:Cx}
theorem qHW:∀ (as:List Addr),Vals (as.map V.ref) (as.map C6)
 | []=>.nil
 | _::as=>.cons rfl (qHW as)
end
end L2
namespace L2
open PySem PySem.Spec PyProof.Rows
end L2
namespace L2
open PySem PySem.Spec PyProof.Rows
section
variable {prog:Program} {w:World} {A:Around} {R:Result->Shared->Prop} {h:Heap} {g:Array GenState} {d:Drawn} {t:Nat} {os:OsState} {K:PySem.W.Frag} {C fI:Addr} {rest:List Value}
end
end L2
namespace L2
open PySem PySem.Spec PyProof.Rows
section
variable {X:Cx}
def TB:Type:=(St->XK)->TS
end
end L2
namespace L2
open PySem PySem.Spec PyProof.Rows
section
variable {prog:Program} {w:World} {A:Around} {E:Value->Shared->Prop} {s:Shared}
end
section
variable {X:Cx} {pos:Pos}
end
end L2
namespace L2
open PySem PySem.Spec PyProof.Rows
section
variable {X:Cx} {tg:Expr}
end
end L2
namespace L2
open PySem PySem.Spec PyProof.Rows
section
variable {prog:Program} {w:World} {A:Around} {E:Value->Shared->Prop} {s:Shared} {it d:Addr} {i n ep:Nat} {od:Obj} {es:Array DictEntry}
theorem qML {Q:Value->Shared->Prop} (hT:s.TypeIs (.ref d) "dict") (hd:(d == sysModules)=false) (ho:s.heap.get? d=some od) (he:od.data=.dict es ep)
  (hQ:Q (.ref s.heap.objs.size) { s with heap:=s.heap.push { cls:=.type "dict_keyiterator",data:=.fields #[.ref d,rawInt 0,rawInt es.size,rawInt ep] } }):wpAny (model prog w) A (pyIter (.ref d)) Q E s:=by
 apply wpAny_pyIter_slot hT A62;refine wpAny_call_entry A62 hT F.entry_dict_iter ?go (F.args_dict_iter_1 (.ref d));unfold Builtin.«dict.__iter__»;apply wpAny_bind;unfold Builtin.Dict.dictSlotNone;apply wpAny_bind;apply wpAny_notOrdered_dict hT;apply wpAny_pure;apply wpAny_bind;apply wpAny_pure;apply wpAny_bind;unfold Builtin.Dict.showsAll;rw [hd];apply wpAny_pure;apply wpAny_bind;apply wpAny_dictEntries ho he;apply wpAny_bind;apply wpAny_dictEpoch ho he;apply wpAny_bind;refine wpAny_newObj_type ?made;apply wpAny_pure;exact ⟨_,rfl,"dict_keyiterator",_,⟨_,C1 _ rfl,rfl⟩,O4.lookup,hQ⟩
def qQG (h:Heap) (it d:Addr) (i n ep:Nat):Prop:=h.get? it=some { cls:=.type "dict_keyiterator",data:=.fields #[.ref d,rawInt i,rawInt n,rawInt ep] }
theorem qMM {Q:Option Value->Shared->Prop} (hit:qQG s.heap it d i es.size ep) (ho:s.heap.get? d=some od) (he:od.data=.dict es ep) (hi:i<es.size)
  (hQ:∀ h',qQG h' it d (i+1) es.size ep->Heap.SameBut it s.heap h'->Q (some es[i].key) { s with heap:=h' }):wpAny (model prog w) A (pyNext (.ref it)) Q E s:=by
 have hT:s.TypeIs (.ref it) "dict_keyiterator":=⟨_,hit,rfl⟩;unfold pyNext;apply wpAny_bind;apply wpAny_attempt;apply wpAny_callSpecial?_slot (name:=B6 "__next__") hT O4;refine wpAny_call_entry O4 hT b7 ?go (a8 (.ref it));apply wpAny_bind;apply wpAny_pure;apply wpAny_bind;apply wpAny_bind;apply wpAny_bind
 first | apply wpAny_typeNameOfWhole_keyiter hT | apply wpAny_typeNameOf_keyiter hT
 apply wpAny_pure;apply wpAny_bind;refine wpAny_fieldsOf hit rfl ?fs;have own0:d3 "dict_keyiterator" = false:=by decide
 have nn:((C6 d == Q7)=true)->False:=fun z=>by cases z
 simp only [own0,E1,if_false];show wpAny _ _ (if (C6 d == Q7)=true then _ else _) _ _ s
 rw [if_neg nn];apply wpAny_bind;apply wpAny_pure;apply wpAny_bind;apply wpAny_dictEntries ho he;rw [if_neg (by simp)]
 apply wpAny_bind;apply wpAny_pure;apply wpAny_bind;apply wpAny_dictEpoch ho he;rw [if_neg (by simp)]
 apply wpAny_pure;have pos:¬ ((i:Int)<0):=Int.not_lt.mpr (A37 i);simp only [pos,if_false,F9,B8 hi];apply wpAny_bind;apply wpAny_bind
 first | apply wpAny_typeNameOfWhole_keyiter hT | apply wpAny_typeNameOf_keyiter hT
 apply wpAny_pure;apply wpAny_bind;apply wpAny_isOneOf_keyiter hT;show wpAny _ _ (setField (.ref it) 1 (rawInt ((i:Int)+1)) >>= _) _ _ s;apply wpAny_bind;refine wpAny_setField hit rfl (by show 1<4;decide) ?set
 have hit':qQG (s.heap.update it (c9 (·.setIfInBounds 1 (rawInt ((i:Int)+1))))) it d (i+1) es.size ep:=G9 _ hit rfl;apply wpAny_bind;apply wpAny_holding;apply wpAny_bind;refine wpAny_isOneOf_keyiter (s:={ s with heap:=s.heap.update it (c9 (·.setIfInBounds 1 (rawInt ((i:Int)+1)))) }) ⟨_,hit',rfl⟩ ?one;apply wpAny_pure;apply wpAny_pure;exact ⟨_,rfl,wpAny_pure (hQ _ hit' (d8 ..))⟩
theorem qP6 {Q:Option Value->Shared->Prop} (hh:A.handled=none) (hit:qQG s.heap it d i es.size ep) (hi:es.size<=i) (ho:s.heap.get? d=some od) (he:od.data=.dict es ep)
  (hQ:∀ h',Heap.ExtBut it s.heap h'->Q none { s with heap:=h' }):wpAny (model prog w) A (pyNext (.ref it)) Q E s:=by
 have hT:s.TypeIs (.ref it) "dict_keyiterator":=⟨_,hit,rfl⟩;unfold pyNext;apply wpAny_bind;apply wpAny_attempt;apply wpAny_callSpecial?_slot (name:=B6 "__next__") hT O4;refine wpAny_call_entry O4 hT b7 ?go (a8 (.ref it));apply wpAny_bind;apply wpAny_pure;apply wpAny_bind;apply wpAny_bind;apply wpAny_bind
 first | apply wpAny_typeNameOfWhole_keyiter hT | apply wpAny_typeNameOf_keyiter hT
 apply wpAny_pure;apply wpAny_bind;refine wpAny_fieldsOf hit rfl ?fs;have own0:d3 "dict_keyiterator" = false:=by decide
 have nn:((C6 d == Q7)=true)->False:=fun z=>by cases z
 simp only [own0,E1,if_false];show wpAny _ _ (if (C6 d == Q7)=true then _ else _) _ _ s
 rw [if_neg nn];apply wpAny_bind;apply wpAny_pure;apply wpAny_bind;apply wpAny_dictEntries ho he;rw [if_neg (by simp)]
 apply wpAny_bind;apply wpAny_pure;apply wpAny_bind;apply wpAny_dictEpoch ho he;rw [if_neg (by simp)]
 apply wpAny_pure;have pos:¬ ((i:Int)<0):=Int.not_lt.mpr (A37 _);simp only [pos,if_false,F9,y8 hi];apply wpAny_bind;apply wpAny_bind
 first | apply wpAny_typeNameOfWhole_keyiter hT | apply wpAny_typeNameOf_keyiter hT
 apply wpAny_pure;show wpAny _ _ (setField (.ref it) 0 .none >>= _) _ _ s;apply wpAny_bind;refine wpAny_setField hit rfl (by show 0<4;decide) ?set
 have eb:Heap.ExtBut it s.heap (s.heap.update it (c9 (·.setIfInBounds 0 Q7))):=fun b o hb e=>(C5 _ _ (G8 hb)).trans e;show wpAny _ _ (newExc (.type "StopIteration") [] >>= _) _ _ _;apply wpAny_bind;simp only [newExc,newTuple];apply wpAny_bind;refine wpAny_newObj_type ?t1 (by size_fits)
 refine wpAny_bind (m:=firstArgMember _ _) (wpAny_of_eq (a:=Q7) (by first | rfl | (simp only [firstArgMember];rfl)) ?t2)
 refine wpAny_newObj_type ?t3 (by size_fits)
 simp only [raiseNew];apply wpAny_bind;apply wpAny_handled;rw [show A.in1.handled=none from hh]
 first | apply wpAny_throw | (apply wpAny_bind;apply wpAny_pure;apply wpAny_throw)
 apply wpAny_bind;refine wpAny_isInstance (T:="StopIteration") (b:=true) ⟨_,C1 _ rfl,rfl⟩ isSubtype_stop ?t4;exact wpAny_pure (hQ _ ((eb.push _).push _))
end
section
variable {X:Cx} {tg:Expr}
def qZD (t:TE):TE:=fun σ H Q=>t σ H fun v H1=>∃ d Ag,v=.ref d/\H1 d=some (.dT Ag)/\∀ o,Q v (Ah H1 d (.frz o (.dT Ag)))
theorem Inv.freezeT {Ab:List (Addr × Obj)} {σ:St} {H:Hp} {s:Shared} {d:Addr} {Ag:List (List KI × V)} (I:Inv X Ab σ H s) (h:H d=some (.dT Ag)):∃ o,Inv X Ab σ (Ah H d (.frz o (.dT Ag))) s:=by
 have ok:=I.hok d _ h;obtain ⟨hz,hd,xs,rel,o,es,ep,ho,r⟩:=id ok;refine ⟨o,I.write (h':=s.heap) (t':=s.toks) (x:=d) (e:=d) (o:=.frz o (.dT Ag)) (by rw [h];trivial) (.inl rfl) (fun b u _ q=>q) ⟨o,ho⟩ ⟨ho,?_⟩⟩
 refine (show ObjOk X.prog X.w H s.heap d (.dT Ag) from ok).stay (fun b u _ q=>q) (fun b q=>?_) (fun b ys q=>?_) fun b t q=>?_
 ·rw [qA7 (qCD q h (by intro z;cases z))];exact q
 ·rw [qA7 (qCD q h (by intro z;cases z))];exact q
 ·rw [qA7 (qCD q h (by intro z;cases z))];exact q
theorem qRI {e:Expr} {t:TE} (he:PE X e t):PE X e (qZD t):=by
 intro Ab s σ H Q I h;refine thn (he Ab s σ H _ I h) fun v s1 ⟨x,H1,I1,r1,d,Ag,e,hd,q⟩=>?_;obtain ⟨o,I2⟩:=I1.freezeT hd;exact ⟨x,_,I2,r1,q o⟩
def ItT (a:Addr) (o:Obj) (Ag:List (List KI × V)):It:=
 ⟨fun i H=>i<Ag.length/\H a=some (.frz o (.dT Ag)),fun i H x H'=>H'=H/\∃ k v r,Ag[i]?=some (k,v)/\x=.ref r/\H r=some (.tup (k.map kI)),fun i H=>Ag.length<=i/\H a=some (.frz o (.dT Ag))⟩
theorem Inv.heldT {Ab:List (Addr × Obj)} {σ:St} {H:Hp} {s:Shared} {d:Addr} {o:Obj} {Ag:List (List KI × V)} (I:Inv X Ab σ H s) (h:H d=some (.frz o (.dT Ag))) :
  s.heap.get? d=some o/\(d == sysModules)=false/\o.cls=.type "dict"/\∃ es ep,o.data=.dict es ep/\es.size=Ag.length/\∀ (i:Nat) (hi:i<es.size),∃ k v r,Ag[i]?=some (k,v)/\es[i].key=.ref r/\H r=some (.tup (k.map kI)):=by
 obtain ⟨ho,hz,hd,xs,rel,o',es,ep,ho',hc,hdat,eq,nd⟩:=(show ObjOk X.prog X.w H s.heap d (.frz o (.dT Ag)) from I.hok d _ h);rw [ho] at ho';cases ho';have lx:xs.length=Ag.length:=rel.length.symm;have le:es.size=xs.length:=by rw [<- C7,eq,A0]
 refine ⟨ho,hd,hc.1,es,ep,hdat,le.trans lx,fun i hi=>?_⟩;have hi2:i<xs.length:=by lia
 have hi3:i<Ag.length:=by lia
 have h1:=A8 hi3;obtain ⟨x,hx,e1,e2,e3⟩:=qOP rel h1;refine ⟨Ag[i].1,Ag[i].2,x.2.1,h1,?_,e2⟩;have h3:es[i]?=some (entryOfKey (qM0 X.prog X.w) x):=by rw [<- E4,eq,D0,hx];rfl
 rw [B8 hi] at h3;rw [D3 h3]
 rfl
theorem qPI {P:Program} {w:World} {K:PySem.W.Frag} {tg:Expr} (a it:Addr) (o:Obj) (Ag:List (List KI × V)) (ep:Nat) (es:_) (ho:o.data=.dict es ep):Turn P w K tg (ItT a o Ag) [it] it (fun i h=>qQG h it a i Ag.length ep) where
 mem:=by simp
 obj:=fun i h st b hb=>by
  have e:b=it:=by simpa using hb
  subst e;exact ⟨_,st,fun v z=>by cases z⟩
 keep:=fun i h h' st k=>k it (by simp) _ st
 item:=by
  intro X hP hw hK hc i Ab s σ H E I hf st hg;subst hP hw hK;obtain ⟨hi,hq⟩:=hg;obtain ⟨e1,e2,e3,es',ep',e4,e5,get⟩:=I.heldT hq;rw [ho] at e4;cases e4;obtain ⟨f0,f1,f2,f3,f4,f5⟩:=hf it (by simp)
  rw [<- e5] at st;have hi2:i<es.size:=by lia
  obtain ⟨k,v,r,g1,g2,g3⟩:=get i hi2;refine qMM st e1 ho hi2 fun h' hit' hs'=>?_;have I1:Inv X Ab σ H { s with heap:=h' }:=I.turned (t':=s.toks) (fun b o hb e=>(hs'.2 b hb).trans e) f0 f1 f3 f4 f5;rw [e5] at hit';rw [g2];exact ⟨.ref r,rfl,qUP (s:={ s with heap:=h' }) hit' rfl rfl (by decide) ⟨.ref r,H,I1,rfl,⟨rfl,k,v,r,g1,rfl,g3⟩,hit',fun b hb=>(hf b hb).1⟩⟩
 done:=by
  intro X hP hw hK hc i Ab s σ H E I hf st hg;subst hP hw hK;obtain ⟨hi,hq⟩:=hg;obtain ⟨e1,e2,e3,es',ep',e4,e5,get⟩:=I.heldT hq;rw [ho] at e4;cases e4;obtain ⟨f0,f1,f2,f3,f4,f5⟩:=hf it (by simp)
  rw [<- e5] at st;exact qP6 (I.ok.hd hc) st (by lia) e1 ho fun h' eb=>⟨rfl,I.turned (t':=s.toks) (fun b o hb e=>eb b o hb e) f0 f1 f3 f4 f5⟩
 self:=fun _ _ _ _ _ st h=>wpAny_pyIter_keyiter ⟨_,st,rfl,rfl⟩ h
def qYO (tl:TE):TI:=fun σ H R=>tl σ H fun x H1=>∃ a o Ag,x=.ref a/\H1 a=some (.frz o (.dT Ag))/\R (ItT a o Ag) H1
theorem qON {l:Expr} {tl:TE} (hl:PE X l tl):PI X tg l (qYO tl):=by
 intro Ab s σ H R I h;refine thn (hl Ab s σ H _ I h) fun v s1 ⟨x,H1,I1,r1,q1⟩=>?_;obtain ⟨a,o,Ag,e,hq,q⟩:=q1;subst e;cases r1;obtain ⟨e1,e2,e3,es,ep,e4,e5,get⟩:=I1.heldT hq;refine qML ⟨_,e1,e3⟩ e2 e1 e4 ?_;refine ⟨s1.heap.objs.size,[s1.heap.objs.size],_,_,H1,rfl,I1.kept (t':=s1.toks) fun b o e=>A3 _ e,qPI a _ o Ag ep es e4,by rw [e5];exact C1 _ rfl,fun b hb=>?_,q⟩
 have e:b=s1.heap.objs.size:=by simpa using hb
 subst e;exact I1.fpOk (A5 _) (I1.hok.fresh (A5 _))
end
theorem qOX {a:Addr} {o:Obj} {Ag:List (List KI × V)} {g:TG} {tc:TT} {te:TE} {Kf:Hp->Prop} {σ0:St} {H0:Hp} {p:Addr} (Pv:Nat->St->Hp->Prop) (h0:Pv 0 σ0 H0) (hl:∀ i σ H,i<=Ag.length->Pv i σ H->H a=some (.frz o (.dT Ag)))
  (hs:∀ i k v r σ H,Ag[i]?=some (k,v)->H r=some (.tup (k.map kI))->Pv i σ H->g (.ref r) σ H fun σ2 H2=>tc σ2 H2 fun b H3=>if b=true then te σ2 H3 fun y H4=>∃ ys,H4 p=some (.lst ys)/\ys.length<sizeLine/\Pv (i+1) σ2 (Ah H4 p (.lst (ys++[y]))) else Pv (i+1) σ2 H3)
  (hd:∀ σ H,Pv Ag.length σ H->Kf H) :
  LcG (ItT a o Ag) g tc te Kf σ0 H0 p:=by
 refine ⟨fun i m σ H=>m=Ag.length - i/\i<=Ag.length/\Pv i σ H,⟨Ag.length,by simp,F0 _,h0⟩,?_⟩
 rintro i m σ H ⟨rfl,hi,q⟩;have hq:=hl i σ H hi q;by_cases hlt:i<Ag.length
 ·refine .inr ⟨⟨hlt,hq⟩,Pv (i+1),fun σ' H' p'=>⟨Ag.length - (i+1),by lia,rfl,hlt,p'⟩,fun x H' y=>?_⟩
  obtain ⟨e,k,v,r,e2,e3,e4⟩:=y;subst e e3;exact hs i k v r σ _ e2 e4 q
 ·have e:i=Ag.length:=by lia
  subst e;exact .inl ⟨⟨A5 _,hq⟩,hd σ H q⟩
section
variable {X:Cx} {k v:Expr} {tk tv:TE} {pos:Pos}
def qW2 (tk tv:TE):TE:=fun σ H Q=>∀ p,H p=none->tk σ (Ah H p (.dT [])) fun x H1=>tv σ H1 fun y H2=>H2 p=some (.dT [])/\∃ b ks,x=.ref b/\H2 b=some (.tup (ks.map kI))/\Q (.ref p) (Ah H2 p (.dT [(ks,y)]))
theorem qLU (hu:X.A.units+2<cLine) (hk:PE X k tk) (hv:PE X v tv):PE X (.Dict [some k] [v] pos) (qW2 tk tv):=by
 intro Ab s σ H Q I q;have hn:=I.hok.fresh (A5 s.heap.objs.size);have I1:=I.laid (a:=s.heap.objs.size) (o:=.dT []) (h':=s.heap.push { cls:=.type "dict",data:=.dict #[] }) (t':=s.toks) (fun _ _ q=>A3 _ q) (A5 _) (qUT s.heap I.big);rw [arm_eval_Dict,zip_pairTrees [some k] [v] X.env pos rfl rfl,dictDisplay_pairs _ (by intro z;cases z) (by show 1<17;decide)]
 apply wpAny_bind;apply wpAny_standAt;apply wpAny_bind;unfold subDict;apply wpAny_bind;refine wpAny_alloc ?_;apply wpAny_bind;apply wpAny_holding;rw [if_pos (show (pairTrees [some k] [v] X.env pos).length<=15 by show 1<=15;decide)]
 apply wpAny_bind;refine pairTrees_cons_walk (thn (hk Ab _ σ _ _ I1 (q _ hn)) fun u s1 ⟨x,H1,I2,rx,q1⟩=>thn (hv Ab _ σ _ _ I2 q1) fun r s2 ⟨y,H2,I3,ry,e,b,ks,ex,eb,q2⟩=>pairTrees_nil_walk ?_);subst ex;obtain rfl:u=C6 b:=rx;apply wpAny_holding;obtain ⟨z,hd,xs,rel,dd⟩:=qYU I3.hok e;have hz:xs.length<=sizeLine:=by rw [<- B9 rel];exact z
 apply wpAny_bind;simp only [A73,List.forIn_nil];apply wpAny_bind;apply wpAny_bind;refine wpAny_dictSet_heap (knd:=qM0 X.prog X.w) (hsz:=hz) ?_ (qJV I3.hok eb) dd fun h' dd' hs=>?_
 ·exact n8 hu
 apply wpAny_pure;apply wpAny_pure;apply wpAny_pure;apply wpAny_pure;apply wpAny_pure;refine ⟨.ref s.heap.objs.size,_,?_,rfl,q2⟩;obtain ⟨o2,es,ep,hq,h2,h3,h4,_,h5⟩:=dd';refine qL5 I3 (by rw [e];exact d4) hs ⟨o2,hq⟩ ⟨F3 (show 1<=2 by decide) (by decide),hd,_,(rel.put ks eb ry).keeps fun c ys ec=>?_,o2,es,ep,hq,h2,h3,h4,h5⟩
 rw [qA7 (qCD ec e (fun z=>nomatch z))];exact ec
end
noncomputable def kOf:Stmt->Expr
 | .Assign _ (.Dict [some k] _ _) _=>k
 | _=>.Name "" ⟨0,0,0,0⟩
noncomputable def vOf:Stmt->Expr
 | .Assign _ (.Dict _ [v] _) _=>v
 | _=>.Name "" ⟨0,0,0,0⟩
theorem qWG {X:Cx} {e:Expr} (h:∃ n p,e=.Tuple [] n p):PE X e (tTup tNil):=by
 obtain ⟨n,p,rfl⟩:=h;exact qBH qA4
theorem qRH {X:Cx} {e:Expr} (h:∃ a1 a2 b1 b2 c1 c2 n p,e=.Tuple [.Constant (.int 0) a1 a2,.Constant .none b1 b2,.Constant .none c1 c2] n p):PE X e (tTup (qLH (tC (.int 0)) (qLH (tC .non) (qLH (tC .non) tNil)))):=by
 obtain ⟨_,_,_,_,_,_,n,p,rfl⟩:=h;exact qBH (qA0 qA6 (qA0 qE7 (qA0 qE7 qA4)))
end L2
namespace L2
open PySem PySem.Spec PyProof.Rows
theorem qTG {p:Pos} {a b:Int} {c cv:Value}:∀ {l:List Value},TriplesOk l->codeAmong p (l++[rawInt a,rawInt b,c])=some cv->codeAmong p l=some cv\/cv=c:=by
 intro l h e
 fun_induction TriplesOk l with
 | case1=>
  simp only [X9,rawInt,codeAmong] at e
  split at e
  ·exact .inr (D3 e).symm
  ·cases e
 | case2 a' t b' u x rest ih=>
  simp only [A60,codeAmong] at e ⊢
  split at e
  ·rename_i hc
   rw [if_pos hc];exact .inl e
  ·rename_i hc
   rw [if_neg hc];exact ih h e
 | case3 l h1 h2=>exact h.elim
def BM (mg:Str->Option Value) (h:Heap):Prop:=∃ bm ob,mg "__builtins__" = some (.ref bm)/\bm ≠ builtinsNs/\h.get? bm=some ob/\ob.cls=.type "module"/\ob.dict=some builtinsNs/\ob.data=.plain
section
variable {X:Cx} {Ab:List (Addr × Obj)} {σ:St} {H:Hp} {s:Shared}
noncomputable abbrev lamO (X:Cx) (q:Str) (params:Arguments) (body:Expr) (scope:Scope) (cc:Addr) (ctv:Value):Obj:=
 { cls:=.type "function",data:=.func (U5 "<lambda>" q params body scope (qGO X.env scope.names []) ((X.mg "__name__").getD .none) (.ref cc) ctv) }
theorem qYR {params:Arguments} {body:Expr} {scope:Scope} {pos:Pos} {c P:Addr} {q:Str} {Q:Value->Shared->Prop} {E:Value->Shared->Prop}
  (I:Inv X Ab σ H s) (hb:BM X.mg X.base) (hcode:X.env.code=.ref c) (C:PySem.W.CodeHd X.base c P) (hP:H P=some (.tbl (.tab q))) (hq:X.env.qual ++ "<lambda>" = q)
  (hfr:∀ x,(x,J4) ∈ scope.names->∃ c,X.env.cells.lookup x=some c) (hdef:defaultsOf params X.env=([],[]))
  (h:∀ (f cc:Addr) (ctv:Value) (s':Shared) (H':Hp),Inv X Ab σ H' s'->(∀ b o,H b=some o->H' b=some o)->H' cc=some (.tbl (.cod q))->
   s'.heap.get? f=some (lamO X q params body scope cc ctv)->s.heap.objs.size<=f->H' f=none->Q (.ref f) s') :
  wpAny (model X.prog X.w) X.A (eval (.Lambda params body scope pos) X.env) Q E s:=by
 obtain ⟨more,hPo,tr,ent⟩:=(show ObjOk X.prog X.w H s.heap P (.tbl (.tab q)) from I.hok P _ hP);have hg:s.heap.Ns mainGlobals X.mg:=I.ok.mod.glob.keeps I.bk;have nP:∀ b o,X.base.get? b=some o->b ≠ P:=fun b o e z=>by
  have:=(I.bs b o e).2;rw [z,hP] at this;cases this
 have hgP:mainGlobals ≠ P:=by
  obtain ⟨o,es,ep,e,_⟩:=I.ok.mod.glob;exact nP _ _ e
 have hbP:s.heap.BuiltinsAt X.mg P:=by
  obtain ⟨bm,ob,b1,b2,b3,b4,b5,b6⟩:=hb;refine ⟨bm,ob,b1,b2,?_,nP _ _ b3,I.bk _ _ b3,b4,b5,b6⟩;rintro rfl;obtain ⟨o,es,ep,e,hd,_⟩:=I.ok.mod.glob;rw [e] at b3;cases b3;rw [hd] at b6;cases b6
 refine PySem.W.kla_eval hdef ?_;rw [hq];cases hca:codeAmong pos more.toList with
 | some cv=>
  obtain ⟨cc,rfl,hcc⟩:=ent pos cv hca;refine PySem.W.kla_makeFunctionHit (qH5 hfr) I.ok.glob hg hcode (C.keeps I.bk) hPo tr hca hbP fun ctv h' tk hk hsz=>?_;exact h h'.objs.size cc ctv _ H (I.kept (t':=tk) fun b u e=>A3 _ (hk b u e)) (fun _ _ z=>z) hcc (C1 _ rfl) hsz (I.hok.fresh hsz)
 | none=>
  refine PySem.W.kla_makeFunction (qH5 hfr) I.ok.glob hg hcode (C.keeps I.bk) hPo tr hca hgP hbP fun c' ctv h' tk hx hge hlt hrec htb=>?_;have hc0:H c'=none:=I.hok.fresh hge;have up:∀ b o,H b=some o->(Ah H c' (.tbl (.cod q))) b=some o:=fun b o e=>by rw [qA7 (qA5 e hc0)];exact e
  have neP:∀ b,H b=none->b ≠ P:=fun b n z=>by rw [z,hP] at n;cases n
  have I':Inv X Ab σ (Ah H c' (.tbl (.cod q))) { s with heap:=h'.push (lamO X q params body scope c' ctv),toks:=tk }:=by
   refine I.step (g':=s.gens) (d':=s.drawn) (ch:=[]) (fun _ z=>nomatch z) (fun b o _ _ _ e n=>A3 _ (hx b o (neP b n) e)) (fun b o _ _ _ e n=>⟨o.slots,A3 _ (hx b o (neP b n) e)⟩)
    (fun b o _ e n=>by rw [qA7 (D6 (D4 (C0 e) hge))];exact n) (fun b o _ e=>?_) (fun b xs e=>up _ _ e) (fun b o u e=>up _ _ e) (fun b t e=>up _ _ e) (fun m hm=>(hm.extBut hx (neP _ I.free)).push _) (fun b u e=>?_) I.bare
   ·by_cases hb':b=P
    ·exact ⟨_,A3 _ (hb' ▸ htb)⟩
    ·exact ⟨o,A3 _ (hx b o hb' e)⟩
   ·by_cases hbc:b=c'
    ·subst hbc;rw [qA1] at e;cases e;obtain ⟨c₂,oc,vs,t,e2,hoc,r⟩:=hrec;cases e2;exact ⟨b,oc,vs,t,rfl,A3 _ hoc,r⟩
    ·rw [qA7 hbc] at e;by_cases hb':b=P
     ·subst hb';rw [hP] at e;cases e;refine ⟨_,A3 _ htb,?_,fun pos' cv z=>?_⟩
      ·rw [D8];exact TriplesOk_snoc _ _ _ _ tr
      ·rw [D8] at z;rcases qTG tr z with z | z
       ·obtain ⟨c2,e1,e2⟩:=ent pos' cv z;exact ⟨c2,e1,up _ _ e2⟩
       ·exact ⟨c',z,qA1⟩
     ·refine (I.hok b u e).stay (fun c2 v hc2 z=>A3 _ (hx c2 v ?_ z)) (fun c2 z=>up _ _ z) (fun c2 xs z=>up _ _ z) fun c2 t z=>up _ _ z;rcases hc2 with z | z
      ·rw [z];exact hb'
      ·intro z2;rw [z2,hP] at z;cases z
  exact h h'.objs.size c' ctv _ _ I' up qA1 (C1 _ rfl) (by lia) (by rw [qA7 (X3 hlt)];exact I.hok.fresh (by lia))
structure LmScope (X:Cx) (scope:Scope) (p:Str) (fv:List Nat):Prop where
 kind:scope.kind=.function
 co:scope.isCoroutine=false
 gen:scope.isGenerator=false
 nocell:∀ y ∈ scope.names,y.2 ≠ .cell
 par:scope.names.lookup p=some .local
 free:∀ y ∈ scope.names,y.2=.free->X.env.kindOf y.1=some .cell\/X.env.kindOf y.1=some .free
 fvs:∀ i ∈ fv,i<X.N.length/\scope.names.lookup (X.N.getD i P5)=some .free
structure LmZ where
 A:Around
 f:Addr
 cd:Value
 s₀:Shared
 H₀:Hp
 rm:Room 0 A
noncomputable abbrev lmEnv (X:Cx) (scope:Scope) (q:Str) (z:LmZ):Env:=PySem.W.envX q scope z.s₀.heap.objs.size z.f z.cd (qGO X.env scope.names [])
noncomputable def lmCx (X:Cx) (scope:Scope) (p:Str) (fv:List Nat) (q:Str) (z:LmZ):Cx where
 prog:=X.prog
 w:=X.w
 K:=X.K
 mg:=X.mg
 base:=X.base
 A:=z.A.deeper (lmEnv X scope q z)
 N:=p::fv.map fun i=>X.N.getD i P5
 s₀:=z.s₀
 H₀:=z.H₀
 env:=lmEnv X scope q z
 outer:=X.stack
 stack:=lmEnv X scope q z::X.stack
 ex:=[]
 fn:=fun _=>false
 calm:=true
 pn:=[]
 xe:=noX
theorem LmScope.fr {scope:Scope} {p:Str} {fv:List Nat} (S:LmScope X scope p fv) (I:Inv X Ab σ H s):∀ x,(x,J4) ∈ scope.names->∃ c,X.env.cells.lookup x=some c:=fun x hx=>I.ok.has x (S.free _ hx rfl)
theorem qZY {scope:Scope} {p:Str} {fv:List Nat} {q:Str} {A:Around} {f:Addr} {cd:Value} (rm:Room 0 A) (I:Inv X Ab σ H s) (S:LmScope X scope p fv) (hA:A.frames=some X.stack) :
  (lmCx X scope p fv q ⟨A,f,cd,s,H,rm⟩).Ok:=by
 have hfr:=S.fr I;have sub:=qEM (env:=X.env) (names:=scope.names) (acc:=[]) hfr (fun x c z=>by simp at z)
 have noA:∀ b:Addr,b ∉ (lmCx X scope p fv q ⟨A,f,cd,s,H,rm⟩).ex:=fun b z=>absurd (show b ∈ ([]:List Addr) from z) (by simp)
 refine ⟨I.ok.mod,S.kind,rfl,rfl,A5 _,fun x y c h1 h2=>I.ok.inj x y c (sub _ _ h1) (sub _ _ h2),fun x hx=>?_,fun x c hx=>(nomatch hx),fun _=>rm.hd,A08 hA,.inr ⟨rfl,rfl⟩,fun b z=>absurd z (noA b),I.bs,F3 I.ok.bsz I.sz,fun b _ _=>noA b,fun b z=>absurd z (noA b),I.stack,I.stkFree⟩;have hx':scope.names.lookup x=some .cell\/scope.names.lookup x=some .free:=hx;rcases hx' with z | z
 ·exact absurd rfl (S.nocell _ (J3 z))
 ·exact qEN (.inl (J3 z))
noncomputable def qFQ (fv:List Nat) (σ:St) (x:V):St:=some x::fv.map fun i=>(σ[i]?).join
theorem qUA {scope:Scope} {p:Str} {fv:List Nat} {q:Str} {A:Around} {f:Addr} {cd:Value} {x:V} {u:Value} {h₁:Heap} {tk:Nat} (rm:Room 0 A) (I:Inv X Ab σ H s) (S:LmScope X scope p fv) (hA:A.frames=some X.stack) (hx:RelV x u)
  (hns:h₁.Ns s.heap.objs.size (fun y=>[(p,u)].reverse.lookup y)) (hk:∀ b o,s.heap.get? b=some o->h₁.get? b=some o) :
  Inv (lmCx X scope p fv q ⟨A,f,cd,s,H,rm⟩) [] (qFQ fv σ x) H { s with heap:=h₁,toks:=tk }:=by
 have hfr:=S.fr I;have sub:=qEM (env:=X.env) (names:=scope.names) (acc:=[]) hfr (fun x c z=>by simp at z)
 refine ⟨qZY rm I S hA,rfl,I.bare,Un.kept hk,⟨_,hns,fun i y v h1 h2 h3=>?_⟩,fun y c e=>?_,I.hok.fresh (A5 _),fun y c e=>I.freeC y c (sub _ _ e),fun p hp=>absurd (show p ∈ ([]:List (Addr × Obj)) from hp) (by simp),I.hok.kept hk,?_⟩
 ·have h1:(p::fv.map fun i=>X.N.getD i P5)[i]?=some y:=h1;unfold qFQ at h2;cases i with
  | zero=>
   cases h1;cases h2;refine ⟨u,hx,.inl ⟨S.par,?_⟩⟩;simp
  | succ i=>
   rw [t0,D0] at h1 h2;cases e:fv[i]? with
   | none=>rw [e] at h1;cases h1
   | some j=>
    rw [e] at h1 h2;have hj:=S.fvs j (C4 e);have h1:X.N.getD j P5=y:=D3 h1;have h2:(σ[j]?).join=some v:=D3 h2;have h2':σ[j]?=some (some v):=by
     cases q:σ[j]? with
     | none=>rw [q] at h2;cases h2
     | some y=>rw [q] at h2;exact congrArg some h2
    have hxn:X.N[j]?=some y:=by
     rw [B3] at h1;rw [A8 hj.1] at h1 ⊢;exact congrArg some h1
    have hlk:scope.names.lookup y=some .free:=h1 ▸ hj.2;have hmem:=J3 hlk;obtain ⟨m,hn,hl⟩:=id I.loc;have hkd:=S.free _ hmem rfl;obtain ⟨u,ru,lk⟩:=hl j y v hxn h2' (by
     rcases hkd with z | z
     ·exact .inr (.inl z)
     ·exact .inr (.inr z))
    refine ⟨u,ru,?_⟩;rcases lk with ⟨z,_⟩ | ⟨_,c,e1,z⟩
    ·rcases hkd with y' | y'
     ·have y':X.env.kindOf y=some .cell:=y';rw [z] at y';cases y'
     ·have y':X.env.kindOf y=some .free:=y';rw [z] at y';cases y'
    ·obtain ⟨c',e2⟩:=qEN (env:=X.env) (names:=scope.names) (acc:=[]) (x:=y) (.inl hmem);have e3:=sub _ _ e2;rw [e1] at e3;cases e3;obtain ⟨o,ho,hd⟩:=z;exact .inr ⟨.inr hlk,c,e2,o,hk _ _ ho,hd⟩
 ·obtain ⟨v,o,ho,hd⟩:=I.cell y c (sub _ _ e);exact ⟨v,o,hk _ _ ho,hd⟩
 ·unfold qFQ;show _=(p::fv.map fun i=>X.N.getD i P5).length;simp
theorem qUD {params:Arguments} {body:Expr} {scope:Scope} {p:Str} {fv:List Nat} {q:Str} {A:Around} {f cc:Addr} {ctv u:Value} {x:V} {te:TE} {Q:VK} (rm:Room 0 A) (I:Inv X Ab σ H s) (S:LmScope X scope p fv) (hA:A.frames=some X.stack)
  (hf:s.heap.get? f=some (lamO X q params body scope cc ctv)) (hcc:H cc=some (.tbl (.cod q))) (hx:RelV x u)
  (hbind:∀ (cl:List (Str × Addr)) (pm cd ct u:Value),bindArgs (U5 "<lambda>" q params body scope cl pm cd ct) ⟨[u],[]⟩=pure [(p,u)])
  (he:∀ z,PE (lmCx X scope p fv q z) body te) (h:te (qFQ fv σ x) H Q) :
  codeAny (model X.prog X.w) A (.call (.ref f) ⟨[u],[]⟩) (fun r s'=>∃ v y H',r=.ok (.ret v)/\Inv X Ab σ H' s'/\RelV y v/\Q y H'/\Un (frs X.stack) [] H H' s.heap s'.heap) s:=by
 have hrec:s.heap.CodeRec (.ref cc) q:=(show ObjOk X.prog X.w H s.heap cc (.tbl (.cod q)) from I.hok cc _ hcc);refine PySem.W.kla_callFunE rm.depth hf rfl S.co S.gen rfl hrec ?_;rw [hbind];refine wpAny_pure (wpAny_newFunctionEnv S.nocell (fun y hy=>?_) (fun h₁ hns hsb=>⟨I.nolimit.fresh _ hsb,?_⟩) S.kind)
 ·rw [A6.mp hy];exact S.par
 have hk₁:∀ b o,s.heap.get? b=some o->h₁.get? b=some o:=fun b o e=>hsb.extBut b o (D6 (C0 e)) (A3 _ e);refine PySem.W.kla_codeExpr ?_;have J:=qUA (q:=q) (f:=f) (cd:=.ref cc) (tk:=s.toks+[(p,u)].length) rm I S hA hx hns hk₁;refine wpAny_mono ((he ⟨A,f,.ref cc,s,H,rm⟩) [] _ _ H Q J h) (fun v s' ⟨y,H',J',ry,qy⟩=>?_) fun _ _ z=>z.elim;exact ⟨v,y,H',rfl,I.call' (ch:=[]) J'.os J'.base J'.hok J'.bare (fun b hb=>absurd hb (by simp)),ry,qy,J'.base⟩
end
end L2
namespace L2
open PySem PySem.Spec PyProof.Rows
abbrev Sm0 (H H':Hp):Prop:=∀ b o,H b=some o->H' b=some o
section
variable {X:Cx}
noncomputable def LamF (X:Cx) (q:Str) (params:Arguments) (body:Expr) (scope:Scope) (cc:Addr) (ctv:Value) (f:Addr):HO:=.ext fun h=>h.get? f=some (lamO X q params body scope cc ctv)
def tLam (X:Cx) (P:Addr) (q:Str) (params:Arguments) (body:Expr) (scope:Scope):TE:=fun σ H Q=>H P=some (.tbl (.tab q))/\
 ∀ f cc ctv H',Sm0 H H'->H f=none->H' f=some (LamF X q params body scope cc ctv f)->H' cc=some (.tbl (.cod q))->Q (.ref f) H'
theorem qVF {params:Arguments} {body:Expr} {scope:Scope} {pos:Pos} {c P:Addr} {q:Str} {p:Str} {fv:List Nat} (hb:BM X.mg X.base) (hcode:X.env.code=.ref c) (C:PySem.W.CodeHd X.base c P) (hq:X.env.qual ++ "<lambda>" = q)
  (S:LmScope X scope p fv) (hdef:defaultsOf params X.env=([],[])):PE X (.Lambda params body scope pos) (tLam X P q params body scope):=by
 intro Ab s σ H Q I ⟨hP,h⟩;refine qYR I hb hcode C hP hq (S.fr I) hdef fun f cc ctv s' H' I' sm hcc hf hsz hn=>?_;have hf0:H f=none:=I.hok.fresh hsz;have ncf:cc ≠ f:=qA5 hcc hn
 -- f is tracked from now on
 have hF:X.s₀.heap.objs.size<=f:=F3 I.sz hsz;have I2:Inv X Ab σ (Ah H' f (LamF X q params body scope cc ctv f)) s':=by
  refine I'.track hn hF (X3 (D4 I.lt hsz)) (fun x c e z=>?_) (fun p hp z=>?_) ⟨hf,⟨_,hf⟩,fun h1 h2 x k=>k _ x⟩
  ·obtain ⟨v,hc⟩:=I.cell x c e;exact absurd (D4 hc.lt (by rw [z];exact hsz)) (R0 _)
  ·exact absurd (D4 (C0 (I.pin p hp).1) (by rw [z];exact hsz)) (R0 _)
 refine ⟨.ref f,_,I2,rfl,h f cc ctv _ (fun b o e=>?_) hf0 qA1 (by rw [qA7 ncf];exact hcc)⟩
 rw [qA7 (qA5 e hf0)];exact sm b o e
noncomputable def qBZ {α:Type}:α × List Int->List (α × List Int)->α
 | b,[]=>b.1
 | b,x::r=>if HT.lexLt x.2 b.2=true then qBZ x r else qBZ b r
structure KCmp (X:Cx) (KR:Hp->V->List Int->Prop):Prop where
 mono:∀ H H' y k,Sm0 H H'->KR H y k->KR H' y k
 cmp:∀ (Ab:List (Addr × Obj)) (σ:St) (s:Shared) (H:Hp) (y y':V) (u u':Value) (k k':List Int) (Q:Value->Shared->Prop) (E:Value->Shared->Prop),Inv X Ab σ H s->RelV y u->RelV y' u'->KR H y k->KR H y' k'->Q (.bool (HT.lexLt k k')) s->
  wpAny (model X.prog X.w) X.A.in1 (richCompare .Lt u u') Q E s
theorem Inv.fpStk {Ab:List (Addr × Obj)} {σ:St} {H:Hp} {s:Shared} {b:Addr} (I:Inv X Ab σ H s) (f:FpOk X Ab H b):b ∉ frs X.stack:=fun z=>by
 rcases B7.mp (I.stkSub b z) with e | e
 ·exact f.2.1 e
 ·exact f.2.2.1 e
theorem FpOk.to {Ab:List (Addr × Obj)} {H H':Hp} {b:Addr} (f:FpOk X Ab H b) (h:H' b=none):FpOk X Ab H' b:=⟨h,f.2⟩
structure KeyAt (X:Cx) (σ:St) (fv:List Nat) (te:TE) (KR:Hp->V->List Int->Prop) (H0:Hp) (xs:List V) (ks:List (List Int)):Prop where
 len:ks.length=xs.length
 key:∀ (i:Nat) (x:V) (k:List Int),xs[i]?=some x->ks[i]?=some k->∀ Hc,Sm0 H0 Hc->te (qFQ fv σ x) Hc fun y H'=>Sm0 Hc H'/\KR H' y k
section
variable {Ab:List (Addr × Obj)} {σ:St} {params:Arguments} {body:Expr} {scope:Scope} {p:Str} {fv:List Nat} {q:Str} {te:TE} {KR:Hp->V->List Int->Prop} {l f cc:Addr} {ctv:Value} {H0:Hp} {xs:List V} {ks:List (List Int)} {Q:VK}
theorem qS8 {s:Shared} {H:Hp} {it S:Addr} {i:Nat} {x:V} {k:List Int} {u:Value} (rm:Room 1 X.A) (hA:X.A.in1.frames=some X.stack) (S':LmScope X scope p fv) (hbind:∀ (cl:List (Str × Addr)) (pm cd ct u:Value),bindArgs (U5 "<lambda>" q params body scope cl pm cd ct) ⟨[u],[]⟩=pure [(p,u)])
  (he:∀ z,PE (lmCx X scope p fv q z) body te) (KA:KeyAt X σ fv te KR H0 xs ks) (hf:H0 f=some (LamF X q params body scope cc ctv f)) (hcc:H0 cc=some (.tbl (.cod q)))
  (I:Inv X Ab σ H s) (sm:Sm0 H0 H) (hx:xs[i]?=some x) (hk:ks[i]?=some k) (rx:RelV x u) (fi:FpOk X Ab H it) (fS:FpOk X Ab H S) {oi oS:Obj} (gi:s.heap.get? it=some oi) (gS:s.heap.get? S=some oS) {Q':Value->Shared->Prop} {E:Value->Shared->Prop}
  (h:∀ v y H' s',Inv X Ab σ H' s'->Sm0 H H'->RelV y v->KR H' y k->FpOk X Ab H' it->FpOk X Ab H' S->s'.heap.get? it=some oi->s'.heap.get? S=some oS->Q' v s'):wpAny (model X.prog X.w) X.A.in1 (call (.ref f) [u]) Q' E s:=by
 have gf:s.heap.get? f=some (lamO X q params body scope cc ctv):=(show ObjOk X.prog X.w H s.heap f (LamF X q params body scope cc ctv f) from I.hok f _ (sm _ _ hf)).1;refine wpAny_call (codeAny_mono (qUD rm.in1 I S' hA gf (sm _ _ hcc) rx hbind he (KA.key i x k hx hk H sm)) fun r s' ⟨v,y,H',e,I',ry,⟨sm',kr⟩,un⟩=>?_);subst e;exact h v y H' s' I' sm' ry kr (fi.to (un.free it oi gi fi.1 (by simp))) (fS.to (un.free S oS gS fS.1 (by simp))) (un.keep it oi gi fi.1 (I.fpStk fi) (by simp)) (un.keep S oS gS fS.1 (I.fpStk fS) (by simp))
theorem qPY {it S:Addr} {kw:List (Str × Value)} (hc:X.calm=true) (rm:Room 1 X.A) (hA:X.A.in1.frames=some X.stack) (S':LmScope X scope p fv) (hbind:∀ (cl:List (Str × Addr)) (pm cd ct u:Value),bindArgs (U5 "<lambda>" q params body scope cl pm cd ct) ⟨[u],[]⟩=pure [(p,u)])
  (he:∀ z,PE (lmCx X scope p fv q z) body te) (KC:KCmp X KR) (KA:KeyAt X σ fv te KR H0 xs ks) (hf:H0 f=some (LamF X q params body scope cc ctv f)) (hcc:H0 cc=some (.tbl (.cod q))) (hl:SqL X.K H0 l xs) (hiS:it ≠ S)
  (lsame:∀ H',Sm0 H0 H'->SqL X.K H' l xs) :
  ∀ (k j:Nat) (s:Shared) (H:Hp) (bx y:V) (bk:List Int) (bu bv:Value) (c:Nat),xs.length - j=k->j<=xs.length->Inv X Ab σ H s->Sm0 H0 H->FpOk X Ab H it->FpOk X Ab H S->s.heap.IsListIter it l j->
   s.heap.get? S=some { cls:=.type "list",dict:=none,data:=.seq #[bu,bv] c,slots:=#[] }->RelV bx bu->RelV y bv->KR H y bk->(∀ H',Sm0 H0 H'->Q (qBZ (bx,bk) ((xs.zip ks).drop j)) H')->
   codeAny (model X.prog X.w) X.A (.builtin "min.loop" ⟨[.ref it,.ref f,.ref S],kw⟩) (fun r s'=>∃ v,r=.ok (.ret v)/\EP X Ab σ Q v s') s:=by
 have hname:(toString "min" ++ toString ".loop" : String) = "min.loop":=by decide
 intro k
 induction k with
 | zero=>
  intro j s H bx y bk bu bv c hk hj I sm fi fS hit hS rb ry kb hQ;obtain ⟨its,rv,pl,hz⟩:=I.list (lsame H sm);have hlen:=rv.length;refine codeAny_builtin Y8 ?_;rw [E8 L7 _];show wpAny _ X.A.in1 (seqItems? (.ref S) >>= _) _ _ s;refine wpAny_bind (wpAny_seqItems hS rfl ?_);show wpAny _ X.A.in1 (tryCatch (pyNext (.ref it)) _ >>= _) _ _ s;refine wpAny_bind (wpAny_tryCatch (wpAny_pyNext_list_end (rm.in1.hd) hit pl.isList (by simp;lia) fun h' eb=>?_))
  have I1:Inv X Ab σ H { s with heap:=h' }:=I.turned (t':=s.toks) (fun b o hb e=>eb b o hb e) fi.1 fi.2.1 fi.2.2.2.1 fi.2.2.2.2.1 fi.2.2.2.2.2;have hS':=eb S _ (G8 hiS) hS;show wpAny _ X.A.in1 (updateSeq S (fun _=>#[]) >>= _) _ _ _;refine wpAny_bind (wpAny_updateSeq hS' rfl (wpAny_bind (wpAny_letGo (wpAny_pure ?_))));have I2:Inv X Ab σ H { s with heap:=h'.update S (G4 fun _=>(#[]:Array Value)) }:=I1.turned (t':=s.toks) (fun b o hb e=>(C5 _ _ (G8 hb)).trans e) fS.1 fS.2.1 fS.2.2.2.1 fS.2.2.2.2.1 fS.2.2.2.2.2;have hq:=hQ H sm;rw [y7 (by rw [Y2,KA.len];lia)] at hq
  exact ⟨_,rfl,bx,H,I2,rb,hq⟩
 | succ k ih=>
  intro j s H bx y bk bu bv c hk hj I sm fi fS hit hS rb ry kb hQ;have hlt:j<xs.length:=by lia
  obtain ⟨its,rv,pl,hz⟩:=I.list (lsame H sm);have hxj:=A8 hlt;have hkj:=A8 (show j<ks.length by rw [KA.len];exact hlt)
  have ez:(xs.zip ks).drop j=(xs[j],ks[j]'(by rw [KA.len];exact hlt))::(xs.zip ks).drop (j+1):=by
   rw [W5 (by rw [Y2,KA.len];lia),List.getElem_zip]
  rw [ez] at hQ;generalize xs[j]=x at hxj hQ;generalize ks[j]'(by rw [KA.len];exact hlt)=kx at hkj hQ
  obtain ⟨u,hu,ru⟩:=rv.get hxj;refine codeAny_builtin Y8 ?_;rw [E8 L7 _];show wpAny _ X.A.in1 (seqItems? (.ref S) >>= _) _ _ s;refine wpAny_bind (wpAny_seqItems hS rfl ?_);show wpAny _ X.A.in1 (tryCatch (pyNext (.ref it)) _ >>= _) _ _ s;refine wpAny_bind (wpAny_tryCatch (wpAny_pyNext_list_item hit pl.isList (x:=u) (by simpa using hu) fun h' st' sb=>?_))
  have I1:Inv X Ab σ H { s with heap:=h' }:=I.turned (t':=s.toks) (fun b o hb e=>(sb.2 b hb).trans e) fi.1 fi.2.1 fi.2.2.2.1 fi.2.2.2.2.1 fi.2.2.2.2.2;have hS1:=(sb.2 S (G8 hiS)).trans hS;obtain ⟨oi,hoi,hoc,hod⟩:=id st';show wpAny _ X.A.in1 (tryCatch (holding [u] (call (.ref f) [u])) _ >>= _) _ _ _;refine wpAny_bind (wpAny_tryCatch (wpAny_holding (qS8 rm hA S' hbind he KA hf hcc I1 sm hxj hkj ru fi fS hoi hS1 fun v y2 H2 s2 I2 sm2 r2 k2 fi2 fS2 gi2 gS2=>?_)));have hit2:s2.heap.IsListIter it l (j+1):=⟨oi,gi2,hoc,hod⟩;show wpAny _ X.A.in1 (tryCatch (holding [u,v] (richCompare .Lt v bv >>= _)) _ >>= _) _ _ _;refine wpAny_bind (wpAny_tryCatch (wpAny_holding (wpAny_bind (KC.cmp Ab σ s2 H2 y2 y v bv kx bk _ _ I2 r2 ry k2 (KC.mono _ _ _ _ sm2 kb) ?_))));refine wpAny_bind (wpAny_holding (wpAny_truthy_bool (wpAny_bind (wpAny_letGo (wpAny_pure ?_)))));have sm3:Sm0 H0 H2:=fun b o e=>sm2 b o (sm b o e);cases hb:HT.lexLt kx bk with
  | true=>
   rw [if_pos rfl];have et:qBZ (bx,bk) ((x,kx)::(xs.zip ks).drop (j+1))=qBZ (x,kx) ((xs.zip ks).drop (j+1)):=by show (if HT.lexLt kx bk=true then _ else _)=_;rw [hb];rfl
   rw [et] at hQ;refine wpAny_bind (wpAny_updateSeq gS2 rfl (wpAny_bind (wpAny_letGo ?_)));rw [hname];have I3:Inv X Ab σ H2 { s2 with heap:=s2.heap.update S (G4 fun _=>#[u,v]) }:=I2.turned (t':=s2.toks) (fun b o hb e=>(C5 _ _ (G8 hb)).trans e) fS2.1 fS2.2.1 fS2.2.2.2.1 fS2.2.2.2.2.1 fS2.2.2.2.2.2;exact wpAny_pure ⟨plainId_quiet L7 _,ih (j+1) _ H2 x y2 kx u v _ (by lia) hlt I3 sm3 fi2 fS2 ⟨oi,(C5 _ _ (G8 hiS)).trans gi2,hoc,hod⟩ (G9 _ gS2 rfl) ru r2 k2 hQ⟩
  | false=>
   rw [if_neg B0];have et:qBZ (bx,bk) ((x,kx)::(xs.zip ks).drop (j+1))=qBZ (bx,bk) ((xs.zip ks).drop (j+1)):=by show (if HT.lexLt kx bk=true then _ else _)=_;rw [hb];rfl
   rw [et] at hQ;refine wpAny_bind (wpAny_letGo ?_);rw [hname];exact wpAny_pure ⟨plainId_quiet L7 _,ih (j+1) s2 H2 bx y bk bu bv c (by lia) hlt I2 sm3 fi2 fS2 hit2 gS2 rb ry (KC.mono _ _ _ _ sm2 kb) hQ⟩
noncomputable def qWD (dv:Option V):List (V × List Int)->Option V
 | []=>dv
 | b::r=>some (qBZ b r)
theorem qID {s:Shared} {H:Hp} {kw:List (Str × Value)} (hc:X.calm=true) (rm:Room 1 X.A) (hA:X.A.in1.frames=some X.stack) (S':LmScope X scope p fv) (hbind:∀ (cl:List (Str × Addr)) (pm cd ct u:Value),bindArgs (U5 "<lambda>" q params body scope cl pm cd ct) ⟨[u],[]⟩=pure [(p,u)])
  (he:∀ z,PE (lmCx X scope p fv q z) body te) (KC:KCmp X KR) (KA:KeyAt X σ fv te KR H xs ks) (hf:H f=some (LamF X q params body scope cc ctv f)) (hcc:H cc=some (.tbl (.cod q))) (hl:SqL X.K H l xs)
  (lsame:∀ H',Sm0 H H'->SqL X.K H' l xs) (I:Inv X Ab σ H s)
  (ok:argsOk "min" ⟨[.ref l],kw⟩) (df:Option Value) (hb:Q5 "min" ["key","default"] 0 ⟨[],kw⟩=pure [some (.ref f),df]) (dv:Option V) (hdf:df=none/\dv=none\/∃ d u,df=some u/\dv=some d/\RelV d u)
  (m:V) (em:qWD dv (xs.zip ks)=some m) (hQ:∀ H',Sm0 H H'->Q m H'):wpAny (model X.prog X.w) X.A (call (.builtin "min") [.ref l] kw) (EP X Ab σ Q) X.xe s:=by
 obtain ⟨its,rv,pl,hz⟩:=I.list hl;have hls:=pl.isList;have hlt:l<s.heap.objs.size:=by obtain ⟨_,e,_⟩:=hls;exact C0 e
 have hname:(toString "min" ++ toString ".loop" : String) = "min.loop":=by decide
 refine qHC PySem.F.kind_min PySem.F.plain_min PySem.F.entry_min ok ?_;show wpAny _ _ (Q5 "min" ["key","default"] 0 ⟨[],kw⟩ >>= _) _ _ s;refine wpAny_bind (wpAny_of_eq hb ?_);refine wpAny_bind (wpAny_pure ?_);refine wpAny_bind (wpAny_pyIter_list hls ?_);refine wpAny_bind (wpAny_newObj_type ?_);rw [hname];refine wpAny_pure ⟨_,rfl,plainId_quiet L7 _,?_⟩;have hS:(s.heap.push { cls:=.type "list_iterator",data:=.fields #[.ref l,.int 0 0] }).objs.size=s.heap.objs.size+1:=P7 ..;have I0:Inv X Ab σ H { s with heap:=(s.heap.push { cls:=.type "list_iterator",data:=.fields #[.ref l,.int 0 0] }).push { cls:=.type "list",data:=.seq #[] } }:=I.kept (t':=s.toks) fun b o e=>A3 _ (A3 _ e);have fi:FpOk X Ab H s.heap.objs.size:=I.fpOk (A5 _) (I.hok.fresh (A5 _));have fS:FpOk X Ab H (s.heap.push { cls:=.type "list_iterator",data:=.fields #[.ref l,.int 0 0] }).objs.size:=by rw [hS];exact I.fpOk (X2 _) (I.hok.fresh (X2 _))
 have hiS:s.heap.objs.size ≠ (s.heap.push { cls:=.type "list_iterator",data:=.fields #[.ref l,.int 0 0] }).objs.size:=by rw [hS];exact (t5 _).symm
 have gi:((s.heap.push { cls:=.type "list_iterator",data:=.fields #[.ref l,.int 0 0] }).push { cls:=.type "list",data:=.seq #[] }).get? s.heap.objs.size=some { cls:=.type "list_iterator",data:=.fields #[.ref l,.int 0 0] }:=A3 _ (C1 _ rfl);have gS:((s.heap.push { cls:=.type "list_iterator",data:=.fields #[.ref l,.int 0 0] }).push { cls:=.type "list",data:=.seq #[] }).get? (s.heap.push { cls:=.type "list_iterator",data:=.fields #[.ref l,.int 0 0] }).objs.size=some { cls:=.type "list",data:=.seq #[] }:=C1 _ rfl;have hls1:=(hls.push { cls:=.type "list_iterator",data:=.fields #[.ref l,.int 0 0] }).push { cls:=.type "list",data:=.seq #[] };generalize (s.heap.push { cls:=.type "list_iterator",data:=.fields #[.ref l,.int 0 0] }).push { cls:=.type "list",data:=.seq #[] }=h0 at I0 gi gS hls1;generalize (s.heap.push { cls:=.type "list_iterator",data:=.fields #[.ref l,.int 0 0] }).objs.size=S at fS hiS gS ⊢;generalize s.heap.objs.size=it at fi hiS gi ⊢;refine codeAny_builtin Y8 ?_;rw [E8 L7 _];show wpAny _ X.A.in1 (seqItems? (.ref S) >>= _) _ _ _;refine wpAny_bind (wpAny_seqItems gS rfl ?_);show wpAny _ X.A.in1 (tryCatch (pyNext (.ref it)) _ >>= _) _ _ _;have hit:h0.IsListIter it l 0:=⟨_,gi,rfl,rfl⟩;cases xs with
 | nil=>
  have ek:ks=[]:=F5.mp KA.len;subst ek;have em':dv=some m:=em;cases rv;refine wpAny_bind (wpAny_tryCatch (wpAny_pyNext_list_end (s:={ s with heap:=h0 }) (rm.in1.hd) hit hls1 (by simp) fun h' eb=>?_))
  rcases hdf with ⟨_,e2⟩ | ⟨d,u,rfl,e3,rd⟩
  ·rw [e2] at em';cases em'
  ·rw [e3] at em';cases em';show wpAny _ X.A.in1 (rule _ >>= fun _=>ret u) _ _ _;have I1:Inv X Ab σ H { s with heap:=h' }:=I0.turned (t':=s.toks) (fun b o hb e=>eb b o hb e) fi.1 fi.2.1 fi.2.2.2.1 fi.2.2.2.2.1 fi.2.2.2.2.2;exact wpAny_bind (wpAny_rule (wpAny_pure ⟨u,rfl,_,H,I1,rd,hQ H fun _ _ z=>z⟩))
 | cons x xs=>
  cases ks with
  | nil=>have:=KA.len;simp at this
  | cons k ks=>
   cases em;obtain ⟨u,hu,ru⟩:=rv.get (i:=0) rfl;refine wpAny_bind (wpAny_tryCatch (wpAny_pyNext_list_item (s:={ s with heap:=h0 }) hit hls1 (x:=u) (by simpa using hu) fun h' st' sb=>?_))
   have I1:Inv X Ab σ H { s with heap:=h' }:=I0.turned (t':=s.toks) (fun b o hb e=>(sb.2 b hb).trans e) fi.1 fi.2.1 fi.2.2.2.1 fi.2.2.2.2.1 fi.2.2.2.2.2;have hS1:=(sb.2 S (G8 hiS)).trans gS;obtain ⟨oi,hoi,hoc,hod⟩:=id st';show wpAny _ X.A.in1 (tryCatch (holding [u] (call (.ref f) [u])) _ >>= _) _ _ _;refine wpAny_bind (wpAny_tryCatch (wpAny_holding (qS8 rm hA S' hbind he KA hf hcc I1 (fun _ _ z=>z) (i:=0) rfl rfl ru fi fS hoi hS1 fun v y2 H2 s2 I2 sm2 r2 k2 fi2 fS2 gi2 gS2=>?_)));show wpAny _ X.A.in1 (updateSeq S (fun _=>#[u,v]) >>= _) _ _ _;refine wpAny_bind (wpAny_updateSeq gS2 rfl ?_);rw [hname];have I3:Inv X Ab σ H2 { s2 with heap:=s2.heap.update S (G4 fun _=>#[u,v]) }:=I2.turned (t':=s2.toks) (fun b o hb e=>(C5 _ _ (G8 hb)).trans e) fS2.1 fS2.2.1 fS2.2.2.2.1 fS2.2.2.2.2.1 fS2.2.2.2.2.2;exact wpAny_pure ⟨plainId_quiet L7 _,qPY hc rm hA S' hbind he KC KA hf hcc hl hiS lsame _ 1 _ H2 x y2 k u v _ rfl (by simp) I3 sm2 fi2 fS2 ⟨oi,(C5 _ _ (G8 hiS)).trans gi2,hoc,hod⟩ (G9 _ gS2 rfl) ru r2 k2 hQ⟩
end
end
end L2
namespace L2
open PySem PySem.Spec PyProof.Rows
noncomputable def hdIn (K:PySem.W.Frag) (c P:Addr):Bool:=match K.lookup c with
 | some ⟨.type n,_,.fields vs,_⟩=>decide (n = "code") && decide (c ≠ P) && (match (vs[11]?:Option Value),vs.getD 11 .none with | some (.ref a),.ref b=>decide (a=P) && decide (b=P) | _,_=>false) &&
   (match vs.getD 18 .none,vs.getD 7 .none,vs.getD 9 .none,vs.getD 10 .none with | .str _ _,.int _ _,.bool _,.int _ _=>true | _,_,_,_=>false)
 | _=>false
theorem qMO {K:PySem.W.Frag} {h:Heap} {c P:Addr} (X:K.In h) (hd:hdIn K c P=true):PySem.W.CodeHd h c P:=by
 unfold hdIn at hd
 split at hd
 ·rename_i n dd vs sl hl
  rw [L3,L3,L3] at hd;obtain ⟨⟨⟨h1,h2⟩,h3⟩,h4⟩:=hd
  split at h3
  ·rename_i a b e1 e2
   rw [L3,decide_eq_true_eq,decide_eq_true_eq] at h3;obtain ⟨rfl,rfl⟩:=h3
   split at h4
   ·rename_i f t fl tg inF text tt g1 g2 g3 g4
    exact ⟨_,vs,_,_,_,_,_,_,_,X _ _ hl,by rw [of_decide_eq_true h1],rfl,e1,e2,g1,g2,g3,g4,of_decide_eq_true h2⟩
   ·cases h4
  ·cases h3
 ·cases hd
section
variable {X:Cx}
def qZB (P:Addr) (q:Str) (fv:List Nat) (te:TE) (KR:Hp->V->List Int->Prop) (ta:TA):TE:=fun σ H Q=>ta σ H fun vs H1=>H1 P=some (.tbl (.tab q))/\
 ∃ l xs ks m,vs=[.ref l]/\H1 l=some (.lst xs)/\ks.length=xs.length/\(∀ (i:Nat) (x:V) (k:List Int),xs[i]?=some x->ks[i]?=some k->∀ Hc,Sm0 H1 Hc->te (qFQ fv σ x) Hc fun y H'=>Sm0 Hc H'/\KR H' y k)/\
  qWD none (xs.zip ks)=some m/\∀ H',Sm0 H1 H'->Q m H'
theorem qWH {e:Expr} {ta:TA} {np pos kpos lpos:Pos} {params:Arguments} {body:Expr} {scope:Scope} {c P:Addr} {q:Str} {p:Str} {fv:List Nat} {te:TE} {KR:Hp->V->List Int->Prop}
  (rm:Room 1 X.A) (hc:X.calm=true) (hg:Gl X "min") (hm:X.mg "min" = none) (hv:bootBuiltins "min" = some (.builtin "min")) (hb:BM X.mg X.base) (hcode:X.env.code=.ref c) (hd:hdIn X.K c P=true) (hq:X.env.qual ++ "<lambda>" = q)
  (S:LmScope X scope p fv) (hdef:defaultsOf params X.env=([],[])) (hbind:∀ (cl:List (Str × Addr)) (pm cd ct u:Value),bindArgs (U5 "<lambda>" q params body scope cl pm cd ct) ⟨[u],[]⟩=pure [(p,u)])
  (KC:KCmp X KR) (ha:PA X [e] ta) (he:∀ z,PE (lmCx X scope p fv q z) body te) (hs:starEach [e] X.env=[(false,eval e X.env)]:=by rfl) :
  PE X (.Call (.Name "min" np) [e] [⟨some "key",.Lambda params body scope lpos,kpos⟩] pos) (qZB P q fv te KR ta):=by
 intro Ab s σ H Q I h;refine wpAny_Call_Name_kw (qIG I hg hm hv ?_ (by decide) (by decide))
 refine X5 (thn (ha pos Ab s σ H _ I h) fun us s1 ⟨vs,H1,I1,r1,q1⟩=>?_) (by rw [hs];rfl) (by rw [hs];rfl)
 obtain ⟨hP,l,xs,ks,m,rfl,hl,lk,hk,em,q2⟩:=q1;obtain ⟨u,rfl,rx⟩:=qE2 r1;cases rx;have C:=qMO (c:=c) (P:=P) I1.ok.mod.kin hd;have pl:=qVF (X:=X) (pos:=lpos) (body:=body) hb hcode C hq S hdef;refine thn (qKI (kpos:=kpos) (nm:=some "key") pl qRC pos Ab s1 σ H1 (fun zs H2=>∃ f cc ctv,zs=[.ref f]/\Sm0 H1 H2/\H2 f=some (LamF X q params body scope cc ctv f)/\H2 cc=some (.tbl (.cod q))) I1 ⟨hP,fun f cc ctv H' sm h0 hf hcc=>⟨f,cc,ctv,rfl,sm,hf,hcc⟩⟩) fun ws s2 ⟨zs,H2,I2,rz,f,cc,ctv,ez,sm,hf,hcc⟩=>?_;subst ez;obtain ⟨u2,rfl,r2⟩:=qE2 rz;cases r2;have hA:X.A.in1.frames=some X.stack:=I2.ok.frames;exact qID (H:=H2) hc rm hA S hbind he KC ⟨lk,fun i x k hx hk' Hc smc=>hk i x k hx hk' Hc fun b o e=>smc b o (sm b o e)⟩ hf hcc (SqL.of (sm _ _ hl)) (fun H' smc=>SqL.of (smc _ _ (sm _ _ hl))) I2
  (by unfold argsOk;kernel_rfl) none rfl none (.inl ⟨rfl,rfl⟩) m em fun H' smc=>q2 H' fun b o e=>smc b o (sm b o e)
end
theorem Fun.okL {P:Program} {w:World} {K:PySem.W.Frag} {mg:Str->Option Value} {base:Heap} {x qual:Str} {st:Stmt} {f:Addr} {fd:FuncData} {N ps:List Str} {k:Nat} {sp:Sp} {c:Addr} (F:Fun K x qual st f fd) (hc:fd.code=.ref c) (S:FnScope N ps (qA9 st)) (len:∀ vs H Q E,sp vs H Q E->vs.length=ps.length)
  (hbody:∀ (A:Around) (outer:List Env) (s:Shared) (H:Hp) (vs:List V) (Q:VK) (E:XK),Room k (A.deeper (envOfC qual (qA9 st) s.heap.objs.size f (.ref c)))->sp vs H Q E->
   ∃ t,PSs (cxOf CX0 P w K mg base N qual (qA9 st) f (.ref c) A outer s H E).nox (qAZ st) t/\t { nx:=fun _ H'=>Q .non H',rt:=Q } (start N vs) H):FnOk P w K mg base CX0 (k+1) f fd ps sp:=by
 obtain ⟨oc,od,kV,doc,pm,an,cdv,ct,osl,rfl,lk,hcd⟩:=F.ex;have e:cdv=.ref c:=hc;subst e;refine qYQ lk hcd S len fun A outer s H vs Q E hr hsp=>?_;obtain ⟨t,h,q⟩:=hbody A outer s H vs Q E hr hsp;exact ⟨t,h.nox,q⟩
noncomputable def qRZ (scope:Scope) (p:Str) (fv:List Nat) (osc:Scope) (N:List Str):Bool:=
 decide (scope.kind=.function) && decide (scope.isCoroutine=false) && decide (scope.isGenerator=false) && scope.names.all (fun y=>decide (y.2 ≠ .cell)) && decide (scope.names.lookup p=some .local) &&
 scope.names.all (fun y=>decide (y.2 ≠ .free) || (decide (osc.names.lookup y.1=some .cell) || decide (osc.names.lookup y.1=some .free))) && fv.all fun i=>decide (i<N.length) && decide (scope.names.lookup (N.getD i P5)=some .free)
theorem lms {X:Cx} {scope:Scope} {p:Str} {fv:List Nat} (h:qRZ scope p fv X.env.scope X.N=true):LmScope X scope p fv:=by
 unfold qRZ at h;simp only [L3,decide_eq_true_eq,M8,A74] at h;obtain ⟨⟨⟨⟨⟨⟨h1,h2⟩,h3⟩,h4⟩,h5⟩,h6⟩,h7⟩:=h;refine ⟨h1,h2,h3,h4,h5,fun y hy hf=>?_,h7⟩;rcases h6 y hy with z | z
 ·exact absurd hf z
 ·exact z
structure LTab where
 x:Str
 c:Addr
 P:Addr
 q:Str
def qZ0 (tabs:List LTab) (H:Hp):Prop:=∀ t ∈ tabs,H t.P=some (.tbl (.tab t.q))
noncomputable def entH (a:Addr) (o:Obj) (xs:List V) (ina:Bool) (tabs:List LTab):Hp:=fun b=>if ina=true/\b=a then some (.frz o (.lst xs)) else (tabs.find? fun t=>decide (t.P=b)).map fun t=>.tbl (.tab t.q)
theorem qS4 {P:Program} {w:World} {K:PySem.W.Frag} {mg mb:Str->Option Value} {k:Nat} {fa a:Addr} {fd:FuncData} {x:Str} {sp:Sp} {s₁:Shared} {vs:List Value} {ns:List Int} (tabs:List LTab)
  (KX:K.In s₁.heap) (hns:s₁.heap.Ns mainGlobals mg) (hb:s₁.heap.Ns builtinsNs mb) (hbb:∀ x:Str,x ≠ "__name__"->mb x=bootBuiltins x) (hlim:s₁.heap.NoLimit) (hg:s₁.gens=#[])
  (ha:s₁.heap.get? a=some { cls:=.type "list",data:=.seq vs.toArray }) (hi:IntsAre vs ns) (hl:ns.length<=sizeLine) (hr:Room k callerA) (hbm:BM mg s₁.heap)
  (htab:∀ t ∈ tabs,PySem.W.CodeHd s₁.heap t.c t.P/\s₁.heap.get? t.P=some (A83 #[])) (hK:A18 K=true) (hone:∀ t ∈ tabs,∀ t' ∈ tabs,t.P=t'.P->t.q=t'.q)
  (F:∀ base:Heap,K.In base->base.Ns mainGlobals mg->BM mg base->FnOk P w K mg base CX0 k fa fd [x] sp) (hbind:∀ (s:Shared) (u:Value),BindsTo s fd ⟨[u],[]⟩ [(x,u)])
  (hsp:∀ H:Hp,qZ0 tabs H->SqL K H a (ns.map V.int)->sp [.ref a] H (fun v _=>v=.bl true) fun _ _ _=>False) :
  codeAny (model P w) callerA (.call (.ref fa) ⟨[.ref a],[]⟩) (fun r s'=>r=.ok (.ret (.bool true))/\OldK s₁.heap s'.heap/\s'.os=s₁.os/\AllBare s'.gens) s₁:=by
 have rv:=qHX hi;have lenV:=hi.length;have naP:∀ t ∈ tabs,t.P ≠ a:=fun t ht z=>by
  have:=(htab t ht).2;rw [z,ha] at this;cases this
 have KnP:∀ t ∈ tabs,K.lookup t.P=none:=fun t ht=>by
  cases e:K.lookup t.P with
  | none=>rfl
  | some o=>
   have e2:=KX _ _ e;rw [(htab t ht).2] at e2;cases e2;have h2:=M8.mp hK _ (PySem.W.mem_of_lookupK e);exact absurd (show false=true from h2) B0
 obtain ⟨ina,hina⟩:∃ ina:Bool,(ina=true ↔ K.lookup a=none):=by
  cases e:K.lookup a with
  | none=>exact ⟨true,by simp⟩
  | some o=>exact ⟨false,by simp⟩
 -- the heap's description
 let o0:Obj:={ cls:=.type "list",data:=.seq vs.toArray }
 have hdef:∀ b u,entH a o0 (ns.map V.int) ina tabs b=some u->(ina=true/\b=a/\u=.frz o0 (.lst (ns.map V.int)))\/∃ t ∈ tabs,t.P=b/\u=.tbl (.tab t.q):=fun b u e=>by
  unfold entH at e
  split at e
  ·rename_i c
   cases e;exact .inl ⟨c.1,c.2,rfl⟩
  ·cases e2:tabs.find? (fun t=>decide (t.P=b)) with
   | none=>rw [e2] at e;cases e
   | some t=>
    rw [e2] at e;cases e;exact .inr ⟨t,m5 e2,of_decide_eq_true (A76 (p:=fun t:LTab=>decide (t.P=b)) e2),rfl⟩
 have htb:∀ t ∈ tabs,entH a o0 (ns.map V.int) ina tabs t.P=some (.tbl (.tab t.q)):=fun t ht=>by
  unfold entH;rw [if_neg fun z=>naP t ht z.2];cases e2:tabs.find? (fun t'=>decide (t'.P=t.P)) with
  | none=>exact absurd (decide_eq_true (rfl:t.P=t.P)) (List.find?_eq_none.mp e2 t ht)
  | some t'=>
   have h1:=m5 e2;have h2:t'.P=t.P:=of_decide_eq_true (A76 (p:=fun t':LTab=>decide (t'.P=t.P)) e2);rw [Q3,hone t' h1 t ht h2]
 generalize hH:entH a o0 (ns.map V.int) ina tabs=H at hdef htb;have hS:SqL K H a (ns.map V.int):=by
  cases e:K.lookup a with
  | none=>
   refine .inl (.inr ⟨o0,?_⟩);rw [<- hH];unfold entH;rw [if_pos ⟨hina.mpr e,rfl⟩]
  | some o=>
   have e2:=KX a o e;rw [ha] at e2;cases e2;exact .inr ⟨_,vs.toArray,_,e,rfl,rfl,rfl,by rw [B4,lenV];exact hl,by simpa using rv⟩
 have hok:HOk P w H s₁.heap:=fun b u e=>by
  rcases hdef b u e with ⟨_,rfl,rfl⟩ | ⟨t,ht,rfl,rfl⟩
  ·exact ⟨ha,by rw [A0];exact hl,vs,_,rv,ha⟩
  ·exact ⟨#[],(htab t ht).2,trivial,fun pos cv z=>by cases z⟩
 have base_of:∀ {b:Addr} {o:Obj},s₁.heap.get? b=some o->H b=none->(hidT s₁.heap H).get? b=some o:=fun e n=>qUG e n;have noA:∀ {b:Addr} {o:Obj},s₁.heap.get? b=some o->(∀ xs n,o.data ≠ .seq xs n)->(∀ ps,o.data ≠ .fields ps)->H b=none:=fun {b o} e d1 d2=>by
  cases q:H b with
  | none=>rfl
  | some u=>
   rcases hdef b u q with ⟨_,rfl,_⟩ | ⟨t,ht,rfl,_⟩
   ·rw [ha] at e;cases e;exact absurd rfl (d1 _ _)
   ·rw [(htab t ht).2] at e;cases e;exact absurd rfl (d2 _)
 have nsK:∀ {b:Addr} {m:Str->Option Value},s₁.heap.Ns b m->(hidT s₁.heap H).Ns b m:=fun {b m} ⟨o,es,ep,e,d,r⟩=>⟨o,es,ep,base_of e (noA e (fun _ _ z=>by rw [d] at z;cases z) fun _ z=>by rw [d] at z;cases z),d,r⟩
 have hKb:K.In (hidT s₁.heap H):=fun b o e=>base_of (KX b o e) (by
  cases q:H b with
  | none=>rfl
  | some u=>
   rcases hdef b u q with ⟨h1,rfl,_⟩ | ⟨t,ht,rfl,_⟩
   ·rw [hina.mp h1] at e;cases e
   ·rw [KnP t ht] at e;cases e)
 have hBb:BM mg (hidT s₁.heap H):=by
  obtain ⟨bm,ob,b1,b2,b3,b4,b5,b6⟩:=hbm;exact ⟨bm,ob,b1,b2,base_of b3 (noA b3 (fun _ _ z=>by rw [b6] at z;cases z) fun _ z=>by rw [b6] at z;cases z),b4,b5,b6⟩
 have hM:Mod K mg (hidT s₁.heap H):=⟨hKb,nsK hns,⟨mb,nsK hb,hbb⟩,let ⟨mc,h1,h2⟩:=hlim;⟨mc,nsK h1,h2⟩⟩
 have e0:Env0 P w K mg (hidT s₁.heap H) callerA [] s₁ H:=⟨rfl,hM,fun b o e=>qWM e,Nat.le_of_eq (qSE _ _),trivial,fun b hb=>absurd (show b ∈ ([]:List Addr) from hb) (by simp),hok,.of_eq hg⟩
 refine codeAny_mono ((F _ hKb (nsK hns) hBb).run callerA [] s₁ H ⟨[.ref a],[]⟩ [.ref a] [.ref a] _ _ hr e0 (hbind s₁ (.ref a)) (.cons rfl .nil) (hsp H htb hS)) fun r s' h=>?_;cases r with
 | error e=>exact U4 h
 | ok fl=>
  cases fl with
  | next=>exact U4 h
  | brk=>exact U4 h
  | cont=>exact U4 h
  | ret u=>
   obtain ⟨v,H',os,bare,un,hok',r',q⟩:=h;have q':v=.bl true:=q;subst q';obtain rfl:u=A40 true:=r';have kept:∀ b o,s₁.heap.get? b=some o->s'.heap.get? b=some o\/∃ t ∈ tabs,t.P=b:=fun b o e=>by
    cases q:H b with
    | none=>exact .inl (un.keep b o e q (by intro z;exact absurd (show b ∈ ([]:List Addr) from z) (by simp)) (by simp))
    | some u=>
     rcases hdef b u q with ⟨_,rfl,rfl⟩ | ⟨t,ht,e1,_⟩
     ·have z2:=un.frzs b o0 _ q;obtain ⟨e1,_⟩:=hok b _ q;obtain ⟨e2,_⟩:=hok' b _ z2;rw [e] at e1;cases e1;exact .inl e2
     ·exact .inr ⟨t,ht,e1⟩
   have tabK:∀ t ∈ tabs,∃ more,s'.heap.get? t.P=some (A83 more):=fun t ht=>by
    obtain ⟨more,e,_⟩:=(show ObjOk P w H' s'.heap t.P (.tbl (.tab t.q)) from hok' t.P _ (un.tbls t.P _ (htb t ht)));exact ⟨more,e⟩
   refine ⟨rfl,⟨fun b o e=>?_,fun b o e=>?_⟩,os,bare⟩
   ·rcases kept b o e with z | ⟨t,ht,rfl⟩
    ·exact .inl z
    ·obtain ⟨more,em⟩:=tabK t ht;have e2:=(htab t ht).2;rw [e] at e2;cases e2;exact .inr (.inl ⟨((htab t ht).1.tab (htab t ht).2).isCodeTable,rfl,#[],more,rfl,by rw [em];simp⟩)
   ·rcases kept b o e with z | ⟨t,ht,rfl⟩
    ·exact ⟨_,z⟩
    ·obtain ⟨more,em⟩:=tabK t ht;exact ⟨_,em⟩
theorem walk_ofT {l:PySem.W.OpenLaw} {n k:Nat} {q:Program} {loose:List Str} {XP:(Str->Option Value)->Heap->Prop} {YP:World->Heap->Prop} {d:DefRec} {K:Params->PySem.W.Frag} {sp:World->Sp} {x:Str} (tabs:List LTab)
  (hn:l.most=some n) (hn2:n<=sizeLine) (hdf:d.params.defaults=[]) (hr:Room k callerA)
  (hY:∀ (w:World) (h:Heap),YP w h->(K w.params).In h)
  (hrec:∀ t ∈ tabs,((recsOf q).find? fun e=>e.name == t.x).isSome=true) (htab:∀ (w:World),∀ t ∈ tabs,A98 (K w.params) t.x=some (t.c,t.P)) (hK:∀ w:World,A18 (K w.params)=true) (hone:∀ t ∈ tabs,∀ t' ∈ tabs,t.P=t'.P->t.q=t'.q)
  (F:∀ (w:World) (mg:Str->Option Value) (fa:Addr) (h:Heap),(K w.params).In h->h.Ns mainGlobals mg->mg d.name=some (.ref fa)->
   ∃ fd:FuncData,(∀ (s:Shared) (u:Value),BindsTo s fd ⟨[u],[]⟩ [(x,u)])/\
    ∀ base:Heap,(K w.params).In base->base.Ns mainGlobals mg->BM mg base->FnOk l.prog w (K w.params) mg base CX0 k fa fd [x] (sp w))
  (hsp:∀ (w:World) (H:Hp) (a:Addr) (ns:List Int),ns.length<=n->qZ0 tabs H->SqL (K w.params) H a (ns.map V.int)->sp w [.ref a] H (fun v _=>v=.bl true) fun _ _ _=>False) :
  PySem.W.WalkO q loose XP YP l.row.toRowW d [] (fun f vs=>A88 f vs):=by
 refine Att.attach_call hn hdf fun w s₀ s₁ mg mb fa o pm cd doc a vs ns G Y ho hd hcd hmg hobj hints hlen hg=>?_;have KX:=hY w _ Y;obtain ⟨fd,hb,hF⟩:=F w mg fa _ KX G.T.g hmg;refine qS4 tabs KX G.T.g G.T.b G.T.builtins G.T.nolimit hg hobj hints (F3 hlen hn2) hr G.T.bmain (fun t ht=>?_) (hK w) hone hF hb fun H hO hS=>hsp w H a ns hlen hO hS;obtain ⟨dd,hdd⟩:=X4.mp (hrec t ht);exact PySem.W.tab_of G.T KX hdd (htab w t ht)
end L2
namespace L2
open PySem PySem.Spec PyProof.Rows
section
variable {prog:Program} {w:World} {A:Around} {E:Value->Shared->Prop} {s:Shared}
end
section
variable {X:Cx}
end
end L2
namespace L2
open PySem PySem.Spec PyProof.Rows
section
open PySem.SeqAt
open PySem.AutoSeq1 (wpAny_loadPart')
open PySem.MeetsSeq PySem.MeetsSeq2 PySem.MeetsSeq3
theorem qNM:∀ ns:List Int,HT.lexLt ns ns=false
 | []=>rfl
 | x::ns=>by rw [HT.lexLt_cons,if_pos rfl];exact qNM ns
theorem qIL:∀ {vs:List Value} {ns ms:List Int},IntsAre vs ns->IntsAre vs ms->ns=ms
 | _,_,_,.nil,.nil=>rfl
 | _,_,_,.cons a t h,.cons _ _ h'=>by rw [qIL h h']
theorem qFU:∀ {vs:List Value} {ns:List Int},IntsAre vs ns->∀ (j:Nat) (hj:j<vs.length),∃ n t,ns[j]?=some n/\vs[j]=.int n t
 | _,_,.cons a t h,0,_=>⟨a,t,rfl,rfl⟩
 | _,_,.cons a t h,j+1,hj=>qFU h j (Nat.lt_of_succ_lt_succ hj)
theorem qSV {A:Around} {s:Shared} {l b:Addr} {Ae items2:Array Value} {ns ms:List Int} (hl:IsTup s.heap l Ae) (hb:IsTup s.heap b items2) (hi:IntsAre Ae.toList ns) (hj:IntsAre items2.toList ms) (hu:A.units<cLine):EqAt A s (.ref l) (.ref b) (decide (ns=ms)):=by
 by_cases e:l=b
 ·subst e;obtain ⟨o,g1,_,n1,d1⟩:=hl;obtain ⟨o',g2,_,n2,d2⟩:=hb;rw [g1] at g2;cases g2;rw [d1] at d2;cases d2;rw [decide_eq_true (qIL hi hj)];exact EqAt.same _
 ·refine EqAt.of_refs e ?_;have z1:Ae.size=ns.length:=by rw [<- hi.length];simp
  have z2:items2.size=ms.length:=by rw [<- hj.length];simp
  have:=RcAt.tuples (A:=A) (s:=s) (e:=fun j=>decide (ns[j]?=ms[j]?)) hl hb hu (fun j h1 h2=>by
   obtain ⟨n,t,e1,e2⟩:=qFU hi j (by simpa using h1)
   obtain ⟨m,u,e3,e4⟩:=qFU hj j (by simpa using h2)
   have e2:Ae[j]=.int n t:=by simpa using e2
   have e4:items2[j]=.int m u:=by simpa using e4
   rw [e1,e3,e2,e4];have q:=EqAt.int_int (A:=A.in1) (s:=s) n t m u
   rwa [show (n == m)=decide (some n=some m) by simp [BEq.beq]] at q)
  rwa [show ((O7 (min Ae.size items2.size)).all (fun j=>decide (ns[j]?=ms[j]?)) && Ae.size == items2.size)=decide (ns=ms) by
   rw [Q1,L3,M8,decide_eq_true_eq,beq_iff_eq]
   constructor
   ·rintro ⟨h1,h2⟩;refine A48 fun j=>?_;by_cases c:j<ns.length
    ·exact of_decide_eq_true (h1 j (L0.mpr (by lia)))
    ·rw [J1 (by lia),J1 (by lia)]
   ·rintro rfl;exact ⟨fun j _=>decide_eq_true rfl,by lia⟩] at this
theorem qK9 (l b x y:Addr) (a c:Int) (t u:Tok) (n n2:Nat) (dd dd2:Option Addr) (sl sl2:Array (Option Value)) (i1 i2:Array Value) (ns ms:List Int) (hi:IntsAre i1.toList ns) (hj:IntsAre i2.toList ms) :
  Meets (Builtin.«tuple.__lt__» ⟨[.ref l,.ref b],[]⟩)
   (fun A R s=>s.heap.get? l=some { cls:=.type "tuple",dict:=dd,data:=.seq #[.int a t,.ref x] n,slots:=sl }/\s.heap.get? b=some { cls:=.type "tuple",dict:=dd2,data:=.seq #[.int c u,.ref y] n2,slots:=sl2 }/\
    IsTup s.heap x i1/\IsTup s.heap y i2/\A.units+1<cLine/\R (.ok (.ret (.bool (HT.lexLt (a::ns) (c::ms))))) s):=
 .of_wp fun prog w A R s h=>by
  obtain ⟨hp,g,d,tk,os⟩:=s;obtain ⟨hl,hb,hx,hy,hu,h⟩:=h;have f2:=o8
  wp_walk using wpAny_loadPart' hl,wpAny_loadPart' hb,wpAny_forIn_list _ (fun rest b s'=>b.1=none/\s'=⟨hp,g,d,tk,os⟩/\((rest=[(O0 a t,O0 c u),(C6 x,C6 y)]/\R (.ok (.ret (.bool (HT.lexLt (a::ns) (c::ms))))) ⟨hp,g,d,tk,os⟩)\/
   (rest=[(C6 x,C6 y)]/\R (.ok (.ret (.bool (HT.lexLt ns ms)))) ⟨hp,g,d,tk,os⟩)\/(rest=[]/\R (.ok (.ret (.bool false))) ⟨hp,g,d,tk,os⟩))) _
  case turn=>
   rintro ⟨p,q⟩ rest b s' ⟨hb',rfl,⟨hz,hR⟩ | ⟨hz,hR⟩ | ⟨hz,hR⟩⟩
   ·cases hz;rw [HT.lexLt_cons] at hR;obtain ⟨e,he,hiff⟩:=HT.eqAt_int A.in1 ⟨hp,g,d,tk,os⟩ a t c u;refine wpAny_bind (he prog w _ _ ?_);cases e with
    | true=>
     rw [if_pos (hiff.mp rfl)] at hR
     wp_walk
     exact ⟨rfl,rfl,.inr (.inl ⟨rfl,hR⟩)⟩
    | false=>
     rw [if_neg (fun q=>absurd (hiff.mpr q) B0)] at hR;have hri:=HT.rcLt_int A.in1 ⟨hp,g,d,tk,os⟩ a t c u prog w
     wp_walk using hri
     exact ⟨_,rfl,by simpa using hR⟩
   ·cases hz;have he:=qSV (A:=A.in1) (s:=⟨hp,g,d,tk,os⟩) hx hy hi hj hu;refine wpAny_bind (he prog w _ _ ?_);by_cases e:ns=ms
    ·rw [decide_eq_true e];subst e;rw [qNM] at hR
     wp_walk
     exact ⟨rfl,rfl,.inr (.inr ⟨rfl,hR⟩)⟩
    ·rw [decide_eq_false e];have hri:∀ (E:Value->Shared->Prop) (Q:Value->Shared->Prop),Q (.bool (HT.lexLt ns ms)) ⟨hp,g,d,tk,os⟩->wpAny (model prog w) A.in1 (richCompare .Lt (.ref x) (.ref y)) Q E ⟨hp,g,d,tk,os⟩:=fun E Q hq=>HT.lt_tupInts hx hy hi hj hu hq
     wp_walk using hri
     exact ⟨_,rfl,by simpa using hR⟩
   ·cases hz
  case fin=>
   rintro ⟨b1,b2⟩ s' ⟨hb',rfl,hh⟩;simp only at hb';subst hb';have hR:R (.ok (.ret (.bool false))) ⟨hp,g,d,tk,os⟩:=by
    rcases hh with ⟨z,_⟩ | ⟨z,_⟩ | ⟨_,z⟩
    ·cases z
    ·cases z
    ·exact z
   wp_walk
   exact ⟨_,rfl,by simpa [Z2] using hR⟩
  case h=>
   exact ⟨rfl,rfl,.inl ⟨rfl,h⟩⟩
end
def KR2 (H:Hp) (y:V) (k:List Int):Prop:=∃ r q a ns,y=.ref r/\k=a::ns/\H r=some (.tup [.int a,.ref q])/\H q=some (.tup (ns.map V.int))
theorem qa3 {X:Cx} (hu:X.A.in1.units+1<cLine):KCmp X KR2:=by
 refine ⟨fun H H' y k sm ⟨r,q,a,ns,e1,e2,g1,g2⟩=>⟨r,q,a,ns,e1,e2,sm _ _ g1,sm _ _ g2⟩,?_⟩;intro Ab σ s H y y' u u' k k' Q E I ry ry' ⟨r,q,a,ns,e1,e2,g1,g2⟩ ⟨r',q',a',ns',e1',e2',g1',g2'⟩ h;subst e1 e2 e1' e2';cases ry;cases ry';obtain ⟨its,r1,p1,_⟩:=I.tuple (SqT.of g1);obtain ⟨its',r1',p1',_⟩:=I.tuple (SqT.of g1');obtain ⟨js,r2,p2,_⟩:=I.tuple (SqT.of g2);obtain ⟨js',r2',p2',_⟩:=I.tuple (SqT.of g2');obtain ⟨v1,v2,rfl,⟨t,rfl⟩,c2⟩:=Vals.two r1;obtain ⟨v1',v2',rfl,⟨t',rfl⟩,c2'⟩:=Vals.two r1';cases c2;cases c2';have i1:IntsAre js.toArray.toList ns:=qEX r2;have i2:IntsAre js'.toArray.toList ns':=qEX r2';obtain ⟨⟨cls,dd,data,sl⟩,ho,hc,n,hd⟩:=id p1;obtain ⟨⟨cls2,dd2,data2,sl2⟩,ho2,hc2,n2,hd2⟩:=id p1';simp only at hc hd hc2 hd2;subst hc hd hc2 hd2;exact richCompare_meets_room (op:=.Lt) ⟨_,ho,rfl⟩ ⟨_,ho2,rfl⟩ U9 Y6 (X8 _ _) (qK9 r r' q q' a a' t t' n n2 dd dd2 sl sl2 js.toArray js'.toArray ns ns' i1 i2)
  ⟨ho,ho2,p2,p2',hu,show A40 (HT.lexLt (a::ns) (a'::ns')) ≠ A09/\Q (.bool (HT.lexLt (a::ns) (a'::ns'))) s from ⟨(fun x=>nomatch x),h⟩⟩ (by lia)
section
variable {X:Cx}
def qXS (P:Addr) (q:Str) (fv:List Nat) (te:TE) (KR:Hp->V->List Int->Prop) (ta:TA):TE:=fun σ H Q=>ta σ H fun vs H1=>H1 P=some (.tbl (.tab q))/\
 ∃ l xs ks m,vs=[.ref l]/\H1 l=some (.lst xs)/\ks.length=xs.length/\(∀ (i:Nat) (x:V) (k:List Int),xs[i]?=some x->ks[i]?=some k->∀ Hc,Sm0 H1 Hc->te (qFQ fv σ x) Hc fun y H'=>Sm0 Hc H'/\KR H' y k)/\
  qWD (some .non) (xs.zip ks)=some m/\∀ H',Sm0 H1 H'->Q m H'
theorem qU3 {e:Expr} {ta:TA} {np pos kpos kpos2 lpos npos:Pos} {params:Arguments} {body:Expr} {scope:Scope} {c P:Addr} {q:Str} {p:Str} {fv:List Nat} {te:TE} {KR:Hp->V->List Int->Prop} {nn:Nat}
  (rm:Room 1 X.A) (hc:X.calm=true) (hg:Gl X "min") (hm:X.mg "min" = none) (hv:bootBuiltins "min" = some (.builtin "min")) (hb:BM X.mg X.base) (hcode:X.env.code=.ref c) (hd:hdIn X.K c P=true) (hq:X.env.qual ++ "<lambda>" = q)
  (S:LmScope X scope p fv) (hdef:defaultsOf params X.env=([],[])) (hbind:∀ (cl:List (Str × Addr)) (pm cd ct u:Value),bindArgs (U5 "<lambda>" q params body scope cl pm cd ct) ⟨[u],[]⟩=pure [(p,u)])
  (KC:KCmp X KR) (ha:PA X [e] ta) (he:∀ z,PE (lmCx X scope p fv q z) body te) (hn:PE X (.Constant .none nn npos) (tC .non)) (hs:starEach [e] X.env=[(false,eval e X.env)]:=by rfl) :
  PE X (.Call (.Name "min" np) [e] [⟨some "key",.Lambda params body scope lpos,kpos⟩,⟨some "default",.Constant .none nn npos,kpos2⟩] pos) (qXS P q fv te KR ta):=by
 intro Ab s σ H Q I h;refine wpAny_Call_Name_kw (qIG I hg hm hv ?_ (by decide) (by decide))
 refine X5 (thn (ha pos Ab s σ H _ I h) fun us s1 ⟨vs,H1,I1,r1,q1⟩=>?_) (by rw [hs];rfl) (by rw [hs];rfl)
 obtain ⟨hP,l,xs,ks,m,rfl,hl,lk,hk,em,q2⟩:=q1;obtain ⟨u,rfl,rx⟩:=qE2 r1;cases rx;have C:=qMO (c:=c) (P:=P) I1.ok.mod.kin hd;have pl:=qVF (X:=X) (pos:=lpos) (body:=body) hb hcode C hq S hdef;refine thn (qKI (kpos:=kpos) (nm:=some "key") pl (qKI (kpos:=kpos2) (nm:=some "default") hn qRC) pos Ab s1 σ H1 (fun zs H2=>∃ f cc ctv,zs=[.ref f,.non]/\Sm0 H1 H2/\H2 f=some (LamF X q params body scope cc ctv f)/\H2 cc=some (.tbl (.cod q))) I1 ⟨hP,fun f cc ctv H' sm h0 hf hcc=>⟨f,cc,ctv,rfl,sm,hf,hcc⟩⟩) fun ws s2 ⟨zs,H2,I2,rz,f,cc,ctv,ez,sm,hf,hcc⟩=>?_;subst ez;obtain ⟨u2,u3,rfl,r2,r3⟩:=Vals.two rz;cases r2;cases r3;have hA:X.A.in1.frames=some X.stack:=I2.ok.frames;exact qID (H:=H2) hc rm hA S hbind he KC ⟨lk,fun i x k hx hk' Hc smc=>hk i x k hx hk' Hc fun b o e=>smc b o (sm b o e)⟩ hf hcc (SqL.of (sm _ _ hl)) (fun H' smc=>SqL.of (smc _ _ (sm _ _ hl))) I2
  (by unfold argsOk;kernel_rfl) (some .none) rfl (some .non) (.inr ⟨.non,.none,rfl,rfl,rfl⟩) m em fun H' smc=>q2 H' fun b o e=>smc b o (sm b o e)
end
end L2
namespace L2.G
open PySem PySem.Spec PyProof.Rows
section
variable [NM]
variable {prog:Program} {w:World} {A:Around} {E:Value->Shared->Prop} {s:Shared}
theorem qGV {vs:List Value}:∀ p ∈ (pairsOf vs).toList,p.1=p.2:=by
 intro p hp;unfold pairsOf at hp;rw [t7] at hp
 induction vs with
 | nil=>cases hp
 | cons v vs ih=>
  rcases B7.mp hp with h | h
  ·rw [h]
  ·exact ih h
theorem qLZ (vs:List Value):(pairsOf vs).toList.map (·.2)=vs:=by
 unfold pairsOf;rw [t7,List.map_snd_zip (by simp)]
theorem qRJ {vs:List Value} {xs:Array Keyed} (px:xs.Perm (pairsOf vs)) (sx:qCX xs (pairsOf vs).size):(xs.map (·.2)).toList.Perm vs/\(xs.map (·.2)).toList.Pairwise (fun u v=>NM.nm u<=NM.nm v):=by
 have p2:=Q6.mp px
 constructor
 ·have:=p2.map (·.2);rw [qLZ] at this;rw [t8];exact this
 ·rw [t8,J5,M5];intro i j hi hj hij;have hs:=px.size_eq;have hi2:i<xs.size:=by simpa using hi
  have hj2:j<xs.size:=by simpa using hj
  have a:=sx i j (G0 hij) (by lia)
  rw [qSL hi2,qSL hj2] at a;have ei:=qGV _ (p2.mem_iff.mp (show xs[i] ∈ xs.toList by simp))
  have ej:=qGV _ (p2.mem_iff.mp (show xs[j] ∈ xs.toList by simp))
  rw [ei,ej] at a;simpa using a
theorem qOF {κ0:SortKind} {a:Addr} {vs:List Value} {n:Nat} {P:Fin->Shared->Prop} (e0:s.heap.get? a=some (seqObj "list" vs.toArray n)) (hz:vs.length<=sizeLine) (gd:∀ v ∈ vs,NM.good v)
  (hk:∀ h':Heap,(∀ (b:Addr) (o:Obj),b ≠ a->s.heap.get? b=some o->h'.get? b=some o)->2<=vs.length->(∀ {Q:SortKind->Shared->Prop},Q κ0 { s with heap:=h' }->wpAny (model prog w) A (keyKind' vs.toArray) Q E { s with heap:=h' })/\LtOk prog w A { s with heap:=h' } κ0)
  (h:∀ (out:Array Value),out.toList.Perm vs->out.toList.Pairwise (fun u v=>NM.nm u<=NM.nm v)->P (.done (.ret .none)) { s with heap:=sortedHeap s.heap a vs out }):wpAny (model prog w) A (Builtin.«list.sort» ⟨[.ref a],[]⟩) P E s:=by
 have la:=C0 e0;have z0:vs.toArray.size<=sizeLine:=by simpa using hz
 rw [list_sort_plain];refine wpAny_bind (listItems_at e0 rfl (wpAny_bind (listUpdate_at e0 rfl ?_ z0 (F0 _))));have e1:∃ k,(s.heap.update a (G4 fun _=>#[])).get? a=some (seqObj "list" #[] k):=⟨_,get?_update_seq e0 fun _=>#[]⟩;obtain ⟨k,e1⟩:=e1;refine wpAny_bind (seqEpoch_at e1 rfl (wpAny_bind (wpAny_newTuple ?_ (by simpa using hz))))
 refine wpAny_bind (wpAny_newList (wpAny_holding ?_));have e2:(((s.heap.update a (G4 fun _=>#[])).push (seqObj "tuple" vs.toArray 0)).push (seqObj "list" #[] 0)).get? a=some (seqObj "list" #[] k):=by
  rw [A49,A49]
  ·exact e1
  ·rw [A63];exact D6 la
  ·rw [size_push',A63];exact D6 (O8 la)
 have kept:∀ (b:Addr) (o:Obj),b ≠ a->s.heap.get? b=some o->(((s.heap.update a (G4 fun _=>#[])).push (seqObj "tuple" vs.toArray 0)).push (seqObj "list" #[] 0)).get? b=some o:=fun b o hb q=>
  A3 _ (A3 _ ((Heap.get?_update_ne _ _ _ _ hb).trans q))
 have last:∀ xs:Array Keyed,xs.Perm (pairsOf vs)->qCX xs (pairsOf vs).size->P (.done (.ret .none)) { s with heap:=sortedHeap s.heap a vs (xs.map (·.2)) }:=by
  intro xs px sx;obtain ⟨q1,q2⟩:=qRJ px sx;exact h _ q1 q2
 have sz:∀ xs:Array Keyed,xs.Perm (pairsOf vs)->(xs.map (·.2)).size<=sizeLine+1:=by
  intro xs px;rw [A84,px.size_eq,pairsOf_size]
  lia
 show wpAny _ A _ P E { s with heap:=((s.heap.update a (G4 fun _=>#[])).push (seqObj "tuple" vs.toArray 0)).push (seqObj "list" #[] 0) };dsimp only;by_cases few:vs.toArray.size<2
 ·simp only [if_pos few];refine wpAny_bind (wpAny_pure ?_);rw [A77];refine wpAny_bind (wpAny_pure (wpAny_bind (seqEpoch_at e2 rfl (wpAny_bind (listUpdate_at e2 rfl ?_ (F0 _) (sz (pairsOf vs) (.refl _)))))));simp only [bne_self_eq_false,E1,if_false];refine wpAny_pure (last (pairsOf vs) (.refl _) fun i j hij hj=>?_);rw [pairsOf_size] at hj;rw [B4] at few;rw [show i=j by lia]
  exact L6 _
 ·simp only [if_neg few];rw [B4] at few;obtain ⟨hk1,hk2⟩:=hk _ kept (by lia)
  have ik:qBL (pairsOf vs):=fun p hp=>by
   have m:=List.mem_map_of_mem (f:=(·.2)) hp;rw [qLZ] at m;rw [qGV p hp];exact gd _ m
  refine wpAny_bind (hk1 (wpAny_bind (wpAny_mono (qMB (κ0:=κ0) (a₀:=pairsOf vs) (Q:=fun _ st2=>gSG κ0 (pairsOf vs) st2/\qCX (arrOf st2) (pairsOf vs).size) ik ⟨.refl _,rfl,rfl⟩ rfl fun st2 g u=>⟨g,u⟩) ?_ fun _ _ x=>x)));rintro ⟨_,st2⟩ s2 ⟨es,g,u⟩;cases (show s2=_ from es);refine wpAny_bind (seqEpoch_at e2 rfl (wpAny_bind (listUpdate_at e2 rfl ?_ (F0 _) (sz _ g.perm))));dsimp only;rw [g.failed];simp only [bne_self_eq_false,E1,if_false];exact wpAny_pure (last _ g.perm u)
end
theorem qJT:∀ a:List Int,HT.lexLt a a=false
 | []=>rfl
 | x::a=>by rw [HT.lexLt_cons,if_pos rfl];exact qJT a
theorem qIF:∀ a b c:List Int,HT.lexLt a b=true->HT.lexLt b c=true->HT.lexLt a c=true
 | [],[],_,h,_=>by cases h
 | [],_::_,[],_,h=>by cases h
 | [],_::_,_::_,_,_=>rfl
 | _::_,[],_,h,_=>by cases h
 | _::_,_::_,[],_,h=>by cases h
 | x::a,y::b,z::c,h1,h2=>by
  rw [HT.lexLt_cons] at h1 h2 ⊢;by_cases e1:x=y
  ·subst e1;rw [if_pos rfl] at h1;by_cases e2:x=z
   ·rw [if_pos e2] at h2 ⊢;exact qIF a b c h1 h2
   ·rw [if_neg e2] at h2 ⊢;exact h2
  ·rw [if_neg e1] at h1;have h1:=of_decide_eq_true h1;by_cases e2:y=z
   ·subst e2;rw [if_neg e1];exact decide_eq_true h1
   ·rw [if_neg e2] at h2;have h2:=of_decide_eq_true h2;rw [if_neg (by lia)]
    exact decide_eq_true (by lia)
theorem qM4:∀ a b:List Int,HT.lexLt a b=false->HT.lexLt b a=false->a=b
 | [],[],_,_=>rfl
 | [],_::_,h,_=>by cases h
 | _::_,[],_,h=>by cases h
 | x::a,y::b,h1,h2=>by
  rw [HT.lexLt_cons] at h1 h2;by_cases e:x=y
  ·subst e;rw [if_pos rfl] at h1 h2;rw [qM4 a b h1 h2]
  ·rw [if_neg e] at h1;rw [if_neg (fun z=>e z.symm)] at h2;have:=of_decide_eq_false h1;have:=of_decide_eq_false h2
   lia
noncomputable def qDG (L:List (List Int)) (a:List Int):Int:=(((L.filter fun x=>HT.lexLt x a).length:Nat):Int)
theorem qGA {α:Type} {p q:α->Bool}:∀ {L:List α},(∀ x ∈ L,p x=true->q x=true)->(∃ x ∈ L,p x=false/\q x=true)->(L.filter p).length<(L.filter q).length
 | [],_,⟨x,hx,_⟩=>nomatch hx
 | y::L,h,⟨x,hx,h1,h2⟩=>by
  have le:∀ {M:List α},(∀ x ∈ M,p x=true->q x=true)->(M.filter p).length<=(M.filter q).length:=by
   intro M hM
   induction M with
   | nil=>exact A5 _
   | cons z M ih=>
    have i:=ih fun x hx=>hM x (A9 _ hx);rw [O6,O6];cases ep:p z
    ·cases q z
     ·simpa using i
     ·simp;lia
    ·rw [hM z (by simp) ep]
     simpa using i
  rw [O6,O6];rcases B7.mp hx with e | e
  ·subst e;have:=le fun x hx=>h x (A9 _ hx);rw [h1,h2];simp
   lia
  ·have i:=qGA (fun x hx=>h x (A9 _ hx)) ⟨x,e,h1,h2⟩;cases ep:p y
   ·cases q y
    ·simpa using i
    ·simp;lia
   ·rw [h y (by simp) ep]
    simpa using i
theorem qR4 {L:List (List Int)} {a b:List Int} (ha:a ∈ L) (h:HT.lexLt a b=true):qDG L a<qDG L b:=by
 unfold qDG;have:=qGA (p:=fun x=>HT.lexLt x a) (q:=fun x=>HT.lexLt x b) (L:=L) (fun x _ hx=>qIF _ _ _ hx h) ⟨a,ha,qJT a,h⟩
 lia
theorem qHO {L:List (List Int)} {a b:List Int} (ha:a ∈ L) (hb:b ∈ L):decide (qDG L a<qDG L b)=HT.lexLt a b:=by
 cases h:HT.lexLt a b with
 | true=>exact decide_eq_true (qR4 ha h)
 | false=>
  refine decide_eq_false fun z=>?_;cases h2:HT.lexLt b a with
  | true=>have:=qR4 hb h2;lia
  | false=>rw [qM4 a b h h2] at z;lia
noncomputable def qQ7 (xs:List V):List Int:=xs.map fun | .int i=>i | _=>0
theorem qMA (t:List Int):qQ7 (t.map V.int)=t:=by
 unfold qQ7;rw [P8];exact (i0 fun x _=>rfl).trans (List.map_id _)
noncomputable def keyH (H:Hp):Value->List Int
 | .ref r=>match H r with
  | some (.tup xs)=>qQ7 xs
  | _=>[]
 | _=>[]
@[reducible] def tupNM (H:Hp) (L:List (List Int)):NM:=⟨fun v=>qDG L (keyH H v),fun v=>∃ r t,v=.ref r/\H r=some (.tup (t.map V.int))/\t ∈ L⟩
theorem qKU {H:Hp} {r:Addr} {t:List Int} (h:H r=some (.tup (t.map V.int))):keyH H (.ref r)=t:=by
 show (match H r with | some (.tup xs)=>qQ7 xs | _=>[])=t
 rw [h];exact qMA t
section
variable {prog:Program} {w:World} {A:Around} {E:Value->Shared->Prop} {s:Shared}
theorem qRO {x y:Addr} {xs ys:Array Value} {ns ms:List Int} {Q:Bool->Shared->Prop} (hu:A.units<cLine) (hx:IsTup s.heap x xs) (hy:IsTup s.heap y ys) (ix:IntsAre xs.toList ns) (iy:IntsAre ys.toList ms) (h:Q (HT.lexLt ns ms) s):wpAny (model prog w) A (oneLt' true (.ref x) (.ref y)) Q E s:=by
 rw [oneLt'_eq];simp only [if_true];obtain ⟨⟨cls,dd,data,sl⟩,ho,hc,n,hd⟩:=id hx;obtain ⟨⟨cls2,dd2,data2,sl2⟩,ho2,hc2,n2,hd2⟩:=id hy;simp only at hc hd hc2 hd2;subst hc hd hc2 hd2;refine wpAny_bind (wpAny_cRoomFor hu ?_);refine wpAny_bind (wpAny_callSpecialIfBound?_slot ⟨_,ho,rfl⟩ U9 (call_meets U9 ⟨_,ho,rfl⟩ Y6 (X8 _ _) (HT.tuple_lt_ints x y xs ys n n2 dd dd2 sl sl2 ns ms ix iy) ⟨ho,ho2,?_⟩));exact wpAny_truthy_bool h
end
end L2.G
namespace L2.G
open PySem PySem.Spec PyProof.Rows
section
variable {prog:Program} {w:World} {A:Around} {E:Value->Shared->Prop} {s:Shared}
theorem qII {b:Bool} {Q:Bool->Shared->Prop}:∀ {vs ws:List Value} {ns ms:List Int} {i:Nat} {fin:Bool},IntsAre vs ns->IntsAre ws ms->
  (fin=decide (vs.length<ws.length))->Q (HT.lexLt ns ms) s->PySem.W.KatLex prog w A b fin Q (vs.zip ws) i s
 | _,_,_,_,i,fin,.nil,.nil,ef,h=>by
  rw [ef];exact A02 h
 | _,_,_,_,i,fin,.nil,.cons _ _ _,ef,h=>by
  rw [ef];exact A02 h
 | _,_,_,_,i,fin,.cons _ _ _,.nil,ef,h=>by
  rw [ef];exact A02 h
 | _,_,_,_,i,fin,.cons (vs:=vs) (ns:=ns) x t hv,.cons (vs:=ws) (ns:=ms) y u hw,ef,h=>by
  rw [F7];refine PySem.W.kat_cons (wpAny_eqBool_int ?_);rw [HT.lexLt_cons] at h;by_cases e:x=y
  ·rw [if_pos e] at h;rw [beq_iff_eq.mpr e];refine PySem.W.kat_yes (qII hv hw ?_ h);rw [ef];simp
  ·rw [if_neg e] at h;rw [beq_eq_false_iff_ne.mpr e];refine PySem.W.kat_no ?_;cases eb:(b && i == 0) with
   | true=>exact oneLt_int h
   | false=>exact PySem.W.kat_one _ _ (lt_int h)
theorem qQ4 {x y:Addr} {xs ys:Array Value} {ns ms:List Int} {b:Bool} {Q:Bool->Shared->Prop} (hx:IsTup s.heap x xs) (hy:IsTup s.heap y ys) (ix:IntsAre xs.toList ns) (iy:IntsAre ys.toList ms) (h:Q (HT.lexLt ns ms) s):wpAny (model prog w) A (keyLt' (tuples' b) (.ref x) (.ref y)) Q E s:=by
 obtain ⟨o,ho,hc,n,hd⟩:=id hx;obtain ⟨o2,ho2,hc2,n2,hd2⟩:=id hy;refine PySem.W.kat_lt ho hd ho2 hd2 (qII ix iy ?_ h);simp
theorem qS7 {rs:List Addr} {ts:List (List Int)} {Q:SortKind->Shared->Prop} (h:Paired (fun (r:Addr) (t:List Int)=>∃ xs:Array Value,IsTup s.heap r xs/\IntsAre xs.toList t) rs ts) (hne:∀ t ∈ ts,t ≠ []) (h2:2<=rs.length)
  (q:Q (tuples' true) s):wpAny (model prog w) A (keyKind' (rs.map C6).toArray) Q E s:=by
 have tu:∃ fs,PySem.W.KatTups s.heap (rs.map C6) fs/\fs.length=rs.length/\∀ v ∈ fs,∃ n t,v=.int n t:=by
  clear h2
  induction h with
  | nil=>exact ⟨[],trivial,rfl,fun _ z=>nomatch z⟩
  | @cons r t l1 l2 a _ ih=>
   obtain ⟨fs,k1,k2,k3⟩:=ih fun t ht=>hne t (A9 _ ht);obtain ⟨xs,⟨o,ho,hc,n,hd⟩,ia⟩:=a;have ht:t ≠ []:=hne t (by simp)
   obtain ⟨xs⟩:=xs;cases ia with
   | nil=>exact absurd rfl ht
   | cons x tk rest=>
    refine ⟨.int x tk::fs,.cons ho hc hd rfl k1,by simp [k2],fun v hv=>?_⟩
    rcases B7.mp hv with e | e
    ·exact ⟨x,tk,e⟩
    ·exact k3 v e
 obtain ⟨fs,k1,k2,k3⟩:=tu;refine PySem.W.kat_kind (T:=.type "int") k1 (by lia) (fun v hv=>?_) rfl ?_
 ·obtain ⟨n,t,rfl⟩:=k3 v hv;exact .now
 ·exact q
theorem qK0:∀ (rs:List Addr) {Q:List (Option Value)->Shared->Prop},(∀ r ∈ rs,∃ xs:Array Value,IsTup s.heap r xs)->(∀ L,Q L s)->wpAny (model prog w) A ((rs.map C6).mapM firstOfTuple') Q E s
 | [],_,_,h=>by rw [j8,List.mapM_nil];exact wpAny_pure (h _)
 | r::rs,Q,t,h=>by
  obtain ⟨xs,o,ho,hc,n,hd⟩:=t r (by simp)
  rw [C9,A85];refine wpAny_bind ?_;rw [A11];refine wpAny_bind (l7 (show PySem.W.Looks (model prog w) s.heap (typeOf (.ref r)) o.cls from (b8 ho).andThen .now) ?_);rw [hc,if_neg (by first | decide | simp)]
  refine wpAny_bind (listItems_at ho hd (wpAny_pure ?_));exact wpAny_bind (qK0 rs (Q:=fun bs s'=>wpAny (model prog w) A (pure (xs[0]?::bs)) Q E s') (fun r hr=>t r (A9 _ hr)) fun L=>wpAny_pure (h _))
theorem qQ3 {r0:Addr} {rs:List Addr} {Q:SortKind->Shared->Prop} (h0:IsTup s.heap r0 #[]) (h:∀ r ∈ rs,∃ xs:Array Value,IsTup s.heap r xs)
  (q:Q oneType' s):wpAny (model prog w) A (keyKind' ((r0::rs).map C6).toArray) Q E s:=by
 rw [kat_kind_eq,A50,map_eq_pure_bind,C9,A85];obtain ⟨o,ho,hc,n,hd⟩:=id h0;refine wpAny_bind (wpAny_bind (wpAny_bind ?_));rw [A11];refine wpAny_bind (l7 (show PySem.W.Looks (model prog w) s.heap (typeOf (.ref r0)) o.cls from (b8 ho).andThen .now) ?_);rw [hc,if_neg (by first | decide | simp)]
 refine wpAny_bind (listItems_at ho hd (wpAny_pure ?_));refine wpAny_bind (qK0 rs h fun L=>wpAny_pure (wpAny_pure ?_));have e1:((((#[]:Array Value)[0]?)::L).toArray.all fun x=>x.isSome)=false:=by simp
 have e2:((((((#[]:Array Value)[0]?)::L).toArray)[0]?).bind id).isSome=false:=by simp
 rw [if_neg (by rw [e1];exact B0),if_neg (by rw [e2];exact B0)]
 rw [oneTypeOnly'_eq,A50,map_eq_pure_bind];refine wpAny_bind (wpAny_bind (wpAny_bind (PySem.W.kas_mapM (r:=Z0 "tuple") _ (fun v hv Q' hq=>?_) (wpAny_pure ?_))))
 ·rw [<- C9] at hv;obtain ⟨r,hr,rfl⟩:=E2.mp hv;have:∃ xs:Array Value,IsTup s.heap r xs:=by
   rcases B7.mp hr with e | e
   ·rw [e];exact ⟨_,h0⟩
   ·exact h r e
  obtain ⟨xs,o2,ho2,hc2,n2,hd2⟩:=this;refine l7 (show PySem.W.Looks (model prog w) s.heap (typeOf (.ref r)) o2.cls from (b8 ho2).andThen .now) ?_;rw [hc2];exact hq
 ·have h0':(A99 (fun _=>Z0 "tuple") (C6 r0::A99 C6 rs)).toArray[0]?=some (Z0 "tuple"):=by simp
  have hall2:((A99 (fun _=>Z0 "tuple") (C6 r0::A99 C6 rs)).toArray.all fun x=>x == Z0 "tuple")=true:=by
   simp only [List.all_toArray,List.all_map,M8];intro _ _
   rfl
  rw [h0'];simp only [hall2,if_true];exact wpAny_pure (wpAny_pure q)
end
end L2.G
namespace L2.G
open PySem PySem.Spec PyProof.Rows
section
variable {X:Cx}
abbrev TupsAt (H:Hp) (rs:List Addr) (ts:List (List Int)):Prop:=Paired (fun (r:Addr) (t:List Int)=>H r=some (.tup (t.map V.int))) rs ts
theorem qG4:∀ {rs:List Addr} {its:List Value},Vals (rs.map V.ref) its->its=rs.map C6
 | [],_,.nil=>rfl
 | r::rs,_,.cons h t=>by
  rw [C9,<- qG4 t];have:_=C6 r:=h;rw [this]
def qHE:Value->Addr
 | .ref a=>a
 | _=>0
theorem qLS:∀ {vs:List Value},(∀ v ∈ vs,∃ a,v=.ref a)->(vs.map qHE).map C6=vs
 | [],_=>rfl
 | v::vs,h=>by
  obtain ⟨a,rfl⟩:=h v (by simp)
  rw [C9,C9,qLS fun v hv=>h v (A9 _ hv)]
  rfl
theorem qO5 {H:Hp}:∀ {rs:List Addr} {ts:List (List Int)},TupsAt H rs ts->ts=rs.map fun r=>keyH H (.ref r)
 | _,_,.nil=>rfl
 | _,_,.cons h t=>by rw [C9,qKU h,<- qO5 t]
theorem qQN {H:Hp}:∀ {rs:List Addr},(∀ r ∈ rs,∃ t:List Int,H r=some (.tup (t.map V.int)))->TupsAt H rs (rs.map fun r=>keyH H (.ref r))
 | [],_=>.nil
 | r::rs,h=>by
  obtain ⟨t,e⟩:=h r (by simp)
  exact .cons (by dsimp only;rw [qKU e];exact e) (qQN fun r hr=>h r (A9 _ hr))
theorem qHI {H:Hp}:∀ {rs:List Addr} {ts:List (List Int)},TupsAt H rs ts->∀ {r:Addr},r ∈ rs->∃ t,t ∈ ts/\H r=some (.tup (t.map V.int))
 | _,_,.nil,_,h=>nomatch h
 | _,_,.cons (b:=t) g T,r,h=>by
  rcases B7.mp h with e | e
  ·exact ⟨t,by simp,by rw [e];exact g⟩
  ·obtain ⟨t,h1,h2⟩:=qHI T e;exact ⟨t,A9 _ h1,h2⟩
theorem qQZ {Ab:List (Addr × Obj)} {s:Shared} {σ:St} {H:Hp} {Q:VK} {A:Around} {E:Value->Shared->Prop} {rs:List Addr} {ts:List (List Int)} {D:Addr} (I:Inv X Ab σ (Ah H D (.lst (rs.map V.ref))) s) (hD:H D=none) (T:TupsAt H rs ts)
  (hk:(∀ t ∈ ts,t ≠ [])\/∃ ts',ts=[]::ts') (hu:A.units+8<cLine)
  (q:∀ rs' ts',rs'.Perm rs->TupsAt H rs' ts'->ts'.Perm ts->ts'.Pairwise (fun a b=>HT.lexLt b a=false)->Q (.ref D) (Ah H D (.lst (rs'.map V.ref)))) :
  wpAny (model X.prog X.w) A (call (.builtin "list.sort") [.ref D]) (fun _ s'=>EP X Ab σ Q (.ref D) s') E s:=by
 obtain ⟨z,its,n,rv,hl,e⟩:=I.lstM qA1;have ei:=qG4 rv;subst ei;have hz:(rs.map C6).length<=sizeLine:=by simpa using z
 letI:NM:=tupNM H ts
 have gd:∀ v ∈ rs.map C6,NM.good v:=fun v hv=>by
  obtain ⟨r,hr,rfl⟩:=E2.mp hv;obtain ⟨t,ht,g⟩:=qHI T hr;exact ⟨r,t,rfl,g,ht⟩
 have tat:∀ (h':Heap),(∀ (b:Addr) (o:Obj),b ≠ D->s.heap.get? b=some o->h'.get? b=some o)->∀ (r:Addr) (t:List Int),H r=some (.tup (t.map V.int))->∃ xs:Array Value,IsTup h' r xs/\IntsAre xs.toList t:=by
  intro h' kept r t g;have nr:r ≠ D:=qA5 g hD;obtain ⟨its,r1,⟨o,ho,hc,n,hd⟩,_⟩:=I.tuple (SqT.of (show (Ah H D (.lst (rs.map V.ref))) r=some (.tup (t.map V.int)) by rw [qA7 nr];exact g))
  exact ⟨its.toArray,⟨o,kept r o nr ho,hc,n,hd⟩,qEX r1⟩
 have lt_ok:∀ (A':Around) (h':Heap) (κ:SortKind),(∀ (x y:Addr) (xs ys:Array Value) (ns ms:List Int) (Q:Bool->Shared->Prop) (E:Value->Shared->Prop),IsTup h' x xs->IsTup h' y ys->IntsAre xs.toList ns->IntsAre ys.toList ms->Q (HT.lexLt ns ms) { s with heap:=h' }->wpAny (model X.prog X.w) A' (keyLt' κ (.ref x) (.ref y)) Q E { s with heap:=h' })->
   (∀ (b:Addr) (o:Obj),b ≠ D->s.heap.get? b=some o->h'.get? b=some o)->LtOk X.prog X.w A' { s with heap:=h' } κ:=by
  intro A' h' κ rule kept;refine ⟨fun {x y Q E} hx hy h=>?_⟩;obtain ⟨r1,t1,rfl,g1,m1⟩:=hx;obtain ⟨r2,t2,rfl,g2,m2⟩:=hy;obtain ⟨xs,i1,j1⟩:=tat h' kept r1 t1 g1;obtain ⟨ys,i2,j2⟩:=tat h' kept r2 t2 g2;refine rule r1 r2 xs ys t1 t2 Q E i1 i2 j1 j2 ?_;have e1:NM.nm (C6 r1)=qDG ts t1:=by show qDG ts (keyH H (.ref r1))=_;rw [qKU g1]
  have e2:NM.nm (C6 r2)=qDG ts t2:=by show qDG ts (keyH H (.ref r2))=_;rw [qKU g2]
  rw [e1,e2,qHO m1 m2] at h;exact h
 have fin:∀ out:Array Value,out.toList.Perm (rs.map C6)->out.toList.Pairwise (fun u v=>NM.nm u<=NM.nm v)->EP X Ab σ Q (.ref D) { s with heap:=sortedHeap s.heap D (rs.map C6) out }:=by
  intro out p1 p2;have refs:∀ v ∈ out.toList,∃ a,v=C6 a:=fun v hv=>by
   obtain ⟨r,_,er⟩:=E2.mp (p1.mem_iff.mp hv);exact ⟨r,er.symm⟩
  have back:=qLS refs;have p3:(out.toList.map qHE).Perm rs:=by
   have:=p1.map qHE;rw [P8] at this;have e:rs.map (qHE ∘ C6)=rs:=(i0 fun x _=>rfl).trans (List.map_id _)
   rwa [e] at this
  obtain ⟨e2,hat⟩:=sortedHeap_at (vs:=rs.map C6) (out:=out) e;have T':TupsAt H (out.toList.map qHE) ((out.toList.map qHE).map fun r=>keyH H (.ref r)):=qQN fun r hr=>by
   obtain ⟨t,_,g⟩:=qHI T (p3.mem_iff.mp hr);exact ⟨t,g⟩
  have p4:((out.toList.map qHE).map fun r=>keyH H (.ref r)).Perm ts:=by
   have:=p3.map fun r=>keyH H (.ref r);rw [<- qO5 T] at this;exact this
  have p5:((out.toList.map qHE).map fun r=>keyH H (.ref r)).Pairwise (fun a b=>HT.lexLt b a=false):=by
   rw [<- back,J5] at p2;rw [J5];refine p2.imp_of_mem fun {a b} ha hb le=>?_;have ma:keyH H (.ref a) ∈ ts:=p4.mem_iff.mp (E2.mpr ⟨a,ha,rfl⟩);have mb:keyH H (.ref b) ∈ ts:=p4.mem_iff.mp (E2.mpr ⟨b,hb,rfl⟩);have le:qDG ts (keyH H (.ref a))<=qDG ts (keyH H (.ref b)):=le;rw [<- qHO mb ma];exact decide_eq_false (by lia)
  refine ⟨.ref D,Ah H D (.lst ((out.toList.map qHE).map V.ref)),?_,rfl,q _ _ p3 T' p4 p5⟩;have hu:Ah (Ah H D (.lst (rs.map V.ref))) D (.lst ((out.toList.map qHE).map V.ref))=Ah H D (.lst ((out.toList.map qHE).map V.ref)):=qK8;rw [<- hu];refine I.write (x:=D) (e:=D) (t':=s.toks) (by rw [qA1];exact trivial) (.inl rfl) (fun b u hb hbu=>?_) ⟨_,hat⟩ ?_
  ·rw [sortedHeap_old hb (C0 hbu)];exact hbu
  ·refine ⟨?_,out.toList,e2,?_,by simpa using hat⟩
   ·rw [A0,p3.length_eq];simpa using z
   ·have:=qHW (out.toList.map qHE);rw [back] at this;exact this
 rcases hk with hk | ⟨ts',hk⟩
 ·refine wpAny_call_entry slot_list_sort ⟨_,e,rfl⟩ entry_list_sort (qOF (κ0:=tuples' true) (n:=n) e hz gd (fun h' kept h2=>⟨fun {Q} hq=>?_,lt_ok _ h' _ (fun x y xs ys ns ms Q E i1 i2 j1 j2 hq=>qQ4 i1 i2 j1 j2 hq) kept⟩) fun out p1 p2=>⟨_,rfl,fin out p1 p2⟩) (args_list_sort _);refine qS7 (s:={ s with heap:=h' }) (ts:=ts) ?_ hk (by simpa using h2) hq
  exact Paired.mapP T fun r t g=>tat h' kept r t g
 ·refine wpAny_call_entry slot_list_sort ⟨_,e,rfl⟩ entry_list_sort (qOF (κ0:=oneType') (n:=n) e hz gd (fun h' kept h2=>⟨fun {Q} hq=>?_,lt_ok _ h' _ (fun x y xs ys ns ms Q E i1 i2 j1 j2 hq=>?_) kept⟩) fun out p1 p2=>⟨_,rfl,fin out p1 p2⟩) (args_list_sort _)
  ·cases T with
   | nil=>cases hk
   | @cons r t l1 l2 g T=>
    have et:t=[]:=by cases hk;rfl
    subst et;obtain ⟨xs,i1,j1⟩:=tat h' kept r [] g;obtain ⟨xs⟩:=xs;cases j1;refine qQ3 (s:={ s with heap:=h' }) i1 (fun r hr=>?_) hq;obtain ⟨t,_,g⟩:=qHI T hr;obtain ⟨xs,i,_⟩:=tat h' kept r t g;exact ⟨xs,i⟩
  ·rw [keyLt'_oneType];exact qRO (s:={ s with heap:=h' }) (by first | exact U7 (by show _<=A.units+8;simp [Around.in1]) hu | (show A.units+1<cLine;lia) | (show A.units<cLine;lia)) i1 i2 j1 j2 hq
theorem src_dT {prog:Program} {w:World} {d:Addr} {od:Obj} {es:Array DictEntry} {ep:Nat} (hd:(d == sysModules)=false) (hc:od.cls=.type "dict") (he:od.data=.dict es ep) :
  PySem.W.KdlSrc prog w "dict" d d es.size (fun i v=>∃ h:i<es.size,v=es[i].key) (fun h=>h.get? d=some od) where
 type:=fun s h=>⟨_,h,hc⟩
 there:=fun h x=>⟨C0 x,C0 x⟩
 keep:=fun h h' x k=>k d (.inl rfl) _ x
 notList:=by decide
 notTuple:=by decide
 hint:=fun A E s Q x q=>PySem.W.kdl_hint_dict ⟨_,x,hc⟩ q
 iter:=fun A s hh x=>by
  have hne:d ≠ s.heap.objs.size:=D6 (C0 x);refine ⟨_,fun i h=>qQG h s.heap.objs.size d i es.size ep/\h.get? d=some od,fun E Q q=>qML ⟨_,x,hc⟩ hd x he q,?_,⟨C1 _ rfl,A3 _ x⟩⟩;refine ⟨fun b hb=>?_,fun i h h' st k=>⟨k _ (by simp) _ st.1,k _ (by simp) _ st.2⟩,fun i s' Q E hi st q=>?_,fun s' Q E st q=>?_,fun i s' Q E st q=>wpAny_pyIter_keyiter ⟨_,st.1,rfl,rfl⟩ q⟩
  ·have e:b=s.heap.objs.size:=by simpa using hb
   simp [e]
  ·refine qMM st.1 st.2 he hi fun h' st' k=>?_;exact q _ h' s'.toks ⟨hi,rfl⟩ ⟨st',(k.2 d hne).trans st.2⟩ fun b o hb e=>(k.2 b (fun z=>hb (by simp [z]))).trans e
  ·refine qP6 hh st.1 (A5 _) st.2 he fun h' k=>?_;exact q h' s'.toks fun b o hb e=>k b o (fun z=>hb (by simp [z])) e
theorem qN5 {Ab:List (Addr × Obj)} {σ:St} {H:Hp} {Q:VK} {rs:List Addr} {ts:List (List Int)} (hu:X.A.units+64<cLine) {s1:Shared} (I1:Inv X Ab σ H s1) (T:TupsAt H rs ts) (hk:(∀ t ∈ ts,t ≠ [])\/∃ ts',ts=[]::ts') (hz:rs.length<=sizeLine)
  (q:∀ a rs' ts',H a=none->rs'.Perm rs->TupsAt H rs' ts'->ts'.Perm ts->ts'.Pairwise (fun a b=>HT.lexLt b a=false)->Q (.ref a) (Ah H a (.lst (rs'.map V.ref)))):wpAny (model X.prog X.w) X.A.in1 (do
   let l <- newList (rs.map C6)
   let _ <- holding [l] (call (.builtin "list.sort") [l] [])
   ret l) (fun fin s'=>∃ r,fin=.done (.ret r)/\EP X Ab σ Q r s') X.xe s1:=by
 refine wpAny_bind (wpAny_newList ?_ (by rw [A0];exact hz))
 have hf:=I1.hok.fresh (A5 s1.heap.objs.size);have I2:=I1.laid (a:=s1.heap.objs.size) (t':=s1.toks) (o:=.lst (rs.map V.ref)) (h':=s1.heap.push { cls:=.type "list",data:=.seq (rs.map C6).toArray }) (fun b u e=>A3 _ e) (A5 _) ⟨by rw [A0];exact hz,_,0,qHW rs,C1 _ rfl⟩
 refine wpAny_bind (wpAny_holding (wpAny_mono (qQZ (E:=X.xe) I2 hf T hk (by show X.A.units+1+8<cLine;lia) fun rs' ts' a b c d=>q _ rs' ts' hf a b c d) (fun _ s' x=>?_) fun _ _ e=>e))
 exact wpAny_pure ⟨_,rfl,x⟩
theorem call_sortedTD (hc:X.calm=true) (hu:X.A.units+64<cLine):qDT X (.builtin "sorted") (fun xs H Q=>∃ p o Ag ts,xs=[.ref p]/\H p=some (.frz o (.dT Ag))/\Ag.map (·.1)=ts.map (fun t=>t.map (fun i:Int=>(some (Q0 i):KI)))/\(∃ ts',ts=[]::ts')/\
  ∀ a rs' ts',H a=none->TupsAt H rs' ts'->ts'.Perm ts->ts'.Pairwise (fun a b=>HT.lexLt b a=false)->Q (.ref a) (Ah H a (.lst (rs'.map V.ref)))):=by
 intro Ab s σ H xs us Q I r h;obtain ⟨p,o,Ag,ts,rfl,hq,hks,hne,q⟩:=h;obtain ⟨u,rfl,rx⟩:=qE2 r;cases rx;refine m4 kind_sorted plain_sorted entry_sorted (args_sorted1 _) ?_;unfold Builtin.«sorted»;refine wpAny_bind (m:=checkCount "sorted" 1 1 _) (wpAny_pure ?_);obtain ⟨e1,e2,e3,es,ep,e4,e5,get⟩:=I.heldT hq;obtain ⟨ho',hz,_⟩:=(show ObjOk X.prog X.w H s.heap p (.frz o (.dT Ag)) from I.hok p _ hq);refine wpAny_bind (g8 (A:=X.A.in1) (src_dT e2 e3 e4) (I.ok.hd hc) e1 (by rw [e5];exact hz) fun h' tk acc kept Ae=>?_)
 obtain ⟨l1,l2⟩:=Ae;have lt:ts.length=Ag.length:=by
  have:=congrArg Q2 hks;simpa using this.symm
 -- the keys' addresses
 have each:∀ (i:Nat),i<acc.toList.length->∃ (r:Addr) (t:List Int),acc.toList[i]?=some (.ref r)/\ts[i]?=some t/\H r=some (.tup (t.map V.int)):=by
  intro i hi;have hi2:i<acc.size:=by simpa using hi
  obtain ⟨h3,e6⟩:=l2 i acc[i] (B8 hi2);obtain ⟨k,v,r,g1,g2,g3⟩:=get i h3;have ek:(Ag.map (·.1))[i]?=some k:=by rw [D0,g1];rfl
  rw [hks,D0] at ek;cases et:ts[i]? with
  | none=>rw [et] at ek;cases ek
  | some t=>
   rw [et] at ek;have ek:t.map (fun i:Int=>(some (Q0 i):KI))=k:=D3 ek;refine ⟨r,t,?_,rfl,?_⟩
   ·rw [E4,B8 hi2,e6,g2]
   ·rw [g3,<- ek,P8]
    rfl
 have build:∀ (l:List Value) (ts:List (List Int)),l.length=ts.length->(∀ (i:Nat),i<l.length->∃ (r:Addr) (t:List Int),l[i]?=some (.ref r)/\ts[i]?=some t/\H r=some (.tup (t.map V.int)))->∃ rs:List Addr,l=rs.map C6/\TupsAt H rs ts:=by
  intro l
  induction l with
  | nil=>
   intro ts h1 _;cases ts with
   | nil=>exact ⟨[],rfl,.nil⟩
   | cons _ _=>cases h1
  | cons v l ih=>
   intro ts h1 h2;cases ts with
   | nil=>cases h1
   | cons t ts=>
    obtain ⟨r,t',a1,a2,a3⟩:=h2 0 (by simp)
    obtain ⟨rs,b1,b2⟩:=ih ts (by simpa using h1) fun i hi=>by
     have:=h2 (i+1) (by simpa using hi)
     simpa using this
    have a1:v=.ref r:=by simpa using a1
    have a2:t=t':=by simpa using a2
    subst a1 a2;exact ⟨r::rs,by rw [b1];rfl,.cons a3 b2⟩
 obtain ⟨rs,e7,T⟩:=build acc.toList ts (by rw [C7,l1,e5,lt]) each
 have hz2:rs.length<=sizeLine:=by rw [B9 T,lt];exact hz
 have:=qN5 (s1:={ s with heap:=h',toks:=tk }) hu (I.kept (t':=tk) kept) T (.inr hne) hz2 (Q:=Q) fun a rs' ts' h1 h2 h3 h4 h5=>q a rs' ts' h1 h3 h4 h5;rw [<- e7] at this;exact this
end
end L2.G
namespace L2.G
open PySem PySem.Spec PyProof.Rows PySem.W
theorem perm_map_inv {α β:Type} {g:α->β} {a b:List β} (h:a.Perm b):∀ L:List α,b=L.map g->∃ L':List α,L'.Perm L/\a=L'.map g:=by
 induction h with
 | nil=>
  intro L e;exact ⟨[],by rw [A25.mp e.symm],rfl⟩
 | cons x _ ih=>
  intro L e;cases L with
  | nil=>cases e
  | cons y L=>
   rw [C9] at e
   injection e with e1 e2
   obtain ⟨L',p,e3⟩:=ih L e2;exact ⟨y::L',p.cons y,by rw [C9,e1,e3]⟩
 | swap x y l=>
  intro L e
  match L,e with
  | p::q::L,e=>
   rw [C9,C9] at e
   injection e with e1 e2
   injection e2 with e2 e3
   exact ⟨q::p::L,.swap p q L,by rw [C9,C9,e1,e2,e3]⟩
 | trans _ _ ih1 ih2=>
  intro L e;obtain ⟨L2,p2,e2⟩:=ih2 L e;obtain ⟨L1,p1,e1⟩:=ih1 L2 e2;exact ⟨L1,p1.trans p2,e1⟩
section
variable {X:Cx} {Ab:List (Addr × Obj)} {σ:St} {params:Arguments} {body:Expr} {scope:Scope} {p:Str} {fv:List Nat} {q:Str} {te:TE} {l f cc:Addr} {ctv:Value} {H0:Hp} {xs:List V} {ks:List (List Int)} {Q:VK}
theorem Inv.off {H:Hp} {s:Shared} {b:Addr} {h':Heap} (I:Inv X Ab σ H s) (f:FpOk X Ab H b) (hk:∀ c o,c ≠ b->s.heap.get? c=some o->h'.get? c=some o):Inv X Ab σ H { s with heap:=h' }:=
 I.turned (t':=s.toks) (fun c o hc e=>hk c o hc e) f.1 f.2.1 f.2.2.2.1 f.2.2.2.2.1 f.2.2.2.2.2
end
end L2.G
namespace L2.G
open PySem PySem.Spec PyProof.Rows PySem.W
section
variable {X:Cx} {Ab:List (Addr × Obj)} {σ:St} {params:Arguments} {body:Expr} {scope:Scope} {p:Str} {fv:List Nat} {q:Str} {te:TE} {l f cc:Addr} {ctv:Value} {H0:Hp} {xs:List V} {ks:List (List Int)} {Q:VK}
theorem qPK (l:Addr) (v:Value):argsOk "sorted" ⟨[.ref l],[(B6 "key",v)]⟩:=by unfold argsOk;kernel_rfl
end
end L2.G
namespace L2
open PySem PySem.Spec PyProof.Rows
section
variable {X:Cx}
end
end L2
namespace L2
open PySem PySem.Spec PyProof.Rows
section
variable {X:Cx}
theorem qU9 {Ab:List (Addr × Obj)} {s:Shared} {σ:St} {H:Hp} {Q:VK} {p:Addr} {ns:List Int} {kw:List (Str × Value)} {dv:Option Int} (hc:X.calm=true) (I:Inv X Ab σ H s) (hq:SqT X.K H p (ns.map V.int))
  (ok:argsOk "max" ⟨[.ref p],kw⟩) (df:Option Value) (hb:Q5 "max" ["key","default"] 0 ⟨[],kw⟩=pure [none,df]) (hdf:df=none/\dv=none\/∃ d t,df=some (.int d t)/\dv=some d)
  (m:Int) (em:topD dv ns=some m) (q:Q (.int m) H):wpAny (model X.prog X.w) X.A (call (.builtin "max") [.ref p] kw) (EP X Ab σ Q) X.xe s:=by
 obtain ⟨its,rv,hl,hz⟩:=I.tuple hq;have hlt:p<s.heap.objs.size:=by obtain ⟨_,e,_⟩:=hl;exact C0 e
 have hlen:=rv.length;rw [A0] at hlen;have ia:=qCV rv;have hname:(toString "max" ++ toString ".loop" : String) = "max.loop":=by decide
 refine qHC F.kind_max F.plain_max F.entry_max ok ?_;show wpAny _ _ (Q5 "max" ["key","default"] 0 ⟨[],kw⟩ >>= _) _ _ s;refine wpAny_bind (wpAny_of_eq hb ?_);refine wpAny_bind (wpAny_pure ?_);refine wpAny_bind (wpAny_pyIter_tuple hl ?_);refine wpAny_bind (wpAny_newObj_type ?_);rw [hname];have w0:X.A.in1.handled=none:=I.ok.hd hc;refine wpAny_pure ⟨_,rfl,plainId_quiet Q8 _,?_⟩;refine qRY (Walks.tuple w0 _ p (D6 hlt) its.toArray) _ ns (by simpa using hlen) (fun i v hv=>?_) _ ?_ (c:=0) ?_ (C1 _ rfl) ?_ ?_
 ·exact d9 ia i v (by simpa using hv)
 ·simp only [P7,B7,M9,or_false,not_or];exact ⟨t5 _,X3 (O8 hlt)⟩
 ·exact ⟨⟨_,A3 _ (C1 _ rfl),rfl,rfl⟩,(hl.push _).push _⟩
 ·intro y r e t' h' tk hk;subst e;cases em;refine ⟨_,rfl,.int _,H,I.kept (t':=tk) fun b o eb=>hk b o ?_ ?_ (A3 _ (A3 _ eb)),⟨t',rfl⟩,q⟩
  ·simp only [B7,M9,or_false];exact D6 (C0 eb)
  ·rw [P7];exact D6 (O8 (C0 eb))
 ·intro e;subst e;rcases hdf with ⟨_,e2⟩ | ⟨d,t,rfl,rfl⟩
  ·rw [e2] at em;cases em
  ·cases em;refine ⟨_,_,rfl,fun h' tk hk=>⟨_,rfl,.int _,H,I.kept (t':=tk) fun b o eb=>hk b o ?_ ?_ (A3 _ (A3 _ eb)),⟨t,rfl⟩,q⟩⟩
   ·simp only [B7,M9,or_false];exact D6 (C0 eb)
   ·rw [P7];exact D6 (O8 (C0 eb))
theorem qT8 (hc:X.calm=true):qDT X (.builtin "max") (fun xs H Q=>∃ p ns m,xs=[.ref p]/\SqT X.K H p (ns.map V.int)/\topD none ns=some m/\Q (.int m) H):=by
 intro Ab s σ H xs us Q I r h;obtain ⟨p,ns,m,rfl,hq,em,q⟩:=h;obtain ⟨u,rfl,rx⟩:=qE2 r;cases rx;exact qU9 hc I hq (F.args_max1 _) none rfl (.inl ⟨rfl,rfl⟩) m em q
end
end L2
namespace HT
open PySem PySem.Spec PyProof.Rows
section
variable {prog:Program} {w:World} {A:Around} {E:Value->Shared->Prop} {s:Shared}
end
end HT
namespace L2
open PySem PySem.Spec PyProof.Rows Fw
section
variable {X:Cx} {e:Expr} {te:TE} {st:Option Expr} {tst:TO} {pos p2:Pos}
def qZL:V->Option Int->Option Int->Hp->VK->Prop:=fun x lo hi H Q=>∃ a xs,x=.ref a/\H a=some (.tup xs)/\∀ p H',Same H H'->H' p=some (.tup (cutV xs lo hi))->Q (.ref p) H'
theorem qI2:SlR X qZL:=by
 intro Ab s σ H x v vl vu lo hi sl Q I rx hs pl pu h;obtain ⟨a,xs,rfl,hx,q⟩:=h;by_cases hw:HT.sIx xs.length 0 lo=0/\HT.sIx xs.length xs.length hi=xs.length
 ·cases rx;obtain ⟨its,r,ht,hz⟩:=I.tuple (SqT.of hx);have hlen:its.toArray.size=xs.length:=by rw [B4];exact r.length.symm
  refine ⟨"tuple",_,G3.lookup,ht.typeIs,?_⟩;refine HT.getItem_tuple_whole ht hs pl pu (by rw [hlen];exact hw) ⟨.ref a,H,I,rfl,q a H (fun _ _ e=>e) ?_⟩
  have:cutV xs lo hi=xs:=by
   unfold cutV;rw [hw.1,hw.2,W7,A01,Q9]
  rw [this];exact hx
 ·exact qR0 Ab s σ H (.ref a) v vl vu lo hi sl Q I rx hs pl pu ⟨a,xs,rfl,SqT.of hx,hw,fun p hp=>q p _ (fun b u e=>by rw [qA7 (qA5 e hp)];exact e) qA1⟩
end
end L2
namespace L2
open PySem PySem.Spec PyProof.Rows
section
variable {X:Cx}
end
end L2
namespace L2
open PySem PySem.Spec PyProof.Rows
section
variable {prog:Program} {w:World} {A:Around} {R:Result->Shared->Prop} {I:Addr} {fp wr:List Addr} {n:Nat} {P:Nat->Value->Prop} {St:Nat->Heap->Prop}
end
section
variable {X:Cx}
end
end L2
namespace L2
open PySem PySem.Spec PyProof.Rows
structure Clb (P:Program) (w:World) (K:PySem.W.Frag) (mg:Str->Option Value) (base:Heap) (n:Nat) (f:Addr) (fd:FuncData) (x:Str) (ps:List Str) (sp:Sp):Prop where
 G:FnOk P w K mg base CX0 n f fd ps sp
 b:Binds K fd ps []
 k:M3 K (.ref f)=true
 m:mg x=some (.ref f)
theorem qAW {X:Cx} {n k:Nat} {f:Addr} {fd:FuncData} {x:Str} {ps:List Str} {sp:Sp} {e:Expr} {es:List Expr} {t:TA} {p pos:Pos} (C:Clb X.prog X.w X.K X.mg X.base n f fd x ps sp) (hr:Room k X.A) (hg:Gl X x)
  (ha:PA X (e::es) t) (hnk:n<=k:=by decide) (hdb:(x == ("__debug__" : Str))=false:=by decide) (he:starEach (e::es) X.env=(false,eval e X.env)::starEach es X.env:=by rfl) (hpl:(backTo pos (starEach es X.env)).any (·.1)=false:=by rfl) :
  PE X (.Call (.Name x p) (e::es) [] pos) (qXU sp [] E0 t):=qWK C.G (hr.mono hnk) hg C.m C.k C.b .nil qZT ha hdb he hpl
theorem nmD {i:Nat} {t u:TS} {D:Ends} {x:V} {σ:St} {H:Hp} (h:∀ D':Ends,(∀ σ H,D.nx σ H->D'.nx σ H)->(∀ v H,D.rt v H->D'.rt v H)->tSeq t u D' (σ.set i (some x)) H):qSJ i x σ H fun σ2 H2=>tSeq t u D σ2 H2:=h D (fun _ _ z=>z) fun _ _ z=>z
end L2
namespace L2
open PySem PySem.Spec PyProof.Rows
def Tf (K:PySem.W.Frag) (x:Str) (s:Stmt) (f:Addr):Prop:=V5 K mainGlobals x=some (some (.ref f))/\∃ fd,Fun K x x s f fd
theorem Tf.use {K:PySem.W.Frag} {h:Heap} {mg:Str->Option Value} {x:Str} {s:Stmt} {f:Addr} (X:K.In h) (G:h.Ns mainGlobals mg) (T:Tf K x s f):∃ fd,Fun K x x s f fd/\mg x=some (.ref f):=
 let ⟨a,fd,F⟩:=T
 ⟨fd,F,Y3 X G a⟩
theorem Tf.clb {P:Program} {w:World} {K:PySem.W.Frag} {h base:Heap} {mg:Str->Option Value} {x:Str} {s:Stmt} {f:Addr} {n:Nat} {ps:List Str} {sp:Sp} (X:K.In h) (G:h.Ns mainGlobals mg) (T:Tf K x s f) (hok:∀ fd,Fun K x x s f fd->FnOk P w K mg base CX0 n f fd ps sp)
  (hb:∀ (kV doc pm:Value) (an:Option Addr) (cdv ct:Value) (us:List Value),us.length=ps.length->bindArgs (O1 x x (qCI s) (qAZ s) (qA9 s) .none kV doc pm an cdv ct) ⟨us,[]⟩=pure (ps.zip us)):∃ fd,Clb P w K mg base n f fd x ps sp:=
 let ⟨fd,F,m⟩:=T.use X G
 ⟨fd,hok fd F,F.binds hb,F.kp,m⟩
def Zs (K:PySem.W.Frag):List Str->Prop
 | []=>True
 | x::r=>V5 K mainGlobals x=some none/\Zs K r
def Zm (mg:Str->Option Value):List Str->Prop
 | []=>True
 | x::r=>mg x=none/\Zm mg r
theorem Zs.mg {K:PySem.W.Frag} {h:Heap} {mg:Str->Option Value} (X:K.In h) (G:h.Ns mainGlobals mg):∀ {l:List Str},Zs K l->Zm mg l
 | [],_=>trivial
 | _::_,⟨a,b⟩=>⟨PySem.W.mg_none_of X G a,Zs.mg X G b⟩
theorem qCB {N P:List Str} {sc:Scope} (h1:sc.kind=.function:=by rfl) (h2:sc.isCoroutine=false:=by rfl) (h3:sc.isGenerator=false:=by rfl) (h4:N.Nodup:=by decide +kernel) (h5:N.take P.length=P:=by rfl) (h6:∀ x ∈ P,sc.names.lookup x=some .local\/sc.names.lookup x=some .cell:=by decide +kernel) (h7:∀ y ∈ sc.names,y.2 ≠ .free:=by decide +kernel):FnScope N P sc:=⟨h1,h2,h3,h4,h5,h6,h7⟩
section
variable {P:Program} {w:World} {K:PySem.W.Frag} {mg:Str->Option Value} {base:Heap}
theorem Fun.okA {x qual:Str} {st:Stmt} {f:Addr} {fd:FuncData} {N ps:List Str} {k:Nat} {sp:Sp} (F:Fun K x qual st f fd) (S:FnScope N ps (qA9 st))
  (hbody:∀ (cdv:Value) (A:Around) (outer:List Env) (s:Shared) (H:Hp) (vs:List V) (Q:VK) (E:XK),Room k (A.deeper (envOfC qual (qA9 st) s.heap.objs.size f cdv))->sp vs H Q E->
   ∃ t,PSs (cxOf CX0 P w K mg base N qual (qA9 st) f cdv A outer s H E).nox (qAZ st) t/\t { nx:=fun _ H'=>Q .non H',rt:=Q } (start N vs) H)
  (len:∀ vs H Q E,sp vs H Q E->vs.length=ps.length:=by intro vs H Q E h;(repeat (obtain ⟨_,h⟩:=h));subst_vars;rfl):FnOk P w K mg base CX0 (k+1) f fd ps sp:=F.ok S len hbody
@[elab_as_elim] theorem us6 {α:Type} {P:List α->Prop} (us:List α) (hl:us.length=6) (h:∀ a b c d e f,P [a,b,c,d,e,f]):P us:=by
 match us,hl with
 | [a,b,c,d,e,f],_=>exact h a b c d e f
@[elab_as_elim] theorem us5 {α:Type} {P:List α->Prop} (us:List α) (hl:us.length=5) (h:∀ a b c d e,P [a,b,c,d,e]):P us:=by
 match us,hl with
 | [a,b,c,d,e],_=>exact h a b c d e
def Bs (P:Program) (w:World) (base:Heap):Prop:=P=P/\w=w/\base=base
theorem Tf.c {h:Heap} {x:Str} {s:Stmt} {f:Addr} {n:Nat} {ps:List Str} {sp:Sp} (X:K.In h) (G:h.Ns mainGlobals mg) (B:Bs P w base) (T:Tf K x s f) (hok:∀ fd,Fun K x x s f fd->FnOk P w K mg base CX0 n f fd ps sp)
  (hb:∀ (kV doc pm:Value) (an:Option Addr) (cdv ct:Value) (us:List Value),us.length=ps.length->bindArgs (O1 x x (qCI s) (qAZ s) (qA9 s) .none kV doc pm an cdv ct) ⟨us,[]⟩=pure (ps.zip us):=by
   intro _ _ _ _ _ _ us hl;first | exact us1 us hl (fun _=>rfl) | exact us2 us hl (fun _ _=>rfl) | exact us3 us hl (fun _ _ _=>rfl) | exact us4 us hl (fun _ _ _ _=>rfl) | exact us5 us hl (fun _ _ _ _ _=>rfl) | exact us6 us hl (fun _ _ _ _ _ _=>rfl) | exact us0 us hl rfl):∃ fd,Clb P w K mg base n f fd x ps sp:=T.clb X G hok hb
end
section
variable {X:Cx} {pos:Pos}
theorem qCC {x:Str} (i:Nat) (hN:X.N.Nodup:=by exact qZW (by kernel_rfl)) (hi:X.N[i]?=some x:=by rfl) (hx:Loc X.env.scope x:=by exact E9 rfl) (hf:X.fn x=true\/X.env.scope.names.lookup x=some .local:=by first | exact .inl rfl | exact .inr rfl | assumption):PG X (.Name x pos) (qSJ i):=qBR hN hi hx hf
end
end L2
namespace L2
open PySem PySem.Spec PyProof.Rows
section
variable {prog:Program} {w:World} {A:Around} {E:Value->Shared->Prop} {s:Shared}
end
section
variable {X:Cx}
end
end L2
namespace L2
open PySem PySem.Spec PyProof.Rows
section
variable {X:Cx}
end
end L2
namespace Fw
open PySem L2
theorem qBS:bootBuiltins "len" = some (.builtin "len"):=by decide +kernel
theorem qJ0:bootBuiltins "min" = some (.builtin "min"):=by decide +kernel
theorem qVV:bootBuiltins "max" = some (.builtin "max"):=by decide +kernel
theorem qDE:bootBuiltins "sorted" = some (.builtin "sorted"):=by decide +kernel
theorem qTC:bootBuiltins "divmod" = some (.builtin "divmod"):=by decide +kernel
theorem qYY:bootBuiltins "all" = some (.builtin "all"):=by decide +kernel
theorem qTB:bootBuiltins "int" = some (.type "int"):=by decide +kernel
theorem qXB:bootBuiltins "list" = some (.type "list"):=by decide +kernel
theorem qBA:bootBuiltins "tuple" = some (.type "tuple"):=by decide +kernel
theorem qTA:bootBuiltins "set" = some (.type "set"):=by decide +kernel
theorem qUV:bootBuiltins "range" = some (.type "range"):=by decide +kernel
theorem qMR:bootBuiltins "enumerate" = some (.type "enumerate"):=by decide +kernel
structure StAt (H:Hp) (d c:Addr) (t:Int) (ns:List Int):Prop where
 dict:H d=some (.dK [(L4 "cells",.ref c),(L4 "turn",.int t)])
 list:H c=some (.lst (ns.map V.int))
 ne:0<ns.length
 len:ns.length<=63
 pos:0<=t
def Keep (d c:Addr) (H H':Hp):Prop:=∀ b o,H b=some o->b ≠ d->b ≠ c->H' b=some o
theorem Keep.trans {d c:Addr} {H H1 H2:Hp} (a:Keep d c H H1) (b:Keep d c H1 H2):Keep d c H H2:=fun x o h n m=>b x o (a x o h n m) n m
theorem Keep.of_same {d c:Addr} {H H':Hp} (h:Same H H'):Keep d c H H':=fun b o e _ _=>h b o e
theorem qA2 {H:Hp} {p:Addr} (h:H p=none) (o:HO):Same H (Ah H p o):=fun b u q=>by rw [qA7 (qA5 q h)];exact q
theorem qC7 {d c:Addr} {H:Hp} {p:Addr} (h:H p=none) (o:HO):Keep d c H (Ah H p o):=.of_same (qA2 h o)
theorem StAt.ndc {H:Hp} {d c:Addr} {t:Int} {ns:List Int} (S:StAt H d c t ns):d ≠ c:=qCD S.dict S.list (by intro z;cases z)
theorem StAt.same {H H':Hp} {d c:Addr} {t:Int} {ns:List Int} (S:StAt H d c t ns) (h:Same H H'):StAt H' d c t ns:=⟨h _ _ S.dict,h _ _ S.list,S.ne,S.len,S.pos⟩
theorem StAt.new {H:Hp} {d c p:Addr} {t:Int} {ns:List Int} (S:StAt H d c t ns) (h:H p=none) (o:HO):StAt (Ah H p o) d c t ns:=S.same (qA2 h o)
theorem s_cs:¬ (B6 "cells" = B6 "turn"):=by decide +kernel
theorem s_ct:¬ ((L4 (B6 "cells"):Key)=L4 (B6 "turn")):=fun h=>s_cs (B05 h)
theorem qX7 {H:Hp} {d c:Addr} {t:Int} {ns:List Int} (S:StAt H d c t ns):DGet H d (.str "turn") (some (.int t)):=by
 have h:=DGet.k (k:=L4 "turn") S.dict;rw [qB7 s_ct,qBE rfl] at h;exact h
theorem qL3 {H:Hp} {d c:Addr} {t:Int} {ns:List Int} (S:StAt H d c t ns):DGet H d (.str "cells") (some (.ref c)):=by
 have h:=DGet.k (k:=L4 "cells") S.dict;rw [qBE rfl] at h;exact h
theorem qTY (c:Addr) (t u:Int):putK [((L4 "cells" : Key),V.ref c),(L4 "turn",V.int t)] (L4 "turn") (V.int u)=[((L4 "cells" : Key),V.ref c),(L4 "turn",V.int u)]:=by
 unfold putK;simp [s_cs]
theorem qX6 {H:Hp} {d c:Addr} {t u:Int} {ns:List Int} (S:StAt H d c t ns):DPut H d (.str "turn") (.int u) (Ah H d (.dK [(L4 "cells",.ref c),(L4 "turn",.int u)])):=by
 have h:=DPut.k (k:=L4 "turn") (v:=.int u) S.dict (by rw [sizeLine_eq];exact (by decide:2<16777216))
 rw [qTY] at h;exact h
theorem StAt.turn {H:Hp} {d c:Addr} {t u:Int} {ns:List Int} (S:StAt H d c t ns) (h:0<=u):StAt (Ah H d (.dK [(L4 "cells",.ref c),(L4 "turn",.int u)])) d c u ns:=
 ⟨qA1,by rw [qA7 (G8 S.ndc)];exact S.list,S.ne,S.len,h⟩
theorem StAt.put {H:Hp} {d c:Addr} {t:Int} {ns ms:List Int} (S:StAt H d c t ns) (h:ms.length=ns.length):StAt (Ah H c (.lst (ms.map V.int))) d c t ms:=
 ⟨by rw [qA7 S.ndc];exact S.dict,qA1,by rw [h];exact S.ne,by rw [h];exact S.len,S.pos⟩
abbrev TB:Int:=1000000000
def qHZ:Sp:=fun vs H Q _=>∃ d c t ns m,vs=[.ref d,.int m]/\StAt H d c t ns/\t<=TB/\1<=m/\m<=1000000/\∀ k ns' H',0<=k->k<m->StAt H' d c (t+1) ns'->Keep d c H H'->Q (.int k) H'
def qQX (K:PySem.W.Frag):Sp:=fun vs H Q _=>∃ (a:Addr) (ns:List Int),vs=[.ref a]/\SqL K H a (ns.map V.int)/\ns.length<=63/\∀ d c ms H',StAt H' d c 0 ms->Same H H'->H d=none->H c=none->Q (.ref d) H'
noncomputable def cutI {α:Type} (xs:List α) (lo hi:Option Int):List α:=(xs.drop (HT.sIx xs.length 0 lo)).take (HT.sIx xs.length xs.length hi - HT.sIx xs.length 0 lo)
theorem qC9 {α:Type} (f:α->V) (xs:List α) (lo hi:Option Int):cutV (xs.map f) lo hi=(cutI xs lo hi).map f:=by
 unfold cutV cutI;rw [A0,<- List.map_drop,<- List.map_take]
theorem qL7 {α:Type} (xs:List α) (lo hi:Option Int):(cutI xs lo hi).length<=xs.length:=by
 unfold cutI;rw [C3,E5]
 lia
theorem qVI (c:Addr) (t:Int):qIE [] [((L4 (B6 "cells"):Key),V.ref c),(L4 (B6 "turn"),V.int t)]=[((L4 (B6 "cells"):Key),V.ref c),(L4 (B6 "turn"),V.int t)]:=by
 unfold qIE;simp only [V0,A81];unfold putK;simp [s_cs]
theorem qWY {xs:List V} {j:Nat} (h:j<xs.length):ixN xs.length (j:Int)=some j:=by
 unfold ixN;rw [if_pos (by lia),if_pos (by lia),F9]
def qZH (K:PySem.W.Frag):Sp:=fun vs H Q _=>∃ (a:Addr) (ns:List Int),vs=[.ref a]/\SqL K H a (ns.map V.int)/\ns.length<=63/\∀ H',Q (.bl true) H'
theorem cut {t u:TS} {D:Ends} {σ:St} {H:Hp} (h:∀ N:St->Hp->Prop,(∀ σ H,u D σ H->N σ H)->t { D with nx:=N } σ H):tSeq t u D σ H:=h _ fun _ _ z=>z
theorem opq {A:Prop} (h:∀ G:Prop,(A->G)->G):A:=h A id
structure Rise (k:Int) (zs:List Int):Prop where
 up:zs.Pairwise (·<·)
 in_:∀ x ∈ zs,0<=x/\x<k
theorem Rise.nil {k:Int}:Rise k []:=⟨.nil,fun _ h=>nomatch h⟩
theorem Rise.mono {j k:Int} {zs:List Int} (h:Rise j zs) (l:j<=k):Rise k zs:=⟨h.up,fun x hx=>⟨(h.in_ x hx).1,by have:=(h.in_ x hx).2;lia⟩⟩
theorem Rise.sub {k:Int} {zs ys:List Int} (h:Rise k zs) (s:ys.Sublist zs):Rise k ys:=⟨h.up.sublist s,fun x hx=>h.in_ x (s.subset hx)⟩
theorem Rise.snoc {k:Int} {zs:List Int} (h:Rise k zs) (h0:0<=k):Rise (k+1) (zs++[k]):=by
 refine ⟨P6.mpr ⟨h.up,List.pairwise_singleton _ _,fun a ha b hb=>?_⟩,fun x hx=>?_⟩
 ·rw [A6.mp hb];exact (h.in_ a ha).2
 ·rcases A7.mp hx with hx | hx
  ·have:=h.in_ x hx;lia
  ·rw [A6.mp hx];lia
theorem Rise.shift {k j:Int} {zs:List Int} (h:Rise k zs) (hj:0<=j):Rise (k+j) (zs.map (·+j)):=by
 refine ⟨J5.mpr (h.up.imp fun {a b} hab=>by lia),fun x hx=>?_⟩
 obtain ⟨y,hy,e⟩:=E2.mp hx;have:=h.in_ y hy
 lia
theorem Rise.nodup {k:Int} {zs:List Int} (h:Rise k zs):zs.Nodup:=h.up.imp fun {a b} hab=>by lia
theorem Rise.len {zs:List Int} {k:Nat} (h:Rise (k:Int) zs):zs.length<=k:=by
 have sub:zs ⊆ (O7 k).map fun (i:Nat)=>(i:Int):=fun x hx=>by
  have:=h.in_ x hx;exact E2.mpr ⟨x.toNat,L0.mpr (by lia),by lia⟩
 have:=Z7 h.nodup sub;simpa using this
theorem qU8 {zs:List Int} {k x:Int}:x ∈ addI zs k ↔ x ∈ zs\/x=k:=by
 unfold addI
 split
 ·rename_i h
  constructor
  ·exact .inl
  ·rintro (z | rfl)
   ·exact z
   ·exact h
 ·simp
theorem qWP {zs:List Int} {k:Int} (h:zs.Nodup):(addI zs k).Nodup:=by
 unfold addI
 split
 ·exact h
 ·rename_i hk
  exact qKL h hk
theorem qT0:∀ (l zs:List Int),zs.Nodup->(l.foldl addI zs).Nodup/\∀ x,x ∈ l.foldl addI zs ↔ x ∈ zs\/x ∈ l
 | [],zs,h=>⟨h,fun x=>by simp⟩
 | k::r,zs,h=>by
  obtain ⟨a,b⟩:=qT0 r (addI zs k) (qWP h);refine ⟨a,fun x=>?_⟩;rw [V0,b x,qU8,B7,or_assoc]
theorem qQA (l:List Int):(dedI l).Nodup:=(qT0 l [] .nil).1
theorem mem_dedI {l:List Int} {x:Int}:x ∈ dedI l ↔ x ∈ l:=by
 have:=(qT0 l [] .nil).2 x;unfold dedI;rw [this];simp
theorem qL4 (l:List Int):(dedI l).length<=l.length:=by
 have:=qD8 l [];simpa [dedI] using this
theorem qHA {zs:List Int} (h1:zs.Pairwise (·<=·)) (h2:zs.Nodup):zs.Pairwise (·<·):=by
 have h3:zs.Pairwise (fun a b=>a<=b/\a ≠ b):=List.pairwise_and_iff.mpr ⟨h1,h2⟩;exact h3.imp fun {a b} ⟨x,y⟩=>by lia
theorem qKF {k:Int} {fs zs:List Int} (hp:zs.Perm (dedI fs)) (hs:zs.Pairwise (·<=·)) (h:∀ x ∈ fs,0<=x/\x<k):Rise k zs:=
 ⟨qHA hs (hp.nodup_iff.mpr (qQA fs)),fun x hx=>h x (mem_dedI.mp (hp.mem_iff.mp hx))⟩
noncomputable def qBD (lo hi:Int):List Int:=(O7 (hi - lo).toNat).map fun (i:Nat)=>lo+i
theorem qNB (lo hi:Int):qH9 lo hi=(qBD lo hi).map V.int:=by
 unfold qH9 qBD;rw [P8]
 rfl
theorem mem_rangeI {lo hi x:Int}:x ∈ qBD lo hi ↔ lo<=x/\x<hi:=by
 unfold qBD;rw [E2]
 constructor
 ·rintro ⟨i,hi',e⟩;have:=L0.mp hi'
  lia
 ·intro h;exact ⟨(x - lo).toNat,L0.mpr (by lia),by lia⟩
theorem qDC (lo hi:Int):(qBD lo hi).length=(hi - lo).toNat:=by unfold qBD;simp
theorem qR5 (lo hi:Int):(qBD lo hi).Pairwise (·<·):=by
 unfold qBD;exact J5.mpr (List.pairwise_lt_range.imp fun {a b} h=>by lia)
theorem qNC {lo hi:Int} (h:0<=lo):Rise hi (qBD lo hi):=⟨qR5 _ _,fun x hx=>by have:=mem_rangeI.mp hx;lia⟩
theorem qGN {α:Type} (xs:List α) (k:Nat) (h:k<=xs.length):cutI xs (some (k:Int)) none=xs.drop k:=by
 unfold cutI;rw [HT.sIx_nat,HT.sIx_none,V6 h];exact C2 (by rw [E5];exact A5 _)
theorem qL6 {α:Type} (xs:List α) (k:Nat):cutI xs none (some (k:Int))=xs.take k:=by
 unfold cutI;rw [HT.sIx_nat,HT.sIx_none,W7,A01];rcases Nat.le_total k xs.length with h | h
 ·rw [V6 h]
 ·rw [Nat.min_eq_right h,C2 h,C2 (A5 _)]
abbrev NetL (H:Hp):List Addr->List (List Int)->Prop:=Paired fun r zs=>H r=some (.tup (zs.map V.int))
theorem NetL.keep {d c:Addr} {H H':Hp} {rs:List Addr} {Af:List (List Int)} (h:NetL H rs Af) (hd:∀ r zs,H r=some (.tup zs)->r ≠ d/\r ≠ c) (k:Keep d c H H'):NetL H' rs Af:=by
 induction h with
 | nil=>exact .nil
 | cons r t ih=>exact .cons (k _ _ r (hd _ _ r).1 (hd _ _ r).2) ih
theorem NetL.same {H H':Hp} {rs:List Addr} {Af:List (List Int)} (h:NetL H rs Af) (k:∀ r zs,H r=some (.tup zs)->H' r=some (.tup zs)):NetL H' rs Af:=by
 induction h with
 | nil=>exact .nil
 | cons r t ih=>exact .cons (k _ _ r) ih
theorem NetL.get {H:Hp}:∀ {rs:List Addr} {Af:List (List Int)} {i:Nat} {zs:List Int},NetL H rs Af->Af[i]?=some zs->∃ r,rs[i]?=some r/\H r=some (.tup (zs.map V.int))
 | _,_,_,_,.nil,e=>by simp at e
 | _,_,0,_,.cons r _,e=>by simp at e;subst e;exact ⟨_,rfl,r⟩
 | _,_,i+1,zs,.cons _ t,e=>by
  obtain ⟨r,h1,h2⟩:=NetL.get (i:=i) (zs:=zs) t (by simpa using e)
  exact ⟨r,by simpa using h1,h2⟩
def NetAt (H:Hp) (a:Addr) (Af:List (List Int)):Prop:=∃ rs:List Addr,H a=some (.tup (rs.map V.ref))/\NetL H rs Af
theorem StAt.tup {H:Hp} {d c:Addr} {t:Int} {ns:List Int} (S:StAt H d c t ns) {r:Addr} {zs:List V} (h:H r=some (.tup zs)):r ≠ d/\r ≠ c:=
 ⟨qCD h S.dict (by intro z;cases z),qCD h S.list (by intro z;cases z)⟩
theorem NetAt.keep {H H':Hp} {d c:Addr} {t:Int} {ns:List Int} (S:StAt H d c t ns) {a:Addr} {Af:List (List Int)} (h:NetAt H a Af) (k:Keep d c H H'):NetAt H' a Af:=by
 obtain ⟨rs,h1,h2⟩:=h;exact ⟨rs,k _ _ h1 (S.tup h1).1 (S.tup h1).2,h2.keep (fun r zs e=>S.tup e) k⟩
theorem NetAt.same {H H':Hp} {a:Addr} {Af:List (List Int)} (h:NetAt H a Af) (k:Same H H'):NetAt H' a Af:=by
 obtain ⟨rs,h1,h2⟩:=h;exact ⟨rs,k _ _ h1,h2.same fun r zs e=>k _ _ e⟩
theorem NetAt.len {H:Hp} {rs:List Addr} {Af:List (List Int)} (h:NetL H rs Af):rs.length=Af.length:=B9 h
def WFn (Af:List (List Int)):Prop:=∀ (i:Nat) zs,Af[i]?=some zs->Rise (i:Int) zs
theorem WFn.snoc {Af:List (List Int)} {zs:List Int} (h:WFn Af) (hz:Rise (Af.length:Int) zs):WFn (Af++[zs]):=by
 intro i ys e;rcases Z5 i Af.length with l | l | l
 ·rw [G2 l] at e;exact h i ys e
 ·subst l;simp at e;subst e;exact hz
 ·rw [J1 (by rw [A4,B1];lia)] at e
  cases e
theorem WFn.nil:WFn []:=fun i zs e=>by simp at e
theorem qD0 {α β:Type} {F:α->β->Prop} {a:α} {b:β} {l₁:List α} {l₂:List β} (h:Paired F l₁ l₂) (r:F a b):Paired F (l₁++[a]) (l₂++[b]):=J6 h r
def qN3:Sp:=fun vs H Q _=>∃ d c t ns k,vs=[.ref d,.int k]/\StAt H d c t ns/\t<=TB - 20/\0<=k/\k<=1000/\
 ∀ r zs t' ns' H',StAt H' d c t' ns'->t<=t'->t'<=t+9->Keep d c H H'->H' r=some (.tup (zs.map V.int))->Rise k zs->Q (.ref r) H'
def qXV:Sp:=fun vs H Q _=>∃ d c t ns m,vs=[.ref d,.int m]/\StAt H d c t ns/\t<=TB - 10000/\1<=m/\m<=400/\
 ∀ a Af t' ns' H',StAt H' d c t' ns'->t<=t'->t'<=t+10 * m+10->Keep d c H H'->NetAt H' a Af->WFn Af->(Af.length:Int)=m->Q (.ref a) H'
def qV8:Sp:=fun vs H Q _=>∃ d c t ns m,vs=[.ref d,.int m]/\StAt H d c t ns/\t<=TB - 1000/\1<=m/\m<=400/\
 ∀ a Af t' ns' H',StAt H' d c t' ns'->t<=t'->t'<=t+m->Keep d c H H'->NetAt H' a Af->WFn Af->(Af.length:Int)=m->Q (.ref a) H'
theorem qZS {a b k:Int} (h0:0<=k) (h1:k<4):∃ v,atI [V.int a,V.int b] (k / 3)=some (.int v)/\(v=a\/v=b):=by
 rcases (by lia:k=0\/k=1\/k=2\/k=3) with rfl | rfl | rfl | rfl
 ·exact ⟨a,rfl,.inl rfl⟩
 ·exact ⟨a,rfl,.inl rfl⟩
 ·exact ⟨a,rfl,.inl rfl⟩
 ·exact ⟨b,rfl,.inr rfl⟩
theorem qZR {k:Int} (h0:0<=k) (h1:k<6):∃ v,atI [V.int 0,V.int 0,V.int 1,V.int 2,V.int 2,V.int 3] k=some (.int v)/\0<=v/\v<=3:=by
 rcases (by lia:k=0\/k=1\/k=2\/k=3\/k=4\/k=5) with rfl | rfl | rfl | rfl | rfl | rfl
 all_goals exact ⟨_,rfl,by decide,by decide⟩
theorem qAD {H Hc:Hp} {p:Addr} {o:HO} (h:Same H Hc) (hp:H p=none):Same H (Ah Hc p o):=fun b u e=>by rw [qA7 (qA5 e hp)];exact h b u e
theorem qHQ {d c:Addr} {H Hc:Hp} {p:Addr} {o:HO} (h:Keep d c H Hc) (hp:H p=none):Keep d c H (Ah Hc p o):=fun b u e n1 n2=>by rw [qA7 (qA5 e hp)];exact h b u e n1 n2
theorem qEV {H:Hp} {p:Addr} {xs:List V} {o:HO} {rs:List Addr} {Af:List (List Int)} (h:NetL H rs Af) (hp:H p=some (.lst xs)):NetL (Ah H p o) rs Af:=
 h.same fun r zs e=>by rw [qA7 (qCD e hp (by intro z;cases z))];exact e
theorem qAT (rs:List Addr) (r:Addr):rs.map V.ref++[V.ref r]=(rs++[r]).map V.ref:=by rw [C8];rfl
theorem qY2 (b:Bool) (x:Int):(D2 (if b=true then (1:Int) else 0).toNat [V.int x]).flatten=(if b=true then [x] else []).map V.int:=by cases b <;> rfl
theorem qAO {α β:Type} {F:α->β->Prop}:∀ {l₁:List α} {l₂:List β} {i:Nat} {a:α},Paired F l₁ l₂->l₁[i]?=some a->∃ b,l₂[i]?=some b/\F a b
 | _,_,_,_,.nil,e=>by simp at e
 | _,_,0,_,.cons r _,e=>by simp at e;subst e;exact ⟨_,rfl,r⟩
 | _,_,i+1,a,.cons _ t,e=>by
  obtain ⟨b,h1,h2⟩:=qAO (i:=i) (a:=a) t (by simpa using e)
  exact ⟨b,by simpa using h1,h2⟩
theorem qC1 {α β:Type} {F G:α->β->Prop} {l₁:List α} {l₂:List β} (h:Paired F l₁ l₂) (k:∀ a b,F a b->G a b):Paired G l₁ l₂:=by
 induction h with
 | nil=>exact .nil
 | cons r t ih=>exact .cons (k _ _ r) ih
theorem qC2 {rs:List Addr} {i:Nat} {x:V} (h:(rs.map V.ref)[i]?=some x):∃ r,rs[i]?=some r/\x=.ref r:=by
 rw [D0] at h;cases e:rs[i]? with
 | none=>rw [e] at h;cases h
 | some r=>rw [e] at h;exact ⟨r,rfl,(D3 h).symm⟩
theorem qGZ {zs:List Int} {i:Nat} {x:V} (h:(zs.map V.int)[i]?=some x):∃ z,zs[i]?=some z/\x=.int z:=by
 rw [D0] at h;cases e:zs[i]? with
 | none=>rw [e] at h;cases h
 | some r=>rw [e] at h;exact ⟨r,rfl,(D3 h).symm⟩
theorem qOG {α:Type} {l:List α} {a b:α} {j:Nat} (h:(l++[a])[j]?=some b):l[j]?=some b\/(j=l.length/\b=a):=by
 rcases Z5 j l.length with z | z | z
 ·rw [G2 z] at h;exact .inl h
 ·subst z;simp at h;exact .inr ⟨rfl,h.symm⟩
 ·rw [J1 (by rw [A4,B1];lia)] at h
  cases h
theorem qX0 (a:Int) (zs:List Int):inV (.int a) (zs.map V.int)=decide (a ∈ zs):=by
 unfold inV
 induction zs with
 | nil=>simp
 | cons z r ih=>
  rw [C9,V8,ih];have e:eqV (.int z) (.int a)=decide (a=z):=by
   by_cases h:z=a
   ·subst h;simp [eqV]
   ·have h':¬ a=z:=fun q=>h q.symm;simp [eqV,h,h']
  rw [e];simp [B7]
theorem qSP (zs:List Int):(zs.map V.int).all qJB=true:=by
 rw [M8];intro x hx;obtain ⟨z,_,rfl⟩:=E2.mp hx
 rfl
noncomputable def qDY (ns st:List Int) (Aa wk:Int):V:=if wk ∈ st then .str "there" else if ∀ x ∈ ns,x ∈ st then (if Aa<=(st.length:Int) then .str "full" else .non) else .str "needs"
noncomputable def qDZ (st:List Int) (wk:Int):V:=if wk ∈ st then .non else .str "empty"
def qLM:Sp:=fun vs H Q _=>∃ (a s:Addr) (Af:List (List Int)) (st ns:List Int) (Aa wk:Int),vs=[.ref a,.int Aa,.ref s,.int wk]/\NetAt H a Af/\H s=some (.tup (st.map V.int))/\st.length<=1000/\0<=wk/\Af[wk.toNat]?=some ns/\
 ∀ H',Same H H'->Q (qDY ns st Aa wk) H'
noncomputable def qG3 (ns st:List Int) (Aa:Int) (Ac:Str) (wk:Int):V:=if Ac = "do" then qDY ns st Aa wk else qDZ st wk
def qQV:Sp:=fun vs H Q _=>∃ (a s mv:Addr) (Af:List (List Int)) (st ns:List Int) (Aa wk:Int) (Ac:Str),vs=[.ref a,.int Aa,.ref s,.ref mv]/\NetAt H a Af/\H s=some (.tup (st.map V.int))/\st.length<=1000/\H mv=some (.tup [.str Ac,.int wk])/\(Ac = "do"\/Ac = "clear")/\0<=wk/\Af[wk.toNat]?=some ns/\ns.length<=1000/\
 ∀ H',Same H H'->Q (qG3 ns st Aa Ac wk) H'
theorem qAG:¬ (B6 "clear" = B6 "do"):=by decide +kernel
theorem qIO {xs:List V} {i:Int} {x:V} (h0:0<=i) (h:xs[i.toNat]?=some x):atI xs i=some x:=by
 have e:i=((i.toNat:Nat):Int):=by lia
 rw [e];exact qTE (by simpa using h)
theorem NetAt.get {H:Hp} {a:Addr} {Af:List (List Int)} {ns:List Int} {i:Nat} (h:NetAt H a Af) (e:Af[i]?=some ns):∃ (rs:List Addr) (r:Addr),H a=some (.tup (rs.map V.ref))/\rs.length=Af.length/\(rs.map V.ref)[i]?=some (.ref r)/\H r=some (.tup (ns.map V.int)):=by
 obtain ⟨rs,h1,h2⟩:=h;obtain ⟨r,h3,h4⟩:=h2.get e;exact ⟨rs,r,h1,B9 h2,by rw [D0,h3];rfl,h4⟩
def qZC (t:TS):TS:=fun D σ H=>∃ Pm:St->Hp->Prop,t { D with nx:=Pm } σ H/\∀ σ' H',Pm σ' H'->D.nx σ' H'
theorem qR9 {X:Cx} {st:Stmt} {t:TS} (h:PS X st t):PS X st (qZC t):=by
 intro Ab s σ H D I hq;obtain ⟨Pm,h1,h2⟩:=hq;refine thn (h Ab s σ H _ I h1) fun f s' q=>?_;cases f with
 | next=>obtain ⟨σ',H',I',q⟩:=q;exact ⟨σ',H',I',h2 _ _ q⟩
 | brk=>exact q
 | cont=>exact q
 | ret u=>exact q
section
variable {K:PySem.W.Frag}
end
theorem qDM {α:Type} {p:α->Bool} {l:List α} {i:Nat} {x:α} (h:l[i]?=some x):(l.take (i+1)).filter p=(l.take i).filter p++(if p x then [x] else []):=by
 rw [D7,h,D5,Y4];by_cases hp:p x=true
 ·simp [hp]
 ·simp [hp]
end Fw
namespace L2
open PySem PySem.Spec PyProof.Rows Fw
section
variable {X:Cx} {Ab:List (Addr × Obj)} {σ:St} {H:Hp} {s:Shared}
end
end L2
namespace L2
open PySem PySem.Spec PyProof.Rows
theorem qHF:fillsNumberSlot (.type "tuple") "mul" = pure false:=
 PySem.fillsNumberSlot_seq (id:="tuple.__mul__") (r:=some (.builtin "tuple.__rmul__")) u7.lookup (by decide +kernel) A51.lookup (by decide +kernel)
theorem qLR:seqRepeat? (.type "tuple")=pure (some (.builtin "tuple.__mul__")):=by
 unfold seqRepeat?;rw [A64 (T:="tuple") (name:="__mul__") (id:="tuple.__mul__") u7.lookup (by decide +kernel),A64 (T:="tuple") (name:="__rmul__") (id:="tuple.__rmul__") A51.lookup (by decide +kernel)]
 rfl
end L2
namespace L2
open PySem PySem.Spec PyProof.Rows
section
variable {X:Cx}
def qW9 (K:PySem.W.Frag):R2:=fun x y H Q=>∃ (a:Addr) (k:Int) (xs:List V),x=.ref a/\y=.int k/\SqT K H a xs/\xs ≠ []/\1<=k/\k<=1000/\xs.length<=1000/\(k=1->Q (.ref a) H)/\(k ≠ 1->∀ p,H p=none->Q (.ref p) (Ah H p (.tup (D2 k.toNat xs).flatten)))
theorem qNG:OpR X (binaryOp .Mult) (qW9 X.K):=by
 intro Ab s σ H x y v u Q I rx ry h;obtain ⟨a,k,xs,rfl,rfl,hq,hne,k1,k2,hl,q1,q2⟩:=h;cases rx;obtain ⟨t,rfl⟩:=ry;obtain ⟨its,rv,ht,hz⟩:=I.tuple hq;have hlen:=rv.length;obtain ⟨o,ho,hcl,n,hd⟩:=id ht;refine wpAny_binaryOp_repeat_ref (T:="tuple") (U:="int") (by decide) ht.typeIs (fun s'=>typeIs_int s' k t) qHF F.fills_int_mul d7 qLR A58.lookup ?_
 refine wpAny_call_entry d7 (typeIs_int s k t) A59 ?_ (A43 _ _);show wpAny _ _ (asInt? (.ref a) >>= _) _ _ s;unfold asInt?;refine wpAny_bind (wpAny_bind (wpAny_load ho ?_));rw [hd];refine wpAny_pure ?_;refine wpAny_bind (wpAny_rule ?_);refine wpAny_pure ⟨_,rfl,rfl,ht.typeIs,?_⟩;refine wpAny_call_entry u7 ht.typeIs F.entry_tuple_mul ?_ (F.args_tuple_mul_2 _ _);show wpAny _ _ (asIndex (.int k t) >>= _) _ _ s;refine wpAny_bind (wpAny_of_eq (a:=k) rfl ?_);rw [if_neg (by simp;lia)]
 refine wpAny_bind (tupleItemsOf_ ht ?_);have e0:its.toArray.isEmpty=false:=by
  cases its with
  | nil=>cases xs with
   | nil=>exact absurd rfl hne
   | cons _ _=>cases hlen
  | cons _ _=>rfl
 rw [e0];have nl:(its.length:Int) * k<=1000000:=by
  have h1:(its.length:Int)<=1000:=by lia
  have h0:0<=(its.length:Int):=by lia
  have:=Int.mul_le_mul h1 k2 (by lia) (by lia)
  lia
 dsimp only;by_cases hk:k=1
 ·subst hk;rw [if_pos (by rfl)]
  unfold j7;refine wpAny_bind (wpAny_bind (wpAny_typeOf ht.typeIs (wpAny_pure ?_)));rw [if_pos (by rfl)]
  exact wpAny_bind (wpAny_rule (wpAny_pure ⟨_,rfl,.ref a,H,I,rfl,q1 rfl⟩))
 ·rw [if_neg (by simp [hk]),if_neg (by simp;lia),if_neg (by rw [B4];lia),if_neg (by unfold Builtin.Tuple.tupleTooMany;rw [sizeLine_eq,B4];simp;lia)]
  have f0:=qIR its k.toNat [];rw [X9] at f0;have ef:A42 (fun x1 x2=>x1++x2) #[] (D2 k.toNat its.toArray)=(D2 k.toNat its).flatten.toArray:=f0;rw [ef];unfold J7;have hsz:(D2 k.toNat its).flatten.length<=1000000:=by
   rw [List.length_flatten,List.map_replicate,List.sum_replicate_nat];have e1:((k.toNat * its.length:Nat):Int)=(its.length:Int) * k:=by rw [Int.natCast_mul,Int.toNat_of_nonneg (by lia),Int.mul_comm]
   lia
  refine wpAny_bind (wpAny_newObj_type (wpAny_pure ⟨_,rfl,?_⟩) ?_)
  ·have lx:(D2 k.toNat xs).flatten.length<=1000000:=by
    rw [(rv.rep k.toNat).length];exact hsz
   refine ⟨.ref s.heap.objs.size,_,I.laid (t':=s.toks) (o:=.tup (D2 k.toNat xs).flatten) (fun b ob q=>A3 _ q) (A5 _) ?_,rfl,q2 hk _ (I.hok.fresh (A5 _))⟩;exact ⟨by rw [sizeLine_eq];lia,_,rv.rep k.toNat,IsTup.new _ _⟩
  ·size_fits
end
end L2
namespace Fw
open PySem L2
abbrev MovL (H:Hp):List Addr->List (Str × Int)->Prop:=Paired fun r m=>H r=some (.tup [.str m.1,.int m.2])
theorem MovL.same {H H':Hp} {rs:List Addr} {ms:List (Str × Int)} (h:MovL H rs ms) (k:Same H H'):MovL H' rs ms:=by
 induction h with
 | nil=>exact .nil
 | cons r t ih=>exact .cons (k _ _ r) ih
theorem MovL.put {H:Hp} {p:Addr} {xs:List V} {o:HO} {rs:List Addr} {ms:List (Str × Int)} (h:MovL H rs ms) (hp:H p=some (.lst xs)):MovL (Ah H p o) rs ms:=by
 induction h with
 | nil=>exact .nil
 | cons r t ih=>exact .cons (by rw [qA7 (qCD r hp (by intro z;cases z))];exact r) ih
theorem qJP {α β:Type} {F:α->β->Prop} {a c:List α} {b d:List β} (h:Paired F a b) (k:Paired F c d):Paired F (a++c) (b++d):=by
 induction h with
 | nil=>exact k
 | cons r t ih=>exact .cons r ih
theorem MovL.snoc {H:Hp} {rs:List Addr} {ms:List (Str × Int)} {r:Addr} {wo:Str} {x:Int} (h:MovL H rs ms) (e:H r=some (.tup [.str wo,.int x])):MovL H (rs++[r]) (ms++[(wo,x)]):=J6 h e
theorem MovL.app {H:Hp} {rs rs':List Addr} {ms ms':List (Str × Int)} (h:MovL H rs ms) (h':MovL H rs' ms'):MovL H (rs++rs') (ms++ms'):=qJP h h'
noncomputable def qIC (w:Str) (n:Nat):List (Str × Int):=(O7 n).map fun (i:Nat)=>(w,(i:Int))
theorem qJR (w:Str) (n:Nat):qIC w (n+1)=qIC w n++[(w,0+(n:Int))]:=by
 unfold qIC;rw [A78,C8,Int.zero_add]
 rfl
theorem qEC (w:Str) (n:Nat):(qIC w n).length=n:=by unfold qIC;simp
noncomputable def wd (Af:List (List Int)) (st:List Int) (Aa:Int) (m:Str × Int):V:=qG3 ((Af[m.2.toNat]?).getD []) st Aa m.1 m.2
noncomputable def qL1 (n:Nat):List (Str × Int):=qIC "do" n++qIC "clear" n
noncomputable def qCR (Af:List (List Int)) (st:List Int) (Aa:Int):List (Str × Int):=(qL1 Af.length).filter fun m=>decide (wd Af st Aa m=.non)
theorem qMK (n:Nat):(qL1 n).length=n+n:=by unfold qL1;rw [A4,qEC,qEC]
theorem qP5 {n:Nat} {m:Str × Int} (h:m ∈ qL1 n):(m.1 = "do"\/m.1 = "clear")/\0<=m.2/\m.2<(n:Int):=by
 unfold qL1 qIC at h;rcases A7.mp h with h | h
 ·obtain ⟨i,hi,rfl⟩:=E2.mp h;have:=L0.mp hi;exact ⟨.inl rfl,by simp;lia⟩
 ·obtain ⟨i,hi,rfl⟩:=E2.mp h;have:=L0.mp hi;exact ⟨.inr rfl,by simp;lia⟩
def qLL:Sp:=fun vs H Q _=>∃ (a s:Addr) (Af:List (List Int)) (st:List Int) (Aa:Int),vs=[.ref a,.int Aa,.ref s]/\NetAt H a Af/\WFn Af/\Af.length<=1000/\H s=some (.tup (st.map V.int))/\st.length<=1000/\
 ∀ l rs H',Same H H'->H l=none->H' l=some (.lst (rs.map V.ref))->MovL H' rs (qCR Af st Aa)->Q (.ref l) H'
theorem qO6 {α:Type} {l:List α} {n:Nat} (h:l.length=n):l.take n=l:=C2 (by lia)
theorem qIT {p:Int->Bool} {l:List Int} {i:Nat}:((l.take i).filter p).length<=i:=by
 have:=J2 p (l.take i);rw [C3] at this
 lia
structure Cnt (n:Nat) (cs:List Int) (seen:List Int):Prop where
 len:cs.length=n
 at_:∀ x:Nat,x<n->∃ c,cs[x]?=some c/\0<=c/\(c=0 ↔ (x:Int) ∉ seen)
theorem qBC {n:Nat} (h:n<=1000000):n<sizeLine:=by rw [sizeLine_eq];lia
inductive Nd (Af:List (List Int)) (Ad:List Int):Int->Prop
 | ask {x:Int}:x ∈ Ad->Nd Af Ad x
 | need {w y:Int} {zs:List Int}:Nd Af Ad w->Af[w.toNat]?=some zs->y ∈ zs->Nd Af Ad y
structure KeysI (Ag:List (Key × V)) (ks:List Int):Prop where
 keys:Ag.map (·.1)=ks.map Q0
 nd:ks.Nodup
structure Fnd (Af:List (List Int)) (Ad ks:List Int) (j:Int):Prop where
 in_:∀ x ∈ ks,(0<=x/\x<(Af.length:Int))/\Nd Af Ad x
 ask:∀ x ∈ Ad,x ∈ ks
 clo:∀ (w:Nat) zs,j<=(w:Int)->(w:Int) ∈ ks->Af[w]?=some zs->∀ y ∈ zs,y ∈ ks
def qV3 (Af:List (List Int)) (Ad zs:List Int):Prop:=Rise (Af.length:Int) zs/\∀ x,x ∈ zs ↔ Nd Af Ad x
theorem qXN:∀ {l m:List Int},l.Pairwise (·<·)->m.Pairwise (·<·)->(∀ x,x ∈ l ↔ x ∈ m)->l=m
 | [],[],_,_,_=>rfl
 | [],y::m,_,_,h=>absurd ((h y).mpr (by simp)) (by simp)
 | x::l,[],_,_,h=>absurd ((h x).mp (by simp)) (by simp)
 | x::l,y::m,hl,hm,h=>by
  have l1:=P4.mp hl;have m1:=P4.mp hm;have exy:x=y:=by
   rcases B7.mp ((h x).mp (by simp)) with e | e
   ·exact e
   ·rcases B7.mp ((h y).mpr (by simp)) with e2 | e2
    ·exact e2.symm
    ·have:=m1.1 x e;have:=l1.1 y e2
     lia
  subst exy;rw [qXN l1.2 m1.2 fun z=>?_]
  constructor
  ·intro hz;rcases B7.mp ((h z).mp (by simp [hz])) with e | e
   ·have:=l1.1 z hz;lia
   ·exact e
  ·intro hz;rcases B7.mp ((h z).mpr (by simp [hz])) with e | e
   ·have:=m1.1 z hz;lia
   ·exact e
abbrev Mv:=Str × Int
def nd (Af:List (List Int)) (w:Int):List Int:=(Af[w.toNat]?).getD []
noncomputable def qVL (Af:List (List Int)):List Int->Int->Option Int
 | [],_=>none
 | w::r,y=>match qVL Af r y with
  | some v=>some v
  | none=>if y ∈ nd Af w then some w else none
def later (Af:List (List Int)) (zs:List Int) (j:Nat) (x:Int):Prop:=∃ v ∈ zs.drop j,x ∈ nd Af v
instance (Af:List (List Int)) (zs:List Int) (j:Nat) (x:Int):Decidable (later Af zs j x):=by unfold later;infer_instance
noncomputable def clrs (Af:List (List Int)) (Ad zs:List Int) (w:Int):List Int:=(nd Af w).filter fun y=>decide (qVL Af zs y=some w/\y ∉ Ad)
noncomputable def qZU (Af:List (List Int)) (Ad zs:List Int) (w:Int):List Mv:=("do",w)::(clrs Af Ad zs w).map fun y=>("clear",y)
noncomputable def qY5 (Af:List (List Int)) (Ad zs:List Int):List Mv:=zs.flatMap (qZU Af Ad zs)
inductive Run (Af:List (List Int)) (Aa:Int):List Int->List Mv->List Int->Prop
 | nil {s:List Int}:Run Af Aa s [] s
 | do_ {s s' t:List Int} {w:Int} {ms:List Mv}:w ∉ s->(∀ y ∈ nd Af w,y ∈ s)->(s.length:Int)<Aa->s'.Perm (s++[w])->s'.Pairwise (·<·)->Run Af Aa s' ms t->Run Af Aa s (("do",w)::ms) t
 | clear {s t:List Int} {w:Int} {ms:List Mv}:w ∈ s->Run Af Aa (s.filter fun x=>decide (x ≠ w)) ms t->Run Af Aa s (("clear",w)::ms) t
noncomputable def qJI (ms:List Mv):List Int:=ms.filterMap fun (m:Mv)=>if m.1=B6 "do" then some m.2 else none
theorem qSY (a b:List Mv):qJI (a++b)=qJI a++qJI b:=List.filterMap_append
section
variable {Af:List (List Int)} {Ad zs:List Int}
end
def PlanAt (H:Hp) (l:Addr) (ms:List Mv):Prop:=∃ rs:List Addr,H l=some (.lst (rs.map V.ref))/\MovL H rs ms
theorem PlanAt.same {H H':Hp} {l:Addr} {ms:List Mv} (h:PlanAt H l ms) (k:Same H H'):PlanAt H' l ms:=by
 obtain ⟨rs,h1,h2⟩:=h;exact ⟨rs,k _ _ h1,h2.same k⟩
def qXE (H:Hp) (t:Addr) (Af:List (List Int)) (Ad:List Int):Prop:=H t=some (.tup (Ad.map V.int))/\Rise (Af.length:Int) Ad
def qQY:Sp:=fun vs H Q _=>∃ d c t ns a Af,vs=[.ref d,.ref a]/\StAt H d c t ns/\t<=TB - 100/\NetAt H a Af/\WFn Af/\1<=Af.length/\Af.length<=400/\
 ∀ r ws t' ns' H',StAt H' d c t' ns'->t<=t'->t'<=t+10->Keep d c H H'->H' r=some (.tup (ws.map V.int))->Rise (Af.length:Int) ws->1<=ws.length->Q (.ref r) H'
def Beh (st st':List Int) (Ac:Str) (wk:Int):Prop:=(Ac = "do"->st'.Perm (st++[wk])/\st'.Pairwise (·<=·))/\(Ac = "clear"->st'=st.filter fun x=>decide (x ≠ wk))
theorem qPL:∀ {l m:List Int},l.Perm m->l.Pairwise (·<=·)->m.Pairwise (·<=·)->l=m:=by
 intro l m hp h1 h2;exact hp.eq_of_pairwise (fun a b _ _ h3 h4=>Int.le_antisymm h3 h4) h1 h2
theorem Beh.one {st a b:List Int} {Ac:Str} {wk:Int} (hw:Ac = "do"\/Ac = "clear") (h1:Beh st a Ac wk) (h2:Beh st b Ac wk):a=b:=by
 rcases hw with e | e
 ·obtain ⟨p1,s1⟩:=h1.1 e;obtain ⟨p2,s2⟩:=h2.1 e;exact qPL (p1.trans p2.symm) s1 s2
 ·rw [h1.2 e,h2.2 e]
def qLN:Sp:=fun vs H Q _=>∃ (s mv:Addr) (st:List Int) (Ac:Str) (wk:Int),vs=[.ref s,.ref mv]/\H s=some (.tup (st.map V.int))/\st.length<=62/\H mv=some (.tup [.str Ac,.int wk])/\(Ac = "do"\/Ac = "clear")/\
 ∀ r st' H',Same H H'->H' r=some (.tup (st'.map V.int))->Beh st st' Ac wk->Q (.ref r) H'
inductive Play (Af:List (List Int)) (Aa:Int):List Int->List Mv->List (List Int)->V->Prop
 | nil {st}:Play Af Aa st [] [] .non
 | stop {st m ms w0}:wd Af st Aa m=.str w0->Play Af Aa st (m::ms) [] (.str w0)
 | go {st st' m ms sts v}:wd Af st Aa m=.non->Beh st st' m.1 m.2->Play Af Aa st' ms sts v->Play Af Aa st (m::ms) (st'::sts) v
def MvOk (Af:List (List Int)) (ms:List Mv):Prop:=∀ m ∈ ms,(m.1 = "do"\/m.1 = "clear")/\0<=m.2/\m.2<(Af.length:Int)
def qV2 (H:Hp) (l:Addr) (sts:List (List Int)):Prop:=∃ rs:List Addr,H l=some (.lst (rs.map V.ref))/\NetL H rs sts
theorem qP4 {α:Type} {p:α->Bool} {l:List α} {i:Nat}:((l.take i).filter p).length<=i:=
 F3 (J2 _ _) (by rw [C3];lia)
def oV:Option Int->V
 | none=>.non
 | some i=>.int i
theorem qSD (w:Int) (lay:List (Option Int)):inV (.int w) (lay.map oV)=decide (some w ∈ lay):=by
 unfold inV
 induction lay with
 | nil=>simp
 | cons z r ih=>
  rw [C9,V8,ih];cases z with
  | none=>simp [oV,eqV]
  | some z=>
   have e:eqV (oV (some z)) (.int w)=decide (w=z):=by
    show (z == w)=decide (w=z);by_cases h:z=w
    ·subst h;simp
    ·have h':¬ w=z:=fun q=>h q.symm;simp [h,h']
   rw [e];simp [B7]
theorem qP3 (lay:List (Option Int)):(lay.map oV).all qJB=true:=by
 rw [M8];intro x hx;obtain ⟨z,_,rfl⟩:=E2.mp hx;cases z <;> rfl
structure Mo where
 dk:Bool
 wk:Int
 rm:Int
noncomputable def Mo.vs (m:Mo):List V:=match m.dk with | true=>[.str "do",.int m.wk,.int m.rm] | false=>[.str "clear",.int m.rm]
def Mo.res (m:Mo):Option Int:=match m.dk with | true=>some m.wk | false=>none
structure TIn (H:Hp) (a wd sz la mv:Addr) (Af:List (List Int)) (wides sizes:List Int) (lay:List (Option Int)) (m:Mo) (ns:List Int) (o:Option Int) (s w:Int):Prop where
 net_:NetAt H a Af
 wides_:H wd=some (.tup (wides.map V.int))
 sizes_:H sz=some (.tup (sizes.map V.int))
 lay_:H la=some (.tup (lay.map oV))
 move:H mv=some (.tup m.vs)
 work:m.dk=true->0<=m.wk/\Af[m.wk.toNat]?=some ns/\ns.length<=1000/\wides[m.wk.toNat]?=some w
 rm0:0<=m.rm
 at_:lay[m.rm.toNat]?=some o
 size:sizes[m.rm.toNat]?=some s
 len:lay.length<=1000
theorem TIn.same {H H':Hp} {a wd sz la mv:Addr} {Af:List (List Int)} {wides sizes:List Int} {lay:List (Option Int)} {m:Mo} {ns:List Int} {o:Option Int} {s w:Int} (h:TIn H a wd sz la mv Af wides sizes lay m ns o s w) (k:Same H H'):TIn H' a wd sz la mv Af wides sizes lay m ns o s w:=
 ⟨h.net_.same k,k _ _ h.wides_,k _ _ h.sizes_,k _ _ h.lay_,k _ _ h.move,h.work,h.rm0,h.at_,h.size,h.len⟩
noncomputable def thDo (ns:List Int) (lay:List (Option Int)) (wk:Int) (o:Option Int) (s w:Int):V:=if some wk ∈ lay then .str "there" else if ∀ x ∈ ns,some x ∈ lay then (match o with | some _=>.str "taken" | none=>if s<w then .str "small" else .non) else .str "needs"
noncomputable def qW0 (o:Option Int):V:=match o with | some _=>.non | none=>.str "empty"
noncomputable def thW (m:Mo) (ns:List Int) (lay:List (Option Int)) (o:Option Int) (s w:Int):V:=match m.dk with | true=>thDo ns lay m.wk o s w | false=>qW0 o
noncomputable abbrev TV (a:Addr) (wd sz la mv:Addr):List V:=[.ref a,.ref wd,.ref sz,.ref la,.ref mv]
def qHJ:Sp:=fun vs H Q _=>∃ (la r:Addr) (lay:List (Option Int)) (ns:List Int),vs=[.ref la,.ref r]/\H la=some (.tup (lay.map oV))/\H r=some (.tup (ns.map V.int))/\ns.length<=1000/\∀ H',Same H H'->Q (.bl (decide (∀ x ∈ ns,some x ∈ lay))) H'
def spTh (dk:Bool):Sp:=fun vs H Q _=>∃ (a wd sz la mv:Addr) (Af:List (List Int)) (wides sizes:List Int) (lay:List (Option Int)) (m:Mo) (ns:List Int) (o:Option Int) (s w:Int),vs=TV a wd sz la mv/\TIn H a wd sz la mv Af wides sizes lay m ns o s w/\(dk=true->m.dk=true)/\∀ H',Same H H'->Q (thW m ns lay o s w) H'
def qV9:Sp:=fun vs H Q _=>∃ (la mv:Addr) (lay:List (Option Int)) (m:Mo),vs=[.ref la,.ref mv]/\H la=some (.tup (lay.map oV))/\H mv=some (.tup m.vs)/\0<=m.rm/\m.rm.toNat<lay.length/\lay.length<=1000/\∀ r H',Same H H'->H' r=some (.tup ((lay.set m.rm.toNat m.res).map oV))->Q (.ref r) H'
noncomputable def qUZ (n k:Int):List Mo:=(qBD 0 k).flatMap fun rm=>((qBD 0 n).map fun wk=>⟨true,wk,rm⟩)++[⟨false,0,rm⟩]
def MosL (H:Hp) (rs:List Addr) (ms:List Mo):Prop:=Paired (fun r (m:Mo)=>H r=some (.tup m.vs)) rs ms
theorem MosL.same {H H':Hp} {rs:List Addr} {ms:List Mo} (h:MosL H rs ms) (k:Same H H'):MosL H' rs ms:=qC1 h fun r m e=>k _ _ e
theorem MosL.put {H:Hp} {p:Addr} {xs:List V} {o:HO} {rs:List Addr} {ms:List Mo} (h:MosL H rs ms) (hp:H p=some (.lst xs)):MosL (Ah H p o) rs ms:=qC1 h fun r m e=>by
 rw [qA7 (qCD e hp (by intro z;cases z))]
 exact e
theorem qRX {n k:Int} {m:Mo} (h:m ∈ qUZ n k):0<=m.rm/\m.rm<k/\(m.dk=true->0<=m.wk/\m.wk<n):=by
 obtain ⟨rm,hr,hm⟩:=c5.mp h;have hb:=mem_rangeI.mp hr;rcases A7.mp hm with z | z
 ·obtain ⟨wk,hw,rfl⟩:=E2.mp z;exact ⟨hb.1,hb.2,fun _=>mem_rangeI.mp hw⟩
 ·rw [A6.mp z];exact ⟨hb.1,hb.2,fun e=>nomatch e⟩
def LayOk (n:Int) (lay:List (Option Int)):Prop:=∀ x,some x ∈ lay->0<=x/\x<n
theorem LayOk.set {n:Int} {lay:List (Option Int)} {m:Mo} (h:LayOk n lay) (hm:m.dk=true->0<=m.wk/\m.wk<n):LayOk n (lay.set m.rm.toNat m.res):=fun x hx=>by
 rcases List.mem_or_eq_of_mem_set hx with z | z
 ·exact h x z
 ·unfold Mo.res at z;cases e:m.dk with
  | false=>rw [e] at z;cases z
  | true=>rw [e] at z;cases z;exact hm e
structure TKit (H:Hp) (a wd sz:Addr) (Af:List (List Int)) (wides sizes:List Int):Prop where
 net_:NetAt H a Af
 wf:WFn Af
 n1:1<=Af.length
 n6:Af.length<=6
 wides_:H wd=some (.tup (wides.map V.int))
 lw:wides.length=Af.length
 w9:∀ x ∈ wides,0<=x/\x<=99
 sizes_:H sz=some (.tup (sizes.map V.int))
 k1:1<=sizes.length
 k5:sizes.length<=5
 s9:∀ x ∈ sizes,0<=x/\x<=99
theorem TKit.same {H H':Hp} {a wd sz:Addr} {Af:List (List Int)} {wides sizes:List Int} (T:TKit H a wd sz Af wides sizes) (k:Same H H'):TKit H' a wd sz Af wides sizes:=
 ⟨T.net_.same k,T.wf,T.n1,T.n6,k _ _ T.wides_,T.lw,T.w9,k _ _ T.sizes_,T.k1,T.k5,T.s9⟩
theorem TKit.keep {H H':Hp} {d c a wd sz:Addr} {t:Int} {ns:List Int} {Af:List (List Int)} {wides sizes:List Int} (T:TKit H a wd sz Af wides sizes) (S:StAt H d c t ns) (k:Keep d c H H'):TKit H' a wd sz Af wides sizes:=
 ⟨T.net_.keep S k,T.wf,T.n1,T.n6,k _ _ T.wides_ (S.tup T.wides_).1 (S.tup T.wides_).2,T.lw,T.w9,k _ _ T.sizes_ (S.tup T.sizes_).1 (S.tup T.sizes_).2,T.k1,T.k5,T.s9⟩
theorem TKit.tin {H:Hp} {a wd sz la mv:Addr} {Af:List (List Int)} {wides sizes:List Int} {lay:List (Option Int)} {m:Mo} (T:TKit H a wd sz Af wides sizes) (hl:H la=some (.tup (lay.map oV))) (ll:lay.length=sizes.length) (hm:H mv=some (.tup m.vs)) (hin:m ∈ qUZ (Af.length:Int) (sizes.length:Int)) :
  ∃ ns o s w,TIn H a wd sz la mv Af wides sizes lay m ns o s w:=by
 obtain ⟨r0,r1,hw⟩:=qRX hin;have k5:=T.k5;have rl:m.rm.toNat<lay.length:=by lia
 have rs:m.rm.toNat<sizes.length:=by lia
 by_cases e:m.dk=true
 ·obtain ⟨w0,w1⟩:=hw e;have wn:m.wk.toNat<Af.length:=by lia
  have ww:m.wk.toNat<wides.length:=by rw [T.lw];exact wn
  have hns:=A8 wn;have ln:=(T.wf _ _ hns).len;have n6:=T.n6;exact ⟨_,_,_,_,T.net_,T.wides_,T.sizes_,hl,hm,fun _=>⟨w0,hns,by lia,A8 ww⟩,r0,A8 rl,A8 rs,by lia⟩
 ·exact ⟨[],_,_,0,T.net_,T.wides_,T.sizes_,hl,hm,fun z=>absurd z e,r0,A8 rl,A8 rs,by lia⟩
structure Sm (W:Nat) (d:PyData):Prop where
 sh:d.showable=true
 nd:d.hasDict=false
 ls:d.leavesShort 8=true
 wt:d.weight<=W
end Fw
namespace HT
open PySem PyProof.Rows
section
open PySem.SeqAt
open PySem.AutoSeq1 (wpAny_loadPart')
open PySem.MeetsSeq PySem.MeetsSeq2 PySem.MeetsSeq3
theorem qM1 (l b:Addr) (Ae items2:Array Value) (n n2:Nat) (dd dd2:Option Addr) (sl sl2:Array (Option Value)):∀ (vs ws:List Value) (ns ms:List Int) (i:Nat),Ae.toList.drop i=vs->items2.toList.drop i=ws->i<=Ae.size->i<=items2.size->IntsAre vs ns->IntsAre ws ms->
  Meets (Builtin.«list.__eq__.loop» ⟨[.ref l,.ref b,rawInt i,rawInt 0],[]⟩)
   (fun A R s=>s.heap.get? l=some { cls:=.type "list",dict:=dd,data:=.seq Ae n,slots:=sl }/\s.heap.get? b=some { cls:=.type "list",dict:=dd2,data:=.seq items2 n2,slots:=sl2 }/\
    R (.ok (.ret (.bool (lexLt ns ms)))) s):=by
 intro vs
 induction vs with
 | nil=>
  intro ws ns ms i e1 e2 l1 l2 ha hb prog w A R s h;obtain ⟨hp,g,d,tk,os⟩:=s;obtain ⟨hl,hb',h⟩:=h
  wp_walk using wpAny_loadPart' hl,wpAny_loadPart' hb'
  have z1:Ae.size<=i:=by have:=congrArg Q2 e1;simp at this;lia
  have hi1:Ae[((i:Nat):Int).toNat]?=none:=by simp;lia
  rw [hi1]
  wp_walk using wpAny_loadPart' hl,wpAny_loadPart' hb'
  show R (.ok (.ret (.bool (decide (Ae.size<items2.size))))) _;cases ha;have e:lexLt [] ms=decide (Ae.size<items2.size):=by
   have hs:ws.length=items2.size - i:=by rw [<- e2];simp
   cases hb with
   | nil=>rw [lexLt_nil_nil];simp at hs;exact (decide_eq_false (by lia)).symm
   | cons c u t=>rw [qFL];simp at hs;exact (decide_eq_true (by lia)).symm
  rw [<- e];exact h
 | cons v vs ih=>
  intro ws ns ms i e1 e2 l1 l2 ha hb prog w A R s h;obtain ⟨hp,g,d,tk,os⟩:=s;obtain ⟨hl,hb',h⟩:=h;have z1:i<Ae.size:=by have:=congrArg Q2 e1;simp at this;lia
  have hi1:Ae[((i:Nat):Int).toNat]?=some v:=by
   have:=congrArg (·[0]?) e1;simp at this;simpa using this
  have d1:Ae.toList.drop (i+1)=vs:=by rw [<- W6,e1];rfl
  wp_walk using wpAny_loadPart' hl,wpAny_loadPart' hb'
  rw [hi1];cases ha with
  | cons a t ha'=>
  cases hb with
  | nil=>
   have z2:items2.size<=i:=by have:=congrArg Q2 e2;simp at this;lia
   have hi2:items2[((i:Nat):Int).toNat]?=none:=by simp;lia
   rw [hi2]
   wp_walk using wpAny_loadPart' hl,wpAny_loadPart' hb'
   show R (.ok (.ret (.bool (decide (Ae.size<items2.size))))) _;rw [qFM] at h;rw [decide_eq_false (by lia)];exact h
  | cons c u hb2=>
   have hi2:items2[((i:Nat):Int).toNat]?=some (.int c u):=by
    have:=congrArg (·[0]?) e2;simp at this;simpa using this
   have z2:i<items2.size:=by have:=congrArg Q2 e2;simp at this;lia
   rw [hi2];rw [lexLt_cons] at h;obtain ⟨e,he,hiff⟩:=eqAt_int A.in1 ⟨hp,g,d,tk,os⟩ a t c u;refine wpAny_bind (he prog w _ _ ?_);cases e with
   | true=>
    rw [if_pos (hiff.mp rfl)] at h
    wp_walk
    have hc:((i:Int)+1)=((i+1:Nat):Int):=by push_cast;rfl
    rw [hc];exact ⟨plainId_quiet plain_eq_loop _,codeAny_builtin entry_eq_loop (by
     rw [E8 plain_eq_loop _];exact ih _ _ _ (i+1) d1 (by rw [<- W6,e2];rfl) z1 z2 ha' hb2 prog w A R _ ⟨hl,hb',h⟩)⟩
   | false=>
    rw [if_neg (fun z=>by have:=hiff.mpr z;cases this)] at h
    wp_walk using wpAny_loadPart' hl,wpAny_loadPart' hb'
    rw [hi1,hi2];have hri:=rcLt_int A.in1 ⟨hp,g,d,tk,os⟩ a t c u prog w
    wp_walk using hri
    exact h
theorem list_lt_ints (l b:Addr) (Ae items2:Array Value) (n n2:Nat) (dd dd2:Option Addr) (sl sl2:Array (Option Value)) (ns ms:List Int) (hi:IntsAre Ae.toList ns) (hj:IntsAre items2.toList ms) :
  Meets (Builtin.«list.__lt__» ⟨[.ref l,.ref b],[]⟩)
   (fun _ R s=>s.heap.get? l=some { cls:=.type "list",dict:=dd,data:=.seq Ae n,slots:=sl }/\s.heap.get? b=some { cls:=.type "list",dict:=dd2,data:=.seq items2 n2,slots:=sl2 }/\
    R (.ok (.ret (.bool (lexLt ns ms)))) s):=by
 intro prog w A R s h;obtain ⟨hp,g,d,tk,os⟩:=s;obtain ⟨hl,hb,h⟩:=h;have f1:=AutoSeq1.sub_list_list
 wp_walk using wpAny_loadPart' hl,wpAny_loadPart' hb
 exact ⟨plainId_quiet plain_eq_loop _,codeAny_builtin entry_eq_loop (by
  rw [E8 plain_eq_loop _];exact qM1 l b Ae items2 n n2 dd dd2 sl sl2 _ _ ns ms 0 rfl rfl (F0 _) (F0 _) hi hj prog w A R _ ⟨hl,hb,h⟩)⟩
end
end HT
namespace L2.G
open PySem PySem.Spec PyProof.Rows PySem.W
def IsLs (h:Heap) (a:Addr) (Ae:Array Value):Prop:=∃ o,h.get? a=some o/\o.cls=.type "list"/\∃ n,o.data=.seq Ae n
section
variable {prog:Program} {w:World} {A:Around} {E:Value->Shared->Prop} {s:Shared}
theorem qRP {x y:Addr} {xs ys:Array Value} {ns ms:List Int} {Q:Bool->Shared->Prop} (hu:A.units<cLine) (hx:IsLs s.heap x xs) (hy:IsLs s.heap y ys) (ix:IntsAre xs.toList ns) (iy:IntsAre ys.toList ms) (h:Q (HT.lexLt ns ms) s):wpAny (model prog w) A (oneLt' true (.ref x) (.ref y)) Q E s:=by
 rw [oneLt'_eq];simp only [if_true];obtain ⟨⟨cls,dd,data,sl⟩,ho,hc,n,hd⟩:=id hx;obtain ⟨⟨cls2,dd2,data2,sl2⟩,ho2,hc2,n2,hd2⟩:=id hy;simp only at hc hd hc2 hd2;subst hc hd hc2 hd2;refine wpAny_bind (wpAny_cRoomFor hu ?_);refine wpAny_bind (wpAny_callSpecialIfBound?_slot ⟨_,ho,rfl⟩ A12 (call_meets A12 ⟨_,ho,rfl⟩ PySem.F.entry_list_lt (PySem.F.args_list_lt_2 _ _) (HT.list_lt_ints x y xs ys n n2 dd dd2 sl sl2 ns ms ix iy) ⟨ho,ho2,?_⟩));exact wpAny_truthy_bool h
theorem qUE {rs:List Addr} {Q:SortKind->Shared->Prop} (h:∀ r ∈ rs,∃ xs:Array Value,IsLs s.heap r xs) (h2:2<=rs.length) (q:Q oneType' s):wpAny (model prog w) A (keyKind' (rs.map C6).toArray) Q E s:=by
 refine PySem.W.kas_kind (T:=.type "list") (by simpa using h2) (fun v hv=>?_) (by decide) (by decide) q
 obtain ⟨r,hr,rfl⟩:=E2.mp hv;obtain ⟨xs,o,ho,hc,n,hd⟩:=h r hr;rw [<- hc];exact (b8 ho).andThen .now
end
def qJ8 (H:Hp):Value->List Int
 | .ref r=>match H r with
  | some (.lst xs)=>qQ7 xs
  | _=>[]
 | _=>[]
@[reducible] def lstNM (H:Hp) (L:List (List Int)):NM:=⟨fun v=>qDG L (qJ8 H v),fun v=>∃ r t,v=.ref r/\H r=some (.lst (t.map V.int))/\t ∈ L⟩
theorem qGB {H:Hp} {r:Addr} {t:List Int} (h:H r=some (.lst (t.map V.int))):qJ8 H (.ref r)=t:=by
 show (match H r with | some (.lst xs)=>qQ7 xs | _=>[])=t
 rw [h];exact qMA t
section
variable {X:Cx}
abbrev qPE (H:Hp) (rs:List Addr) (ts:List (List Int)):Prop:=Paired (fun (r:Addr) (t:List Int)=>H r=some (.lst (t.map V.int))) rs ts
theorem qKQ {H:Hp}:∀ {rs:List Addr} {ts:List (List Int)},qPE H rs ts->∀ {r:Addr},r ∈ rs->∃ t,t ∈ ts/\H r=some (.lst (t.map V.int))
 | _,_,.nil,_,h=>nomatch h
 | _,_,.cons (b:=t) g T,r,h=>by
  rcases B7.mp h with e | e
  ·exact ⟨t,by simp,by rw [e];exact g⟩
  ·obtain ⟨t,h1,h2⟩:=qKQ T e;exact ⟨t,A9 _ h1,h2⟩
end
section
variable {X:Cx} {Ab:List (Addr × Obj)} {σ:St} {k0:Nat} {f:Addr} {fd:FuncData} {p:Str} {sp:Sp} {H0:Hp} {xs:List V} {ks:List (List Int)} {Q:VK} {l:Addr}
structure KeyDf (sp:Sp) (H0:Hp) (xs:List V) (ks:List (List Int)):Prop where
 len:ks.length=xs.length
 key:∀ (i:Nat) (x:V) (k:List Int),xs[i]?=some x->ks[i]?=some k->∀ H,Sm0 H0 H->sp [x] H (fun y H'=>Sm0 H H'/\∃ r,y=.ref r/\H' r=some (.lst (k.map V.int))) E0
theorem qUF {A:Around} {s:Shared} {H:Hp} {it S:Addr} {i:Nat} {x:V} {k:List Int} {u:Value} (F:FnOk X.prog X.w X.K X.mg X.base CX0 k0 f fd [p] sp) (rm:Room k0 A) (hA:A.frames=some X.stack) (hb:Binds X.K fd [p] [])
  (KA:KeyDf sp H0 xs ks) (I:Inv X Ab σ H s) (sm:Sm0 H0 H) (hx:xs[i]?=some x) (hk:ks[i]?=some k) (rx:RelV x u) (fi:FpOk X Ab H it) (fS:FpOk X Ab H S) {oi oS:Obj} (gi:s.heap.get? it=some oi) (gS:s.heap.get? S=some oS) {Q':Value->Shared->Prop} {E:Value->Shared->Prop}
  (h:∀ v y H' s',Inv X Ab σ H' s'->Sm0 H H'->RelV y v->(∃ r,y=.ref r/\H' r=some (.lst (k.map V.int)))->FpOk X Ab H' it->FpOk X Ab H' S->s'.heap.get? it=some oi->s'.heap.get? S=some oS->Q' v s'):wpAny (model X.prog X.w) A (call (.ref f) [u]) Q' E s:=by
 have e0:Env0 X.prog X.w X.K X.mg X.base A X.stack s H:=⟨hA,I.ok.mod,I.bs,F3 I.ok.bsz I.sz,I.stack,I.stkFree,I.hok,I.bare⟩;refine wpAny_call (codeAny_mono (F.run A X.stack s H ⟨[u],[]⟩ [u] [x] _ _ rm e0 (hb s [u] I.kIn rfl) (.cons rx .nil) (KA.key i x k hx hk H sm)) fun r s' hq=>?_);cases r with
 | error e=>exact hq.elim
 | ok fl=>
  cases fl with
  | ret v=>
   obtain ⟨y,H',os,bare,un,hok,ry,sm',kr⟩:=hq;have I':Inv X Ab σ H' s':=I.call' (ch:=[]) os un hok bare (fun b hb=>absurd hb (by simp))
   exact h v y H' s' I' sm' ry kr (fi.to (un.free it oi gi fi.1 (by simp))) (fS.to (un.free S oS gS fS.1 (by simp))) (un.keep it oi gi fi.1 (I.fpStk fi) (by simp)) (un.keep S oS gS fS.1 (I.fpStk fS) (by simp))
  | next=>exact hq.elim
  | brk=>exact hq.elim
  | cont=>exact hq.elim
def qVX (X:Cx) (Ab:List (Addr × Obj)) (σ:St) (H0:Hp) (ks:List (List Int)) (kS D:Addr) (oD:Obj) (j:Nat) (s:Shared):Prop:=
 ∃ (H:Hp) (rs:List Addr) (c:Nat),Inv X Ab σ H s/\Sm0 H0 H/\FpOk X Ab H kS/\FpOk X Ab H D/\s.heap.get? kS=some (seqObj "list" (rs.map C6).toArray c)/\s.heap.get? D=some oD/\qPE H rs (ks.take j)
theorem qN4 {A:Around} {s:Shared} {us:List Value} {kS D:Addr} {e1:Nat} {P:Fin->Shared->Prop} {E:Value->Shared->Prop} (F:FnOk X.prog X.w X.K X.mg X.base CX0 k0 f fd [p] sp) (rm:Room k0 A) (hA:A.frames=some X.stack) (hb:Binds X.K fd [p] []) (KA:KeyDf sp H0 xs ks) (rv:Vals xs us) (hz:us.length<=20000) (hkD:kS ≠ D)
  (h0:qVX X Ab σ H0 ks kS D (seqObj "list" #[] e1) 0 s)
  (h:∀ (H:Hp) (s':Shared) (zs:List (List Int × V)) (out:List Value) (n:Nat),Inv X Ab σ H s'->Sm0 H0 H->FpOk X Ab H D->zs.Perm (ks.zip xs)->zs.Pairwise (fun a b=>HT.lexLt b.1 a.1=false)->Vals (zs.map (·.2)) out->s'.heap.get? D=some (seqObj "list" out.toArray n)->P (.done (.ret .none)) s') :
  wpAny (model X.prog X.w) A (ksk_rest D (.ref f) false us.toArray e1 (.ref kS)) P E s:=by
 have lu:=rv.length;have lk:=KA.len;unfold ksk_rest;refine wpAny_bind (wpAny_rule ?_)
 first
  | rw [List.forIn_toArray]
  | (rw [<- X6];simp only [List.toList_toArray])
  | rw [<- X6]
 refine wpAny_bind (ksk_fold (fun j s'=>qVX X Ab σ H0 ks kS D (seqObj "list" #[] e1) j s') us 0 s h0 (fun j u s' hu hK=>?_) fun s' hK=>?_)
 ·rw [A55] at hK ⊢;obtain ⟨H,rs,c,I,sm,fk,fD,gk,gD,T⟩:=hK;have hj:j<us.length:=(B5.mp hu).1;have hjx:j<xs.length:=by lia
  have hjk:j<ks.length:=by lia
  have hx:=A8 hjx;have hk:=A8 hjk;obtain ⟨u',hu',ru⟩:=rv.get hx;rw [hu] at hu';cases hu';have lT:rs.length=(ks.take j).length:=B9 T;rw [C3] at lT;refine wpAny_bind (wpAny_attempt (qUF F rm hA hb KA I sm hx hk ru fk fD gk gD fun v y H' s2 I2 sm2 ry ⟨r,ey,gr⟩ fk2 fD2 gk2 gD2=>?_));subst ey;cases ry;have ea:((rs.map C6).toArray).push (.ref r)=((rs++[r]).map C6).toArray:=by simp
  obtain ⟨c2,hc2⟩:∃ c2,(s2.heap.update kS (G4 (·.push (.ref r)))).get? kS=some (seqObj "list" ((rs++[r]).map C6).toArray c2):=⟨_,by rw [<- ea];exact get?_update_seq gk2 (·.push (.ref r))⟩
  try dsimp only
  refine wpAny_bind (listUpdate_at gk2 rfl ?_ (by rw [B4,A0,sizeLine_eq];lia) (F3 (Nat.le_of_eq (Array.size_push ..)) (by rw [B4,A0,sizeLine_eq];lia)))
  refine wpAny_pure ⟨rfl,H',rs++[r],c2,Inv.off I2 fk2 (fun b o hb e=>(C5 _ _ (G8 hb)).trans e),fun b o e=>sm2 b o (sm b o e),fk2,fD2,hc2,(C5 _ _ hkD).trans gD2,?_⟩;rw [D7,hk,D5];have T2:qPE H' rs (ks.take j):=Paired.mapP T fun _ _ z=>sm2 _ _ z;exact J6 T2 gr
 ·rw [A55] at hK;obtain ⟨H,rs,c,I,sm,fk,fD,gk,gD,T⟩:=hK;rw [C2 (by lia)] at T
  have lr:rs.length=ks.length:=B9 T
  try dsimp only
  refine wpAny_bind (listItems_at gk rfl ?_);unfold ksk_end;dsimp only;simp only [E1,if_false]
  -- the triples
  have ez:((rs.map C6).toArray.zip us.toArray).toList=(rs.zip (xs.zip us)).map fun t=>((C6 t.1,t.2.2):Keyed):=by
   rw [t7];show (rs.map C6).zip us=_;have:∀ (rs:List Addr) (xs:List V) (us:List Value),rs.length=xs.length->xs.length=us.length->(rs.map C6).zip us=(rs.zip (xs.zip us)).map fun t=>((C6 t.1,t.2.2):Keyed):=by
    intro rs
    induction rs with
    | nil=>intro xs us _ _;rfl
    | cons r rs ih=>
     intro xs us h1 h2
     match xs,us,h1,h2 with
     | x::xs,u::us,h1,h2=>
      rw [C9,F7,F7,F7,C9,ih xs us (by simpa using h1) (by simpa using h2)]
     | [],_,h1,_=>simp at h1
     | _::_,[],_,h2=>simp at h2
   exact this rs xs us (by lia) (by lia)
  have tz:(rs.zip (xs.zip us)).map (fun t=>(qJ8 H (.ref t.1),t.2.1))=ks.zip xs:=by
   have:∀ (rs:List Addr) (ks:List (List Int)) (xs:List V) (us:List Value),qPE H rs ks->rs.length=xs.length->xs.length=us.length->(rs.zip (xs.zip us)).map (fun t=>(qJ8 H (.ref t.1),t.2.1))=ks.zip xs:=by
    intro rs ks xs us T
    induction T generalizing xs us with
    | nil=>intro _ _;rfl
    | @cons r k l1 l2 g _ ih=>
     intro h1 h2
     match xs,us,h1,h2 with
     | x::xs,u::us,h1,h2=>
      rw [F7,F7,F7,C9,qGB g,ih xs us (by simpa using h1) (by simpa using h2)]
     | [],_,h1,_=>simp at h1
     | _::_,[],_,h2=>simp at h2
   exact this rs ks xs us T (by lia) (by lia)
  have relT:∀ t ∈ rs.zip (xs.zip us),RelV t.2.1 t.2.2:=by
   intro t ht;obtain ⟨i,hi⟩:=R6 ht;rw [M6] at hi;have h2:=hi.2;rw [M6] at h2;obtain ⟨u,hu,ru⟩:=rv.get h2.1;rw [hu] at h2;have:=D3 h2.2;rw [<- this];exact ru
  have memT:∀ t ∈ rs.zip (xs.zip us),∃ k,k ∈ ks/\H t.1=some (.lst (k.map V.int)):=fun t ht=>qKQ T (d5 ht).1
  letI:NM:=lstNM H ks
  have fin:∀ arr:Array Keyed,arr.Perm ((rs.map C6).toArray.zip us.toArray)->qCX arr arr.size->wpAny (model X.prog X.w) A (ksk_tail D false e1 (.ref kS) (SortSt.mk' (oneType') arr #[] 7 none)) P E s'->True:=fun _ _ _ _=>trivial;have tail:∀ (st:SortSt),(arrOf st).Perm ((rs.map C6).toArray.zip us.toArray)->qCX (arrOf st) (arrOf st).size->failedOf st=none->wpAny (model X.prog X.w) A (ksk_tail D false e1 (.ref kS) st) P E s':=by
   intro st pm so fl;obtain ⟨L',p1,p2⟩:=perm_map_inv (Q6.mp pm) (rs.zip (xs.zip us)) ez;unfold ksk_tail;dsimp only;refine wpAny_bind (listUpdate_at gk rfl ?_ (by rw [B4,A0,sizeLine_eq];lia) (F0 _))
   refine wpAny_bind (wpAny_letGo ?_);have gD2:(s'.heap.update kS (G4 fun _=>(#[]:Array Value))).get? D=some (seqObj "list" #[] e1):=(C5 _ _ hkD).trans gD;have I2:=Inv.off (h':=s'.heap.update kS (G4 fun _=>(#[]:Array Value))) I fk (fun b o hb e=>(C5 _ _ (G8 hb)).trans e);refine wpAny_bind (seqEpoch_at gD2 rfl ?_);have la:(arrOf st).size=us.length:=by
    have:=pm.size_eq;rw [this];simp
    lia
   refine wpAny_bind (listUpdate_at gD2 rfl ?_ (F0 _) (by simp only [E1,if_false];rw [A84,la,sizeLine_eq];lia))
   simp only [E1,if_false];rw [fl];simp only [bne_self_eq_false,E1,if_false];obtain ⟨n2,hn2⟩:∃ n2,((s'.heap.update kS (G4 fun _=>(#[]:Array Value))).update D (G4 fun _=>(arrOf st).map (·.2))).get? D=some (seqObj "list" ((arrOf st).map (·.2)) n2):=⟨_,get?_update_seq gD2 fun _=>(arrOf st).map (·.2)⟩;have eo:(arrOf st).map (·.2)=(L'.map (·.2.2)).toArray:=by
    apply Array.toList_inj.mp;rw [t8,p2,P8]
    rfl
   rw [show seqObj "list" ((arrOf st).map (·.2)) n2=seqObj "list" (L'.map (·.2.2)).toArray n2 by rw [eo]] at hn2
   have I3:=Inv.off (s:={ s' with heap:=s'.heap.update kS (G4 fun _=>(#[]:Array Value)) }) (h':=(s'.heap.update kS (G4 fun _=>(#[]:Array Value))).update D (G4 fun _=>(arrOf st).map (·.2))) I2 fD (fun b o hb e=>(C5 _ _ (G8 hb)).trans e);refine wpAny_pure (h H _ (L'.map fun t=>(qJ8 H (.ref t.1),t.2.1)) (L'.map (·.2.2)) n2 I3 sm fD ?_ ?_ ?_ hn2)
   ·rw [<- tz];exact p1.map _
   ·rw [J5];have so2:(arrOf st).toList.Pairwise (fun a b=>gkv a<=gkv b):=by
     rw [M5];intro i j hi hj hij;have hi2:i<(arrOf st).size:=by simpa using hi
     have hj2:j<(arrOf st).size:=by simpa using hj
     have a:=so i j (G0 hij) hj2;rw [qSL hi2,qSL hj2] at a;rw [W3,W3];exact a
    rw [p2,J5] at so2;refine so2.imp_of_mem fun {a b} ha hb le=>?_;obtain ⟨k1,m1,g1⟩:=memT a (p1.mem_iff.mp ha);obtain ⟨k2,m2,g2⟩:=memT b (p1.mem_iff.mp hb);have le:qDG ks (qJ8 H (.ref a.1))<=qDG ks (qJ8 H (.ref b.1)):=le;rw [qGB g1,qGB g2] at le ⊢;dsimp only;rw [<- qHO m2 m1];exact decide_eq_false (by lia)
   ·have:∀ L:List (Addr × V × Value),(∀ t ∈ L,RelV t.2.1 t.2.2)->Vals ((L.map fun t=>(qJ8 H (.ref t.1),t.2.1)).map (·.2)) (L.map (·.2.2)):=by
     intro L
     induction L with
     | nil=>intro _;exact .nil
     | cons t L ih=>intro hL;exact .cons (hL t (by simp)) (ih fun t ht=>hL t (A9 _ ht))
    exact this L' fun t ht=>relT t (p1.mem_iff.mp ht)
  by_cases few:us.toArray.size<2
  ·simp only [if_pos few];refine wpAny_bind (wpAny_pure ?_);rw [A77];refine wpAny_bind (wpAny_pure (tail _ (.refl _) (fun i j hij hj=>?_) rfl));have sz:(arrOf (SortSt.mk' general' ((rs.map C6).toArray.zip us.toArray) #[] 7 none)).size<=1:=by
    show ((rs.map C6).toArray.zip us.toArray).size<=1;rw [Array.size_zip]
    lia
   have hj':j<(arrOf (SortSt.mk' general' ((rs.map C6).toArray.zip us.toArray) #[] 7 none)).size:=hj;have ij:i=j:=by lia
   rw [ij];exact L6 _
  ·simp only [if_neg few];rw [B4] at few;have tat:∀ (r:Addr) (t:List Int),H r=some (.lst (t.map V.int))->∃ ys:Array Value,IsLs s'.heap r ys/\IntsAre ys.toList t:=by
    intro r t g;obtain ⟨its,r1,pl,_⟩:=I.list (SqL.of g);obtain ⟨o,ho,hc,n,hd⟩:=pl.isList;exact ⟨its.toArray,⟨o,ho,hc,n,hd⟩,qEX r1⟩
   have lt_ok:LtOk X.prog X.w A s' oneType':=by
    refine ⟨fun {x y Q E} hx hy h=>?_⟩;obtain ⟨r1,t1,rfl,g1,m1⟩:=hx;obtain ⟨r2,t2,rfl,g2,m2⟩:=hy;obtain ⟨ya,i1,j1⟩:=tat r1 t1 g1;obtain ⟨yb,i2,j2⟩:=tat r2 t2 g2;rw [keyLt'_oneType];refine qRP (by have:=rm.un;lia) i1 i2 j1 j2 ?_
    have e1:NM.nm (C6 r1)=qDG ks t1:=by show qDG ks (qJ8 H (.ref r1))=_;rw [qGB g1]
    have e2:NM.nm (C6 r2)=qDG ks t2:=by show qDG ks (qJ8 H (.ref r2))=_;rw [qGB g2]
    rw [e1,e2,qHO m1 m2] at h;exact h
   have ik:qBL ((rs.map C6).toArray.zip us.toArray):=fun pq hp=>by
    rw [ez] at hp;obtain ⟨t,ht,rfl⟩:=E2.mp hp;obtain ⟨k,mk,g⟩:=memT t ht;exact ⟨t.1,k,rfl,g,mk⟩
   refine wpAny_bind (qUE (rs:=rs) (fun r hr=>let ⟨t,_,g⟩:=qKQ T hr;let ⟨ys,i,_⟩:=tat r t g;⟨ys,i⟩) (by lia) ?_)
   refine wpAny_bind (wpAny_mono (qMB (κ0:=oneType') (a₀:=(rs.map C6).toArray.zip us.toArray) (Q:=fun _ st2=>gSG (oneType') ((rs.map C6).toArray.zip us.toArray) st2/\qCX (arrOf st2) ((rs.map C6).toArray.zip us.toArray).size) ik ⟨.refl _,rfl,rfl⟩ rfl fun st2 g u=>⟨g,u⟩) ?_ fun _ _ x=>x);rintro ⟨_,st2⟩ s2 ⟨es,g,u⟩;cases (show s2=_ from es);exact tail st2 g.perm (by rw [g.perm.size_eq];exact u) g.failed
theorem sortk_callD {s:Shared} {H:Hp} (F:FnOk X.prog X.w X.K X.mg X.base CX0 k0 f fd [p] sp) (rm:Room (k0+2) X.A) (hA:X.A.in1.in1.frames=some X.stack) (hb:Binds X.K fd [p] []) (KA:KeyDf sp H xs ks) (I:Inv X Ab σ H s) (hz:xs.length<=20000)
  (src:∃ (its:List Value),Vals xs its/\∀ (P:List Value->Shared->Prop),(∀ h' tk,(∀ b o,s.heap.get? b=some o->h'.get? b=some o)->P its { s with heap:=h',toks:=tk })->wpAny (model X.prog X.w) X.A.in1 (collect (.ref l)) P X.xe s)
  (hQ:∀ (H':Hp) (D:Addr) (zs:List (List Int × V)),Sm0 H H'->H' D=none->zs.Perm (ks.zip xs)->zs.Pairwise (fun a b=>HT.lexLt b.1 a.1=false)->Q (.ref D) (Ah H' D (.lst (zs.map (·.2))))) :
  wpAny (model X.prog X.w) X.A (call (.builtin "sorted") [.ref l] [(B6 "key",.ref f)]) (EP X Ab σ Q) X.xe s:=by
 refine call_function_entry_kw kind_sorted plain_sorted entry_sorted (qPK _ _) ?_;unfold Builtin.«sorted»;refine wpAny_bind (m:=checkCount "sorted" 1 1 _) (wpAny_pure ?_);obtain ⟨its,rv,col⟩:=src;have li:=rv.length;refine wpAny_bind (col _ fun h1 tk1 k1=>?_);have I1:Inv X Ab σ H { s with toks:=tk1,heap:=h1 }:=I.kept (t':=tk1) k1;refine wpAny_bind (wpAny_newList ?_ (by show its.length<=_;rw [sizeLine_eq];lia))
 have fD0:FpOk X Ab H h1.objs.size:=I1.fpOk (A5 _) (I1.hok.fresh (A5 _));have szD:=I1.sz;have gD:(h1.push (seqObj "list" its.toArray 0)).get? h1.objs.size=some (seqObj "list" its.toArray 0):=C1 _ rfl;have I2:Inv X Ab σ H { s with toks:=tk1,heap:=h1.push (seqObj "list" its.toArray 0) }:=I1.kept (t':=tk1) fun b o e=>A3 _ e;have ltD:h1.objs.size<(h1.push (seqObj "list" its.toArray 0)).objs.size:=C0 gD;show wpAny _ _ _ _ _ { s with toks:=tk1,heap:=h1.push (seqObj "list" its.toArray 0) };show wpAny _ _ (holding [.ref h1.objs.size] (call (.builtin "list.sort") [.ref h1.objs.size] [(B6 "key",.ref f)]) >>= _) _ _ _;generalize h1.push (seqObj "list" its.toArray 0)=h2 at gD I2 ltD ⊢;have szD:X.s₀.heap.objs.size<=h1.objs.size:=szD;generalize h1.objs.size=D at fD0 szD gD ltD ⊢;refine wpAny_bind (wpAny_holding (wpAny_call_entry_kw slot_list_sort ⟨_,gD,rfl⟩ entry_list_sort ?_ (ksk_l1 _ _)));show wpAny (model X.prog X.w) X.A.in1.in1 (Builtin.«list.sort» ⟨[.ref D],[(B6 "key",.ref f)]⟩) _ _ _;rw [ksk_t1];unfold ksk_tree;refine wpAny_bind (listItems_at gD rfl ?_);refine wpAny_bind (listUpdate_at gD rfl ?_ (by rw [B4,sizeLine_eq];lia) (F0 _))
 obtain ⟨e1,ho1⟩:∃ e1,(h2.update D (G4 fun _=>(#[]:Array Value))).get? D=some (seqObj "list" #[] e1):=⟨_,get?_update_seq gD fun _=>#[]⟩;have I3:=Inv.off (h':=h2.update D (G4 fun _=>(#[]:Array Value))) I2 fD0 (fun b o hb e=>(C5 _ _ (G8 hb)).trans e);have ltD3:D<(h2.update D (G4 fun _=>(#[]:Array Value))).objs.size:=C0 ho1;refine wpAny_bind (seqEpoch_at ho1 rfl ?_);generalize h2.update D (G4 fun _=>(#[]:Array Value))=h3 at ho1 I3 ltD3 ⊢;refine wpAny_bind (wpAny_newTuple ?_ (by show its.length<=_;rw [sizeLine_eq];lia))
 refine wpAny_bind (wpAny_newList ?_ (F0 _));refine wpAny_holding ?_;have hkS:(h3.push (seqObj "tuple" its.toArray 0)).objs.size=h3.objs.size+1:=P7 ..;have I4:Inv X Ab σ H { s with toks:=tk1,heap:=(h3.push (seqObj "tuple" its.toArray 0)).push (seqObj "list" #[] 0) }:=I3.kept (t':=tk1) fun b o e=>A3 _ (A3 _ e);have fk:FpOk X Ab H (h3.push (seqObj "tuple" its.toArray 0)).objs.size:=by rw [hkS];exact I3.fpOk (X2 _) (I3.hok.fresh (X2 _))
 refine qN4 (kS:=(h3.push (seqObj "tuple" its.toArray 0)).objs.size) (D:=D) F (rm.in1.in1) hA hb KA rv (by lia) (by rw [hkS];exact X3 (O8 ltD3)) ⟨H,[],0,I4,fun _ _ e=>e,fk,fD0,C1 _ rfl,A3 _ (A3 _ ho1),?_⟩ fun H' s' zs out n I5 sm fD5 pm so rvo gD5=>⟨_,rfl,?_⟩
 ·rw [List.take_zero];exact .nil
 ·refine wpAny_pure ⟨_,rfl,.ref D,Ah H' D (.lst (zs.map (·.2))),I5.track fD5.1 szD fD5.2.1 fD5.2.2.2.2.1 fD5.2.2.2.2.2 ⟨?_,out,n,rvo,gD5⟩,rfl,hQ H' D zs sm fD5.1 pm so⟩;have:=pm.length_eq;rw [A0,this,Y2,sizeLine_eq]
  lia
end
end L2.G
namespace L2
open PySem PySem.Spec PyProof.Rows
abbrev qPF (H:Hp) (rs:List Addr) (Ag:List (List KI × V)):Prop:=Paired (fun (r:Addr) (kv:List KI × V)=>H r=some (.tup (kv.1.map kI))) rs Ag
theorem Inv.keysT {X:Cx} {Ab:List (Addr × Obj)} {σ:St} {H2:Hp} {s:Shared} {d:Addr} {o:Obj} {Ag:List (List KI × V)} (I2:Inv X Ab σ H2 s) (hd:H2 d=some (.frz o (.dT Ag))) :
  ∃ es ep rs,s.heap.get? d=some o/\(d == sysModules)=false/\o.cls=.type "dict"/\o.data=.dict es ep/\es.size=Ag.length/\qPF H2 rs Ag/\∀ (acc:Array Value),acc.size=es.size->(∀ (i:Nat) (v:Value),acc[i]?=some v->∃ h:i<es.size,v=es[i].key)->acc.toList=rs.map C6:=by
 obtain ⟨e1,e2,e3,es,ep,e4,e5,get⟩:=I2.heldT hd;have each:∀ (n:Nat),n<=Ag.length->∃ rs:List Addr,qPF H2 rs (Ag.take n)/\(∀ i,i<n->∃ r,rs[i]?=some r/\∃ h:i<es.size,es[i].key=.ref r):=by
  intro n
  induction n with
  | zero=>intro _;exact ⟨[],.nil,fun i hi=>absurd hi (P3 _)⟩
  | succ n ih=>
   intro hn;obtain ⟨rs,T,g⟩:=ih (by lia)
   have hi:n<es.size:=by lia
   obtain ⟨k,v,r,g1,g2,g3⟩:=get n hi;have lr:rs.length=n:=by have:=B9 T;rw [C3] at this;lia
   refine ⟨rs++[r],?_,fun i hi2=>?_⟩
   ·rw [D7,g1,D5];exact J6 T g3
   ·by_cases e:i=n
    ·subst e;exact ⟨r,by rw [F4 (by lia),lr];simp,hi,g2⟩
    ·obtain ⟨r',a,b⟩:=g i (by lia)
     exact ⟨r',by rw [G2 (by lia)];exact a,b⟩
 obtain ⟨rs,T,gr⟩:=each Ag.length (A5 _);rw [C2 (A5 _)] at T;have lr:rs.length=Ag.length:=B9 T;refine ⟨es,ep,rs,e1,e2,e3,e4,e5,T,fun acc l1 l2=>?_⟩;refine A48 fun i=>?_;by_cases hi:i<acc.size
 ·obtain ⟨h3,e6⟩:=l2 i acc[i] (B8 hi);obtain ⟨r,a,h4,b⟩:=gr i (by lia)
  rw [E4,B8 hi,e6,D0,a,b]
  rfl
 ·rw [E4,y8 (by lia),J1 (by rw [A0];lia)]
def qXR (sp:Sp) (ta:TA):TE:=fun σ H Q=>ta σ H fun vs H1=>∃ (d:Addr) (o:Obj) (Ag:List (List KI × V)) (ks:List (List Int)),vs=[.ref d]/\H1 d=some (.frz o (.dT Ag))/\Ag.length<=20000/\
 ∀ rs,qPF H1 rs Ag->G.KeyDf sp H1 (rs.map V.ref) ks/\∀ (H':Hp) (D:Addr) (zs:List (List Int × V)),Sm0 H1 H'->H' D=none->zs.Perm (ks.zip (rs.map V.ref))->zs.Pairwise (fun a b=>HT.lexLt b.1 a.1=false)->Q (.ref D) (Ah H' D (.lst (zs.map (·.2))))
section
variable {X:Cx}
theorem qU2 {e:Expr} {ta:TA} {np fp pos kpos:Pos} {k0:Nat} {f:Addr} {fd:FuncData} {x p:Str} {sp:Sp} (F:FnOk X.prog X.w X.K X.mg X.base CX0 k0 f fd [p] sp) (rm:Room (k0+2) X.A) (hb:Binds X.K fd [p] []) (hgx:Gl X x) (hmx:X.mg x=some (.ref f))
  (hg:Gl X "sorted") (hm:X.mg "sorted" = none) (hv:bootBuiltins "sorted" = some (.builtin "sorted")) (ha:PA X [e] ta) (hs:starEach [e] X.env=[(false,eval e X.env)]:=by rfl) (hdx:(x == ("__debug__" : Str))=false:=by decide) :
  PE X (.Call (.Name "sorted" np) [e] [⟨some "key",.Name x fp,kpos⟩] pos) (qXR sp ta):=by
 intro Ab s σ H Q I h;refine wpAny_Call_Name_kw (qIG I hg hm hv ?_ (by decide) (by decide))
 refine X5 (thn (ha pos Ab s σ H _ I h) fun us s1 ⟨vs,H1,I1,r1,q1⟩=>?_) (by rw [hs];rfl) (by rw [hs];rfl)
 obtain ⟨d,o,Ag,ks,rfl,hd,hz,q2⟩:=q1;obtain ⟨u,rfl,rx⟩:=qE2 r1;cases rx;refine thn (qKI (kpos:=kpos) (nm:=some "key") (qWI (pos:=fp) hgx hmx (v:=.ref f) rfl hdx) qRC pos Ab s1 σ H1 (fun zs H2=>zs=[.ref f]/\H2=H1) I1 ⟨rfl,rfl⟩) fun ws s2 ⟨zs,H2,I2,rz,ez,eh⟩=>?_;subst ez eh;obtain ⟨u2,rfl,r2⟩:=qE2 rz;cases r2;have hA:X.A.in1.in1.frames=some X.stack:=I2.ok.frames;obtain ⟨es,ep,rs,e1,e2,e3,e4,e5,T,back⟩:=I2.keysT hd;have lr:rs.length=Ag.length:=B9 T;obtain ⟨KA,q3⟩:=q2 rs T;refine G.sortk_callD (H:=H2) (l:=d) F rm hA hb KA I2 (by rw [A0,lr];exact hz) ⟨rs.map C6,?_,fun P h=>?_⟩ q3
 ·have:∀ rs:List Addr,Vals (rs.map V.ref) (rs.map C6):=fun rs=>by
   induction rs with
   | nil=>exact .nil
   | cons r rs ih=>exact .cons rfl ih
  exact this rs
 ·refine g8 (A:=X.A.in1) (G.src_dT e2 e3 e4) rm.hd e1 (by rw [e5,sizeLine_eq];lia) fun h' tk acc kept Ae=>?_
  obtain ⟨l1,l2⟩:=Ae;rw [back acc l1 l2];exact h h' tk kept
end
end L2
namespace L2
open PySem PySem.Spec PyProof.Rows
def KR0 (H:Hp) (y:V) (k:List Int):Prop:=∃ n,y=.int n/\k=[n]
theorem qa4 {X:Cx}:KCmp X KR0:=by
 refine ⟨fun H H' y k sm h=>h,?_⟩;intro Ab σ s H y y' u u' k k' Q E I ry ry' ⟨n,e,g⟩ ⟨n',e',g'⟩ h;subst e e' g g';obtain ⟨t,rfl⟩:=(show ∃ t,u=O0 n t from ry);obtain ⟨t',rfl⟩:=(show ∃ t,u'=O0 n' t from ry');refine HT.rcLt_int _ _ _ _ _ _ _ _ _ _ ?_;have e:HT.lexLt [n] [n']=decide (n<n'):=by
  rw [HT.lexLt_cons];by_cases c:n=n'
  ·rw [if_pos c,HT.lexLt_nil_nil];exact (decide_eq_false (by lia)).symm
  ·rw [if_neg c]
 rw [<- e];exact h
theorem qYF {X:Cx} {scope:Scope} {p:Str} {fv:List Nat} {q:Str} (z:LmZ):(lmCx X scope p fv q z).A.units+2<cLine:=by
 have:=z.rm.un;show z.A.units+3+2<cLine
 lia
section
variable {X:Cx}
end
end L2
namespace Fw
open PySem L2
abbrev La:=List (Option Int)
def cntO (l:La):Nat:=l.countP A38
def beO (l:La) (m:Mo):La:=l.set m.rm.toNat m.res
def dN (m:Mo):Nat:=match m.dk with | true=>1 | false=>0
def fwO (Af:List (List Int)) (wides sizes:List Int) (l:La) (m:Mo):V:=thW m (Af.getD m.wk.toNat []) l (l.getD m.rm.toNat none) (sizes.getD m.rm.toNat 0) (wides.getD m.wk.toNat 0)
def prMo (n k:Int):List Mo:=((qBD 0 k).map fun rm=>⟨false,0,rm⟩)++(qBD 0 n).flatMap fun wk=>(qBD 0 k).map fun rm=>⟨true,wk,rm⟩
def nxO (Af:List (List Int)) (wides sizes:List Int) (l:La):List Mo:=(prMo (Af.length:Int) (sizes.length:Int)).filter fun m=>decide (fwO Af wides sizes l m=.non)
def l0 (sizes:List Int):La:=D2 sizes.length none
theorem mem_prMo {n k:Int} {m:Mo}:m ∈ prMo n k ↔ (0<=m.rm/\m.rm<k)/\((m.dk=false/\m.wk=0)\/m.dk=true/\0<=m.wk/\m.wk<n):=by
 obtain ⟨b,w,r⟩:=m;unfold prMo;rw [A7,E2,c5]
 constructor
 ·rintro (⟨x,hx,e⟩ | ⟨x,hx,hy⟩)
  ·cases e;exact ⟨mem_rangeI.mp hx,.inl ⟨rfl,rfl⟩⟩
  ·obtain ⟨y,hy,e⟩:=E2.mp hy;cases e;exact ⟨mem_rangeI.mp hy,.inr ⟨rfl,mem_rangeI.mp hx⟩⟩
 ·rintro ⟨h,⟨e1,e2⟩ | ⟨e1,h2⟩⟩
  ·have e1:b=false:=e1;have e2:w=0:=e2;subst e1 e2;exact .inl ⟨r,mem_rangeI.mpr h,rfl⟩
  ·have e1:b=true:=e1;subst e1;exact .inr ⟨w,mem_rangeI.mpr h2,E2.mpr ⟨r,mem_rangeI.mpr h,rfl⟩⟩
inductive Po (Af:List (List Int)) (wides sizes:List Int):Nat->La->Prop
 | zero:Po Af wides sizes 0 (l0 sizes)
 | step {t:Nat} {l:La} {m:Mo}:Po Af wides sizes t l->m ∈ nxO Af wides sizes l->Po Af wides sizes (t+1) (beO l m)
section
variable {Af:List (List Int)} {wides sizes:List Int}
theorem qPU {l:La} {m:Mo} (h:m ∈ nxO Af wides sizes l):(0<=m.rm/\m.rm<sizes.length)/\(m.dk=true->0<=m.wk/\m.wk<Af.length)/\fwO Af wides sizes l m=.non:=by
 obtain ⟨h1,h2⟩:=E6.mp h;obtain ⟨a,b⟩:=mem_prMo.mp h1;refine ⟨a,fun e=>?_,of_decide_eq_true h2⟩;rcases b with ⟨z,_⟩ | ⟨_,z⟩
 ·rw [z] at e;cases e
 ·exact z
theorem qNP {l:La} {m:Mo} (hd:m.dk=true):fwO Af wides sizes l m=.non ↔ some m.wk ∉ l/\(∀ x ∈ Af.getD m.wk.toNat [],some x ∈ l)/\l.getD m.rm.toNat none=none/\¬ sizes.getD m.rm.toNat 0<wides.getD m.wk.toNat 0:=by
 unfold fwO thW;rw [hd];dsimp only;unfold thDo;by_cases c1:some m.wk ∈ l
 ·rw [if_pos c1];exact ⟨fun z=>(nomatch z),fun z=>absurd c1 z.1⟩
 rw [if_neg c1];by_cases c2:∀ x ∈ Af.getD m.wk.toNat [],some x ∈ l
 ·rw [if_pos c2];cases l.getD m.rm.toNat none with
  | some y=>exact ⟨fun z=>(nomatch z),fun z=>(nomatch z.2.2.1)⟩
  | none=>
   dsimp only;by_cases c3:sizes.getD m.rm.toNat 0<wides.getD m.wk.toNat 0
   ·rw [if_pos c3];exact ⟨fun z=>(nomatch z),fun z=>absurd c3 z.2.2.2⟩
   ·rw [if_neg c3];exact ⟨fun _=>⟨c1,c2,rfl,c3⟩,fun _=>rfl⟩
 ·rw [if_neg c2];exact ⟨fun z=>(nomatch z),fun z=>absurd z.2.1 c2⟩
theorem qSM {l:La} {m:Mo} (hd:m.dk=false):fwO Af wides sizes l m=.non ↔ ∃ x,l.getD m.rm.toNat none=some x:=by
 unfold fwO thW;rw [hd];dsimp only;unfold qW0;cases l.getD m.rm.toNat none with
 | some y=>exact ⟨fun _=>⟨y,rfl⟩,fun _=>rfl⟩
 | none=>exact ⟨fun z=>(nomatch z),fun ⟨_,z⟩=>nomatch z⟩
theorem qXA {l:La} {k:Nat} (h:k<l.length) (o:Option Int):cntO (l.set k o)+(if (l.getD k none).isSome then 1 else 0)=cntO l+if o.isSome then 1 else 0:=by
 unfold cntO
 induction l generalizing k with
 | nil=>exact absurd h (P3 _)
 | cons a l ih=>
  cases k with
  | zero=>
   rw [List.set_cons_zero,c6,c6];show _+(if a.isSome=true then 1 else 0)=_
   lia
  | succ k=>
   have:=ih (k:=k) (by simpa using h)
   rw [List.set_cons_succ,c6,c6];have e:(a::l).getD (k+1) none=l.getD k none:=by simp [List.getD]
   rw [e]
   lia
theorem Po.len {t:Nat} {l:La} (h:Po Af wides sizes t l):l.length=sizes.length:=by
 induction h with
 | zero=>exact F1
 | step _ _ ih=>unfold beO;rw [P1];exact ih
theorem Po.ok {t:Nat} {l:La} (h:Po Af wides sizes t l):LayOk (Af.length:Int) l:=by
 induction h with
 | zero=>intro x hx;exact nomatch (O2 hx)
 | step _ hm ih=>exact ih.set (qPU hm).2.1
theorem qFZ {t:Nat} {l:La} {m:Mo} (h:Po Af wides sizes t l) (hm:m ∈ nxO Af wides sizes l):(m.dk=true/\cntO (beO l m)=cntO l+1)\/m.dk=false/\cntO (beO l m)+1=cntO l:=by
 obtain ⟨h1,h2,h3⟩:=qPU hm;have k:=qXA (l:=l) (k:=m.rm.toNat) (by rw [h.len];lia) m.res
 cases hd:m.dk with
 | true=>
  have e:=((qNP hd).mp h3).2.2.1;refine .inl ⟨rfl,?_⟩;have r:m.res=some m.wk:=by unfold Mo.res;rw [hd]
  rw [e,r] at k;unfold beO;rw [r];simpa using k
 | false=>
  obtain ⟨x,e⟩:=(qSM hd).mp h3;refine .inr ⟨rfl,?_⟩;have r:m.res=none:=by unfold Mo.res;rw [hd]
  rw [e,r] at k;unfold beO;rw [r];simpa using k
def Mto (Af:List (List Int)) (wides sizes:List Int) (t:Nat) (l:La):Prop:=Po Af wides sizes t l/\∀ u,u<t->¬ Po Af wides sizes u l
theorem Mto.one {t u:Nat} {l:La} (h:Mto Af wides sizes t l) (h':Mto Af wides sizes u l):t=u:=by
 rcases Z5 t u with c | c | c
 ·exact absurd h.1 (h'.2 t c)
 ·exact c
 ·exact absurd h'.1 (h.2 u c)
structure BFO (Af:List (List Int)) (wides sizes:List Int) (t:Nat) (ks due ly:List La) (f:La->Nat) (i k:Nat):Prop where
 nd:ks.Nodup
 snd:∀ s ∈ ks,∃ u,u<=t+1/\Mto Af wides sizes u s/\2 * f s=u+cntO s
 full:∀ u s,u<=t->Po Af wides sizes u s->s ∈ ks
 duem:∀ s,s ∈ due ↔ Mto Af wides sizes t s
 lym:∀ s,s ∈ ly ↔ s ∈ ks/\Mto Af wides sizes (t+1) s
 done:∀ j s,due[j]?=some s->j<i->∀ m ∈ nxO Af wides sizes s,beO s m ∈ ks
 dk:∀ s,due[i]?=some s->∀ m ∈ (nxO Af wides sizes s).take k,beO s m ∈ ks
theorem qIX (sizes:List Int):cntO (l0 sizes)=0:=by
 unfold cntO l0;rw [List.countP_eq_zero];intro x hx;rw [O2 hx];exact B0
theorem BFO.start:BFO Af wides sizes 0 [l0 sizes] [l0 sizes] [] (fun _=>0) 0 0:=by
 have z:∀ s,Po Af wides sizes 0 s->s=l0 sizes:=fun s h=>by cases h;rfl
 have m0:Mto Af wides sizes 0 (l0 sizes):=⟨.zero,fun u hu=>absurd hu (P3 _)⟩;refine ⟨by simp,fun s hs=>?_,fun u s hu p=>?_,fun s=>?_,fun s=>?_,fun j s _ hj=>absurd hj (P3 _),fun s _ m hm=>by simp at hm⟩
 ·rw [A6.mp hs];exact ⟨0,by lia,m0,by rw [qIX]⟩
 ·have:u=0:=by lia
  subst this;rw [z s p];simp
 ·rw [A6];exact ⟨fun e=>e ▸ m0,fun h=>z s h.1⟩
 ·constructor
  ·intro h;cases h
  ·rintro ⟨h,m⟩;rw [A6.mp h] at m;exact absurd (Mto.one m m0) (by lia)
section
variable {t:Nat} {ks due ly:List La} {f:La->Nat} {i k:Nat}
theorem BFO.hit (h:BFO Af wides sizes t ks due ly f i k) {s:La} {m:Mo} (hs:due[i]?=some s) (hm:(nxO Af wides sizes s)[k]?=some m) (hk:beO s m ∈ ks):BFO Af wides sizes t ks due ly f i (k+1):=by
 refine ⟨h.nd,h.snd,h.full,h.duem,h.lym,h.done,fun s' e m' hm'=>?_⟩;rw [hs] at e;cases e;rw [D7,hm,D5,A7,A6] at hm';rcases hm' with z | z
 ·exact h.dk s hs m' z
 ·rw [z];exact hk
def fsO (f:La->Nat) (x:La) (v:Nat):La->Nat:=fun y=>if y=x then v else f y
theorem qP1 (f:La->Nat) (x:La) (v:Nat):fsO f x v x=v:=if_pos rfl
theorem qP2 {f:La->Nat} {x y:La} {v:Nat} {ks:List La} (h:y ∈ ks) (hx:x ∉ ks):fsO f x v y=f y:=if_neg fun e=>hx (by rw [<- e];exact h)
theorem qI0 {ks:List La} {x:La} (nd:ks.Nodup) (h:x ∉ ks):(ks++[x]).Nodup:=by
 rw [A52];exact ⟨nd,by simp,fun a ha b hb e=>h (by rw [A6.mp hb] at e;exact e ▸ ha)⟩
theorem BFO.val (h:BFO Af wides sizes t ks due ly f i k) {s:La} (hs:s ∈ due):s ∈ ks/\2 * f s=t+cntO s:=by
 have m:=(h.duem s).mp hs;have hk:=h.full t s (A5 _) m.1;obtain ⟨u,_,mu,e⟩:=h.snd s hk;rw [Mto.one mu m] at e;exact ⟨hk,e⟩
theorem BFO.add (h:BFO Af wides sizes t ks due ly f i k) {s:La} {m:Mo} (hs:due[i]?=some s) (hm:(nxO Af wides sizes s)[k]?=some m) (hk:beO s m ∉ ks) :
  BFO Af wides sizes t (ks++[beO s m]) due (ly++[beO s m]) (fsO f (beO s m) (f s+dN m)) i (k+1):=by
 have hsd:=C4 hs;have ms:=(h.duem s).mp hsd;obtain ⟨hsk,ev⟩:=h.val hsd;have md:=C4 hm;have M1:Mto Af wides sizes (t+1) (beO s m):=⟨.step ms.1 md,fun u hu p=>hk (h.full u _ (by lia) p)⟩
 refine ⟨qI0 h.nd hk,fun x hx=>?_,fun u x hu p=>A7.mpr (.inl (h.full u x hu p)),h.duem,fun x=>?_,fun j x e hj m' hm'=>A7.mpr (.inl (h.done j x e hj m' hm')),fun x e m' hm'=>?_⟩
 ·rcases A7.mp hx with z | z
  ·rw [qP2 z hk];exact h.snd x z
  ·rw [A6.mp z,qP1];refine ⟨t+1,A5 _,M1,?_⟩;unfold dN;rcases qFZ ms.1 md with ⟨w,l⟩ | ⟨w,l⟩
   ·rw [w];dsimp only;lia
   ·rw [w];dsimp only;lia
 ·rw [A7,A7,A6,h.lym x]
  constructor
  ·rintro (z | z)
   ·exact ⟨.inl z.1,z.2⟩
   ·exact ⟨.inr z,z ▸ M1⟩
  ·rintro ⟨z | z,e⟩
   ·exact .inl ⟨z,e⟩
   ·exact .inr z
 ·rw [hs] at e;cases e;rw [D7,hm,D5,A7,A6] at hm';rcases hm' with z | z
  ·exact A7.mpr (.inl (h.dk s hs m' z))
  ·rw [z];simp
theorem BFO.next (h:BFO Af wides sizes t ks due ly f i k) {s:La} (hs:due[i]?=some s) (hk:(nxO Af wides sizes s).length<=k):BFO Af wides sizes t ks due ly f (i+1) 0:=by
 refine ⟨h.nd,h.snd,h.full,h.duem,h.lym,fun j x e hj m hm=>?_,fun s _ m hm=>by simp at hm⟩
 by_cases ej:j=i
 ·subst ej;rw [hs] at e;cases e;exact h.dk s hs m (by rw [C2 hk];exact hm)
 ·exact h.done j x e (by lia) m hm
theorem BFO.level (h:BFO Af wides sizes t ks due ly f i k) (hi:due.length<=i):BFO Af wides sizes (t+1) ks ly [] f 0 0:=by
 have full:∀ u s,u<=t+1->Po Af wides sizes u s->s ∈ ks:=fun u s hu p=>by
  cases p with
  | zero=>exact h.full 0 _ (by lia) .zero
  | @step u st m p hm=>
   have hst:=h.full u st (by lia) p
   obtain ⟨v,hv,mv,_⟩:=h.snd st hst;have hvu:v<=u:=by
    apply M7;intro z;exact mv.2 u (by lia) p
   by_cases e:v=t
   ·subst e;obtain ⟨j,hj,ej⟩:=K0 ((h.duem st).mpr mv);exact h.done j st (by rw [A8 hj,ej]) (by lia) m hm
   ·exact h.full (v+1) _ (by lia) (.step mv.1 hm)
 refine ⟨h.nd,fun s hs=>?_,full,fun s=>?_,fun s=>?_,fun j s _ hj=>absurd hj (P3 _),fun s _ m hm=>by simp at hm⟩
 ·obtain ⟨u,hu,r⟩:=h.snd s hs;exact ⟨u,by lia,r⟩
 ·rw [h.lym s];exact ⟨fun z=>z.2,fun z=>⟨full _ _ (A5 _) z.1,z⟩⟩
 ·constructor
  ·intro z;cases z
  ·rintro ⟨hs,m⟩;obtain ⟨u,hu,mu,_⟩:=h.snd s hs;exact absurd (Mto.one mu m) (by lia)
structure RcO (Af:List (List Int)) (wides sizes:List Int) (ks:List La) (f:La->Nat):Prop where
 nd:ks.Nodup
 snd:∀ s ∈ ks,∃ u,Mto Af wides sizes u s/\2 * f s=u+cntO s
 all:∀ u s,Po Af wides sizes u s->s ∈ ks
theorem BFO.rch (h:BFO Af wides sizes t ks [] [] f i k):RcO Af wides sizes ks f:=by
 have lt:∀ s ∈ ks,∃ u,u<t/\Mto Af wides sizes u s:=fun s hs=>by
  obtain ⟨u,hu,mu,_⟩:=h.snd s hs;have n1:u ≠ t:=fun e=>nomatch (h.duem s).mpr (e ▸ mu);have n2:u ≠ t+1:=fun e=>nomatch (h.lym s).mpr ⟨hs,e ▸ mu⟩;exact ⟨u,by lia,mu⟩
 refine ⟨h.nd,fun s hs=>let ⟨u,_,r⟩:=h.snd s hs;⟨u,r⟩,fun u s p=>?_⟩
 induction p with
 | zero=>exact h.full 0 _ (by lia) .zero
 | step p hm ih=>
  obtain ⟨v,hv,mv⟩:=lt _ ih;exact h.full (v+1) _ (by lia) (.step mv.1 hm)
end
def encO (n:Nat):La->Nat
 | []=>0
 | none::l=>(n+1) * encO n l
 | some x::l=>(n+1) * encO n l+(x.toNat+1)
theorem qVQ {n:Nat}:∀ {l:La},LayOk (n:Int) l->encO n l<(n+1) ^ l.length
 | [],_=>by show 0<1;lia
 | o::l,h=>by
  have ih:=qVQ (n:=n) (l:=l) fun x hx=>h x (A9 _ hx);rw [E3,Nat.pow_succ,Nat.mul_comm];have m:(n+1) * encO n l+(n+1)<=(n+1) * (n+1) ^ l.length:=by
   rw [<- Nat.mul_succ];exact Nat.mul_le_mul_left _ ih
  cases o with
  | none=>show (n+1) * encO n l<_;lia
  | some x=>
   have:=h x (by simp)
   show (n+1) * encO n l+(x.toNat+1)<_
   lia
theorem qSW {n:Nat}:∀ {a b:La},a.length=b.length->LayOk (n:Int) a->LayOk (n:Int) b->encO n a=encO n b->a=b
 | [],[],_,_,_,_=>rfl
 | [],_::_,e,_,_,_=>by simp at e
 | _::_,[],e,_,_,_=>by simp at e
 | x::a,y::b,e,ha,hb,h=>by
  have head:∀ (o:Option Int) (l:La),LayOk (n:Int) (o::l)->∃ r,r<n+1/\encO n (o::l)=r+(n+1) * encO n l/\r=(match o with | none=>0 | some x=>x.toNat+1):=fun o l h=>by
   cases o with
   | none=>exact ⟨0,by lia,by show (n+1) * encO n l=_;lia,rfl⟩
   | some x=>have:=h x (by simp);exact ⟨x.toNat+1,by lia,by show (n+1) * encO n l+(x.toNat+1)=_;lia,rfl⟩
  obtain ⟨r,r1,r2,r3⟩:=head x a ha;obtain ⟨u,u1,u2,u3⟩:=head y b hb;rw [r2,u2] at h;have e1:r=u:=by
   have:=congrArg (· % (n+1)) h
   rwa [m6,m6,A65 r1,A65 u1] at this
  subst e1;have e2:encO n a=encO n b:=Nat.eq_of_mul_eq_mul_left (by lia:0<n+1) (by lia)
  have ih:=qSW (by simpa using e) (fun z hz=>ha z (A9 _ hz)) (fun z hz=>hb z (A9 _ hz)) e2
  rw [ih];congr 1;rw [r3] at u3;cases x with
  | none=>cases y with
   | none=>rfl
   | some y=>have u3:0=y.toNat+1:=u3;lia
  | some x=>cases y with
   | none=>have u3:x.toNat+1=0:=u3;lia
   | some y=>
    have u3:x.toNat+1=y.toNat+1:=u3;have h1:=ha x (by simp)
    have h2:=hb y (by simp)
    rw [show x=y by lia]
theorem qXC {ks:List Nat} {n:Nat} (nd:ks.Nodup) (h:∀ b ∈ ks,b<n):ks.length<=n:=by
 have p:ks.Perm ((O7 n).filter fun x=>decide (x ∈ ks)):=(W1 nd (List.nodup_range.filter _)).mpr fun x=>by
  rw [E6,decide_eq_true_eq,L0];exact ⟨fun hx=>⟨h x hx,hx⟩,fun hx=>hx.2⟩
 rw [p.length_eq];exact F3 (J2 _ _) (by rw [A53];exact A5 n)
theorem qM5 {n k:Nat} {ks:List La} (nd:ks.Nodup) (h:∀ s ∈ ks,s.length=k/\LayOk (n:Int) s):ks.length<=(n+1) ^ k:=by
 have nd2:(ks.map (encO n)).Nodup:=
  J5.mpr (nd.imp_of_mem fun {a b} ha hb hab e=>hab (qSW ((h a ha).1.trans (h b hb).1.symm) (h a ha).2 (h b hb).2 e))
 have:=qXC (n:=(n+1) ^ k) nd2 fun b hb=>by
  obtain ⟨s,hs,rfl⟩:=E2.mp hb;have:=qVQ (h s hs).2
  rwa [(h s hs).1] at this
 rwa [A0] at this
theorem BFO.len {t:Nat} {ks due ly:List La} {f:La->Nat} {i k:Nat} (h:BFO Af wides sizes t ks due ly f i k):ks.length<=(Af.length+1) ^ sizes.length:=
 qM5 h.nd fun s hs=>let ⟨_,_,m,_⟩:=h.snd s hs;⟨m.1.len,m.1.ok⟩
end
def kO:Option Int->KI
 | none=>none
 | some i=>some (.inl i)
def keyO (l:La):List KI:=l.map kO
theorem qa6 (o:Option Int):kI (kO o)=oV o:=by cases o <;> rfl
theorem qD7 (l:La):(keyO l).map kI=l.map oV:=by
 unfold keyO;rw [P8];exact i0 fun x _=>qa6 x
theorem qYN {a b:Option Int} (e:kO a=kO b):a=b:=by
 cases a <;> cases b
 ·rfl
 ·exact nomatch e
 ·exact nomatch e
 ·have:=A19 (D3 (show some (Q0 _:Key)=some (Q0 _) from e));rw [this]
theorem qKT:∀ {a b:La},keyO a=keyO b->a=b
 | [],[],_=>rfl
 | [],_::_,e=>by simp [keyO] at e
 | _::_,[],e=>by simp [keyO] at e
 | x::a,y::b,e=>by
  unfold keyO at e;rw [C9,C9] at e
  injection e with e1 e2
  rw [qYN e1,qKT e2]
abbrev PrO:=Option (La × Mo)
def ValO (H:Hp) (v:V) (n:Nat):PrO->Prop
 | none=>∃ r,v=.ref r/\H r=some (.tup [.int (n:Int),.non,.non])
 | some (p,m)=>∃ r rp rm,v=.ref r/\H r=some (.tup [.int (n:Int),.ref rp,.ref rm])/\H rp=some (.tup (p.map oV))/\H rm=some (.tup m.vs)
theorem ValO.same {H H':Hp} {v:V} {n:Nat} {o:PrO} (h:ValO H v n o) (sm:Same H H'):ValO H' v n o:=by
 cases o with
 | none=>obtain ⟨r,e,g⟩:=h;exact ⟨r,e,sm _ _ g⟩
 | some pm=>obtain ⟨r,rp,rm,e,g1,g2,g3⟩:=h;exact ⟨r,rp,rm,e,sm _ _ g1,sm _ _ g2,sm _ _ g3⟩
theorem qE3 {H:Hp} {d r:Addr} {o u:HO} {xs:List V} (g:H r=some (.tup xs)) (hd:H d=some o) (ho:∀ xs,o ≠ .tup xs):(Ah H d u) r=some (.tup xs):=by
 rw [qA7 (qCD g hd fun z=>ho _ z.symm)];exact g
theorem ValO.put {H:Hp} {v:V} {n:Nat} {q:PrO} {d:Addr} {o u:HO} (h:ValO H v n q) (hd:H d=some o) (ho:∀ xs,o ≠ .tup xs):ValO (Ah H d u) v n q:=by
 cases q with
 | none=>obtain ⟨r,e,g⟩:=h;exact ⟨r,e,qE3 g hd ho⟩
 | some pm=>obtain ⟨r,rp,rm,e,g1,g2,g3⟩:=h;exact ⟨r,rp,rm,e,qE3 g1 hd ho,qE3 g2 hd ho,qE3 g3 hd ho⟩
theorem ValO.at {H:Hp} {v:V} {n:Nat} {o:PrO} (h:ValO H v n o):∃ r x y,v=.ref r/\H r=some (.tup [.int (n:Int),x,y]):=by
 cases o with
 | none=>obtain ⟨r,e,g⟩:=h;exact ⟨r,_,_,e,g⟩
 | some pm=>obtain ⟨r,rp,rm,e,g,_⟩:=h;exact ⟨r,_,_,e,g⟩
abbrev KvO:=List (List KI × V)
def EntO (H:Hp) (Ag:KvO) (ks:List La) (f:La->Nat) (g:La->PrO):Prop:=Paired (fun (kv:List KI × V) s=>kv.1=keyO s/\ValO H kv.2 (f s) (g s)) Ag ks
def gsO (g:La->PrO) (x:La) (v:PrO):La->PrO:=fun y=>if y=x then v else g y
section
variable {H H':Hp} {Ag:KvO} {ks:List La} {f:La->Nat} {g:La->PrO}
theorem EntO.same (h:EntO H Ag ks f g) (sm:Same H H'):EntO H' Ag ks f g:=Paired.mapP h fun _ _ z=>⟨z.1,z.2.same sm⟩
theorem EntO.put {d:Addr} {o u:HO} (h:EntO H Ag ks f g) (hd:H d=some o) (ho:∀ xs,o ≠ .tup xs):EntO (Ah H d u) Ag ks f g:=Paired.mapP h fun _ _ z=>⟨z.1,z.2.put hd ho⟩
theorem EntO.len (h:EntO H Ag ks f g):Ag.length=ks.length:=B9 h
theorem EntO.val:∀ {Ag:KvO} {ks:List La},EntO H Ag ks f g->∀ {s:La},s ∈ ks->∃ v,valV Ag (keyO s)=some v/\ValO H v (f s) (g s)
 | _,_,.nil,s,hs=>nomatch hs
 | _,_,.cons (a:=kv) (b:=s0) ⟨e,v3⟩ t,s,hs=>by
  by_cases c:s0=s
  ·subst c;exact ⟨kv.2,qBE e,v3⟩
  ·rw [qB7 (fun z=>c (qKT (e.symm.trans z)))];exact EntO.val t ((B7.mp hs).resolve_left fun z=>c z.symm)
theorem EntO.none:∀ {Ag:KvO} {ks:List La},EntO H Ag ks f g->∀ {s:La},s ∉ ks->valV Ag (keyO s)=none
 | _,_,.nil,s,hs=>rfl
 | _,_,.cons (a:=kv) (b:=s0) ⟨e,v3⟩ t,s,hs=>by
  have c:¬ s0=s:=fun z=>hs (by rw [z];simp)
  rw [qB7 (fun z=>c (qKT (e.symm.trans z)))];exact EntO.none t fun z=>hs (A9 _ z)
theorem EntO.snoc (h:EntO H Ag ks f g) {s:La} (hs:s ∉ ks) {v:V} {n:Nat} {o:PrO} (hv:ValO H v n o):EntO H (putK Ag (keyO s) v) (ks++[s]) (fsO f s n) (gsO g s o):=by
 rw [qOJ v (h.none hs)];refine J6 (?_:EntO H Ag ks (fsO f s n) (gsO g s o)) ⟨rfl,by rw [show fsO f s n s=n from if_pos rfl,show gsO g s o s=o from if_pos rfl];exact hv⟩
 clear hv
 induction h with
 | nil=>exact .nil
 | @cons kv s0 l1 l2 a t ih=>exact .cons ⟨a.1,by rw [show fsO f s n s0=f s0 from if_neg fun z=>hs (by rw [z];simp),show gsO g s o s0=g s0 from if_neg fun z=>hs (by rw [z];simp)];exact a.2⟩ (ih fun z=>hs (A9 _ z))
end
section
variable {Af:List (List Int)} {wides sizes:List Int} {ks:List La} {f:La->Nat} {g:La->PrO}
def PvO (Af:List (List Int)) (wides sizes:List Int) (ks:List La) (f:La->Nat) (g:La->PrO):Prop:=
 ∀ s ∈ ks,(s=l0 sizes/\g s=none/\f s=0)\/∃ p m,g s=some (p,m)/\p ∈ ks/\m ∈ nxO Af wides sizes p/\s=beO p m/\f s=f p+dN m
theorem PvO.start:PvO Af wides sizes [l0 sizes] (fun _=>0) (fun _=>none):=fun s hs=>.inl ⟨A6.mp hs,rfl,rfl⟩
theorem PvO.snoc {s:La} {m:Mo} {z:Nat} (hs:s ∈ ks) (hm:m ∈ nxO Af wides sizes s) (c:beO s m ∉ ks) (hz:z=dN m) (h:PvO Af wides sizes ks f g):PvO Af wides sizes (ks++[beO s m]) (fsO f (beO s m) (f s+z)) (gsO g (beO s m) (some (s,m))):=by
 have gn:∀ y ∈ ks,gsO g (beO s m) (some (s,m)) y=g y:=fun y hy=>if_neg fun e=>c (by rw [<- e];exact hy)
 intro x hx;rcases A7.mp hx with w | w
 ·rw [qP2 w c,gn x w];rcases h x w with a | ⟨p,mm,a1,a2,a3,a4,a5⟩
  ·exact .inl a
  ·exact .inr ⟨p,mm,a1,A7.mpr (.inl a2),a3,a4,by rw [qP2 a2 c];exact a5⟩
 ·rw [A6.mp w];refine .inr ⟨s,m,if_pos rfl,A7.mpr (.inl hs),hm,rfl,?_⟩;rw [qP1,qP2 hs c,hz]
inductive RunO (Af:List (List Int)) (wides sizes:List Int):La->List Mo->La->Prop
 | nil {l:La}:RunO Af wides sizes l [] l
 | cons {l l':La} {m:Mo} {ms:List Mo}:m ∈ nxO Af wides sizes l->RunO Af wides sizes (beO l m) ms l'->RunO Af wides sizes l (m::ms) l'
theorem RunO.app {a b c:La} {x y:List Mo} (h:RunO Af wides sizes a x b) (k:RunO Af wides sizes b y c):RunO Af wides sizes a (x++y) c:=by
 induction h with
 | nil=>exact k
 | cons m _ ih=>exact .cons m (ih k)
def dosO (ms:List Mo):Nat:=(ms.filter fun m=>m.dk).length
theorem qF2 (m:Mo):dosO [m]=dN m:=by
 unfold dosO dN;rw [O6,A03];cases m.dk <;> rfl
theorem qGM (a b:List Mo):dosO (a++b)=dosO a+dosO b:=by
 unfold dosO;rw [Y4,A4]
def qF6 (g:La->PrO):Nat->La->List Mo
 | 0,_=>[]
 | n+1,s=>match g s with
  | none=>[]
  | some (p,m)=>qF6 g n p++[m]
theorem qHY (R:RcO Af wides sizes ks f) {p:La} {m:Mo} (hp:p ∈ ks) (hm:m ∈ nxO Af wides sizes p) {u:Nat} (e:2 * (f p+dN m)=u+cntO (beO p m)):∃ v,u=v+1/\2 * f p=v+cntO p:=by
 obtain ⟨v,mv,ev⟩:=R.snd p hp;refine ⟨v,?_,ev⟩;unfold dN at e;rcases qFZ mv.1 hm with ⟨w,l⟩ | ⟨w,l⟩
 ·rw [w] at e;dsimp only at e;lia
 ·rw [w] at e;dsimp only at e;lia
theorem qWT {a b:List La} (na:a.Nodup) (h:∀ x ∈ a,x ∈ b) (nb:b.Nodup):a.length<=b.length:=by
 have p:a.Perm (b.filter fun x=>decide (x ∈ a)):=(W1 na (nb.filter _)).mpr fun x=>by
  rw [E6,decide_eq_true_eq];exact ⟨fun hx=>⟨h x hx,hx⟩,fun hx=>hx.2⟩
 rw [p.length_eq];exact J2 _ _
theorem qLY (R:RcO Af wides sizes ks f) (pv:PvO Af wides sizes ks f g):∀ (u:Nat) (s:La),s ∈ ks->2 * f s=u+cntO s->RunO Af wides sizes (l0 sizes) (qF6 g u s) s/\dosO (qF6 g u s)=f s/\(qF6 g u s).length=u/\
  ∃ L:List La,L.length=u+1/\L.Nodup/\∀ x ∈ L,x ∈ ks/\∃ v,v<=u/\2 * f x=v+cntO x
 | 0,s,hs,e=>by
  rcases pv s hs with ⟨a1,a2,a3⟩ | ⟨p,m,a1,a2,a3,a4,a5⟩
  ·subst a1;exact ⟨.nil,by rw [a3];rfl,rfl,[l0 sizes],rfl,by simp,fun x hx=>by rw [A6.mp hx];exact ⟨hs,0,A5 _,e⟩⟩
  ·rw [a5,a4] at e;obtain ⟨v,z,_⟩:=qHY R a2 a3 e
   lia
 | u+1,s,hs,e=>by
  rcases pv s hs with ⟨a1,a2,a3⟩ | ⟨p,m,a1,a2,a3,a4,a5⟩
  ·rw [a3,a1,qIX] at e
   lia
  ·have e2:=e;rw [a5,a4] at e2;obtain ⟨v,z1,z2⟩:=qHY R a2 a3 e2;have:v=u:=by lia
   subst this;obtain ⟨i1,i2,i4,L,i5,i6,i7⟩:=qLY R pv v p a2 z2;have ep:qF6 g (v+1) s=qF6 g v p++[m]:=by show (match g s with | none=>[] | some (p,m)=>qF6 g v p++[m])=_;rw [a1]
   rw [ep];refine ⟨i1.app (.cons a3 (by rw [<- a4];exact .nil)),by rw [qGM,i2,qF2,a5],by rw [A4,i4];rfl,L++[s],by rw [A4,i5];rfl,qI0 i6 fun hz=>?_,fun x hx=>?_⟩
   ·obtain ⟨_,w,w1,w2⟩:=i7 s hz
    lia
   ·rcases A7.mp hx with z | z
    ·obtain ⟨j1,w,w1,w2⟩:=i7 x z;exact ⟨j1,w,by lia,w2⟩
    ·rw [A6.mp z];exact ⟨hs,v+1,A5 _,e⟩
def pthO (f:La->Nat) (g:La->PrO) (s:La):List Mo:=qF6 g (2 * f s - cntO s) s
theorem qOK (R:RcO Af wides sizes ks f) (pv:PvO Af wides sizes ks f g) {s:La} (hs:s ∈ ks):RunO Af wides sizes (l0 sizes) (pthO f g s) s/\dosO (pthO f g s)=f s/\(pthO f g s).length+1<=ks.length:=by
 obtain ⟨u,_,e⟩:=R.snd s hs;have eu:2 * f s - cntO s=u:=by lia
 obtain ⟨h1,h2,h4,L,h5,h6,h7⟩:=qLY R pv u s hs e;unfold pthO;rw [eu];refine ⟨h1,h2,?_⟩;have:=qWT h6 (fun x hx=>(h7 x hx).1) R.nd
 lia
end
theorem qPZ {n k:Int} {m:Mo} (h:m ∈ prMo n k):m ∈ qUZ n k:=by
 obtain ⟨a,b⟩:=mem_prMo.mp h;obtain ⟨d,w,r⟩:=m;refine c5.mpr ⟨r,mem_rangeI.mpr a,A7.mpr ?_⟩;rcases b with ⟨e1,e2⟩ | ⟨e1,e2⟩
 ·have e1:d=false:=e1;have e2:w=0:=e2;subst e1 e2;exact .inr (by simp)
 ·have e1:d=true:=e1;subst e1;exact .inl (E2.mpr ⟨w,mem_rangeI.mpr e2,rfl⟩)
theorem TKit.tinO {H:Hp} {a wd sz la mv:Addr} {Af:List (List Int)} {wides sizes:List Int} {lay:La} {m:Mo} (T:TKit H a wd sz Af wides sizes) (hl:H la=some (.tup (lay.map oV))) (ll:lay.length=sizes.length) (hm:H mv=some (.tup m.vs)) (hin:m ∈ qUZ (Af.length:Int) (sizes.length:Int)) :
  ∃ ns o s w,TIn H a wd sz la mv Af wides sizes lay m ns o s w/\fwO Af wides sizes lay m=thW m ns lay o s w:=by
 obtain ⟨ns,o,s,w,I⟩:=T.tin hl ll hm hin;refine ⟨ns,o,s,w,I,?_⟩;unfold fwO thW;have e1:lay.getD m.rm.toNat none=o:=by rw [B3,I.at_];rfl
 have e2:sizes.getD m.rm.toNat 0=s:=by rw [B3,I.size];rfl
 cases hd:m.dk with
 | false=>dsimp only;rw [e1]
 | true=>
  obtain ⟨_,h2,_,h3⟩:=I.work hd;have e3:Af.getD m.wk.toNat []=ns:=by rw [B3,h2];rfl
  have e4:wides.getD m.wk.toNat 0=w:=by rw [B3,h3];rfl
  dsimp only;rw [e1,e2,e3,e4]
theorem qTW (k:Nat):(D2 k [V.non]).flatten=(D2 k (none:Option Int)).map oV:=by
 induction k with
 | zero=>rfl
 | succ k ih=>rw [N9,T1,ih,N9];rfl
theorem qPO {K:PySem.W.Frag} {H:Hp} {t1:Addr} {sizes:List Int} {Q:VK} (h1:H t1=some (.tup [.non])) (k1:1<=sizes.length) (k5:sizes.length<=1000) (h:∀ r H',Same H H'->H' r=some (.tup ((l0 sizes).map oV))->Q (.ref r) H'):qW9 K (.ref t1) (.int (sizes.length:Int)) H Q:=by
 refine ⟨t1,_,[.non],rfl,rfl,SqT.of h1,by simp,by lia,by lia,by decide,fun e=>?_,fun e p hp=>?_⟩
 ·refine h t1 H (.refl _) ?_;unfold l0;rw [h1,show sizes.length=1 from by lia]
  rfl
 ·refine h p _ (qA2 hp _) ?_;unfold l0;rw [qA1,qTW,show ((sizes.length:Int)).toNat=sizes.length from by lia]
theorem qOU {H:Hp} {rs:List Addr} {ms:List Mo} {d:Addr} {o u:HO} (h:MosL H rs ms) (hd:H d=some o) (ho:∀ xs,o ≠ .tup xs):MosL (Ah H d u) rs ms:=qC1 h fun r m e=>qE3 e hd ho
theorem qOW:∀ a:List Int,HT.lexLt a a=false
 | []=>rfl
 | x::a=>by rw [HT.lexLt_cons,if_pos rfl];exact qOW a
theorem qFR:∀ a b c:List Int,HT.lexLt a b=false->HT.lexLt b c=false->HT.lexLt a c=false
 | [],[],c,_,h=>h
 | [],_::_,c,h,_=>by cases h
 | x::a,[],[],_,_=>rfl
 | x::a,[],_::_,_,h=>by cases h
 | x::a,y::b,[],_,_=>rfl
 | x::a,y::b,z::c,h1,h2=>by
  rw [HT.lexLt_cons] at h1 h2 ⊢;by_cases e1:x=y
  ·subst e1;rw [if_pos rfl] at h1;by_cases e2:x=z
   ·rw [if_pos e2] at h2 ⊢;exact qFR a b c h1 h2
   ·rw [if_neg e2] at h2 ⊢;exact h2
  ·rw [if_neg e1] at h1;have h1:=of_decide_eq_false h1;by_cases e2:y=z
   ·subst e2;rw [if_neg e1];exact decide_eq_false h1
   ·rw [if_neg e2] at h2;have h2:=of_decide_eq_false h2;rw [if_neg (by lia)]
    exact decide_eq_false (by lia)
theorem qM3:∀ a b:List Int,HT.lexLt a b=true->HT.lexLt b a=false
 | [],[],_=>rfl
 | [],_::_,_=>rfl
 | _::_,[],h=>by cases h
 | x::a,y::b,h=>by
  rw [HT.lexLt_cons] at h ⊢;by_cases e:x=y
  ·subst e;rw [if_pos rfl] at h ⊢;exact qM3 a b h
  ·rw [if_neg e] at h;have h:=of_decide_eq_true h;rw [if_neg (by lia)]
   exact decide_eq_false (by lia)
theorem qGU:∀ (r:List (V × List Int)) (b:V × List Int),∃ k,(qBZ b r,k) ∈ b::r/\∀ q ∈ b::r,HT.lexLt q.2 k=false
 | [],b=>⟨b.2,by simp [qBZ],fun q hq=>by rw [A6.mp hq];exact qOW _⟩
 | x::r,b=>by
  by_cases e:HT.lexLt x.2 b.2=true
  ·obtain ⟨k,h1,h2⟩:=qGU r x;have ep:qBZ b (x::r)=qBZ x r:=by rw [qBZ,if_pos e]
   rw [ep];refine ⟨k,A9 _ h1,fun q hq=>?_⟩;rcases B7.mp hq with z | z
   ·rw [z];exact qFR _ _ _ (qM3 _ _ e) (h2 x (by simp))
   ·exact h2 q z
  ·obtain ⟨k,h1,h2⟩:=qGU r b;have ep:qBZ b (x::r)=qBZ b r:=by rw [qBZ,if_neg e]
   rw [ep];refine ⟨k,?_,fun q hq=>?_⟩
   ·rcases B7.mp h1 with z | z
    ·rw [z];simp
    ·exact A9 _ (A9 _ z)
   ·rcases B7.mp hq with z | z
    ·exact h2 q (by rw [z];simp)
    ·rcases B7.mp z with z | z
     ·rw [z];exact qFR _ _ _ (O3.mpr e) (h2 b (by simp))
     ·exact h2 q (A9 _ z)
def qOC:Sp:=fun vs H Q _=>∃ (a wd sz la:Addr) (Af:List (List Int)) (wides sizes:List Int) (lay:La),vs=[.ref a,.ref wd,.ref sz,.ref la]/\TKit H a wd sz Af wides sizes/\H la=some (.tup (lay.map oV))/\lay.length=sizes.length/\
 ∀ l rs H',Same H H'->H l=none->H' l=some (.lst (rs.map V.ref))->MosL H' rs (nxO Af wides sizes lay)->Q (.ref l) H'
def qO8:Sp:=fun vs H Q _=>∃ (l:Addr) (rs:List Addr) (ms:List Mo),vs=[.ref l]/\H l=some (.lst (rs.map V.ref))/\MosL H rs ms/\ms.length<=20000/\∀ H',Same H H'->Q (.int (dosO ms:Int)) H'
def qOA:Sp:=fun vs H Q _=>∃ (a wd sz:Addr) (Af:List (List Int)) (wides sizes:List Int),vs=[.ref a,.ref wd,.ref sz]/\TKit H a wd sz Af wides sizes/\
 ∀ d o Ag ks f g H',Same H H'->H d=none->H' d=some (.frz o (.dT Ag))->EntO H' Ag ks f g->RcO Af wides sizes ks f->PvO Af wides sizes ks f g->Q (.ref d) H'
def qQU:Sp:=fun vs H Q _=>∃ (d t:Addr) (o:Obj) (Ag:KvO) (Af:List (List Int)) (wides sizes:List Int) (ks:List La) (f:La->Nat) (g:La->PrO) (s:La),vs=[.ref d,.ref t]/\H d=some (.frz o (.dT Ag))/\EntO H Ag ks f g/\RcO Af wides sizes ks f/\PvO Af wides sizes ks f g/\ks.length<=20000/\H t=some (.tup (s.map oV))/\s ∈ ks/\
 ∀ l rs H',Same H H'->H l=none->H' l=some (.lst (rs.map V.ref))->MosL H' rs (pthO f g s)->Q (.ref l) H'
def rk1:Option Int->Int
 | none=>-1
 | some x=>x
def rkO (l:La):List Int:=l.map rk1
def qQT:Sp:=fun vs H Q _=>∃ (la:Addr) (lay:La),vs=[.ref la]/\H la=some (.tup (lay.map oV))/\lay.length<=1000/\∀ l H',Same H H'->H l=none->H' l=some (.lst ((rkO lay).map V.int))->Q (.ref l) H'
def TabO (H:Hp) (Pt:Addr):Prop:=H Pt=some (.tbl (.tab "least_there.<locals>.<lambda>"))
def LaysAt (H:Hp) (rs:List Addr) (L:List La):Prop:=Paired (fun (r:Addr) (s:La)=>H r=some (.tup (s.map oV))) rs L
theorem LaysAt.same {H H':Hp} {rs:List Addr} {L:List La} (h:LaysAt H rs L) (k:Same H H'):LaysAt H' rs L:=qC1 h fun r m e=>k _ _ e
theorem LaysAt.put {H:Hp} {rs:List Addr} {L:List La} {d:Addr} {o u:HO} (h:LaysAt H rs L) (hd:H d=some o) (ho:∀ xs,o ≠ .tup xs):LaysAt (Ah H d u) rs L:=qC1 h fun r m e=>qE3 e hd ho
theorem LaysAt.snoc {H:Hp} {rs:List Addr} {L:List La} (h:LaysAt H rs L) {r:Addr} {s:La} (g:H r=some (.tup (s.map oV))):LaysAt H (rs++[r]) (L++[s]):=J6 h g
def qOE (Pt:Addr):Sp:=fun vs H Q _=>∃ (a wd sz t:Addr) (Af:List (List Int)) (wides sizes Ad:List Int),vs=[.ref a,.ref wd,.ref sz,.ref t]/\TabO H Pt/\TKit H a wd sz Af wides sizes/\H t=some (.tup (Ad.map V.int))/\Ad.length<=1000/\
 ∀ ks f H',Same H H'->RcO Af wides sizes ks f->
  ((∀ s ∈ ks,¬ ∀ x ∈ Ad,some x ∈ s)->∀ T p rs L,H T=none->H' T=some (.tup [.str "none",.ref p])->H p=none->H' p=some (.lst (rs.map V.ref))->LaysAt H' rs L->L.Perm ks->L.Pairwise (fun x y=>HT.lexLt (rkO y) (rkO x)=false)->Q (.ref T) H')/\
  ∀ s,s ∈ ks->(∀ x ∈ Ad,some x ∈ s)->(∀ s' ∈ ks,(∀ x ∈ Ad,some x ∈ s')->f s<=f s')->∀ T p rs ms,H T=none->H' T=some (.tup [.str "plan",.ref p,.int (f s:Int)])->H p=none->H' p=some (.lst (rs.map V.ref))->MosL H' rs ms->RunO Af wides sizes (l0 sizes) ms s->dosO ms=f s->ms.length<=20000->Q (.ref T) H'
theorem qNX (i j:Int):decide (V.int i=V.int j)=decide (i=j):=decide_eq_decide.mpr ⟨fun z=>V.int.inj z,fun z=>by rw [z]⟩
theorem qNW (i j:Str):decide (V.str i=V.str j)=decide (i=j):=decide_eq_decide.mpr ⟨fun z=>V.str.inj z,fun z=>by rw [z]⟩
theorem qCP (l:La) (i j:Nat) (o:Option Int):(l.set i o).getD j none=if i=j/\i<l.length then o else l.getD j none:=by
 rw [B3,List.getElem?_set,B3];by_cases e:i=j
 ·subst e;rw [if_pos rfl];by_cases c:i<l.length
  ·rw [if_pos c,if_pos ⟨rfl,c⟩];rfl
  ·rw [if_neg c,if_neg fun z=>c z.2,J1 (by lia)]
 ·rw [if_neg e,if_neg fun z=>e z.1]
theorem mem_getD {l:La} {x:Int}:some x ∈ l ↔ ∃ j,l.getD j none=some x:=by
 constructor
 ·intro h;obtain ⟨j,hj,e⟩:=K0 h;exact ⟨j,by rw [B3,A8 hj,e];rfl⟩
 ·rintro ⟨j,e⟩;rw [B3] at e;cases h:l[j]? with
  | none=>rw [h] at e;cases e
  | some o=>
   rw [h] at e;have e:o=some x:=e;subst e;exact C4 h
structure EmbO (f:Nat->Nat) (l l':La):Prop where
 at_:∀ r,r<l.length->f r<l'.length/\l'.getD (f r) none=l.getD r none
 inj:∀ r r',r<l.length->r'<l.length->f r=f r'->r=r'
 off:∀ j,(∀ r,r<l.length->f r ≠ j)->l'.getD j none=none
theorem EmbO.mem {f:Nat->Nat} {l l':La} (h:EmbO f l l') {x:Int}:some x ∈ l' ↔ some x ∈ l:=by
 rw [mem_getD,mem_getD]
 constructor
 ·rintro ⟨j,e⟩;by_cases c:∃ r,r<l.length/\f r=j
  ·obtain ⟨r,hr,rfl⟩:=c;exact ⟨r,by rw [<- (h.at_ r hr).2];exact e⟩
  ·rw [h.off j fun r hr z=>c ⟨r,hr,z⟩] at e;cases e
 ·rintro ⟨r,e⟩;have hr:r<l.length:=by
   apply M7;intro z;rw [B3,J1 (by lia)] at e
   cases e
  exact ⟨f r,by rw [(h.at_ r hr).2];exact e⟩
theorem EmbO.set {f:Nat->Nat} {l l':La} (h:EmbO f l l') {r:Nat} (hr:r<l.length) (o:Option Int):EmbO f (l.set r o) (l'.set (f r) o):=by
 refine ⟨fun r' hr'=>?_,fun a b ha hb=>h.inj a b (by rwa [P1] at ha) (by rwa [P1] at hb),fun j hj=>?_⟩
 ·rw [P1] at hr' ⊢;refine ⟨(h.at_ r' hr').1,?_⟩;rw [qCP,qCP];by_cases e:r=r'
  ·subst e;rw [if_pos ⟨rfl,(h.at_ r hr).1⟩,if_pos ⟨rfl,hr⟩]
  ·rw [if_neg fun z=>e (h.inj r r' hr hr' z.1),if_neg fun z=>e z.1];exact (h.at_ r' hr').2
 ·rw [P1] at hj;rw [qCP,if_neg fun z=>hj r hr z.1];exact h.off j hj
section
variable {Af:List (List Int)} {wA sA wB sB:List Int}
def qXH (Af:List (List Int)) (f:Nat->Nat) (wA sA wB sB:List Int):Prop:=∀ r w,r<sA.length->w<Af.length->¬ sA.getD r 0<wA.getD w 0->¬ sB.getD (f r) 0<wB.getD w 0
def mapM (f:Nat->Nat) (m:Mo):Mo:=⟨m.dk,m.wk,(f m.rm.toNat:Int)⟩
theorem qUS {f:Nat->Nat} {l l':La} {m:Mo} (h:EmbO f l l') (ll:l.length=sA.length) (ll':l'.length=sB.length) (fit:qXH Af f wA sA wB sB) (hm:m ∈ nxO Af wA sA l):mapM f m ∈ nxO Af wB sB l'/\EmbO f (beO l m) (beO l' (mapM f m)):=by
 obtain ⟨b1,b2,b3⟩:=qPU hm;have hr:m.rm.toNat<l.length:=by rw [ll];lia
 obtain ⟨c1,c2⟩:=h.at_ _ hr;have e:((f m.rm.toNat:Nat):Int).toNat=f m.rm.toNat:=F9 _;refine ⟨E6.mpr ⟨mem_prMo.mpr ⟨⟨by show (0:Int)<=(f m.rm.toNat:Int);lia,by show ((f m.rm.toNat:Nat):Int)<_;lia⟩,?_⟩,decide_eq_true ?_⟩,?_⟩
 ·obtain ⟨_,h2⟩:=mem_prMo.mp (E6.mp hm).1;exact h2
 ·cases hd:m.dk with
  | true=>
   obtain ⟨p1,p2,p3,p4⟩:=(qNP hd).mp b3;refine (qNP (m:=mapM f m) hd).mpr ⟨fun z=>p1 (h.mem.mp z),fun x hx=>h.mem.mpr (p2 x hx),?_,?_⟩
   ·show l'.getD ((f m.rm.toNat:Nat):Int).toNat none=none;rw [e,c2];exact p3
   ·show ¬ sB.getD ((f m.rm.toNat:Nat):Int).toNat 0<wB.getD m.wk.toNat 0;rw [e];have:=b2 hd;exact fit _ _ (by lia) (by lia) p4
  | false=>
   obtain ⟨x,p⟩:=(qSM hd).mp b3;refine (qSM (m:=mapM f m) hd).mpr ⟨x,?_⟩;show l'.getD ((f m.rm.toNat:Nat):Int).toNat none=some x;rw [e,c2];exact p
 ·have:=h.set hr m.res;unfold beO;show EmbO f (l.set m.rm.toNat m.res) (l'.set ((f m.rm.toNat:Nat):Int).toNat (mapM f m).res);rw [e];exact this
theorem qX5 {f:Nat->Nat} {l s:La} {ms:List Mo} (R:RunO Af wA sA l ms s):∀ {l':La},EmbO f l l'->l.length=sA.length->l'.length=sB.length->qXH Af f wA sA wB sB->∃ ms' s',RunO Af wB sB l' ms' s'/\dosO ms'=dosO ms/\EmbO f s s':=by
 induction R with
 | nil=>intro l' h _ _ _;exact ⟨[],l',.nil,rfl,h⟩
 | @cons l s m ms hm _ ih=>
  intro l' h ll ll' fit;obtain ⟨h1,h2⟩:=qUS h ll ll' fit hm;obtain ⟨ms',s',r1,r2,r3⟩:=ih h2 (by unfold beO;rw [P1];exact ll) (by unfold beO;rw [P1];exact ll') fit
  refine ⟨mapM f m::ms',s',.cons h1 r1,?_,r3⟩;have e1:dosO (mapM f m::ms')=dosO [mapM f m]+dosO ms':=qGM [mapM f m] ms';have e2:dosO (m::ms)=dosO [m]+dosO ms:=qGM [m] ms;rw [e1,e2,r2,qF2,qF2]
  rfl
theorem qYT {f:Nat->Nat} (lt:∀ r,r<sA.length->f r<sB.length) (inj:∀ r r',r<sA.length->r'<sA.length->f r=f r'->r=r'):EmbO f (l0 sA) (l0 sB):=by
 have no:∀ (s:List Int) j,(l0 s).getD j none=none:=fun s j=>by
  unfold l0;rw [B3,q9]
  split <;> rfl
 have la:(l0 sA).length=sA.length:=F1;exact ⟨fun r hr=>⟨by show f r<(l0 sB).length;rw [show (l0 sB).length=sB.length from F1];exact lt r (by lia),by rw [no,no]⟩,fun a b ha hb=>inj a b (by lia) (by lia),fun j _=>no _ j⟩
end
def StpO (Af:List (List Int)) (wides sizes Ad:List Int) (v:Int):Prop:=
 (v=1000/\∀ ms s,RunO Af wides sizes (l0 sizes) ms s->¬ ∀ x ∈ Ad,some x ∈ s)\/
 (v<=1000/\(∃ ms s,RunO Af wides sizes (l0 sizes) ms s/\(∀ x ∈ Ad,some x ∈ s)/\(dosO ms:Int)=v)/\∀ ms s,RunO Af wides sizes (l0 sizes) ms s->(∀ x ∈ Ad,some x ∈ s)->v<=(dosO ms:Int))
theorem StpO.le {Af:List (List Int)} {wA sA wB sB Ad:List Int} {a b:Int} (hA:StpO Af wA sA Ad a) (hB:StpO Af wB sB Ad b) (f:Nat->Nat) (lt:∀ r,r<sA.length->f r<sB.length) (inj:∀ r r',r<sA.length->r'<sA.length->f r=f r'->r=r') (fit:qXH Af f wA sA wB sB):b<=a:=by
 have b1000:b<=1000:=by
  rcases hB with ⟨e,_⟩ | ⟨e,_⟩ <;> lia
 rcases hA with ⟨e,_⟩ | ⟨_,⟨ms,s,R,ha,e⟩,_⟩
 ·lia
 ·obtain ⟨ms',s',R',ed,E⟩:=qX5 R (qYT lt inj) F1 F1 fit;have ha':∀ x ∈ Ad,some x ∈ s':=fun x hx=>E.mem.mpr (ha x hx);rcases hB with ⟨_,no⟩ | ⟨_,_,le⟩
  ·exact absurd ha' (no ms' s' R')
  ·have:=le ms' s' R' ha';rw [ed] at this
   lia
noncomputable def lv (L:List Int) (x:Int):Int:=(L[x.toNat]?).getD 0
structure Lev (Af:List (List Int)) (L:List Int):Prop where
 len:L.length=Af.length
 at_:∀ (i:Nat) zs,Af[i]?=some zs->∃ l,L[i]?=some l/\0<=l/\l<=(i:Int)/\(∀ y ∈ zs,lv L y+1<=l)/\(l=0\/∃ y ∈ zs,lv L y+1=l)
structure Fd (n:Nat) (L:List Int) (S:Int->Prop) (fs:List Int):Prop where
 len:fs.length=n
 at_:∀ w:Nat,w<n->(S w->fs[w]?=some (lv L w))/\(¬ S w->fs[w]?=some 0)
structure CntX (n:Nat) (cs:List Int) (seen:List Int):Prop where
 len:cs.length=n
 at_:∀ x:Nat,x<n->cs[x]?=some ((seen.count (x:Int):Nat):Int)
structure YNa (K:PySem.W.Frag) (C:Addr):Prop where
 Af:qPD K C "net"
 Aa:qPD K C "rooms"
 made:qPD K C "made"
 stands:qPD K C "stands"
noncomputable def yfs (a:Addr) (Aa:Int) (lm ls:Addr):List (Str × V):=putF "stands" (.ref ls) (putF "made" (.ref lm) (putF "rooms" (.int Aa) (putF "net" (.ref a) [])))
structure YardAt (C:Addr) (H:Hp) (y a lm ls:Addr) (Af:List (List Int)) (Aa:Int) (ms:List Mv) (sts:List (List Int)):Prop where
 obj:∃ dx,H y=some (.ins C dx (yfs a Aa lm ls))
 nat:NetAt H a Af
 wf:WFn Af
 n400:Af.length<=400
 r0:0<=Aa
 r62:Aa<=62
 made:PlanAt H lm ms
 ok:MvOk Af ms
 len:ms.length<=10000
 stands:qV2 H ls ([]::sts)
 play:Play Af Aa [] ms sts .non
 ne:lm ≠ ls
noncomputable def off (n:Nat):Nat->Nat
 | 0=>0
 | r+1=>off n r+(n - r)
noncomputable abbrev keyOf (s:Nat × Nat):List KI:=[some (Q0 (s.1:Int)),some (Q0 (s.2:Int))]
structure NumP (rs:List Addr) (ss:List (Nat × Nat)) (j:Nat) (ps:List (List KI × Addr × V)):Prop where
 keys:ps.map (·.1)=(ss.take j).map keyOf
 at_:∀ (k:Nat) (s:Nat × Nat),k<j->ss[k]?=some s->∃ a,ps[k]?=some (keyOf s,a,.int (k:Int))
noncomputable def qWZ (ins:List (Int × Int)) (x:Int):Option Int:=(ins.find? fun q=>decide (q.1=x)).map (·.2)
noncomputable def qZK (ins:List (Int × Int)) (i:Nat):Nat:=((O7 i).filter fun (x:Nat)=>(qWZ ins (x:Int)).isNone).length
noncomputable def numO (m:Nat) (ins:List (Int × Int)) (x:Nat):Int:=match qWZ ins (x:Int) with | some v=>v | none=>((m+qZK ins x:Nat):Int)
structure InsAt (H:Hp) (i:Addr) (ins:List (Int × Int)):Prop where
 at_:∃ rs:List Addr,qaG H i (rs.map V.ref)/\Paired (fun r (q:Int × Int)=>H r=some (.tup [.int q.1,.int q.2])) rs ins
 nodup:(ins.map (·.1)).Nodup
structure InsOk (m:Nat) (other:List (List Int)) (k:Nat) (ins:List (Int × Int)) (fs:List Int):Prop where
 st:∀ q ∈ ins,(0<=q.1/\q.1<(k:Int))/\other[q.1.toNat]?=some []/\0<=q.2/\q.2<(m:Int)
 nd1:(ins.map (·.1)).Nodup
 nd2:(ins.map (·.2)).Nodup
 fr:fs.Nodup
 fin:∀ x ∈ fs,(0<=x/\x<(m:Int))/\x ∉ ins.map (·.2)
 len:ins.length<=k
noncomputable def pm (m:Mv):Int:=if m.1 = "do" then 1 else -1
noncomputable def peak:Int->List Mv->Int
 | n,[]=>n
 | n,m::ms=>max n (peak (n+pm m) ms)
theorem Run.app {Af:List (List Int)} {Aa:Int} {s t u:List Int} {a b:List Mv} (h:Run Af Aa s a t) (k:Run Af Aa t b u):Run Af Aa s (a++b) u:=by
 induction h with
 | nil=>exact k
 | do_ h1 h2 h3 h4 h5 _ ih=>exact .do_ h1 h2 h3 h4 h5 (ih k)
 | clear h1 _ ih=>exact .clear h1 (ih k)
noncomputable def less (th s:List Int):List Int:=s.filter fun x=>decide (x ∉ th)
noncomputable def qa2 (th:List Int) (ms:List Mv):List Mv:=ms.filter fun m=>decide (m.2 ∉ th)
noncomputable def pbGo (num:Int->Int) (jn:Int->Bool) (pl:Int->List Mv):List Int->List Mv->List Mv
 | _,[]=>[]
 | th,m::ms=>if m.1 = "clear" then ("clear",num m.2)::pbGo num jn pl (th.filter fun x=>decide (x ≠ num m.2)) ms else (if jn m.2 then qa2 th (pl (num m.2)) else [("do",num m.2)])++pbGo num jn pl (th++[num m.2]) ms
structure ThOk (n:Nat) (num:Int->Int) (th s:List Int):Prop where
 perm:th.Perm (s.map num)
 rise:Rise (n:Int) s
structure TopO (Af:List (List Int)) (zs:List Int):Prop where
 nodup:zs.Nodup
 in_:∀ x ∈ zs,0<=x/\x<(Af.length:Int)
 bef:∀ (p:Nat) (o:Int),zs[p]?=some o->∀ x ∈ nd Af o,x ∈ zs.take p
 aft:∀ (p:Nat) (o:Int),zs[p]?=some o->p+1<zs.length->later Af zs (p+1) o
structure Begun (Af:List (List Int)) (some_ ord:List Int):Prop where
 nodup:ord.Nodup
 sub:∀ x ∈ ord,x ∈ some_
 bef:∀ (p:Nat) (o:Int),ord[p]?=some o->∀ x ∈ nd Af o,x ∈ ord.take p
noncomputable def ndOf (Af:List (List Int)) (Ad:List Int):List Int:=by
 classical
 exact if h:∃ zs,qV3 Af Ad zs then A66 h else []
noncomputable def qVE (Af:List (List Int)) (w:Int):List Mv:=qY5 Af [w] (ndOf Af [w])
def numF (m:Nat) (ins:List (Int × Int)) (x:Int):Int:=numO m ins x.toNat
noncomputable def qa8 (ins:List (Int × Int)) (x:Int):Bool:=(qWZ ins x).isSome
noncomputable def qaL (one:List (List Int)) (ins:List (Int × Int)) (ms:List Mv):List Mv:=pbGo (numF one.length ins) (qa8 ins) (qVE one) [] ms
noncomputable def qZX (one:List (List Int)) (ins:List (Int × Int)):Int:=(topD (some 1) (ins.map fun q=>peak 0 (qVE one q.2))).getD 0
noncomputable def qaK (one:List (List Int)) (ins:List (Int × Int)) (ms:List Mv):Int:=match ins with | []=>peak 0 ms | _::_=>qZX one ins+peak 0 ms - 1
structure BehIn (H:Hp) (a b i l:Addr) (one other:List (List Int)) (ins:List (Int × Int)) (ms:List Mv) (st:List Int):Prop where
 gA:NetAt H a one
 wf1:WFn one
 gB:NetAt H b other
 wf2:WFn other
 gI:InsAt H i ins
 ok:∃ fs,InsOk one.length other other.length ins fs
 plan:PlanAt H l ms
 mv:MvOk other ms
 len:ms.length<=400
 run:Run other (other.length:Int) [] ms st
 o1:1<=one.length
 o2:one.length<=60
 o3:1<=other.length
 o4:other.length<=60
structure TwoIn (H:Hp) (a b i:Addr) (one other:List (List Int)) (ins:List (Int × Int)):Prop where
 gA:NetAt H a one
 wf1:WFn one
 gB:NetAt H b other
 wf2:WFn other
 gI:InsAt H i ins
 ok:∃ fs,InsOk one.length other other.length ins fs
 o1:1<=one.length
 o2:one.length<=40
 o3:1<=other.length
 o4:other.length<=7
theorem qXM {Af:List (List Int)} {st:List Int} {Aa:Int} {Ac:Str} {wk:Int} (hw:Ac = "do"\/Ac = "clear") (e:wd Af st Aa (Ac,wk)=.non):(Ac = "do"->wk ∉ st/\(∀ y ∈ nd Af wk,y ∈ st)/\(st.length:Int)<Aa)/\(Ac = "clear"->wk ∈ st):=by
 rcases hw with d | d
 ·subst d;refine ⟨fun _=>?_,fun z=>absurd z.symm qAG⟩;have e':qDY ((Af[wk.toNat]?).getD []) st Aa wk=.non:=by
   have:=e;unfold wd qG3 at this;rw [if_pos rfl] at this;exact this
  unfold qDY at e'
  split at e'
  ·cases e'
  rename_i hn
  split at e'
  ·rename_i hall
   split at e'
   ·cases e'
   ·exact ⟨hn,hall,by lia⟩
  ·cases e'
 ·subst d;refine ⟨fun z=>absurd z qAG,fun _=>?_⟩;have e':qDZ st wk=.non:=by
   have:=e;unfold wd qG3 at this;rw [if_neg (show ¬ B6 "clear" = B6 "do" from qAG)] at this
   exact this
  unfold qDZ at e'
  split at e'
  ·rename_i hin;exact hin
  ·cases e'
theorem qUX {n:Nat} {st st':List Int} {Ac:Str} {wk:Int} (r:Rise (n:Int) st) (hw:Ac = "do"\/Ac = "clear") (w0:0<=wk) (w1:wk<(n:Int)) (hd:Ac = "do"->wk ∉ st) (b:Beh st st' Ac wk):Rise (n:Int) st':=by
 rcases hw with d | d
 ·obtain ⟨p1,s1⟩:=b.1 d;refine ⟨qHA s1 (p1.nodup_iff.mpr (qKL r.nodup (hd d))),fun x hx=>?_⟩;rcases A7.mp (p1.mem_iff.mp hx) with q | q
  ·exact r.in_ x q
  ·rw [A6.mp q];exact ⟨w0,w1⟩
 ·rw [b.2 d];exact ⟨r.up.filter _,fun x hx=>r.in_ x (E6.mp hx).1⟩
structure Ord (Af:List (List Int)) (Ad os:List Int):Prop where
 nodup:os.Nodup
 in_:∀ w ∈ os,0<=w/\w<(Af.length:Int)
 has:∀ (i:Nat) (w y:Int),os[i]?=some w->y ∈ nd Af w->y ∈ os.take i
 used:∀ (i:Nat) (w:Int),os[i]?=some w->w ∈ Ad\/later Af os (i+1) w
 ask:∀ x ∈ Ad,x ∈ os
section
variable {Af:List (List Int)} {Ad os:List Int}
end
structure Span (Af:List (List Int)) (Ad os:List Int) (K:Nat):Prop where
 near:∀ (q r:Nat) (x v:Int),os[q]?=some x->os[r]?=some v->x ∈ nd Af v->r<=q+K
 last:∀ x ∈ Ad,∀ q:Nat,os[q]?=some x->q+1=os.length
structure Told (Af:List (List Int)) (R:Int) (ms:List Mv):Prop where
 run:Run Af R [] ms [(Af.length:Int) - 1]
 top:peak 0 ms=R
 ok:MvOk Af ms
 once:(qJI ms).Perm (qBD 0 (Af.length:Int))
 len:ms.length<=2 * Af.length
noncomputable def mskN (zs:List Int):Nat:=(zs.map fun z=>2 ^ z.toNat).sum
noncomputable def cntN (n b:Nat):Nat:=((O7 n).map fun k=>b / 2 ^ k % 2).sum
def clrb (b k:Nat):Nat:=b - 2 ^ k * (b / 2 ^ k % 2)
noncomputable def nxt (Af:List (List Int)) (k:Nat):Nat:=mskN ((Af[k]?).getD [])
def can (Af:List (List Int)) (Aa:Int) (b k:Nat):Prop:=(cntN Af.length b:Int)<Aa/\k<Af.length/\b &&& nxt Af k=nxt Af k
inductive Rm (Af:List (List Int)) (Aa:Int):Nat->Nat->Prop
 | zero:Rm Af Aa 0 0
 | clr {m b k:Nat}:Rm Af Aa m b->k<Af.length->Rm Af Aa m (clrb b k)
 | do_ {m b k:Nat}:Rm Af Aa m b->can Af Aa b k->Rm Af Aa (m+1) (b ||| 2 ^ k)
def Mn (Af:List (List Int)) (Aa:Int) (m b:Nat):Prop:=Rm Af Aa m b/\∀ m',m'<m->¬ Rm Af Aa m' b
theorem qQQ {α:Type} [DecidableEq α]:∀ {l r:List α},l.Nodup->(∀ x ∈ l,x ∈ r)->l.length<=r.length
 | [],r,_,_=>F0 _
 | a::l,r,nd,h=>by
  have nd':=P0.mp nd;have ha:=h a (G7 ..);have:=qQQ (r:=r.erase a) nd'.2 fun x hx=>(c8 (fun (e:x=a)=>nd'.1 (e ▸ hx))).mpr (h x (A9 _ hx));rw [p9 ha] at this;have:0<r.length:=Y9 ha;rw [E3]
  lia
theorem qMY {ks:List Nat} {n:Nat} (nd:ks.Nodup) (h:∀ b ∈ ks,b<n):ks.length<=n:=by
 have:=qQQ (r:=O7 n) nd fun x hx=>L0.mpr (h x hx)
 rwa [A53] at this
structure FdC (Af:List (List Int)) (Aa:Int) (many:Nat) (ks:List Nat) (f:Nat->Nat):Prop where
 nd:ks.Nodup
 snd:∀ b ∈ ks,f b<=many/\Mn Af Aa (f b) b
 zero:0 ∈ ks
 full:∀ m,m<many->∀ b,Rm Af Aa m b->b ∈ ks
section
variable {Af:List (List Int)} {Aa:Int} {many:Nat} {ks cl ly:List Nat} {f:Nat->Nat} {at_ wk:Nat}
structure A1 (Af:List (List Int)) (Aa:Int) (many:Nat) (ks:List Nat) (f:Nat->Nat) (cl:List Nat) (at_ wk:Nat):Prop where
 fd:FdC Af Aa many ks f
 dos:∀ m b k,m+1=many->Rm Af Aa m b->can Af Aa b k->b ||| 2 ^ k ∈ ks
 clm:∀ b,b ∈ cl ↔ b ∈ ks/\f b=many
 nd:cl.Nodup
 done:∀ i b,cl[i]?=some b->i<at_->∀ k,k<Af.length->clrb b k ∈ ks
 dk:∀ b,cl[at_]?=some b->∀ k,k<wk->clrb b k ∈ ks
structure A2 (Af:List (List Int)) (Aa:Int) (many:Nat) (ks:List Nat) (f:Nat->Nat) (cl ly:List Nat) (at_ wk:Nat):Prop where
 fd:FdC Af Aa (many+1) ks f
 clm:∀ b,b ∈ cl ↔ b ∈ ks/\f b=many
 lym:∀ b,b ∈ ly ↔ b ∈ ks/\f b=many+1
 nd:ly.Nodup
 done:∀ i b,cl[i]?=some b->i<at_->∀ k,can Af Aa b k->b ||| 2 ^ k ∈ ks
 dk:∀ b,cl[at_]?=some b->∀ k,k<wk->can Af Aa b k->b ||| 2 ^ k ∈ ks
structure Come (Af:List (List Int)) (Aa:Int) (ks:List Nat) (f:Nat->Nat):Prop where
 nd:ks.Nodup
 snd:∀ b ∈ ks,Mn Af Aa (f b) b
 all:∀ m b,Rm Af Aa m b->b ∈ ks
end
theorem qRU {k:Nat}:∀ {st:List Int},(∀ x ∈ st,(k:Int)<=x)->∃ a,mskN st=2 ^ k * a
 | [],_=>⟨0,rfl⟩
 | z::st,h=>by
  obtain ⟨a,ha⟩:=qRU (st:=st) fun x hx=>h x (A9 _ hx);have hz:=h z (by simp)
  refine ⟨2 ^ (z.toNat - k)+a,?_⟩;show 2 ^ z.toNat+mskN st=_;rw [ha,Nat.mul_add,<- Nat.pow_add,show k+(z.toNat - k)=z.toNat by lia]
theorem qRW:∀ {st:List Int},st.Pairwise (·<·)->(∀ x ∈ st,0<=x)->∀ j:Nat,(mskN st).testBit j=decide ((j:Int) ∈ st)
 | [],_,_,j=>by show (0:Nat).testBit j=_;simp
 | z::st,up,nn,j=>by
  have up':=P4.mp up;have hz:=nn z (by simp)
  obtain ⟨a,ha⟩:=qRU (k:=z.toNat+1) (st:=st) fun x hx=>by have:=up'.1 x hx;lia
  have ih:=qRW up'.2 (fun x hx=>nn x (A9 _ hx)) j;have e:mskN (z::st)=2 ^ (z.toNat+1) * a+2 ^ z.toNat:=by show 2 ^ z.toNat+mskN st=_;rw [ha,Nat.add_comm]
  rw [e,Nat.testBit_two_pow_mul_add a (Nat.pow_lt_pow_right (by decide) (by lia)) j]
  by_cases c:j<z.toNat+1
  ·rw [if_pos c,Nat.testBit_two_pow];refine decide_eq_decide.mpr ⟨fun h=>?_,fun h=>?_⟩
   ·rw [B7];left;lia
   ·rcases B7.mp h with h | h
    ·lia
    ·have:=up'.1 _ h;lia
  ·rw [if_neg c];rw [ha,Nat.testBit_two_pow_mul] at ih;have:decide (j >= z.toNat+1)=true:=decide_eq_true (by lia)
   rw [this,A35] at ih;rw [ih];refine decide_eq_decide.mpr ⟨fun h=>A9 _ h,fun h=>?_⟩;rcases B7.mp h with h | h
   ·lia
   ·exact h
theorem Rise.nn {n:Int} {st:List Int} (r:Rise n st):∀ x ∈ st,0<=x:=fun x hx=>(r.in_ x hx).1
theorem qEU {n:Int} {st:List Int} (r:Rise n st) (j:Nat):(mskN st).testBit j=decide ((j:Int) ∈ st):=qRW r.up r.nn j
theorem qRV {n:Int} {st st':List Int} (r:Rise n st) (r':Rise n st') (h:mskN st=mskN st'):st=st':=by
 refine qXN r.up r'.up fun x=>?_
 constructor
 ·intro hx;have e:=qEU r x.toNat;rw [h,qEU r' x.toNat] at e;have hx0:=r.nn x hx;rw [show ((x.toNat:Nat):Int)=x by lia,decide_eq_true hx] at e
  exact of_decide_eq_true e
 ·intro hx;have e:=qEU r x.toNat;rw [h,qEU r' x.toNat] at e;have hx0:=r'.nn x hx;rw [show ((x.toNat:Nat):Int)=x by lia,decide_eq_true hx] at e
  exact of_decide_eq_true e.symm
theorem qNQ {st:List Int} (nd:st.Nodup) {k:Int} (h:k ∈ st):st.Perm (k::st.filter fun x=>decide (x ≠ k)):=by
 have e:(st.filter fun x=>decide (x ≠ k))=st.erase k:=by
  rw [nd.erase_eq_filter];exact List.filter_congr fun x _=>by simp [bne,BEq.beq]
 rw [e];exact List.perm_cons_erase h
noncomputable def insL:List Int->Int->List Int
 | [],k=>[k]
 | x::r,k=>if k<x then k::x::r else x::insL r k
theorem qEF:∀ (st:List Int) (k:Int),(insL st k).Perm (st++[k])
 | [],k=>.refl _
 | x::r,k=>by
  unfold insL
  split
  ·exact (A00 (l₁:=x::r) (l₂:=[k])).symm
  ·exact (qEF r k).cons x
theorem mem_insL {st:List Int} {k x:Int}:x ∈ insL st k ↔ x ∈ st\/x=k:=by
 rw [(qEF st k).mem_iff,A7,A6]
theorem qSC:∀ {st:List Int} {k:Int},st.Pairwise (·<=·)->(insL st k).Pairwise (·<=·)
 | [],k,_=>by simp [insL]
 | x::r,k,h=>by
  have h':=P4.mp h;unfold insL
  split
  ·rename_i c
   refine P4.mpr ⟨fun y hy=>?_,h⟩;rcases B7.mp hy with e | e
   ·lia
   ·have:=h'.1 y e;lia
  ·rename_i c
   refine P4.mpr ⟨fun y hy=>?_,qSC h'.2⟩;rcases mem_insL.mp hy with e | e
   ·exact h'.1 y e
   ·lia
theorem qKW (st:List Int) (k:Int):(insL st k).length=st.length+1:=by rw [(qEF st k).length_eq,A4];rfl
noncomputable def behL (st:List Int) (m:Mv):List Int:=if m.1=B6 "do" then insL st m.2 else st.filter fun x=>decide (x ≠ m.2)
theorem qPC {n:Int} {st:List Int} {m:Mv} (r:Rise n st) (hw:m.1 = "do"\/m.1 = "clear"):Beh st (behL st m) m.1 m.2:=by
 refine ⟨fun e=>?_,fun e=>?_⟩
 ·unfold behL;rw [if_pos e];exact ⟨qEF _ _,qSC (r.up.imp fun h=>k9 h)⟩
 ·unfold behL;rw [if_neg (fun z=>by rw [e] at z;exact qAG z)]
theorem qYZ {n:Int} {st st':List Int} {m:Mv} (r:Rise n st) (hw:m.1 = "do"\/m.1 = "clear") (h:Beh st st' m.1 m.2):st'=behL st m:=Beh.one hw h (qPC r hw)
section
variable {Af:List (List Int)} {Aa:Int}
theorem due_iff {st:List Int} {m:Mv}:m ∈ qCR Af st Aa ↔ ((m.1 = "do"\/m.1 = "clear")/\0<=m.2/\m.2<(Af.length:Int))/\(m.1 = "do"->m.2 ∉ st/\(∀ y ∈ nd Af m.2,y ∈ st)/\(st.length:Int)<Aa)/\(m.1 = "clear"->m.2 ∈ st):=by
 unfold qCR;rw [E6,decide_eq_true_eq]
 constructor
 ·rintro ⟨h1,h2⟩;have a:=qP5 h1;exact ⟨a,qXM a.1 h2⟩
 ·rintro ⟨⟨h1,h2,h3⟩,h4,h5⟩;obtain ⟨Ac,wk⟩:=m;refine ⟨?_,?_⟩
  ·unfold qL1 qIC;rw [A7,E2,E2];rcases h1 with e | e
   ·exact .inl ⟨wk.toNat,L0.mpr (by dsimp only at h2 h3;lia),by dsimp only at e h2 ⊢;rw [e];congr 1;lia⟩
   ·exact .inr ⟨wk.toNat,L0.mpr (by dsimp only at h2 h3;lia),by dsimp only at e h2 ⊢;rw [e];congr 1;lia⟩
  ·show qG3 _ st Aa Ac wk=.non;unfold qG3;rcases h1 with e | e
   ·obtain ⟨a,b,c⟩:=h4 e;dsimp only at e;rw [if_pos e];unfold qDY;rw [if_neg a,if_pos (show ∀ y ∈ (Af[wk.toNat]?).getD [],y ∈ st from b),if_neg (by lia)]
   ·have a:=h5 e;dsimp only at e;rw [if_neg (fun z=>by rw [e] at z;exact qAG z)]
    unfold qDZ;rw [if_pos a]
inductive Pt (Af:List (List Int)) (Aa:Int):Nat->List Int->Prop
 | zero:Pt Af Aa 0 []
 | step {t:Nat} {st:List Int} {m:Mv}:Pt Af Aa t st->m ∈ qCR Af st Aa->Pt Af Aa (t+1) (behL st m)
theorem Pt.rise {t:Nat} {st:List Int} (h:Pt Af Aa t st):Rise (Af.length:Int) st:=by
 induction h with
 | zero=>exact .nil
 | step _ hm ih=>
  obtain ⟨⟨a,b,c⟩,d,e⟩:=due_iff.mp hm;exact qUX ih a b c (fun z=>(d z).1) (qPC ih a)
theorem qLC {st:List Int} (r:Rise (Af.length:Int) st) {m:Mv} (hm:m ∈ qCR Af st Aa):(m.1 = "do"/\(behL st m).length=st.length+1)\/(m.1 = "clear"/\(behL st m).length+1=st.length):=by
 obtain ⟨⟨a,b,c⟩,d,e⟩:=due_iff.mp hm;rcases a with a | a
 ·refine .inl ⟨a,?_⟩;unfold behL;rw [if_pos a,qKW]
 ·refine .inr ⟨a,?_⟩;unfold behL;rw [if_neg (fun z=>by rw [a] at z;exact qAG z)]
  have:=(qNQ r.nodup (e a)).length_eq;rw [E3] at this
  lia
def Mt (Af:List (List Int)) (Aa:Int) (t:Nat) (st:List Int):Prop:=Pt Af Aa t st/\∀ u,u<t->¬ Pt Af Aa u st
theorem Mt.one {t u:Nat} {st:List Int} (h:Mt Af Aa t st) (h':Mt Af Aa u st):t=u:=by
 rcases Z5 t u with c | c | c
 ·exact absurd h.1 (h'.2 t c)
 ·exact c
 ·exact absurd h'.1 (h.2 u c)
structure BF (Af:List (List Int)) (Aa:Int) (t:Nat) (ks due ly:List (List Int)) (f:List Int->Nat) (i k:Nat):Prop where
 nd:ks.Nodup
 snd:∀ s ∈ ks,∃ u,u<=t+1/\Mt Af Aa u s/\2 * f s=u+s.length
 full:∀ u s,u<=t->Pt Af Aa u s->s ∈ ks
 duem:∀ s,s ∈ due ↔ Mt Af Aa t s
 lym:∀ s,s ∈ ly ↔ s ∈ ks/\Mt Af Aa (t+1) s
 done:∀ j s,due[j]?=some s->j<i->∀ m ∈ qCR Af s Aa,behL s m ∈ ks
 dk:∀ s,due[i]?=some s->∀ m ∈ (qCR Af s Aa).take k,behL s m ∈ ks
theorem BF.start:BF Af Aa 0 [[]] [[]] [] (fun _=>0) 0 0:=by
 have z:∀ s,Pt Af Aa 0 s->s=[]:=fun s h=>by cases h;rfl
 have m0:Mt Af Aa 0 []:=⟨.zero,fun u hu=>absurd hu (P3 _)⟩;refine ⟨by simp,fun s hs=>?_,fun u s hu p=>?_,fun s=>?_,fun s=>?_,fun j s _ hj=>absurd hj (P3 _),fun s _ m hm=>by simp at hm⟩
 ·rw [A6.mp hs];exact ⟨0,by lia,m0,rfl⟩
 ·have:u=0:=by lia
  subst this;rw [z s p];simp
 ·rw [A6];exact ⟨fun e=>e ▸ m0,fun h=>z s h.1⟩
 ·constructor
  ·intro h;cases h
  ·rintro ⟨h,m⟩;rw [A6.mp h] at m;exact absurd (Mt.one m m0) (by lia)
section
variable {t:Nat} {ks due ly:List (List Int)} {f:List Int->Nat} {i k:Nat}
theorem BF.hit (h:BF Af Aa t ks due ly f i k) {s:List Int} {m:Mv} (hs:due[i]?=some s) (hm:(qCR Af s Aa)[k]?=some m) (hk:behL s m ∈ ks):BF Af Aa t ks due ly f i (k+1):=by
 refine ⟨h.nd,h.snd,h.full,h.duem,h.lym,h.done,fun s' e m' hm'=>?_⟩;rw [hs] at e;cases e;rw [D7,hm,D5,A7,A6] at hm';rcases hm' with z | z
 ·exact h.dk s hs m' z
 ·rw [z];exact hk
noncomputable def qHG (f:List Int->Nat) (x:List Int) (v:Nat):List Int->Nat:=fun y=>if y=x then v else f y
theorem qJZ (f:List Int->Nat) (x:List Int) (v:Nat):qHG f x v x=v:=if_pos rfl
theorem qHS {f:List Int->Nat} {x y:List Int} {v:Nat} {ks:List (List Int)} (h:y ∈ ks) (hx:x ∉ ks):qHG f x v y=f y:=if_neg fun e=>hx (by rw [<- e];exact h)
theorem qI1 {ks:List (List Int)} {x:List Int} (nd:ks.Nodup) (h:x ∉ ks):(ks++[x]).Nodup:=by
 rw [A52];exact ⟨nd,by simp,fun a ha b hb e=>h (by rw [A6.mp hb] at e;exact e ▸ ha)⟩
theorem BF.val (h:BF Af Aa t ks due ly f i k) {s:List Int} (hs:s ∈ due):s ∈ ks/\2 * f s=t+s.length:=by
 have m:=(h.duem s).mp hs;have hk:=h.full t s (A5 _) m.1;obtain ⟨u,_,mu,e⟩:=h.snd s hk;rw [Mt.one mu m] at e;exact ⟨hk,e⟩
theorem BF.add (h:BF Af Aa t ks due ly f i k) {s:List Int} {m:Mv} (hs:due[i]?=some s) (hm:(qCR Af s Aa)[k]?=some m) (hk:behL s m ∉ ks) :
  BF Af Aa t (ks++[behL s m]) due (ly++[behL s m]) (qHG f (behL s m) (f s+if m.1=B6 "do" then 1 else 0)) i (k+1):=by
 have hsd:=C4 hs;have ms:=(h.duem s).mp hsd;obtain ⟨hsk,ev⟩:=h.val hsd;have md:=C4 hm;have M1:Mt Af Aa (t+1) (behL s m):=⟨.step ms.1 md,fun u hu p=>hk (h.full u _ (by lia) p)⟩
 refine ⟨qI1 h.nd hk,fun x hx=>?_,fun u x hu p=>A7.mpr (.inl (h.full u x hu p)),h.duem,fun x=>?_,fun j x e hj m' hm'=>A7.mpr (.inl (h.done j x e hj m' hm')),fun x e m' hm'=>?_⟩
 ·rcases A7.mp hx with z | z
  ·rw [qHS z hk];exact h.snd x z
  ·rw [A6.mp z,qJZ];refine ⟨t+1,A5 _,M1,?_⟩;rcases qLC ms.1.rise md with ⟨w,l⟩ | ⟨w,l⟩
   ·rw [if_pos w];lia
   ·rw [if_neg (fun z=>by rw [w] at z;exact qAG z)];lia
 ·rw [A7,A7,A6,h.lym x]
  constructor
  ·rintro (z | z)
   ·exact ⟨.inl z.1,z.2⟩
   ·exact ⟨.inr z,z ▸ M1⟩
  ·rintro ⟨z | z,e⟩
   ·exact .inl ⟨z,e⟩
   ·exact .inr z
 ·rw [hs] at e;cases e;rw [D7,hm,D5,A7,A6] at hm';rcases hm' with z | z
  ·exact A7.mpr (.inl (h.dk s hs m' z))
  ·rw [z];simp
theorem BF.next (h:BF Af Aa t ks due ly f i k) {s:List Int} (hs:due[i]?=some s) (hk:(qCR Af s Aa).length<=k):BF Af Aa t ks due ly f (i+1) 0:=by
 refine ⟨h.nd,h.snd,h.full,h.duem,h.lym,fun j x e hj m hm=>?_,fun s _ m hm=>by simp at hm⟩
 by_cases ej:j=i
 ·subst ej;rw [hs] at e;cases e;exact h.dk s hs m (by rw [C2 hk];exact hm)
 ·exact h.done j x e (by lia) m hm
theorem BF.level (h:BF Af Aa t ks due ly f i k) (hi:due.length<=i):BF Af Aa (t+1) ks ly [] f 0 0:=by
 have full:∀ u s,u<=t+1->Pt Af Aa u s->s ∈ ks:=fun u s hu p=>by
  cases p with
  | zero=>exact h.full 0 [] (by lia) .zero
  | @step u st m p hm=>
   have hst:=h.full u st (by lia) p
   obtain ⟨v,hv,mv,_⟩:=h.snd st hst;have hvu:v<=u:=by
    apply M7;intro z;exact mv.2 u (by lia) p
   by_cases e:v=t
   ·subst e;obtain ⟨j,hj,ej⟩:=K0 ((h.duem st).mpr mv);exact h.done j st (by rw [A8 hj,ej]) (by lia) m hm
   ·exact h.full (v+1) _ (by lia) (.step mv.1 hm)
 refine ⟨h.nd,fun s hs=>?_,full,fun s=>?_,fun s=>?_,fun j s _ hj=>absurd hj (P3 _),fun s _ m hm=>by simp at hm⟩
 ·obtain ⟨u,hu,r⟩:=h.snd s hs;exact ⟨u,by lia,r⟩
 ·rw [h.lym s];exact ⟨fun z=>z.2,fun z=>⟨full _ _ (A5 _) z.1,z⟩⟩
 ·constructor
  ·intro z;cases z
  ·rintro ⟨hs,m⟩;obtain ⟨u,hu,mu,_⟩:=h.snd s hs;exact absurd (Mt.one mu m) (by lia)
structure Rch (Af:List (List Int)) (Aa:Int) (ks:List (List Int)) (f:List Int->Nat):Prop where
 nd:ks.Nodup
 snd:∀ s ∈ ks,∃ u,Mt Af Aa u s/\2 * f s=u+s.length
 all:∀ u s,Pt Af Aa u s->s ∈ ks
theorem BF.rch (h:BF Af Aa t ks [] [] f i k):Rch Af Aa ks f:=by
 have lt:∀ s ∈ ks,∃ u,u<t/\Mt Af Aa u s:=fun s hs=>by
  obtain ⟨u,hu,mu,_⟩:=h.snd s hs;have n1:u ≠ t:=fun e=>nomatch (h.duem s).mpr (e ▸ mu);have n2:u ≠ t+1:=fun e=>nomatch (h.lym s).mpr ⟨hs,e ▸ mu⟩;exact ⟨u,by lia,mu⟩
 refine ⟨h.nd,fun s hs=>let ⟨u,_,r⟩:=h.snd s hs;⟨u,r⟩,fun u s p=>?_⟩
 induction p with
 | zero=>exact h.full 0 [] (by lia) .zero
 | step p hm ih=>
  obtain ⟨v,hv,mv⟩:=lt _ ih;exact h.full (v+1) _ (by lia) (.step mv.1 hm)
theorem BF.len (h:BF Af Aa t ks due ly f i k):ks.length<=2 ^ Af.length:=by
 have rs:∀ s ∈ ks,Rise (Af.length:Int) s:=fun s hs=>let ⟨_,_,m,_⟩:=h.snd s hs;m.1.rise
 have nd:(ks.map mskN).Nodup:=by
  refine J5.mpr (h.nd.imp_of_mem fun {a b} ha hb hab e=>hab (qRV (rs a ha) (rs b hb) e))
 have:=qMY (n:=2 ^ Af.length) nd fun b hb=>by
  obtain ⟨s,hs,rfl⟩:=E2.mp hb;refine m7 _ fun j hj=>?_;rw [qEU (rs s hs)];refine decide_eq_false fun z=>?_;have:=((rs s hs).in_ _ z).2
  lia
 rwa [A0] at this
end
theorem Rch.le {ks:List (List Int)} {f:List Int->Nat} (h:Rch Af Aa ks f) {s:List Int} (hs:s ∈ ks) {t:Nat} (p:Pt Af Aa t s):2 * f s<=t+s.length:=by
 obtain ⟨u,m,e⟩:=h.snd s hs;have:u<=t:=by
  apply M7;intro z;exact m.2 t (by lia) p
 lia
end
theorem _root_.L2.hu2_of {k:Nat} {A:Around} (hr:Room k A):A.in1.units+1<cLine:=by
 have:=hr.units;show A.units+1+1<cLine
 lia
noncomputable def keyS (s:List Int):List KI:=s.map fun i=>some (Q0 i)
theorem qD6 (s:List Int):(keyS s).map kI=s.map V.int:=by unfold keyS;rw [P8];rfl
theorem qKS {s s':List Int} (h:keyS s=keyS s'):s=s':=by
 unfold keyS at h;exact List.map_inj_right (fun a b e=>A19 (D3 e)) |>.mp h
def Val3 (H:Hp) (v:V) (n:Nat):Prop:=∃ r x y,v=.ref r/\H r=some (.tup [.int (n:Int),x,y])
theorem Val3.same {H H':Hp} {v:V} {n:Nat} (h:Val3 H v n) (sm:Same H H'):Val3 H' v n:=let ⟨r,x,y,e,g⟩:=h;⟨r,x,y,e,sm _ _ g⟩
def Ent (H:Hp) (Ag:List (List KI × V)) (ks:List (List Int)) (f:List Int->Nat):Prop:=Paired (fun (kv:List KI × V) s=>kv.1=keyS s/\Val3 H kv.2 (f s)) Ag ks
section
variable {H H':Hp} {Ag:List (List KI × V)} {ks:List (List Int)} {f:List Int->Nat}
theorem Ent.same (h:Ent H Ag ks f) (sm:Same H H'):Ent H' Ag ks f:=Paired.mapP h fun _ _ z=>⟨z.1,z.2.same sm⟩
theorem Ent.val:∀ {Ag:List (List KI × V)} {ks:List (List Int)},Ent H Ag ks f->∀ {s:List Int},s ∈ ks->∃ v,valV Ag (keyS s)=some v/\Val3 H v (f s)
 | _,_,.nil,s,hs=>nomatch hs
 | _,_,.cons (a:=kv) (b:=s0) ⟨e,v3⟩ t,s,hs=>by
  by_cases c:s0=s
  ·subst c;exact ⟨kv.2,qBE e,v3⟩
  ·rw [qB7 (fun z=>c (qKS (e.symm.trans z)))];exact Ent.val t ((B7.mp hs).resolve_left fun z=>c z.symm)
theorem Ent.none:∀ {Ag:List (List KI × V)} {ks:List (List Int)},Ent H Ag ks f->∀ {s:List Int},s ∉ ks->valV Ag (keyS s)=none
 | _,_,.nil,s,hs=>rfl
 | _,_,.cons (a:=kv) (b:=s0) ⟨e,v3⟩ t,s,hs=>by
  rw [qB7 (fun z=>hs (by rw [qKS (e.symm.trans z)];simp))]
  exact Ent.none t fun z=>hs (A9 _ z)
theorem Ent.len (h:Ent H Ag ks f):Ag.length=ks.length:=B9 h
end
def StL (H:Hp) (rs:List Addr) (ss:List (List Int)):Prop:=Paired (fun (r:Addr) (s:List Int)=>H r=some (.tup (s.map V.int))) rs ss
theorem StL.same {H H':Hp} {rs:List Addr} {ss:List (List Int)} (h:StL H rs ss) (sm:Same H H'):StL H' rs ss:=Paired.mapP h fun _ _ z=>sm _ _ z
theorem StL.put {H:Hp} {rs:List Addr} {ss:List (List Int)} {d:Addr} {o u:HO} (h:StL H rs ss) (hd:H d=some o) (ho:∀ xs,o ≠ .tup xs):StL (Ah H d u) rs ss:=Paired.mapP h fun r s z=>by
 rw [qA7 (qCD z hd fun e=>ho _ e.symm)];exact z
theorem StL.snoc {H:Hp} {rs:List Addr} {ss:List (List Int)} {r:Addr} {s:List Int} (h:StL H rs ss) (g:H r=some (.tup (s.map V.int))):StL H (rs++[r]) (ss++[s]):=by
 induction h with
 | nil=>exact .cons g .nil
 | cons a _ ih=>exact .cons a ih
theorem MovL.putG {H:Hp} {rs:List Addr} {ms:List Mv} {d:Addr} {o u:HO} (h:MovL H rs ms) (hd:H d=some o) (ho:∀ xs,o ≠ .tup xs):MovL (Ah H d u) rs ms:=Paired.mapP h fun r s z=>by
 rw [qA7 (qCD z hd fun e=>ho _ e.symm)];exact z
theorem qGW:∀ a b c:List Int,HT.lexLt a b=false->HT.lexLt b c=false->HT.lexLt a c=false
 | [],[],c,_,h=>h
 | [],_::_,c,h,_=>by cases h
 | x::a,[],[],_,_=>rfl
 | x::a,[],_::_,_,h=>by cases h
 | x::a,y::b,[],_,_=>rfl
 | x::a,y::b,z::c,h1,h2=>by
  rw [HT.lexLt_cons] at h1 h2 ⊢;by_cases e1:x=y
  ·subst e1;rw [if_pos rfl] at h1;by_cases e2:x=z
   ·rw [if_pos e2] at h2 ⊢;exact qGW a b c h1 h2
   ·rw [if_neg e2] at h2 ⊢;exact h2
  ·rw [if_neg e1] at h1;have h1:=of_decide_eq_false h1;by_cases e2:y=z
   ·subst e2;rw [if_neg e1];exact decide_eq_false h1
   ·rw [if_neg e2] at h2;have h2:=of_decide_eq_false h2;rw [if_neg (by lia)]
    exact decide_eq_false (by lia)
theorem qOV:∀ a b:List Int,HT.lexLt a b=true->HT.lexLt b a=false
 | [],[],_=>rfl
 | [],_::_,_=>rfl
 | _::_,[],h=>by cases h
 | x::a,y::b,h=>by
  rw [HT.lexLt_cons] at h ⊢;by_cases e:x=y
  ·subst e;rw [if_pos rfl] at h ⊢;exact qOV a b h
  ·rw [if_neg e] at h;have h:=of_decide_eq_true h;rw [if_neg (by lia)]
   exact decide_eq_false (by lia)
theorem qI5:∀ (r:List (V × List Int)) (b:V × List Int),∃ k,(qBZ b r,k) ∈ b::r/\∀ q ∈ b::r,HT.lexLt q.2 k=false
 | [],b=>⟨b.2,by simp [qBZ],fun q hq=>by rw [A6.mp hq];exact qNM _⟩
 | x::r,b=>by
  by_cases e:HT.lexLt x.2 b.2=true
  ·obtain ⟨k,h1,h2⟩:=qI5 r x;have ep:qBZ b (x::r)=qBZ x r:=by rw [qBZ,if_pos e]
   rw [ep];refine ⟨k,A9 _ h1,fun q hq=>?_⟩;rcases B7.mp hq with z | z
   ·rw [z];exact qGW _ _ _ (qOV _ _ e) (h2 x (by simp))
   ·exact h2 q z
  ·obtain ⟨k,h1,h2⟩:=qI5 r b;have ep:qBZ b (x::r)=qBZ b r:=by rw [qBZ,if_neg e]
   rw [ep];refine ⟨k,?_,fun q hq=>?_⟩
   ·rcases B7.mp h1 with z | z
    ·rw [z];simp
    ·exact A9 _ (A9 _ z)
   ·rcases B7.mp hq with z | z
    ·exact h2 q (by rw [z];simp)
    ·rcases B7.mp z with z | z
     ·rw [z];exact qGW _ _ _ (O3.mpr e) (h2 b (by simp))
     ·exact h2 q (A9 _ z)
def TabB (H:Hp) (Pt:Addr):Prop:=H Pt=some (.tbl (.tab "best_end.<locals>.<lambda>"))
def LB (Af:List (List Int)) (Aa:Int) (Ad:List Int):Option Nat->Prop
 | none=>∀ m b,Rm Af Aa m b->¬ b &&& mskN Ad=mskN Ad
 | some k=>(∃ b,Rm Af Aa k b/\b &&& mskN Ad=mskN Ad)/\∀ m b,Rm Af Aa m b->b &&& mskN Ad=mskN Ad->k<=m
section
variable {Af:List (List Int)} {Aa:Int} {Ad:List Int}
theorem qUB {P:Nat->Prop}:∀ n,P n->∃ k,P k/\∀ m,P m->k<=m:=by
 intro n
 induction n using Nat.strongRecOn with
 | _ n ih=>
  intro h;by_cases c:∃ m,m<n/\P m
  ·obtain ⟨m,h1,h2⟩:=c;exact ih m h1 h2
  ·exact ⟨n,h,fun m hm=>W8 fun z=>c ⟨m,z,hm⟩⟩
theorem qZZ (Af:List (List Int)) (Aa:Int) (Ad:List Int):∃ o,LB Af Aa Ad o:=by
 by_cases c:∃ m b,Rm Af Aa m b/\b &&& mskN Ad=mskN Ad
 ·obtain ⟨m,b,R,e⟩:=c;obtain ⟨k,⟨b',R',e'⟩,l⟩:=qUB (P:=fun m=>∃ b,Rm Af Aa m b/\b &&& mskN Ad=mskN Ad) m ⟨b,R,e⟩;exact ⟨some k,⟨b',R',e'⟩,fun m b R e=>l m ⟨b,R,e⟩⟩
 ·exact ⟨none,fun m b R e=>c ⟨m,b,R,e⟩⟩
noncomputable def lstO (Af:List (List Int)) (Aa:Int) (Ad:List Int):Option Nat:=A66 (qZZ Af Aa Ad)
noncomputable def upS (Af:List (List Int)) (Ad:List Int) (r:Nat):List (Nat × Nat):=(O7 r).filterMap fun i=>(lstO Af ((i+1:Nat):Int) Ad).map fun k=>(i+1,k)
end
theorem Rch.len {Af:List (List Int)} {Aa:Int} {ks:List (List Int)} {f:List Int->Nat} (h:Rch Af Aa ks f):ks.length<=2 ^ Af.length:=by
 have rs:∀ s ∈ ks,Rise (Af.length:Int) s:=fun s hs=>let ⟨_,m,_⟩:=h.snd s hs;m.1.rise
 have nd:(ks.map mskN).Nodup:=J5.mpr (h.nd.imp_of_mem fun {a b} ha hb hab e=>hab (qRV (rs a ha) (rs b hb) e));have:=qMY (n:=2 ^ Af.length) nd fun b hb=>by
  obtain ⟨s,hs,rfl⟩:=E2.mp hb;refine m7 _ fun j hj=>?_;rw [qEU (rs s hs)];refine decide_eq_false fun z=>?_;have:=((rs s hs).in_ _ z).2
  lia
 rwa [A0] at this
abbrev Prv:=Option (List Int × Mv)
def ValX (H:Hp) (v:V) (n:Nat):Prv->Prop
 | none=>∃ r,v=.ref r/\H r=some (.tup [.int (n:Int),.non,.non])
 | some (p,m)=>∃ r rp rm,v=.ref r/\H r=some (.tup [.int (n:Int),.ref rp,.ref rm])/\H rp=some (.tup (p.map V.int))/\H rm=some (.tup [.str m.1,.int m.2])
theorem ValX.same {H H':Hp} {v:V} {n:Nat} {o:Prv} (h:ValX H v n o) (sm:Same H H'):ValX H' v n o:=by
 cases o with
 | none=>obtain ⟨r,e,g⟩:=h;exact ⟨r,e,sm _ _ g⟩
 | some pm=>obtain ⟨r,rp,rm,e,g1,g2,g3⟩:=h;exact ⟨r,rp,rm,e,sm _ _ g1,sm _ _ g2,sm _ _ g3⟩
theorem ValX.put {H:Hp} {v:V} {n:Nat} {q:Prv} {d:Addr} {o u:HO} (h:ValX H v n q) (hd:H d=some o) (ho:∀ xs,o ≠ .tup xs):ValX (Ah H d u) v n q:=by
 have k:∀ (r:Addr) (xs:List V),H r=some (.tup xs)->(Ah H d u) r=some (.tup xs):=fun r xs g=>by
  rw [qA7 (qCD g hd fun z=>ho _ z.symm)];exact g
 cases q with
 | none=>obtain ⟨r,e,g⟩:=h;exact ⟨r,e,k _ _ g⟩
 | some pm=>obtain ⟨r,rp,rm,e,g1,g2,g3⟩:=h;exact ⟨r,rp,rm,e,k _ _ g1,k _ _ g2,k _ _ g3⟩
theorem ValX.val3 {H:Hp} {v:V} {n:Nat} {o:Prv} (h:ValX H v n o):Val3 H v n:=by
 cases o with
 | none=>obtain ⟨r,e,g⟩:=h;exact ⟨r,_,_,e,g⟩
 | some pm=>obtain ⟨r,rp,rm,e,g,_⟩:=h;exact ⟨r,_,_,e,g⟩
def EntX (H:Hp) (Ag:List (List KI × V)) (ks:List (List Int)) (f:List Int->Nat) (g:List Int->Prv):Prop:=Paired (fun (kv:List KI × V) s=>kv.1=keyS s/\ValX H kv.2 (f s) (g s)) Ag ks
noncomputable def gset (g:List Int->Prv) (x:List Int) (v:Prv):List Int->Prv:=fun y=>if y=x then v else g y
section
variable {H H':Hp} {Ag:List (List KI × V)} {ks:List (List Int)} {f:List Int->Nat} {g:List Int->Prv}
theorem EntX.same (h:EntX H Ag ks f g) (sm:Same H H'):EntX H' Ag ks f g:=Paired.mapP h fun _ _ z=>⟨z.1,z.2.same sm⟩
theorem EntX.put {d:Addr} {o u:HO} (h:EntX H Ag ks f g) (hd:H d=some o) (ho:∀ xs,o ≠ .tup xs):EntX (Ah H d u) Ag ks f g:=Paired.mapP h fun _ _ z=>⟨z.1,z.2.put hd ho⟩
theorem EntX.ent (h:EntX H Ag ks f g):Ent H Ag ks f:=Paired.mapP h fun _ _ z=>⟨z.1,z.2.val3⟩
theorem EntX.val:∀ {Ag:List (List KI × V)} {ks:List (List Int)},EntX H Ag ks f g->∀ {s:List Int},s ∈ ks->∃ v,valV Ag (keyS s)=some v/\ValX H v (f s) (g s)
 | _,_,.nil,s,hs=>nomatch hs
 | _,_,.cons (a:=kv) (b:=s0) ⟨e,v3⟩ t,s,hs=>by
  by_cases c:s0=s
  ·subst c;exact ⟨kv.2,qBE e,v3⟩
  ·rw [qB7 (fun z=>c (qKS (e.symm.trans z)))];exact EntX.val t ((B7.mp hs).resolve_left fun z=>c z.symm)
theorem EntX.keys:∀ {Ag:List (List KI × V)} {ks:List (List Int)},EntX H Ag ks f g->Ag.map (·.1)=ks.map (fun t=>t.map (fun i:Int=>(some (Q0 i):KI)))
 | _,_,.nil=>rfl
 | _,_,.cons ⟨e,_⟩ t=>by rw [C9,C9,e,EntX.keys t];rfl
theorem EntX.snoc (h:EntX H Ag ks f g) {s:List Int} (hs:s ∉ ks) {v:V} {n:Nat} {o:Prv} (hv:ValX H v n o):EntX H (putK Ag (keyS s) v) (ks++[s]) (qHG f s n) (gset g s o):=by
 rw [qOJ v (h.ent.none hs)];have h2:EntX H Ag ks (qHG f s n) (gset g s o):=by
  have:∀ {Ag:List (List KI × V)} {ks:List (List Int)},EntX H Ag ks f g->s ∉ ks->EntX H Ag ks (qHG f s n) (gset g s o):=by
   intro Ag ks h
   induction h with
   | nil=>exact fun _=>.nil
   | @cons kv s0 l1 l2 a t ih=>exact fun hn=>.cons ⟨a.1,by rw [show qHG f s n s0=f s0 from if_neg fun z=>hn (by rw [z];simp),show gset g s o s0=g s0 from if_neg fun z=>hn (by rw [z];simp)];exact a.2⟩ (ih fun z=>hn (A9 _ z))
  exact this h hs
 have:∀ {Ag:List (List KI × V)} {ks:List (List Int)},EntX H Ag ks (qHG f s n) (gset g s o)->EntX H (Ag++[(keyS s,v)]) (ks++[s]) (qHG f s n) (gset g s o):=by
  intro Ag ks h
  induction h with
  | nil=>exact .cons ⟨rfl,by rw [show qHG f s n s=n from if_pos rfl,show gset g s o s=o from if_pos rfl];exact hv⟩ .nil
  | cons a _ ih=>exact .cons a ih
 exact this h2
end
abbrev BS:=List (List Int) × (List Int->Nat) × (List Int->Prv) × List (List Int)
noncomputable def bfM (s:List Int) (S:BS) (m:Mv):BS:=if behL s m ∈ S.1 then S else (S.1++[behL s m],qHG S.2.1 (behL s m) (S.2.1 s+if m.1=B6 "do" then 1 else 0),gset S.2.2.1 (behL s m) (some (s,m)),S.2.2.2++[behL s m])
noncomputable def bfS (Af:List (List Int)) (Aa:Int) (S:BS) (s:List Int):BS:=(qCR Af s Aa).foldl (bfM s) S
noncomputable def bfR (Af:List (List Int)) (Aa:Int) (S:BS):BS:=S.2.2.2.foldl (bfS Af Aa) (S.1,S.2.1,S.2.2.1,[])
noncomputable def bfN (Af:List (List Int)) (Aa:Int):Nat->BS
 | 0=>([[]],fun _=>0,fun _=>none,[[]])
 | n+1=>bfR Af Aa (bfN Af Aa n)
def FinR (Af:List (List Int)) (Aa:Int) (ks:List (List Int)) (f:List Int->Nat) (g:List Int->Prv):Prop:=∃ t,bfN Af Aa t=(ks,f,g,[])/\∀ j,j<t->(bfN Af Aa j).2.2.2 ≠ []
section
variable {Af:List (List Int)} {Aa:Int} {ks ks':List (List Int)} {f f':List Int->Nat} {g g':List Int->Prv}
def Prov (Af:List (List Int)) (Aa:Int) (ks:List (List Int)) (f:List Int->Nat) (g:List Int->Prv):Prop:=
 ∀ s ∈ ks,(s=[]/\g s=none/\f s=0)\/∃ p m,g s=some (p,m)/\p ∈ ks/\m ∈ qCR Af p Aa/\s=behL p m/\f s=f p+if m.1=B6 "do" then 1 else 0
def PrS (Af:List (List Int)) (Aa:Int) (S:BS):Prop:=Prov Af Aa S.1 S.2.1 S.2.2.1/\∀ x ∈ S.2.2.2,x ∈ S.1
theorem qXD {s:List Int} {S:BS} {m:Mv} (hs:s ∈ S.1) (hm:m ∈ qCR Af s Aa) (h:PrS Af Aa S):PrS Af Aa (bfM s S m)/\∀ x ∈ S.1,x ∈ (bfM s S m).1:=by
 unfold bfM;by_cases c:behL s m ∈ S.1
 ·rw [if_pos c];exact ⟨h,fun x hx=>hx⟩
 ·rw [if_neg c];refine ⟨⟨fun x hx=>?_,fun x hx=>?_⟩,fun x hx=>A7.mpr (.inl hx)⟩
  ·have gn:∀ y ∈ S.1,gset S.2.2.1 (behL s m) (some (s,m)) y=S.2.2.1 y:=fun y hy=>if_neg fun e=>c (by rw [<- e];exact hy)
   rcases A7.mp hx with z | z
   ·dsimp only;rw [qHS z c,gn x z];rcases h.1 x z with a | ⟨p,mm,a1,a2,a3,a4,a5⟩
    ·exact .inl a
    ·exact .inr ⟨p,mm,a1,A7.mpr (.inl a2),a3,a4,by rw [qHS a2 c];exact a5⟩
   ·rw [A6.mp z];dsimp only;refine .inr ⟨s,m,if_pos rfl,A7.mpr (.inl hs),hm,rfl,?_⟩;rw [qJZ,qHS hs c]
  ·rcases A7.mp hx with z | z
   ·exact A7.mpr (.inl (h.2 x z))
   ·exact A7.mpr (.inr z)
theorem qPB {s:List Int}:∀ (ms:List Mv) {S:BS},s ∈ S.1->(∀ m ∈ ms,m ∈ qCR Af s Aa)->PrS Af Aa S->PrS Af Aa (ms.foldl (bfM s) S)/\∀ x ∈ S.1,x ∈ (ms.foldl (bfM s) S).1
 | [],S,_,_,h=>⟨h,fun x hx=>hx⟩
 | m::ms,S,hs,hm,h=>by
  obtain ⟨a,b⟩:=qXD hs (hm m (by simp)) h
  obtain ⟨c,d⟩:=qPB ms (b s hs) (fun m hm'=>hm m (A9 _ hm')) a;exact ⟨c,fun x hx=>d x (b x hx)⟩
theorem qP9:∀ (l:List (List Int)) {S:BS},(∀ x ∈ l,x ∈ S.1)->PrS Af Aa S->PrS Af Aa (l.foldl (bfS Af Aa) S)/\∀ x ∈ S.1,x ∈ (l.foldl (bfS Af Aa) S).1
 | [],S,_,h=>⟨h,fun x hx=>hx⟩
 | s::l,S,hl,h=>by
  obtain ⟨a,b⟩:=qPB (qCR Af s Aa) (hl s (by simp)) (fun m hm=>hm) h
  obtain ⟨c,d⟩:=qP9 l (fun x hx=>b x (hl x (A9 _ hx))) a;exact ⟨c,fun x hx=>d x (b x hx)⟩
theorem qTD:∀ t,PrS Af Aa (bfN Af Aa t)
 | 0=>⟨fun s hs=>.inl ⟨A6.mp hs,rfl,rfl⟩,fun x hx=>hx⟩
 | t+1=>by
  have ih:=qTD t;show PrS Af Aa ((bfN Af Aa t).2.2.2.foldl (bfS Af Aa) ((bfN Af Aa t).1,(bfN Af Aa t).2.1,(bfN Af Aa t).2.2.1,[]));exact (qP9 (Af:=Af) (Aa:=Aa) (bfN Af Aa t).2.2.2 (S:=((bfN Af Aa t).1,(bfN Af Aa t).2.1,(bfN Af Aa t).2.2.1,[])) ih.2 ⟨ih.1,fun x hx=>nomatch hx⟩).1
theorem FinR.prov (h:FinR Af Aa ks f g):Prov Af Aa ks f g:=by
 obtain ⟨t,e,_⟩:=h;have:=(qTD (Af:=Af) (Aa:=Aa) t).1;rw [e] at this;exact this
theorem qUW {s:List Int} {S:BS} {m:Mv} (h:∃ l,S.1=[]::l):∃ l,(bfM s S m).1=[]::l:=by
 obtain ⟨l,e⟩:=h;unfold bfM
 split
 ·exact ⟨l,e⟩
 ·exact ⟨l++[behL s m],by show S.1++_=_;rw [e];rfl⟩
theorem qMX {s:List Int}:∀ (ms:List Mv) {S:BS},(∃ l,S.1=[]::l)->∃ l,(ms.foldl (bfM s) S).1=[]::l
 | [],S,h=>h
 | m::ms,S,h=>qMX ms (qUW h)
theorem qMW:∀ (l:List (List Int)) {S:BS},(∃ l,S.1=[]::l)->∃ k,(l.foldl (bfS Af Aa) S).1=[]::k
 | [],S,h=>h
 | s::l,S,h=>qMW l (qMX _ h)
theorem qPA:∀ t,∃ l,(bfN Af Aa t).1=[]::l
 | 0=>⟨[],rfl⟩
 | t+1=>qMW (S:=((bfN Af Aa t).1,(bfN Af Aa t).2.1,(bfN Af Aa t).2.2.1,[])) _ (qPA t)
theorem FinR.head (h:FinR Af Aa ks f g):∃ l,ks=[]::l:=by
 obtain ⟨t,e,_⟩:=h;have:=qPA (Af:=Af) (Aa:=Aa) t;rw [e] at this;exact this
theorem qWS {a b:List (List Int)} (na:a.Nodup) (nb:b.Nodup) (h:∀ x ∈ a,x ∈ b):a.length<=b.length:=by
 have p:a.Perm (b.filter fun x=>decide (x ∈ a)):=(W1 na (nb.filter _)).mpr fun x=>by
  rw [E6,decide_eq_true_eq];exact ⟨fun hx=>⟨h x hx,hx⟩,fun hx=>hx.2⟩
 rw [p.length_eq];exact J2 _ _
noncomputable def qE8 (g:List Int->Prv):Nat->List Int->List Mv
 | 0,_=>[]
 | n+1,s=>match g s with
  | none=>[]
  | some (p,m)=>qE8 g n p++[m]
noncomputable def pth (f:List Int->Nat) (g:List Int->Prv) (s:List Int):List Mv:=qE8 g (2 * f s - s.length) s
theorem qKA (R:Rch Af Aa ks f) {p:List Int} {m:Mv} (hp:p ∈ ks) (hm:m ∈ qCR Af p Aa) {u:Nat} (e:2 * (f p+if m.1=B6 "do" then 1 else 0)=u+(behL p m).length):∃ v,u=v+1/\2 * f p=v+p.length:=by
 obtain ⟨v,mv,ev⟩:=R.snd p hp;refine ⟨v,?_,ev⟩;rcases qLC mv.1.rise hm with ⟨w,l⟩ | ⟨w,l⟩
 ·rw [if_pos w] at e;lia
 ·rw [if_neg (fun z=>by rw [w] at z;exact qAG z)] at e;lia
theorem qW8 (wf:WFn Af) {p:List Int} {m:Mv} {t:Nat} (P:Pt Af Aa t p) (hm:m ∈ qCR Af p Aa):Run Af Aa p [m] (behL p m):=by
 have r:=P.rise;have r':=(Pt.step P hm).rise;obtain ⟨⟨a,b,c⟩,d,e⟩:=due_iff.mp hm;obtain ⟨Ac,wk⟩:=m;rcases a with a | a
 ·have a:Ac=B6 "do":=a
  subst a;obtain ⟨n1,n2,n3⟩:=d rfl;exact .do_ n1 n2 n3 (by unfold behL;rw [if_pos rfl];exact qEF _ _) r'.up .nil
 ·have a:Ac=B6 "clear":=a;subst a;unfold behL;rw [if_neg (fun z=>qAG z)];exact .clear (e rfl) .nil
theorem qOO (wf:WFn Af) (R:Rch Af Aa ks f) (pv:Prov Af Aa ks f g):∀ (u:Nat) (s:List Int),s ∈ ks->2 * f s=u+s.length->Run Af Aa [] (qE8 g u s) s/\(qJI (qE8 g u s)).length=f s/\MvOk Af (qE8 g u s)/\(qE8 g u s).length=u/\
  ∃ L:List (List Int),L.length=u+1/\L.Nodup/\∀ x ∈ L,x ∈ ks/\∃ v,v<=u/\2 * f x=v+x.length
 | 0,s,hs,e=>by
  rcases pv s hs with ⟨a1,a2,a3⟩ | ⟨p,m,a1,a2,a3,a4,a5⟩
  ·subst a1;refine ⟨.nil,by rw [a3];rfl,(fun _ z=>by cases z),rfl,[[]],rfl,by simp,fun x hx=>by rw [A6.mp hx];exact ⟨hs,0,A5 _,e⟩⟩
  ·rw [a5,a4] at e;obtain ⟨v,z,_⟩:=qKA R a2 a3 e
   lia
 | u+1,s,hs,e=>by
  rcases pv s hs with ⟨a1,a2,a3⟩ | ⟨p,m,a1,a2,a3,a4,a5⟩
  ·rw [a3,a1] at e;simp at e
  ·have e2:=e;rw [a5,a4] at e2;obtain ⟨v,z1,z2⟩:=qKA R a2 a3 e2;have:v=u:=by lia
   subst this;obtain ⟨i1,i2,i3,i4,L,i5,i6,i7⟩:=qOO wf R pv v p a2 z2;obtain ⟨_,mp,_⟩:=R.snd p a2;have ep:qE8 g (v+1) s=qE8 g v p++[m]:=by show (match g s with | none=>[] | some (p,m)=>qE8 g v p++[m])=_;rw [a1]
   rw [ep];have one:=qW8 wf mp.1 a3;rw [<- a4] at one;have dd:(qJI [m]).length=if m.1=B6 "do" then 1 else 0:=by
    unfold qJI;rw [X1]
    split <;> rename_i h
    ·split at h
     ·cases h
     ·rename_i hn;rw [if_neg hn];rfl
    ·split at h
     ·rename_i hy;rw [if_pos hy];rfl
     ·cases h
   refine ⟨i1.app one,by rw [qSY,A4,i2,dd,a5],fun x hx=>?_,by rw [A4,i4];rfl,L++[s],by rw [A4,i5];rfl,qI1 i6 fun hz=>?_,fun x hx=>?_⟩
   ·rcases A7.mp hx with z | z
    ·exact i3 x z
    ·rw [A6.mp z];exact (due_iff.mp a3).1
   ·obtain ⟨_,w,w1,w2⟩:=i7 s hz
    lia
   ·rcases A7.mp hx with z | z
    ·obtain ⟨j1,w,w1,w2⟩:=i7 x z;exact ⟨j1,w,by lia,w2⟩
    ·rw [A6.mp z];exact ⟨hs,v+1,A5 _,e⟩
theorem qR7 (wf:WFn Af) (R:Rch Af Aa ks f) (pv:Prov Af Aa ks f g) {s:List Int} (hs:s ∈ ks):Run Af Aa [] (pth f g s) s/\(qJI (pth f g s)).length=f s/\MvOk Af (pth f g s)/\(pth f g s).length+1<=ks.length:=by
 obtain ⟨u,_,e⟩:=R.snd s hs;have eu:2 * f s - s.length=u:=by lia
 obtain ⟨h1,h2,h3,h4,L,h5,h6,h7⟩:=qOO wf R pv u s hs e;unfold pth;rw [eu];refine ⟨h1,h2,h3,?_⟩;have:=qWS h6 R.nd fun x hx=>(h7 x hx).1
 lia
end
structure EntZ (H:Hp) (Ag:List (List KI × V)) (ks:List (List Int)) (f:List Int->Nat) (Φ:(List Int->Prv)->Prop):Prop where
 ex:∃ g,EntX H Ag ks f g/\Φ g
section
variable {H H':Hp} {Ag:List (List KI × V)} {ks:List (List Int)} {f:List Int->Nat} {Φ Ψ:(List Int->Prv)->Prop}
theorem EntZ.same (h:EntZ H Ag ks f Φ) (sm:Same H H'):EntZ H' Ag ks f Φ:=let ⟨g,a,b⟩:=h.ex;⟨g,a.same sm,b⟩
theorem EntZ.put {d:Addr} {o u:HO} (h:EntZ H Ag ks f Φ) (hd:H d=some o) (ho:∀ xs,o ≠ .tup xs):EntZ (Ah H d u) Ag ks f Φ:=let ⟨g,a,b⟩:=h.ex;⟨g,a.put hd ho,b⟩
theorem EntZ.ent (h:EntZ H Ag ks f Φ):Ent H Ag ks f:=let ⟨_,a,_⟩:=h.ex;a.ent
theorem EntZ.len (h:EntZ H Ag ks f Φ):Ag.length=ks.length:=h.ent.len
theorem EntZ.val (h:EntZ H Ag ks f Φ) {s:List Int} (hs:s ∈ ks):∃ v,valV Ag (keyS s)=some v/\Val3 H v (f s):=h.ent.val hs
theorem EntZ.none (h:EntZ H Ag ks f Φ) {s:List Int} (hs:s ∉ ks):valV Ag (keyS s)=none:=h.ent.none hs
theorem EntZ.mono (h:EntZ H Ag ks f Φ) (i:∀ g,Φ g->Ψ g):EntZ H Ag ks f Ψ:=let ⟨g,a,b⟩:=h.ex;⟨g,a,i g b⟩
theorem EntZ.snoc (h:EntZ H Ag ks f Φ) {s p:List Int} {m:Mv} (hs:s ∉ ks) {r rp rm:Addr} {n:Nat} (g1:H r=some (.tup [.int (n:Int),.ref rp,.ref rm])) (g2:H rp=some (.tup (p.map V.int))) (g3:H rm=some (.tup [.str m.1,.int m.2])) (i:∀ g,Φ g->Ψ (gset g s (some (p,m)))) :
  EntZ H (putK Ag (keyS s) (.ref r)) (ks++[s]) (qHG f s n) Ψ:=let ⟨g,a,b⟩:=h.ex;⟨_,a.snoc (v:=.ref r) (n:=n) (o:=some (p,m)) hs ⟨r,rp,rm,rfl,g1,g2,g3⟩,i g b⟩
end
theorem qIS {α β:Type} {F:β->α->β} {l:List α} {k:Nat} {x:α} (h:l[k]?=some x) (b:β):(l.take (k+1)).foldl F b=F ((l.take k).foldl F b) x:=by
 rw [D7,h,D5,A45]
 rfl
def qO9:Sp:=fun vs H Q _=>∃ (a:Addr) (Af:List (List Int)) (Aa:Int),vs=[.ref a,.int Aa]/\NetAt H a Af/\WFn Af/\Af.length<=12/\
 ∀ d o Ag ks f g H',Same H H'->H d=none->H' d=some (.frz o (.dT Ag))->EntX H' Ag ks f g->Rch Af Aa ks f->FinR Af Aa ks f g->Q (.ref d) H'
def BestOf (ks:List (List Int)) (f:List Int->Nat) (Ad s:List Int):Prop:=s ∈ ks/\(∀ x ∈ Ad,x ∈ s)/\∀ s' ∈ ks,(∀ x ∈ Ad,x ∈ s')->HT.lexLt ((f s':Int)::s') ((f s:Int)::s)=false
theorem BestOf.le {ks:List (List Int)} {f:List Int->Nat} {Ad s:List Int} (h:BestOf ks f Ad s):∀ s' ∈ ks,(∀ x ∈ Ad,x ∈ s')->f s<=f s':=fun s' h1 h2=>by
 have hl:=h.2.2 s' h1 h2;rw [HT.lexLt_cons] at hl;by_cases c:(f s':Int)=(f s:Int)
 ·lia
 ·rw [if_neg c] at hl;have:=of_decide_eq_false hl
  lia
def qQW (Pt:Addr):Sp:=fun vs H Q _=>∃ (d t:Addr) (o:Obj) (Ag:List (List KI × V)) (ks:List (List Int)) (f:List Int->Nat) (Ad:List Int),vs=[.ref d,.ref t]/\TabB H Pt/\H d=some (.frz o (.dT Ag))/\Ent H Ag ks f/\ks.length<=4096/\H t=some (.tup (Ad.map V.int))/\Ad.length<=1000/\
 ∀ H',Same H H'->((∀ s ∈ ks,¬ ∀ x ∈ Ad,x ∈ s)->Q .non H')/\∀ r s,H' r=some (.tup (s.map V.int))->BestOf ks f Ad s->Q (.ref r) H'
def qOB:Sp:=fun vs H Q _=>∃ (d t:Addr) (o:Obj) (Ag:List (List KI × V)) (Af:List (List Int)) (Aa:Int) (ks:List (List Int)) (f:List Int->Nat) (g:List Int->Prv) (s:List Int),vs=[.ref d,.ref t]/\H d=some (.frz o (.dT Ag))/\EntX H Ag ks f g/\WFn Af/\Rch Af Aa ks f/\FinR Af Aa ks f g/\ks.length<=4096/\H t=some (.tup (s.map V.int))/\s ∈ ks/\
 ∀ l H',Same H H'->H l=none->PlanAt H' l (pth f g s)->Q (.ref l) H'
def RowsAt (H:Hp) (qs:List Addr) (L:List (List Int)) (f:List Int->Nat):Prop:=Paired (fun (q:Addr) (s:List Int)=>∃ sr,H q=some (.tup [.ref sr,.int (f s:Int)])/\H sr=some (.tup (s.map V.int))) qs L
theorem RowsAt.same {H H':Hp} {qs:List Addr} {L:List (List Int)} {f:List Int->Nat} (h:RowsAt H qs L f) (sm:Same H H'):RowsAt H' qs L f:=Paired.mapP h fun _ _ ⟨sr,a,b⟩=>⟨sr,sm _ _ a,sm _ _ b⟩
theorem RowsAt.put {H:Hp} {qs:List Addr} {L:List (List Int)} {f:List Int->Nat} {d:Addr} {o u:HO} (h:RowsAt H qs L f) (hd:H d=some o) (ho:∀ xs,o ≠ .tup xs):RowsAt (Ah H d u) qs L f:=by
 have k:∀ (r:Addr) (xs:List V),H r=some (.tup xs)->(Ah H d u) r=some (.tup xs):=fun r xs g=>by
  rw [qA7 (qCD g hd fun z=>ho _ z.symm)];exact g
 exact Paired.mapP h fun _ _ ⟨sr,a,b⟩=>⟨sr,k _ _ a,k _ _ b⟩
def qOD (Pt:Addr):Sp:=fun vs H Q _=>∃ (a t:Addr) (Af:List (List Int)) (Aa:Int) (Ad:List Int),vs=[.ref a,.ref t,.int Aa]/\TabB H Pt/\NetAt H a Af/\WFn Af/\Af.length<=12/\qXE H t Af Ad/\
 ∀ T pp qs L ks f g H',Same H H'->Rch Af Aa ks f->FinR Af Aa ks f g->L.Perm ks->L.Pairwise (fun x y=>HT.lexLt y x=false)->H pp=none->H' pp=some (.lst (qs.map V.ref))->RowsAt H' qs L f->
  ((∀ s ∈ ks,¬ ∀ x ∈ Ad,x ∈ s)->H' T=some (.tup [.str "none",.ref pp])->Q (.ref T) H')/\
  ∀ l s,BestOf ks f Ad s->H l=none->l ≠ pp->PlanAt H' l (pth f g s)->H' T=some (.tup [.str "plan",.ref l,.int (f s:Int),.ref pp])->Q (.ref T) H'
def OnceL (l:La):Prop:=∀ i j x,l.getD i none=some x->l.getD j none=some x->i=j
theorem qVJ {l:La} {r:Nat} {w:Int} (hr:r<l.length) (e:l.getD r none=none) (x:Int):some x ∈ l.set r (some w) ↔ some x ∈ l\/x=w:=by
 rw [mem_getD,mem_getD]
 constructor
 ·rintro ⟨j,h⟩;rw [qCP] at h;by_cases c:r=j/\r<l.length
  ·rw [if_pos c] at h;cases h;exact .inr rfl
  ·rw [if_neg c] at h;exact .inl ⟨j,h⟩
 ·rintro (⟨j,h⟩ | h)
  ·refine ⟨j,?_⟩;rw [qCP,if_neg fun z=>by rw [<- z.1,e] at h;cases h]
   exact h
  ·exact ⟨r,by rw [qCP,if_pos ⟨rfl,hr⟩,h]⟩
theorem qVK {l:La} {r:Nat} {y:Int} (hr:r<l.length) (o:OnceL l) (e:l.getD r none=some y) (x:Int):some x ∈ l.set r none ↔ some x ∈ l/\x ≠ y:=by
 rw [mem_getD,mem_getD]
 constructor
 ·rintro ⟨j,h⟩;rw [qCP] at h;by_cases c:r=j/\r<l.length
  ·rw [if_pos c] at h;cases h
  ·rw [if_neg c] at h;refine ⟨⟨j,h⟩,fun z=>c ⟨?_,hr⟩⟩;subst z;exact o r j x e h
 ·rintro ⟨⟨j,h⟩,n⟩;refine ⟨j,?_⟩;rw [qCP,if_neg fun z=>by rw [<- z.1,e] at h;cases h;exact n rfl]
  exact h
section
variable {Af:List (List Int)} {wides sizes:List Int}
theorem Po.once {t:Nat} {l:La} (h:Po Af wides sizes t l):OnceL l:=by
 induction h with
 | zero=>
  intro i j x e
  exfalso
  have:some x ∈ l0 sizes:=mem_getD.mpr ⟨i,e⟩;cases O2 this
 | @step t l m p hm ih=>
  intro i j x e1 e2;obtain ⟨b1,b2,b3⟩:=qPU hm;unfold beO at e1 e2;rw [qCP] at e1 e2;by_cases c1:m.rm.toNat=i/\m.rm.toNat<l.length
  ·by_cases c2:m.rm.toNat=j/\m.rm.toNat<l.length
   ·rw [<- c1.1,<- c2.1]
   ·rw [if_pos c1] at e1;rw [if_neg c2] at e2
    exfalso
    cases hd:m.dk with
    | false=>rw [show m.res=none by unfold Mo.res;rw [hd]] at e1;cases e1
    | true=>
     rw [show m.res=some m.wk by unfold Mo.res;rw [hd]] at e1
     cases e1;exact ((qNP hd).mp b3).1 (mem_getD.mpr ⟨j,e2⟩)
  ·by_cases c2:m.rm.toNat=j/\m.rm.toNat<l.length
   ·rw [if_neg c1] at e1;rw [if_pos c2] at e2
    exfalso
    cases hd:m.dk with
    | false=>rw [show m.res=none by unfold Mo.res;rw [hd]] at e2;cases e2
    | true=>
     rw [show m.res=some m.wk by unfold Mo.res;rw [hd]] at e2
     cases e2;exact ((qNP hd).mp b3).1 (mem_getD.mpr ⟨i,e1⟩)
   ·rw [if_neg c1] at e1;rw [if_neg c2] at e2;exact ih i j x e1 e2
theorem qSN {l:La} (h:cntO l<l.length):∃ r,r<l.length/\l.getD r none=none:=by
 apply M7;intro z;have:l.countP A38=l.length:=A04.mpr fun o ho=>by
  obtain ⟨j,hj,e⟩:=K0 ho;cases o with
  | some x=>rfl
  | none=>exact absurd ⟨j,hj,by rw [B3,A8 hj,e];rfl⟩ z
 unfold cntO at h
 lia
theorem qYW {l:La} {r:Nat} (hr:r<l.length) (e:l.getD r none=none):cntO l<l.length:=by
 have le:l.countP A38<=l.length:=A05;rcases k8 le with c | c
 ·exact c
 ·exfalso
  have:=A04.mp c (l[r]'hr) (X0 hr);rw [B3,A8 hr] at e;have e:l[r]=none:=e;rw [e] at this;cases this
theorem qRS (w:Int):nd Af w=Af.getD w.toNat []:=by
 unfold nd;rw [B3]
theorem qS3 {t:Nat} {l:La} (h:Po Af wides sizes t l):∃ st,Pt Af (sizes.length:Int) t st/\(∀ x,x ∈ st ↔ some x ∈ l)/\st.length=cntO l:=by
 induction h with
 | zero=>exact ⟨[],.zero,fun x=>⟨fun z=>absurd z (M9),fun z=>nomatch (O2 z)⟩,by rw [qIX];rfl⟩
 | @step t l m p hm ih=>
  obtain ⟨st,P,mem,len⟩:=ih;obtain ⟨b1,b2,b3⟩:=qPU hm;have hr:m.rm.toNat<l.length:=by rw [p.len];lia
  have cb:=qFZ p hm;cases hd:m.dk with
  | true=>
   obtain ⟨p1,p2,p3,p4⟩:=(qNP hd).mp b3;have bb:=b2 hd;have hm2:((B6 "do",m.wk):Mv) ∈ qCR Af st (sizes.length:Int):=due_iff.mpr ⟨⟨.inl rfl,bb.1,bb.2⟩,fun _=>⟨fun z=>p1 ((mem _).mp z),fun y hy=>(mem y).mpr (p2 y (by rw [<- qRS];exact hy)),by rw [len,<- p.len];exact Int.ofNat_lt.mpr (qYW hr p3)⟩,fun z=>absurd z.symm qAG⟩
   have eb:behL st ((B6 "do",m.wk):Mv)=insL st m.wk:=by unfold behL;rw [if_pos rfl]
   refine ⟨_,.step P hm2,fun x=>?_,?_⟩
   ·have er:m.res=some m.wk:=by unfold Mo.res;rw [hd]
    rw [eb,mem_insL,mem x];unfold beO;rw [er];exact (qVJ hr p3 x).symm
   ·rw [eb,qKW,len];rcases cb with ⟨_,c⟩ | ⟨c,_⟩
    ·lia
    ·rw [hd] at c;cases c
  | false=>
   obtain ⟨y,py⟩:=(qSM hd).mp b3;have my:some y ∈ l:=mem_getD.mpr ⟨_,py⟩;have oky:=p.ok y my;have hm2:((B6 "clear",y):Mv) ∈ qCR Af st (sizes.length:Int):=due_iff.mpr ⟨⟨.inr rfl,oky.1,oky.2⟩,fun z=>absurd z qAG,fun _=>(mem y).mpr my⟩;have eb:behL st ((B6 "clear",y):Mv)=st.filter fun x=>decide (x ≠ y):=by unfold behL;rw [if_neg qAG]
   refine ⟨_,.step P hm2,fun x=>?_,?_⟩
   ·have er:m.res=none:=by unfold Mo.res;rw [hd]
    rw [eb,E6,decide_eq_true_eq,mem x];unfold beO;rw [er];exact (qVK hr p.once py x).symm
   ·rcases qLC P.rise hm2 with ⟨w,_⟩ | ⟨_,l2⟩
    ·exact absurd w qAG
    ·rcases cb with ⟨c,_⟩ | ⟨_,c⟩
     ·rw [hd] at c;cases c
     ·lia
def qV1 (Af:List (List Int)) (wides sizes:List Int):Prop:=∀ r w,r<sizes.length->w<Af.length->¬ sizes.getD r 0<wides.getD w 0
theorem qQS (fit:qV1 Af wides sizes) {t:Nat} {st:List Int} (h:Pt Af (sizes.length:Int) t st):∃ l,Po Af wides sizes t l/\(∀ x,x ∈ st ↔ some x ∈ l)/\st.length=cntO l:=by
 induction h with
 | zero=>exact ⟨l0 sizes,.zero,fun x=>⟨fun z=>absurd z (M9),fun z=>nomatch (O2 z)⟩,by rw [qIX];rfl⟩
 | @step t st m P hm ih=>
  obtain ⟨l,p,mem,len⟩:=ih;obtain ⟨⟨w1,w2,w3⟩,d1,d2⟩:=due_iff.mp hm;obtain ⟨Ac,wk⟩:=m;rcases w1 with w1 | w1
  ·have w1:Ac=B6 "do":=w1
   subst w1;obtain ⟨n1,n2,n3⟩:=d1 rfl;have n3:(st.length:Int)<(sizes.length:Int):=n3;obtain ⟨r,hr,er⟩:=qSN (l:=l) (by rw [p.len,<- len];lia)
   have hm2:(⟨true,wk,(r:Int)⟩:Mo) ∈ nxO Af wides sizes l:=by
    refine E6.mpr ⟨mem_prMo.mpr ⟨⟨by show (0:Int)<=r;lia,by show (r:Int)<_;rw [<- p.len];lia⟩,.inr ⟨rfl,w2,w3⟩⟩,decide_eq_true ((qNP rfl).mpr ⟨fun z=>n1 ((mem _).mpr z),fun y hy=>(mem y).mp (n2 y (by rw [qRS];exact hy)),by show l.getD ((r:Int)).toNat none=none;rw [F9];exact er,?_⟩)⟩
    show ¬ sizes.getD ((r:Int)).toNat 0<wides.getD wk.toNat 0;rw [F9];have w2':(0:Int)<=wk:=w2;have w3':wk<(Af.length:Int):=w3;exact fit r wk.toNat (by rw [<- p.len];exact hr) (by lia)
   have eb:behL st ((B6 "do",wk):Mv)=insL st wk:=by unfold behL;rw [if_pos rfl]
   refine ⟨_,.step p hm2,fun x=>?_,?_⟩
   ·rw [eb,mem_insL,mem x];unfold beO;show _ ↔ some x ∈ l.set ((r:Int)).toNat (some wk);rw [F9];exact (qVJ hr er x).symm
   ·rw [eb,qKW,len];rcases qFZ p hm2 with ⟨_,c⟩ | ⟨c,_⟩
    ·lia
    ·cases c
  ·have w1:Ac=B6 "clear":=w1;subst w1;have hy:=d2 rfl;obtain ⟨r,er⟩:=mem_getD.mp ((mem wk).mp hy);have hr:r<l.length:=by
    apply M7;intro z;rw [B3,J1 (by lia)] at er
    cases er
   have hm2:(⟨false,0,(r:Int)⟩:Mo) ∈ nxO Af wides sizes l:=E6.mpr ⟨mem_prMo.mpr ⟨⟨by show (0:Int)<=r;lia,by show (r:Int)<_;rw [<- p.len];lia⟩,.inl ⟨rfl,rfl⟩⟩,decide_eq_true ((qSM rfl).mpr ⟨wk,by show l.getD ((r:Int)).toNat none=some wk;rw [F9];exact er⟩)⟩
   have eb:behL st ((B6 "clear",wk):Mv)=st.filter fun x=>decide (x ≠ wk):=by unfold behL;rw [if_neg qAG]
   refine ⟨_,.step p hm2,fun x=>?_,?_⟩
   ·rw [eb,E6,decide_eq_true_eq,mem x];unfold beO;show _ ↔ some x ∈ l.set ((r:Int)).toNat none;rw [F9];exact (qVK hr p.once er x).symm
   ·rcases qLC P.rise hm with ⟨w,_⟩ | ⟨_,l2⟩
    ·exact absurd w qAG
    ·rcases qFZ p hm2 with ⟨c,_⟩ | ⟨_,c⟩
     ·cases c
     ·lia
theorem Po.run {t:Nat} {l:La} (h:Po Af wides sizes t l):∃ ms,RunO Af wides sizes (l0 sizes) ms l/\2 * dosO ms=t+cntO l:=by
 induction h with
 | zero=>exact ⟨[],.nil,by rw [qIX];rfl⟩
 | @step t l m p hm ih=>
  obtain ⟨ms,R,e⟩:=ih;refine ⟨ms++[m],R.app (.cons hm .nil),?_⟩;rw [qGM,qF2];unfold dN;rcases qFZ p hm with ⟨w,c⟩ | ⟨w,c⟩ <;> rw [w] <;> dsimp only <;> lia
theorem RunO.po {l s:La} {ms:List Mo} (R:RunO Af wides sizes l ms s):∀ {t:Nat},Po Af wides sizes t l->Po Af wides sizes (t+ms.length) s/\2 * dosO ms+cntO l=ms.length+cntO s:=by
 induction R with
 | nil=>intro t h;exact ⟨h,by show 2 * 0+_=0+_;lia⟩
 | @cons l s m ms hm _ ih=>
  intro t h;obtain ⟨a,b⟩:=ih (.step h hm);have e2:dosO (m::ms)=dosO [m]+dosO ms:=qGM [m] ms;refine ⟨by rw [E3,show t+(ms.length+1)=t+1+ms.length by lia];exact a,?_⟩
  rw [e2,qF2,E3];unfold dN;rcases qFZ h hm with ⟨w,c⟩ | ⟨w,c⟩ <;> rw [w] <;> dsimp only <;> lia
def StpS (Af:List (List Int)) (Aa:Int) (Ad:List Int) (v:Int):Prop:=
 (v=1000/\∀ t st,Pt Af Aa t st->¬ ∀ x ∈ Ad,x ∈ st)\/
 (v<=1000/\(∃ t st,Pt Af Aa t st/\(∀ x ∈ Ad,x ∈ st)/\((t+st.length:Nat):Int)=2 * v)/\∀ t st,Pt Af Aa t st->(∀ x ∈ Ad,x ∈ st)->2 * v<=((t+st.length:Nat):Int))
theorem StpO.ge {Ad:List Int} {a b:Int} (hA:StpO Af wides sizes Ad a) (hB:StpS Af (sizes.length:Int) Ad b):b<=a:=by
 have b1000:b<=1000:=by rcases hB with ⟨e,_⟩ | ⟨e,_⟩ <;> lia
 rcases hA with ⟨e,_⟩ | ⟨_,⟨ms,s,R,ha,e⟩,_⟩
 ·lia
 ·obtain ⟨p,c⟩:=R.po .zero;rw [qIX] at c;obtain ⟨st,P,mem,len⟩:=qS3 p;have ha':∀ x ∈ Ad,x ∈ st:=fun x hx=>(mem x).mpr (ha x hx);rcases hB with ⟨_,no⟩ | ⟨_,_,le⟩
  ·exact absurd ha' (no _ st P)
  ·have:=le _ st P ha'
   lia
theorem StpO.eq {Ad:List Int} {a b:Int} (fit:qV1 Af wides sizes) (hA:StpO Af wides sizes Ad a) (hB:StpS Af (sizes.length:Int) Ad b):a=b:=by
 have h1:=hA.ge hB;have a1000:a<=1000:=by rcases hA with ⟨e,_⟩ | ⟨e,_⟩ <;> lia
 rcases hB with ⟨e,_⟩ | ⟨_,⟨t,st,P,ha,e⟩,_⟩
 ·lia
 ·obtain ⟨l,p,mem,len⟩:=qQS fit P;have ha':∀ x ∈ Ad,some x ∈ l:=fun x hx=>(mem x).mp (ha x hx);obtain ⟨ms,R,c⟩:=p.run;rcases hA with ⟨_,no⟩ | ⟨_,_,le⟩
  ·exact absurd ha' (no ms l R)
  ·have:=le ms l R ha'
   lia
end
theorem qUH {Ad st:List Int}:decide (∀ x ∈ Ad,some x ∈ st.map some)=decide (∀ x ∈ Ad,x ∈ st):=by
 rw [Q1,decide_eq_true_eq,decide_eq_true_eq]
 constructor
 ·intro h x hx;obtain ⟨y,hy,e⟩:=E2.mp (h x hx);cases e;exact hy
 ·intro h x hx;exact E2.mpr ⟨x,h x hx,rfl⟩
def qGS:Sp:=fun vs H Q E=>qOB vs H Q E\/qQU vs H Q E
theorem _root_.L2.FnOk.or {P:Program} {w:World} {K:PySem.W.Frag} {mg:Str->Option Value} {base:Heap} {CX:CXT} {k:Nat} {f:Addr} {fd:FuncData} {ps:List Str} {sp sp':Sp} (F:FnOk P w K mg base CX k f fd ps sp) (F':FnOk P w K mg base CX k f fd ps sp') :
  FnOk P w K mg base CX k f fd ps (fun vs H Q E=>sp vs H Q E\/sp' vs H Q E):=
 ⟨fun vs H Q E h=>h.elim (F.len vs H Q E) (F'.len vs H Q E),fun A outer s H args us vs Q E hr hv hs hl hsp=>hsp.elim (F.run A outer s H args us vs Q E hr hv hs hl) (F'.run A outer s H args us vs Q E hr hv hs hl)⟩
theorem _root_.L2.Clb.imp {P:Program} {w:World} {K:PySem.W.Frag} {mg:Str->Option Value} {base:Heap} {n:Nat} {f:Addr} {fd:FuncData} {x:Str} {ps:List Str} {sp sp':Sp} (C:Clb P w K mg base n f fd x ps sp)
  (h:∀ vs H Q E,sp' vs H Q E->sp vs H Q E):Clb P w K mg base n f fd x ps sp':=⟨C.G.imp h,C.b,C.k,C.m⟩
def allO:Nat->List Int->List La
 | 0,_=>[[]]
 | k+1,av=>(allO k av).map (none::·)++av.flatMap fun x=>(allO k (av.erase x)).map (some x::·)
theorem OnceL.tail {o:Option Int} {l:La} (h:OnceL (o::l)):OnceL l:=fun i j x e e'=>by
 have:=h (i+1) (j+1) x (by simpa using e) (by simpa using e')
 lia
theorem qKN:∀ (k:Nat) (av:List Int) (l:La),l.length=k->OnceL l->(∀ x,some x ∈ l->x ∈ av)->l ∈ allO k av
 | 0,av,[],_,_,_=>A6.mpr rfl
 | k+1,av,o::l,hl,on,h=>by
  have hl':l.length=k:=by simpa using hl
  have ht:∀ x,some x ∈ l->x ∈ av:=fun x hx=>h x (A9 _ hx);refine A7.mpr ?_;cases o with
  | none=>exact .inl (E2.mpr ⟨l,qKN k av l hl' on.tail ht,rfl⟩)
  | some y=>
   refine .inr (c5.mpr ⟨y,h y (by simp),E2.mpr ⟨l,qKN k _ l hl' on.tail fun x hx=>?_,rfl⟩⟩)
   refine (c8 fun e=>?_).mpr (ht x hx);subst e;obtain ⟨j,hj⟩:=mem_getD.mp hx;have:=on 0 (j+1) x (by simp) (by simpa using hj)
   lia
theorem qJN {α:Type} [DecidableEq α] {a b:List α} (nd:a.Nodup) (h:∀ x ∈ a,x ∈ b):a.length<=b.length:=by
 induction a generalizing b with
 | nil=>exact F0 _
 | cons x a ih=>
  obtain ⟨n1,n2⟩:=P0.mp nd;have hx:=h x (by simp)
  have:=ih (b:=b.erase x) n2 fun y hy=>(c8 (a:=y) (b:=x) fun e=>n1 (by rw [<- e];exact hy)).mpr (h y (A9 _ hy))
  rw [p9 hx] at this;have:=Y9 hx;rw [E3]
  lia
theorem qUY {k:Nat} (h:k<=4):(allO k [0,1,2,3,4,5]).length<=1045:=by
 rcases (by lia:k=0\/k=1\/k=2\/k=3\/k=4) with rfl | rfl | rfl | rfl | rfl <;> decide +kernel
theorem RcO.small {Af:List (List Int)} {wides sizes:List Int} {ks:List La} {f:La->Nat} (R:RcO Af wides sizes ks f) (k4:sizes.length<=4) (n6:Af.length<=6):ks.length<=1045:=by
 refine F3 (qJN R.nd fun s hs=>qKN sizes.length [0,1,2,3,4,5] s ?_ ?_ fun x hx=>?_) (qUY k4)
 ·obtain ⟨_,m,_⟩:=R.snd s hs;exact m.1.len
 ·obtain ⟨_,m,_⟩:=R.snd s hs;exact m.1.once
 ·obtain ⟨_,m,_⟩:=R.snd s hs;have:=m.1.ok x hx;rcases (by lia:x=0\/x=1\/x=2\/x=3\/x=4\/x=5) with rfl | rfl | rfl | rfl | rfl | rfl <;> decide
section
variable {Af:List (List Int)} {wides sizes:List Int}
theorem Mto.pre {u:Nat} {s:La} (h:Mto Af wides sizes (u+1) s):∃ l,Mto Af wides sizes u l:=by
 obtain ⟨p,no⟩:=h;cases p with
 | @step t l m p hm=>exact ⟨l,p,fun v hv q=>no (v+1) (by lia) (q.step hm)⟩
theorem Mto.row:∀ {u:Nat} {s:La},Mto Af wides sizes u s->∃ L:List La,L.length=u+1/\L.Nodup/\∀ l ∈ L,∃ v,v<=u/\Mto Af wides sizes v l
 | 0,s,h=>⟨[s],rfl,by simp,fun l hl=>by rw [A6.mp hl];exact ⟨0,A5 _,h⟩⟩
 | u+1,s,h=>by
  obtain ⟨l,hl⟩:=h.pre;obtain ⟨L,a,b,c⟩:=hl.row;refine ⟨s::L,by rw [E3,a],P0.mpr ⟨fun z=>?_,b⟩,fun x hx=>?_⟩
  ·obtain ⟨v,hv,m⟩:=c s z;have:=m.one h
   lia
  ·rcases B7.mp hx with e | z
   ·rw [e];exact ⟨u+1,A5 _,h⟩
   ·obtain ⟨v,hv,m⟩:=c x z;exact ⟨v,by lia,m⟩
theorem qYX (l:La):cntO l<=l.length:=by
 unfold cntO;exact A05
theorem RcO.f_le {ks:List La} {f:La->Nat} (R:RcO Af wides sizes ks f) (k4:sizes.length<=4) (n6:Af.length<=6) {s:La} (hs:s ∈ ks):f s<=1000:=by
 obtain ⟨u,m,e⟩:=R.snd s hs;obtain ⟨L,a,b,c⟩:=m.row;have h1:=qJN b fun x hx=>let ⟨v,_,mv⟩:=c x hx;R.all v x mv.1
 have h2:=R.small k4 n6;have h3:=qYX s;have h4:=m.1.len
 lia
theorem RcO.none {ks:List La} {f:La->Nat} {Ad:List Int} (R:RcO Af wides sizes ks f) (no:∀ s ∈ ks,¬ ∀ x ∈ Ad,some x ∈ s):StpO Af wides sizes Ad 1000:=
 .inl ⟨rfl,fun _ s run h=>no s (R.all _ s (run.po .zero).1) h⟩
theorem RcO.stp {ks:List La} {f:La->Nat} {Ad:List Int} (R:RcO Af wides sizes ks f) (k4:sizes.length<=4) (n6:Af.length<=6) {s:La} (hs:s ∈ ks) (ha:∀ x ∈ Ad,some x ∈ s) (le:∀ s' ∈ ks,(∀ x ∈ Ad,some x ∈ s')->f s<=f s'):StpO Af wides sizes Ad (f s:Int):=by
 have b:=R.f_le k4 n6 hs;obtain ⟨u,m,e⟩:=R.snd s hs;refine .inr ⟨by lia,?_,fun ms s' run ha'=>?_⟩
 ·obtain ⟨ms,run,d⟩:=m.1.run;exact ⟨ms,s,run,ha,by lia⟩
 ·obtain ⟨p,d⟩:=run.po .zero;rw [qIX] at d;have hs':=R.all _ s' p;have:=le s' hs' ha';obtain ⟨u',m',e'⟩:=R.snd s' hs';have:u'<=0+ms.length:=by
   rcases Nat.lt_or_ge (0+ms.length) u' with z | z
   ·exact absurd p (m'.2 _ z)
   ·exact z
  lia
end
section
variable {Af:List (List Int)} {Aa:Int} {ks:List (List Int)} {f:List Int->Nat} {g:List Int->Prv} {Ad:List Int}
theorem Rch.none (R:Rch Af Aa ks f) (no:∀ s ∈ ks,¬ ∀ x ∈ Ad,x ∈ s):StpS Af Aa Ad 1000:=
 .inl ⟨rfl,fun _ s p h=>no s (R.all _ s p) h⟩
theorem Rch.stp (wf:WFn Af) (n6:Af.length<=6) (R:Rch Af Aa ks f) (FR:FinR Af Aa ks f g) {s:List Int} (B:BestOf ks f Ad s):StpS Af Aa Ad (f s:Int):=by
 have h1:=qR7 wf R FR.prov B.1;have h2:=R.len;have h3:2 ^ Af.length<=2 ^ 6:=R7 (by decide) n6
 have h4:(qJI (pth f g s)).length<=(pth f g s).length:=by
  unfold qJI
  first
  | exact List.length_filterMap_le _ _
  | (rw [A0];exact J2 _ _)
 have b:f s<=1000:=by
  have:=h1.2.1;have:=h1.2.2.2
  lia
 obtain ⟨u,m,e⟩:=R.snd s B.1;exact .inr ⟨by lia,⟨u,s,m.1,B.2.1,by lia⟩,fun t st p ha=>by
  have h5:=B.le st (R.all _ st p) ha;have h6:=R.le (R.all _ st p) p
  lia⟩
end
def qLK (Pt:Addr):Sp:=fun vs H Q _=>∃ (a wd sz t:Addr) (Af:List (List Int)) (wides sizes Ad:List Int),vs=[.ref a,.ref wd,.ref sz,.ref t]/\TabO H Pt/\TKit H a wd sz Af wides sizes/\sizes.length<=4/\H t=some (.tup (Ad.map V.int))/\Ad.length<=1000/\∀ v H',Same H H'->StpO Af wides sizes Ad v->Q (.int v) H'
def qKB (K:PySem.W.Frag) (Pt Po:Addr):Sp:=fun vs H Q E=>TabB H Pt/\TabO H Po/\qZH K vs H Q E
def qLJ:Sp:=fun vs H Q _=>∃ (d c:Addr) (t:Int) (ns:List Int),vs=[.ref d]/\StAt H d c t ns/\t<=TB - 20000/\
 ∀ T a wd sz Af wides sizes t' ns' H',StAt H' d c t' ns'->t<=t'->t'<=t+200->Keep d c H H'->H' T=some (.tup [.ref a,.ref wd,.ref sz])->TKit H' a wd sz Af wides sizes->(∀ x ∈ wides,1<=x/\x<=9)->(∀ x ∈ sizes,1<=x/\x<=9)->Q (.ref T) H'
theorem TabO.keep7 {H H':Hp} {Pt d c:Addr} {t:Int} {ns:List Int} (h:TabO H Pt) (S:StAt H d c t ns) (k:Keep d c H H'):TabO H' Pt:=k _ _ h (qCD h S.dict (by intro z;cases z)) (qCD h S.list (by intro z;cases z))
theorem TabB.keep7 {H H':Hp} {Pt d c:Addr} {t:Int} {ns:List Int} (h:TabB H Pt) (S:StAt H d c t ns) (k:Keep d c H H'):TabB H' Pt:=k _ _ h (qCD h S.dict (by intro z;cases z)) (qCD h S.list (by intro z;cases z))
section
variable {Af:List (List Int)} {wides sizes Ad:List Int} {a b:Int}
theorem qEG {l:List Int} {i:Nat} (h:i<l.length):l.getD i 0=l[i]:=by rw [B3,A8 h];rfl
theorem qQK (lw:wides.length=Af.length) (w9:∀ x ∈ wides,1<=x/\x<=9) (k:Nat):qV1 Af wides (D2 k 9):=fun r w hr hw=>by
 have hw:w<wides.length:=by lia
 rw [qEG hr,y9,qEG hw];have:=w9 _ (X0 hw)
 lia
theorem qLF (s9:∀ x ∈ sizes,1<=x/\x<=9):qV1 Af (D2 Af.length 1) sizes:=fun r w hr hw=>by
 have hw:w<(D2 Af.length (1:Int)).length:=by rw [F1];exact hw
 rw [qEG hr,qEG hw,y9];have:=s9 _ (X0 hr)
 lia
theorem qO4 {l:List Int} {j:Nat} (h:j<l.length) {r:Nat} (hr:r<l.length):(l.drop j++l.take j).getD (if r<j then r+(l.length - j) else r - j) 0=l.getD r 0:=by
 rw [B3,B3,A13,E5];by_cases c:r<j
 ·rw [if_pos c,if_neg (by lia),A39,if_pos (by lia)]
  congr 2
  lia
 ·rw [if_neg c,if_pos (by lia),l6]
  congr 2
  lia
theorem qTQ {j:Nat} (h:j<sizes.length) (hA:StpO Af wides sizes Ad a) (hB:StpO Af wides (sizes.drop j++sizes.take j) Ad b):b=a:=by
 have lt:(sizes.drop j++sizes.take j).length=sizes.length:=by rw [A4,E5,C3];lia
 have h1:b<=a:=hA.le hB (fun r=>if r<j then r+(sizes.length - j) else r - j) (fun r hr=>by (try dsimp only);rw [lt];split <;> lia) (fun r r' hr hr' e=>by (try dsimp only at e);split at e <;> split at e <;> lia) (fun r w hr hw=>by (try dsimp only);rw [qO4 h hr];exact id)
 have h2:a<=b:=hB.le hA (fun r=>if r<sizes.length - j then r+j else r - (sizes.length - j)) (fun r hr=>by rw [lt] at hr;(try dsimp only);split <;> lia) (fun r r' hr hr' e=>by rw [lt] at hr hr';(try dsimp only at e);split at e <;> split at e <;> lia) (fun r w hr hw=>by
  rw [lt] at hr
  try dsimp only
  have g:(if r<sizes.length - j then r+j else r - (sizes.length - j))<sizes.length:=by split <;> lia
  have:=qO4 h g;have e:(if (if r<sizes.length - j then r+j else r - (sizes.length - j))<j then (if r<sizes.length - j then r+j else r - (sizes.length - j))+(sizes.length - j) else (if r<sizes.length - j then r+j else r - (sizes.length - j)) - j)=r:=by
   by_cases c:r<sizes.length - j
   ·rw [if_pos c,if_neg (by lia)];lia
   ·rw [if_neg c,if_pos (by lia)];lia
  rw [e] at this;rw [this];exact id)
 lia
theorem qQR {j:Nat} {x:Int} (h:j<sizes.length) (hx:sizes.getD j 0<=x) (hA:StpO Af wides sizes Ad a) (hB:StpO Af wides (sizes.take j++[x]++sizes.drop (j+1)) Ad b):b<=a:=by
 have lt:(sizes.take j++[x]++sizes.drop (j+1)).length=sizes.length:=by rw [A4,A4,E5,C3,B1];lia
 refine hA.le hB (fun r=>r) (fun r hr=>by rw [lt];exact hr) (fun _ _ _ _ e=>e) fun r w hr hw c d=>c (Int.lt_of_le_of_lt ?_ d)
 rw [B3,B3,G5,A13,C3,V6 (by lia)]
 by_cases c1:r<j
 ·rw [if_pos c1,A39,if_pos c1];exact L6 _
 ·rw [if_neg c1];by_cases c2:r=j
  ·subst c2;rw [k7,<- B3];exact hx
  ·obtain ⟨k,hk⟩:∃ k,r - j=k+1:=⟨r - j - 1,by lia⟩
   rw [hk,List.singleton_append,t0,l6,show j+1+k=r by lia]
   exact L6 _
theorem qPJ {x:Int} (hA:StpO Af wides sizes Ad a) (hB:StpO Af wides (sizes++[x]) Ad b):b<=a:=by
 refine hA.le hB (fun r=>r) (fun r hr=>by rw [A4];lia) (fun _ _ _ _ e=>e) fun r w hr hw=>?_
 have e:(sizes++[x]).getD r 0=sizes.getD r 0:=by rw [B3,G2 hr,<- B3]
 show _->¬ (sizes++[x]).getD r 0<_;rw [e];exact id
theorem qKO {l:List Int} {r:Nat} (hr:r<l.length):(l.map fun x=>x+1).getD r 0=l.getD r 0+1:=by
 rw [qEG (by rw [A0];exact hr),qEG hr,List.getElem_map]
theorem qTR (lw:wides.length=Af.length) (hA:StpO Af wides sizes Ad a) (hB:StpO Af (wides.map fun x=>x+1) (sizes.map fun x=>x+1) Ad b):b=a:=by
 have h1:b<=a:=hA.le hB (fun r=>r) (fun r hr=>by rw [A0];exact hr) (fun _ _ _ _ e=>e) fun r w hr hw c=>by
  show ¬ (sizes.map fun x=>x+1).getD r 0<_;rw [qKO hr,qKO (by lia)]
  lia
 have h2:a<=b:=hB.le hA (fun r=>r) (fun r hr=>by rw [A0] at hr;exact hr) (fun _ _ _ _ e=>e) fun r w hr hw c=>by
  rw [A0] at hr;rw [qKO hr,qKO (by lia)] at c
  show ¬ sizes.getD r 0<_
  lia
 lia
end
theorem qOI (x:Int):∀ n:Nat,(D2 n [V.int x]).flatten=(D2 n x).map V.int
 | 0=>rfl
 | n+1=>by rw [N9,T1,qOI x n];rfl
theorem qR3 {K:PySem.W.Frag} {H:Hp} {t1:Addr} {x:Int} {n:Nat} {Q:VK} (h1:H t1=some (.tup [.int x])) (k1:1<=n) (k5:n<=1000) (h:∀ r H',Same H H'->H' r=some (.tup ((D2 n x).map V.int))->Q (.ref r) H'):qW9 K (.ref t1) (.int (n:Int)) H Q:=by
 refine ⟨t1,_,[.int x],rfl,rfl,SqT.of h1,by simp,by lia,by lia,by show 1<=1000;lia,fun e=>?_,fun e p hp=>?_⟩
 ·refine h t1 H (.refl _) ?_;rw [h1,show n=1 from by lia]
  rfl
 ·refine h p _ (qA2 hp _) ?_;rw [qA1,qOI,show ((n:Int)).toNat=n from by lia]
theorem TKit.with {H:Hp} {a wd sz wd' sz':Addr} {Af:List (List Int)} {wides sizes wides' sizes':List Int} (T:TKit H a wd sz Af wides sizes) (gw:H wd'=some (.tup (wides'.map V.int))) (lw:wides'.length=Af.length) (w9:∀ x ∈ wides',1<=x/\x<=9) (gs:H sz'=some (.tup (sizes'.map V.int))) (k1:1<=sizes'.length) (k4:sizes'.length<=4) (s9:∀ x ∈ sizes',1<=x/\x<=9):TKit H a wd' sz' Af wides' sizes':=
 ⟨T.net_,T.wf,T.n1,T.n6,gw,lw,fun x hx=>by have:=w9 x hx;lia,gs,k1,by lia,fun x hx=>by have:=s9 x hx;lia⟩
theorem qVN {n:Nat} {y:Int} (h1:1<=y) (h9:y<=9):∀ x ∈ D2 n y,1<=x/\x<=9:=fun x hx=>by rw [O2 hx];exact ⟨h1,h9⟩
theorem qXP {l:List Int} (h:0<l.length):∃ m,topD none l=some m/\∀ x ∈ l,x<=m:=by
 cases l with
 | nil=>cases h
 | cons y r=>
  obtain ⟨h1,h2,_⟩:=qQO r y;exact ⟨_,rfl,fun x hx=>by
   rcases B7.mp hx with e | z
   ·rw [e];exact h1
   ·exact h2 x z⟩
section
variable {P:Program} {w:World} {K:PySem.W.Frag} {mg:Str->Option Value} {base:Heap} {f:Addr} {fd:FuncData} {qEJ qDQ qFW qEI qB0 qDP qCY qSU qB5 qH4 qDN qH2 qH3 qD9 Pt cc qIV qC3 qGK qCH qDD qBX Po qKZ qKX qL0 qDO qKY:Addr} {qF1 qJG qMJ qH1 qEH qJF qHH qX3 qFD qNT qJC qNR qNS qIU qQ9 qGJ qK1 qH0 qNU qJD qSS qSQ qST qJE qSR:FuncData}
theorem sc_Lbegin:FnScope ["_law_script","_law_cells"] ["_law_script"] (qA9 qHM):=qCB
theorem ok_Lbegin (F:Fun K "_law_begin" "_law_begin" qHM f fd) (qXL:mg "list" = none):FnOk P w K mg base CX0 1 f fd ["_law_script"] (qQX K):=by
 refine F.okA sc_Lbegin fun cdv A outer s H vs Q E hr h=>?_;obtain ⟨a,ns,rfl,hS,h63,q⟩:=h;have hu:=qJA hr;have hu0:=hr.units0;refine ⟨_,(qA3 (qAC (i:=1) sc_Lbegin.nd rfl (E9 rfl) (qAI qMQ rfl qXL qXB (qA0 (qC5 qN7 (pv 0) qD4 (qD3 qA6)) qA4))) (qA3 (qBP (qAL (qRL hu0) (pv 1) (qBN qA4) (qAV _)) (qA8 (qAC (i:=1) sc_Lbegin.nd rfl (E9 rfl) (qBN (qA0 qA6 qA4)))) qAP) (qA8 (qAH (qWJ (qOM qB2 (pv 1) (qOM qB2 qA6 qWC)) rfl rfl (by simp) (by decide)))))),?_⟩
 try dsimp only [Cx.nox,Cx.wish,cxOf]
 refine ⟨_,rfl,_,rfl,a,_,rfl,hS,fun p hp=>?_⟩;rw [qC9];have hl:(cutI ns none (some 63)).length<=63:=F3 (qL7 _ _ _) h63;refine ⟨p,_,rfl,.inl (SqL.of qA1),fun c hc=>?_⟩;have s1:Same H (Ah (Ah H p (.lst ((cutI ns none (some 63)).map V.int))) c (.lst ((cutI ns none (some 63)).map V.int))):=(qA2 hp _).trans (qA2 hc _);refine ⟨_,rfl,(by show 0<=sizeLine;decide),fun e he=>?_⟩
 have hce:c ≠ e:=qA5 qA1 he;refine ⟨c,e,_,rfl,rfl,SqL.of (by rw [qA7 hce];exact qA1),SqL.of qA1,_,rfl,?_⟩
 have s2:=s1.trans (qA2 he (.lst []));cases hm:cutI ns none (some 63) with
 | nil=>
  rw [hm] at s2 he;refine iteT ?_;refine ⟨(by show 1<=sizeLine;decide),fun c2 hc2=>?_⟩
  have s3:=s2.trans (qA2 hc2 (.lst [.int 7]));intro d hd;refine ⟨_,rfl,?_⟩;have s4:=s3.trans (qA2 hd (.dK []));refine ⟨qA1,[(L4 (B6 "cells"),.ref c2),(L4 (B6 "turn"),.int 0)],rfl,(by show 2<=15;decide),?_⟩
  have ncd:c2 ≠ d:=qA5 qA1 hd;refine q d c2 [7] _ ⟨?_,?_,by decide,by decide,by decide⟩ ?_ ?_ ?_
  ·rw [qA1,qVI]
  ·rw [qA7 ncd,qA7 ncd];exact qA1
  ·rw [qK8];exact s3.trans (qA2 hd _)
  ·exact s3.free hd
  ·exact s2.free hc2
 | cons x r=>
  rw [hm] at s2 he hl;refine iteF ?_;intro d hd;refine ⟨_,rfl,?_⟩;refine ⟨qA1,[(L4 (B6 "cells"),.ref c),(L4 (B6 "turn"),.int 0)],rfl,(by show 2<=15;decide),?_⟩
  have gc:(Ah (Ah (Ah H p (.lst ((x::r).map V.int))) c (.lst ((x::r).map V.int))) e (.lst [])) c=some (.lst ((x::r).map V.int)):=by rw [qA7 hce];exact qA1
  have ncd:c ≠ d:=qA5 gc hd;refine q d c (x::r) _ ⟨?_,?_,by simp,hl,by decide⟩ ?_ ?_ ?_
  ·rw [qA1,qVI]
  ·rw [qA7 ncd,qA7 ncd];exact gc
  ·rw [qK8];exact s2.trans (qA2 hd _)
  ·exact s2.free hd
  ·rw [hm] at hc;exact (qA2 hp _).free hc
theorem sc_Ltake:FnScope ["_law_state","_law_many","_law_turn","_law_place","_law_cell","_law_digit","_law_mixed"] ["_law_state","_law_many"] (qA9 qKD):=qCB
theorem ok_Ltake (F:Fun K "_law_take" "_law_take" qKD f fd) (qBT:mg "len" = none) (qTN:mg "divmod" = none):FnOk P w K mg base CX0 1 f fd ["_law_state","_law_many"] qHZ:=by
 refine F.okA sc_Ltake fun cdv A outer s H vs Q E hr h=>?_;obtain ⟨d,c,t,ns,m,rfl,S,ht,hm1,hm2,q⟩:=h;have hu:=qJA hr;refine ⟨_,(qA3 (qAC (i:=2) sc_Ltake.nd rfl (E9 rfl) (qAQ qBV (qBJ hu (pv 0) qB2 (fun _ _=>rfl)) qA6)) (qA3 (qKH hu (pv 0) qB2 (pv 2) rfl) (qA3 (qAC (i:=3) sc_Ltake.nd rfl (E9 rfl) (qAQ qI9 (pv 2) (qAE qAB rfl qBT qBS (qA0 (qBJ hu (pv 0) qB2 (fun _ _=>rfl)) qA4)))) (qA3 (qAC (i:=4) sc_Ltake.nd rfl (E9 rfl) (qB3 qEE (qBJ hu (pv 0) qB2 (fun _ _=>rfl)) (pv 3) (fun _ _=>rfl))) (qA3 (qBP (qAL qWL (pv 4) (qAQ qYB qA6 qA6) (qAV _)) (qA3 (qVC (qAE qO0 rfl qTN qTC (qA0 (pv 4) (qA0 (pv 1) qA4))) (qRG rfl (qDH (qY7 (qBJ hu (pv 0) qB2 (fun _ _=>rfl)) (pv 3) qTT) (qDH (qBR (i:=5) sc_Ltake.nd rfl (E9 rfl)) qNE)))) (qA8 (qAH (pv 5)))) qAP) (qA3 (qAC (i:=6) sc_Ltake.nd rfl (E9 rfl) (qAQ qI9 (qAQ qJQ (qAQ qBV (qAQ qBV (qAQ qI9 (pv 4) qA6) (qAQ qJQ (qAQ qJQ (pv 2) (pv 2)) qA6)) qA6) qA6) qA6)) (qA3 (qAC (i:=6) sc_Ltake.nd rfl (E9 rfl) (qAQ qI9 (qAQ qJQ (pv 6) (pv 6)) qA6)) (qA8 (qAH (qAQ qI9 (qAQ qKJ (qAQ qI9 (qAQ qJQ (qAQ qBV (pv 6) (qAQ qJQ (pv 2) qA6)) qA6) qA6) qA6) (pv 1))))))))))),?_⟩
 try dsimp only [Cx.nox,Cx.wish,cxOf]
 have hpos:=S.pos;have hne:=S.ne;have ht':t<=1000000000:=ht;refine ⟨_,rfl,d,_,rfl,qX7 S,_,_,rfl,rfl,?_⟩;refine ⟨_,rfl,_,rfl,d,_,rfl,qX6 S,?_⟩;have S1:=S.turn (u:=t+1) (by lia)
 have k1:Keep d c H (Ah H d (.dK [(L4 (B6 "cells"),.ref c),(L4 (B6 "turn"),.int (t+1))])):=fun b o e n _=>by rw [qA7 n];exact e
 generalize Ah H d (.dK [(L4 (B6 "cells"),.ref c),(L4 (B6 "turn"),.int (t+1))])=H1 at S1 k1;have hlen:(((ns.map V.int).length:Nat):Int)=(ns.length:Int):=by rw [A0]
 refine ⟨_,rfl,_,rfl,d,_,rfl,qL3 S1,c,_,rfl,.inl (SqL.of S1.list),_,_,rfl,rfl,(by rw [hlen];lia),?_⟩
 have p0:0<=(t+1) % (((ns.map V.int).length:Nat):Int):=V2 _ (by rw [hlen];lia)
 have p1:(t+1) % (((ns.map V.int).length:Nat):Int)<(ns.length:Int):=by
  have:=R1 (t+1) (b:=(((ns.map V.int).length:Nat):Int)) (by rw [hlen];lia)
  rw [hlen] at this ⊢;exact this
 dsimp only;generalize (t+1) % (((ns.map V.int).length:Nat):Int)=pl at p0 p1;obtain ⟨j,rfl⟩:∃ j:Nat,pl=(j:Int):=⟨pl.toNat,by lia⟩
 have hj:j<ns.length:=by lia
 have hat:atI (ns.map V.int) (j:Int)=some (.int ns[j]):=qTE (by rw [D0,A8 hj];rfl)
 refine ⟨_,rfl,d,_,rfl,qL3 S1,_,rfl,c,_,_,_,rfl,rfl,SqL.of S1.list,hat,?_⟩;generalize hx:ns[j]=x at hat ⊢;refine ⟨_,rfl,_,_,rfl,rfl,⟨by decide,by decide,by decide⟩,_,_,rfl,rfl,_,rfl,?_⟩
 refine ite2 (fun _=>?_) (fun _=>?_)
 ·-- a great cell
  refine ⟨_,rfl,_,rfl,x,m,rfl,⟨by lia,by lia⟩,fun p hp=>?_⟩
  have S2:=S1.new hp (.tup [.int (x / m),.int (x % m)]);have npc:p ≠ c:=(qA5 S1.list hp).symm;refine ⟨p,_,rfl,SqT.of qA1,rfl,_,_,rfl,?_⟩;refine ⟨_,rfl,d,_,rfl,qL3 S2,_,rfl,c,_,_,j,rfl,rfl,S2.list,qWY (by rw [A0];exact hj),?_⟩
  refine ⟨_,_,rfl,rfl,?_⟩;refine ⟨_,rfl,?_⟩;have e1:(ns.map V.int).set j (.int (x / m))=(ns.set j (x / m)).map V.int:=by rw [List.map_set]
  rw [e1];refine q (x % m) (ns.set j (x / m)) _ (V2 _ (by lia)) (R1 _ (by lia)) (S2.put (by rw [P1])) ?_
  have k2:=k1.trans (qC7 (d:=d) (c:=c) hp (.tup [.int (x / m),.int (x % m)]));exact fun b o e n1 n2=>by rw [qA7 n2];exact k2 b o e n1 n2
 ·have b1:0<=x % 2147483629:=V2 _ (by decide)
  have b2:x % 2147483629<2147483629:=R1 _ (by decide)
  refine ⟨_,rfl,_,_,rfl,rfl,(by show (0:Int)<2147483629;decide),_,rfl,_,rfl,_,_,rfl,rfl,.inl ⟨by lia,by lia⟩,_,_,rfl,rfl,.inr ⟨by decide,by decide⟩,_,_,rfl,rfl,_,_,rfl,rfl,_,_,rfl,rfl,.inr ⟨by decide,by decide⟩,_,_,rfl,rfl,(by show (0:Int)<2147483647;decide),?_⟩
  have c1:=V2 ((x % 2147483629+(t+1) * (t+1) * 7919+11) * 48271) (b:=2147483647) (by decide)
  have c2:=R1 ((x % 2147483629+(t+1) * (t+1) * 7919+11) * 48271) (b:=2147483647) (by decide)
  dsimp only;generalize ((x % 2147483629+(t+1) * (t+1) * 7919+11) * 48271) % 2147483647=y at c1 c2;refine ⟨_,rfl,_,rfl,_,_,rfl,rfl,.inl ⟨by lia,by lia⟩,_,_,rfl,rfl,(by show (0:Int)<2147483587;decide),?_⟩
  dsimp only;generalize y * y % 2147483587=z;refine ⟨_,rfl,_,rfl,_,_,rfl,rfl,.inr ⟨by decide,by decide⟩,_,_,rfl,rfl,_,_,rfl,rfl,.inr ⟨by decide,by decide⟩,_,_,rfl,rfl,(by show (0:Int)<2147483629;decide),_,_,rfl,rfl,⟨by decide,by decide⟩,_,rfl,_,_,rfl,rfl,(by lia),?_⟩
  exact q _ ns _ (V2 _ (by lia)) (R1 _ (by lia)) S1 k1
theorem sc_Lsome_needs:FnScope ["_law_state","_law_k","_law_found","_law_turn","_law_far"] ["_law_state","_law_k"] (qA9 qCO):=qCB
theorem ok_Lsome_needs (F:Fun K "_law_some_needs" "_law_some_needs" qCO f fd) (qAU:Clb P w K mg base 1 qEJ qF1 "_law_take" ["_law_state","_law_many"] qHZ)
  (qBB:mg "range" = none) (qF3:mg "min" = none) (qB1:mg "tuple" = none) (qBQ:mg "sorted" = none) (qQJ:mg "set" = none):FnOk P w K mg base CX0 2 f fd ["_law_state","_law_k"] qN3:=by
 refine F.okA sc_Lsome_needs fun cdv A outer s H vs Q E hr h=>?_;obtain ⟨d,c,t,ns,k,rfl,S,ht,hk0,hk1,q⟩:=h;have ht':t<=1000000000 - 20:=ht;have qOY:Room 1 _:=hr;refine ⟨_,(qA3 (qAC (i:=2) sc_Lsome_needs.nd rfl (E9 rfl) (qBN qA4)) (qA3 (qFK G6 rfl (qB8 rfl qBB (qA0 (qAW qAU hr rfl (qA0 (pv 0) (qA0 qA6 qA4))) qA4)) (qBR (i:=3) sc_Lsome_needs.nd rfl (E9 rfl)) (qA3 (qAC (i:=4) sc_Lsome_needs.nd rfl (E9 rfl) (qB3 qEE (qBN (qA0 (qAE (qEO rfl) rfl qF3 qJ0 (qA0 (pv 1) (qA0 qA6 qA4))) (qA0 (pv 1) qA4))) (qAQ qKJ (qAW qAU hr rfl (qA0 (pv 0) (qA0 qA6 qA4))) qA6) (fun _ _=>rfl))) (qA8 (qBP (qAL qPT (pv 1) qA6 (qAV _)) (qA8 (qD2 (qLV F6 J8 J9 qCE (pv 2) (qA0 (qAQ qE9 (qAQ qE9 (pv 1) qA6) (qAW qAU hr rfl (qA0 (pv 0) (qA0 (pv 4) qA4)))) qA4)))) qAP)))) (qA8 (qAH (qAI qAJ rfl qB1 qBA (qA0 (qAE (qDS rfl) rfl qBQ qDE (qA0 (qAI (qL9 rfl) rfl qQJ qTA (qA0 (pv 2) qA4)) qA4)) qA4)))))),?_⟩
 try dsimp only [Cx.nox,Cx.wish,cxOf]
 refine cut fun N0 hN0=>?_;refine ⟨(by show 0<=sizeLine;decide),fun fo hfo=>?_⟩
 have S1:=S.new hfo (.lst []);have nd:fo ≠ d:=(qA5 S.dict hfo).symm;have nc:fo ≠ c:=(qA5 S.list hfo).symm;refine hN0 _ _ (cut fun N1 hN1=>?_);refine ⟨_,rfl,d,c,t,ns,5,rfl,S1,(by show t<=1000000000;lia),by decide,by decide,fun j ns1 H1 j0 j5 S2 K2=>?_⟩
 refine ⟨j,rfl,by lia,by lia,qGH (lo:=0) (n:=j.toNat) (fun i σ Hc=>∃ (t':Int) (ms fs:List Int) (v1 v2:Option V),σ=[some (.ref d),some (.int k),some (.ref fo),v1,v2]/\StAt Hc d c t' ms/\t<=t'/\t'<=t+1+2 * i/\Keep d c H Hc/\
  Hc fo=some (.lst (fs.map V.int))/\fs.length<=i/\∀ x ∈ fs,0<=x/\x<k)
  ⟨t+1,ns1,[],none,none,rfl,S2,by lia,by lia,(qC7 hfo _).trans K2,K2 _ _ qA1 nd nc,A5 _,fun _ z=>nomatch z⟩ ?_ ?_⟩
 ·refine fun i σ Hc hi hI_1=>opq fun G_1 hG_1=>?_;obtain ⟨t',ms,fs,v1,v2,rfl,S3,a1,a2,K3,h3,l3,m3⟩:=hI_1;refine hG_1 ?_;have hi5:(i:Int)<5:=by lia
  -- far
  refine nmD fun D1 d1 dr=>cut fun M0 hM0=>?_;refine ⟨_,rfl,k,4,rfl,_,rfl,(by show 2<=sizeLine;decide),fun p hp=>?_⟩
  have S4:=S3.new hp (.lst [.int (if (4:Int)<k then 4 else k),.int k])
  have npd:p ≠ d:=(qA5 S3.dict hp).symm;have npc:p ≠ c:=(qA5 S3.list hp).symm;refine ⟨_,rfl,d,c,t',ms,4,rfl,S4,(by show t'<=1000000000;lia),by decide,by decide,fun k2 ms2 H2 g0 g4 S5 K5=>?_⟩
  obtain ⟨far,hfar,ef⟩:=qZS (a:=if (4:Int)<k then 4 else k) (b:=k) g0 g4
  have far1:far<=k:=by rcases ef with e | e <;> (subst e;first | lia | (split <;> lia))
  have far2:0<k->1<=far:=fun hk=>by rcases ef with e | e <;> (subst e;first | lia | (split <;> lia))
  refine ⟨_,_,rfl,rfl,⟨by decide,by decide⟩,p,_,_,_,rfl,rfl,SqL.of (K5 _ _ qA1 npd npc),hfar,?_⟩
  have K6:=K3.trans ((qC7 (d:=d) (c:=c) hp (.lst [.int (if (4:Int)<k then 4 else k),.int k])).trans K5)
  have h6:H2 fo=some (.lst (fs.map V.int)):=K5 _ _ (by rw [qA7 (qA5 h3 hp)];exact h3) nd nc
  refine hM0 _ _ ?_;refine ⟨_,rfl,_,_,rfl,rfl,_,rfl,?_⟩;refine ite2 (fun ck=>?_) (fun ck=>?_)
  ·have hk:0<k:=of_decide_eq_true ck;refine ⟨_,rfl,.inl ⟨rfl,_,SqL.of h6⟩,_,rfl,_,_,rfl,rfl,_,rfl,_,rfl,d,c,t'+1,ms2,far,rfl,S5,(by show t'+1<=1000000000;lia),far2 hk,by lia,fun k3 ms3 H3 c0 c1 S6 K7=>?_⟩
   have h7:=K7 _ _ h6 nd nc;refine ⟨_,_,rfl,rfl,fo,_,_,rfl,rfl,h7,qAF (by rw [A0];lia),?_⟩
   have S8:StAt (Ah H3 fo (.lst (fs.map V.int++[.int (k - 1 - k3)]))) d c (t'+1+1) ms3:=⟨by rw [qA7 (G8 nd)];exact S6.dict,by rw [qA7 (G8 nc)];exact S6.list,S6.ne,S6.len,S6.pos⟩
   have hH:H fo=none:=hfo;refine d1 _ _ ⟨t'+1+1,ms3,fs++[k - 1 - k3],_,_,rfl,S8,by lia,by lia,fun b o e n1 n2=>?_,?_,?_,fun x hx=>?_⟩
   ·rw [qA7 (qA5 e hH)];exact (K6.trans K7) b o e n1 n2
   ·rw [qA1,C8];rfl
   ·rw [A4,B1];lia
   ·rcases A7.mp hx with hx | hx
    ·exact m3 x hx
    ·rw [A6.mp hx];lia
  ·exact d1 _ _ ⟨t'+1,ms2,fs,_,_,rfl,S5,by lia,by lia,K6,h6,by lia,m3⟩
 ·refine fun σ Hc hI_2=>opq fun G_2 hG_2=>?_;obtain ⟨t',ms,fs,v1,v2,rfl,S3,a1,a2,K3,h3,l3,m3⟩:=hI_2;refine hG_2 ?_;refine hN1 _ _ ?_;refine ⟨_,rfl,fo,fs,rfl,SqL.of h3,by lia,fun a ha=>?_⟩
  have sm1:=qA2 ha (SetO w a (dedI fs));refine ⟨a,dedI fs,rfl,.inr (.inr qA1),U7 (qL4 fs) (by lia),fun b zs hb hp hs=>?_⟩
  have sm2:=sm1.trans (qA2 hb (.lst (zs.map V.int)));refine ⟨b,_,rfl,.inl ⟨SqL.of qA1,fun r hr'=>?_⟩⟩;have sm3:=sm2.trans (qA2 hr' (.tup (zs.map V.int)));exact q r zs t' ms _ (S3.same sm3) (by lia) (by lia) (K3.trans (.of_same sm3)) qA1 (qKF hp hs m3)
theorem sc_Ltree_net:FnScope ["_law_state","_law_many","_law_open_ones","_law_found","_law_k","_law_so_many"] ["_law_state","_law_many"] (qA9 qDF):=qCB
theorem ok_Ltree_net (F:Fun K "_law_tree_net" "_law_tree_net" qDF f fd) (qAU:Clb P w K mg base 1 qEJ qF1 "_law_take" ["_law_state","_law_many"] qHZ)
  (qBB:mg "range" = none) (qF3:mg "min" = none) (qB1:mg "tuple" = none) (qBT:mg "len" = none):FnOk P w K mg base CX0 2 f fd ["_law_state","_law_many"] qV8:=by
 refine F.okA sc_Ltree_net fun cdv A outer s H vs Q E hr h=>?_;obtain ⟨d,c,t,ns,m,rfl,S,ht,hm0,hm1,q⟩:=h;have ht':t<=1000000000 - 1000:=ht;have qOY:Room 1 _:=hr;refine ⟨_,(qA3 (qAC (i:=2) sc_Ltree_net.nd rfl (E9 rfl) (qBN qA4)) (qA3 (qAC (i:=3) sc_Ltree_net.nd rfl (E9 rfl) (qBN qA4)) (qA3 (qFK G6 rfl (qB8 rfl qBB (qA0 (qAQ qE9 (pv 1) qA6) qA4)) (qBR (i:=4) sc_Ltree_net.nd rfl (E9 rfl)) (qA3 (qAC (i:=5) sc_Ltree_net.nd rfl (E9 rfl) (qAE (qEO rfl) rfl qF3 qJ0 (qA0 (qAE qAB rfl qBT qBS (qA0 (pv 2) qA4)) (qA0 (qB3 qEE (qBN (qA0 qA6 (qA0 qA6 (qA0 qA6 (qA0 qA6 (qA0 qA6 (qA0 qA6 qA4))))))) (qAW qAU hr rfl (qA0 (pv 0) (qA0 qA6 qA4))) (fun _ _=>rfl)) qA4)))) (qA3 (qD2 (qLV F6 J8 J9 qCE (pv 3) (qA0 (qAI qAJ rfl qB1 qBA (qA0 (qC5 qN7 (pv 2) (qD3 (qAQ qE9 (qAE qAB rfl qBT qBS (qA0 (pv 2) qA4)) (pv 5))) qD4) qA4)) qA4))) (qA8 (qAC (i:=2) sc_Ltree_net.nd rfl (E9 rfl) (qAQ qOR (qC5 qN7 (pv 2) qD4 (qD3 (qAQ qE9 (qAE qAB rfl qBT qBS (qA0 (pv 2) qA4)) (pv 5)))) (qBN (qA0 (pv 4) qA4)))))))) (qA8 (qAH (qAI qAJ rfl qB1 qBA (qA0 (qAQ qOR (pv 3) (qBN (qA0 (qAI qAJ rfl qB1 qBA (qA0 (pv 2) qA4)) qA4))) qA4))))))),?_⟩
 try dsimp only [Cx.nox,Cx.wish,cxOf]
 refine cut fun N0 hN0=>?_;refine ⟨(by show 0<=sizeLine;decide),fun o0 ho0=>?_⟩
 refine hN0 _ _ (cut fun N1 hN1=>?_);have S1:=S.new ho0 (.lst []);refine ⟨(by show 0<=sizeLine;decide),fun fo hfo=>?_⟩
 have S2:=S1.new hfo (.lst []);have nd:fo ≠ d:=(qA5 S1.dict hfo).symm;have nc:fo ≠ c:=(qA5 S1.list hfo).symm;have no0:o0 ≠ fo:=qA5 qA1 hfo;have hF:H fo=none:=(qA2 ho0 _).free hfo;refine hN1 _ _ (cut fun N2 hN2=>?_);refine ⟨_,rfl,_,_,rfl,rfl,m - 1,rfl,by lia,by lia,qGH (lo:=0) (n:=(m - 1).toNat) (fun i σ Hc=>∃ (t':Int) (ms os:List Int) (o:Addr) (rs:List Addr) (Af:List (List Int)) (v1 v2:Option V),σ=[some (.ref d),some (.int m),some (.ref o),some (.ref fo),v1,v2]/\StAt Hc d c t' ms/\t<=t'/\t'<=t+i/\Keep d c H Hc/\
  Hc o=some (.lst (os.map V.int))/\(o ≠ fo/\o ≠ c)/\Hc fo=some (.lst (rs.map V.ref))/\NetL Hc rs Af/\Af.length=i/\WFn Af/\Rise (i:Int) os)
  ⟨t,ns,[],o0,[],[],none,none,rfl,S2,by lia,by lia,(qC7 ho0 _).trans (qC7 hfo _),by rw [qA7 no0];exact qA1,⟨no0,(qA5 S.list ho0).symm⟩,qA1,.nil,rfl,WFn.nil,Rise.nil⟩ ?_ ?_⟩
 ·refine fun i σ Hc hi hI_3=>opq fun G_3 hG_3=>?_;obtain ⟨t',ms,os,o,rs,Af,v1,v2,rfl,S3,a1,a2,K3,h3,⟨n3,n3c⟩,f3,N3,l3,w3,r3⟩:=hI_3;refine hG_3 ?_;have hlo:os.length<=i:=r3.len;refine nmD fun D1 d1 dr=>cut fun M0 hM0=>?_;refine ⟨_,rfl,o,_,rfl,.inl (SqL.of h3),(by show 6<=sizeLine;decide),fun p hp=>?_⟩
  have S4:=S3.new hp (.lst [.int 0,.int 0,.int 1,.int 2,.int 2,.int 3]);have npd:p ≠ d:=(qA5 S3.dict hp).symm;have npc:p ≠ c:=(qA5 S3.list hp).symm;refine ⟨_,rfl,d,c,t',ms,6,rfl,S4,(by show t'<=1000000000;lia),by decide,by decide,fun k2 ms2 H2 g0 g6 S5 K5=>?_⟩
  obtain ⟨v,hv,v0,v3⟩:=qZR g0 g6;refine ⟨p,_,_,_,rfl,rfl,SqL.of (K5 _ _ qA1 npd npc),hv,?_⟩;have sm:Same Hc (Ah Hc p (.lst [.int 0,.int 0,.int 1,.int 2,.int 2,.int 3])):=qA2 hp _;have K6:=(Keep.of_same (d:=d) (c:=c) sm).trans K5;have nod:o ≠ d:=qCD h3 S3.dict (by intro z;cases z)
  have h6:H2 o=some (.lst (os.map V.int)):=K6 _ _ h3 nod n3c;have f6:H2 fo=some (.lst (rs.map V.ref)):=K6 _ _ f3 nd nc;have N6:NetL H2 rs Af:=N3.keep (fun r zs e=>S3.tup e) K6;refine ⟨_,_,rfl,?_⟩;dsimp only;have so0:0<=(if v<(((os.map V.int).length:Nat):Int) then v else (((os.map V.int).length:Nat):Int)):=by split <;> lia
  have so1:(if v<(((os.map V.int).length:Nat):Int) then v else (((os.map V.int).length:Nat):Int))<=(os.length:Int):=by rw [A0];split <;> lia
  generalize (if v<(((os.map V.int).length:Nat):Int) then v else (((os.map V.int).length:Nat):Int))=so at so0 so1
  obtain ⟨kk,ek⟩:∃ kk:Nat,(os.length:Int) - so=(kk:Int):=⟨((os.length:Int) - so).toNat,by lia⟩
  have ek':(((os.map V.int).length:Nat):Int) - so=(kk:Int):=by rw [A0];exact ek
  have hkk:kk<=os.length:=by lia
  -- found.append(tuple(open_ones[len(open_ones) - so_many:]))
  refine hM0 _ _ (cut fun M1 hM1=>?_);refine ⟨_,rfl,.inl ⟨rfl,_,SqL.of f6⟩,_,rfl,_,rfl,o,_,rfl,.inl (SqL.of h6),_,rfl,_,_,rfl,rfl,_,rfl,o,_,rfl,SqL.of h6,fun p1 hp1=>?_⟩;refine ⟨p1,_,rfl,.inl ⟨SqL.of qA1,fun r hr1=>?_⟩⟩;rw [ek',qC9,qGN _ _ hkk] at hr1 ⊢;have sm1:=(qA2 hp1 (.lst ((os.drop kk).map V.int))).trans (qA2 hr1 (.tup ((os.drop kk).map V.int)));have f7:=sm1 _ _ f6;have h7:=sm1 _ _ h6;have N7:NetL _ (rs++[r]) (Af++[os.drop kk]):=qD0 (N6.same fun r zs e=>sm1 _ _ e) (show (Ah (Ah H2 p1 (.lst ((os.drop kk).map V.int))) r (.tup ((os.drop kk).map V.int))) r=some (.tup ((os.drop kk).map V.int)) from qA1);have S7:=S5.same sm1;have K7:=K6.trans (.of_same sm1);generalize (Ah (Ah H2 p1 (.lst ((os.drop kk).map V.int))) r (.tup ((os.drop kk).map V.int)))=H7 at f7 h7 N7 S7 K7 ⊢;refine ⟨fo,_,_,rfl,rfl,f7,qAF (by rw [A0,NetAt.len N3];lia),?_⟩
  have e8:rs.map V.ref++[V.ref r]=(rs++[r]).map V.ref:=by rw [C8];rfl
  rw [e8];have S8:StAt (Ah H7 fo (.lst ((rs++[r]).map V.ref))) d c (t'+1) ms2:=⟨by rw [qA7 (G8 nd)];exact S7.dict,by rw [qA7 (G8 nc)];exact S7.list,S7.ne,S7.len,S7.pos⟩
  have h8:(Ah H7 fo (.lst ((rs++[r]).map V.ref))) o=some (.lst (os.map V.int)):=by rw [qA7 n3];exact h7
  have N8:NetL (Ah H7 fo (.lst ((rs++[r]).map V.ref))) (rs++[r]) (Af++[os.drop kk]):=N7.same fun r' zs e=>by rw [qA7 (qCD e f7 (by intro z;cases z))];exact e
  have K8:Keep d c H (Ah H7 fo (.lst ((rs++[r]).map V.ref))):=fun b u e n1 n2=>by rw [qA7 (qA5 e hF)];exact (K3.trans K7) b u e n1 n2
  have f8:(Ah H7 fo (.lst ((rs++[r]).map V.ref))) fo=some (.lst ((rs++[r]).map V.ref)):=qA1;generalize Ah H7 fo (.lst ((rs++[r]).map V.ref))=H8 at S8 h8 N8 K8 f8 ⊢
  -- open_ones=open_ones[:len(open_ones) - so_many]+[k]
  refine hM1 _ _ ?_;refine ⟨_,rfl,_,rfl,o,_,rfl,.inl (SqL.of h8),_,rfl,_,_,rfl,rfl,_,rfl,o,_,rfl,SqL.of h8,fun p2 hp2=>?_⟩;rw [ek',qC9,qL6];refine ⟨_,rfl,(by show 1<=sizeLine;decide),fun p3 hp3=>?_⟩
  have n23:p2 ≠ p3:=qA5 qA1 hp3;refine ⟨p2,p3,_,_,rfl,rfl,by rw [qA7 n23];exact qA1,qA1,G0 (qAF (by rw [A0,C3,B1];lia)),fun p4 hp4=>?_⟩
  have sm2:=((qA2 hp2 (.lst ((os.take kk).map V.int))).trans (qA2 hp3 (.lst [.int (0+(i:Int))]))).trans (qA2 hp4 (.lst ((os.take kk).map V.int++[.int (0+(i:Int))])));have e9:(os.take kk).map V.int++[V.int (0+(i:Int))]=(os.take kk++[(i:Int)]).map V.int:=by rw [C8,Int.zero_add];rfl
  have nf4:p4 ≠ fo:=(qA5 ((qA2 hp3 _) _ _ ((qA2 hp2 _) _ _ f8)) hp4).symm;have nc4:p4 ≠ c:=(qA5 ((qA2 hp3 _) _ _ ((qA2 hp2 _) _ _ S8.list)) hp4).symm;refine d1 _ _ ⟨t'+1,ms2,os.take kk++[(i:Int)],p4,rs++[r],Af++[os.drop kk],_,_,rfl,S8.same sm2,by lia,by lia,K8.trans (.of_same sm2),by rw [<- e9];exact qA1,⟨nf4,nc4⟩,sm2 _ _ f8,N8.same fun r' zs e=>sm2 _ _ e,by rw [A4,B1,l3],w3.snoc ?_,?_⟩
  ·rw [l3];exact r3.sub (V9 _ _)
  ·have:=(r3.sub (Z1 kk os)).snoc (by lia)
   rw [show ((i+1:Nat):Int)=(i:Int)+1 by lia]
   exact this
 ·refine fun σ Hc hI_4=>opq fun G_4 hG_4=>?_;obtain ⟨t',ms,os,o,rs,Af,v1,v2,rfl,S3,a1,a2,K3,h3,⟨n3,n3c⟩,f3,N3,l3,w3,r3⟩:=hI_4;refine hG_4 ?_;refine hN2 _ _ ?_;refine ⟨_,rfl,_,rfl,o,_,rfl,.inl ⟨SqL.of h3,fun r hr1=>?_⟩⟩;refine ⟨(by show 1<=sizeLine;decide),fun p hp=>?_⟩
  have sm1:=(qA2 hr1 (.tup (os.map V.int))).trans (qA2 hp (.lst [.ref r]));refine ⟨fo,p,_,_,rfl,rfl,sm1 _ _ f3,qA1,G0 (qAF (by rw [A0,NetAt.len N3,B1];lia)),fun p2 hp2=>?_⟩
  refine ⟨p2,_,rfl,.inl ⟨SqL.of qA1,fun a ha=>?_⟩⟩;have sm2:=(sm1.trans (qA2 hp2 (.lst (rs.map V.ref++[.ref r])))).trans (qA2 ha (.tup (rs.map V.ref++[.ref r])));have gr:=(qA2 ha (.tup (rs.map V.ref++[.ref r]))) _ _ ((qA2 hp2 (.lst (rs.map V.ref++[.ref r]))) _ _ ((qA2 hp (.lst [.ref r])) r _ (qA1 (H:=Hc) (o:=.tup (os.map V.int)))));have e8:rs.map V.ref++[V.ref r]=(rs++[r]).map V.ref:=by rw [C8];rfl
  refine q a (Af++[os]) t' ms _ (S3.same sm2) (by lia) (by lia) (K3.trans (.of_same sm2)) ⟨rs++[r],by rw [<- e8];exact qA1,qD0 (N3.same fun r' zs e=>sm2 _ _ e) gr⟩ (w3.snoc (by rw [l3];exact r3)) ?_
  rw [A4,B1,l3]
  lia
theorem sc_Lnet:FnScope ["_law_state","_law_many","_law_way","_law_wide","_law_some","_law_half"] ["_law_state","_law_many"] (qA9 qOH):=qCB
theorem ok_Lnet (F:Fun K "_law_net" "_law_net" qOH f fd) (qAU:Clb P w K mg base 1 qEJ qF1 "_law_take" ["_law_state","_law_many"] qHZ)
  (qDU:Clb P w K mg base 2 qDQ qJG "_law_some_needs" ["_law_state","_law_k"] qN3)
  (qJ1:Clb P w K mg base 2 qFW qMJ "_law_tree_net" ["_law_state","_law_many"] qV8)
  (qBB:mg "range" = none) (qTL:mg "max" = none) (qTM:mg "int" = none) (qN1:mg "enumerate" = none) (qB1:mg "tuple" = none) (qBQ:mg "sorted" = none) (qQJ:mg "set" = none):FnOk P w K mg base CX0 3 f fd ["_law_state","_law_many"] qXV:=by
 refine F.okA sc_Lnet fun cdv A outer s H vs Q E hr h=>?_;obtain ⟨d,c,t,ns,m,rfl,S,ht,hm0,hm1,q⟩:=h;have ht':t<=1000000000 - 10000:=ht;have qTJ:Room 2 _:=hr;have qVO:Room 2 _:=hr;refine ⟨_,(qA3 (qAC (i:=2) sc_Lnet.nd rfl (E9 rfl) (qAW qAU hr rfl (qA0 (pv 0) (qA0 qA6 qA4)))) (qA3 (qAC (i:=3) sc_Lnet.nd rfl (A16 rfl) (qAQ qBV qA6 (qAW qAU hr rfl (qA0 (pv 0) (qA0 qA6 qA4))))) (qA3 (qBP (qAL qFO (pv 2) qA6 (qAV _)) (qA8 (qAH (qAI qAJ rfl qB1 qBA (qA0 (qG8 rfl (lcs (own:=["_law_k"]) (fv:=[3]) (by kernel_rfl)) (qB8 rfl qBB (qA0 (pv 1) qA4)) (fun z1=>qCC 0) (fun z1=>qBG) (fun z1=>(qAI (qJL rfl) rfl qB1 qBA (qA0 (qAI qT7 rfl qBB qUV (qA0 (qAE (qT9 rfl) rfl qTL qVV (qA0 qA6 (qA0 (qAQ qE9 (pv 0) (pv 1)) qA4))) (qA0 (pv 0) qA4))) qA4)))) qA4)))) qAP) (qA3 (qBP (qAL qFO (pv 2) qA6 (qAV _)) (qA3 (qI4 (i:=4) sc_Lnet.nd rfl rfl rfl (lcs (own:=["_law_k"]) (fv:=[3]) (by kernel_rfl)) (qB8 rfl qBB (qA0 (pv 1) qA4)) (fun z2=>qCC 0) (fun z2=>qBG) (fun z2=>(qAQ qOR (qAQ qVH (qBN (qA0 (qAQ qE9 (pv 0) (pv 1)) qA4)) (qAI qIZ rfl qTM qTB (qA0 (qI7 qWL (pv 0) (pv 1) (qAV _)) qA4))) (qAQ qVH (qBN (qA0 (qAQ qE9 (pv 0) qA6) qA4)) (qAI qIZ rfl qTM qTB (qA0 (qI7 qPT (qAQ qI9 (pv 0) (pv 1)) qA6 (qAV _)) qA4))))) (by kernel_rfl)) (qA8 (qAH (qAI qAJ rfl qB1 qBA (qA0 (qG8 rfl (lcs (own:=["_law_needs"]) (fv:=[]) (by kernel_rfl)) (qD5 (pv 4)) (fun z3=>qCC 0) (fun z3=>qBG) (fun z3=>(qAI (qFX (K:=K) rfl) rfl qB1 qBA (qA0 (qAE (qMP (K:=K) (w:=w) rfl rfl rfl) rfl qBQ qDE (qA0 (qAI (qT6 (K:=K) (w:=w) rfl rfl rfl) rfl qQJ qTA (qA0 (pv 0) qA4)) qA4)) qA4)))) qA4))))) qAP) (qA3 (qBP (qAL qFO (pv 2) qA6 (qAV _)) (qA8 (qAH (qAW qJ1 hr rfl (qA0 (pv 0) (qA0 (pv 1) qA4))))) qAP) (qA3 (qBP (qAL qFO (pv 2) qA6 (qAV _)) (qA3 (qAC (i:=5) sc_Lnet.nd rfl (A16 rfl) (qAQ qKJ (pv 1) qA6)) (qA3 (qI4 (i:=4) sc_Lnet.nd rfl rfl rfl (lcs (own:=["_law_k"]) (fv:=[0,5]) (by kernel_rfl)) (qB8 rfl qBB (qA0 (pv 1) qA4)) (fun z4=>qCC 0) (fun z4=>qBG) (fun z4=>(qAW qDU hr rfl (qA0 (pv 1) (qA0 (qDI (qAL qPS (pv 0) (pv 2) (qAV _)) (pv 0) (qAQ qE9 (pv 0) (pv 2))) qA4)))) (by kernel_rfl)) (qA8 (qAH (qAI qAJ rfl qB1 qBA (qA0 (qG8 rfl (lcs (own:=["_law_k","_law_needs"]) (fv:=[5]) (by kernel_rfl)) (qWE rfl qN1 qMR (qA0 (pv 4) qA4)) (fun z5=>qWF (K:=K) (n:=2) rfl rfl (qDH (qCC 0) (qDH (qCC 1) qNE)) rfl rfl) (fun z5=>qBG) (fun z5=>(qDI (qAL qPS (pv 0) (pv 2) (qAV _)) (pv 1) (qAI (qFX (K:=K) rfl) rfl qB1 qBA (qA0 (qG8 (X:=lcCx _ _ _ _ z5) rfl (lcs (own:=["_law_n"]) (fv:=[2]) (by kernel_rfl)) (qRF (K:=K) rfl (pv 1)) (fun z6=>qCC 0) (fun z6=>qBG) (fun z6=>(qAQ qBV (pv 0) (pv 1)))) qA4))))) qA4)))))) qAP) (qA8 (qAH (qAI qAJ rfl qB1 qBA (qA0 (qG8 rfl (lcs (own:=["_law_k"]) (fv:=[0]) (by kernel_rfl)) (qB8 rfl qBB (qA0 (pv 1) qA4)) (fun z7=>qCC 0) (fun z7=>qBG) (fun z7=>(qAW qDU hr rfl (qA0 (pv 1) (qA0 (pv 0) qA4))))) qA4)))))))))),?_⟩
 try dsimp only [Cx.nox,Cx.wish,cxOf]
 refine cut fun N1 hN1=>?_;refine ⟨_,rfl,d,c,t,ns,8,rfl,S,(by show t<=1000000000;lia),by decide,by decide,fun way ns1 H1 w0 w8 S1 K1=>?_⟩
 refine hN1 _ _ (cut fun N2 hN2=>?_);refine ⟨_,rfl,d,c,t+1,ns1,4,rfl,S1,(by show t+1<=1000000000;lia),by decide,by decide,fun wd ns2 H2 wd0 wd4 S2 K2=>⟨_,_,rfl,rfl,?_⟩⟩
 dsimp only;have K12:=K1.trans K2;generalize hwide:(1:Int)+wd=wide;have wi0:1<=wide:=by lia
 have wi4:wide<=4:=by lia
 refine hN2 _ _ (cut fun N3 hN3=>?_);refine ⟨_,rfl,rfl,_,rfl,?_⟩;refine ite2 (fun _=>?_) (fun _=>?_)
 ·refine ⟨_,rfl,m,rfl,by lia,by lia,fun p hp=>?_⟩
  refine qC6 (p:=p) (lo:=0) (n:=m.toNat) (fun i σ Hc=>∃ (v:Option V) (rs:List Addr) (Af:List (List Int)),σ=[v,some (.int wide)]/\Same H2 Hc/\Hc p=some (.lst (rs.map V.ref))/\NetL Hc rs Af/\Af.length=i/\WFn Af) ?_ ?_ ?_
  ·exact ⟨none,[],[],rfl,qA2 hp _,qA1,.nil,rfl,WFn.nil⟩
  ·refine fun i σ Hc hi hI_1=>opq fun G_1 hG_1=>?_;obtain ⟨v,rs,Af,rfl,sm,hpc,N,hl,wf⟩:=hI_1;refine hG_1 ?_;refine ⟨_,rfl,_,rfl,_,_,rfl,rfl,0,_,rfl,_,rfl,_,_,rfl,fun p1 hp1=>?_⟩;refine ⟨p1,_,_,rfl,qA1,by split <;> lia,by split <;> lia,by lia,by lia,fun r hr1=>?_⟩
   have lo0:0<=(if (0+(i:Int)) - wide > 0 then (0+(i:Int)) - wide else 0):=by split <;> lia
   have hri:=qNC (hi:=0+(i:Int)) lo0;dsimp only;rw [qNB];generalize qBD (if (0+(i:Int)) - wide > 0 then (0+(i:Int)) - wide else 0) (0+(i:Int))=zs at hri ⊢
   generalize HO.rng (if (0+(i:Int)) - wide > 0 then (0+(i:Int)) - wide else 0) (0+(i:Int))=ho at hp1 hr1 ⊢
   have s1:=(qA2 hp1 ho).trans (qA2 hr1 (.tup (zs.map V.int)));have g1:=s1 _ _ hpc;refine ⟨_,g1,qAF (by rw [A0,NetAt.len N];lia),?_⟩
   rw [qAT];refine ⟨_,rs++[r],Af++[zs],rfl,qAD (sm.trans s1) hp,qA1,qEV (qD0 (N.same fun r' ys e=>s1 _ _ e) qA1) g1,by rw [A4,B1,hl],wf.snoc ?_⟩
   rw [hl];exact hri.mono (by lia)
  ·refine fun σ Hc hI_2=>opq fun G_2 hG_2=>?_;obtain ⟨v,rs,Af,rfl,sm,hpc,N,hl,wf⟩:=hI_2;refine hG_2 ?_;refine ⟨p,_,rfl,.inl ⟨SqL.of hpc,fun a ha=>?_⟩⟩;have s1:=qA2 ha (.tup (rs.map V.ref));exact q a Af (t+1+1) ns2 _ (S2.same (sm.trans s1)) (by lia) (by lia) (K12.trans (.of_same (sm.trans s1))) ⟨rs,qA1,N.same fun r ys e=>s1 _ _ e⟩ wf (by rw [hl];lia)
 refine hN3 _ _ (cut fun N4 hN4=>?_);refine ⟨_,rfl,rfl,_,rfl,?_⟩;refine ite2 (fun _=>?_) (fun _=>?_)
 ·refine ⟨_,rfl,m,rfl,by lia,by lia,fun p hp=>?_⟩
  refine qC6 (p:=p) (lo:=0) (n:=m.toNat) (fun i σ Hc=>∃ (v:Option V) (rs:List Addr) (ls:List (List Int)),σ=[v,some (.int wide)]/\Same H2 Hc/\Hc p=some (.lst (rs.map V.ref))/\Paired (fun r zs=>r ≠ p/\Hc r=some (.lst (zs.map V.int))) rs ls/\ls.length=i/\
   ∀ (j:Nat) zs,ls[j]?=some zs->zs.length<=2/\∀ x ∈ zs,0<=x/\x<(j:Int)) ?_ ?_ ?_
  ·exact ⟨none,[],[],rfl,qA2 hp _,qA1,.nil,rfl,fun j zs e=>by simp at e⟩
  ·refine fun i σ Hc hi hI_3=>opq fun G_3 hG_3=>?_;obtain ⟨v,rs,ls,rfl,sm,hpc,N,hl,wf⟩:=hI_3;refine hG_3 ?_;refine ⟨_,rfl,_,rfl,_,_,rfl,rfl,(by show 1<=sizeLine;decide),fun a1 ha1=>?_⟩
   refine ⟨_,rfl,_,rfl,_,_,rfl,rfl,.inr ⟨_,rfl,?_⟩⟩;refine ⟨a1,_,_,rfl,rfl,qA1,by split <;> decide,by split <;> decide,?_,fun a2 ha2=>?_⟩
   ·have:∀ b:Bool,[V.int (0+(i:Int) - wide)].length * (if b=true then (1:Int) else 0).toNat<=sizeLine:=by intro b;cases b <;> simp [sizeLine_eq]
    exact this _
   dsimp only;rw [qY2];refine ⟨_,rfl,_,_,rfl,rfl,(by show 1<=sizeLine;decide),fun a3 ha3=>?_⟩
   refine ⟨_,rfl,_,rfl,_,_,rfl,rfl,(by show 0<wide;lia),_,_,rfl,rfl,.inr ⟨_,rfl,?_⟩⟩
   refine ⟨a3,_,_,rfl,rfl,qA1,by split <;> decide,by split <;> decide,?_,fun a4 ha4=>?_⟩
   ·have:∀ b:Bool,[V.int (0+(i:Int) - 1)].length * (if b=true then (1:Int) else 0).toNat<=sizeLine:=by intro b;cases b <;> simp [sizeLine_eq]
    exact this _
   dsimp only;rw [qY2];have b1:∀ x ∈ (if decide (wide<=0+(i:Int))=true then [0+(i:Int) - wide] else []),0<=x/\x<(i:Int):=by
    intro x hx
    split at hx
    ·rename_i hd
     have:=of_decide_eq_true hd;rw [A6.mp hx];lia
    ·cases hx
   have b2:∀ x ∈ (if decide (0<(0+(i:Int)) % wide)=true then [0+(i:Int) - 1] else []),0<=x/\x<(i:Int):=by
    intro x hx
    split at hx
    ·rename_i hd
     have hd':=of_decide_eq_true hd;have:(i:Int) ≠ 0:=by
      intro e;rw [e] at hd';simp at hd'
     rw [A6.mp hx];lia
    ·cases hx
   have c1:(if decide (wide<=0+(i:Int))=true then [0+(i:Int) - wide] else []).length<=1:=by split <;> simp
   have c2:(if decide (0<(0+(i:Int)) % wide)=true then [0+(i:Int) - 1] else []).length<=1:=by split <;> simp
   generalize (if decide (wide<=0+(i:Int))=true then [0+(i:Int) - wide] else [])=z1 at b1 c1 ha3 ha4 ⊢
   generalize (if decide (0<(0+(i:Int)) % wide)=true then [0+(i:Int) - 1] else [])=z2 at b2 c2 ⊢
   have s2:=(qA2 ha3 (.lst [.int (0+(i:Int) - 1)])).trans (qA2 ha4 (.lst (z2.map V.int)));refine ⟨a2,a4,_,_,rfl,rfl,s2 _ _ qA1,qA1,G0 (qAF (by rw [A0,A0];lia)),fun a5 ha5=>?_⟩
   have s1:=(qA2 ha1 (.lst [.int (0+(i:Int) - wide)])).trans (qA2 ha2 (.lst (z1.map V.int)));have s3:=(s1.trans s2).trans (qA2 ha5 (.lst (z1.map V.int++z2.map V.int)));have e5:z1.map V.int++z2.map V.int=(z1++z2).map V.int:=by rw [C8]
   rw [e5] at s3 ⊢;have g1:=s3 _ _ hpc;have n5:a5 ≠ p:=(qA5 ((s1.trans s2) _ _ hpc) ha5).symm;refine ⟨_,g1,qAF (by rw [A0,B9 N];lia),?_⟩
   rw [qAT];refine ⟨_,rs++[a5],ls++[z1++z2],rfl,qAD (sm.trans s3) hp,qA1,J6 (qC1 N fun r zs e=>⟨e.1,by rw [qA7 e.1];exact s3 _ _ e.2⟩) ⟨n5,by rw [qA7 n5];exact qA1⟩,by rw [A4,B1,hl],fun j zs e=>?_⟩
   rcases qOG e with e | ⟨rfl,rfl⟩
   ·exact wf j zs e
   ·rw [hl];refine ⟨by rw [A4];lia,fun x hx=>?_⟩
    rcases A7.mp hx with hx | hx
    ·exact b1 x hx
    ·exact b2 x hx
  ·refine fun σ Hc hI_4=>opq fun G_4 hG_4=>?_;obtain ⟨v,rs,ls,rfl,sm,hpc,N,hl,wf⟩:=hI_4;refine hG_4 ?_;refine ⟨_,rfl,p,rfl,⟨_,SqL.of hpc⟩,fun p' hp'=>?_⟩;refine qGX (p:=p') (a:=p) (xs:=rs.map V.ref) (fun i σ Hd=>∃ (v:Option V) (rs':List Addr) (Af:List (List Int)),σ=[v]/\Same Hc Hd/\Hd p'=some (.lst (rs'.map V.ref))/\NetL Hd rs' Af/\Af.length=i/\WFn Af) ?_ ?_ ?_ ?_
   ·exact ⟨none,[],[],rfl,qA2 hp' _,qA1,.nil,rfl,WFn.nil⟩
   ·rintro i σ Hd hi ⟨v,rs',Af,rfl,sm2,_⟩;exact SqL.of (sm2 _ _ hpc)
   ·refine fun i x σ Hd hx hI_6=>opq fun G_6 hG_6=>?_;obtain ⟨v,rs',Af,rfl,sm2,hpd,N2,hl2,wf2⟩:=hI_6;obtain ⟨r,hr1,rfl⟩:=qC2 hx;obtain ⟨zs,hz,_,hr2⟩:=qAO N hr1;obtain ⟨l2,m2⟩:=wf i zs hz;refine hG_6 ?_;refine ⟨_,rfl,r,zs,rfl,SqL.of (sm2 _ _ hr2),by lia,fun a ha=>?_⟩
    refine ⟨a,dedI zs,rfl,.inr (.inr qA1),U7 (qL4 zs) (by lia),fun b ys hb hpm hs=>?_⟩
    refine ⟨b,_,rfl,.inl ⟨SqL.of qA1,fun r2 hr3=>?_⟩⟩;have s1:=((qA2 ha (SetO w a (dedI zs))).trans (qA2 hb (.lst (ys.map V.int)))).trans (qA2 hr3 (.tup (ys.map V.int)));have g1:=s1 _ _ hpd;have lrs:rs.length=m.toNat:=by rw [B9 N,hl]
    have hi:i<rs.length:=(B5.mp hr1).1;refine ⟨_,g1,qAF (by rw [A0,NetAt.len N2];lia),?_⟩
    rw [qAT];refine ⟨_,rs'++[r2],Af++[ys],rfl,qAD (sm2.trans s1) hp',qA1,qEV (qD0 (N2.same fun r' zs' e=>s1 _ _ e) qA1) g1,by rw [A4,B1,hl2],wf2.snoc ?_⟩
    rw [hl2];exact qKF hpm hs m2
   ·refine fun σ Hd hI_7=>opq fun G_7 hG_7=>?_;obtain ⟨v,rs',Af,rfl,sm2,hpd,N2,hl2,wf2⟩:=hI_7;refine hG_7 ?_;refine ⟨p',_,rfl,.inl ⟨SqL.of hpd,fun a ha=>?_⟩⟩;have s1:=qA2 ha (.tup (rs'.map V.ref));refine q a Af (t+1+1) ns2 _ (S2.same ((sm.trans sm2).trans s1)) (by lia) (by lia) (K12.trans (.of_same ((sm.trans sm2).trans s1))) ⟨rs',qA1,N2.same fun r ys e=>s1 _ _ e⟩ wf2 ?_
    rw [hl2,A0,B9 N,hl]
    lia
 refine hN4 _ _ (cut fun N5 hN5=>?_);refine ⟨_,rfl,rfl,_,rfl,?_⟩;refine ite2 (fun _=>?_) (fun _=>?_)
 ·refine ⟨_,rfl,_,rfl,d,c,t+1+1,ns2,m,rfl,S2,?_,hm0,hm1,fun a Af t' ms H' a1 a2 a3 a4 a5 a6 a7=>?_⟩
  ·show t+1+1<=1000000000 - 1000;lia
  ·exact q a Af t' ms H' a1 (by lia) (by lia) (K12.trans a4) a5 a6 a7
 refine hN5 _ _ (cut fun N6 hN6=>?_);refine ⟨_,rfl,rfl,_,rfl,?_⟩;refine ite2 (fun _=>?_) (fun _=>?_)
 ·refine ⟨_,rfl,_,_,rfl,rfl,⟨by decide,by decide⟩,?_⟩
  dsimp only;have hf0:0<=m / 2:=by lia
  have hf1:m / 2<=m:=by lia
  generalize m / 2=half at hf0 hf1;refine ⟨_,rfl,m,rfl,by lia,by lia,fun p hp=>?_⟩
  refine qC6 (p:=p) (lo:=0) (n:=m.toNat) (fun i σ Hc=>∃ (v:Option V) (t':Int) (ms:List Int) (rs:List Addr) (Af:List (List Int)),σ=[v,some (.ref d),some (.int half)]/\StAt Hc d c t' ms/\t+2<=t'/\t'<=t+2+9 * i/\Keep d c H2 Hc/\Hc p=some (.lst (rs.map V.ref))/\NetL Hc rs Af/\Af.length=i/\
   ∀ (j:Nat) zs,Af[j]?=some zs->Rise (if (j:Int)<half then (j:Int) else (j:Int) - half) zs) ?_ ?_ ?_
  ·exact ⟨none,t+1+1,ns2,[],[],rfl,S2.new hp _,by lia,by lia,qC7 hp _,qA1,.nil,rfl,fun j zs e=>by simp at e⟩
  ·refine fun i σ Hc hi hI_8=>opq fun G_8 hG_8=>?_;obtain ⟨v,t',ms,rs,Af,rfl,S3,b1,b2,k3,hpc,N,hl,wf⟩:=hI_8;refine hG_8 ?_;have npd:p ≠ d:=(qA5 S2.dict hp).symm;have npc:p ≠ c:=(qA5 S2.list hp).symm;have nx:∀ (kk:Int),kk=(if (i:Int)<half then (i:Int) else (i:Int) - half)->qN3 [.ref d,.int kk] Hc (fun y H4=>∃ ys,H4 p=some (.lst ys)/\ys.length<sizeLine/\∃ (v:Option V) (t':Int) (ms:List Int) (rs:List Addr) (Af:List (List Int)),[some (V.int (0+(i:Int))),some (.ref d),some (.int half)]=[v,some (.ref d),some (.int half)]/\StAt (Ah H4 p (.lst (ys++[y]))) d c t' ms/\t+2<=t'/\t'<=t+2+9 * (i+1:Nat)/\Keep d c H2 (Ah H4 p (.lst (ys++[y])))/\(Ah H4 p (.lst (ys++[y]))) p=some (.lst (rs.map V.ref))/\NetL (Ah H4 p (.lst (ys++[y]))) rs Af/\Af.length=i+1/\
     ∀ (j:Nat) zs,Af[j]?=some zs->Rise (if (j:Int)<half then (j:Int) else (j:Int) - half) zs) E0:=by
    intro kk ek;refine ⟨d,c,t',ms,kk,rfl,S3,(by show t'<=1000000000 - 20;lia),by rw [ek];split <;> lia,by rw [ek];split <;> lia,fun r zs t'' ms2 H3 e1 e2 e3 e4 e5 e6=>?_⟩
    have g1:=e4 _ _ hpc npd npc;refine ⟨_,g1,qAF (by rw [A0,NetAt.len N];lia),?_⟩
    rw [qAT];refine ⟨_,t'',ms2,rs++[r],Af++[zs],rfl,⟨by rw [qA7 (G8 npd)];exact e1.dict,by rw [qA7 (G8 npc)];exact e1.list,e1.ne,e1.len,e1.pos⟩,by lia,by lia,qHQ (k3.trans e4) hp,qA1,qEV (qD0 (N.keep (fun r ys e=>S3.tup e) e4) e5) g1,by rw [A4,B1,hl],fun j ys e=>?_⟩
    rcases qOG e with e | ⟨rfl,rfl⟩
    ·exact wf j ys e
    ·rw [hl,<- ek];exact e6
   refine ⟨_,rfl,_,rfl,_,rfl,_,_,rfl,rfl,_,rfl,?_⟩;refine ite2 (fun ck=>?_) (fun ck=>?_)
   ·have ck':0+(i:Int)<half:=of_decide_eq_true ck;exact ⟨_,rfl,nx _ (by rw [if_pos (by lia)];lia)⟩
   ·have ck':¬ 0+(i:Int)<half:=of_decide_eq_false (O3.mpr ck);exact ⟨_,rfl,_,rfl,_,_,rfl,rfl,nx _ (by rw [if_neg (by lia)];lia)⟩
  ·refine fun σ Hc hI_9=>opq fun G_9 hG_9=>?_;obtain ⟨v,t',ms,rs,Af,rfl,S3,b1,b2,k3,hpc,N,hl,wf⟩:=hI_9;refine hG_9 ?_;have lrs:rs.length=m.toNat:=by rw [B9 N,hl]
   refine ⟨_,rfl,p,rfl,⟨_,SqL.of hpc⟩,fun p' hp'=>?_⟩;refine qWU (p:=p') (a:=p) (xs:=rs.map V.ref) (fun i σ Hd=>∃ (v1 v2:Option V) (rs':List Addr) (net':List (List Int)),σ=[v1,v2,some (.int half)]/\Same Hc Hd/\Hd p'=some (.lst (rs'.map V.ref))/\NetL Hd rs' net'/\net'.length=i/\WFn net') ?_ ?_ ?_ ?_
   ·exact ⟨none,none,[],[],rfl,qA2 hp' _,qA1,.nil,rfl,WFn.nil⟩
   ·rintro i σ Hd hi ⟨v1,v2,rs',net',rfl,sm2,_⟩;exact SqL.of (sm2 _ _ hpc)
   ·refine fun i x σ Hd T hx hI_11 hT=>opq fun G_11 hG_11=>?_;obtain ⟨v1,v2,rs',net',rfl,sm2,hpd,N2,hl2,wf2⟩:=hI_11;obtain ⟨r,hr1,rfl⟩:=qC2 hx;obtain ⟨zs,hz,hr2⟩:=qAO N hr1;refine hG_11 ?_;have hi:i<rs.length:=(B5.mp hr1).1;have rz:=wf i zs hz;have sT:=qA2 hT (.tup [.int (i:Int),.ref r]);have hrT:=sT _ _ (sm2 _ _ hr2);have hpT:=sT _ _ hpd;have NT:=N2.same fun r' zs' e=>sT _ _ e;have smT:=sm2.trans sT;have gT:SqT K (Ah Hd T (.tup [.int (i:Int),.ref r])) T [.int (i:Int),.ref r]:=SqT.of qA1;generalize Ah Hd T (.tup [.int (i:Int),.ref r])=HT' at hrT hpT NT smT gT ⊢;refine ⟨T,_,rfl,gT,rfl,_,_,rfl,_,_,rfl,rfl,?_⟩;refine ⟨_,rfl,_,rfl,_,_,rfl,rfl,_,rfl,?_⟩;refine ite2 (fun ck=>?_) (fun ck=>?_)
    ·have ck':(i:Int)<half:=of_decide_eq_true ck;rw [if_pos ck'] at rz;refine ⟨_,rfl,_,hpT,qAF (by rw [A0,NetAt.len N2];lia),?_⟩
     rw [qAT];refine ⟨_,_,rs'++[r],net'++[zs],rfl,qAD smT hp',qA1,qEV (qD0 NT hrT) hpT,by rw [A4,B1,hl2],wf2.snoc ?_⟩
     rw [hl2];exact rz
    ·have ck':¬ (i:Int)<half:=of_decide_eq_false (O3.mpr ck);rw [if_neg ck'] at rz;have lz:zs.length<=i:=by
      have e:((i:Int) - half)=(((i:Int) - half).toNat:Nat):=by lia
      rw [e] at rz;have:=rz.len
      lia
     refine ⟨_,rfl,r,rfl,⟨_,SqT.of hrT⟩,fun p2 hp2=>?_⟩;refine qJU (p:=p2) (a:=r) (xs:=zs.map V.int) (fun j σ He=>∃ (v:Option V),σ=[v,some (.int half)]/\Same HT' He/\He p2=some (.lst (((zs.take j).map (·+half)).map V.int))) ?_ ?_ ?_ ?_
     ·exact ⟨none,rfl,qA2 hp2 _,qA1⟩
     ·rintro j σ He hj ⟨v,rfl,sm3,_⟩;exact SqT.of (sm3 _ _ hrT)
     ·refine fun j x σ He hx2 hI_13=>opq fun G_13 hG_13=>?_;obtain ⟨v,rfl,sm3,hp3⟩:=hI_13;obtain ⟨z,hz2,rfl⟩:=qGZ hx2;refine hG_13 ?_;refine ⟨_,rfl,_,rfl,_,_,rfl,rfl,_,hp3,qAF (by rw [A0,A0,C3];lia),_,rfl,qAD sm3 hp2,?_⟩
      rw [qA1,D7,hz2,D5,C8,C8]
      rfl
     ·refine fun σ He hI_14=>opq fun G_14 hG_14=>?_;obtain ⟨v,rfl,sm3,hp3⟩:=hI_14;refine hG_14 ?_;rw [A0,C2 (A5 _)] at hp3;refine ⟨p2,_,rfl,.inl ⟨SqL.of hp3,fun r2 hr3=>?_⟩⟩;have s1:=qA2 hr3 (.tup ((zs.map (·+half)).map V.int));have s2:=sm3.trans s1;have g1:=s2 _ _ hpT;refine ⟨_,g1,qAF (by rw [A0,NetAt.len N2];lia),?_⟩
      rw [qAT];refine ⟨_,_,rs'++[r2],net'++[zs.map (·+half)],rfl,qAD (smT.trans s2) hp',qA1,qEV (qD0 (NT.same fun r' zs' e=>s2 _ _ e) qA1) g1,by rw [A4,B1,hl2],wf2.snoc ?_⟩
      rw [hl2];have:=rz.shift hf0;rw [show (i:Int) - half+half=(i:Int) by lia] at this
      exact this
   ·refine fun σ Hd hI_15=>opq fun G_15 hG_15=>?_;obtain ⟨v1,v2,rs',net',rfl,sm2,hpd,N2,hl2,wf2⟩:=hI_15;refine hG_15 ?_;refine ⟨p',_,rfl,.inl ⟨SqL.of hpd,fun a ha=>?_⟩⟩;have s1:=qA2 ha (.tup (rs'.map V.ref));refine q a net' t' ms _ (S3.same (sm2.trans s1)) (by lia) (by lia) (K12.trans (k3.trans (.of_same (sm2.trans s1)))) ⟨rs',qA1,N2.same fun r ys e=>s1 _ _ e⟩ wf2 ?_
    rw [hl2,A0,B9 N,hl]
    lia
 refine hN6 _ _ ?_;refine ⟨_,rfl,m,rfl,by lia,by lia,fun p hp=>?_⟩
 refine qC6 (p:=p) (lo:=0) (n:=m.toNat) (fun i σ Hc=>∃ (v:Option V) (t':Int) (ms:List Int) (rs:List Addr) (Af:List (List Int)),σ=[v,some (.ref d)]/\StAt Hc d c t' ms/\t+2<=t'/\t'<=t+2+9 * i/\Keep d c H2 Hc/\Hc p=some (.lst (rs.map V.ref))/\NetL Hc rs Af/\Af.length=i/\WFn Af) ?_ ?_ ?_
 ·exact ⟨none,t+1+1,ns2,[],[],rfl,S2.new hp _,by lia,by lia,qC7 hp _,qA1,.nil,rfl,WFn.nil⟩
 ·refine fun i σ Hc hi hI_16=>opq fun G_16 hG_16=>?_;obtain ⟨v,t',ms,rs,Af,rfl,S3,b1,b2,k3,hpc,N,hl,wf⟩:=hI_16;refine hG_16 ?_;have npd:p ≠ d:=(qA5 S2.dict hp).symm;have npc:p ≠ c:=(qA5 S2.list hp).symm;refine ⟨_,rfl,_,rfl,d,c,t',ms,0+(i:Int),rfl,S3,(by show t'<=1000000000 - 20;lia),by lia,by lia,fun r zs t'' ms2 H3 e1 e2 e3 e4 e5 e6=>?_⟩
  have g1:=e4 _ _ hpc npd npc;refine ⟨_,g1,qAF (by rw [A0,NetAt.len N];lia),?_⟩
  rw [qAT];refine ⟨_,t'',ms2,rs++[r],Af++[zs],rfl,⟨by rw [qA7 (G8 npd)];exact e1.dict,by rw [qA7 (G8 npc)];exact e1.list,e1.ne,e1.len,e1.pos⟩,by lia,by lia,qHQ (k3.trans e4) hp,qA1,qEV (qD0 (N.keep (fun r ys e=>S3.tup e) e4) e5) g1,by rw [A4,B1,hl],wf.snoc ?_⟩
  rw [hl];exact e6.mono (by lia)
 ·refine fun σ Hc hI_17=>opq fun G_17 hG_17=>?_;obtain ⟨v,t',ms,rs,Af,rfl,S3,b1,b2,k3,hpc,N,hl,wf⟩:=hI_17;refine hG_17 ?_;refine ⟨p,_,rfl,.inl ⟨SqL.of hpc,fun a ha=>?_⟩⟩;have s1:=qA2 ha (.tup (rs.map V.ref));exact q a Af t' ms _ (S3.same s1) (by lia) (by lia) (K12.trans (k3.trans (.of_same s1))) ⟨rs,qA1,N.same fun r ys e=>s1 _ _ e⟩ wf (by rw [hl];lia)
theorem qU1 {k:Int} (h0:0<=k) (h1:k<4):∃ v,atI [V.int 0,V.int 0,V.int 1,V.int 3] k=some (.int v)/\0<=v/\v<=3:=by
 rcases (by lia:k=0\/k=1\/k=2\/k=3) with rfl | rfl | rfl | rfl
 all_goals exact ⟨_,rfl,by decide,by decide⟩
theorem sc_Lasked:FnScope ["_law_state","_law_net_here","_law_found","_law_turn"] ["_law_state","_law_net_here"] (qA9 qHN):=qCB
theorem ok_Lasked (F:Fun K "_law_asked" "_law_asked" qHN f fd)
  (qAU:Clb P w K mg base 1 qEJ qF1 "_law_take" ["_law_state","_law_many"] qHZ)
  (qBT:mg "len" = none) (qF3:mg "min" = none) (qBB:mg "range" = none) (qQJ:mg "set" = none) (qBQ:mg "sorted" = none) (qB1:mg "tuple" = none):FnOk P w K mg base CX0 2 f fd ["_law_state","_law_net_here"] qQY:=by
 refine F.okA sc_Lasked fun cdv A outer s H vs Q E hr h=>?_;obtain ⟨d,c,t,ns,a,Af,rfl,S,ht,hN,wf,n1,n400,q⟩:=h;have ht':t<=1000000000 - 100:=ht;have qOY:Room 1 _:=hr;refine ⟨_,(qA3 (qAC (i:=2) sc_Lasked.nd rfl (E9 rfl) (qBN (qA0 (qAQ qE9 (qAQ qE9 (qAE qAB rfl qBT qBS (qA0 (pv 1) qA4)) qA6) (qAW qAU hr rfl (qA0 (pv 0) (qA0 (qAE (qEO rfl) rfl qF3 qJ0 (qA0 (qAE qAB rfl qBT qBS (qA0 (pv 1) qA4)) (qA0 qA6 qA4))) qA4)))) qA4))) (qA3 (qFK G6 rfl (qB8 rfl qBB (qA0 (qB3 qEE (qBN (qA0 qA6 (qA0 qA6 (qA0 qA6 (qA0 qA6 qA4))))) (qAW qAU hr rfl (qA0 (pv 0) (qA0 qA6 qA4))) (fun _ _=>rfl)) qA4)) (qBR (i:=3) sc_Lasked.nd rfl (E9 rfl)) (qA8 (qD2 (qLV F6 J8 J9 qCE (pv 2) (qA0 (qAW qAU hr rfl (qA0 (pv 0) (qA0 (qAE qAB rfl qBT qBS (qA0 (pv 1) qA4)) qA4))) qA4))))) (qA8 (qAH (qAI qAJ rfl qB1 qBA (qA0 (qAE (qDS rfl) rfl qBQ qDE (qA0 (qAI (qL9 rfl) rfl qQJ qTA (qA0 (pv 2) qA4)) qA4)) qA4)))))),?_⟩
 try dsimp only [Cx.nox,Cx.wish,cxOf]
 obtain ⟨rs,hA,NL⟩:=id hN;have lrv:(((rs.map V.ref).length:Nat):Int)=(Af.length:Int):=by rw [A0,B9 NL]
 refine ⟨_,rfl,a,_,rfl,.inr (SqT.of hA),_,_,rfl,rfl,?_⟩;refine ⟨_,rfl,_,rfl,a,_,rfl,.inr (SqT.of hA),_,_,rfl,?_⟩;refine ⟨d,c,t,ns,_,rfl,S,(by show t<=1000000000;lia),by split <;> lia,by split <;> lia,fun k ns1 H1 k0 k1 S1 K1=>?_⟩
 have kb:0<=(Af.length:Int) - 1 - k/\(Af.length:Int) - 1 - k<(Af.length:Int):=by
  rw [lrv] at k1
  split at k1 <;> lia
 refine ⟨_,_,rfl,rfl,(by show 1<=sizeLine;decide),fun fo hfo=>?_⟩
 dsimp only;rw [lrv];generalize (Af.length:Int) - 1 - k=x0 at kb;have npd:fo ≠ d:=(qA5 S1.dict hfo).symm;have npc:fo ≠ c:=(qA5 S1.list hfo).symm;have S2:=S1.new hfo (.lst [.int x0]);have k2:=K1.trans (qC7 (d:=d) (c:=c) hfo (.lst [.int x0]));have ffo:∀ o,H fo=some o->False:=fun o z=>by
  by_cases e1:fo=d
  ·exact npd e1
  ·by_cases e2:fo=c
   ·exact npc e2
   ·have:=K1 fo o z e1 e2;rw [hfo] at this;cases this
 have gfo:(Ah H1 fo (.lst [.int x0])) fo=some (.lst ([x0].map V.int)):=qA1;generalize Ah H1 fo (.lst [.int x0])=H2 at S2 k2 gfo;refine ⟨(by show 4<=sizeLine;decide),fun p hp=>?_⟩
 have np2d:p ≠ d:=(qA5 S2.dict hp).symm;have np2c:p ≠ c:=(qA5 S2.list hp).symm;have sp:=qA2 hp (.lst [.int 0,.int 0,.int 1,.int 3]);refine ⟨_,rfl,d,c,t+1,ns1,4,rfl,S2.same sp,(by show t+1<=1000000000;lia),by decide,by decide,fun j ns3 H3 j0 j1 S3 K3=>?_⟩
 have gp:=K3 _ _ qA1 np2d np2c;have gfo3:=K3 _ _ (sp _ _ gfo) npd npc;have k3:=(k2.trans (.of_same sp)).trans K3;obtain ⟨m,hm,m0,m3⟩:=qU1 j0 j1;refine ⟨p,_,_,_,rfl,rfl,SqL.of gp,hm,m,rfl,by lia,by lia,qGH (lo:=0) (n:=m.toNat) (fun i σ Hc=>∃ (t':Int) (ms fs:List Int) (v3:Option V),σ=[some (.ref d),some (.ref a),some (.ref fo),v3]/\StAt Hc d c t' ms/\t+2<=t'/\t'<=t+2+i/\Keep d c H Hc/\Hc fo=some (.lst (fs.map V.int))/\fs.length=i+1/\∀ x ∈ fs,0<=x/\x<(Af.length:Int))
  ⟨t+1+1,ns3,[x0],none,rfl,S3,by lia,by lia,k3,gfo3,rfl,fun x hx=>by rw [A6.mp hx];exact kb⟩ ?_ ?_⟩
 ·refine fun i σ Hc hi hI_1=>opq fun G_1 hG_1=>?_;obtain ⟨t',ms,fs,v3,rfl,S4,b1,b2,k4,gf,lf,fb⟩:=hI_1;refine hG_1 ?_;have hN4:=hN.keep S k4;obtain ⟨rs,hA,NL⟩:=id hN4;have lrv:(((rs.map V.ref).length:Nat):Int)=(Af.length:Int):=by rw [A0,B9 NL]
  refine ⟨_,rfl,.inl ⟨rfl,_,SqL.of gf⟩,_,rfl,_,rfl,a,_,rfl,.inr (SqT.of hA),d,c,t',ms,_,rfl,S4,(by show t'<=1000000000;lia),by rw [lrv];lia,by rw [lrv];lia,fun x ms5 H5 x0 x1 S5 K5=>?_⟩
  rw [lrv] at x1;have gf5:=K5 _ _ gf npd npc;refine ⟨fo,_,_,rfl,rfl,gf5,qAF (by rw [A0];lia),?_⟩
  refine ⟨t'+1,ms5,fs++[x],_,rfl,⟨by rw [qA7 (G8 npd)];exact S5.dict,by rw [qA7 (G8 npc)];exact S5.list,S5.ne,S5.len,S5.pos⟩,by lia,by lia,fun b u e n1 n2=>?_,by rw [qA1,C8];rfl,by rw [A4,B1,lf],fun y hy=>?_⟩
  ·by_cases e3:b=fo
   ·subst e3;exact (ffo _ e).elim
   ·rw [qA7 e3];exact (k4.trans K5) b u e n1 n2
  ·rcases A7.mp hy with hy | hy
   ·exact fb y hy
   ·rw [A6.mp hy];exact ⟨x0,x1⟩
 ·refine fun σ Hc hI_2=>opq fun G_2 hG_2=>?_;obtain ⟨t',ms,fs,v3,rfl,S4,b1,b2,k4,gf,lf,fb⟩:=hI_2;refine hG_2 ?_;refine ⟨_,rfl,fo,fs,rfl,SqL.of gf,by lia,fun e he=>?_⟩
  have ld:=qL4 fs;refine ⟨e,dedI fs,rfl,.inr (.inr qA1),by lia,fun b ys hb hpm hs=>?_⟩
  refine ⟨b,_,rfl,.inl ⟨SqL.of qA1,fun r hr3=>?_⟩⟩;have s1:=((qA2 he (SetO w e (dedI fs))).trans (qA2 hb (.lst (ys.map V.int)))).trans (qA2 hr3 (.tup (ys.map V.int)));have ne:fs ≠ []:=fun z=>by rw [z] at lf;simp at lf
  obtain ⟨y,hy⟩:=List.exists_mem_of_ne_nil fs ne;refine q r ys t' ms _ (S4.same s1) (by lia) (by lia) (k4.trans (.of_same s1)) qA1 (qKF hpm hs fb) (Y9 (hpm.mem_iff.mpr (mem_dedI.mpr hy)))
theorem qWW {ns:List Int} {lay:List (Option Int)}:((ns.map fun x=>decide (some x ∈ lay)).all id)=decide (∀ x ∈ ns,some x ∈ lay):=by
 rw [Q1,M8,decide_eq_true_eq]
 constructor
 ·intro h x hx;exact of_decide_eq_true (h _ (E2.mpr ⟨x,hx,rfl⟩))
 ·intro h b hb;obtain ⟨x,hx,rfl⟩:=E2.mp hb;exact decide_eq_true (h x hx)
theorem qPN:FnScope ["results","works"] ["results","works"] (qA9 qG7):=qCB
theorem ok_has_all (F:Fun K "has_all" "has_all" qG7 f fd) (qZ5:mg "all" = none):FnOk P w K mg base CX0 1 f fd ["results","works"] qHJ:=by
 refine F.okA qPN fun cdv A outer s H vs Q E hr h=>?_;obtain ⟨la,r,lay,ns,rfl,hla,hns,l1,q⟩:=h;refine ⟨_,(qA8 (qAH (qAE (qUU rfl) rfl qZ5 qYY (qA0 (qG8 rfl (lcs (own:=["work"]) (fv:=[0]) (by kernel_rfl)) (qI6 (pv 1)) (fun z1=>qCC 0) (fun z1=>qBG) (fun z1=>(qI7 (qYC (K:=K) rfl) (pv 0) (pv 1) (by with_unfolding_all rfl)))) qA4)))),?_⟩
 try dsimp only [Cx.nox,Cx.wish,cxOf]
 refine ⟨_,rfl,r,rfl,⟨_,SqT.of hns⟩,fun p hp=>?_⟩;refine qJU (p:=p) (a:=r) (xs:=ns.map V.int) (fun i σ Hc=>∃ (v:Option V),σ=[v,some (.ref la)]/\Same H Hc/\Hc p=some (.lst (((ns.take i).map fun x=>decide (some x ∈ lay)).map V.bl))) ?_ ?_ ?_ ?_
 ·exact ⟨none,rfl,qA2 hp _,qA1⟩
 ·rintro i σ Hc hi ⟨v,rfl,sm,_⟩;exact SqT.of (sm _ _ hns)
 ·refine fun i x σ Hc hx hI_2=>opq fun G_2 hG_2=>?_;obtain ⟨v,rfl,sm,hpc⟩:=hI_2;obtain ⟨z,ez,rfl⟩:=qGZ hx;refine hG_2 ?_;have hi:i<ns.length:=(B5.mp ez).1;refine ⟨_,rfl,_,rfl,la,_,rfl,.inr (SqT.of (sm _ _ hla)),rfl,qP3 lay,_,hpc,qAF (by rw [A0,A0,C3];lia),_,rfl,qAD sm hp,?_⟩
  rw [qA1];refine congrArg (fun l=>some (HO.lst l)) ?_;show _++[V.bl (inV (.int z) (lay.map oV))]=_;rw [qSD,D7,ez,D5,C8,C8]
  rfl
 ·refine fun σ Hc hI_3=>opq fun G_3 hG_3=>?_;obtain ⟨v,rfl,sm,hpc⟩:=hI_3;refine hG_3 ?_;rw [A0,C2 (A5 _)] at hpc;refine ⟨p,_,rfl,SqL.of hpc,?_⟩;rw [qWW];exact q Hc sm
theorem sc_fault_of_do_unlike:FnScope ["net","wides","sizes","layout","move","work","room"] ["net","wides","sizes","layout","move"] (qA9 qAM):=qCB
theorem ok_fault_of_do_unlike (F:Fun K "fault_of_do" "fault_of_do" qAM f fd) (qBI:Clb P w K mg base 1 qEI qH1 "has_all" ["results","works"] qHJ):FnOk P w K mg base CX0 2 f fd ["net","wides","sizes","layout","move"] (spTh true):=by
 refine F.okA sc_fault_of_do_unlike fun cdv A outer s H vs Q E hr h=>?_;obtain ⟨a,wd,sz,la,mv,Af,wides,sizes,lay,m,ns,o,sv,wv,rfl,I,hdk,q⟩:=h;have hdk:=hdk rfl;refine ⟨_,(qA3 (qAC (i:=5) sc_fault_of_do_unlike.nd rfl (E9 rfl) (qB3 qAX (pv 4) qA6 (fun _ _=>rfl))) (qA3 (qAC (i:=6) sc_fault_of_do_unlike.nd rfl (E9 rfl) (qB3 qAX (pv 4) qA6 (fun _ _=>rfl))) (qA3 (qBP (qAL qIA (pv 5) (pv 3) (by with_unfolding_all rfl)) (qA8 (qAH qB2)) qAP) (qA3 (qBP (qVB (qR8 (qAW qBI hr rfl (qA0 (pv 3) (qA0 (qB3 qAX (pv 0) (pv 5) (fun _ _=>rfl)) qA4))))) (qA8 (qAH qB2)) qAP) (qA3 (qBP (qDW (qNF (qB3 qAX (pv 3) (pv 6) (fun _ _=>rfl)))) (qA8 (qAH qB2)) qAP) (qA3 (qBP (qAL qPS (qB3 qAX (pv 2) (pv 6) (fun _ _=>rfl)) (qB3 qAX (pv 1) (pv 5) (fun _ _=>rfl)) (qAV _)) (qA8 (qAH qB2)) qAP) (qA8 (qAH qE7)))))))),?_⟩
 try dsimp only [Cx.nox,Cx.wish,cxOf]
 have hmv:H mv=some (.tup [.str "do",.int m.wk,.int m.rm]):=by
  have:=I.move;unfold Mo.vs at this;rw [hdk] at this;exact this
 have q:∀ H',Same H H'->Q (thDo ns lay m.wk o sv wv) H':=fun H' sm=>by
  have:=q H' sm;unfold thW at this;rw [hdk] at this;exact this
 unfold thDo at q;obtain ⟨wk0,hns,lns,hwd⟩:=I.work hdk;refine ⟨_,rfl,mv,_,_,_,rfl,rfl,SqT.of hmv,rfl,?_⟩;refine ⟨_,rfl,mv,_,_,_,rfl,rfl,SqT.of hmv,rfl,?_⟩;refine ⟨_,rfl,_,rfl,la,_,rfl,.inr (SqT.of I.lay_),rfl,qP3 lay,_,rfl,?_⟩;rw [qSD];by_cases c1:some m.wk ∈ lay
 ·rw [decide_eq_true c1];have q':=q H (.refl _);rw [if_pos c1] at q';exact q'
 rw [decide_eq_false c1];rw [if_neg c1] at q;obtain ⟨rs,r,h1,l1,h2,h3⟩:=I.net_.get hns;refine ⟨_,rfl,_,rfl,_,rfl,a,_,_,_,rfl,rfl,SqT.of h1,qIO wk0 h2,la,r,lay,ns,rfl,I.lay_,h3,lns,fun H1 sm1=>⟨_,rfl,?_⟩⟩;have I1:=I.same sm1;by_cases c2:∀ x ∈ ns,some x ∈ lay
 ·rw [decide_eq_true c2];rw [if_pos c2] at q;refine ⟨_,rfl,_,rfl,la,_,_,_,rfl,rfl,SqT.of I1.lay_,qIO I.rm0 (by rw [D0,I.at_];rfl),_,rfl,?_⟩
  cases o with
  | some y=>
   rw [decide_eq_false (show ¬ oV (some y)=V.non from fun z=>nomatch z)];exact q H1 sm1
  | none=>
   rw [decide_eq_true (show oV none=V.non from rfl)];have q':=q H1 sm1;dsimp only at q';refine ⟨_,rfl,_,rfl,sz,_,_,_,rfl,rfl,SqT.of I1.sizes_,qIO I.rm0 (by rw [D0,I.size];rfl),_,rfl,_,rfl,wd,_,_,_,rfl,rfl,SqT.of I1.wides_,qIO wk0 (by rw [D0,hwd];rfl),_,_,rfl,rfl,_,rfl,?_⟩
   refine ite2 (fun ck=>?_) (fun ck=>?_)
   ·rw [if_pos (of_decide_eq_true ck)] at q';exact q'
   ·rw [if_neg (of_decide_eq_false (O3.mpr ck))] at q';exact q'
 ·rw [decide_eq_false c2];have q':=q H1 sm1;rw [if_neg c2] at q';exact q'
theorem qJ3:FnScope ["net","wides","sizes","layout","move"] ["net","wides","sizes","layout","move"] (qA9 qCN):=qCB
theorem ok_fault_there (F:Fun K "fault_there" "fault_there" qCN f fd) (qCK:Clb P w K mg base 2 qB0 qEH "fault_of_do_unlike" ["net","wides","sizes","layout","move"] (spTh true)):FnOk P w K mg base CX0 3 f fd ["net","wides","sizes","layout","move"] (spTh false):=by
 refine F.okA qJ3 fun cdv A outer s H vs Q E hr h=>?_;obtain ⟨a,wd,sz,la,mv,Af,wides,sizes,lay,m,ns,o,sv,wv,rfl,I,_,q⟩:=h;refine ⟨_,(qA3 (qBP (qAL qFO (qB3 qAX (pv 4) qA6 (fun _ _=>rfl)) qB2 (qAV _)) (qA8 (qAH (qAW qCK hr rfl (qA0 (pv 0) (qA0 (pv 1) (qA0 (pv 2) (qA0 (pv 3) (qA0 (pv 4) qA4)))))))) qAP) (qA3 (qBP (qDW (qLX (qB3 qAX (pv 3) (qB3 qAX (pv 4) qA6 (fun _ _=>rfl)) (fun _ _=>rfl)))) (qA8 (qAH qB2)) qAP) (qA8 (qAH qE7)))),?_⟩
 try dsimp only [Cx.nox,Cx.wish,cxOf]
 cases hdk:m.dk with
 | true=>
  have hmv:H mv=some (.tup [.str "do",.int m.wk,.int m.rm]):=by
   have:=I.move;unfold Mo.vs at this;rw [hdk] at this;exact this
  refine ⟨_,rfl,mv,_,_,_,rfl,rfl,SqT.of hmv,rfl,rfl,_,rfl,?_⟩;rw [decide_eq_true (rfl:V.str (B6 "do")=V.str (B6 "do"))]
  exact ⟨_,rfl,_,rfl,_,rfl,_,rfl,_,rfl,a,wd,sz,la,mv,Af,wides,sizes,lay,m,ns,o,sv,wv,rfl,I,fun _=>hdk,q⟩
 | false=>
  have hmv:H mv=some (.tup [.str "clear",.int m.rm]):=by
   have:=I.move;unfold Mo.vs at this;rw [hdk] at this;exact this
  have q':=q H (.refl _);unfold thW qW0 at q';rw [hdk] at q';refine ⟨_,rfl,mv,_,_,_,rfl,rfl,SqT.of hmv,rfl,rfl,_,rfl,?_⟩;rw [decide_eq_false (show ¬ V.str (B6 "clear")=V.str (B6 "do") from fun z=>qAG (V.str.inj z))]
  refine ⟨_,rfl,_,rfl,mv,_,_,_,rfl,rfl,SqT.of hmv,rfl,la,_,_,_,rfl,rfl,SqT.of I.lay_,qIO I.rm0 (by rw [D0,I.at_];rfl),_,rfl,?_⟩
  cases o with
  | some y=>
   rw [decide_eq_false (show ¬ oV (some y)=V.non from fun z=>nomatch z)];exact q'
  | none=>
   rw [decide_eq_true (show oV none=V.non from rfl)];exact q'
theorem qX9 {lay:List (Option Int)} {k:Nat} {o:Option Int} (h:k<lay.length):cutI lay none (some (k:Int))++[o]++cutI lay (some ((k:Int)+1)) none=lay.set k o:=by
 have e1:cutI lay none (some (k:Int))=lay.take k:=by
  unfold cutI;rw [HT.sIx_nat,HT.sIx_none,W7,A01,V6 (G0 h)]
 have e2:cutI lay (some ((k:Int)+1)) none=lay.drop (k+1):=by
  have:=qGN lay (k+1) h;rw [<- this];congr 1
 rw [e1,e2,List.set_eq_take_append_cons_drop,if_pos h,G5]
 rfl
theorem qPW {n k:Nat} (h:k<n):¬ (HT.sIx n 0 none=0/\HT.sIx n n (some (k:Int))=n):=fun z=>by
 have:=z.2;rw [HT.sIx_nat,V6 (G0 h)] at this
 lia
theorem qPV {n k:Nat} (h:k<n):¬ (HT.sIx n 0 (some ((k:Int)+1))=0/\HT.sIx n n none=n):=fun z=>by
 have:=z.1;have e:((k:Int)+1)=((k+1:Nat):Int):=by lia
 rw [e,HT.sIx_nat,V6 h] at this
 lia
theorem sc_layout_behind:FnScope ["layout","move","room","result"] ["layout","move"] (qA9 qBU):=qCB
theorem ok_layout_behind (F:Fun K "layout_behind" "layout_behind" qBU f fd):FnOk P w K mg base CX0 1 f fd ["layout","move"] qV9:=by
 refine F.okA sc_layout_behind fun cdv A outer s H vs Q E hr h=>?_;obtain ⟨la,mv,lay,m,rfl,hla,hmv,rm0,rml,ll,q⟩:=h;refine ⟨_,(qA3 (qAC (i:=2) sc_layout_behind.nd rfl (E9 rfl) (qB3 qAX (pv 1) (qY9 qV6 qA6) (fun _ _=>rfl))) (qA3 (qAC (i:=3) sc_layout_behind.nd rfl (E9 rfl) (qDI (qAL qFO (qB3 qAX (pv 1) qA6 (fun _ _=>rfl)) qB2 (qAV _)) (qB3 qAX (pv 1) qA6 (fun _ _=>rfl)) qE7)) (qA8 (qAH (qAQ qNH (qAQ qNH (qC5 qR0 (pv 0) qD4 (qD3 (pv 2))) (qBH (qA0 (pv 3) qA4))) (qC5 qR0 (pv 0) (qD3 (qAQ qBV (pv 2) qA6)) qD4)))))),?_⟩
 try dsimp only [Cx.nox,Cx.wish,cxOf]
 have lastx:atI m.vs (-1)=some (.int m.rm):=by unfold Mo.vs;cases m.dk <;> rfl
 refine ⟨_,rfl,_,rfl,mv,_,_,_,rfl,rfl,SqT.of hmv,lastx,?_⟩;have res:∀ (G:V->Prop),G (oV m.res)->∃ p xs k v,V.ref mv=V.ref p/\V.int 0=V.int k/\SqT K H p xs/\atI xs k=some v/\(scal v (V.str (B6 "do"))=true/\∃ b,V.bl (decide (v=V.str (B6 "do")))=V.bl b/\if b=true then ∃ v',([some (.ref la),some (.ref mv),some (.int m.rm),none]:St)[1]?=some (some v')/\∃ p xs k v,v'=V.ref p/\V.int 1=V.int k/\SqT K H p xs/\atI xs k=some v/\G v else G .non):=by
  intro G g;refine ⟨mv,_,_,_,rfl,rfl,SqT.of hmv,show atI m.vs 0=some (.str (match m.dk with | true=>"do" | false=>"clear")) from by unfold Mo.vs;cases m.dk <;> rfl,rfl,_,rfl,?_⟩
  unfold Mo.res at g;cases hdk:m.dk with
  | true=>
   rw [hdk] at g;rw [decide_eq_true (rfl:V.str (B6 "do")=V.str (B6 "do"))]
   exact ⟨_,rfl,mv,_,_,_,rfl,rfl,SqT.of hmv,show atI m.vs 1=some (.int m.wk) from by unfold Mo.vs;rw [hdk];rfl,g⟩
  | false=>
   rw [hdk] at g;rw [decide_eq_false (show ¬ V.str (B6 "clear")=V.str (B6 "do") from fun z=>qAG (V.str.inj z))]
   exact g
 refine ⟨_,rfl,res _ ?_⟩;have er:m.rm=((m.rm.toNat:Nat):Int):=by lia
 refine ⟨_,rfl,_,rfl,m.rm,rfl,la,_,rfl,SqT.of hla,by rw [A0,er];exact qPW rml,fun s1 hs1=>?_⟩
 rw [qC9];have t1:=qA2 hs1 (.tup ((cutI lay none (some m.rm)).map oV));have l1:=qL7 lay none (some m.rm);have l2:=qL7 lay (some (m.rm+1)) none;refine ⟨_,rfl,(by show 1<=sizeLine;decide),fun s2 hs2=>?_⟩
 have t2:=qA2 hs2 (.tup [oV m.res]);refine ⟨s1,s2,(cutI lay none (some m.rm)).map oV,[oV m.res],rfl,rfl,SqT.of (t2 _ _ qA1),SqT.of qA1,.inr ⟨by simp,qA1⟩,G0 (qBC (by rw [A0,B1];lia)),fun p H3 sm3 hp=>?_⟩
 have s3:=(t1.trans t2).trans sm3;refine ⟨_,rfl,_,rfl,_,_,rfl,rfl,m.rm+1,rfl,la,_,rfl,SqT.of (s3 _ _ hla),by rw [A0,er];exact qPV rml,fun s4 hs4=>?_⟩
 rw [qC9];have t4:=qA2 hs4 (.tup ((cutI lay (some (m.rm+1)) none).map oV));refine ⟨p,s4,(cutI lay none (some m.rm)).map oV++[oV m.res],(cutI lay (some (m.rm+1)) none).map oV,rfl,rfl,SqT.of (t4 _ _ hp),SqT.of qA1,.inl ⟨by simp,t4 _ _ hp⟩,G0 (qBC (by rw [A4,A0,A0,B1];lia)),fun r H5 sm5 hr5=>?_⟩
 refine q r H5 ((s3.trans t4).trans sm5) ?_;rw [hr5,<- qX9 (o:=m.res) rml,<- er,C8,C8]
 rfl
theorem qY6 (b:Bool):∃ m:Int,atI [V.int 5,V.int 3] (if b then 1 else 0)=some (.int m)/\1<=m/\m<=5:=by
 cases b
 ·exact ⟨_,rfl,by decide,by decide⟩
 ·exact ⟨_,rfl,by decide,by decide⟩
theorem qU0 {k:Int} (h0:0<=k) (h1:k<4):∃ m:Int,atI [V.int 1,V.int 2,V.int 4,V.int 9] k=some (.int m)/\1<=m/\m<=9:=by
 rcases (by lia:k=0\/k=1\/k=2\/k=3) with rfl | rfl | rfl | rfl
 ·exact ⟨_,rfl,by decide,by decide⟩
 ·exact ⟨_,rfl,by decide,by decide⟩
 ·exact ⟨_,rfl,by decide,by decide⟩
 ·exact ⟨_,rfl,by decide,by decide⟩
theorem sc_Lthere:FnScope ["_law_state","_law_many","_law_net_here","_law_rooms","_law_most","_law_wides","_law_sizes"] ["_law_state"] (qA9 qHK):=qCB
theorem ok_Lthere (F:Fun K "_law_there" "_law_there" qHK f fd) (qAU:Clb P w K mg base 1 qEJ qF1 "_law_take" ["_law_state","_law_many"] qHZ) (qVY:Clb P w K mg base 3 qSU qX3 "_law_net" ["_law_state","_law_many"] qXV) (qBB:mg "range" = none) (qTM:mg "int" = none) (qB1:mg "tuple" = none) (qF3:mg "min" = none):FnOk P w K mg base CX0 4 f fd ["_law_state"] qLJ:=by
 refine F.okA sc_Lthere fun cdv A outer s H vs Q E hr h=>?_;obtain ⟨d,c,t,ns,rfl,S,ht,q⟩:=h;have ht':t<=1000000000 - 20000:=ht;refine ⟨_,(qA3 (qAC (i:=1) sc_Lthere.nd rfl (E9 rfl) (qAQ qBV qA6 (qAW qAU hr rfl (qA0 (pv 0) (qA0 qA6 qA4))))) (qA3 (qAC (i:=2) sc_Lthere.nd rfl (E9 rfl) (qAW qVY hr rfl (qA0 (pv 0) (qA0 (pv 1) qA4)))) (qA3 (qAC (i:=3) sc_Lthere.nd rfl (E9 rfl) (qAQ qBV qA6 (qAW qAU hr rfl (qA0 (pv 0) (qA0 (qB3 qEE (qBN (qA0 qA6 (qA0 qA6 qA4))) (qAI qIZ rfl qTM qTB (qA0 (qI7 qPT (pv 1) qA6 (qAV _)) qA4)) (fun _ _=>rfl)) qA4))))) (qA3 (qR9 (qBP (PW.pt (qVA (qAL qPT (pv 1) qA6 (qAV _)) (qR6 (qAL qFO (qAW qAU hr rfl (qA0 (pv 0) (qA0 qA6 qA4))) qA6 (qAV _))))) (qA8 (qAC (i:=3) sc_Lthere.nd rfl (E9 rfl) qA6)) qAP)) (qA3 (qAC (i:=4) sc_Lthere.nd rfl (A16 rfl) (qB3 qEE (qBN (qA0 qA6 (qA0 qA6 (qA0 qA6 (qA0 qA6 qA4))))) (qAW qAU hr rfl (qA0 (pv 0) (qA0 qA6 qA4))) (fun _ _=>rfl))) (qA3 (qAC (i:=5) sc_Lthere.nd rfl (E9 rfl) (qAI qAJ rfl qB1 qBA (qA0 (qG8 rfl (lcs (own:=["_law_k"]) (fv:=[0,4]) (by kernel_rfl)) (qB8 rfl qBB (qA0 (pv 1) qA4)) (fun z1=>qCC 0) (fun z1=>qBG) (fun z1=>(qAQ qBV qA6 (qAW qAU hr rfl (qA0 (pv 1) (qA0 (pv 2) qA4)))))) qA4))) (qA3 (qI4 (i:=6) sc_Lthere.nd rfl rfl rfl (lcs (own:=["_law_k"]) (fv:=[0,4]) (by kernel_rfl)) (qB8 rfl qBB (qA0 (pv 3) qA4)) (fun z2=>qCC 0) (fun z2=>qBG) (fun z2=>(qAQ qBV qA6 (qAW qAU hr rfl (qA0 (pv 1) (qA0 (pv 2) qA4))))) (by kernel_rfl)) (qA3 (qR9 (qBP (qAL qFO (qAW qAU hr rfl (qA0 (pv 0) (qA0 qA6 qA4))) qA6 (qAV _)) (qA8 (qI4 (i:=6) sc_Lthere.nd rfl rfl rfl (lcs (own:=["_law_size"]) (fv:=[4]) (by kernel_rfl)) (qD5 (pv 6)) (fun z3=>qCC 0) (fun z3=>qBG) (fun z3=>(qAE (qEO rfl) rfl qF3 qJ0 (qA0 qA6 (qA0 (qAQ qBV (pv 0) (qAQ qKJ (pv 1) qA6)) qA4)))) (by kernel_rfl))) qAP)) (qA8 (qAH (qBH (qA0 (pv 2) (qA0 (pv 5) (qA0 (qAI qAJ rfl qB1 qBA (qA0 (pv 6) qA4)) qA4)))))))))))))),?_⟩
 try dsimp only [Cx.nox,Cx.wish,cxOf]
 refine ⟨_,rfl,d,c,t,ns,6,rfl,S,(by show t<=1000000000;lia),by decide,by decide,fun m0 ns1 H1 a0 a1 S1 K1=>⟨_,_,rfl,rfl,?_⟩⟩
 have mb:1<=1+m0/\1+m0<=6:=by lia
 dsimp only;generalize 1+m0=many at mb ⊢;refine ⟨_,rfl,_,rfl,d,c,t+1,ns1,many,rfl,S1,(by show t+1<=1000000000 - 10000;lia),by lia,by lia,fun a Af t2 ns2 H2 S2 g1 g2 K2 hN wf nl=>?_⟩
 refine ⟨_,rfl,(by show 2<=sizeLine;decide),fun p0 hp0=>?_⟩
 have s0:=qA2 hp0 (.lst [.int 5,.int 3]);have n0:p0 ≠ d/\p0 ≠ c:=⟨(qA5 S2.dict hp0).symm,(qA5 S2.list hp0).symm⟩;refine ⟨_,rfl,_,_,rfl,rfl,.inr ⟨_,rfl,?_⟩⟩;obtain ⟨k53,hk53,k1,k2⟩:=qY6 (decide (many > 4));refine ⟨p0,_,_,_,rfl,rfl,SqL.of qA1,hk53,?_⟩;refine ⟨d,c,t2,ns2,k53,rfl,S2.same s0,(by show t2<=1000000000;lia),k1,by lia,fun r0 ns3 H3 b0 b1 S3 K3=>⟨_,_,rfl,rfl,?_⟩⟩
 have hN3:=(hN.same s0).keep (S2.same s0) K3;have kA:=(K1.trans K2).trans ((Keep.of_same s0).trans K3);clear hk53;refine ⟨fun σ Hc=>∃ (Aa t':Int) (ns':List Int),σ=[some (.ref d),some (.int many),some (.ref a),some (.int Aa),none,none,none]/\StAt Hc d c t' ns'/\t<=t'/\t'<=t+100/\NetAt Hc a Af/\1<=Aa/\Aa<=5/\Keep d c H Hc,?_,?_⟩
 ·refine ⟨_,rfl,_,_,rfl,rfl,_,rfl,?_⟩;refine ite2 (fun _=>?_) (fun _=>?_)
  ·refine ⟨_,rfl,d,c,t2+1,ns3,6,rfl,S3,(by show t2+1<=1000000000;lia),by decide,by decide,fun k6 ns4 H4 c0 c1 S4 K4=>⟨rfl,_,rfl,?_⟩⟩
   refine ite2 (fun _=>?_) (fun _=>?_)
   ·exact ⟨4,t2+1+1,ns4,rfl,S4,by lia,by lia,hN3.keep S3 K4,by decide,by decide,kA.trans K4⟩
   ·exact ⟨1+r0,t2+1+1,ns4,rfl,S4,by lia,by lia,hN3.keep S3 K4,by lia,by lia,kA.trans K4⟩
  ·exact ⟨1+r0,t2+1,ns3,rfl,S3,by lia,by lia,hN3,by lia,by lia,kA⟩
 refine fun σ H4 hI_1=>opq fun G_1 hG_1=>?_;obtain ⟨Aa,t4,ns4,rfl,S4,g3,g4,hN4,r1,r5,kB⟩:=hI_1;refine hG_1 ?_;clear kA hN3 S3 K3 hN s0 n0 hp0 S2 K2;refine ⟨(by show 4<=sizeLine;decide),fun p0 hp0=>?_⟩
 have s0:=qA2 hp0 (.lst [.int 1,.int 2,.int 4,.int 9]);have n0:p0 ≠ d/\p0 ≠ c:=⟨(qA5 S4.dict hp0).symm,(qA5 S4.list hp0).symm⟩;refine ⟨_,rfl,d,c,t4,ns4,4,rfl,S4.same s0,(by show t4<=1000000000;lia),by decide,by decide,fun k4 ns5 H5 c0 c1 S5 K5=>?_⟩
 obtain ⟨most,hmost,mo1,mo9⟩:=qU0 c0 c1;refine ⟨p0,_,_,_,rfl,rfl,SqL.of (K5 _ _ qA1 n0.1 n0.2),hmost,?_⟩;have hN5:=(hN4.same s0).keep (S4.same s0) K5;have kB:=kB.trans ((Keep.of_same s0).trans K5);clear hmost K5 n0 s0 hp0 S4 hN4
 -- widths
 refine ⟨_,rfl,_,rfl,by lia,by lia,fun p hp=>?_⟩
 have np:p ≠ d/\p ≠ c:=⟨(qA5 S5.dict hp).symm,(qA5 S5.list hp).symm⟩;refine qC6 (p:=p) (lo:=0) (n:=many.toNat) (fun i σ Hc=>∃ (v:Option V) (fs ns':List Int),σ=[v,some (.ref d),some (.int most)]/\StAt Hc d c (t4+1+i) ns'/\Keep d c H5 Hc/\Hc p=some (.lst (fs.map V.int))/\fs.length=i/\∀ x ∈ fs,1<=x/\x<=9) ?_ ?_ ?_
 ·exact ⟨none,[],ns5,rfl,by have:=S5.same (qA2 hp (.lst []));simpa using this,qC7 hp _,qA1,rfl,fun _ z=>nomatch z⟩
 ·refine fun i σ Hc hi hI_2=>opq fun G_2 hG_2=>?_;obtain ⟨v,fs,ns',rfl,S6,K6,gp,lf,inf⟩:=hI_2;refine hG_2 ?_;refine ⟨_,rfl,_,rfl,d,c,t4+1+i,ns',most,rfl,S6,(by show t4+1+(i:Int)<=1000000000;lia),mo1,by lia,fun x ns7 H7 w0 w1 S7 K7=>⟨_,_,rfl,rfl,?_⟩⟩
  have gp7:=K7 _ _ gp np.1 np.2;refine ⟨_,gp7,qBC (by rw [A0];lia),_,fs++[1+x],ns7,rfl,?_,qHQ (K6.trans K7) hp,?_,by rw [A4,B1];lia,fun y hy=>?_⟩
  ·have e:t4+1+(i:Int)+1=t4+1+((i+1:Nat):Int):=by lia
   rw [e] at S7;exact ⟨by rw [qA7 np.1.symm];exact S7.dict,by rw [qA7 np.2.symm];exact S7.list,S7.ne,S7.len,S7.pos⟩
  ·rw [qA1,C8];rfl
  ·rcases A7.mp hy with hy | hy
   ·exact inf y hy
   ·rw [A6.mp hy];lia
 refine fun σ H6 hI_3=>opq fun G_3 hG_3=>?_;obtain ⟨v,wides,ns6,rfl,S6,K6,gp,lw,w9⟩:=hI_3;refine hG_3 ?_;refine ⟨p,_,rfl,.inl ⟨SqL.of gp,fun wd hwd=>?_⟩⟩;have sw:=qA2 hwd (.tup (wides.map V.int));have gwd:(Ah H6 wd (.tup (wides.map V.int))) wd=some (.tup (wides.map V.int)):=qA1;have S7:=S6.same sw;have hN7:=(hN5.keep S5 K6).same sw;have kC:=(kB.trans K6).trans (Keep.of_same sw);generalize Ah H6 wd (.tup (wides.map V.int))=H7 at sw gwd S7 hN7 kC ⊢;clear kB sw hwd gp K6 S6 np hp S5 hN5
 -- sizes
 refine ⟨_,rfl,_,rfl,by lia,by lia,fun p hp=>?_⟩
 have np:p ≠ d/\p ≠ c:=⟨(qA5 S7.dict hp).symm,(qA5 S7.list hp).symm⟩;refine qC6 (p:=p) (lo:=0) (n:=Aa.toNat) (fun i σ Hc=>∃ (v:Option V) (fs ns':List Int),σ=[v,some (.ref d),some (.int most)]/\StAt Hc d c (t4+1+many.toNat+i) ns'/\Keep d c H7 Hc/\Hc p=some (.lst (fs.map V.int))/\fs.length=i/\∀ x ∈ fs,1<=x/\x<=9) ?_ ?_ ?_
 ·exact ⟨none,[],ns6,rfl,by have:=S7.same (qA2 hp (.lst []));simpa using this,qC7 hp _,qA1,rfl,fun _ z=>nomatch z⟩
 ·refine fun i σ Hc hi hI_4=>opq fun G_4 hG_4=>?_;obtain ⟨v,fs,ns',rfl,S8,K8,gp,lf,inf⟩:=hI_4;refine hG_4 ?_;refine ⟨_,rfl,_,rfl,d,c,t4+1+many.toNat+i,ns',most,rfl,S8,(by show t4+1+(many.toNat:Int)+(i:Int)<=1000000000;lia),mo1,by lia,fun x ns9 H9 w0 w1 S9 K9=>⟨_,_,rfl,rfl,?_⟩⟩
  have gp9:=K9 _ _ gp np.1 np.2;refine ⟨_,gp9,qBC (by rw [A0];lia),_,fs++[1+x],ns9,rfl,?_,qHQ (K8.trans K9) hp,?_,by rw [A4,B1];lia,fun y hy=>?_⟩
  ·have e:t4+1+(many.toNat:Int)+(i:Int)+1=t4+1+(many.toNat:Int)+((i+1:Nat):Int):=by lia
   rw [e] at S9;exact ⟨by rw [qA7 np.1.symm];exact S9.dict,by rw [qA7 np.2.symm];exact S9.list,S9.ne,S9.len,S9.pos⟩
  ·rw [qA1,C8];rfl
  ·rcases A7.mp hy with hy | hy
   ·exact inf y hy
   ·rw [A6.mp hy];lia
 refine fun σ H8 hI_5=>opq fun G_5 hG_5=>?_;obtain ⟨v,fs,ns8,rfl,S8,K8,gp,lf,inf⟩:=hI_5;refine hG_5 ?_;have gwd8:=K8 _ _ gwd (S7.tup gwd).1 (S7.tup gwd).2;have hN8:=hN7.keep S7 K8;have kD:=kC.trans K8;refine ⟨fun σ Hc=>∃ (ns':List Int) (p:Addr) (sizes:List Int),σ=[some (.ref d),some (.int many),some (.ref a),some (.int Aa),some (.int most),some (.ref wd),some (.ref p)]/\StAt Hc d c (t4+1+many.toNat+Aa.toNat+1) ns'/\NetAt Hc a Af/\Hc wd=some (.tup (wides.map V.int))/\Hc p=some (.lst (sizes.map V.int))/\sizes.length=Aa.toNat/\Keep d c H Hc/\∀ x ∈ sizes,1<=x/\x<=9,?_,?_⟩
 ·refine ⟨_,rfl,d,c,_,ns8,2,rfl,S8,(by show t4+1+(many.toNat:Int)+(Aa.toNat:Int)<=1000000000;lia),by decide,by decide,fun k2' ns9 H9 d0 d1 S9 K9=>⟨rfl,_,rfl,?_⟩⟩
  have gp9:=K9 _ _ gp np.1 np.2;have gwd9:=K9 _ _ gwd8 (S8.tup gwd8).1 (S8.tup gwd8).2;have hN9:=hN8.keep S8 K9;refine ite2 (fun _=>?_) (fun _=>?_)
  ·refine ⟨_,rfl,p,rfl,⟨_,SqL.of gp9⟩,fun p2 hp2=>?_⟩;refine qGX (p:=p2) (a:=p) (xs:=fs.map V.int) (fun i σ Hc=>∃ (v:Option V) (gs:List Int),σ=[v,some (.int most)]/\Same H9 Hc/\Hc p2=some (.lst (gs.map V.int))/\gs.length=i/\∀ x ∈ gs,1<=x/\x<=9) ?_ ?_ ?_ ?_
   ·exact ⟨none,[],rfl,qA2 hp2 _,qA1,rfl,fun _ z=>nomatch z⟩
   ·rintro i σ Hc hi ⟨v,gs,rfl,sm,_⟩;exact SqL.of (sm _ _ gp9)
   ·refine fun i x σ Hc hx hI_7=>opq fun G_7 hG_7=>?_;obtain ⟨v,gs,rfl,sm,gp2,lg,ing⟩:=hI_7;obtain ⟨z,ez,rfl⟩:=qGZ hx;refine hG_7 ?_;have zi:=inf z (C4 ez);have hi:=(B5.mp ez).1;refine ⟨_,rfl,_,rfl,_,_,rfl,rfl,⟨by decide,by decide⟩,_,_,rfl,rfl,_,_,rfl,?_⟩
    dsimp only;refine ⟨_,gp2,qBC (by rw [A0];lia),_,gs++[_],rfl,qAD sm hp2,(by rw [qA1,C8];rfl),by rw [A4,B1];lia,fun y hy=>?_⟩
    rcases A7.mp hy with hy | hy
    ·exact ing y hy
    ·rw [A6.mp hy]
     split <;> lia
   ·refine fun σ Hc hI_8=>opq fun G_8 hG_8=>?_;obtain ⟨v,gs,rfl,sm,gp2,lg,ing⟩:=hI_8;refine hG_8 ?_;rw [A0] at lg;exact ⟨ns9,p2,gs,rfl,S9.same sm,hN9.same sm,sm _ _ gwd9,gp2,by lia,(kD.trans K9).trans (Keep.of_same sm),ing⟩
  ·exact ⟨ns9,p,fs,rfl,S9,hN9,gwd9,gp9,lf,kD.trans K9,fun x hx=>by have:=inf x hx;lia⟩
 refine fun σ H9 hI_9=>opq fun G_9 hG_9=>?_;obtain ⟨ns9,p3,sizes,rfl,S9,hN9,gwd9,gp9,ls,kE,s9⟩:=hI_9;refine hG_9 ?_;refine ⟨_,rfl,_,rfl,_,rfl,p3,_,rfl,.inl ⟨SqL.of gp9,fun sz hsz=>⟨(by show 3<=sizeLine;decide),fun T hT=>?_⟩⟩⟩
 have s1:=qA2 hsz (.tup (sizes.map V.int));have s2:=qA2 hT (.tup [.ref a,.ref wd,.ref sz]);have s3:=s1.trans s2;exact q T a wd sz Af wides sizes _ ns9 _ (S9.same s3) (by lia) (by lia) (kE.trans (Keep.of_same s3)) qA1 ⟨hN9.same s3,wf,by lia,by lia,s3 _ _ gwd9,by lia,fun x hx=>by have:=w9 x hx;lia,s2 _ _ qA1,by lia,by lia,fun x hx=>by have:=s9 x hx;lia⟩ w9 s9
theorem sc_fault_of_do_moves:FnScope ["net","rooms","stand","work","there","result","need"] ["net","rooms","stand","work"] (qA9 qAR):=qCB
theorem ok_fault_of_do_moves (F:Fun K "fault_of_do" "fault_of_do" qAR f fd) (qBT:mg "len" = none):FnOk P w K mg base CX0 1 f fd ["net","rooms","stand","work"] qLM:=by
 refine F.okA sc_fault_of_do_moves fun cdv A outer s H vs Q E hr h=>?_;obtain ⟨a,so,Af,st,ns,Aa,wk,rfl,hN,hst,lst,wk0,hns,q⟩:=h;have hu:=qJA hr;refine ⟨_,(qA3 (qAC (i:=4) sc_fault_of_do_moves.nd rfl (E9 rfl) qU4) (qA3 (qFK G6 rfl (qI6 (pv 2)) (qBR (i:=5) sc_fault_of_do_moves.nd rfl (E9 rfl)) (qA8 (qKH hu (pv 4) (pv 5) qLW rfl))) (qA3 (qBP (qDW (qYA hu (pv 3) (pv 4))) (qA8 (qAH qB2)) qAP) (qA3 (qFK G6 rfl (qI6 (qB3 qAX (pv 0) (pv 3) (fun _ _=>rfl))) (qBR (i:=6) sc_fault_of_do_moves.nd rfl (E9 rfl)) (qA8 (qBP (qDW (qI8 hu (pv 6) (pv 4))) (qA8 (qAH qB2)) qAP))) (qA3 (qBP (qAL qWL (qAE qAB rfl qBT qBS (qA0 (pv 2) qA4)) (pv 1) (qAV _)) (qA8 (qAH qB2)) qAP) (qA8 (qAH qE7))))))),?_⟩
 try dsimp only [Cx.nox,Cx.wish,cxOf]
 refine fun p hp=>?_;have s0:=qA2 hp (.dK []);refine ⟨_,rfl,so,rfl,⟨_,SqT.of (s0 _ _ hst)⟩,qSO (a:=so) (xs:=st.map V.int) (fun i σ Hc=>∃ (Ag:List (Key × V)) (v:Option V),σ=[some (.ref a),some (.int Aa),some (.ref so),some (.int wk),some (.ref p),v,none]/\Same H Hc/\Hc p=some (.dK Ag)/\Ag.length<=i/\∀ x:Int,(valV Ag (Q0 x)).isSome=true ↔ x ∈ st.take i)
  ⟨[],none,rfl,s0,qA1,A5 _,fun x=>by simp [valV]⟩ (fun i σ Hc _ hP=>by obtain ⟨_,_,_,sm,_⟩:=hP;exact SqT.of (sm _ _ hst)) ?_ ?_⟩
 ·refine fun i x σ Hc hx hI_1=>opq fun G_1 hG_1=>?_;obtain ⟨Ag,v,rfl,sm,hd,lk,mk⟩:=hI_1;refine hG_1 ?_;rw [D0] at hx;cases ez:st[i]? with
  | none=>rw [ez] at hx;cases hx
  | some z=>
   rw [ez] at hx;cases hx;have hil:i<st.length:=(B5.mp ez).1;refine ⟨_,rfl,_,rfl,p,_,rfl,DPut.k (k:=Q0 z) hd (qAF (by lia)),?_⟩
   refine ⟨putK Ag (Q0 z) (.bl true),_,rfl,fun b o e=>?_,qA1,F3 (qDJ _ _ _) (by lia),fun y=>?_⟩
   ·rw [qA7 (qA5 e hp)];exact sm b o e
   ·rw [qTP,D7,ez,D5,A7,A6];by_cases hyz:y=z
    ·subst hyz;simp
    ·have:¬ (Q0 y:Key)=Q0 z:=fun q=>hyz (A19 q);rw [if_neg this,mk y];simp [hyz]
 ·refine fun σ Hc hI_2=>opq fun G_2 hG_2=>?_;obtain ⟨Ag,v,rfl,sm,hd,lk,mk⟩:=hI_2;refine hG_2 ?_;rw [A0,C2 (A5 _)] at mk;obtain ⟨rs,r,h1,l1,h2,h3⟩:=hN.get hns;refine ⟨_,rfl,_,rfl,p,_,rfl,DGet.k (k:=Q0 wk) hd,_,rfl,?_⟩;refine ite2 (fun ck=>?_) (fun ck=>?_)
  ·have hw:=(mk wk).mp ck;have e:qDY ns st Aa wk=.str "there":=by unfold qDY;rw [if_pos hw]
   have:=q Hc sm;rw [e] at this;exact this
  ·have hw:¬ wk ∈ st:=fun z=>ck ((mk wk).mpr z);refine ⟨_,rfl,_,rfl,a,_,_,_,rfl,rfl,SqT.of (sm _ _ h1),qIO wk0 h2,r,rfl,⟨_,SqT.of (sm _ _ h3)⟩,qSO (a:=r) (xs:=ns.map V.int) (fun i σ Hd=>∃ (v6:Option V),σ=[some (.ref a),some (.int Aa),some (.ref so),some (.int wk),some (.ref p),v,v6]/\Hd=Hc/\∀ x ∈ ns.take i,x ∈ st)
    ⟨none,rfl,rfl,fun x hx=>by simp at hx⟩ (fun i σ Hd _ ⟨_,_,e,_⟩=>by rw [e];exact SqT.of (sm _ _ h3)) ?_ ?_⟩
   ·refine fun i x σ Hd hx hI_3=>opq fun G_3 hG_3=>?_;obtain ⟨v6,rfl,rfl,mm⟩:=hI_3;obtain ⟨z,ez,rfl⟩:=qGZ hx;refine hG_3 ?_;refine ⟨_,rfl,_,rfl,p,_,rfl,DGet.k (k:=Q0 z) hd,_,rfl,?_⟩;refine ite2 (fun cz=>?_) (fun cz=>?_)
    ·have hz:¬ z ∈ st:=fun zz=>by rw [(mk z).mpr zz] at cz;cases cz
     have e:qDY ns st Aa wk=.str "needs":=by
      unfold qDY;rw [if_neg hw,if_neg fun all=>hz (all z (C4 ez))]
     have:=q Hd sm;rw [e] at this;exact this
    ·have hz:z ∈ st:=by
      apply (mk z).mp;cases hv:(valV Ag (Q0 z:Key)).isSome with
      | true=>rfl
      | false=>rw [hv] at cz;exact absurd rfl cz
     refine ⟨_,rfl,rfl,fun y hy=>?_⟩;rw [D7,ez,D5,A7,A6] at hy;rcases hy with hy | rfl
     ·exact mm y hy
     ·exact hz
   ·refine fun σ Hd hI_4=>opq fun G_4 hG_4=>?_;obtain ⟨v6,rfl,rfl,mm⟩:=hI_4;refine hG_4 ?_;rw [A0,C2 (A5 _)] at mm;refine ⟨_,rfl,so,_,rfl,.inr (SqT.of (sm _ _ hst)),_,rfl,_,_,rfl,rfl,_,rfl,?_⟩;have q':=q Hd sm;have e0:qDY ns st Aa wk=if Aa<=(st.length:Int) then .str "full" else .non:=by
     unfold qDY;rw [if_neg hw,if_pos mm]
    rw [e0] at q';refine ite2 (fun cf=>?_) (fun cf=>?_)
    ·have cf':Aa<=(((st.map V.int).length:Nat):Int):=of_decide_eq_true cf;rw [A0] at cf';rw [if_pos cf'] at q';exact q'
    ·have cf':¬ Aa<=(((st.map V.int).length:Nat):Int):=of_decide_eq_false (O3.mpr cf);rw [A0] at cf';rw [if_neg cf'] at q';exact q'
theorem qNA:FnScope ["net","rooms","stand","move"] ["net","rooms","stand","move"] (qA9 qET):=qCB
theorem ok_fault_of (F:Fun K "fault_of" "fault_of" qET f fd) (qCZ:Clb P w K mg base 1 qB5 qFD "fault_of_do_moves" ["net","rooms","stand","work"] qLM) :
  FnOk P w K mg base CX0 2 f fd ["net","rooms","stand","move"] qQV:=by
 refine F.okA qNA fun cdv A outer s H vs Q E hr h=>?_;obtain ⟨a,so,mv,Af,st,ns,Aa,wk,Ac,rfl,hN,hst,lst,hmv,hword,wk0,hns,lns,q⟩:=h;have qN0:Room 1 _:=hr;refine ⟨_,(qA3 (qBP (qAL qFO (qB3 qAX (pv 3) qA6 (fun _ _=>rfl)) qB2 (qAV _)) (qA8 (qAH (qAW qCZ hr rfl (qA0 (pv 0) (qA0 (pv 1) (qA0 (pv 2) (qA0 (qB3 qAX (pv 3) qA6 (fun _ _=>rfl)) qA4))))))) qAP) (qA3 (qBP (qAL qIA (qB3 qAX (pv 3) qA6 (fun _ _=>rfl)) (pv 2) (by with_unfolding_all rfl)) (qA8 (qAH qE7)) qAP) (qA8 (qAH qB2)))),?_⟩
 try dsimp only [Cx.nox,Cx.wish,cxOf]
 refine ⟨_,rfl,mv,_,_,_,rfl,rfl,SqT.of hmv,rfl,rfl,_,rfl,?_⟩;refine ite2 (fun ck=>?_) (fun ck=>?_)
 ·have hd:Ac = "do":=V.str.inj (of_decide_eq_true ck)
  refine ⟨_,rfl,_,rfl,_,rfl,_,rfl,mv,_,_,_,rfl,rfl,SqT.of hmv,rfl,a,so,Af,st,ns,Aa,wk,rfl,hN,hst,lst,wk0,hns,fun H' sm=>?_⟩;have q':=q H' sm;unfold qG3 at q';rw [if_pos hd] at q';exact q'
 ·have hd:¬ Ac = "do":=fun e=>(of_decide_eq_false (O3.mpr ck)) (congrArg V.str e)
  have q':=q H (Same.refl H);unfold qG3 qDZ at q';rw [if_neg hd] at q';refine ⟨_,rfl,mv,_,_,_,rfl,rfl,SqT.of hmv,rfl,_,rfl,so,_,rfl,.inr (SqT.of hst),rfl,qSP st,_,rfl,?_⟩;rw [qX0];refine ite2 (fun cw=>?_) (fun cw=>?_)
  ·rw [if_pos (of_decide_eq_true cw)] at q';exact q'
  ·rw [if_neg (of_decide_eq_false (O3.mpr cw))] at q';exact q'
theorem qI3:FnScope ["stand","move"] ["stand","move"] (qA9 qC4):=qCB
theorem ok_stand_behind (F:Fun K "stand_behind" "stand_behind" qC4 f fd) (qBQ:mg "sorted" = none) (qB1:mg "tuple" = none):FnOk P w K mg base CX0 1 f fd ["stand","move"] qLN:=by
 refine F.okA qI3 fun cdv A outer s H vs Q E hr h=>?_;obtain ⟨so,mv,st,Ac,wk,rfl,hst,lst,hmv,hword,q⟩:=h;refine ⟨_,(qA3 (qBP (qAL qFO (qB3 qAX (pv 1) qA6 (fun _ _=>rfl)) qB2 (qAV _)) (qA8 (qAH (qAI qAJ rfl qB1 qBA (qA0 (qAE (qDS rfl) rfl qBQ qDE (qA0 (qAQ qRN (pv 0) (qBH (qA0 (qB3 qAX (pv 1) qA6 (fun _ _=>rfl)) qA4))) qA4)) qA4)))) qAP) (qA8 (qAH (qAI qAJ rfl qB1 qBA (qA0 (qG8 rfl (lcs (own:=["result"]) (fv:=[1]) (by kernel_rfl)) (qI6 (pv 0)) (fun z1=>qCC 0) (fun z1=>(qGT (qAL qRK (pv 0) (qB3 (qIJ (K:=K) rfl) (pv 1) qA6 (fun _ _=>rfl)) (qAV _)))) (fun z1=>(pv 0))) qA4))))),?_⟩
 try dsimp only [Cx.nox,Cx.wish,cxOf]
 refine ⟨_,rfl,mv,_,_,_,rfl,rfl,SqT.of hmv,rfl,rfl,_,rfl,?_⟩;refine ite2 (fun ck=>?_) (fun ck=>?_)
 ·have hd:Ac = "do":=V.str.inj (of_decide_eq_true ck)
  refine ⟨_,rfl,_,rfl,mv,_,_,_,rfl,rfl,SqT.of hmv,rfl,(by show 1<=sizeLine;decide),fun T hT=>?_⟩
  have sT:=qA2 hT (.tup [.int wk]);have fin:∀ (p:Addr) (H1:Hp),Same H H1->H1 p=some (.tup ((st++[wk]).map V.int))->∀ (b:Addr) (zs:List Int),H1 b=none->zs.Perm (st++[wk])->zs.Pairwise (·<=·)->∀ r,(Ah H1 b (.lst (zs.map V.int))) r=none->Q (.ref r) (Ah (Ah H1 b (.lst (zs.map V.int))) r (.tup (zs.map V.int))):=by
   intro p H1 s1 hp b zs hb hpm hs r hr;refine q r zs _ (s1.trans ((qA2 hb _).trans (qA2 hr _))) qA1 ⟨fun _=>⟨hpm,hs⟩,fun z=>?_⟩;rw [hd] at z;exact absurd z.symm qAG
  refine ⟨so,T,st.map V.int,[.int wk],rfl,rfl,SqT.of (sT _ _ hst),SqT.of qA1,by simp,G0 (qBC (by rw [A0,B1];lia)),fun z=>?_,fun z p hp=>?_⟩
  ·have e:st=[]:=A25.mp z;have g:(Ah H T (.tup [.int wk])) T=some (.tup ((st++[wk]).map V.int)):=by rw [qA1,e];rfl
   exact ⟨T,st++[wk],rfl,.inr (.inl (SqT.of g)),(by rw [A4,B1];lia),fun b zs hb hpm hs=>⟨b,_,rfl,.inl ⟨SqL.of qA1,fun r hr=>fin T _ sT g b zs hb hpm hs r hr⟩⟩⟩
  ·have g:(Ah (Ah H T (.tup [.int wk])) p (.tup (st.map V.int++[.int wk]))) p=some (.tup ((st++[wk]).map V.int)):=by rw [qA1,C8];rfl
   exact ⟨p,st++[wk],rfl,.inr (.inl (SqT.of g)),(by rw [A4,B1];lia),fun b zs hb hpm hs=>⟨b,_,rfl,.inl ⟨SqL.of qA1,fun r hr=>fin p _ (sT.trans (qA2 hp _)) g b zs hb hpm hs r hr⟩⟩⟩
 ·have hd:Ac = "clear":=hword.resolve_left fun e=>(of_decide_eq_false (O3.mpr ck)) (congrArg V.str e);refine ⟨_,rfl,so,rfl,⟨_,SqT.of hst⟩,fun p hp=>?_⟩;refine qJU (p:=p) (a:=so) (xs:=st.map V.int) (fun i σ Hc=>∃ (v:Option V),σ=[v,some (.ref mv)]/\Same H Hc/\Hc p=some (.lst (((st.take i).filter fun x=>decide (x ≠ wk)).map V.int))) ?_ ?_ ?_ ?_
  ·exact ⟨none,rfl,qA2 hp _,qA1⟩
  ·rintro i σ Hc hi ⟨v,rfl,sm,_⟩;exact SqT.of (sm _ _ hst)
  ·refine fun i x σ Hc hx hI_2=>opq fun G_2 hG_2=>?_;obtain ⟨v,rfl,sm,hpc⟩:=hI_2;obtain ⟨y,ey,rfl⟩:=qGZ hx;refine hG_2 ?_;have hi:=(B5.mp ey).1;have lk:=qIT (p:=fun x=>decide (x ≠ wk)) (l:=st) (i:=i);refine ⟨_,rfl,_,rfl,mv,_,_,_,rfl,rfl,SqT.of (sm _ _ hmv),rfl,rfl,_,rfl,?_⟩;rw [qDM ey];by_cases e:y=wk
   ·rw [decide_eq_true (show V.int y=V.int wk by rw [e]),decide_eq_false (show ¬ y ≠ wk from fun z=>z e)]
    refine ⟨_,rfl,sm,?_⟩;simpa using hpc
   ·rw [decide_eq_false (show ¬ V.int y=V.int wk from fun z=>e (V.int.inj z)),decide_eq_true (show y ≠ wk from e)];refine ⟨_,rfl,_,hpc,qAF (by rw [A0];lia),_,rfl,qAD sm hp,?_⟩
    rw [qA1,if_pos rfl,C8]
    rfl
  ·refine fun σ Hc hI_3=>opq fun G_3 hG_3=>?_;obtain ⟨v,rfl,sm,hpc⟩:=hI_3;refine hG_3 ?_;rw [A0,qO6 rfl] at hpc;refine ⟨p,_,rfl,.inl ⟨SqL.of hpc,fun r hr=>?_⟩⟩;refine q r _ _ (sm.trans (qA2 hr _)) qA1 ⟨fun z=>?_,fun _=>rfl⟩;rw [hd] at z;exact absurd z qAG
theorem sc_moves_of:FnScope ["net","rooms","stand","dos","clears"] ["net","rooms","stand"] (qA9 qES):=qCB
theorem ok_moves_of (F:Fun K "moves_of" "moves_of" qES f fd) (qK6:Clb P w K mg base 2 qH4 qNT "fault_of" ["net","rooms","stand","move"] qQV)
  (qBB:mg "range" = none) (qBT:mg "len" = none):FnOk P w K mg base CX0 3 f fd ["net","rooms","stand"] qLL:=by
 refine F.okA sc_moves_of fun cdv A outer s H vs Q E hr h=>?_;obtain ⟨a,so,Af,st,Aa,rfl,hN,wf,n1000,hst,lst,q⟩:=h;have qX2:Room 2 _:=hr;refine ⟨_,(qA3 (qI4 (i:=3) sc_moves_of.nd rfl rfl rfl (lcs (own:=["work"]) (fv:=[]) (by kernel_rfl)) (qB8 rfl qBB (qA0 (qAE qAB rfl qBT qBS (qA0 (pv 0) qA4)) qA4)) (fun z1=>qCC 0) (fun z1=>qBG) (fun z1=>(qBH (qA0 qB2 (qA0 (pv 0) qA4)))) (by kernel_rfl)) (qA3 (qI4 (i:=4) sc_moves_of.nd rfl rfl rfl (lcs (own:=["work"]) (fv:=[]) (by kernel_rfl)) (qB8 rfl qBB (qA0 (qAE qAB rfl qBT qBS (qA0 (pv 0) qA4)) qA4)) (fun z2=>qCC 0) (fun z2=>qBG) (fun z2=>(qBH (qA0 qB2 (qA0 (pv 0) qA4)))) (by kernel_rfl)) (qA8 (qAH (qG8 rfl (lcs (own:=["move"]) (fv:=[0,1,2]) (by kernel_rfl)) (qD5 (qAQ qOR (pv 3) (pv 4))) (fun z3=>qCC 0) (fun z3=>(qGT (qDW (qLX (qAW qK6 hr rfl (qA0 (pv 1) (qA0 (pv 2) (qA0 (pv 3) (qA0 (pv 0) qA4))))))))) (fun z3=>(pv 0))))))),?_⟩
 try dsimp only [Cx.nox,Cx.wish,cxOf]
 obtain ⟨rs,hA,NL⟩:=id hN;have lrv:(((rs.map V.ref).length:Nat):Int)=(Af.length:Int):=by rw [A0,B9 NL]
 refine ⟨_,rfl,a,_,rfl,.inr (SqT.of hA),_,rfl,by rw [lrv];lia,by rw [lrv];lia,fun p hp=>?_⟩
 refine qC6 (p:=p) (lo:=0) (n:=((((rs.map V.ref).length:Nat):Int)).toNat) (fun i σ Hc=>∃ (v:Option V) (rd:List Addr),σ=[v]/\Same H Hc/\Hc p=some (.lst (rd.map V.ref))/\MovL Hc rd (qIC "do" i)) ?_ ?_ ?_
 ·exact ⟨none,[],rfl,qA2 hp _,qA1,.nil⟩
 ·refine fun i σ Hc hi hI_1=>opq fun G_1 hG_1=>?_;obtain ⟨v,rd,rfl,sm,hpc,ML⟩:=hI_1;refine hG_1 ?_;rw [lrv] at hi;refine ⟨_,rfl,(by show 2<=sizeLine;decide),fun mv hmv=>?_⟩
  have s1:=qA2 hmv (.tup [.str "do",.int (0+(i:Int))])
  have ll:=B9 ML;rw [qEC] at ll;refine ⟨_,s1 _ _ hpc,qAF (by rw [A0];lia),_,rd++[mv],rfl,qAD (sm.trans s1) hp,?_,?_⟩
  ·rw [qA1,qAT]
  ·rw [qJR];exact ((ML.same s1).snoc qA1).put (s1 _ _ hpc)
 ·refine fun σ Hc hI_2=>opq fun G_2 hG_2=>?_;obtain ⟨v,rd,rfl,sm,hpc,ML⟩:=hI_2;refine hG_2 ?_;rw [show ((((rs.map V.ref).length:Nat):Int)).toNat=Af.length by rw [lrv];lia] at ML
  refine ⟨_,rfl,a,_,rfl,.inr (SqT.of (sm _ _ hA)),_,rfl,by rw [lrv];lia,by rw [lrv];lia,fun p2 hp2=>?_⟩
  refine qC6 (p:=p2) (lo:=0) (n:=((((rs.map V.ref).length:Nat):Int)).toNat) (fun i σ Hd=>∃ (v:Option V) (re:List Addr),σ=[v]/\Same Hc Hd/\Hd p2=some (.lst (re.map V.ref))/\MovL Hd re (qIC "clear" i)) ?_ ?_ ?_
  ·exact ⟨none,[],rfl,qA2 hp2 _,qA1,.nil⟩
  ·refine fun i σ Hd hi hI_3=>opq fun G_3 hG_3=>?_;obtain ⟨v,re,rfl,sm2,hpd,ME⟩:=hI_3;refine hG_3 ?_;rw [lrv] at hi;refine ⟨_,rfl,(by show 2<=sizeLine;decide),fun mv hmv=>?_⟩
   have s1:=qA2 hmv (.tup [.str "clear",.int (0+(i:Int))]);have ll:=B9 ME;rw [qEC] at ll;refine ⟨_,s1 _ _ hpd,qAF (by rw [A0];lia),_,re++[mv],rfl,qAD (sm2.trans s1) hp2,?_,?_⟩
   ·rw [qA1,qAT]
   ·rw [qJR];exact ((ME.same s1).snoc qA1).put (s1 _ _ hpd)
  ·refine fun σ Hd hI_4=>opq fun G_4 hG_4=>?_;obtain ⟨v,re,rfl,sm2,hpd,ME⟩:=hI_4;refine hG_4 ?_;rw [show ((((rs.map V.ref).length:Nat):Int)).toNat=Af.length by rw [lrv];lia] at ME
   have l1:=B9 ML;have l2:=B9 ME;rw [qEC] at l1 l2;refine ⟨_,rfl,_,rfl,p,p2,_,_,rfl,rfl,sm2 _ _ hpc,hpd,?_,fun l hl=>?_⟩
   ·rw [A0,A0,sizeLine_eq];lia
   have sl:=qA2 hl (.lst (rd.map V.ref++re.map V.ref));have MA:MovL (Ah Hd l (.lst (rd.map V.ref++re.map V.ref))) (rd++re) (qL1 Af.length):=((ML.same sm2).app ME).same sl;have gl:(Ah Hd l (.lst (rd.map V.ref++re.map V.ref))) l=some (.lst ((rd++re).map V.ref)):=by rw [qA1,C8]
   have smA:=(sm.trans sm2).trans sl;generalize Ah Hd l (.lst (rd.map V.ref++re.map V.ref))=He at MA gl smA ⊢;have lE:(rd++re).length=Af.length+Af.length:=by rw [A4,l1,l2]
   refine ⟨l,rfl,⟨_,SqL.of gl⟩,fun p3 hp3=>?_⟩;refine qGX (p:=p3) (a:=l) (xs:=(rd++re).map V.ref) (fun i σ Hf=>∃ (v:Option V) (rk:List Addr),σ=[v,some (.ref a),some (.int Aa),some (.ref so)]/\Same He Hf/\Hf p3=some (.lst (rk.map V.ref))/\MovL Hf rk (((qL1 Af.length).take i).filter fun m=>decide (wd Af st Aa m=.non))) ?_ ?_ ?_ ?_
   ·exact ⟨none,[],rfl,qA2 hp3 _,qA1,.nil⟩
   ·rintro i σ Hf hi ⟨v,rk,rfl,sm3,_⟩;exact SqL.of (sm3 _ _ gl)
   ·refine fun i x σ Hf hx hI_6=>opq fun G_6 hG_6=>?_;obtain ⟨v,rk,rfl,sm3,hpf,MK⟩:=hI_6;obtain ⟨mv,hmv,rfl⟩:=qC2 hx;refine hG_6 ?_;have hi:i<Af.length+Af.length:=by rw [<- lE];exact (B5.mp hmv).1
    obtain ⟨m,hm,em⟩:=qAO MA hmv;obtain ⟨hw,m0,m1⟩:=qP5 (C4 hm);have hi':m.2.toNat<Af.length:=by lia
    have hns:=A8 hi';have rz:=wf _ _ hns;have lk:=B9 MK;have lk2:=J2 (fun m=>decide (wd Af st Aa m=.non)) ((qL1 Af.length).take i);rw [C3,qMK] at lk2;have wde:wd Af st Aa m=qG3 Af[m.2.toNat] st Aa m.1 m.2:=by unfold wd;rw [hns];rfl
    refine ⟨_,rfl,_,rfl,_,rfl,_,rfl,a,so,mv,Af,st,Af[m.2.toNat],Aa,m.2,m.1,rfl,hN.same (smA.trans sm3),(smA.trans sm3) _ _ hst,lst,sm3 _ _ em,hw,m0,hns,?_,fun Hg sm4=>⟨_,rfl,?_⟩⟩
    ·have:=rz.len;lia
    rw [<- wde,qDM hm];by_cases hd:wd Af st Aa m=.non
    ·rw [hd];refine ⟨_,rfl,_,sm4 _ _ hpf,(by rw [A0,sizeLine_eq];lia),_,rk++[mv],rfl,qAD (sm3.trans sm4) hp3,?_,?_⟩
     ·rw [qA1,qAT]
     ·exact ((MK.same sm4).snoc (sm4 _ _ (sm3 _ _ em))).put (sm4 _ _ hpf)
    ·rw [decide_eq_false hd];refine ⟨_,rk,rfl,sm3.trans sm4,sm4 _ _ hpf,?_⟩;simpa using MK.same sm4
   ·refine fun σ Hf hI_7=>opq fun G_7 hG_7=>?_;obtain ⟨v,rk,rfl,sm3,hpf,MK⟩:=hI_7;refine hG_7 ?_;rw [C2 (by rw [A0,lE,qMK];exact A5 _)] at MK
    exact q p3 rk Hf (smA.trans sm3) (smA.free hp3) hpf MK
theorem qKE (j:Nat):qBD 0 ((j+1:Nat):Int)=qBD 0 (j:Int)++[0+(j:Int)]:=by
 unfold qBD;rw [show ((((j+1:Nat):Int) - 0).toNat)=j+1 from by lia,show (((j:Int) - 0).toNat)=j from by lia,A78,C8]
 rfl
def prM (k:Int) (j:Nat):List Mo:=((qBD 0 k).map fun rm=>⟨false,0,rm⟩)++(qBD 0 (j:Int)).flatMap fun wk=>(qBD 0 k).map fun rm=>⟨true,wk,rm⟩
theorem qOL (k:Int) (j:Nat):prM k (j+1)=prM k j++(qBD 0 k).map fun rm=>⟨true,0+(j:Int),rm⟩:=by
 unfold prM;rw [qKE,List.flatMap_append,G5];simp
theorem qRA (k j:Nat):(prM (k:Int) j).length=k * (j+1):=by
 induction j with
 | zero=>unfold prM;rw [A4,A0,qDC];simp [qBD]
 | succ j ih=>rw [qOL,A4,ih,A0,qDC,Nat.mul_succ k (j+1)];lia
theorem sc_moves_there:FnScope ["net","wides","sizes","layout","moves","work"] ["net","wides","sizes","layout"] (qA9 qCL):=qCB
theorem ok_moves_there (F:Fun K "moves_there" "moves_there" qCL f fd) (qGR:Clb P w K mg base 3 qDP qJF "fault_there" ["net","wides","sizes","layout","move"] (spTh false)) (qBB:mg "range" = none) (qBT:mg "len" = none):FnOk P w K mg base CX0 4 f fd ["net","wides","sizes","layout"] qOC:=by
 refine F.okA sc_moves_there fun cdv A outer s H vs Q E hr h=>?_;obtain ⟨a,wd,sz,la,Af,wides,sizes,lay,rfl,T,hla,ll,q⟩:=h;have qTI:Room 3 _:=hr;refine ⟨_,(qA3 (qI4 (i:=4) sc_moves_there.nd rfl rfl rfl (lcs (own:=["room"]) (fv:=[]) (by kernel_rfl)) (qB8 rfl qBB (qA0 (qAE qAB rfl qBT qBS (qA0 (pv 2) qA4)) qA4)) (fun z1=>qCC 0) (fun z1=>qBG) (fun z1=>(qBH (qA0 qB2 (qA0 (pv 0) qA4)))) (by kernel_rfl)) (qA3 (qFK G6 rfl (qB8 rfl qBB (qA0 (qAE qAB rfl qBT qBS (qA0 (pv 0) qA4)) qA4)) (qBR (i:=5) sc_moves_there.nd rfl (A16 rfl)) (qA8 (qD2 (qLV F6 PySem.F.slot_list_extend PySem.F.type_list_extend qRT (pv 4) (qA0 (qG8 rfl (lcs (own:=["room"]) (fv:=[5]) (by kernel_rfl)) (qB8 rfl qBB (qA0 (qAE qAB rfl qBT qBS (qA0 (pv 2) qA4)) qA4)) (fun z2=>qCC 0) (fun z2=>qBG) (fun z2=>(qBH (qA0 qB2 (qA0 (pv 1) (qA0 (pv 0) qA4)))))) qA4))))) (qA8 (qAH (qG8 rfl (lcs (own:=["move"]) (fv:=[0,1,2,3]) (by kernel_rfl)) (qD5 (pv 4)) (fun z3=>qCC 0) (fun z3=>(qGT (qDW (qLX (qAW qGR hr rfl (qA0 (pv 1) (qA0 (pv 2) (qA0 (pv 3) (qA0 (pv 4) (qA0 (pv 0) qA4)))))))))) (fun z3=>(pv 0))))))),?_⟩
 try dsimp only [Cx.nox,Cx.wish,cxOf]
 have lsz:(((sizes.map V.int).length:Nat):Int)=(sizes.length:Int):=by rw [A0]
 have k5:=T.k5;have n6:=T.n6;refine ⟨_,rfl,sz,_,rfl,.inr (SqT.of T.sizes_),_,rfl,by rw [lsz];lia,by rw [lsz];lia,fun l hl=>?_⟩
 refine qC6 (p:=l) (lo:=0) (n:=((((sizes.map V.int).length:Nat):Int)).toNat) (fun j σ Hz=>∃ (v:Option V) (fs:List Addr),σ=[v]/\Same H Hz/\Hz l=some (.lst (fs.map V.ref))/\MosL Hz fs ((qBD 0 (j:Int)).map fun x=>⟨false,0,x⟩)) ?_ ?_ ?_
 ·exact ⟨none,[],rfl,qA2 hl _,qA1,.nil⟩
 ·refine fun j σ Hz hj hI_1=>opq fun G_1 hG_1=>?_;obtain ⟨v,fs,rfl,smz,gp,Mz⟩:=hI_1;refine hG_1 ?_;rw [lsz] at hj;have lfs:=B9 Mz;rw [A0,qDC] at lfs;refine ⟨_,rfl,(by show 2<=sizeLine;decide),fun T hT=>?_⟩
  have sT:=qA2 hT (.tup [.str "clear",.int (0+(j:Int))]);refine ⟨_,sT _ _ gp,qBC (by rw [A0];lia),_,fs++[T],rfl,qAD (smz.trans sT) hl,by rw [qA1,qAT],?_⟩
  rw [qKE,C8];exact MosL.put (J6 (MosL.same Mz sT) (show (Ah Hz T (.tup [.str "clear",.int (0+(j:Int))])) T=some (.tup (Mo.vs ⟨false,0,0+(j:Int)⟩)) from qA1)) (sT _ _ gp)
 refine fun σ Hz hI_2=>opq fun G_2 hG_2=>?_;obtain ⟨v,fs0,rfl,sm0,gl0,M0⟩:=hI_2;refine hG_2 ?_;have em:((((((sizes.map V.int).length:Nat):Int)).toNat:Nat):Int)=(sizes.length:Int):=by rw [lsz];lia
 rw [em] at M0;have M0:MosL Hz fs0 (prM (sizes.length:Int) 0):=by
  have:prM (sizes.length:Int) 0=(qBD 0 (sizes.length:Int)).map fun x=>⟨false,0,x⟩:=by unfold prM;simp [qBD]
  rw [this];exact M0
 obtain ⟨rs,hA,NL⟩:=T.net_.same sm0;have lrv:(((rs.map V.ref).length:Nat):Int)=(Af.length:Int):=by rw [A0,B9 NL]
 refine ⟨_,rfl,a,_,rfl,.inr (SqT.of hA),_,rfl,by rw [lrv];lia,by rw [lrv];lia,qGH (lo:=0) (n:=((((rs.map V.ref).length:Nat):Int)).toNat) (fun i σ Hc=>∃ (v:Option V) (fs:List Addr),σ=[some (.ref a),some (.ref wd),some (.ref sz),some (.ref la),some (.ref l),v]/\Same H Hc/\Hc l=some (.lst (fs.map V.ref))/\MosL Hc fs (prM (sizes.length:Int) i))
  ⟨none,fs0,rfl,sm0,gl0,M0⟩ ?_ ?_⟩
 ·clear sm0 gl0 M0 hA NL;refine fun i σ Hc hi hI_3=>opq fun G_3 hG_3=>?_;obtain ⟨v,fs,rfl,sm,gl,M⟩:=hI_3;refine hG_3 ?_;rw [lrv] at hi;have lfs:=B9 M;rw [qRA] at lfs;have lb:fs.length<=5 * 7:=by
   rw [lfs];exact A86 (by lia) (by lia)
  refine ⟨_,rfl,.inl ⟨rfl,_,SqL.of gl⟩,_,rfl,sz,_,rfl,.inr (SqT.of (sm _ _ T.sizes_)),_,rfl,by rw [lsz];lia,by rw [lsz];lia,fun p hp=>?_⟩
  refine qC6 (p:=p) (lo:=0) (n:=((((sizes.map V.int).length:Nat):Int)).toNat) (fun j σ Hz=>∃ (v:Option V) (es:List Addr),σ=[v,some (.int (0+(i:Int)))]/\Same Hc Hz/\Hz p=some (.lst (es.map V.ref))/\MosL Hz es ((qBD 0 (j:Int)).map fun x=>⟨true,0+(i:Int),x⟩)) ?_ ?_ ?_
  ·exact ⟨none,[],rfl,qA2 hp _,qA1,.nil⟩
  ·refine fun j σ Hz hj hI_4=>opq fun G_4 hG_4=>?_;obtain ⟨v,es,rfl,smz,gp,Mz⟩:=hI_4;refine hG_4 ?_;rw [lsz] at hj;have les:=B9 Mz;rw [A0,qDC] at les;refine ⟨_,rfl,_,rfl,(by show 3<=sizeLine;decide),fun T hT=>?_⟩
   have sT:=qA2 hT (.tup [.str "do",.int (0+(i:Int)),.int (0+(j:Int))])
   refine ⟨_,sT _ _ gp,qBC (by rw [A0];lia),_,es++[T],rfl,qAD (smz.trans sT) hp,by rw [qA1,qAT],?_⟩
   rw [qKE,C8];exact MosL.put (J6 (MosL.same Mz sT) (show (Ah Hz T (.tup [.str "do",.int (0+(i:Int)),.int (0+(j:Int))])) T=some (.tup (Mo.vs ⟨true,0+(i:Int),0+(j:Int)⟩)) from qA1)) (sT _ _ gp)
  ·refine fun σ Hz hI_5=>opq fun G_5 hG_5=>?_;obtain ⟨v,es,rfl,smz,gp,Mz⟩:=hI_5;refine hG_5 ?_;rw [em] at Mz;have les:=B9 Mz;rw [A0,qDC] at les;refine ⟨l,p,_,_,rfl,rfl,smz _ _ gl,gp,G0 (qBC (by rw [A0,A0];lia)),?_⟩
   refine ⟨_,fs++es,rfl,qAD (sm.trans smz) hl,by rw [qA1];exact congrArg (fun l=>some (HO.lst l)) (C8 ..).symm,?_⟩
   rw [qOL];exact MosL.put (qJP (MosL.same M smz) Mz) (smz _ _ gl)
 ·clear sm0 gl0 M0 hA NL;refine fun σ Hc hI_6=>opq fun G_6 hG_6=>?_;obtain ⟨v,fs,rfl,sm,gl,M⟩:=hI_6;refine hG_6 ?_;have en:(((((rs.map V.ref).length:Nat):Int)).toNat)=Af.length:=by rw [lrv];lia
  rw [en] at M;have M:MosL Hc fs (prMo (Af.length:Int) (sizes.length:Int)):=M;have T2:=T.same sm;have lfs:=B9 M;have lp:(prMo (Af.length:Int) (sizes.length:Int)).length=sizes.length * (Af.length+1):=qRA sizes.length Af.length;have lb:fs.length<=5 * 7:=by
   rw [lfs,lp];exact A86 (by lia) (by lia)
  refine ⟨_,rfl,l,rfl,⟨_,SqL.of gl⟩,fun p hp=>?_⟩;refine qGX (p:=p) (a:=l) (xs:=fs.map V.ref) (fun i σ Hz=>∃ (v:Option V) (es:List Addr),σ=[v,some (.ref a),some (.ref wd),some (.ref sz),some (.ref la)]/\Same Hc Hz/\Hz p=some (.lst (es.map V.ref))/\MosL Hz es (((prMo (Af.length:Int) (sizes.length:Int)).take i).filter fun m=>decide (fwO Af wides sizes lay m=.non))) ?_ ?_ ?_ ?_
  ·exact ⟨none,[],rfl,qA2 hp _,qA1,.nil⟩
  ·rintro i σ Hz hi ⟨v,es,rfl,smz,_⟩;exact SqL.of (smz _ _ gl)
  ·refine fun i x σ Hz hx hI_8=>opq fun G_8 hG_8=>?_;obtain ⟨v,es,rfl,smz,gp,Mz⟩:=hI_8;obtain ⟨mv,hmv,rfl⟩:=qC2 hx;obtain ⟨m,hm,gm⟩:=qAO M hmv;refine hG_8 ?_;have lk:=qP4 (p:=fun m=>decide (fwO Af wides sizes lay m=.non)) (l:=prMo (Af.length:Int) (sizes.length:Int)) (i:=i);have les:=B9 Mz;have hi:=(B5.mp hmv).1;obtain ⟨b1,b2⟩:=mem_prMo.mp (C4 hm);obtain ⟨ns,o,sv,wv,TI,ef⟩:=(T.same (sm.trans smz)).tinO (smz _ _ (sm _ _ hla)) ll (smz _ _ gm) (qPZ (C4 hm));refine ⟨_,rfl,_,rfl,_,rfl,_,rfl,_,rfl,a,wd,sz,la,mv,Af,wides,sizes,lay,m,ns,o,sv,wv,rfl,TI,(fun e=>nomatch e),fun H4 s4=>?_⟩;rw [<- ef,qDM hm];have s5:=smz.trans s4;refine ⟨_,rfl,?_⟩;by_cases c:fwO Af wides sizes lay m=.non
   ·rw [decide_eq_true c];refine ⟨_,rfl,_,s4 _ _ gp,qBC (by rw [A0];lia),_,es++[mv],rfl,qAD s5 hp,by rw [qA1,qAT],?_⟩
    rw [if_pos rfl];exact MosL.put (J6 (MosL.same Mz s4) (s5 _ _ gm)) (s4 _ _ gp)
   ·rw [decide_eq_false c];refine ⟨_,es,rfl,s5,s4 _ _ gp,?_⟩;rw [if_neg B0,L8];exact MosL.same Mz s4
  ·refine fun σ Hz hI_9=>opq fun G_9 hG_9=>?_;obtain ⟨v,es,rfl,smz,gp,Mz⟩:=hI_9;refine hG_9 ?_;rw [A0,lfs,C2 (A5 _)] at Mz;exact q p es Hz (sm.trans smz) (sm.free hp) gp Mz
theorem qN9:FnScope ["plan"] ["plan"] (qA9 qER):=qCB
theorem ok_steps_of (F:Fun K "steps_of" "steps_of" qER f fd) (qBT:mg "len" = none):FnOk P w K mg base CX0 1 f fd ["plan"] qO8:=by
 refine F.okA qN9 fun cdv A outer s H vs Q E hr h=>?_;obtain ⟨l,rs,ms,rfl,hl,M,l10,q⟩:=h;refine ⟨_,(qA8 (qAH (qAE qAB rfl qBT qBS (qA0 (qG8 rfl (lcs (own:=["move"]) (fv:=[]) (by kernel_rfl)) (qD5 (pv 0)) (fun z4=>qCC 0) (fun z4=>(qGT (qAL qFO (qB3 (qIJ (K:=K) rfl) (pv 0) qA6 (fun _ _=>rfl)) qB2 (qAV _)))) (fun z4=>(pv 0))) qA4)))),?_⟩
 try dsimp only [Cx.nox,Cx.wish,cxOf]
 have lrs:=B9 M;refine ⟨_,rfl,l,rfl,⟨_,SqL.of hl⟩,fun p hp=>?_⟩;refine qGX (p:=p) (a:=l) (xs:=rs.map V.ref) (fun i σ Hc=>∃ (v:Option V) (fs:List Addr),σ=[v]/\Same H Hc/\Hc p=some (.lst (fs.map V.ref))/\fs.length=((ms.take i).filter fun m=>m.dk).length) ?_ ?_ ?_ ?_
 ·exact ⟨none,[],rfl,qA2 hp _,qA1,rfl⟩
 ·rintro i σ Hc hi ⟨v,fs,rfl,sm,_⟩;exact SqL.of (sm _ _ hl)
 ·refine fun i x σ Hc hx hI_11=>opq fun G_11 hG_11=>?_;obtain ⟨v,fs,rfl,sm,hpc,lf⟩:=hI_11;obtain ⟨mv,hmv,rfl⟩:=qC2 hx;obtain ⟨m,hm,hH⟩:=qAO M hmv;refine hG_11 ?_;have hi:=(B5.mp hm).1;have lk:=qP4 (p:=fun m:Mo=>m.dk) (l:=ms) (i:=i);refine ⟨_,rfl,mv,_,_,_,rfl,rfl,SqT.of (sm _ _ hH),show atI m.vs 0=some (.str (match m.dk with | true=>"do" | false=>"clear")) from by unfold Mo.vs;cases m.dk <;> rfl,rfl,_,rfl,?_⟩
  rw [qDM hm];cases hdk:m.dk with
  | true=>
   rw [decide_eq_true (rfl:V.str (B6 "do")=V.str (B6 "do"))]
   refine ⟨_,rfl,_,hpc,qBC (by rw [A0];lia),_,fs++[mv],rfl,qAD sm hp,by rw [qA1,qAT],?_⟩
   rw [if_pos rfl,A4,A4,lf];rfl
  | false=>
   rw [decide_eq_false (show ¬ V.str (B6 "clear")=V.str (B6 "do") from fun z=>qAG (V.str.inj z))]
   refine ⟨_,fs,rfl,sm,hpc,?_⟩;rw [if_neg B0,L8,lf]
 refine fun σ Hc hI_12=>opq fun G_12 hG_12=>?_;obtain ⟨v,fs,rfl,sm,hpc,lf⟩:=hI_12;refine hG_12 ?_;rw [A0,lrs,qO6 rfl] at lf;refine ⟨p,_,rfl,.inl (SqL.of hpc),?_⟩;have e:(((fs.map V.ref).length:Nat):Int)=(dosO ms:Int):=by rw [A0,lf];rfl
 rw [e];exact q Hc sm
theorem sc_layouts_reached:FnScope ["net","wides","sizes","start","reached","due","later","layout","move","further"] ["net","wides","sizes"] (qA9 qBK):=qCB
theorem ok_layouts_reached (F:Fun K "layouts_reached" "layouts_reached" qBK f fd) (qGP:Clb P w K mg base 4 qDN qJC "moves_there" ["net","wides","sizes","layout"] qOC) (qEQ:Clb P w K mg base 1 qCY qHH "layout_behind" ["layout","move"] qV9) (qK4:Clb P w K mg base 1 qH2 qNR "steps_of" ["plan"] qO8) (qBT:mg "len" = none):FnOk P w K mg base CX0 5 f fd ["net","wides","sizes"] qOA:=by
 refine F.okA sc_layouts_reached fun cdv A outer s H vs Q E hr h=>?_;obtain ⟨a,wd,sz,Af,wides,sizes,rfl,T,q⟩:=h;have hu:=qJA hr;refine ⟨_,(qA3 (qAC (i:=3) sc_layouts_reached.nd rfl (E9 rfl) (qAQ qNG (qBH (qA0 qE7 qA4)) (qAE qAB rfl qBT qBS (qA0 (pv 2) qA4)))) (qA3 (qAC (i:=4) sc_layouts_reached.nd rfl (E9 rfl) (qLU hu (pv 3) (qBH (qA0 qA6 (qA0 qE7 (qA0 qE7 qA4)))))) (qA3 (qAC (i:=5) sc_layouts_reached.nd rfl (E9 rfl) (qBN (qA0 (pv 3) qA4))) (qA3 (qHP G6 (qKG (pv 5) (fun _=>rfl)) (qA3 (qAC (i:=6) sc_layouts_reached.nd rfl (E9 rfl) (qBN qA4)) (qA3 (qFK G6 rfl (qD5 (pv 5)) (qBR (i:=7) sc_layouts_reached.nd rfl (E9 rfl)) (qA8 (qFK G6 rfl (qD5 (qAW qGP hr rfl (qA0 (pv 0) (qA0 (pv 1) (qA0 (pv 2) (qA0 (pv 7) qA4)))))) (qBR (i:=8) sc_layouts_reached.nd rfl (E9 rfl)) (qA3 (qAC (i:=9) sc_layouts_reached.nd rfl (E9 rfl) (qAW qEQ hr rfl (qA0 (pv 7) (qA0 (pv 8) qA4)))) (qA8 (qBP (qDW (qI8 hu (pv 9) (pv 4))) (qA3 (qKH hu (pv 4) (pv 9) (qBH (qA0 (qAQ qBV (qB3 qAX (qBJ hu (pv 4) (pv 7) (fun _ _=>rfl)) qA6 (fun _ _=>rfl)) (qAW qK4 hr rfl (qA0 (qBN (qA0 (pv 8) qA4)) qA4))) (qA0 (pv 7) (qA0 (pv 8) qA4)))) rfl) (qA8 (qD2 (qLV F6 J8 J9 qCE (pv 6) (qA0 (pv 9) qA4))))) qAP)))))) (qA8 (qAC (i:=5) sc_layouts_reached.nd rfl (E9 rfl) (pv 6)))))) (qA8 (qAH (qRI (pv 4)))))))),?_⟩
 try dsimp only [Cx.nox,Cx.wish,cxOf]
 have k1:=T.k1;have k5:=T.k5;have n6:=T.n6;have pw:(Af.length+1) ^ sizes.length<=16807:=F3 (A26 (show Af.length+1<=7 by lia) _) (R7 (show 0<7 by decide) k5)
 have lsz:(((sizes.map V.int).length:Nat):Int)=(sizes.length:Int):=by rw [A0]
 refine ⟨(by show 1<=sizeLine;decide),fun t1 ht1=>?_⟩
 have s1:=qA2 ht1 (.tup [.non]);refine ⟨_,rfl,sz,_,rfl,.inr (SqT.of (s1 _ _ T.sizes_)),?_⟩;rw [lsz];refine qPO qA1 k1 (by lia) fun st H1 sm1 gst=>?_
 have s1:=s1.trans sm1;generalize Ah H t1 (.tup [.non])=H0 at sm1;clear sm1 ht1 H0;intro rd hrd;refine ⟨_,rfl,(by show 3<=sizeLine;decide),fun v0 hv0=>?_⟩
 have s2:=qA2 hrd (.dT []);have s3:=qA2 hv0 (.tup [.int 0,.non,.non]);have hrd0:H rd=none:=s1.free hrd;have sA:=s1.trans (s2.trans s3);have g1:(Ah (Ah H1 rd (.dT [])) v0 (.tup [.int 0,.non,.non])) rd=some (.dT []):=s3 _ _ qA1;have g2:(Ah (Ah H1 rd (.dT [])) v0 (.tup [.int 0,.non,.non])) st=some (.tup ((l0 sizes).map oV)):=s3 _ _ (s2 _ _ gst);have g3:(Ah (Ah H1 rd (.dT [])) v0 (.tup [.int 0,.non,.non])) v0=some (.tup [.int ((0:Nat):Int),.non,.non]):=qA1;generalize Ah (Ah H1 rd (.dT [])) v0 (.tup [.int 0,.non,.non])=H2 at g1 g2 g3 sA;clear s2 s3 hv0 hrd gst s1;refine ⟨g1,st,keyO (l0 sizes),rfl,by rw [qD7];exact g2,?_⟩
 have ent:EntO H2 [(keyO (l0 sizes),.ref v0)] [l0 sizes] (fun _=>0) (fun _=>none):=.cons ⟨rfl,v0,rfl,g3⟩ .nil;have ent:=ent.put (u:=.dT [(keyO (l0 sizes),.ref v0)]) g1 (fun xs z=>by cases z)
 have g2:=qE3 (u:=.dT [(keyO (l0 sizes),.ref v0)]) g2 g1 (fun xs z=>by cases z)
 have sB:Same H (Ah H2 rd (.dT [(keyO (l0 sizes),.ref v0)])):=qAD sA hrd0;have g4:(Ah H2 rd (.dT [(keyO (l0 sizes),.ref v0)])) rd=some (.dT [(keyO (l0 sizes),.ref v0)]):=qA1;generalize Ah H2 rd (.dT [(keyO (l0 sizes),.ref v0)])=H3 at ent g2 sB g4;clear g1 g3 sA;refine ⟨_,rfl,(by show 1<=sizeLine;decide),fun du hdu=>?_⟩
 have s6:=qA2 hdu (.lst [.ref st]);have sC:=sB.trans s6;have entC:=ent.same s6;have g5:=s6 _ _ g4;have g6:(Ah H3 du (.lst [.ref st])) du=some (.lst ([st].map V.ref)):=qA1;have g7:LaysAt (Ah H3 du (.lst [.ref st])) [st] [l0 sizes]:=.cons (s6 _ _ g2) .nil;generalize Ah H3 du (.lst [.ref st])=H4 at sC entC g5 g6 g7;clear ent g2 sB g4 s6 hdu;refine ⟨fun m σ Hc=>∃ (du:Addr) (dr:List Addr) (due ks:List La) (f:La->Nat) (g:La->PrO) (Ag:KvO) (t:Nat) (v6 v7 v8 v9:Option V),σ=[some (.ref a),some (.ref wd),some (.ref sz),some (.ref st),some (.ref rd),some (.ref du),v6,v7,v8,v9]/\m=(16807 - ks.length) * 2+(if due=[] then 0 else 1)/\Same H Hc/\Hc rd=some (.dT Ag)/\EntO Hc Ag ks f g/\PvO Af wides sizes ks f g/\Hc du=some (.lst (dr.map V.ref))/\LaysAt Hc dr due/\BFO Af wides sizes t ks due [] f 0 0,
  ⟨_,du,[st],[l0 sizes],[l0 sizes],fun _=>0,fun _=>none,_,0,none,none,none,none,rfl,rfl,sC,g5,entC,PvO.start,g6,g7,BFO.start⟩,?_⟩
 clear sC g5 entC g6 g7;refine fun m σ Hc hI_1=>opq fun G_1 hG_1=>?_;obtain ⟨du,dr,due,ks,f,g,Ag,t,v6,v7,v8,v9,rfl,rfl,sm,grd,ent,pv,gdu,SD,B⟩:=hI_1;refine hG_1 ?_;refine ⟨_,rfl,_,.inl ⟨_,SqL.of gdu,rfl⟩,?_⟩;have ldr:dr.length=due.length:=B9 SD;by_cases hz:due=[]
 ·subst hz;have:dr=[]:=F5.mp ldr;subst this;refine iteF ?_;exact ⟨_,rfl,rd,Ag,rfl,grd,fun o=>q rd o Ag ks f g _ (qAD sm hrd0) hrd0 qA1 (ent.put grd fun xs z=>by cases z) B.rch pv⟩
 ·have ne:(!(dr.map V.ref).isEmpty)=true:=by
   cases dr with
   | nil=>exact absurd (F5.mp ldr.symm) hz
   | cons _ _=>rfl
  dsimp only;rw [if_pos ne];have lk0:=B.len;have ln:=ent.len;refine qU7 fun N0 hN0=>?_;refine ⟨(by show 0<=sizeLine;decide),fun ll hll=>?_⟩
  have s7:=qA2 hll (.lst []);have fll:H ll=none:=sm.free hll;have nll:ll ≠ rd/\ll ≠ du:=⟨(qA5 grd hll).symm,(qA5 gdu hll).symm⟩;have nrdu:rd ≠ du:=qCD grd gdu (by intro z;cases z)
  obtain ⟨k0,hk0⟩:∃ k0,k0=ks.length:=⟨_,rfl⟩;rw [<- hk0] at hN0;refine ⟨_,rfl,du,rfl,⟨_,SqL.of (s7 _ _ gdu)⟩,qGI (a:=du) (xs:=dr.map V.ref) (fun i σ Hd=>∃ (lr:List Addr) (ly ks:List La) (f:La->Nat) (g:La->PrO) (Ag:KvO) (v7 v8 v9:Option V),σ=[some (.ref a),some (.ref wd),some (.ref sz),some (.ref st),some (.ref rd),some (.ref du),some (.ref ll),v7,v8,v9]/\Same H Hd/\Hd rd=some (.dT Ag)/\EntO Hd Ag ks f g/\PvO Af wides sizes ks f g/\Hd du=some (.lst (dr.map V.ref))/\LaysAt Hd dr due/\Hd ll=some (.lst (lr.map V.ref))/\LaysAt Hd lr ly/\BFO Af wides sizes t ks due ly f i 0/\ks.length=k0+ly.length)
   ⟨[],[],ks,f,g,Ag,v7,v8,v9,rfl,sm.trans s7,s7 _ _ grd,ent.same s7,pv,s7 _ _ gdu,SD.same s7,qA1,.nil,B,hk0.symm⟩ (by rintro i σ Hd _ ⟨_,_,_,_,_,_,_,_,_,_,_,_,_,_,z,_⟩;exact SqL.of z) ?_ ?_⟩
  ·clear s7 grd ent gdu SD B sm ln lk0 hk0 pv;refine fun i x σ Hd hx hI_2 N1 hN1=>opq fun G_2 hG_2=>?_;obtain ⟨lr,ly,ks,f,g,Ag,v7,v8,v9,rfl,sm,grd,ent,pv,gdu,SD,gll,SL,B,lks⟩:=hI_2;obtain ⟨sr,hsr,rfl⟩:=qC2 hx;obtain ⟨lay,hst,gst⟩:=qAO SD hsr;refine hG_2 ?_;have P:=((B.duem lay).mp (C4 hst)).1;have hsk:lay ∈ ks:=B.full t lay (A5 _) P;have ll5:=P.len;refine ⟨_,rfl,_,rfl,_,rfl,_,rfl,a,wd,sz,sr,Af,wides,sizes,lay,rfl,T.same sm,gst,ll5,fun l rs H5 s3 fl gl ML=>?_⟩;have lrs:rs.length=(nxO Af wides sizes lay).length:=B9 ML;refine ⟨l,rfl,⟨_,SqL.of gl⟩,qGI (a:=l) (xs:=rs.map V.ref) (fun k σ Hd=>∃ (lr:List Addr) (ly ks:List La) (f:La->Nat) (g:La->PrO) (Ag:KvO) (v8 v9:Option V),σ=[some (.ref a),some (.ref wd),some (.ref sz),some (.ref st),some (.ref rd),some (.ref du),some (.ref ll),some (.ref sr),v8,v9]/\Same H Hd/\Hd rd=some (.dT Ag)/\EntO Hd Ag ks f g/\PvO Af wides sizes ks f g/\Hd du=some (.lst (dr.map V.ref))/\LaysAt Hd dr due/\Hd ll=some (.lst (lr.map V.ref))/\LaysAt Hd lr ly/\BFO Af wides sizes t ks due ly f i k/\ks.length=k0+ly.length/\Hd l=some (.lst (rs.map V.ref))/\MosL Hd rs (nxO Af wides sizes lay)/\lay ∈ ks)
    ⟨lr,ly,ks,f,g,Ag,v8,v9,rfl,sm.trans s3,s3 _ _ grd,ent.same s3,pv,s3 _ _ gdu,SD.same s3,s3 _ _ gll,SL.same s3,B,lks,gl,ML,hsk⟩ (by rintro k σ Hd _ ⟨_,_,_,_,_,_,_,_,_,_,_,_,_,_,_,_,_,_,_,z,_⟩;exact SqL.of z) ?_ ?_⟩
   ·have nl:rd ≠ l/\ll ≠ l:=⟨qA5 grd fl,qA5 gll fl⟩;clear grd ent gdu SD gll SL B lks sm gl ML s3 hsk gst pv;refine fun k x σ Hd hx hI_3 N2 hN2=>opq fun G_3 hG_3=>?_;obtain ⟨lr,ly,ks,f,g,Ag,v8,v9,rfl,sm,grd,ent,pv,gdu,SD,gll,SL,B,lks,gl,ML,hsk⟩:=hI_3;obtain ⟨mv,hmv,rfl⟩:=qC2 hx;obtain ⟨mo,hm2,gmv⟩:=qAO ML hmv;obtain ⟨lay',hst',gst⟩:=qAO SD hsr;refine hG_3 ?_;rw [hst] at hst';cases hst';have hin2:=C4 hm2;have nb:=qPU hin2;refine ⟨_,rfl,_,rfl,sr,mv,lay,mo,rfl,gst,gmv,nb.1.1,by lia,by lia,fun r H6 s4 gr=>?_⟩
    have gr:H6 r=some (.tup ((beO lay mo).map oV)):=gr;have sm4:=sm.trans s4;have grd4:=s4 _ _ grd;have ent4:=ent.same s4;have gdu4:=s4 _ _ gdu;have SD4:=SD.same s4;have gll4:=s4 _ _ gll;have SL4:=SL.same s4;have gl4:=s4 _ _ gl;have ML4:=ML.same s4;have gst4:=s4 _ _ gst;have gmv4:=s4 _ _ gmv;have lb:=B.len;clear grd ent gdu SD gll SL gl ML gst gmv;refine ⟨_,rfl,_,rfl,rd,_,rfl,.inr ⟨Ag,keyO (beO lay mo),r,.inl grd4,rfl,by rw [qD7];exact gr,rfl⟩,_,rfl,?_⟩
    by_cases hin:beO lay mo ∈ ks
    ·obtain ⟨v,ev,_⟩:=ent4.val hin;rw [ev];refine iteF ?_;exact hN2 _ _ ⟨lr,ly,ks,f,g,Ag,_,_,rfl,sm4,grd4,ent4,pv,gdu4,SD4,gll4,SL4,B.hit hst hm2 hin,lks,gl4,ML4,hsk⟩
    ·rw [ent4.none hin];refine iteT ?_;obtain ⟨v,ev,vx⟩:=ent4.val hsk;obtain ⟨vr,xx,yy,e6,gv⟩:=vx.at;subst e6;have dg:DGet H6 rd (.ref sr) (some (.ref vr)):=by
      rw [<- ev];exact .inr ⟨Ag,keyO lay,sr,.inl grd4,rfl,by rw [qD7];exact gst4,rfl⟩
     have B2:=B.add hst hm2 hin;have lb2:=B2.len;rw [A4,B1] at lb2;have lly:lr.length=ly.length:=B9 SL4;have lkv:=ent4.len;have nt:∀ kk xs,HO.dT kk ≠ .tup xs:=fun kk xs q=>by cases q
     have nt2:∀ kk xs,HO.lst kk ≠ .tup xs:=fun kk xs q=>by cases q
     refine ⟨_,rfl,_,rfl,rd,.ref vr,rfl,dg,vr,_,_,_,rfl,rfl,SqT.of gv,rfl,_,rfl,(by show 1<=sizeLine;decide),fun lm hlm=>⟨lm,[mv],[mo],rfl,qA1,.cons (qA2 hlm _ _ _ gmv4) .nil,(by show 1<=20000;decide),fun H7 s7=>⟨_,_,rfl,rfl,_,rfl,_,rfl,(by show 3<=sizeLine;decide),fun tp htp=>?_⟩⟩⟩
     rw [qF2];have s8:=(qA2 hlm (.lst [.ref mv])).trans s7;have s9:=s8.trans (qA2 htp (.tup [.int ((f lay:Int)+(dN mo:Int)),.ref sr,.ref mv]));have g9:(Ah H7 tp (.tup [.int ((f lay:Int)+(dN mo:Int)),.ref sr,.ref mv])) tp=some (.tup [.int ((f lay+dN mo:Nat):Int),.ref sr,.ref mv]):=by rw [qA1,Int.natCast_add]
     generalize Ah H7 tp (.tup [.int ((f lay:Int)+(dN mo:Int)),.ref sr,.ref mv])=H9 at s9 g9;clear s7 s8 hlm htp;have grd5:=s9 _ _ grd4;have gr5:=s9 _ _ gr;have gll5:=s9 _ _ gll4;have gll6:(Ah H9 rd (.dT (putK Ag (keyO (beO lay mo)) (.ref tp)))) ll=some (.lst (lr.map V.ref)):=(qA7 nll.1).trans gll5;refine ⟨_,rfl,_,rfl,rd,_,rfl,.inr ⟨Ag,keyO (beO lay mo),r,grd5,rfl,by rw [qD7];exact gr5,qBC (by lia),rfl⟩,_,rfl,.inl ⟨rfl,_,SqL.of gll6⟩,_,rfl,ll,_,_,rfl,rfl,gll6,qBC (by rw [A0];lia),?_⟩
     refine hN2 _ _ ⟨lr++[r],ly++[beO lay mo],ks++[beO lay mo],_,_,_,_,_,rfl,qAD (qAD (sm4.trans s9) hrd0) fll,?_,(((ent4.same s9).snoc hin (v:=.ref tp) (n:=f lay+dN mo) (o:=some (lay,mo)) ⟨tp,sr,mv,rfl,g9,s9 _ _ gst4,s9 _ _ gmv4⟩).put grd5 (nt _)).put gll6 (nt2 _),pv.snoc hsk hin2 hin rfl,?_,((SD4.same s9).put grd5 (nt _)).put gll6 (nt2 _),?_,(((SL4.same s9).snoc gr5).put grd5 (nt _)).put gll6 (nt2 _),B2,?_,?_,qOU (qOU (ML4.same s9) grd5 (nt _)) gll6 (nt2 _),A7.mpr (.inl hsk)⟩
     ·rw [qA7 nll.1.symm,qA1]
     ·rw [qA7 nll.2.symm,qA7 nrdu.symm];exact s9 _ _ gdu4
     ·rw [qA1,qAT]
     ·simp only [A4,B1];lia
     ·rw [qA7 nl.2.symm,qA7 nl.1.symm];exact s9 _ _ gl4
   ·refine fun σ Hd hI_4=>opq fun G_4 hG_4=>?_;obtain ⟨lr,ly,ks,f,g,Ag,v8,v9,rfl,sm,grd,ent,pv,gdu,SD,gll,SL,B,lks,gl,ML,hsk⟩:=hI_4;refine hG_4 ?_;rw [A0,lrs] at B;exact hN1 _ _ ⟨lr,ly,ks,f,g,Ag,_,_,_,rfl,sm,grd,ent,pv,gdu,SD,gll,SL,B.next hst (A5 _),lks⟩
  ·refine fun σ Hd hI_5=>opq fun G_5 hG_5=>?_;obtain ⟨lr,ly,ks,f,g,Ag,v7,v8,v9,rfl,sm,grd,ent,pv,gdu,SD,gll,SL,B,lks⟩:=hI_5;refine hG_5 ?_;rw [A0,ldr] at B;have B2:=B.level (A5 _);have lb:=B2.len;refine ⟨_,rfl,hN0 _ _ ⟨_,?_,ll,lr,ly,ks,f,g,Ag,t+1,_,_,_,_,rfl,rfl,sm,grd,ent,pv,gll,SL,B2⟩⟩;rw [if_neg hz];by_cases c:ly=[]
   ·rw [if_pos c,lks,c,L9]
    lia
   ·have:0<ly.length:=A27.mpr c;rw [if_neg c,lks]
    lia
theorem sc_stands_reached:FnScope ["net","rooms","reached","due","later","stand","move","further","steps"] ["net","rooms"] (qA9 qAA):=qCB
theorem ok_stands_reached (F:Fun K "stands_reached" "stands_reached" qAA f fd) (qK5:Clb P w K mg base 3 qH3 qNS "moves_of" ["net","rooms","stand"] qLL) (qFN:Clb P w K mg base 1 qD9 qIU "stand_behind" ["stand","move"] qLN):FnOk P w K mg base CX0 4 f fd ["net","rooms"] qO9:=by
 refine F.okA sc_stands_reached fun cdv A outer s H vs Q E hr h=>?_;refine opq fun Gw_1 hGw_1=>?_;obtain ⟨a,Af,Aa,rfl,hN,wf,n12,q⟩:=h;refine hGw_1 ?_;have hu:=qJA hr;have qX1:Room 3 _:=hr;have key:qAZ qAA=[.Assign [.Name "reached" ⟨36,4,36,11⟩] (.Dict [some (kOf ((qAZ qAA).getD 0 (.Pass ⟨0,0,0,0⟩)))] [vOf ((qAZ qAA).getD 0 (.Pass ⟨0,0,0,0⟩))] ⟨36,14,36,35⟩) ⟨36,4,36,35⟩,(qAZ qAA).getD 1 (.Pass ⟨0,0,0,0⟩),(qAZ qAA).getD 2 (.Pass ⟨0,0,0,0⟩),(qAZ qAA).getD 3 (.Pass ⟨0,0,0,0⟩)]:=by kernel_rfl
 have hk:∀ X:Cx,PE X (kOf ((qAZ qAA).getD 0 (.Pass ⟨0,0,0,0⟩))) (tTup tNil):=fun X=>qWG ⟨_,_,rfl⟩;have hv:∀ X:Cx,PE X (vOf ((qAZ qAA).getD 0 (.Pass ⟨0,0,0,0⟩))) (tTup (qLH (tC (.int 0)) (qLH (tC .non) (qLH (tC .non) tNil)))):=fun X=>qRH ⟨_,_,_,_,_,_,_,_,rfl⟩;rw [key];generalize kOf ((qAZ qAA).getD 0 (.Pass ⟨0,0,0,0⟩))=k0 at hk ⊢;generalize vOf ((qAZ qAA).getD 0 (.Pass ⟨0,0,0,0⟩))=v9 at hv ⊢;refine ⟨_,(qA3 (qAC (i:=2) sc_stands_reached.nd rfl (E9 rfl) (qLU hu (hk _) (hv _))) (qA3 (qAC (i:=3) sc_stands_reached.nd rfl (E9 rfl) (qBN (qA0 (qBH qA4) qA4))) (qA3 (qHP G6 (qKG (pv 3) (fun _=>rfl)) (qA3 (qAC (i:=4) sc_stands_reached.nd rfl (E9 rfl) (qBN qA4)) (qA3 (qFK G6 rfl (qD5 (pv 3)) (qBR (i:=5) sc_stands_reached.nd rfl (E9 rfl)) (qA8 (qFK G6 rfl (qD5 (qAW qK5 hr rfl (qA0 (pv 0) (qA0 (pv 1) (qA0 (pv 5) qA4))))) (qBR (i:=6) sc_stands_reached.nd rfl (E9 rfl)) (qA3 (qAC (i:=7) sc_stands_reached.nd rfl (E9 rfl) (qAW qFN hr rfl (qA0 (pv 5) (qA0 (pv 6) qA4)))) (qA8 (qBP (qDW (qI8 hu (pv 7) (pv 2))) (qA3 (qAC (i:=8) sc_stands_reached.nd rfl (E9 rfl) (qAQ qBV (qB3 qAX (qBJ hu (pv 2) (pv 5) (fun _ _=>rfl)) qA6 (fun _ _=>rfl)) (qDI (qAL qFO (qB3 qAX (pv 6) qA6 (fun _ _=>rfl)) qB2 (qAV _)) qA6 qA6))) (qA3 (qKH hu (pv 2) (pv 7) (qBH (qA0 (pv 8) (qA0 (pv 5) (qA0 (pv 6) qA4)))) rfl) (qA8 (qD2 (qLV F6 J8 J9 qCE (pv 4) (qA0 (pv 7) qA4)))))) qAP)))))) (qA8 (qAC (i:=3) sc_stands_reached.nd rfl (E9 rfl) (pv 4)))))) (qA8 (qAH (qRI (pv 2))))))),?_⟩
 try dsimp only [Cx.nox,Cx.wish,cxOf]
 have pw:2 ^ Af.length<=2 ^ 12:=R7 (by decide) n12
 intro rd hrd;refine ⟨(by show 0<=sizeLine;decide),fun e0 he0=>?_⟩
 refine ⟨(by show 3<=sizeLine;decide),fun v0 hv0=>?_⟩
 have s1:=qA2 hrd (.dT []);have s2:=qA2 he0 (.tup []);have s3:=qA2 hv0 (.tup [.int 0,.non,.non]);have g1:(Ah (Ah (Ah H rd (.dT [])) e0 (.tup [])) v0 (.tup [.int 0,.non,.non])) rd=some (.dT []):=s3 _ _ (s2 _ _ qA1);have g2:(Ah (Ah (Ah H rd (.dT [])) e0 (.tup [])) v0 (.tup [.int 0,.non,.non])) e0=some (.tup (([]:List KI).map kI)):=s3 _ _ qA1;have g3:(Ah (Ah (Ah H rd (.dT [])) e0 (.tup [])) v0 (.tup [.int 0,.non,.non])) v0=some (.tup [.int ((0:Nat):Int),.non,.non]):=qA1;have sA:=s1.trans (s2.trans s3);generalize Ah (Ah (Ah H rd (.dT [])) e0 (.tup [])) v0 (.tup [.int 0,.non,.non])=H1 at g1 g2 g3 sA;refine ⟨g1,e0,[],rfl,g2,?_⟩;have ent:EntZ H1 [([],.ref v0)] [[]] (fun _=>0) (fun g=>bfN Af Aa 0=([[]],(fun _=>0),g,[[]])/\∀ j,j<0->(bfN Af Aa j).2.2.2 ≠ []):=⟨fun _=>none,.cons ⟨rfl,v0,rfl,g3⟩ .nil,rfl,fun j hj=>absurd hj (P3 _)⟩;have ent:=ent.put (u:=.dT [([],.ref v0)]) g1 (fun xs z=>by cases z)
 have sB:Same H (Ah H1 rd (.dT [([],.ref v0)])):=qAD sA hrd;have g4:(Ah H1 rd (.dT [([],.ref v0)])) rd=some (.dT [([],.ref v0)]):=qA1;have hrd0:H rd=none:=hrd;refine ⟨(by show 0<=sizeLine;decide),fun e1 he1=>⟨(by show 1<=sizeLine;decide),fun du hdu=>?_⟩⟩
 have s5:=qA2 he1 (.tup []);have s6:=qA2 hdu (.lst [.ref e1]);have sC:=sB.trans (s5.trans s6);have entC:=(ent.same s5).same s6;have g5:=s6 _ _ (s5 _ _ g4);have g6:(Ah (Ah (Ah H1 rd (.dT [([],.ref v0)])) e1 (.tup [])) du (.lst [.ref e1])) du=some (.lst ([e1].map V.ref)):=qA1;have g7:StL (Ah (Ah (Ah H1 rd (.dT [([],.ref v0)])) e1 (.tup [])) du (.lst [.ref e1])) [e1] [[]]:=.cons (s6 _ _ qA1) .nil;generalize Ah (Ah (Ah H1 rd (.dT [([],.ref v0)])) e1 (.tup [])) du (.lst [.ref e1])=H2 at sC entC g5 g6 g7;clear s1 s2 s3 g1 g2 g3 sA ent sB g4 s5 s6 he0 hv0 hrd;refine ⟨fun m σ Hc=>∃ (du:Addr) (dr:List Addr) (due ks:List (List Int)) (f:List Int->Nat) (Ag:List (List KI × V)) (t:Nat) (v4 v5 v6 v7 v8:Option V),σ=[some (.ref a),some (.int Aa),some (.ref rd),some (.ref du),v4,v5,v6,v7,v8]/\m=(2 ^ Af.length - ks.length) * 2+(if due=[] then 0 else 1)/\Same H Hc/\Hc rd=some (.dT Ag)/\EntZ Hc Ag ks f (fun g=>bfN Af Aa t=(ks,f,g,due)/\∀ j,j<t->(bfN Af Aa j).2.2.2 ≠ [])/\Hc du=some (.lst (dr.map V.ref))/\StL Hc dr due/\BF Af Aa t ks due [] f 0 0,
  ⟨_,du,[e1],[[]],[[]],fun _=>0,_,0,none,none,none,none,none,rfl,rfl,sC,g5,entC,g6,g7,BF.start⟩,?_⟩
 clear sC g5 entC g6 g7;refine fun m σ Hc hI_1=>opq fun G_1 hG_1=>?_;obtain ⟨du,dr,due,ks,f,Ag,t,v4,v5,v6,v7,v8,rfl,rfl,sm,grd,ent,gdu,SD,B⟩:=hI_1;refine hG_1 ?_;refine ⟨_,rfl,_,.inl ⟨_,SqL.of gdu,rfl⟩,?_⟩;have ldr:dr.length=due.length:=B9 SD;by_cases hz:due=[]
 ·subst hz;have:dr=[]:=F5.mp ldr;subst this;refine iteF ?_;obtain ⟨g,eX,b1,b2⟩:=ent.ex;exact ⟨_,rfl,rd,Ag,rfl,grd,fun o=>q rd o Ag ks f g _ (qAD sm hrd0) hrd0 qA1 (eX.put grd fun xs z=>by cases z) B.rch ⟨t,b1,b2⟩⟩
 ·have ne:(!(dr.map V.ref).isEmpty)=true:=by
   cases dr with
   | nil=>exact absurd (F5.mp ldr.symm) hz
   | cons _ _=>rfl
  dsimp only;rw [if_pos ne];have lk0:=B.len;have ln:=ent.len;refine opq fun Gw_2 hGw_2=>?_;obtain ⟨g0,eX0,b1,b2⟩:=ent.ex;refine hGw_2 ?_;obtain ⟨S0,hS0⟩:∃ S0:BS,S0=(ks,f,g0,[]):=⟨_,rfl⟩;have b3:bfN Af Aa (t+1)=due.foldl (bfS Af Aa) S0:=by
   show bfR Af Aa (bfN Af Aa t)=_;rw [b1,hS0]
   rfl
  have b4:∀ j,j<t+1->(bfN Af Aa j).2.2.2 ≠ []:=fun j hj=>by
   rcases k8 (Nat.le_of_lt_succ hj) with z | z
   ·exact b2 j z
   ·rw [z,b1];exact hz
  have ent:EntZ Hc Ag ks f (fun g=>(due.take 0).foldl (bfS Af Aa) S0=(ks,f,g,[])):=⟨g0,eX0,hS0⟩;refine qU7 fun N0 hN0=>?_;refine ⟨(by show 0<=sizeLine;decide),fun ll hll=>?_⟩
  have s7:=qA2 hll (.lst []);have fll:H ll=none:=sm.free hll;have nll:ll ≠ rd/\ll ≠ du:=⟨(qA5 grd hll).symm,(qA5 gdu hll).symm⟩;have nrdu:rd ≠ du:=qCD grd gdu (by intro z;cases z)
  obtain ⟨k0,hk0⟩:∃ k0,k0=ks.length:=⟨_,rfl⟩;rw [<- hk0] at hN0;refine ⟨_,rfl,du,rfl,⟨_,SqL.of (s7 _ _ gdu)⟩,qGI (a:=du) (xs:=dr.map V.ref) (fun i σ Hd=>∃ (lr:List Addr) (ly ks:List (List Int)) (f:List Int->Nat) (Ag:List (List KI × V)) (v5 v6 v7 v8:Option V),σ=[some (.ref a),some (.int Aa),some (.ref rd),some (.ref du),some (.ref ll),v5,v6,v7,v8]/\Same H Hd/\Hd rd=some (.dT Ag)/\EntZ Hd Ag ks f (fun g=>(due.take i).foldl (bfS Af Aa) S0=(ks,f,g,ly))/\Hd du=some (.lst (dr.map V.ref))/\StL Hd dr due/\Hd ll=some (.lst (lr.map V.ref))/\StL Hd lr ly/\BF Af Aa t ks due ly f i 0/\ks.length=k0+ly.length)
   ⟨[],[],ks,f,Ag,v5,v6,v7,v8,rfl,sm.trans s7,s7 _ _ grd,ent.same s7,s7 _ _ gdu,SD.same s7,qA1,.nil,B,hk0.symm⟩ (by rintro i σ Hd _ ⟨_,_,_,_,_,_,_,_,_,_,_,_,_,z,_⟩;exact SqL.of z) ?_ ?_⟩
  ·clear s7 grd ent gdu SD B sm ln lk0 hk0 eX0 b1 b2 b3 b4 hS0;refine fun i x σ Hd hx hI_2 N1 hN1=>opq fun G_2 hG_2=>?_;obtain ⟨lr,ly,ks,f,Ag,v5,v6,v7,v8,rfl,sm,grd,ent,gdu,SD,gll,SL,B,lks⟩:=hI_2;obtain ⟨sr,hsr,rfl⟩:=qC2 hx;refine opq fun Gw_3 hGw_3=>?_;obtain ⟨st,hst,gst⟩:=qAO SD hsr;refine hGw_3 ?_;refine hG_2 ?_;have ri:Rise (Af.length:Int) st:=((B.duem st).mp (C4 hst)).1.rise;have l12:st.length<=12:=by have:=ri.len;lia
   have hsk:st ∈ ks:=B.full t st (A5 _) ((B.duem st).mp (C4 hst)).1;refine ⟨_,rfl,_,rfl,_,rfl,a,sr,Af,st,Aa,rfl,hN.same sm,wf,by lia,gst,by lia,fun l rs H3 s3 fl gl ML=>?_⟩
   have lrs:rs.length=(qCR Af st Aa).length:=B9 ML;refine ⟨l,rfl,⟨_,SqL.of gl⟩,qGI (a:=l) (xs:=rs.map V.ref) (fun k σ Hd=>∃ (lr:List Addr) (ly ks:List (List Int)) (f:List Int->Nat) (Ag:List (List KI × V)) (v6 v7 v8:Option V),σ=[some (.ref a),some (.int Aa),some (.ref rd),some (.ref du),some (.ref ll),some (.ref sr),v6,v7,v8]/\Same H Hd/\Hd rd=some (.dT Ag)/\EntZ Hd Ag ks f (fun g=>((qCR Af st Aa).take k).foldl (bfM st) ((due.take i).foldl (bfS Af Aa) S0)=(ks,f,g,ly))/\Hd du=some (.lst (dr.map V.ref))/\StL Hd dr due/\Hd ll=some (.lst (lr.map V.ref))/\StL Hd lr ly/\BF Af Aa t ks due ly f i k/\ks.length=k0+ly.length/\Hd l=some (.lst (rs.map V.ref))/\MovL Hd rs (qCR Af st Aa)/\st ∈ ks)
    ⟨lr,ly,ks,f,Ag,v6,v7,v8,rfl,sm.trans s3,s3 _ _ grd,ent.same s3,s3 _ _ gdu,SD.same s3,s3 _ _ gll,SL.same s3,B,lks,gl,ML,hsk⟩ (by rintro k σ Hd _ ⟨_,_,_,_,_,_,_,_,_,_,_,_,_,_,_,_,_,_,z,_⟩;exact SqL.of z) ?_ ?_⟩
   ·have nl:rd ≠ l/\ll ≠ l:=⟨qA5 grd fl,qA5 gll fl⟩;clear grd ent gdu SD gll SL B lks sm gl ML s3 hsk gst;refine fun k x σ Hd hx hI_3 N2 hN2=>opq fun G_3 hG_3=>?_;obtain ⟨lr,ly,ks,f,Ag,v6,v7,v8,rfl,sm,grd,ent,gdu,SD,gll,SL,B,lks,gl,ML,hsk⟩:=hI_3;obtain ⟨mv,hmv,rfl⟩:=qC2 hx;refine opq fun Gw_4 hGw_4=>?_;obtain ⟨⟨Ac,wk⟩,hm2,gmv⟩:=qAO ML hmv;refine hGw_4 ?_;refine hG_3 ?_;dsimp only at gmv;refine opq fun Gw_5 hGw_5=>?_;obtain ⟨st',hst',gst⟩:=qAO SD hsr;refine hGw_5 ?_;rw [hst] at hst';cases hst';have hw:=(due_iff.mp (C4 hm2)).1.1;refine ⟨_,rfl,_,rfl,sr,mv,st,Ac,wk,rfl,gst,by lia,gmv,hw,fun r st2 H4 s4 gr beh=>?_⟩
    have e2:=qYZ (m:=(Ac,wk)) ri hw beh;rw [e2] at gr;have sm4:=sm.trans s4;have grd4:=s4 _ _ grd;have ent4:=ent.same s4;have gdu4:=s4 _ _ gdu;have SD4:=SD.same s4;have gll4:=s4 _ _ gll;have SL4:=SL.same s4;have gl4:=s4 _ _ gl;have ML4:=ML.same s4;have gst4:=s4 _ _ gst;have gmv4:=s4 _ _ gmv;have lb:=B.len;clear grd ent gdu SD gll SL gl ML gst gmv;refine ⟨_,rfl,_,rfl,rd,_,rfl,.inr ⟨Ag,keyS (behL st (Ac,wk)),r,.inl grd4,rfl,by rw [qD6];exact gr,rfl⟩,_,rfl,?_⟩
    by_cases hin:behL st (Ac,wk) ∈ ks
    ·refine opq fun Gw_6 hGw_6=>?_;obtain ⟨v,ev,_⟩:=ent4.val hin;refine hGw_6 ?_;rw [ev];refine iteF ?_;exact hN2 _ _ ⟨lr,ly,ks,f,Ag,_,_,_,rfl,sm4,grd4,ent4.mono (fun g e=>by rw [qIS hm2,e];exact if_pos hin),gdu4,SD4,gll4,SL4,B.hit hst hm2 hin,lks,gl4,ML4,hsk⟩
    ·rw [ent4.none hin];refine iteT ?_;refine opq fun Gw_7 hGw_7=>?_;obtain ⟨v,ev,vr,xx,yy,e6,gv⟩:=ent4.val hsk;subst e6;refine hGw_7 ?_;have dg:DGet H4 rd (.ref sr) (some (.ref vr)):=by
      rw [<- ev];exact .inr ⟨Ag,keyS st,sr,.inl grd4,rfl,by rw [qD6];exact gst4,rfl⟩
     have B2:=B.add hst hm2 hin;have lb2:=B2.len;rw [A4,B1] at lb2;have lly:lr.length=ly.length:=B9 SL4;have lkv:=ent4.len;refine ⟨_,rfl,_,rfl,rd,.ref vr,rfl,dg,vr,_,_,_,rfl,rfl,SqT.of gv,rfl,_,rfl,mv,_,_,_,rfl,rfl,SqT.of gmv4,rfl,rfl,_,rfl,?_⟩;obtain ⟨z,hz1,hz2⟩:∃ z:Nat,(if decide (V.str Ac=V.str "do")=true then z=1 else z=0)/\z=if ((Ac,wk):Mv).1=B6 "do" then 1 else 0:=by
      by_cases c:Ac=B6 "do"
      ·exact ⟨1,by rw [if_pos (decide_eq_true (congrArg V.str c))],by rw [if_pos c]⟩
      ·exact ⟨0,by rw [if_neg (fun q=>c (V.str.inj (of_decide_eq_true q)))],by rw [if_neg c]⟩
     rw [<- hz2] at B2;have fin:∀ (y:Int) (H5:Hp) (tp:Addr),y=((f st+z:Nat):Int)->H4 tp=none->H5=Ah H4 tp (.tup [.int y,.ref sr,.ref mv])->∃ H6 H7,DPut H5 rd (.ref r) (.ref tp) H6/\H6 ll=some (.lst (lr.map V.ref))/\H7=Ah H6 ll (.lst (lr.map V.ref++[.ref r]))/\
       ∃ (lr:List Addr) (ly ks:List (List Int)) (f:List Int->Nat) (Ag:List (List KI × V)),Same H H7/\H7 rd=some (.dT Ag)/\EntZ H7 Ag ks f (fun g=>((qCR Af st Aa).take (k+1)).foldl (bfM st) ((due.take i).foldl (bfS Af Aa) S0)=(ks,f,g,ly))/\H7 du=some (.lst (dr.map V.ref))/\StL H7 dr due/\H7 ll=some (.lst (lr.map V.ref))/\StL H7 lr ly/\BF Af Aa t ks due ly f i (k+1)/\ks.length=k0+ly.length/\H7 l=some (.lst (rs.map V.ref))/\MovL H7 rs (qCR Af st Aa)/\st ∈ ks:=by
      intro y H5 tp ey htp e5;subst ey e5;have s5:=qA2 htp (.tup [.int ((f st+z:Nat):Int),.ref sr,.ref mv]);have g5:(Ah H4 tp (.tup [.int ((f st+z:Nat):Int),.ref sr,.ref mv])) tp=some (.tup [.int ((f st+z:Nat):Int),.ref sr,.ref mv]):=qA1;generalize Ah H4 tp (.tup [.int ((f st+z:Nat):Int),.ref sr,.ref mv])=H5 at s5 g5;have grd5:=s5 _ _ grd4;have gr5:=s5 _ _ gr;have gll5:=s5 _ _ gll4;have nt:∀ kk xs,HO.dT kk ≠ .tup xs:=fun kk xs q=>by cases q
      have nt2:∀ kk xs,HO.lst kk ≠ .tup xs:=fun kk xs q=>by cases q
      have gll6:(Ah H5 rd (.dT (putK Ag (keyS (behL st (Ac,wk))) (.ref tp)))) ll=some (.lst (lr.map V.ref)):=(qA7 nll.1).trans gll5;refine ⟨_,_,.inr ⟨Ag,keyS (behL st (Ac,wk)),r,grd5,rfl,by rw [qD6];exact gr5,qBC (by lia),rfl⟩,gll6,rfl,lr++[r],ly++[behL st (Ac,wk)],ks++[behL st (Ac,wk)],_,_,qAD (qAD (sm4.trans s5) hrd0) fll,?_,(((ent4.same s5).snoc (m:=(Ac,wk)) hin g5 (s5 _ _ gst4) (s5 _ _ gmv4) (fun g e=>by rw [qIS hm2,e];unfold bfM;rw [if_neg hin,<- hz2])).put grd5 (nt _)).put gll6 (nt2 _),?_,((SD4.same s5).put grd5 (nt _)).put gll6 (nt2 _),?_,(((SL4.same s5).snoc gr5).put grd5 (nt _)).put gll6 (nt2 _),B2,?_,?_,((ML4.same s5).putG grd5 (nt _)).putG gll6 (nt2 _),A7.mpr (.inl hsk)⟩
      ·rw [qA7 nll.1.symm,qA1]
      ·rw [qA7 nll.2.symm,qA7 nrdu.symm];exact s5 _ _ gdu4
      ·rw [qA1,qAT]
      ·simp only [A4,B1];lia
      ·rw [qA7 nl.2.symm,qA7 nl.1.symm];exact s5 _ _ gl4
     refine ite2 (fun ck=>?_) (fun ck=>?_)
     ·rw [if_pos ck] at hz1;refine ⟨_,_,rfl,rfl,_,rfl,_,rfl,_,rfl,(by show 3<=sizeLine;decide),fun tp htp=>?_⟩
      refine opq fun Gw_8 hGw_8=>?_;obtain ⟨H6,H7,dp,g6,e7,lr2,ly2,ks2,f2,kvs2,x1,x2,x3,x4,x5,x6,x7,x8,x9,x10,x11,x12⟩:=fin _ _ tp (by rw [hz1]) htp rfl
      subst e7;refine hGw_8 ?_;refine ⟨_,rfl,_,rfl,rd,H6,rfl,dp,_,rfl,.inl ⟨rfl,_,SqL.of g6⟩,_,rfl,ll,_,_,rfl,rfl,g6,qBC (by rw [A0];lia),?_⟩
      exact hN2 _ _ ⟨lr2,ly2,ks2,f2,kvs2,_,_,_,rfl,x1,x2,x3,x4,x5,x6,x7,x8,x9,x10,x11,x12⟩
     ·rw [if_neg ck] at hz1;refine ⟨_,_,rfl,rfl,_,rfl,_,rfl,_,rfl,(by show 3<=sizeLine;decide),fun tp htp=>?_⟩
      refine opq fun Gw_9 hGw_9=>?_;obtain ⟨H6,H7,dp,g6,e7,lr2,ly2,ks2,f2,kvs2,x1,x2,x3,x4,x5,x6,x7,x8,x9,x10,x11,x12⟩:=fin _ _ tp (by rw [hz1]) htp rfl
      subst e7;refine hGw_9 ?_;refine ⟨_,rfl,_,rfl,rd,H6,rfl,dp,_,rfl,.inl ⟨rfl,_,SqL.of g6⟩,_,rfl,ll,_,_,rfl,rfl,g6,qBC (by rw [A0];lia),?_⟩
      exact hN2 _ _ ⟨lr2,ly2,ks2,f2,kvs2,_,_,_,rfl,x1,x2,x3,x4,x5,x6,x7,x8,x9,x10,x11,x12⟩
   ·refine fun σ Hd hI_4=>opq fun G_4 hG_4=>?_;obtain ⟨lr,ly,ks,f,Ag,v6,v7,v8,rfl,sm,grd,ent,gdu,SD,gll,SL,B,lks,gl,ML,hsk⟩:=hI_4;refine hG_4 ?_;rw [A0,lrs] at B;exact hN1 _ _ ⟨lr,ly,ks,f,Ag,_,_,_,_,rfl,sm,grd,ent.mono (fun g e=>by rw [A0,lrs,Q9] at e;rw [qIS hst];exact e),gdu,SD,gll,SL,B.next hst (A5 _),lks⟩
  ·refine fun σ Hd hI_5=>opq fun G_5 hG_5=>?_;obtain ⟨lr,ly,ks,f,Ag,v5,v6,v7,v8,rfl,sm,grd,ent,gdu,SD,gll,SL,B,lks⟩:=hI_5;refine hG_5 ?_;rw [A0,ldr] at B;have B2:=B.level (A5 _);have lb:=B2.len;refine ⟨_,rfl,hN0 _ _ ⟨_,?_,ll,lr,ly,ks,f,Ag,t+1,_,_,_,_,_,rfl,rfl,sm,grd,ent.mono (fun g e=>⟨by rw [A0,ldr,Q9] at e;rw [b3];exact e,b4⟩),gll,SL,B2⟩⟩
   rw [if_neg hz];by_cases c:ly=[]
   ·rw [if_pos c,lks,c,L9]
    lia
   ·have:0<ly.length:=A27.mpr c;rw [if_neg c,lks]
    lia
theorem sc_best_end:FnScope ["reached","asked","ends"] ["reached","asked"] (qA9 qC0):=qCB
theorem ok_best_end (F:Fun K "best_end" "best_end" qC0 f fd) (hcd:fd.code=.ref cc) (hBM:BM mg base) (qDK:hdIn K cc Pt=true) (qBI:Clb P w K mg base 1 qEI qH1 "has_all" ["results","works"] qHJ) (qF3:mg "min" = none):FnOk P w K mg base CX0 2 f fd ["reached","asked"] (qQW Pt):=by
 refine F.okL hcd sc_best_end (fun vs H Q E h=>?_) (fun A outer s H vs Q E hr h=>?_)
 ·obtain ⟨d,t,o,Ag,ks,fu,Ad,rfl,_⟩:=h
  rfl
 obtain ⟨d,t,o,Ag,ks,fu,Ad,rfl,hTab,hd,ent,lk,hT,la,q⟩:=h;have hu:=qJA hr;have hu2:=hu2_of hr;have rm:Room 1 _:=hr;have qXI:Room 1 _:=hr;refine ⟨_,(qA3 (qI4 (i:=2) sc_best_end.nd rfl rfl rfl (lcs (own:=["stand"]) (fv:=[1]) (by kernel_rfl)) (qON (pv 0)) (fun z1=>qCC 0) (fun z1=>(qGT (qR8 (qAW qBI hr rfl (qA0 (pv 0) (qA0 (pv 1) qA4)))))) (fun z1=>(pv 0)) (by kernel_rfl)) (qA8 (qAH (qU3 (p:="stand") (fv:=[0]) (q:="best_end.<locals>.<lambda>") rm rfl rfl qF3 qJ0 hBM rfl qDK (by kernel_rfl) (lms (by kernel_rfl)) rfl (fun _ _ _ _ _=>rfl) (qa3 hu2) (qA0 (pv 2) qA4) (fun z2=>(qBH (qA0 (qB3 (qIJ (K:=K) rfl) (qBJ (qYF _) (pv 1) (pv 0) (fun _ _=>rfl)) qA6 (fun _ _=>rfl)) (qA0 (pv 0) qA4)))) qE7)))),?_⟩
 try dsimp only [Cx.nox,Cx.wish,cxOf]
 have ln:=ent.len;refine ⟨_,rfl,d,o,Ag,rfl,hd,fun le hle=>?_⟩;refine qOX (p:=le) (a:=d) (o:=o) (Ag:=Ag) (fun k σ Hd=>∃ (v0:Option V) (er:List Addr),σ=[v0,some (.ref t)]/\Same H Hd/\Hd le=some (.lst (er.map V.ref))/\StL Hd er ((ks.take k).filter fun s=>decide (∀ x ∈ Ad,x ∈ s))) ?_ ?_ ?_ ?_
 ·exact ⟨none,[],rfl,qA2 hle _,qA1,.nil⟩
 ·refine fun k σ Hd hk hI_1=>opq fun G_1 hG_1=>?_;obtain ⟨v0,er,rfl,sd,_⟩:=hI_1;refine hG_1 ?_;exact sd _ _ hd
 ·refine fun k key v r σ Hd hx hr2 hI_2=>opq fun G_2 hG_2=>?_;obtain ⟨v0,er,rfl,sd,ge,SE⟩:=hI_2;obtain ⟨st,hst,e1,v3⟩:=qAO ent hx;refine hG_2 ?_;dsimp only at e1;subst e1;rw [qD6] at hr2;have hk2:=(B5.mp hst).1;have lE:er.length=((ks.take k).filter fun s=>decide (∀ x ∈ Ad,x ∈ s)).length:=B9 SE;have lE2:=J2 (fun s:List Int=>decide (∀ x ∈ Ad,x ∈ s)) (ks.take k);rw [C3] at lE2;refine ⟨_,rfl,_,rfl,r,t,st.map some,Ad,rfl,hr2.trans (by rw [P8];rfl),sd _ _ hT,la,fun H2 s2=>⟨_,rfl,?_⟩⟩
  rw [qUH];rw [D7,hst,D5,Y4];by_cases c:∀ x ∈ Ad,x ∈ st
  ·rw [decide_eq_true c];refine ⟨_,rfl,_,s2 _ _ ge,qBC (by rw [A0];lia),?_⟩
   rw [qAT];refine ⟨_,er++[r],rfl,qAD (sd.trans s2) hle,qA1,?_⟩;rw [O6,if_pos (decide_eq_true c)];exact ((SE.same s2).snoc (s2 _ _ hr2)).put (s2 _ _ ge) fun xs z=>by cases z
  ·rw [decide_eq_false c];refine ⟨_,er,rfl,sd.trans s2,s2 _ _ ge,?_⟩;rw [O6,if_neg (by rw [decide_eq_false c];exact B0),A03,L8]
   exact SE.same s2
 refine fun σ H1 hI_3=>opq fun G_3 hG_3=>?_;obtain ⟨v0,er,rfl,s1,ge,SE⟩:=hI_3;refine hG_3 ?_;rw [ln,Q9] at SE;have lE:er.length=(ks.filter fun s=>decide (∀ x ∈ Ad,x ∈ s)).length:=B9 SE;refine ⟨_,rfl,s1 _ _ hTab,le,er.map V.ref,(ks.filter fun s=>decide (∀ x ∈ Ad,x ∈ s)).map fun s=>(fu s:Int)::s,?_⟩;have key:∀ (i:Nat) (x:V) (k:List Int),(er.map V.ref)[i]?=some x->((ks.filter fun s=>decide (∀ x ∈ Ad,x ∈ s)).map fun s=>(fu s:Int)::s)[i]?=some k->∃ r s,x=.ref r/\k=(fu s:Int)::s/\s ∈ ks/\(∀ x ∈ Ad,x ∈ s)/\H1 r=some (.tup (s.map V.int)):=by
  intro i x k hx hk;obtain ⟨r,hr1,rfl⟩:=qC2 hx;obtain ⟨st,hst,gs⟩:=qAO SE hr1;rw [D0,hst] at hk;cases hk;have hm:=E6.mp (C4 hst);exact ⟨r,st,rfl,rfl,hm.1,of_decide_eq_true hm.2,gs⟩
 have run:∀ (i:Nat) (x:V) (k:List Int),(er.map V.ref)[i]?=some x->((ks.filter fun s=>decide (∀ x ∈ Ad,x ∈ s)).map fun s=>(fu s:Int)::s)[i]?=some k->∀ Hc,Sm0 H1 Hc->∃ r s vr xx yy,x=.ref r/\k=(fu s:Int)::s/\Hc r=some (.tup (s.map V.int))/\DGet Hc d (.ref r) (some (.ref vr))/\Hc vr=some (.tup [.int (fu s:Int),xx,yy]):=by
  intro i x k hx hk Hc sc;obtain ⟨r,st,e1,e2,e3,e4,e5⟩:=key i x k hx hk;obtain ⟨v,ev,vr,xx,yy,e6,e7⟩:=ent.val e3;subst e6;have gr:=sc _ _ e5;refine ⟨r,st,vr,xx,yy,e1,e2,gr,?_,sc _ _ (s1 _ _ e7)⟩;rw [<- ev];exact .inr ⟨Ag,keyS st,r,.inr ⟨o,sc _ _ (s1 _ _ hd)⟩,rfl,by rw [qD6];exact gr,rfl⟩
 cases er with
 | nil=>
  have he:(ks.filter fun s=>decide (∀ x ∈ Ad,x ∈ s))=[]:=F5.mp lE.symm;refine ⟨.non,rfl,ge,by rw [A0,A0,he];rfl,fun i x k hx=>by simp at hx,by rw [he];rfl,fun H2 s2=>(q H2 (s1.trans s2)).1 fun s hs c=>?_⟩
  have:s ∈ ks.filter fun s=>decide (∀ x ∈ Ad,x ∈ s):=E6.mpr ⟨hs,decide_eq_true c⟩;rw [he] at this;cases this
 | cons r0 er=>
  cases eZ:((r0::er).map V.ref).zip ((ks.filter fun s=>decide (∀ x ∈ Ad,x ∈ s)).map fun s=>(fu s:Int)::s) with
  | nil=>
   exfalso
   have:=congrArg Q2 eZ;rw [Y2,A0,A0,<- lE,E3,L9] at this
   lia
  | cons b rest=>
   obtain ⟨k,h1,h2⟩:=qI5 rest b;rw [<- eZ] at h1 h2;have at_:∀ p:V × List Int,p ∈ ((r0::er).map V.ref).zip ((ks.filter fun s=>decide (∀ x ∈ Ad,x ∈ s)).map fun s=>(fu s:Int)::s)->∃ i:Nat,((r0::er).map V.ref)[i]?=some p.1/\((ks.filter fun s=>decide (∀ x ∈ Ad,x ∈ s)).map fun s=>(fu s:Int)::s)[i]?=some p.2:=by
    intro p hp;obtain ⟨i,hi⟩:=R6 hp;rw [M6] at hi;exact ⟨i,hi.1,hi.2⟩
   obtain ⟨i,g1,g2⟩:=at_ _ h1;obtain ⟨r,st,e1,e2,e3,e4,e5⟩:=key i _ _ g1 g2;refine ⟨qBZ b rest,rfl,ge,by rw [A0,A0,lE],fun i x k hx hk Hc sc=>?_,rfl,fun H2 s2=>?_⟩
   ·obtain ⟨r,st,vr,xx,yy,a1,a2,a3,a4,a5⟩:=run i x k hx hk Hc sc;subst a1 a2;exact ⟨_,rfl,_,rfl,d,.ref vr,rfl,a4,vr,_,_,_,rfl,rfl,SqT.of a5,rfl,_,rfl,(by show 2<=sizeLine;decide),fun p hp=>⟨qA2 hp _,p,r,_,st,rfl,rfl,qA1,by rw [qA7 (qA5 a3 hp)];exact a3⟩⟩
   ·have e1:qBZ b rest=.ref r:=e1;rw [e1];refine (q H2 (s1.trans s2)).2 r st (s2 _ _ e5) ⟨e3,e4,fun s' hs' c'=>?_⟩;have hf:s' ∈ ks.filter fun s=>decide (∀ x ∈ Ad,x ∈ s):=E6.mpr ⟨hs',decide_eq_true c'⟩;obtain ⟨j,hj⟩:=R6 hf;have hj1:=(B5.mp hj).1;have hr1:j<((r0::er).map V.ref).length:=by rw [A0,lE];exact hj1
    have hq:(((r0::er).map V.ref)[j],(fu s':Int)::s') ∈ ((r0::er).map V.ref).zip ((ks.filter fun s=>decide (∀ x ∈ Ad,x ∈ s)).map fun s=>(fu s:Int)::s):=
     C4 (i:=j) (M6.mpr ⟨A8 hr1,by rw [D0,hj];rfl⟩)
    have hl:=h2 _ hq;have e2:k=(fu st:Int)::st:=e2;rw [e2] at hl;exact hl
section
variable {P:Program} {w:World} {K:PySem.W.Frag} {mg:Str->Option Value} {base:Heap} {f:Addr} {fd:FuncData}
theorem MovL.rev {H:Hp} {rs:List Addr} {ms:List Mv} (h:MovL H rs ms):MovL H rs.reverse ms.reverse:=by
 induction h with
 | nil=>exact .nil
 | @cons r m l1 l2 a _ ih=>
  rw [R9,R9];exact J6 ih a
theorem sc_plan_to:FnScope ["reached","stand","plan"] ["reached","stand"] (qA9 qDB):=qCB
theorem ok_plan_to_s (F:Fun K "plan_to" "plan_to" qDB f fd):FnOk P w K mg base CX0 1 f fd ["reached","stand"] qOB:=by
 refine F.okA sc_plan_to fun cdv A outer s H vs Q E hr h=>?_;obtain ⟨d,t,o,Ag,Af,Aa,ks,fu,g,st,rfl,gd,ent,wf,RC,FR,lk,gt,hst,q⟩:=h;have hu:=qJA hr;refine ⟨_,(qA3 (qAC (i:=2) sc_plan_to.nd rfl (E9 rfl) (qBN qA4)) (qA3 (qHP G6 (qDW (qNF (qB3 qAX (qBJ hu (pv 0) (pv 1) (fun _ _=>rfl)) qA6 (fun _ _=>rfl)))) (qA3 (qD2 (qLV F6 J8 J9 qCE (pv 2) (qA0 (qB3 qAX (qBJ hu (pv 0) (pv 1) (fun _ _=>rfl)) qA6 (fun _ _=>rfl)) qA4))) (qA8 (qAC (i:=1) sc_plan_to.nd rfl (E9 rfl) (qB3 qAX (qBJ hu (pv 0) (pv 1) (fun _ _=>rfl)) qA6 (fun _ _=>rfl)))))) (qA3 (qD2 (qVG F6 m8 n4 qJS (pv 2))) (qA8 (qAH (pv 2)))))),?_⟩
 try dsimp only [Cx.nox,Cx.wish,cxOf]
 have pv:=FR.prov;obtain ⟨u0,_,eu0⟩:=RC.snd st hst;have ep:pth fu g st=qE8 g u0 st:=by unfold pth;rw [show 2 * fu st - st.length=u0 by lia]
 have lenb:=(qR7 wf RC pv hst).2.2.2;rw [ep] at lenb;refine ⟨(by show 0<=sizeLine;decide),fun lp hlp=>?_⟩
 have s1:=qA2 hlp (.lst []);refine ⟨fun m σ Hc=>∃ (tr:Addr) (cur:List Int) (rs:List Addr) (done:List Mv),σ=[some (.ref d),some (.ref tr),some (.ref lp)]/\Same H Hc/\Hc tr=some (.tup (cur.map V.int))/\cur ∈ ks/\2 * fu cur=m+cur.length/\Hc lp=some (.lst (rs.map V.ref))/\MovL Hc rs done/\qE8 g u0 st=qE8 g m cur++done.reverse,
  ⟨u0,t,st,[],[],rfl,s1,s1 _ _ gt,hst,eu0,qA1,.nil,by simp⟩,?_⟩
 refine fun m σ Hc hI_1=>opq fun G_1 hG_1=>?_;obtain ⟨tr,cur,rs,done,rfl,sm,gtr,hcur,em,glp,ML,ed⟩:=hI_1;refine hG_1 ?_;have ld:rs.length=done.length:=B9 ML;have ldn:done.length+1<=ks.length:=by
  have:=congrArg Q2 ed;rw [A4,d6] at this
  lia
 obtain ⟨v,ev,vx⟩:=(ent.same sm).val hcur;rcases pv cur hcur with ⟨a1,a2,a3⟩ | ⟨p,mv,a1,a2,a3,a4,a5⟩
 ·rw [a2] at vx;obtain ⟨vr,rfl,gv⟩:=vx;have dg:DGet Hc d (.ref tr) (some (.ref vr)):=.inr ⟨Ag,keyS cur,tr,.inr ⟨o,sm _ _ gd⟩,rfl,by rw [qD6];exact gtr,ev.symm⟩
  refine ⟨_,rfl,_,rfl,d,.ref vr,rfl,dg,vr,_,_,_,rfl,rfl,SqT.of gv,rfl,_,rfl,?_⟩;refine iteF ?_;refine ⟨_,rfl,.inl ⟨rfl,_,SqL.of glp⟩,lp,_,rfl,rfl,glp,?_⟩;refine ⟨_,rfl,q lp _ (qAD sm hlp) hlp ?_⟩;have en:qE8 g m cur=[]:=by
   cases m with
   | zero=>rfl
   | succ m=>show (match g cur with | none=>[] | some (p,m')=>qE8 g m p++[m'])=[];rw [a2]
  rw [en,X9] at ed;rw [ep,ed];refine ⟨rs.reverse,by rw [qA1,A67],?_⟩
  exact (MovL.rev ML).putG glp fun xs z=>by cases z
 ·rw [a1] at vx;obtain ⟨vr,rp,rm,rfl,gv,grp,grm⟩:=vx;have dg:DGet Hc d (.ref tr) (some (.ref vr)):=.inr ⟨Ag,keyS cur,tr,.inr ⟨o,sm _ _ gd⟩,rfl,by rw [qD6];exact gtr,ev.symm⟩
  have em2:=em;rw [a5] at em2;obtain ⟨v',e1,e2⟩:=qKA RC a2 a3 (by rw [<- a4];exact em2)
  subst e1;refine ⟨_,rfl,_,rfl,d,.ref vr,rfl,dg,vr,_,_,_,rfl,rfl,SqT.of gv,rfl,_,rfl,?_⟩;refine iteT ?_;refine qU7 fun N0 hN0=>?_;refine ⟨_,rfl,.inl ⟨rfl,_,SqL.of glp⟩,_,rfl,_,rfl,d,.ref vr,rfl,dg,vr,_,_,_,rfl,rfl,SqT.of gv,rfl,lp,_,_,rfl,rfl,glp,qBC (by rw [A0];lia),?_⟩
  have s2:Same H (Ah Hc lp (.lst (rs.map V.ref++[V.ref rm]))):=qAD sm hlp;have nt:∀ kk xs,HO.lst kk ≠ .tup xs:=fun kk xs q=>by cases q
  have kp:∀ (r:Addr) (xs:List V),Hc r=some (.tup xs)->(Ah Hc lp (.lst (rs.map V.ref++[V.ref rm]))) r=some (.tup xs):=fun r xs gg=>by
   rw [qA7 (qCD gg glp fun z=>nt _ _ z.symm)];exact gg
  have dg2:DGet (Ah Hc lp (.lst (rs.map V.ref++[V.ref rm]))) d (.ref tr) (some (.ref vr)):=.inr ⟨Ag,keyS cur,tr,.inr ⟨o,s2 _ _ gd⟩,rfl,by rw [qD6];exact kp _ _ gtr,ev.symm⟩
  refine ⟨_,rfl,_,rfl,d,.ref vr,rfl,dg2,vr,_,_,_,rfl,rfl,SqT.of (kp _ _ gv),rfl,?_⟩;refine hN0 _ _ ⟨v',by lia,rp,p,rs++[rm],done++[mv],rfl,s2,kp _ _ grp,a2,e2,by rw [qA1,qAT],?_,?_⟩
  ·exact MovL.putG (J6 ML grm) glp (nt _)
  ·rw [ed];have epn:qE8 g (v'+1) cur=qE8 g v' p++[mv]:=by show (match g cur with | none=>[] | some (p,m')=>qE8 g v' p++[m'])=_;rw [a1]
   rw [epn,Q4,G5]
   rfl
end
section
variable {P:Program} {w:World} {K:PySem.W.Frag} {mg:Str->Option Value} {base:Heap} {f:Addr} {fd:FuncData}
theorem MosL.rev {H:Hp} {rs:List Addr} {ms:List Mo} (h:MosL H rs ms):MosL H rs.reverse ms.reverse:=by
 unfold MosL at h ⊢
 induction h with
 | nil=>exact .nil
 | @cons r m l1 l2 a _ ih=>
  rw [R9,R9];exact J6 ih a
theorem ok_plan_to_o (F:Fun K "plan_to" "plan_to" qDB f fd):FnOk P w K mg base CX0 1 f fd ["reached","stand"] qQU:=by
 refine F.okA sc_plan_to fun cdv A outer s H vs Q E hr h=>?_;obtain ⟨d,t,o,Ag,Af,wides,sizes,ks,fu,g,st,rfl,gd,ent,RC,pvo,lk,gt,hst,q⟩:=h;have hu:=qJA hr;refine ⟨_,(qA3 (qAC (i:=2) sc_plan_to.nd rfl (E9 rfl) (qBN qA4)) (qA3 (qHP G6 (qDW (qNF (qB3 qAX (qBJ hu (pv 0) (pv 1) (fun _ _=>rfl)) qA6 (fun _ _=>rfl)))) (qA3 (qD2 (qLV F6 J8 J9 qCE (pv 2) (qA0 (qB3 qAX (qBJ hu (pv 0) (pv 1) (fun _ _=>rfl)) qA6 (fun _ _=>rfl)) qA4))) (qA8 (qAC (i:=1) sc_plan_to.nd rfl (E9 rfl) (qB3 qAX (qBJ hu (pv 0) (pv 1) (fun _ _=>rfl)) qA6 (fun _ _=>rfl)))))) (qA3 (qD2 (qVG F6 m8 n4 qJS (pv 2))) (qA8 (qAH (pv 2)))))),?_⟩
 try dsimp only [Cx.nox,Cx.wish,cxOf]
 obtain ⟨u0,_,eu0⟩:=RC.snd st hst;have ep:pthO fu g st=qF6 g u0 st:=by unfold pthO;rw [show 2 * fu st - cntO st=u0 by lia]
 have lenb:=(qOK RC pvo hst).2.2;rw [ep] at lenb;refine ⟨(by show 0<=sizeLine;decide),fun lp hlp=>?_⟩
 have s1:=qA2 hlp (.lst []);refine ⟨fun m σ Hc=>∃ (tr:Addr) (cur:La) (rs:List Addr) (done:List Mo),σ=[some (.ref d),some (.ref tr),some (.ref lp)]/\Same H Hc/\Hc tr=some (.tup (cur.map oV))/\cur ∈ ks/\2 * fu cur=m+cntO cur/\Hc lp=some (.lst (rs.map V.ref))/\MosL Hc rs done/\qF6 g u0 st=qF6 g m cur++done.reverse,
  ⟨u0,t,st,[],[],rfl,s1,s1 _ _ gt,hst,eu0,qA1,.nil,by simp⟩,?_⟩
 refine fun m σ Hc hI_2=>opq fun G_2 hG_2=>?_;obtain ⟨tr,cur,rs,done,rfl,sm,gtr,hcur,em,glp,ML,ed⟩:=hI_2;refine hG_2 ?_;have ld:rs.length=done.length:=B9 ML;have ldn:done.length+1<=ks.length:=by
  have:=congrArg Q2 ed;rw [A4,d6] at this
  lia
 obtain ⟨v,ev,vx⟩:=(ent.same sm).val hcur;rcases pvo cur hcur with ⟨a1,a2,a3⟩ | ⟨p,mv,a1,a2,a3,a4,a5⟩
 ·rw [a2] at vx;obtain ⟨vr,rfl,gv⟩:=vx;have dg:DGet Hc d (.ref tr) (some (.ref vr)):=.inr ⟨Ag,keyO cur,tr,.inr ⟨o,sm _ _ gd⟩,rfl,by rw [qD7];exact gtr,ev.symm⟩
  refine ⟨_,rfl,_,rfl,d,.ref vr,rfl,dg,vr,_,_,_,rfl,rfl,SqT.of gv,rfl,_,rfl,?_⟩;refine iteF ?_;refine ⟨_,rfl,.inl ⟨rfl,_,SqL.of glp⟩,lp,_,rfl,rfl,glp,?_⟩;refine ⟨_,rfl,q lp rs.reverse _ (qAD sm hlp) hlp (by rw [qA1,A67]) ?_⟩
  have en:qF6 g m cur=[]:=by
   cases m with
   | zero=>rfl
   | succ m=>show (match g cur with | none=>[] | some (p,m')=>qF6 g m p++[m'])=[];rw [a2]
  rw [en,X9] at ed;rw [ep,ed];exact qOU (MosL.rev ML) glp fun xs z=>by cases z
 ·rw [a1] at vx;obtain ⟨vr,rp,rm,rfl,gv,grp,grm⟩:=vx;have dg:DGet Hc d (.ref tr) (some (.ref vr)):=.inr ⟨Ag,keyO cur,tr,.inr ⟨o,sm _ _ gd⟩,rfl,by rw [qD7];exact gtr,ev.symm⟩
  have em2:=em;rw [a5] at em2;obtain ⟨v',e1,e2⟩:=qHY RC a2 a3 (by rw [<- a4];exact em2)
  subst e1;refine ⟨_,rfl,_,rfl,d,.ref vr,rfl,dg,vr,_,_,_,rfl,rfl,SqT.of gv,rfl,_,rfl,?_⟩;refine iteT ?_;refine qU7 fun N0 hN0=>?_;refine ⟨_,rfl,.inl ⟨rfl,_,SqL.of glp⟩,_,rfl,_,rfl,d,.ref vr,rfl,dg,vr,_,_,_,rfl,rfl,SqT.of gv,rfl,lp,_,_,rfl,rfl,glp,qBC (by rw [A0];lia),?_⟩
  have s2:Same H (Ah Hc lp (.lst (rs.map V.ref++[V.ref rm]))):=qAD sm hlp;have nt:∀ kk xs,HO.lst kk ≠ .tup xs:=fun kk xs q=>by cases q
  have kp:∀ (r:Addr) (xs:List V),Hc r=some (.tup xs)->(Ah Hc lp (.lst (rs.map V.ref++[V.ref rm]))) r=some (.tup xs):=fun r xs gg=>by
   rw [qA7 (qCD gg glp fun z=>nt _ _ z.symm)];exact gg
  have dg2:DGet (Ah Hc lp (.lst (rs.map V.ref++[V.ref rm]))) d (.ref tr) (some (.ref vr)):=.inr ⟨Ag,keyO cur,tr,.inr ⟨o,s2 _ _ gd⟩,rfl,by rw [qD7];exact kp _ _ gtr,ev.symm⟩
  refine ⟨_,rfl,_,rfl,d,.ref vr,rfl,dg2,vr,_,_,_,rfl,rfl,SqT.of (kp _ _ gv),rfl,?_⟩;refine hN0 _ _ ⟨v',by lia,rp,p,rs++[rm],done++[mv],rfl,s2,kp _ _ grp,a2,e2,by rw [qA1,qAT],?_,?_⟩
  ·exact qOU (J6 ML grm) glp (nt _)
  ·rw [ed];have epn:qF6 g (v'+1) cur=qF6 g v' p++[mv]:=by show (match g cur with | none=>[] | some (p,m')=>qF6 g v' p++[m'])=_;rw [a1]
   rw [epn,Q4,G5]
   rfl
end
section
variable {P:Program} {w:World} {K:PySem.W.Frag} {mg:Str->Option Value} {base:Heap} {f:Addr} {fd:FuncData}
theorem ok_plan_to (F:Fun K "plan_to" "plan_to" qDB f fd):FnOk P w K mg base CX0 1 f fd ["reached","stand"] qGS:=FnOk.or (ok_plan_to_s F) (ok_plan_to_o F)
end
theorem qPM:FnScope ["layout"] ["layout"] (qA9 qG6):=qCB
theorem ok_rank_of (F:Fun K "rank_of" "rank_of" qG6 f fd):FnOk P w K mg base CX0 1 f fd ["layout"] qQT:=by
 refine F.okA qPM fun cdv A outer s H vs Q E hr h=>?_;obtain ⟨la,lay,rfl,hla,l1,q⟩:=h;refine ⟨_,(qA8 (qAH (qG8 rfl (lcs (own:=["result"]) (fv:=[]) (by kernel_rfl)) (qI6 (pv 0)) (fun z1=>qCC 0) (fun z1=>qBG) (fun z1=>(qDI (qDW (qLX (pv 0))) (qY9 qV6 qA6) (pv 0)))))),?_⟩
 try dsimp only [Cx.nox,Cx.wish,cxOf]
 refine ⟨_,rfl,la,rfl,⟨_,SqT.of hla⟩,fun p hp=>?_⟩;refine qJU (p:=p) (a:=la) (xs:=lay.map oV) (fun i σ Hc=>∃ (v:Option V),σ=[v]/\Same H Hc/\Hc p=some (.lst ((rkO (lay.take i)).map V.int))) ?_ ?_ ?_ ?_
 ·exact ⟨none,rfl,qA2 hp _,qA1⟩
 ·rintro i σ Hc hi ⟨v,rfl,sm,_⟩;exact SqT.of (sm _ _ hla)
 ·refine fun i x σ Hc hx hI_2=>opq fun G_2 hG_2=>?_;obtain ⟨v,rfl,sm,hpc⟩:=hI_2;refine hG_2 ?_;rw [D0] at hx;obtain ⟨o,ho,rfl⟩:=y4.mp hx;have hi:=(B5.mp ho).1;have bnd:((rkO (lay.take i)).map V.int).length<sizeLine:=qAF (by unfold rkO;rw [A0,A0,C3];lia)
  have fin:∀ y:Int,rk1 o=y->∀ lst,lst=(rkO (lay.take i)).map V.int++[V.int y]->lst=(rkO (lay.take (i+1))).map V.int:=by
   intro y ey lst el;rw [el,<- ey,D7,ho];unfold rkO;rw [D5,C8,C8]
   rfl
  cases o with
  | none=>
   refine ⟨_,rfl,_,rfl,?_⟩;rw [decide_eq_true (show oV none=V.non from rfl)];exact ⟨_,rfl,_,hpc,bnd,_,rfl,qAD sm hp,by rw [qA1];exact congrArg (fun l=>some (HO.lst l)) (fin _ rfl _ rfl)⟩
  | some z=>
   refine ⟨_,rfl,_,rfl,?_⟩;rw [decide_eq_false (show ¬ oV (some z)=V.non from fun e=>nomatch e)];exact ⟨_,rfl,_,hpc,bnd,_,rfl,qAD sm hp,by rw [qA1];exact congrArg (fun l=>some (HO.lst l)) (fin _ rfl _ rfl)⟩
 ·refine fun σ Hc hI_3=>opq fun G_3 hG_3=>?_;obtain ⟨v,rfl,sm,hpc⟩:=hI_3;refine hG_3 ?_;rw [A0,C2 (A5 _)] at hpc;exact q p Hc sm hp hpc
theorem qN6 {H:Hp} {ks:List La} {rs:List Addr} {zs:List (List Int × V)} (T:LaysAt H rs ks) (p:zs.Perm ((ks.map rkO).zip (rs.map V.ref))) (so:zs.Pairwise (fun a b=>HT.lexLt b.1 a.1=false)) :
  ∃ (rs':List Addr) (L:List La),zs.map (·.2)=rs'.map V.ref/\LaysAt H rs' L/\L.Perm ks/\L.Pairwise (fun x y=>HT.lexLt (rkO y) (rkO x)=false):=by
 have e:∀ {ks:List La} {rs:List Addr},LaysAt H rs ks->(ks.map rkO).zip (rs.map V.ref)=(rs.zip ks).map fun q=>(rkO q.2,V.ref q.1):=by
  intro ks rs T;unfold LaysAt at T
  induction T with
  | nil=>rfl
  | cons _ _ ih=>rw [C9,C9,F7,F7,C9,ih]
 have e2:∀ {ks:List La} {rs:List Addr},LaysAt H rs ks->(rs.zip ks).map (·.2)=ks/\∀ q ∈ rs.zip ks,H q.1=some (.tup (q.2.map oV)):=by
  intro ks rs T;unfold LaysAt at T
  induction T with
  | nil=>exact ⟨rfl,fun q hq=>nomatch hq⟩
  | cons g _ ih=>
   rw [F7,C9,ih.1];refine ⟨rfl,fun q hq=>?_⟩;rcases B7.mp hq with z | z
   ·rw [z];exact g
   ·exact ih.2 q z
 obtain ⟨P',p1,p2⟩:=L2.G.perm_map_inv p (rs.zip ks) (e T);subst p2;obtain ⟨h1,h2⟩:=e2 T;have la:∀ (P':List (Addr × La)),(∀ q ∈ P',H q.1=some (.tup (q.2.map oV)))->LaysAt H (P'.map (·.1)) (P'.map (·.2)):=by
  intro P'
  induction P' with
  | nil=>intro _;exact .nil
  | cons q P' ih=>intro h;exact .cons (h q (by simp)) (ih fun q hq=>h q (A9 _ hq))
 refine ⟨P'.map (·.1),P'.map (·.2),?_,la P' fun q hq=>h2 q (p1.mem_iff.mp hq),?_,?_⟩
 ·rw [P8,P8];rfl
 ·have:=p1.map (·.2);rw [h1] at this;exact this
 ·rw [J5] at so ⊢;exact so
theorem sc_least_there:FnScope ["net","wides","sizes","asked","reached","ends","end"] ["net","wides","sizes","asked"] (qA9 qBF):=qCB
theorem ok_least_there (F:Fun K "least_there" "least_there" qBF f fd) (hcd:fd.code=.ref cc) (hBM:BM mg base) (qC8:hdIn K cc Pt=true) (qBM:Clb P w K mg base 5 qC3 qGJ "layouts_reached" ["net","wides","sizes"] qOA) (qBI:Clb P w K mg base 1 qEI qH1 "has_all" ["results","works"] qHJ) (C_rank_of:Clb P w K mg base 1 qIV qQ9 "rank_of" ["layout"] qQT) (C_plan_to:Clb P w K mg base 1 qGK qK1 "plan_to" ["reached","stand"] qGS) (qBQ:mg "sorted" = none) (qF3:mg "min" = none):FnOk P w K mg base CX0 6 f fd ["net","wides","sizes","asked"] (qOE Pt):=by
 refine F.okL hcd sc_least_there (fun vs H Q E h=>?_) (fun A outer s H vs Q E hr h=>?_)
 ·obtain ⟨a,wd,sz,t,Af,wides,sizes,Ad,rfl,_⟩:=h
  rfl
 obtain ⟨a,wd,sz,t,Af,wides,sizes,Ad,rfl,hTab,T,hT,la,q⟩:=h;have hu:=qJA hr;have rm:Room 1 _:=hr.mono (by decide)
 have C_plan_to:=C_plan_to.imp fun _ _ _ _ h=>A16 h;refine ⟨_,(qA3 (qAC (i:=4) sc_least_there.nd rfl (A16 rfl) (qAW qBM hr rfl (qA0 (pv 0) (qA0 (pv 1) (qA0 (pv 2) qA4))))) (qA3 (qI4 (i:=5) sc_least_there.nd rfl rfl rfl (lcs (own:=["layout"]) (fv:=[3]) (by kernel_rfl)) (qON (pv 4)) (fun z2=>qCC 0) (fun z2=>(qGT (qR8 (qAW qBI hr rfl (qA0 (pv 0) (qA0 (pv 1) qA4)))))) (fun z2=>(pv 0)) (by kernel_rfl)) (qA3 (qBP (qVB (qKG (pv 5) (fun _=>rfl))) (qA8 (qAH (qBH (qA0 qB2 (qA0 (qU2 C_rank_of.G (hr.mono (by decide)) C_rank_of.b rfl C_rank_of.m rfl qBQ qDE (qA0 (pv 4) qA4)) qA4))))) qAP) (qA3 (qAC (i:=6) sc_least_there.nd rfl (E9 rfl) (qWH (p:="layout") (fv:=[4]) (q:="least_there.<locals>.<lambda>") rm rfl rfl qF3 qJ0 hBM rfl qC8 (by kernel_rfl) (lms (by kernel_rfl)) rfl (fun _ _ _ _ _=>rfl) (qa4 ) (qA0 (pv 5) qA4) (fun z3=>(qB3 (qIJ (K:=K) rfl) (qBJ (qYF _) (pv 1) (pv 0) (fun _ _=>rfl)) qA6 (fun _ _=>rfl))))) (qA8 (qAH (qBH (qA0 qB2 (qA0 (qAW C_plan_to hr rfl (qA0 (pv 4) (qA0 (pv 6) qA4))) (qA0 (qB3 qAX (qBJ hu (pv 4) (pv 6) (fun _ _=>rfl)) qA6 (fun _ _=>rfl)) qA4)))))))))),?_⟩
 try dsimp only [Cx.nox,Cx.wish,cxOf]
 have k5:=T.k5;have n6:=T.n6;refine ⟨_,rfl,_,rfl,_,rfl,a,wd,sz,Af,wides,sizes,rfl,T,fun d o Ag ks fu g H1 s1 hdn hd ent RC pvo=>?_⟩;have q:=q ks fu;have lk:ks.length<=16807:=F3 (qM5 (n:=Af.length) (k:=sizes.length) RC.nd fun s hs=>let ⟨_,m,_⟩:=RC.snd s hs;⟨m.1.len,m.1.ok⟩) (F3 (A26 (show Af.length+1<=7 by lia) _) (R7 (show 0<7 by decide) k5))
 have l5:∀ s ∈ ks,s.length<=1000:=fun s hs=>by
  obtain ⟨_,m,_⟩:=RC.snd s hs;have:=m.1.len
  lia
 have ln:=ent.len;have hT:=s1 _ _ hT;have hTab:=s1 _ _ hTab;refine ⟨_,rfl,d,o,Ag,rfl,hd,fun le hle=>?_⟩;refine qOX (p:=le) (a:=d) (o:=o) (Ag:=Ag) (fun k σ Hd=>∃ (v0:Option V) (er:List Addr),σ=[v0,some (.ref t)]/\Same H1 Hd/\Hd le=some (.lst (er.map V.ref))/\LaysAt Hd er ((ks.take k).filter fun s=>decide (∀ x ∈ Ad,some x ∈ s))) ?_ ?_ ?_ ?_
 ·exact ⟨none,[],rfl,qA2 hle _,qA1,.nil⟩
 ·refine fun k σ Hd hk hI_4=>opq fun G_4 hG_4=>?_;obtain ⟨v0,er,rfl,sd,_⟩:=hI_4;refine hG_4 ?_;exact sd _ _ hd
 ·refine fun k key v r σ Hd hx hr2 hI_5=>opq fun G_5 hG_5=>?_;obtain ⟨v0,er,rfl,sd,ge,SE⟩:=hI_5;obtain ⟨st,hst,e1,v3⟩:=qAO ent hx;refine hG_5 ?_;dsimp only at e1;subst e1;rw [qD7] at hr2;have hk2:=(B5.mp hst).1;have lE:er.length=((ks.take k).filter fun s=>decide (∀ x ∈ Ad,some x ∈ s)).length:=B9 SE;have lE2:=J2 (fun s:La=>decide (∀ x ∈ Ad,some x ∈ s)) (ks.take k);rw [C3] at lE2;refine ⟨_,rfl,_,rfl,r,t,st,Ad,rfl,hr2,sd _ _ hT,la,fun H2 s2=>⟨_,rfl,?_⟩⟩;rw [D7,hst,D5,Y4];by_cases c:∀ x ∈ Ad,some x ∈ st
  ·rw [decide_eq_true c];refine ⟨_,rfl,_,s2 _ _ ge,qBC (by rw [A0];lia),?_⟩
   rw [qAT];refine ⟨_,er++[r],rfl,qAD (sd.trans s2) hle,qA1,?_⟩;rw [O6,if_pos (decide_eq_true c)];exact ((SE.same s2).snoc (s2 _ _ hr2)).put (s2 _ _ ge) fun xs z=>by cases z
  ·rw [decide_eq_false c];refine ⟨_,er,rfl,sd.trans s2,s2 _ _ ge,?_⟩;rw [O6,if_neg (by rw [decide_eq_false c];exact B0),A03,L8]
   exact SE.same s2
 refine fun σ H2 hI_6=>opq fun G_6 hG_6=>?_;obtain ⟨v0,er,rfl,s2,ge,SE⟩:=hI_6;refine hG_6 ?_;rw [ln,Q9] at SE;have lE:er.length=(ks.filter fun s=>decide (∀ x ∈ Ad,some x ∈ s)).length:=B9 SE;have sA:=s1.trans s2;have hd2:=s2 _ _ hd;have ent2:=ent.same s2;refine ⟨_,rfl,_,.inl ⟨_,SqL.of ge,rfl⟩,?_⟩;cases er with
 | nil=>
  have he:(ks.filter fun s=>decide (∀ x ∈ Ad,some x ∈ s))=[]:=F5.mp lE.symm;refine iteT ?_;refine ⟨_,rfl,d,o,Ag,ks.map rkO,rfl,hd2,by lia,fun rs KA=>?_⟩
  have LA:LaysAt H2 rs ks:=by
   have:∀ {rs:List Addr} {Ag:KvO} {ks:List La},qPF H2 rs Ag->EntO H2 Ag ks fu g->LaysAt H2 rs ks:=by
    intro rs Ag ks h
    induction h generalizing ks with
    | nil=>intro e;cases e;exact .nil
    | cons a _ ih=>
     intro e;cases e with
     | cons b t=>exact .cons (by have:=a;rw [b.1,qD7] at this;exact this) (ih t)
   exact this KA ent2
  have lrs:rs.length=ks.length:=B9 LA;refine ⟨⟨by rw [A0,A0,lrs],fun i x k hx hk H3 s3=>?_⟩,fun H3 D zs s3 fD pm so=>?_⟩
  ·obtain ⟨r,hr1,rfl⟩:=qC2 hx;obtain ⟨st,hst,gs⟩:=qAO LA hr1;rw [D0,hst] at hk;cases hk;exact ⟨r,st,rfl,s3 _ _ gs,l5 st (C4 hst),fun l H4 s4 fl gl=>⟨s4,l,rfl,gl⟩⟩
  ·obtain ⟨rs',L,ez,LA',pL,sL⟩:=qN6 LA pm so;rw [ez];refine ⟨(by show 2<=sizeLine;decide),fun TT hTT=>?_⟩
   have sT:=qA2 hTT (.tup [.str "none",.ref D]);have sB:=(sA.trans s3).trans (qA2 fD (.lst (rs'.map V.ref)));have fD0:H D=none:=(sA.trans s3).free fD;refine ((q _ (sB.trans sT) RC).1 fun s hs c=>?_) TT D rs' L (sB.free hTT) qA1 fD0 (sT _ _ qA1) (((LA'.same s3).same (qA2 fD _)).same sT) pL sL;have:s ∈ ks.filter fun s=>decide (∀ x ∈ Ad,some x ∈ s):=E6.mpr ⟨hs,decide_eq_true c⟩;rw [he] at this;cases this
 | cons r0 er=>
  refine iteF ?_;refine ⟨_,rfl,s2 _ _ hTab,le,(r0::er).map V.ref,(ks.filter fun s=>decide (∀ x ∈ Ad,some x ∈ s)).map fun s=>[(fu s:Int)],?_⟩;have key:∀ (i:Nat) (x:V) (k:List Int),((r0::er).map V.ref)[i]?=some x->((ks.filter fun s=>decide (∀ x ∈ Ad,some x ∈ s)).map fun s=>[(fu s:Int)])[i]?=some k->∃ r s,x=.ref r/\k=[(fu s:Int)]/\s ∈ ks/\(∀ x ∈ Ad,some x ∈ s)/\H2 r=some (.tup (s.map oV)):=by
   intro i x k hx hk;obtain ⟨r,hr1,rfl⟩:=qC2 hx;obtain ⟨st,hst,gs⟩:=qAO SE hr1;rw [D0,hst] at hk;cases hk;have hm:=E6.mp (C4 hst);exact ⟨r,st,rfl,rfl,hm.1,of_decide_eq_true hm.2,gs⟩
  have at1:∀ {r:Addr} {s:La} {Hc:Hp},Same H2 Hc->s ∈ ks->H2 r=some (.tup (s.map oV))->∃ vr xx yy,DGet Hc d (.ref r) (some (.ref vr))/\Hc vr=some (.tup [.int (fu s:Int),xx,yy]):=by
   intro r s Hc sc hs gr;obtain ⟨v,ev,vx⟩:=ent2.val hs;obtain ⟨vr,xx,yy,e6,e7⟩:=vx.at;subst e6;refine ⟨vr,xx,yy,?_,sc _ _ e7⟩;rw [<- ev];exact .inr ⟨Ag,keyO s,r,.inr ⟨o,sc _ _ hd2⟩,rfl,by rw [qD7];exact sc _ _ gr,rfl⟩
  cases eZ:((r0::er).map V.ref).zip ((ks.filter fun s=>decide (∀ x ∈ Ad,some x ∈ s)).map fun s=>[(fu s:Int)]) with
  | nil=>
   exfalso
   have:=congrArg Q2 eZ;rw [Y2,A0,A0,<- lE,E3,L9] at this
   lia
  | cons b rest=>
   obtain ⟨k,h1,h2⟩:=qGU rest b;rw [<- eZ] at h1 h2;obtain ⟨i,hi⟩:=R6 h1;rw [M6] at hi;obtain ⟨r,st,e1,e2,e3,e4,e5⟩:=key i _ _ hi.1 hi.2;have le1:∀ s' ∈ ks,(∀ x ∈ Ad,some x ∈ s')->fu st<=fu s':=fun s' hs' c'=>by
    have hf:s' ∈ ks.filter fun s=>decide (∀ x ∈ Ad,some x ∈ s):=E6.mpr ⟨hs',decide_eq_true c'⟩;obtain ⟨j,hj⟩:=R6 hf;have hj1:=(B5.mp hj).1;have hr1:j<((r0::er).map V.ref).length:=by rw [A0,lE];exact hj1
    have hq:(((r0::er).map V.ref)[j],[(fu s':Int)]) ∈ ((r0::er).map V.ref).zip ((ks.filter fun s=>decide (∀ x ∈ Ad,some x ∈ s)).map fun s=>[(fu s:Int)]):=
     C4 (i:=j) (M6.mpr ⟨A8 hr1,by rw [D0,hj];rfl⟩)
    have hl:=h2 _ hq;have e2:k=[(fu st:Int)]:=e2;rw [e2] at hl;dsimp only at hl;rw [HT.lexLt_cons] at hl;by_cases c:(fu s':Int)=(fu st:Int)
    ·lia
    ·rw [if_neg c] at hl;have:=of_decide_eq_false hl
     lia
   refine ⟨qBZ b rest,rfl,ge,by rw [A0,A0,lE],fun i x k hx hk Hc sc=>?_,rfl,fun H3 s3=>?_⟩
   ·obtain ⟨r',s',a1,a2,a3,_,a5⟩:=key i x k hx hk;subst a1 a2;obtain ⟨vr,xx,yy,dg,gv⟩:=at1 sc a3 a5;exact ⟨_,rfl,_,rfl,d,.ref vr,rfl,dg,vr,_,_,_,rfl,rfl,SqT.of gv,rfl,(fun _ _ z=>z),_,rfl,rfl⟩
   ·have e1:qBZ b rest=.ref r:=e1;rw [e1];refine ⟨_,rfl,_,rfl,d,r,o,Ag,Af,wides,sizes,ks,fu,g,st,rfl,s3 _ _ hd2,ent2.same s3,RC,pvo,by lia,s3 _ _ e5,e3,fun lp rs H4 s4 fl gl ML=>?_⟩
    obtain ⟨vr,xx,yy,dg,gv⟩:=at1 (Same.trans s3 s4) e3 e5;refine ⟨_,rfl,_,rfl,d,.ref vr,rfl,dg,vr,_,_,_,rfl,rfl,SqT.of gv,rfl,(by show 3<=sizeLine;decide),fun TT hTT=>?_⟩
    have sT:=qA2 hTT (.tup [.str "plan",.ref lp,.int (fu st:Int)]);have sB:Same H H4:=(sA.trans s3).trans s4;obtain ⟨p1,p2,p3⟩:=qOK RC pvo e3;exact (q _ (sB.trans sT) RC).2 st e3 e4 le1 TT lp rs _ (sB.free hTT) qA1 ((sA.trans s3).free fl) (sT _ _ gl) (MosL.same ML sT) p1 p2 (by lia)
theorem sc_least_steps:FnScope ["net","asked","rooms","reached","paper","end"] ["net","asked","rooms"] (qA9 qCM):=qCB
theorem ok_least_steps (F:Fun K "least_steps" "least_steps" qCM f fd) (qDX:Clb P w K mg base 4 qCH qH0 "stands_reached" ["net","rooms"] qO9) (qK7:Clb P w K mg base 2 qDD qNU "best_end" ["reached","asked"] (qQW Pt)) (C_plan_to:Clb P w K mg base 1 qGK qK1 "plan_to" ["reached","stand"] qGS) (qBQ:mg "sorted" = none):FnOk P w K mg base CX0 5 f fd ["net","asked","rooms"] (qOD Pt):=by
 refine F.okA sc_least_steps fun cdv A outer s H vs Q E hr h=>?_;obtain ⟨a,t,Af,Aa,Ad,rfl,hTab,hN,wf,n12,⟨hT,rA⟩,q⟩:=h;have hu:=qJA hr;have hu64:=hr.units;have qQ8:Room 4 _:=hr;have C_plan_to:=C_plan_to.imp fun _ _ _ _ h=>E9 h;refine ⟨_,(qA3 (qAC (i:=3) sc_least_steps.nd rfl (A16 rfl) (qAW qDX hr rfl (qA0 (pv 0) (qA0 (pv 2) qA4)))) (qA3 (qI4 (i:=4) sc_least_steps.nd rfl rfl rfl (lcs (own:=["stand"]) (fv:=[3]) (by kernel_rfl)) (qD5 (qAE (L2.G.call_sortedTD rfl hu64) rfl qBQ qDE (qA0 (pv 3) qA4))) (fun z1=>qCC 0) (fun z1=>qBG) (fun z1=>(qBH (qA0 (pv 0) (qA0 (qB3 (qIJ (K:=K) rfl) (qBJ hu (pv 1) (pv 0) (fun _ _=>rfl)) qA6 (fun _ _=>rfl)) qA4)))) (by kernel_rfl)) (qA3 (qAC (i:=5) sc_least_steps.nd rfl (E9 rfl) (qAW qK7 hr rfl (qA0 (pv 3) (qA0 (pv 1) qA4)))) (qA3 (qBP (qDW (qLX (pv 5))) (qA8 (qAH (qBH (qA0 qB2 (qA0 (pv 4) qA4))))) qAP) (qA8 (qAH (qBH (qA0 qB2 (qA0 (qAW C_plan_to hr rfl (qA0 (pv 3) (qA0 (pv 5) qA4))) (qA0 (qB3 qAX (qBJ hu (pv 3) (pv 5) (fun _ _=>rfl)) qA6 (fun _ _=>rfl)) (qA0 (pv 4) qA4))))))))))),?_⟩
 try dsimp only [Cx.nox,Cx.wish,cxOf]
 refine ⟨_,rfl,_,rfl,a,Af,Aa,rfl,hN,wf,n12,fun d o Ag ks fu g H1 s1 fd1 gd ent RC FR=>?_⟩;have lk:=RC.len;have pw:2 ^ Af.length<=2 ^ 12:=R7 (by decide) n12
 have lk2:ks.length<=4096:=F3 lk (by lia)
 have la:Ad.length<=1000:=by have:=rA.len;lia
 refine ⟨_,rfl,d,o,Ag,ks,rfl,gd,ent.keys,FR.head,fun sl rs L hsl TA pm srt=>?_⟩;have s2:=qA2 hsl (.lst (rs.map V.ref));have gsl:(Ah H1 sl (.lst (rs.map V.ref))) sl=some (.lst (rs.map V.ref)):=qA1;have TA2:L2.G.TupsAt (Ah H1 sl (.lst (rs.map V.ref))) rs L:=Paired.mapP TA fun _ _ z=>s2 _ _ z;generalize Ah H1 sl (.lst (rs.map V.ref))=H2 at s2 gsl TA2;have lrs:rs.length=L.length:=B9 TA2;have lL:L.length=ks.length:=pm.length_eq;refine ⟨sl,rfl,⟨_,SqL.of gsl⟩,fun pp hpp=>?_⟩;have fpp:H pp=none:=(s1.trans s2).free hpp;refine qGX (p:=pp) (a:=sl) (xs:=rs.map V.ref) (fun k σ Hc=>∃ (v0:Option V) (qs:List Addr),σ=[v0,some (.ref d)]/\Same H2 Hc/\Hc pp=some (.lst (qs.map V.ref))/\RowsAt Hc qs (L.take k) fu) ?_ ?_ ?_ ?_
 ·exact ⟨none,[],rfl,qA2 hpp _,qA1,.nil⟩
 ·rintro k σ Hc hk ⟨v0,qs,rfl,sd,_⟩;exact SqL.of (sd _ _ gsl)
 ·refine fun k x σ Hc hx hI_2=>opq fun G_2 hG_2=>?_;obtain ⟨v0,qs,rfl,sd,gpp,RA⟩:=hI_2;obtain ⟨sr,hsr,rfl⟩:=qC2 hx;obtain ⟨st,hst,gst⟩:=qAO TA2 hsr;refine hG_2 ?_;have hk:=(B5.mp hst).1;have hin:st ∈ ks:=pm.mem_iff.mp (C4 hst);obtain ⟨v,ev,vr,xx,yy,e6,gv⟩:=(((ent.same s2).same sd).ent).val hin;subst e6;have gst2:=sd _ _ gst;have dg:DGet Hc d (.ref sr) (some (.ref vr)):=.inr ⟨Ag,keyS st,sr,.inr ⟨o,sd _ _ (s2 _ _ gd)⟩,rfl,by rw [qD6];exact gst2,ev.symm⟩
  have lq:qs.length=(L.take k).length:=B9 RA;rw [C3] at lq;refine ⟨_,rfl,_,rfl,_,rfl,d,.ref vr,rfl,dg,vr,_,_,_,rfl,rfl,SqT.of gv,rfl,(by show 2<=sizeLine;decide),fun tp htp=>?_⟩
  have s3:=qA2 htp (.tup [.ref sr,.int (fu st:Int)]);refine ⟨_,s3 _ _ gpp,qBC (by rw [A0];lia),_,qs++[tp],rfl,qAD (sd.trans s3) hpp,by rw [qA1,qAT],?_⟩
  rw [D7,hst,D5];exact RowsAt.put (J6 (RA.same s3) ⟨sr,qA1,s3 _ _ gst2⟩) (s3 _ _ gpp) fun xs z=>by cases z
 refine fun σ H3 hI_3=>opq fun G_3 hG_3=>?_;obtain ⟨v0,qs,rfl,sd,gpp,RA⟩:=hI_3;refine hG_3 ?_;rw [A0,lrs,Q9] at RA;have sm3:=(s1.trans s2).trans sd;have ent3:=(ent.same s2).same sd;have gd3:=sd _ _ (s2 _ _ gd);refine ⟨_,rfl,_,rfl,d,t,o,Ag,ks,fu,Ad,rfl,sm3 _ _ hTab,gd3,ent3.ent,lk2,sm3 _ _ hT,la,fun H4 s4=>⟨fun hn=>?_,fun rr st gst B=>?_⟩⟩
 ·refine ⟨_,rfl,_,rfl,?_⟩;refine iteT ?_;refine ⟨_,rfl,(by show 2<=sizeLine;decide),fun T hT'=>?_⟩
  have s5:=qA2 hT' (.tup [.str "none",.ref pp]);exact (q T pp qs L ks fu g _ ((sm3.trans s4).trans s5) RC FR pm srt fpp (s5 _ _ (s4 _ _ gpp)) ((RA.same s4).same s5)).1 hn qA1
 ·refine ⟨_,rfl,_,rfl,?_⟩;refine iteF ?_;refine ⟨_,rfl,_,rfl,d,rr,o,Ag,Af,Aa,ks,fu,g,st,rfl,s4 _ _ gd3,ent3.same s4,wf,RC,FR,lk2,gst,B.1,fun l H5 s5 fl PL=>?_⟩;have s45:=s4.trans s5;obtain ⟨v,ev,vr,xx,yy,e6,gv⟩:=(ent3.ent.same s45).val B.1;subst e6;have dg:DGet H5 d (.ref rr) (some (.ref vr)):=.inr ⟨Ag,keyS st,rr,.inr ⟨o,s45 _ _ gd3⟩,rfl,by rw [qD6];exact s5 _ _ gst,ev.symm⟩
  refine ⟨_,rfl,_,rfl,d,.ref vr,rfl,dg,vr,_,_,_,rfl,rfl,SqT.of gv,rfl,_,rfl,(by show 4<=sizeLine;decide),fun T hT'=>?_⟩
  have s6:=qA2 hT' (.tup [.str "plan",.ref l,.int (fu st:Int),.ref pp]);exact (q T pp qs L ks fu g _ ((sm3.trans s45).trans s6) RC FR pm srt fpp (s6 _ _ (s45 _ _ gpp)) ((RA.same s45).same s6)).2 l st B ((sm3.trans s4).free fl) (qA5 (s4 _ _ gpp) fl).symm (PL.same s6) qA1
theorem sc_Lsteps:FnScope ["_law_net_here","_law_wides","_law_sizes","_law_asked_here","_law_told"] ["_law_net_here","_law_wides","_law_sizes","_law_asked_here"] (qA9 qHL):=qCB
theorem ok_Lsteps (F:Fun K "_law_steps" "_law_steps" qHL f fd) (qGQ:Clb P w K mg base 6 qBX qJD "least_there" ["net","wides","sizes","asked"] (qOE Pt)):FnOk P w K mg base CX0 7 f fd ["_law_net_here","_law_wides","_law_sizes","_law_asked_here"] (qLK Pt):=by
 refine F.okA sc_Lsteps fun cdv A outer s H vs Q E hr h=>?_;obtain ⟨a,wd,sz,t,Af,wides,sizes,Ad,rfl,hTab,T,k4,hT,la,q⟩:=h;refine ⟨_,(qA3 (qAC (i:=4) sc_Lsteps.nd rfl (E9 rfl) (qAW qGQ hr rfl (qA0 (pv 0) (qA0 (pv 1) (qA0 (pv 2) (qA0 (pv 3) qA4)))))) (qA8 (qAH (qDI (qAL qFO (qB3 qAX (pv 4) qA6 (fun _ _=>rfl)) qB2 (qAV _)) (qB3 qAX (pv 4) qA6 (fun _ _=>rfl)) qA6)))),?_⟩
 try dsimp only [Cx.nox,Cx.wish,cxOf]
 refine ⟨_,rfl,_,rfl,_,rfl,_,rfl,a,wd,sz,t,Af,wides,sizes,Ad,rfl,hTab,T,hT,la,fun ks f H1 s1 RC=>⟨fun no TT p rs L hn gT _ _ _ _ _=>?_,fun s hs ha le TT p rs ms hn gT _ _ _ _ _ _=>?_⟩⟩
 ·refine ⟨_,rfl,TT,_,_,_,rfl,rfl,SqT.of gT,rfl,rfl,_,rfl,?_⟩;refine iteF ?_;exact q _ _ s1 (RC.none no)
 ·refine ⟨_,rfl,TT,_,_,_,rfl,rfl,SqT.of gT,rfl,rfl,_,rfl,?_⟩;refine iteT ?_;exact ⟨_,rfl,TT,_,_,_,rfl,rfl,SqT.of gT,rfl,q _ _ s1 (RC.stp k4 T.n6 hs ha le)⟩
theorem sc_law:FnScope ["_law_script","_law_state","_law_net_here","_law_wides","_law_sizes","_law_asked_here","_law_wide","_law_told","_law_due","_law_ones","_law_steps_here","_law_at","_law_turned","_law_wider","_law_longer","_law_more"] ["_law_script"] (qA9 qJ4):=qCB
theorem ok_law (F:Fun K "law" "law" qJ4 f fd) (qHU:Clb P w K mg base 1 qKZ qSS "_law_begin" ["_law_script"] (qQX K)) (qAU:Clb P w K mg base 1 qEJ qF1 "_law_take" ["_law_state","_law_many"] qHZ) (qHT:Clb P w K mg base 4 qKX qSQ "_law_there" ["_law_state"] qLJ) (qHV:Clb P w K mg base 2 qL0 qST "_law_asked" ["_law_state","_law_net_here"] qQY) (qCS:Clb P w K mg base 5 qDO qJE "least_steps" ["net","asked","rooms"] (qOD Pt)) (qBY:Clb P w K mg base 7 qKY qSR "_law_steps" ["_law_net_here","_law_wides","_law_sizes","_law_asked_here"] (qLK Po))
  (qBT:mg "len" = none) (qF3:mg "min" = none) (qTL:mg "max" = none) (qB1:mg "tuple" = none):FnOk P w K mg base CX0 8 f fd ["_law_script"] (qKB K Pt Po):=by
 refine F.okA sc_law fun cdv A outer s H vs Q E hr h=>?_;obtain ⟨hTab,hTo,sc,ns,rfl,hS,h63,q⟩:=h;refine ⟨_,(qA3 (qAC (i:=1) sc_law.nd rfl (E9 rfl) (qAW qHU hr rfl (qA0 (pv 0) qA4))) (qA3 (qVC (qAW qHT hr rfl (qA0 (pv 1) qA4)) (qRG rfl (qDH (qBR (i:=2) sc_law.nd rfl (E9 rfl)) (qDH (qBR (i:=3) sc_law.nd rfl (E9 rfl)) (qDH (qBR (i:=4) sc_law.nd rfl (E9 rfl)) qNE))))) (qA3 (qAC (i:=4) sc_law.nd rfl (E9 rfl) (qC5 qI2 (pv 4) qD4 (qD3 qA6))) (qA3 (qAC (i:=5) sc_law.nd rfl (E9 rfl) (qAW qHV hr rfl (qA0 (pv 1) (qA0 (pv 2) qA4)))) (qA3 (qAC (i:=6) sc_law.nd rfl (E9 rfl) (qAQ qNG (qBH (qA0 qA6 qA4)) (qAE qAB rfl qBT qBS (qA0 (pv 4) qA4)))) (qA3 (qAC (i:=7) sc_law.nd rfl (E9 rfl) (qAW qCS hr rfl (qA0 (pv 2) (qA0 (pv 5) (qA0 (qAE qAB rfl qBT qBS (qA0 (pv 4) qA4)) qA4))))) (qA3 (qAC (i:=8) sc_law.nd rfl (E9 rfl) (qDI (qAL qFO (qB3 qAX (pv 7) qA6 (fun _ _=>rfl)) qB2 (qAV _)) (qB3 qAX (pv 7) qA6 (fun _ _=>rfl)) qA6)) (qA3 (qBP (qAL qRK (qAW qBY hr rfl (qA0 (pv 2) (qA0 (pv 3) (qA0 (pv 6) (qA0 (pv 5) qA4))))) (pv 8) (qAV _)) (qA8 (qAH qLW)) qAP) (qA3 (qAC (i:=9) sc_law.nd rfl (E9 rfl) (qAQ qNG (qBH (qA0 qA6 qA4)) (qAE qAB rfl qBT qBS (qA0 (pv 2) qA4)))) (qA3 (qBP (qAL qRK (qAW qBY hr rfl (qA0 (pv 2) (qA0 (pv 9) (qA0 (pv 4) (qA0 (pv 5) qA4))))) (pv 8) (qAV _)) (qA8 (qAH qLW)) qAP) (qA3 (qAC (i:=10) sc_law.nd rfl (E9 rfl) (qAW qBY hr rfl (qA0 (pv 2) (qA0 (pv 3) (qA0 (pv 4) (qA0 (pv 5) qA4)))))) (qA3 (qBP (qAL qRK (qAW qBY hr rfl (qA0 (pv 2) (qA0 (pv 9) (qA0 (pv 4) (qA0 (pv 5) qA4))))) (pv 8) (qAV _)) (qA8 (qAH qLW)) qAP) (qA3 (qAC (i:=11) sc_law.nd rfl (E9 rfl) (qAW qAU hr rfl (qA0 (pv 1) (qA0 (qAE qAB rfl qBT qBS (qA0 (pv 4) qA4)) qA4)))) (qA3 (qAC (i:=12) sc_law.nd rfl (E9 rfl) (qAQ qIB (qC5 qI2 (pv 4) (qD3 (pv 11)) qD4) (qC5 qI2 (pv 4) qD4 (qD3 (pv 11))))) (qA3 (qBP (PW.pt (qZQ (qAL qRK (qAW qBY hr rfl (qA0 (pv 2) (qA0 (pv 3) (qA0 (pv 12) (qA0 (pv 5) qA4))))) (pv 10) (qAV _)) (qY4 (qAL qPS (pv 10) (pv 8) (qAV _))))) (qA8 (qAH qLW)) qAP) (qA3 (qAC (i:=13) sc_law.nd rfl (E9 rfl) (qAQ qIB (qAQ qIB (qC5 qI2 (pv 4) qD4 (qD3 (pv 11))) (qBH (qA0 (qAE (qEO rfl) rfl qF3 qJ0 (qA0 qA6 (qA0 (qAQ qBV (qAQ qBV (qB3 qAX (pv 4) (pv 11) (fun _ _=>rfl)) qA6) (qAW qAU hr rfl (qA0 (pv 1) (qA0 qA6 qA4)))) qA4))) qA4))) (qC5 qI2 (pv 4) (qD3 (qAQ qBV (pv 11) qA6)) qD4))) (qA3 (qBP (qAL qPT (qAW qBY hr rfl (qA0 (pv 2) (qA0 (pv 3) (qA0 (pv 13) (qA0 (pv 5) qA4))))) (pv 10) (qAV _)) (qA8 (qAH qLW)) qAP) (qA3 (qAC (i:=14) sc_law.nd rfl (E9 rfl) (qAQ qIB (pv 4) (qBH (qA0 (qAQ qBV qA6 (qAW qAU hr rfl (qA0 (pv 1) (qA0 qA6 qA4)))) qA4)))) (qA3 (qBP (PW.pt (qVA (qAL qPS (qAE qAB rfl qBT qBS (qA0 (pv 4) qA4)) qA6 (qAV _)) (qR6 (qAL qPT (qAW qBY hr rfl (qA0 (pv 2) (qA0 (pv 3) (qA0 (pv 14) (qA0 (pv 5) qA4))))) (pv 10) (qAV _))))) (qA8 (qAH qLW)) qAP) (qA3 (qBP (qAL qPS (qAE (qT8 rfl) rfl qTL qVV (qA0 (qAQ qIB (pv 3) (pv 4)) qA4)) qA6 (qAV _)) (qA3 (qI4 (i:=15) sc_law.nd rfl rfl rfl (lcs (own:=["_law_some"]) (fv:=[]) (by kernel_rfl)) (qI6 (qBH (qA0 (pv 3) (qA0 (pv 4) qA4)))) (fun z1=>qCC 0) (fun z1=>qBG) (fun z1=>(qAI (qFX (K:=K) rfl) rfl qB1 qBA (qA0 (qG8 (X:=lcCx _ _ _ _ z1) rfl (lcs (own:=["_law_one"]) (fv:=[]) (by kernel_rfl)) (qRF (K:=K) rfl (pv 0)) (fun z2=>qCC 0) (fun z2=>qBG) (fun z2=>(qAQ qBV (pv 0) qA6))) qA4))) (by kernel_rfl)) (qA8 (qAH (qI7 qFO (qAW qBY hr rfl (qA0 (pv 2) (qA0 (qB3 qEE (pv 15) qA6 (fun _ _=>rfl)) (qA0 (qB3 qEE (pv 15) qA6 (fun _ _=>rfl)) (qA0 (pv 5) qA4))))) (pv 10) (qAV _))))) qAP) (qA8 (qAH qLW)))))))))))))))))))))),?_⟩
 try dsimp only [Cx.nox,Cx.wish,cxOf]
 refine ⟨_,rfl,sc,ns,rfl,hS,h63,fun d c ms H1 S1 sm0 hd0 hc0=>?_⟩;have hTab:TabB H1 Pt:=sm0 _ _ hTab;have hTo:TabO H1 Po:=sm0 _ _ hTo;refine ⟨_,rfl,d,c,0,ms,rfl,S1,(by show (0:Int)<=1000000000 - 20000;decide),fun T0 a wd sz0 Af wides sizes0 t2 ns2 H2 S2 g1 g2 K2 gT T2 w9 s90=>?_⟩
 have hTab:=hTab.keep7 S1 K2;have hTo:=hTo.keep7 S1 K2;refine ⟨T0,_,rfl,SqT.of gT,rfl,_,_,rfl,_,_,rfl,_,_,rfl,rfl,?_⟩;refine ⟨_,rfl,_,rfl,sz0,_,rfl,T2.sizes_,fun sz H3 s3 gsz=>?_⟩;rw [qC9,show (4:Int)=((4:Nat):Int) from rfl,qL6] at gsz;obtain ⟨sizes,es⟩:∃ l,l=sizes0.take 4:=⟨_,rfl⟩;rw [<- es] at gsz;have k50:=T2.k5;have k10:=T2.k1;have n6:=T2.n6;have n1:=T2.n1;have lsz:sizes.length=min 4 sizes0.length:=by rw [es,C3]
 have k4:sizes.length<=4:=by lia
 have k1:1<=sizes.length:=by lia
 have s9:∀ x ∈ sizes,1<=x/\x<=9:=fun x hx=>s90 x (L5 (by rw [<- es];exact hx))
 have T3:TKit H3 a wd sz Af wides sizes:=(T2.same s3).with (s3 _ _ T2.wides_) T2.lw w9 gsz k1 k4 s9;have S3:=S2.same s3;have hTab:TabB H3 Pt:=s3 _ _ hTab;have hTo:TabO H3 Po:=s3 _ _ hTo;have lw:=T2.lw;clear T2 S2 gT K2 S1 sm0 hd0 hc0 s3 gsz hS es s90 lsz k50 k10;refine ⟨_,rfl,_,rfl,d,c,t2,ns2,a,Af,rfl,S3,(by show t2<=1000000000 - 100;lia),T3.net_,T3.wf,n1,by lia,fun ta ws t3 ns3 H4 S4 g3 g4 K4 gta ri l1=>?_⟩
 have T4:=T3.keep S3 K4;have hTab:=hTab.keep7 S3 K4;have hTo:=hTo.keep7 S3 K4;have lws:=ri.len;clear T3 S3 K4;have lsz:(((sizes.map V.int).length:Nat):Int)=(sizes.length:Int):=by rw [A0]
 refine ⟨(by show 1<=sizeLine;decide),fun u9 hu9=>?_⟩
 have s5:=qA2 hu9 (.tup [.int 9]);refine ⟨_,rfl,sz,_,rfl,.inr (SqT.of (s5 _ _ T4.sizes_)),?_⟩;rw [lsz];refine qR3 qA1 k1 (by lia) fun wn H5 s6 gwn=>?_
 have s5:=s5.trans s6;have T5:=T4.same s5;have S5:=S4.same s5;have gta:=s5 _ _ gta;have hTab:TabB H5 Pt:=s5 _ _ hTab;have hTo:TabO H5 Po:=s5 _ _ hTo;clear s6 s5 T4 S4 hu9;refine cut fun N0 hN0=>hN0 _ _ ?_;refine cut fun N1 hN1=>?_;have due:∀ (T:Addr) (v:Int) (H6:Hp),Same H5 H6->StpS Af (sizes.length:Int) ws v->((∃ pp,v=1000/\H6 T=some (.tup [.str "none",.ref pp]))\/∃ l pp,H6 T=some (.tup [.str "plan",.ref l,.int v,.ref pp]))->
   N1 [some (.ref sc),some (.ref d),some (.ref a),some (.ref wd),some (.ref sz),some (.ref ta),some (.ref wn),some (.ref T),none,none,none,none,none,none,none,none] H6:=by
  intro T v H6 s6 sv hv;refine hN1 _ _ ?_;refine cut fun N2 hN2=>?_;have rest:N2 [some (.ref sc),some (.ref d),some (.ref a),some (.ref wd),some (.ref sz),some (.ref ta),some (.ref wn),some (.ref T),some (.int v),none,none,none,none,none,none,none] H6:=by
   refine hN2 _ _ ?_;have T6:=T5.same s6;have gwn:=s6 _ _ gwn;have S6:=S5.same s6;have gta:=s6 _ _ gta;have hTo:TabO H6 Po:=s6 _ _ hTo;clear hTab s6 hv T5 S5;refine ⟨_,rfl,_,rfl,_,rfl,_,rfl,a,wd,wn,ta,Af,wides,_,ws,rfl,hTo,T6.with T6.wides_ lw w9 gwn (by rw [F1];exact k1) (by rw [F1];exact k4) (qVN (by decide) (by decide)),by rw [F1];exact k4,gta,by lia,fun v1 H7 s7 st1=>?_⟩
   have e1:v1=v:=st1.eq (qQK lw w9 sizes.length) (by rw [F1];exact sv)
   subst e1;refine ⟨_,rfl,rfl,_,rfl,?_⟩;refine ite2 (fun ck=>by simp at ck) (fun _=>?_)
   have T7:=T6.same s7;have S7:=S6.same s7;have gta:=s7 _ _ gta;have hTo:TabO H7 Po:=s7 _ _ hTo;clear T6 S6 s7 gwn st1;refine ⟨(by show 1<=sizeLine;decide),fun u1 hu1=>?_⟩
   have s8:=qA2 hu1 (.tup [.int 1]);obtain ⟨rs,hA,NL⟩:=id (T7.net_.same s8);have lrs:(((rs.map V.ref).length:Nat):Int)=(Af.length:Int):=by rw [A0,NetAt.len NL]
   refine ⟨_,rfl,a,_,rfl,.inr (SqT.of hA),?_⟩;rw [lrs];refine qR3 qA1 n1 (by lia) fun wo H8 s9' gwo=>?_
   have s8:=s8.trans s9';have T8:=T7.same s8;have S8:=S7.same s8;have gta:=s8 _ _ gta;have hTo:TabO H8 Po:=s8 _ _ hTo;clear T7 S7 s8 s9' NL lrs hA hu1;have lo:(D2 Af.length (1:Int)).length=Af.length:=F1;have o9:∀ x ∈ D2 Af.length (1:Int),1<=x/\x<=9:=qVN (by decide) (by decide)
   refine cut fun N0 hN0=>hN0 _ _ ?_;refine ⟨_,rfl,_,rfl,_,rfl,_,rfl,a,wo,sz,ta,Af,_,sizes,ws,rfl,hTo,T8.with gwo lo o9 T8.sizes_ k1 k4 s9,k4,gta,by lia,fun v2 H9 t9 st2=>?_⟩
   have e2:v2=v1:=st2.eq (qLF s9) sv;subst e2;refine ⟨_,rfl,rfl,_,rfl,?_⟩;refine ite2 (fun ck=>by simp at ck) (fun _=>?_)
   have T9:=T8.same t9;have S9:=S8.same t9;have gta:=t9 _ _ gta;have gwo:=t9 _ _ gwo;have hTo:TabO H9 Po:=t9 _ _ hTo;clear T8 S8 t9 st2;refine ⟨_,rfl,_,rfl,_,rfl,_,rfl,a,wd,sz,ta,Af,wides,sizes,ws,rfl,hTo,T9,k4,gta,by lia,fun v H10 t9 st=>?_⟩
   have T10:=T9.same t9;have S10:=S9.same t9;have gta:=t9 _ _ gta;have gwo:=t9 _ _ gwo;have hTo:TabO H10 Po:=t9 _ _ hTo;clear T9 S9 t9;refine ⟨_,rfl,_,rfl,_,rfl,_,rfl,a,wo,sz,ta,Af,_,sizes,ws,rfl,hTo,T10.with gwo lo o9 T10.sizes_ k1 k4 s9,k4,gta,by lia,fun v3 H11 t9 st2=>?_⟩
   have e2:v3=v2:=st2.eq (qLF s9) sv;subst e2;refine ⟨_,rfl,rfl,_,rfl,?_⟩;refine ite2 (fun ck=>by simp at ck) (fun _=>?_)
   have T11:=T10.same t9;have S11:=S10.same t9;have gta:=t9 _ _ gta;have hTo:TabO H11 Po:=t9 _ _ hTo;clear T10 S10 t9 st2 gwo o9 lo;refine ⟨_,rfl,_,rfl,sz,_,rfl,.inr (SqT.of T11.sizes_),d,c,t3,ns3,_,rfl,S11,(by show t3<=1000000000;lia),(by rw [lsz];lia),(by rw [lsz];lia),fun j ns4 H12 j0 j1 S12 K12=>?_⟩
   have T12:=T11.keep S11 K12;have hTo:=hTo.keep7 S11 K12;have gta:=K12 _ _ gta (S11.tup gta).1 (S11.tup gta).2;rw [lsz] at j1;obtain ⟨j,rfl⟩:=Int.eq_ofNat_of_zero_le j0;have jl:j<sizes.length:=by lia
   clear T11 S11 K12 j0 j1;refine ⟨_,rfl,_,rfl,_,rfl,sz,_,rfl,T12.sizes_,fun p1 H13 h1 gp1=>?_⟩;refine ⟨_,rfl,_,rfl,_,rfl,sz,_,rfl,h1 _ _ T12.sizes_,fun p2 H14 h2 gp2=>?_⟩;rw [qC9,qGN _ _ (by lia)] at gp1
   rw [qC9,qL6] at gp2;refine ⟨p1,p2,_,_,rfl,rfl,h2 _ _ gp1,gp2,(by rw [A0,A0,E5,C3];exact G0 (qAF (by lia))),fun t1n H15 h3 gtn=>?_⟩
   rw [<- C8] at gtn;have h3:=(h1.trans h2).trans h3;have T15:=T12.same h3;have S15:=S12.same h3;have gta:=h3 _ _ gta;have hTo:TabO H15 Po:=h3 _ _ hTo;clear T12 S12 h1 h2 h3 gp1 gp2;have lt:(sizes.drop j++sizes.take j).length=sizes.length:=by rw [A4,E5,C3];lia
   refine ⟨_,rfl,_,rfl,_,rfl,_,rfl,a,wd,t1n,ta,Af,wides,_,ws,rfl,hTo,T15.with T15.wides_ lw w9 gtn (by lia) (by lia) (fun x hx=>s9 x ((A7.mp hx).elim O5 L5)),by lia,gta,by lia,fun v4 H16 t9 st4=>?_⟩
   have e4:v=v4:=(qTQ jl st st4).symm;subst e4;have T16:=T15.same t9;have S16:=S15.same t9;have gta:=t9 _ _ gta;have hTo:TabO H16 Po:=t9 _ _ hTo;clear T15 S15 t9 st4 gtn lt;refine ⟨_,rfl,rfl,_,rfl,?_⟩;refine ite2 (fun ck=>by simp at ck) (fun _=>?_)
   have ge:=st.ge sv;refine ⟨_,rfl,_,rfl,_,_,rfl,rfl,_,rfl,?_⟩;refine ite2 (fun ck=>absurd (of_decide_eq_true ck) (by lia)) (fun _=>?_)
   refine ⟨_,rfl,_,rfl,_,rfl,sz,_,rfl,T16.sizes_,fun p1 H17 h1 gp1=>?_⟩;rw [qC9,qL6] at gp1;have T17:=T16.same h1;have S17:=S16.same h1;have gta:=h1 _ _ gta;have hTo:TabO H17 Po:=h1 _ _ hTo;clear T16 S16 h1;have gj:(sizes.map V.int)[j]?=some (.int (sizes.getD j 0)):=by rw [D0,A8 jl,qEG jl];rfl
   have sj:=s9 _ (by rw [qEG jl];exact X0 jl:sizes.getD j 0 ∈ sizes)
   refine ⟨_,rfl,_,rfl,sz,_,_,_,rfl,rfl,SqT.of T17.sizes_,qIO (by lia) (by rw [F9];exact gj),_,_,rfl,rfl,_,rfl,d,c,_,ns4,4,rfl,S17,(by show t3+1<=1000000000;lia),by decide,by decide,fun k ns5 H18 k0 k1' S18 K18=>⟨_,_,rfl,rfl,_,_,rfl,?_⟩⟩
   have T18:=T17.keep S17 K18;have hTo:=hTo.keep7 S17 K18;have gta:=K18 _ _ gta (S17.tup gta).1 (S17.tup gta).2;have gp1:=K18 _ _ gp1 (S17.tup gp1).1 (S17.tup gp1).2;clear T17 S17 K18 gj;obtain ⟨y,ey⟩:∃ y:Int,y=if sizes.getD j 0+1+k<9 then sizes.getD j 0+1+k else 9:=⟨_,rfl⟩
   rw [<- ey];have yb:sizes.getD j 0<=y/\1<=y/\y<=9:=by rw [ey];split <;> lia
   clear ey k0 k1';refine ⟨(by show 1<=sizeLine;decide),fun u1 hu1=>?_⟩
   have h1:=qA2 hu1 (.tup [.int y]);have gu:(Ah H18 u1 (.tup [.int y])) u1=some (.tup ([y].map V.int)):=qA1;refine ⟨p1,u1,_,_,rfl,rfl,h1 _ _ gp1,gu,(by rw [A0,A0,C3,B1];exact G0 (qAF (by lia))),fun p3 H19 h2 gp3=>?_⟩
   rw [<- C8] at gp3;have h1:=h1.trans h2;have T19:=T18.same h1;have S19:=S18.same h1;have gta:=h1 _ _ gta;have hTo:TabO H19 Po:=h1 _ _ hTo;clear T18 S18 h1 h2 gp1 gu hu1;refine ⟨_,rfl,_,rfl,_,_,rfl,rfl,_,rfl,sz,_,rfl,T19.sizes_,fun p2 H20 h1 gp2=>?_⟩;rw [qC9,show ((j:Int)+1)=((j+1:Nat):Int) by lia,qGN _ _ (by lia)] at gp2
   refine ⟨p3,p2,_,_,rfl,rfl,h1 _ _ gp3,gp2,(by rw [A0,A0,A4,C3,B1,E5];exact G0 (qAF (by lia))),fun t2n H21 h2 gtn=>?_⟩
   rw [<- C8] at gtn;have h1:=h1.trans h2;have T21:=T19.same h1;have S21:=S19.same h1;have gta:=h1 _ _ gta;have hTo:TabO H21 Po:=h1 _ _ hTo;clear T19 S19 h1 h2 gp3 gp2;have lt:(sizes.take j++[y]++sizes.drop (j+1)).length=sizes.length:=by rw [A4,A4,E5,C3,B1];lia
   have b9:∀ x ∈ sizes.take j++[y]++sizes.drop (j+1),1<=x/\x<=9:=fun x hx=>by
    rcases A7.mp hx with hx | hx
    ·rcases A7.mp hx with hx | hx
     ·exact s9 x (L5 hx)
     ·rw [A6.mp hx];exact yb.2
    ·exact s9 x (O5 hx)
   refine ⟨_,rfl,_,rfl,_,rfl,_,rfl,a,wd,t2n,ta,Af,wides,_,ws,rfl,hTo,T21.with T21.wides_ lw w9 gtn (by lia) (by lia) b9,by lia,gta,by lia,fun v4 H22 t9 st4=>?_⟩
   have e4:=qQR jl yb.1 st st4;have T22:=T21.same t9;have S22:=S21.same t9;have gta:=t9 _ _ gta;have hTo:TabO H22 Po:=t9 _ _ hTo;clear T21 S21 t9 st4 gtn lt b9 yb;refine ⟨_,rfl,_,_,rfl,rfl,_,rfl,?_⟩;refine ite2 (fun ck=>absurd (of_decide_eq_true ck) (by lia)) (fun _=>?_)
   refine ⟨_,rfl,_,rfl,d,c,_,ns5,9,rfl,S22,(by show t3+1+1<=1000000000;lia),by decide,by decide,fun k ns6 H23 k0 k1' S23 K23=>⟨_,_,rfl,rfl,?_⟩⟩
   have T23:=T22.keep S22 K23;have hTo:=hTo.keep7 S22 K23;have gta:=K23 _ _ gta (S22.tup gta).1 (S22.tup gta).2;clear T22 S22 K23;refine ⟨(by show 1<=sizeLine;decide),fun u1 hu1=>?_⟩
   have h1:=qA2 hu1 (.tup [.int (1+k)]);have gu:(Ah H23 u1 (.tup [.int (1+k)])) u1=some (.tup ([1+k].map V.int)):=qA1;refine ⟨sz,u1,_,_,rfl,rfl,h1 _ _ T23.sizes_,gu,(by rw [A0,A0,B1];exact G0 (qAF (by lia))),fun tn H24 h2 gtn=>?_⟩
   rw [<- C8] at gtn;have h1:=h1.trans h2;have T24:=T23.same h1;have S24:=S23.same h1;have gta:=h1 _ _ gta;have hTo:TabO H24 Po:=h1 _ _ hTo;clear T23 S23 h1 h2 gu hu1;refine cut fun N3 hN3=>hN3 _ _ ?_;refine cut fun N4 hN4=>?_;have last:∀ Hz:Hp,Same H24 Hz->N4 [some (.ref sc),some (.ref d),some (.ref a),some (.ref wd),some (.ref sz),some (.ref ta),some (.ref wn),some (.ref T),some (.int v3),some (.ref wo),some (.int v),some (.int j),some (.ref t1n),some (.ref t2n),some (.ref tn),none] Hz:=by
    intro Hz sz4;refine hN4 _ _ ?_;have Tz:=T24.same sz4;have Sz:=S24.same sz4;have gta:=sz4 _ _ gta;have hTo:TabO Hz Po:=sz4 _ _ hTo;clear T24 S24 gtn sz4;refine ⟨_,rfl,_,rfl,wd,sz,_,_,rfl,rfl,Tz.wides_,Tz.sizes_,(by rw [A0,A0];exact G0 (qAF (by lia))),fun pm Hm hm gm=>?_⟩
    rw [<- C8] at gm;obtain ⟨m,em,le⟩:=qXP (l:=wides++sizes) (by rw [A4];lia)
    refine ⟨pm,_,m,rfl,SqT.of gm,em,_,_,rfl,rfl,_,rfl,?_⟩;have Tm:=Tz.same hm;have Sm:=Sz.same hm;have gta:=hm _ _ gta;have hTo:TabO Hm Po:=hm _ _ hTo;clear Tz Sz hm gm em;refine ite2 (fun ck=>?_) (fun _=>q _);have m9:=of_decide_eq_true ck;refine ⟨_,rfl,_,rfl,(by show 2<=sizeLine;decide),fun u hu=>?_⟩
    have su:=qA2 hu (.tup [.ref wd,.ref sz]);have gu:(Ah Hm u (.tup [.ref wd,.ref sz])) u=some (.tup [.ref wd,.ref sz]):=qA1;have Tu:=Tm.same su;have gta:=su _ _ gta;have hTo:TabO _ Po:=su _ _ hTo;generalize Ah Hm u (.tup [.ref wd,.ref sz])=Hu at gu Tu gta hTo ⊢;clear su hu Tm Sm;refine ⟨u,rfl,⟨_,SqT.of gu⟩,fun pl hpl=>?_⟩;refine qJU (p:=pl) (a:=u) (xs:=[.ref wd,.ref sz]) (fun i σ Hc=>∃ (v0:Option V) (qs:List Addr),σ=[v0]/\Same Hu Hc/\Hc pl=some (.lst (qs.map V.ref))/\NetL Hc qs ([wides.map (fun x=>x+1),sizes.map fun x=>x+1].take i)) ?_ ?_ ?_ ?_
    ·exact ⟨none,[],rfl,qA2 hpl _,qA1,.nil⟩
    ·rintro i σ Hc hi ⟨v0,qs,rfl,sm,_⟩;exact SqT.of (sm _ _ gu)
    ·refine fun i x σ Hc hx hI_2=>opq fun G_2 hG_2=>?_;obtain ⟨v0,qs,rfl,sm,gl,NL⟩:=hI_2;refine hG_2 ?_;have two:∃ (r:Addr) (zs:List Int),x=.ref r/\Hc r=some (.tup (zs.map V.int))/\zs.length<=6/\i<2/\[wides.map (fun x=>x+1),sizes.map fun x=>x+1][i]?=some (zs.map fun x=>x+1):=by
      match i,hx with
      | 0,hx=>cases hx;exact ⟨wd,wides,rfl,sm _ _ Tu.wides_,by lia,by decide,rfl⟩
      | 1,hx=>cases hx;exact ⟨sz,sizes,rfl,sm _ _ Tu.sizes_,by lia,by decide,rfl⟩
      | i+2,hx=>simp at hx
     obtain ⟨r,zs,rfl,gr,lz,i2,ez⟩:=two;have lq:qs.length=_:=NetAt.len NL;rw [C3] at lq;refine ⟨_,rfl,r,rfl,⟨_,SqT.of gr⟩,fun p2 hp2=>?_⟩;refine qJU (p:=p2) (a:=r) (xs:=zs.map V.int) (fun k σ Hd=>∃ v1:Option V,σ=[v1]/\Same Hc Hd/\Hd p2=some (.lst (((zs.take k).map fun x=>x+1).map V.int))) ?_ ?_ ?_ ?_
     ·exact ⟨none,rfl,qA2 hp2 _,qA1⟩
     ·rintro k σ Hd _ ⟨v1,rfl,sd,_⟩;exact SqT.of (sd _ _ gr)
     ·refine fun k y σ Hd hy hI_4=>opq fun G_4 hG_4=>?_;obtain ⟨v1,rfl,sd,gp⟩:=hI_4;obtain ⟨z,hz,rfl⟩:=qGZ hy;refine hG_4 ?_;refine ⟨_,rfl,_,_,rfl,rfl,_,gp,qAF (by rw [A0,A0,C3];lia),_,rfl,qAD sd hp2,?_⟩
      rw [qA1,D7,hz,D5,C8,C8]
      rfl
     ·refine fun σ Hd hI_5=>opq fun G_5 hG_5=>?_;obtain ⟨v1,rfl,sd,gp⟩:=hI_5;refine hG_5 ?_;rw [A0,Q9] at gp;refine ⟨p2,_,rfl,.inl ⟨SqL.of gp,fun tq htq=>?_⟩⟩;have s3:=qA2 htq (.tup ((zs.map fun x=>x+1).map V.int));have gl3:=s3 _ _ (sd _ _ gl);refine ⟨_,gl3,qAF (by rw [A0];lia),_,qs++[tq],rfl,qAD ((sm.trans sd).trans s3) hpl,by rw [qA1,qAT],?_⟩
      rw [D7,ez,D5];exact qC1 (J6 (NL.same fun _ _ z=>s3 _ _ (sd _ _ z)) qA1) fun r m e=>qE3 e gl3 fun xs z=>by cases z
    ·refine fun σ Hc hI_6=>opq fun G_6 hG_6=>?_;obtain ⟨v0,qs,rfl,sm,gl,NL⟩:=hI_6;refine hG_6 ?_;have two:∃ q0 q1,qs=[q0,q1]/\Hc q0=some (.tup ((wides.map fun x=>x+1).map V.int))/\Hc q1=some (.tup ((sizes.map fun x=>x+1).map V.int)):=by
      have NL:NetL Hc qs [wides.map (fun x=>x+1),sizes.map fun x=>x+1]:=NL;cases NL with
      | cons x r=>cases r with
       | cons y r=>cases r;exact ⟨_,_,rfl,x,y⟩
     obtain ⟨q0,q1,rfl,ga,gb⟩:=two;have Tc:=Tu.same sm;have gta:=sm _ _ gta;have hTo:TabO Hc Po:=sm _ _ hTo;have up:∀ l:List Int,(∀ x ∈ l,1<=x/\x<=m)->∀ x ∈ l.map (fun x=>x+1),1<=x/\x<=9:=fun l hl x hx=>by
      obtain ⟨z,hz,rfl⟩:=E2.mp hx;have:=hl z hz
      lia
     refine ⟨_,rfl,_,rfl,pl,_,_,_,rfl,rfl,SqL.of gl,rfl,_,rfl,pl,_,_,_,rfl,rfl,SqL.of gl,rfl,_,rfl,a,q0,q1,ta,Af,_,_,ws,rfl,hTo,Tc.with ga (by rw [A0];exact lw) (up _ fun x hx=>⟨(w9 x hx).1,le x (A7.mpr (.inl hx))⟩) gb (by rw [A0];exact k1) (by rw [A0];exact k4) (up _ fun x hx=>⟨(s9 x hx).1,le x (A7.mpr (.inr hx))⟩),by rw [A0];exact k4,gta,by lia,fun v6 H26 t9 st6=>?_⟩
     have e6:v=v6:=(qTR lw st st6).symm;subst e6;refine ⟨_,rfl,rfl,?_⟩;rw [decide_eq_true rfl];exact q _
   refine ⟨_,rfl,sz,_,rfl,.inr (SqT.of T24.sizes_),_,_,rfl,rfl,_,rfl,?_⟩;refine ite2 (fun ck=>?_) (fun _=>?_)
   ·have kl:=of_decide_eq_true ck;rw [lsz] at kl;have lt:(sizes++[1+k]).length=sizes.length+1:=by rw [A4,B1]
    have b9:∀ x ∈ sizes++[1+k],1<=x/\x<=9:=fun x hx=>by
     rcases A7.mp hx with hx | hx
     ·exact s9 x hx
     ·rw [A6.mp hx];lia
    refine ⟨_,rfl,_,rfl,_,rfl,_,rfl,a,wd,tn,ta,Af,wides,_,ws,rfl,hTo,T24.with T24.wides_ lw w9 gtn (by lia) (by lia) b9,by lia,gta,by lia,fun v5 H25 t9 st5=>?_⟩
    have e5:=qPJ st st5;refine ⟨_,rfl,_,_,rfl,rfl,_,rfl,?_⟩;refine ite2 (fun ck=>absurd (of_decide_eq_true ck) (by lia)) (fun _=>?_)
    exact last _ t9
   ·refine iteF ?_;exact last _ (Same.refl _)
  rcases hv with ⟨pp,rfl,gT⟩ | ⟨l,pp,gT⟩
  ·refine ⟨_,rfl,T,_,_,_,rfl,rfl,SqT.of gT,rfl,rfl,_,rfl,?_⟩;refine iteF ?_;exact rest
  ·refine ⟨_,rfl,T,_,_,_,rfl,rfl,SqT.of gT,rfl,rfl,_,rfl,?_⟩;refine iteT ?_;exact ⟨_,rfl,T,_,_,_,rfl,rfl,SqT.of gT,rfl,rest⟩
 refine ⟨_,rfl,_,rfl,_,rfl,sz,_,rfl,.inr (SqT.of T5.sizes_),a,ta,Af,_,ws,rfl,hTab,T5.net_,T5.wf,by lia,⟨gta,ri⟩,fun T pp qs L ks fu g H6 s6 R FR pm so hpp gpp RA=>⟨fun no gT=>?_,fun l s B hl np PL gT=>?_⟩⟩
 ·exact due T _ H6 s6 (lsz ▸ R.none no) (.inl ⟨pp,rfl,gT⟩)
 ·exact due T _ H6 s6 (lsz ▸ R.stp T5.wf n6 FR B) (.inr ⟨l,pp,gT⟩)
end
theorem all_mk {l:PySem.W.OpenLaw} {w:World} {K:PySem.W.Frag} {h:Heap} {mg:Str->Option Value} {fa qB5 qH4 qD9 qEI qH3 qH2 qCH qDD qGK qDO qB0 qDP qCY qDN qC3 qIV qBX qKZ qEJ qDQ qFW qSU qL0 qKX qKY qX4:Addr} (X:K.In h) (G:h.Ns mainGlobals mg) (hfa:mg "law" = some (.ref fa))
  {qF7 qFI qNI qO2 qEA qEP qJ6 qJM qYD qVW:Option Addr} {qF4 qN8 qE5 qJ2 qXW:Array (Option Value)} {qF8 qFC qFE qF5 qCJ qFF qNJ qNN qNY qND qNZ qEB qED qEK qE6 qCF qEL qJ7 qJ9 qJJ qJ5 qJK qYE qVM qVT qVD qT5 qVU:Value}
  {qDR qG2 qCA qDA:Addr}
  (qG1:V5 K mainGlobals "fault_of_do_moves" = some (some (.ref qB5))) (qFS:K.lookup qB5=some ⟨qF8,qF7,.func (O1 "fault_of_do" "fault_of_do" (qCI qAR) (qAZ qAR) (qA9 qAR) .none qFC qFE qF5 qFI qCJ qFF),qF4⟩) (qFY:R3 K qCJ "fault_of_do" = true) (qFT:M3 K (.ref qB5)=true)
  (T_fault_of:Tf K "fault_of" qET qH4)
  (T_stand_behind:Tf K "stand_behind" qC4 qD9)
  (T_has_all:Tf K "has_all" qG7 qEI)
  (T_moves_of:Tf K "moves_of" qES qH3)
  (T_steps_of:Tf K "steps_of" qER qH2)
  (T_stands_reached:Tf K "stands_reached" qAA qCH)
  (qQF:V5 K mainGlobals "best_end" = some (some (.ref qDD))) (qQ2:K.lookup qDD=some ⟨qNJ,qNI,.func (O1 "best_end" "best_end" (qCI qC0) (qAZ qC0) (qA9 qC0) .none qNN qNY qND qO2 (.ref qDR) qNZ),qN8⟩) (qQC:R3 K (.ref qDR) "best_end" = true) (qQ5:M3 K (.ref qDD)=true)
  (T_plan_to:Tf K "plan_to" qDB qGK)
  (T_least_steps:Tf K "least_steps" qCM qDO)
  (qFJ:V5 K mainGlobals "fault_of_do_unlike" = some (some (.ref qB0))) (qFA:K.lookup qB0=some ⟨qEB,qEA,.func (O1 "fault_of_do" "fault_of_do" (qCI qAM) (qAZ qAM) (qA9 qAM) .none qED qEK qE6 qEP qCF qEL),qE5⟩) (qFG:R3 K qCF "fault_of_do" = true) (qFB:M3 K (.ref qB0)=true)
  (T_fault_there:Tf K "fault_there" qCN qDP)
  (T_layout_behind:Tf K "layout_behind" qBU qCY)
  (T_moves_there:Tf K "moves_there" qCL qDN)
  (T_layouts_reached:Tf K "layouts_reached" qBK qC3)
  (T_rank_of:Tf K "rank_of" qG6 qIV)
  (qLE:V5 K mainGlobals "least_there" = some (some (.ref qBX))) (qKR:K.lookup qBX=some ⟨qJ7,qJ6,.func (O1 "least_there" "least_there" (qCI qBF) (qAZ qBF) (qA9 qBF) .none qJ9 qJJ qJ5 qJM (.ref qCA) qJK),qJ2⟩) (qLA:R3 K (.ref qCA) "least_there" = true) (qKV:M3 K (.ref qBX)=true)
  (T_Lbegin:Tf K "_law_begin" qHM qKZ)
  (T_Ltake:Tf K "_law_take" qKD qEJ)
  (T_Lsome_needs:Tf K "_law_some_needs" qCO qDQ)
  (T_Ltree_net:Tf K "_law_tree_net" qDF qFW)
  (T_Lnet:Tf K "_law_net" qOH qSU)
  (T_Lasked:Tf K "_law_asked" qHN qL0)
  (T_Lthere:Tf K "_law_there" qHK qKX)
  (T_Lsteps:Tf K "_law_steps" qHL qKY)
  (qaE:V5 K mainGlobals "law" = some (some (.ref qX4))) (qa0:K.lookup qX4=some ⟨qYE,qYD,.func (O1 "law" "law" (qCI qJ4) (qAZ qJ4) (qA9 qJ4) .none qVM qVT qVD qVW qT5 qVU),qXW⟩) (qaD:R3 K qT5 "law" = true) (qa5:M3 K (.ref qX4)=true)
  (qDK:hdIn K qDR qG2=true)
  (qC8:hdIn K qCA qDA=true)
  (Z:Zs K ["all","divmod","enumerate","int","len","list","max","min","range","set","sorted","tuple"])
  : ∃ fd:FuncData,(∀ (s:Shared) (v:Value),BindsTo s fd ⟨[v],[]⟩ [("_law_script",v)])/\∀ base:Heap,K.In base->base.Ns mainGlobals mg->BM mg base->FnOk l.prog w K mg base CX0 8 fa fd ["_law_script"] (qKB K qG2 qDA):=by
 have e:=hfa.symm.trans (Y3 X G qaE);cases e;have F_fault_of_do_moves:=fun_mk (st:=qAR) qFS qFY qFT;have qG0:=F_fault_of_do_moves.binds (ps:=["net","rooms","stand","work"]) fun _ _ _ _ _ _ us hl=>us4 us hl (fun _ _ _ _=>rfl);have qFP:=Y3 X G qG1;have F_best_end:=fun_mk (st:=qC0) qQ2 qQC qQ5;have qQD:=F_best_end.binds (ps:=["reached","asked"]) fun _ _ _ _ _ _ us hl=>us2 us hl (fun _ _=>rfl);have qQ1:=Y3 X G qQF;have F_fault_of_do_unlike:=fun_mk (st:=qAM) qFA qFG qFB;have qFH:=F_fault_of_do_unlike.binds (ps:=["net","wides","sizes","layout","move"]) fun _ _ _ _ _ _ us hl=>match us,hl with | [_,_,_,_,_],_=>rfl
 have qF9:=Y3 X G qFJ;have F_least_there:=fun_mk (st:=qBF) qKR qLA qKV;have qLD:=F_least_there.binds (ps:=["net","wides","sizes","asked"]) fun _ _ _ _ _ _ us hl=>us4 us hl (fun _ _ _ _=>rfl);have qKP:=Y3 X G qLE;have qaF:=fun_mk (st:=qJ4) qa0 qaD qa5;obtain ⟨qaJ,qXK,qV5,qaI,qV4,qZ4,qXJ,qQI,qZ3,qaH,qQH,qTK,_⟩:=Z.mg X G;refine ⟨O1 "law" "law" (qCI qJ4) (qAZ qJ4) (qA9 qJ4) .none qVM qVT qVD qVW qT5 qVU,fun s v=>.of_eq rfl,fun base _ _ hBM=>?_⟩;have B:Bs l.prog w base:=⟨rfl,rfl,rfl⟩;have qCZ:=Clb.mk (ok_fault_of_do_moves (P:=l.prog) (w:=w) (mg:=mg) (base:=base) (F:=F_fault_of_do_moves) (qBT:=qV4)) qG0 F_fault_of_do_moves.kp qFP;obtain ⟨_,qK6⟩:=T_fault_of.c X G B fun _ F=>by apply ok_fault_of <;> assumption
 obtain ⟨_,qFN⟩:=T_stand_behind.c X G B fun _ F=>by apply ok_stand_behind <;> assumption
 obtain ⟨_,qBI⟩:=T_has_all.c X G B fun _ F=>by apply ok_has_all <;> assumption
 obtain ⟨_,qK5⟩:=T_moves_of.c X G B fun _ F=>by apply ok_moves_of <;> assumption
 obtain ⟨_,qK4⟩:=T_steps_of.c X G B fun _ F=>by apply ok_steps_of <;> assumption
 obtain ⟨_,qDX⟩:=T_stands_reached.c X G B fun _ F=>by apply ok_stands_reached <;> assumption
 have qK7:=Clb.mk (ok_best_end (P:=l.prog) (w:=w) (mg:=mg) (base:=base) (F:=F_best_end) (qBI:=qBI) (qF3:=qQI) (hcd:=rfl) (hBM:=hBM) (qDK:=qDK)) qQD F_best_end.kp qQ1;obtain ⟨_,C_plan_to⟩:=T_plan_to.c X G B fun _ F=>by apply ok_plan_to <;> assumption
 obtain ⟨_,qCS⟩:=T_least_steps.c X G B fun _ F=>by apply ok_least_steps <;> assumption
 have qCK:=Clb.mk (ok_fault_of_do_unlike (P:=l.prog) (w:=w) (mg:=mg) (base:=base) (F:=F_fault_of_do_unlike) (qBI:=qBI)) qFH F_fault_of_do_unlike.kp qF9;obtain ⟨_,qGR⟩:=T_fault_there.c X G B fun _ F=>by apply ok_fault_there <;> assumption
 obtain ⟨_,qEQ⟩:=T_layout_behind.c X G B fun _ F=>by apply ok_layout_behind <;> assumption
 obtain ⟨_,qGP⟩:=T_moves_there.c X G B fun _ F=>by apply ok_moves_there <;> assumption
 obtain ⟨_,qBM⟩:=T_layouts_reached.c X G B fun _ F=>by apply ok_layouts_reached <;> assumption
 obtain ⟨_,C_rank_of⟩:=T_rank_of.c X G B fun _ F=>by apply ok_rank_of <;> assumption
 have qGQ:=Clb.mk (ok_least_there (P:=l.prog) (w:=w) (mg:=mg) (base:=base) (F:=F_least_there) (qBM:=qBM) (qBI:=qBI) (C_rank_of:=C_rank_of) (C_plan_to:=C_plan_to) (qF3:=qQI) (qBQ:=qQH) (hcd:=rfl) (hBM:=hBM) (qC8:=qC8)) qLD F_least_there.kp qKP;obtain ⟨_,qHU⟩:=T_Lbegin.c X G B fun _ F=>by apply ok_Lbegin <;> assumption
 obtain ⟨_,qAU⟩:=T_Ltake.c X G B fun _ F=>by apply ok_Ltake <;> assumption
 obtain ⟨_,qDU⟩:=T_Lsome_needs.c X G B fun _ F=>by apply ok_Lsome_needs <;> assumption
 obtain ⟨_,qJ1⟩:=T_Ltree_net.c X G B fun _ F=>by apply ok_Ltree_net <;> assumption
 obtain ⟨_,qVY⟩:=T_Lnet.c X G B fun _ F=>by apply ok_Lnet <;> assumption
 obtain ⟨_,qHV⟩:=T_Lasked.c X G B fun _ F=>by apply ok_Lasked <;> assumption
 obtain ⟨_,qHT⟩:=T_Lthere.c X G B fun _ F=>by apply ok_Lthere <;> assumption
 obtain ⟨_,qBY⟩:=T_Lsteps.c X G B fun _ F=>by apply ok_Lsteps <;> assumption
 exact ok_law (P:=l.prog) (w:=w) (mg:=mg) (base:=base) (F:=qaF) (qHU:=qHU) (qHT:=qHT) (qHV:=qHV) (qCS:=qCS) (qBY:=qBY) (qAU:=qAU) (qBT:=qV4) (qTL:=qXJ) (qF3:=qQI) (qB1:=qTK)
noncomputable def tabsL:List LTab:=[⟨"best_end",59,57,"best_end.<locals>.<lambda>"⟩,⟨"least_there",114,112,"least_there.<locals>.<lambda>"⟩]
theorem walk {l:PySem.W.OpenLaw} {q:Program} {loose:List Str} {XP:(Str->Option Value)->Heap->Prop} {YP:World->Heap->Prop} {d:DefRec} {K:Params->PySem.W.Frag} (hn:l.most=some 63) (hdf:d.params.defaults=[])
  (hY:∀ (w:World) (h:Heap),YP w h->(K w.params).In h)
  (hrec:∀ t ∈ tabsL,((PyProof.Rows.recsOf q).find? fun e=>e.name == t.x).isSome=true) (htab:∀ (w:World),∀ t ∈ tabsL,A98 (K w.params) t.x=some (t.c,t.P)) (hK:∀ w:World,A18 (K w.params)=true)
  (F:∀ (w:World) (mg:Str->Option Value) (fa:Addr) (h:Heap),(K w.params).In h->h.Ns mainGlobals mg->mg d.name=some (.ref fa)->
   ∃ fd:FuncData,(∀ (s:Shared) (u:Value),BindsTo s fd ⟨[u],[]⟩ [("_law_script",u)])/\∀ base:Heap,(K w.params).In base->base.Ns mainGlobals mg->BM mg base->FnOk l.prog w (K w.params) mg base CX0 8 fa fd ["_law_script"] (qKB (K w.params) 57 112)) :
  PySem.W.WalkO q loose XP YP l.row.toRowW d [] (fun f vs=>A88 f vs):=
 L2.walk_ofT (n:=63) (k:=8) (x:="_law_script") (sp:=fun w=>qKB (K w.params) 57 112) tabsL hn (by decide) hdf ⟨rfl,by decide,by decide,rfl⟩ hY hrec htab hK (fun t h t' h' _=>by simp only [tabsL,B7,M9,or_false] at h h';rcases h with rfl | rfl <;> rcases h' with rfl | rfl <;> first | rfl | (rename_i q;exact absurd q (by decide))) F fun _ _ a ns hl hO hS=>⟨hO _ G7,hO _ (A9 _ G7),a,ns,rfl,hS,hl,fun _=>rfl⟩
end Fw
open PySem PySem.W PyProof.Rows
set_option maxRecDepth 100000 in
set_option maxHeartbeats 0 in
theorem PySem.Challenge.cw_fewrooms_k54_rooms_of_one_size_holds : PySem.Challenge.rw_fewrooms_k54_rooms_of_one_size.Holds := by
 w_on;refine holds_law Fw.hpSaid fun said=>?_
 refine holds_open (q:=Fw.hpQ) (Xt:=Fw.hpX) (XP:=XL Fw.hpQ []) (YP:=(kHook Fw.hpK Fw.hpA Fw.hpE).says)
  Fw.hpLeft (kHook Fw.hpK Fw.hpA Fw.hpE).of (kHook Fw.hpK Fw.hpA Fw.hpE).keeps (fun s e=>xl_of s (A14.mp e).1) XL.keeps
  (by rfl) (by rfl) (by rfl) (fun s e=>recFacts_of (A14.mp e).2) (by rfl)
  (by first | assumption | decide +kernel) (by decide +kernel) ⟨rfl,rfl,rfl,rfl,rfl,by decide +kernel⟩ ?hw ?hc
 case hw=>w_witness2
 k_fill
 refine Fw.walk (l:=PySem.Challenge.rw_fewrooms_k54_rooms_of_one_size) rfl rfl (fun w h Y=>PySem.W.kIn_of Y) ?hrec ?htab ?hK ?F
 case hrec=>intro t ht;simp only [Fw.tabsL,B7,M9,or_false] at ht;rcases ht with rfl | rfl <;> kernel_rfl
 case htab=>intro w t ht;simp only [Fw.tabsL,B7,M9,or_false] at ht;rcases ht with rfl | rfl <;> kernel_rfl
 case hK=>intro w;kernel_rfl
 case F=>
  intro w mg fa h KX G hmg;refine' Fw.all_mk (qDR:=59) (qG2:=57) (qCA:=114) (qDA:=112) KX G hmg ?_ ?_ ?_ ?_ ?_ ?_ ?_ ?_ ?_ ?_ ?_ ?_ ?_ ?_ ?_ ?_ ?_ ?_ ?_ ?_ ?_ ?_ ?_ ?_ ?_ ?_ ?_ ?_ ?_ ?_ ?_ ?_ ?_ ?_ ?_ ?_ ?_ ?_ ?_ ?_ ?_ ?_ ?_ ?_
  any_goals first | exact ⟨by k_is,_,L2.fun_mk (by k_is) (by k_is) (by k_is)⟩ | k_is | kernel_rfl
  any_goals (repeat (refine ⟨by k_is,?_⟩))
  any_goals exact trivial

