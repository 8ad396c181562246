import PyProof.Rows.All
import Wide.All
import OpenK.AllK
import Wide.FinOn
import Lean
import PyProof.EqAt
import PyProof.EqKinds
import PyProof.TupleCall
import PySem.Challenge.RW_fewrooms_k28_great_trees
open Array renaming getElem?_eq_getElem→E5,length_toList→E8,getD_eq_getD_getElem?→G2,getElem?_toList→O9,perm_iff_toList_perm→Q8,getElem_toList→S0,size_zip→Z1,forIn_toList→d3,toList_zip→j6,toList_map→j7,toList_reverse→j8,size_map→o3,toList_append→A29,toList_inj→A62,size_push→A72,toList→A95
open Bool renaming false_ne_true→C5,false_eq_true→E2,and_eq_true→P4,eq_false_iff→Q3,eq_iff_iff→U2,or_eq_true→Y0,false_and→i4,not_eq_true'→t8,and_eq_true_iff→A20,and_false→A22,true_and→A41,not_true→A42,not_eq_true→A63,not_false→A77
open Classical renaming propDecidable→d5,em→i7,byContradiction→o7
open False renaming elim→X2
open ForInStep renaming yield→Q0,done→i5
open Function renaming comp→x6
open Int renaming le_refl→F4,toNat_natCast→J8,emod_lt_of_pos→V4,zero_add→W8,emod_nonneg→Y1,fdiv_eq_ediv_of_nonneg→m5,fmod_eq_emod_of_nonneg→m6,add_zero→n8,add_comm→A60
open List renaming length_map→A0,getElem?_eq_getElem→A1,getElem?_eq_some_iff→A3,mem_singleton→A4,mem_cons_of_mem→A5,length_append→A6,size_toArray→A7,mem_cons_self→A8,map_append→A9,mem_cons→B5,getElem?_map→B7,mem_of_getElem?→B8,map_cons→C1,take_add_one→C2,length_singleton→C3,replicate→C4,length_cons→D1,length_take→D4,mem_map→D6,mem_append→E1,getElem?_append_left→E4,flatten_cons→E7,pairwise_iff_getElem→F0,pairwise_map→F3,mem_flatten→F7,mem_filter→F9,take_of_length_le→G0,mem_append_right→G1,zip_cons_cons→G3,getElem?_append_right→G7,nodup_cons→G9,range→I0,getElem?_eq_none→J2,mem_of_mem_take→J7,reverse_cons→J9,not_mem_nil→L5,replicate_succ→L7,getElem?_of_mem→L8,nodup_append→L9,pairwise_cons→M6,take_append_drop→M8,filter_cons→O1,all_eq_true→O2,take_append_of_le_length→O3,append_assoc→O4,drop_eq_getElem_cons→O5,length_replicate→O8,map_congr_left→P0,length_drop→P3,getD_eq_getElem?_getD→P6,mem_range→P7,getElem?_zip_eq_some→Q1,flatten_append→Q2,mem_append_left→Q5,mem_of_mem_drop→Q6,cons_append→Q7,filter_sublist→Q9,lookup_cons_self→R5,forIn_cons→R6,map_map→R7,pairwise_append→R9,pairwise_singleton→T8,getElem_of_mem→U5,getElem_mem→U9,length_filter_le→V3,mem_take_iff_getElem→V8,mem_iff_getElem→V9,getElem_toArray→W0,replicate_succ'→W2,append_nil→W3,take_sublist→W5,take_length→X1,getElem?_set_self→X3,drop_of_length_le→X5,mem_replicate→X7,find?_cons→X9,pairwise_flatten→Y5,any_cons→Y6,length_range→Y7,perm_ext_iff_of_nodup→Y8,getElem?_set_ne→Y9,lookup_cons→Z2,any_eq_true→Z3,getElem?_range→Z6,getElem?_take_of_lt→Z7,length_nil→b9,of_mem_zip→c6,foldl_cons→c7,length_eq_zero_iff→d0,ext_getElem?→g8,filterMap_cons→k6,length_set→k7,nil_append→k8,length_reverse→l9,length_zip→m4,count_eq_zero→m8,count_pos_iff→m9,mem_of_find?_eq_some→o5,take_zero→o6,getElem_drop→p7,reverse_perm→t7,count_append→t9,length→u9,all_cons→w6,filter_cons_of_pos→y4,filter_cons_of_neg→y7,perm_middle→A01,length_pos_of_mem→A05,map_nil→A08,pairwise_reverse→A13,pairwise_and_iff→A14,map_set→A15,forIn_nil→A24,toList_toArray→A30,mem_map_of_mem→A31,mem_filterMap→A35,forIn_toArray→A43,filter_append→A44,append_of_mem→A45,any_eq_false→A47,getElem_take→A53,drop_sublist→A54,foldl_append→A55,flatMap_cons→A57,mem_reverse→A64,mem_flatMap→A65,find?_some→A71,range_succ→A74,foldl_nil→A76,drop_zero→A79,nodup_nil→A80,foldl→A83,findIdx?→A89,map_take→A92
open List.Nodup renaming length_le_of_subset→J5
open List.Perm renaming append_left→A11
open Nat renaming le_refl→B0,ne_of_lt→C7,zero_le→D7,lt_of_lt_of_le→D9,lt_succ_of_lt→L0,le_trans→L6,zero_add→O6,le_of_lt→R1,ne_of_gt→R3,lt_irrefl→T5,lt_of_le_of_lt→X6,le_succ→Z5,lt_trans→Z8,strongRecOn→d4,lt_trichotomy→i0,le_of_not_lt→i8,succ_ne_self→y9,sub_self→A10,mod_lt→A52,le_of_eq→A59,min_eq_left→A73
open Ne renaming symm→G6
open Option renaming toList_some→B9,map_some→R4,getD_some→U8,isSome_iff_exists→W4,some→W9,isSome_map→p6,getD_none→y8,map_eq_some_iff→A03,none→B01
open Option.some renaming inj→D5
open Or renaming inl→D2,inr→c8
open PyProof renaming noPylong_small→d7
open PyProof.Rows renaming callWith_type1→O7,callWith_kw→a9
open PyProof.Rows.IntsAre renaming int_at→Y3
open PySem renaming mem_of_lookup→M9,call→A84
open PySem.Around renaming under_plainId→F6,frames_deeper→A18
open PySem.Builtin.Builtins renaming bindParams→U4
open PySem.Builtin.Dict renaming updateFrom→x9,pairItems→A04
open PySem.Builtin.Frozenset renaming updateFrom→A66,newClass→A75,sizeOf→A85,slot0→A90
open PySem.Builtin.List renaming listTooLong→W7,listLengthHint→k9
open PySem.Builtin.Range renaming rangeSize→T6,small→A28
open PySem.Builtin.SmallTypes renaming ownedTupleIsFree→U3,nextOf→V7,newRecord→A67
open PySem.Builtin.Tuple renaming tupleExact→q9
open PySem.Calls renaming callWith_builtin→d8,call_function_entry→o1,evalArgs_plain→A19,spliced_cons→A37,spliced_nil→A51
open PySem.ClassData renaming mk→A94
open PySem.Data renaming cell→A07,fields→A26
open PySem.F renaming plainAttrs_list→D8,slot_list_append→G4,type_list_append→G5,slot_tuple_iterator_next→U6,plain_max_loop→V0,plain_min_loop→V1,args_tuple_add_2→W6,entry_tuple_add→X0,slot_tuple_add→X4,called_set→Y2,slot_zip_next→Y4,slot_list_getattribute→a8,slot_list_extend→b7,type_list_extend→b8,args_tuple_iterator_next_1→j9,entry_tuple_iterator_next→l7,slot_dict_delitem→n9,args_zip_next_1→r8,plain_list_iadd→x8,entry_zip_next→z8,entry_max_loop→z9,entry_min_loop→A00,slot_dict_pop→A09,slot_list_pop→A16,type_list_pop→A17,called_tuple→A23,plain_tuple_new→A56
open PySem.Heap renaming get?_push_of_some→A2,lt_size→B1,get?_push_size→B6,get?_update_other→C0,size_push→J6,get?_update_self→M7,get?_push_ne→e7,size_update→i9
open PySem.Heap.DictOf renaming new→A69
open PySem.Heap.IsSliceOf renaming new→A38
open PySem.Heap.SameBut renaming update→Z4
open PySem.IsRange renaming new→B00
open PySem.NameKind renaming free→O0,cell→A88
open PySem.Obj renaming mapSeq→F2,data_mapFields→V5,isFreed_of_fields→i6,cls_mapFields→p9,mk→A81
open PySem.Paired renaming length→C6,snoc→V6
open PySem.PassesOwn renaming never→D0
open PySem.SeqAt.EqAt renaming int_int→m7,int_str→A33,str_int→A34
open PySem.SeqAt.RcNeAt renaming lists→Z9,lists_lengths→d6
open PySem.SetTable renaming below→E6,insertAt→F5,bits→c9,fits→A39,fill→A40,runEnd→A70,has→A97
open PySem.SetTable.below renaming go→d9
open PySem.SetTable.probe renaming go→U1
open PySem.Str renaming ofString→D3,empty→R8
open PySem.Value renaming ref→C9,int→G8,bool→Q4,none→U0,type→k5,isInt→u8,str→A32,isInt_shape→A46,isStrOf→A87
open PySem.W renaming nsIn→C8,mg_none_of→E3,mg_of→F1,kitOne→P1,keepIn→P8,kia_one→P9,kla_fn→R0,findIn→T9,fnOf→V2,codeIn→Z0,methodObj→o8,specialIn→o9,cellsFrom_some→A02,instObj→A06,kat_nil→A12,lookIn→A21,noTabs→A25,kdu_collect→A27,mroIn→A36,hasDictIn→A48,kitx_list→A49,kitx_dict→A50,plainGet→A61,takesIn→A68,tabObj→A78,kHook→A86,tabIn→A91,isFn→A96
open PySem.W.OpenLaw renaming wellSaid→A82,row→A98
open PySem.W.OpenRow renaming toRowW→A93
open PySem.Walks renaming list→p8
open PySem.pickOrder renaming go→A58
open StateT renaming run_pure→l8
open Sum renaming inl→E9,inr→P5
open Sum.inl renaming inj→X8
open Sum.inr renaming inj→A99
open True renaming intro→U7
set_option Elab.async false
set_option linter.all false
set_option maxRecDepth 100000
set_option maxHeartbeats 0
namespace Fw
open PySem
def top (i:Nat):Stmt:=PySem.Challenge.pw_fewrooms_k28_great_trees.main.body.getD i (.Pass ⟨0,0,0,0⟩)
abbrev qDY:Stmt:=top 1
abbrev qDX:Stmt:=top 2
abbrev qGP:Stmt:=top 3
abbrev qD9:Stmt:=top 8
abbrev qFZ:Stmt:=top 10
abbrev qCC:Stmt:=top 11
abbrev qIM:Stmt:=top 12
abbrev qCX:Stmt:=top 13
abbrev qBX:Stmt:=top 14
abbrev qDW:Stmt:=top 15
abbrev qDV:Stmt:=top 16
abbrev qIQ:Stmt:=top 18
abbrev qLR:Stmt:=top 19
abbrev qJH:Stmt:=top 20
abbrev qDA:Stmt:=top 21
abbrev qEJ:Stmt:=top 22
abbrev qQQ:Stmt:=top 23
abbrev qGQ:Stmt:=top 24
abbrev qIN:Stmt:=top 25
abbrev qGR:Stmt:=top 26
abbrev qIO:Stmt:=top 27
abbrev qEK:Stmt:=top 28
abbrev qDZ:Stmt:=top 29
abbrev qIP:Stmt:=top 30
abbrev qG0:Stmt:=top 31
abbrev qKG:Stmt:=top 32
def dA (s:Stmt):Arguments:=match s with
 | .FunctionDef _ a _ _ _ _ _ _ _ _=>a
 | _=>{ posonlyargs:=[],args:=[],vararg:=none,kwonlyargs:=[],kw_defaults:=[],kwarg:=none,defaults:=[] }
def dB (s:Stmt):List Stmt:=match s with
 | .FunctionDef _ _ b _ _ _ _ _ _ _=>b
 | _=>[]
def dS (s:Stmt):Scope:=match s with
 | .FunctionDef _ _ _ _ _ _ sc _ _ _=>sc
 | _=>{ kind:=.function,names:=[],isGenerator:=false,isCoroutine:=false }
abbrev so (s:String):Str:=PySem.Str.ofString s
abbrev kh (P:Params) (s:Str):Int:=PySem.PyData.keyHash P s
abbrev hde (P:Params) (s:String) (n:Nat) (v:Value):DictEntry:=⟨kh P (so s),.str (so s) n,v⟩
abbrev hvs (s:String) (n:Nat):Value:=.str (so s) n
abbrev hcut (n:Nat):Value:=hvs "/claim/cut.py" n
abbrev hfd (x q:String) (s:Stmt) (a b c d:Value) (e:Option Addr) (f g:Value) (i:Addr):FuncData:=⟨so x,so q,dA s,.stmts (dB s),dS s,3,[],a,b,c,d,e,f,g,i⟩
abbrev htp (d:Data) (s:Array (Option Value)):Obj:=⟨.type "tuple",none,d,s⟩
abbrev hcd (d:Data) (s:Array (Option Value)):Obj:=⟨.type "code",none,d,s⟩
abbrev hfn (d:Data) (s:Array (Option Value)):Obj:=⟨.type "function",none,d,s⟩
def hpK:Params->PySem.W.Frag:=fun P=>
 (nat_lit 2,A81 .none .none (.dict #[]) #[]) ::
 (nat_lit 3,A81 (.type "dict") .none (.dict #[hde P "__name__" 165 (hvs "law_fewrooms_k28_great_trees" 340),hde P "__doc__" 166 .none,hde P "__package__" 167 .none,hde P "__loader__" 168 (.builtin "__main__.__loader__#opaque"),hde P "__spec__" 169 .none,hde P "__annotations__" 170 (.ref 6),hde P "__builtins__" 171 (.ref 4),hde P "__file__" 173 (hcut 172),hde P "__cached__" 174 .none,hde P "all_needed" 199 (.ref 21),hde P "use_counts" 210 (.ref 28),hde P "is_tree" 216 (.ref 33),hde P "RoomError" 236 (.ref 43),hde P "NoTree" 252 (.ref 56),hde P "demand_tree" 262 (.ref 65),hde P "taken_by" 279 (.ref 72),hde P "stretched" 293 (.ref 79),hde P "joined" 301 (.ref 86),hde P "joined_parts" 311 (.ref 93),hde P "parts_over" 317 (.ref 98),hde P "wide_order" 330 (.ref 105),hde P "wide_rooms" 339 (.ref 112),hde P "_law_begin" 349 (.ref 119),hde P "_law_take" 362 (.ref 126),hde P "_law_same" 368 (.ref 131),hde P "_law_some_needs" 379 (.ref 138),hde P "_law_tree_net" 391 (.ref 145),hde P "_law_net" 397 (.ref 150),hde P "_law_needed" 403 (.ref 155),hde P "_law_wides" 409 (.ref 160),hde P "_law_ground" 415 (.ref 165),hde P "_law_taken" 421 (.ref 170),hde P "_law_is_order" 427 (.ref 175),hde P "_law_any_order" 433 (.ref 180),hde P "_law_hills" 454 (.ref 187),hde P "_law_falling" 465 (.ref 194),hde P "law" 471 (.ref 199)] 37) #[]) ::
 (nat_lit 15,htp (.seq #[]) #[]) ::
 (nat_lit 17,htp (.seq #[hvs "net" 192,hvs "asked" 193,hvs "wanted" 194,hvs "work" 195,hvs "need" 196]) #[]) ::
 (nat_lit 18,htp (.seq #[]) #[]) ::
 (nat_lit 20,hcd (.fields #[hvs "all_needed" 189,hvs "all_needed" 190,hcut 191,.int 2 0,.int 2 0,.int 0 0,.int 0 0,.int 3 0,.ref 15,.bool .true,.int 181 0,.ref 16,.none,.ref 17,.ref 18,.ref 19,.int 197 0,.int 2 0,hcut 198]) #[]) ::
 (nat_lit 21,hfn (.func (hfd "all_needed" "all_needed" qDY .none .none .none (hvs "fewrooms.nets" 187) .none (.ref 20) .none 0)) #[]) ::
 (nat_lit 22,htp (.seq #[]) #[]) ::
 (nat_lit 24,htp (.seq #[hvs "net" 203,hvs "works" 204,hvs "counts" 205,hvs "work" 206,hvs "need" 207]) #[]) ::
 (nat_lit 25,htp (.seq #[]) #[]) ::
 (nat_lit 27,hcd (.fields #[hvs "use_counts" 200,hvs "use_counts" 201,hcut 202,.int 11 0,.int 2 0,.int 0 0,.int 0 0,.int 3 0,.ref 22,.bool .true,.int 181 0,.ref 23,.none,.ref 24,.ref 25,.ref 26,.int 208 0,.int 11 0,hcut 209]) #[]) ::
 (nat_lit 28,hfn (.func (hfd "use_counts" "use_counts" qDX .none .none .none (hvs "fewrooms.nets" 187) .none (.ref 27) .none 0)) #[]) ::
 (nat_lit 29,htp (.seq #[]) #[]) ::
 (nat_lit 32,hcd (.fields #[hvs "is_tree" 211,hvs "is_tree" 212,hcut 213,.int 17 0,.int 2 0,.int 0 0,.int 0 0,.int 3 0,.ref 29,.bool .true,.int 181 0,.ref 30,.none,.none,.none,.ref 31,.int 214 0,.int 17 0,hcut 215]) #[]) ::
 (nat_lit 33,hfn (.func (hfd "is_tree" "is_tree" qGP .none .none .none (hvs "fewrooms.nets" 187) .none (.ref 32) .none 0)) #[]) ::
 (nat_lit 34,htp (.seq #[.type "ValueError"]) #[]) ::
 (nat_lit 41,htp (.seq #[]) #[]) ::
 (nat_lit 42,A81 (.type "dict") .none (.dict #[hde P "__module__" 226 (hvs "fewrooms.errors" 217),hde P "__firstlineno__" 230 (.int 22 229),hde P "__static_attributes__" 231 (.ref 41),hde P "__weakref__" 233 (.ref 44),hde P "__doc__" 234 .none] 3) #[]) ::
 (nat_lit 43,A81 (.type "type") .none (.cls (A94 (so "RoomError") [.type "ValueError"] [.ref 43,.type "ValueError",.type "Exception",.type "BaseException",.type "object"] 42 (so "RoomError") .true [] [.ref 56] .false .none .false)) #[W9 (.ref 34),.none,W9 (hvs "RoomError" 219),W9 (hvs "RoomError" 227),W9 (.builtin "ValueError.__new__"),W9 (.bool .true)]) ::
 (nat_lit 44,A81 (.type "getset_descriptor") .none (.fields #[hvs "__weakref__" 232,.ref 43,.builtin "ExceptionGroup.__weakref__",.none]) #[]) ::
 (nat_lit 47,htp (.seq #[.ref 43]) #[]) ::
 (nat_lit 54,htp (.seq #[]) #[]) ::
 (nat_lit 55,A81 (.type "dict") .none (.dict #[hde P "__module__" 244 (hvs "fewrooms.errors" 217),hde P "__firstlineno__" 248 (.int 24 247),hde P "__static_attributes__" 249 (.ref 54),hde P "__doc__" 250 .none] 2) #[]) ::
 (nat_lit 56,A81 (.type "type") .none (.cls (A94 (so "NoTree") [.ref 43] [.ref 56,.ref 43,.type "ValueError",.type "Exception",.type "BaseException",.type "object"] 55 (so "NoTree") .true [] [] .false .none .false)) #[W9 (.ref 47),.none,W9 (hvs "NoTree" 237),W9 (hvs "NoTree" 245),W9 (.builtin "ValueError.__new__"),W9 (.bool .true)]) ::
 (nat_lit 59,htp (.seq #[]) #[]) ::
 (nat_lit 61,htp (.seq #[hvs "net" 258,hvs "work" 259]) #[]) ::
 (nat_lit 62,htp (.seq #[]) #[]) ::
 (nat_lit 64,hcd (.fields #[hvs "demand_tree" 255,hvs "demand_tree" 256,hcut 257,.int 27 0,.int 2 0,.int 0 0,.int 0 0,.int 3 0,.ref 59,.bool .true,.int 181 0,.ref 60,.none,.ref 61,.ref 62,.ref 63,.int 260 0,.int 27 0,hcut 261]) #[]) ::
 (nat_lit 65,hfn (.func (hfd "demand_tree" "demand_tree" qD9 .none .none .none (hvs "fewrooms.trees" 253) .none (.ref 64) .none 0)) #[]) ::
 (nat_lit 66,htp (.seq #[]) #[]) ::
 (nat_lit 68,htp (.seq #[hvs "net" 268,hvs "wides" 269,hvs "work" 270,hvs "order" 271,hvs "last_user" 272,hvs "other" 273,hvs "need" 274,hvs "told" 275,hvs "kept" 276]) #[]) ::
 (nat_lit 69,htp (.seq #[]) #[]) ::
 (nat_lit 71,hcd (.fields #[hvs "taken_by" 265,hvs "taken_by" 266,hcut 267,.int 31 0,.int 4 0,.int 0 0,.int 0 0,.int 3 0,.ref 66,.bool .true,.int 181 0,.ref 67,.none,.ref 68,.ref 69,.ref 70,.int 277 0,.int 31 0,hcut 278]) #[]) ::
 (nat_lit 72,hfn (.func (hfd "taken_by" "taken_by" qFZ .none .none .none (hvs "fewrooms.wides" 263) .none (.ref 71) .none 0)) #[]) ::
 (nat_lit 73,htp (.seq #[]) #[]) ::
 (nat_lit 75,htp (.seq #[hvs "net" 283,hvs "wides" 284,hvs "work" 285,hvs "other" 286,hvs "order" 287,hvs "need" 288]) #[]) ::
 (nat_lit 76,htp (.seq #[hvs "wides" 289,hvs "own" 290]) #[]) ::
 (nat_lit 78,hcd (.fields #[hvs "stretched" 280,hvs "stretched" 281,hcut 282,.int 45 0,.int 3 0,.int 0 0,.int 0 0,.int 3 0,.ref 73,.bool .true,.int 181 0,.ref 74,.none,.ref 75,.ref 76,.ref 77,.int 291 0,.int 45 0,hcut 292]) #[]) ::
 (nat_lit 79,hfn (.func (hfd "stretched" "stretched" qCC .none .none .none (hvs "fewrooms.wides" 263) .none (.ref 78) .none 0)) #[]) ::
 (nat_lit 80,htp (.seq #[]) #[]) ::
 (nat_lit 82,htp (.seq #[hvs "one" 297,hvs "other" 298]) #[]) ::
 (nat_lit 83,htp (.seq #[]) #[]) ::
 (nat_lit 85,hcd (.fields #[hvs "joined" 294,hvs "joined" 295,hcut 296,.int 55 0,.int 2 0,.int 0 0,.int 0 0,.int 3 0,.ref 80,.bool .true,.int 181 0,.ref 81,.none,.ref 82,.ref 83,.ref 84,.int 299 0,.int 55 0,hcut 300]) #[]) ::
 (nat_lit 86,hfn (.func (hfd "joined" "joined" qIM .none .none .none (hvs "fewrooms.wides" 263) .none (.ref 85) .none 0)) #[]) ::
 (nat_lit 87,htp (.seq #[]) #[]) ::
 (nat_lit 89,htp (.seq #[hvs "parts" 305,hvs "told" 306,hvs "part" 307,hvs "last" 308]) #[]) ::
 (nat_lit 90,htp (.seq #[]) #[]) ::
 (nat_lit 92,hcd (.fields #[hvs "joined_parts" 302,hvs "joined_parts" 303,hcut 304,.int 57 0,.int 1 0,.int 0 0,.int 0 0,.int 3 0,.ref 87,.bool .true,.int 181 0,.ref 88,.none,.ref 89,.ref 90,.ref 91,.int 309 0,.int 57 0,hcut 310]) #[]) ::
 (nat_lit 93,hfn (.func (hfd "joined_parts" "joined_parts" qCX .none .none .none (hvs "fewrooms.wides" 263) .none (.ref 92) .none 0)) #[]) ::
 (nat_lit 94,htp (.seq #[]) #[]) ::
 (nat_lit 97,hcd (.fields #[hvs "parts_over" 312,hvs "parts_over" 313,hcut 314,.int 65 0,.int 4 0,.int 0 0,.int 0 0,.int 3 0,.ref 94,.bool .true,.int 181 0,.ref 95,.none,.none,.none,.ref 96,.int 315 0,.int 65 0,hcut 316]) #[]) ::
 (nat_lit 98,hfn (.func (hfd "parts_over" "parts_over" qBX .none .none .none (hvs "fewrooms.wides" 263) .none (.ref 97) .none 0)) #[]) ::
 (nat_lit 99,htp (.seq #[]) #[]) ::
 (nat_lit 101,htp (.seq #[hvs "net" 321,hvs "wides" 322,hvs "work" 323,hvs "own" 324,hvs "other" 325,hvs "order" 326,hvs "part" 327]) #[]) ::
 (nat_lit 102,htp (.seq #[]) #[]) ::
 (nat_lit 104,hcd (.fields #[hvs "wide_order" 318,hvs "wide_order" 319,hcut 320,.int 72 0,.int 3 0,.int 0 0,.int 0 0,.int 3 0,.ref 99,.bool .true,.int 181 0,.ref 100,.none,.ref 101,.ref 102,.ref 103,.int 328 0,.int 72 0,hcut 329]) #[]) ::
 (nat_lit 105,hfn (.func (hfd "wide_order" "wide_order" qDW .none .none .none (hvs "fewrooms.wides" 263) .none (.ref 104) .none 0)) #[]) ::
 (nat_lit 106,htp (.seq #[]) #[]) ::
 (nat_lit 108,htp (.seq #[hvs "net" 334,hvs "wides" 335,hvs "work" 336]) #[]) ::
 (nat_lit 109,htp (.seq #[]) #[]) ::
 (nat_lit 111,hcd (.fields #[hvs "wide_rooms" 331,hvs "wide_rooms" 332,hcut 333,.int 81 0,.int 3 0,.int 0 0,.int 0 0,.int 3 0,.ref 106,.bool .true,.int 181 0,.ref 107,.none,.ref 108,.ref 109,.ref 110,.int 337 0,.int 81 0,hcut 338]) #[]) ::
 (nat_lit 112,hfn (.func (hfd "wide_rooms" "wide_rooms" qDV .none .none .none (hvs "fewrooms.wides" 263) .none (.ref 111) .none 0)) #[]) ::
 (nat_lit 113,htp (.seq #[]) #[]) ::
 (nat_lit 115,htp (.seq #[hvs "_law_script" 345,hvs "_law_cells" 346]) #[]) ::
 (nat_lit 116,htp (.seq #[]) #[]) ::
 (nat_lit 118,hcd (.fields #[hvs "_law_begin" 342,hvs "_law_begin" 343,hcut 344,.int 84 0,.int 1 0,.int 0 0,.int 0 0,.int 3 0,.ref 113,.bool .true,.int 181 0,.ref 114,.none,.ref 115,.ref 116,.ref 117,.int 347 0,.int 84 0,hcut 348]) #[]) ::
 (nat_lit 119,hfn (.func (hfd "_law_begin" "_law_begin" qIQ .none .none .none (hvs "law_fewrooms_k28_great_trees" 340) .none (.ref 118) .none 0)) #[]) ::
 (nat_lit 120,htp (.seq #[]) #[]) ::
 (nat_lit 122,htp (.seq #[hvs "_law_state" 353,hvs "_law_many" 354,hvs "_law_turn" 355,hvs "_law_place" 356,hvs "_law_cell" 357,hvs "_law_digit" 358,hvs "_law_mixed" 359]) #[]) ::
 (nat_lit 123,htp (.seq #[]) #[]) ::
 (nat_lit 125,hcd (.fields #[hvs "_law_take" 350,hvs "_law_take" 351,hcut 352,.int 89 0,.int 2 0,.int 0 0,.int 0 0,.int 3 0,.ref 120,.bool .true,.int 181 0,.ref 121,.none,.ref 122,.ref 123,.ref 124,.int 360 0,.int 89 0,hcut 361]) #[]) ::
 (nat_lit 126,hfn (.func (hfd "_law_take" "_law_take" qLR .none .none .none (hvs "law_fewrooms_k28_great_trees" 340) .none (.ref 125) .none 0)) #[]) ::
 (nat_lit 127,htp (.seq #[]) #[]) ::
 (nat_lit 130,hcd (.fields #[hvs "_law_same" 363,hvs "_law_same" 364,hcut 365,.int 100 0,.int 2 0,.int 0 0,.int 0 0,.int 3 0,.ref 127,.bool .true,.int 181 0,.ref 128,.none,.none,.none,.ref 129,.int 366 0,.int 100 0,hcut 367]) #[]) ::
 (nat_lit 131,hfn (.func (hfd "_law_same" "_law_same" qJH .none .none .none (hvs "law_fewrooms_k28_great_trees" 340) .none (.ref 130) .none 0)) #[]) ::
 (nat_lit 132,htp (.seq #[]) #[]) ::
 (nat_lit 134,htp (.seq #[hvs "_law_state" 372,hvs "_law_k" 373,hvs "_law_found" 374,hvs "_law_turn" 375,hvs "_law_far" 376]) #[]) ::
 (nat_lit 135,htp (.seq #[]) #[]) ::
 (nat_lit 137,hcd (.fields #[hvs "_law_some_needs" 369,hvs "_law_some_needs" 370,hcut 371,.int 112 0,.int 2 0,.int 0 0,.int 0 0,.int 3 0,.ref 132,.bool .true,.int 181 0,.ref 133,.none,.ref 134,.ref 135,.ref 136,.int 377 0,.int 112 0,hcut 378]) #[]) ::
 (nat_lit 138,hfn (.func (hfd "_law_some_needs" "_law_some_needs" qDA .none .none .none (hvs "law_fewrooms_k28_great_trees" 340) .none (.ref 137) .none 0)) #[]) ::
 (nat_lit 139,htp (.seq #[]) #[]) ::
 (nat_lit 141,htp (.seq #[hvs "_law_state" 383,hvs "_law_many" 384,hvs "_law_open_ones" 385,hvs "_law_found" 386,hvs "_law_k" 387,hvs "_law_so_many" 388]) #[]) ::
 (nat_lit 142,htp (.seq #[]) #[]) ::
 (nat_lit 144,hcd (.fields #[hvs "_law_tree_net" 380,hvs "_law_tree_net" 381,hcut 382,.int 119 0,.int 2 0,.int 0 0,.int 0 0,.int 3 0,.ref 139,.bool .true,.int 181 0,.ref 140,.none,.ref 141,.ref 142,.ref 143,.int 389 0,.int 119 0,hcut 390]) #[]) ::
 (nat_lit 145,hfn (.func (hfd "_law_tree_net" "_law_tree_net" qEJ .none .none .none (hvs "law_fewrooms_k28_great_trees" 340) .none (.ref 144) .none 0)) #[]) ::
 (nat_lit 146,htp (.seq #[]) #[]) ::
 (nat_lit 149,hcd (.fields #[hvs "_law_net" 392,hvs "_law_net" 393,hcut 394,.int 127 0,.int 2 0,.int 0 0,.int 0 0,.int 3 0,.ref 146,.bool .true,.int 181 0,.ref 147,.none,.none,.none,.ref 148,.int 395 0,.int 127 0,hcut 396]) #[]) ::
 (nat_lit 150,hfn (.func (hfd "_law_net" "_law_net" qQQ .none .none .none (hvs "law_fewrooms_k28_great_trees" 340) .none (.ref 149) .none 0)) #[]) ::
 (nat_lit 151,htp (.seq #[]) #[]) ::
 (nat_lit 154,hcd (.fields #[hvs "_law_needed" 398,hvs "_law_needed" 399,hcut 400,.int 142 0,.int 2 0,.int 0 0,.int 0 0,.int 3 0,.ref 151,.bool .true,.int 181 0,.ref 152,.none,.none,.none,.ref 153,.int 401 0,.int 142 0,hcut 402]) #[]) ::
 (nat_lit 155,hfn (.func (hfd "_law_needed" "_law_needed" qGQ .none .none .none (hvs "law_fewrooms_k28_great_trees" 340) .none (.ref 154) .none 0)) #[]) ::
 (nat_lit 156,htp (.seq #[]) #[]) ::
 (nat_lit 159,hcd (.fields #[hvs "_law_wides" 404,hvs "_law_wides" 405,hcut 406,.int 151 0,.int 2 0,.int 0 0,.int 0 0,.int 3 0,.ref 156,.bool .true,.int 181 0,.ref 157,.none,.none,.none,.ref 158,.int 407 0,.int 151 0,hcut 408]) #[]) ::
 (nat_lit 160,hfn (.func (hfd "_law_wides" "_law_wides" qIN .none .none .none (hvs "law_fewrooms_k28_great_trees" 340) .none (.ref 159) .none 0)) #[]) ::
 (nat_lit 161,htp (.seq #[]) #[]) ::
 (nat_lit 164,hcd (.fields #[hvs "_law_ground" 410,hvs "_law_ground" 411,hcut 412,.int 160 0,.int 2 0,.int 0 0,.int 0 0,.int 3 0,.ref 161,.bool .true,.int 181 0,.ref 162,.none,.none,.none,.ref 163,.int 413 0,.int 160 0,hcut 414]) #[]) ::
 (nat_lit 165,hfn (.func (hfd "_law_ground" "_law_ground" qGR .none .none .none (hvs "law_fewrooms_k28_great_trees" 340) .none (.ref 164) .none 0)) #[]) ::
 (nat_lit 166,htp (.seq #[]) #[]) ::
 (nat_lit 169,hcd (.fields #[hvs "_law_taken" 416,hvs "_law_taken" 417,hcut 418,.int 174 0,.int 3 0,.int 0 0,.int 0 0,.int 3 0,.ref 166,.bool .true,.int 181 0,.ref 167,.none,.none,.none,.ref 168,.int 419 0,.int 174 0,hcut 420]) #[]) ::
 (nat_lit 170,hfn (.func (hfd "_law_taken" "_law_taken" qIO .none .none .none (hvs "law_fewrooms_k28_great_trees" 340) .none (.ref 169) .none 0)) #[]) ::
 (nat_lit 171,htp (.seq #[]) #[]) ::
 (nat_lit 174,hcd (.fields #[hvs "_law_is_order" 422,hvs "_law_is_order" 423,hcut 424,.int 183 0,.int 3 0,.int 0 0,.int 0 0,.int 3 0,.ref 171,.bool .true,.int 181 0,.ref 172,.none,.none,.none,.ref 173,.int 425 0,.int 183 0,hcut 426]) #[]) ::
 (nat_lit 175,hfn (.func (hfd "_law_is_order" "_law_is_order" qEK .none .none .none (hvs "law_fewrooms_k28_great_trees" 340) .none (.ref 174) .none 0)) #[]) ::
 (nat_lit 176,htp (.seq #[]) #[]) ::
 (nat_lit 179,hcd (.fields #[hvs "_law_any_order" 428,hvs "_law_any_order" 429,hcut 430,.int 194 0,.int 3 0,.int 0 0,.int 0 0,.int 3 0,.ref 176,.bool .true,.int 181 0,.ref 177,.none,.none,.none,.ref 178,.int 431 0,.int 194 0,hcut 432]) #[]) ::
 (nat_lit 180,hfn (.func (hfd "_law_any_order" "_law_any_order" qDZ .none .none .none (hvs "law_fewrooms_k28_great_trees" 340) .none (.ref 179) .none 0)) #[]) ::
 (nat_lit 181,htp (.seq #[]) #[]) ::
 (nat_lit 183,htp (.seq #[hvs "_law_net_here" 437,hvs "_law_wides_here" 438,hvs "_law_work" 439,hvs "_law_rows" 440,hvs "_law_one" 441,hvs "_law_falls" 442,hvs "_law_need" 443,hvs "_law_begin_here" 444,hvs "_law_hill" 445,hvs "_law_valley" 446,hvs "_law_level" 447,hvs "_law_parts" 448,hvs "_law_fall" 449,hvs "_law_up" 450,hvs "_law_on" 451]) #[]) ::
 (nat_lit 184,htp (.seq #[]) #[]) ::
 (nat_lit 186,hcd (.fields #[hvs "_law_hills" 434,hvs "_law_hills" 435,hcut 436,.int 203 0,.int 3 0,.int 0 0,.int 0 0,.int 3 0,.ref 181,.bool .true,.int 181 0,.ref 182,.none,.ref 183,.ref 184,.ref 185,.int 452 0,.int 203 0,hcut 453]) #[]) ::
 (nat_lit 187,hfn (.func (hfd "_law_hills" "_law_hills" qIP .none .none .none (hvs "law_fewrooms_k28_great_trees" 340) .none (.ref 186) .none 0)) #[]) ::
 (nat_lit 188,htp (.seq #[]) #[]) ::
 (nat_lit 190,htp (.seq #[hvs "_law_parts" 458,hvs "_law_found" 459,hvs "_law_hill" 460,hvs "_law_valley" 461,hvs "_law_other" 462]) #[]) ::
 (nat_lit 191,htp (.seq #[]) #[]) ::
 (nat_lit 193,hcd (.fields #[hvs "_law_falling" 455,hvs "_law_falling" 456,hcut 457,.int 219 0,.int 1 0,.int 0 0,.int 0 0,.int 3 0,.ref 188,.bool .true,.int 181 0,.ref 189,.none,.ref 190,.ref 191,.ref 192,.int 463 0,.int 219 0,hcut 464]) #[]) ::
 (nat_lit 194,hfn (.func (hfd "_law_falling" "_law_falling" qG0 .none .none .none (hvs "law_fewrooms_k28_great_trees" 340) .none (.ref 193) .none 0)) #[]) ::
 (nat_lit 195,htp (.seq #[]) #[]) ::
 (nat_lit 198,hcd (.fields #[hvs "law" 466,hvs "law" 467,hcut 468,.int 227 0,.int 1 0,.int 0 0,.int 0 0,.int 3 0,.ref 195,.bool .true,.int 181 0,.ref 196,.none,.none,.none,.ref 197,.int 469 0,.int 227 0,hcut 470]) #[]) ::
 (nat_lit 199,hfn (.func (hfd "law" "law" qKG .none .none .none (hvs "law_fewrooms_k28_great_trees" 340) .none (.ref 198) .none 0)) #[]) ::
 []
def hpA:List Addr:=[2,3,15,17,18,20,21,22,24,25,27,28,29,32,33,34,41,42,43,44,47,54,55,56,59,61,62,64,65,66,68,69,71,72,73,75,76,78,79,80,82,83,85,86,87,89,90,92,93,94,97,98,99,101,102,104,105,106,108,109,111,112,113,115,116,118,119,120,122,123,125,126,127,130,131,132,134,135,137,138,139,141,142,144,145,146,149,150,151,154,155,156,159,160,161,164,165,166,169,170,171,174,175,176,179,180,181,183,184,186,187,188,190,191,193,194,195,198,199]
def hpQ:Program:=PySem.W.view PySem.Challenge.pw_fewrooms_k28_great_trees [1,2,3,5,6,8,10,11,12,13,14,15,16,18,19,20,21,22,23,24,25,26,27,28,29,30,31,32]
def hpN:Nat:=2596
theorem hpE (P:Params):hpA=(hpK P).map (·.1):=by kernel_rfl
def hpX (s:Shared):Bool:=PySem.W.xlAt hpQ [] s && PySem.W.recOk (PySem.W.RowW.records (A93 (A98 PySem.Challenge.rw_fewrooms_k28_great_trees))) s
theorem hpLeft:PySem.W.LeftO PySem.Challenge.pw_fewrooms_k28_great_trees hpQ [] hpX (A86 hpK hpA hpE).obs (A86 hpK hpA hpE).val hpN:=fun w=>by kernel_rfl
theorem hpSaid:A82 PySem.Challenge.rw_fewrooms_k28_great_trees=true:=by kernel_rfl
end Fw
namespace L2
open PySem PySem.Spec PyProof.Rows
abbrev Key:=Sum Int Str
def qPU:Key->Value->Bool
 | .inl k,v=>u8 k v
 | .inr x,v=>A87 x v
def keyH (w:World):Key->Int
 | .inl k=>hashInt k
 | .inr x=>hashStr w x
theorem qBU:∀ {k:Key} {v:Value},qPU k v=true->(∃ i t,k=E9 i/\v=G8 i t)\/(∃ x t,k=P5 x/\v=A32 x t)
 | .inl i,v,h=>by
  obtain ⟨t,e⟩:=A46 (k:=i) (v:=v) h;exact .inl ⟨i,t,rfl,e⟩
 | .inr x,v,h=>by
  obtain ⟨t,e⟩:=Value.isStrOf_shape (x:=x) (v:=v) h;exact .inr ⟨x,t,rfl,e⟩
theorem qNU (i:Int) (t:Tok):qPU (.inl i) (.int i t)=true:=by simp [qPU,u8]
theorem qUI (x:Str) (t:Tok):qPU (.inr x) (.str x t)=true:=by simp [qPU,A87]
theorem qbK (a b:Int):decide ((E9 a:Key)=E9 b)=(a == b):=by
 by_cases e:a=b
 ·subst e;simp
 ·have h:¬ (E9 a:Key)=E9 b:=fun q=>e (X8 q);rw [decide_eq_false h];exact (beq_eq_false_iff_ne.mpr e).symm
theorem qbH (a b:Str):decide ((P5 a:Key)=P5 b)=decide (a=b):=by
 by_cases e:a=b
 ·subst e;simp
 ·have h:¬ (P5 a:Key)=P5 b:=fun q=>e (A99 q);rw [decide_eq_false h,decide_eq_false e]
theorem qbJ (a:Int) (b:Str):decide ((E9 a:Key)=P5 b)=false:=decide_eq_false (fun q=>nomatch q)
theorem qbI (a:Str) (b:Int):decide ((P5 a:Key)=E9 b)=false:=decide_eq_false (fun q=>nomatch q)
def qB8 (prog:Program) (w:World):PySem.KeyKind prog w Key where
 is:=qPU
 hash:=keyH w
 inj:=fun v a b ha hb=>by
  rcases qBU ha with ⟨i,t,rfl,rfl⟩ | ⟨x,t,rfl,rfl⟩
  ·rcases qBU hb with ⟨j,u,rfl,e⟩ | ⟨y,u,rfl,e⟩
   ·injection e with e1 _;rw [e1]
   ·exact nomatch e
  ·rcases qBU hb with ⟨j,u,rfl,e⟩ | ⟨y,u,rfl,e⟩
   ·exact nomatch e
   ·injection e with e1 _;rw [e1]
 byValue:=fun k v h=>by
  rcases qBU h with ⟨i,t,rfl,rfl⟩ | ⟨x,t,rfl,rfl⟩ <;> rfl
 pyHash:=fun hv h=>by
  rcases qBU hv with ⟨i,t,rfl,rfl⟩ | ⟨x,t,rfl,rfl⟩
  ·exact wpAny_pyHash_int h
  ·exact wpAny_pyHash_str h
 eqBool:=fun hu hv h=>by
  rcases qBU hu with ⟨i,t,rfl,rfl⟩ | ⟨x,t,rfl,rfl⟩
  ·rcases qBU hv with ⟨j,u,rfl,rfl⟩ | ⟨y,u,rfl,rfl⟩
   ·rw [qbK] at h;exact wpAny_eqBool_int h
   ·rw [qbJ] at h;exact A33 i t y u _ _ _ _ h
  ·rcases qBU hv with ⟨j,u,rfl,rfl⟩ | ⟨y,u,rfl,rfl⟩
   ·rw [qbI] at h;exact A34 x t j u _ _ _ _ h
   ·rw [qbH] at h;exact wpAny_eqBool_str h
 «strs»:=fun k x t v h=>by
  rcases qBU h with ⟨i,u,rfl,e⟩ | ⟨y,u,rfl,e⟩
  ·exact nomatch e
  ·injection e with e1 _
   subst e1;cases v <;> rfl
theorem qS4 (prog:Program) (w:World) (k:Key) (v:Value):(qB8 prog w).is k v=qPU k v:=rfl
theorem qPO (prog:Program) (w:World) (i:Int) (t:Tok):(qB8 prog w).is (.inl i) (.int i t)=true:=qNU i t
theorem qPN (prog:Program) (w:World) (x:Str) (t:Tok):(qB8 prog w).is (.inr x) (.str x t)=true:=qUI x t
inductive V where
 | non | bl (b:Bool) | int (i:Int) | str (x:Str) | byt (b:Array UInt8) | flt (b:UInt64) | ref (a:Addr) | ty (n:String)
 deriving DecidableEq
def RelV:V->Value->Prop
 | .non,u=>u=U0
 | .bl b,u=>u=Q4 b
 | .int i,u=>∃ t,u=G8 i t
 | .str x,u=>∃ t,u=A32 x t
 | .byt b,u=>∃ t,u=Value.bytes b t
 | .flt b,u=>∃ t,u=Value.float b t
 | .ref a,u=>u=C9 a
 | .ty n,u=>u=k5 n
abbrev Vals:List V->List Value->Prop:=Paired RelV
theorem Vals.length {xs:List V} {us:List Value} (r:Vals xs us):xs.length=us.length:=C6 r
theorem Vals.get:∀ {xs:List V} {us:List Value} {i:Nat} {x:V},Vals xs us->xs[i]?=some x->∃ u,us[i]?=some u/\RelV x u
 | _,_,_,_,.nil,e=>by simp at e
 | _,_,0,_,.cons r _,e=>by simp at e;subst e;exact ⟨_,rfl,r⟩
 | _,_,i+1,x,.cons _ t,e=>by
  obtain ⟨u,h1,h2⟩:=Vals.get (i:=i) (x:=x) t (by simpa using e)
  exact ⟨u,by simpa using h1,h2⟩
theorem Vals.set {x:V} {u:Value} (r:RelV x u):∀ {xs:List V} {us:List Value} (i:Nat),Vals xs us->Vals (xs.set i x) (us.set i u)
 | _,_,_,.nil=>.nil
 | _,_,0,.cons _ t=>.cons r t
 | _,_,i+1,.cons q t=>.cons q (Vals.set r i t)
theorem Vals.append:∀ {xs ys:List V} {us ws:List Value},Vals xs us->Vals ys ws->Vals (xs++ys) (us++ws)
 | _,_,_,_,.nil,s=>s
 | _,_,_,_,.cons r t,s=>.cons r (Vals.append t s)
theorem Vals.take:∀ {xs:List V} {us:List Value} (n:Nat),Vals xs us->Vals (xs.take n) (us.take n)
 | _,_,0,_=>.nil
 | _,_,_+1,.nil=>.nil
 | _,_,n+1,.cons r t=>.cons r (Vals.take n t)
theorem Vals.drop:∀ {xs:List V} {us:List Value} (n:Nat),Vals xs us->Vals (xs.drop n) (us.drop n)
 | _,_,0,r=>r
 | _,_,_+1,.nil=>.nil
 | _,_,n+1,.cons _ t=>Vals.drop n t
def RelO:Option V->Option Value->Prop
 | some v,some u=>RelV v u
 | none,none=>True
 | _,_=>False
def KV {κ:Type}:List (κ × V)->List (κ × Value)->Prop:=Paired fun (p:κ × V) (q:κ × Value)=>p.1=q.1/\RelV p.2 q.2
inductive CTb where
 | tab (q:Str)
 | cod (q:Str)
def kV:Key->V
 | .inl i=>.int i
 | .inr x=>.str x
inductive HO where
 | lst (xs:List V)
 | tup (xs:List V)
 | dK (Af:List (Key × V)) | dT (Af:List (List Key × V))
 | set (S:Int->Bool) (n:Nat)
 | ins (C dx:Addr) (fs:List (Str × V))
 | own (x:Addr)
 | xd (fs:List (Str × V))
 | met (f x:Addr)
 | rng (lo hi:Int)
 | frz (o:Obj) (u:HO)
 | tbl (t:CTb)
 | ext (φ:Heap->Prop)
abbrev Hp:=Addr->Option HO
def upd (H:Hp) (a:Addr) (o:HO):Hp:=fun b=>if b=a then some o else H b
theorem qA1 {H:Hp} {a:Addr} {o:HO}:upd H a o a=some o:=by unfold upd;rw [if_pos rfl]
theorem qA8 {H:Hp} {a b:Addr} {o:HO} (h:b ≠ a):upd H a o b=H b:=by unfold upd;rw [if_neg h]
theorem qJ9 {H:Hp} {a:Addr} {o u:HO}:upd (upd H a o) a u=upd H a u:=by
 funext b;unfold upd;split <;> rfl
theorem qBM {H:Hp} {a b:Addr} {o u:HO} (h:H a=some o) (h':H b=some u) (d:o ≠ u):a ≠ b:=by
 intro e;subst e;rw [h] at h';exact d (D5 h')
theorem qA5 {H:Hp} {a b:Addr} {o:HO} (h:H a=some o) (h':H b=none):a ≠ b:=by
 intro e;subst e;rw [h] at h';cases h'
section
variable (P:Program) (w:World)
def ObjOk (H:Hp) (h:Heap) (a:Addr):HO->Prop
 | .lst xs=>xs.length<=sizeLine/\∃ (its:List Value) (n:Nat),Vals xs its/\h.get? a=some { cls:=.type "list",data:=.seq its.toArray n }
 | .tup xs=>xs.length<=sizeLine/\∃ its:List Value,Vals xs its/\IsTup h a its.toArray
 | .dK Af=>Af.length<=sizeLine/\(a == sysModules)=false/\∃ vs,KV Af vs/\h.DictOf (qB8 P w) a vs
 | .dT Af=>Af.length<=sizeLine/\(a == sysModules)=false/\∃ xs:List (List Key × Addr × Value),
   Paired (fun (p:List Key × V) (q:List Key × Addr × Value)=>p.1=q.1/\H q.2.1=some (.tup (p.1.map kV))/\RelV p.2 q.2.2) Af xs/\
   ∃ o es ep,h.get? a=some o/\o.ExactDict/\o.data=.dict es ep/\es.toList=xs.map (entryOfKey (tupleKind (qB8 P w)))/\(xs.map (·.1)).Nodup
 | .set S n=>h.SetOf (intKind P w) a S n
 | .ins C dx fs=>H dx=some (.own a)/\fs.length<=1000/\dx ≠ a/\h.get? a=some (A06 C dx)/\
   ∃ mA,h.Ns1 dx mA/\(∀ f,RelO (fs.lookup f) (mA f))/\PySem.Within mA (fs.map (·.1))
 | .own _=>∃ o,h.get? a=some o
 | .xd fs=>∃ mA,h.Ns1 a mA/\∀ f,RelO (fs.lookup f) (mA f)
 | .rng lo hi=>∃ t u v,h.get? a=some { cls:=.type "range",data:=.fields #[.int lo t,.int hi u,.int 1 v] }
 | .frz o u=>h.get? a=some o/\ObjOk H h a u
 | .tbl (.tab q)=>∃ more:Array Value,h.get? a=some { cls:=.none,data:=.fields more }/\TriplesOk more.toList/\∀ pos cv,codeAmong pos more.toList=some cv->∃ c,cv=.ref c/\H c=some (.tbl (.cod q))
 | .tbl (.cod q)=>h.CodeRec (.ref a) q
 | .met f x=>h.get? a=some (o8 (.ref f) (.ref x))
 | .ext φ=>φ h/\(∃ o,h.get? a=some o)/\∀ h1 h2:Heap,φ h1->(∀ o,h1.get? a=some o->h2.get? a=some o)->φ h2
def HOk (H:Hp) (h:Heap):Prop:=∀ a o,H a=some o->ObjOk P w H h a o
end
section
variable {P:Program} {w:World} {H H':Hp} {h h':Heap} {a:Addr} {o:HO}
theorem ObjOk.lt (x:ObjOk P w H h a o):a<h.objs.size:=by
 cases o with
 | lst xs=>obtain ⟨_,_,_,_,e⟩:=x;exact B1 e
 | tup xs=>obtain ⟨_,_,_,p⟩:=x;exact p.lt
 | dK Af=>obtain ⟨_,_,_,_,o,_,_,e,_⟩:=x;exact B1 e
 | dT Af=>obtain ⟨_,_,_,_,o,_,_,e,_⟩:=x;exact B1 e
 | set S n=>obtain ⟨o,_,_,_,e,_⟩:=x;exact B1 e
 | ins C dx fs=>obtain ⟨_,_,_,e,_⟩:=x;exact B1 e
 | own y=>obtain ⟨_,e⟩:=x;exact B1 e
 | xd fs=>obtain ⟨_,⟨_,_,_,e,_⟩,_⟩:=x;exact B1 e
 | rng lo hi=>obtain ⟨_,_,_,e⟩:=x;exact B1 e
 | frz ob u=>obtain ⟨e,_⟩:=x;exact B1 e
 | tbl t=>
  cases t with
  | tab q=>obtain ⟨_,e,_⟩:=x;exact B1 e
  | cod q=>obtain ⟨c,o,_,_,e,g,_⟩:=x;cases e;exact B1 g
 | met f y=>exact B1 (show h.get? a=some _ from x)
 | ext φ=>obtain ⟨_,⟨_,e⟩,_⟩:=x;exact B1 e
theorem Paired.mapP {α β:Type} {F G:α->β->Prop}:∀ {l₁:List α} {l₂:List β},Paired F l₁ l₂->(∀ a b,F a b->G a b)->Paired G l₁ l₂
 | _,_,.nil,_=>.nil
 | _,_,.cons r t,f=>.cons (f _ _ r) (Paired.mapP t f)
theorem ObjOk.stay (x:ObjOk P w H h a o) (k:∀ b u,(b=a\/H b=some (.own a))->h.get? b=some u->h'.get? b=some u)
  (ho:∀ b,H b=some (.own a)->H' b=some (.own a)) (ht:∀ b xs,H b=some (.tup xs)->H' b=some (.tup xs)) (hb:∀ b t,H b=some (.tbl t)->H' b=some (.tbl t):=by exact fun _ _ q=>q):ObjOk P w H' h' a o:=by
 induction o with
 | lst xs=>obtain ⟨z,its,n,r,e⟩:=x;exact ⟨z,its,n,r,k _ _ (.inl rfl) e⟩
 | tup xs=>obtain ⟨z,its,r,ob,e,c⟩:=x;exact ⟨z,its,r,ob,k _ _ (.inl rfl) e,c⟩
 | dK Af=>obtain ⟨z,y,vs,r,ob,es,ep,e,c⟩:=x;exact ⟨z,y,vs,r,ob,es,ep,k _ _ (.inl rfl) e,c⟩
 | dT Af=>
  obtain ⟨z,y,xs,r,ob,es,ep,e,c⟩:=x;exact ⟨z,y,xs,Paired.mapP r fun p q z=>⟨z.1,ht _ _ z.2.1,z.2.2⟩,ob,es,ep,k _ _ (.inl rfl) e,c⟩
 | set S n=>obtain ⟨ob,es,ep,t,e,c⟩:=x;exact ⟨ob,es,ep,t,k _ _ (.inl rfl) e,c⟩
 | ins C dx fs=>
  obtain ⟨d,z,ne,e,mA,⟨od,es,ep,e2,c⟩,r⟩:=x;exact ⟨ho _ d,z,ne,k _ _ (.inl rfl) e,mA,⟨od,es,ep,k _ _ (.inr d) e2,c⟩,r⟩
 | own y=>obtain ⟨ob,e⟩:=x;exact ⟨ob,k _ _ (.inl rfl) e⟩
 | xd fs=>obtain ⟨mA,⟨od,es,ep,e,c⟩,r⟩:=x;exact ⟨mA,⟨od,es,ep,k _ _ (.inl rfl) e,c⟩,r⟩
 | rng lo hi=>obtain ⟨t,u,v,e⟩:=x;exact ⟨t,u,v,k _ _ (.inl rfl) e⟩
 | frz ob u ih=>obtain ⟨e,q⟩:=x;exact ⟨k _ _ (.inl rfl) e,ih q⟩
 | tbl t=>
  cases t with
  | tab q=>obtain ⟨m,e,tr,c⟩:=x;exact ⟨m,k a _ (.inl rfl) e,tr,fun pos cv z=>let ⟨c',e1,e2⟩:=c pos cv z;⟨c',e1,hb _ _ e2⟩⟩
  | cod q=>obtain ⟨c,o,vs,t,e,g,r⟩:=x;cases e;exact ⟨a,o,vs,t,rfl,k a _ (.inl rfl) g,r⟩
 | met f y=>
  have e:h.get? a=some (o8 (.ref f) (.ref y)):=x;show h'.get? a=some (o8 (.ref f) (.ref y));exact k a _ (.inl rfl) e
 | ext φ=>obtain ⟨p,⟨o,e⟩,st⟩:=x;exact ⟨st _ _ p fun o q=>k _ _ (.inl rfl) q,⟨o,k _ _ (.inl rfl) e⟩,st⟩
theorem HOk.lt (x:HOk P w H h) (e:H a=some o):a<h.objs.size:=(x a o e).lt
theorem HOk.fresh (x:HOk P w H h) (e:h.objs.size<=a):H a=none:=by
 cases q:H a with
 | none=>rfl
 | some u=>exact absurd (D9 (x.lt q) e) (T5 _)
theorem HOk.kept (x:HOk P w H h) (k:∀ b u,h.get? b=some u->h'.get? b=some u):HOk P w H h':=fun a o e=>
 (x a o e).stay (fun b u _ q=>k b u q) (fun _ q=>q) fun _ _ q=>q
theorem HOk.laid (x:HOk P w H h) (k:∀ b u,h.get? b=some u->h'.get? b=some u) (hp:h.objs.size<=a) (new:ObjOk P w (upd H a o) h' a o):HOk P w (upd H a o) h':=fun b u e=>by
 have hn:=x.fresh hp;by_cases hb:b=a
 ·subst hb;rw [qA1] at e;cases e;exact new
 ·rw [qA8 hb] at e;exact (x b u e).stay (fun c v _ q=>k c v q) (fun c q=>by rw [qA8 (qA5 q hn)];exact q) (fun c xs q=>by rw [qA8 (qA5 q hn)];exact q) fun c t q=>by rw [qA8 (qA5 q hn)];exact q
end
def Rd (H:Hp) (a:Addr) (u:HO):Prop:=H a=some u\/∃ o,H a=some (.frz o u)
theorem Rd.ok {P:Program} {w:World} {H:Hp} {h:Heap} {a:Addr} {u:HO} (r:Rd H a u) (x:HOk P w H h):ObjOk P w H h a u:=by
 rcases r with r | ⟨o,r⟩
 ·exact x a u r
 ·obtain ⟨_,q⟩:=x a _ r;exact q
def Mut:Option HO->Prop
 | some (.lst _)=>True
 | some (.dK _)=>True
 | some (.dT _)=>True
 | some (.set _ _)=>True
 | some (.ins _ _ _)=>True
 | some (.ext _)=>True
 | _=>False
section
variable {P:Program} {w:World} {H:Hp} {h h':Heap} {x e:Addr} {o':HO}
theorem HOk.write (ok:HOk P w H h) (mu:Mut (H x)) (he:e=x\/H e=some (.own x)) (k:∀ b u,b ≠ e->h.get? b=some u->h'.get? b=some u) (heo:∃ u,h'.get? e=some u)
  (new:ObjOk P w (upd H x o') h' x o'):HOk P w (upd H x o') h':=fun b u q=>by
 have nown:∀ c y,H c=some (.own y)->c ≠ x:=fun c y r z=>by subst z;rw [r] at mu;exact mu
 have ntup:∀ c xs,H c=some (.tup xs)->c ≠ x:=fun c xs r z=>by subst z;rw [r] at mu;exact mu
 by_cases hb:b=x
 ·subst hb;rw [qA1] at q;cases q;exact new
 ·rw [qA8 hb] at q;by_cases hbe:b=e
  ·have q':H b=some (.own x):=by
    rcases he with z | z
    ·exact absurd (hbe.trans z) hb
    ·rw [hbe];exact z
   rw [q] at q';cases q';obtain ⟨v,hv⟩:=heo;exact ⟨v,by rw [hbe];exact hv⟩
  ·refine (ok b u q).stay (fun c v hc r=>k c v ?_ r) (fun c r=>by rw [qA8 (nown c b r)];exact r) (fun c xs r=>by rw [qA8 (ntup c xs r)];exact r) fun c t r=>by rw [qA8 (fun z=>by subst z;rw [r] at mu;exact mu)];exact r
   rcases hc with rfl | hc
   ·exact hbe
   ·rintro rfl;rcases he with z | z
    ·exact nown c b hc z
    ·rw [hc] at z;cases z;exact hb rfl
end
structure Un (fs ex:List Addr) (H H':Hp) (h h':Heap):Prop where
 keep:∀ b o,h.get? b=some o->H b=none->b ∉ fs->b ∉ ex->h'.get? b=some o
 slot:∀ b o,h.get? b=some o->H b=none->b ∈ fs->b ∉ ex->∃ sl,h'.get? b=some { o with slots:=sl }
 free:∀ b o,h.get? b=some o->H b=none->b ∉ ex->H' b=none
 there:∀ b o,h.get? b=some o->b ∉ ex->∃ o',h'.get? b=some o'
 tups:∀ b xs,H b=some (.tup xs)->H' b=some (.tup xs)
 frzs:∀ b o u,H b=some (.frz o u)->H' b=some (.frz o u)
 tbls:∀ b ps,H b=some (.tbl ps)->H' b=some (.tbl ps)
section
variable {fs fs' ex ex':List Addr} {H H1 H2:Hp} {h h1 h2 h':Heap} {a x e:Addr} {o:HO}
theorem Un.any (u:Un fs ex H H1 h h1) {b:Addr} {ob:Obj} (q:h.get? b=some ob) (n:H b=none) (hx:b ∉ ex):∃ sl,h1.get? b=some { ob with slots:=sl }:=by
 by_cases hb:b ∈ fs
 ·exact u.slot b ob q n hb hx
 ·exact ⟨ob.slots,u.keep b ob q n hb hx⟩
theorem Un.kept (k:∀ b u,h.get? b=some u->h'.get? b=some u):Un fs ex H H h h':=
 ⟨fun b ob q _ _ _=>k b ob q,fun b ob q _ _ _=>⟨ob.slots,k b ob q⟩,fun _ _ _ n _=>n,fun b ob q _=>⟨ob,k b ob q⟩,fun _ _ q=>q,fun _ _ _ q=>q,fun _ _ q=>q⟩
theorem Un.refl:Un fs ex H H h h:=Un.kept fun _ _ q=>q
theorem Un.laid (k:∀ b u,h.get? b=some u->h'.get? b=some u) (hp:h.objs.size<=a) (hn:H a=none):Un fs ex H (upd H a o) h h' where
 keep:=fun b u q _ _ _=>k b u q
 slot:=fun b u q _ _ _=>⟨u.slots,k b u q⟩
 free:=fun b u q n _=>by rw [qA8 (C7 (D9 (B1 q) hp))];exact n
 there:=fun b u q _=>⟨u,k b u q⟩
 tups:=fun b xs q=>by rw [qA8 (qA5 q hn)];exact q
 frzs:=fun b u xs q=>by rw [qA8 (qA5 q hn)];exact q
 tbls:=fun b ps q=>by rw [qA8 (qA5 q hn)];exact q
theorem Un.write (mu:Mut (H x)) (he:e=x\/H e=some (.own x)) (k:∀ b u,b ≠ e->h.get? b=some u->h'.get? b=some u) (heo:∃ u,h'.get? e=some u):Un fs ex H (upd H x o) h h':=by
 have hx:∀ b,H b=none->b ≠ x:=fun b n z=>by subst z;rw [n] at mu;exact mu
 have hb:∀ b,H b=none->b ≠ e:=fun b n z=>by
  subst z;rcases he with r | r
  ·exact hx b n r
  ·rw [n] at r;cases r
 have hm:∀ b u,H b=some u->¬ Mut (some u)->b ≠ x:=fun b u q nm z=>by subst z;rw [q] at mu;exact nm mu
 refine ⟨fun b u q n _ _=>k b u (hb b n) q,fun b u q n _ _=>⟨u.slots,k b u (hb b n) q⟩,fun b u q n _=>by rw [qA8 (hx b n)];exact n,fun b u q _=>?_,
  fun b xs q=>by rw [qA8 (hm b _ q fun z=>z)];exact q,fun b u xs q=>by rw [qA8 (hm b _ q fun z=>z)];exact q,fun b ps q=>by rw [qA8 (hm b _ q fun z=>z)];exact q⟩
 by_cases hbe:b=e
 ·subst hbe;exact heo
 ·exact ⟨u,k b u hbe q⟩
end
def trk (h:Heap) (H:Hp):List Addr:=(I0 h.objs.size).filter fun a=>(H a).isSome
def hidT (h:Heap) (H:Hp):Heap:=PySem.W.hideAll h (trk h H)
theorem qUR (h:Heap) (H:Hp):(hidT h H).objs.size=h.objs.size:=PySem.W.hideAll_size _ _
theorem qX7 {h:Heap} {H:Hp} {b:Addr} {o:Obj} (e:h.get? b=some o) (n:H b=none):(hidT h H).get? b=some o:=
 PySem.W.hideAll_get _ e fun hm=>by
  have q:(H b).isSome=true:=(F9.mp hm).2;rw [n] at q;simp at q
theorem qZ4 {h:Heap} {H:Hp} {b:Addr} {o:Obj} (e:(hidT h H).get? b=some o):h.get? b=some o/\H b=none:=by
 have e':h.get? b=some o:=PySem.W.of_hideAll (trk h H) e;refine ⟨e',?_⟩;cases q:H b with
 | none=>rfl
 | some x=>
  have hm:b ∈ trk h H:=F9.mpr ⟨P7.mpr (B1 e'),by simp [q]⟩
  have z:(hidT h H).get? b=none:=PySem.W.hideAll_none (trk h H) hm;rw [z] at e;cases e
def qa0 (g h:Heap) (L:Addr):List (Addr × Obj):=(I0 h.objs.size).filterMap fun a=>if a=L\/(g.get? a).isSome=true then none else (h.get? a).map fun o=>(a,o)
def rest (g h:Heap) (L d:Addr):List (Addr × Obj):=(qa0 g h L).filter fun p=>decide (p.1 ≠ d)
structure Mod (K:PySem.W.Frag) (mg:Str->Option Value) (base:Heap):Prop where
 kin:K.In base
 glob:base.Ns mainGlobals mg
 blt:∃ mb,base.Ns builtinsNs mb/\∀ x:Str,x ≠ "__name__"->mb x=bootBuiltins x
 nolimit:base.NoLimit
structure Cx where
 prog:Program
 w:World
 K:PySem.W.Frag
 mg:Str->Option Value
 base:Heap
 A:Around
 N:List Str
 s₀:Shared
 H₀:Hp
 env:Env
 outer:List Env
 stack:List Env
 ex:List Addr
 fn:Str->Bool
 calm:Bool
 pn:List (Addr × Obj)
 xe:Value->Shared->Prop
def frs (l:List Env):List Addr:=l.filterMap (·.frame)
abbrev Cx.fs (X:Cx):List Addr:=frs X.outer
def Vis (sc:Scope) (x:Str):Prop:=sc.names.lookup x=some .local\/sc.names.lookup x=some .cell\/sc.names.lookup x=some .free
def Loc (sc:Scope) (x:Str):Prop:=sc.names.lookup x=some .local\/sc.names.lookup x=some .cell
def Look (env:Env) (h:Heap) (m:Str->Option Value) (x:Str) (u:Value):Prop:=
 (env.kindOf x=some .local/\m x=some u)\/((env.kindOf x=some .cell\/env.kindOf x=some .free)/\∃ c,env.cells.lookup x=some c/\h.IsCell c (some u))
structure Cx.Ok (X:Cx):Prop where
 mod:Mod X.K X.mg X.base
 kind:X.env.scope.kind=.function
 glob:X.env.globals=mainGlobals
 blt:X.env.builtins=builtinsNs
 above:X.s₀.heap.objs.size<=X.env.locals
 inj:∀ x y c,X.env.cells.lookup x=some c->X.env.cells.lookup y=some c->x=y
 has:∀ x,(X.env.kindOf x=some .cell\/X.env.kindOf x=some .free)->∃ c,X.env.cells.lookup x=some c
 cab:∀ x c,X.fn x=true->X.env.cells.lookup x=some c->X.s₀.heap.objs.size<=c
 hd:X.calm=true->X.A.handled=none
 frames:X.A.frames=some X.stack
 stk:X.stack=X.outer\/(X.stack=X.env::X.outer/\X.env.frame=some X.env.locals)
 exf:∀ b ∈ X.ex,b ≠ X.env.locals/\∀ x c,X.env.cells.lookup x=some c->c ≠ b
 bs:∀ b o,X.base.get? b=some o->X.s₀.heap.get? b=some o/\X.H₀ b=none
 bsz:X.base.objs.size<=X.s₀.heap.objs.size
 noex:∀ b o,X.base.get? b=some o->b ∉ X.ex
 exfs:∀ b ∈ X.ex,b ∉ X.fs
 funs:X.s₀.heap.FunFrames X.base X.outer
 frf:∀ b ∈ X.fs,X.H₀ b=none
structure Inv (X:Cx) (Ab:List (Addr × Obj)) (σ:List (Option V)) (H:Hp) (s:Shared):Prop where
 ok:X.Ok
 os:s.os=X.s₀.os
 bare:AllBare s.gens
 base:Un X.fs X.ex X.H₀ H X.s₀.heap s.heap
 loc:∃ m,s.heap.Ns X.env.locals m/\∀ (i:Nat) (x:Str) (v:V),X.N[i]?=some x->σ[i]?=some (some v)->Vis X.env.scope x->∃ u,RelV v u/\Look X.env s.heap m x u
 cell:∀ x c,X.env.cells.lookup x=some c->∃ v,s.heap.IsCell c v
 free:H X.env.locals=none
 freeC:∀ x c,X.env.cells.lookup x=some c->H c=none
 pin:∀ p ∈ X.pn++Ab,s.heap.get? p.1=some p.2/\H p.1=none/\p.1 ≠ X.env.locals/\p.1 ∉ X.fs/\∀ v,p.2.data ≠ .cell v
 hok:HOk X.prog X.w H s.heap
 len:σ.length=X.N.length
section
variable {X:Cx} {Ab:List (Addr × Obj)} {σ:List (Option V)} {H H':Hp} {s:Shared} {h':Heap}
theorem Cx.Ok.nofr (ok:X.Ok) {b:Addr} {o:Obj} (e:X.base.get? b=some o):b ∉ X.fs:=fun hb=>by
 have:=(ok.funs.mem hb).1;rw [e] at this;cases this
theorem Inv.bs (I:Inv X Ab σ H s):∀ b o,X.base.get? b=some o->s.heap.get? b=some o/\H b=none:=fun b o e=>
 ⟨I.base.keep b o (I.ok.bs b o e).1 (I.ok.bs b o e).2 (I.ok.nofr e) (I.ok.noex b o e),I.base.free b o (I.ok.bs b o e).1 (I.ok.bs b o e).2 (I.ok.noex b o e)⟩
theorem Inv.bk (I:Inv X Ab σ H s):∀ b o,X.base.get? b=some o->s.heap.get? b=some o:=fun b o e=>(I.bs b o e).1
theorem Inv.mod (I:Inv X Ab σ H s):Mod X.K X.mg X.base:=I.ok.mod
theorem Inv.kIn (I:Inv X Ab σ H s):X.K.In s.heap:=I.ok.mod.kin.keeps I.bk
theorem Inv.nolimit (I:Inv X Ab σ H s):s.heap.NoLimit:=I.ok.mod.nolimit.keeps I.bk
theorem Inv.lt (I:Inv X Ab σ H s):X.env.locals<s.heap.objs.size:=let ⟨_,hn,_⟩:=I.loc;hn.lt
theorem Inv.sz (I:Inv X Ab σ H s):X.s₀.heap.objs.size<=s.heap.objs.size:=L6 I.ok.above (R1 I.lt)
theorem Inv.nofs (I:Inv X Ab σ H s) {a:Addr} (h:s.heap.objs.size<=a):a ∉ X.fs:=fun hb=>by
 obtain ⟨_,o,ho,_⟩:=I.ok.funs.mem hb;exact absurd (D9 (B1 ho) (L6 I.sz h)) (T5 _)
theorem Inv.cne (I:Inv X Ab σ H s):∀ x c,X.env.cells.lookup x=some c->c ≠ X.env.locals:=fun x c e z=>by
 obtain ⟨v,o,ho,hd⟩:=I.cell x c e;obtain ⟨m,⟨o',es,ep,ho',hd',_⟩,_⟩:=I.loc;rw [z,ho'] at ho;cases ho;rw [hd'] at hd;cases hd
theorem Inv.funs (I:Inv X Ab σ H s):s.heap.FunFrames X.base X.outer:=by
 have all:∀ (l:List Env),(∀ b ∈ frs l,b ∈ X.fs)->X.s₀.heap.FunFrames X.base l->s.heap.FunFrames X.base l:=by
  intro l
  induction l with
  | nil=>intro _ _;trivial
  | cons env r ih=>
   intro hs hl;obtain ⟨hk,⟨L,o,hf,hn,ho,hd⟩,hr⟩:=hl;have hL:L ∈ X.fs:=hs L (by unfold frs;rw [k6,hf];exact A8)
   obtain ⟨sl,e⟩:=I.base.slot L o ho (I.ok.frf L hL) hL fun z=>I.ok.exfs L z hL;exact ⟨hk,⟨L,_,hf,hn,e,hd⟩,ih (fun b hb=>hs b (by unfold frs;rw [k6,hf];exact A5 _ hb)) hr⟩
 exact all X.outer (fun _ hb=>hb) I.ok.funs
theorem Inv.stack (I:Inv X Ab σ H s):s.heap.FunFrames X.base X.stack:=by
 rcases I.ok.stk with e | ⟨e,hf⟩
 ·rw [e];exact I.funs
 ·rw [e];obtain ⟨m,hn,_⟩:=I.loc;refine .cons (by rw [I.ok.kind];decide) hf hn ?_ I.funs
  exact Heap.get?_none_of_le (L6 I.ok.bsz I.ok.above)
theorem Inv.stkSub (I:Inv X Ab σ H s):∀ b ∈ frs X.stack,b ∈ X.env.locals::X.fs:=fun b hb=>by
 rcases I.ok.stk with e | ⟨e,hf⟩
 ·rw [e] at hb;exact A5 _ hb
 ·rw [e] at hb;unfold frs at hb;rw [k6,hf] at hb;exact hb
theorem Inv.stkFree (I:Inv X Ab σ H s):∀ b ∈ frs X.stack,H b=none:=fun b hb=>by
 rcases B5.mp (I.stkSub b hb) with e | hb
 ·rw [e];exact I.free
 ·obtain ⟨_,o,ho,_⟩:=I.ok.funs.mem hb;exact I.base.free b o ho (I.ok.frf b hb) fun z=>I.ok.exfs b z hb
theorem Inv.step {g':Array GenState} {t':Nat} {d':Drawn} {ch:List Addr} (I:Inv X Ab σ H s)
  (hch:∀ b ∈ ch,(b ∈ X.ex\/X.s₀.heap.objs.size<=b)/\b ≠ X.env.locals/\(∀ x c,X.env.cells.lookup x=some c->c ≠ b)/\∀ p ∈ X.pn++Ab,p.1 ≠ b)
  (keep:∀ b o,b ≠ X.env.locals->b ∉ X.fs->b ∉ ch->s.heap.get? b=some o->H b=none->h'.get? b=some o)
  (slot:∀ b o,b ≠ X.env.locals->b ∈ X.fs->b ∉ ch->s.heap.get? b=some o->H b=none->∃ sl,h'.get? b=some { o with slots:=sl }) (free:∀ b o,b ∉ ch->s.heap.get? b=some o->H b=none->H' b=none)
  (there:∀ b o,b ∉ ch->s.heap.get? b=some o->∃ o',h'.get? b=some o')
  (tups:∀ b xs,H b=some (.tup xs)->H' b=some (.tup xs)) (frzs:∀ b o u,H b=some (.frz o u)->H' b=some (.frz o u)) (tbls:∀ b ps,H b=some (.tbl ps)->H' b=some (.tbl ps))
  (ns:∀ m,s.heap.Ns X.env.locals m->h'.Ns X.env.locals m) (hok:HOk X.prog X.w H' h') (hg:AllBare g') :
  Inv X Ab σ H' { s with heap:=h',gens:=g',drawn:=d',toks:=t' }:=by
 have neL:∀ b o,X.s₀.heap.get? b=some o->b ≠ X.env.locals:=fun b o e=>C7 (D9 (B1 e) I.ok.above);have neC:∀ b o,X.s₀.heap.get? b=some o->b ∉ X.ex->b ∉ ch:=fun b o e hx hb=>by
  rcases (hch b hb).1 with z | z
  ·exact hx z
  ·exact absurd (D9 (B1 e) z) (T5 _)
 have cellK:∀ x c,X.env.cells.lookup x=some c->∀ v,s.heap.IsCell c v->h'.IsCell c v:=fun x c e v ⟨o,ho,hd⟩=>by
  have nch:c ∉ ch:=fun z=>(hch c z).2.2.1 x c e rfl;by_cases hc:c ∈ X.fs
  ·obtain ⟨sl,q⟩:=slot c o (I.cne x c e) hc nch ho (I.freeC x c e);exact ⟨_,q,hd⟩
  ·exact ⟨o,keep c o (I.cne x c e) hc nch ho (I.freeC x c e),hd⟩
 refine ⟨I.ok,I.os,hg,⟨fun b o e n hb hx=>?_,fun b o e n hb hx=>?_,fun b o e n hx=>?_,fun b o e hx=>?_,fun b xs e=>tups b xs (I.base.tups b xs e),fun b o xs e=>frzs b o xs (I.base.frzs b o xs e),fun b ps e=>?_⟩,?_,fun x c e=>?_,?_,fun x c e=>?_,fun p hp=>?_,hok,I.len⟩
 ·exact keep b o (neL b o e) hb (neC b o e hx) (I.base.keep b o e n hb hx) (I.base.free b o e n hx)
 ·obtain ⟨sl,e1⟩:=I.base.slot b o e n hb hx;obtain ⟨sl',e2⟩:=slot b _ (neL b o e) hb (neC b o e hx) e1 (I.base.free b o e n hx);exact ⟨sl',e2⟩
 ·obtain ⟨o',e1⟩:=I.base.there b o e hx;exact free b o' (neC b o e hx) e1 (I.base.free b o e n hx)
 ·obtain ⟨o',e1⟩:=I.base.there b o e hx;exact there b o' (neC b o e hx) e1
 ·exact tbls b ps (I.base.tbls b ps e)
 ·obtain ⟨m,hn,hl⟩:=I.loc;refine ⟨m,ns m hn,fun i x v e1 e2 e3=>?_⟩;obtain ⟨u,r,l⟩:=hl i x v e1 e2 e3;refine ⟨u,r,?_⟩;rcases l with l | ⟨k,c,e,z⟩
  ·exact .inl l
  ·exact .inr ⟨k,c,e,cellK x c e _ z⟩
 ·obtain ⟨v,z⟩:=I.cell x c e;exact ⟨v,cellK x c e v z⟩
 ·obtain ⟨m,⟨o,_,_,ho,_⟩,_⟩:=I.loc;exact free _ o (fun z=>(hch _ z).2.1 rfl) ho I.free
 ·obtain ⟨v,o,ho,hd⟩:=I.cell x c e;exact free c o (fun z=>(hch c z).2.2.1 x c e rfl) ho (I.freeC x c e)
 ·obtain ⟨e,n,ne,nf,d⟩:=I.pin p hp;have nch:p.1 ∉ ch:=fun z=>(hch p.1 z).2.2.2 p hp rfl;exact ⟨keep p.1 p.2 ne nf nch e n,free p.1 p.2 nch e n,ne,nf,d⟩
theorem Inv.un {t':Nat} (I:Inv X Ab σ H s) (u:Un X.fs [] H H' s.heap h') (hok:HOk X.prog X.w H' h'):Inv X Ab σ H' { s with heap:=h',toks:=t' }:=by
 obtain ⟨m,⟨o,es,ep,ho,r⟩,_⟩:=id I.loc;obtain ⟨sl,hL⟩:=u.any ho I.free (by simp)
 exact I.step (g':=s.gens) (d':=s.drawn) (ch:=[]) (fun _ z=>nomatch z) (fun b o _ hb _ e n=>u.keep b o e n hb (by simp)) (fun b o _ hb _ e n=>u.slot b o e n hb (by simp)) (fun b o _ e n=>u.free b o e n (by simp)) (fun b o _ e=>u.there b o e (by simp)) u.tups u.frzs u.tbls (fun m' hm=>by
  obtain ⟨o',es',ep',ho',r'⟩:=hm;rw [ho] at ho';cases ho';exact ⟨_,es',ep',hL,r'⟩) hok I.bare
theorem Inv.call {g':Array GenState} {t':Nat} {d':Drawn} {ch:List Addr} (I:Inv X Ab σ H s) (u:Un (frs X.stack) ch H H' s.heap h') (hok:HOk X.prog X.w H' h') (hg:AllBare g')
  (hch:∀ b ∈ ch,(b ∈ X.ex\/X.s₀.heap.objs.size<=b)/\b ≠ X.env.locals/\(∀ x c,X.env.cells.lookup x=some c->c ≠ b)/\∀ p ∈ X.pn++Ab,p.1 ≠ b) :
  Inv X Ab σ H' { s with heap:=h',gens:=g',drawn:=d',toks:=t' }:=by
 obtain ⟨m,⟨o,es,ep,ho,r⟩,_⟩:=id I.loc;obtain ⟨sl,hL⟩:=u.any ho I.free fun z=>(hch _ z).2.1 rfl;exact I.step (ch:=ch) hch (fun b o hL hb hc e n=>u.keep b o e n (fun z=>(B5.mp (I.stkSub b z)).elim hL hb) hc) (fun b o _ _ hc e n=>u.any e n hc) (fun b o hc e n=>u.free b o e n hc) (fun b o hc e=>u.there b o e hc) u.tups u.frzs u.tbls (fun m' hm=>by
  obtain ⟨o',es',ep',ho',r'⟩:=hm;rw [ho] at ho';cases ho';exact ⟨_,es',ep',hL,r'⟩) hok hg
theorem Inv.turned {t':Nat} {it:Addr} (I:Inv X Ab σ H s) (k:∀ b o,b ≠ it->s.heap.get? b=some o->h'.get? b=some o) (hn:H it=none) (hL:it ≠ X.env.locals)
  (h1:it ∈ X.ex\/X.s₀.heap.objs.size<=it) (h2:∀ x c,X.env.cells.lookup x=some c->c ≠ it) (h3:∀ p ∈ X.pn++Ab,p.1 ≠ it):Inv X Ab σ H { s with heap:=h',toks:=t' }:=by
 have nit:∀ b u,H b=some u->b ≠ it:=fun b u e z=>by rw [z,hn] at e;cases e
 refine I.step (g':=s.gens) (d':=s.drawn) (ch:=[it]) (fun b hb=>?_) (fun b o _ _ hc e _=>k b o (fun z=>hc (by simp [z])) e) (fun b o _ _ hc e _=>⟨o.slots,k b o (fun z=>hc (by simp [z])) e⟩) (fun _ _ _ _ n=>n)
  (fun b o hc e=>⟨o,k b o (fun z=>hc (by simp [z])) e⟩) (fun _ _ e=>e) (fun _ _ _ e=>e) (fun _ _ e=>e) (fun m hm=>?_) (fun b u e=>?_) I.bare
 ·have e:b=it:=by simpa using hb
  subst e;exact ⟨h1,hL,h2,h3⟩
 ·obtain ⟨o,es,ep,ho,r⟩:=hm;exact ⟨o,es,ep,k _ o (G6 hL) ho,r⟩
 ·refine (I.hok b u e).stay (fun c v hc q=>k c v ?_ q) (fun _ q=>q) fun _ _ q=>q;rcases hc with z | z
  ·rw [z];exact nit b u e
  ·exact nit c _ z
theorem Inv.tok (I:Inv X Ab σ H s) (t:Nat):Inv X Ab σ H { s with toks:=t }:=I.un (h':=s.heap) (t':=t) Un.refl I.hok
theorem Inv.kept {t':Nat} (I:Inv X Ab σ H s) (k:∀ b u,s.heap.get? b=some u->h'.get? b=some u):Inv X Ab σ H { s with heap:=h',toks:=t' }:=I.un (Un.kept k) (I.hok.kept k)
theorem Inv.laid {a:Addr} {o:HO} {t':Nat} (I:Inv X Ab σ H s) (k:∀ b u,s.heap.get? b=some u->h'.get? b=some u) (hp:s.heap.objs.size<=a) (new:ObjOk X.prog X.w (upd H a o) h' a o) :
  Inv X Ab σ (upd H a o) { s with heap:=h',toks:=t' }:=I.un (Un.laid k hp (I.hok.fresh hp)) (I.hok.laid k hp new)
theorem Inv.write {x e:Addr} {o:HO} {t':Nat} (I:Inv X Ab σ H s) (mu:Mut (H x)) (he:e=x\/H e=some (.own x)) (k:∀ b u,b ≠ e->s.heap.get? b=some u->h'.get? b=some u) (heo:∃ u,h'.get? e=some u)
  (new:ObjOk X.prog X.w (upd H x o) h' x o):Inv X Ab σ (upd H x o) { s with heap:=h',toks:=t' }:=I.un (Un.write mu he k heo) (I.hok.write mu he k heo new)
theorem Inv.pins_of {pins':List (Addr × Obj)} (I:Inv X Ab σ H s) (h:∀ p ∈ pins',s.heap.get? p.1=some p.2/\H p.1=none/\p.1 ≠ X.env.locals/\p.1 ∉ X.fs/\∀ v,p.2.data ≠ .cell v):Inv X pins' σ H s:=
 ⟨I.ok,I.os,I.bare,I.base,I.loc,I.cell,I.free,I.freeC,fun p hp=>(E1.mp hp).elim (fun z=>I.pin p (Q5 _ z)) (h p),I.hok,I.len⟩
theorem qR2 {N:List Str} (hN:N.Nodup) {i j:Nat} {x:Str} (a:N[i]?=some x) (b:N[j]?=some x):i=j:=by
 obtain ⟨h1,e1⟩:=A3.mp a;obtain ⟨h2,e2⟩:=A3.mp b;exact (List.getElem_inj hN).mp (e1.trans e2.symm)
theorem qN2 {M:Model} {A:Around} {E:Value->Shared->Prop} {i:Nat} {x:Str} {v:V} {u:Value} {Q:Unit->Shared->Prop} (I:Inv X Ab σ H s) (hN:X.N.Nodup) (hi:X.N[i]?=some x) (hx:Loc X.env.scope x) (r:RelV v u)
  (h:∀ s',Inv X Ab (σ.set i (some v)) H s'->(∃ a,Heap.SameBut a s.heap s'.heap/\(a=X.env.locals\/X.env.cells.lookup x=some a))->Q () s') (hf:X.fn x=true\/X.env.scope.names.lookup x=some .local:=by first | exact .inl rfl | exact .inr rfl | assumption):wpAny M A (storeName X.env x u) Q E s:=by
 obtain ⟨m,hn,hl⟩:=id I.loc;have hcls:(X.env.scope.kind == .class || (X.env.scope.kind == .module && X.env.locals != X.env.globals))=false:=by rw [I.ok.kind];rfl
 have hiσ:i<σ.length:=by rw [I.len];exact (A3.mp hi).1
 have cne:=I.cne;have tracked:∀ {a:Addr} {h':Heap},(∃ o,s.heap.get? a=some o/\H a=none)->Heap.SameBut a s.heap h'->HOk X.prog X.w H h':=fun {a h'} ha hs b ob e=>by
  obtain ⟨_,_,hfree⟩:=ha;refine (I.hok b ob e).stay (fun c w' hc q=>(hs.2 c ?_).trans q) (fun _ q=>q) fun _ _ q=>q;rintro rfl;rcases hc with rfl | hc
  ·rw [hfree] at e;cases e
  ·rw [hfree] at hc;cases hc
 rcases hx with hk | hk
 ·refine wpAny_storeName_local hk hn (fun h' hn' hs=>?_) hcls;obtain ⟨oL,_,_,hoL,_⟩:=id hn;refine h _ ⟨I.ok,I.os,I.bare,⟨fun b o e n hb hx=>?_,fun b o e n hb hx=>?_,I.base.free,fun b o e hx=>?_,I.base.tups,I.base.frzs,I.base.tbls⟩,⟨_,hn',fun j y v' e1 e2 e3=>?_⟩,fun y c e=>?_,I.free,I.freeC,fun p hp=>?_,tracked ⟨oL,hoL,I.free⟩ hs,by simpa using I.len⟩ ⟨_,hs,.inl rfl⟩
  ·exact (hs.2 b (C7 (D9 (B1 e) I.ok.above))).trans (I.base.keep b o e n hb hx)
  ·obtain ⟨sl,e1⟩:=I.base.slot b o e n hb hx;exact ⟨sl,(hs.2 b (C7 (D9 (B1 e) I.ok.above))).trans e1⟩
  ·obtain ⟨o',e1⟩:=I.base.there b o e hx;exact ⟨o',(hs.2 b (C7 (D9 (B1 e) I.ok.above))).trans e1⟩
  ·by_cases hj:j=i
   ·subst hj;rw [hi] at e1;cases e1;rw [X3 hiσ] at e2;cases e2;exact ⟨u,r,.inl ⟨hk,by simp⟩⟩
   ·rw [Y9 (G6 hj)] at e2;obtain ⟨u',r',q⟩:=hl j y v' e1 e2 e3;refine ⟨u',r',?_⟩;rcases q with ⟨k,e⟩ | ⟨k,c,e,z⟩
    ·refine .inl ⟨k,?_⟩;have:y ≠ x:=fun e=>hj (qR2 hN e1 (e ▸ hi));simp [this,e]
    ·exact .inr ⟨k,c,e,z.sameBut hs (cne y c e)⟩
  ·obtain ⟨w',z⟩:=I.cell y c e;exact ⟨w',z.sameBut hs (cne y c e)⟩
  ·obtain ⟨e,n,ne,nf,d⟩:=I.pin p hp;exact ⟨(hs.2 p.1 ne).trans e,n,ne,nf,d⟩
 ·have hfn:X.fn x=true:=by
   rcases hf with z | z
   ·exact z
   ·rw [z] at hk;cases hk
  obtain ⟨c,hc⟩:=I.ok.has x (.inl hk);obtain ⟨w',z⟩:=I.cell x c hc;refine wpAny_storeName_cell I.ok.kind hk hc z (fun h' hc' hs=>?_);obtain ⟨oc,hoc,hocd⟩:=id z;refine h { s with heap:=h' } ⟨I.ok,I.os,I.bare,⟨fun b o e n hb hx=>?_,fun b o e n hb hx=>?_,I.base.free,fun b o e hx=>?_,I.base.tups,I.base.frzs,I.base.tbls⟩,⟨m,hn.sameBut hs (G6 (cne x c hc)),fun j y v' e1 e2 e3=>?_⟩,fun y c' e=>?_,I.free,I.freeC,fun p hp=>?_,tracked ⟨oc,hoc,I.freeC x c hc⟩ hs,by simpa using I.len⟩ ⟨c,hs,.inr hc⟩
  ·exact (hs.2 b (C7 (D9 (B1 e) (I.ok.cab x c hfn hc)))).trans (I.base.keep b o e n hb hx)
  ·obtain ⟨sl,e1⟩:=I.base.slot b o e n hb hx;exact ⟨sl,(hs.2 b (C7 (D9 (B1 e) (I.ok.cab x c hfn hc)))).trans e1⟩
  ·obtain ⟨o',e1⟩:=I.base.there b o e hx;exact ⟨o',(hs.2 b (C7 (D9 (B1 e) (I.ok.cab x c hfn hc)))).trans e1⟩
  ·by_cases hj:j=i
   ·subst hj;rw [hi] at e1;cases e1;rw [X3 hiσ] at e2;cases e2;exact ⟨u,r,.inr ⟨.inl hk,c,hc,hc'⟩⟩
   ·rw [Y9 (G6 hj)] at e2;obtain ⟨u',r',q⟩:=hl j y v' e1 e2 e3;refine ⟨u',r',?_⟩;rcases q with q | ⟨k,c',e,z'⟩
    ·exact .inl q
    ·refine .inr ⟨k,c',e,z'.sameBut hs ?_⟩;rintro rfl;exact hj (qR2 hN e1 (I.ok.inj _ _ _ e hc ▸ hi))
  ·by_cases hcc:c'=c
   ·subst hcc;exact ⟨_,hc'⟩
   ·obtain ⟨w2,z2⟩:=I.cell y c' e;exact ⟨w2,z2.sameBut hs hcc⟩
  ·obtain ⟨e,n,ne,nf,d⟩:=I.pin p hp;refine ⟨(hs.2 p.1 ?_).trans e,n,ne,nf,d⟩;intro q;rw [q,hoc] at e;have q':oc=p.2:=D5 e;exact d w' (by rw [<- q'];exact hocd)
theorem qLJ {M:Model} {A:Around} {E:Value->Shared->Prop} {i:Nat} {x:Str} {v:V} {u:Value} {Q:Unit->Shared->Prop} (I:Inv X Ab σ H s) (hN:X.N.Nodup) (hi:X.N[i]?=some x) (hx:Loc X.env.scope x) (r:RelV v u)
  (h:∀ s',Inv X Ab (σ.set i (some v)) H s'->Q () s') (hf:X.fn x=true\/X.env.scope.names.lookup x=some .local:=by first | exact .inl rfl | exact .inr rfl | assumption):wpAny M A (storeName X.env x u) Q E s:=
 qN2 I hN hi hx r (fun s' I' _=>h s' I') hf
theorem Inv.call' {s':Shared} {ch:List Addr} (I:Inv X Ab σ H s) (ho:s'.os=s.os) (u:Un (frs X.stack) ch H H' s.heap s'.heap) (hok:HOk X.prog X.w H' s'.heap) (hg:AllBare s'.gens)
  (hch:∀ b ∈ ch,(b ∈ X.ex\/X.s₀.heap.objs.size<=b)/\b ≠ X.env.locals/\(∀ x c,X.env.cells.lookup x=some c->c ≠ b)/\∀ p ∈ X.pn++Ab,p.1 ≠ b):Inv X Ab σ H' s':=by
 obtain ⟨h',g',d',t',o'⟩:=s';have e:o'=s.os:=ho;subst e;exact I.call (g':=g') (t':=t') (d':=d') u hok hg hch
end
abbrev XK:=Value->Option Addr->Hp->Prop
abbrev St:=List (Option V)
abbrev VK:=V->Hp->Prop
abbrev TE:=St->Hp->VK->Prop
abbrev TT:=St->Hp->(Bool->Hp->Prop)->Prop
abbrev TA:=St->Hp->(List V->Hp->Prop)->Prop
structure Ends where
 nx:St->Hp->Prop
 rt:VK
 bk:St->Hp->Prop:=fun _ _=>False
 ct:St->Hp->Prop:=fun _ _=>False
abbrev TS:=Ends->St->Hp->Prop
def EP (X:Cx) (Ab:List (Addr × Obj)) (σ:St) (Q:VK) (u:Value) (s':Shared):Prop:=∃ v H',Inv X Ab σ H' s'/\RelV v u/\Q v H'
def TP (X:Cx) (Ab:List (Addr × Obj)) (σ:St) (Q:Bool->Hp->Prop) (b:Bool) (s':Shared):Prop:=∃ H',Inv X Ab σ H' s'/\Q b H'
def AP (X:Cx) (Ab:List (Addr × Obj)) (σ:St) (Q:List V->Hp->Prop) (us:List Value) (s':Shared):Prop:=∃ vs H',Inv X Ab σ H' s'/\Vals vs us/\Q vs H'
def SP (X:Cx) (Ab:List (Addr × Obj)) (D:Ends) (f:Flow) (s':Shared):Prop:=
 match f with
 | .next=>∃ σ' H',Inv X Ab σ' H' s'/\D.nx σ' H'
 | .brk=>∃ σ' H',Inv X Ab σ' H' s'/\D.bk σ' H'
 | .cont=>∃ σ' H',Inv X Ab σ' H' s'/\D.ct σ' H'
 | .ret u=>∃ v σ' H',Inv X Ab σ' H' s'/\RelV v u/\D.rt v H'
def PE (X:Cx) (e:Expr) (t:TE):Prop:=
 ∀ (Ab:List (Addr × Obj)) (s:Shared) (σ:St) (H:Hp) (Q:VK),Inv X Ab σ H s->t σ H Q->wpAny (model X.prog X.w) X.A (eval e X.env) (EP X Ab σ Q) X.xe s
def PT (X:Cx) (e:Expr) (t:TT):Prop:=
 ∀ (Ab:List (Addr × Obj)) (s:Shared) (σ:St) (H:Hp) (Q:Bool->Hp->Prop),Inv X Ab σ H s->t σ H Q->wpAny (model X.prog X.w) X.A (isTrue e X.env (eval e X.env)) (TP X Ab σ Q) X.xe s
def PW (X:Cx) (e:Expr) (t:TT):Prop:=
 ∀ (whole:Sem Value) (Ab:List (Addr × Obj)) (s:Shared) (σ:St) (H:Hp) (Q:Bool->Hp->Prop),Inv X Ab σ H s->t σ H Q->wpAny (model X.prog X.w) X.A (isTrue e X.env whole) (TP X Ab σ Q) X.xe s
theorem PW.pt {X:Cx} {e:Expr} {t:TT} (h:PW X e t):PT X e t:=h _
def PA (X:Cx) (es:List Expr) (t:TA):Prop:=
 ∀ (pos:Pos) (Ab:List (Addr × Obj)) (s:Shared) (σ:St) (H:Hp) (Q:List V->Hp->Prop),Inv X Ab σ H s->t σ H Q->wpAny (model X.prog X.w) X.A (spliced (backTo pos (starEach es X.env))) (AP X Ab σ Q) X.xe s
def PS (X:Cx) (st:Stmt) (t:TS):Prop:=
 ∀ (Ab:List (Addr × Obj)) (s:Shared) (σ:St) (H:Hp) (D:Ends),Inv X Ab σ H s->t D σ H->wpAny (model X.prog X.w) X.A (exec st X.env) (SP X Ab D) X.xe s
def PSs (X:Cx) (st:List Stmt) (t:TS):Prop:=
 ∀ (Ab:List (Addr × Obj)) (s:Shared) (σ:St) (H:Hp) (D:Ends),Inv X Ab σ H s->t D σ H->wpAny (model X.prog X.w) X.A (execs st X.env) (SP X Ab D) X.xe s
theorem thn {α:Type} {t:Sem α} {Q Q':α->Shared->Prop} {M:Model} {A:Around} {E:Value->Shared->Prop} {s:Shared} (h:wpAny M A t Q E s) (hQ:∀ a s,Q a s->Q' a s):wpAny M A t Q' E s:=wpAny_mono h hQ fun _ _ x=>x
section
variable {X:Cx}
theorem bin {a b:Expr} {ta tb:TE} (ha:PE X a ta) (hb:PE X b tb) {Ab:List (Addr × Obj)} {s:Shared} {σ:St} {H:Hp} {R:V->V->Hp->Prop} (I:Inv X Ab σ H s) (h:ta σ H fun x H1=>tb σ H1 fun y H2=>R x y H2)
  {α:Type} {Q:α->Shared->Prop} {f:Value->Value->Sem α}
  (hf:∀ v u s2 x y H2,Inv X Ab σ H2 s2->RelV x v->RelV y u->R x y H2->wpAny (model X.prog X.w) X.A (f v u) Q X.xe s2) :
  wpAny (model X.prog X.w) X.A (eval a X.env) (fun v s₁=>wpAny (model X.prog X.w) X.A (eval b X.env) (fun u s₂=>wpAny (model X.prog X.w) X.A (f v u) Q X.xe s₂) X.xe s₁) X.xe s:=by
 refine thn (ha Ab s σ H _ I h) fun v s1 ⟨x,H1,I1,r1,q1⟩=>?_;refine thn (hb Ab s1 σ H1 _ I1 q1) fun u s2 ⟨y,H2,I2,r2,q2⟩=>?_;exact hf v u s2 x y H2 I2 r1 r2 q2
def tVar (i:Nat):TE:=fun σ H Q=>∃ v,σ[i]?=some (some v)/\Q v H
def tC (v:V):TE:=fun _ H Q=>Q v H
theorem qaY {i:Nat} {x:Str} {pos:Pos} (hN:X.N[i]?=some x) (hv:Vis X.env.scope x) (hd:(x == ("__debug__" : Str))=false:=by decide) (hcd:(x == ("__classdict__" : Str))=false:=by decide):PE X (.Name x pos) (tVar i):=by
 intro Ab s σ H Q I h;obtain ⟨v,e,h⟩:=h;obtain ⟨m,hn,hl⟩:=I.loc;obtain ⟨u,r,l⟩:=hl i x v hN e hv;have fin:EP X Ab σ Q u s:=⟨v,H,I,r,h⟩;rcases l with ⟨hk,hm⟩ | ⟨hk,c,hc,hcell⟩
 ·exact wpAny_Name (wpAny_loadName_local I.ok.kind hk hn hm fin) hd
 ·rcases hk with hk | hk
  ·exact wpAny_Name (wpAny_loadName_cell I.ok.kind hk hc hcell fin) hd
  ·exact wpAny_Name (wpAny_loadName_free I.ok.kind hk hc hcell fin hcd) hd
theorem qA7 {i j pos}:PE X (.Constant (.int i) j pos) (tC (.int i)):=fun _ _ _ H _ I h=>wpAny_Constant_int ⟨.int i,H,I.tok _,⟨_,rfl⟩,h⟩
theorem qEB {b j pos}:PE X (.Constant (.bool b) j pos) (tC (.bl b)):=fun _ _ _ H _ I h=>Constant_bool ⟨.bl b,H,I,rfl,h⟩
theorem qJL {x j pos}:PE X (.Constant (.str x) j pos) (tC (.str x)):=fun _ _ _ H _ I h=>Calls.Constant_str ⟨.str x,H,I.tok _,⟨_,rfl⟩,h⟩
def Gl (X:Cx) (x:Str):Prop:=X.env.kindOf x=some .globalImplicit
theorem qZF {E:Value->Shared->Prop} {Ab:List (Addr × Obj)} {s:Shared} {σ:St} {H:Hp} {x:Str} {u:Value} {pos:Pos} {Q:Value->Shared->Prop} (I:Inv X Ab σ H s) (hg:Gl X x) (hm:X.mg x=some u) (h:Q u s)
  (hd:(x == ("__debug__" : Str))=false:=by decide):wpAny (model X.prog X.w) X.A (eval (.Name x pos) X.env) Q E s:=
 Calls.Name_function_global I.ok.kind hg (Calls.loadGlobal_global (by rw [I.ok.glob];exact I.mod.glob.keeps I.bk) hm h) hd
theorem qFB {E:Value->Shared->Prop} {Ab:List (Addr × Obj)} {s:Shared} {σ:St} {H:Hp} {x:Str} {u:Value} {pos:Pos} {Q:Value->Shared->Prop} (I:Inv X Ab σ H s) (hg:Gl X x) (hm:X.mg x=none) (hv:bootBuiltins x=some u) (h:Q u s)
  (hn:x ≠ "__name__":=by decide) (hd:(x == ("__debug__" : Str))=false:=by decide):wpAny (model X.prog X.w) X.A (eval (.Name x pos) X.env) Q E s:=by
 obtain ⟨mb,h1,h2⟩:=I.mod.blt;exact Calls.Name_function_global I.ok.kind hg (Calls.loadGlobal_builtin (by rw [I.ok.glob];exact I.mod.glob.keeps I.bk) hm (by rw [I.ok.blt];exact h1.keeps I.bk) ((h2 x hn).trans hv) h) hd
theorem qCT {x:Str} {v:V} {u:Value} {pos:Pos} (hg:Gl X x) (hm:X.mg x=none) (hv:bootBuiltins x=some u) (r:RelV v u) (hn:x ≠ "__name__":=by decide) (hd:(x == ("__debug__" : Str))=false:=by decide):PE X (.Name x pos) (tC v):=
 fun _ _ _ H _ I h=>qFB I hg hm hv ⟨v,H,I,r,h⟩ hn hd
variable {a b:Expr} {ta tb:TE} {pos:Pos}
def PC (X:Cx) (op:CmpOp) (a b:Expr) (t:TE):Prop:=
 ∀ (Ab:List (Addr × Obj)) (s:Shared) (σ:St) (H:Hp) (Q:VK),Inv X Ab σ H s->t σ H Q->
  wpAny (model X.prog X.w) X.A (eval a X.env) (fun v s₁=>wpAny (model X.prog X.w) X.A (eval b X.env) (fun u s₂=>wpAny (model X.prog X.w) X.A (compareOp op v u) (EP X Ab σ Q) X.xe s₂) X.xe s₁) X.xe s
theorem qR3 (b:Expr) {op:CmpOp} (h:op ≠ .In) (h2:op ≠ .NotIn):behindInMarks op b=false:=by
 have e1:(op == CmpOp.In)=false:=by cases op <;> first | rfl | exact absurd rfl h
 have e2:(op == CmpOp.NotIn)=false:=by cases op <;> first | rfl | exact absurd rfl h2
 cases b <;> simp [behindInMarks,e1,e2]
def tIsN (ta:TE):TE:=fun σ H Q=>ta σ H fun x H1=>Q (.bl (decide (x=.non))) H1
theorem RelV.none_iff {x:V} {v:Value} (r:RelV x v):(v == U0)=decide (x=.non):=by
 cases x with
 | non=>cases r;rfl
 | bl _=>cases r;rfl
 | int _=>obtain ⟨t,rfl⟩:=r;rfl
 | str _=>obtain ⟨t,rfl⟩:=r;rfl
 | byt _=>obtain ⟨t,rfl⟩:=r;rfl
 | flt _=>obtain ⟨t,rfl⟩:=r;rfl
 | ref _=>cases r;rfl
 | ty _=>cases r;rfl
theorem qXY {j pos'} (ha:PE X a ta):PC X .Is a (.Constant .none j pos') (tIsN ta):=by
 intro Ab s σ H Q I h;refine thn (ha Ab s σ H _ I h) fun v s1 ⟨x,H1,I1,r1,q1⟩=>?_;exact Constant_none (is_none_gen ⟨.bl _,H1,I1,by rw [r1.none_iff];rfl,q1⟩)
def tB (t:TE):TT:=fun σ H Q=>t σ H fun x H1=>∃ c,x=.bl c/\Q c H1
theorem qTP {op:CmpOp} {t:TE} (h:PC X op a b t) (h1:behindInMarks op b=false:=by first | exact qR3 _ (by decide) (by decide) | rfl):PE X (.Compare a [op] [b] pos) t:=fun Ab s σ H Q I hw=>wpAny_Compare1 (h Ab s σ H Q I hw) h1
theorem qQU {op:CmpOp} {t:TE} (h:PC X op a b t) (h1:behindInMarks op b=false:=by first | exact qR3 _ (by decide) (by decide) | rfl):PT X (.Compare a [op] [b] pos) (tB t):=by
 intro Ab s σ H Q I hw;refine wpAny_isTrue_Compare1 (thn (h Ab s σ H _ I hw) fun v s1 h1=>thn h1 fun u s2 h2=>thn h2 fun c s3 ⟨x,H1,I1,r1,q1⟩=>?_) h1;obtain ⟨d,rfl,q⟩:=q1;cases r1;exact wpAny_truthy_bool ⟨H1,I1,q⟩
theorem qDN {e:Expr} {t:TE} (h:PE X e t) (he:∀ whole,isTrue e X.env whole=(do let v <- whole;standAt e.pos;holding [v] (truthy v)):=by intro _;rfl):PT X e (tB t):=by
 intro Ab s σ H Q I hw;refine isTrue_plain (thn (h Ab s σ H _ I hw) fun v s1 ⟨x,H1,I1,r1,q1⟩=>?_) (he _);obtain ⟨d,rfl,q⟩:=q1;cases r1;exact wpAny_truthy_bool ⟨H1,I1,q⟩
variable {tA tB':TT} {rest:List Expr}
def tAnd (t u:TT):TT:=fun σ H Q=>t σ H fun c H1=>if c=true then u σ H1 Q else Q false H1
def tOr (t u:TT):TT:=fun σ H Q=>t σ H fun c H1=>if c=true then Q true H1 else u σ H1 Q
def tNot (t:TT):TT:=fun σ H Q=>t σ H fun c H1=>Q (!c) H1
theorem qPD (ha:PT X a tA):PW X (.BoolOp .And [a] pos) tA:=by
 intro wh Ab s σ H Q I h;refine isTrue_and (thn (ha Ab s σ H Q I h) fun c s1 e=>?_);cases c with
 | true=>exact isTrue_and_nil e
 | false=>exact e
theorem qGS (ha:PT X a tA):PW X (.BoolOp .Or [a] pos) tA:=by
 intro wh Ab s σ H Q I h;refine isTrue_or (thn (ha Ab s σ H Q I h) fun c s1 e=>?_);cases c with
 | false=>exact isTrue_or_nil e
 | true=>exact e
theorem qTC (ha:PT X a tA) (hb:PW X (.BoolOp .And (b::rest) pos) tB'):PW X (.BoolOp .And (a::b::rest) pos) (tAnd tA tB'):=by
 intro wh Ab s σ H Q I h;refine isTrue_and (thn (ha Ab s σ H _ I h) fun c s1 ⟨H1,I1,q1⟩=>?_);cases c with
 | true=>exact hb wh Ab s1 σ H1 Q I1 q1
 | false=>exact ⟨H1,I1,q1⟩
theorem qLT (ha:PT X a tA) (hb:PW X (.BoolOp .Or (b::rest) pos) tB'):PW X (.BoolOp .Or (a::b::rest) pos) (tOr tA tB'):=by
 intro wh Ab s σ H Q I h;refine isTrue_or (thn (ha Ab s σ H _ I h) fun c s1 ⟨H1,I1,q1⟩=>?_);cases c with
 | true=>exact ⟨H1,I1,q1⟩
 | false=>exact hb wh Ab s1 σ H1 Q I1 q1
theorem qI0 (ha:PT X a tA):PT X (.UnaryOp .Not a pos) (tNot tA):=by
 intro Ab s σ H Q I h;exact isTrue_not (ha Ab s σ H (fun c H1=>Q (!c) H1) I h)
def qc8 (ta tb:TE):TE:=fun σ H Q=>ta σ H fun x H1=>∃ c,x=.bl c/\if c=true then tb σ H1 Q else Q (.bl false) H1
def qc1 (ta:TE):TE:=fun σ H Q=>ta σ H fun x H1=>∃ c,x=.bl c/\Q (.bl (!c)) H1
theorem qXW {op} {t:TE} (h:PE X a t):PE X (.BoolOp op [a] pos) t:=fun Ab s σ H Q I hw=>BoolOp_one (h Ab s σ H Q I hw)
theorem qTS (ha:PE X a ta) (hb:PE X (.BoolOp .And (b::rest) pos) tb):PE X (.BoolOp .And (a::b::rest) pos) (qc8 ta tb):=by
 intro Ab s σ H Q I h;refine BoolOp_and (thn (ha Ab s σ H _ I h) fun v s1 ⟨x,H1,I1,r1,q1⟩=>?_);obtain ⟨c,rfl,q1⟩:=q1;cases r1;refine wpAny_truthy_bool ?_;cases c with
 | true=>exact hb Ab s1 σ H1 Q I1 q1
 | false=>exact ⟨.bl false,H1,I1,rfl,q1⟩
theorem qaZ (ha:PE X a ta):PE X (.UnaryOp .Not a pos) (qc1 ta):=by
 intro Ab s σ H Q I h;refine UnaryOp_ (thn (ha Ab s σ H _ I h) fun v s1 ⟨x,H1,I1,r1,q1⟩=>?_);obtain ⟨c,rfl,q1⟩:=q1;cases r1;exact not_of (wpAny_truthy_bool ⟨.bl (!c),H1,I1,rfl,q1⟩)
def tIf (t:TT) (ta tb:TE):TE:=fun σ H Q=>t σ H fun c H1=>if c=true then ta σ H1 Q else tb σ H1 Q
theorem qQW {c:Expr} (hc:PT X c tA) (ha:PE X a ta) (hb:PE X b tb):PE X (.IfExp c a b pos) (tIf tA ta tb):=by
 intro Ab s σ H Q I h;refine wpAny_IfExp (thn (hc Ab s σ H _ I h) fun d s1 ⟨H1,I1,q1⟩=>?_);cases d with
 | true=>exact ha Ab s1 σ H1 Q I1 q1
 | false=>exact hb Ab s1 σ H1 Q I1 q1
end
def SqL (K:PySem.W.Frag) (H:Hp) (a:Addr) (xs:List V):Prop:=
 Rd H a (.lst xs)\/
  ∃ (o:Obj) (its:Array Value) (n:Nat),K.lookup a=some o/\o.cls=.type "list"/\o.dict=none/\o.data=.seq its n/\its.size<=sizeLine/\Vals xs its.toList
def SqT (K:PySem.W.Frag) (H:Hp) (a:Addr) (xs:List V):Prop:=
 Rd H a (.tup xs)\/
  ∃ (o:Obj) (its:Array Value) (n:Nat),K.lookup a=some o/\o.cls=.type "tuple"/\o.data=.seq its n/\its.size<=sizeLine/\Vals xs its.toList
def absV:Value->Option V
 | .none=>some .non
 | .bool b=>some (.bl b)
 | .int i _=>some (.int i)
 | .str x _=>some (.str x)
 | .bytes b _=>some (.byt b)
 | .float b _=>some (.flt b)
 | .ref a=>some (.ref a)
 | .type n=>some (.ty n)
 | _=>none
theorem RelV.abs {x:V} {u:Value} (r:RelV x u):absV u=some x:=by
 cases x with
 | non=>cases r;rfl
 | bl _=>cases r;rfl
 | int _=>obtain ⟨t,rfl⟩:=r;rfl
 | str _=>obtain ⟨t,rfl⟩:=r;rfl
 | byt _=>obtain ⟨t,rfl⟩:=r;rfl
 | flt _=>obtain ⟨t,rfl⟩:=r;rfl
 | ref _=>cases r;rfl
 | ty _=>cases r;rfl
theorem RelV.inj {x y:V} {u:Value} (r:RelV x u) (q:RelV y u):x=y:=D5 (r.abs.symm.trans q.abs)
theorem Vals.inj:∀ {xs ys:List V} {us:List Value},Vals xs us->Vals ys us->xs=ys
 | _,_,_,.nil,.nil=>rfl
 | _,_,_,.cons r t,.cons r' t'=>by rw [r.inj r',Vals.inj t t']
section
variable {X:Cx} {Ab:List (Addr × Obj)} {σ:St} {H:Hp} {s:Shared} {a:Addr} {xs ys:List V}
theorem SqL.of {K:PySem.W.Frag} (h:H a=some (.lst xs)):SqL K H a xs:=.inl (.inl h)
theorem SqT.of {K:PySem.W.Frag} (h:H a=some (.tup xs)):SqT K H a xs:=.inl (.inl h)
theorem Inv.list (I:Inv X Ab σ H s) (h:SqL X.K H a xs):∃ its:List Value,Vals xs its/\PlainL s.heap a its.toArray/\xs.length<=sizeLine:=by
 rcases h with h | ⟨o,its,n,hk,hc,hd,hs,hz,r⟩
 ·obtain ⟨z,its,n,r,e⟩:=h.ok I.hok;exact ⟨its,r,⟨_,n,e,rfl,rfl,rfl⟩,z⟩
 ·refine ⟨its.toList,r,⟨o,n,I.kIn a o hk,hc,hd,by simpa using hs⟩,?_⟩
  have e:=r.length;simp only [E8] at e;omega
theorem Inv.tuple (I:Inv X Ab σ H s) (h:SqT X.K H a xs):∃ its:List Value,Vals xs its/\IsTup s.heap a its.toArray/\xs.length<=sizeLine:=by
 rcases h with h | ⟨o,its,n,hk,hc,hs,hz,r⟩
 ·obtain ⟨z,its,r,p⟩:=h.ok I.hok;exact ⟨its,r,p,z⟩
 ·refine ⟨its.toList,r,⟨o,I.kIn a o hk,hc,n,by simpa using hs⟩,?_⟩
  have e:=r.length;simp only [E8] at e;omega
theorem Inv.list_inj (I:Inv X Ab σ H s) (h:SqL X.K H a xs) (h':SqL X.K H a ys):xs=ys:=by
 obtain ⟨its,r,⟨o,n,e,_,_,d⟩,_⟩:=I.list h;obtain ⟨its',r',⟨o',n',e',_,_,d'⟩,_⟩:=I.list h';rw [e] at e';cases e';rw [d] at d'
 injection d' with d1 _
 have:its=its':=by simpa using congrArg A95 d1
 subst this;exact r.inj r'
theorem Inv.tuple_inj (I:Inv X Ab σ H s) (h:SqT X.K H a xs) (h':SqT X.K H a ys):xs=ys:=by
 obtain ⟨its,r,⟨o,e,_,n,d⟩,_⟩:=I.tuple h;obtain ⟨its',r',⟨o',e',_,n',d'⟩,_⟩:=I.tuple h';rw [e] at e';cases e';rw [d] at d'
 injection d' with d1 _
 have:its=its':=by simpa using congrArg A95 d1
 subst this;exact r.inj r'
end
abbrev Cx.wish (X:Cx) (E:Value->Shared->Prop):Cx:={ X with xe:=E }
abbrev Cx.nox (X:Cx):Cx:=X.wish fun _ _=>False
theorem Cx.Ok.wish {X:Cx} (ok:X.Ok) (E:Value->Shared->Prop):(X.wish E).Ok:=
 ⟨ok.mod,ok.kind,ok.glob,ok.blt,ok.above,ok.inj,ok.has,ok.cab,ok.hd,ok.frames,ok.stk,ok.exf,ok.bs,ok.bsz,ok.noex,ok.exfs,ok.funs,ok.frf⟩
theorem Cx.Ok.unwish {X:Cx} {E:Value->Shared->Prop} (ok:(X.wish E).Ok):X.Ok:=
 ⟨ok.mod,ok.kind,ok.glob,ok.blt,ok.above,ok.inj,ok.has,ok.cab,ok.hd,ok.frames,ok.stk,ok.exf,ok.bs,ok.bsz,ok.noex,ok.exfs,ok.funs,ok.frf⟩
section
variable {X:Cx} {Ab:List (Addr × Obj)} {σ:St} {H:Hp} {s:Shared} {E:Value->Shared->Prop}
theorem Inv.wish (I:Inv X Ab σ H s) (E:Value->Shared->Prop):Inv (X.wish E) Ab σ H s:=⟨I.ok.wish E,I.os,I.bare,I.base,I.loc,I.cell,I.free,I.freeC,I.pin,I.hok,I.len⟩
theorem Inv.unwish (I:Inv (X.wish E) Ab σ H s):Inv X Ab σ H s:=⟨I.ok.unwish,I.os,I.bare,I.base,I.loc,I.cell,I.free,I.freeC,I.pin,I.hok,I.len⟩
theorem SP.unwish {D:Ends} {f:Flow} {s':Shared} (h:SP (X.wish E) Ab D f s'):SP X Ab D f s':=by
 cases f with
 | next=>obtain ⟨σ',H',I,q⟩:=h;exact ⟨σ',H',I.unwish,q⟩
 | brk=>obtain ⟨σ',H',I,q⟩:=h;exact ⟨σ',H',I.unwish,q⟩
 | cont=>obtain ⟨σ',H',I,q⟩:=h;exact ⟨σ',H',I.unwish,q⟩
 | ret u=>obtain ⟨v,σ',H',I,r,q⟩:=h;exact ⟨v,σ',H',I.unwish,r,q⟩
theorem PSs.nox {st:List Stmt} {t:TS} (h:PSs X.nox st t):PSs X st t:=fun Ab s σ H D I hw=>
 wpAny_mono (h Ab s σ H D (I.wish _) hw) (fun _ _ q=>q.unwish) fun _ _ z=>X2 z
end
section
variable {X:Cx} {st:Stmt} {rest:List Stmt} {t u:TS} {e:Expr} {te:TE} {pos:Pos}
def qc2:TS:=fun D σ H=>D.nx σ H
def tSeq (t u:TS):TS:=fun D σ H=>t { D with nx:=u D } σ H
theorem qAV:PSs X [] qc2:=fun _ _ σ H _ I h=>wpAny_execs_nil ⟨σ,H,I,h⟩
theorem qA4 (h1:PS X st t) (h2:PSs X rest u):PSs X (st::rest) (tSeq t u):=by
 intro Ab s σ H D I h;refine wpAny_execs_cons (thn (h1 Ab s σ H { D with nx:=u D } I h) fun f s1 q=>?_);cases f with
 | next=>
  obtain ⟨σ',H',I',q⟩:=q;exact h2 Ab s1 σ' H' D I' q
 | ret v=>exact q
 | brk=>exact q
 | cont=>exact q
theorem qA6 (h1:PS X st t):PSs X [st] t:=by
 intro Ab s σ H D I h;refine wpAny_execs_cons (thn (h1 Ab s σ H D I h) fun f s1 q=>?_);cases f with
 | next=>exact wpAny_execs_nil q
 | ret v=>exact q
 | brk=>exact q
 | cont=>exact q
theorem Inv.quiet {Ab:List (Addr × Obj)} {σ:St} {H:Hp} {s:Shared} (I:Inv X Ab σ H s):interactive X.env=false:=by simp [interactive,I.ok.kind]
def qc4 (te:TE):TS:=fun D σ H=>te σ H fun _ H1=>D.nx σ H1
theorem qBY (he:PE X e te) (hs:swapsWith e none pos.line X.env=pure false:=by rfl):PS X (.Expr e pos) (qc4 te):=by
 intro Ab s σ H D I h;exact wpAny_Expr_any (thn (he Ab s σ H _ I h) fun v s1 ⟨x,H1,I1,r1,q1⟩=>⟨σ,H1,I1,q1⟩) I.quiet hs
def tRet (te:TE):TS:=fun D σ H=>te σ H D.rt
theorem qAR (he:PE X e te):PS X (.Return (some e) pos) (tRet te):=by
 intro Ab s σ H D I h;exact wpAny_Return_some (thn (he Ab s σ H _ I h) fun v s1 ⟨x,H1,I1,r1,q1⟩=>⟨x,σ,H1,I1,r1,q1⟩)
def tIfS (c:TT) (t u:TS):TS:=fun D σ H=>c σ H fun b H1=>if b=true then t D σ H1 else u D σ H1
theorem qCK {c:Expr} {a b:List Stmt} {tc:TT} (hc:PT X c tc) (ha:PSs X a t) (hb:PSs X b u):PS X (.If c a b pos) (tIfS tc t u):=by
 intro Ab s σ H D I h;refine wpAny_If (thn (hc Ab s σ H _ I h) fun d s1 ⟨H1,I1,q1⟩=>?_);cases d with
 | true=>exact ha Ab s1 σ H1 D I1 q1
 | false=>exact hb Ab s1 σ H1 D I1 q1
def qaC:TS:=fun _ _ _=>False
theorem qTD {sts:List Stmt}:PSs X sts qaC:=fun _ _ _ _ _ _ h=>h.elim
end
abbrev TG:=V->St->Hp->(St->Hp->Prop)->Prop
abbrev TGs:=List V->St->Hp->(St->Hp->Prop)->Prop
def PG (X:Cx) (target:Expr) (t:TG):Prop:=
 ∀ (Ab:List (Addr × Obj)) (s:Shared) (σ:St) (H:Hp) (v:V) (u:Value) (Q:St->Hp->Prop),Inv X Ab σ H s->RelV v u->t v σ H Q->
  wpAny (model X.prog X.w) X.A (assign target X.env u) (fun _ s'=>∃ σ' H',Inv X Ab σ' H' s'/\Q σ' H') X.xe s
def PGs (X:Cx) (ts:List Expr) (t:TGs):Prop:=
 ∀ (Ab:List (Addr × Obj)) (s:Shared) (σ:St) (H:Hp) (vs:List V) (us:List Value) (Q:St->Hp->Prop),Inv X Ab σ H s->Vals vs us->t vs σ H Q->
  wpAny (model X.prog X.w) X.A (assignInOrder ((assignEach ts X.env).map (·.2)) us) (fun _ s'=>∃ σ' H',Inv X Ab σ' H' s'/\Q σ' H') X.xe s
abbrev TSet:=V->V->V->Hp->(Hp->Prop)->Prop
def PSet (X:Cx) (t:TSet):Prop:=
 ∀ (Ab:List (Addr × Obj)) (s:Shared) (σ:St) (H:Hp) (o i v:V) (ov iv u:Value) (Q:Hp->Prop),Inv X Ab σ H s->RelV o ov->RelV i iv->RelV v u->t o i v H Q->
  wpAny (model X.prog X.w) X.A (setItem ov iv u) (fun _ s'=>∃ H',Inv X Ab σ H' s'/\Q H') X.xe s
abbrev TIp:=V->V->Hp->VK->Prop
def PIp (X:Cx) (op:Operator) (t:TIp):Prop:=
 ∀ (Ab:List (Addr × Obj)) (s:Shared) (σ:St) (H:Hp) (x y:V) (v u:Value) (Q:VK),Inv X Ab σ H s->RelV x v->RelV y u->t x y H Q->
  wpAny (model X.prog X.w) X.A (inplaceOp op v u) (EP X Ab σ Q) X.xe s
section
variable {X:Cx} {pos:Pos}
def qZQ (i:Nat):TG:=fun v σ H Q=>Q (σ.set i (some v)) H
theorem qA9 {i:Nat} {x:Str} (hN:X.N.Nodup) (hi:X.N[i]?=some x) (hx:Loc X.env.scope x) (hf:X.fn x=true\/X.env.scope.names.lookup x=some .local:=by first | exact .inl rfl | exact .inr rfl | assumption):PG X (.Name x pos) (qZQ i):=by
 intro Ab s σ H v u Q I r h;exact wpAny_assign_Name (qLJ I hN hi hx r (fun s' I'=>⟨_,H,I',h⟩) hf)
def gNil:TGs:=fun vs σ H Q=>vs=[]/\Q σ H
def qcS (t:TG) (u:TGs):TGs:=fun vs σ H Q=>∃ v r,vs=v::r/\t v σ H fun σ' H'=>u r σ' H' Q
theorem qEA:PGs X [] gNil:=by
 intro Ab s σ H vs us Q I r h;obtain ⟨e,h⟩:=h;subst e;cases r;exact assignInOrder_nil ⟨σ,H,I,h⟩
theorem qB3 {e:Expr} {es:List Expr} {t:TG} {u:TGs} (h1:PG X e t) (h2:PGs X es u)
  (hs:(assignEach (e::es) X.env).map (·.2)=assign e X.env::(assignEach es X.env).map (·.2):=by rfl):PGs X (e::es) (qcS t u):=by
 intro Ab s σ H vs us Q I r h;obtain ⟨v,vr,e1,h⟩:=h;subst e1;cases r with
 | cons r rr=>
  rw [hs];refine assignInOrder_cons (thn (h1 Ab s σ H _ _ _ I r h) fun _ s1 ⟨σ1,H1,I1,q1⟩=>?_);exact h2 Ab s1 σ1 H1 _ _ Q I1 rr q1
def gTup (K:PySem.W.Frag) (n:Nat) (t:TGs):TG:=fun v σ H Q=>∃ a xs,v=.ref a/\SqT K H a xs/\xs.length=n/\t xs σ H Q
theorem qGU {es:List Expr} {k:Nat} {t:TGs} {n:Nat} (hc:X.calm=true) (h:PGs X es t)
  (hn:(assignEach es X.env).length=n:=by rfl) (hst:(assignEach es X.env).findIdx? (·.1)=none:=by rfl):PG X (.Tuple es k pos) (gTup X.K n t):=by
 intro Ab s σ H v u Q I r hw;obtain ⟨a,xs,e1,hq,hl,hw⟩:=hw;subst e1;cases r;obtain ⟨its,rv,ht,hz⟩:=I.tuple hq;refine assign_Tuple_tuple (I.ok.hd hc) ht (by simp [hn,<- hl,rv.length]) hst fun h' hx=>?_
 have I1:Inv X Ab σ H { s with heap:=h' }:=I.kept (t':=s.toks) fun b o e=>hx b o (C7 (B1 e)) e;exact h Ab _ σ H xs _ Q I1 (by simpa using rv) hw
def gSub (to ti:TE) (t:TSet):TG:=fun v σ H Q=>to σ H fun o H1=>ti σ H1 fun i H2=>t o i v H2 fun H3=>Q σ H3
theorem qTN {o i:Expr} {to ti:TE} {t:TSet} (ho:PE X o to) (hi:PE X i ti) (hs:PSet X t)
  (ha:∀ v,assign (.Subscript o i pos) X.env v=(do
   let ov <- holding [v] (eval o X.env)
   let iv <- holding [v,ov] (eval i X.env)
   standAt pos
   holding [v,ov,iv] (setItem ov iv v)
   release [v,ov,iv] []):=by intro _;rfl):PG X (.Subscript o i pos) (gSub to ti t):=by
 intro Ab s σ H v u Q I r h;rw [ha];refine wpAny_bind (wpAny_holding (thn (ho Ab s σ H _ I h) fun ov s1 ⟨x,H1,I1,r1,q1⟩=>?_));refine wpAny_bind (wpAny_holding (thn (hi Ab s1 σ H1 _ I1 q1) fun iv s2 ⟨y,H2,I2,r2,q2⟩=>?_));refine wpAny_bind (wpAny_standAt (wpAny_bind (wpAny_holding (thn (hs Ab s2 σ H2 x y v ov iv u _ I2 r1 r2 r q2) fun _ s3 ⟨H3,I3,q3⟩=>?_))));exact wpAny_release ⟨σ,H3,I3,q3⟩
def tAsg (te:TE) (g:TG):TS:=fun D σ H=>te σ H fun x H1=>g x σ H1 D.nx
theorem qKU {tg e:Expr} {te:TE} {g:TG} (he:PE X e te) (hg:PG X tg g) (hs:swapsWithSole [tg] e pos.line X.env=pure false:=by rfl) (hw:swappedStores [tg] e X.env=pure none:=by rfl)
  (h1:(assignEach [tg] X.env).map (·.2)=[assign tg X.env]:=by rfl):PS X (.Assign [tg] e pos) (tAsg te g):=by
 intro Ab s σ H D I h;refine wpAny_Assign_stores (thn (he Ab s σ H _ I h) fun v s1 ⟨x,H1,I1,r1,q1⟩=>?_) hs hw;rw [h1];exact thn (hg Ab s1 σ H1 x v _ I1 r1 q1) fun _ s2 q=>q
theorem qAG {i:Nat} {x:Str} {e:Expr} {te:TE} {pos':Pos} (hN:X.N.Nodup) (hi:X.N[i]?=some x) (hx:Loc X.env.scope x) (he:PE X e te) (hs:swapsWith e (some (.Name x pos')) pos.line X.env=pure false:=by rfl) (hf:X.fn x=true\/X.env.scope.names.lookup x=some .local:=by first | exact .inl rfl | exact .inr rfl | assumption) :
  PS X (.Assign [.Name x pos'] e pos) (tAsg te (qZQ i)):=by
 intro Ab s σ H D I h;refine wpAny_Assign_Name (thn (he Ab s σ H _ I h) fun v s1 ⟨y,H1,I1,r1,q1⟩=>?_) hs;exact qLJ I1 hN hi hx r1 (fun s2 I2=>⟨_,H1,I2,q1⟩) hf
def tAug (i:Nat) (te:TE) (ti:TIp):TS:=fun D σ H=>∃ x,σ[i]?=some (some x)/\te σ H fun y H1=>ti x y H1 fun z H2=>D.nx (σ.set i (some z)) H2
theorem qXT {i:Nat} {x:Str} {e:Expr} {te:TE} {op:Operator} {ti:TIp} {pos':Pos} (hN:X.N.Nodup) (hi:X.N[i]?=some x) (hx:Loc X.env.scope x) (he:PE X e te) (ho:PIp X op ti) (hf:X.fn x=true\/X.env.scope.names.lookup x=some .local:=by first | exact .inl rfl | exact .inr rfl | assumption) :
  PS X (.AugAssign (.Name x pos') op e pos) (tAug i te ti):=by
 intro Ab s σ H D I h;obtain ⟨v,e1,h⟩:=h;obtain ⟨m,hn,hl⟩:=I.loc;have vis:Vis X.env.scope x:=by rcases hx with k | k;exact .inl k;exact .inr (.inl k)
 obtain ⟨u,r,l⟩:=hl i x v hi e1 vis;refine wpAny_AugAssign_Name ?_;have go:wpAny (model X.prog X.w) X.A (eval e X.env) (fun w s₂=>wpAny (model X.prog X.w) X.A (inplaceOp op u w) (fun r s₃=>wpAny (model X.prog X.w) X.A (storeName X.env x r) (fun _=>SP X Ab D .next) X.xe s₃) X.xe s₂) X.xe s:=by
  refine thn (he Ab s σ H _ I h) fun w s1 ⟨y,H1,I1,r1,q1⟩=>?_;refine thn (ho Ab s1 σ H1 v y u w _ I1 r r1 q1) fun z s2 ⟨zv,H2,I2,r2,q2⟩=>?_;exact qLJ I2 hN hi hx r2 (fun s3 I3=>⟨_,H2,I3,q2⟩) hf
 rcases l with ⟨hk,hm⟩ | ⟨hk,c,hc,hcell⟩
 ·exact wpAny_loadName_local I.ok.kind hk hn hm go
 ·rcases hk with hk | hk
  ·exact wpAny_loadName_cell I.ok.kind hk hc hcell go
  ·rcases hx with k | k
   ·have:X.env.scope.names.lookup x=some .free:=hk;rw [k] at this;cases this
   ·have:X.env.scope.names.lookup x=some .free:=hk;rw [k] at this;cases this
def qc7 (to ti te:TE) (tget:V->V->Hp->VK->Prop) (tip:TIp) (tset:TSet):TS:=fun D σ H=>to σ H fun o H1=>ti σ H1 fun i H2=>tget o i H2 fun x H3=>te σ H3 fun y H4=>tip x y H4 fun z H5=>tset o i z H5 fun H6=>D.nx σ H6
def PGet (X:Cx) (t:V->V->Hp->VK->Prop):Prop:=
 ∀ (Ab:List (Addr × Obj)) (s:Shared) (σ:St) (H:Hp) (o i:V) (ov iv:Value) (Q:VK),Inv X Ab σ H s->RelV o ov->RelV i iv->t o i H Q->
  wpAny (model X.prog X.w) X.A (getItem ov iv) (EP X Ab σ Q) X.xe s
theorem qYY {o i e:Expr} {to ti te:TE} {tget:V->V->Hp->VK->Prop} {tip:TIp} {tset:TSet} {op:Operator} {tpos:Pos} (ho:PE X o to) (hi:PE X i ti) (hg:PGet X tget) (he:PE X e te) (hp:PIp X op tip) (hs:PSet X tset)
  (ha:∀ ov iv new,augStore i ov iv new=(do holding [new,ov,iv] (setItem ov iv new);release [new,ov,iv] [];pure .next):=by intros;rfl):PS X (.AugAssign (.Subscript o i tpos) op e pos) (qc7 to ti te tget tip tset):=by
 intro Ab s σ H D I h;refine wpAny_AugAssign_SubscriptAny (thn (ho Ab s σ H _ I h) fun ov s1 ⟨x1,H1,I1,r1,q1⟩=>?_) ha;refine thn (hi Ab s1 σ H1 _ I1 q1) fun iv s2 ⟨x2,H2,I2,r2,q2⟩=>?_;refine thn (hg Ab s2 σ H2 x1 x2 ov iv _ I2 r1 r2 q2) fun old s3 ⟨x3,H3,I3,r3,q3⟩=>?_;refine thn (he Ab s3 σ H3 _ I3 q3) fun v s4 ⟨x4,H4,I4,r4,q4⟩=>?_;refine thn (hp Ab s4 σ H4 x3 x4 old v _ I4 r3 r4 q4) fun new s5 ⟨x5,H5,I5,r5,q5⟩=>?_;exact thn (hs Ab s5 σ H5 x1 x2 x5 ov iv new _ I5 r1 r2 r5 q5) fun _ s6 ⟨H6,I6,q6⟩=>⟨σ,H6,I6,q6⟩
def ipI (f:Int->Int->Int):TIp:=fun x y H Q=>∃ i j,x=.int i/\y=.int j/\Q (.int (f i j)) H
theorem qY5:PIp X .Add (ipI fun i j=>i+j):=by
 intro Ab s σ H x y v u Q I r1 r2 h;obtain ⟨i,j,e1,e2,q⟩:=h;subst e1;subst e2;obtain ⟨t,rfl⟩:=r1;obtain ⟨t',rfl⟩:=r2;exact iadd_int ⟨.int _,H,I.tok _,⟨_,rfl⟩,q⟩
theorem qbM:PIp X .Sub (ipI fun i j=>i - j):=by
 intro Ab s σ H x y v u Q I r1 r2 h;obtain ⟨i,j,e1,e2,q⟩:=h;subst e1;subst e2;obtain ⟨t,rfl⟩:=r1;obtain ⟨t',rfl⟩:=r2;exact isub_int ⟨.int _,H,I.tok _,⟨_,rfl⟩,q⟩
def qa9 (c:TT) (tb:TS):TS:=fun D σ H=>∃ W:Nat->St->Hp->Prop,(∃ m,W m σ H)/\∀ m σ H,W m σ H->
 c σ H fun b H1=>if b=true then ∃ N:St->Hp->Prop,(∀ σ' H',N σ' H'->∃ m',m'<m/\W m' σ' H')/\tb { D with nx:=N,ct:=N,bk:=D.nx } σ H1 else D.nx σ H1
theorem qLV {c:Expr} {body:List Stmt} {tc:TT} {tb:TS} (hp:PassesOwn (model X.prog X.w) X.A X.env X.xe) (hc:PT X c tc) (hb:PSs X body tb):PS X (.While c body [] pos) (qa9 tc tb):=by
 intro Ab s σ H D I h;obtain ⟨W,⟨m0,w0⟩,turn⟩:=h;refine wpAny_While (codeAny_whileLoop (fun n s'=>∃ σ' H',Inv X Ab σ' H' s'/\W n σ' H') ?_ m0 ⟨σ,H,I,w0⟩);rintro n s1 ⟨σ1,H1,I1,w1⟩;refine wpAny_passesOwn hp (thn (hc Ab s1 σ1 H1 _ I1 (turn n σ1 H1 w1)) fun b s2 ⟨H2,I2,q2⟩=>?_);cases b with
 | true=>
  obtain ⟨N,hN,q2⟩:=q2;rw [if_pos rfl];refine wpAny_passesOwn hp (thn (hb Ab s2 σ1 H2 _ I2 q2) fun f s3 q3=>?_);cases f with
  | next=>
   obtain ⟨σ3,H3,I3,n3⟩:=q3;obtain ⟨m',hm,w3⟩:=hN σ3 H3 n3;exact ⟨m',hm,σ3,H3,I3,w3⟩
  | cont=>
   obtain ⟨σ3,H3,I3,n3⟩:=q3;obtain ⟨m',hm,w3⟩:=hN σ3 H3 n3;exact ⟨m',hm,σ3,H3,I3,w3⟩
  | brk=>exact q3
  | ret v=>exact q3
 | false=>
  rw [if_neg C5];exact wpAny_execs_nil ⟨σ1,H2,I2,q2⟩
end
structure It where
 go:Nat->Hp->Prop
 yld:Nat->Hp->V->Hp->Prop
 stop:Nat->Hp->Prop
def FpOk (X:Cx) (Ab:List (Addr × Obj)) (H:Hp) (b:Addr):Prop:=
 H b=none/\b ≠ X.env.locals/\b ∉ X.fs/\(b ∈ X.ex\/X.s₀.heap.objs.size<=b)/\(∀ x c,X.env.cells.lookup x=some c->c ≠ b)/\∀ p ∈ X.pn++Ab,p.1 ≠ b
theorem Inv.fpOk {X:Cx} {Ab:List (Addr × Obj)} {σ:St} {H H':Hp} {s:Shared} {b:Addr} (I:Inv X Ab σ H s) (hb:s.heap.objs.size<=b) (hn:H' b=none):FpOk X Ab H' b:=by
 refine ⟨hn,R3 (D9 I.lt hb),I.nofs hb,.inr (L6 I.sz hb),fun x c e z=>?_,fun p hp z=>?_⟩
 ·obtain ⟨v,q⟩:=I.cell x c e;exact absurd (D9 q.lt (by rw [z];exact hb)) (T5 _)
 ·exact absurd (D9 (B1 (I.pin p hp).1) (by rw [z];exact hb)) (T5 _)
structure Turn (P:Program) (w:World) (K:PySem.W.Frag) (tg:Expr) (J:It) (fp:List Addr) (it:Addr) (tn:Nat->Heap->Prop):Prop where
 mem:it ∈ fp
 obj:∀ i h,tn i h->∀ b ∈ fp,∃ o,h.get? b=some o/\∀ v,o.data ≠ .cell v
 keep:∀ i h h',tn i h->(∀ b ∈ fp,∀ o,h.get? b=some o->h'.get? b=some o)->tn i h'
 item:∀ (X:Cx),X.prog=P->X.w=w->X.K=K->X.calm=true->∀ (i:Nat) (Ab:List (Addr × Obj)) (s:Shared) (σ:St) (H:Hp) (E:Value->Shared->Prop),Inv X Ab σ H s->(∀ b ∈ fp,FpOk X Ab H b)->tn i s.heap->J.go i H->
  wpAny (model P w) X.A (pyNext (.ref it)) (fun r s1=>∃ u,r=some u/\
   wpAny (model P w) X.A (letOwnedTupleGo tg (.ref it) u) (fun _ s2=>∃ x H',Inv X Ab σ H' s2/\RelV x u/\J.yld i H x H'/\tn (i+1) s2.heap/\∀ b ∈ fp,H' b=none) E s1) E s
 done:∀ (X:Cx),X.prog=P->X.w=w->X.K=K->X.calm=true->∀ (i:Nat) (Ab:List (Addr × Obj)) (s:Shared) (σ:St) (H:Hp) (E:Value->Shared->Prop),Inv X Ab σ H s->(∀ b ∈ fp,FpOk X Ab H b)->tn i s.heap->J.stop i H->
  wpAny (model P w) X.A (pyNext (.ref it)) (fun r s1=>r=none/\Inv X Ab σ H s1) E s
 self:∀ (A:Around) (i:Nat) (s:Shared) (Q:Value->Shared->Prop) (E:Value->Shared->Prop),tn i s.heap->Q (.ref it) s->wpAny (model P w) A (pyIter (.ref it)) Q E s
abbrev TI:=St->Hp->(It->Hp->Prop)->Prop
def PIE (X:Cx) (Ab:List (Addr × Obj)) (σ:St) (tg:Expr) (R:It->Hp->Prop) (itv:Value) (s2:Shared):Prop:=
 ∃ (it:Addr) (fp:List Addr) (tn:Nat->Heap->Prop) (J:It) (H':Hp),itv=.ref it/\Inv X Ab σ H' s2/\Turn X.prog X.w X.K tg J fp it tn/\tn 0 s2.heap/\(∀ b ∈ fp,FpOk X Ab H' b)/\R J H'
def PI (X:Cx) (tg iter:Expr) (wi:TI):Prop:=
 ∀ (Ab:List (Addr × Obj)) (s:Shared) (σ:St) (H:Hp) (R:It->Hp->Prop),Inv X Ab σ H s->wi σ H R->
  wpAny (model X.prog X.w) X.A (eval iter X.env) (fun v s1=>wpAny (model X.prog X.w) X.A (pyIter v) (PIE X Ab σ tg R) X.xe s1) X.xe s
theorem qUV {M:Model} {A:Around} {E:Value->Shared->Prop} {s:Shared} {tg:Expr} {it:Addr} {u:Value} {o:Obj} {n:String} {vs:Array Value} {Q:Unit->Shared->Prop} (ho:s.heap.get? it=some o) (hc:o.cls=.type n) (hd:o.data=.fields vs)
  (hn:["enumerate","zip","dict_itemiterator","dict_reverseitemiterator","odict_iterator","itertools.zip_longest","itertools.pairwise"].contains n=false) (hQ:Q () s):wpAny M A (letOwnedTupleGo tg (.ref it) u) Q E s:=by
 unfold letOwnedTupleGo;cases tg <;> first
  | exact wpAny_pure hQ
  | (cases u <;> first
    | exact wpAny_pure hQ
    | (refine wpAny_bind (wpAny_load ho ?_)
       rw [hc,hd];show wpAny M A (if (["enumerate","zip","dict_itemiterator","dict_reverseitemiterator","odict_iterator","itertools.zip_longest","itertools.pairwise"].contains n && vs[0]? == some (rawInt _))=true then _ else _) Q E s
       rw [if_neg (by intro h;rw [hn,i4] at h;cases h)]
       exact wpAny_pure hQ))
def Itl (K:PySem.W.Frag) (a:Addr):It:=
 ⟨fun i H=>∃ xs x,SqL K H a xs/\xs[i]?=some x,fun i H x H'=>H'=H/\∀ xs,SqL K H a xs->xs[i]?=some x,fun i H=>∃ xs,SqL K H a xs/\xs.length<=i⟩
def Itt (K:PySem.W.Frag) (a:Addr):It:=
 ⟨fun i H=>∃ xs x,SqT K H a xs/\xs[i]?=some x,fun i H x H'=>H'=H/\∀ xs,SqT K H a xs->xs[i]?=some x,fun i H=>∃ xs,SqT K H a xs/\xs.length<=i⟩
def Itr (lo:Int) (n:Nat):It:=⟨fun i _=>i<n,fun i H x H'=>H'=H/\x=.int (lo+i),fun i _=>n<=i⟩
theorem qST {P:Program} {w:World} {K:PySem.W.Frag} {tg:Expr} (a it:Addr):Turn P w K tg (Itl K a) [it] it (fun i h=>h.IsListIter it a i) where
 mem:=by simp
 obj:=fun i h st b hb=>by
  have e:b=it:=by simpa using hb
  subst e;obtain ⟨o,e,c,d⟩:=st;exact ⟨o,e,fun v z=>by rw [d] at z;cases z⟩
 keep:=fun i h h' st k=>st.at fun o e=>k it (by simp) o e
 item:=by
  intro X hP hw hK hc i Ab s σ H E I hf st hg;subst hP hw hK;obtain ⟨xs,x,hq,hx⟩:=hg;obtain ⟨its,rv,p,hz⟩:=I.list hq;obtain ⟨u,hu,ru⟩:=rv.get hx;obtain ⟨f0,f1,f2,f3,f4,f5⟩:=hf it (by simp)
  refine wpAny_pyNext_list_item st p.isList (x:=u) (by simpa using hu) fun h' st' sb=>?_
  have I1:Inv X Ab σ H { s with heap:=h' }:=I.turned (t':=s.toks) (fun b o hb e=>(sb.2 b hb).trans e) f0 f1 f3 f4 f5;obtain ⟨o,e,c,d⟩:=id st';exact ⟨u,rfl,qUV (s:={ s with heap:=h' }) e c d (by decide) ⟨x,H,I1,ru,⟨rfl,fun ys hy=>by rw [I.list_inj hy hq];exact hx⟩,st',fun b hb=>(hf b hb).1⟩⟩
 done:=by
  intro X hP hw hK hc i Ab s σ H E I hf st hg;subst hP hw hK;obtain ⟨xs,hq,hx⟩:=hg;obtain ⟨its,rv,p,hz⟩:=I.list hq;obtain ⟨f0,f1,f2,f3,f4,f5⟩:=hf it (by simp)
  have hl:=rv.length;exact wpAny_pyNext_list_end (I.ok.hd hc) st p.isList (by simp;omega) fun h' eb=>⟨rfl,I.turned (t':=s.toks) (fun b o hb e=>eb b o hb e) f0 f1 f3 f4 f5⟩
 self:=fun _ _ _ _ _ st h=>wpAny_pyIter_listiter st h
theorem qRQ {P:Program} {w:World} {K:PySem.W.Frag} {tg:Expr} (a it:Addr):Turn P w K tg (Itt K a) [it] it (fun i h=>h.IsTupleIter it a i) where
 mem:=by simp
 obj:=fun i h st b hb=>by
  have e:b=it:=by simpa using hb
  subst e;obtain ⟨o,e,c,d⟩:=st;exact ⟨o,e,fun v z=>by rw [d] at z;cases z⟩
 keep:=fun i h h' st k=>st.at fun o e=>k it (by simp) o e
 item:=by
  intro X hP hw hK hc i Ab s σ H E I hf st hg;subst hP hw hK;obtain ⟨xs,x,hq,hx⟩:=hg;obtain ⟨its,rv,p,hz⟩:=I.tuple hq;obtain ⟨u,hu,ru⟩:=rv.get hx;obtain ⟨f0,f1,f2,f3,f4,f5⟩:=hf it (by simp)
  refine wpAny_pyNext_tuple_item st (show s.heap.IsTuple a its.toArray from p) (x:=u) (by simpa using hu) fun h' st' sb=>?_
  have I1:Inv X Ab σ H { s with heap:=h' }:=I.turned (t':=s.toks) (fun b o hb e=>(sb.2 b hb).trans e) f0 f1 f3 f4 f5;obtain ⟨o,e,c,d⟩:=id st';exact ⟨u,rfl,qUV (s:={ s with heap:=h' }) e c d (by decide) ⟨x,H,I1,ru,⟨rfl,fun ys hy=>by rw [I.tuple_inj hy hq];exact hx⟩,st',fun b hb=>(hf b hb).1⟩⟩
 done:=by
  intro X hP hw hK hc i Ab s σ H E I hf st hg;subst hP hw hK;obtain ⟨xs,hq,hx⟩:=hg;obtain ⟨its,rv,p,hz⟩:=I.tuple hq;obtain ⟨f0,f1,f2,f3,f4,f5⟩:=hf it (by simp)
  have hl:=rv.length;exact wpAny_pyNext_tuple_end (I.ok.hd hc) st (show s.heap.IsTuple a its.toArray from p) (by simp;omega) fun h' eb=>⟨rfl,I.turned (t':=s.toks) (fun b o hb e=>eb b o hb e) f0 f1 f3 f4 f5⟩
 self:=fun _ _ _ _ _ st h=>wpAny_pyIter_tupleiter st h
theorem qRR {P:Program} {w:World} {K:PySem.W.Frag} {tg:Expr} (it:Addr) (lo:Int) (n:Nat):Turn P w K tg (Itr lo n) [it] it (fun i h=>IsRangeIter h it (lo+(i:Nat) * 1) ((n:Int) - (i:Nat)) 1) where
 mem:=by simp
 obj:=fun i h st b hb=>by
  have e:b=it:=by simpa using hb
  subst e;exact ⟨_,st,fun v z=>by
   have z':A26 _=A07 v:=z;cases z'⟩
 keep:=fun i h h' st k=>k it (by simp) _ st
 item:=by
  intro X hP hw hK hc i Ab s σ H E I hf st hg;subst hP hw hK;obtain ⟨f0,f1,f2,f3,f4,f5⟩:=hf it (by simp)
  have W:=Walks.range (prog:=X.prog) (w:=X.w) (I.ok.hd hc) it lo 1 n;refine W.item i s _ _ hg st fun v h' tk hv st' kk=>?_;obtain ⟨t,rfl⟩:=hv;have I1:Inv X Ab σ H { s with heap:=h',toks:=tk }:=I.turned (fun b o hb e=>kk b o (by simpa using hb) e) f0 f1 f3 f4 f5
  refine ⟨_,rfl,qUV (s:={ s with heap:=h',toks:=tk }) (n:="range_iterator") st' rfl rfl (by decide) ⟨.int (lo+i),H,I1,⟨t,?_⟩,⟨rfl,rfl⟩,st',fun b hb=>(hf b hb).1⟩⟩
  rw [Int.mul_one]
 done:=by
  intro X hP hw hK hc i Ab s σ H E I hf st hg;subst hP hw hK;obtain ⟨f0,f1,f2,f3,f4,f5⟩:=hf it (by simp)
  exact wpAny_pyNext_range_end (I.ok.hd hc) st (by have:n<=i:=hg;omega) fun h' eb=>⟨rfl,I.turned (t':=s.toks) (fun b o hb e=>eb b o hb e) f0 f1 f3 f4 f5⟩
 self:=fun _ _ _ _ _ st h=>wpAny_pyIter_rangeiter st h
section
variable {X:Cx} {tg:Expr}
def qcP (K:PySem.W.Frag) (tl:TE):TI:=fun σ H R=>tl σ H fun x H1=>∃ a,x=.ref a/\(∃ xs,SqL K H1 a xs)/\R (Itl K a) H1
def iTup (K:PySem.W.Frag) (tl:TE):TI:=fun σ H R=>tl σ H fun x H1=>∃ a,x=.ref a/\(∃ xs,SqT K H1 a xs)/\R (Itt K a) H1
theorem qBE {l:Expr} {tl:TE} (hl:PE X l tl):PI X tg l (qcP X.K tl):=by
 intro Ab s σ H R I h;refine thn (hl Ab s σ H _ I h) fun v s1 ⟨x,H1,I1,r1,q1⟩=>?_;obtain ⟨a,e,⟨xs,hq⟩,q⟩:=q1;subst e;cases r1;obtain ⟨its,rv,p,hz⟩:=I1.list hq;refine wpAny_pyIter_list p.isList ?_;refine ⟨s1.heap.objs.size,[s1.heap.objs.size],_,_,H1,rfl,I1.kept (t':=s1.toks) fun b o e=>A2 _ e,qST a _,⟨_,B6 _ rfl,rfl,rfl⟩,fun b hb=>?_,q⟩;have e:b=s1.heap.objs.size:=by simpa using hb
 subst e;exact I1.fpOk (B0 _) (I1.hok.fresh (B0 _))
theorem qE0 {l:Expr} {tl:TE} (hl:PE X l tl):PI X tg l (iTup X.K tl):=by
 intro Ab s σ H R I h;refine thn (hl Ab s σ H _ I h) fun v s1 ⟨x,H1,I1,r1,q1⟩=>?_;obtain ⟨a,e,⟨xs,hq⟩,q⟩:=q1;subst e;cases r1;obtain ⟨its,rv,p,hz⟩:=I1.tuple hq;refine wpAny_pyIter_tuple (show s1.heap.IsTuple a its.toArray from p) ?_;refine ⟨s1.heap.objs.size,[s1.heap.objs.size],_,_,H1,rfl,I1.kept (t':=s1.toks) fun b o e=>A2 _ e,qRQ a _,⟨_,B6 _ rfl,rfl,rfl⟩,fun b hb=>?_,q⟩;have e:b=s1.heap.objs.size:=by simpa using hb
 subst e;exact I1.fpOk (B0 _) (I1.hok.fresh (B0 _))
theorem range_it {Ab:List (Addr × Obj)} {σ:St} {H:Hp} {s:Shared} {R:It->Hp->Prop} {E:Value->Shared->Prop} {lo hi:Int} {t u v:Tok} {tk:Nat} (I:Inv X Ab σ H s) (h1 : -(2 ^ 62)<=lo) (h2:lo<2 ^ 62) (h3 : -(2 ^ 62)<=hi) (h4:hi<2 ^ 62)
  (q:R (Itr lo (hi - lo).toNat) H):wpAny (model X.prog X.w) X.A (pyIter (.ref s.heap.objs.size)) (PIE X Ab σ tg R) E { s with heap:=s.heap.push { cls:=.type "range",data:=.fields #[.int lo t,.int hi u,.int 1 v] },toks:=tk }:=by
 refine wpAny_pyIter_range (B00 ..) (small_one h1 h2 h3 h4) ?_;have I1:Inv X Ab σ H { s with heap:=s.heap.push { cls:=.type "range",data:=.fields #[.int lo t,.int hi u,.int 1 v] },toks:=tk }:=I.kept fun b o e=>A2 _ e;refine ⟨(s.heap.push { cls:=.type "range",data:=.fields #[.int lo t,.int hi u,.int 1 v] }).objs.size,[(s.heap.push { cls:=.type "range",data:=.fields #[.int lo t,.int hi u,.int 1 v] }).objs.size],_,_,H,rfl,
  I1.kept (t':=tk) fun b o e=>A2 _ e,qRR _ lo (hi - lo).toNat,?_,fun b hb=>?_,q⟩
 ·have e1:lo+((0:Nat):Int) * 1=lo:=by simp
  have e2:(((hi - lo).toNat:Nat):Int) - ((0:Nat):Int)=T6 lo hi 1:=by rw [rangeSize_one];split <;> omega
  show IsRangeIter _ _ (lo+((0:Nat):Int) * 1) ((((hi - lo).toNat:Nat):Int) - ((0:Nat):Int)) 1;rw [e1,e2];exact B6 _ rfl
 ·have e:b=(s.heap.push { cls:=.type "range",data:=.fields #[.int lo t,.int hi u,.int 1 v] }).objs.size:=by simpa using hb
  subst e;exact I1.fpOk (B0 _) (I1.hok.fresh (B0 _))
def qcO (ta:TA):TI:=fun σ H R=>ta σ H fun vs H1=>∃ j:Int,vs=[.int j]/\-(2 ^ 62)<=j/\j<2 ^ 62/\R (Itr 0 j.toNat) H1
theorem qBZ {a:Expr} {ta:TA} {p pos:Pos} (hg:Gl X "range") (hm:X.mg "range" = none) (ha:PA X [a] ta) (hs:starEach [a] X.env=[(false,eval a X.env)]:=by rfl):PI X tg (.Call (.Name "range" p) [a] [] pos) (qcO ta):=by
 intro Ab s σ H R I h;refine Call_ (qFB I hg hm boot_range (O7 (thn (ha pos Ab s σ H _ I h) fun us s1 ⟨vs,H1,I1,r1,q1⟩=>?_) hs rfl));obtain ⟨j,e,q1,q2,q⟩:=q1;subst e;cases r1 with
 | cons r rr=>
  cases rr;obtain ⟨t,rfl⟩:=r;exact call_range_1 (range_it I1 (by omega) (by omega) q1 q2 (by simpa using q))
def tFor (wi:TI) (g:TG) (tb:TS):TS:=fun D σ H=>wi σ H fun J H1=>∃ W:Nat->Nat->St->Hp->Prop,(∃ m,W 0 m σ H1)/\∀ i m σ H,W i m σ H->
 (J.stop i H/\D.nx σ H)\/(J.go i H/\∃ N:St->Hp->Prop,(∀ σ' H',N σ' H'->∃ m',m'<m/\W (i+1) m' σ' H')/\∀ x H',J.yld i H x H'->g x σ H' fun σ2 H2=>tb { D with nx:=N,ct:=N,bk:=D.nx } σ2 H2)
def qNA (fp:List Addr) (h:Heap):List (Addr × Obj):=fp.filterMap fun b=>(h.get? b).map fun o=>(b,o)
theorem qG1 {fp:List Addr} {h:Heap} {b:Addr} {o:Obj} (hb:b ∈ fp) (e:h.get? b=some o):(b,o) ∈ qNA fp h:=A35.mpr ⟨b,hb,by rw [e];rfl⟩
theorem qU2 {fp:List Addr} {h:Heap} {p:Addr × Obj} (hp:p ∈ qNA fp h):p.1 ∈ fp/\h.get? p.1=some p.2:=by
 obtain ⟨b,hb,e⟩:=A35.mp hp;cases q:h.get? b with
 | none=>rw [q] at e;cases e
 | some o=>
  rw [q] at e;have e':(b,o)=p:=D5 e;subst e';exact ⟨hb,q⟩
theorem Inv.pinned {Ab:List (Addr × Obj)} {σ:St} {H:Hp} {s:Shared} {fp:List Addr} (I:Inv X Ab σ H s) (hf:∀ b ∈ fp,FpOk X Ab H b) (ho:∀ b ∈ fp,∃ o,s.heap.get? b=some o/\∀ v,o.data ≠ .cell v):Inv X (Ab++qNA fp s.heap) σ H s:=
 I.pins_of fun p hp=>(E1.mp hp).elim (fun z=>I.pin p (G1 _ z)) fun z=>by
  obtain ⟨hb,e⟩:=qU2 z;obtain ⟨f0,f1,f2,_⟩:=hf p.1 hb;obtain ⟨o,e',d⟩:=ho p.1 hb;rw [e] at e';cases e';exact ⟨e,f0,f1,f2,d⟩
theorem Inv.unpinned {Ab pl:List (Addr × Obj)} {σ:St} {H:Hp} {s:Shared} (I:Inv X (Ab++pl) σ H s):Inv X Ab σ H s:=I.pins_of fun p hp=>I.pin p (G1 _ (Q5 _ hp))
theorem qBC {iter:Expr} {body:List Stmt} {wi:TI} {g:TG} {tb:TS} {pos:Pos} (hp:PassesOwn (model X.prog X.w) X.A X.env X.xe) (hc:X.calm=true) (hi:PI X tg iter wi) (hg:PG X tg g) (hb:PSs X body tb)
  (hs:∀ x,foldedSetIterable iter X.env x=pure x:=by intro _;rfl):PS X (.For tg iter body [] pos) (tFor wi g tb):=by
 intro Ab s σ H D I h;refine wpAny_For (thn (hi Ab s σ H _ I h) fun v s1 h1=>thn h1 fun itv s2 h2=>?_) hs;obtain ⟨it,fp,tn,J,H2,e,I2,T,st2,f2,W,⟨m0,w0⟩,turn⟩:=h2;subst e
 -- what stays true of the iterator's objects through the loop
 have stat:∀ {H':Hp},(∀ b ∈ fp,H' b=none)->∀ b ∈ fp,FpOk X Ab H' b:=fun hn b hb=>⟨hn b hb,(f2 b hb).2⟩;refine codeAny_forLoop_any (fun n s'=>∃ i σ' H',Inv X Ab σ' H' s'/\tn i s'.heap/\(∀ b ∈ fp,H' b=none)/\W i n σ' H') ?_ m0 ⟨0,σ,H2,I2,st2,fun b hb=>(f2 b hb).1,w0⟩;rintro n s3 ⟨i,σ3,H3,I3,st3,fr3,w3⟩;rcases turn i n σ3 H3 w3 with ⟨stop,qn⟩ | ⟨go,N,hN,step⟩
 ·refine wpAny_passesOwn hp (thn (T.done X rfl rfl rfl hc i Ab s3 σ3 H3 X.xe I3 (stat fr3) st3 stop) fun r s4 ⟨hr,I4⟩=>?_);subst hr;exact wpAny_execs_nil ⟨σ3,H3,I4,qn⟩
 ·refine wpAny_passesOwn hp (thn (T.item X rfl rfl rfl hc i Ab s3 σ3 H3 X.xe I3 (stat fr3) st3 go) fun r s4 ⟨u,hr,h4⟩=>?_);subst hr;refine wpAny_passesOwn hp (thn h4 fun _ s5 ⟨x,H5,I5,r5,y5,st5,fr5⟩=>?_);have I5':=I5.pinned (stat fr5) (T.obj _ _ st5);refine wpAny_passesOwn hp (thn (hg _ s5 σ3 H5 x u _ I5' r5 (step x H5 y5)) fun _ s6 ⟨σ6,H6,I6,q6⟩=>?_);refine wpAny_passesOwn hp (thn (hb _ s6 σ6 H6 _ I6 q6) fun f s7 q7=>?_);have again:∀ {σ7:St} {H7:Hp},Inv X (Ab++qNA fp s5.heap) σ7 H7 s7->N σ7 H7->∃ m,m<n/\∃ i σ' H',Inv X Ab σ' H' s7/\tn i s7.heap/\(∀ b ∈ fp,H' b=none)/\W i m σ' H':=fun {σ7 H7} I7 n7=>by
   obtain ⟨m',hm,w7⟩:=hN σ7 H7 n7;refine ⟨m',hm,i+1,σ7,H7,I7.unpinned,T.keep _ _ _ st5 fun b hb o e=>(I7.pin (b,o) (G1 _ (G1 _ (qG1 hb e)))).1,fun b hb=>?_,w7⟩;obtain ⟨o,e,d⟩:=T.obj _ _ st5 b hb;exact (I7.pin (b,o) (G1 _ (G1 _ (qG1 hb e)))).2.1
  cases f with
  | next=>obtain ⟨σ7,H7,I7,n7⟩:=q7;exact again I7 n7
  | cont=>obtain ⟨σ7,H7,I7,n7⟩:=q7;exact again I7 n7
  | brk=>obtain ⟨σ7,H7,I7,q7⟩:=q7;exact ⟨σ7,H7,I7.unpinned,q7⟩
  | ret v=>obtain ⟨x7,σ7,H7,I7,r7,q7⟩:=q7;exact ⟨x7,σ7,H7,I7.unpinned,r7,q7⟩
end
theorem qC6 {K:PySem.W.Frag} {a:Addr} {xs:List V} {g:TG} {tb:TS} {D:Ends} {σ:St} {H:Hp} (Pv:Nat->St->Hp->Prop) (h0:Pv 0 σ H) (hl:∀ i σ H,i<=xs.length->Pv i σ H->SqL K H a xs)
  (hs:∀ i x σ H,xs[i]?=some x->Pv i σ H->g x σ H fun σ2 H2=>tb { D with nx:=Pv (i+1),ct:=Pv (i+1),bk:=D.nx } σ2 H2) (hd:∀ σ H,Pv xs.length σ H->D.nx σ H) :
  ∃ W:Nat->Nat->St->Hp->Prop,(∃ m,W 0 m σ H)/\∀ i m σ H,W i m σ H->
   ((Itl K a).stop i H/\D.nx σ H)\/((Itl K a).go i H/\∃ N:St->Hp->Prop,(∀ σ' H',N σ' H'->∃ m',m'<m/\W (i+1) m' σ' H')/\∀ x H',(Itl K a).yld i H x H'->g x σ H' fun σ2 H2=>tb { D with nx:=N,ct:=N,bk:=D.nx } σ2 H2):=by
 refine ⟨fun i m σ H=>m=xs.length - i/\i<=xs.length/\Pv i σ H,⟨xs.length,by simp,D7 _,h0⟩,?_⟩
 rintro i m σ H ⟨rfl,hi,p⟩;have q:=hl i σ H hi p;by_cases hlt:i<xs.length
 ·refine .inr ⟨⟨xs,xs[i],q,by simp [hlt]⟩,Pv (i+1),fun σ' H' p'=>⟨xs.length - (i+1),by omega,rfl,hlt,p'⟩,fun x H' y=>?_⟩
  obtain ⟨e,y⟩:=y;subst e;exact hs i x σ _ (y xs q) p
 ·have e:i=xs.length:=by omega
  subst e;exact .inl ⟨⟨xs,q,B0 _⟩,hd σ H p⟩
theorem qEV {K:PySem.W.Frag} {a:Addr} {xs:List V} {g:TG} {tb:TS} {D:Ends} {σ:St} {H:Hp} (Pv:Nat->St->Hp->Prop) (h0:Pv 0 σ H) (hl:∀ i σ H,i<=xs.length->Pv i σ H->SqT K H a xs)
  (hs:∀ i x σ H,xs[i]?=some x->Pv i σ H->g x σ H fun σ2 H2=>tb { D with nx:=Pv (i+1),ct:=Pv (i+1),bk:=D.nx } σ2 H2) (hd:∀ σ H,Pv xs.length σ H->D.nx σ H) :
  ∃ W:Nat->Nat->St->Hp->Prop,(∃ m,W 0 m σ H)/\∀ i m σ H,W i m σ H->
   ((Itt K a).stop i H/\D.nx σ H)\/((Itt K a).go i H/\∃ N:St->Hp->Prop,(∀ σ' H',N σ' H'->∃ m',m'<m/\W (i+1) m' σ' H')/\∀ x H',(Itt K a).yld i H x H'->g x σ H' fun σ2 H2=>tb { D with nx:=N,ct:=N,bk:=D.nx } σ2 H2):=by
 refine ⟨fun i m σ H=>m=xs.length - i/\i<=xs.length/\Pv i σ H,⟨xs.length,by simp,D7 _,h0⟩,?_⟩
 rintro i m σ H ⟨rfl,hi,p⟩;have q:=hl i σ H hi p;by_cases hlt:i<xs.length
 ·refine .inr ⟨⟨xs,xs[i],q,by simp [hlt]⟩,Pv (i+1),fun σ' H' p'=>⟨xs.length - (i+1),by omega,rfl,hlt,p'⟩,fun x H' y=>?_⟩
  obtain ⟨e,y⟩:=y;subst e;exact hs i x σ _ (y xs q) p
 ·have e:i=xs.length:=by omega
  subst e;exact .inl ⟨⟨xs,q,B0 _⟩,hd σ H p⟩
theorem qH3 {lo:Int} {n:Nat} {g:TG} {tb:TS} {D:Ends} {σ:St} {H:Hp} (Pv:Nat->St->Hp->Prop) (h0:Pv 0 σ H)
  (hs:∀ i σ H,i<n->Pv i σ H->g (.int (lo+i)) σ H fun σ2 H2=>tb { D with nx:=Pv (i+1),ct:=Pv (i+1),bk:=D.nx } σ2 H2) (hd:∀ σ H,Pv n σ H->D.nx σ H) :
  ∃ W:Nat->Nat->St->Hp->Prop,(∃ m,W 0 m σ H)/\∀ i m σ H,W i m σ H->
   ((Itr lo n).stop i H/\D.nx σ H)\/((Itr lo n).go i H/\∃ N:St->Hp->Prop,(∀ σ' H',N σ' H'->∃ m',m'<m/\W (i+1) m' σ' H')/\∀ x H',(Itr lo n).yld i H x H'->g x σ H' fun σ2 H2=>tb { D with nx:=N,ct:=N,bk:=D.nx } σ2 H2):=by
 refine ⟨fun i m σ H=>m=n - i/\i<=n/\Pv i σ H,⟨n,by simp,D7 _,h0⟩,?_⟩
 rintro i m σ H ⟨rfl,hi,p⟩;by_cases hlt:i<n
 ·refine .inr ⟨hlt,Pv (i+1),fun σ' H' p'=>⟨n - (i+1),by omega,rfl,hlt,p'⟩,fun x H' y=>?_⟩
  obtain ⟨e,y⟩:=y;subst e y;exact hs i σ _ hlt p
 ·have e:i=n:=by omega
  subst e;exact .inl ⟨B0 _,hd σ H p⟩
abbrev R2:=V->V->Hp->VK->Prop
def OpR (X:Cx) (f:Value->Value->Sem Value) (r:R2):Prop:=
 ∀ (Ab:List (Addr × Obj)) (s:Shared) (σ:St) (H:Hp) (x y:V) (v u:Value) (Q:VK),Inv X Ab σ H s->RelV x v->RelV y u->r x y H Q->
  wpAny (model X.prog X.w) X.A (f v u) (EP X Ab σ Q) X.xe s
def UnR (X:Cx) (f:Value->Sem Value) (r:V->Hp->VK->Prop):Prop:=
 ∀ (Ab:List (Addr × Obj)) (s:Shared) (σ:St) (H:Hp) (x:V) (v:Value) (Q:VK),Inv X Ab σ H s->RelV x v->r x H Q->
  wpAny (model X.prog X.w) X.A (f v) (EP X Ab σ Q) X.xe s
def qCW (X:Cx) (f:Value) (r:List V->Hp->VK->Prop):Prop:=
 ∀ (Ab:List (Addr × Obj)) (s:Shared) (σ:St) (H:Hp) (xs:List V) (us:List Value) (Q:VK),Inv X Ab σ H s->Vals xs us->r xs H Q->
  wpAny (model X.prog X.w) X.A (call f us) (EP X Ab σ Q) X.xe s
def TruR (X:Cx) (r:V->Hp->(Bool->Hp->Prop)->Prop):Prop:=
 ∀ (Ab:List (Addr × Obj)) (s:Shared) (σ:St) (H:Hp) (x:V) (v:Value) (Q:Bool->Hp->Prop),Inv X Ab σ H s->RelV x v->r x H Q->
  wpAny (model X.prog X.w) X.A (truthy v) (TP X Ab σ Q) X.xe s
def tOp (r:R2) (ta tb:TE):TE:=fun σ H Q=>ta σ H fun x H1=>tb σ H1 fun y H2=>r x y H2 Q
def tUn (r:V->Hp->VK->Prop) (ta:TE):TE:=fun σ H Q=>ta σ H fun x H1=>r x H1 Q
def rI (C:Int->Int->Prop) (g:Int->Int->V):R2:=fun x y H Q=>∃ i j,x=.int i/\y=.int j/\C i j/\Q (g i j) H
def rI0 (g:Int->Int->V):R2:=fun x y H Q=>∃ i j,x=.int i/\y=.int j/\Q (g i j) H
def rU (g:Int->V):V->Hp->VK->Prop:=fun x H Q=>∃ i,x=.int i/\Q (g i) H
section
variable {X:Cx} {a b c:Expr} {ta tb tc:TE} {pos:Pos}
theorem binT (ha:PE X a ta) (hb:PE X b tb) {Ab:List (Addr × Obj)} {s:Shared} {σ:St} {H:Hp} {R:V->V->Hp->Prop} (I:Inv X Ab σ H s)
  (h:ta σ H fun x H1=>tb σ H1 fun y H2=>R x y H2) {Q:Value->Shared->Prop} {f:Value->Value->Sem Value}
  (hf:∀ v u s2 x y H2,Inv X Ab σ H2 s2->RelV x v->RelV y u->R x y H2->wpAny (model X.prog X.w) X.A (f v u) Q X.xe s2) :
  wpAny (model X.prog X.w) X.A (eval a X.env) (fun v s₁=>wpAny (model X.prog X.w) X.A (eval b X.env) (fun u s₂=>wpAny (model X.prog X.w) X.A (f v u) Q X.xe s₂) X.xe s₁) X.xe s:=by
 refine thn (ha Ab s σ H _ I h) fun v s1 ⟨x,H1,I1,r1,q1⟩=>?_;refine thn (hb Ab s1 σ H1 _ I1 q1) fun u s2 ⟨y,H2,I2,r2,q2⟩=>?_;exact hf v u s2 x y H2 I2 r1 r2 q2
theorem qAJ {op:Operator} {r:R2} (ho:OpR X (binaryOp op) r) (ha:PE X a ta) (hb:PE X b tb):PE X (.BinOp a op b pos) (tOp r ta tb):=by
 intro Ab s σ H Q I h;exact wpAny_BinOp (binT ha hb I h fun v u s2 x y H2 I2 rx ry q=>ho Ab s2 σ H2 x y v u Q I2 rx ry q)
theorem qKH {op:UnaryOp} {r:V->Hp->VK->Prop} (ho:UnR X (unaryOp op) r) (ha:PE X a ta):PE X (.UnaryOp op a pos) (tUn r ta):=by
 intro Ab s σ H Q I h;exact UnaryOp_ (thn (ha Ab s σ H _ I h) fun v s1 ⟨x,H1,I1,r1,q1⟩=>ho Ab s1 σ H1 x v Q I1 r1 q1)
theorem opI {f:Value->Value->Sem Value} {C:Int->Int->Prop} {g:Int->Int->Int}
  (rule:∀ (i j:Int) (t u:Tok) (s:Shared) (Q:Value->Shared->Prop) (E:Value->Shared->Prop),C i j->Q (.int (g i j) s.toks) { s with toks:=s.toks+1 }->wpAny (model X.prog X.w) X.A (f (.int i t) (.int j u)) Q E s) :
  OpR X f (rI C fun i j=>.int (g i j)):=by
 intro Ab s σ H x y v u Q I rx ry h;obtain ⟨i,j,rfl,rfl,hc,q⟩:=h;obtain ⟨t,rfl⟩:=rx;obtain ⟨t',rfl⟩:=ry;exact rule i j t t' s _ _ hc ⟨.int (g i j),H,I.tok _,⟨_,rfl⟩,q⟩
theorem opI0 {f:Value->Value->Sem Value} {g:Int->Int->Int}
  (rule:∀ (i j:Int) (t u:Tok) (s:Shared) (Q:Value->Shared->Prop) (E:Value->Shared->Prop),Q (.int (g i j) s.toks) { s with toks:=s.toks+1 }->wpAny (model X.prog X.w) X.A (f (.int i t) (.int j u)) Q E s) :
  OpR X f (rI0 fun i j=>.int (g i j)):=by
 intro Ab s σ H x y v u Q I rx ry h;obtain ⟨i,j,rfl,rfl,q⟩:=h;obtain ⟨t,rfl⟩:=rx;obtain ⟨t',rfl⟩:=ry;exact rule i j t t' s _ _ ⟨.int (g i j),H,I.tok _,⟨_,rfl⟩,q⟩
theorem opB0 {f:Value->Value->Sem Value} {g:Int->Int->Bool}
  (rule:∀ (i j:Int) (t u:Tok) (s:Shared) (Q:Value->Shared->Prop) (E:Value->Shared->Prop),Q (.bool (g i j)) s->wpAny (model X.prog X.w) X.A (f (.int i t) (.int j u)) Q E s) :
  OpR X f (rI0 fun i j=>.bl (g i j)):=by
 intro Ab s σ H x y v u Q I rx ry h;obtain ⟨i,j,rfl,rfl,q⟩:=h;obtain ⟨t,rfl⟩:=rx;obtain ⟨t',rfl⟩:=ry;exact rule i j t t' s _ _ ⟨.bl (g i j),H,I,rfl,q⟩
def CDiv (i j:Int):Prop:=0<j/\j<1073741824
def CPow (i j:Int):Prop:=0<=j/\j<=1000000/\i.natAbs<2 ^ 64
def CMul (i j:Int):Prop:=(-(2 ^ 64)<i/\i<2 ^ 64)\/(-(2 ^ 64)<j/\j<2 ^ 64)
theorem CMul.ok {i j:Int} (h:CMul i j):IntMulOk i j:=by
 rcases h with ⟨h1,h2⟩ | ⟨h1,h2⟩
 ·exact .of_left (intBits_le_64 h1 h2)
 ·exact .of_right (intBits_le_64 h1 h2)
theorem qBW:OpR X (binaryOp .Add) (rI0 fun i j=>.int (i+j)):=opI0 fun _ _ _ _ _ _ _ q=>add_int q
theorem qCS:OpR X (binaryOp .Sub) (rI0 fun i j=>.int (i - j)):=opI0 fun _ _ _ _ _ _ _ q=>sub_int q
theorem qKX:OpR X (binaryOp .Mult) (rI CMul fun i j=>.int (i * j)):=opI fun _ _ _ _ _ _ _ hc q=>mul_int q hc.ok
theorem qPM:OpR X (binaryOp .FloorDiv) (rI CDiv fun i j=>.int (i / j)):=opI fun i j _ _ _ _ _ hc q=>by
 have h1:(0:Int)<j:=hc.1;have h2:j<1073741824:=hc.2;exact floordiv_int (by omega) (by rw [m5 i (by omega)];exact q) (.inl (d7 (by omega)))
theorem qJN:OpR X (binaryOp .Mod) (rI (fun _ j=>0<j) fun i j=>.int (i % j)):=opI fun i j _ _ _ _ _ hc q=>by
 have h1:(0:Int)<j:=hc;exact mod_int' (by omega) (by rw [m6 i (by omega)];exact q)
theorem qb1:OpR X (binaryOp .Pow) (rI CPow fun i j=>.int (i ^ j.toNat)):=opI fun _ _ _ _ _ _ _ hc q=>pow_int_small hc.1 hc.2.1 hc.2.2 q
theorem unI {f:Value->Sem Value} {g:Int->Int}
  (rule:∀ (i:Int) (t:Tok) (s:Shared) (Q:Value->Shared->Prop) (E:Value->Shared->Prop),Q (.int (g i) s.toks) { s with toks:=s.toks+1 }->wpAny (model X.prog X.w) X.A (f (.int i t)) Q E s) :
  UnR X f (rU fun i=>.int (g i)):=by
 intro Ab s σ H x v Q I rx h;obtain ⟨i,rfl,q⟩:=h;obtain ⟨t,rfl⟩:=rx;exact rule i t s _ _ ⟨.int (g i),H,I.tok _,⟨_,rfl⟩,q⟩
theorem qG6:UnR X (unaryOp .USub) (rU fun i=>.int (-i)):=unI fun _ _ _ _ _ q=>neg_int q
end
def scal:V->V->Bool
 | .non,.non=>true | .non,.int _=>true | .int _,.non=>true | .non,.bl _=>true | .bl _,.non=>true | .non,.str _=>true | .str _,.non=>true
 | .int _,.int _=>true | .bl _,.bl _=>true | .str _,.str _=>true | .byt _,.byt _=>true
 | .int _,.str _=>true | .str _,.int _=>true | .bl _,.str _=>true | .str _,.bl _=>true
 | _,_=>false
def rEq:R2:=fun x y H Q=>scal x y=true/\Q (.bl (decide (x=y))) H
def rNe:R2:=fun x y H Q=>scal x y=true/\Q (.bl (!decide (x=y))) H
theorem qVD {i j:Int}:decide (V.int i=V.int j)=(i == j):=by
 rw [U2];simp
theorem qY9 {i j:Bool}:decide (V.bl i=V.bl j)=(i == j):=by
 rw [U2];simp
theorem qVC {i j:Str}:decide (V.str i=V.str j)=(i == j):=by
 rw [U2];simp
theorem qVE {i j:Array UInt8}:decide (V.byt i=V.byt j)=(i.toList == j.toList):=by
 rw [U2];cases i;cases j;simp
section
variable {X:Cx} {a b c:Expr} {ta tb tc:TE} {pos:Pos}
theorem qBD {Ab:List (Addr × Obj)} {σ:St} {H:Hp} {s:Shared} {Q:VK} {k k':Bool} (I:Inv X Ab σ H s) (q:Q (.bl k) H) (e:k=k'):EP X Ab σ Q (.bool k') s:=by
 subst e;exact ⟨.bl k,H,I,rfl,q⟩
theorem qGW:OpR X (compareOp .Eq) rEq:=by
 intro Ab s σ H x y v u Q I rx ry h;obtain ⟨hs,q⟩:=h;cases x with
 | non=>
  cases rx;cases y with
  | non=>cases ry;exact PySem.EqNone.eq_none_none (qBD I q (by simp))
  | bl j=>cases ry;exact PySem.EqNone.eq_none_bool (qBD I q (by simp))
  | int j=>obtain ⟨t',rfl⟩:=ry;exact PySem.EqNone.eq_none_int (qBD I q (by simp))
  | str j=>obtain ⟨t',rfl⟩:=ry;exact PySem.EqNone.eq_none_str (qBD I q (by simp))
  | _=>exact absurd (show false=true from hs) C5
 | bl i=>
  cases rx;cases y with
  | non=>cases ry;exact PySem.EqNone.eq_bool_none (qBD I q (by simp))
  | bl j=>cases ry;exact eq_bool (qBD I q qY9)
  | str j=>obtain ⟨t',rfl⟩:=ry;exact PySem.EqMixed.eq_bool_str (qBD I q (by simp))
  | _=>exact absurd (show false=true from hs) C5
 | int i=>
  obtain ⟨t,rfl⟩:=rx;cases y with
  | non=>cases ry;exact PySem.EqNone.eq_int_none (qBD I q (by simp))
  | int j=>obtain ⟨t',rfl⟩:=ry;exact eq_int (qBD I q qVD)
  | str j=>obtain ⟨t',rfl⟩:=ry;exact PySem.EqMixed.eq_int_str (qBD I q (by simp))
  | _=>exact absurd (show false=true from hs) C5
 | str i=>
  obtain ⟨t,rfl⟩:=rx;cases y with
  | non=>cases ry;exact PySem.EqNone.eq_str_none (qBD I q (by simp))
  | bl j=>cases ry;exact PySem.EqMixed.eq_str_bool (qBD I q (by simp))
  | int j=>obtain ⟨t',rfl⟩:=ry;exact PySem.EqMixed.eq_str_int (qBD I q (by simp))
  | str j=>obtain ⟨t',rfl⟩:=ry;exact eq_str (qBD I q qVC)
  | _=>exact absurd (show false=true from hs) C5
 | byt i=>
  obtain ⟨t,rfl⟩:=rx;cases y with
  | byt j=>obtain ⟨t',rfl⟩:=ry;exact PySem.W.eq_bytes (qBD I q qVE)
  | _=>exact absurd (show false=true from hs) C5
 | _=>cases y <;> exact absurd (show false=true from hs) C5
theorem qTW:OpR X (compareOp .NotEq) rNe:=by
 intro Ab s σ H x y v u Q I rx ry h;obtain ⟨hs,q⟩:=h;cases x with
 | non=>
  cases rx;cases y with
  | non=>cases ry;exact PySem.EqNone.ne_none_none (qBD I q (by simp))
  | bl j=>cases ry;exact PySem.EqNone.ne_none_bool (qBD I q (by simp))
  | int j=>obtain ⟨t',rfl⟩:=ry;exact PySem.EqNone.ne_none_int (qBD I q (by simp))
  | str j=>obtain ⟨t',rfl⟩:=ry;exact PySem.EqNone.ne_none_str (qBD I q (by simp))
  | _=>exact absurd (show false=true from hs) C5
 | bl i=>
  cases rx;cases y with
  | non=>cases ry;exact PySem.EqNone.ne_bool_none (qBD I q (by simp))
  | bl j=>cases ry;exact ne_bool (qBD I q (congrArg not qY9))
  | str j=>obtain ⟨t',rfl⟩:=ry;exact PySem.EqMixed.ne_bool_str (qBD I q (by simp))
  | _=>exact absurd (show false=true from hs) C5
 | int i=>
  obtain ⟨t,rfl⟩:=rx;cases y with
  | non=>cases ry;exact PySem.EqNone.ne_int_none (qBD I q (by simp))
  | int j=>obtain ⟨t',rfl⟩:=ry;exact ne_int (qBD I q (congrArg not qVD))
  | str j=>obtain ⟨t',rfl⟩:=ry;exact PySem.EqMixed.ne_int_str (qBD I q (by simp))
  | _=>exact absurd (show false=true from hs) C5
 | str i=>
  obtain ⟨t,rfl⟩:=rx;cases y with
  | non=>cases ry;exact PySem.EqNone.ne_str_none (qBD I q (by simp))
  | bl j=>cases ry;exact PySem.EqMixed.ne_str_bool (qBD I q (by simp))
  | int j=>obtain ⟨t',rfl⟩:=ry;exact PySem.EqMixed.ne_str_int (qBD I q (by simp))
  | str j=>obtain ⟨t',rfl⟩:=ry;exact ne_str (qBD I q (congrArg not qVC))
  | _=>exact absurd (show false=true from hs) C5
 | byt i=>
  obtain ⟨t,rfl⟩:=rx;cases y with
  | byt j=>obtain ⟨t',rfl⟩:=ry;exact PySem.W.ne_bytes (qBD I q (congrArg not qVE))
  | _=>exact absurd (show false=true from hs) C5
 | _=>cases y <;> exact absurd (show false=true from hs) C5
theorem qTX:OpR X (compareOp .Lt) (rI0 fun i j=>.bl (decide (i<j))):=opB0 fun _ _ _ _ _ _ _ q=>lt_int q
theorem qb2:OpR X (compareOp .LtE) (rI0 fun i j=>.bl (decide (i<=j))):=opB0 fun _ _ _ _ _ _ _ q=>le_int q
theorem qZ1:OpR X (compareOp .Gt) (rI0 fun i j=>.bl (decide (j<i))):=opB0 fun _ _ _ _ _ _ _ q=>gt_int q
theorem qWN:OpR X (compareOp .GtE) (rI0 fun i j=>.bl (decide (j<=i))):=opB0 fun _ _ _ _ _ _ _ q=>ge_int q
theorem qB1 (b:Expr) {op:CmpOp} (h:op ≠ .In:=by decide) (h2:op ≠ .NotIn:=by decide):behindInMarks op b=false:=by
 have e1:(op == CmpOp.In)=false:=by cases op <;> first | rfl | exact absurd rfl h
 have e2:(op == CmpOp.NotIn)=false:=by cases op <;> first | rfl | exact absurd rfl h2
 cases b <;> simp [behindInMarks,e1,e2]
theorem qG8 {op:CmpOp} {r:R2} (ho:OpR X (compareOp op) r) (ha:PE X a ta) (hb:PE X b tb) (hm:behindInMarks op b=false):PE X (.Compare a [op] [b] pos) (tOp r ta tb):=by
 intro Ab s σ H Q I h;exact wpAny_Compare1 (binT ha hb I h fun v u s2 x y H2 I2 rx ry q=>ho Ab s2 σ H2 x y v u Q I2 rx ry q) hm
def qbZ (t:TE):TT:=fun σ H Q=>t σ H fun x H'=>∃ k,x=.bl k/\Q k H'
theorem qAS {op:CmpOp} {r:R2} (ho:OpR X (compareOp op) r) (ha:PE X a ta) (hb:PE X b tb) (hm:behindInMarks op b=false):PT X (.Compare a [op] [b] pos) (qbZ (tOp r ta tb)):=by
 intro Ab s σ H Q I h;refine wpAny_isTrue_Compare1 (thn (ha Ab s σ H _ I h) fun v s1 ⟨x,H1,I1,r1,q1⟩=>thn (hb Ab s1 σ H1 _ I1 q1) fun u s2 ⟨y,H2,I2,r2,q2⟩=>
  thn (ho Ab s2 σ H2 x y v u _ I2 r1 r2 q2) fun c s3 ⟨z,H3,I3,r3,k,e,q3⟩=>?_) hm
 subst e;cases r3;exact wpAny_truthy_bool ⟨H3,I3,q3⟩
def TruV (K:PySem.W.Frag) (x:V) (H:Hp) (k:Bool):Prop:=
 match x with
 | .non=>k=false
 | .bl b=>k=b
 | .int i=>k=(i != 0)
 | .str y=>y.length<=sizeLine/\k=((y.length:Int) != 0)
 | .byt y=>y.size<=sizeLine/\k=((y.size:Int) != 0)
 | .ref p=>(∃ xs,SqL K H p xs/\k=!xs.isEmpty)\/(∃ xs,SqT K H p xs/\k=!xs.isEmpty)\/∃ Af,H p=some (.dK Af)/\k=!Af.isEmpty
 | _=>False
theorem qSB {κ:Type} {Af:List (κ × V)} {vs:List (κ × Value)} (r:KV Af vs):(!vs.isEmpty)=!Af.isEmpty:=by
 cases r <;> rfl
theorem qL6 {xs:List V} {its:List Value} (r:Vals xs its):(!its.toArray.isEmpty)=!xs.isEmpty:=by
 cases r <;> simp
theorem qL2:(sizeLine:Nat)<2 ^ 63:=by rw [sizeLine_eq];decide
theorem qa8:TruR X (fun x H Q=>∃ k,TruV X.K x H k/\Q k H):=by
 intro Ab s σ H x v Q I rx h;obtain ⟨k,e,q⟩:=h;have hl:=qL2;have hs:sizeLine=16777216:=sizeLine_eq;cases x with
 | non=>
  cases rx;have e':k=false:=e;subst e';exact truthy_none ⟨H,I,q⟩
 | bl b=>
  cases rx;have e':k=b:=e;subst e';exact wpAny_truthy_bool ⟨H,I,q⟩
 | int i=>
  obtain ⟨t,rfl⟩:=rx;have e':k=(i != 0):=e;subst e';exact PySem.P.truthy_int ⟨H,I,q⟩
 | str y=>
  obtain ⟨t,rfl⟩:=rx;obtain ⟨hy,e'⟩:y.length<=sizeLine/\k=((y.length:Int) != 0):=e;subst e';exact PySem.P.truthy_str (by omega) ⟨H,I.tok _,q⟩
 | byt y=>
  obtain ⟨t,rfl⟩:=rx;obtain ⟨hy,e'⟩:y.size<=sizeLine/\k=((y.size:Int) != 0):=e;subst e';exact PySem.W.truthy_bytes (by omega) ⟨H,I.tok _,q⟩
 | ref p=>
  cases rx;have e':(∃ xs,SqL X.K H p xs/\k=!xs.isEmpty)\/(∃ xs,SqT X.K H p xs/\k=!xs.isEmpty)\/∃ Af,H p=some (.dK Af)/\k=!Af.isEmpty:=e;rcases e' with ⟨xs,hx,e'⟩ | ⟨xs,hx,e'⟩ | ⟨Af,hx,e'⟩
  ·subst e';obtain ⟨its,r,pl,hz⟩:=I.list hx;have hlen:=r.length;exact wpAny_truthy_list pl.isList (by simp only [A7];omega) ⟨H,I.tok _,by rw [qL6 r];exact q⟩
  ·subst e';obtain ⟨its,r,pl,hz⟩:=I.tuple hx;have hlen:=r.length;exact truthy_tuple pl (by simp only [A7];omega) ⟨H,I.tok _,by rw [qL6 r];exact q⟩
  ·subst e';obtain ⟨hz,hS,vs,r,m⟩:Af.length<=sizeLine/\(p == sysModules)=false/\∃ vs,KV Af vs/\s.heap.DictOf (qB8 X.prog X.w) p vs:=I.hok p _ hx;have hlen:Af.length=vs.length:=C6 r;exact wpAny_truthy_dict hS m (by omega) ⟨H,I.tok _,by rw [qSB r];exact q⟩
 | _=>exact (show False from e).elim
theorem qWI (ha:PE X a ta) (he:∀ whole,isTrue a X.env whole=(do let v <- whole;standAt a.pos;holding [v] (truthy v))) :
  PT X a (fun σ H Q=>ta σ H fun x H'=>∃ k,TruV X.K x H' k/\Q k H'):=by
 intro Ab s σ H Q I h;exact isTrue_plain (thn (ha Ab s σ H _ I h) fun v s1 ⟨x,H1,I1,r1,q1⟩=>qa8 Ab s1 σ H1 x v Q I1 r1 q1) (he _)
theorem qDK {x:V} {us:List Value} (r:Vals [x] us):∃ u,us=[u]/\RelV x u:=by
 cases r with
 | cons r1 r2=>cases r2;exact ⟨_,rfl,r1⟩
theorem qMX {x y:V} {us:List Value} (r:Vals [x,y] us):∃ u w',us=[u,w']/\RelV x u/\RelV y w':=by
 cases r with
 | cons r1 r2=>
  cases r2 with
  | cons r3 r4=>cases r4;exact ⟨_,_,rfl,r1,r3⟩
theorem qK7 (hc:X.calm=true):qCW X (.builtin "max") (fun xs H Q=>∃ i j,xs=[.int i,.int j]/\Q (.int (if j > i then j else i)) H):=by
 intro Ab s σ H xs us Q I r h;obtain ⟨i,j,rfl,q⟩:=h;obtain ⟨u,w',rfl,⟨t,rfl⟩,⟨t',rfl⟩⟩:=qMX r;refine max_two_ints (I.ok.hd hc) fun h' tk k=>⟨_,H,I.kept k,?_,q⟩;by_cases hj:j > i
 ·rw [if_pos hj,if_pos hj];exact ⟨_,rfl⟩
 ·rw [if_neg hj,if_neg hj];exact ⟨_,rfl⟩
theorem qON (hc:X.calm=true):qCW X (.builtin "min") (fun xs H Q=>∃ i j,xs=[.int i,.int j]/\Q (.int (if j<i then j else i)) H):=by
 intro Ab s σ H xs us Q I r h;obtain ⟨i,j,rfl,q⟩:=h;obtain ⟨u,w',rfl,⟨t,rfl⟩,⟨t',rfl⟩⟩:=qMX r;refine min_two_ints (I.ok.hd hc) fun h' tk k=>⟨_,H,I.kept k,?_,q⟩;by_cases hj:j<i
 ·rw [if_pos hj,if_pos hj];exact ⟨_,rfl⟩
 ·rw [if_neg hj,if_neg hj];exact ⟨_,rfl⟩
theorem qK8:qCW X (.type "int") (fun xs H Q=>(∃ i,xs=[.int i]/\Q (.int i) H)\/∃ k,xs=[.bl k]/\Q (.int (if k then 1 else 0)) H):=by
 intro Ab s σ H xs us Q I r h;rcases h with ⟨i,rfl,q⟩ | ⟨k,rfl,q⟩
 ·obtain ⟨u,rfl,t,rfl⟩:=qDK r;exact call_int_int ⟨.int i,H,I,⟨_,rfl⟩,q⟩
 ·obtain ⟨u,rfl,r1⟩:=qDK r;cases r1;exact call_int_bool ⟨.int (if k then 1 else 0),H,I.tok _,⟨_,rfl⟩,q⟩
theorem qQ6:qCW X (.builtin "divmod") (fun xs H Q=>∃ i j,xs=[.int i,.int j]/\CDiv i j/\∀ p,H p=none->Q (.ref p) (upd H p (.tup [.int (i / j),.int (i % j)]))):=by
 intro Ab s σ H xs us Q I r h;obtain ⟨i,j,rfl,⟨h1,h2⟩,q⟩:=h;obtain ⟨u,w',rfl,⟨t,rfl⟩,⟨t',rfl⟩⟩:=qMX r;refine divmod_int (by omega) ?_ (.inl (d7 (by omega)))
 rw [m5 i (by omega),m6 i (by omega)]
 have hn:H s.heap.objs.size=none:=I.hok.fresh (B0 _);refine ⟨.ref s.heap.objs.size,_,?_,rfl,q _ hn⟩;refine I.laid (fun b o e=>A2 _ e) (B0 _) ⟨by simp only [D1,b9];rw [sizeLine_eq];decide,[.int (i / j) s.toks,.int (i % j) (s.toks+1)],.cons ⟨_,rfl⟩ (.cons ⟨_,rfl⟩ .nil),?_⟩
 exact ⟨_,B6 s.heap rfl,rfl,0,rfl⟩
end
structure ObjM (h:Heap) (x dx C:Addr) (mA:Str->Option Value):Prop where
 obj:h.get? x=some (A06 C dx)
 ns:h.Ns1 dx mA
 ne:dx ≠ x
theorem qUD {h:Heap} {dx:Addr} {mA:Str->Option Value} (n:h.Ns1 dx mA):∃ od,h.get? dx=some od/\∀ name,A21 name od=some (mA name):=by
 obtain ⟨o,es,ep,ho,hd,hk,_,hm⟩:=n;refine ⟨o,ho,fun name=>?_⟩;have e:=hm name;unfold nsFind findBy at e;rw [<- Array.find?_toList] at e;unfold A21;rw [hd];dsimp only
 split
 ·rename_i y q
  rw [q] at e;exact congrArg some e
 ·rename_i q
  rw [q] at e;have a:es.toList.any (·.refKey)=false:=by
   rw [A47];intro y hy;obtain ⟨z,t,hkey⟩:=hk y (Array.mem_toList_iff.mp hy);simp [DictEntry.refKey,hkey]
  have a':¬ es.toList.any (·.refKey)=true:=by rw [a];exact C5
  rw [if_neg a'];exact congrArg some e
theorem ObjM.look {h:Heap} {x dx C:Addr} {mA:Str->Option Value} (I:ObjM h x dx C mA):∃ od,PySem.W.InstAt h x (A06 C dx) C (some od)/\∀ name,A21 name od=some (mA name):=
 let ⟨od,ho,hl⟩:=qUD I.ns
 ⟨od,⟨I.obj,rfl,rfl,ho⟩,hl⟩
section
variable {prog:Program} {w:World} {A:Around} {E:Value->Shared->Prop} {s:Shared} {K:PySem.W.Frag} {x dx C f:Addr} {mA:Str->Option Value} {name:Str} {v:Value}
end
theorem RelO.some_of {v:V} {o:Option Value} (r:RelO (some v) o):∃ u,o=some u/\RelV v u:=by
 cases o with
 | none=>exact (show False from r).elim
 | some u=>exact ⟨u,rfl,r⟩
section
variable {P:Program} {w:World} {H H':Hp} {h h':Heap} {a C dx:Addr} {fs fs':List (Str × V)}
theorem qZN (hok:HOk P w H h) (e:H a=some (.ins C dx fs)):∃ mA,ObjM h a dx C mA/\(∀ f,RelO (fs.lookup f) (mA f))/\PySem.Within mA (fs.map (·.1))/\fs.length<=1000/\H dx=some (.own a):=by
 obtain ⟨d,z,ne,ob,mA,n,r,q⟩:=(show ObjOk P w H h a (.ins C dx fs) from hok a _ e);exact ⟨mA,⟨ob,n,ne⟩,r,q,z,d⟩
end
structure Cls (K:PySem.W.Frag) (C:Addr):Prop where
 pg:A61 K C R8=true
 hd:A48 K C=true
 po:PySem.W.plainOver K C=true
 sa:T9 K (.ref C) "__setattr__" = some (some (.builtin "object.__setattr__"))
theorem Cls.get {K:PySem.W.Frag} {C:Addr} (c:Cls K C) (f:Str):A61 K C f=true:=c.pg
structure Con (K:PySem.W.Frag) (C:Addr) (f:Str) (v:V) (u:Value):Prop where
 at_:T9 K (.ref C) f=some (some u)
 rel:RelV v u
 get:o9 K u "__get__" = some none
 cp:PySem.W.copiedNames.contains f=false
structure Meth (K:PySem.W.Frag) (C:Addr) (m:Str) (f:Addr):Prop where
 at_:T9 K (.ref C) m=some (some (.ref f))
 fn:A96 K (.ref f)=true
 kp:P8 K (.ref f)=true
section
variable {X:Cx} {Ab:List (Addr × Obj)} {σ:St} {H:Hp} {s:Shared} {a C dx:Addr} {fs:List (Str × V)} {f:Str} {v:V} {A:Around} {E:Value->Shared->Prop}
end
section
variable {X:Cx} {o e value:Expr} {f:Str} {pos pos' tpos:Pos} {ta tv:TE}
end
section
variable {X:Cx} {Ab:List (Addr × Obj)} {σ:St} {H:Hp} {s:Shared} {A:Around} {E:Value->Shared->Prop} {Q:Value->Shared->Prop} {c:Value} {b:Bool}
inductive TyOf (K:PySem.W.Frag) (H:Hp):V->Value->Prop where
 | non:TyOf K H .non (.type "NoneType")
 | bl (x:Bool):TyOf K H (.bl x) (.type "bool")
 | int (i:Int):TyOf K H (.int i) (.type "int")
 | str (x:Str):TyOf K H (.str x) (.type "str")
 | flt (x:UInt64):TyOf K H (.flt x) (.type "float")
 | lst {a:Addr} {xs:List V} (e:H a=some (.lst xs)):TyOf K H (.ref a) (.type "list")
 | frz {a:Addr} {o:Obj} {xs:List V} (e:H a=some (.frz o (.lst xs))):TyOf K H (.ref a) (.type "list")
 | tup {a:Addr} {xs:List V} (e:H a=some (.tup xs)):TyOf K H (.ref a) (.type "tuple")
 | dK {a:Addr} {Af:List (Key × V)} (e:H a=some (.dK Af)):TyOf K H (.ref a) (.type "dict")
 | dT {a:Addr} {Af:List (List Key × V)} (e:H a=some (.dT Af)):TyOf K H (.ref a) (.type "dict")
 | ins {a C dx:Addr} {fs:List (Str × V)} (e:H a=some (.ins C dx fs)) (cl:Cls K C) (ha:T9 K (.ref C) "__class__" = some (some (.builtin "object.__class__")))
   (hn:o9 K (.builtin "object.__class__") "__get__" = some (some (.builtin "getset_descriptor.__get__"))) (htk:A68 K (.builtin "object.__class__")=some true)
   (hm:A36 K C (.type "object")=some true):TyOf K H (.ref a) (.ref C)
theorem qUL {x:V} {u t:Value} (I:Inv X Ab σ H s) (rx:RelV x u) (ty:TyOf X.K H x t) (e:P1 X.K t c=some b) (h:∀ tk,Q (.bool b) { s with toks:=tk }) :
  wpAny (model X.prog X.w) A (call (.builtin "isinstance") [u,c]) Q E s:=by
 cases ty with
 | non=>cases (show u=U0 from rx);exact P9 PySem.W.kitx_none I.kIn U7 e (fun z=>nomatch z) h
 | bl y=>cases (show u=Q4 y from rx);exact P9 PySem.W.kitx_bool I.kIn U7 e (fun z=>nomatch z) h
 | int i=>obtain ⟨t,q⟩:=(show ∃ t,u=G8 i t from rx);cases q;exact P9 PySem.W.kitx_int I.kIn U7 e (fun z=>nomatch z) h
 | str y=>obtain ⟨t,q⟩:=(show ∃ t,u=A32 y t from rx);cases q;exact P9 PySem.W.kitx_str I.kIn U7 e (fun z=>nomatch z) h
 | flt y=>obtain ⟨t,q⟩:=(show ∃ t,u=Value.float y t from rx);cases q;exact P9 PySem.W.kitx_float I.kIn U7 e (fun z=>nomatch z) h
 | @lst a xs ea=>
  cases (show u=C9 a from rx);obtain ⟨_,_,n,_,h1⟩:=(show ObjOk X.prog X.w H s.heap a (.lst xs) from I.hok a _ ea);exact P9 A49 I.kIn ⟨_,h1,rfl⟩ e (fun z=>nomatch z) h
 | @frz a ob xs ea=>
  cases (show u=C9 a from rx);obtain ⟨_,_,_,n,_,h1⟩:=(show ObjOk X.prog X.w H s.heap a (.frz ob (.lst xs)) from I.hok a _ ea);exact P9 A49 I.kIn ⟨_,h1,rfl⟩ e (fun z=>nomatch z) h
 | @tup a xs ea=>
  cases (show u=C9 a from rx);obtain ⟨_,_,_,p⟩:=(show ObjOk X.prog X.w H s.heap a (.tup xs) from I.hok a _ ea);obtain ⟨o,h1,h2,_⟩:=p;exact P9 PySem.W.kitx_tuple I.kIn ⟨o,h1,h2⟩ e (fun z=>nomatch z) h
 | @dK a Af ea=>
  cases (show u=C9 a from rx);obtain ⟨_,_,vs,_,p⟩:=(show ObjOk X.prog X.w H s.heap a (.dK Af) from I.hok a _ ea);obtain ⟨o,es,ep,h1,h2,_⟩:=p;exact P9 A50 I.kIn ⟨o,h1,h2.1⟩ e (fun z=>nomatch z) h
 | @dT a Af ea=>
  cases (show u=C9 a from rx);obtain ⟨_,_,xs,_,o,es,ep,h1,h2,_⟩:=(show ObjOk X.prog X.w H s.heap a (.dT Af) from I.hok a _ ea);exact P9 A50 I.kIn ⟨o,h1,h2.1⟩ e (fun z=>nomatch z) h
 | @ins a C dx fs ea cl ha hn htk hm=>
  cases (show u=C9 a from rx);obtain ⟨mA,O,_⟩:=qZN I.hok ea;obtain ⟨od,J,_⟩:=O.look;exact P9 (PySem.W.kitx_own (cl.get _) cl.hd ha hn htk hm) I.kIn J e (fun z=>nomatch z) h
end
structure Room (k:Nat) (A:Around):Prop where
 hd:A.handled=none
 dp:A.depth+3 * k+5<recursionLimit
 un:A.units+16 * k+200<cLine
 gd:A.guards=some []
theorem Room.mono {j k:Nat} {A:Around} (r:Room k A) (h:j<=k):Room j A:=⟨r.hd,by have:=r.dp;omega,by have:=r.un;omega,r.gd⟩
theorem Room.deeper {k:Nat} {A:Around} (r:Room (k+1) A) (env:Env):Room k (A.deeper env):=
 ⟨r.hd,by have:=r.dp;show A.depth+1+3 * k+5<_;omega,by have:=r.un;show A.units+3+16 * k+200<_;omega,r.gd⟩
theorem Room.in1 {k:Nat} {A:Around} (r:Room (k+1) A):Room k A.in1:=
 ⟨r.hd,by have:=r.dp;show A.depth+3 * k+5<_;omega,by have:=r.un;show A.units+1+16 * k+200<_;omega,r.gd⟩
theorem Room.depth {k:Nat} {A:Around} (r:Room k A):A.depth<recursionLimit:=by have:=r.dp;omega
theorem Room.units {k:Nat} {A:Around} (r:Room k A):A.units+64<cLine:=by have:=r.un;omega
theorem Room.units0 {k:Nat} {A:Around} (r:Room k A):A.units<cLine:=by have:=r.un;omega
def tNil:TA:=fun _ H Q=>Q [] H
def qaF (ta:TE) (tr:TA):TA:=fun σ H Q=>ta σ H fun x H1=>tr σ H1 fun xs H2=>Q (x::xs) H2
section
variable {X:Cx} {e:Expr} {es:List Expr} {te:TE} {t:TA} {pos:Pos}
theorem qA3:PA X [] tNil:=fun _ _ _ _ H Q I h=>A51 ⟨[],H,I,.nil,h⟩
theorem qA0 (ha:PE X e te) (hr:PA X es t) (hs:starEach (e::es) X.env=(false,eval e X.env)::starEach es X.env:=by rfl):PA X (e::es) (qaF te t):=by
 intro pos Ab s σ H Q I h;rw [hs];show wpAny _ _ (spliced ((false,eval e X.env)::backTo pos (starEach es X.env))) _ _ s;refine A37 (thn (ha Ab s σ H _ I h) fun u s1 ⟨x,H1,I1,r1,q1⟩=>?_);exact thn (hr pos Ab s1 σ H1 _ I1 q1) fun us s2 ⟨xs,H2,I2,r2,q2⟩=>⟨x::xs,H2,I2,.cons r1 r2,q2⟩
def tTup (t:TA):TE:=fun σ H Q=>t σ H fun xs H1=>xs.length<=sizeLine/\∀ p,H1 p=none->Q (.ref p) (upd H1 p (.tup xs))
def tLst (t:TA):TE:=fun σ H Q=>t σ H fun xs H1=>xs.length<=sizeLine/\∀ p,H1 p=none->Q (.ref p) (upd H1 p (.lst xs))
theorem qCM {x1} (h:PA X es t):PE X (.Tuple es x1 pos) (tTup t):=by
 intro Ab s σ H Q I hq;refine wpAny_Tuple_spliced (thn (h pos Ab s σ H _ I hq) fun us s1 ⟨xs,H1,I1,r,z,q⟩=>⟨by rw [<- r.length];exact z,?_⟩)
 have hf:H1 s1.heap.objs.size=none:=I1.hok.fresh (B0 _);refine ⟨.ref s1.heap.objs.size,upd H1 s1.heap.objs.size (.tup xs),I1.laid (t':=s1.toks) (fun b u e=>A2 _ e) (B0 _) ?_,rfl,q _ hf⟩;exact ⟨z,us,r,⟨_,B6 _ rfl,rfl,_,rfl⟩⟩
theorem qBA (h:PA X es t):PE X (.List es pos) (tLst t):=by
 intro Ab s σ H Q I hq;refine wpAny_List_spliced (thn (h pos Ab s σ H _ I hq) fun us s1 ⟨xs,H1,I1,r,z,q⟩=>⟨by rw [<- r.length];exact z,?_⟩)
 have hf:H1 s1.heap.objs.size=none:=I1.hok.fresh (B0 _);refine ⟨.ref s1.heap.objs.size,upd H1 s1.heap.objs.size (.lst xs),I1.laid (t':=s1.toks) (fun b u e=>A2 _ e) (B0 _) ?_,rfl,q _ hf⟩;exact ⟨z,us,0,r,B6 _ rfl⟩
end
abbrev Sp:=List V->Hp->VK->XK->Prop
abbrev CXT:=List Env->Hp->Shared->XK->Value->Shared->Prop
structure Env0 (P:Program) (w:World) (K:PySem.W.Frag) (mg:Str->Option Value) (base:Heap) (A:Around) (outer:List Env) (s:Shared) (H:Hp):Prop where
 frames:A.frames=some outer
 mod:Mod K mg base
 bs:∀ b o,base.get? b=some o->s.heap.get? b=some o/\H b=none
 bsz:base.objs.size<=s.heap.objs.size
 funs:s.heap.FunFrames base outer
 frf:∀ b ∈ frs outer,H b=none
 hok:HOk P w H s.heap
 bare:AllBare s.gens
def CE (outer:List Env) (P:Program) (w:World) (H:Hp) (s:Shared) (Q:VK) (u:Value) (s':Shared):Prop:=
 ∃ v H',s'.os=s.os/\AllBare s'.gens/\Un (frs outer) [] H H' s.heap s'.heap/\HOk P w H' s'.heap/\RelV v u/\Q v H'
def CR (CX:CXT) (outer:List Env) (P:Program) (w:World) (H:Hp) (s:Shared) (Q:VK) (E:XK) (r:Result) (s':Shared):Prop:=
 match r with
 | .ok (.ret u)=>CE outer P w H s Q u s'
 | .ok _=>False
 | .error e=>CX outer H s E e s'
structure FnOk (P:Program) (w:World) (K:PySem.W.Frag) (mg:Str->Option Value) (base:Heap) (CX:CXT) (k:Nat) (f:Addr) (fd:FuncData) (ps:List Str) (sp:Sp):Prop where
 len:∀ vs H Q E,sp vs H Q E->vs.length=ps.length
 run:∀ (A:Around) (outer:List Env) (s:Shared) (H:Hp) (args:Args) (us:List Value) (vs:List V) (Q:VK) (E:XK),Room k A->Env0 P w K mg base A outer s H->BindsTo s fd args (ps.zip us)->Vals vs us->sp vs H Q E->
  codeAny (model P w) A (.call (.ref f) args) (CR CX outer P w H s Q E) s
section
variable {X:Cx} {Ab:List (Addr × Obj)} {σ:St} {H:Hp} {s s':Shared}
theorem Inv.env0 (I:Inv X Ab σ H s):Env0 X.prog X.w X.K X.mg X.base X.A X.stack s H:=
 ⟨I.ok.frames,I.ok.mod,I.bs,L6 I.ok.bsz I.sz,I.stack,I.stkFree,I.hok,I.bare⟩
theorem Inv.after {Q:VK} {u:Value} (I:Inv X Ab σ H s) (h:CE X.stack X.prog X.w H s Q u s'):EP X Ab σ Q u s':=by
 obtain ⟨v,H',os,bare,un,hok,r,q⟩:=h;obtain ⟨hh,g,d,t,os'⟩:=s';obtain rfl:os'=s.os:=os;exact ⟨v,H',I.call (h':=hh) (g':=g) (d':=d) (t':=t) (ch:=[]) un hok bare (fun b z=>absurd z (by simp)),r,q⟩
end
def qaG (sp:Sp) (dvs:List V) (E:XK) (t:TA):TE:=fun σ H Q=>t σ H fun vs H1=>sp (vs++dvs) H1 Q E
def Binds (K:PySem.W.Frag) (fd:FuncData) (ps:List Str) (ds:List Value):Prop:=
 ∀ (s:Shared) (us:List Value),K.In s.heap->(us++ds).length=ps.length->BindsTo s fd ⟨us,[]⟩ (ps.zip (us++ds))
theorem Binds.all {K:PySem.W.Frag} {fd:FuncData} {ps:List Str} (h:∀ us:List Value,us.length=ps.length->bindArgs fd ⟨us,[]⟩=pure (ps.zip us)):Binds K fd ps []:=fun s us _ hl=>by
 rw [W3] at hl ⊢;exact .of_eq (h us hl)
def qW2 (CX:CXT) (X:Cx) (E:XK):Prop:=∀ (Ab:List (Addr × Obj)) (σ:St) (H:Hp) (s:Shared) (e:Value) (s':Shared),Inv X Ab σ H s->CX X.stack H s E e s'->X.xe e s'
section
variable {X:Cx} {CX:CXT} {k:Nat} {f C:Addr} {fd:FuncData} {ps:List Str} {sp:Sp} {dvs:List V} {ds:List Value} {E:XK} {x m:Str} {p pos apos:Pos} {e o:Expr} {es:List Expr} {ta:TE} {t:TA}
theorem qaQ {Ab:List (Addr × Obj)} {σ:St} {H:Hp} {s:Shared} {Q:VK} {us:List Value} {vs:List V} (F:FnOk X.prog X.w X.K X.mg X.base CX k f fd ps sp) (hr:Room k X.A) (hb:Binds X.K fd ps ds) (hd:Vals dvs ds) (hx:qW2 CX X E)
  (I:Inv X Ab σ H s) (r:Vals vs us) (h:sp (vs++dvs) H Q E):wpAny (model X.prog X.w) X.A (call (.ref f) us) (EP X Ab σ Q) X.xe s:=by
 have r2:Vals (vs++dvs) (us++ds):=r.append hd;have hl:(us++ds).length=ps.length:=by rw [<- r2.length];exact F.len _ _ _ _ h
 refine wpAny_call (codeAny_mono (F.run X.A X.stack s H ⟨us,[]⟩ (us++ds) (vs++dvs) Q E hr I.env0 (hb s us I.kIn hl) r2 h) fun r s' hq=>?_);cases r with
 | error e=>exact hx Ab σ H s e s' I hq
 | ok fl=>
  cases fl with
  | ret u=>exact I.after hq
  | next=>exact X2 hq
  | brk=>exact X2 hq
  | cont=>exact X2 hq
theorem qTQ (F:FnOk X.prog X.w X.K X.mg X.base CX k f fd ps sp) (hr:Room k X.A) (hg:Gl X x) (hm:X.mg x=some (.ref f)) (hk:P8 X.K (.ref f)=true) (hb:Binds X.K fd ps ds) (hd:Vals dvs ds) (hx:qW2 CX X E)
  (ha:PA X (e::es) t) (hdb:(x == ("__debug__" : Str))=false:=by decide) (he:starEach (e::es) X.env=(false,eval e X.env)::starEach es X.env:=by rfl) (hpl:(backTo pos (starEach es X.env)).any (·.1)=false:=by rfl) :
  PE X (.Call (.Name x p) (e::es) [] pos) (qaG sp dvs E t):=by
 intro Ab s σ H Q I h;refine wpAny_Call_Name_kw (qZF I hg hm ?_ hdb);refine PySem.W.callWith_K (h₀:=X.base) I.ok.mod.kin hk (thn (ha pos Ab s σ H _ I h) fun us s1 ⟨vs,H1,I1,r,q⟩=>⟨I1.kIn,?_⟩) he hpl;exact qaQ F hr hb hd hx I1 r q
structure Mk (K:PySem.W.Frag) (C f:Addr):Prop where
 makes:PySem.W.makesIn K C=true
 init:T9 K (.ref C) "__init__" = some (some (.ref f))
 fn:A96 K (.ref f)=true
 kp:P8 K (.ref C)=true
end
def PK (X:Cx) (kws:List Keyword) (t:TA):Prop:=
 ∀ (pos:Pos) (Ab:List (Addr × Obj)) (s:Shared) (σ:St) (H:Hp) (Q:List V->Hp->Prop),Inv X Ab σ H s->t σ H Q->wpAny (model X.prog X.w) X.A (evalAll ((backToKw pos (keywordEach kws X.env)).map (·.2))) (AP X Ab σ Q) X.xe s
section
variable {X:Cx} {CX:CXT} {k:Nat} {f C:Addr} {fd:FuncData} {ps ks:List Str} {sp:Sp} {E:XK} {x m:Str} {p pos apos kpos:Pos} {e o:Expr} {es:List Expr} {kws:List Keyword} {te ta:TE} {t tk:TA} {nm:Option Str}
theorem qTH:PK X [] tNil:=fun _ _ _ _ H Q I h=>wpAny_evalAll_nil ⟨[],H,I,.nil,h⟩
theorem qPH (ha:PE X e te) (hr:PK X kws t):PK X (⟨nm,e,kpos⟩::kws) (qaF te t):=by
 intro pos Ab s σ H Q I h;show wpAny _ _ (evalAll ((do let v <- eval e X.env;standAt pos;pure v)::(backToKw pos (keywordEach kws X.env)).map (·.2))) _ _ s
 refine wpAny_evalAll_cons (wpAny_bind (thn (ha Ab s σ H _ I h) fun u s1 ⟨x,H1,I1,r1,q1⟩=>wpAny_bind (wpAny_standAt (wpAny_pure ?_))));exact thn (hr pos Ab s1 σ H1 _ I1 q1) fun us s2 ⟨xs,H2,I2,r2,q2⟩=>⟨x::xs,H2,I2,.cons r1 r2,q2⟩
structure KBinds (K:PySem.W.Frag) (fd:FuncData) (ps ks:List Str) (g:List Value->List Value->List Value) (gV:List V->List V->List V):Prop where
 to:∀ (s:Shared) (us ws:List Value),K.In s.heap->(g us ws).length=ps.length->BindsTo s fd ⟨us,ks.zip ws⟩ (ps.zip (g us ws))
 rel:∀ {vs:List V} {us:List Value} {zs:List V} {ws:List Value},Vals vs us->Vals zs ws->Vals (gV vs zs) (g us ws)
variable {g:List Value->List Value->List Value} {gV:List V->List V->List V}
end
structure FnScope (N P:List Str) (sc:Scope):Prop where
 kind:sc.kind=.function
 co:sc.isCoroutine=false
 gen:sc.isGenerator=false
 nd:N.Nodup
 pre:N.take P.length=P
 par:∀ x ∈ P,sc.names.lookup x=some .local\/sc.names.lookup x=some .cell
 nofree:∀ y ∈ sc.names,y.2 ≠ .free
theorem qOR {kindOf:Str->Option NameKind} {x:Str}:∀ {binds:List (Str × Value)} {m:Str->Option Value},(∀ v,(x,v) ∉ binds)->bindL kindOf binds m x=m x
 | [],_,_=>rfl
 | (n,v)::r,m,h=>by
  unfold bindL;rw [qOR fun w hw=>h w (A5 _ hw)]
  split
  ·have:x ≠ n:=by rintro rfl;exact h v A8
   simp [this]
  ·rfl
theorem qOT {kindOf:Str->Option NameKind} {x:Str}:∀ {binds:List (Str × Value)} {m:Str->Option Value},(∀ v,(x,v) ∉ binds)->bindC kindOf binds m x=m x
 | [],_,_=>rfl
 | (n,v)::r,m,h=>by
  unfold bindC;rw [qOT fun w hw=>h w (A5 _ hw)]
  split
  ·rfl
  ·have:x ≠ n:=by rintro rfl;exact h v A8
   simp [this]
theorem qOS {kindOf:Str->Option NameKind} {x:Str} {v:Value}:∀ {P:List Str} {vs:List Value} {i:Nat} {m:Str->Option Value},P.Nodup->P[i]?=some x->vs[i]?=some v->kindOf x=some .local->
  bindL kindOf (P.zip vs) m x=some v
 | [],_,_,_,_,h,_,_=>by simp at h
 | _::_,[],_,_,_,_,h,_=>by simp at h
 | p::P,w::vs,0,m,nd,h1,h2,hk=>by
  simp at h1 h2;subst h1;subst h2;show bindL kindOf ((p,w)::P.zip vs) m p=_;unfold bindL;rw [qOR fun v hv=>(G9.mp nd).1 (c6 hv).1,if_pos hk];simp
 | p::P,w::vs,i+1,m,nd,h1,h2,hk=>by
  show bindL kindOf ((p,w)::P.zip vs) m x=_;unfold bindL;exact qOS (i:=i) (G9.mp nd).2 (by simpa using h1) (by simpa using h2) hk
theorem qOU {kindOf:Str->Option NameKind} {x:Str} {v:Value}:∀ {P:List Str} {vs:List Value} {i:Nat} {m:Str->Option Value},P.Nodup->P[i]?=some x->vs[i]?=some v->kindOf x ≠ some .local->
  bindC kindOf (P.zip vs) m x=some v
 | [],_,_,_,_,h,_,_=>by simp at h
 | _::_,[],_,_,_,_,h,_=>by simp at h
 | p::P,w::vs,0,m,nd,h1,h2,hk=>by
  simp at h1 h2;subst h1;subst h2;show bindC kindOf ((p,w)::P.zip vs) m p=_;unfold bindC;rw [qOT fun v hv=>(G9.mp nd).1 (c6 hv).1,if_neg hk];simp
 | p::P,w::vs,i+1,m,nd,h1,h2,hk=>by
  show bindC kindOf ((p,w)::P.zip vs) m x=_;unfold bindC;exact qOU (i:=i) (G9.mp nd).2 (by simpa using h1) (by simpa using h2) hk
def qLK (N:List Str) (vs:List V):St:=vs.map some++C4 (N.length - vs.length) none
def cxOf (CX:CXT) (P:Program) (w:World) (K:PySem.W.Frag) (mg:Str->Option Value) (base:Heap) (N:List Str) (qual:Str) (scope:Scope) (f:Addr) (cd:Value) (A:Around) (outer:List Env) (s:Shared) (H:Hp) (E:XK):Cx where
 prog:=P
 w:=w
 K:=K
 mg:=mg
 base:=base
 A:=A.deeper (envOfC qual scope s.heap.objs.size f cd)
 N:=N
 s₀:=s
 H₀:=H
 env:=envOfC qual scope s.heap.objs.size f cd
 outer:=outer
 stack:=envOfC qual scope s.heap.objs.size f cd::outer
 ex:=[]
 calm:=true
 fn:=fun _=>true
 pn:=[]
 xe:=fun e s'=>wpAny (model P w) (A.deeper (envOfC qual scope s.heap.objs.size f cd)) (leaving (envOfC qual scope s.heap.objs.size f cd) e) (fun _ s''=>CX outer H s E e s'') (fun e' s''=>CX outer H s E e' s'') s'
theorem qRK {sc:Scope} {n:Nat} {x:Str} (h:sc.names.lookup x=some .cell):∃ c,(cellsFrom n sc.names []).lookup x=some c:=by
 have q:=A02 sc.names n [] (.inl h);exact W4.mp q
theorem qUN {CX:CXT} {P:Program} {w:World} {K:PySem.W.Frag} {mg:Str->Option Value} {base:Heap} {N ps:List Str} {qual:Str} {scope:Scope} {f:Addr} {cd:Value} {A:Around} {outer:List Env} {s s1:Shared} {H:Hp} {E:XK} {us:List Value} {vs:List V}
  (S:FnScope N ps scope) (hd:A.handled=none) (e0:Env0 P w K mg base A outer s H) (hl:vs.length=ps.length) (r:Vals vs us)
  (x:InCallC s s.heap.objs.size (bindL (envOfC qual scope s.heap.objs.size f cd).kindOf (ps.zip us) fun _=>none) (cellsFrom (s.heap.objs.size+1) scope.names []) (bindC (envOfC qual scope s.heap.objs.size f cd).kindOf (ps.zip us) fun _=>none) s1) :
  Inv (cxOf CX P w K mg base N qual scope f cd A outer s H E) [] (qLK N vs) H s1:=by
 have hpl:ps.length<=N.length:=by have:=congrArg u9 S.pre;rw [D4] at this;omega
 obtain ⟨h1,tk,rfl,hk⟩:=x.done;have noA:∀ b:Addr,b ∉ (cxOf CX P w K mg base N qual scope f cd A outer s H E).ex:=fun b z=>absurd (show b ∈ ([]:List Addr) from z) (by simp)
 refine ⟨⟨e0.mod,S.kind,rfl,rfl,B0 _,fun y z c h1 h2=>?_,fun y hy=>?_,fun y c _ h=>?_,fun _=>hd,A18 e0.frames,.inr ⟨rfl,rfl⟩,fun b z=>absurd z (noA b),e0.bs,e0.bsz,fun b _ _=>noA b,fun b z=>absurd z (noA b),e0.funs,e0.frf⟩,
  rfl,e0.bare,Un.kept hk,⟨_,x.toInCall.ns,fun i y v h1 h2 h3=>?_⟩,fun y c h=>⟨_,x.cell y c h⟩,e0.hok.fresh (B0 _),fun y c h=>?_,fun p hp=>absurd (show p ∈ ([]:List (Addr × Obj)) from hp) (by simp),e0.hok.kept hk,?_⟩
 ·exact name_of_addr x.apart (M9 h1) (M9 h2)
 ·have hy:scope.names.lookup y=some .cell\/scope.names.lookup y=some .free:=hy;rcases hy with hy | hy
  ·exact qRK hy
  ·exact absurd rfl (S.nofree _ (M9 hy))
 ·exact R1 (x.above y c (M9 h))
 ·have hi:i<vs.length:=by
   unfold qLK at h2;by_cases hi:i<vs.length
   ·exact hi
   ·rw [G7 (by simpa using hi)] at h2
    rw [List.getElem?_replicate] at h2
    split at h2 <;> cases h2
  have ha:vs[i]?=some v:=by
   unfold qLK at h2;rw [E4 (by simpa using hi),B7] at h2
   cases e:vs[i]? with
   | none=>rw [e] at h2;cases h2
   | some a=>rw [e] at h2;cases h2;rfl
  obtain ⟨u,hu,rv⟩:=r.get ha;have hp:ps[i]?=some y:=by
   rw [<- S.pre,Z7 (by omega)];exact h1
  have ndP:ps.Nodup:=by rw [<- S.pre];exact S.nd.sublist (W5 _ _)
  refine ⟨u,rv,?_⟩;rcases S.par y (B8 hp) with k | k
  ·exact .inl ⟨k,qOS ndP hp hu k⟩
  ·obtain ⟨c,e⟩:=qRK (n:=s.heap.objs.size+1) k;refine .inr ⟨.inl k,c,e,?_⟩;have q:=x.cell y c e;rw [qOU ndP hp hu (by show scope.names.lookup y ≠ _;rw [k];decide)] at q
   exact q
 ·exact e0.hok.fresh (R1 (x.above y c (M9 h)))
 ·unfold qLK;show _=N.length;rw [A6,A0,O8];omega
theorem qbN {CX:CXT} {P:Program} {w:World} {K:PySem.W.Frag} {mg:Str->Option Value} {base:Heap} {k:Nat} {f:Addr} {name qual:Str} {params:Arguments} {body:List Stmt} {scope:Scope} {dV kV doc pm cdv ct oc:Value} {an od:Option Addr}
  {osl:Array (Option Value)} {N ps:List Str} {sp:Sp} (lk:K.lookup f=some ⟨oc,od,.func (V2 name qual params body scope dV kV doc pm an cdv ct),osl⟩) (hcd:Z0 K cdv qual=true) (S:FnScope N ps scope)
  (len:∀ vs H Q E,sp vs H Q E->vs.length=ps.length)
  (hbody:∀ (A:Around) (outer:List Env) (s:Shared) (H:Hp) (vs:List V) (Q:VK) (E:XK),Room k (A.deeper (envOfC qual scope s.heap.objs.size f cdv))->sp vs H Q E->
   ∃ t,PSs (cxOf CX P w K mg base N qual scope f cdv A outer s H E) body t/\t { nx:=fun _ H'=>Q .non H',rt:=Q } (qLK N vs) H) :
  FnOk P w K mg base CX (k+1) f (V2 name qual params body scope dV kV doc pm an cdv ct) ps sp:=by
 refine ⟨len,fun A outer s H args us vs Q E hr e0 hb r hsp=>?_⟩;have hl:=len _ _ _ _ hsp;have KX:K.In s.heap:=e0.mod.kin.keeps fun b o e=>(e0.bs b o e).1;have lim:s.heap.NoLimit:=e0.mod.nolimit.keeps fun b o e=>(e0.bs b o e).1;have hkind:∀ y ∈ ps.zip us,scope.names.lookup y.1=some .local\/(scope.names.lookup y.1=some .cell/\((cellsFrom (s.heap.objs.size+1) scope.names []).lookup y.1).isSome=true):=fun ⟨n,v⟩ hy=>by
  rcases S.par n (c6 hy).1 with q | q
  ·exact .inl q
  ·exact .inr ⟨q,A02 _ _ _ (.inl q)⟩
 refine codeAny_call_function hr.depth (KX _ _ lk) rfl S.co S.gen rfl (PySem.W.codeRec_of KX hcd) (hb _ _ _ _ ?_);refine wpAny_newFunctionEnv_cells S.kind hkind fun env he s1 x=>?_;subst he;refine ⟨lim.keeps x.toInCall.keep,codeAny_func ?_⟩;obtain ⟨t,ht,hq⟩:=hbody A outer s H vs Q E (hr.deeper _) hsp;have I:Inv (cxOf CX P w K mg base N qual scope f cdv A outer s H E) [] (qLK N vs) H s1:=qUN S hr.hd e0 hl r x;refine wpAny_mono (ht [] s1 (qLK N vs) H _ I hq) (fun fl s' hs=>?_) fun e s' hs=>hs;have fin:∀ {σ':St} {H':Hp} {v:V} {u:Value},Inv (cxOf CX P w K mg base N qual scope f cdv A outer s H E) [] σ' H' s'->RelV v u->Q v H'->CE outer P w H s Q u s':=
  fun {σ' H' v u} J rv q=>⟨v,H',J.os,J.bare,J.base,J.hok,rv,q⟩
 cases fl with
 | ret u=>
  obtain ⟨v,σ',H',J,rv,q⟩:=hs;exact fin J rv q
 | next=>
  obtain ⟨σ',H',J,q⟩:=hs;exact fin (v:=V.non) (u:=U0) J rfl q
 | brk=>
  obtain ⟨_,_,_,q⟩:=hs;exact X2 q
 | cont=>
  obtain ⟨_,_,_,q⟩:=hs;exact X2 q
section
variable {X:Cx} {x:Str} {p pos:Pos} {e:Expr} {es:List Expr} {t:TA} {id T:String} {r:List V->Hp->VK->Prop}
def tCB (r:List V->Hp->VK->Prop) (t:TA):TE:=fun σ H Q=>t σ H fun vs H1=>r vs H1 Q
theorem qAA (hc:qCW X (.builtin id) r) (hg:Gl X x) (hm:X.mg x=none) (hv:bootBuiltins x=some (.builtin id)) (ha:PA X (e::es) t) (hn:x ≠ "__name__":=by decide) (hdb:(x == ("__debug__" : Str))=false:=by decide)
  (he:starEach (e::es) X.env=(false,eval e X.env)::starEach es X.env:=by rfl) (hpl:(backTo pos (starEach es X.env)).any (·.1)=false:=by rfl):PE X (.Call (.Name x p) (e::es) [] pos) (tCB r t):=by
 intro Ab s σ H Q I h;refine wpAny_Call_Name_kw (qFB I hg hm hv ?_ hn hdb);exact PyProof.Rows.callWith_builtin1 (thn (ha pos Ab s σ H _ I h) fun us s1 ⟨vs,H1,I1,r1,q1⟩=>hc Ab s1 σ H1 vs us Q I1 r1 q1) he hpl
theorem qAL (hc:qCW X (.type T) r) (hg:Gl X x) (hm:X.mg x=none) (hv:bootBuiltins x=some (.type T)) (ha:PA X (e::es) t) (hn:x ≠ "__name__":=by decide) (hdb:(x == ("__debug__" : Str))=false:=by decide)
  (he:starEach (e::es) X.env=(false,eval e X.env)::starEach es X.env:=by rfl) (hpl:(backTo pos (starEach es X.env)).any (·.1)=false:=by rfl):PE X (.Call (.Name x p) (e::es) [] pos) (tCB r t):=by
 intro Ab s σ H Q I h;refine wpAny_Call_Name_kw (qFB I hg hm hv ?_ hn hdb);exact O7 (thn (ha pos Ab s σ H _ I h) fun us s1 ⟨vs,H1,I1,r1,q1⟩=>hc Ab s1 σ H1 vs us Q I1 r1 q1) he hpl
end
end L2
namespace HT
open PySem PyProof.Rows
def lexLt:List Int->List Int->Bool
 | [],[]=>false
 | [],_::_=>true
 | _::_,[]=>false
 | x::xs,y::ys=>if x=y then lexLt xs ys else decide (x<y)
theorem lexLt_cons (x y:Int) (xs ys:List Int):lexLt (x::xs) (y::ys)=if x=y then lexLt xs ys else decide (x<y):=rfl
section
open PySem.SeqAt
open PySem.AutoSeq1 (wpAny_loadPart')
open PySem.MeetsSeq PySem.MeetsSeq2 PySem.MeetsSeq3
end
section
variable {prog:Program} {w:World} {A:Around} {E:Value->Shared->Prop} {s:Shared}
theorem cat_tup {t b:Addr} {vs ws:List Value} {Q:Value->Shared->Prop} (ht:IsTup s.heap t vs.toArray) (hb:IsTup s.heap b ws.toArray) (hv:vs ≠ [])
  (h1:ws=[]->Q (.ref t) s) (h2:ws ≠ []->Q (.ref s.heap.objs.size) { s with heap:=s.heap.push { cls:=.type "tuple",data:=.seq (vs++ws).toArray } })
  (hsz:vs.length+ws.length<=sizeLine):wpAny (model prog w) A (binaryOp .Add (.ref t) (.ref b)) Q E s:=by
 obtain ⟨⟨cls,dd,data,sl⟩,ho,hc,n,hd⟩:=id ht;obtain ⟨⟨cls2,dd2,data2,sl2⟩,ho2,hc2,n2,hd2⟩:=id hb;simp only at hc hd hc2 hd2;subst hc hd hc2 hd2;have e:vs.toArray++ws.toArray=(vs++ws).toArray:=by simp
 by_cases hw:ws=[]
 ·exact concat_meets ⟨_,ho,rfl⟩ ⟨_,ho2,rfl⟩ noFill_tuple_add seq_tuple_add X4 X0 (W6 _ _)
   (tuple_addW1 t b vs.toArray ws.toArray n n2 dd dd2 sl sl2 (by simpa using hv) (by simp [hw])) ⟨ho,ho2,h1 hw⟩
 ·refine concat_meets ⟨_,ho,rfl⟩ ⟨_,ho2,rfl⟩ noFill_tuple_add seq_tuple_add X4 X0 (W6 _ _)
   (tuple_addW2 t b vs.toArray ws.toArray n n2 dd dd2 sl sl2 (by simpa using hv) (by simpa using hw) (by rw [A7,A7];exact hsz)) ⟨ho,ho2,?_⟩
  rw [e];exact h2 hw
def sIx (n d:Nat):Option Int->Nat
 | none=>d
 | some v=>if v<0 then (v+(n:Int)).toNat else min v.toNat n
theorem sIx_none (n d:Nat):sIx n d none=d:=rfl
theorem sIx_nat (n d k:Nat):sIx n d (some (k:Int))=min k n:=by
 show (if (k:Int)<0 then ((k:Int)+(n:Int)).toNat else min (k:Int).toNat n)=min k n
 rw [if_neg (by omega),J8]
end
end HT
namespace L2
open PySem PySem.Spec PyProof.Rows
abbrev TO:=St->Hp->(Option Int->Hp->Prop)->Prop
def PO (X:Cx) (e:Option Expr) (t:TO):Prop:=
 ∀ (Ab:List (Addr × Obj)) (s:Shared) (σ:St) (H:Hp) (Q:Option Int->Hp->Prop),Inv X Ab σ H s->t σ H Q->
  wpAny (model X.prog X.w) X.A (evalPart e X.env) (fun u s'=>∃ o H',Inv X Ab σ H' s'/\IsPart u o/\Q o H') X.xe s
def qYM:TO:=fun _ H Q=>Q none H
def qc0 (t:TE):TO:=fun σ H Q=>t σ H fun x H1=>∃ i,x=.int i/\Q (some i) H1
theorem qL7 {ns:List Int}:∀ {us:List Value},Vals (ns.map V.int) us->IntsAre us ns:=by
 induction ns with
 | nil=>intro us r;rw [A08] at r;cases r;exact .nil
 | cons n ns ih=>
  intro us r;rw [C1] at r;cases r with
  | cons r1 r2=>
   obtain ⟨t,e⟩:=r1;subst e;exact .cons n t (ih r2)
section
variable {X:Cx} {e:Expr} {te:TE} {lo hi:Option Expr} {tl th:TO} {pos p2:Pos}
theorem qJK:PO X none qYM:=by
 intro Ab s σ H Q I h;rw [evalPart_none];exact wpAny_pure ⟨none,H,I,.none,h⟩
theorem qHI (h:PE X e te):PO X (some e) (qc0 te):=by
 intro Ab s σ H Q I hw;rw [evalPart_some];refine thn (h Ab s σ H _ I hw) fun u s1 ⟨x,H1,I1,r1,q1⟩=>?_;obtain ⟨i,rfl,q⟩:=q1;obtain ⟨t,rfl⟩:=r1;exact ⟨some i,H1,I1,.int i t,q⟩
def SlR (X:Cx) (r:V->Option Int->Option Int->Hp->VK->Prop):Prop:=
 ∀ (Ab:List (Addr × Obj)) (s:Shared) (σ:St) (H:Hp) (x:V) (v vl vu:Value) (lo hi:Option Int) (sl:Addr) (Q:VK),Inv X Ab σ H s->RelV x v->s.heap.IsSliceOf sl vl vu .none->IsPart vl lo->IsPart vu hi->r x lo hi H Q->
  ∃ T id,typeLookup (.type T) "__getitem__" = pure (some (.builtin id))/\s.TypeIs v T/\wpAny (model X.prog X.w) X.A (getItem v (.ref sl)) (EP X Ab σ Q) X.xe s
def tSl (r:V->Option Int->Option Int->Hp->VK->Prop) (te:TE) (tl th:TO):TE:=fun σ H Q=>te σ H fun x H1=>tl σ H1 fun l H2=>th σ H2 fun u H3=>r x l u H3 Q
theorem qGV {r:V->Option Int->Option Int->Hp->VK->Prop} (hr:SlR X r) (he:PE X e te) (hl:PO X lo tl) (hu:PO X hi th):PE X (.Subscript e (.Slice lo hi none p2) pos) (tSl r te tl th):=by
 intro Ab s σ H Q I h;refine Subscript_ (thn (he Ab s σ H _ I h) fun v s1 ⟨x,H1,I1,r1,q1⟩=>?_);refine wpAny_Slice (thn (hl Ab s1 σ H1 _ I1 q1) fun vl s2 ⟨l,H2,I2,pl,q2⟩=>thn (hu Ab s2 σ H2 _ I2 q2) fun vu s3 ⟨u,H3,I3,pu,q3⟩=>?_);rw [evalPart_none];refine wpAny_pure ?_;have I4:Inv X Ab σ H3 { s3 with heap:=s3.heap.push { cls:=.type "slice",data:=.fields #[vl,vu,.none] } }:=I3.kept (t':=s3.toks) fun b ob q=>A2 _ q;obtain ⟨T,id,hT,ht,hg⟩:=hr Ab { s3 with heap:=s3.heap.push { cls:=.type "slice",data:=.fields #[vl,vu,.none] } } σ H3 x v vl vu l u s3.heap.objs.size Q I4 r1 (A38 ..) pl pu q3;show wpAny (model X.prog X.w) X.A (subscriptTail e (.Slice lo hi none p2) v (.ref s3.heap.objs.size)) (EP X Ab σ Q) X.xe { s3 with heap:=s3.heap.push { cls:=.type "slice",data:=.fields #[vl,vu,.none] } };exact tail_any (ops:=[.ref s3.heap.objs.size,v]) ht hT hg (by with_unfolding_all rfl)
def cutV (xs:List V) (lo hi:Option Int):List V:=(xs.drop (HT.sIx xs.length 0 lo)).take (HT.sIx xs.length xs.length hi - HT.sIx xs.length 0 lo)
theorem qQ5 (xs:List V) (lo hi:Option Int):(cutV xs lo hi).length<=xs.length:=by
 unfold cutV;rw [D4,P3];omega
def qcG (K:PySem.W.Frag):R2:=fun x y H Q=>∃ a b xs ys,x=.ref a/\y=.ref b/\SqT K H a xs/\SqT K H b ys/\xs ≠ []/\xs.length+ys.length<=sizeLine/\
 (ys=[]->Q (.ref a) H)/\(ys ≠ []->∀ p,H p=none->Q (.ref p) (upd H p (.tup (xs++ys))))
theorem Vals.nil_iff {xs:List V} {us:List Value} (r:Vals xs us):us=[] ↔ xs=[]:=by
 cases r with
 | nil=>simp
 | cons _ _=>simp
theorem qU1:OpR X (binaryOp .Add) (qcG X.K):=by
 intro Ab s σ H x y v u Q I rx ry h;obtain ⟨a,b,xs,ys,rfl,rfl,ha,hb,hx,hz,q1,q2⟩:=h;cases rx;cases ry;obtain ⟨its,r1,p1,_⟩:=I.tuple ha;obtain ⟨its2,r2,p2,_⟩:=I.tuple hb;refine HT.cat_tup p1 p2 (fun z=>hx (r1.nil_iff.mp z)) (fun z=>⟨.ref a,H,I,rfl,q1 (r2.nil_iff.mp z)⟩) (fun z=>?_) (by rw [<- r1.length,<- r2.length];exact hz)
 refine ⟨.ref s.heap.objs.size,_,I.laid (t':=s.toks) (o:=.tup (xs++ys)) (fun b ob q=>A2 _ q) (B0 _) ?_,rfl,q2 (fun w=>z (r2.nil_iff.mpr w)) _ (I.hok.fresh (B0 _))⟩;exact ⟨by rw [A6];exact hz,_,r1.append r2,IsTup.new _ _⟩
end
def ixN (n:Nat) (i:Int):Option Nat:=if 0<=i then (if i<n then some i.toNat else none) else if -(n:Int)<=i then some (i+n).toNat else none
def atI {α:Type} (xs:List α) (i:Int):Option α:=(ixN xs.length i).bind fun j=>xs[j]?
theorem qUK {n:Nat} {i:Int} {j:Nat} (h:ixN n i=some j):seqIndex? i n=some j/\j<n/\-(n:Int)<=i/\i<n:=by
 unfold ixN at h;by_cases h0:0<=i
 ·rw [if_pos h0] at h;by_cases h1:i<n
  ·rw [if_pos h1] at h;have e:i.toNat=j:=D5 h;exact ⟨by rw [seqIndex_of h0 h1,e],by omega,by omega,h1⟩
  ·rw [if_neg h1] at h;cases h
 ·rw [if_neg h0] at h;by_cases h1 : -(n:Int)<=i
  ·rw [if_pos h1] at h;have e:(i+n).toNat=j:=D5 h;exact ⟨by rw [seqIndex_neg (by omega) h1,e],by omega,h1,by omega⟩
  ·rw [if_neg h1] at h;cases h
theorem qQA {α:Type} {xs:List α} {i:Int} {v:α} (h:atI xs i=some v):∃ j,seqIndex? i xs.length=some j/\xs[j]?=some v/\j<xs.length/\-(xs.length:Int)<=i/\i<xs.length:=by
 unfold atI at h;cases e:ixN xs.length i with
 | none=>rw [e] at h;cases h
 | some j=>
  rw [e] at h;obtain ⟨h1,h2,h3,h4⟩:=qUK e;exact ⟨j,h1,h,h2,h3,h4⟩
theorem qVY {α:Type} {xs:List α} {j:Nat} {v:α} (h:xs[j]?=some v):atI xs (j:Int)=some v:=by
 have hj:j<xs.length:=(A3.mp h).1;have e:ixN xs.length (j:Int)=some j:=by
  unfold ixN;rw [if_pos (by omega),if_pos (by omega)];simp
 unfold atI;rw [e];exact h
theorem qMP {α:Type} (xs:List α) (v:α):atI (xs++[v]) (-1)=some v:=by
 have hl:(xs++[v]).length=xs.length+1:=by simp
 have e:ixN (xs++[v]).length (-1)=some xs.length:=by
  unfold ixN;rw [hl,if_neg (by decide),if_pos (by omega)]
  congr 1;omega
 unfold atI;rw [e];show (xs++[v])[xs.length]?=some v;simp
def qa2 (b:Expr):Prop:=∀ o i,subscripted b false o i=operate [o,i] (getItem o i)
def IxR (X:Cx) (r:R2):Prop:=
 ∀ (value slice:Expr) (Ab:List (Addr × Obj)) (s:Shared) (σ:St) (H:Hp) (x y:V) (v u:Value) (Q:VK),Inv X Ab σ H s->RelV x v->RelV y u->r x y H Q->
  subscripted slice false v u=operate [v,u] (getItem v u)->wpAny (model X.prog X.w) X.A (subscriptTail value slice v u) (EP X Ab σ Q) X.xe s
def MtR (X:Cx) (id:String) (r:V->List V->Hp->VK->Prop):Prop:=
 ∀ (Ab:List (Addr × Obj)) (s:Shared) (σ:St) (H:Hp) (x:V) (xs:List V) (v:Value) (us:List Value) (Q:VK),Inv X Ab σ H s->RelV x v->Vals xs us->r x xs H Q->
  wpAny (model X.prog X.w) X.A (call (.builtin id) (v::us)) (EP X Ab σ Q) X.xe s
section
variable {X:Cx} {a b:Expr} {ta tb:TE} {pos:Pos}
theorem qAW {r:R2} (hr:IxR X r) (ha:PE X a ta) (hb:PE X b tb) (hs:qa2 b):PE X (.Subscript a b pos) (tOp r ta tb):=by
 intro Ab s σ H Q I h;exact Subscript_ (binT ha hb I h fun v u s2 x y H2 I2 rx ry q=>hr a b Ab s2 σ H2 x y v u Q I2 rx ry q (hs _ _))
def rIxL (K:PySem.W.Frag):R2:=fun x y H Q=>∃ p xs i v,x=.ref p/\y=.int i/\SqL K H p xs/\atI xs i=some v/\Q v H
def rIxT (K:PySem.W.Frag):R2:=fun x y H Q=>∃ p xs i v,x=.ref p/\y=.int i/\SqT K H p xs/\atI xs i=some v/\Q v H
theorem qCP:IxR X (rIxL X.K):=by
 intro value slice Ab s σ H x y v u Q I rx ry h hs;obtain ⟨p,xs,i,z,rfl,rfl,hq,he,q⟩:=h;cases rx;obtain ⟨t,rfl⟩:=ry;obtain ⟨its,r,pl,hz⟩:=I.list hq;obtain ⟨j,h1,h2,h3,h4,h5⟩:=qQA he;obtain ⟨w,ew,rw'⟩:=r.get h2;have hl:=r.length;have hn:=qL2;have fin:EP X Ab σ Q w s:=⟨z,H,I,rw',q⟩;by_cases h0:0<=i
 ·have hj:i.toNat=j:=by
   rw [seqIndex_of h0 h5] at h1;exact D5 h1
  exact item_listR pl.isList h0 (by omega) (by rw [hj];simpa using ew) fin hs
 ·have hj:(i+(its.toArray.size:Int)).toNat=j:=by
   rw [seqIndex_neg (by omega) h4] at h1
   rw [A7,<- hl];exact D5 h1
  exact subscriptTail_builtinR (x:=w) pl.isList.typeIs slot_list_getitem.lookup
   (wpAny_getItem_list_neg (Q:=fun r s'=>r=w/\EP X Ab σ Q r s') pl.isList (by omega) (by rw [A7] <;> omega) (by omega) (by rw [hj];simpa using ew) ⟨rfl,fin⟩) hs
theorem qB2:IxR X (rIxT X.K):=by
 intro value slice Ab s σ H x y v u Q I rx ry h hs;obtain ⟨p,xs,i,z,rfl,rfl,hq,he,q⟩:=h;cases rx;obtain ⟨t,rfl⟩:=ry;obtain ⟨its,r,pl,hz⟩:=I.tuple hq;obtain ⟨j,h1,h2,h3,h4,h5⟩:=qQA he;obtain ⟨w,ew,rw'⟩:=r.get h2;have hl:=r.length;have hn:=qL2;have fin:EP X Ab σ Q w s:=⟨z,H,I,rw',q⟩;exact subscriptTail_builtinR (x:=w) pl.typeIs slot_tuple_getitem.lookup
  (getItem_tuple (j:=j) (Q:=fun r s'=>r=w/\EP X Ab σ Q r s') pl (by omega) (by omega) (by rw [A7,<- hl];exact h1) (by simpa using ew) ⟨rfl,fin⟩) hs
theorem qS5 (its:List Value) (n j:Nat) (u:Value):F2 (·.setIfInBounds j u) { cls:=.type "list",data:=.seq its.toArray n }={ cls:=.type "list",data:=.seq (its.set j u).toArray n }:=by
 simp [F2]
theorem Inv.lst {Ab:List (Addr × Obj)} {σ:St} {H:Hp} {s:Shared} {p:Addr} {xs:List V} (I:Inv X Ab σ H s) (h:H p=some (.lst xs)) :
  ∃ (its:List Value) (n:Nat),Vals xs its/\s.heap.get? p=some { cls:=.type "list",data:=.seq its.toArray n }/\xs.length<=sizeLine:=by
 obtain ⟨z,its,n,r,e⟩:=I.hok p _ h;exact ⟨its,n,r,e,z⟩
theorem Inv.lstUpd {Ab:List (Addr × Obj)} {σ:St} {H:Hp} {s:Shared} {p:Addr} {xs ys:List V} {its its':List Value} {n n':Nat} {f:Obj->Obj} (I:Inv X Ab σ H s) (h:H p=some (.lst xs))
  (ho:s.heap.get? p=some { cls:=.type "list",data:=.seq its.toArray n }) (hf:f { cls:=.type "list",data:=.seq its.toArray n }={ cls:=.type "list",data:=.seq its'.toArray n' }) (r:Vals ys its') (hz:ys.length<=sizeLine) (t:Nat) :
  Inv X Ab σ (upd H p (.lst ys)) { s with heap:=s.heap.update p f,toks:=t }:=by
 have e:(s.heap.update p f).get? p=some { cls:=.type "list",data:=.seq its'.toArray n' }:=by
  rw [M7 f ho (by rw [hf] <;> rfl),hf]
 refine I.write (x:=p) (e:=p) (by rw [h];trivial) (.inl rfl) (fun b u hb q=>(C0 _ _ (G6 hb)).trans q) ⟨_,e⟩ ?_
 exact ⟨hz,its',n',r,e⟩
def qcE:V->V->V->Hp->(Hp->Prop)->Prop:=fun o i v H Q=>∃ p xs k j,o=.ref p/\i=.int k/\H p=some (.lst xs)/\ixN xs.length k=some j/\Q (upd H p (.lst (xs.set j v)))
theorem qIL:PSet X qcE:=by
 intro Ab s σ H o i v ov iv u Q I ro ri rv h;obtain ⟨p,xs,k,j,rfl,rfl,hp,hj,q⟩:=h;cases ro;obtain ⟨t,rfl⟩:=ri;obtain ⟨its,n,r,ho,hz⟩:=I.lst hp;obtain ⟨h1,h2,h3,h4⟩:=qUK hj;have hl:=r.length;have hn:=qL2;have I':Inv X Ab σ (upd H p (.lst (xs.set j v))) { s with heap:=s.heap.update p (F2 (·.setIfInBounds j u)) }:=
  I.lstUpd hp ho (qS5 its n j u) (r.set rv j) (by rw [k7];exact hz) s.toks
 by_cases h0:0<=k
 ·have hk:k.toNat=j:=by
   rw [seqIndex_of h0 h4] at h1;exact D5 h1
  exact PySem.W.ki_setAt ho h0 (by omega) (by rw [A7,<- hl];exact h4) (by rw [hk];exact ⟨_,I',q⟩)
 ·have hk:(k+(its.toArray.size:Int)).toNat=j:=by
   rw [seqIndex_neg (by omega) h3] at h1
   rw [A7,<- hl];exact D5 h1
  exact PySem.W.ki_setBack ho (by omega) (by rw [A7,<- hl];exact h3) (by omega) (by rw [hk];exact ⟨_,I',q⟩)
theorem qN4 (lo hi:Option Int) (n:Nat):(sliceBounds lo hi none n).1=((HT.sIx n 0 lo:Nat):Int)/\(sliceBounds lo hi none n).2.1=((HT.sIx n n hi:Nat):Int)/\(sliceBounds lo hi none n).2.2=1:=by
 refine ⟨?_,?_,rfl⟩
 ·cases lo with
  | none=>simp [sliceBounds,HT.sIx]
  | some i=>
   simp only [sliceBounds,HT.sIx,y8,show (1:Int) > 0 by decide,if_true]
   by_cases h:i<0
   ·simp only [h,if_true] <;> omega
   ·simp only [h,if_false] <;> omega
 ·cases hi with
  | none=>simp [sliceBounds,HT.sIx]
  | some i=>
   simp only [sliceBounds,HT.sIx,y8,show (1:Int) > 0 by decide,if_true]
   by_cases h:i<0
   ·simp only [h,if_true] <;> omega
   ·simp only [h,if_false] <;> omega
theorem qLN (its:List Value) (lo hi:Option Int):slicePick its.toArray lo hi none=((its.drop (HT.sIx its.length 0 lo)).take (HT.sIx its.length its.length hi - HT.sIx its.length 0 lo)).toArray:=by
 obtain ⟨h1,h2,h3⟩:=qN4 lo hi its.toArray.size;unfold slicePick;rw [h1,h2,h3];simp only [sliceRange_one,pick_run,A7] <;> rfl
def rSlL (K:PySem.W.Frag):V->Option Int->Option Int->Hp->VK->Prop:=fun x lo hi H Q=>∃ a xs,x=.ref a/\SqL K H a xs/\∀ p,H p=none->Q (.ref p) (upd H p (.lst (cutV xs lo hi)))
theorem qJG:SlR X (rSlL X.K):=by
 intro Ab s σ H x v vl vu lo hi sl Q I rx hs pl pu h;obtain ⟨a,xs,rfl,hx,q⟩:=h;cases rx;obtain ⟨its,r,ht,hz⟩:=I.list hx;have hlen:=r.length;refine ⟨"list",_,slot_list_getitem.lookup,ht.isList.typeIs,?_⟩;refine wpAny_getItem_list_slice ht.isList hs pl pu .none (by simp) ?_ (by rw [A7] <;> omega)
 rw [qLN,<- hlen];refine ⟨.ref s.heap.objs.size,_,I.laid (t':=s.toks) (o:=.lst (cutV xs lo hi)) (fun b ob q=>A2 _ q) (B0 _) ?_,rfl,q _ (I.hok.fresh (B0 _))⟩;exact ⟨L6 (qQ5 xs lo hi) hz,_,0,(r.drop (HT.sIx xs.length 0 lo)).take (HT.sIx xs.length xs.length hi - HT.sIx xs.length 0 lo),B6 _ rfl⟩
def qMC:V->Bool
 | .non=>true
 | .bl _=>true
 | .int _=>true
 | .str _=>true
 | _=>false
def eqV:V->V->Bool
 | .non,.non=>true
 | .bl a,.bl b=>a == b
 | .bl a,.int b=>(if a then 1 else 0) == b
 | .int a,.bl b=>a == (if b then 1 else 0)
 | .int a,.int b=>a == b
 | .str a,.str b=>a == b
 | _,_=>false
theorem qbP {A:Around} {s:Shared} {y x:V} {u v:Value} (ry:RelV y u) (rx:RelV x v) (fy:qMC y=true) (fx:qMC x=true):SeqAt.EqAt A s u v (eqV y x):=by
 cases y with
 | non=>
  cases ry;cases x with
  | non=>cases rx;exact SeqAt.EqAt.same _
  | bl b=>cases rx;exact SeqAt.EqAt.none_bool b
  | int b=>obtain ⟨t,rfl⟩:=rx;exact SeqAt.EqAt.none_int b t
  | str b=>obtain ⟨t,rfl⟩:=rx;exact SeqAt.EqAt.none_str b t
  | _=>exact absurd (show false=true from fx) C5
 | bl a=>
  cases ry;cases x with
  | non=>cases rx;exact SeqAt.EqAt.bool_none a
  | bl b=>cases rx;exact SeqAt.EqAt.bool_bool a b
  | int b=>obtain ⟨t,rfl⟩:=rx;exact SeqAt.EqAt.bool_int a b t
  | str b=>obtain ⟨t,rfl⟩:=rx;exact SeqAt.EqAt.bool_str a b t
  | _=>exact absurd (show false=true from fx) C5
 | int a=>
  obtain ⟨t',rfl⟩:=ry;cases x with
  | non=>cases rx;exact SeqAt.EqAt.int_none a t'
  | bl b=>cases rx;exact SeqAt.EqAt.int_bool a t' b
  | int b=>obtain ⟨t,rfl⟩:=rx;exact m7 a t' b t
  | str b=>obtain ⟨t,rfl⟩:=rx;exact A33 a t' b t
  | _=>exact absurd (show false=true from fx) C5
 | str a=>
  obtain ⟨t',rfl⟩:=ry;cases x with
  | non=>cases rx;exact SeqAt.EqAt.str_none a t'
  | bl b=>cases rx;exact SeqAt.EqAt.str_bool a t' b
  | int b=>obtain ⟨t,rfl⟩:=rx;exact A34 a t' b t
  | str b=>obtain ⟨t,rfl⟩:=rx;exact SeqAt.EqAt.str_str a t' b t
  | _=>exact absurd (show false=true from fx) C5
 | _=>exact absurd (show false=true from fy) C5
def eqU (x:V) (u:Value):Bool:=match u with
 | .none=>eqV .non x
 | .bool b=>eqV (.bl b) x
 | .int i _=>eqV (.int i) x
 | .str z _=>eqV (.str z) x
 | _=>false
theorem qY8 {x y:V} {u:Value} (r:RelV y u) (f:qMC y=true):eqU x u=eqV y x:=by
 cases y with
 | non=>cases r;rfl
 | bl b=>cases r;rfl
 | int i=>obtain ⟨t,rfl⟩:=r;rfl
 | str z=>obtain ⟨t,rfl⟩:=r;rfl
 | _=>exact absurd (show false=true from f) C5
theorem qQC {x:V}:∀ {xs:List V} {us:List Value},Vals xs us->xs.all qMC=true->us.any (eqU x)=xs.any fun y=>eqV y x
 | _,_,.nil,_=>rfl
 | y::xs,u::us,.cons r t,f=>by
  rw [w6,P4] at f;rw [Y6,Y6,qY8 r f.1,qQC t f.2]
theorem qM3 {A:Around} {s:Shared} {x:V} {v:Value} (rx:RelV x v) (fx:qMC x=true):∀ {xs:List V} {us:List Value},Vals xs us->xs.all qMC=true->∀ u ∈ us,SeqAt.EqAt A s u v (eqU x u)
 | _,_,.nil,_=>fun u hu=>by cases hu
 | y::xs,u::us,.cons r t,f=>fun u' hu=>by
  rw [w6,P4] at f;rcases B5.mp hu with rfl | hu
  ·rw [qY8 r f.1];exact qbP r rx f.1 fx
  ·exact qM3 rx fx t f.2 u' hu
def inV (x:V) (xs:List V):Bool:=xs.any fun y=>eqV y x
def rIn (K:PySem.W.Frag) (neg:Bool):R2:=fun x y H Q=>∃ p xs,y=.ref p/\(SqL K H p xs\/SqT K H p xs)/\qMC x=true/\xs.all qMC=true/\Q (.bl (if neg then !inV x xs else inV x xs)) H
theorem qTY:OpR X (compareOp .In) (rIn X.K false):=by
 intro Ab s σ H x y v u Q I rx ry h;obtain ⟨p,xs,rfl,hq,fx,fs,q⟩:=h;cases ry;rcases hq with hq | hq
 ·obtain ⟨its,r,pl,hz⟩:=I.list hq;refine SeqAt.in_listAt (eqU x) pl.isList (fun w hw=>qM3 rx fx r fs w (by simpa using hw)) ⟨.bl _,H,I,rfl,?_⟩
  rw [show its.toArray.any (eqU x)=its.any (eqU x) by simp,qQC r fs]
  exact q
 ·obtain ⟨its,r,pl,hz⟩:=I.tuple hq;refine SeqAt.in_tupleAt (eqU x) pl (fun w hw=>qM3 rx fx r fs w (by simpa using hw)) ⟨.bl _,H,I,rfl,?_⟩
  rw [show its.toArray.any (eqU x)=its.any (eqU x) by simp,qQC r fs]
  exact q
theorem qAI:qCW X (.builtin "len") (fun xs H Q=>∃ p ys,xs=[.ref p]/\(SqL X.K H p ys\/SqT X.K H p ys)/\Q (.int ys.length) H):=by
 intro Ab s σ H xs us Q I r h;obtain ⟨p,ys,rfl,hq,q⟩:=h;obtain ⟨u,rfl,rx⟩:=qDK r;cases rx;have hn:=qL2;rcases hq with hq | hq
 ·obtain ⟨its,r',pl,hz⟩:=I.list hq;have hlen:=r'.length;exact Calls.call_len_list pl.isList (by simp only [A7] <;> omega) ⟨.int ys.length,H,I.tok _,⟨s.toks+1,by rw [A7,hlen]⟩,q⟩
 ·obtain ⟨its,r',pl,hz⟩:=I.tuple hq;have hlen:=r'.length;exact len_tuple pl (by simp only [A7] <;> omega) ⟨.int ys.length,H,I.tok _,⟨s.toks+1,by rw [A7,hlen]⟩,q⟩
theorem qI5:qCW X (.type "list") (fun xs H Q=>∃ p ys,xs=[.ref p]/\(SqL X.K H p ys\/SqT X.K H p ys)/\∀ l,H l=none->Q (.ref l) (upd H l (.lst ys))):=by
 intro Ab s σ H xs us Q I r h;obtain ⟨p,ys,rfl,hq,q⟩:=h;obtain ⟨u,rfl,rx⟩:=qDK r;cases rx;have fin:∀ (its:List Value),Vals ys its->ys.length<=sizeLine->∀ (h':Heap) (c':Nat),(∀ b o',s.heap.get? b=some o'->h'.get? b=some o')->
   h'.get? s.heap.objs.size=some { cls:=.type "list",dict:=none,data:=.seq its.toArray c',slots:=#[] }->EP X Ab σ Q (.ref s.heap.objs.size) { s with heap:=h' }:=fun its r' hz h' c' kp e=>
  ⟨.ref s.heap.objs.size,_,I.laid (t':=s.toks) kp (B0 _) (show ObjOk X.prog X.w _ h' _ (.lst ys) from ⟨hz,its,c',r',e⟩),rfl,q _ (I.hok.fresh (B0 _))⟩
 rcases hq with hq | hq
 ·obtain ⟨its,r',pl,hz⟩:=I.list hq;have hlen:=r'.length;obtain ⟨o,ho,hc,n,hd⟩:=pl.isList;exact call_list_seq p (.inl rfl) ho hc hd (fun h' c' kp e=>fin its r' hz h' c' kp e) (by simp only [A7] <;> omega)
 ·obtain ⟨its,r',pl,hz⟩:=I.tuple hq;have hlen:=r'.length;obtain ⟨o,ho,hc,n,hd⟩:=pl;exact call_list_seq p (.inr rfl) ho hc hd (fun h' c' kp e=>fin its r' hz h' c' kp e) (by simp only [A7] <;> omega)
theorem qAY:qCW X (.type "tuple") (fun xs H Q=>∃ p ys,xs=[.ref p]/\((SqL X.K H p ys/\∀ l,H l=none->Q (.ref l) (upd H l (.tup ys)))\/(SqT X.K H p ys/\Q (.ref p) H))):=by
 intro Ab s σ H xs us Q I r h;obtain ⟨p,ys,rfl,h⟩:=h;obtain ⟨u,rfl,rx⟩:=qDK r;cases rx;rcases h with ⟨hq,q⟩ | ⟨hq,q⟩
 ·obtain ⟨its,r',pl,hz⟩:=I.list hq;have hlen:=r'.length;refine call_tuple_list pl.isList (fun h' kp=>?_) (by simp only [A7] <;> omega)
  have I1:Inv X Ab σ H { s with heap:=h' }:=I.kept (t':=s.toks) kp;have I2:Inv X Ab σ (upd H h'.objs.size (.tup ys)) { s with heap:=h'.push { cls:=.type "tuple",data:=.seq its.toArray } }:=
   I1.laid (t':=s.toks) (fun b o e=>A2 _ e) (B0 _) (show ObjOk X.prog X.w _ _ _ (.tup ys) from ⟨hz,its,r',IsTup.new _ _⟩)
  exact ⟨.ref h'.objs.size,_,I2,rfl,q _ (I1.hok.fresh (B0 _))⟩
 ·obtain ⟨its,r',pl,hz⟩:=I.tuple hq;exact call_tuple_same pl ⟨.ref p,H,I,rfl,q⟩
def tyV (K:PySem.W.Frag) (T:String) (x:V) (H:Hp):Prop:=match x with
 | .str _=>T = "str"
 | .int _=>T = "int"
 | .ref p=>(T = "list"/\∃ xs,SqL K H p xs)\/(T = "tuple"/\∃ o,K.lookup p=some o/\o.cls=.type "tuple"/\o.dict=none)\/
   (T = "dict"/\((∃ Af,H p=some (.dK Af))\/∃ Af,H p=some (.dT Af)))\/(T = "set"/\∃ S n,H p=some (.set S n))
 | _=>False
theorem qXS {Ab:List (Addr × Obj)} {σ:St} {H:Hp} {s:Shared} {T:String} {x:V} {v:Value} (I:Inv X Ab σ H s) (r:RelV x v) (ty:tyV X.K T x H) :
  s.TypeIs v T/\∀ a,v=.ref a->∃ ob,s.heap.get? a=some ob/\ob.dict=none:=by
 cases x with
 | str z=>
  obtain ⟨t,rfl⟩:=r;cases (show T = "str" from ty);exact ⟨typeIs_str s z t,fun _ e=>nomatch e⟩
 | int i=>
  obtain ⟨t,rfl⟩:=r;cases (show T = "int" from ty);exact ⟨typeIs_int s i t,fun _ e=>nomatch e⟩
 | ref p=>
  cases r;rcases ty with ⟨rfl,xs,hq⟩ | ⟨rfl,o,hk,hc,hd⟩ | ⟨rfl,hk⟩ | ⟨rfl,S,n,hk⟩
  ·obtain ⟨its,_,pl,_⟩:=I.list hq;refine ⟨pl.isList.typeIs,fun a e=>?_⟩;cases e;obtain ⟨o,n,e,c,hd,_⟩:=pl;exact ⟨o,e,hd⟩
  ·refine ⟨⟨o,I.kIn p o hk,hc⟩,fun a e=>?_⟩;cases e;exact ⟨o,I.kIn _ o hk,hd⟩
  ·have z:∃ o,s.heap.get? p=some o/\o.ExactDict:=by
    rcases hk with ⟨Af,hk⟩ | ⟨Af,hk⟩
    ·obtain ⟨_,_,_,_,o,_,_,e,ex,_⟩:=I.hok p _ hk;exact ⟨o,e,ex⟩
    ·obtain ⟨_,_,_,_,o,_,_,e,ex,_⟩:=I.hok p _ hk;exact ⟨o,e,ex⟩
   obtain ⟨o,e,ex⟩:=z;refine ⟨⟨o,e,ex.1⟩,fun a e2=>?_⟩;cases e2;exact ⟨o,e,ex.2.1⟩
  ·obtain ⟨o,_,_,_,e,ex,_⟩:=I.hok p _ hk;refine ⟨⟨o,e,ex.1⟩,fun a e2=>?_⟩;cases e2;exact ⟨o,e,ex.2.1⟩
 | _=>exact X2 ty
def tBM0 (K:PySem.W.Frag) (T:String) (r:V->List V->Hp->VK->Prop) (to:TE):TE:=fun σ H Q=>to σ H fun x H1=>tyV K T x H1/\r x [] H1 Q
def tBM (K:PySem.W.Frag) (T:String) (r:V->List V->Hp->VK->Prop) (to:TE) (t:TA):TE:=fun σ H Q=>to σ H fun x H1=>tyV K T x H1/\t σ H1 fun xs H2=>r x xs H2 Q
variable {o e:Expr} {es:List Expr} {to:TE} {t:TA} {name:Str} {apos cpos:Pos} {T id:String} {r:V->List V->Hp->VK->Prop}
theorem qTR (pa:PlainAttrs T) (slot:Slot T name id) (hty:typeOf (.builtin id)=pure (.type "method_descriptor")) (hm:MtR X id r) (ho:PE X o to)
  (hbase:attributeBase o name X.env (eval o X.env)=eval o X.env:=by rfl) (hline:(apos.endLine == cpos.line)=true:=by rfl):PE X (.Call (.Attribute o name apos) [] [] cpos) (tBM0 X.K T r to):=by
 intro Ab s σ H Q I h;refine wpAny_Call_method0_late hbase hline (thn (ho Ab s σ H _ I h) fun v s1 ⟨x,H1,I1,r1,ty,q1⟩=>?_);obtain ⟨h1,h2⟩:=qXS I1 r1 ty;exact ⟨T,id,pa,slot,hty,h1,h2,d8 rfl (PySem.evalArgs_none (hm Ab s1 σ H1 x [] v [] Q I1 r1 .nil q1))⟩
theorem qHJ (pa:PlainAttrs T) (slot:Slot T name id) (hty:typeOf (.builtin id)=pure (.type "method_descriptor")) (hm:MtR X id r) (ho:PE X o to) (ha:PA X (e::es) t)
  (hbase:attributeBase o name X.env (eval o X.env)=eval o X.env:=by rfl)
  (hfew:((backTo cpos (starEach (e::es) X.env)).all (fun x=>!x.1) && (backToKw cpos (keywordEach [] X.env)).all (fun x=>x.1.isSome)
   && decide ((e::es).length+([]:List Keyword).length+(if ([]:List Keyword).isEmpty then 0 else 1)<30))=true:=by rfl)
  (hline:(apos.endLine == cpos.line)=true:=by rfl) (hs:starEach (e::es) X.env=(false,eval e X.env)::starEach es X.env:=by rfl) (hplain:(backTo cpos (starEach es X.env)).any (·.1)=false:=by rfl) :
  PE X (.Call (.Attribute o name apos) (e::es) [] cpos) (tBM X.K T r to t):=by
 intro Ab s σ H Q I h;refine wpAny_Call_method_late hbase hfew hline rfl (thn (ho Ab s σ H _ I h) fun v s1 ⟨x,H1,I1,r1,ty,q1⟩=>?_);obtain ⟨h1,h2⟩:=qXS I1 r1 ty;refine ⟨T,id,pa,slot,hty,h1,h2,?_⟩;have hA:=ha cpos Ab s1 σ H1 _ I1 q1;rw [hs] at hA ⊢;refine d8 (by show (false || (backTo cpos (starEach es X.env)).any (·.1))=false;rw [hplain] <;> rfl) (A19 ?_)
 exact thn hA fun us s2 ⟨vs,H2,I2,r2,q2⟩=>hm Ab s2 σ H2 x vs v us Q I2 r1 r2 q2
end
def MtM (X:Cx) (id:String) (r:V->List V->Hp->VK->Prop):Prop:=
 ∀ (Ab:List (Addr × Obj)) (s:Shared) (σ:St) (H:Hp) (x:V) (xs:List V) (v:Value) (us:List Value) (Q:VK),Inv X Ab σ H s->RelV x v->Vals xs us->r x xs H Q->
  wpAny (model X.prog X.w) X.A (call (.builtin id) (v::us)) (EP X Ab σ Q) X.xe s
theorem Vals.one:∀ {x:V} {us:List Value},Vals [x] us->∃ u,us=[u]/\RelV x u
 | _,_,.cons r .nil=>⟨_,rfl,r⟩
theorem Vals.zero:∀ {us:List Value},Vals [] us->us=[]
 | _,.nil=>rfl
theorem Vals.dropLast {xs:List V} {us:List Value} (h:Vals xs us):Vals xs.dropLast us.dropLast:=by
 induction h with
 | nil=>exact .nil
 | cons r t ih=>
  cases t with
  | nil=>exact .nil
  | cons q t'=>exact .cons r ih
theorem Vals.reverse {xs:List V} {us:List Value} (h:Vals xs us):Vals xs.reverse us.reverse:=by
 induction h with
 | nil=>exact .nil
 | cons r t ih=>rw [J9,J9];exact Vals.append ih (.cons r .nil)
theorem Vals.rep {xs:List V} {us:List Value} (h:Vals xs us):∀ k:Nat,Vals (C4 k xs).flatten (C4 k us).flatten
 | 0=>.nil
 | k+1=>by
  rw [L7,L7,E7,E7];exact Vals.append h (Vals.rep h k)
theorem qSC {α:Type} (l:List α):l.eraseIdx (l.length - 1)=l.dropLast:=by
 induction l with
 | nil=>rfl
 | cons a r ih=>
  cases r with
  | nil=>rfl
  | cons b r=>
   have e:(a::b::r).length - 1=((b::r).length - 1)+1:=by
    have h1:(a::b::r).length=r.length+2:=rfl;have h2:(b::r).length=r.length+1:=rfl;omega
   rw [e,List.eraseIdx_cons_succ,ih]
   all_goals rfl
theorem qO6 (its:List Value):∀ (k:Nat) (acc:List Value),
  A83 (fun x1 x2=>x1++x2) acc.toArray (C4 k its.toArray)=(acc++(C4 k its).flatten).toArray
 | 0,acc=>by simp
 | k+1,acc=>by
  have e:acc.toArray++its.toArray=(acc++its).toArray:=by simp
  have e2:(acc++its)++(C4 k its).flatten=acc++(C4 (k+1) its).flatten:=by
   rw [L7,E7,O4]
  rw [<- e2,<- qO6 its k (acc++its),<- e,L7,c7]
section
variable {X:Cx} {Ab:List (Addr × Obj)} {σ:St} {H:Hp} {s:Shared} {l b:Addr} {xs ys zs:List V}
theorem Inv.lset {its its':List Value} {n:Nat} {f:Array Value->Array Value} {t':Nat} (I:Inv X Ab σ H s) (hH:H l=some (.lst xs))
  (e:s.heap.get? l=some { cls:=.type "list",data:=.seq its.toArray n }) (hf:f its.toArray=its'.toArray) (hv:Vals ys its') (hz:ys.length<=sizeLine) :
  Inv X Ab σ (upd H l (.lst ys)) { s with heap:=s.heap.update l (F2 f),toks:=t' }:=by
 have q:=PySem.IsL.update e f;rw [hf] at q;refine I.write (x:=l) (e:=l) (by rw [hH];exact trivial) (.inl rfl) (fun b' u hb hu=>(C0 s.heap (F2 f) (G6 hb)).trans hu) ⟨_,q⟩ ?_
 exact ⟨hz,its',_,hv,q⟩
theorem Inv.lnew {its:List Value} {t':Nat} (I:Inv X Ab σ H s) (hv:Vals ys its) (hz:ys.length<=sizeLine) :
  Inv X Ab σ (upd H s.heap.objs.size (.lst ys)) { s with heap:=s.heap.push { cls:=.type "list",data:=.seq its.toArray },toks:=t' }:=
 I.laid (fun _ _ q=>A2 _ q) (B0 _) ⟨hz,its,0,hv,B6 _ rfl⟩
theorem Inv.fresh (I:Inv X Ab σ H s):H s.heap.objs.size=none:=I.hok.fresh (B0 _)
theorem Inv.lstM (I:Inv X Ab σ H s) (hH:H l=some (.lst xs)):xs.length<=sizeLine/\∃ (its:List Value) (n:Nat),Vals xs its/\xs.length=its.length/\s.heap.get? l=some { cls:=.type "list",data:=.seq its.toArray n }:=by
 obtain ⟨z,its,n,r,e⟩:=I.hok l _ hH;exact ⟨z,its,n,r,r.length,e⟩
theorem qR1 {n:Nat} (h:n<=sizeLine):W7 n=false:=by
 unfold W7;exact decide_eq_false (by omega)
end
section
variable {X:Cx}
def qYW:V->List V->Hp->VK->Prop:=fun x vs H Q=>∃ l xs y,x=.ref l/\vs=[y]/\H l=some (.lst xs)/\xs.length<sizeLine/\Q .non (upd H l (.lst (xs++[y])))
theorem qC1:MtM X "list.append" qYW:=by
 intro Ab s σ H x vs v us Q I rx rv h;obtain ⟨l,xs,y,rfl,rfl,hH,hz,q⟩:=h;cases rx;obtain ⟨u,rfl,ru⟩:=rv.one;obtain ⟨z,its,n,r,hl,e⟩:=I.lstM hH;refine call_meets F.slot_list_append ⟨_,e,rfl⟩ F.entry_list_append (F.args_list_append_2 _ _) (PySem.list_append l its.toArray n u (by rw [A7];omega)) ⟨e,?_⟩
 refine ⟨.non,_,I.lset (its':=its++[u]) hH e (by simp) (r.append (.cons ru .nil)) ?_,rfl,q⟩
 rw [A6,C3];omega
def qYV:V->List V->Hp->VK->Prop:=fun x vs H Q=>∃ l b xs zs,x=.ref l/\vs=[.ref b]/\H l=some (.lst xs)/\H b=some (.lst zs)/\xs.length+zs.length<=sizeLine/\Q .non (upd H l (.lst (xs++zs)))
theorem qJP:MtM X "list.extend" qYV:=by
 intro Ab s σ H x vs v us Q I rx rv h;obtain ⟨l,b,xs,zs,rfl,rfl,hH,hB,hz,q⟩:=h;cases rx;obtain ⟨u,rfl,ru⟩:=rv.one;cases ru;obtain ⟨z,its,n,r,hl,e⟩:=I.lstM hH;obtain ⟨z2,its2,n2,r2,hl2,e2⟩:=I.lstM hB;have hsz:its.toArray.size+its2.toArray.size<=sizeLine:=by rw [A7,A7];omega
 have hlong:¬ (!its.toArray.isEmpty && W7 (its.toArray.size+its2.toArray.size))=true:=by
  rw [qR1 hsz,A22];exact C5
 refine call_meets F.slot_list_extend ⟨_,e,rfl⟩ F.entry_list_extend (F.args_list_extend_2 _ _)
  (AutoSeq1.list_extend_list_list_0 l its.toArray n b its2.toArray n2 hlong (by rw [A7];omega) (by omega)) ⟨e,e2,?_⟩
 refine ⟨.non,_,I.lset (its':=its++its2) hH e (by simp) (r.append r2) ?_,rfl,q⟩
 rw [A6];omega
def rPop:V->List V->Hp->VK->Prop:=fun x vs H Q=>∃ l xs y,x=.ref l/\vs=[]/\H l=some (.lst xs)/\xs[xs.length - 1]?=some y/\Q y (upd H l (.lst xs.dropLast))
theorem qY0:MtM X "list.pop" rPop:=by
 intro Ab s σ H x vs v us Q I rx rv h;obtain ⟨l,xs,y,rfl,rfl,hH,hy,q⟩:=h;cases rx;have hus:=rv.zero;subst hus;obtain ⟨z,its,n,r,hl,e⟩:=I.lstM hH;obtain ⟨u,hu,ru⟩:=r.get hy;have hy':its.toArray[its.toArray.size - 1]?=some u:=by
  show its.toArray[its.length - 1]?=some u;rw [<- O9,<- hl];exact hu
 refine call_meets F.slot_list_pop ⟨_,e,rfl⟩ F.entry_list_pop (F.args_list_pop_1 _) (MeetsSeq.list_pop_last l its.toArray n u hy' (by rw [A7];omega)) ⟨e,?_⟩
 refine ⟨y,_,I.lset (its':=its.dropLast) hH e ?_ r.dropLast ?_,ru,q⟩
 ·show its.toArray.eraseIdxIfInBounds (its.toArray.size - 1)=its.dropLast.toArray;rw [A7,List.eraseIdxIfInBounds_toArray,qSC]
 ·rw [List.length_dropLast];omega
def qaU:V->List V->Hp->VK->Prop:=fun x vs H Q=>∃ l xs,x=.ref l/\vs=[]/\H l=some (.lst xs)/\Q .non (upd H l (.lst []))
theorem qWQ:MtM X "list.clear" qaU:=by
 intro Ab s σ H x vs v us Q I rx rv h;obtain ⟨l,xs,rfl,rfl,hH,q⟩:=h;cases rx;have hus:=rv.zero;subst hus;obtain ⟨z,its,n,r,hl,e⟩:=I.lstM hH;refine call_meets F.slot_list_clear ⟨_,e,rfl⟩ F.entry_list_clear (F.args_list_clear_1 _) (AutoSeq1.list_clear_list_0 l its.toArray n (by rw [A7];omega)) ⟨e,?_⟩
 exact ⟨.non,_,I.lset (its':=[]) (ys:=[]) hH e rfl .nil (D7 _),rfl,q⟩
def rCat:R2:=fun x y H Q=>∃ l b xs zs,x=.ref l/\y=.ref b/\H l=some (.lst xs)/\H b=some (.lst zs)/\xs.length+zs.length<=sizeLine/\∀ p,H p=none->Q (.ref p) (upd H p (.lst (xs++zs)))
theorem qKY:OpR X (binaryOp .Add) rCat:=by
 intro Ab s σ H x y v u Q I rx ry h;obtain ⟨l,b,xs,zs,rfl,rfl,hH,hB,hz,q⟩:=h;cases rx;cases ry;obtain ⟨z,its,n,r,hl,e⟩:=I.lstM hH;obtain ⟨z2,its2,n2,r2,hl2,e2⟩:=I.lstM hB;refine PySem.P.add_list e e2 ?_ (by rw [A7,A7];omega)
 have ea:its.toArray++its2.toArray=(its++its2).toArray:=by simp
 rw [ea];exact ⟨.ref _,_,I.lnew (t':=s.toks) (r.append r2) (by rw [A6];omega),rfl,q _ I.fresh⟩
def rRep:R2:=fun x y H Q=>∃ l k xs,x=.ref l/\y=.int k/\H l=some (.lst xs)/\-(2 ^ 63)<=k/\k<2 ^ 63/\xs.length * k.toNat<=sizeLine/\
 ∀ p,H p=none->Q (.ref p) (upd H p (.lst (C4 k.toNat xs).flatten))
theorem qZE {α:Type} (xs:List α) (k:Nat):(C4 k xs).flatten.length=k * xs.length:=by
 induction k with
 | zero=>simp
 | succ k ih=>rw [L7,E7,A6,ih,Nat.succ_mul,Nat.add_comm]
theorem qNE:OpR X (binaryOp .Mult) rRep:=by
 intro Ab s σ H x y v u Q I rx ry h;obtain ⟨l,k,xs,rfl,rfl,hH,h1,h2,hz,q⟩:=h;cases rx;obtain ⟨t,rfl⟩:=ry;obtain ⟨z,its,n,r,hl,e⟩:=I.lstM hH;have hlen:its.toArray.size * k.toNat<=sizeLine:=by rw [A7,<- hl];exact hz
 have hcap:¬ its.toArray.size * k.toNat > (2 ^ 63 - 1) / 8:=by
  have:(sizeLine:Nat)<=(2 ^ 63 - 1) / 8:=by decide
  omega
 have hfit:¬ (!Builtin.List.listFitsIndex k)=true:=by
  rw [fitsIndex_both h1 h2];exact C5
 have hlong:¬ W7 (its.toArray.size * k.toNat)=true:=by
  rw [qR1 hlen];exact C5
 have hnew:A83 (fun x1 x2=>x1++x2) #[] (C4 (if its.toArray.isEmpty=true then 0 else k.toNat) its.toArray)=(C4 k.toNat its).flatten.toArray:=by
  have f0:∀ m:Nat,A83 (fun x1 x2=>x1++x2) #[] (C4 m its.toArray)=(C4 m its).flatten.toArray:=fun m=>by
   have:=qO6 its m [];rw [k8] at this;exact this
  rw [f0];cases its with
  | nil=>simp
  | cons a r'=>rw [if_neg (by simp)]
 refine wpAny_binaryOp_repeat_ref (T:="list") (U:="int") (by decide) ⟨_,e,rfl⟩ (fun s'=>typeIs_int s' k t) noFill_list_mul F.fills_int_mul F.slot_int_rmul repeat_list F.slot_int_index.lookup
  (call_meets F.slot_int_rmul (typeIs_int s k t) F.entry_int_rmul (F.args_int_rmul_2 _ _) (int___rmul___int_list k t l its.toArray n)
   ⟨e,rfl,⟨_,e,rfl⟩,call_meets F.slot_list_mul ⟨_,e,rfl⟩ F.entry_list_mul (F.args_list_mul_2 _ _) (AutoListH.list___mul___list_int_3 l its.toArray n k t hfit hcap hlong) ⟨e,?_⟩⟩)
 rw [hnew];exact ⟨.ref _,_,I.lnew (t':=s.toks) (r.rep k.toNat) (by rw [qZE,Nat.mul_comm];exact hz),rfl,q _ I.fresh⟩
end
section
variable {prog:Program} {w:World} {A:Around} {E:Value->Shared->Prop} {s:Shared}
set_option maxRecDepth 100000 in
end
section
variable {X:Cx}
end
end L2
namespace Att
open PySem PySem.W PySem.Calls PyProof.Rows
theorem qJY {P:Params} {h:Heap}:∀ (ns:List Int) (vs:List Value),WellAll P h vs (ns.map WData.int)->IntsAre vs ns:=by
 intro ns
 induction ns with
 | nil=>
  intro vs w;rw [A08] at w;cases w;exact .nil
 | cons n ns ih=>
  intro vs w;rw [C1] at w;cases w with
  | cons a b=>
   cases a;exact .cons _ _ (ih _ b)
theorem qT8 {l:OpenLaw} {n:Nat} (hn:l.most=some n) {P:Params} {h:Heap} {args:List WData} {vals:List Value}
  (hpre:l.row.toRowW.claim.pre args=true) (hwl:WellAll P h vals args) :
  ∃ a vs ns,vals=[C9 a]/\args=[WData.list (ns.map WData.int)]/\h.get? a=some { cls:=.type "list",data:=.seq vs.toArray }/\IntsAre vs ns/\ns.length<=n:=by
 have hsh:WShape.hasAll [] args [.list .int]=true:=(pre_splitW hpre).1;have hc:l.pre.holds [] { args:=args }=true:=(pre_splitW hpre).2;obtain ⟨d,r,rfl,h1,h2⟩:=hasAllW_cons hsh;obtain rfl:=hasAllW_nil h2;obtain ⟨xs,rfl,h3⟩:=hasW_list h1;obtain ⟨ns,rfl⟩:=items_int h3;have hlen:ns.length<=n:=by
  unfold OpenLaw.pre at hc;have h4:(WTm.not (.lt (.lit (.int (n:Int))) (.len (.arg 0)))).holds [] { args:=[.list (ns.map .int)] }=true:=by
   have h4:=(holds_andW hc).1;rw [hn] at h4;exact h4
  have h5:=condW_of h4 (w_not (w_lt w_lit (w_len_list (w_arg rfl))));rw [A0] at h5;refine i8 fun q=>?_;have q':(n:Int)<((ns.length:Nat):Int):=by omega
  first
   | (rw [decide_eq_true q'] at h5;exact absurd h5 (by decide))
   | (simp at h5;omega)
 cases hwl with
 | cons w1 w2=>
  cases w2;cases w1 with
  | list ho hall=>exact ⟨_,_,ns,rfl,rfl,ho,qJY ns _ hall,hlen⟩
theorem qTF (l:OpenLaw) (args:List WData):l.row.toRowW.claim.post args (.bool true) args=true:=
 postW_of (r:=l.row.toRowW) (X:=(true == true))
  (show WShape.has [] (.bool true) .bool=true by first | rfl | decide | simp [WShape.has,WShape.arms,WShape.armsAll])
  (show (WTm.eq .res (.lit (.bool true))).value [] { args:=args,res:=some (.bool true),after:=args }=some (.bool (true == true)) from w_eq_bool (w_res rfl) w_lit) rfl
theorem attach_call {l:OpenLaw} {n:Nat} {q:Program} {loose:List Str} {XP:(Str->Option Value)->Heap->Prop} {YP:World->Heap->Prop} {d:DefRec}
  (hn:l.most=some n) (hdf:d.params.defaults=[])
  (call:∀ (w:World) (s₀ s₁:Shared) (mg mb:Str->Option Value) (fa:Addr) (o:Obj) (pm cd doc:Value) (a:Addr) (vs:List Value) (ns:List Int),
   Ground q loose [] XP w s₀ mg mb s₁.heap->YP w s₁.heap->
   s₁.heap.get? fa=some o->o.data=.func (docDef d.name d.params d.body d.scope pm cd doc)->s₁.heap.CodeRec cd d.name->mg d.name=some (.ref fa)->
   s₁.heap.get? a=some { cls:=.type "list",data:=.seq vs.toArray }->IntsAre vs ns->ns.length<=n->s₁.gens=#[]->
   codeAny (model l.prog w) callerA (.call (.ref fa) ⟨[.ref a],[]⟩) (fun r s'=>r=.ok (.ret (.bool true))/\OldK s₁.heap s'.heap/\s'.os=s₁.os/\AllBare s'.gens) s₁) :
  WalkO q loose XP YP l.row.toRowW d [] (fun f vs=>A84 f vs):=by
 intro w s₀ s₁ mg mb G Y fa o pm cd doc dV kV ho hd hcd hD hmg hg args vals as hpre hlay hrd hwl hlo;obtain rfl:dV=.none:=Dflts.none hD hdf;obtain rfl:kV=.none:=Dflts.noKw hD;obtain ⟨a,vs,ns,rfl,rfl,hobj,hints,hlen⟩:=qT8 hn hpre hwl;refine enter_call (codeAny_mono (call w s₀ s₁ mg mb fa o pm cd doc a vs ns G Y ho (fd_plain hd) hcd hmg hobj hints hlen hg) fun r s' hq=>?_);obtain ⟨rfl,h2,h3,h4⟩:=hq;exact ⟨.inl ⟨.bool true,.bool true,[],rfl,fun _=>rfl,.bool true,qTF l _,fun _=>⟨List.Pairwise.nil,fun _ hm=>(nomatch hm)⟩⟩,h2,h3,h4⟩
section
variable {prog:Program} {w:World} {A:Around} {E:Value->Shared->Prop} {s:Shared} {K:Frag}
end
end Att
namespace L2
open PySem PySem.Spec PyProof.Rows
theorem qJ7:∀ {vs:List Value} {ns:List Int},IntsAre vs ns->Vals (ns.map V.int) vs
 | _,_,.nil=>.nil
 | _,_,.cons n t h=>.cons ⟨t,rfl⟩ (qJ7 h)
def qFJ (s:Stmt):Arguments:=match s with
 | .FunctionDef _ a _ _ _ _ _ _ _ _=>a
 | _=>{ posonlyargs:=[],args:=[],vararg:=none,kwonlyargs:=[],kw_defaults:=[],kwarg:=none,defaults:=[] }
def qEE (s:Stmt):List Stmt:=match s with
 | .FunctionDef _ _ b _ _ _ _ _ _ _=>b
 | _=>[]
def qAE (s:Stmt):Scope:=match s with
 | .FunctionDef _ _ _ _ _ _ sc _ _ _=>sc
 | _=>{ kind:=.function,names:=[],isGenerator:=false,isCoroutine:=false }
abbrev CX0:CXT:=fun _ _ _ _ _ _=>False
abbrev E0:XK:=fun _ _ _=>False
theorem qb0 {X:Cx}:qW2 CX0 X E0:=fun _ _ _ _ _ _ _ h=>h.elim
structure Fun (K:PySem.W.Frag) (x qual:Str) (st:Stmt) (f:Addr) (fd:FuncData):Prop where
 ex:∃ (oc:Value) (od:Option Addr) (kV doc pm:Value) (an:Option Addr) (cdv ct:Value) (osl:Array (Option Value)),
  fd=V2 x qual (qFJ st) (qEE st) (qAE st) .none kV doc pm an cdv ct/\K.lookup f=some ⟨oc,od,.func fd,osl⟩/\Z0 K cdv qual=true
 kp:P8 K (.ref f)=true
section
variable {P:Program} {w:World} {K:PySem.W.Frag} {mg:Str->Option Value} {base:Heap}
theorem Fun.ok {x qual:Str} {st:Stmt} {f:Addr} {fd:FuncData} {N ps:List Str} {k:Nat} {sp:Sp} (F:Fun K x qual st f fd) (S:FnScope N ps (qAE st)) (len:∀ vs H Q E,sp vs H Q E->vs.length=ps.length)
  (hbody:∀ (cdv:Value) (A:Around) (outer:List Env) (s:Shared) (H:Hp) (vs:List V) (Q:VK) (E:XK),Room k (A.deeper (envOfC qual (qAE st) s.heap.objs.size f cdv))->sp vs H Q E->
   ∃ t,PSs (cxOf CX0 P w K mg base N qual (qAE st) f cdv A outer s H E).nox (qEE st) t/\t { nx:=fun _ H'=>Q .non H',rt:=Q } (qLK N vs) H):FnOk P w K mg base CX0 (k+1) f fd ps sp:=by
 obtain ⟨oc,od,kV,doc,pm,an,cdv,ct,osl,rfl,lk,hcd⟩:=F.ex;refine qbN lk hcd S len fun A outer s H vs Q E hr hsp=>?_;obtain ⟨t,h,q⟩:=hbody cdv A outer s H vs Q E hr hsp;exact ⟨t,h.nox,q⟩
theorem Fun.binds {x qual:Str} {st:Stmt} {f:Addr} {fd:FuncData} {ps:List Str} (F:Fun K x qual st f fd)
  (h:∀ (kV doc pm:Value) (an:Option Addr) (cdv ct:Value) (us:List Value),us.length=ps.length->bindArgs (V2 x qual (qFJ st) (qEE st) (qAE st) .none kV doc pm an cdv ct) ⟨us,[]⟩=pure (ps.zip us)):Binds K fd ps []:=by
 obtain ⟨oc,od,kV,doc,pm,an,cdv,ct,osl,rfl,lk,hcd⟩:=F.ex;exact .all (h kV doc pm an cdv ct)
theorem fun_mk {x qual:Str} {st:Stmt} {f:Addr} {oc:Value} {od an:Option Addr} {osl:Array (Option Value)} {kV doc pm cdv ct:Value} (l:K.lookup f=some ⟨oc,od,.func (V2 x qual (qFJ st) (qEE st) (qAE st) .none kV doc pm an cdv ct),osl⟩)
  (c:Z0 K cdv qual=true) (k:P8 K (.ref f)=true):Fun K x qual st f (V2 x qual (qFJ st) (qEE st) (qAE st) .none kV doc pm an cdv ct):=⟨⟨oc,od,kV,doc,pm,an,cdv,ct,osl,rfl,l,c⟩,k⟩
end
theorem qJZ {A:Around} {k:Nat} (hr:Room k A):A.units+1<cLine:=X6 (Nat.add_le_add_left (by decide:1<=64) _) hr.units
theorem qAK {n:Nat} (h:n<=1000):n<sizeLine:=X6 h (by decide)
section
variable {X:Cx}
theorem pv (i:Nat) {x:Str} {pos:Pos} (hN:X.N[i]?=some x:=by rfl) (hv:Vis X.env.scope x:=by first | exact D2 rfl | exact c8 (D2 rfl) | exact c8 (c8 rfl)) (hd:(x == ("__debug__" : Str))=false:=by decide)
  (hcd:(x == ("__classdict__" : Str))=false:=by decide):PE X (.Name x pos) (tVar i):=qaY hN hv hd hcd
end
theorem iteF {A B:Prop} (h:B):if false=true then A else B:=by
 rw [if_neg C5];exact h
theorem iteT {A B:Prop} (h:A):if true=true then A else B:=by
 rw [if_pos rfl];exact h
theorem ite2 {c A B:Prop} [Decidable c] (h1:c->A) (h2:¬ c->B):if c then A else B:=by
 by_cases h:c
 ·rw [if_pos h];exact h1 h
 ·rw [if_neg h];exact h2 h
def Same (H H':Hp):Prop:=∀ b o,H b=some o->H' b=some o
theorem Same.refl (H:Hp):Same H H:=fun _ _ h=>h
theorem Same.trans {H H1 H2:Hp} (a:Same H H1) (b:Same H1 H2):Same H H2:=fun c o h=>b c o (a c o h)
theorem Same.free {H H':Hp} (e:Same H H') {l:Addr} (h:H' l=B01):H l=B01:=by
 cases q:H l with
 | none=>rfl
 | some o=>
  rw [e l o q] at h;cases h
section
variable {κ:Type} [DecidableEq κ]
def valV (Af:List (κ × V)) (k:κ):Option V:=(Af.find? fun kv=>decide (kv.1=k)).map (·.2)
def putK (Af:List (κ × V)) (k:κ) (v:V):List (κ × V):=
 if (Af.any fun kv=>decide (kv.1=k))=true then Af.map (fun kv=>if kv.1=k then (kv.1,v) else kv) else Af++[(k,v)]
def qGF (Af:List (κ × V)) (k:κ):List (κ × V):=Af.filter fun kv=>decide (kv.1 ≠ k)
theorem qBO {p:κ × V} {r:List (κ × V)} {k:κ} (e:p.1=k):valV (p::r) k=some p.2:=by simp [valV,X9,e]
theorem qBG {p:κ × V} {r:List (κ × V)} {k:κ} (e:¬ p.1=k):valV (p::r) k=valV r k:=by simp [valV,X9,e]
theorem qFW (k:κ):∀ Af:List (κ × V),(Af.any fun kv=>decide (kv.1=k))=(valV Af k).isSome
 | []=>rfl
 | p::r=>by
  rw [Y6];by_cases e:p.1=k
  ·simp only [qBO e,decide_eq_true e,Bool.true_or,Option.isSome_some]
  ·rw [qBG e,decide_eq_false e,Bool.false_or];exact qFW k r
theorem qQH (k j:κ) (y:V):∀ Af:List (κ × V),valV (Af.map fun kv=>if kv.1=k then (kv.1,y) else kv) j=(valV Af j).map fun x=>if j=k then y else x
 | []=>rfl
 | p::r=>by
  have ih:=qQH k j y r;rw [C1];by_cases h:p.1=k
  ·rw [if_pos h];by_cases e:p.1=j
   ·rw [qBO (p:=(p.1,y)) e,qBO e,R4,if_pos (e.symm.trans h)]
   ·rw [qBG (p:=(p.1,y)) e,qBG e,ih]
  ·rw [if_neg h];by_cases e:p.1=j
   ·rw [qBO (p:=p) e,qBO e,R4,if_neg (fun z=>h (e.trans z))]
   ·rw [qBG (p:=p) e,qBG e,ih]
theorem qMY (k j:κ) (y:V):∀ Af:List (κ × V),valV Af k=none->valV (Af++[(k,y)]) j=if j=k then some y else valV Af j
 | [],_=>by
  by_cases e:k=j
  ·rw [if_pos e.symm];exact qBO (p:=(k,y)) e
  ·rw [if_neg (fun z=>e z.symm)];exact qBG (p:=(k,y)) e
 | p::r,hn=>by
  rw [Q7];have hk:¬ p.1=k:=fun z=>by rw [qBO z] at hn;cases hn
  rw [qBG hk] at hn;have ih:=qMY k j y r hn;by_cases e:p.1=j
  ·rw [qBO e,qBO e,if_neg (fun z=>hk (e.trans z))]
  ·rw [qBG e,qBG e,ih]
theorem qIG (Af:List (κ × V)) (k j:κ) (y:V):valV (putK Af k y) j=if j=k then some y else valV Af j:=by
 unfold putK;by_cases a:(Af.any fun kv=>decide (kv.1=k))=true
 ·rw [if_pos a,qQH];rw [qFW] at a;by_cases e:j=k
  ·obtain ⟨x,hx⟩:=W4.mp a;rw [if_pos e,e,hx,R4,if_pos rfl]
  ·rw [if_neg e];cases valV Af j with
   | none=>rfl
   | some x=>rw [R4,if_neg e]
 ·rw [if_neg a];refine qMY k j y Af ?_;rw [qFW] at a;cases q:valV Af k with
  | none=>rfl
  | some x=>rw [q] at a;exact (a rfl).elim
theorem qCD (Af:List (κ × V)) (k:κ) (v:V):(putK Af k v).length<=Af.length+1:=by
 unfold putK
 split
 ·rw [A0];omega
 ·rw [A6,D1,b9];omega
theorem qWH {Af:List (κ × V)} {k:κ} (v:V) (h:valV Af k=none):putK Af k v=Af++[(k,v)]:=by
 unfold putK;rw [qFW,h];exact if_neg (by decide)
theorem RelO.isSome_eq {o:Option V} {u:Option Value} (r:RelO o u):o.isSome=u.isSome:=by
 cases o with
 | none=>cases u with
  | none=>rfl
  | some _=>exact (show False from r).elim
 | some _=>cases u with
  | none=>exact (show False from r).elim
  | some _=>rfl
theorem KV.val {Af:List (κ × V)} {vs:List (κ × Value)} (r:KV Af vs) (k:κ):RelO (valV Af k) (valueAt vs k):=by
 unfold KV at r
 induction r with
 | nil=>exact U7
 | @cons p q ps qs h t ih=>
  obtain ⟨h1,h2⟩:=h;by_cases e:p.1=k
  ·have e':q.1=k:=h1.symm.trans e;have b:valueAt (q::qs) k=some q.2:=by simp [valueAt,X9,e']
   rw [qBO e,b];exact h2
  ·have e':¬ q.1=k:=fun z=>e (h1.trans z);have b:valueAt (q::qs) k=valueAt qs k:=by simp [valueAt,X9,e']
   rw [qBG e,b];exact ih
theorem KV.any {Af:List (κ × V)} {vs:List (κ × Value)} (r:KV Af vs) (k:κ):(Af.any fun kv=>decide (kv.1=k))=vs.any fun kv=>decide (kv.1=k):=by
 unfold KV at r
 induction r with
 | nil=>rfl
 | cons h t ih=>rw [Y6,Y6,ih,h.1]
theorem KV.repl {Af:List (κ × V)} {vs:List (κ × Value)} (r:KV Af vs) (k:κ) {y:V} {u:Value} (ry:RelV y u) :
  KV (Af.map fun kv=>if kv.1=k then (kv.1,y) else kv) (vs.map fun kv=>if kv.1=k then (kv.1,u) else kv):=by
 unfold KV at r ⊢
 induction r with
 | nil=>exact .nil
 | @cons p q ps qs h t ih=>
  rw [C1,C1];refine .cons ?_ ih;obtain ⟨h1,h2⟩:=h;by_cases e:p.1=k
  ·rw [if_pos e,if_pos (h1.symm.trans e)];exact ⟨h1,ry⟩
  ·rw [if_neg e,if_neg (fun z=>e (h1.trans z))];exact ⟨h1,h2⟩
theorem KV.put {Af:List (κ × V)} {vs:List (κ × Value)} (r:KV Af vs) (k:κ) {y:V} {u:Value} (ry:RelV y u):KV (putK Af k y) (stored vs k u):=by
 unfold putK stored;rw [r.any k];by_cases e:(vs.any fun kv=>decide (kv.1=k))=true
 ·rw [if_pos e,if_pos e];exact r.repl k ry
 ·rw [if_neg e,if_neg e];exact V6 r ⟨rfl,ry⟩
theorem KV.drop {Af:List (κ × V)} {vs:List (κ × Value)} (r:KV Af vs) (k:κ):KV (qGF Af k) (without vs k):=by
 unfold KV at r ⊢;unfold qGF without
 induction r with
 | nil=>exact .nil
 | @cons p q ps qs h t ih=>
  obtain ⟨h1,h2⟩:=h;rw [O1,O1];by_cases e:p.1=k
  ·have a:¬ decide (p.1 ≠ k)=true:=by simp [e]
   have b:¬ decide (q.1 ≠ k)=true:=by simp [h1.symm.trans e]
   rw [if_neg a,if_neg b];exact ih
  ·have e':¬ q.1=k:=fun z=>e (h1.trans z);have a:decide (p.1 ≠ k)=true:=by simp [e]
   have b:decide (q.1 ≠ k)=true:=by simp [e']
   rw [if_pos a,if_pos b];exact .cons ⟨h1,h2⟩ ih
theorem KV.length {Af:List (κ × V)} {vs:List (κ × Value)} (r:KV Af vs):Af.length=vs.length:=C6 r
theorem qRG (Af:List (κ × V)) (k:κ):(qGF Af k).length<=Af.length:=V3 _ _
end
theorem qPV {P:Program} {w:World} {k:Key} {u:Value} (r:RelV (kV k) u):(qB8 P w).is k u=true:=by
 cases k with
 | inl i=>obtain ⟨t,e⟩:=(show ∃ t,u=G8 i t from r);subst e;exact qPO P w i t
 | inr x=>obtain ⟨t,e⟩:=(show ∃ t,u=A32 x t from r);subst e;exact qPN P w x t
theorem qO0 {P:Program} {w:World}:∀ {ks:List Key} {us:List Value},Vals (ks.map kV) us->ItemsAre (qB8 P w) ks us
 | [],_,r=>by rw [A08] at r;cases r;exact .nil
 | k::ks,_,r=>by
  rw [C1] at r;cases r with
  | cons h t=>exact .cons (qPV h) (qO0 t)
abbrev KT (H:Hp):List (List Key × V)->List (List Key × Addr × Value)->Prop:=Paired fun p q=>p.1=q.1/\H q.2.1=some (.tup (p.1.map kV))/\RelV p.2 q.2.2
theorem KT.val {H:Hp} {Af:List (List Key × V)} {xs:List (List Key × Addr × Value)} (r:KT H Af xs) (k:List Key):RelO (valV Af k) ((atKey xs k).map (·.2)):=by
 induction r with
 | nil=>exact U7
 | @cons p q ps qs h t ih=>
  obtain ⟨h1,_,h2⟩:=h;by_cases e:p.1=k
  ·have e':q.1=k:=h1.symm.trans e;have b:atKey (q::qs) k=some q.2:=by simp [atKey,X9,e']
   rw [qBO e,b];exact h2
  ·have e':¬ q.1=k:=fun z=>e (h1.trans z);have b:atKey (q::qs) k=atKey qs k:=by simp [atKey,X9,e']
   rw [qBG e,b];exact ih
theorem KT.repl {H:Hp} {Af:List (List Key × V)} {xs:List (List Key × Addr × Value)} (r:KT H Af xs) (k:List Key) {y:V} {u:Value} (ry:RelV y u) :
  KT H (Af.map fun kv=>if kv.1=k then (kv.1,y) else kv) (xs.map (putAt k u)):=by
 induction r with
 | nil=>exact .nil
 | @cons p q ps qs h t ih=>
  rw [C1,C1];refine .cons ?_ ih;obtain ⟨h1,h2,h3⟩:=h;unfold putAt;by_cases e:p.1=k
  ·rw [if_pos e,if_pos (h1.symm.trans e)];exact ⟨h1,h2,ry⟩
  ·rw [if_neg e,if_neg (fun z=>e (h1.trans z))];exact ⟨h1,h2,h3⟩
theorem KT.put {H:Hp} {Af:List (List Key × V)} {xs:List (List Key × Addr × Value)} (r:KT H Af xs) (k:List Key) {b:Addr} {y:V} {u:Value} (hb:H b=some (.tup (k.map kV))) (ry:RelV y u) :
  KT H (putK Af k y) (storedH xs k b u):=by
 have e:(Af.any fun kv=>decide (kv.1=k))=(atKey xs k).isSome:=by
  rw [qFW,(r.val k).isSome_eq,p6]
 unfold putK storedH;rw [e];by_cases q:(atKey xs k).isSome=true
 ·rw [if_pos q,if_pos q];exact r.repl k ry
 ·rw [if_neg q,if_neg q];exact V6 r ⟨rfl,hb,ry⟩
theorem KT.keeps {H H':Hp} {Af:List (List Key × V)} {xs:List (List Key × Addr × Value)} (r:KT H Af xs) (ht:∀ b ys,H b=some (.tup ys)->H' b=some (.tup ys)):KT H' Af xs:=
 Paired.mapP r fun _ _ z=>⟨z.1,ht _ _ z.2.1,z.2.2⟩
section
variable {P:Program} {w:World} {H:Hp} {h:Heap} {a:Addr}
theorem qaS {u:HO} (ok:HOk P w H h) (e:Rd H a u):ObjOk P w H h a u:=e.ok ok
theorem qV9 {Af:List (Key × V)} (ok:HOk P w H h) (e:Rd H a (.dK Af)):Af.length<=sizeLine/\(a == sysModules)=false/\∃ vs,KV Af vs/\h.DictOf (qB8 P w) a vs:=
 show ObjOk P w H h a (.dK Af) from qaS ok e
theorem qVA {Af:List (Key × V)} (ok:HOk P w H h) (e:H a=some (.dK Af)):Af.length<=sizeLine/\(a == sysModules)=false/\∃ vs,KV Af vs/\h.DictOf (qB8 P w) a vs:=qV9 ok (.inl e)
theorem qR6 {ks:List Key} (ok:HOk P w H h) (e:H a=some (.tup (ks.map kV))):(tupleKind (qB8 P w)).is h ks a:=by
 obtain ⟨_,its,r,o,h1,h2,n,h3⟩:=(show ObjOk P w H h a (.tup (ks.map kV)) from ok a _ e);exact ⟨o,its.toArray,n,h1,h2,h3,by simpa using qO0 r⟩
theorem qV5 {Af:List (List Key × V)} (ok:HOk P w H h) (e:Rd H a (.dT Af)):Af.length<=sizeLine/\(a == sysModules)=false/\
  ∃ xs,KT H Af xs/\h.DictOfH (tupleKind (qB8 P w)) a xs:=by
 obtain ⟨z,y,xs,r,o,es,ep,h1,h2,h3,h4,h5⟩:=(show ObjOk P w H h a (.dT Af) from qaS ok e);refine ⟨z,y,xs,r,o,es,ep,h1,h2,h3,h4,fun x hx=>?_,h5⟩;have all:∀ {l:List (List Key × V)} {m:List (List Key × Addr × Value)},KT H l m->∀ x ∈ m,(tupleKind (qB8 P w)).is h x.1 x.2.1:=by
  intro l m q
  induction q with
  | nil=>intro x hx;exact nomatch hx
  | @cons p q ps qs hq t ih=>
   intro x hx;rcases B5.mp hx with e | hx
   ·subst e;exact qR6 ok (by rw [<- hq.1];exact hq.2.1)
   ·exact ih x hx
 exact all r x hx
theorem qcT {Af:List (List Key × V)} (ok:HOk P w H h) (e:H a=some (.dT Af)):Af.length<=sizeLine/\(a == sysModules)=false/\
  ∃ xs,KT H Af xs/\h.DictOfH (tupleKind (qB8 P w)) a xs:=qV5 ok (.inl e)
end
def DGet (H:Hp) (a:Addr) (y:V) (r:Option V):Prop:=
 (∃ Af k,Rd H a (.dK Af)/\y=kV k/\r=valV Af k)\/∃ Af k b,Rd H a (.dT Af)/\y=.ref b/\H b=some (.tup (k.map kV))/\r=valV Af k
def DPut (H:Hp) (a:Addr) (y v:V) (H':Hp):Prop:=
 (∃ Af k,H a=some (.dK Af)/\y=kV k/\Af.length<sizeLine/\H'=upd H a (.dK (putK Af k v)))\/
 ∃ Af k b,H a=some (.dT Af)/\y=.ref b/\H b=some (.tup (k.map kV))/\Af.length<sizeLine/\H'=upd H a (.dT (putK Af k v))
theorem DGet.k {H:Hp} {a:Addr} {Af:List (Key × V)} {k:Key} (e:H a=some (.dK Af)):DGet H a (kV k) (valV Af k):=.inl ⟨Af,k,.inl e,rfl,rfl⟩
theorem DPut.k {H:Hp} {a:Addr} {Af:List (Key × V)} {k:Key} {v:V} (e:H a=some (.dK Af)) (hl:Af.length<sizeLine):DPut H a (kV k) v (upd H a (.dK (putK Af k v))):=.inl ⟨Af,k,e,rfl,hl,rfl⟩
section
variable {X:Cx} {Ab:List (Addr × Obj)} {σ:St} {H:Hp} {s:Shared} {a:Addr} {y v:V} {u r:Value} {o:Option V} {A:Around} {E:Value->Shared->Prop}
theorem Inv.big (I:Inv X Ab σ H s):sysModules<s.heap.objs.size:=by
 have h:mainGlobals<s.heap.objs.size:=(I.mod.glob.keeps I.bk).lt;exact Z8 (by decide) h
theorem qVG {Q:Value->Shared->Prop} (hu:A.units+1<cLine) (I:Inv X Ab σ H s) (g:DGet H a y (some v)) (ry:RelV y u) (h:∀ w' s',Inv X Ab σ H s'->RelV v w'->Q w' s') :
  wpAny (model X.prog X.w) A (getItem (.ref a) u) Q E s:=by
 rcases g with ⟨Af,k,e,ey,l⟩ | ⟨Af,k,b,e,ey,eb,l⟩
 ·subst ey;obtain ⟨z,hd,vs,rel,dd⟩:=qV9 I.hok e;obtain ⟨w',hw,rw'⟩:=RelO.some_of (v:=v) (o:=valueAt vs k) (by rw [l];exact rel.val k)
  exact wpAny_getItem_of (qPV ry) dd.mapOf hw (h w' _ (I.tok _) rw')
 ·subst ey;cases (show u=C9 b from ry);obtain ⟨z,hd,xs,rel,dd⟩:=qV5 I.hok e;obtain ⟨w',hw,rw'⟩:=RelO.some_of (v:=v) (o:=(atKey xs k).map (·.2)) (by rw [l];exact rel.val k)
  obtain ⟨p,hp,hp2⟩:=A03.mp hw;refine wpAny_getItem_heap (tupleKind_room_in1 hu) (qR6 I.hok eb) dd hp ?_;rw [hp2];exact h w' _ (I.tok _) rw'
theorem d_in {Q:Value->Shared->Prop} (hu:A.units+1<cLine) (I:Inv X Ab σ H s) (g:DGet H a y o) (ry:RelV y u) (h:∀ s',Inv X Ab σ H s'->Q (.bool o.isSome) s') :
  wpAny (model X.prog X.w) A (compareOp .In u (.ref a)) Q E s:=by
 rcases g with ⟨Af,k,e,ey,l⟩ | ⟨Af,k,b,e,ey,eb,l⟩
 ·subst ey;obtain ⟨z,hd,vs,rel,dd⟩:=qV9 I.hok e;refine wpAny_in_of (qPV ry) hd dd.mapOf ?_;rw [<- (rel.val k).isSome_eq,<- l];exact h _ (I.tok _)
 ·subst ey;cases (show u=C9 b from ry);obtain ⟨z,hd,xs,rel,dd⟩:=qV5 I.hok e;refine wpAny_in_heap (tupleKind_room_in1 hu) (qR6 I.hok eb) hd dd ?_;have q:=(rel.val k).isSome_eq;rw [p6] at q;rw [<- q,<- l];exact h _ (I.tok _)
theorem qK4 {h':Heap} {t':Nat} {ob:HO} (I:Inv X Ab σ H s) (mu:Mut (H a)) (hs:Heap.SameBut a s.heap h') (he:∃ q,h'.get? a=some q) (new:ObjOk X.prog X.w (upd H a ob) h' a ob) :
  Inv X Ab σ (upd H a ob) { s with heap:=h',toks:=t' }:=
 I.write (x:=a) (e:=a) mu (.inl rfl) (fun b q hb z=>(hs.2 b hb).trans z) he new
theorem qOF {P:Program} {w:World} {H':Hp} {h':Heap} {Af:List (Key × V)} {vs:List (Key × Value)} (z:Af.length<=sizeLine) (hd:(a == sysModules)=false) (rel:KV Af vs) (dd:h'.DictOf (qB8 P w) a vs) :
  ObjOk P w H' h' a (.dK Af):=⟨z,hd,vs,rel,dd⟩
theorem qVF {H':Hp} {Q:Unit->Shared->Prop} (hu:A.units+1<cLine) (I:Inv X Ab σ H s) (g:DPut H a y v H') (ry:RelV y u) (rv:RelV v r) (h:∀ s',Inv X Ab σ H' s'->Q () s') :
  wpAny (model X.prog X.w) A (setItem (.ref a) u r) Q E s:=by
 rcases g with ⟨Af,k,e,ey,l,eH⟩ | ⟨Af,k,b,e,ey,eb,l,eH⟩
 ·subst ey eH;obtain ⟨z,hd,vs,rel,dd⟩:=qVA I.hok e;have hz:vs.length<=sizeLine:=by rw [<- rel.length];exact z
  have hl:(putK Af k v).length<=sizeLine:=by have:=qCD Af k v;omega
  refine wpAny_setItem_pairs (hsz:=hz) (qPV ry) dd fun h' dd' hs=>h _ ?_;have he:∃ q,h'.get? a=some q:=let ⟨q,_,_,hq,_⟩:=dd';⟨q,hq⟩
  exact qK4 I (by rw [e];exact U7) hs he (qOF hl hd (rel.put k rv) dd')
 ·subst ey eH;cases (show u=C9 b from ry);obtain ⟨z,hd,xs,rel,dd⟩:=qcT I.hok e;have hz:xs.length<=sizeLine:=by rw [<- C6 rel];exact z
  have hl:(putK Af k v).length<=sizeLine:=by have:=qCD Af k v;omega
  refine wpAny_setItem_heap (hsz:=hz) (tupleKind_room_in1 hu) (qR6 I.hok eb) dd fun h' dd' hs=>h _ ?_;obtain ⟨q,es,ep,hq,h2,h3,h4,_,h5⟩:=dd';refine qK4 I (by rw [e];exact U7) hs ⟨q,hq⟩ ⟨hl,hd,_,(rel.put k eb rv).keeps fun c ys ec=>?_,q,es,ep,hq,h2,h3,h4,h5⟩
  rw [qA8 (qBM ec e (fun z=>nomatch z))];exact ec
end
section
variable {X:Cx} {Ab:List (Addr × Obj)} {σ:St} {H:Hp} {s:Shared} {a:Addr} {Af:List (Key × V)} {k:Key} {u:Value} {A:Around} {E:Value->Shared->Prop}
theorem qbQ {Q:Unit->Shared->Prop} (I:Inv X Ab σ H s) (e:H a=some (.dK Af)) (ry:RelV (kV k) u) (l:(valV Af k).isSome=true) (h:∀ s',Inv X Ab σ (upd H a (.dK (qGF Af k))) s'->Q () s') :
  wpAny (model X.prog X.w) A (delItem (.ref a) u) Q E s:=by
 obtain ⟨z,hd,vs,rel,dd⟩:=qVA I.hok e;refine wpAny_delItem_slot dd.typeIs (by decide) n9
  (call_meetsIn n9 dd.typeIs PySem.F.entry_dict_delitem (PySem.F.args_dict_delitem_2 _ _) (meets_dict_delitem_pairs (qB8 X.prog X.w) a (qPV ry)) ⟨vs,dd,by rw [<- rel.length];exact z,by rw [<- (rel.val k).isSome_eq];exact l,fun h' dd' hs=>h _ ?_⟩)
 have he:∃ q,h'.get? a=some q:=let ⟨q,_,_,hq,_⟩:=dd';⟨q,hq⟩
 exact qK4 I (by rw [e];exact U7) hs he (qOF (L6 (qRG Af k) z) hd (rel.drop k) dd')
theorem qcU {v:V} {more:List Value} {Q:Value->Shared->Prop} (I:Inv X Ab σ H s) (e:H a=some (.dK Af)) (ry:RelV (kV k) u) (l:valV Af k=some v) (hm:more=[]\/∃ x,more=[x])
  (h:∀ w' s',Inv X Ab σ (upd H a (.dK (qGF Af k))) s'->RelV v w'->Q w' s'):wpAny (model X.prog X.w) A (call (.builtin "dict.pop") (.ref a::u::more)) Q E s:=by
 obtain ⟨z,hd,vs,rel,dd⟩:=qVA I.hok e;obtain ⟨w',hw,rw'⟩:=RelO.some_of (v:=v) (o:=valueAt vs k) (by rw [<- l];exact rel.val k)
 have hp:(keyPart u).isSome=true:=by
  cases k with
  | inl i=>obtain ⟨t,q⟩:=(show ∃ t,u=G8 i t from ry);subst q;rfl
  | inr x=>obtain ⟨t,q⟩:=(show ∃ t,u=A32 x t from ry);subst q;rfl
 have ha:argsOk "dict.pop" ⟨.ref a::u::more,[]⟩:=by
  rcases hm with q | ⟨x,q⟩
  ·subst q;exact PySem.F.args_dict_pop_2 _ _
  ·subst q;exact PySem.F.args_dict_pop_3 _ _ _
 refine call_meetsIn A09 dd.typeIs PySem.F.entry_dict_pop ha (meets_dict_pop_there (qB8 X.prog X.w) a (qPV ry) more hm hp)
  ⟨vs,w',dd,by rw [<- rel.length];exact z,hw,fun h' dd' hs=>h w' _ ?_ rw'⟩
 have he:∃ q,h'.get? a=some q:=let ⟨q,_,_,hq,_⟩:=dd';⟨q,hq⟩
 exact qK4 I (by rw [e];exact U7) hs he (qOF (L6 (qRG Af k) z) hd (rel.drop k) dd')
end
def NoSl (i:Expr):Prop:=∀ ov iv,subscripted i false ov iv=operate [ov,iv] (getItem ov iv)
theorem qYN {prog:Program} {w:World} {A:Around} {E:Value->Shared->Prop} {s:Shared} {env:Env} {value slice:Expr} {pos:Pos} {T id:String} {Q:Value->Shared->Prop}
  (hl:typeLookup (.type T) "__getitem__" = pure (some (.builtin id))) (hs:NoSl slice)
  (h:wpAny (model prog w) A (eval value env) (fun o s₁=>wpAny (model prog w) A (eval slice env) (fun i s₂=>s₂.TypeIs o T/\wpAny (model prog w) A (getItem o i) Q E s₂) E s₁) E s) :
  wpAny (model prog w) A (eval (.Subscript value slice pos) env) Q E s:=by
 refine Subscript_ (wpAny_mono h (fun o s₁ h₁=>wpAny_mono h₁ (fun i s₂ h₂=>?_) fun _ _ x=>x) fun _ _ x=>x);obtain ⟨hT,h₂⟩:=h₂;unfold subscriptTail;refine wpAny_bind ?_;rw [getitemInPython_of_ne hT.not_modules];refine wpAny_bind (wpAny_specialOf hT hl ?_);have fin:wpAny (model prog w) A (subscripted slice false o i) (fun r s₃=>wpAny (model prog w) A (letTemporaryGo value o r >>= fun _=>pure r) Q E s₃) E s₂:=by
  rw [hs o i];exact wpAny_operating (wpAny_mono h₂ (fun r s₃ h₃=>wpAny_bind (wpAny_letTemporaryGo (wpAny_pure h₃))) fun _ _ x=>x)
 first
  | exact wpAny_pure (wpAny_bind fin)
  | exact wpAny_bind (wpAny_pure (wpAny_bind fin))
  | exact wpAny_bind fin
theorem qQ4 {X:Cx} {Ab:List (Addr × Obj)} {σ:St} {H:Hp} {s:Shared} {a:Addr} {y:V} {o:Option V} (I:Inv X Ab σ H s) (g:DGet H a y o):s.TypeIs (.ref a) "dict":=by
 rcases g with ⟨Af,k,e,_,_⟩ | ⟨Af,k,b,e,_,_,_⟩
 ·obtain ⟨_,_,vs,_,dd⟩:=qV9 I.hok e;exact dd.typeIs
 ·obtain ⟨_,_,xs,_,dd⟩:=qV5 I.hok e;exact dd.typeIs
def qc6 (td ty:TE):TE:=fun σ H Q=>td σ H fun x H1=>ty σ H1 fun y H2=>∃ a v,x=.ref a/\DGet H2 a y (some v)/\Q v H2
def tDIn (ty td:TE):TE:=fun σ H Q=>ty σ H fun y H1=>td σ H1 fun x H2=>∃ a o,x=.ref a/\DGet H2 a y o/\Q (.bl o.isSome) H2
def qcB (td ty tv:TE):TS:=fun D σ H=>tv σ H fun v H1=>td σ H1 fun x H2=>ty σ H2 fun y H3=>∃ a H4,x=.ref a/\DPut H3 a y v H4/\D.nx σ H4
section
variable {X:Cx} {o i e value:Expr} {pos pos' tpos:Pos} {td ty tv:TE}
theorem qD8 (hu:X.A.units+1<cLine) (ho:PE X o td) (hi:PE X i ty) (hs:NoSl i):PE X (.Subscript o i pos) (qc6 td ty):=by
 intro Ab s σ H Q I h;refine qYN PySem.F.slot_dict_getitem.lookup hs (thn (ho Ab s σ H _ I h) fun u s1 ⟨x,H1,I1,rx,q1⟩=>thn (hi Ab s1 σ H1 _ I1 q1) fun iv s2 ⟨y,H2,I2,ry,a,v,ex,g,q2⟩=>?_);subst ex;obtain rfl:u=C9 a:=rx;exact ⟨qQ4 I2 g,qVG hu I2 g ry fun w' s3 I3 rw'=>⟨v,H2,I3,rw',q2⟩⟩
theorem qNB (hu:X.A.units+1<cLine) (hi:PE X i ty) (ho:PE X o td):PC X .In i o (tDIn ty td):=by
 intro Ab s σ H Q I h;refine thn (hi Ab s σ H _ I h) fun iv s1 ⟨y,H1,I1,ry,q1⟩=>thn (ho Ab s1 σ H1 _ I1 q1) fun u s2 ⟨x,H2,I2,rx,a,ov,ex,g,q2⟩=>?_;subst ex;obtain rfl:u=C9 a:=rx;exact d_in hu I2 g ry fun s3 I3=>⟨.bl ov.isSome,H2,I3,rfl,q2⟩
theorem qEL (hu:X.A.units+1<cLine) (ho:PE X o td) (hi:PE X i ty) (hv:PE X value tv) (hs:swapsWith value (some (.Subscript o i pos')) pos.line X.env=pure false) :
  PS X (.Assign [.Subscript o i pos'] value pos) (qcB td ty tv):=by
 intro Ab s σ H D I h;refine wpAny_Assign_Subscript (thn (hv Ab s σ H _ I h) fun r s1 ⟨v,H1,I1,rv,q1⟩=>thn (ho Ab s1 σ H1 _ I1 q1) fun u s2 ⟨x,H2,I2,rx,q2⟩=>thn (hi Ab s2 σ H2 _ I2 q2) fun iv s3 ⟨y,H3,I3,ry,a,H4,ex,g,q3⟩=>?_) hs;subst ex;obtain rfl:u=C9 a:=rx;exact qVF hu I3 g ry rv fun s4 I4=>⟨σ,H4,I4,q3⟩
end
theorem qRI {P:Program} {w:World} {H:Hp} (h:Heap) (hb:sysModules<h.objs.size):ObjOk P w H (h.push { cls:=.type "dict",data:=.dict #[] }) h.objs.size (.dK []):=
 ⟨D7 _,beq_eq_false_iff_ne.mpr (G6 (C7 hb)),[],.nil,A69 h⟩
def qaE:TE:=fun _ H Q=>∀ p,H p=none->Q (.ref p) (upd H p (.dK []))
section
variable {X:Cx} {pos:Pos}
theorem qEN:PE X (.Dict [] [] pos) qaE:=fun Ab s σ H Q I h=>
 wpAny_Dict_empty ⟨.ref s.heap.objs.size,_,I.laid (a:=s.heap.objs.size) (o:=.dK []) (t':=s.toks) (fun _ _ q=>A2 _ q) (B0 _) (qRI s.heap I.big),rfl,h _ (I.hok.fresh (B0 _))⟩
end
def qSX:List (TE × TE)->St->Hp->(List (V × V)->Hp->Prop)->Prop
 | [],_,H,Q=>Q [] H
 | (tk,tv)::r,σ,H,Q=>tk σ H fun x H1=>tv σ H1 fun y H2=>qSX r σ H2 fun ps H3=>Q ((x,y)::ps) H3
abbrev VV:List (V × V)->List (Value × Value)->Prop:=Paired fun p q=>RelV p.1 q.1/\RelV p.2 q.2
def PPs (X:Cx) (pos:Pos) (keys:List (Option Expr)) (values:List Expr) (trs:List (TE × TE)):Prop:=
 ∀ (Ab:List (Addr × Obj)) (s:Shared) (σ:St) (H:Hp) (Q:List (V × V)->Hp->Prop),Inv X Ab σ H s->qSX trs σ H Q->
  wpAny (model X.prog X.w) X.A (evalPairs (pairTrees keys values X.env pos)) (fun vs s'=>∃ ps H',Inv X Ab σ H' s'/\VV ps vs/\Q ps H') X.xe s
theorem qYZ {X:Cx} {pos:Pos}:PPs X pos [] [] []:=fun Ab s σ H Q I h=>pairTrees_nil_walk ⟨[],H,I,.nil,h⟩
theorem qQV {X:Cx} {pos:Pos} {k v:Expr} {ks:List (Option Expr)} {vs:List Expr} {tk tv:TE} {trs:List (TE × TE)} (hk:PE X k tk) (hv:PE X v tv) (hr:PPs X pos ks vs trs) :
  PPs X pos (some k::ks) (v::vs) ((tk,tv)::trs):=fun Ab s σ H Q I h=>
 pairTrees_cons_walk (thn (hk Ab s σ H _ I h) fun u s1 ⟨x,H1,I1,rx,q1⟩=>thn (hv Ab s1 σ H1 _ I1 q1) fun w2 s2 ⟨y,H2,I2,ry,q2⟩=>
  thn (hr Ab s2 σ H2 _ I2 q2) fun ws s3 ⟨ps,H3,I3,rel,q3⟩=>⟨(x,y)::ps,H3,I3,.cons ⟨rx,ry⟩ rel,q3⟩)
def qJQ (Af more:List (Key × V)):List (Key × V):=more.foldl (fun acc kv=>putK acc kv.1 kv.2) Af
theorem KV.merge:∀ {more:List (Key × V)} {rs:List (Key × Value)} {Af:List (Key × V)} {vs:List (Key × Value)},KV more rs->KV Af vs->KV (qJQ Af more) (merged vs rs):=by
 intro more rs Af vs r;unfold KV at r
 induction r generalizing Af vs with
 | nil=>intro q;exact q
 | @cons p q ps qs h t ih=>
  intro r0;have e:KV (putK Af p.1 p.2) (stored vs q.1 q.2):=by
   have:=r0.put p.1 h.2;rw [<- h.1];exact this
  exact ih e
theorem qGX:∀ (more Af:List (Key × V)),(qJQ Af more).length<=Af.length+more.length
 | [],Af=>by show Af.length<=Af.length+0;omega
 | p::r,Af=>by
  have h1:=qGX r (putK Af p.1 p.2);have h2:=qCD Af p.1 p.2;show (qJQ (putK Af p.1 p.2) r).length<=_;rw [D1];omega
theorem qLC {P:Program} {w:World}:∀ {Af:List (Key × V)} {ws:List (Value × Value)},VV (Af.map fun kv=>(kV kv.1,kv.2)) ws->∃ rs,Carries (qB8 P w) ws rs/\KV Af rs
 | [],_,r=>by rw [A08] at r;cases r;exact ⟨[],U7,.nil⟩
 | p::Af,_,r=>by
  rw [C1] at r;cases r with
  | @cons a b as bs h t=>
   obtain ⟨rs,c,q⟩:=qLC (P:=P) (w:=w) t;obtain ⟨b1,b2⟩:=b;exact ⟨(p.1,b2)::rs,⟨qPV h.1,rfl,c⟩,.cons ⟨rfl,h.2⟩ q⟩
def qc5 (trs:List (TE × TE)):TE:=fun σ H Q=>∀ p,H p=none->qSX trs σ (upd H p (.dK [])) fun ps H2=>H2 p=some (.dK [])/\∃ Af:List (Key × V),ps=Af.map (fun kv=>(kV kv.1,kv.2))/\Af.length<=15/\Q (.ref p) (upd H2 p (.dK (qJQ [] Af)))
theorem qZ0 {X:Cx} {pos:Pos} {keys:List (Option Expr)} {values:List Expr} {trs:List (TE × TE)} (h:PPs X pos keys values trs) (hall:keys.all (·.isSome)=true) (hl:keys.length=values.length) (h0:keys ≠ [])
  (h15:keys.length<=15):PE X (.Dict keys values pos) (qc5 trs):=by
 intro Ab s σ H Q I q;have hn:=I.hok.fresh (B0 s.heap.objs.size);have I1:=I.laid (a:=s.heap.objs.size) (o:=.dK []) (h':=s.heap.push { cls:=.type "dict",data:=.dict #[] }) (t':=s.toks) (fun _ _ q=>A2 _ q) (B0 _) (qRI s.heap I.big);refine wpAny_Dict_walk (knd:=qB8 X.prog X.w) hall hl h0 h15 (thn (h Ab _ σ _ _ I1 (q _ hn)) fun ws s2 ⟨ps,H2,I2,rel,e,Af,ep,lk,q2⟩=>?_);subst ep;obtain ⟨rs,c,rk⟩:=qLC (P:=X.prog) (w:=X.w) rel;obtain ⟨z,hd,vs0,r0,dd⟩:=qVA I2.hok e;cases r0;refine ⟨rs,c,dd,fun h' dd' hs=>⟨.ref s.heap.objs.size,_,?_,rfl,q2⟩⟩;have hz:(qJQ [] Af).length<=sizeLine:=by
  have h1:=qGX Af [];rw [b9] at h1;rw [sizeLine_eq];omega
 have he:∃ q,h'.get? s.heap.objs.size=some q:=let ⟨q,_,_,hq,_⟩:=dd';⟨q,hq⟩
 exact qK4 I2 (by rw [e];exact U7) hs he (qOF hz hd (rk.merge .nil) dd')
structure M1 (X:Cx) (o:Expr) (m:Str) (apos:Pos) (e:Expr) (cpos:Pos):Prop where
 base:attributeBase o m X.env (eval o X.env)=eval o X.env
 few:((backTo cpos (starEach [e] X.env)).all (fun x=>!x.1) && (backToKw cpos (keywordEach [] X.env)).all (fun x=>x.1.isSome)
  && decide (([e]:List Expr).length+([]:List Keyword).length+(if ([]:List Keyword).isEmpty then 0 else 1)<30))=true
 line:(apos.endLine == cpos.line)=true
 trees:backTo cpos (starEach [e] X.env)=[(false,eval e X.env)]
structure M2 (X:Cx) (o:Expr) (m:Str) (apos:Pos) (e f:Expr) (cpos:Pos):Prop where
 base:attributeBase o m X.env (eval o X.env)=eval o X.env
 few:((backTo cpos (starEach [e,f] X.env)).all (fun x=>!x.1) && (backToKw cpos (keywordEach [] X.env)).all (fun x=>x.1.isSome)
  && decide (([e,f]:List Expr).length+([]:List Keyword).length+(if ([]:List Keyword).isEmpty then 0 else 1)<30))=true
 line:(apos.endLine == cpos.line)=true
 trees:backTo cpos (starEach [e,f] X.env)=[(false,eval e X.env),(false,eval f X.env)]
def IsD (H:Hp) (a:Addr):Prop:=(∃ Af,Rd H a (.dK Af))\/∃ Af,Rd H a (.dT Af)
theorem qbL {X:Cx} {Ab:List (Addr × Obj)} {σ:St} {H:Hp} {s:Shared} {a:Addr} (I:Inv X Ab σ H s) (d:IsD H a) :
  s.TypeIs (.ref a) "dict"/\(∀ b,C9 a=.ref b->∃ ob,s.heap.get? b=some ob/\ob.dict=none)/\(a == sysModules)=false:=by
 rcases d with ⟨Af,e⟩ | ⟨Af,e⟩
 ·obtain ⟨_,hd,vs,_,dd⟩:=qV9 I.hok e;refine ⟨dd.typeIs,fun b q=>?_,hd⟩;cases q;obtain ⟨ob,_,_,h1,h2,_⟩:=dd;exact ⟨ob,h1,h2.2.1⟩
 ·obtain ⟨_,hd,xs,_,dd⟩:=qV5 I.hok e;refine ⟨dd.typeIs,fun b q=>?_,hd⟩;cases q;obtain ⟨ob,_,_,h1,h2,_⟩:=dd;exact ⟨ob,h1,h2.2.1⟩
section
variable {X:Cx} {Ab:List (Addr × Obj)} {σ:St} {H:Hp} {s:Shared} {a:Addr} {y d:V} {u r:Value} {o:Option V} {A:Around} {E:Value->Shared->Prop}
end
def qaD (td ty:TE):TE:=fun σ H Q=>td σ H fun x H1=>∃ a,x=.ref a/\IsD H1 a/\ty σ H1 fun y H2=>∃ Af k v,H2 a=some (.dK Af)/\y=kV k/\valV Af k=some v/\Q v (upd H2 a (.dK (qGF Af k)))
section
variable {X:Cx} {o e f:Expr} {apos cpos:Pos} {td ty tx:TE}
theorem qWM (ho:PE X o td) (he:PE X e ty) (m:M1 X o "pop" apos e cpos):PE X (.Call (.Attribute o "pop" apos) [e] [] cpos) (qaD td ty):=by
 intro Ab s σ H Q I h;refine wpAny_Call_method m.base m.few m.line PySem.F.plainAttrs_dict A09 PySem.F.type_dict_pop (thn (ho Ab s σ H _ I h) fun u s1 ⟨x,H1,I1,rx,a,ex,d,q1⟩=>?_);subst ex;obtain rfl:u=C9 a:=rx;obtain ⟨t1,t2,_⟩:=qbL I1 d;refine ⟨t1,t2,?_⟩;rw [m.trees];refine d8 rfl (A19 (A37 (thn (he Ab s1 σ H1 _ I1 q1) fun iv s2 ⟨y,H2,I2,ry,Af,k,v,ea,ey,l,q2⟩=>A51 ?_)));subst ey;exact qcU I2 ea ry l (.inl rfl) fun w' s3 I3 rw'=>⟨v,_,I3,rw',q2⟩
end
section
variable {X:Cx} {Ab:List (Addr × Obj)} {σ:St} {H:Hp} {s:Shared} {a:Addr} {Af:List (Key × V)} {A:Around} {E:Value->Shared->Prop}
end
section
variable {X:Cx} {Ab:List (Addr × Obj)} {σ:St} {H:Hp} {s:Shared} {a:Addr} {y:V} {u:Value} {A:Around} {E:Value->Shared->Prop}
end
section
variable {X:Cx}
end
section
variable {κ:Type} [DecidableEq κ]
theorem qM1:∀ {l:List κ} {k:κ},l.Nodup->¬ k ∈ l->(l++[k]).Nodup
 | [],k,_,_=>by simp
 | a::r,k,h,hk=>by
  obtain ⟨h1,h2⟩:=G9.mp h;show (a::(r++[k])).Nodup;refine G9.mpr ⟨fun m=>?_,qM1 h2 fun m=>hk (B5.mpr (c8 m))⟩;rcases E1.mp m with q | q
  ·exact h1 q
  ·exact hk (B5.mpr (D2 (A4.mp q).symm))
theorem qV6 {p:κ × V} {r:List (κ × V)} {k:κ} (e:p.1=k):qGF (p::r) k=qGF r k:=by
 unfold qGF;rw [O1,if_neg (by simp [e])]
theorem qV7 {p:κ × V} {r:List (κ × V)} {k:κ} (e:¬ p.1=k):qGF (p::r) k=p::qGF r k:=by
 unfold qGF;rw [O1,if_pos (by simp [e])]
end
def noX:Value->Shared->Prop:=fun _ _=>False
def qHC (env:Env):List (Str × NameKind)->List (Str × Addr)->List (Str × Addr)
 | [],acc=>acc
 | (n,k)::r,acc=>qHC env r (if (k == O0)=true then (n,(env.cells.lookup n).getD 0)::acc else acc)
theorem qFK {env:Env}:∀ {names:List (Str × NameKind)} {acc:List (Str × Addr)},(∀ x,(x,O0) ∈ names->∃ c,env.cells.lookup x=some c)->(∀ x c,acc.lookup x=some c->env.cells.lookup x=some c)->
  ∀ x c,(qHC env names acc).lookup x=some c->env.cells.lookup x=some c
 | [],acc,_,ha,x,c,h=>ha x c h
 | (n,k)::r,acc,hf,ha,x,c,h=>by
  refine qFK (names:=r) (fun y hy=>hf y (A5 _ hy)) (fun y d hd=>?_) x c h
  split at hd
  ·rename_i hk
   have hk':k=O0:=by simpa using hk
   subst hk';obtain ⟨e,he⟩:=hf n A8;by_cases hyn:y=n
   ·subst hyn;rw [R5,he] at hd;rw [he];exact hd
   ·rw [Z2,beq_eq_false_iff_ne.mpr hyn] at hd;exact ha y d hd
  ·exact ha y d hd
theorem qFL {env:Env}:∀ {names:List (Str × NameKind)} {acc:List (Str × Addr)} {x:Str},((x,O0) ∈ names\/∃ c,acc.lookup x=some c)->∃ c,(qHC env names acc).lookup x=some c
 | [],acc,x,h=>by
  rcases h with h | h
  ·exact absurd h (by simp)
  ·exact h
 | (n,k)::r,acc,x,h=>by
  refine qFL (names:=r) ?_;rcases h with h | ⟨c,h⟩
  ·rcases B5.mp h with e | h
   ·cases e;refine .inr ⟨(env.cells.lookup n).getD 0,?_⟩;rw [if_pos (by rfl),R5]
   ·exact .inl h
  ·refine .inr ?_
   split
   ·by_cases hyn:x=n
    ·subst hyn;exact ⟨_,R5⟩
    ·refine ⟨c,?_⟩;rw [Z2,beq_eq_false_iff_ne.mpr hyn];exact h
   ·exact ⟨c,h⟩
theorem qK5 {env:Env} (f:Str × NameKind->List (Str × Addr)->Sem (ForInStep (List (Str × Addr))))
  (hf:∀ n k c,f (n,k) c=(if (k == O0)=true then (do let a <- cellOf env n;pure (Q0 ((n,a)::c))) else pure (Q0 c))) :
  ∀ (names:List (Str × NameKind)) (acc:List (Str × Addr)),(∀ x,(x,O0) ∈ names->∃ c,env.cells.lookup x=some c)->forIn names acc f=(pure (qHC env names acc):Sem _)
 | [],acc,_=>rfl
 | (n,k)::r,acc,h=>by
  have ih:=fun acc=>qK5 f hf r acc fun x hx=>h x (A5 _ hx);rw [R6,hf];by_cases hk:(k == O0)=true
  ·have hk':k=O0:=by simpa using hk
   subst hk';obtain ⟨c,hc⟩:=h n A8;rw [if_pos hk];unfold cellOf qHC;rw [hc,if_pos hk];exact ih _
  ·rw [if_neg hk];unfold qHC;rw [if_neg hk];exact ih _
theorem qHQ {scope:Scope} {env:Env} (h:∀ x,(x,O0) ∈ scope.names->∃ c,env.cells.lookup x=some c):closureFor scope env=pure (qHC env scope.names []):=by
 unfold closureFor;dsimp only;rw [qK5 (env:=env) _ (fun n k c=>?_) scope.names [] h]
 ·rfl
 ·rfl
theorem qE9 {env:Env} {x:Str}:∀ {names:List (Str × NameKind)},
  (names.map fun (n,k)=>if (k == O0 && env.scope.kind == .function && env.kindOf n == some .cell)=true then (n,A88) else (n,k)).lookup x =
   (names.lookup x).map fun k=>if (k == O0 && env.scope.kind == .function && env.kindOf x == some .cell)=true then A88 else k
 | []=>rfl
 | (n,k)::r=>by
  have ih:=@qE9 env x r;rw [C1];by_cases hx:x=n
  ·subst hx;dsimp only;rw [R5 (b:=k),R4]
   split
   ·rw [R5]
   ·rw [R5]
  ·have hb:(x == n)=false:=beq_eq_false_iff_ne.mpr hx;dsimp only;rw [Z2 (k:=n) (b:=k),hb];dsimp only;rw [<- ih]
   split
   ·rw [Z2,hb]
   ·rw [Z2,hb]
structure LcZ where
 L:Addr
 cl:List (Str × Addr)
 ex:List Addr
 s₀:Shared
 H₀:Hp
def lcCx (X:Cx) (scope:Scope) (own:List Str) (fv:List Nat) (z:LcZ):Cx where
 prog:=X.prog
 w:=X.w
 K:=X.K
 mg:=X.mg
 base:=X.base
 A:=X.A
 N:=own++fv.map fun i=>X.N.getD i R8
 s₀:=z.s₀
 H₀:=z.H₀
 env:=compEnvC scope z.cl z.L X.env
 outer:=X.stack
 stack:=X.stack
 ex:=z.ex
 fn:=fun _=>false
 calm:=X.calm
 pn:=[]
 xe:=noX
structure LcScope (X:Cx) (scope:Scope) (own:List Str) (fv:List Nat):Prop where
 kind:scope.kind=.function
 nocell:∀ y ∈ scope.names,y.2 ≠ .cell
 names:∀ y ∈ scope.names,y.2=.local->scope.names.lookup y.1=some .local
 free:∀ y ∈ scope.names,y.2=.free->X.env.kindOf y.1=some .cell\/X.env.kindOf y.1=some .free
 nd:(own++fv.map fun i=>X.N.getD i R8).Nodup
 fvs:∀ i ∈ fv,i<X.N.length/\scope.names.lookup (X.N.getD i R8)=some .free
def qJT (own:List Str) (fv:List Nat) (σ:St):St:=(own.map fun _=>none)++fv.map fun i=>(σ[i]?).join
theorem qOK {prog:Program} {w:World} {A:Around} {R:Result->Shared->Prop} {s:Shared} {elt target iter:Expr} {ifs:List Expr} {scope:Scope} {pos:Pos} {it acc:Value} {env:Env} (I:Nat->Shared->Prop)
  (turn:∀ n s,I n s->wpAny (model prog w) A (pyNext it) (fun r s₁=>match r with
   | none=>R (.ok .next) s₁
   | some v=>wpAny (model prog w) A (letOwnedTupleGo target it v) (fun _ s₁=>wpAny (model prog w) A (assign target env v) (fun _ s₂=>
     wpAny (model prog w) A (forIn ifs true fun c r=>if r=true then do let ok <- isTrue c env (eval c env);pure (Q0 ok) else pure (Q0 r)) (fun ok s₃=>
      if ok=true then wpAny (model prog w) A (eval elt env) (fun x s₄=>
       wpAny (model prog w) A (call (.builtin "list.append") [acc,x]) (fun _ s₅=>∃ m,m<n/\I m s₅) noX s₄) noX s₃
      else ∃ m,m<n/\I m s₃) noX s₂) noX s₁) noX s₁) noX s)
  (n:Nat) (h:I n s) :
  codeAny (model prog w) A (.compLoop (.ListComp elt [⟨target,iter,ifs,0⟩] scope pos) 0 it acc env) R s:=by
 refine codeAny_loop rfl I (fun n s hI=>?_) n h;show wpAny _ A ((compTurn (.ListComp elt [⟨target,iter,ifs,0⟩] scope pos) 0 it acc env).onRaise (fun x=>do noteFrame x env;theTreesLotGoes x)) _ _ s
 refine wpAny_noted ?_;rw [compTurn_list];refine wpAny_bind (wpAny_standAt (wpAny_bind (wpAny_mono (turn n s hI) (fun r s₁ h₁=>?_) fun _ _ h'=>h'.elim)));cases r with
 | none=>exact wpAny_pure h₁
 | some v=>
  refine wpAny_bind (wpAny_mono h₁ (fun _ s₁ h₁=>?_) fun _ _ h'=>h'.elim);refine wpAny_bind (wpAny_mono h₁ (fun _ s₂ h₂=>wpAny_bind (wpAny_mono h₂ (fun ok s₃ h₃=>?_) fun _ _ h'=>h'.elim)) fun _ _ h'=>h'.elim);cases ok with
  | false=>exact wpAny_pure ⟨rfl,h₃⟩
  | true=>
   exact wpAny_bind (wpAny_bind (wpAny_mono h₃ (fun x s₄ h₄=>wpAny_bind (wpAny_mono h₄ (fun _ s₅ h₅=>wpAny_pure (wpAny_pure ⟨rfl,h₅⟩)) fun _ _ h'=>h'.elim)) fun _ _ h'=>h'.elim))
section
variable {X:Cx} {Ab:List (Addr × Obj)} {σ:St} {H:Hp} {s:Shared}
theorem Inv.other {h':Heap} {L:Addr} {n:Nat} (I:Inv X Ab σ H s) (hb:X.s₀.heap.objs.size<=L) (h0:H L=none) (h1:L ≠ X.env.locals) (h2:∀ x c,X.env.cells.lookup x=some c->c ≠ L) (h3:∀ p ∈ X.pn++Ab,p.1 ≠ L)
  (k:Heap.SameBut L s.heap h'):Inv X Ab σ H { s with heap:=h' }:=
 I.turned (t':=s.toks) (fun b o hb e=>(k.2 b hb).trans e) h0 h1 (.inr hb) h2 h3
theorem qb8 {scope:Scope} {own:List Str} {fv:List Nat} {fp:List Addr} (I:Inv X Ab σ H s) (S:LcScope X scope own fv) (hf:∀ b ∈ fp,FpOk X Ab H b) (hsz:∀ b ∈ fp,b<s.heap.objs.size) :
  (lcCx X scope own fv ⟨s.heap.objs.size,qHC X.env scope.names [],fp,s,H⟩).Ok:=by
 have hfr:∀ x,(x,O0) ∈ scope.names->∃ c,X.env.cells.lookup x=some c:=fun x hx=>I.ok.has x (S.free _ hx rfl);have sub:=qFK (env:=X.env) (names:=scope.names) (acc:=[]) hfr (fun x c z=>by simp at z)
 refine ⟨I.ok.mod,S.kind,I.ok.glob,I.ok.blt,B0 _,fun x y c h1 h2=>I.ok.inj x y c (sub _ _ h1) (sub _ _ h2),fun x hx=>?_,fun x c hx=>?_,I.ok.hd,I.ok.frames,.inl rfl,fun b hb=>⟨?_,fun x c e=>?_⟩,I.bs,L6 I.ok.bsz I.sz,fun b o e hb=>?_,fun b hb hb'=>?_,I.stack,I.stkFree⟩
 ·refine qFL (.inl ?_);have hx':(relabel scope X.env).names.lookup x=some .cell\/(relabel scope X.env).names.lookup x=some .free:=hx;unfold relabel at hx';rw [qE9] at hx';cases e:scope.names.lookup x with
  | none=>rw [e] at hx';simp at hx'
  | some k=>
   have hm:=M9 e;have nc:=S.nocell _ hm;rw [e] at hx';simp only [R4,W9.injEq] at hx';cases k with
   | free=>exact hm
   | cell=>exact absurd rfl nc
   | _=>simp at hx'
 ·cases hx
 ·exact C7 (hsz b hb)
 ·exact (hf b hb).2.2.2.2.1 x c (sub _ _ e)
 ·rcases (hf b hb).2.2.2.1 with z | z
  ·exact I.ok.noex b o e z
  ·exact absurd (D9 (B1 (I.ok.bs b o e).1) z) (T5 _)
 ·rcases B5.mp (I.stkSub b hb') with z | z
  ·exact (hf b hb).2.1 z
  ·exact (hf b hb).2.2.1 z
theorem qWY {scope:Scope} {own:List Str} {fv:List Nat} {fp:List Addr} {h₁:Heap} {tk:Nat} (I:Inv X Ab σ H s) (S:LcScope X scope own fv) (hf:∀ b ∈ fp,FpOk X Ab H b) (hsz:∀ b ∈ fp,b<s.heap.objs.size)
  (hns:h₁.Ns s.heap.objs.size (fun _=>none)) (hk:∀ b o,s.heap.get? b=some o->h₁.get? b=some o) :
  Inv (lcCx X scope own fv ⟨s.heap.objs.size,qHC X.env scope.names [],fp,s,H⟩) [] (qJT own fv σ) H { s with heap:=h₁,toks:=tk }:=by
 have hfr:∀ x,(x,O0) ∈ scope.names->∃ c,X.env.cells.lookup x=some c:=fun x hx=>I.ok.has x (S.free _ hx rfl);have sub:=qFK (env:=X.env) (names:=scope.names) (acc:=[]) hfr (fun x c z=>by simp at z)
 refine ⟨qb8 I S hf hsz,rfl,I.bare,Un.kept hk,⟨_,hns,fun i x v h1 h2 h3=>?_⟩,fun x c e=>?_,I.hok.fresh (B0 _),fun x c e=>I.freeC x c (sub _ _ e),fun p hp=>absurd (show p ∈ ([]:List (Addr × Obj)) from hp) (by simp),I.hok.kept hk,?_⟩
 ·have h1:(own++fv.map fun i=>X.N.getD i R8)[i]?=some x:=h1;unfold qJT at h2;have hi:own.length<=i:=by
   apply i8;intro hi;rw [E4 (by simpa using hi),B7] at h2
   cases e:own[i]? with
   | none=>rw [e] at h2;cases h2
   | some z=>rw [e] at h2;cases h2
  rw [G7 (by simpa using hi),A0,B7] at h2
  rw [G7 hi,B7] at h1;cases e:fv[i - own.length]? with
  | none=>rw [e] at h1;cases h1
  | some j=>
   rw [e] at h1 h2;have hj:=S.fvs j (B8 e);have h1:X.N.getD j R8=x:=D5 h1;have h2:(σ[j]?).join=some v:=D5 h2;have h2':σ[j]?=some (some v):=by
    cases q:σ[j]? with
    | none=>rw [q] at h2;cases h2
    | some y=>rw [q] at h2;exact congrArg some h2
   have hx:X.N[j]?=some x:=by
    rw [P6] at h1;rw [A1 hj.1] at h1 ⊢;exact congrArg some h1
   have hlk:scope.names.lookup x=some .free:=h1 ▸ hj.2;have hmem:=M9 hlk;obtain ⟨m,hn,hl⟩:=id I.loc;have hkd:=S.free _ hmem rfl;obtain ⟨u,ru,lk⟩:=hl j x v hx h2' (by
    rcases hkd with z | z
    ·exact .inr (.inl z)
    ·exact .inr (.inr z))
   refine ⟨u,ru,?_⟩;rcases lk with ⟨z,_⟩ | ⟨_,c,e1,z⟩
   ·rcases hkd with y | y
    ·have y':X.env.kindOf x=some .cell:=y;rw [z] at y';cases y'
    ·have y':X.env.kindOf x=some .free:=y;rw [z] at y';cases y'
   ·obtain ⟨c',e2⟩:=qFL (env:=X.env) (names:=scope.names) (acc:=[]) (x:=x) (.inl hmem);have e3:=sub _ _ e2;rw [e1] at e3;cases e3;obtain ⟨o,ho,hd⟩:=z;refine .inr ⟨?_,c,e2,o,hk _ _ ho,hd⟩;show (relabel scope X.env).names.lookup x=some .cell\/(relabel scope X.env).names.lookup x=some .free;unfold relabel;rw [qE9,hlk,R4]
    split
    ·exact .inl rfl
    ·exact .inr rfl
 ·obtain ⟨v,o,ho,hd⟩:=I.cell x c (sub _ _ e);exact ⟨v,o,hk _ _ ho,hd⟩
 ·unfold qJT;show _=(own++fv.map fun i=>X.N.getD i R8).length;rw [A6,A6,A0,A0,A0]
theorem qZH {scope:Scope} {own:List Str} {fv:List Nat} {fp:List Addr} {pins':List (Addr × Obj)} {σ':St} {H':Hp} {s':Shared} {cl:List (Str × Addr)} (I:Inv X Ab σ H s) (hf:∀ b ∈ fp,FpOk X Ab H b)
  (J:Inv (lcCx X scope own fv ⟨s.heap.objs.size,cl,fp,s,H⟩) pins' σ' H' s'):Inv X Ab σ H' s':=
 I.call' (ch:=fp) J.os J.base J.hok J.bare fun b hb=>⟨(hf b hb).2.2.2.1,(hf b hb).2.1,(hf b hb).2.2.2.2.1,(hf b hb).2.2.2.2.2⟩
end
def PTs (X:Cx) (ifs:List Expr) (t:TT):Prop:=
 ∀ (Ab:List (Addr × Obj)) (s:Shared) (σ:St) (H:Hp) (Q:Bool->Hp->Prop),Inv X Ab σ H s->t σ H Q->
  wpAny (model X.prog X.w) X.A (forIn ifs true fun c r=>if r=true then do let ok <- isTrue c X.env (eval c X.env);pure (Q0 ok) else pure (Q0 r)) (TP X Ab σ Q) X.xe s
def qbY:TT:=fun _ H Q=>Q true H
theorem qBL {X:Cx}:PTs X [] qbY:=fun Ab s σ H Q I h=>wpAny_tests_nil ⟨H,I,h⟩
theorem qLU {X:Cx} {c:Expr} {t:TT} (h:PT X c t):PTs X [c] t:=fun Ab s σ H Q I hq=>wpAny_tests_one (h Ab s σ H Q I hq)
def qb9 (own:List Str) (fv:List Nat) (wi:TI) (g:TG) (tc:TT) (te:TE) (K:Addr->Hp->Prop):St->Hp->Prop:=fun σ H=>wi σ H fun J H1=>∀ p,H1 p=none->
 ∃ W:Nat->Nat->St->Hp->Prop,(∃ m,W 0 m (qJT own fv σ) (upd H1 p (.lst [])))/\∀ i m σ H,W i m σ H->
  (J.stop i H/\K p H)\/(J.go i H/\∃ N:St->Hp->Prop,(∀ σ' H',N σ' H'->∃ m',m'<m/\W (i+1) m' σ' H')/\∀ x H',J.yld i H x H'->g x σ H' fun σ2 H2=>tc σ2 H2 fun b H3=>
   if b=true then te σ2 H3 fun y H4=>∃ ys,H4 p=some (.lst ys)/\ys.length<sizeLine/\N σ2 (upd H4 p (.lst (ys++[y])))
   else N σ2 H3)
def tLc (own:List Str) (fv:List Nat) (wi:TI) (g:TG) (tc:TT) (te:TE):TE:=fun σ H Q=>qb9 own fv wi g tc te (fun p H'=>Q (.ref p) H') σ H
section
variable {X:Cx} {tg iter elt:Expr} {ifs:List Expr} {scope:Scope} {pos:Pos} {own:List Str} {fv:List Nat} {wi:TI} {g:TG} {tc:TT} {te:TE}
theorem qUF {Ab:List (Addr × Obj)} {s:Shared} {σ:St} {H:Hp} {K:Addr->Hp->Prop} {use:Option (Value->Sem Unit)} {Q:Value->Shared->Prop} {E:Value->Shared->Prop} (hc:X.calm=true) (S:LcScope X scope own fv) (hi:PI X tg iter wi)
  (hg:∀ z,PG (lcCx X scope own fv z) tg g) (ht:∀ z,PTs (lcCx X scope own fv z) ifs tc) (he:∀ z,PE (lcCx X scope own fv z) elt te)
  (I:Inv X Ab σ H s) (h:qb9 own fv wi g tc te K σ H) (hxe:∀ e s,X.xe e s->E e s)
  (fin:∀ (p:Addr) (L:Addr) (H':Hp) (s':Shared) (m:Str->Option Value),Inv X Ab σ H' s'->K p H'->s'.heap.Ns L m->X.s₀.heap.objs.size<=L->H' L=none->L ≠ X.env.locals->(∀ x c,X.env.cells.lookup x=some c->c ≠ L)->(∀ q ∈ X.pn++Ab,q.1 ≠ L)->
   compPost (model X.prog X.w) X.A E use Q (.ref p) L (.ok .next) s') (hs:∀ x,foldedSetIterable iter X.env x=pure x:=by intro _;rfl) :
  wpAny (model X.prog X.w) X.A (comprehension (.ListComp elt [⟨tg,iter,ifs,0⟩] scope pos) scope X.env (firstIterPos [⟨tg,iter,ifs,0⟩] pos) (newList []) false (eval iter X.env) use) Q E s:=by
 have hfr:∀ x,(x,O0) ∈ scope.names->∃ c,X.env.cells.lookup x=some c:=fun x hx=>I.ok.has x (S.free _ hx rfl);refine wpAny_comprehension_free rfl hs (qHQ hfr) S.kind S.names (wpAny_mono (hi Ab s σ H _ I h) (fun v s1 h1=>wpAny_mono h1 (fun itv s2 h2=>?_) hxe) hxe);obtain ⟨it,fp,tn,J,H2,e,I2,T,st2,f2,q2⟩:=h2;subst e
 -- the list
 refine wpAny_newObj_type ?_;have fresh2:H2 s2.heap.objs.size=none:=I2.hok.fresh (B0 _);have I3:Inv X Ab σ (upd H2 s2.heap.objs.size (.lst [])) { s2 with heap:=s2.heap.push { cls:=.type "list",dict:=none,data:=.seq ([]:List Value).toArray } }:=
  I2.laid (t':=s2.toks) (fun b u e=>A2 _ e) (B0 _) ⟨D7 _,[],0,.nil,B6 _ rfl⟩
 obtain ⟨W,⟨m0,w0⟩,turn⟩:=q2 s2.heap.objs.size fresh2;have lt2:∀ b ∈ fp,b<s2.heap.objs.size:=fun b hb=>by
  obtain ⟨o,e,_⟩:=T.obj 0 _ st2 b hb;exact B1 e
 have f3:∀ b ∈ fp,FpOk X Ab (upd H2 s2.heap.objs.size (.lst [])) b:=fun b hb=>⟨by rw [qA8 (C7 (lt2 b hb))];exact (f2 b hb).1,(f2 b hb).2⟩
 generalize hp:s2.heap.objs.size=p at *;generalize hH3:upd H2 p (.lst [])=H3 at *;have st3:tn 0 (s2.heap.push { cls:=.type "list",dict:=none,data:=.seq ([]:List Value).toArray }):=T.keep _ _ _ st2 fun b _ o e=>A2 _ e;have lt3:∀ b ∈ fp,b<(s2.heap.push { cls:=.type "list",dict:=none,data:=.seq ([]:List Value).toArray }).objs.size:=fun b hb=>by
  rw [J6];have:=lt2 b hb;rw [hp];exact L0 this
 generalize hs3:({ s2 with heap:=s2.heap.push { cls:=.type "list",dict:=none,data:=.seq ([]:List Value).toArray } }:Shared)=s3 at *;have st3':tn 0 s3.heap:=by rw [<- hs3];exact st3
 have lt3':∀ b ∈ fp,b<s3.heap.objs.size:=by rw [<- hs3];exact lt3
 -- the block's frame
 refine wpAny_newFunctionEnv S.nocell (by intro y hy;simp at hy) (fun h₁ hns₁ hsb₁=>?_) S.kind
 have keep1:∀ b o,s3.heap.get? b=some o->h₁.get? b=some o:=fun b o e=>hsb₁.extBut b o (C7 (B1 e)) (A2 _ e);have J0:Inv (lcCx X scope own fv ⟨s3.heap.objs.size,qHC X.env scope.names [],fp,s3,H3⟩) [] (qJT own fv σ) H3 { s3 with heap:=h₁,toks:=s3.toks+([]:List (Str × Value)).length }:=qWY I3 S f3 lt3' hns₁ keep1;have cOk:=qb8 I3 S f3 lt3';generalize hz:(⟨s3.heap.objs.size,qHC X.env scope.names [],fp,s3,H3⟩:LcZ)=z at *;have st4:tn 0 h₁:=T.keep _ _ _ st3' fun b _ o e=>keep1 b o e;have fr4:∀ b ∈ fp,H3 b=none:=fun b hb=>(f3 b hb).1;have stat:∀ {H':Hp},(∀ b ∈ fp,H' b=none)->∀ b ∈ fp,FpOk (lcCx X scope own fv z) [] H' b:=fun hn b hb=>by
  subst hz;refine ⟨hn b hb,(cOk.exf b hb).1,cOk.exfs b hb,.inl hb,(cOk.exf b hb).2,fun q hq=>absurd (show q ∈ ([]:List (Addr × Obj)) from hq) (by simp)⟩
 have envE:({ newEnv scope s3.heap.objs.size X.env.globals (qHC X.env scope.names []) X.env.qual none .none (some X.env) builtinsNs with scope:=relabel scope X.env }:Env)=(lcCx X scope own fv z).env:=by
  subst hz
  rfl
 have loop:∀ sA:Shared,sA={ s3 with heap:=h₁,toks:=s3.toks+([]:List (Str × Value)).length }->codeAny (model X.prog X.w) X.A (.compLoop (.ListComp elt [⟨tg,iter,ifs,0⟩] scope pos) 0 (.ref it) (.ref p) (lcCx X scope own fv z).env)
   (compPost (model X.prog X.w) X.A E use Q (.ref p) s3.heap.objs.size) sA:=by
  rintro sA rfl;refine qOK (fun n s'=>∃ i σ' H',Inv (lcCx X scope own fv z) [] σ' H' s'/\tn i s'.heap/\(∀ b ∈ fp,H' b=none)/\W i n σ' H') ?_ m0 ⟨0,_,H3,J0,st4,fr4,w0⟩;rintro n s4 ⟨i,σ4,H4,I4,st4,fr4,w4⟩;rcases turn i n σ4 H4 w4 with ⟨stop,qn⟩ | ⟨go,Nx,hNx,step⟩
  ·refine thn (T.done (lcCx X scope own fv z) rfl rfl rfl hc i [] s4 σ4 H4 noX I4 (stat fr4) st4 stop) fun r s5 ⟨hr,I5⟩=>?_;subst hr;subst hz;have I6:Inv X Ab σ H4 s5:=qZH I3 f3 I5;obtain ⟨m,hn,_⟩:=id I5.loc;have fpL:=I3.fpOk (H':=H4) (b:=s3.heap.objs.size) (B0 _) I5.free;refine fin p s3.heap.objs.size H4 s5 m I6 qn hn I3.sz fpL.1 fpL.2.1 fpL.2.2.2.2.1 fpL.2.2.2.2.2
  ·refine thn (T.item (lcCx X scope own fv z) rfl rfl rfl hc i [] s4 σ4 H4 noX I4 (stat fr4) st4 go) fun r s5 ⟨u,hr,h5⟩=>?_;subst hr;refine thn h5 fun _ s6 ⟨x,H6,I6,r6,y6,st6,fr6⟩=>?_;have I6':=I6.pinned (stat fr6) (T.obj _ _ st6);have again:∀ {σ7:St} {H7:Hp} {s7:Shared} {m':Nat},m'<n->Inv (lcCx X scope own fv z) ([]++qNA fp s6.heap) σ7 H7 s7->W (i+1) m' σ7 H7->
     ∃ m,m<n/\∃ i σ' H',Inv (lcCx X scope own fv z) [] σ' H' s7/\tn i s7.heap/\(∀ b ∈ fp,H' b=none)/\W i m σ' H':=fun {σ7 H7 s7 m'} hm I7 w7=>by
    refine ⟨m',hm,i+1,σ7,H7,I7.unpinned,T.keep _ _ _ st6 fun b hb o e=>(I7.pin (b,o) (G1 _ (G1 _ (qG1 hb e)))).1,fun b hb=>?_,w7⟩;obtain ⟨o,e,d⟩:=T.obj _ _ st6 b hb;exact (I7.pin (b,o) (G1 _ (G1 _ (qG1 hb e)))).2.1
   refine thn (hg z _ s6 σ4 H6 x u _ I6' r6 (step x H6 y6)) fun _ s7 ⟨σ7,H7,I7,q7⟩=>?_;refine thn (ht z _ s7 σ7 H7 _ I7 q7) fun b s8 ⟨H8,I8,q8⟩=>?_;cases b with
   | false=>
    obtain ⟨m',hm,w8⟩:=hNx _ _ q8;exact again hm I8 w8
   | true=>
    refine thn (he z _ s8 σ7 H8 _ I8 q8) fun v s9 ⟨y,H9,I9,r9,ys,ep,hl,w9⟩=>?_;refine thn (qC1 (X:=lcCx X scope own fv z) _ s9 σ7 H9 (.ref p) [y] (.ref p) [v] (fun _ H'=>Nx σ7 H') I9 rfl (.cons r9 .nil) ⟨p,ys,y,rfl,rfl,ep,hl,w9⟩) fun _ s10 ⟨_,H10,I10,_,q10⟩=>?_;obtain ⟨m',hm,w10⟩:=hNx _ _ q10;exact again hm I10 w10
 rw [envE];exact codeAny_compStart_list (loop _ rfl) (T.self _ _ _ _ _ st4 (loop _ rfl))
theorem qEM (hc:X.calm=true) (S:LcScope X scope own fv) (hi:PI X tg iter wi) (hg:∀ z,PG (lcCx X scope own fv z) tg g) (ht:∀ z,PTs (lcCx X scope own fv z) ifs tc) (he:∀ z,PE (lcCx X scope own fv z) elt te)
  (hs:∀ x,foldedSetIterable iter X.env x=pure x:=by intro _;rfl):PE X (.ListComp elt [⟨tg,iter,ifs,0⟩] scope pos) (tLc own fv wi g tc te):=by
 intro Ab s σ H Q I h;rw [eval_ListComp];refine qUF (use:=none) (K:=fun p H'=>Q (.ref p) H') hc S hi hg ht he I h (fun _ _ q=>q) (fun p L H' s' m I' q hn h1 h2 h3 h4 h5=>?_) hs;exact ⟨m,hn,fun h' hs'=>⟨.ref p,H',I'.other (n:=0) h1 h2 h3 h4 h5 hs',rfl,q⟩⟩
theorem qRZ {i:Nat} {x:Str} {pos' spos:Pos} (hN:X.N.Nodup) (hx:X.N[i]?=some x) (hl:X.env.scope.names.lookup x=some .local) (hc:X.calm=true) (S:LcScope X scope own fv) (hi:PI X tg iter wi) (hg:∀ z,PG (lcCx X scope own fv z) tg g)
  (ht:∀ z,PTs (lcCx X scope own fv z) ifs tc) (he:∀ z,PE (lcCx X scope own fv z) elt te) (hsw:swapsWith (.ListComp elt [⟨tg,iter,ifs,0⟩] scope pos) (some (.Name x pos')) spos.line X.env=pure true)
  (hs:∀ x,foldedSetIterable iter X.env x=pure x:=by intro _;rfl):PS X (.Assign [.Name x pos'] (.ListComp elt [⟨tg,iter,ifs,0⟩] scope pos) spos) (tAsg (tLc own fv wi g tc te) (qZQ i)):=by
 intro Ab s σ H D I h;rw [exec_Assign_Name_used _ _ _ _ hsw];refine wpAny_bind (wpAny_standAt (wpAny_bind ?_));show wpAny _ X.A (do let _ <- comprehension (.ListComp elt [⟨tg,iter,ifs,0⟩] scope pos) scope X.env _ (newList []) false (eval iter X.env) (some (assign (.Name x pos') X.env))) _ _ s
 refine wpAny_bind (wpAny_mono (qUF (use:=some (assign (.Name x pos') X.env)) (K:=fun p H'=>D.nx (σ.set i (some (.ref p))) H') (Q:=fun _ s'=>SP X Ab D .next s') (E:=X.xe) hc S hi hg ht he I h (fun _ _ q=>q) (fun p L H' s' m I' q hn h1 h2 h3 h4 h5=>?_) hs)
  (fun _ s' hq=>wpAny_pure (wpAny_pure hq)) fun _ _ e=>e)
 show wpAny _ X.A (assign (.Name x pos') X.env (.ref p)) _ _ _;refine wpAny_assign_Name (qN2 (v:=.ref p) I' hN hx (.inl hl) rfl (fun s2 I2 ⟨a,hsb,ha⟩=>?_) (.inr hl));have hLa:L ≠ a:=by
  rcases ha with z | z
  ·rw [z];exact h3
  ·exact fun y=>h4 x a z y.symm
 exact ⟨m,hn.sameBut hsb hLa,fun h' hs'=>⟨_,H',I2.other (n:=0) h1 h2 h3 h4 h5 hs',q⟩⟩
end
theorem qEQ {lo:Int} {n:Nat} {g:TG} {tc:TT} {te:TE} {Kf:Hp->Prop} {σ0:St} {H0:Hp} {p:Addr} (Pv:Nat->St->Hp->Prop) (h0:Pv 0 σ0 H0)
  (hs:∀ i σ H,i<n->Pv i σ H->g (.int (lo+i)) σ H fun σ2 H2=>tc σ2 H2 fun b H3=>if b=true then te σ2 H3 fun y H4=>∃ ys,H4 p=some (.lst ys)/\ys.length<sizeLine/\Pv (i+1) σ2 (upd H4 p (.lst (ys++[y]))) else Pv (i+1) σ2 H3)
  (hd:∀ σ H,Pv n σ H->Kf H) :
  ∃ W:Nat->Nat->St->Hp->Prop,(∃ m,W 0 m σ0 H0)/\∀ i m σ H,W i m σ H->
   ((Itr lo n).stop i H/\Kf H)\/((Itr lo n).go i H/\∃ N:St->Hp->Prop,(∀ σ' H',N σ' H'->∃ m',m'<m/\W (i+1) m' σ' H')/\∀ x H',(Itr lo n).yld i H x H'->g x σ H' fun σ2 H2=>tc σ2 H2 fun b H3=>
    if b=true then te σ2 H3 fun y H4=>∃ ys,H4 p=some (.lst ys)/\ys.length<sizeLine/\N σ2 (upd H4 p (.lst (ys++[y]))) else N σ2 H3):=by
 refine ⟨fun i m σ H=>m=n - i/\i<=n/\Pv i σ H,⟨n,by simp,D7 _,h0⟩,?_⟩
 rintro i m σ H ⟨rfl,hi,q⟩;by_cases hlt:i<n
 ·refine .inr ⟨hlt,Pv (i+1),fun σ' H' p'=>⟨n - (i+1),by omega,rfl,hlt,p'⟩,fun x H' y=>?_⟩
  obtain ⟨e,y⟩:=y;subst e y;exact hs i σ _ hlt q
 ·have e:i=n:=by omega
  subst e;exact .inl ⟨B0 _,hd σ H q⟩
theorem qER {K:PySem.W.Frag} {a:Addr} {xs:List V} {g:TG} {tc:TT} {te:TE} {Kf:Hp->Prop} {σ0:St} {H0:Hp} {p:Addr} (Pv:Nat->St->Hp->Prop) (h0:Pv 0 σ0 H0) (hl:∀ i σ H,i<=xs.length->Pv i σ H->SqL K H a xs)
  (hs:∀ i x σ H,xs[i]?=some x->Pv i σ H->g x σ H fun σ2 H2=>tc σ2 H2 fun b H3=>if b=true then te σ2 H3 fun y H4=>∃ ys,H4 p=some (.lst ys)/\ys.length<sizeLine/\Pv (i+1) σ2 (upd H4 p (.lst (ys++[y]))) else Pv (i+1) σ2 H3)
  (hd:∀ σ H,Pv xs.length σ H->Kf H) :
  ∃ W:Nat->Nat->St->Hp->Prop,(∃ m,W 0 m σ0 H0)/\∀ i m σ H,W i m σ H->
   ((Itl K a).stop i H/\Kf H)\/((Itl K a).go i H/\∃ N:St->Hp->Prop,(∀ σ' H',N σ' H'->∃ m',m'<m/\W (i+1) m' σ' H')/\∀ x H',(Itl K a).yld i H x H'->g x σ H' fun σ2 H2=>tc σ2 H2 fun b H3=>
    if b=true then te σ2 H3 fun y H4=>∃ ys,H4 p=some (.lst ys)/\ys.length<sizeLine/\N σ2 (upd H4 p (.lst (ys++[y]))) else N σ2 H3):=by
 refine ⟨fun i m σ H=>m=xs.length - i/\i<=xs.length/\Pv i σ H,⟨xs.length,by simp,D7 _,h0⟩,?_⟩
 rintro i m σ H ⟨rfl,hi,q⟩;have hq:=hl i σ H hi q;by_cases hlt:i<xs.length
 ·refine .inr ⟨⟨xs,xs[i],hq,by simp [hlt]⟩,Pv (i+1),fun σ' H' p'=>⟨xs.length - (i+1),by omega,rfl,hlt,p'⟩,fun x H' y=>?_⟩
  obtain ⟨e,y⟩:=y;subst e;exact hs i x σ _ (y xs hq) q
 ·have e:i=xs.length:=by omega
  subst e;exact .inl ⟨⟨xs,hq,B0 _⟩,hd σ H q⟩
theorem qJS {K:PySem.W.Frag} {a:Addr} {xs:List V} {g:TG} {tc:TT} {te:TE} {Kf:Hp->Prop} {σ0:St} {H0:Hp} {p:Addr} (Pv:Nat->St->Hp->Prop) (h0:Pv 0 σ0 H0) (hl:∀ i σ H,i<=xs.length->Pv i σ H->SqT K H a xs)
  (hs:∀ i x σ H,xs[i]?=some x->Pv i σ H->g x σ H fun σ2 H2=>tc σ2 H2 fun b H3=>if b=true then te σ2 H3 fun y H4=>∃ ys,H4 p=some (.lst ys)/\ys.length<sizeLine/\Pv (i+1) σ2 (upd H4 p (.lst (ys++[y]))) else Pv (i+1) σ2 H3)
  (hd:∀ σ H,Pv xs.length σ H->Kf H) :
  ∃ W:Nat->Nat->St->Hp->Prop,(∃ m,W 0 m σ0 H0)/\∀ i m σ H,W i m σ H->
   ((Itt K a).stop i H/\Kf H)\/((Itt K a).go i H/\∃ N:St->Hp->Prop,(∀ σ' H',N σ' H'->∃ m',m'<m/\W (i+1) m' σ' H')/\∀ x H',(Itt K a).yld i H x H'->g x σ H' fun σ2 H2=>tc σ2 H2 fun b H3=>
    if b=true then te σ2 H3 fun y H4=>∃ ys,H4 p=some (.lst ys)/\ys.length<sizeLine/\N σ2 (upd H4 p (.lst (ys++[y]))) else N σ2 H3):=by
 refine ⟨fun i m σ H=>m=xs.length - i/\i<=xs.length/\Pv i σ H,⟨xs.length,by simp,D7 _,h0⟩,?_⟩
 rintro i m σ H ⟨rfl,hi,q⟩;have hq:=hl i σ H hi q;by_cases hlt:i<xs.length
 ·refine .inr ⟨⟨xs,xs[i],hq,by simp [hlt]⟩,Pv (i+1),fun σ' H' p'=>⟨xs.length - (i+1),by omega,rfl,hlt,p'⟩,fun x H' y=>?_⟩
  obtain ⟨e,y⟩:=y;subst e;exact hs i x σ _ (y xs hq) q
 ·have e:i=xs.length:=by omega
  subst e;exact .inl ⟨⟨xs,hq,B0 _⟩,hd σ H q⟩
def qUG (scope:Scope) (own:List Str) (fv:List Nat) (osc:Scope) (N:List Str):Bool:=
 decide (scope.kind=.function) && scope.names.all (fun y=>decide (y.2 ≠ .cell)) && scope.names.all (fun y=>decide (y.2 ≠ .local) || decide (scope.names.lookup y.1=some .local)) &&
 scope.names.all (fun y=>decide (y.2 ≠ .free) || (decide (osc.names.lookup y.1=some .cell) || decide (osc.names.lookup y.1=some .free))) && decide ((own++fv.map fun i=>N.getD i R8).Nodup) &&
 fv.all fun i=>decide (i<N.length) && decide (scope.names.lookup (N.getD i R8)=some .free)
theorem lcs {X:Cx} {scope:Scope} {own:List Str} {fv:List Nat} (h:qUG scope own fv X.env.scope X.N=true):LcScope X scope own fv:=by
 unfold qUG at h;simp only [P4,decide_eq_true_eq,O2,Y0] at h;obtain ⟨⟨⟨⟨⟨h1,h2⟩,h3⟩,h4⟩,h5⟩,h6⟩:=h;exact ⟨h1,h2,fun y hy e=>(h3 y hy).resolve_left fun z=>z e,fun y hy e=>(h4 y hy).resolve_left fun z=>z e,h5,h6⟩
theorem qCU {N:List Str} (h:decide N.Nodup=true):N.Nodup:=of_decide_eq_true h
theorem qTM {X:Cx} {K:PySem.W.Frag} {es:List Expr} {k n:Nat} {t:TGs} {pos:Pos} (hK:X.K=K) (hc:X.calm=true) (h:PGs X es t) (hn:(assignEach es X.env).length=n) (hst:(assignEach es X.env).findIdx? (·.1)=none):PG X (.Tuple es k pos) (gTup K n t):=by
 subst hK hn;exact qGU hc h rfl hst
theorem qPI {X:Cx} {K:PySem.W.Frag} {tg l:Expr} {tl:TE} (hK:X.K=K) (hl:PE X l tl):PI X tg l (iTup K tl):=by subst hK;exact qE0 hl
theorem qGE {X:Cx} {K:PySem.W.Frag} (hK:X.K=K):IxR X (rIxT K):=by subst hK;exact qB2
theorem qM9 {X:Cx} {K:PySem.W.Frag} (hK:X.K=K):IxR X (rIxL K):=by subst hK;exact qCP
theorem qGG {X:Cx} {K:PySem.W.Frag} (hK:X.K=K):qCW X (.type "tuple") (fun xs H Q=>∃ p ys,xs=[.ref p]/\((SqL K H p ys/\∀ l,H l=none->Q (.ref l) (upd H l (.tup ys)))\/(SqT K H p ys/\Q (.ref p) H))):=by subst hK;exact qAY
theorem qMM {xs:Array Nat} {j:Nat} (up:∀ a b,a<b->b<xs.size->xs.getD a j<xs.getD b j):∀ (fuel lo hi:Nat),lo<=hi->hi<=xs.size->hi - lo<=fuel->(∀ i,i<lo->xs.getD i j<j)->(∀ i,hi<=i->i<xs.size->j<=xs.getD i j)->
  d9 xs j fuel lo hi<=xs.size/\(∀ i,i<d9 xs j fuel lo hi->xs.getD i j<j)/\(∀ i,d9 xs j fuel lo hi<=i->i<xs.size->j<=xs.getD i j)
 | 0,lo,hi,h1,h2,h3,a,b=>by
  have e:lo=hi:=by omega
  subst e;exact ⟨h2,a,b⟩
 | fuel+1,lo,hi,h1,h2,h3,a,b=>by
  unfold d9;by_cases hlt:lo<hi
  ·rw [if_pos hlt];dsimp only;have hm1:lo<=(lo+hi) / 2:=by omega
   have hm2:(lo+hi) / 2<hi:=by omega
   by_cases hc:xs.getD ((lo+hi) / 2) j<j
   ·rw [if_pos hc];refine qMM up fuel _ _ (by omega) h2 (by omega) (fun i hi'=>?_) b
    by_cases e:i=(lo+hi) / 2
    ·rw [e];exact hc
    ·exact Z8 (up i ((lo+hi) / 2) (by omega) (by omega)) hc
   ·rw [if_neg hc];refine qMM up fuel _ _ (by omega) (by omega) (by omega) a (fun i hi' hs=>?_)
    by_cases e:i=(lo+hi) / 2
    ·rw [e];omega
    ·have:=up ((lo+hi) / 2) i (by omega) hs
     omega
  ·rw [if_neg hlt];have e:lo=hi:=by omega
   subst e;exact ⟨h2,a,b⟩
theorem qYJ {xs:Array Nat} (j:Nat) (h:xs.toList.Pairwise (·<·)):∀ a b,a<b->b<xs.size->xs.getD a j<xs.getD b j:=fun a b hab hb=>by
 have:=F0.mp h a b (by simpa using Z8 hab hb) (by simpa using hb) hab
 rw [G2,G2,E5 (Z8 hab hb),E5 hb];simpa using this
theorem qHS {xs:Array Nat} {j:Nat} (h:xs.toList.Pairwise (·<·)):E6 xs j<=xs.size/\(∀ i,i<E6 xs j->xs.getD i j<j)/\(∀ i,E6 xs j<=i->i<xs.size->j<=xs.getD i j):=by
 unfold E6;exact qMM (qYJ j h) xs.size 0 xs.size (D7 _) (B0 _) (by omega) (fun i hi=>absurd hi (by omega)) (fun i hi hs=>absurd hs (by omega))
theorem qCQ {α:Type} (xs:Array α) (p:Nat) (x:α):(F5 xs p x).toList=xs.toList.take p++x::xs.toList.drop p:=by
 unfold F5;simp [Array.toList_extract,G0]
structure T7 (byText:Bool) (t:SetTable) (n:Nat):Prop where
 mask:t.mask=7
 dum:t.dummies=#[]
 plain:t.plain=true
 led:t.led=!byText
 size:t.place.size=n
 up:t.place.toList.Pairwise (·<·)
 le:∀ j ∈ t.place.toList,j<=7
section
variable {byText:Bool} {t:SetTable} {n:Nat}
theorem T7.slot (T:T7 byText t n) (j:Nat):(t.slot j=.empty/\j ∉ t.place.toList)\/(∃ i,t.slot j=.live i/\j ∈ t.place.toList):=by
 unfold SetTable.slot;dsimp only;have hd:A97 t.dummies j=false:=by rw [T.dum];rfl
 obtain ⟨b1,b2,b3⟩:=qHS (j:=j) T.up;by_cases hc:t.place[E6 t.place j]?=some j
 ·rw [if_pos (by rw [hc];simp)]
  exact .inr ⟨_,rfl,by rw [<- Array.mem_def];exact Array.mem_of_getElem? hc⟩
 ·rw [if_neg (by simpa using hc),hd,if_neg (by simp)]
  refine .inl ⟨rfl,fun hm=>?_⟩;obtain ⟨i,hi,he⟩:=V9.mp hm;have hi':i<t.place.size:=by simpa using hi
  have he':t.place.getD i j=j:=by
   rw [G2,E5 hi'];simpa using he
  have h1:¬ i<E6 t.place j:=fun z=>by have:=b2 i z;omega
  have h2:E6 t.place j=i:=by
   apply Nat.le_antisymm (i8 h1);apply i8;intro z;have:=b3 (E6 t.place j) (B0 _) (by omega)
   have:=qYJ j T.up _ _ z hi';omega
  apply hc;rw [h2,E5 hi'];simpa using he
def pr (i pt:Nat):SetTable.Probe:={ j:=i,more:=0,i:=i,perturb:=pt,dummy:=none }
theorem T7.adv (T:T7 byText t n) (i pt:Nat):t.advance (pr i pt)=pr ((i * 5+1+pt / 32) % 8) (pt / 32):=by
 unfold SetTable.advance pr SetTable.leap A70;rw [T.mask];dsimp only;rw [if_neg (by omega),if_neg (by omega),A10]
theorem T7.go1 (T:T7 byText t n) (h:Int) (f i pt:Nat) :
  (U1 t (fun _=>h+1) h (f+1) (pr i pt)=some (.empty i none)/\i ∉ t.place.toList)\/
  (U1 t (fun _=>h+1) h (f+1) (pr i pt)=U1 t (fun _=>h+1) h f (pr ((i * 5+1+pt / 32) % 8) (pt / 32))/\i ∈ t.place.toList):=by
 rcases T.slot i with ⟨e,m⟩ | ⟨k,e,m⟩
 ·left
  refine ⟨?_,m⟩;unfold U1;rw [show (pr i pt).j=i from rfl,e]
  rfl
 ·right
  refine ⟨?_,m⟩;rw [U1];rw [show (pr i pt).j=i from rfl,e];dsimp only;rw [if_neg (by simp;omega),T.adv]
def F8 (i:Nat):Nat:=(i * 5+1) % 8
def F8n:Nat->Nat->Nat
 | 0,i=>i
 | m+1,i=>F8n m (F8 i)
theorem T7.go0 (T:T7 byText t n) (h:Int) (f:Nat):∀ (m i:Nat),(∃ j,U1 t (fun _=>h+1) h (m+f) (pr i 0)=some (.empty j none)/\j ∉ t.place.toList/\∃ q,q<m/\j=F8n q i)\/(∀ q,q<m->F8n q i ∈ t.place.toList)
 | 0,i=>.inr fun q hq=>absurd hq (by omega)
 | m+1,i=>by
  rcases T.go1 h (m+f) i 0 with ⟨e,z⟩ | ⟨e,z⟩
  ·exact .inl ⟨i,by rw [show m+1+f=m+f+1 by omega];exact e,z,0,by omega,rfl⟩
  ·rw [show m+1+f=m+f+1 by omega,e]
   have e2:(i * 5+1+0 / 32) % 8=F8 i:=by unfold F8;omega
   rw [e2];rcases T.go0 h f m (F8 i) with ⟨j,e3,z3,q,hq,e4⟩ | e3
   ·exact .inl ⟨j,e3,z3,q+1,by omega,e4⟩
   ·refine .inr fun q hq=>?_;cases q with
    | zero=>exact z
    | succ q=>exact e3 q (by omega)
theorem qbW:∀ i:_root_.Fin 8,∀ j:_root_.Fin 8,∃ q:_root_.Fin 8,F8n q.1 i.1=j.1:=by decide
theorem qbV:∀ (q i:Nat),i<8->F8n q i<8
 | 0,i,h=>h
 | q+1,i,h=>qbV q (F8 i) (A52 _ (by decide))
theorem T7.goK (T:T7 byText t n) (hn:n<=7) (h:Int) (f:Nat):∀ (k i pt:Nat),i<8->pt<32 ^ k->∃ j,U1 t (fun _=>h+1) h (k+(8+f)) (pr i pt)=some (.empty j none)/\j ∉ t.place.toList/\j<=7
 | 0,i,pt,hi,hp=>by
  have e:pt=0:=by omega
  subst e;rw [O6];rcases T.go0 h f 8 i with ⟨j,e,z,q,hq,e2⟩ | e
  ·exact ⟨j,e,z,by have:=qbV q i hi;omega⟩
  ·exfalso
   have sub:[0,1,2,3,4,5,6,7] ⊆ t.place.toList:=fun j hj=>by
    have hj8:j<8:=by
     simp at hj;omega
    obtain ⟨q,hq⟩:=qbW ⟨i,hi⟩ ⟨j,hj8⟩;rw [<- show F8n q.1 i=j from hq];exact e q.1 q.2
   have:=J5 (by decide:[0,1,2,3,4,5,6,7].Nodup) sub
   have hs:=T.size;simp at this;omega
 | k+1,i,pt,hi,hp=>by
  rw [show k+1+(8+f)=k+(8+f)+1 by omega]
  rcases T.go1 h (k+(8+f)) i pt with ⟨e,z⟩ | ⟨e,z⟩
  ·exact ⟨i,e,z,by omega⟩
  ·rw [e];refine T.goK hn h f k _ _ (A52 _ (by decide)) ?_
   rw [Nat.pow_succ] at hp;omega
theorem T7.free (T:T7 byText t n) (hn:n<=7) (h:Int):∃ j,t.freeSlot h=some (j,false)/\j ∉ t.place.toList/\j<=7:=by
 have hb:c9 h<32 ^ 13:=by
  unfold c9;have h1:0<=h % (2 ^ 64:Int):=Y1 _ (by decide)
  have h2:h % (2 ^ 64:Int)<2 ^ 64:=V4 _ (by decide)
  have:((2:Int) ^ 64)=18446744073709551616:=by decide
  rw [this] at h1 h2 ⊢;have h3:(32:Nat) ^ 13=36893488147419103232:=by decide
  omega
 obtain ⟨j,e,z,l⟩:=T.goK hn h 199 13 (c9 h % 8) (c9 h) (A52 _ (by decide)) hb
 refine ⟨j,?_,z,l⟩;have hst:t.probeStart h=pr (c9 h % 8) (c9 h):=by
  unfold SetTable.probeStart pr A70;rw [T.mask];dsimp only;rw [if_neg (by omega),A10]
 unfold SetTable.freeSlot SetTable.probe;rw [hst,show 10 * SetTable.turns t.mask=13+(8+199) by rw [T.mask];rfl,e]
 rfl
theorem T7.lay (T:T7 byText t n) (hn:n<=3) {es:Array (Int × Value)} (he:es.size=n) (h:Int) (x:Value) :
  ∃ p t',layNew t es h x=(F5 es p (h,x),t',false,false)/\T7 byText t' (n+1)/\t'.tooFull=false/\p<=es.size:=by
 obtain ⟨j,e,z,l⟩:=T.free (by omega) h
 obtain ⟨b1,b2,b3⟩:=qHS (j:=j) T.up;have hd:A97 t.dummies j=false:=by rw [T.dum];rfl
 have tl:(F5 t.place (E6 t.place j) j).toList=t.place.toList.take (E6 t.place j)++j::t.place.toList.drop (E6 t.place j):=qCQ _ _ _;have sz:(F5 t.place (E6 t.place j) j).size=n+1:=by
  rw [<- E8,tl,A6,D1,D4,P3,E8,T.size];rw [T.size] at b1;omega
 have T':T7 byText { t with place:=F5 t.place (E6 t.place j) j,dummies:=t.dummies } (n+1):=by
  refine ⟨T.mask,T.dum,T.plain,T.led,sz,?_,?_⟩
  ·show (F5 t.place (E6 t.place j) j).toList.Pairwise (·<·);rw [tl];have geti:∀ i,i<t.place.size->t.place.getD i j=t.place.toList.getD i j:=fun i hi=>by
    rw [G2,P6,O9]
   have lo:∀ a ∈ t.place.toList.take (E6 t.place j),a<j:=fun a ha=>by
    obtain ⟨i,hi,hai⟩:=V9.mp ha;rw [D4,E8] at hi;have hi1:i<E6 t.place j:=by omega
    have hi2:i<t.place.size:=by omega
    have:=b2 i hi1;rw [G2,E5 hi2] at this;rw [A53] at hai;rw [<- hai];simpa using this
   have hi:∀ a ∈ t.place.toList.drop (E6 t.place j),j<a:=fun a ha=>by
    have hm:a ∈ t.place.toList:=Q6 ha;obtain ⟨i,hi,hai⟩:=V9.mp ha;rw [P3,E8] at hi;have hi2:E6 t.place j+i<t.place.size:=by omega
    have:=b3 _ (Nat.le_add_right _ i) hi2;rw [G2,E5 hi2] at this;rw [p7] at hai;have h3:j<=a:=by
     rw [<- hai];simpa using this
    rcases Nat.lt_or_eq_of_le h3 with h4 | h4
    ·exact h4
    ·exact absurd (h4 ▸ hm) z
   refine R9.mpr ⟨T.up.sublist (W5 _ _),M6.mpr ⟨hi,T.up.sublist (A54 _ _)⟩,fun a ha b hb=>?_⟩;rcases B5.mp hb with e | hb
   ·rw [e];exact lo a ha
   ·exact Z8 (lo a ha) (hi b hb)
  ·show ∀ i ∈ (F5 t.place (E6 t.place j) j).toList,i<=7;rw [tl];intro i hi;rcases E1.mp hi with hi | hi
   ·exact T.le i (J7 hi)
   ·rcases B5.mp hi with e | hi
    ·omega
    ·exact T.le i (Q6 hi)
 have fits:A39 { t with place:=F5 t.place (E6 t.place j) j,dummies:=t.dummies } (n+1)=true:=by
  unfold A39 A40;dsimp only;rw [sz,T.dum,T.mask];have:((#[]:Array Nat)).size=0:=rfl;simp only [this,beq_self_eq_true,A41,decide_eq_true_eq];omega
 have szE:(F5 es (E6 t.place j) (h,x)).size=n+1:=by
  rw [<- E8,qCQ,A6,D1,D4,P3,E8];rw [T.size] at b1;omega
 refine ⟨E6 t.place j,{ t with place:=F5 t.place (E6 t.place j) j,dummies:=t.dummies },?_,T',?_,by rw [he,<- T.size];exact b1⟩
 ·unfold layNew;rw [e];dsimp only;unfold SetTable.put;rw [hd];dsimp only;rw [szE];unfold SetTable.orStandIn;simp only [E2,if_false];rw [fits];simp
 ·unfold SetTable.tooFull A40;dsimp only;rw [sz,T.dum,T.mask];have:((#[]:Array Nat)).size=0:=rfl;rw [this];exact decide_eq_false (by omega)
end
theorem qHP {α:Type}:∀ (l:List α) (i:Nat) (h:i<l.length),(l[i]::l.eraseIdx i).Perm l
 | [],i,h=>absurd h (by simp)
 | a::r,0,h=>.refl _
 | a::r,i+1,h=>by
  have hi:i<r.length:=by simpa using h
  have ih:=qHP r i hi;show (r[i]::a::r.eraseIdx i).Perm (a::r);exact (List.Perm.swap _ _ _).trans (ih.cons a)
theorem qTJ {α:Type} (next:Nat->Nat):∀ (fuel k:Nat) (left:List α) (out:Array α),fuel=left.length->(A58 next fuel k left out).toList.Perm (out.toList++left)
 | 0,k,left,out,h=>by
  have:left=[]:=d0.mp h.symm;subst this;unfold A58;simp
 | fuel+1,k,left,out,h=>by
  have hl:0<left.length:=by omega
  have hm:next k % left.length<left.length:=A52 _ hl;unfold A58;rw [A1 hm];dsimp only;refine (qTJ next fuel (k+1) _ _ (by rw [List.length_eraseIdx_of_lt hm];omega)).trans ?_
  rw [Array.toList_push,O4];exact A11 _ (qHP left _ hm)
theorem qTI {α:Type} (next:Nat->Nat) (xs:Array α):(pickOrder next xs).toList.Perm xs.toList:=by
 unfold pickOrder;have:=qTJ next xs.size 0 xs.toList #[] (by simp)
 simpa using this
abbrev Ents:List Int->List (Int × Value)->Prop:=Paired fun k e=>∃ tk,e=(hashInt k,G8 k tk)
theorem Ents.perm:∀ {es es':List (Int × Value)} {ks:List Int},Ents ks es->es'.Perm es->∃ ks',Ents ks' es'/\ks'.Perm ks:=by
 intro es es' ks h p;have key:∀ {a b:List (Int × Value)},a.Perm b->∀ ks,Ents ks b->∃ ks',Ents ks' a/\ks'.Perm ks:=by
  intro a b p
  induction p with
  | nil=>intro ks h;exact ⟨ks,h,.refl _⟩
  | cons x p ih=>
   intro ks h;cases h with
   | cons r t=>
    obtain ⟨ks',h1,h2⟩:=ih _ t;exact ⟨_::ks',.cons r h1,h2.cons _⟩
  | swap x y l=>
   intro ks h;cases h with
   | cons r t=>
    cases t with
    | cons r' t'=>exact ⟨_,.cons r' (.cons r t'),.swap _ _ _⟩
  | trans p q ih1 ih2=>
   intro ks h;obtain ⟨k1,h1,h2⟩:=ih2 ks h;obtain ⟨k2,h3,h4⟩:=ih1 k1 h1;exact ⟨k2,h3,h4.trans h2⟩
 exact key p ks h
theorem Ents.elems {prog:Program} {w:World} {es:List (Int × Value)} {ks:List Int} (h:Ents ks es):ElemsOf (intKind prog w) es:=by
 intro e he;have key:∀ {ks:List Int} {es:List (Int × Value)},Ents ks es->∀ e ∈ es,∃ k tk,e=(hashInt k,G8 k tk):=by
  intro ks es h
  induction h with
  | nil=>intro e he;cases he
  | cons r t ih=>
   intro e he;rcases B5.mp he with z | z
   ·subst z;obtain ⟨tk,e⟩:=r;exact ⟨_,tk,e⟩
   ·exact ih e z
 obtain ⟨k,tk,rfl⟩:=key h e he;exact ⟨⟨k,by simp [intKind,u8],rfl⟩,rfl⟩
theorem Ents.find {prog:Program} {w:World} {k:Int}:∀ {es:List (Int × Value)} {ks:List Int},Ents ks es->((A89 (fun e=>(intKind prog w).is k e.2) es).isSome=true ↔ k ∈ ks)
 | _,_,.nil=>by simp
 | _,_,.cons r t=>by
  obtain ⟨tk,rfl⟩:=r
  rename_i k' ks' es'
  have ih:=Ents.find (prog:=prog) (w:=w) (k:=k) t;rw [List.findIdx?_cons,B5];have hi:(intKind prog w).is k (G8 k' tk)=decide (k=k'):=by
   by_cases e:k=k'
   ·simp [intKind,u8,e]
   ·have e':¬ k'=k:=fun z=>e z.symm;simp [intKind,u8,e,e']
  dsimp only;rw [hi];by_cases e:k=k'
  ·simp [e]
  ·simp only [e,decide_false,E2,if_false,false_or,p6];exact ih
def byT (w:World):Bool:=w.params.followText "set-order"
def SetI (w:World) (a:Addr) (zs:List Int) (h:Heap):Prop:=
 ∃ (es:Array (Int × Value)) (ep:Nat) (t:SetTable) (ks:List Int),h.get? a=some { cls:=.type "set",data:=.set es ep t }/\T7 (byT w) t es.size/\Ents ks es.toList/\ks.Perm zs/\zs.Nodup/\zs.length<=4
theorem SetI.at {w:World} {a:Addr} {zs:List Int} {h h':Heap} (x:SetI w a zs h) (k:∀ o,h.get? a=some o->h'.get? a=some o):SetI w a zs h':=
 let ⟨es,ep,t,ks,h1,r⟩:=x;⟨es,ep,t,ks,k _ h1,r⟩
theorem T7.fits {b:Bool} {t:SetTable} {n:Nat} (T:T7 b t n) (hn:n<=7):t.fits n=true:=by
 unfold A39 A40;rw [T.size,T.dum,T.mask];have:((#[]:Array Nat)).size=0:=rfl;simp only [this,beq_self_eq_true,A41,decide_eq_true_eq];omega
def addI (zs:List Int) (k:Int):List Int:=if k ∈ zs then zs else zs++[k]
section
variable {prog:Program} {w:World} {A:Around} {E:Value->Shared->Prop} {s:Shared}
theorem SetI.size {a:Addr} {zs:List Int} {h:Heap} {es:Array (Int × Value)} {ks:List Int} (he:Ents ks es.toList) (hp:ks.Perm zs):es.size=zs.length:=by
 rw [<- hp.length_eq,C6 he,E8]
theorem qWD {a:Addr} {zs:List Int} {k:Int} {tk:Tok} {Q:Bool->Shared->Prop} (hS:SetI w a zs s.heap) (hroom:zs.length<=3\/k ∈ zs)
  (h:∀ h',Heap.SameBut a s.heap h'->SetI w a (addI zs k) h'->∀ b,Q b { s with heap:=h' }):wpAny (model prog w) A (setAddHashed a (.int k tk) (hashInt k)) Q E s:=by
 obtain ⟨es,ep,t,ks,ho,T,he,hp,hnd,hlen⟩:=id hS;have hsz:es.size=zs.length:=SetI.size (a:=a) (h:=s.heap) he hp;have hel:ElemsOf (intKind prog w) es.toList:=he.elems;have hb:es.size<scanBound:=by rw [hsz];unfold scanBound;omega
 have hf:t.fits es.size=true:=T.fits (by omega)
 unfold setAddHashed setAddHashedIn;refine wpAny_holding (wpAny_bind (wpAny_setState_of ho rfl hf ?_));dsimp only;rw [byScan_of (knd:=intKind prog w) (x:=.int k tk) rfl hb hel];simp only [↓reduceIte];unfold setAddByScan;refine wpAny_bind ?_;refine wpAny_bind (wpAny_rule ?_);refine wpAny_bind (wpAny_setScan_of (knd:=intKind prog w) (k:=k) (intKind_is _ _ _ _) ho rfl hf hel ?_);have hfd:=Ents.find (prog:=prog) (w:=w) (k:=k) he;cases hr:A89 (fun e=>(intKind prog w).is k e.2) es.toList with
 | some j=>
  dsimp only;rw [hr] at hfd;have hk:k ∈ zs:=hp.mem_iff.mp (hfd.mp rfl);refine wpAny_pure (wpAny_pure ?_);have e:s={ s with heap:=s.heap }:=by cases s;rfl
  rw [e];refine h s.heap (Heap.SameBut.refl a s.heap) ?_ _;unfold addI;rw [if_pos hk];exact hS
 | none=>
  dsimp only;rw [hr] at hfd;have hk:¬ k ∈ zs:=fun z=>by have:=hfd.mpr (hp.mem_iff.mpr z);cases this
  have h3:zs.length<=3:=hroom.resolve_right hk;obtain ⟨p,t',e1,T',tf,hpe⟩:=T.lay (by omega) rfl (hashInt k) (.int k tk)
  rw [e1];dsimp only;refine wpAny_bind (wpAny_pure ?_);rw [T'.plain];simp only [↓reduceIte];rw [hashByValue_scannable 8 (x:=.int k tk) rfl];refine wpAny_bind (wpAny_pure ?_);have hszE:(F5 es p (hashInt k,G8 k tk)).size=es.size+1:=by
   rw [<- E8,qCQ,A6,D1,D4,P3,E8];omega
  rw [show plainKind (G8 k tk)=true from rfl];simp only [↓reduceIte];show wpAny _ _ (storeSet a (F5 es p (hashInt k,.int k tk)) t' >>= _) _ _ _;refine wpAny_bind (wpAny_storeSet_of ho rfl ?_ (by rw [hszE,hsz,sizeLine_eq];omega))
  rw [tf];simp only [A22,E2,↓reduceIte];refine wpAny_pure (wpAny_pure ?_);refine h _ (Z4 s.heap a _) ?_ _;have hg:(s.heap.update a (Obj.putSet (F5 es p (hashInt k,.int k tk)) t')).get? a=some { cls:=.type "set",data:=.set (F5 es p (hashInt k,.int k tk)) (ep+1) t' }:=by
   have:=M7 (Obj.putSet (F5 es p (hashInt k,.int k tk)) t') ho (by rw [putSet_of _ _ (ep:=ep) (es:=es) (t:=t) rfl];rfl)
   rw [putSet_of _ _ (ep:=ep) (es:=es) (t:=t) rfl] at this;exact this
  have hpm:(F5 es p (hashInt k,G8 k tk)).toList.Perm (es.toList++[(hashInt k,.int k tk)]):=by
   rw [qCQ];have e3:es.toList++[(hashInt k,G8 k tk)]=es.toList.take p++(es.toList.drop p++[(hashInt k,G8 k tk)]):=by
    rw [<- O4,M8]
   rw [e3];exact A11 _ (List.perm_append_singleton _ _).symm
  obtain ⟨ks',h4,h5⟩:=Ents.perm (ks:=ks++[k]) (V6 he ⟨tk,rfl⟩) hpm;refine ⟨_,_,t',ks',hg,by rw [hszE];exact T',h4,?_,?_,?_⟩
  ·unfold addI;rw [if_neg hk];exact h5.trans (hp.append_right _)
  ·unfold addI;rw [if_neg hk];exact qM1 hnd hk
  ·unfold addI;rw [if_neg hk,A6,C3];omega
end
def dedI:List Int->List Int:=fun l=>l.foldl addI []
theorem qXO (zs:List Int) (k:Int):(addI zs k).length<=zs.length+1:=by
 unfold addI
 split <;> simp
theorem qED:∀ (l zs:List Int),(l.foldl addI zs).length<=zs.length+l.length
 | [],zs=>by simp
 | k::r,zs=>by
  have h1:=qED r (addI zs k);have h2:=qXO zs k;rw [c7,D1];omega
section
variable {prog:Program} {w:World} {A:Around} {R:Result->Shared->Prop} {I:Addr} {fp wr:List Addr} {G:Array GenState->Array GenState->Prop} {n:Nat} {P:Nat->Value->Prop} {St:Nat->Shared->Prop}
theorem qN6 (W:WalksS prog w A.in1 I fp wr G n P St) (S:Addr) (hSf:S ∉ fp) (ns:List Int) (hnn:ns.length=n) (h4:n<=4) (hval:∀ i v,P i v->∃ t,v=.int (ns.getD i 0) t) :
  ∀ (k i:Nat) (s:Shared),n - i=k->i<=n->St i s->SetI w S (dedI (ns.take i)) s.heap->
   (∀ s',Moved (S::wr) G s s'->SetI w S (dedI ns) s'.heap->R (.ok (.ret .none)) s')->
   codeAny (model prog w) A (.builtin "set.update.loop" ⟨[.ref S,.ref I],[]⟩) R s:=by
 have hSw:S ∉ wr:=fun h=>hSf (W.sub _ h);have hsub:∀ b ∈ wr,b ∈ S::wr:=fun b hb=>A5 _ hb;intro k
 induction k with
 | zero=>
  intro i s hk hi hst hS hR;have hin:i=n:=by omega
  subst hin;refine codeAny_builtin F.entry_set_update_loop ?_;rw [F6 F.plain_set_update_loop _];show wpAny _ A.in1 (pyNext (.ref I) >>= _) _ _ s;refine wpAny_bind (W.done s _ _ hst fun s' hm=>?_);show wpAny _ A.in1 (ret U0) _ _ s';rw [G0 (by omega)] at hS
  exact wpAny_pure (hR s' (hm.mono hsub) (hS.at fun o e=>hm.heap S _ hSw e))
 | succ k ih=>
  intro i s hk hi hst hS hR;have hlt:i<n:=by omega
  refine codeAny_builtin F.entry_set_update_loop ?_;rw [F6 F.plain_set_update_loop _];show wpAny _ A.in1 (pyNext (.ref I) >>= _) _ _ s;refine wpAny_bind (W.item i s _ _ hlt hst fun v s' hP hst' hm=>?_);obtain ⟨t,rfl⟩:=hval i v hP;have hS':SetI w S (dedI (ns.take i)) s'.heap:=hS.at fun o e=>hm.heap S _ hSw e;show wpAny _ A.in1 (holding [G8 (ns.getD i 0) t] (setAdd S (.int (ns.getD i 0) t)) >>= _) _ _ s';refine wpAny_bind (wpAny_holding ?_);unfold setAdd;refine wpAny_holding ?_;refine wpAny_bind ((intKind prog w).pyHash (k:=ns.getD i 0) (intKind_is _ _ _ _) ?_);have hroom:(dedI (ns.take i)).length<=3:=by
   have:=qED (ns.take i) [];rw [D4] at this;unfold dedI;simp at this;omega
  refine qWD (s:={ s' with toks:=s'.toks+1 }) hS' (.inl hroom) fun h' hsb hS2 b=>?_;have e2:addI (dedI (ns.take i)) (ns.getD i 0)=dedI (ns.take (i+1)):=by
   have hi':i<ns.length:=by omega
   rw [C2,A1 hi',B9];unfold dedI;rw [A55,c7,A76,P6,A1 hi',U8]
  rw [e2] at hS2;refine wpAny_pure ⟨plainId_quiet F.plain_set_update_loop _,ih (i+1) _ (by omega) hlt (W.frame _ s' _ _ hst' (Z5 _) fun b hb o e=>?_) hS2 fun s'' hm'' hS''=>?_⟩
  ·rw [hsb.2 b (fun h:b=S=>hSf (by rw [<- h];exact hb))];exact e
  ·refine hR s'' (Moved.trans W.gtrans ((hm.mono hsub).then_heap (Z5 _) fun b o hb e=>?_) hm'') hS'';rw [hsb.2 b (fun h:b=S=>hb (by rw [h];exact A8))];exact e
end
abbrev qCR (w:World):Obj:={ cls:=.type "set",dict:=none,data:=.set #[] 0 (.fresh 0 0 (!byT w)) }
section
variable {prog:Program} {w:World} {A:Around} {E:Value->Shared->Prop} {s:Shared}
theorem qT7 (a:Value) {Q₁:Value->Shared->Prop} (h:Q₁ (.ref s.heap.objs.size) { s with heap:=s.heap.push (qCR w) }) :
  codeAny (model prog w) A (.call (.builtin "set.__new__") ⟨[.type "set",a],[]⟩) (wants Q₁ E) s:=by
 refine codeAny_of_tree ?_;show wpAny _ A.in1 (do checkBuiltinCall "set.__new__" ⟨[.type "set",a],[]⟩;again (.builtin "set.__new__" ⟨[.type "set",a],[]⟩)) _ _ s
 refine wpAny_bind (wpAny_of_eq (F.newCall_set_1 a) (wpAny_pure ⟨plainId_quiet F.plain_set_new _,codeAny_builtin F.entry_set_new ?_⟩));rw [F6 F.plain_set_new _];unfold Builtin.«set.__new__» A75;have hsub:=sub_set_self;obtain ⟨hp,g,d,tk,os⟩:=s;dsimp only
 wp_walk
 refine wpAny_askSetting (wpAny_pure ?_);dsimp only;simp only [newObj];refine wpAny_bind (wpAny_alloc (wpAny_pure ?_));exact wpAny_pure h
theorem SetI.fresh {a:Addr} {h:Heap} (e:h.get? a=some (qCR w)):SetI w a [] h:=
 ⟨#[],0,_,[],e,⟨rfl,rfl,rfl,rfl,rfl,.nil,fun _ z=>nomatch z⟩,.nil,.refl _,.nil,D7 _⟩
set_option maxHeartbeats 3200000 in
theorem qSE {l:Addr} {items:Array Value} {ns:List Int} {Q:Value->Shared->Prop} (hh:A.handled=none) (hl:s.heap.IsList l items) (hi:IntsAre items.toList ns) (h4:items.size<=4)
  (h:∀ (h':Heap) (tk:Nat),SetI w s.heap.objs.size (dedI ns) h'->(∀ b o,s.heap.get? b=some o->h'.get? b=some o)->Q (.ref s.heap.objs.size) { s with heap:=h',toks:=tk }) :
  wpAny (model prog w) A (call (.type "set") [.ref l]) Q E s:=by
 have hlen:ns.length=items.size:=by have:=IntsAre.length hi;simpa using this.symm
 obtain ⟨c,tl,hmro⟩:=Y2.mro;have hmade:=Y2.made;have hsub:=Y2.sub;refine wpAny_call (codeAny_of_tree ?_);show wpAny _ _ (callAny (.type "set") _) _ _ _;refine wpAny_pure ⟨Code.quiet_builtin _ (by decide +kernel),codeAny_builtin F.entry_type_call ?_⟩
 rw [Around.under_plain (weight_type_call_type "set" [.ref l] []) rfl];have h1:=Y2.notType;have h2:=Y2.canCreate;have hct:=F.typeCall_set_1 (.ref l)
 repeat (any_goals (first | assumption | wp_step))
 refine codeAny_mono (qT7 (.ref l) (E:=E) (Q₁:=fun obj s₁=>obj=.ref s.heap.objs.size/\s₁={ s with heap:=s.heap.push (qCR w) }) ⟨rfl,rfl⟩) fun r s₁ hr=>?_;cases r with
 | error e=>exact hr
 | ok fl=>
  cases fl with
  | ret obj=>
   obtain ⟨rfl,rfl⟩:=hr;have hS:(s.heap.push (qCR w)).get? s.heap.objs.size=some (qCR w):=B6 _ rfl;have hT:Shared.TypeIs { s with heap:=s.heap.push (qCR w) } (.ref s.heap.objs.size) "set":=⟨_,hS,rfl⟩;have hli:=Y2.init.lookup;have hbi:=Y2.init.bind (.ref s.heap.objs.size)
   repeat (any_goals (first | assumption | wp_step))
   refine codeAny_mono (codeAny_call_builtin (R:=wants (fun r s₂=>r=.none/\∃ h' tk,s₂={ s with heap:=h',toks:=tk }/\SetI w s.heap.objs.size (dedI ns) h'/\
     (∀ b o,s.heap.get? b=some o->h'.get? b=some o)) E) Y2.init.plain F.entry_set_init (check_set_init_1 hT ?_)) fun r₂ s₂ hr₂=>?_
   ·obtain ⟨ol,hol,hcl,nl,hdl⟩:=hl;obtain ⟨ocls,odict,odata,oslots⟩:=ol;simp only at hcl hdl;subst hcl;subst hdl;have hol':(s.heap.push (qCR w)).get? l=some { cls:=.type "list",dict:=odict,data:=.seq items nl,slots:=oslots }:=A2 _ hol;have hsls:=F.sub_list_set;have hslf:=F.sub_list_frozenset;have hne:(k5 "list" == k5 "dict")=false:=by decide
    have hl1:(s.heap.push (qCR w)).IsList l items:=⟨_,hol',rfl,nl,rfl⟩;unfold Builtin.«set.__init__» noKeywords A66;generalize hPI:pyIter=PI
    wp_walk
    subst hPI;refine wpAny_pyIter_list hl1 ?_;refine wpAny_bind (wpAny_runValue ?_);have hlS:l<s.heap.objs.size:=B1 hol;have hh3:A.in1.in1.in1.handled=none:=by simp [hh]
    have hneI:l ≠ (s.heap.push (qCR w)).objs.size:=by
     rw [J6];exact C7 (L0 hlS)
    have hSf:s.heap.objs.size ∉ [(s.heap.push (qCR w)).objs.size,l]:=by
     rw [J6];simp only [B5,A4,L5,or_false,not_or];exact ⟨C7 (Nat.lt_succ_self _),R3 hlS⟩
    have hval:∀ (i:Nat) (v:Value),items[i]?=some v->∃ t,v=.int (ns.getD i 0) t:=fun i v hv=>
     Y3 hi i v (by rw [O9];exact hv)
    refine qN6 ((p8 hh3 _ l hneI items).toS) s.heap.objs.size hSf ns hlen h4 hval (items.size - 0) 0 _ (by omega) (D7 _)
     ⟨⟨_,B6 _ rfl,rfl,rfl⟩,(hl1.push _)⟩ ?hS0 ?hR
    case hS0=>exact SetI.fresh (A2 _ hS)
    case hR=>
     intro s' hm hS';obtain ⟨h',g',d',tk',os'⟩:=s';have eg:g'=s.gens:=hm.gens;have ed:d'=s.drawn:=hm.drawn;have eo:os'=s.os:=hm.os;subst eg;subst ed;subst eo;show wpAny _ _ _ _ _ _;refine wpAny_pure ?_;show wpAny _ _ (ret U0) _ _ _;refine wpAny_pure ⟨rfl,h',tk',rfl,hS',fun b o e=>?_⟩;have hb:=B1 e;have hb1:b ≠ s.heap.objs.size:=C7 hb;have hb2:b ≠ (s.heap.push (qCR w)).objs.size:=by
      rw [J6];exact C7 (L0 hb)
     exact hm.heap b o (by simp only [B5,A4,L5,or_false,not_or];exact ⟨hb1,hb2⟩) (A2 _ (A2 _ e))
   ·cases r₂ with
    | error e=>exact hr₂
    | ok fl₂=>
     cases fl₂ with
     | ret r=>
      obtain ⟨rfl,h',tk,rfl,hS',hk'⟩:=hr₂
      repeat (any_goals (first | assumption | wp_step))
      exact h _ _ hS' hk'
     | next=>exact hr₂
     | brk=>exact hr₂
     | cont=>exact hr₂
  | next=>exact hr
  | brk=>exact hr
  | cont=>exact hr
end
theorem slot_si_next:Slot "set_iterator" "__next__" "set_iterator.__next__":=
 .of (owner:="set_iterator") (n:="__next__") (by rw [typeLookup_type,builtinLookup_eq_fast];kernel_rfl) (by decide +kernel) (by decide +kernel) (by decide +kernel)
  (by first | exact .inl (by decide +kernel) | exact .inr (by decide +kernel)) (by rw [isSubtype_type];kernel_rfl)
theorem qHY:Slot "set_iterator" "__iter__" "set_iterator.__iter__":=
 .of (owner:="set_iterator") (n:="__iter__") (by rw [typeLookup_type,builtinLookup_eq_fast];kernel_rfl) (by decide +kernel) (by decide +kernel) (by decide +kernel)
  (by first | exact .inl (by decide +kernel) | exact .inr (by decide +kernel)) (by rw [isSubtype_type];kernel_rfl)
theorem qHA:entryFor table "set_iterator.__next__" = some Builtin.«set_iterator.__next__»:=entryFor_of_tree (by kernel_rfl)
theorem qMF:entryFor table "set_iterator.__iter__" = some Builtin.«dict_keyiterator.__iter__»:=
 entryFor_alias (id':="dict_keyiterator.__iter__") (by kernel_rfl) rfl (by decide +kernel) (by kernel_rfl)
theorem qKJ:entryFor table "set.__iter__" = some Builtin.«frozenset.__iter__»:=
 entryFor_alias (id':="frozenset.__iter__") (by kernel_rfl) rfl (by decide +kernel) (by kernel_rfl)
theorem qR0:Manifest.owners.lookup (String.ofList "set_iterator".toList.reverse.reverse)=some Manifest.sig_set_iterator:=by kernel_rfl
theorem qI8 (a:Value):argsOk "set_iterator.__next__" ⟨[a],[]⟩:=by
 unfold argsOk;rw [signature?_of (id:="set_iterator.__next__") (n:="__next__".toList.reverse) (o:="set_iterator".toList.reverse) (by kernel_rfl) qR0];kernel_rfl
theorem qP3 (a:Value):argsOk "set_iterator.__iter__" ⟨[a],[]⟩:=by
 unfold argsOk;rw [signature?_of (id:="set_iterator.__iter__") (n:="__iter__".toList.reverse) (o:="set_iterator".toList.reverse) (by kernel_rfl) qR0];kernel_rfl
def qF7 (w:World) (a:Addr) (ep:Nat) (es:Array (Int × Value)):List (Int × Value):=if byT w=true then (pickOrder (w.params.setOrder a ep) es).toList else es.toList
def qFA (w:World) (t:SetTable) (i:Nat):Nat:=if byT w=true then 0 else if i=0 then 0 else t.place.getD (i - 1) 0+1
theorem qF6 (w:World) (a:Addr) (ep:Nat) (es:Array (Int × Value)):(qF7 w a ep es).Perm es.toList:=by
 unfold qF7
 split
 ·exact qTI _ _
 ·exact .refl _
theorem T7.below_at {b:Bool} {t:SetTable} {n:Nat} (T:T7 b t n) (i:Nat) (hi:i<=n):E6 t.place (if i=0 then 0 else t.place.getD (i - 1) 0+1)=i:=by
 obtain ⟨b1,b2,b3⟩:=qHS (j:=if i=0 then 0 else t.place.getD (i - 1) 0+1) T.up
 have hs:=T.size;have gd:∀ a c d,a<t.place.size->t.place.getD a c=t.place.getD a d:=fun a c d ha=>by
  rw [G2,G2,E5 ha]
  rfl
 by_cases h0:i=0
 ·rw [if_pos h0] at b1 b2 b3 ⊢;subst h0;apply Nat.eq_zero_of_not_pos;intro z;have:=b2 0 z;omega
 ·rw [if_neg h0] at b1 b2 b3 ⊢;have h1:¬ E6 t.place (t.place.getD (i - 1) 0+1)<i:=fun z=>by
   have:=b3 (i - 1) (by omega) (by omega)
   rw [gd (i - 1) (t.place.getD (i - 1) 0+1) 0 (by omega)] at this
   omega
  have h2:¬ i<E6 t.place (t.place.getD (i - 1) 0+1):=fun z=>by
   have q:=b2 i z;have:=qYJ 0 T.up (i - 1) i (by omega) (by omega)
   rw [gd i (t.place.getD (i - 1) 0+1) 0 (by omega)] at q
   omega
  omega
def SetIt (w:World) (a I:Addr) (es:Array (Int × Value)) (ep:Nat) (t:SetTable) (i:Nat) (h:Heap):Prop:=
 (∃ o,h.get? I=some o/\o.cls=.type "set_iterator"/\o.data=.fields #[.int (qFA w t i) 0,.int i 0,.ref a,.int es.size 0,.int ep 0])/\h.get? a=some { cls:=.type "set",data:=.set es ep t }
section
variable {prog:Program} {w:World} {A:Around} {E:Value->Shared->Prop} {s:Shared} {a I:Addr} {es:Array (Int × Value)} {ep:Nat} {t:SetTable} {i:Nat}
theorem SetIt.typeIs (x:SetIt w a I es ep t i s.heap):s.TypeIs (.ref I) "set_iterator":=let ⟨⟨o,h1,h2,_⟩,_⟩:=x;⟨o,h1,h2⟩
theorem qN7 {Q:Option (Value × Nat)->Shared->Prop} (T:T7 (byT w) t es.size) (h8:es.size<=7) (ho:s.heap.get? a=some { cls:=.type "set",data:=.set es ep t }) (hi:i<=es.size)
  (h:Q (match (qF7 w a ep es)[i]? with | some e=>some (e.2,qFA w t (i+1)) | none=>none) s):wpAny (model prog w) A (setNext a (qFA w t i) i ep) Q E s:=by
 have hf:=T.fits h8;unfold setNext;refine wpAny_bind (wpAny_setState_of ho rfl hf ?_);dsimp only;unfold setsByText;refine wpAny_bind (wpAny_bind (wpAny_askSetting (wpAny_pure ?_)));show wpAny _ _ (if byT w=true then _ else _) _ _ _
 cases hb:byT w with
 | true=>
  rw [if_pos rfl];simp only [bne_self_eq_false,E2,if_false];refine wpAny_bind ?_;unfold setWalk;refine wpAny_bind (wpAny_setState_of ho rfl hf ?_);dsimp only;unfold setsByText;refine wpAny_bind (wpAny_bind (wpAny_askSetting (wpAny_pure ?_)));show wpAny _ _ (if byT w=true then _ else _) _ _ _
  rw [hb,if_pos rfl];refine wpAny_bind (wpAny_askSetting (wpAny_pure (wpAny_pure ?_)));have e:qF7 w a ep es=(pickOrder (w.params.setOrder a ep) es).toList:=by unfold qF7;rw [if_pos hb]
  have e2:∀ j,qFA w t j=0:=fun j=>by unfold qFA;rw [if_pos hb]
  rw [e,O9,e2] at h;rw [e2];show Q (Option.map _ (pickOrder (w.params.setOrder a ep) es)[i]?) s;cases hx:(pickOrder (w.params.setOrder a ep) es)[i]? with
  | none=>rw [hx] at h;exact h
  | some v=>rw [hx] at h;exact h
 | false=>
  rw [if_neg (by simp)]
  show wpAny _ _ (if (!t.plain && decide (es.size > 1))=true then _ else _) _ _ _
  rw [T.plain];simp only [A42,i4,E2,if_false];refine wpAny_bind ?_;show wpAny _ _ (if (!t.led && !es.isEmpty)=true then _ else _) _ _ _
  rw [T.led,hb];simp only [A77,A42,i4,E2,if_false];refine wpAny_pure (wpAny_pure ?_);have e:qF7 w a ep es=es.toList:=by unfold qF7;rw [if_neg (by rw [hb];simp)]
  have e2:∀ j,qFA w t j=if j=0 then 0 else t.place.getD (j - 1) 0+1:=fun j=>by unfold qFA;rw [if_neg (by rw [hb];simp)]
  rw [e,O9] at h;rw [e2,T.below_at i hi];cases hx:es[i]? with
  | none=>rw [hx] at h;exact h
  | some v=>
   rw [hx] at h;have hlt:i<t.place.size:=by rw [T.size];exact (Array.getElem?_eq_some_iff.mp hx).1
   rw [E5 hlt];dsimp only at h ⊢;have e3:qFA w t (i+1)=t.place[i]+1:=by
    rw [e2,if_neg (by omega),Nat.add_sub_cancel,G2,E5 hlt]
    rfl
   rw [e3] at h;exact h
theorem qYS {Q:Option Value->Shared->Prop} (T:T7 (byT w) t es.size) (h8:es.size<=7) (hit:SetIt w a I es ep t i s.heap) (hne:a ≠ I) {e:Int × Value} (hx:(qF7 w a ep es)[i]?=some e)
  (hQ:∀ h',SetIt w a I es ep t (i+1) h'->(∀ b o,b ≠ I->s.heap.get? b=some o->h'.get? b=some o)->Q (some e.2) { s with heap:=h' }):wpAny (model prog w) A (pyNext (.ref I)) Q E s:=by
 obtain ⟨⟨o,ho,hc,hd⟩,hs⟩:=id hit;have hi:i<es.size:=by
  have:=(A3.mp hx).1;rw [(qF6 w a ep es).length_eq,E8] at this;exact this
 unfold pyNext;refine wpAny_bind (wpAny_attempt (wpAny_callSpecial?_slot (name:=D3 "__next__") hit.typeIs slot_si_next (wpAny_call_entry slot_si_next hit.typeIs qHA ?_ (qI8 _))));unfold Builtin.«set_iterator.__next__»;refine wpAny_bind (wpAny_pure ?_);refine wpAny_bind (wpAny_fieldsOf ho hd ?_);dsimp only;unfold setEntries;refine wpAny_bind (wpAny_bind (wpAny_setState_of hs rfl (T.fits h8) (wpAny_pure ?_)));rw [if_neg (by simp)]
 simp only [J8];refine wpAny_bind (qN7 T h8 hs (R1 hi) ?_);rw [hx];dsimp only;show wpAny _ _ (setField (.ref I) 0 (rawInt _) >>= _) _ _ s;refine wpAny_bind (wpAny_setField ho hd (by simp) ?_)
 have g1:=M7 (Obj.mapFields (·.setIfInBounds 0 (rawInt ((qFA w t (i+1):Nat):Int)))) ho (i6 (V5 hd _));have d1:=V5 hd (·.setIfInBounds 0 (rawInt ((qFA w t (i+1):Nat):Int)));refine wpAny_bind (wpAny_setField g1 d1 (by simp) ?_)
 have g2:=M7 (Obj.mapFields (·.setIfInBounds 1 (rawInt ((i:Int)+1)))) g1 (i6 (V5 d1 _));have d2:=V5 d1 (·.setIfInBounds 1 (rawInt ((i:Int)+1)));refine wpAny_pure ⟨_,rfl,wpAny_pure (hQ _ ⟨⟨_,g2,(p9 ..).trans ((p9 ..).trans hc),?_⟩,?_⟩ fun b o' hb e=>?_)⟩
 ·rw [d2];simp [rawInt]
 ·exact (C0 _ _ (G6 hne)).trans ((C0 _ _ (G6 hne)).trans hs)
 ·exact (C0 _ _ (G6 hb)).trans ((C0 _ _ (G6 hb)).trans e)
theorem qaO {Q:Option Value->Shared->Prop} (hh:A.handled=none) (T:T7 (byT w) t es.size) (h8:es.size<=7) (hit:SetIt w a I es ep t es.size s.heap)
  (hQ:∀ h',(∀ b o,b ≠ I->s.heap.get? b=some o->h'.get? b=some o)->Q none { s with heap:=h' }):wpAny (model prog w) A (pyNext (.ref I)) Q E s:=by
 obtain ⟨⟨o,ho,hc,hd⟩,hs⟩:=id hit;unfold pyNext;refine wpAny_bind (wpAny_attempt (wpAny_callSpecial?_slot (name:=D3 "__next__") hit.typeIs slot_si_next (wpAny_call_entry slot_si_next hit.typeIs qHA ?_ (qI8 _))));unfold Builtin.«set_iterator.__next__»;refine wpAny_bind (wpAny_pure ?_);refine wpAny_bind (wpAny_fieldsOf ho hd ?_);dsimp only;unfold setEntries;refine wpAny_bind (wpAny_bind (wpAny_setState_of hs rfl (T.fits h8) (wpAny_pure ?_)));rw [if_neg (by simp)]
 simp only [J8];have hx:(qF7 w a ep es)[es.size]?=none:=J2 (by rw [(qF6 w a ep es).length_eq,E8];exact B0 _)
 refine wpAny_bind (qN7 T h8 hs (B0 _) ?_);rw [hx];dsimp only;show wpAny _ _ (setField (.ref I) 2 .none >>= _) _ _ s;refine wpAny_bind (wpAny_setField ho hd (by simp) ?_)
 show wpAny _ _ (newExc (.type "StopIteration") [] >>= _) _ _ _;refine wpAny_bind ?_;simp only [newExc,newTuple];refine wpAny_bind (wpAny_newObj_type ?_ (by size_fits))
 refine wpAny_bind (m:=firstArgMember _ _) (wpAny_of_eq (a:=U0) (by first | rfl | (simp only [firstArgMember];rfl)) ?_)
 refine wpAny_newObj_type ?_ (by size_fits)
 simp only [raiseNew];refine wpAny_bind (wpAny_handled ?_);rw [show A.in1.handled=none from hh];refine wpAny_bind (wpAny_pure (wpAny_throw ?_));refine wpAny_bind (wpAny_isInstance (T:="StopIteration") (b:=true) ⟨_,B6 _ rfl,rfl⟩ isSubtype_stop ?_);exact wpAny_pure (hQ _ (((Z4 ..).extBut.push _).push _))
theorem qYR {Q:Value->Shared->Prop} (hit:SetIt w a I es ep t i s.heap) (h:Q (.ref I) s):wpAny (model prog w) A (pyIter (.ref I)) Q E s:=by
 refine wpAny_pyIter_slot hit.typeIs qHY (wpAny_call_entry qHY hit.typeIs qMF ?_ (qP3 _));show wpAny _ _ (ret (.ref I)) _ _ s;exact wpAny_pure ⟨_,rfl,"set_iterator",_,hit.typeIs,slot_si_next.lookup,h⟩
theorem qaN {Q:Value->Shared->Prop} (T:T7 (byT w) t es.size) (h8:es.size<=7) (hs:s.heap.get? a=some { cls:=.type "set",data:=.set es ep t })
  (hQ:Q (.ref s.heap.objs.size) { s with heap:=s.heap.push { cls:=.type "set_iterator",data:=.fields #[.int 0 0,.int 0 0,.ref a,.int es.size 0,.int ep 0] } }):wpAny (model prog w) A (pyIter (.ref a)) Q E s:=by
 have hT:s.TypeIs (.ref a) "set":=⟨_,hs,rfl⟩;have hf:=T.fits h8;refine wpAny_pyIter_slot hT F.slot_set_iter (wpAny_call_entry F.slot_set_iter hT qKJ ?_ (F.args_set_iter_1 _));unfold Builtin.«frozenset.__iter__» A90 A85 setEntries;refine wpAny_bind (wpAny_bind (wpAny_pure ?_));show wpAny _ _ (pure a) _ _ s;refine wpAny_pure ?_;refine wpAny_bind (wpAny_bind (wpAny_bind (wpAny_setState_of hs rfl hf (wpAny_pure (wpAny_pure ?_)))));unfold setDrawn setsByText;refine wpAny_bind (wpAny_bind (wpAny_setState_of hs rfl hf ?_));dsimp only;refine wpAny_bind (wpAny_bind (wpAny_askSetting (wpAny_pure (wpAny_pure ?_))));show wpAny _ _ (if (!byT w && (!t.plain && decide (es.size > 1)))=true then _ else _) _ _ _
 rw [T.plain];simp only [A42,i4,A22,E2,if_false];refine wpAny_bind (wpAny_pure ?_);unfold setEpoch;refine wpAny_bind (wpAny_bind (wpAny_setState_of hs rfl hf (wpAny_pure ?_)));refine wpAny_bind (wpAny_newObj_type (wpAny_pure ⟨_,rfl,"set_iterator",_,⟨_,B6 _ rfl,rfl⟩,slot_si_next.lookup,?_⟩));simpa [rawInt] using hQ
theorem qYT {Q:Bool->Shared->Prop} (hT:s.TypeIs (.ref a) "set") (h:Q false s):wpAny (model prog w) A (k9 (.ref a)) Q E s:=by
 unfold k9;refine wpAny_bind (wpAny_specialOf hT PySem.F.slot_set_len.lookup ?_);generalize hid:("set.__len__" : String)=id0
 wp_delta
 rw [show splitId id0=some ("set","__len__") from by subst hid;decide +kernel]
 subst hid;refine wpAny_bind (wpAny_isInstance (T:="set") (b:=true) hT (by rw [isSubtype_type];kernel_rfl) ?_)
 refine wpAny_ite_split (fun hab=>absurd hab (by decide)) (fun _=>?_)
 refine wpAny_ite_split (fun _=>?_) (fun hab=>absurd (by decide +kernel) hab)
 refine wpAny_bind (wpAny_typeOf hT ?_);exact wpAny_pure h
theorem qaM (T:T7 (byT w) t es.size) (h8:es.size<=7):PySem.W.KdlSrc prog w "set" a a es.size (fun i v=>∃ e,(qF7 w a ep es)[i]?=some e/\v=e.2) (fun h=>h.get? a=some { cls:=.type "set",data:=.set es ep t }) where
 type:=fun s h=>⟨_,h,rfl⟩
 there:=fun h x=>⟨B1 x,B1 x⟩
 keep:=fun h h' x k=>k a (.inl rfl) _ x
 notList:=by decide
 notTuple:=by decide
 hint:=fun A E s Q x q=>qYT ⟨_,x,rfl⟩ q
 iter:=fun A s hh x=>by
  have hne:a ≠ s.heap.objs.size:=C7 (B1 x);refine ⟨_,fun i h=>SetIt w a s.heap.objs.size es ep t i h,fun E Q q=>qaN T h8 x q,?_,⟨⟨_,B6 _ rfl,rfl,?_⟩,A2 _ x⟩⟩
  ·refine ⟨fun b hb=>?_,fun i h h' st k=>?_,fun i s' Q E hi st q=>?_,fun s' Q E st q=>?_,fun i s' Q E st q=>qYR st q⟩
   ·have e:b=s.heap.objs.size:=by simpa using hb
    simp [e]
   ·obtain ⟨⟨o,h1,h2,h3⟩,h4⟩:=st;exact ⟨⟨o,k _ (by simp) _ h1,h2,h3⟩,k _ (by simp) _ h4⟩
   ·have hl:i<(qF7 w a ep es).length:=by rw [(qF6 w a ep es).length_eq,E8];exact hi
    refine qYS T h8 st hne (A1 hl) fun h' st' k=>?_;exact q _ h' s'.toks ⟨_,A1 hl,rfl⟩ st' fun b o hb e=>k b o (fun z=>hb (by simp [z])) e
   ·refine qaO hh T h8 st fun h' k=>?_;exact q h' s'.toks fun b o hb e=>k b o (fun z=>hb (by simp [z])) e
  ·unfold qFA
   split <;> rfl
end
theorem qBN {ns:List Int}:∀ {us:List Value},Vals (ns.map V.int) us->IntsAre us ns:=by
 induction ns with
 | nil=>intro us h;cases h;exact .nil
 | cons n r ih=>
  intro us h;cases h with
  | cons r1 r2=>
   obtain ⟨t,rfl⟩:=r1;exact IntsAre.cons _ _ (ih r2)
theorem qF8:∀ {us:List Value} {ns:List Int},IntsAre us ns->Vals (ns.map V.int) us:=qJ7
section
variable {X:Cx}
def SetO (w:World) (a:Addr) (zs:List Int):HO:=.ext (SetI w a zs)
theorem qRM (hc:X.calm=true):qCW X (.type "set") (fun xs H Q=>∃ p ns,xs=[.ref p]/\SqL X.K H p (ns.map V.int)/\ns.length<=4/\∀ a,H a=none->Q (.ref a) (upd H a (SetO X.w a (dedI ns)))):=by
 intro Ab s σ H xs us Q I r h;obtain ⟨p,ns,rfl,hq,h4,q⟩:=h;obtain ⟨u,rfl,rx⟩:=qDK r;cases rx;obtain ⟨its,rv,pl,hz⟩:=I.list hq;have hlen:=rv.length;rw [A0] at hlen;refine qSE (ns:=ns) (I.ok.hd hc) pl.isList (by simpa using qBN rv) (by simp;omega) fun h' tk hS hk=>?_
 refine ⟨.ref s.heap.objs.size,_,I.laid (t':=tk) hk (B0 _) ?_,rfl,q _ (I.hok.fresh (B0 _))⟩;obtain ⟨es,ep,t,ks,e,_⟩:=id hS;exact ⟨hS,⟨_,e⟩,fun h1 h2 x k=>x.at k⟩
theorem Inv.track {Ab:List (Addr × Obj)} {s:Shared} {σ:St} {H:Hp} {T:Addr} {o:HO} (I:Inv X Ab σ H s) (h0:H T=none) (h1:X.s₀.heap.objs.size<=T) (h2:T ≠ X.env.locals) (h3:∀ x c,X.env.cells.lookup x=some c->c ≠ T) (h4:∀ p ∈ X.pn++Ab,p.1 ≠ T)
  (new:ObjOk X.prog X.w (upd H T o) s.heap T o):Inv X Ab σ (upd H T o) s:=by
 have old:∀ b ob,X.s₀.heap.get? b=some ob->b ≠ T:=fun b ob e=>C7 (D9 (B1 e) h1);have some':∀ b u,H b=some u->(upd H T o) b=some u:=fun b u e=>by rw [qA8 (qA5 e h0)];exact e
 refine ⟨I.ok,I.os,I.bare,⟨I.base.keep,I.base.slot,fun b ob e n hx=>?_,I.base.there,fun b xs e=>some' _ _ (I.base.tups b xs e),fun b ob u e=>some' _ _ (I.base.frzs b ob u e),fun b ps e=>?_⟩,I.loc,I.cell,?_,fun x c e=>?_,fun p hp=>?_,fun b u e=>?_,I.len⟩
 ·rw [qA8 (old b ob e)];exact I.base.free b ob e n hx
 ·exact some' _ _ (I.base.tbls b ps e)
 ·rw [qA8 (G6 h2)];exact I.free
 ·rw [qA8 (h3 x c e)];exact I.freeC x c e
 ·obtain ⟨e1,n,r⟩:=I.pin p hp;exact ⟨e1,by rw [qA8 (h4 p hp)];exact n,r⟩
 ·by_cases hb:b=T
  ·subst hb;rw [qA1] at e;cases e;exact new
  ·rw [qA8 hb] at e;exact (I.hok b u e).stay (fun c v _ q=>q) (fun c q=>some' _ _ q) (fun c ys q=>some' _ _ q) fun c t q=>some' _ _ q
theorem qWB {Ab:List (Addr × Obj)} {s:Shared} {σ:St} {H:Hp} {Q:VK} {A:Around} {E:Value->Shared->Prop} {vs:List Value} {ns:List Int} {D:Addr} (I:Inv X Ab σ (upd H D (.lst (ns.map V.int))) s) (hD:H D=none) (h64:ns.length<64)
  (q:∀ ns':List Int,ns'.Perm ns->ns'.Pairwise (·<=·)->Q (.ref D) (upd H D (.lst (ns'.map V.int)))) :
  wpAny (model X.prog X.w) A (call (.builtin "list.sort") [.ref D]) (fun _ s'=>EP X Ab σ Q (.ref D) s') E s:=by
 obtain ⟨z,its,n,rv,hl,e⟩:=I.lstM qA1;have hI:=qBN rv;have hlen:=rv.length;rw [A0] at hlen;refine wpAny_call_entry slot_list_sort ⟨_,e,rfl⟩ entry_list_sort (list_sort_tree (ns:=ns) (n:=n) e hI (by omega) fun out ns' a1 a2 a3=>⟨_,rfl,?_⟩) (args_list_sort _)
 have hat:=sortedHeap_at (vs:=its) (out:=out) e;obtain ⟨e2,hat⟩:=hat;refine ⟨.ref D,upd H D (.lst (ns'.map V.int)),?_,rfl,q ns' a2 a3⟩;have hu:upd (upd H D (.lst (ns.map V.int))) D (.lst (ns'.map V.int))=upd H D (.lst (ns'.map V.int)):=qJ9;rw [<- hu];refine I.write (x:=D) (e:=D) (t':=s.toks) (by rw [qA1];exact trivial) (.inl rfl) (fun b u hb hbu=>?_) ⟨_,hat⟩ ?_
 ·rw [sortedHeap_old hb (B1 hbu)];exact hbu
 ·refine ⟨?_,out.toList,e2,qF8 a1,by simpa using hat⟩
  rw [A0,a2.length_eq,<- A0 (f:=V.int)];exact z
theorem qL0 {Ab:List (Addr × Obj)} {s:Shared} {σ:St} {H:Hp} {vs:List Value} {ns:List Int} (I:Inv X Ab σ H s) (hv:IntsAre vs ns) (hz:ns.length<=sizeLine) :
  Inv X Ab σ (upd H s.heap.objs.size (.lst (ns.map V.int))) { s with heap:=s.heap.push { cls:=.type "list",data:=.seq vs.toArray } }:=
 I.lnew (t':=s.toks) (qF8 hv) (by rw [A0];exact hz)
theorem qK6 (hc:X.calm=true):qCW X (.builtin "sorted") (fun xs H Q=>∃ p ns,xs=[.ref p]/\(SqL X.K H p (ns.map V.int)\/SqT X.K H p (ns.map V.int)\/H p=some (SetO X.w p ns))/\ns.length<64/\
  ∀ (a:Addr) (ns':List Int),H a=none->ns'.Perm ns->ns'.Pairwise (·<=·)->Q (.ref a) (upd H a (.lst (ns'.map V.int)))):=by
 intro Ab s σ H xs us Q I r h;obtain ⟨p,ns,rfl,hq,h64,q⟩:=h;obtain ⟨u,rfl,rx⟩:=qDK r;cases rx;refine o1 kind_sorted plain_sorted entry_sorted (args_sorted1 _) ?_;unfold Builtin.«sorted»;refine wpAny_bind (m:=checkCount "sorted" 1 1 _) (wpAny_pure ?_);have fin:∀ (s1:Shared) (vs:List Value) (zs:List Int),Inv X Ab σ H s1->IntsAre vs zs->zs.Perm ns->wpAny (model X.prog X.w) X.A.in1 (do
   let l <- newList vs
   let _ <- holding [l] (call (.builtin "list.sort") [l] [])
   ret l) (fun fin s'=>∃ r,fin=.done (.ret r)/\EP X Ab σ Q r s') X.xe s1:=by
  intro s1 vs zs I1 hv hp;have hlen:=IntsAre.length hv;have hz:zs.length<=sizeLine:=by rw [hp.length_eq,sizeLine_eq];omega
  refine wpAny_bind (wpAny_newList ?_ (by rw [hlen];exact hz))
  have hf:=I1.hok.fresh (B0 s1.heap.objs.size);refine wpAny_bind (wpAny_holding (wpAny_mono (qWB (E:=X.xe) (vs:=vs) (qL0 I1 hv hz) hf (by rw [hp.length_eq];exact h64) fun ns' a b=>q _ ns' hf (a.trans hp) b) (fun _ s' x=>?_) fun _ _ e=>e))
  exact wpAny_pure ⟨_,rfl,x⟩
 rcases hq with hq | hq | hq
 ·obtain ⟨its,rv,pl,hz⟩:=I.list hq;obtain ⟨o,ho,hc',n,hd⟩:=pl.isList;have hlen:=rv.length;refine wpAny_bind (wpAny_collect_seq p (.inl rfl) ho hc' hd (fun h' hk=>?_) (by simp;omega))
  exact fin _ _ ns (I.kept (t':=s.toks) hk) (by simpa using qBN rv) (.refl _)
 ·obtain ⟨its,rv,pl,hz⟩:=I.tuple hq;obtain ⟨o,ho,hc',n,hd⟩:=pl;have hlen:=rv.length;refine wpAny_bind (wpAny_collect_seq p (.inr rfl) ho hc' hd (fun h' hk=>?_) (by simp;omega))
  exact fin _ _ ns (I.kept (t':=s.toks) hk) (by simpa using qBN rv) (.refl _)
 ·obtain ⟨hS,_,_⟩:=(show ObjOk X.prog X.w H s.heap p (.ext (SetI X.w p ns)) from I.hok p _ hq);obtain ⟨es,ep,t,ks,e,T,he,hp,hnd,h4⟩:=hS;have hsz:es.size=ns.length:=SetI.size (a:=p) (h:=s.heap) he hp;obtain ⟨ks',h1,h2⟩:=he.perm (qF6 X.w p ep es);refine wpAny_bind (A27 (A:=X.A.in1) (qaM (ep:=ep) T (by omega)) (I.ok.hd hc) e (by rw [hsz,sizeLine_eq];omega) fun h' tk acc hk hacc=>?_)
  refine fin _ _ ks' (I.kept (t':=tk) hk) ?_ (h2.trans hp);obtain ⟨l1,l2⟩:=hacc;have key:∀ {ks:List Int} {l:List (Int × Value)},Ents ks l->∀ vs:List Value,vs.length=l.length->(∀ (i:Nat) (v:Value),vs[i]?=some v->∃ e:Int × Value,l[i]?=some e/\v=e.2)->IntsAre vs ks:=by
   intro ks l h
   induction h with
   | nil=>
    intro vs hl _;have:vs=[]:=d0.mp hl;subst this;exact .nil
   | cons r t ih=>
    intro vs hl hv;cases vs with
    | nil=>simp at hl
    | cons v vs=>
     obtain ⟨tk,rfl⟩:=r;obtain ⟨e,he,rfl⟩:=hv 0 v rfl;simp at he;subst he;exact IntsAre.cons _ _ (ih vs (by simpa using hl) fun i v hi=>by simpa using hv (i+1) v (by simpa using hi))
  refine key h1 acc.toList ?_ fun i v hi=>l2 i v (by rw [<- O9];exact hi)
  rw [E8,l1,(qF6 X.w p ep es).length_eq,E8]
def qHZ (lo hi:Int):List V:=(I0 (hi - lo).toNat).map fun (i:Nat)=>V.int (lo+i)
theorem qVL:qCW X (.type "range") (fun xs H Q=>∃ i j,xs=[.int i,.int j]/\∀ p,H p=none->Q (.ref p) (upd H p (.rng i j))):=by
 intro Ab s σ H xs us Q I r h;obtain ⟨i,j,rfl,q⟩:=h;obtain ⟨u,v,rfl,⟨t,rfl⟩,⟨t',rfl⟩⟩:=qMX r;refine call_range_2 ⟨.ref s.heap.objs.size,_,I.laid (fun b o e=>A2 _ e) (B0 _) ?_,rfl,q _ (I.hok.fresh (B0 _))⟩;exact ⟨_,_,_,B6 _ rfl⟩
theorem qWF {lo hi:Int} {n:Nat} {acc:List Value} (hn:n=(hi - lo).toNat) (hl:acc.length=n) (h:∀ (i:Nat) (v:Value),acc[i]?=some v->∃ t,v=.int (lo+i * 1) t):Vals (qHZ lo hi) acc:=by
 have key:∀ (m:Nat) (acc:List Value),acc.length=m->∀ lo:Int,(∀ (i:Nat) (v:Value),acc[i]?=some v->∃ t,v=.int (lo+i) t)->Vals ((I0 m).map fun (i:Nat)=>V.int (lo+i)) acc:=by
  intro m
  induction m with
  | zero=>
   intro acc hl lo h;have:acc=[]:=d0.mp hl;subst this;exact .nil
  | succ m ih=>
   intro acc hl lo h;cases acc with
   | nil=>simp at hl
   | cons v acc=>
    rw [List.range_succ_eq_map,C1,R7];have h0:=h 0 v rfl;refine .cons h0 ?_;have h1:=ih acc (by simpa using hl) (lo+1) fun i v hi=>by
     have:=h (i+1) v (by simpa using hi)
     obtain ⟨t,e⟩:=this;refine ⟨t,?_⟩;rw [e];congr 1
     push_cast
     omega
    have e:((fun (i:Nat)=>V.int (lo+i)) ∘ Nat.succ)=fun (i:Nat)=>V.int (lo+1+i):=by
     funext i
     simp only [x6];congr 1
     push_cast
     omega
    rw [e];exact h1
 unfold qHZ;rw [<- hn];refine key n acc hl lo fun i v hi=>?_;obtain ⟨t,e⟩:=h i v hi;exact ⟨t,by rw [e,Int.mul_one]⟩
theorem qRX (lo hi:Int):(qHZ lo hi).length=(hi - lo).toNat:=by unfold qHZ;simp
theorem qcC {lo hi:Int}:T6 lo hi 1=((hi - lo).toNat:Nat):=by rw [rangeSize_one];split <;> omega
theorem qMJ {prog:Program} {w:World} {A:Around} {E:Value->Shared->Prop} {s:Shared} {R:List Value->Shared->Prop} {r:Addr} {a b:Int} {t u v:Tok} {n:Nat} (hh:A.handled=none) (hr:IsRange s.heap r a b 1 t u v) (hsmall:A28 a b 1=true)
  (hn:T6 a b 1=n) (hlen:n<=2 ^ 24)
  (h:∀ (h':Heap) (tk:Nat) (acc:Array Value),(∀ b o,s.heap.get? b=some o->h'.get? b=some o)->ItemsOf (fun i v=>∃ t,v=.int (a+i * 1) t) acc n->R acc.toList { s with heap:=h',toks:=tk }) :
  wpAny (model prog w) A (collect (.ref r)) R E s:=by
 unfold collect;refine wpAny_bind (wpAny_runValue (codeAny_builtin entry_proto_collect' ?_));rw [F6 PySem.F.plain_proto_collect _];show wpAny _ A.in1 (newList [] >>= fun l=>again (.builtin "list.__iadd__" ⟨[l,.ref r],[]⟩)) _ _ s;refine wpAny_bind (wpAny_newObj_type ?_);refine wpAny_pure ⟨plainId_quiet x8 _,codeAny_builtin entry_list_iadd' ?_⟩;rw [F6 x8 _];have hS₁:(s.heap.push { cls:=.type "list",data:=.seq ([]:List Value).toArray }).get? s.heap.objs.size=some { cls:=.type "list",data:=.seq #[] }:=B6 _ rfl;show wpAny _ A.in1 (Builtin.List.listExtendWith (.ref s.heap.objs.size) (.ref r) (.ref s.heap.objs.size)) _ _ _;have key:=wpAny_extend_range (prog:=prog) (w:=w) (A:=A) (s:={ s with heap:=s.heap.push { cls:=.type "list",data:=.seq ([]:List Value).toArray } })
  (R:=fun (q:Result) (s':Shared)=>∃ (h':Heap) (tk:Nat) (acc':Array Value) (c':Nat),q=.ok (.ret (.ref s.heap.objs.size))/\s'={ s with heap:=h',toks:=tk }/\
   (∀ b o,s.heap.get? b=some o->h'.get? b=some o)/\h'.get? s.heap.objs.size=some { cls:=.type "list",dict:=none,data:=.seq acc' c',slots:=#[] }/\ItemsOf (fun i v=>∃ t,v=.int (a+i * 1) t) acc' n)
  hh (A2 _ hr) hsmall hn hlen s.heap.objs.size (.ref s.heap.objs.size) 0 hS₁
  (fun h' tk acc' c' hk hS' hacc=>⟨h',tk,acc',c',rfl,rfl,fun b o e=>hk b o (C7 (B1 e)) (A2 _ e),hS',hacc⟩)
 refine wpAny_mono key (fun fin s' x=>?_) fun e s' x=>?_
 ·cases fin with
  | done f=>
   obtain ⟨h',tk,acc',c',e,rfl,hk,hS',hacc⟩:=x;cases e;show wpAny _ A (load s.heap.objs.size >>= _) _ _ _;refine wpAny_bind (wpAny_load hS' ?_);exact wpAny_pure (h h' tk acc' hk hacc)
  | again c₁=>
   refine ⟨x.1,codeAny_mono x.2 fun q s₂ y=>?_⟩;obtain ⟨h',tk,acc',c',rfl,rfl,hk,hS',hacc⟩:=y;show wpAny _ A (load s.heap.objs.size >>= _) _ _ _;refine wpAny_bind (wpAny_load hS' ?_);exact wpAny_pure (h h' tk acc' hk hacc)
 ·obtain ⟨_,_,_,_,e',_⟩:=x;cases e'
theorem qP6 {prog:Program} {w:World} {A:Around} {E:Value->Shared->Prop} {s:Shared} {Q:Value->Shared->Prop} {r:Addr} {a b:Int} {t u v:Tok} {n:Nat} (hh:A.handled=none) (hr:IsRange s.heap r a b 1 t u v) (hsmall:A28 a b 1=true)
  (hn:T6 a b 1=n) (hlen:n<=2 ^ 24)
  (h:∀ (h':Heap) (tk:Nat) (acc:Array Value),(∀ b o,s.heap.get? b=some o->h'.get? b=some o)->ItemsOf (fun i v=>∃ t,v=.int (a+i * 1) t) acc n->Q (.ref h'.objs.size) { s with heap:=h'.push { cls:=.type "tuple",data:=.seq acc },toks:=tk }) :
  wpAny (model prog w) A (call (.type "tuple") [.ref r]) Q E s:=by
 have hcode:codeAny (model prog w) A.in1 (.call (.builtin "tuple.__new__") ⟨[.type "tuple",.ref r],[]⟩) (wants (fun obj s₁=>s₁.TypeIs obj "tuple"/\Q obj s₁) E) s:=by
  refine codeAny_of_tree ?_;show wpAny _ A.in1.in1 (do checkBuiltinCall "tuple.__new__" ⟨[.type "tuple",.ref r],[]⟩;again (.builtin "tuple.__new__" ⟨[.type "tuple",.ref r],[]⟩)) _ _ s
  refine wpAny_bind (wpAny_of_eq (F.newCall_tuple_1 _) (wpAny_pure ⟨plainId_quiet A56 _,codeAny_builtin F.entry_tuple_new ?_⟩));rw [F6 A56 _];have hsub:=sub_tuple_self;have hinit:=init_tuple_lookup;have hmh:=madeHere_tuple;have hTI:s.TypeIs (.ref r) "range":=⟨_,hr,rfl⟩
  wp_walk using wpAny_typeOf hTI,qMJ (prog:=prog) (w:=w) (A:=A.in1.in1) hh hr hsmall hn hlen
  intro h' tk acc hk hacc;show wpAny _ _ (q9 acc.toList.toArray >>= fun v=>ret v) _ _ _;unfold q9;refine wpAny_bind (wpAny_newObj_type ?_ (by show acc.toList.toArray.size<=sizeLine;simp only [Array.toArray_toList];rw [hacc.1,sizeLine_eq];omega))
  refine wpAny_pure ?_;have e:acc.toList.toArray=acc:=by simp
  rw [e];exact ⟨⟨_,B6 _ rfl,rfl⟩,h h' tk acc hk hacc⟩
 refine callType_codes (Q₁:=fun obj s₁=>s₁.TypeIs obj "tuple"/\Q obj s₁) A23 (F.typeCall_tuple_1 _) F.entry_object_init hcode fun obj s₁ h₁=>?_;exact ⟨h₁.1,F.args_object_init_2 obj _,object_init_meets A23.init.lookup A23.made (by decide) prog w A.in1 _ s₁ ⟨h₁.1,rfl,h₁.2⟩⟩
theorem qKK (hc:X.calm=true):qCW X (.type "tuple") (fun xs H Q=>∃ p lo hi,xs=[.ref p]/\H p=some (.rng lo hi)/\-1000000<=lo/\lo<=1000000/\-1000000<=hi/\hi<=1000000/\∀ l,H l=none->Q (.ref l) (upd H l (.tup (qHZ lo hi)))):=by
 intro Ab s σ H xs us Q I r h;obtain ⟨p,lo,hi,rfl,hp,l1,l2,l3,l4,q⟩:=h;obtain ⟨u,rfl,rx⟩:=qDK r;cases rx;obtain ⟨t,u,v,e⟩:=(show ∃ t u v,s.heap.get? p=some { cls:=.type "range",data:=.fields #[.int lo t,.int hi u,.int 1 v] } from I.hok p _ hp);refine qP6 (n:=(hi - lo).toNat) (I.ok.hd hc) (show IsRange s.heap p lo hi 1 t u v from e) (small_one (by omega) (by omega) (by omega) (by omega)) qcC (by omega) fun h' tk acc hk hacc=>?_
 obtain ⟨a1,a2⟩:=hacc;have I1:Inv X Ab σ H { s with heap:=h',toks:=tk }:=I.kept hk;refine ⟨.ref h'.objs.size,_,I1.laid (t':=tk) (fun b o e=>A2 _ e) (B0 _) (show ObjOk X.prog X.w _ _ _ (.tup (qHZ lo hi)) from ⟨?_,acc.toList,qWF rfl (by simpa using a1) fun i v hi=>a2 i v (by rw [<- O9];exact hi),?_⟩),rfl,q _ (I1.hok.fresh (B0 _))⟩
 ·rw [qRX,sizeLine_eq];omega
 ·have:=IsTup.new h' acc;simpa using this
theorem qRW:∀ (bs:List Bool),((I0 bs.length).all fun i=>(bs[i]?).getD true)=bs.all id:=by
 intro bs;rw [U2,O2,O2]
 constructor
 ·intro h b hb;obtain ⟨i,hi,e⟩:=V9.mp hb;have:=h i (P7.mpr hi);rw [A1 hi,e] at this;exact this
 ·intro h i hi;have hi':=P7.mp hi;rw [A1 hi'];exact h _ (U9 hi')
theorem qJ1 (hc:X.calm=true):qCW X (.builtin "all") (fun xs H Q=>∃ (p:Addr) (bs:List Bool),xs=[.ref p]/\SqL X.K H p (bs.map V.bl)/\Q (.bl (bs.all id)) H):=by
 intro Ab s σ H xs us Q I r h;obtain ⟨p,bs,rfl,hq,q⟩:=h;obtain ⟨u,rfl,rx⟩:=qDK r;cases rx;obtain ⟨its,rv,pl,hz⟩:=I.list hq;have hl:=pl.isList;have hlt:p<s.heap.objs.size:=by obtain ⟨_,e,_⟩:=hl;exact B1 e
 have hlen:=rv.length;rw [A0] at hlen;refine call_all_walk (wpAny_pyIter_list hl ?_);refine ⟨s.heap.objs.size,[s.heap.objs.size,p],[s.heap.objs.size],its.toArray.size,_,_,fun i=>(bs[i]?).getD true,rfl,p8 (A:=X.A.in1) (I.ok.hd hc) _ p (C7 hlt) its.toArray,
  ⟨⟨_,B6 _ rfl,rfl,rfl⟩,hl.push _⟩,fun i v s' Q' E' hP hQ=>?_,fun h' tk hk=>?_⟩
 ·have hP':its[i]?=some v:=by simpa using hP
  have hi:i<bs.length:=by rw [hlen];exact (A3.mp hP').1
  obtain ⟨u,hu,ru⟩:=rv.get (i:=i) (x:=.bl bs[i]) (by rw [B7,A1 hi];rfl)
  rw [hP'] at hu;cases hu;cases ru;dsimp only at hQ;rw [A1 hi,U8] at hQ;exact wpAny_truthy_bool hQ
 ·have e:((I0 its.toArray.size).all fun i=>(bs[i]?).getD true)=bs.all id:=by
   rw [A7,<- hlen];exact qRW bs
  refine ⟨.bl (bs.all id),H,I.kept fun b x e=>hk b x (fun hm=>by rw [A4.mp hm] at e;exact T5 _ (B1 e)) (A2 _ e),?_,q⟩
  rw [e]
  rfl
theorem qB6:qCW X (.builtin "isinstance") (fun xs H Q=>∃ x T t b,xs=[x,.ty T]/\TyOf X.K H x t/\P1 X.K t (.type T)=some b/\Q (.bl b) H):=by
 intro Ab s σ H xs us Q I r h;obtain ⟨x,T,t,b,rfl,ht,hk,q⟩:=h;obtain ⟨u,v,rfl,r1,r2⟩:=qMX r;cases r2;exact qUL I r1 ht hk fun tk=>⟨.bl b,H,I.tok _,rfl,q⟩
theorem qTZ (hu:X.A.units<cLine):OpR X (compareOp .Eq) (fun x y H Q=>∃ p l xs,x=.ref p/\y=.ref l/\SqL X.K H p xs/\SqL X.K H l []/\Q (.bl xs.isEmpty) H):=by
 intro Ab s σ H x y v u Q I rx ry h;obtain ⟨p,l,xs,rfl,rfl,h1,h2,q⟩:=h;cases rx;cases ry;obtain ⟨its,r1,p1,z1⟩:=I.list h1;obtain ⟨its2,r2,p2,z2⟩:=I.list h2;cases r2;cases xs with
 | nil=>
  cases r1;exact SeqAt.eq_listAt (e:=fun _=>true) p1.isList p2.isList rfl hu (fun j h _=>absurd h (by simp)) ⟨.bl true,H,I,rfl,q⟩
 | cons a r=>
  cases r1;exact SeqAt.eq_list_lengthsAt p1.isList p2.isList (by simp) hu ⟨.bl false,H,I,rfl,q⟩
end
theorem qOM {X:Cx} {K:PySem.W.Frag} {w:World} (hK:X.K=K) (hw:X.w=w) (hc:X.calm=true):qCW X (.builtin "sorted") (fun xs H Q=>∃ p ns,xs=[.ref p]/\(SqL K H p (ns.map V.int)\/SqT K H p (ns.map V.int)\/H p=some (SetO w p ns))/\ns.length<64/\
  ∀ (a:Addr) (ns':List Int),H a=none->ns'.Perm ns->ns'.Pairwise (·<=·)->Q (.ref a) (upd H a (.lst (ns'.map V.int)))):=by subst hK hw;exact qK6 hc
theorem qVK {X:Cx} {K:PySem.W.Frag} {w:World} (hK:X.K=K) (hw:X.w=w) (hc:X.calm=true):qCW X (.type "set") (fun xs H Q=>∃ p ns,xs=[.ref p]/\SqL K H p (ns.map V.int)/\ns.length<=4/\∀ a,H a=none->Q (.ref a) (upd H a (SetO w a (dedI ns)))):=by subst hK hw;exact qRM hc
def Ite (K:PySem.W.Frag) (l:Addr):It:=
 ⟨fun i H=>∃ xs x,SqL K H l xs/\xs[i]?=some x,fun i H v H'=>∃ T x,H T=none/\v=.ref T/\H'=upd H T (.tup [.int (i:Int),x])/\∀ xs,SqL K H l xs->xs[i]?=some x,fun i H=>∃ xs,SqL K H l xs/\xs.length<=i⟩
section
variable {X:Cx}
theorem Inv.turnedL {Ab:List (Addr × Obj)} {s:Shared} {σ:St} {H:Hp} {h':Heap} {t':Nat} {ch:List Addr} (I:Inv X Ab σ H s) (k:∀ b o,b ∉ ch->s.heap.get? b=some o->h'.get? b=some o) (hc:∀ b ∈ ch,FpOk X Ab H b):Inv X Ab σ H { s with heap:=h',toks:=t' }:=by
 have nit:∀ b u,H b=some u->b ∉ ch:=fun b u e z=>by rw [(hc b z).1] at e;cases e
 refine I.step (g':=s.gens) (d':=s.drawn) (ch:=ch) (fun b hb=>⟨(hc b hb).2.2.2.1,(hc b hb).2.1,(hc b hb).2.2.2.2.1,(hc b hb).2.2.2.2.2⟩) (fun b o _ _ hc' e _=>k b o hc' e) (fun b o _ _ hc' e _=>⟨o.slots,k b o hc' e⟩) (fun _ _ _ _ n=>n)
  (fun b o hc' e=>⟨o,k b o hc' e⟩) (fun _ _ e=>e) (fun _ _ _ e=>e) (fun _ _ e=>e) (fun m hm=>?_) (fun b u e=>?_) I.bare
 ·obtain ⟨o,es,ep,ho,r⟩:=hm;exact ⟨o,es,ep,k _ o (fun z=>(hc _ z).2.1 rfl) ho,r⟩
 ·refine (I.hok b u e).stay (fun c v hc' q=>k c v ?_ q) (fun _ q=>q) fun _ _ q=>q;rcases hc' with z | z
  ·rw [z];exact nit b u e
  ·exact nit c _ z
theorem qSU {P:Program} {w:World} {K:PySem.W.Frag} {elts:List Expr} {k:Nat} {pos:Pos} (l it e:Addr) (hne:e ≠ it):Turn P w K (.Tuple elts k pos) (Ite K l) [e,it] e (fun i h=>(∃ old,IsEnum h e it i old)/\h.IsListIter it l i) where
 mem:=by simp
 obj:=fun i h st b hb=>by
  obtain ⟨⟨old,h1⟩,o,h2,_,h4⟩:=st;have e':b=e\/b=it:=by simpa using hb
  rcases e' with rfl | rfl
  ·exact ⟨_,h1,fun v z=>by
    have z':A26 _=A07 v:=z;cases z'⟩
  ·exact ⟨o,h2,fun v z=>by rw [h4] at z;cases z⟩
 keep:=fun i h h' st kk=>by
  obtain ⟨⟨old,h1⟩,h2⟩:=st;exact ⟨⟨old,kk e (by simp) _ h1⟩,h2.at fun o q=>kk it (by simp) o q⟩
 item:=by
  intro X hP hw hK hc i Ab s σ H E I hf st hg;subst hP hw hK;obtain ⟨xs,x,hq,hx⟩:=hg;obtain ⟨its,rv,p,hz⟩:=I.list hq;obtain ⟨u,hu,ru⟩:=rv.get hx;obtain ⟨⟨old,h1⟩,h2⟩:=st;refine wpAny_pyNext_enum_item h1 h2 p.isList (x:=u) (by simpa using hu) hne fun h' a1 a2 a3 a4 a5=>?_
  refine ⟨_,rfl,wpAny_letOwnedTupleGo_enum a1 fun h2 b1 b2=>?_⟩;have ltE:e<s.heap.objs.size:=B1 h1;have I1:Inv X Ab σ H { s with heap:=h2,toks:=s.toks+1 }:=I.turnedL (ch:=[e,it]) (fun b o hb q=>by
   have hb1:b ≠ e:=fun z=>hb (by simp [z])
   have hb2:b ≠ it:=fun z=>hb (by simp [z])
   exact (b2.2 b hb1).trans (a5 b o hb1 hb2 q)) hf
  have hT:H s.heap.objs.size=none:=I.hok.fresh (B0 _);have fT:=I.fpOk (H':=H) (b:=s.heap.objs.size) (B0 _) hT;have gT:h2.get? s.heap.objs.size=some { cls:=.type "tuple",data:=.seq #[.int i s.toks,u] }:=(b2.2 _ (R3 ltE)).trans a3;refine ⟨.ref s.heap.objs.size,upd H s.heap.objs.size (.tup [.int (i:Int),x]),I1.track hT I.sz fT.2.1 fT.2.2.2.2.1 fT.2.2.2.2.2 ⟨by simp only [D1,b9];rw [sizeLine_eq];decide,[.int (i:Int) s.toks,u],.cons ⟨_,rfl⟩ (.cons ru .nil),⟨_,gT,rfl,_,rfl⟩⟩,rfl,
   ⟨_,x,hT,rfl,rfl,fun ys hy=>by rw [I.list_inj hy hq];exact hx⟩,⟨⟨_,b1⟩,a2.at fun o q=>(b2.2 it (G6 hne)).trans q⟩,fun b hb=>?_⟩
  have ltb:b<s.heap.objs.size:=by
   have e':b=e\/b=it:=by simpa using hb
   rcases e' with rfl | rfl
   ·exact ltE
   ·obtain ⟨o,q,_⟩:=h2;exact B1 (by assumption)
  rw [qA8 (C7 ltb)];exact (hf b hb).1
 done:=by
  intro X hP hw hK hc i Ab s σ H E I hf st hg;subst hP hw hK;obtain ⟨xs,hq,hx⟩:=hg;obtain ⟨its,rv,p,hz⟩:=I.list hq;have hl:=rv.length;obtain ⟨⟨old,h1⟩,h2⟩:=st;exact wpAny_pyNext_enum_end (I.ok.hd hc) h1 h2 p.isList (by simp;omega) fun h' eb=>⟨rfl,I.turnedL (t':=s.toks) (ch:=[e,it]) (fun b o hb q=>eb b o (fun z=>hb (by simp [z])) q) hf⟩
 self:=fun _ _ _ _ _ st h=>by
  obtain ⟨⟨old,h1⟩,h2⟩:=st;exact wpAny_pyIter_enum h1 h
def qcQ (K:PySem.W.Frag) (ta:TA):TI:=fun σ H R=>ta σ H fun vs H1=>∃ l,vs=[.ref l]/\(∃ xs,SqL K H1 l xs)/\R (Ite K l) H1
theorem qTK {elts:List Expr} {k:Nat} {tpos:Pos} {a:Expr} {ta:TA} {p pos:Pos} (hg:Gl X "enumerate") (hm:X.mg "enumerate" = none) (hv:bootBuiltins "enumerate" = some (.type "enumerate")) (ha:PA X [a] ta) (hs:starEach [a] X.env=[(false,eval a X.env)]:=by rfl) :
  PI X (.Tuple elts k tpos) (.Call (.Name "enumerate" p) [a] [] pos) (qcQ X.K ta):=by
 intro Ab s σ H R I h;refine Call_ (qFB I hg hm hv (O7 (thn (ha pos Ab s σ H _ I h) fun us s1 ⟨vs,H1,I1,r1,q1⟩=>?_) hs rfl));obtain ⟨l,e,⟨xs,hq⟩,q⟩:=q1;subst e;obtain ⟨u,rfl,rx⟩:=qDK r1;cases rx;obtain ⟨its,rv,pl,hz⟩:=I1.list hq;refine call_enumerate_list pl.isList fun h' he hi hsz hk=>?_;refine wpAny_pyIter_enum he ?_;have I2:Inv X Ab σ H1 { s1 with heap:=h' }:=I1.kept (t':=s1.toks) hk;refine ⟨s1.heap.objs.size+1,[s1.heap.objs.size+1,s1.heap.objs.size],_,_,H1,rfl,I2,qSU l s1.heap.objs.size (s1.heap.objs.size+1) (y9 _),⟨⟨_,he⟩,hi⟩,fun b hb=>?_,q⟩;have e':b=s1.heap.objs.size+1\/b=s1.heap.objs.size:=by simpa using hb
 rcases e' with rfl | rfl
 ·exact I1.fpOk (Z5 _) (I1.hok.fresh (Z5 _))
 ·exact I1.fpOk (B0 _) (I1.hok.fresh (B0 _))
end
theorem qZG {K:PySem.W.Frag} {a:Addr} {xs:List V} {g:TG} {tc:TT} {te:TE} {Kf:Hp->Prop} {σ0:St} {H0:Hp} {p:Addr} (Pv:Nat->St->Hp->Prop) (h0:Pv 0 σ0 H0) (hl:∀ i σ H,i<=xs.length->Pv i σ H->SqL K H a xs)
  (hs:∀ i x σ H T,xs[i]?=some x->Pv i σ H->H T=none->g (.ref T) σ (upd H T (.tup [.int (i:Int),x])) fun σ2 H2=>tc σ2 H2 fun b H3=>if b=true then te σ2 H3 fun y H4=>∃ ys,H4 p=some (.lst ys)/\ys.length<sizeLine/\Pv (i+1) σ2 (upd H4 p (.lst (ys++[y]))) else Pv (i+1) σ2 H3)
  (hd:∀ σ H,Pv xs.length σ H->Kf H) :
  ∃ W:Nat->Nat->St->Hp->Prop,(∃ m,W 0 m σ0 H0)/\∀ i m σ H,W i m σ H->
   ((Ite K a).stop i H/\Kf H)\/((Ite K a).go i H/\∃ N:St->Hp->Prop,(∀ σ' H',N σ' H'->∃ m',m'<m/\W (i+1) m' σ' H')/\∀ x H',(Ite K a).yld i H x H'->g x σ H' fun σ2 H2=>tc σ2 H2 fun b H3=>
    if b=true then te σ2 H3 fun y H4=>∃ ys,H4 p=some (.lst ys)/\ys.length<sizeLine/\N σ2 (upd H4 p (.lst (ys++[y]))) else N σ2 H3):=by
 refine ⟨fun i m σ H=>m=xs.length - i/\i<=xs.length/\Pv i σ H,⟨xs.length,by simp,D7 _,h0⟩,?_⟩
 rintro i m σ H ⟨rfl,hi,q⟩;have hq:=hl i σ H hi q;by_cases hlt:i<xs.length
 ·refine .inr ⟨⟨xs,xs[i],hq,by simp [hlt]⟩,Pv (i+1),fun σ' H' p'=>⟨xs.length - (i+1),by omega,rfl,hlt,p'⟩,fun v H' y=>?_⟩
  obtain ⟨T,x,hT,e1,e2,y⟩:=y;subst e1 e2;exact hs i x σ H T (y xs hq) q hT
 ·have e:i=xs.length:=by omega
  subst e;exact .inl ⟨⟨xs,hq,B0 _⟩,hd σ H q⟩
theorem qHM {prog:Program} {w:World} {A:Around} {E:Value->Shared->Prop} {s:Shared} {it t:Addr} {i:Nat} {items:Array Value} {x:Value} {Q:Value->Shared->Prop} (hit:s.heap.IsTupleIter it t i) (ht:s.heap.IsTuple t items) (hx:items[i]?=some x)
  (hQ:∀ h':Heap,h'.IsTupleIter it t (i+1)->Heap.SameBut it s.heap h'->Q x { s with heap:=h' }):wpAny (model prog w) A (V7 (.ref it)) Q E s:=by
 obtain ⟨o,ho,hc,hd⟩:=id hit;obtain ⟨ol,hol,_,nl,hdl⟩:=ht;refine wpAny_bind (wpAny_callSpecial?_slot hit.typeIs U6 (wpAny_call_entry U6 hit.typeIs l7 ?_ (j9 _)));show wpAny _ _ (field (.ref it) 0 >>= _) _ _ _;refine wpAny_bind (wpAny_field ho hd rfl ?_);refine wpAny_ite_false rfl ?_;show wpAny _ _ (field (.ref it) 1 >>= _) _ _ _;refine wpAny_bind (wpAny_field ho hd rfl ?_);show wpAny _ _ (seqItems? (.ref t) >>= _) _ _ _;refine wpAny_bind (wpAny_seqItems hol hdl ?_);show wpAny _ _ (match items[i]? with | some x=>_ | none=>_) _ _ _
 rw [hx];refine wpAny_bind (wpAny_setField ho hd (by simp) ?_)
 refine wpAny_pure ⟨x,rfl,wpAny_pure (hQ _ ⟨_,M7 _ ho (i6 (V5 hd _)),(p9 o _).trans hc,?_⟩ (Z4 _ _ _))⟩;rw [V5 hd];simp
 rfl
theorem qIE {prog:Program} {w:World} {A:Around} {E:Value->Shared->Prop} {s:Shared} {it t:Addr} {i:Nat} {items:Array Value} {Q:Value->Shared->Prop} (hh:A.handled=none) (hit:s.heap.IsTupleIter it t i) (ht:s.heap.IsTuple t items) (hx:items[i]?=none)
  (hE:∀ (h':Heap) (e:Addr),Heap.ExtBut it s.heap h'->(∃ o,h'.get? e=some o/\o.cls=.type "StopIteration")->E (.ref e) { s with heap:=h' }):wpAny (model prog w) A (V7 (.ref it)) Q E s:=by
 obtain ⟨o,ho,hc,hd⟩:=id hit;obtain ⟨ol,hol,_,nl,hdl⟩:=ht;refine wpAny_bind (wpAny_callSpecial?_slot hit.typeIs U6 (wpAny_call_entry U6 hit.typeIs l7 ?_ (j9 _)));show wpAny _ _ (field (.ref it) 0 >>= _) _ _ _;refine wpAny_bind (wpAny_field ho hd rfl ?_);refine wpAny_ite_false rfl ?_;show wpAny _ _ (field (.ref it) 1 >>= _) _ _ _;refine wpAny_bind (wpAny_field ho hd rfl ?_);show wpAny _ _ (seqItems? (.ref t) >>= _) _ _ _;refine wpAny_bind (wpAny_seqItems hol hdl ?_);show wpAny _ _ (match items[i]? with | some x=>_ | none=>_) _ _ _
 rw [hx];refine wpAny_bind (wpAny_rule ?_);refine wpAny_bind (wpAny_setField ho hd (by simp) ?_)
 show wpAny _ _ (newExc (.type "StopIteration") [] >>= _) _ _ _;refine wpAny_bind ?_;simp only [newExc,newTuple];refine wpAny_bind (wpAny_newObj_type ?_ (by size_fits))
 refine wpAny_bind (m:=firstArgMember _ _) (wpAny_of_eq (a:=U0) (by first | rfl | (simp only [firstArgMember];rfl)) ?_)
 refine wpAny_newObj_type ?_ (by size_fits)
 simp only [raiseNew];refine wpAny_bind (wpAny_handled ?_);rw [show A.in1.handled=none from hh];refine wpAny_bind (wpAny_pure (wpAny_throw ?_));exact hE _ _ (((Z4 ..).extBut.push _).push _) ⟨_,B6 _ rfl,rfl⟩
def SIt (b:Bool) (h:Heap) (it l:Addr) (i:Nat):Prop:=match b with | true=>h.IsTupleIter it l i | false=>h.IsListIter it l i
def SSq (b:Bool) (h:Heap) (l:Addr) (xs:Array Value):Prop:=match b with | true=>h.IsTuple l xs | false=>h.IsList l xs
theorem SIt.at {b:Bool} {h h':Heap} {it l:Addr} {i:Nat} (q:SIt b h it l i) (k:∀ o,h.get? it=some o->h'.get? it=some o):SIt b h' it l i:=by
 cases b
 ·exact Heap.IsListIter.at q k
 ·exact Heap.IsTupleIter.at q k
theorem SSq.at {b:Bool} {h h':Heap} {l:Addr} {xs:Array Value} (q:SSq b h l xs) (k:∀ o,h.get? l=some o->h'.get? l=some o):SSq b h' l xs:=by
 cases b
 ·obtain ⟨o,e,r⟩:=q;exact ⟨o,k o e,r⟩
 ·obtain ⟨o,e,r⟩:=q;exact ⟨o,k o e,r⟩
theorem qG9 {b:Bool} {prog:Program} {w:World} {A:Around} {E:Value->Shared->Prop} {s:Shared} {it t:Addr} {i:Nat} {items:Array Value} {x:Value} {Q:Value->Shared->Prop} (hit:SIt b s.heap it t i) (ht:SSq b s.heap t items) (hx:items[i]?=some x)
  (hQ:∀ h':Heap,SIt b h' it t (i+1)->Heap.SameBut it s.heap h'->Q x { s with heap:=h' }):wpAny (model prog w) A (V7 (.ref it)) Q E s:=by
 cases b
 ·exact wpAny_nextOf_list_item hit ht hx hQ
 ·exact qHM hit ht hx hQ
theorem qKZ {b:Bool} {prog:Program} {w:World} {A:Around} {E:Value->Shared->Prop} {s:Shared} {it t:Addr} {i:Nat} {items:Array Value} {Q:Value->Shared->Prop} (hh:A.handled=none) (hit:SIt b s.heap it t i) (ht:SSq b s.heap t items) (hx:items[i]?=none)
  (hE:∀ (h':Heap) (e:Addr),Heap.ExtBut it s.heap h'->(∃ o,h'.get? e=some o/\o.cls=.type "StopIteration")->E (.ref e) { s with heap:=h' }):wpAny (model prog w) A (V7 (.ref it)) Q E s:=by
 cases b
 ·exact wpAny_nextOf_list_end hh hit ht hx hE
 ·exact qIE hh hit ht hx hE
theorem qSO {b:Bool} {prog:Program} {w:World} {A:Around} {E:Value->Shared->Prop} {s:Shared} {z TI TO i1 i2 l1 l2:Addr} {k1 k2:Nat} {xs ys:Array Value} {x y a c:Value} {Q:Value->Shared->Prop} (D:ZipApart z TI TO i1 i2 l1 l2) (hz:IsZip s.heap z TI TO .none) (hTI:IsPair s.heap TI (.ref i1) (.ref i2)) (hTO:IsPair s.heap TO a c)
  (h1:SIt b s.heap i1 l1 k1) (h2:SIt b s.heap i2 l2 k2) (hl1:SSq b s.heap l1 xs) (hl2:SSq b s.heap l2 ys) (hx:xs[k1]?=some x) (hy:ys[k2]?=some y)
  (hQ:∀ h':Heap,IsZip h' z TI TO (rawInt (s.heap.objs.size:Int))->IsPair h' TO x y->SIt b h' i1 l1 (k1+1)->SIt b h' i2 l2 (k2+1)->IsPair h' s.heap.objs.size x y->h'.objs.size=s.heap.objs.size+1->
   (∀ (c:Addr) (o:Obj),c ≠ z->c ≠ TO->c ≠ i1->c ≠ i2->s.heap.get? c=some o->h'.get? c=some o)->Q (.ref s.heap.objs.size) { s with heap:=h' }) :
  wpAny (model prog w) A (Builtin.«zip.__next__» { pos:=[.ref z] }) (fun fin s'=>∃ v,fin=.done (.ret v)/\Q v s') E s:=by
 show wpAny _ _ (field (.ref z) 2 >>= _) _ _ _;refine wpAny_bind (wpAny_field hz rfl rfl ?_);show wpAny _ _ (field (.ref z) 3 >>= _) _ _ _;refine wpAny_bind (wpAny_field hz rfl rfl ?_);refine wpAny_bind (wpAny_seqItems hTI rfl ?_);show wpAny _ _ (U3 (.ref z) >>= _) _ _ _;refine wpAny_bind ?_;show wpAny _ _ (field (.ref z) 0 >>= _) _ _ _;refine wpAny_bind (wpAny_field hz rfl rfl (wpAny_pure ?_));refine wpAny_ite_true rfl ?_;refine wpAny_bind (wpAny_rule ?_);refine wpAny_bind (wpAny_field hz rfl rfl ?_);refine wpAny_bind (wpAny_setField_rec hz (by simp) fun hA gz sb=>?_)
 refine wpAny_bind ?_;show wpAny _ _ (forIn [(C9 i1,0),(C9 i2,1)] _ _) _ _ _;rw [R6];refine wpAny_bind ?_;dsimp only;refine wpAny_bind (wpAny_onRaise ?_);have e:((#[U0,Q4 false,Q4 false,C9 TI,C9 TO][2] == Q4 true)=false):=rfl;rw [e];have sA1:SIt b hA i1 l1 k1:=h1.at fun o q=>(sb.2 _ D.i1z).trans q;have sL1:SSq b hA l1 xs:=hl1.at fun o q=>(sb.2 _ D.l1z).trans q;refine wpAny_bind (qG9 (s:={ s with heap:=hA }) sA1 sL1 hx fun hB nB sB=>?_);refine wpAny_pure ?_;have tB:IsPair hB TO a c:=(sB.2 _ D.TOi1).trans ((sb.2 _ D.TOz).trans hTO);refine wpAny_bind (wpAny_seqItems tB rfl ?_);refine wpAny_bind (wpAny_updateSeq_pair tB fun hC tC sC=>?_);refine wpAny_bind (wpAny_letGo (wpAny_pure ?_));dsimp only;rw [R6];refine wpAny_bind ?_;refine wpAny_bind (wpAny_onRaise ?_);have sC2:SIt b hC i2 l2 k2:=h2.at fun o q=>(sC.2 _ (G6 D.TOi2)).trans ((sB.2 _ (G6 D.i12)).trans ((sb.2 _ D.i2z).trans q));have sL2:SSq b hC l2 ys:=hl2.at fun o q=>(sC.2 _ D.l2TO).trans ((sB.2 _ D.l2i1).trans ((sb.2 _ D.l2z).trans q));refine wpAny_bind (qG9 (s:={ s with heap:=hC }) sC2 sL2 hy fun hD nD sD=>?_);refine wpAny_pure ?_;have tD:IsPair hD TO x c:=(sD.2 _ D.TOi2).trans tC;refine wpAny_bind (wpAny_seqItems tD rfl ?_);refine wpAny_bind (wpAny_updateSeq_pair tD fun hF tF sF=>?_);refine wpAny_bind (wpAny_letGo (wpAny_pure ?_));dsimp only;rw [A24];refine wpAny_pure ?_;dsimp only;have tF':IsPair hF TO x y:=tF;refine wpAny_bind (wpAny_seqItems tF' rfl ?_);refine wpAny_bind (wpAny_newTuple ?_ (by show 2<=sizeLine;decide))
 have gzF:hF.get? z=some { cls:=.type "zip",data:=.fields #[.ellipsis,.bool false,.bool false,.ref TI,.ref TO] }:=(sF.2 _ (G6 D.TOz)).trans ((sD.2 _ (G6 D.i2z)).trans ((sC.2 _ (G6 D.TOz)).trans ((sB.2 _ (G6 D.i1z)).trans gz)));have szF:hF.objs.size=s.heap.objs.size:=sF.1.trans (sD.1.trans (sC.1.trans (sB.1.trans sb.1)));have ltz:z<hF.objs.size:=B1 gzF;have gzG:(hF.push { cls:=.type "tuple",data:=.seq #[x,y] }).get? z=some { cls:=.type "zip",data:=.fields #[.ellipsis,.bool false,.bool false,.ref TI,.ref TO] }:=A2 _ gzF;refine wpAny_bind ?_;show wpAny _ _ (setField (.ref z) 0 (rawInt _) >>= _) _ _ _;refine wpAny_bind (wpAny_setField_rec gzG (by simp) fun hG gG sG=>?_)
 refine wpAny_setField_rec gG (by simp) fun hI gI sI=>?_
 refine wpAny_pure ⟨_,rfl,?_⟩;have o4:∀ (c:Addr) (o:Obj),c ≠ z->c ≠ TO->c ≠ i1->c ≠ i2->s.heap.get? c=some o->hI.get? c=some o:=fun c o n1 n2 n3 n4 e=>
  (sI.2 _ n1).trans ((sG.2 _ n1).trans (A2 _ ((sF.2 _ n2).trans ((sD.2 _ n4).trans ((sC.2 _ n2).trans ((sB.2 _ n3).trans ((sb.2 _ n1).trans e)))))))
 have nz:hF.objs.size ≠ z:=R3 ltz;have gT:hI.get? hF.objs.size=some { cls:=.type "tuple",data:=.seq #[x,y] }:=(sI.2 _ nz).trans ((sG.2 _ nz).trans (B6 _ rfl));have szI:hI.objs.size=hF.objs.size+1:=sI.1.trans (sG.1.trans (J6 ..));have pz:∀ {c:Addr} {o:Obj},c ≠ z->hF.get? c=some o->hI.get? c=some o:=fun n e=>(sI.2 _ n).trans ((sG.2 _ n).trans (A2 _ e));have q:=hQ hI;rw [<- szF] at q;refine q gI (pz D.TOz tF') (nB.at fun o e=>pz D.i1z ((sF.2 _ (G6 D.TOi1)).trans ((sD.2 _ D.i12).trans ((sC.2 _ (G6 D.TOi1)).trans e)))) (nD.at fun o e=>pz D.i2z ((sF.2 _ (G6 D.TOi2)).trans e)) gT szI o4
theorem qW5 {b:Bool} {prog:Program} {w:World} {A:Around} {E:Value->Shared->Prop} {s:Shared} {z TI TO i1 i2 l1 l2:Addr} {k1:Nat} {xs:Array Value} {Q:PySem.Fin->Shared->Prop} (hh:A.handled=none) (D:ZipApart z TI TO i1 i2 l1 l2) (hz:IsZip s.heap z TI TO .none) (hTI:IsPair s.heap TI (.ref i1) (.ref i2))
  (h1:SIt b s.heap i1 l1 k1) (hl1:SSq b s.heap l1 xs) (hx:xs[k1]?=none)
  (hE:∀ (h':Heap) (e:Addr),(∀ (c:Addr) (o:Obj),c ≠ z->c ≠ i1->s.heap.get? c=some o->h'.get? c=some o)->(∃ o,h'.get? e=some o/\o.cls=.type "StopIteration")->E (.ref e) { s with heap:=h' }) :
  wpAny (model prog w) A (Builtin.«zip.__next__» { pos:=[.ref z] }) Q E s:=by
 show wpAny _ _ (field (.ref z) 2 >>= _) _ _ _;refine wpAny_bind (wpAny_field hz rfl rfl ?_);show wpAny _ _ (field (.ref z) 3 >>= _) _ _ _;refine wpAny_bind (wpAny_field hz rfl rfl ?_);refine wpAny_bind (wpAny_seqItems hTI rfl ?_);show wpAny _ _ (U3 (.ref z) >>= _) _ _ _;refine wpAny_bind ?_;show wpAny _ _ (field (.ref z) 0 >>= _) _ _ _;refine wpAny_bind (wpAny_field hz rfl rfl (wpAny_pure ?_));refine wpAny_ite_true rfl ?_;refine wpAny_bind (wpAny_rule ?_);refine wpAny_bind (wpAny_field hz rfl rfl ?_);refine wpAny_bind (wpAny_setField_rec hz (by simp) fun hA gz sb=>?_)
 refine wpAny_bind ?_;show wpAny _ _ (forIn [(C9 i1,0),(C9 i2,1)] _ _) _ _ _;rw [R6];refine wpAny_bind ?_;dsimp only;refine wpAny_bind (wpAny_onRaise ?_);have e:((#[U0,Q4 false,Q4 false,C9 TI,C9 TO][2] == Q4 true)=false):=rfl;rw [e];have sA1:SIt b hA i1 l1 k1:=h1.at fun o q=>(sb.2 _ D.i1z).trans q;have sL1:SSq b hA l1 xs:=hl1.at fun o q=>(sb.2 _ D.l1z).trans q;refine wpAny_bind (qKZ (s:={ s with heap:=hA }) hh sA1 sL1 hx fun hB ea xB ⟨ob,gb,cb⟩=>?_);have gzB:=xB z _ (G6 D.i1z) gz;refine wpAny_setField_rec gzB (by simp) fun hC gC sC=>?_
 have nez:ea ≠ z:=fun q=>by
  rw [q,gzB] at gb;cases gb;exact absurd (show k5 "zip" = k5 "StopIteration" from cb) (by decide)
 exact hE hC ea (fun c o n1 n2 q=>(sC.2 _ n1).trans (xB c o n2 ((sb.2 _ n1).trans q))) ⟨ob,(sC.2 _ nez).trans gb,cb⟩
theorem qSP {b:Bool} {prog:Program} {w:World} {A:Around} {E:Value->Shared->Prop} {s:Shared} {z TI TO i1 i2 l1 l2:Addr} {k1 k2:Nat} {xs ys:Array Value} {x a c:Value} {Q:PySem.Fin->Shared->Prop} (hh:A.handled=none) (D:ZipApart z TI TO i1 i2 l1 l2) (hz:IsZip s.heap z TI TO .none) (hTI:IsPair s.heap TI (.ref i1) (.ref i2)) (hTO:IsPair s.heap TO a c)
  (h1:SIt b s.heap i1 l1 k1) (h2:SIt b s.heap i2 l2 k2) (hl1:SSq b s.heap l1 xs) (hl2:SSq b s.heap l2 ys) (hx:xs[k1]?=some x) (hy:ys[k2]?=none)
  (hE:∀ (h':Heap) (e:Addr),(∀ (c:Addr) (o:Obj),c ≠ z->c ≠ TO->c ≠ i1->c ≠ i2->s.heap.get? c=some o->h'.get? c=some o)->(∃ o,h'.get? e=some o/\o.cls=.type "StopIteration")->E (.ref e) { s with heap:=h' }) :
  wpAny (model prog w) A (Builtin.«zip.__next__» { pos:=[.ref z] }) Q E s:=by
 show wpAny _ _ (field (.ref z) 2 >>= _) _ _ _;refine wpAny_bind (wpAny_field hz rfl rfl ?_);show wpAny _ _ (field (.ref z) 3 >>= _) _ _ _;refine wpAny_bind (wpAny_field hz rfl rfl ?_);refine wpAny_bind (wpAny_seqItems hTI rfl ?_);show wpAny _ _ (U3 (.ref z) >>= _) _ _ _;refine wpAny_bind ?_;show wpAny _ _ (field (.ref z) 0 >>= _) _ _ _;refine wpAny_bind (wpAny_field hz rfl rfl (wpAny_pure ?_));refine wpAny_ite_true rfl ?_;refine wpAny_bind (wpAny_rule ?_);refine wpAny_bind (wpAny_field hz rfl rfl ?_);refine wpAny_bind (wpAny_setField_rec hz (by simp) fun hA gz sb=>?_)
 refine wpAny_bind ?_;show wpAny _ _ (forIn [(C9 i1,0),(C9 i2,1)] _ _) _ _ _;rw [R6];refine wpAny_bind ?_;dsimp only;refine wpAny_bind (wpAny_onRaise ?_);have e:((#[U0,Q4 false,Q4 false,C9 TI,C9 TO][2] == Q4 true)=false):=rfl;rw [e];have sA1:SIt b hA i1 l1 k1:=h1.at fun o q=>(sb.2 _ D.i1z).trans q;have sL1:SSq b hA l1 xs:=hl1.at fun o q=>(sb.2 _ D.l1z).trans q;refine wpAny_bind (qG9 (s:={ s with heap:=hA }) sA1 sL1 hx fun hB nB sB=>?_);refine wpAny_pure ?_;have tB:IsPair hB TO a c:=(sB.2 _ D.TOi1).trans ((sb.2 _ D.TOz).trans hTO);refine wpAny_bind (wpAny_seqItems tB rfl ?_);refine wpAny_bind (wpAny_updateSeq_pair tB fun hC tC sC=>?_);refine wpAny_bind (wpAny_letGo (wpAny_pure ?_));dsimp only;rw [R6];refine wpAny_bind ?_;refine wpAny_bind (wpAny_onRaise ?_);have sC2:SIt b hC i2 l2 k2:=h2.at fun o q=>(sC.2 _ (G6 D.TOi2)).trans ((sB.2 _ (G6 D.i12)).trans ((sb.2 _ D.i2z).trans q));have sL2:SSq b hC l2 ys:=hl2.at fun o q=>(sC.2 _ D.l2TO).trans ((sB.2 _ D.l2i1).trans ((sb.2 _ D.l2z).trans q));refine wpAny_bind (qKZ (s:={ s with heap:=hC }) hh sC2 sL2 hy fun hD ea xD ⟨ob,gb,cb⟩=>?_);have gzC:hC.get? z=some { cls:=.type "zip",data:=.fields #[.ellipsis,.bool false,.bool false,.ref TI,.ref TO] }:=(sC.2 _ (G6 D.TOz)).trans ((sB.2 _ (G6 D.i1z)).trans gz);have gzD:=xD z _ (G6 D.i2z) gzC;refine wpAny_setField_rec gzD (by simp) fun hF gF sF=>?_
 have nez:ea ≠ z:=fun q=>by
  rw [q,gzD] at gb;cases gb;exact absurd (show k5 "zip" = k5 "StopIteration" from cb) (by decide)
 exact hE hF ea (fun c o n1 n2 n3 n4 q=>(sF.2 _ n1).trans (xD c o n4 ((sC.2 _ n2).trans ((sB.2 _ n3).trans ((sb.2 _ n1).trans q))))) ⟨ob,(sF.2 _ nez).trans gb,cb⟩
section
variable {b:Bool} {prog:Program} {w:World} {A:Around} {E:Value->Shared->Prop} {s:Shared} {z TI TO i1 i2 l1 l2:Addr} {k1 k2:Nat} {xs ys:Array Value}
theorem qIC {x y a c:Value} {Q:Option Value->Shared->Prop} (D:ZipApart z TI TO i1 i2 l1 l2) (hz:IsZip s.heap z TI TO .none) (hTI:IsPair s.heap TI (.ref i1) (.ref i2)) (hTO:IsPair s.heap TO a c)
  (h1:SIt b s.heap i1 l1 k1) (h2:SIt b s.heap i2 l2 k2) (hl1:SSq b s.heap l1 xs) (hl2:SSq b s.heap l2 ys) (hx:xs[k1]?=some x) (hy:ys[k2]?=some y)
  (hQ:∀ h':Heap,IsZip h' z TI TO (rawInt (s.heap.objs.size:Int))->IsPair h' TO x y->SIt b h' i1 l1 (k1+1)->SIt b h' i2 l2 (k2+1)->IsPair h' s.heap.objs.size x y->h'.objs.size=s.heap.objs.size+1->
   (∀ (c:Addr) (o:Obj),c ≠ z->c ≠ TO->c ≠ i1->c ≠ i2->s.heap.get? c=some o->h'.get? c=some o)->Q (some (.ref s.heap.objs.size)) { s with heap:=h' }) :
  wpAny (model prog w) A (pyNext (.ref z)) Q E s:=by
 have hT:s.TypeIs (.ref z) "zip":=⟨_,hz,rfl⟩;unfold pyNext;refine wpAny_bind (wpAny_attempt (wpAny_callSpecial?_slot (name:=D3 "__next__") hT Y4 (wpAny_call_entry Y4 hT z8 ?_ (r8 _))));exact qSO (Q:=fun v s'=>wpAny (model prog w) A (pure (some v)) Q E s') D hz hTI hTO h1 h2 hl1 hl2 hx hy fun h' q1 q2 q3 q4 q5 q6 q7=>wpAny_pure (hQ h' q1 q2 q3 q4 q5 q6 q7)
theorem qJJ {Q:Option Value->Shared->Prop} (hh:A.handled=none) (D:ZipApart z TI TO i1 i2 l1 l2) (hz:IsZip s.heap z TI TO .none) (hTI:IsPair s.heap TI (.ref i1) (.ref i2))
  (h1:SIt b s.heap i1 l1 k1) (hl1:SSq b s.heap l1 xs) (hx:xs[k1]?=none)
  (hQ:∀ h':Heap,(∀ (c:Addr) (o:Obj),c ≠ z->c ≠ i1->s.heap.get? c=some o->h'.get? c=some o)->Q none { s with heap:=h' }) :
  wpAny (model prog w) A (pyNext (.ref z)) Q E s:=by
 have hT:s.TypeIs (.ref z) "zip":=⟨_,hz,rfl⟩;unfold pyNext;refine wpAny_bind (wpAny_attempt (wpAny_callSpecial?_slot (name:=D3 "__next__") hT Y4 (wpAny_call_entry Y4 hT z8 ?_ (r8 _))));refine qW5 hh D hz hTI h1 hl1 hx fun h' e k ⟨o,g,c⟩=>?_;refine wpAny_bind (wpAny_isInstance (T:="StopIteration") (b:=true) ⟨_,g,c⟩ isSubtype_stop ?_);exact wpAny_pure (hQ h' k)
theorem qID {x a c:Value} {Q:Option Value->Shared->Prop} (hh:A.handled=none) (D:ZipApart z TI TO i1 i2 l1 l2) (hz:IsZip s.heap z TI TO .none) (hTI:IsPair s.heap TI (.ref i1) (.ref i2)) (hTO:IsPair s.heap TO a c)
  (h1:SIt b s.heap i1 l1 k1) (h2:SIt b s.heap i2 l2 k2) (hl1:SSq b s.heap l1 xs) (hl2:SSq b s.heap l2 ys) (hx:xs[k1]?=some x) (hy:ys[k2]?=none)
  (hQ:∀ h':Heap,(∀ (c:Addr) (o:Obj),c ≠ z->c ≠ TO->c ≠ i1->c ≠ i2->s.heap.get? c=some o->h'.get? c=some o)->Q none { s with heap:=h' }) :
  wpAny (model prog w) A (pyNext (.ref z)) Q E s:=by
 have hT:s.TypeIs (.ref z) "zip":=⟨_,hz,rfl⟩;unfold pyNext;refine wpAny_bind (wpAny_attempt (wpAny_callSpecial?_slot (name:=D3 "__next__") hT Y4 (wpAny_call_entry Y4 hT z8 ?_ (r8 _))));refine qSP hh D hz hTI hTO h1 h2 hl1 hl2 hx hy fun h' e k ⟨o,g,c⟩=>?_;refine wpAny_bind (wpAny_isInstance (T:="StopIteration") (b:=true) ⟨_,g,c⟩ isSubtype_stop ?_);exact wpAny_pure (hQ h' k)
end
abbrev qSA (b:Bool) (l:Addr):Obj:={ cls:=.type (match b with | true=>"tuple_iterator" | false=>"list_iterator"),data:=.fields #[.ref l,.int 0 0] }
theorem qKS {b:Bool} {prog:Program} {w:World} {A:Around} {E:Value->Shared->Prop} {s:Shared} {l:Addr} {xs:Array Value} {Q:Value->Shared->Prop} (h:SSq b s.heap l xs) (hQ:Q (.ref s.heap.objs.size) { s with heap:=s.heap.push (qSA b l) }):wpAny (model prog w) A (pyIter (.ref l)) Q E s:=by
 cases b
 ·exact wpAny_pyIter_list h hQ
 ·exact wpAny_pyIter_tuple h hQ
abbrev zb1 (b:Bool) (h:Heap) (l1:Addr):Heap:=h.push (qSA b l1)
abbrev zb2 (b:Bool) (h:Heap) (l1 l2:Addr):Heap:=(zb1 b h l1).push (qSA b l2)
abbrev zb3 (b:Bool) (h:Heap) (l1 l2:Addr):Heap:=(zb2 b h l1 l2).push { cls:=.type "tuple",data:=.seq #[.ref h.objs.size,.ref (zb1 b h l1).objs.size] }
abbrev zb4 (b:Bool) (h:Heap) (l1 l2:Addr):Heap:=(zb3 b h l1 l2).push { cls:=.type "tuple",data:=.seq #[.none,.none] }
abbrev zb5 (b:Bool) (h:Heap) (l1 l2:Addr):Heap:=(zb4 b h l1 l2).push { cls:=.type "zip",data:=.fields #[.none,.bool false,.bool false,.ref (zb2 b h l1 l2).objs.size,.ref (zb3 b h l1 l2).objs.size] }
theorem qW4 (b:Bool) (l1 l2:Addr) (xs ys:Array Value):Meets (Builtin.«zip.__new__» { pos:=[.type "zip",.ref l1,.ref l2] }) fun _ R s=>
  SSq b s.heap l1 xs/\SSq b s.heap l2 ys/\R (.ok (.ret (.ref (zb4 b s.heap l1 l2).objs.size))) { s with heap:=zb5 b s.heap l1 l2 }:=by
 refine Meets.of_wp fun prog w A R s h=>?_;obtain ⟨hp,g,d,tk,os⟩:=s;obtain ⟨hl1,hl2,h⟩:=h;have hL2:SSq b (hp.push (qSA b l1)) l2 ys:=SSq.at hl2 fun o q=>A2 _ q;refine wpAny_bind ?_;refine wpAny_bind (wpAny_pure ?_);refine wpAny_ite_false rfl ?_;refine wpAny_bind (wpAny_of_eq sub_zip ?_);refine wpAny_ite_false rfl ?_;refine wpAny_pure ?_;refine wpAny_ite_false rfl ?_;refine wpAny_bind ?_;refine wpAny_bind ?_;show wpAny _ _ (forIn [C9 l1,C9 l2] #[] _) _ _ _;rw [R6];refine wpAny_bind (wpAny_bind (wpAny_holding (qKS hl1 (wpAny_pure ?_))));dsimp only;rw [R6];refine wpAny_bind (wpAny_bind (wpAny_holding (qKS hL2 (wpAny_pure ?_))));dsimp only;rw [A24];refine wpAny_pure (wpAny_pure ?_);refine wpAny_bind (wpAny_newTuple ?_ (by show 2<=sizeLine;decide))
 refine wpAny_bind (wpAny_newTuple ?_ (by show 2<=sizeLine;decide))
 refine wpAny_bind ?_;unfold A67;dsimp only;refine wpAny_newObj_type ?_ (by first | rfl | (show (5:Nat)<=_;decide) | (show (5:Nat)<=sizeLine+2;rw [sizeLine_eq];decide))
 refine wpAny_pure ⟨_,rfl,h⟩
theorem qVJ {b:Bool} {prog:Program} {w:World} {A:Around} {E:Value->Shared->Prop} {s:Shared} {l1 l2:Addr} {xs ys:Array Value} {Q:Value->Shared->Prop} (hl1:SSq b s.heap l1 xs) (hl2:SSq b s.heap l2 ys)
  (hQ:∀ (h':Heap) (z TI TO i1 i2:Addr),ZipApart z TI TO i1 i2 l1 l2->IsZip h' z TI TO .none->IsPair h' TI (.ref i1) (.ref i2)->IsPair h' TO .none .none->SIt b h' i1 l1 0->SIt b h' i2 l2 0->(∀ c ∈ [z,TI,TO,i1,i2],s.heap.objs.size<=c)->
   (∀ (c:Addr) (o:Obj),s.heap.get? c=some o->h'.get? c=some o)->Q (.ref z) { s with heap:=h' }) :
  wpAny (model prog w) A (call (.type "zip") [.ref l1,.ref l2]) Q E s:=by
 refine callType_new F.called_zip (by decide) (F.typeCall_zip_2 _ _) (F.newCall_zip_2 _ _) (fun obj=>F.args_object_init_3 obj _ _) F.entry_zip_new (qW4 b l1 l2 xs ys) ⟨hl1,hl2,?_⟩
 have z1:(zb1 b s.heap l1).objs.size=s.heap.objs.size+1:=J6 ..;have z2:(zb2 b s.heap l1 l2).objs.size=s.heap.objs.size+2:=(J6 ..).trans (by rw [z1])
 have z3:(zb3 b s.heap l1 l2).objs.size=s.heap.objs.size+3:=(J6 ..).trans (by rw [z2])
 have z4:(zb4 b s.heap l1 l2).objs.size=s.heap.objs.size+4:=(J6 ..).trans (by rw [z3])
 have g5:(zb5 b s.heap l1 l2).get? (zb4 b s.heap l1 l2).objs.size=some { cls:=.type "zip",data:=.fields #[.none,.bool false,.bool false,.ref (zb2 b s.heap l1 l2).objs.size,.ref (zb3 b s.heap l1 l2).objs.size] }:=B6 _ rfl;have g4:(zb5 b s.heap l1 l2).get? (zb3 b s.heap l1 l2).objs.size=some { cls:=.type "tuple",data:=.seq #[.none,.none] }:=A2 _ (B6 _ rfl);have g3:(zb5 b s.heap l1 l2).get? (zb2 b s.heap l1 l2).objs.size=some { cls:=.type "tuple",data:=.seq #[.ref s.heap.objs.size,.ref (zb1 b s.heap l1).objs.size] }:=A2 _ (A2 _ (B6 _ rfl));have g2:(zb5 b s.heap l1 l2).get? (zb1 b s.heap l1).objs.size=some (qSA b l2):=A2 _ (A2 _ (A2 _ (B6 _ rfl)));have g1:(zb5 b s.heap l1 l2).get? s.heap.objs.size=some (qSA b l1):=A2 _ (A2 _ (A2 _ (A2 _ (B6 _ rfl))));have lt:∀ {l:Addr} {zs:Array Value},SSq b s.heap l zs->l<s.heap.objs.size:=fun {l zs} q=>by
  cases b
  ·obtain ⟨o,e,_⟩:=q;exact B1 e
  ·obtain ⟨o,e,_⟩:=q;exact B1 e
 refine ⟨⟨_,g5,rfl⟩,?_⟩;have D:=zipApart_new (n:=s.heap.objs.size) (lt hl1) (lt hl2);rw [<- z4,<- z3,<- z2,<- z1] at D;refine hQ _ _ _ _ _ _ D g5 g3 g4 ?_ ?_ ?_ fun c o e=>A2 _ (A2 _ (A2 _ (A2 _ (A2 _ e))))
 ·cases b
  ·exact ⟨_,g1,rfl,rfl⟩
  ·exact ⟨_,g1,rfl,rfl⟩
 ·cases b
  ·exact ⟨_,g2,rfl,rfl⟩
  ·exact ⟨_,g2,rfl,rfl⟩
 ·intro c hc;have e':c=(zb4 b s.heap l1 l2).objs.size\/c=(zb2 b s.heap l1 l2).objs.size\/c=(zb3 b s.heap l1 l2).objs.size\/c=s.heap.objs.size\/c=(zb1 b s.heap l1).objs.size:=by simpa using hc
  rcases e' with rfl | rfl | rfl | rfl | rfl
  ·omega
  ·omega
  ·omega
  ·exact B0 _
  ·omega
def SqB (b:Bool) (K:PySem.W.Frag) (H:Hp) (a:Addr) (xs:List V):Prop:=match b with | true=>SqT K H a xs | false=>SqL K H a xs
def Itz (K:PySem.W.Frag) (b:Bool) (l1 l2:Addr):It:=
 ⟨fun i H=>∃ xs ys x y,SqB b K H l1 xs/\SqB b K H l2 ys/\xs[i]?=some x/\ys[i]?=some y,fun i H v H'=>∃ T x y,H T=none/\v=.ref T/\H'=upd H T (.tup [x,y])/\∀ xs ys,SqB b K H l1 xs->SqB b K H l2 ys->xs[i]?=some x/\ys[i]?=some y,fun i H=>∃ xs,SqB b K H l1 xs/\(xs.length<=i\/∃ ys x,SqB b K H l2 ys/\xs[i]?=some x/\ys.length<=i)⟩
section
variable {X:Cx}
theorem Inv.seqB {b:Bool} {Ab:List (Addr × Obj)} {s:Shared} {σ:St} {H:Hp} {a:Addr} {xs:List V} (I:Inv X Ab σ H s) (h:SqB b X.K H a xs):∃ its:List Value,Vals xs its/\SSq b s.heap a its.toArray:=by
 cases b
 ·obtain ⟨its,rv,p,_⟩:=I.list h;exact ⟨its,rv,p.isList⟩
 ·obtain ⟨its,rv,p,_⟩:=I.tuple h;exact ⟨its,rv,p⟩
theorem Inv.seqB_inj {b:Bool} {Ab:List (Addr × Obj)} {s:Shared} {σ:St} {H:Hp} {a:Addr} {xs ys:List V} (I:Inv X Ab σ H s) (h:SqB b X.K H a xs) (h':SqB b X.K H a ys):xs=ys:=by
 cases b
 ·exact I.list_inj h h'
 ·exact I.tuple_inj h h'
theorem qW6 {P:Program} {w:World} {K:PySem.W.Frag} {elts:List Expr} {k:Nat} {pos:Pos} {b:Bool} {z TI TO i1 i2 l1 l2:Addr} (D:ZipApart z TI TO i1 i2 l1 l2):Turn P w K (.Tuple elts k pos) (Itz K b l1 l2) [z,TI,TO,i1,i2] z (fun i h=>IsZip h z TI TO .none/\IsPair h TI (.ref i1) (.ref i2)/\(∃ a c,IsPair h TO a c)/\SIt b h i1 l1 i/\SIt b h i2 l2 i) where
 mem:=by simp
 obj:=fun i h ⟨h1,h2,⟨a,c,h3⟩,h4,h5⟩ d hd=>by
  have it:∀ {j l:Addr},SIt b h j l i->∃ o,h.get? j=some o/\∀ v,o.data ≠ .cell v:=fun {j l} q=>by
   cases b
   ·obtain ⟨o,e,_,q⟩:=q;exact ⟨o,e,fun v z=>by rw [q] at z;cases z⟩
   ·obtain ⟨o,e,_,q⟩:=q;exact ⟨o,e,fun v z=>by rw [q] at z;cases z⟩
  have e':d=z\/d=TI\/d=TO\/d=i1\/d=i2:=by simpa using hd
  rcases e' with rfl | rfl | rfl | rfl | rfl
  ·exact ⟨_,h1,fun v z=>by
    have z':A26 _=A07 v:=z;cases z'⟩
  ·exact ⟨_,h2,fun v z=>by
    have z':Data.seq _=A07 v:=z;cases z'⟩
  ·exact ⟨_,h3,fun v z=>by
    have z':Data.seq _=A07 v:=z;cases z'⟩
  ·exact it h4
  ·exact it h5
 keep:=fun i h h' ⟨h1,h2,⟨a,c,h3⟩,h4,h5⟩ kk=>⟨kk z (by simp) _ h1,kk TI (by simp) _ h2,⟨a,c,kk TO (by simp) _ h3⟩,h4.at fun o q=>kk i1 (by simp) o q,h5.at fun o q=>kk i2 (by simp) o q⟩
 item:=by
  intro X hP hw hK hc i Ab s σ H E I hf st hg;subst hP hw hK;obtain ⟨xs,ys,x,y,hq1,hq2,hx,hy⟩:=hg;obtain ⟨its,rv,p1⟩:=I.seqB hq1;obtain ⟨jts,rw',p2⟩:=I.seqB hq2;obtain ⟨u,hu,ru⟩:=rv.get hx;obtain ⟨v,hv,rv'⟩:=rw'.get hy;obtain ⟨h1,h2,⟨a,c,h3⟩,h4,h5⟩:=st;refine qIC D h1 h2 h3 h4 h5 p1 p2 (x:=u) (y:=v) (by simpa using hu) (by simpa using hv) fun h' a1 a2 a3 a4 a5 a6 a7=>?_
  refine ⟨_,rfl,wpAny_letOwnedTupleGo_zip a1 fun h2' b1 b2=>?_⟩;have ltz:z<s.heap.objs.size:=B1 h1;have nz:s.heap.objs.size ≠ z:=R3 ltz;have I1:Inv X Ab σ H { s with heap:=h2',toks:=s.toks }:=I.turnedL (ch:=[z,TI,TO,i1,i2]) (fun d o hd q=>by
   have e1:d ≠ z:=fun q=>hd (by simp [q])
   exact (b2.2 d e1).trans (a7 d o e1 (fun q=>hd (by simp [q])) (fun q=>hd (by simp [q])) (fun q=>hd (by simp [q])) q)) hf
  have hT:H s.heap.objs.size=none:=I.hok.fresh (B0 _);have fT:=I.fpOk (H':=H) (b:=s.heap.objs.size) (B0 _) hT;have gT:h2'.get? s.heap.objs.size=some { cls:=.type "tuple",data:=.seq #[u,v] }:=(b2.2 _ nz).trans a5;refine ⟨.ref s.heap.objs.size,upd H s.heap.objs.size (.tup [x,y]),I1.track hT I.sz fT.2.1 fT.2.2.2.2.1 fT.2.2.2.2.2 ⟨by simp only [D1,b9];rw [sizeLine_eq];decide,[u,v],.cons ru (.cons rv' .nil),⟨_,gT,rfl,_,rfl⟩⟩,rfl,
   ⟨_,x,y,hT,rfl,rfl,fun xs' ys' e1 e2=>by rw [I.seqB_inj e1 hq1,I.seqB_inj e2 hq2];exact ⟨hx,hy⟩⟩,⟨b1,(b2.2 _ D.TIz).trans (a7 _ _ D.TIz D.TITO D.TIi1 D.TIi2 h2),⟨u,v,(b2.2 _ D.TOz).trans a2⟩,a3.at fun o q=>(b2.2 _ D.i1z).trans q,a4.at fun o q=>(b2.2 _ D.i2z).trans q⟩,fun d hd=>?_⟩
  have ltb:d<s.heap.objs.size:=by
   have it:∀ {j l:Addr} {n:Nat},SIt b s.heap j l n->j<s.heap.objs.size:=fun {j l n} q=>by
    cases b
    ·obtain ⟨o,e,_,q⟩:=q;exact B1 e
    ·obtain ⟨o,e,_,q⟩:=q;exact B1 e
   have e':d=z\/d=TI\/d=TO\/d=i1\/d=i2:=by simpa using hd
   rcases e' with rfl | rfl | rfl | rfl | rfl
   ·exact ltz
   ·exact B1 h2
   ·exact B1 h3
   ·exact it h4
   ·exact it h5
  rw [qA8 (C7 ltb)];exact (hf d hd).1
 done:=by
  intro X hP hw hK hc i Ab s σ H E I hf st hg;subst hP hw hK;obtain ⟨xs,hq,hx⟩:=hg;obtain ⟨its,rv,p⟩:=I.seqB hq;have hl:=rv.length;obtain ⟨h1,h2,⟨a,c,h3⟩,h4,h5⟩:=st;rcases hx with hx | ⟨ys,x,hq2,hxx,hy⟩
  rotate_left
  ·obtain ⟨jts,rw',p2⟩:=I.seqB hq2;have hl2:=rw'.length;obtain ⟨u,hu,ru⟩:=rv.get hxx;exact qID (I.ok.hd hc) D h1 h2 h3 h4 h5 p p2 (x:=u) (by simpa using hu) (by simp;omega) fun h' eb=>⟨rfl,I.turnedL (t':=s.toks) (ch:=[z,TI,TO,i1,i2]) (fun d o hd q=>eb d o (fun z=>hd (by simp [z])) (fun z=>hd (by simp [z])) (fun z=>hd (by simp [z])) (fun z=>hd (by simp [z])) q) hf⟩
  exact qJJ (I.ok.hd hc) D h1 h2 h4 p (by simp;omega) fun h' eb=>⟨rfl,I.turnedL (t':=s.toks) (ch:=[z,TI,TO,i1,i2]) (fun d o hd q=>eb d o (fun z=>hd (by simp [z])) (fun z=>hd (by simp [z])) q) hf⟩
 self:=fun _ _ _ _ _ ⟨h1,_⟩ h=>wpAny_pyIter_zip h1 h
def iZip (K:PySem.W.Frag) (ta:TA):TI:=fun σ H R=>ta σ H fun vs H1=>∃ b l m,vs=[.ref l,.ref m]/\(∃ xs,SqB b K H1 l xs)/\(∃ xs,SqB b K H1 m xs)/\R (Itz K b l m) H1
theorem qaW {elts:List Expr} {k:Nat} {tpos:Pos} {a b:Expr} {ta:TA} {p pos:Pos} (hg:Gl X "zip") (hm:X.mg "zip" = none) (hv:bootBuiltins "zip" = some (.type "zip")) (ha:PA X [a,b] ta) (hs:starEach [a,b] X.env=[(false,eval a X.env),(false,eval b X.env)]:=by rfl) (hs2:starEach [b] X.env=[(false,eval b X.env)]:=by rfl) :
  PI X (.Tuple elts k tpos) (.Call (.Name "zip" p) [a,b] [] pos) (iZip X.K ta):=by
 intro Ab s σ H R I h;refine Call_ (qFB I hg hm hv (O7 (thn (ha pos Ab s σ H _ I h) fun us s1 ⟨vs,H1,I1,r1,q1⟩=>?_) (by rw [hs,hs2]) (by rw [hs2];rfl)))
 obtain ⟨bb,l,m,e,⟨xs,hq⟩,⟨ys,hq2⟩,q⟩:=q1;subst e;obtain ⟨u,v,rfl,rx,ry⟩:=qMX r1;cases rx;cases ry;obtain ⟨its,rv,pl⟩:=I1.seqB hq;obtain ⟨jts,rw',pm⟩:=I1.seqB hq2;refine qVJ pl pm fun h' z TI TO i1 i2 D hz hTI hTO hi1 hi2 hfr hk=>?_;refine wpAny_pyIter_zip hz ?_;have I2:Inv X Ab σ H1 { s1 with heap:=h' }:=I1.kept (t':=s1.toks) hk;exact ⟨z,[z,TI,TO,i1,i2],_,_,H1,rfl,I2,qW6 (b:=bb) D,⟨hz,hTI,⟨_,_,hTO⟩,hi1,hi2⟩,fun c hc=>I1.fpOk (hfr c hc) (I1.hok.fresh (hfr c hc)),q⟩
end
theorem qY2 {K:PySem.W.Frag} {b:Bool} {l m:Addr} {xs ys:List V} {g:TG} {tc:TT} {te:TE} {Kf:Hp->Prop} {σ0:St} {H0:Hp} {p:Addr} (hlen:xs.length=ys.length) (Pv:Nat->St->Hp->Prop) (h0:Pv 0 σ0 H0) (hl:∀ i σ H,i<=xs.length->Pv i σ H->SqB b K H l xs/\SqB b K H m ys)
  (hs:∀ i x y σ H T,xs[i]?=some x->ys[i]?=some y->Pv i σ H->H T=none->g (.ref T) σ (upd H T (.tup [x,y])) fun σ2 H2=>tc σ2 H2 fun b H3=>if b=true then te σ2 H3 fun y H4=>∃ ys,H4 p=some (.lst ys)/\ys.length<sizeLine/\Pv (i+1) σ2 (upd H4 p (.lst (ys++[y]))) else Pv (i+1) σ2 H3)
  (hd:∀ σ H,Pv xs.length σ H->Kf H) :
  ∃ W:Nat->Nat->St->Hp->Prop,(∃ m,W 0 m σ0 H0)/\∀ i n σ H,W i n σ H->
   ((Itz K b l m).stop i H/\Kf H)\/((Itz K b l m).go i H/\∃ N:St->Hp->Prop,(∀ σ' H',N σ' H'->∃ m',m'<n/\W (i+1) m' σ' H')/\∀ x H',(Itz K b l m).yld i H x H'->g x σ H' fun σ2 H2=>tc σ2 H2 fun b H3=>
    if b=true then te σ2 H3 fun y H4=>∃ ys,H4 p=some (.lst ys)/\ys.length<sizeLine/\N σ2 (upd H4 p (.lst (ys++[y]))) else N σ2 H3):=by
 refine ⟨fun i n σ H=>n=xs.length - i/\i<=xs.length/\Pv i σ H,⟨xs.length,by simp,D7 _,h0⟩,?_⟩
 rintro i n σ H ⟨rfl,hi,q⟩;have hq:=hl i σ H hi q;by_cases hlt:i<xs.length
 ·refine .inr ⟨⟨xs,ys,xs[i],ys[i]'(by omega),hq.1,hq.2,by simp [hlt],A1 _⟩,Pv (i+1),fun σ' H' p'=>⟨xs.length - (i+1),by omega,rfl,hlt,p'⟩,fun v H' y=>?_⟩
  obtain ⟨T,x,y,hT,e1,e2,yy⟩:=y;subst e1 e2;exact hs i x y σ H T (yy xs ys hq.1 hq.2).1 (yy xs ys hq.1 hq.2).2 q hT
 ·have e:i=xs.length:=by omega
  subst e;exact .inl ⟨⟨xs,hq.1,.inl (B0 _)⟩,hd σ H q⟩
section
variable {X:Cx}
theorem qXB:PGet X (rIxL X.K):=by
 intro Ab s σ H o i ov iv Q I ro ri h;obtain ⟨p,xs,i,z,rfl,rfl,hq,he,q⟩:=h;cases ro;obtain ⟨t,rfl⟩:=ri;obtain ⟨its,r,pl,hz⟩:=I.list hq;obtain ⟨j,h1,h2,h3,h4,h5⟩:=qQA he;obtain ⟨w,ew,rw'⟩:=r.get h2;have hl:=r.length;have hn:=qL2;have fin:EP X Ab σ Q w s:=⟨z,H,I,rw',q⟩;by_cases h0:0<=i
 ·have hj:i.toNat=j:=by
   rw [seqIndex_of h0 h5] at h1;exact D5 h1
  exact wpAny_getItem_list pl.isList h0 (by omega) (by rw [hj];simpa using ew) fin
 ·have hj:(i+(its.toArray.size:Int)).toNat=j:=by
   rw [seqIndex_neg (by omega) h4] at h1
   rw [A7,<- hl];exact D5 h1
  exact wpAny_getItem_list_neg pl.isList (by omega) (by rw [A7] <;> omega) (by omega) (by rw [hj];simpa using ew) fin
end
open PySem
section
variable {es:List Expr} {env:Env} {p:Pos}
end
@[irreducible] def cst (i:Int) (p:Pos):Expr:=.Constant (.int i) 0 p
@[elab_as_elim] theorem us0 {α:Type} {P:List α->Prop} (us:List α) (hl:us.length=0) (h:P []):P us:=by
 match us,hl with
 | [],_=>exact h
@[elab_as_elim] theorem us1 {α:Type} {P:List α->Prop} (us:List α) (hl:us.length=1) (h:∀ a,P [a]):P us:=by
 match us,hl with
 | [a],_=>exact h a
@[elab_as_elim] theorem us2 {α:Type} {P:List α->Prop} (us:List α) (hl:us.length=2) (h:∀ a b,P [a,b]):P us:=by
 match us,hl with
 | [a,b],_=>exact h a b
@[elab_as_elim] theorem us3 {α:Type} {P:List α->Prop} (us:List α) (hl:us.length=3) (h:∀ a b c,P [a,b,c]):P us:=by
 match us,hl with
 | [a,b,c],_=>exact h a b c
@[elab_as_elim] theorem us4 {α:Type} {P:List α->Prop} (us:List α) (hl:us.length=4) (h:∀ a b c d,P [a,b,c,d]):P us:=by
 match us,hl with
 | [a,b,c,d],_=>exact h a b c d
end L2
namespace L2.G
open PySem PyProof.Rows
abbrev gSM:=StateT SortSt Sem
class NM where
 nm:Value->Int
 good:Value->Prop
variable [NM]
def gkv (p:Keyed):Int:=NM.nm p.1
def gIK (p:Keyed):Prop:=NM.good p.1
class LtOk (prog:Program) (w:World) (A:Around) (s:Shared) (κ0:SortKind):Prop where
 lt:∀ {x y:Value} {Q:Bool->Shared->Prop} {E:Value->Shared->Prop},NM.good x->NM.good y->Q (decide (NM.nm x<NM.nm y)) s->wpAny (model prog w) A (keyLt' κ0 x y) Q E s
def gK (xs:Array Keyed) (i:Nat):Int:=match xs[i]? with
 | some p=>NM.nm p.1
 | none=>0
def gSortedTo (xs:Array Keyed) (k:Nat):Prop:=∀ i j,i<=j->j<k->gK xs i<=gK xs j
def qC5 (xs:Array Keyed):Prop:=∀ p,p ∈ xs.toList->NM.good p.1
theorem qO4 {xs:Array Keyed} {i:Nat} (hi:i<xs.size):gK xs i=NM.nm xs[i].1:=by unfold gK;rw [getElem?_pos xs i hi]
theorem qH2 {xs ys:Array Keyed} {i j:Nat} (h:xs[i]?=ys[j]?):gK xs i=gK ys j:=by unfold gK;rw [h]
theorem qV1 {xs:Array Keyed} {src d:Nat} (hs:src<xs.size) (hd:d<=src) (k:Nat) :
  gK (bubble xs src d) k=if k=src - d then gK xs src else if src - d<k/\k<=src then gK xs (k - 1) else gK xs k:=by
 have e:=getElem?_bubble hs d hd k;by_cases h1:k=src - d
 ·rw [if_pos h1] at e ⊢;exact qH2 e
 ·rw [if_neg h1] at e ⊢;by_cases h2:src - d<k/\k<=src
  ·rw [if_pos h2] at e ⊢;exact qH2 e
  ·rw [if_neg h2] at e ⊢;exact qH2 e
theorem qK1 {xs:Array Keyed} {i j:Nat} (hj:j<=xs.size) (k:Nat) :
  gK (mirror xs i j ((j - i) / 2)) k=if i<=k/\k<j then gK xs (i+j - 1 - k) else gK xs k:=by
 have e:=getElem?_mirror_all (i:=i) hj k;by_cases h1:i<=k/\k<j
 ·rw [if_pos h1] at e ⊢;exact qH2 e
 ·rw [if_neg h1] at e ⊢;exact qH2 e
theorem qK0 {xs:Array Keyed} {i j:Nat} (hj:j<=xs.size) (heq:∀ k,i<=k->k<j->gK xs k=gK xs (j - 1)) (k:Nat) :
  gK (mirror xs i j ((j - i) / 2)) k=gK xs k:=by
 rw [qK1 hj]
 split
 ·rw [heq _ (by omega) (by omega),heq k (by omega) (by omega)]
 ·rfl
section
variable {prog:Program} {w:World} {A:Around} {E:Value->Shared->Prop} {s:Shared} {κ0:SortKind} [LtOk prog w A s κ0]
theorem qX8 {st:SortSt} {x y:Keyed} {Q:Option Bool->SortSt->Prop} (hk:kindOf st=κ0) (hx:gIK x) (hy:gIK y) (h:Q (some (decide (gkv x<gkv y))) st):wpS (model prog w) A E s (lt' x y) Q st:=by
 rw [lt'_eq];refine wpS_bind (wpS_get ?_);rw [hk];refine wpS_bind (wpS_lift (wpAny_attempt (LtOk.lt hx hy ⟨rfl,?_⟩)));exact wpS_pure h
theorem qUS {st:SortSt} {arr:Array Keyed} {i:Nat} {x:Keyed} {Q:Keyed->SortSt->Prop} (h:arr[i]?=some x) (hQ:Q x st):wpS (model prog w) A E s (elem' arr i) Q st:=by
 rw [elem'_eq,h];exact wpS_pure hQ
end
end L2.G
namespace L2.G
open PySem PyProof.Rows
variable [NM]
structure gMR (R:Keyed->Keyed->Prop) (all out ra rb:List Keyed):Prop where
 perm:(out++(ra++rb)).Perm all
 up:out.Pairwise R
 ua:ra.Pairwise R
 ub:rb.Pairwise R
 la:∀ x ∈ out,∀ y ∈ ra,R x y
 lb:∀ x ∈ out,∀ y ∈ rb,R x y
section
variable {R:Keyed->Keyed->Prop} {all out ra rb xs:List Keyed}
end
theorem qUY {a:Array Keyed} {i:Nat} (h:i<a.size):∃ x,a[i]?=some x/\a.toList[i]?=some x/\x ∈ a.toList:=⟨a[i],E5 h,by simp [h],by simp⟩
end L2.G
namespace L2.G
open PySem PyProof.Rows
variable [NM]
theorem gifT {prog:Program} {w:World} {A:Around} {E:Value->Shared->Prop} {s:Shared} {α:Type} {c:Prop} [Decidable c] {x y:gSM α} {Q:α->SortSt->Prop} {st:SortSt} (h:c) (k:wpS (model prog w) A E s x Q st):wpS (model prog w) A E s (if c then x else y) Q st:=by rw [if_pos h];exact k
theorem gifF {prog:Program} {w:World} {A:Around} {E:Value->Shared->Prop} {s:Shared} {α:Type} {c:Prop} [Decidable c] {x y:gSM α} {Q:α->SortSt->Prop} {st:SortSt} (h:¬ c) (k:wpS (model prog w) A E s y Q st):wpS (model prog w) A E s (if c then x else y) Q st:=by rw [if_neg h];exact k
section
variable {prog:Program} {w:World} {A:Around} {E:Value->Shared->Prop} {s:Shared} {κ0:SortKind} [LtOk prog w A s κ0]
end
end L2.G
namespace L2.G
open PySem PyProof.Rows
variable [NM]
section
variable {prog:Program} {w:World} {A:Around} {E:Value->Shared->Prop} {s:Shared} {κ0:SortKind} [LtOk prog w A s κ0]
end
end L2.G
namespace L2.G
open PySem PyProof.Rows
variable [NM]
theorem qV0 {xs:Array Keyed} {i:Nat} {x:Keyed} (h:xs[i]?=some x):gK xs i=gkv x:=by
 unfold gK;rw [h]
 rfl
section
variable {prog:Program} {w:World} {A:Around} {E:Value->Shared->Prop} {s:Shared} {κ0:SortKind} [LtOk prog w A s κ0]
structure gSG (κ0:SortKind) (a₀:Array Keyed) (st:SortSt):Prop where
 perm:(arrOf st).Perm a₀
 kind:kindOf st=κ0
 failed:failedOf st=none
theorem gSG.size {a₀:Array Keyed} {st:SortSt} (h:gSG κ0 a₀ st):(arrOf st).size=a₀.size:=h.perm.size_eq
theorem gSG.ik {a₀:Array Keyed} {st:SortSt} (h:gSG κ0 a₀ st) (h0:qC5 a₀):∀ x ∈ (arrOf st).toList,gIK x:=fun x hx=>h0 x ((Q8.mp h.perm).mem_iff.mp hx)
end
end L2.G
namespace L2.G
open PySem PyProof.Rows
variable [NM]
theorem gSG.lay {κ0:SortKind} {a₀:Array Keyed} {st:SortSt} (g:gSG κ0 a₀ st) {ys:Array Keyed} (p:ys.Perm (arrOf st)):gSG κ0 a₀ (setArr st ys):=⟨p.trans g.perm,g.kind,g.failed⟩
section
variable {prog:Program} {w:World} {A:Around} {E:Value->Shared->Prop} {s:Shared} {κ0:SortKind} [LtOk prog w A s κ0] {a₀:Array Keyed}
theorem qGZ {st:SortSt} {i j:Nat} {Q:Option Bool->SortSt->Prop} (h0:qC5 a₀) (g:gSG κ0 a₀ st) (hi:i<a₀.size) (hj:j<a₀.size) (h:Q (some (decide (gK (arrOf st) i<gK (arrOf st) j))) st):wpS (model prog w) A E s (ltAt' i j) Q st:=by
 have hi2:i<(arrOf st).size:=by rw [g.size];exact hi
 have hj2:j<(arrOf st).size:=by rw [g.size];exact hj
 obtain ⟨x,ex,_,mx⟩:=qUY hi2;obtain ⟨y,ey,_,my⟩:=qUY hj2;rw [qV0 ex,qV0 ey] at h;rw [ltAt'_eq];refine wpS_bind (wpS_get ?_);exact wpS_bind (qUS ex (wpS_bind (qUS ey (qX8 g.kind (g.ik h0 x mx) (g.ik h0 y my) h))))
abbrev gCUp:=Option (Option Nat) × Nat
abbrev gCDn:=Option (Option Nat) × Nat × Nat
def gupL (lo a m:Nat):gSM gCUp:=
 forIn [a:m] ((none,a):gCUp) fun _ c=>do
  let t <- ltAt' (lo+c.snd) (lo+c.snd - 1)
  match t with
  | some less=>if less=true then pure (i5 (none,c.snd)) else pure (Q0 (none,c.snd+1))
  | _=>pure (i5 (some none,c.snd))
def qUW (lo n m:Nat):gSM (Option Nat):=do
 reverseSlice' lo (lo+n)
 let c <- gupL lo n m
 match c.fst with
 | some r=>pure r
 | none=>pure (some c.snd)
def gdnL (lo n m:Nat):gSM gCDn:=
 forIn [n:m] ((none,n,0):gCDn) fun _ c=>do
  let t <- ltAt' (lo+c.snd.fst) (lo+c.snd.fst - 1)
  match t with
  | some less=>
   if less=true then
    if c.snd.snd > 0 then do
     reverseSlice' (lo+c.snd.fst - (c.snd.snd+1)) (lo+c.snd.fst)
     pure (Q0 (none,c.snd.fst+1,0))
    else pure (Q0 (none,c.snd.fst+1,0))
   else do
    let t <- ltAt' (lo+c.snd.fst - 1) (lo+c.snd.fst)
    match t with
    | some more=>
     if more=true then pure (i5 (none,c.snd.fst,c.snd.snd))
     else pure (Q0 (none,c.snd.fst+1,c.snd.snd+1))
    | _=>pure (i5 (some none,c.snd.fst,c.snd.snd))
  | _=>pure (i5 (some none,c.snd.fst,c.snd.snd))
def gdnP (lo n m:Nat):gSM (Option Nat):=do
 liftM (rule "list.sort.descending-run")
 let c <- gdnL lo (n+1) m
 match c.fst with
 | some r=>pure r
 | none=>
  if c.snd.snd > 0 then do
   reverseSlice' (lo+c.snd.fst - (c.snd.snd+1)) (lo+c.snd.fst)
   qUW lo c.snd.fst m
  else qUW lo c.snd.fst m
theorem qBH {α β:Type} {x y:gSM α} {f g:α->gSM β} (h:x=y) (k:∀ a,f a=g a):(x >>= f)=(y >>= g):=by rw [h,show f=g from funext k]
theorem qUX (lo m:Nat):countRun' lo m=(do
  let c <- gupL lo 1 m
  match c.fst with
  | some r=>pure r
  | none=>
   if (c.snd == m)=true then pure (some c.snd)
   else if c.snd > 1 then do
    let t <- ltAt' lo (lo+c.snd - 1)
    match t with
    | some rose=>if rose=true then pure (some c.snd) else do
      reverseSlice' lo (lo+c.snd)
      gdnP lo c.snd m
    | _=>pure none
   else gdnP lo c.snd m):=by
 rw [countRun'_eq];unfold gdnP qUW gdnL gupL;refine qBH rfl fun c=>?_;obtain ⟨r,n⟩:=c;cases r with
 | some r=>rfl
 | none=>
  have last:∀ c3:gCUp,(match c3.fst with | some r=>pure r | none=>pure (some c3.snd):gSM (Option Nat))=(match c3.fst with | some r=>pure r | none=>pure (some c3.snd)):=fun _=>rfl
  dsimp only
  split
  ·rfl
  ·split
   ·refine qBH rfl fun x=>?_;cases x with
    | none=>rfl
    | some rose=>
     dsimp only
     split
     ·rfl
     ·refine qBH rfl fun _=>qBH rfl fun _=>qBH rfl fun c2=>?_;obtain ⟨r2,n2,q2⟩:=c2;cases r2 with
      | some r2=>rfl
      | none=>
       dsimp only
       split
       ·refine qBH rfl fun _=>qBH rfl fun _=>qBH rfl fun c3=>?_;obtain ⟨r3,n3⟩:=c3;cases r3 <;> rfl
       ·refine qBH rfl fun _=>qBH rfl fun c3=>?_;obtain ⟨r3,n3⟩:=c3;cases r3 <;> rfl
   ·refine qBH rfl fun _=>qBH rfl fun c2=>?_;obtain ⟨r2,n2,q2⟩:=c2;cases r2 with
    | some r2=>rfl
    | none=>
     dsimp only
     split
     ·refine qBH rfl fun _=>qBH rfl fun _=>qBH rfl fun c3=>?_;obtain ⟨r3,n3⟩:=c3;cases r3 <;> rfl
     ·refine qBH rfl fun _=>qBH rfl fun c3=>?_;obtain ⟨r3,n3⟩:=c3;cases r3 <;> rfl
end
end L2.G
namespace L2.G
open PySem PyProof.Rows
variable [NM]
def gX (ix:Keyed->Int) (xs:Array Keyed) (i:Nat):Int:=match xs[i]? with
 | some p=>ix p
 | none=>0
section
variable {ix:Keyed->Int}
theorem qH1 {xs ys:Array Keyed} {i j:Nat} (h:xs[i]?=ys[j]?):gX ix xs i=gX ix ys j:=by unfold gX;rw [h]
theorem qUZ {xs:Array Keyed} {src d:Nat} (hs:src<xs.size) (hd:d<=src) (k:Nat) :
  gX ix (bubble xs src d) k=if k=src - d then gX ix xs src else if src - d<k/\k<=src then gX ix xs (k - 1) else gX ix xs k:=by
 have e:=getElem?_bubble hs d hd k;by_cases h1:k=src - d
 ·rw [if_pos h1] at e ⊢;exact qH1 e
 ·rw [if_neg h1] at e ⊢;by_cases h2:src - d<k/\k<=src
  ·rw [if_pos h2] at e ⊢;exact qH1 e
  ·rw [if_neg h2] at e ⊢;exact qH1 e
theorem qD4 {xs:Array Keyed} {i j:Nat} (hj:j<=xs.size) (k:Nat) :
  gX ix (mirror xs i j ((j - i) / 2)) k=if i<=k/\k<j then gX ix xs (i+j - 1 - k) else gX ix xs k:=by
 have e:=getElem?_mirror_all (i:=i) hj k;by_cases h1:i<=k/\k<j
 ·rw [if_pos h1] at e ⊢;exact qH1 e
 ·rw [if_neg h1] at e ⊢;exact qH1 e
def gLe (ix:Keyed->Int) (xs:Array Keyed) (i j:Nat):Prop:=gK xs i<gK xs j\/gK xs i=gK xs j/\gX ix xs i<=gX ix xs j
theorem gLe.refl {xs:Array Keyed} (i:Nat):gLe ix xs i i:=.inr ⟨rfl,F4 _⟩
theorem gLe.k {xs:Array Keyed} {i j:Nat} (h:gLe ix xs i j):gK xs i<=gK xs j:=by
 rcases h with h | h <;> omega
theorem gLe.trans {xs:Array Keyed} {i j k:Nat} (h:gLe ix xs i j) (h2:gLe ix xs j k):gLe ix xs i k:=by
 unfold gLe at *;omega
theorem gLe.of {xs:Array Keyed} {i j:Nat} (h:gK xs i<=gK xs j) (h2:gX ix xs i<=gX ix xs j):gLe ix xs i j:=by
 unfold gLe;omega
theorem gLe.to {xs ys:Array Keyed} {i j i' j':Nat} (h:gLe ix xs i j) (a:gK ys i'=gK xs i) (b:gX ix ys i'=gX ix xs i) (c:gK ys j'=gK xs j) (d:gX ix ys j'=gX ix xs j):gLe ix ys i' j':=by
 unfold gLe at *;omega
def qFF (ix:Keyed->Int) (xs:Array Keyed) (hi:Nat):Prop:=∀ i j,i<=j->j<hi->gLe ix xs i j
def qV2 (ix:Keyed->Int) (xs:Array Keyed) (hi:Nat):Prop:=∀ i j,i<=j->j<hi->gLe ix xs j i
def gMon (ix:Keyed->Int) (xs:Array Keyed) (n:Nat):Prop:=∀ i j,i<=j->n<=j->j<xs.size->gX ix xs i<=gX ix xs j
theorem gMon.up {xs:Array Keyed} {n m:Nat} (h:gMon ix xs n) (k:n<=m):gMon ix xs m:=fun i j a b c=>h i j a (L6 k b) c
theorem gMon.mirror {xs:Array Keyed} {i j:Nat} (hj:j<=xs.size) (h:gMon ix xs j):gMon ix (mirror xs i j ((j - i) / 2)) j:=by
 intro a b hab hb hs;have hs:b<xs.size:=by rw [(mirror_perm xs i j ((j - i) / 2)).size_eq] at hs;exact hs
 rw [qD4 hj,qD4 hj,if_neg (show ¬ (i<=b/\b<j) by omega)]
 split
 ·exact h _ _ (by omega) hb hs
 ·exact h _ _ hab hb hs
variable {prog:Program} {w:World} {A:Around} {E:Value->Shared->Prop} {s:Shared} {κ0:SortKind} [LtOk prog w A s κ0] {a₀:Array Keyed}
theorem qUU {st:SortSt} {n ok:Nat} {Q:Bool->SortSt->Prop} (h0:qC5 a₀) (g:gSG κ0 a₀ st) (hn:n<=a₀.size) (hok:ok<=n) (u:qFF ix (arrOf st) ok) (mo:gMon ix (arrOf st) ok)
  (h:∀ st2,gSG κ0 a₀ st2->pendingOf st2=pendingOf st->qFF ix (arrOf st2) n->Q true st2):wpS (model prog w) A E s (binarySort' 0 n ok) Q st:=by
 rw [binarySort'_eq];refine wpS_bind (wpS_mono (wpS_forRange (I:=fun k c st2=>c=(none,())/\gSG κ0 a₀ st2/\pendingOf st2=pendingOf st/\qFF ix (arrOf st2) (min k n)/\gMon ix (arrOf st2) k)
  (Q:=fun c st2=>c=(none,())/\gSG κ0 a₀ st2/\pendingOf st2=pendingOf st/\qFF ix (arrOf st2) n) ?step ?fin ?init) ?post)
 case post=>
  rintro c st2 ⟨rfl,g2,pe,u2⟩;exact wpS_pure (h st2 g2 pe u2)
 case init=>
  refine ⟨rfl,g,rfl,fun i j hij hj=>?_,mo.up (by omega)⟩
  by_cases h1:ok=0
  ·rw [show i=j by omega]
   exact .refl _
  ·exact u i j hij (by omega)
 case fin=>
  rintro c st2 ⟨hc,g2,pe,u2,_⟩;rw [show min (max (max ok 1) n) n=n by omega] at u2
  exact ⟨hc,g2,pe,u2⟩
 case step=>
  rintro k c st2 hak hkn ⟨rfl,g2,pe,u2,mo2⟩;rw [show min k n=k by omega] at u2
  have hk:0+k<a₀.size:=by omega
  refine wpS_bind (wpS_mono (wpS_forRange (I:=fun x c st3=>st3=st2/\∃ l r,c=(none,l,r)/\l<=r/\r<=k/\r - l<=k - x/\
    (∀ i,i<l->gK (arrOf st2) i<=gK (arrOf st2) k)/\(∀ i,r<=i->i<k->gK (arrOf st2) k<gK (arrOf st2) i))
   (Q:=fun c st3=>st3=st2/\∃ l r,c=(none,l,r)/\l<=k/\
    (∀ i,i<l->gK (arrOf st2) i<=gK (arrOf st2) k)/\(∀ i,l<=i->i<k->gK (arrOf st2) k<gK (arrOf st2) i)) ?istep ?ifin ?iinit) ?ipost)
  case iinit=>exact ⟨rfl,0,k,rfl,by omega,by omega,by omega,fun i hi=>by omega,fun i h1 h2=>by omega⟩
  case ifin=>
   rintro c st3 ⟨rfl,l,r,rfl,hlr,hrk,hm,ha,hb⟩;have e:l=r:=by omega
   rw [<- e] at hb hrk;exact ⟨rfl,l,r,rfl,hrk,ha,hb⟩
  case istep=>
   rintro x c st3 _ hxk ⟨rfl,l,r,rfl,hlr,hrk,hm,ha,hb⟩;dsimp only;by_cases hge:l >= r
   ·refine gifT hge ?_;have e:l=r:=by omega
    rw [<- e] at hb hrk;exact wpS_pure ⟨rfl,l,r,rfl,hrk,ha,hb⟩
   ·refine gifF hge ?_;refine wpS_bind (qGZ h0 g2 hk (by omega) ?_)
    rw [O6,O6];by_cases less:gK (arrOf st3) k<gK (arrOf st3) ((l+r) / 2)
    ·rw [decide_eq_true less];dsimp only;refine gifT rfl ?_;refine wpS_pure ⟨rfl,l,(l+r) / 2,rfl,by omega,by omega,by omega,ha,fun i h1 h2=>?_⟩
     have:=(u2 ((l+r) / 2) i h1 h2).k;omega
    ·rw [decide_eq_false less];dsimp only;rw [if_neg C5];refine wpS_pure ⟨rfl,(l+r) / 2+1,r,rfl,by omega,by omega,by omega,fun i h1=>?_,hb⟩
     have:=(u2 i ((l+r) / 2) (by omega) (by omega)).k
     omega
  case ipost=>
   rintro c st3 ⟨rfl,l,r,rfl,hlk,ha,hb⟩;have hks:0+k<(arrOf st3).size:=by rw [g2.size];exact hk
   show wpS _ _ _ _ (moveDown' (0+k) (0+l) >>= fun _=>pure (Q0 (none,()))) _ _;rw [moveDown'_eq];have KB:=fun i=>qV1 hks (show 0+k - (0+l)<=0+k by omega) i
   have XB:=fun i=>qUZ (ix:=ix) hks (show 0+k - (0+l)<=0+k by omega) i
   rw [show 0+k - (0+k - (0+l))=l by omega,O6] at KB XB
   refine wpS_bind (wpS_modify (wpS_pure ⟨rfl,g2.lay (bubble_perm _ _ _),pe,?_,?_⟩))
   ·rw [show min (k+1) n=k+1 by omega]
    intro i j hij hj;show gLe ix (bubble (arrOf st3) (0+k) (0+k - (0+l))) i j;rw [O6] at hks ⊢;have Ki:=KB i;have Kj:=KB j;have Xi:=XB i;have Xj:=XB j;by_cases c1:i=j
    ·subst c1;exact .refl _
    by_cases c2:i=l
    ·rw [if_pos c2] at Ki Xi;rw [if_neg (show ¬ j=l by omega),if_pos (show l<j/\j<=k by omega)] at Kj Xj
     have:=hb (j - 1) (by omega) (by omega)
     exact .inl (by omega)
    ·rw [if_neg c2] at Ki Xi;by_cases c3:l<i/\i<=k
     ·rw [if_pos c3] at Ki Xi;rw [if_neg (show ¬ j=l by omega),if_pos (show l<j/\j<=k by omega)] at Kj Xj
      exact (u2 (i - 1) (j - 1) (by omega) (by omega)).to Ki Xi Kj Xj
     ·rw [if_neg c3] at Ki Xi;by_cases c4:j=l
      ·rw [if_pos c4] at Kj Xj;have k1:=ha i (by omega)
       have k2:=mo2 i k (by omega) (B0 _) hks
       exact .of (by omega) (by omega)
      ·rw [if_neg c4] at Kj Xj;by_cases c5:l<j/\j<=k
       ·rw [if_pos c5] at Kj Xj;exact (u2 i (j - 1) (by omega) (by omega)).to Ki Xi Kj Xj
       ·rw [if_neg c5] at Kj Xj;exact (u2 i j (by omega) (by omega)).to Ki Xi Kj Xj
   ·intro i j hij hj hs;have hs:j<(arrOf st3).size:=by have z:=(bubble_perm (arrOf st3) (0+k) (0+k - (0+l))).size_eq;rw [<- z];exact hs
    show gX ix (bubble (arrOf st3) (0+k) (0+k - (0+l))) i<=gX ix (bubble (arrOf st3) (0+k) (0+k - (0+l))) j;rw [O6,XB i,XB j,if_neg (show ¬ j=l by omega),if_neg (show ¬ (l<j/\j<=k) by omega)]
    repeat' split
    ·exact mo2 _ _ (by omega) (by omega) hs
    ·exact mo2 _ _ (by omega) (by omega) hs
    ·exact mo2 _ _ hij (by omega) hs
theorem qR8 {st:SortSt} {a m:Nat} {Q:gCUp->SortSt->Prop} (h0:qC5 a₀) (g:gSG κ0 a₀ st) (hm:m<=a₀.size) (ha:1<=a) (han:a<=m) (u:qFF ix (arrOf st) a) (mo:gMon ix (arrOf st) a)
  (h:∀ n,a<=n->n<=m->qFF ix (arrOf st) n->(n=m\/gK (arrOf st) n<gK (arrOf st) (n - 1))->Q (none,n) st):wpS (model prog w) A E s (gupL 0 a m) Q st:=by
 unfold gupL;refine wpS_forRange (I:=fun x c st2=>st2=st/\c=(none,x)/\qFF ix (arrOf st) x) ?step ?fin ⟨rfl,rfl,u⟩
 case fin=>
  rintro c st2 ⟨rfl,rfl,u2⟩;rw [show max a m=m by omega] at u2 ⊢
  exact h m han (B0 _) u2 (.inl rfl)
 case step=>
  rintro x c st2 hax hxn ⟨rfl,rfl,u2⟩;dsimp only;refine wpS_bind (qGZ h0 g (by omega) (by omega) ?_)
  rw [O6];by_cases less:gK (arrOf st2) x<gK (arrOf st2) (x - 1)
  ·rw [decide_eq_true less];dsimp only;refine gifT rfl ?_;exact wpS_pure (h x hax (by omega) u2 (.inr less))
  ·rw [decide_eq_false less];dsimp only;rw [if_neg C5];refine wpS_pure ⟨rfl,rfl,fun i j hij hj=>?_⟩;by_cases hjx:j<x
   ·exact u2 i j hij hjx
   ·have ej:j=x:=by omega
    rw [ej];by_cases ei:i=x
    ·rw [ei];exact .refl _
    ·have h1:=u2 i (x - 1) (by omega) (by omega)
     have h2:=mo (x - 1) x (by omega) hax (by rw [g.size];omega)
     exact h1.trans (.of (by omega) h2)
theorem qO3 {st:SortSt} {n m:Nat} {Q:Option Nat->SortSt->Prop} (h0:qC5 a₀) (g:gSG κ0 a₀ st) (hm:m<=a₀.size) (h1:1<=n) (hnm:n<=m) (u:qV2 ix (arrOf st) n) (mo:gMon ix (arrOf st) n)
  (h:∀ k st2,gSG κ0 a₀ st2->pendingOf st2=pendingOf st->1<=k->k<=m->qFF ix (arrOf st2) k->gMon ix (arrOf st2) k->Q (some k) st2):wpS (model prog w) A E s (qUW 0 n m) Q st:=by
 unfold qUW;have hsz:0+n<=(arrOf st).size:=by rw [g.size];omega
 rw [reverseSlice'_eq];refine wpS_bind (wpS_modify ?_);have g2:gSG κ0 a₀ (setArr st (mirror (arrOf st) 0 (0+n) ((0+n - 0) / 2))):=g.lay (mirror_perm _ _ _ _);have mo2:gMon ix (mirror (arrOf st) 0 (0+n) ((0+n - 0) / 2)) n:=by
  have:=gMon.mirror (ix:=ix) (i:=0) hsz (by rw [O6];exact mo)
  rw [O6] at this ⊢;exact this
 refine wpS_bind (qR8 h0 g2 hm h1 hnm ?_ mo2 fun k hk1 hk2 uk _=>wpS_pure (h k _ g2 rfl (by omega) hk2 uk (mo2.up hk1)))
 intro i j hij hj;show gLe ix (mirror (arrOf st) 0 (0+n) ((0+n - 0) / 2)) i j;have Ki:=qK1 (i:=0) hsz i;have Kj:=qK1 (i:=0) hsz j;have Xi:=qD4 (ix:=ix) (i:=0) hsz i;have Xj:=qD4 (ix:=ix) (i:=0) hsz j;rw [if_pos (by omega)] at Ki Kj Xi Xj
 exact (u _ _ (show 0+(0+n) - 1 - j<=0+(0+n) - 1 - i by omega) (by omega)).to Ki Xi Kj Xj
structure gDn (ix:Keyed->Int) (xs:Array Keyed) (x e:Nat):Prop where
 le:e+1<=x
 fal:qV2 ix xs (x - (e+1))
 les:∀ i j,i<x - (e+1)->x - (e+1)<=j->j<x->gK xs j<gK xs i
 eq:∀ j,x - (e+1)<=j->j<x->gK xs j=gK xs (x - 1)
 mon:gMon ix xs (x - (e+1))
theorem gDn.turn {xs:Array Keyed} {x e:Nat} (h:gDn ix xs x e) (hx:x<=xs.size):qV2 ix (mirror xs (x - (e+1)) x ((x - (x - (e+1))) / 2)) x/\gMon ix (mirror xs (x - (e+1)) x ((x - (x - (e+1))) / 2)) x/\∀ k,gK (mirror xs (x - (e+1)) x ((x - (x - (e+1))) / 2)) k=gK xs k:=by
 have KE:=qK0 (i:=x - (e+1)) hx h.eq;refine ⟨fun i j hij hj=>?_,gMon.mirror hx (h.mon.up (by omega)),KE⟩
 have Ki:=KE i;have Kj:=KE j;by_cases c:j<x - (e+1)
 ·have Xi:=qD4 (ix:=ix) (i:=x - (e+1)) hx i;have Xj:=qD4 (ix:=ix) (i:=x - (e+1)) hx j;rw [if_neg (by omega)] at Xi Xj
  exact (h.fal i j hij c).to Kj Xj Ki Xi
 ·by_cases c2:i<x - (e+1)
  ·have:=h.les i j c2 (by omega) hj
   exact .inl (by omega)
  ·have Xi:=qD4 (ix:=ix) (i:=x - (e+1)) hx i;have Xj:=qD4 (ix:=ix) (i:=x - (e+1)) hx j;rw [if_pos (by omega)] at Xi Xj
   have k1:=h.eq i (by omega) (by omega)
   have k2:=h.eq j (by omega) hj
   have k3:=h.mon (x - (e+1)+x - 1 - j) (x - (e+1)+x - 1 - i) (by omega) (by omega) (by omega)
   exact .of (by omega) (by omega)
theorem gDn.whole {xs:Array Keyed} {x:Nat} (h:gDn ix xs x 0):qV2 ix xs x/\gMon ix xs x:=by
 have le:=h.le;refine ⟨fun i j hij hj=>?_,h.mon.up (by omega)⟩
 by_cases c:j<x - 1
 ·exact h.fal i j hij c
 ·by_cases c2:i=j
  ·subst c2;exact .refl _
  ·have:=h.les i j (by omega) (by omega) hj
   exact .inl this
theorem gDn.less {xs:Array Keyed} {x:Nat} (h1:1<=x) (f:qV2 ix xs x) (m:gMon ix xs x) (l:gK xs x<gK xs (x - 1)):gDn ix xs (x+1) 0:=by
 refine ⟨by omega,?_,?_,?_,?_⟩
 ·exact f
 ·intro i j hi hj1 hj2;have:=(f i (x - 1) (by omega) (by omega)).k
  rw [show j=x by omega]
  omega
 ·intro j hj1 hj2;congr 1;omega
 ·exact m
theorem qX9 {st:SortSt} {n m:Nat} {Q:gCDn->SortSt->Prop} (h0:qC5 a₀) (g:gSG κ0 a₀ st) (hm:m<=a₀.size) (hnm:n<=m) (u:gDn ix (arrOf st) n 0)
  (h:∀ k e st2,gSG κ0 a₀ st2->pendingOf st2=pendingOf st->n<=k->k<=m->gDn ix (arrOf st2) k e->Q (none,k,e) st2) :
  wpS (model prog w) A E s (gdnL 0 n m) Q st:=by
 unfold gdnL;refine wpS_forRange (I:=fun x c st2=>∃ e,c=(none,x,e)/\gSG κ0 a₀ st2/\pendingOf st2=pendingOf st/\gDn ix (arrOf st2) x e) ?step ?fin ⟨0,rfl,g,rfl,u⟩
 case fin=>
  rintro c st2 ⟨e,rfl,g2,pe,u2⟩;rw [show max n m=m by omega] at u2 ⊢
  exact h m e st2 g2 pe hnm (B0 _) u2
 case step=>
  rintro x c st2 hax hxn ⟨e,rfl,g2,pe,u2⟩;dsimp only;have hle:=u2.le;have hsz:x<=(arrOf st2).size:=by rw [g2.size];omega
  refine wpS_bind (qGZ h0 g2 (by omega) (by omega) ?_)
  rw [O6];by_cases less:gK (arrOf st2) x<gK (arrOf st2) (x - 1)
  ·rw [decide_eq_true less];dsimp only;refine gifT rfl ?_;by_cases hpos:e > 0
   ·rw [if_pos hpos,reverseSlice'_eq];obtain ⟨t1,t2,t3⟩:=u2.turn hsz;refine wpS_bind (wpS_modify (wpS_pure ⟨0,rfl,g2.lay (mirror_perm _ _ _ _),pe,?_⟩));exact gDn.less (by omega) t1 t2 (by show gK (mirror _ _ _ _) x<gK (mirror _ _ _ _) (x - 1);rw [t3,t3];exact less)
   ·refine gifF hpos ?_;have e0:e=0:=by omega
    subst e0;obtain ⟨t1,t2⟩:=u2.whole;exact wpS_pure ⟨0,rfl,g2,pe,gDn.less (by omega) t1 t2 less⟩
  ·rw [decide_eq_false less];dsimp only;rw [if_neg C5];refine wpS_bind (qGZ h0 g2 (by omega) (by omega) ?_)
   by_cases big:gK (arrOf st2) (x - 1)<gK (arrOf st2) x
   ·rw [decide_eq_true big];dsimp only;refine gifT rfl ?_;exact wpS_pure (h x e st2 g2 pe hax (by omega) u2)
   ·rw [decide_eq_false big];dsimp only;rw [if_neg C5];have ex:gK (arrOf st2) x=gK (arrOf st2) (x - 1):=by omega
    have ee:x+1 - (e+1+1)=x - (e+1):=by omega
    refine wpS_pure ⟨e+1,rfl,g2,pe,by omega,by rw [ee];exact u2.fal,fun i j hi hj1 hj2=>?_,fun j hj1 hj2=>?_,by rw [ee];exact u2.mon⟩
    ·rw [ee] at hi hj1;by_cases c:j=x
     ·have:=u2.les i (x - 1) hi (by omega) (by omega)
      rw [c];omega
     ·exact u2.les i j hi hj1 (by omega)
    ·rw [ee] at hj1;rw [show x+1 - 1=x by omega]
     by_cases c:j=x
     ·rw [c]
     ·have:=u2.eq j hj1 (by omega)
      omega
theorem qR9 {st:SortSt} {n m:Nat} {Q:Option Nat->SortSt->Prop} (h0:qC5 a₀) (g:gSG κ0 a₀ st) (hm:m<=a₀.size) (hnm:n+1<=m) (u:gDn ix (arrOf st) (n+1) 0)
  (h:∀ k st2,gSG κ0 a₀ st2->pendingOf st2=pendingOf st->1<=k->k<=m->qFF ix (arrOf st2) k->gMon ix (arrOf st2) k->Q (some k) st2):wpS (model prog w) A E s (gdnP 0 n m) Q st:=by
 unfold gdnP;refine wpS_bind (wpS_lift (wpAny_rule ⟨rfl,?_⟩));refine wpS_bind (qX9 h0 g hm hnm u fun k e st2 g2 pe hk1 hk2 u2=>?_);dsimp only;have hle:=u2.le;have hsz:k<=(arrOf st2).size:=by rw [g2.size];omega
 by_cases hpos:e > 0
 ·rw [if_pos hpos,reverseSlice'_eq];obtain ⟨t1,t2,_⟩:=u2.turn hsz;refine wpS_bind (wpS_modify ?_);rw [O6];exact qO3 h0 (g2.lay (mirror_perm _ _ _ _)) hm (by omega) hk2 t1 t2 fun k2 st3 g3 pe3 a1 a2 u3 m3=>h k2 st3 g3 (pe3.trans pe) a1 a2 u3 m3
 ·refine gifF hpos ?_;have e0:e=0:=by omega
  subst e0;obtain ⟨t1,t2⟩:=u2.whole;exact qO3 h0 g2 hm (by omega) hk2 t1 t2 fun k2 st3 g3 pe3 a1 a2 u3 m3=>h k2 st3 g3 (pe3.trans pe) a1 a2 u3 m3
theorem qUT {st:SortSt} {m:Nat} {Q:Option Nat->SortSt->Prop} (h0:qC5 a₀) (g:gSG κ0 a₀ st) (hm:m<=a₀.size) (h1:1<=m) (mo:gMon ix (arrOf st) 0)
  (h:∀ k st2,gSG κ0 a₀ st2->pendingOf st2=pendingOf st->1<=k->k<=m->qFF ix (arrOf st2) k->gMon ix (arrOf st2) k->Q (some k) st2):wpS (model prog w) A E s (countRun' 0 m) Q st:=by
 rw [qUX];refine wpS_bind (qR8 h0 g hm (B0 1) h1 (fun i j hij hj=>by rw [show i=j by omega];exact .refl _) (mo.up (D7 _)) fun n hn1 hn2 un or=>?_)
 dsimp only;by_cases e:n=m
 ·refine gifT (by simpa using e) ?_
  exact wpS_pure (h n st g rfl hn1 hn2 un (mo.up (D7 _)))
 ·refine gifF (by simpa using e) ?_
  have hlt:gK (arrOf st) n<gK (arrOf st) (n - 1):=or.resolve_left e;by_cases hgt:n > 1
  ·refine gifT hgt ?_;refine wpS_bind (qGZ h0 g (by omega) (by omega) ?_)
   rw [O6];by_cases rose:gK (arrOf st) 0<gK (arrOf st) (n - 1)
   ·rw [decide_eq_true rose];dsimp only;refine gifT rfl ?_;exact wpS_pure (h n st g rfl hn1 hn2 un (mo.up (D7 _)))
   ·rw [decide_eq_false rose];dsimp only;rw [if_neg C5,reverseSlice'_eq];have hsz:n<=(arrOf st).size:=by rw [g.size];omega
    have same:∀ k,0<=k->k<n->gK (arrOf st) k=gK (arrOf st) (n - 1):=by
     intro k _ hk;have a1:=(un 0 k (D7 _) hk).k;have a2:=(un k (n - 1) (by omega) (by omega)).k
     omega
    refine wpS_bind (wpS_modify ?_);have D:gDn ix (arrOf st) n (n - 1):=⟨by omega,fun i j _ hj=>by omega,fun i j hi=>by omega,fun j _ hj=>same j (D7 _) hj,mo.up (D7 _)⟩
    obtain ⟨t1,t2,t3⟩:=D.turn hsz;rw [show n - (n - 1+1)=0 by omega] at t1 t2 t3
    refine qR9 h0 (g.lay (mirror_perm _ _ _ _)) hm (by omega) ?_ fun k st2 g2 pe a1 a2 u2 m2=>h k st2 g2 pe a1 a2 u2 m2
    exact gDn.less (by omega) t1 t2 (by rw [t3,t3];exact hlt)
  ·refine gifF hgt ?_;have e1:n=1:=by omega
   rw [e1] at hlt;rw [e1];refine qR9 h0 g hm (by omega) (gDn.less (B0 1) (fun i j hij hj=>by rw [show i=j by omega];exact .refl _) (mo.up (D7 _)) hlt) h
theorem qXA:∀ n:Nat,n<64->minRun' n n 0=n
 | 0,_=>rfl
 | n+1,h=>if_pos h
theorem qL8 (hs:a₀.size<64) {st:SortSt} {Q:Unit->SortSt->Prop} (h0:qC5 a₀) (g:gSG κ0 a₀ st) (mo:gMon ix (arrOf st) 0) (hp:pendingOf st=#[]) (h:∀ st2,gSG κ0 a₀ st2->qFF ix (arrOf st2) a₀.size->Q () st2):wpS (model prog w) A E s sortRuns' Q st:=by
 rw [sortRuns'_eq];refine wpS_bind (wpS_get ?_);dsimp only;rw [g.size,qXA _ hs];refine wpS_bind (wpS_mono (wpS_forRange
  (I:=fun x c st2=>gSG κ0 a₀ st2/\(c=(none,0)/\x=0/\gMon ix (arrOf st2) 0/\pendingOf st2=#[]\/c=(none,a₀.size)/\qFF ix (arrOf st2) a₀.size/\(pendingOf st2).size<=1))
  (Q:=fun c st2=>c.1=none/\gSG κ0 a₀ st2/\qFF ix (arrOf st2) a₀.size/\(pendingOf st2).size<=1) ?step ?fin ⟨g,.inl ⟨rfl,rfl,mo,hp⟩⟩) ?post)
 case fin=>
  rintro c st2 ⟨g2,⟨rfl,h1,_,pe⟩ | ⟨rfl,u,pe⟩⟩
  ·exact ⟨rfl,g2,fun i j _ hj=>by omega,by rw [pe];exact D7 _⟩
  ·exact ⟨rfl,g2,u,pe⟩
 case post=>
  rintro ⟨c,lo⟩ st2 ⟨e,g2,r2,le2⟩;cases (show c=none from e);dsimp only;refine wpS_bind (wpS_mono (wpS_forRange (I:=fun x c st3=>c=(none,())/\st3=st2)
   (Q:=fun c st3=>c=(none,())/\st3=st2) ?_ ?_ ⟨rfl,rfl⟩) ?_)
  ·rintro x c st3 _ _ ⟨rfl,rfl⟩;refine wpS_bind (wpS_get ?_);rw [if_pos le2];exact wpS_pure ⟨rfl,rfl⟩
  ·rintro c st3 ⟨e,g3⟩;exact ⟨e,g3⟩
  ·rintro c st3 ⟨rfl,rfl⟩;exact wpS_pure (h st3 g2 r2)
 case step=>
  rintro x c st2 _ hx ⟨g2,⟨rfl,h1,mo2,pe2⟩ | ⟨rfl,u,pe⟩⟩
  ·dsimp only;rw [if_neg (by omega)]
   refine wpS_bind (qUT h0 g2 (B0 _) (by omega) mo2 fun k st3 g3 pe3 k1 k2 u3 m3=>?_)
   rw [pe2] at pe3;dsimp only;have tail:∀ (st5:SortSt) (n:Nat),gSG κ0 a₀ st5->n=a₀.size->qFF ix (arrOf st5) n->pendingOf st5=#[]->
     gSG κ0 a₀ (setPending st5 ((pendingOf st5).push (0,n,0)))/\(((none,0+n):Option Unit × Nat)=(none,0)/\x+1=0/\gMon ix (arrOf st5) 0/\(pendingOf st5).push (0,n,0)=#[]\/((none,0+n):Option Unit × Nat)=(none,a₀.size)/\qFF ix (arrOf st5) a₀.size/\((pendingOf st5).push (0,n,0)).size<=1):=by
    intro st5 n g5 en u5 pe5;subst en;refine ⟨⟨g5.perm,g5.kind,g5.failed⟩,.inr ⟨by rw [O6],u5,?_⟩⟩
    rw [pe5];exact B0 _
   by_cases c2:k<a₀.size
   ·rw [if_pos c2];refine wpS_bind (wpS_lift (wpAny_rule ⟨rfl,?_⟩));refine wpS_bind (qUU h0 g3 (by omega) (by omega) u3 m3 fun st4 g4 pe4 u4=>?_)
    rw [pe3] at pe4;rw [if_neg (by simp)]
    refine wpS_bind (wpS_get ?_);rw [show (pendingOf st4).back?=none by rw [pe4];rfl]
    dsimp only;refine wpS_bind (wpS_modify (wpS_pure ?_));exact tail st4 _ g4 (by omega) u4 pe4
   ·rw [if_neg c2];refine wpS_bind (wpS_get ?_);rw [show (pendingOf st3).back?=none by rw [pe3];rfl]
    dsimp only;refine wpS_bind (wpS_modify (wpS_pure ?_));exact tail st3 _ g3 (by omega) u3 pe3
  ·dsimp only;rw [if_pos (B0 _)];exact wpS_pure ⟨rfl,g2,u,pe⟩
theorem gwpS_runs (hs:a₀.size<64) {st:SortSt} {Q:Unit->SortSt->Prop} (h0:qC5 a₀) (g:gSG κ0 a₀ st) (hp:pendingOf st=#[]) (h:∀ st2,gSG κ0 a₀ st2->gSortedTo (arrOf st2) a₀.size->Q () st2):wpS (model prog w) A E s sortRuns' Q st:=
 qL8 (ix:=fun _=>0) hs h0 g (fun i j _ _ _=>by
  have e:∀ k,gX (fun _=>0) (arrOf st) k=0:=fun k=>by unfold gX;split <;> rfl
  rw [e,e];exact F4 _) hp fun st2 g2 u=>h st2 g2 fun i j hij hj=>(u i j hij hj).k
end
end L2.G
namespace L2
open PySem PySem.Spec PyProof.Rows
section
variable {prog:Program} {w:World} {A:Around} {E:Value->Shared->Prop} {s:Shared}
theorem qT5 {a:Addr} {vs:List Value} {ns:List Int} {n:Nat} {P:Fin->Shared->Prop} (e0:s.heap.get? a=some (seqObj "list" vs.toArray n)) (ia:IntsAre vs ns) (hs:vs.length<64) (hz:vs.length<=sizeLine)
  (h:∀ (out:Array Value) (zs:List Int),IntsAre out.toList zs->zs.Perm ns->zs.Pairwise (·<=·)->P (.done (.ret .none)) { s with heap:=sortedHeap s.heap a vs out }):wpAny (model prog w) A (Builtin.«list.sort» ⟨[.ref a],[]⟩) P E s:=by
 have la:=B1 e0;have z0:vs.toArray.size<=sizeLine:=by simpa using hz
 rw [list_sort_plain];refine wpAny_bind (listItems_at e0 rfl (wpAny_bind (listUpdate_at e0 rfl ?_ z0 (D7 _))));have e1:∃ k,(s.heap.update a (F2 fun _=>#[])).get? a=some (seqObj "list" #[] k):=⟨_,get?_update_seq e0 fun _=>#[]⟩;obtain ⟨k,e1⟩:=e1;refine wpAny_bind (seqEpoch_at e1 rfl (wpAny_bind (wpAny_newTuple ?_ (by simpa using hz))))
 refine wpAny_bind (wpAny_newList (wpAny_holding ?_));have e2:(((s.heap.update a (F2 fun _=>#[])).push (seqObj "tuple" vs.toArray 0)).push (seqObj "list" #[] 0)).get? a=some (seqObj "list" #[] k):=by
  rw [e7,e7]
  ·exact e1
  ·rw [i9];exact C7 la
  ·rw [size_push',i9];exact C7 (L0 la)
 have last:∀ xs:Array Keyed,xs.Perm (pairsOf vs)->SortedTo xs (pairsOf vs).size->P (.done (.ret .none)) { s with heap:=sortedHeap s.heap a vs (xs.map (·.2)) }:=by
  intro xs px sx;obtain ⟨zs,q1,q2,q3⟩:=sorted_out ia px sx;exact h _ zs q1 q2 q3
 have sz:∀ xs:Array Keyed,xs.Perm (pairsOf vs)->(xs.map (·.2)).size<=sizeLine+1:=by
  intro xs px;rw [o3,px.size_eq,pairsOf_size];omega
 show wpAny _ A _ P E { s with heap:=((s.heap.update a (F2 fun _=>#[])).push (seqObj "tuple" vs.toArray 0)).push (seqObj "list" #[] 0) };dsimp only;by_cases few:vs.toArray.size<2
 ·simp only [if_pos few];refine wpAny_bind (wpAny_pure ?_);rw [l8];refine wpAny_bind (wpAny_pure (wpAny_bind (seqEpoch_at e2 rfl (wpAny_bind (listUpdate_at e2 rfl ?_ (D7 _) (sz (pairsOf vs) (.refl _)))))));simp only [bne_self_eq_false,E2,if_false];refine wpAny_pure (last (pairsOf vs) (.refl _) fun i j hij hj=>?_);rw [pairsOf_size] at hj;rw [A7] at few;rw [show i=j by omega]
  exact F4 _
 ·simp only [if_neg few];have kk:keyKind' vs.toArray=pure oneType':=by
   match vs,few,ia with
   | [],few,_=>exact absurd (by simp) few
   | [_],few,_=>exact absurd (by simp) few
   | _::_::_,_,ia=>exact keyKind_ints ia
  rw [kk]
  letI:G.NM:=⟨numOf,fun v=>∃ n t,v=.int n t⟩
  haveI:G.LtOk prog w A { s with heap:=((s.heap.update a (F2 fun _=>#[])).push (seqObj "tuple" vs.toArray 0)).push (seqObj "list" #[] 0) } oneType':=⟨fun {x y Q E} hx hy h=>by
   obtain ⟨n,t,rfl⟩:=hx;obtain ⟨m,u,rfl⟩:=hy;rw [keyLt'_oneType];exact oneLt_int h⟩
  refine wpAny_bind (wpAny_pure (wpAny_bind (wpAny_mono (G.gwpS_runs (κ0:=oneType') (a₀:=pairsOf vs) (Q:=fun _ st2=>G.gSG oneType' (pairsOf vs) st2/\G.gSortedTo (arrOf st2) (pairsOf vs).size) (by simpa [pairsOf] using hs) ia.intKeys ⟨.refl _,rfl,rfl⟩ rfl fun st2 g u=>⟨g,u⟩) ?_ fun _ _ x=>x)))
  rintro ⟨_,st2⟩ s2 ⟨es,g,u⟩;cases (show s2=_ from es);refine wpAny_bind (seqEpoch_at e2 rfl (wpAny_bind (listUpdate_at e2 rfl ?_ (D7 _) (sz _ g.perm))));dsimp only;rw [g.failed];simp only [bne_self_eq_false,E2,if_false];exact wpAny_pure (last _ g.perm u)
end
section
variable {X:Cx}
theorem qT4 {Ab:List (Addr × Obj)} {s:Shared} {σ:St} {H:Hp} {Q:VK} {A:Around} {E:Value->Shared->Prop} {ns:List Int} {D:Addr} (I:Inv X Ab σ (upd H D (.lst (ns.map V.int))) s) (hs:ns.length<64)
  (q:∀ zs:List Int,zs.Perm ns->zs.Pairwise (·<=·)->Q (.ref D) (upd H D (.lst (zs.map V.int)))) :
  wpAny (model X.prog X.w) A (call (.builtin "list.sort") [.ref D]) (fun _ s'=>EP X Ab σ Q (.ref D) s') E s:=by
 obtain ⟨z,its,n,rv,hl,e⟩:=I.lstM qA1;have ia:=qBN rv;have hlen:=rv.length;refine wpAny_call_entry slot_list_sort ⟨_,e,rfl⟩ entry_list_sort (qT5 (ns:=ns) (n:=n) e ia (by rw [<- hlen,A0];exact hs) (by rw [<- hlen];exact z) fun out zs a1 a2 a3=>⟨_,rfl,?_⟩) (args_list_sort _)
 obtain ⟨e2,hat⟩:=sortedHeap_at (vs:=its) (out:=out) e;refine ⟨.ref D,upd H D (.lst (zs.map V.int)),?_,rfl,q zs a2 a3⟩;have hu:upd (upd H D (.lst (ns.map V.int))) D (.lst (zs.map V.int))=upd H D (.lst (zs.map V.int)):=qJ9;rw [<- hu];refine I.write (x:=D) (e:=D) (t':=s.toks) (by rw [qA1];exact trivial) (.inl rfl) (fun b u hb hbu=>?_) ⟨_,hat⟩ ?_
 ·rw [sortedHeap_old hb (B1 hbu)];exact hbu
 ·refine ⟨?_,out.toList,e2,qF8 a1,by simpa using hat⟩
  rw [A0,a2.length_eq,<- A0 (f:=V.int)];exact z
theorem qUO:∀ {vs:List Value} {ns:List Int},vs.length=ns.length->(∀ (i:Nat) (v:Value),vs[i]?=some v->∃ n t,ns[i]?=some n/\v=.int n t)->IntsAre vs ns
 | [],[],_,_=>.nil
 | [],_::_,h,_=>by simp at h
 | _::_,[],h,_=>by simp at h
 | v::vs,n::ns,h,f=>by
  obtain ⟨m,t,e1,e2⟩:=f 0 v rfl;cases (show n=m from D5 e1);rw [e2];exact .cons _ _ (qUO (by simpa using h) fun i u hu=>by simpa using f (i+1) u (by simpa using hu))
theorem qZJ {κ:Type}:∀ {Af:List (κ × V)} {vs:List (κ × Value)},KV Af vs->Af.map (·.1)=vs.map (·.1):=by
 intro Af vs r;unfold KV at r
 induction r with
 | nil=>rfl
 | cons h t ih=>rw [C1,C1,ih,h.1]
theorem qI4 (hc:X.calm=true):qCW X (.builtin "sorted") (fun xs H Q=>∃ p ns,xs=[.ref p]/\(SqL X.K H p (ns.map V.int)\/SqT X.K H p (ns.map V.int)\/∃ Af,H p=some (.dK Af)/\Af.map (·.1)=ns.map E9)/\ns.length<64/\
  ∀ (a:Addr) (zs:List Int),H a=none->zs.Perm ns->zs.Pairwise (·<=·)->Q (.ref a) (upd H a (.lst (zs.map V.int)))):=by
 intro Ab s σ H xs us Q I r h;obtain ⟨p,ns,rfl,hq,hs64,q⟩:=h;obtain ⟨u,rfl,rx⟩:=qDK r;cases rx;refine o1 kind_sorted plain_sorted entry_sorted (args_sorted1 _) ?_;unfold Builtin.«sorted»;refine wpAny_bind (m:=checkCount "sorted" 1 1 _) (wpAny_pure ?_);have fin:∀ (s1:Shared) (vs:List Value) (zs:List Int),Inv X Ab σ H s1->IntsAre vs zs->zs.length<=sizeLine->zs.Perm ns->wpAny (model X.prog X.w) X.A.in1 (do
   let l <- newList vs
   let _ <- holding [l] (call (.builtin "list.sort") [l] [])
   ret l) (fun fin s'=>∃ r,fin=.done (.ret r)/\EP X Ab σ Q r s') X.xe s1:=by
  intro s1 vs zs I1 hv hz hp;have hlen:=IntsAre.length hv;refine wpAny_bind (wpAny_newList ?_ (by rw [hlen];exact hz))
  have hf:=I1.hok.fresh (B0 s1.heap.objs.size);refine wpAny_bind (wpAny_holding (wpAny_mono (qT4 (E:=X.xe) (qL0 I1 hv hz) (by rw [hp.length_eq];exact hs64) fun zs a b=>q _ zs hf (a.trans hp) b) (fun _ s' x=>?_) fun _ _ e=>e))
  exact wpAny_pure ⟨_,rfl,x⟩
 rcases hq with hq | hq | ⟨Af,hq,hk⟩
 ·obtain ⟨its,rv,pl,hz⟩:=I.list hq;obtain ⟨o,ho,hc',n,hd⟩:=pl.isList;have hlen:=rv.length;refine wpAny_bind (wpAny_collect_seq p (.inl rfl) ho hc' hd (fun h' hk=>?_) (by rw [A7,<- hlen];exact hz))
  exact fin _ _ ns (I.kept (t':=s.toks) hk) (by simpa using qBN rv) (by rw [A0] at hz;exact hz) (.refl _)
 ·obtain ⟨its,rv,pl,hz⟩:=I.tuple hq;obtain ⟨o,ho,hc',n,hd⟩:=pl;have hlen:=rv.length;refine wpAny_bind (wpAny_collect_seq p (.inr rfl) ho hc' hd (fun h' hk=>?_) (by rw [A7,<- hlen];exact hz))
  exact fin _ _ ns (I.kept (t':=s.toks) hk) (by simpa using qBN rv) (by rw [A0] at hz;exact hz) (.refl _)
 ·obtain ⟨hz,hd,vs,rel,dd⟩:=qVA I.hok hq;obtain ⟨ep,da⟩:=dd.dictAt;have lv:vs.length=Af.length:=rel.length.symm;have ln:ns.length=Af.length:=by
   have:=congrArg u9 hk;simpa using this.symm
  refine wpAny_bind (A27 (A:=X.A.in1) (PySem.W.kdl_dict (ep:=ep) hd) (I.ok.hd hc) da (by rw [lv];exact hz) fun h' tk acc kept items=>?_)
  refine fin _ _ ns (I.kept (t':=tk) kept) ?_ (by rw [ln];exact hz) (.refl _)
  obtain ⟨l1,l2⟩:=items;refine qUO (by rw [E8,l1,lv,ln]) fun i v hv=>?_
  obtain ⟨k,x,e1,e2⟩:=l2 i v (by rw [<- O9];exact hv)
  have ek:(Af.map (·.1))[i]?=some k:=by rw [qZJ rel,B7,e1];rfl
  rw [hk,B7] at ek;cases en:ns[i]? with
  | none=>rw [en] at ek;cases ek
  | some n=>
   rw [en] at ek;cases ek;obtain ⟨t,e3⟩:=A46 (k:=n) (v:=v) e2;exact ⟨n,t,rfl,e3⟩
def Itd (lo:Int) (n:Nat):It:=⟨fun i _=>i<n,fun i H x H'=>H'=H/\x=.int (lo - i),fun i _=>n<=i⟩
theorem qSV {P:Program} {w:World} {K:PySem.W.Frag} {tg:Expr} (it:Addr) (lo:Int) (n:Nat):Turn P w K tg (Itd lo n) [it] it (fun i h=>IsRangeIter h it (lo+(i:Nat) * (-1)) ((n:Int) - (i:Nat)) (-1)) where
 mem:=A4.mpr rfl
 obj:=fun i h st b hb=>by
  cases A4.mp hb;exact ⟨_,st,fun v z=>nomatch (show A26 _=A07 v from z)⟩
 keep:=fun i h h' st k=>k it (A4.mpr rfl) _ st
 item:=by
  intro X hP hw hK hc i Ab s σ H E I hf st hg;subst hP hw hK;obtain ⟨f0,f1,f2,f3,f4,f5⟩:=hf it (A4.mpr rfl);refine (Walks.range (prog:=X.prog) (w:=X.w) (I.ok.hd hc) it lo (-1) n).item i s _ _ hg st fun v h' tk hv st' kk=>?_;obtain ⟨t,rfl⟩:=hv;have I1:Inv X Ab σ H { s with heap:=h',toks:=tk }:=I.turned (fun b o hb e=>kk b o (by simpa using hb) e) f0 f1 f3 f4 f5
  refine ⟨_,rfl,qUV (s:={ s with heap:=h',toks:=tk }) (n:="range_iterator") st' rfl rfl (by decide) ⟨.int (lo - i),H,I1,⟨t,?_⟩,⟨rfl,rfl⟩,st',fun b hb=>(hf b hb).1⟩⟩
  rw [show lo+(i:Int) * (-1)=lo - i by omega]
 done:=by
  intro X hP hw hK hc i Ab s σ H E I hf st hg;subst hP hw hK;obtain ⟨f0,f1,f2,f3,f4,f5⟩:=hf it (A4.mpr rfl);have hle:n<=i:=hg;exact wpAny_pyNext_range_end (I.ok.hd hc) st (by omega) fun h' eb=>⟨rfl,I.turned (t':=s.toks) (fun b o hb e=>eb b o hb e) f0 f1 f3 f4 f5⟩
 self:=fun _ _ _ _ _ st h=>wpAny_pyIter_rangeiter st h
def qcN (ta:TA):TI:=fun σ H R=>ta σ H fun vs H1=>∃ i j:Int,vs=[.int i,.int j,.int (-1)]/\(-(2 ^ 62)<=i/\i<2 ^ 62/\-(2 ^ 62)<=j/\j<2 ^ 62)/\R (Itd i (i - j).toNat) H1
theorem qTL {tg a b c:Expr} {ta:TA} {p pos:Pos} (hg:Gl X "range") (hm:X.mg "range" = none) (ha:PA X [a,b,c] ta) (hs:starEach [a,b,c] X.env=[(false,eval a X.env),(false,eval b X.env),(false,eval c X.env)]:=by rfl)
  (hs2:starEach [b,c] X.env=[(false,eval b X.env),(false,eval c X.env)]:=by rfl):PI X tg (.Call (.Name "range" p) [a,b,c] [] pos) (qcN ta):=by
 intro Ab s σ H R I h;refine Call_ (qFB I hg hm boot_range (O7 (thn (ha pos Ab s σ H _ I h) fun us s1 ⟨vs,H1,I1,r1,q1⟩=>?_) (by rw [hs,hs2]) (by rw [hs2];rfl)))
 obtain ⟨i,j,e,⟨q1,q2,q3,q4⟩,q⟩:=q1;subst e;obtain ⟨u1,rr,rfl,⟨t1,rfl⟩,r2⟩:∃ u rr,us=u::rr/\RelV (.int i) u/\Vals [.int j,.int (-1)] rr:=by cases r1 with | cons r rr=>exact ⟨_,_,rfl,r,rr⟩
 obtain ⟨u2,u3,rfl,⟨t2,rfl⟩,⟨t3,rfl⟩⟩:=qMX r2;refine call_range_3 (by decide) ?_ (D2 (d7 (by omega)))
 refine wpAny_pyIter_range (B00 ..) (PySem.W.small_down q1 q2 q3 q4) ?_;have I2:Inv X Ab σ H1 { s1 with heap:=s1.heap.push { cls:=.type "range",data:=.fields #[.int i t1,.int j t2,.int (-1) t3] },toks:=s1.toks }:=I1.kept fun b o e=>A2 _ e;refine ⟨(s1.heap.push { cls:=.type "range",data:=.fields #[.int i t1,.int j t2,.int (-1) t3] }).objs.size,[(s1.heap.push { cls:=.type "range",data:=.fields #[.int i t1,.int j t2,.int (-1) t3] }).objs.size],_,_,H1,rfl,
  I2.kept (t':=s1.toks) fun b o e=>A2 _ e,qSV _ i (i - j).toNat,?_,fun b hb=>?_,q⟩
 ·have e1:i+((0:Nat):Int) * (-1)=i:=by simp
  have e2:(((i - j).toNat:Nat):Int) - ((0:Nat):Int)=T6 i j (-1):=by rw [PySem.W.rangeSize_downNat];simp
  show IsRangeIter _ _ (i+((0:Nat):Int) * (-1)) ((((i - j).toNat:Nat):Int) - ((0:Nat):Int)) (-1);rw [e1,e2];exact B6 _ rfl
 ·cases A4.mp hb;exact I2.fpOk (B0 _) (I2.hok.fresh (B0 _))
theorem qRE {lo:Int} {n:Nat} {g:TG} {tb:TS} {D:Ends} {σ:St} {H:Hp} (Pv:Nat->St->Hp->Prop) (h0:Pv 0 σ H)
  (hs:∀ i σ H,i<n->Pv i σ H->g (.int (lo - i)) σ H fun σ2 H2=>tb { D with nx:=Pv (i+1),ct:=Pv (i+1),bk:=D.nx } σ2 H2) (hd:∀ σ H,Pv n σ H->D.nx σ H) :
  ∃ W:Nat->Nat->St->Hp->Prop,(∃ m,W 0 m σ H)/\∀ i m σ H,W i m σ H->
   ((Itd lo n).stop i H/\D.nx σ H)\/((Itd lo n).go i H/\∃ N:St->Hp->Prop,(∀ σ' H',N σ' H'->∃ m',m'<m/\W (i+1) m' σ' H')/\∀ x H',(Itd lo n).yld i H x H'->g x σ H' fun σ2 H2=>tb { D with nx:=N,ct:=N,bk:=D.nx } σ2 H2):=by
 refine ⟨fun i m σ H=>m=n - i/\i<=n/\Pv i σ H,⟨n,by simp,D7 _,h0⟩,fun i m σ H ⟨e,hi,p⟩=>?_⟩
 rcases Nat.lt_or_ge i n with hlt | hge
 ·refine .inr ⟨hlt,Pv (i+1),fun σ' H' p'=>⟨n - (i+1),by omega,rfl,hlt,p'⟩,fun x H' y=>?_⟩
  rw [y.1,y.2];exact hs i σ H hlt p
 ·have e2:i=n:=by omega
  rw [e2] at p;exact .inl ⟨hge,hd σ H p⟩
theorem qTV (hu:X.A.units<cLine):OpR X (compareOp .NotEq) (fun x y H Q=>∃ p l xs,x=.ref p/\y=.ref l/\SqL X.K H p xs/\SqL X.K H l []/\Q (.bl (!xs.isEmpty)) H):=by
 intro Ab s σ H x y v u Q I rx ry h;obtain ⟨p,l,xs,rfl,rfl,h1,h2,q⟩:=h;cases rx;cases ry;obtain ⟨its,r1,p1,z1⟩:=I.list h1;obtain ⟨its2,r2,p2,z2⟩:=I.list h2;cases r2;cases r1 with
 | nil=>exact Z9 (e:=fun _=>true) p1.isList p2.isList rfl hu (fun j h _=>absurd h (by simp)) _ _ _ _ ⟨.bl false,H,I,rfl,q⟩
 | cons a r=>exact d6 p1.isList p2.isList (by simp) hu _ _ _ _ ⟨.bl true,H,I,rfl,q⟩
end
open PySem.AutoSeq1 in
section
variable {X:Cx}
end
def topI (b:Int) (l:List Int):Int:=l.foldl (fun b x=>if x > b then x else b) b
theorem qP8:∀ (l:List Int) (b:Int),b<=topI b l/\(∀ x ∈ l,x<=topI b l)/\(topI b l=b\/topI b l ∈ l)
 | [],b=>⟨F4 _,(fun _ z=>nomatch z),.inl rfl⟩
 | y::l,b=>by
  obtain ⟨h1,h2,h3⟩:=qP8 l (if y > b then y else b)
  have e:topI b (y::l)=topI (if y > b then y else b) l:=rfl
  rw [e];have hb:b<=(if y > b then y else b)/\y<=(if y > b then y else b):=by split <;> omega
  refine ⟨by omega,fun x hx=>?_,?_⟩
  ·rcases B5.mp hx with hx | hx
   ·omega
   ·exact h2 x hx
  ·rcases h3 with h3 | h3
   ·split at h3
    ·rw [if_pos (by assumption)]
     exact .inr (by rw [h3];exact A8)
    ·rw [if_neg (by assumption)]
     exact .inl h3
   ·exact .inr (A5 _ h3)
section
variable {prog:Program} {w:World} {A:Around} {R:Result->Shared->Prop} {I:Addr} {fp wr:List Addr} {n:Nat} {P:Nat->Value->Prop} {St:Nat->Heap->Prop}
theorem qZ9 (W:Walks prog w A.in1 I fp wr n P St) (kw:List (Str × Value)) (ns:List Int) (hn:ns.length=n) (hval:∀ i v,P i v->∃ t,v=.int (ns.getD i 0) t) (S:Addr) (hSf:S ∉ fp) :
  ∀ (k j:Nat) (s:Shared) (b:Int) (t:Tok) (c:Nat),n - j=k->j<=n->St j s.heap->s.heap.get? S=some { cls:=.type "list",dict:=none,data:=.seq #[.int b t,.int b t] c,slots:=#[] }->
  (∀ t' h' tk,(∀ x o,x ∉ wr->x ≠ S->s.heap.get? x=some o->h'.get? x=some o)->R (.ok (.ret (.int (topI b (ns.drop j)) t'))) { s with heap:=h',toks:=tk })->
  codeAny (model prog w) A (.builtin "max.loop" ⟨[.ref I,.none,.ref S],kw⟩) R s:=by
 have hSw:S ∉ wr:=fun h=>hSf (W.sub _ h);have hname:(toString "max" ++ toString ".loop" : String) = "max.loop":=by decide
 intro k
 induction k with
 | zero=>
  intro j s b t c hk hj st hS hR;have e:j=n:=by omega
  refine codeAny_builtin z9 ?_;rw [F6 V0 _];show wpAny _ A.in1 (seqItems? (.ref S) >>= _) _ _ s;refine wpAny_bind (wpAny_seqItems hS rfl ?_);show wpAny _ A.in1 (tryCatch (pyNext (.ref I)) _ >>= _) _ _ s;refine wpAny_bind (wpAny_tryCatch (W.done s _ _ (e ▸ st) fun h' tk hk'=>?_));show wpAny _ A.in1 (updateSeq S (fun _=>#[]) >>= _) _ _ _;refine wpAny_bind (wpAny_updateSeq (hk' S _ hSw hS) rfl (wpAny_bind (wpAny_letGo (wpAny_pure ?_))));rw [X5 (by omega)] at hR
  exact hR t _ tk fun x o hx hxS ex=>(C0 _ _ (G6 hxS)).trans (hk' x o hx ex)
 | succ k ih=>
  intro j s b t c hk hj st hS hR;have hlt:j<n:=by omega
  refine codeAny_builtin z9 ?_;rw [F6 V0 _];show wpAny _ A.in1 (seqItems? (.ref S) >>= _) _ _ s;refine wpAny_bind (wpAny_seqItems hS rfl ?_);show wpAny _ A.in1 (tryCatch (pyNext (.ref I)) _ >>= _) _ _ s;refine wpAny_bind (wpAny_tryCatch (W.item j s _ _ hlt st fun v h' tk hP st' hk'=>?_));have hS':=hk' S _ hSw hS;obtain ⟨u,rfl⟩:=hval j v hP;have ed:ns.drop j=ns.getD j 0::ns.drop (j+1):=by
   have hj':j<ns.length:=by omega
   rw [O5 hj',P6,A1 hj']
   rfl
  rw [ed] at hR;generalize ns.getD j 0=y at hR hP ⊢;show wpAny _ A.in1 (tryCatch (holding [G8 y u,G8 y u] (richCompare .Gt (.int y u) (.int b t) >>= _)) _ >>= _) _ _ _;refine wpAny_bind (wpAny_tryCatch (wpAny_holding (wpAny_bind (richCompare_gives (op:=.Gt) (typeIs_int _ _ u) (typeIs_int _ _ t) F.slot_int_gt F.entry_int_gt (F.args_int_gt_2 _ _) (gives_int_gt _ _ u t) (fun x=>nomatch x) ?_))));refine wpAny_bind (wpAny_holding (wpAny_truthy_bool (wpAny_bind (wpAny_letGo (wpAny_pure ?_)))));by_cases hb:y > b
  ·rw [decide_eq_true hb,if_pos rfl];have et:topI b (y::ns.drop (j+1))=topI y (ns.drop (j+1)):=by show topI (if y > b then y else b) _=_;rw [if_pos hb]
   rw [et] at hR;refine wpAny_bind (wpAny_updateSeq hS' rfl (wpAny_bind (wpAny_letGo ?_)));rw [hname];refine wpAny_pure ⟨plainId_quiet V0 _,ih (j+1) _ y u _ (by omega) hlt (W.frame _ _ _ st' fun x hx o ex=>?_) (M7 _ hS' rfl) fun t' h2 tk2 hk2=>?_⟩
   ·exact (C0 _ _ (fun z:S=x=>hSf (by rw [z];exact hx))).trans ex
   ·exact hR t' h2 tk2 fun x o hx hxS ex=>hk2 x o hx hxS ((C0 _ _ (G6 hxS)).trans (hk' x o hx ex))
  ·rw [decide_eq_false hb,if_neg C5];have et:topI b (y::ns.drop (j+1))=topI b (ns.drop (j+1)):=by show topI (if y > b then y else b) _=_;rw [if_neg hb]
   rw [et] at hR;refine wpAny_bind (wpAny_letGo ?_);rw [hname];exact wpAny_pure ⟨plainId_quiet V0 _,ih (j+1) _ b t c (by omega) hlt st' hS' fun t' h2 tk2 hk2=>hR t' h2 tk2 fun x o hx hxS ex=>hk2 x o hx hxS (hk' x o hx ex)⟩
theorem qU8 (W:Walks prog w A.in1 I fp wr n P St) (kw:List (Str × Value)) (ns:List Int) (hn:ns.length=n) (hval:∀ i v,P i v->∃ t,v=.int (ns.getD i 0) t) (S:Addr) (hSf:S ∉ fp) {s:Shared} {c:Nat} (st:St 0 s.heap)
  (hS:s.heap.get? S=some { cls:=.type "list",dict:=none,data:=.seq #[] c,slots:=#[] })
  (h1:∀ y r,ns=y::r->∀ t' h' tk,(∀ x o,x ∉ wr->x ≠ S->s.heap.get? x=some o->h'.get? x=some o)->R (.ok (.ret (.int (topI y r) t'))) { s with heap:=h',toks:=tk })
  (h2:ns=[]->∃ nm dv,kw=[(nm,dv)]/\∀ h' tk,(∀ x o,x ∉ wr->x ≠ S->s.heap.get? x=some o->h'.get? x=some o)->R (.ok (.ret dv)) { s with heap:=h',toks:=tk }) :
  codeAny (model prog w) A (.builtin "max.loop" ⟨[.ref I,.none,.ref S],kw⟩) R s:=by
 have hSw:S ∉ wr:=fun h=>hSf (W.sub _ h);have hname:(toString "max" ++ toString ".loop" : String) = "max.loop":=by decide
 refine codeAny_builtin z9 ?_;rw [F6 V0 _];show wpAny _ A.in1 (seqItems? (.ref S) >>= _) _ _ s;refine wpAny_bind (wpAny_seqItems hS rfl ?_);show wpAny _ A.in1 (tryCatch (pyNext (.ref I)) _ >>= _) _ _ s;cases ns with
 | nil=>
  obtain ⟨nm,dv,rfl,h3⟩:=h2 rfl;refine wpAny_bind (wpAny_tryCatch (W.done s _ _ (hn ▸ st) fun h' tk hk'=>?_));show wpAny _ A.in1 (rule _ >>= fun _=>ret dv) _ _ _;exact wpAny_bind (wpAny_rule (wpAny_pure (h3 _ tk fun x o hx _ ex=>hk' x o hx ex)))
 | cons y r=>
  refine wpAny_bind (wpAny_tryCatch (W.item 0 s _ _ (by rw [<- hn];simp) st fun v h' tk hP st' hk'=>?_))
  have hS':=hk' S _ hSw hS;obtain ⟨u,rfl⟩:=hval 0 v hP;show wpAny _ A.in1 (updateSeq S (fun _=>#[G8 y u,G8 y u]) >>= _) _ _ _;refine wpAny_bind (wpAny_updateSeq hS' rfl ?_);rw [hname];refine wpAny_pure ⟨plainId_quiet V0 _,qZ9 W kw (y::r) hn hval S hSf _ 1 _ y u _ rfl (by rw [<- hn];simp) (W.frame _ _ _ st' fun x hx o ex=>?_) (M7 _ hS' rfl) fun t' h2 tk2 hk2=>?_⟩
  ·exact (C0 _ _ (fun z:S=x=>hSf (by rw [z];exact hx))).trans ex
  ·exact h1 y r rfl t' h2 tk2 fun x o hx hxS ex=>hk2 x o hx hxS ((C0 _ _ (G6 hxS)).trans (hk' x o hx ex))
end
section
variable {prog:Program} {w:World} {A:Around} {E:Value->Shared->Prop} {s:Shared}
theorem qI3 {id:String} {b:Builtin} {args:List Value} {kw:List (Str × Value)} {Q:Value->Shared->Prop} (hk:builtinKind id=none) (hp:plainId id=true) (hb:entryFor table id=some b) (ha:argsOk id ⟨args,kw⟩)
  (hc:wpAny (model prog w) A.in1 (b ⟨args,kw⟩) (fun fin s'=>∃ c',fin=.again c'/\c'.quiet=true/\codeAny (model prog w) A c' (fun r s'=>∃ v,r=.ok (.ret v)/\Q v s') s') E s):wpAny (model prog w) A (call (.builtin id) args kw) Q E s:=by
 refine wpAny_call (codeAny_call_builtin hp hb ?_);have h2:=wpAny_mono hc (Q':=fun fin s'=>match fin with
   | .done f=>(match (Except.ok f:Result) with | .ok (.ret v)=>Q v s' | .ok _=>False | .error e=>E e s')
   | .again c'=>c'.quiet=true/\codeAny (model prog w) A c' (fun r s'=>match r with | .ok (.ret v)=>Q v s' | .ok _=>False | .error e=>E e s') s')
  (fun fin s' ⟨c',e,h1,h2⟩=>by subst e;exact ⟨h1,codeAny_mono h2 fun r s' ⟨v,e,q⟩=>by subst e;exact q⟩) fun _ _ h'=>h'
 simp only [checkBuiltinCall,hk];cases sg:Manifest.signature? id with
 | none=>exact wpAny_pure h2
 | some sig=>
  have ha':Bind.checkArgs id sig ⟨args,kw⟩=pure ():=by simpa only [argsOk,sg] using ha
  simp only [ha'];exact wpAny_pure h2
end
section
variable {X:Cx}
def topD (dv:Option Int):List Int->Option Int
 | []=>dv
 | y::r=>some (topI y r)
theorem qZA {Ab:List (Addr × Obj)} {s:Shared} {σ:St} {H:Hp} {Q:VK} {p:Addr} {ns:List Int} {kw:List (Str × Value)} {dv:Option Int} (hc:X.calm=true) (I:Inv X Ab σ H s) (hq:SqL X.K H p (ns.map V.int))
  (ok:argsOk "max" ⟨[.ref p],kw⟩) (df:Option Value) (hb:U4 "max" ["key","default"] 0 ⟨[],kw⟩=pure [none,df]) (hdf:df=none/\dv=none\/∃ d t,df=some (.int d t)/\dv=some d)
  (m:Int) (em:topD dv ns=some m) (q:Q (.int m) H):wpAny (model X.prog X.w) X.A (call (.builtin "max") [.ref p] kw) (EP X Ab σ Q) X.xe s:=by
 obtain ⟨its,rv,pl,hz⟩:=I.list hq;have hl:=pl.isList;have hlt:p<s.heap.objs.size:=by obtain ⟨_,e,_⟩:=hl;exact B1 e
 have hlen:=rv.length;rw [A0] at hlen;have ia:=qBN rv;have hname:(toString "max" ++ toString ".loop" : String) = "max.loop":=by decide
 refine qI3 F.kind_max F.plain_max F.entry_max ok ?_;show wpAny _ _ (U4 "max" ["key","default"] 0 ⟨[],kw⟩ >>= _) _ _ s;refine wpAny_bind (wpAny_of_eq hb ?_);refine wpAny_bind (wpAny_pure ?_);refine wpAny_bind (wpAny_pyIter_list hl ?_);refine wpAny_bind (wpAny_newObj_type ?_);rw [hname];have w0:X.A.in1.handled=none:=I.ok.hd hc;refine wpAny_pure ⟨_,rfl,plainId_quiet V0 _,?_⟩;refine qU8 (p8 w0 _ p (C7 hlt) its.toArray) _ ns (by simpa using hlen) (fun i v hv=>?_) _ ?_ (c:=0) ?_ (B6 _ rfl) ?_ ?_
 ·exact Y3 ia i v (by simpa using hv)
 ·simp only [J6,B5,L5,or_false,not_or];exact ⟨y9 _,R3 (L0 hlt)⟩
 ·exact ⟨⟨_,A2 _ (B6 _ rfl),rfl,rfl⟩,(hl.push _).push _⟩
 ·intro y r e t' h' tk hk;subst e;cases em;refine ⟨_,rfl,.int _,H,I.kept (t':=tk) fun b o eb=>hk b o ?_ ?_ (A2 _ (A2 _ eb)),⟨t',rfl⟩,q⟩
  ·simp only [B5,L5,or_false];exact C7 (B1 eb)
  ·rw [J6];exact C7 (L0 (B1 eb))
 ·intro e;subst e;rcases hdf with ⟨_,e2⟩ | ⟨d,t,rfl,rfl⟩
  ·rw [e2] at em;cases em
  ·cases em;refine ⟨_,_,rfl,fun h' tk hk=>⟨_,rfl,.int _,H,I.kept (t':=tk) fun b o eb=>hk b o ?_ ?_ (A2 _ (A2 _ eb)),⟨t,rfl⟩,q⟩⟩
   ·simp only [B5,L5,or_false];exact C7 (B1 eb)
   ·rw [J6];exact C7 (L0 (B1 eb))
theorem qHD (hc:X.calm=true):qCW X (.builtin "max") (fun xs H Q=>∃ p ns m,xs=[.ref p]/\SqL X.K H p (ns.map V.int)/\topD none ns=some m/\Q (.int m) H):=by
 intro Ab s σ H xs us Q I r h;obtain ⟨p,ns,m,rfl,hq,em,q⟩:=h;obtain ⟨u,rfl,rx⟩:=qDK r;cases rx;exact qZA hc I hq (F.args_max1 _) none rfl (.inl ⟨rfl,rfl⟩) m em q
end
theorem qOD:entryFor table "dict.update.loop" = some Builtin.«dict.update.loop»:=entryFor_of_tree (by kernel_rfl)
theorem qGT:plainId "dict.update.loop" = true:=by decide +kernel
theorem qPS:typeLookup (.type "list") "keys" = pure none:=by rw [typeLookup_type,builtinLookup_eq_fast];kernel_rfl
section
variable {prog:Program} {w:World} {A:Around} {E:Value->Shared->Prop} {s:Shared}
theorem qU6 {a:Addr} {o:Obj} {xs:Array Value} {k:Nat} {Q:Option Value->Shared->Prop} (hx:s.heap.get? a=some o) (hc:o.cls=.type "list") (hdat:o.data=.seq xs k) (hd:o.dict=none) (hA:A.handled=none)
  (h:∀ h' tk,(∀ b u,s.heap.get? b=some u->h'.get? b=some u)->Q none { s with heap:=h',toks:=tk }):wpAny (model prog w) A (getAttr? (.ref a) "keys") Q E s:=by
 obtain ⟨c,dct,dat,sl⟩:=o;simp only at hc hdat hd;subst hc hdat hd;obtain ⟨hp,g,dr,tk,os⟩:=s;have hT:∀ tk',(⟨hp,g,dr,tk',os⟩:Shared).TypeIs (.ref a) "list":=fun _=>⟨_,hx,rfl⟩;have f1:=sub_AttributeError;have f3:=a8.lookup;have f4:=a8.bind (.ref a);have f5:=am_list_getattr_none;unfold getAttr? getAttrBy? getAttrBy
 repeat (any_goals (first | assumption | exact hT _ | ((with_reducible show wpAny _ _ (call (Value.builtin "list.__getattribute__") _ _) _ _ _);refine call_meets a8 (hT _) am_entry_list_getattribute (F.args_list_getattribute_2 _ _) (meets_getattribute_miss_list a xs k sl "keys" _ qPS (by decide +kernel) (by decide +kernel)) ⟨hx,hA,fun h' tk' e hx'=>?_⟩) | wp_step))
 obtain ⟨t',u',he⟩:=hx'.there;show wpAny _ _ (getattributeRaised _ _ _ _ _ _ _) _ _ _;unfold getattributeRaised
 repeat (any_goals (first | assumption | wp_step))
 exact h _ _ hx'.of.keeps
end
section
variable {prog:Program} {w:World} {A:Around} {R:Result->Shared->Prop} {I:Addr} {fp wr:List Addr} {n:Nat} {P:Nat->Value->Prop} {St:Nat->Heap->Prop}
theorem qXE (W:Walks prog w A.in1 I fp wr n P St) (h0:Heap) (d:Addr) (hdf:d ∉ fp) (ps:List (Int × Value)) (hn:ps.length=n) (hz:n<=sizeLine)
  (tup:∀ i v,P i v->∃ r k t x,v=.ref r/\r ∉ wr/\r ≠ d/\h0.IsTuple r #[.int k t,x]/\ps[i]?=some (k,x)) :
  ∀ (m i:Nat) (j:Int) (tj:Tok) (s:Shared) (Af:List (Key × Value)),n - i=m->i<=n->St i s.heap->s.heap.DictOf (qB8 prog w) d Af->Af.length<=i->(∀ b o,b ∉ wr->b ≠ d->h0.get? b=some o->s.heap.get? b=some o)->
  (∀ h' tk,h'.DictOf (qB8 prog w) d ((ps.drop i).foldl (fun m q=>stored m (E9 q.1) q.2) Af)->(∀ b o,b ∉ wr->b ≠ d->h0.get? b=some o->h'.get? b=some o)->R (.ok (.ret .none)) { s with heap:=h',toks:=tk })->
  codeAny (model prog w) A (.builtin "dict.update.loop" ⟨[.ref d,.ref I,.int j tj,.none],[]⟩) R s:=by
 have hdw:d ∉ wr:=fun h=>hdf (W.sub _ h);intro m
 induction m with
 | zero=>
  intro i j tj s Af hm hi st hd hl hk hR;have e:i=n:=by omega
  refine codeAny_builtin qOD ?_;rw [F6 qGT _];show wpAny _ A.in1 (pyNext (.ref I) >>= _) _ _ s;refine wpAny_bind (W.done s _ _ (e ▸ st) fun h' tk hk'=>?_);show wpAny _ A.in1 (Builtin.Dict.addKeywords d [] >>= fun _=>ret U0) _ _ _;rw [X5 (by omega)] at hR
  exact wpAny_bind (wpAny_pure (wpAny_pure (hR h' tk (hd.at fun o eo=>hk' d o hdw eo) fun b o hb hbd eb=>hk' b o hb (hk b o hb hbd eb))))
 | succ m ih=>
  intro i j tj s Af hm hi st hd hl hk hR;have hlt:i<n:=by omega
  refine codeAny_builtin qOD ?_;rw [F6 qGT _];show wpAny _ A.in1 (pyNext (.ref I) >>= _) _ _ s;refine wpAny_bind (W.item i s _ _ hlt st fun v h' tk hP st' hk'=>?_);obtain ⟨r,k,t,x,rfl,hrw,hrd,ht,ep⟩:=tup i v hP;have ed:ps.drop i=(k,x)::ps.drop (i+1):=by
   obtain ⟨hi',e⟩:=A3.mp ep;rw [O5 hi',e]
  rw [ed] at hR;have ht2:h'.IsTuple r #[.int k t,x]:=by
   obtain ⟨o,e1,e2,e3⟩:=ht;exact ⟨o,hk' r o hrw (hk r o hrw hrd e1),e2,e3⟩
  obtain ⟨o,ho,hoc,no,hod⟩:=ht2;have hd2:h'.DictOf (qB8 prog w) d Af:=hd.at fun o eo=>hk' d o hdw eo;refine wpAny_bind (wpAny_holding (wpAny_bind ?_));show wpAny _ A.in1 (tryCatch (A04 (.ref r)) _) _ _ _;refine wpAny_tryCatch ?_;unfold A04;refine wpAny_bind (wpAny_typeOf (T:="tuple") ⟨o,ho,hoc⟩ ?_);rw [if_pos (by decide)]
  refine wpAny_bind (wpAny_seqItems ho hod (wpAny_pure ?_));show wpAny _ A.in1 (holding [G8 k t,x] (dictSet d (.int k t) x)) _ _ _;refine wpAny_holding (wpAny_dictSet_pairs (hsz:=by omega) (k:=E9 k) (by rw [qS4];exact qNU k t) hd2 fun h2 hd3 sb=>?_)
  have len3:(stored Af (E9 k) x).length<=i+1:=by
   unfold stored
   split
   ·rw [A0];omega
   ·rw [A6,C3];omega
  refine wpAny_pure ⟨plainId_quiet qGT _,ih (i+1) _ _ _ (stored Af (E9 k) x) (by omega) hlt (W.frame _ _ _ st' fun b hb o eb=>?_) hd3 len3 (fun b o hb hbd eb=>?_) fun h3 tk3 hd4 hk4=>hR h3 tk3 hd4 hk4⟩
  ·rw [sb.2 b (fun z:b=d=>hdf (z ▸ hb))];exact eb
  ·rw [sb.2 b hbd];exact hk' b o hb (hk b o hb hbd eb)
end
section
variable {prog:Program} {w:World} {A:Around} {E:Value->Shared->Prop} {s:Shared}
theorem qOO {l:Addr} {o:Obj} {its:Array Value} {nl:Nat} {ps:List (Int × Value)} {Q:Value->Shared->Prop} (hA:A.handled=none) (hl:s.heap.get? l=some o) (hc:o.cls=.type "list") (hdat:o.data=.seq its nl) (hdn:o.dict=none) (hn:ps.length=its.size) (hz:its.size<=sizeLine)
  (tup:∀ (i:Nat) v,its[i]?=some v->∃ r k t x,v=.ref r/\s.heap.IsTuple r #[.int k t,x]/\ps[i]?=some (k,x))
  (h:∀ h' tk,h'.DictOf (qB8 prog w) s.heap.objs.size (ps.foldl (fun m q=>stored m (E9 q.1) q.2) [])->(∀ b u,s.heap.get? b=some u->h'.get? b=some u)->Q (.ref s.heap.objs.size) { s with heap:=h',toks:=tk }) :
  wpAny (model prog w) A (call (.type "dict") [.ref l]) Q E s:=by
 refine callType_codes (Q₁:=fun obj s₁=>obj=.ref s.heap.objs.size/\s₁={ s with heap:=s.heap.push { cls:=.type "dict",data:=.dict #[] } }) F.kt_called_dict (F.kt_typeCall_dict_1 _) F.entry_dict_init (kt_code_dict_new _ ⟨rfl,rfl⟩) ?_;rintro obj s₁ ⟨rfl,rfl⟩;have nw:(s.heap.push { cls:=.type "dict",data:=.dict #[] }).DictOf (qB8 prog w) s.heap.objs.size []:=A69 s.heap;have hl':(s.heap.push { cls:=.type "dict",data:=.dict #[] }).get? l=some o:=A2 _ hl;have hll:l<s.heap.objs.size:=B1 hl;refine ⟨nw.typeIs,F.args_dict_init_2 _ _,?_⟩;unfold Builtin.«dict.__init__»;refine wpAny_bind ?_;unfold Builtin.Dict.selfAndRest;refine wpAny_bind (wpAny_notOrdered_dict nw.typeIs ?_);show wpAny _ _ (pure (s.heap.objs.size,[C9 l])) _ _ _;refine wpAny_pure ?_;show wpAny _ _ (x9 "dict.__init__" s.heap.objs.size (.ref l) [] .none) _ _ _;unfold x9;refine wpAny_bind (wpAny_typeOf (T:="list") ⟨o,hl',hc⟩ ?_);rw [if_pos (by decide)]
 refine wpAny_bind (qU6 hl' hc hdat hdn hA fun h1 tk1 k1=>?_);rw [if_pos (show (none:Option Value).isNone=true from rfl)];have hl1:h1.IsList l its:=⟨o,k1 _ _ hl',hc,nl,hdat⟩;have hlt1:l<h1.objs.size:=B1 (k1 _ _ hl');have hdl:s.heap.objs.size<h1.objs.size:=by
  obtain ⟨_,_,_,e,_⟩:=nw;exact B1 (k1 _ _ e)
 refine wpAny_bind (wpAny_rule (wpAny_bind (wpAny_pyIter_list hl1 ?_)));refine wpAny_pure ⟨plainId_quiet qGT _,?_⟩;refine qXE (n:=its.size) (p8 (A:=A.in1.in1) hA _ l (C7 hlt1) its) h1 s.heap.objs.size ?_ ps hn hz (fun i v hv=>?_) its.size 0 _ _ _ [] rfl (D7 _) ⟨⟨_,B6 _ rfl,rfl,rfl⟩,hl1.push _⟩ ((nw.keep k1).push _) (B0 _) (fun b u hb hbd eb=>A2 _ eb) fun h' tk hd' hk'=>?_
 ·simp only [B5,L5,or_false,not_or];exact ⟨C7 hdl,R3 hll⟩
 ·obtain ⟨r,k,t,x,e1,e2,e3⟩:=tup i v hv;obtain ⟨or,hr,hr2,hr3⟩:=e2;have hrs:=B1 hr;refine ⟨r,k,t,x,e1,?_,C7 hrs,⟨or,k1 _ _ (A2 _ hr),hr2,hr3⟩,e3⟩;simp only [B5,L5,or_false];exact C7 (Z8 hrs hdl)
 ·refine ⟨rfl,h h' tk hd' fun b u eb=>?_⟩;have hbs:=B1 eb;refine hk' b u ?_ (C7 hbs) (k1 _ _ (A2 _ eb));simp only [B5,L5,or_false];exact C7 (Z8 hbs hdl)
end
theorem qQZ {α β:Type} {F:α->β->Prop}:∀ {l₁:List α} {l₂:List β} {i:Nat} {a:α},Paired F l₁ l₂->l₁[i]?=some a->∃ b,l₂[i]?=some b/\F a b
 | _,_,_,_,.nil,e=>by simp at e
 | _,_,0,_,.cons r _,e=>by simp at e;subst e;exact ⟨_,rfl,r⟩
 | _,_,i+1,a,.cons _ t,e=>by
  obtain ⟨b,h1,h2⟩:=qQZ (i:=i) (a:=a) t (by simpa using e)
  exact ⟨b,by simpa using h1,h2⟩
theorem qPG {h:Heap} {p:Addr} {its:Array Value} (x:PlainL h p its):∃ o,h.get? p=some o/\o.cls=.type "list"/\o.dict=none/\∃ n,o.data=.seq its n:=by
 obtain ⟨o,n,h2,h3,h4,h5⟩:=x;exact ⟨o,h2,h3,h4,n,h5⟩
section
variable {X:Cx}
def qQY (H:Hp) (K:PySem.W.Frag) (rs:List Addr) (ps:List (Int × V)):Prop:=Paired (fun r (q:Int × V)=>SqT K H r [.int q.1,q.2]) rs ps
def qDM (Af:List (Key × V)) (ps:List (Int × V)):List (Key × V):=ps.foldl (fun m q=>putK m (E9 q.1) q.2) Af
theorem qKT:∀ (ps:List (Int × V)) (Af:List (Key × V)),(qDM Af ps).length<=Af.length+ps.length
 | [],Af=>by simp [qDM]
 | q::ps,Af=>by
  have:=qKT ps (putK Af (E9 q.1) q.2);have:=qCD Af (E9 q.1) q.2;show (qDM (putK Af (E9 q.1) q.2) ps).length<=Af.length+(q::ps).length;rw [D1];omega
theorem qTA {Ab:List (Addr × Obj)} {σ:St} {H:Hp} {s:Shared} (I:Inv X Ab σ H s):∀ {rs:List Addr} {ps:List (Int × V)},qQY H X.K rs ps->
  ∃ qs:List (Int × Value),Paired (fun r (q:Int × Value)=>∃ t,s.heap.IsTuple r #[.int q.1 t,q.2]) rs qs/\Paired (fun (p:Int × V) (q:Int × Value)=>p.1=q.1/\RelV p.2 q.2) ps qs:=by
 intro rs ps h;unfold qQY at h
 induction h with
 | nil=>exact ⟨[],.nil,.nil⟩
 | @cons r q rs ps h t ih=>
  obtain ⟨qs,h1,h2⟩:=ih;obtain ⟨its,rv,pl,hz⟩:=I.tuple h;obtain ⟨u1,u2,rfl,⟨tk,rfl⟩,r2⟩:=qMX rv;exact ⟨(q.1,u2)::qs,.cons ⟨tk,pl⟩ h1,.cons ⟨rfl,r2⟩ h2⟩
theorem qYX:∀ {ps:List (Int × V)} {qs:List (Int × Value)} {Af:List (Key × V)} {vs:List (Key × Value)},Paired (fun (p:Int × V) (q:Int × Value)=>p.1=q.1/\RelV p.2 q.2) ps qs->KV Af vs->KV (qDM Af ps) (qs.foldl (fun m q=>stored m (E9 q.1) q.2) vs):=by
 intro ps qs Af vs h
 induction h generalizing Af vs with
 | nil=>exact fun r=>r
 | cons h t ih=>
  intro r;refine ih ?_;dsimp only;rw [<- h.1];exact r.put _ h.2
theorem qSG (hc:X.calm=true):qCW X (.type "dict") (fun xs H Q=>∃ (p:Addr) (rs:List Addr) (ps:List (Int × V)),xs=[.ref p]/\SqL X.K H p (rs.map V.ref)/\qQY H X.K rs ps/\∀ d,H d=none->Q (.ref d) (upd H d (.dK (qDM [] ps)))):=by
 intro Ab s σ H xs us Q I r h;obtain ⟨p,rs,ps,rfl,hq,hp,q⟩:=h;obtain ⟨u,rfl,rx⟩:=qDK r;cases rx;obtain ⟨its,rv,pl,hz⟩:=I.list hq;obtain ⟨qs,h1,h2⟩:=qTA I hp;have l0:=rv.length;rw [A0] at l0;have l1:rs.length=qs.length:=C6 h1;have l2:ps.length=qs.length:=C6 h2;obtain ⟨o,ho,hoc,hod,n,hdat⟩:=qPG pl;rw [A0] at hz;refine qOO (ps:=qs) (I.ok.hd hc) ho hoc hdat hod (by simp;omega) (by simp;omega) (fun i v hv=>?_) fun h' tk hd' hk=>?_
 ·have hv':its[i]?=some v:=by simpa using hv
  have hi:i<rs.length:=by rw [l0];exact (A3.mp hv').1
  obtain ⟨u,hu,ru⟩:=rv.get (i:=i) (x:=.ref rs[i]) (by rw [B7,A1 hi];rfl)
  rw [hv'] at hu;cases hu;cases ru;obtain ⟨b,hb,t,ht⟩:=qQZ h1 (A1 hi);exact ⟨rs[i],b.1,t,b.2,rfl,ht,hb⟩
 ·have z:(qDM [] ps).length<=sizeLine:=by
   have:=qKT ps [];simp at this;omega
  refine ⟨.ref s.heap.objs.size,_,I.laid (a:=s.heap.objs.size) (o:=.dK (qDM [] ps)) (t':=tk) hk (B0 _) (qOF z (beq_eq_false_iff_ne.mpr (G6 (C7 I.big))) (qYX h2 .nil) hd'),rfl,q _ (I.hok.fresh (B0 _))⟩
theorem qZM {A:Around} {s:Shared} {zs:List Int} {us vs:List Value} (h1:Vals (zs.map V.int) us) (h2:Vals (zs.map V.int) vs):∀ j (j1:j<us.toArray.size) (j2:j<vs.toArray.size),SeqAt.EqAt A s us.toArray[j] vs.toArray[j] true:=by
 intro j j1 j2;have l1:=h1.length;rw [A0] at l1;have hj:j<zs.length:=by simp at j1;omega
 have e0:(zs.map V.int)[j]?=some (.int zs[j]):=by rw [B7,A1 hj];rfl
 obtain ⟨u,eu,t,ru⟩:=h1.get e0;obtain ⟨v,ev,t',rv⟩:=h2.get e0;have hu:us.toArray[j]=u:=by
  rw [W0];exact (A3.mp eu).2
 have hv:vs.toArray[j]=v:=by
  rw [W0];exact (A3.mp ev).2
 rw [hu,hv,ru,rv];have h:=m7 (A:=A) (s:=s) zs[j] t zs[j] t';rw [beq_self_eq_true] at h;exact h
theorem qPK (hu:X.A.units<cLine):OpR X (compareOp .NotEq) (fun x y H Q=>∃ (p l:Addr) (zs:List Int),x=.ref p/\y=.ref l/\SqL X.K H p (zs.map V.int)/\SqL X.K H l (zs.map V.int)/\Q (.bl false) H):=by
 intro Ab s σ H x y v u Q I rx ry h;obtain ⟨p,l,zs,rfl,rfl,h1,h2,q⟩:=h;cases rx;cases ry;obtain ⟨us,r1,p1,z1⟩:=I.list h1;obtain ⟨vs,r2,p2,z2⟩:=I.list h2;refine Z9 (e:=fun _=>true) p1.isList p2.isList (by simp [<- r1.length,<- r2.length]) hu (qZM r1 r2) _ _ _ _ ⟨.bl false,H,I,?_,q⟩
 have:(I0 us.toArray.size).all (fun _=>true)=true:=by simp
 rw [this]
 rfl
def qcH (K:PySem.W.Frag):R2:=fun x y H Q=>∃ a b xs ys,x=.ref a/\y=.ref b/\SqT K H a xs/\SqT K H b ys/\ys ≠ []/\xs.length+ys.length<=sizeLine/\(xs=[]->Q (.ref b) H)/\(xs ≠ []->∀ p,H p=none->Q (.ref p) (upd H p (.tup (xs++ys))))
theorem qZ3:OpR X (binaryOp .Add) (qcH X.K):=by
 intro Ab s σ H x y v u Q I rx ry h;obtain ⟨a,b,xs,ys,rfl,rfl,ha,hb,hy,hz,q1,q2⟩:=h;by_cases hx:xs=[]
 ·subst hx;cases rx;cases ry;obtain ⟨its,r1,p1,_⟩:=I.tuple ha;obtain ⟨its2,r2,p2,_⟩:=I.tuple hb;cases r1;obtain ⟨⟨cls,dd,data,sl⟩,ho,hc,n,hd⟩:=id p1;obtain ⟨⟨cls2,dd2,data2,sl2⟩,ho2,hc2,n2,hd2⟩:=id p2;simp only at hc hd hc2 hd2;subst hc hd hc2 hd2;exact concat_meets ⟨_,ho,rfl⟩ ⟨_,ho2,rfl⟩ noFill_tuple_add seq_tuple_add X4 X0 (W6 _ _) (tuple_addW0 a b #[] its2.toArray n n2 dd dd2 sl sl2 rfl) ⟨ho,ho2,.ref b,H,I,rfl,q1 rfl⟩
 ·exact qU1 Ab s σ H (.ref a) (.ref b) v u Q I rx ry ⟨a,b,xs,ys,rfl,rfl,ha,hb,hx,hz,fun z=>absurd z hy,fun _=>q2 hx⟩
end
theorem qXC {K:PySem.W.Frag} {a:Addr} {xs:List V} {g:TG} {tb:TS} {D:Ends} {σ0:St} {H0:Hp} (Pv:Nat->St->Hp->Prop) (h0:Pv 0 σ0 H0) (hl:∀ i σ H,i<=xs.length->Pv i σ H->SqL K H a xs)
  (hs:∀ i x σ H T,xs[i]?=some x->Pv i σ H->H T=none->g (.ref T) σ (upd H T (.tup [.int (i:Int),x])) fun σ2 H2=>tb { D with nx:=Pv (i+1),ct:=Pv (i+1),bk:=D.nx } σ2 H2)
  (hd:∀ σ H,Pv xs.length σ H->D.nx σ H) :
  ∃ W:Nat->Nat->St->Hp->Prop,(∃ m,W 0 m σ0 H0)/\∀ i m σ H,W i m σ H->
   ((Ite K a).stop i H/\D.nx σ H)\/((Ite K a).go i H/\∃ N:St->Hp->Prop,(∀ σ' H',N σ' H'->∃ m',m'<m/\W (i+1) m' σ' H')/\∀ x H',(Ite K a).yld i H x H'->g x σ H' fun σ2 H2=>tb { D with nx:=N,ct:=N,bk:=D.nx } σ2 H2):=by
 refine ⟨fun i m σ H=>m=xs.length - i/\i<=xs.length/\Pv i σ H,⟨xs.length,by simp,D7 _,h0⟩,?_⟩
 rintro i m σ H ⟨rfl,hi,q⟩;have hq:=hl i σ H hi q;by_cases hlt:i<xs.length
 ·refine .inr ⟨⟨xs,xs[i],hq,by simp [hlt]⟩,Pv (i+1),fun σ' H' p'=>⟨xs.length - (i+1),by omega,rfl,hlt,p'⟩,fun v H' y=>?_⟩
  obtain ⟨T,x,hT,e1,e2,y⟩:=y;subst e1 e2;exact hs i x σ H T (y xs hq) q hT
 ·have e:i=xs.length:=by omega
  subst e;exact .inl ⟨⟨xs,hq,B0 _⟩,hd σ H q⟩
open PySem
def g5:Nat->Nat
 | 0=>0
 | n+1=>5 * g5 n+1
structure TabG (byText:Bool) (t:SetTable) (n:Nat):Prop where
 pow:∃ k,3<=k/\t.mask+1=2 ^ k
 dum:t.dummies=#[]
 plain:t.plain=true
 led:t.led=!byText
 size:t.place.size=n
 up:t.place.toList.Pairwise (·<·)
 le:∀ j ∈ t.place.toList,j<=t.mask
section
variable {byText:Bool} {t:SetTable} {n:Nat}
end
section
variable {mask:Nat} {owner:Array (Option Nat)}
end
structure Own (N:Nat) (L:List Nat) (owner:Array (Option Nat)):Prop where
 size:owner.size=N
 nd:L.Nodup
 lt:∀ j ∈ L,j<N
 at_:∀ (m j:Nat),L[m]?=some j->owner[j]?=some (some m)
 no:∀ j,j<N->j ∉ L->owner[j]?=some none
section
variable {prog:Program} {w:World} {A:Around} {E:Value->Shared->Prop} {s:Shared}
end
section
variable {prog:Program} {w:World} {A:Around} {R:Result->Shared->Prop} {I:Addr} {fp wr:List Addr} {G:Array GenState->Array GenState->Prop} {n:Nat} {P:Nat->Value->Prop} {St:Nat->Shared->Prop}
end
section
variable {prog:Program} {w:World} {A:Around} {E:Value->Shared->Prop} {s:Shared}
end
section
variable {prog:Program} {w:World} {A:Around} {E:Value->Shared->Prop} {s:Shared} {a I:Addr} {es:Array (Int × Value)} {ep:Nat} {t:SetTable} {i:Nat}
end
section
variable {X:Cx}
def qcF (K:PySem.W.Frag):R2:=fun x y H Q=>∃ a b xs ys,x=.ref a/\y=.ref b/\SqT K H a xs/\SqT K H b ys/\((xs ≠ []/\H a=some (.tup xs))\/(ys ≠ []/\H b=some (.tup ys)))/\xs.length+ys.length<=sizeLine/\∀ p H',Same H H'->H' p=some (.tup (xs++ys))->Q (.ref p) H'
theorem qZ2:OpR X (binaryOp .Add) (qcF X.K):=by
 intro Ab s σ H x y v u Q I rx ry h;obtain ⟨a,b,xs,ys,rfl,rfl,ha,hb,hd,hz,q⟩:=h;have nw:∀ p,H p=none->Q (.ref p) (upd H p (.tup (xs++ys))):=fun p hp=>q p _ (fun b u e=>by rw [qA8 (qA5 e hp)];exact e) qA1
 rcases hd with ⟨hx,ga⟩ | ⟨hy,gb⟩
 ·exact qU1 Ab s σ H (.ref a) (.ref b) v u Q I rx ry ⟨a,b,xs,ys,rfl,rfl,ha,hb,hx,hz,fun z=>q a H (fun _ _ e=>e) (by rw [z,W3];exact ga),fun _=>nw⟩
 ·exact qZ3 Ab s σ H (.ref a) (.ref b) v u Q I rx ry ⟨a,b,xs,ys,rfl,rfl,ha,hb,hy,hz,fun z=>q b H (fun _ _ e=>e) (by rw [z];exact gb),fun _=>nw⟩
end
section
variable {prog:Program} {w:World} {A:Around} {E:Value->Shared->Prop} {s:Shared}
end
section
variable {X:Cx}
end
structure Ex (B:Heap) (l:List Env) (e:Addr) (cls:Value) (dd:Option Addr) (nt:Bool) (h:Heap):Prop where
 stays:B.StaysIn h
 new:B.get? e=none
 frames:h.FunFrames B l
 rec_:∃ (oe:Obj) (vs:Array Value) (x1:Value),h.get? e=some oe/\oe.cls=cls/\oe.dict=dd/\oe.data=.fields vs/\vs[1]?=some x1/\
  ((x1=.none/\nt=false)\/∃ (T:Addr) (oT:Obj) (ts:Array Value) (x3:Value),x1=.ref T/\B.get? T=none/\T ≠ e/\h.get? T=some oT/\oT.data=.fields ts/\ts[3]?=some x3)
section
variable {M:Model} {A:Around} {E:Value->Shared->Prop} {s:Shared} {B:Heap} {env:Env} {outer l:List Env} {L e:Addr} {cls:Value} {dd:Option Addr} {nt:Bool} {Q:Unit->Shared->Prop}
end
def Kp (outer:List Env) (H':Hp) (h0:Heap) (b:Addr):Prop:=(∃ o,H' b=some o)\/((∃ o,h0.get? b=some o)/\b ∉ frs outer)
structure XD (P:Program) (w:World) (outer l:List Env) (H:Hp) (h0:Heap) (e:Addr) (cls:Value) (dd:Option Addr) (H':Hp) (B:Heap) (nt:Bool) (h:Heap):Prop where
 un:Un (frs outer) [] H H' h0 h
 hok:HOk P w H' h
 ex:Ex B l e cls dd nt h
 kp:∀ b o,h.get? b=some o->Kp outer H' h0 b->B.get? b=some o
 ne:H' e=none
 ge:h0.objs.size<=e
def XP (X:Cx) (G:XK) (ev:Value) (s':Shared):Prop:=X.A.frames=some X.stack/\∃ (e:Addr) (cls:Value) (dd:Option Addr) (H':Hp) (B:Heap) (nt:Bool),ev=.ref e/\s'.os=X.s₀.os/\AllBare s'.gens/\XD X.prog X.w X.outer X.stack X.H₀ X.s₀.heap e cls dd H' B nt s'.heap/\G cls dd H'
section
variable {X:Cx} {E:XK} {G:XK} {Ab:List (Addr × Obj)} {σ:St} {H:Hp} {s s':Shared}
end
section
variable {P:Program} {w:World} {K:PySem.W.Frag} {mg:Str->Option Value} {base:Heap}
end
section
variable {X:Cx} {Ab:List (Addr × Obj)} {σ:St} {H:Hp} {s:Shared} {ev:Value}
end
section
variable {X:Cx}
def Ends.off (D:Ends):Option Nat->Ends
 | none=>D
 | some j=>{ nx:=fun σ H=>D.nx (σ.set j none) H,rt:=D.rt,bk:=fun σ H=>D.bk (σ.set j none) H,ct:=fun σ H=>D.ct (σ.set j none) H }
end
def bmV:List Value:=[.type "ValueError",.type "Exception",.type "BaseException",.type "object"]
def xcIn (K:PySem.W.Frag) (C:Addr) (init:Option Value):Bool:=match K.lookup C with
 | some ⟨.type "type",_,.cls cd,sl⟩=>(match cd.mro,sl.toList with
  | .ref C'::bm,[_,_,_,_,some (.builtin n),_]=>C' == C && n == "ValueError.__new__" && !cd.hasDel && cd.hasDict && PySem.W.tailIn K bmV bm && PySem.W.nsOkIn K cd.ns && C8 K cd.ns "__init__" == some init
  | _,_=>false)
 | _=>false
structure XCls (K:PySem.W.Frag) (C:Addr) (init:Option Value):Prop where
 cls:xcIn K C init=true
 set:T9 K (.ref C) "__setattr__" = some (some (.builtin "object.__setattr__"))
 kp:P8 K (.ref C)=true
section
variable {prog:Program} {w:World} {A:Around} {E:Value->Shared->Prop} {h:Heap} {g:Array GenState} {d:Drawn} {t:Nat} {os:OsState} {K:PySem.W.Frag} {C x:Addr} {init:Option Value} {mA:Str->Option Value} {name:Str} {v:Value} {ns:List Str}
end
section
variable {prog:Program} {w:World} {A:Around} {R:Result->Shared->Prop} {h:Heap} {g:Array GenState} {d:Drawn} {t:Nat} {os:OsState} {K:PySem.W.Frag} {C fI:Addr} {rest:List Value}
end
section
variable {M:Model} {A:Around} {E:Value->Shared->Prop} {env:Env} {K:PySem.W.Frag} {C:Addr} {init:Option Value}
end
section
variable {X:Cx} {Ab:List (Addr × Obj)} {σ:St} {H:Hp} {s:Shared}
end
section
variable {X:Cx}
end
structure XGet (K:PySem.W.Frag) (C:Addr):Prop where
 ga:T9 K (.ref C) "__getattribute__" = some (some (.builtin "BaseException.__getattribute__"))
 gt:T9 K (.ref C) "__getattr__" = some none
 be:A36 K C (.type "BaseException")=some true
 hd:A48 K C=true
section
variable {prog:Program} {w:World} {A:Around} {E:Value->Shared->Prop} {s:Shared} {K:PySem.W.Frag} {x C:Addr} {ox:Obj} {od:Option Obj} {name:Str} {tk:Tok}
end
structure XTy (K:PySem.W.Frag) (C:Addr):Prop extends XGet K C where
 ca:T9 K (.ref C) "__class__" = some (some (.builtin "object.__class__"))
 cn:o9 K (.builtin "object.__class__") "__get__" = some (some (.builtin "getset_descriptor.__get__"))
 ct:A68 K (.builtin "object.__class__")=some true
 cm:A36 K C (.type "object")=some true
section
variable {K:PySem.W.Frag}
end
section
variable {X:Cx}
end
structure RoomH (k:Nat) (A:Around):Prop where
 dp:A.depth+3 * k+5<recursionLimit
 un:A.units+16 * k+200<cLine
structure FnOkH (P:Program) (w:World) (K:PySem.W.Frag) (mg:Str->Option Value) (base:Heap) (CX:CXT) (k:Nat) (f:Addr) (fd:FuncData) (ps:List Str) (sp:Sp):Prop where
 len:∀ vs H Q E,sp vs H Q E->vs.length=ps.length
 run:∀ (A:Around) (outer:List Env) (s:Shared) (H:Hp) (args:Args) (us:List Value) (vs:List V) (Q:VK) (E:XK),RoomH k A->Env0 P w K mg base A outer s H->BindsTo s fd args (ps.zip us)->Vals vs us->sp vs H Q E->
  codeAny (model P w) A (.call (.ref f) args) (CR CX outer P w H s Q E) s
section
variable {P:Program} {w:World} {K:PySem.W.Frag} {mg:Str->Option Value} {base:Heap}
end
section
variable {X:Cx} {CX:CXT} {k:Nat} {f C:Addr} {fd:FuncData} {ps:List Str} {sp:Sp} {dvs:List V} {ds:List Value} {E:XK} {x m:Str} {p pos apos:Pos} {e o:Expr} {es:List Expr} {ta:TE} {t:TA}
end
section
variable {X:Cx}
end
section
variable {prog:Program} {w:World} {A:Around} {E:Value->Shared->Prop} {s:Shared}
end
section
variable {X:Cx}
theorem qRL (hc:X.calm=true):qCW X (.builtin "sum") (fun xs H Q=>∃ (p:Addr) (ns:List Int),xs=[.ref p]/\SqL X.K H p (ns.map V.int)/\Q (.int ns.sum) H):=by
 intro Ab s σ H xs us Q I r h;obtain ⟨p,ns,rfl,hq,q⟩:=h;obtain ⟨u,rfl,rx⟩:=qDK r;cases rx;obtain ⟨its,rv,pl,hz⟩:=I.list hq;have hi:=qBN rv;obtain ⟨xs,hx⟩:=hi.allInts.items;have hl':s.heap.IsList p (intItems xs):=hx ▸ pl.isList;refine sum_intListG (I.ok.hd hc) hl' fun h' tk t' hk=>?_;have e1:ns=xs.toList.map (·.1):=by
  rw [<- nums_intItems,<- hx];exact (show numsOf its.toArray.toList=ns from hi.numsOf).symm
 have e2:preSum (numAt xs) xs.size=ns.sum:=by
  rw [preSum_eq,G0 (by simp),e1]
 rw [e2];exact ⟨.int ns.sum,H,I.kept fun b o e=>hk b o e,⟨_,rfl⟩,q⟩
end
structure LcScopeO (X:Cx) (scope:Scope) (own:List Str) (fv:List Nat):Prop where
 kind:scope.kind=.function
 names:∀ y ∈ scope.names,y.2=.local->scope.names.lookup y.1=some .local
 cells:∀ y ∈ scope.names,y.2=.cell->scope.names.lookup y.1=some .cell
 frees:∀ y ∈ scope.names,y.2=.free->scope.names.lookup y.1=some .free
 free:∀ y ∈ scope.names,y.2=.free->X.env.kindOf y.1=some .cell\/X.env.kindOf y.1=some .free
 nd:(own++fv.map fun i=>X.N.getD i R8).Nodup
 fvs:∀ i ∈ fv,i<X.N.length/\scope.names.lookup (X.N.getD i R8)=some .free
 owns:∀ x ∈ own,scope.names.lookup x=some .local\/scope.names.lookup x=some .cell
section
variable {X:Cx} {Ab:List (Addr × Obj)} {σ:St} {H:Hp} {s:Shared}
end
section
variable {X:Cx} {tg iter elt:Expr} {ifs:List Expr} {scope:Scope} {pos:Pos} {own:List Str} {fv:List Nat} {wi:TI} {g:TG} {tc:TT} {te:TE}
end
section
variable {prog:Program} {w:World} {A:Around} {R:Result->Shared->Prop} {I:Addr} {fp wr:List Addr} {n:Nat} {P:Nat->Value->Prop} {St:Nat->Heap->Prop}
end
section
variable {prog:Program} {w:World} {A:Around} {E:Value->Shared->Prop} {s:Shared}
end
section
variable {X:Cx}
theorem qU0:OpR X (binaryOp .Add) (fun x y H Q=>∃ a b xs ys,x=.ref a/\y=.ref b/\H a=some (.tup xs)/\H b=some (.tup ys)/\xs.length+ys.length<=sizeLine/\∀ p H',Same H H'->H' p=some (.tup (xs++ys))->Q (.ref p) H'):=by
 intro Ab s σ H x y v u Q I rx ry h;obtain ⟨a,b,xs,ys,rfl,rfl,ga,gb,hz,q⟩:=h;by_cases hx:xs=[]
 ·subst hx;cases rx;cases ry;obtain ⟨its,r1,p1,_⟩:=I.tuple (SqT.of ga);obtain ⟨its2,r2,p2,_⟩:=I.tuple (SqT.of gb);cases r1;obtain ⟨⟨cls,dd,data,sl⟩,ho,hc,n,hd⟩:=id p1;obtain ⟨⟨cls2,dd2,data2,sl2⟩,ho2,hc2,n2,hd2⟩:=id p2;simp only at hc hd hc2 hd2;subst hc hd hc2 hd2;exact concat_meets ⟨_,ho,rfl⟩ ⟨_,ho2,rfl⟩ noFill_tuple_add seq_tuple_add X4 X0 (W6 _ _) (tuple_addW0 a b #[] its2.toArray n n2 dd dd2 sl sl2 rfl) ⟨ho,ho2,.ref b,H,I,rfl,q b H (fun _ _ e=>e) gb⟩
 ·exact qZ2 Ab s σ H (.ref a) (.ref b) v u Q I rx ry ⟨a,b,xs,ys,rfl,rfl,SqT.of ga,SqT.of gb,.inl ⟨hx,ga⟩,hz,q⟩
end
theorem qVR:bootBuiltins "any" = some (.builtin "any"):=by decide +kernel
theorem qYC:bootBuiltins "sum" = some (.builtin "sum"):=by decide +kernel
theorem qRV (bs:List Bool):((I0 bs.length).any fun i=>(bs[i]?).getD false)=bs.any id:=by
 rw [U2,Z3,Z3]
 constructor
 ·rintro ⟨i,hi,h⟩;have hi':=P7.mp hi;rw [A1 hi'] at h;exact ⟨_,U9 hi',h⟩
 ·rintro ⟨b,hb,h⟩;obtain ⟨i,hi,e⟩:=U5 hb;exact ⟨i,P7.mpr hi,by rw [A1 hi,e];exact h⟩
section
variable {X:Cx}
theorem qMK (hc:X.calm=true):qCW X (.builtin "any") (fun xs H Q=>∃ (p:Addr) (bs:List Bool),xs=[.ref p]/\SqL X.K H p (bs.map V.bl)/\Q (.bl (bs.any id)) H):=by
 intro Ab s σ H xs us Q I r h;obtain ⟨p,bs,rfl,hq,q⟩:=h;obtain ⟨u,rfl,rx⟩:=qDK r;cases rx;obtain ⟨its,rv,pl,hz⟩:=I.list hq;have hl:=pl.isList;have hlt:p<s.heap.objs.size:=by obtain ⟨_,e,_⟩:=hl;exact B1 e
 have hlen:=rv.length;rw [A0] at hlen;refine call_any_walk (wpAny_pyIter_list hl ?_);refine ⟨s.heap.objs.size,[s.heap.objs.size,p],[s.heap.objs.size],its.toArray.size,_,_,fun i=>(bs[i]?).getD false,rfl,p8 (A:=X.A.in1) (I.ok.hd hc) _ p (C7 hlt) its.toArray,
  ⟨⟨_,B6 _ rfl,rfl,rfl⟩,hl.push _⟩,fun i v s' Q' E' hP hQ=>?_,fun h' tk hk=>?_⟩
 ·have hP':its[i]?=some v:=by simpa using hP
  have hi:i<bs.length:=by rw [hlen];exact (A3.mp hP').1
  obtain ⟨u,hu,ru⟩:=rv.get (i:=i) (x:=.bl bs[i]) (by rw [B7,A1 hi];rfl)
  rw [hP'] at hu;cases hu;cases ru;dsimp only at hQ;rw [A1 hi,U8] at hQ;exact wpAny_truthy_bool hQ
 ·have e:((I0 its.toArray.size).any fun i=>(bs[i]?).getD false)=bs.any id:=by
   rw [A7,<- hlen];exact qRV bs
  refine ⟨.bl (bs.any id),H,I.kept fun b x e=>hk b x (fun hm=>by rw [A4.mp hm] at e;exact T5 _ (B1 e)) (A2 _ e),?_,q⟩
  rw [e]
  rfl
theorem qVN {K:PySem.W.Frag} (hK:X.K=K) (hc:X.calm=true):qCW X (.builtin "any") (fun xs H Q=>∃ (p:Addr) (bs:List Bool),xs=[.ref p]/\SqL K H p (bs.map V.bl)/\Q (.bl (bs.any id)) H):=by subst hK;exact qMK hc
end
section
variable {prog:Program} {w:World} {A:Around} {E:Value->Shared->Prop} {s:Shared}
end
section
variable {X:Cx}
end
end L2
namespace HT
open PySem PySem.Spec PyProof.Rows
section
variable {prog:Program} {w:World} {A:Around} {E:Value->Shared->Prop} {s:Shared}
end
end HT
namespace L2
open PySem PySem.Spec PyProof.Rows
section
variable {X:Cx}
end
section
variable {A:Around} {s:Shared}
end
section
variable {X:Cx}
end
section
variable {X:Cx} {e:Expr} {te:TE} {st:Option Expr} {tst:TO} {pos p2:Pos}
def tSlR (K:PySem.W.Frag) (te:TE) (tst:TO):TE:=fun σ H Q=>te σ H fun x H1=>tst σ H1 fun l H2=>l=some (-1)/\∃ a xs,x=.ref a/\SqL K H2 a xs/\∀ p,H2 p=none->Q (.ref p) (upd H2 p (.lst xs.reverse))
theorem qTO (he:PE X e te) (hst:PO X st tst) (hop:∀ v l:Value,∃ ops,subscripted (.Slice none none st p2) false v l=operate ops (getItem v l):=by intro v l;exact ⟨_,by with_unfolding_all rfl⟩):PE X (.Subscript e (.Slice none none st p2) pos) (tSlR X.K te tst):=by
 intro Ab s σ H Q I h;refine Subscript_ (thn (he Ab s σ H _ I h) fun v s1 ⟨x,H1,I1,r1,q1⟩=>?_);refine wpAny_Slice ?_;rw [evalPart_none];refine wpAny_pure (wpAny_pure (thn (hst Ab s1 σ H1 _ I1 q1) fun vk s3 ⟨u,H3,I3,pu,q3⟩=>?_));obtain ⟨rfl,a,xs,rfl,hx,q⟩:=q3;cases r1;have I4:Inv X Ab σ H3 { s3 with heap:=s3.heap.push { cls:=.type "slice",data:=.fields #[.none,.none,vk] } }:=I3.kept (t':=s3.toks) fun b ob q=>A2 _ q;obtain ⟨its,r,ht,hz⟩:=I4.list hx;have hlen:=r.length;have hsl:Heap.IsSliceOf (s3.heap.push { cls:=.type "slice",data:=.fields #[.none,.none,vk] }) s3.heap.objs.size .none .none vk:=A38 ..;obtain ⟨ops,hops⟩:=hop (.ref a) (.ref s3.heap.objs.size);refine tail_any (ops:=ops) ht.isList.typeIs slot_list_getitem.lookup ?_ hops;refine wpAny_getItem_list_slice ht.isList hsl .none .none pu (by simp) ?_ (by rw [A7] <;> omega)
 rw [PySem.W.krv_pick,show its.toArray.toList.reverse.toArray=its.reverse.toArray by simp]
 refine ⟨.ref _,_,I4.laid (t':=s3.toks) (o:=.lst xs.reverse) (fun b ob q=>A2 _ q) (B0 _) ?_,rfl,q _ (I4.hok.fresh (B0 _))⟩;exact ⟨by rw [l9];exact hz,_,0,r.reverse,B6 _ rfl⟩
end
section
variable {X:Cx}
end
section
variable {prog:Program} {w:World} {A:Around} {E:Value->Shared->Prop} {s:Shared}
end
section
variable {X:Cx}
theorem qKA (a:Value):argsOk "list.sort" ⟨[a],[(D3 "reverse",.bool true)]⟩:=by unfold argsOk;kernel_rfl
theorem qP2 (a d:Value):argsOk "sorted" ⟨[a],[(D3 "reverse",d)]⟩:=by unfold argsOk;kernel_rfl
theorem qJ6:∀ (as:List Addr),Vals (as.map V.ref) (as.map C9)
 | []=>.nil
 | _::as=>.cons rfl (qJ6 as)
end
section
variable {prog:Program} {w:World} {A:Around} {R:Result->Shared->Prop} {h:Heap} {g:Array GenState} {d:Drawn} {t:Nat} {os:OsState} {K:PySem.W.Frag} {C fI:Addr} {rest:List Value}
end
section
variable {X:Cx}
def TB:Type:=(St->XK)->TS
end
section
variable {prog:Program} {w:World} {A:Around} {E:Value->Shared->Prop} {s:Shared}
end
section
variable {X:Cx} {pos:Pos}
end
section
variable {X:Cx} {tg:Expr}
end
section
variable {prog:Program} {w:World} {A:Around} {E:Value->Shared->Prop} {s:Shared} {it d:Addr} {i n ep:Nat} {od:Obj} {es:Array DictEntry}
end
section
variable {X:Cx} {tg:Expr}
end
section
variable {X:Cx} {k v:Expr} {tk tv:TE} {pos:Pos}
end
theorem qVZ {p:Pos} {a b:Int} {c cv:Value}:∀ {l:List Value},TriplesOk l->codeAmong p (l++[rawInt a,rawInt b,c])=some cv->codeAmong p l=some cv\/cv=c:=by
 intro l h e
 fun_induction TriplesOk l with
 | case1=>
  simp only [k8,rawInt,codeAmong] at e
  split at e
  ·exact .inr (D5 e).symm
  ·cases e
 | case2 a' t b' u x rest ih=>
  simp only [Q7,codeAmong] at e ⊢
  split at e
  ·rename_i hc
   rw [if_pos hc];exact .inl e
  ·rename_i hc
   rw [if_neg hc];exact ih h e
 | case3 l h1 h2=>exact h.elim
def BM (mg:Str->Option Value) (h:Heap):Prop:=∃ bm ob,mg "__builtins__" = some (.ref bm)/\bm ≠ builtinsNs/\h.get? bm=some ob/\ob.cls=.type "module"/\ob.dict=some builtinsNs/\ob.data=.plain
section
variable {X:Cx} {Ab:List (Addr × Obj)} {σ:St} {H:Hp} {s:Shared}
abbrev lamO (X:Cx) (q:Str) (params:Arguments) (body:Expr) (scope:Scope) (cc:Addr) (ctv:Value):Obj:=
 { cls:=.type "function",data:=.func (R0 "<lambda>" q params body scope (qHC X.env scope.names []) ((X.mg "__name__").getD .none) (.ref cc) ctv) }
theorem qbO {params:Arguments} {body:Expr} {scope:Scope} {pos:Pos} {c P:Addr} {q:Str} {Q:Value->Shared->Prop} {E:Value->Shared->Prop}
  (I:Inv X Ab σ H s) (hb:BM X.mg X.base) (hcode:X.env.code=.ref c) (C:PySem.W.CodeHd X.base c P) (hP:H P=some (.tbl (.tab q))) (hq:X.env.qual ++ "<lambda>" = q)
  (hfr:∀ x,(x,O0) ∈ scope.names->∃ c,X.env.cells.lookup x=some c) (hdef:defaultsOf params X.env=([],[]))
  (h:∀ (f cc:Addr) (ctv:Value) (s':Shared) (H':Hp),Inv X Ab σ H' s'->(∀ b o,H b=some o->H' b=some o)->H' cc=some (.tbl (.cod q))->
   s'.heap.get? f=some (lamO X q params body scope cc ctv)->s.heap.objs.size<=f->H' f=none->Q (.ref f) s') :
  wpAny (model X.prog X.w) X.A (eval (.Lambda params body scope pos) X.env) Q E s:=by
 obtain ⟨more,hPo,tr,ent⟩:=(show ObjOk X.prog X.w H s.heap P (.tbl (.tab q)) from I.hok P _ hP);have hg:s.heap.Ns mainGlobals X.mg:=I.ok.mod.glob.keeps I.bk;have nP:∀ b o,X.base.get? b=some o->b ≠ P:=fun b o e z=>by
  have:=(I.bs b o e).2;rw [z,hP] at this;cases this
 have hgP:mainGlobals ≠ P:=by
  obtain ⟨o,es,ep,e,_⟩:=I.ok.mod.glob;exact nP _ _ e
 have hbP:s.heap.BuiltinsAt X.mg P:=by
  obtain ⟨bm,ob,b1,b2,b3,b4,b5,b6⟩:=hb;refine ⟨bm,ob,b1,b2,?_,nP _ _ b3,I.bk _ _ b3,b4,b5,b6⟩;rintro rfl;obtain ⟨o,es,ep,e,hd,_⟩:=I.ok.mod.glob;rw [e] at b3;cases b3;rw [hd] at b6;cases b6
 refine PySem.W.kla_eval hdef ?_;rw [hq];cases hca:codeAmong pos more.toList with
 | some cv=>
  obtain ⟨cc,rfl,hcc⟩:=ent pos cv hca;refine PySem.W.kla_makeFunctionHit (qHQ hfr) I.ok.glob hg hcode (C.keeps I.bk) hPo tr hca hbP fun ctv h' tk hk hsz=>?_;exact h h'.objs.size cc ctv _ H (I.kept (t':=tk) fun b u e=>A2 _ (hk b u e)) (fun _ _ z=>z) hcc (B6 _ rfl) hsz (I.hok.fresh hsz)
 | none=>
  refine PySem.W.kla_makeFunction (qHQ hfr) I.ok.glob hg hcode (C.keeps I.bk) hPo tr hca hgP hbP fun c' ctv h' tk hx hge hlt hrec htb=>?_;have hc0:H c'=none:=I.hok.fresh hge;have up:∀ b o,H b=some o->(upd H c' (.tbl (.cod q))) b=some o:=fun b o e=>by rw [qA8 (qA5 e hc0)];exact e
  have neP:∀ b,H b=none->b ≠ P:=fun b n z=>by rw [z,hP] at n;cases n
  have I':Inv X Ab σ (upd H c' (.tbl (.cod q))) { s with heap:=h'.push (lamO X q params body scope c' ctv),toks:=tk }:=by
   refine I.step (g':=s.gens) (d':=s.drawn) (ch:=[]) (fun _ z=>nomatch z) (fun b o _ _ _ e n=>A2 _ (hx b o (neP b n) e)) (fun b o _ _ _ e n=>⟨o.slots,A2 _ (hx b o (neP b n) e)⟩)
    (fun b o _ e n=>by rw [qA8 (C7 (D9 (B1 e) hge))];exact n) (fun b o _ e=>?_) (fun b xs e=>up _ _ e) (fun b o u e=>up _ _ e) (fun b t e=>up _ _ e) (fun m hm=>(hm.extBut hx (neP _ I.free)).push _) (fun b u e=>?_) I.bare
   ·by_cases hb':b=P
    ·exact ⟨_,A2 _ (hb' ▸ htb)⟩
    ·exact ⟨o,A2 _ (hx b o hb' e)⟩
   ·by_cases hbc:b=c'
    ·subst hbc;rw [qA1] at e;cases e;obtain ⟨c₂,oc,vs,t,e2,hoc,r⟩:=hrec;cases e2;exact ⟨b,oc,vs,t,rfl,A2 _ hoc,r⟩
    ·rw [qA8 hbc] at e;by_cases hb':b=P
     ·subst hb';rw [hP] at e;cases e;refine ⟨_,A2 _ htb,?_,fun pos' cv z=>?_⟩
      ·rw [A29];exact TriplesOk_snoc _ _ _ _ tr
      ·rw [A29] at z;rcases qVZ tr z with z | z
       ·obtain ⟨c2,e1,e2⟩:=ent pos' cv z;exact ⟨c2,e1,up _ _ e2⟩
       ·exact ⟨c',z,qA1⟩
     ·refine (I.hok b u e).stay (fun c2 v hc2 z=>A2 _ (hx c2 v ?_ z)) (fun c2 z=>up _ _ z) (fun c2 xs z=>up _ _ z) fun c2 t z=>up _ _ z;rcases hc2 with z | z
      ·rw [z];exact hb'
      ·intro z2;rw [z2,hP] at z;cases z
  exact h h'.objs.size c' ctv _ _ I' up qA1 (B6 _ rfl) (by omega) (by rw [qA8 (R3 hlt)];exact I.hok.fresh (by omega))
structure LmScope (X:Cx) (scope:Scope) (p:Str) (fv:List Nat):Prop where
 kind:scope.kind=.function
 co:scope.isCoroutine=false
 gen:scope.isGenerator=false
 nocell:∀ y ∈ scope.names,y.2 ≠ .cell
 par:scope.names.lookup p=some .local
 free:∀ y ∈ scope.names,y.2=.free->X.env.kindOf y.1=some .cell\/X.env.kindOf y.1=some .free
 fvs:∀ i ∈ fv,i<X.N.length/\scope.names.lookup (X.N.getD i R8)=some .free
structure LmZ where
 A:Around
 f:Addr
 cd:Value
 s₀:Shared
 H₀:Hp
 rm:Room 0 A
abbrev qZD (X:Cx) (scope:Scope) (q:Str) (z:LmZ):Env:=PySem.W.envX q scope z.s₀.heap.objs.size z.f z.cd (qHC X.env scope.names [])
def lmCx (X:Cx) (scope:Scope) (p:Str) (fv:List Nat) (q:Str) (z:LmZ):Cx where
 prog:=X.prog
 w:=X.w
 K:=X.K
 mg:=X.mg
 base:=X.base
 A:=z.A.deeper (qZD X scope q z)
 N:=p::fv.map fun i=>X.N.getD i R8
 s₀:=z.s₀
 H₀:=z.H₀
 env:=qZD X scope q z
 outer:=X.stack
 stack:=qZD X scope q z::X.stack
 ex:=[]
 fn:=fun _=>false
 calm:=true
 pn:=[]
 xe:=noX
theorem LmScope.fr {scope:Scope} {p:Str} {fv:List Nat} (S:LmScope X scope p fv) (I:Inv X Ab σ H s):∀ x,(x,O0) ∈ scope.names->∃ c,X.env.cells.lookup x=some c:=fun x hx=>I.ok.has x (S.free _ hx rfl)
theorem qcL {scope:Scope} {p:Str} {fv:List Nat} {q:Str} {A:Around} {f:Addr} {cd:Value} (rm:Room 0 A) (I:Inv X Ab σ H s) (S:LmScope X scope p fv) (hA:A.frames=some X.stack) :
  (lmCx X scope p fv q ⟨A,f,cd,s,H,rm⟩).Ok:=by
 have hfr:=S.fr I;have sub:=qFK (env:=X.env) (names:=scope.names) (acc:=[]) hfr (fun x c z=>by simp at z)
 have noA:∀ b:Addr,b ∉ (lmCx X scope p fv q ⟨A,f,cd,s,H,rm⟩).ex:=fun b z=>absurd (show b ∈ ([]:List Addr) from z) (by simp)
 refine ⟨I.ok.mod,S.kind,rfl,rfl,B0 _,fun x y c h1 h2=>I.ok.inj x y c (sub _ _ h1) (sub _ _ h2),fun x hx=>?_,fun x c hx=>(nomatch hx),fun _=>rm.hd,A18 hA,.inr ⟨rfl,rfl⟩,fun b z=>absurd z (noA b),I.bs,L6 I.ok.bsz I.sz,fun b _ _=>noA b,fun b z=>absurd z (noA b),I.stack,I.stkFree⟩;have hx':scope.names.lookup x=some .cell\/scope.names.lookup x=some .free:=hx;rcases hx' with z | z
 ·exact absurd rfl (S.nocell _ (M9 z))
 ·exact qFL (.inl (M9 z))
def qGB (fv:List Nat) (σ:St) (x:V):St:=some x::fv.map fun i=>(σ[i]?).join
theorem qWX {scope:Scope} {p:Str} {fv:List Nat} {q:Str} {A:Around} {f:Addr} {cd:Value} {x:V} {u:Value} {h₁:Heap} {tk:Nat} (rm:Room 0 A) (I:Inv X Ab σ H s) (S:LmScope X scope p fv) (hA:A.frames=some X.stack) (hx:RelV x u)
  (hns:h₁.Ns s.heap.objs.size (fun y=>[(p,u)].reverse.lookup y)) (hk:∀ b o,s.heap.get? b=some o->h₁.get? b=some o) :
  Inv (lmCx X scope p fv q ⟨A,f,cd,s,H,rm⟩) [] (qGB fv σ x) H { s with heap:=h₁,toks:=tk }:=by
 have hfr:=S.fr I;have sub:=qFK (env:=X.env) (names:=scope.names) (acc:=[]) hfr (fun x c z=>by simp at z)
 refine ⟨qcL rm I S hA,rfl,I.bare,Un.kept hk,⟨_,hns,fun i y v h1 h2 h3=>?_⟩,fun y c e=>?_,I.hok.fresh (B0 _),fun y c e=>I.freeC y c (sub _ _ e),fun p hp=>absurd (show p ∈ ([]:List (Addr × Obj)) from hp) (by simp),I.hok.kept hk,?_⟩
 ·have h1:(p::fv.map fun i=>X.N.getD i R8)[i]?=some y:=h1;unfold qGB at h2;cases i with
  | zero=>
   cases h1;cases h2;refine ⟨u,hx,.inl ⟨S.par,?_⟩⟩;simp
  | succ i=>
   rw [List.getElem?_cons_succ,B7] at h1 h2;cases e:fv[i]? with
   | none=>rw [e] at h1;cases h1
   | some j=>
    rw [e] at h1 h2;have hj:=S.fvs j (B8 e);have h1:X.N.getD j R8=y:=D5 h1;have h2:(σ[j]?).join=some v:=D5 h2;have h2':σ[j]?=some (some v):=by
     cases q:σ[j]? with
     | none=>rw [q] at h2;cases h2
     | some y=>rw [q] at h2;exact congrArg some h2
    have hxn:X.N[j]?=some y:=by
     rw [P6] at h1;rw [A1 hj.1] at h1 ⊢;exact congrArg some h1
    have hlk:scope.names.lookup y=some .free:=h1 ▸ hj.2;have hmem:=M9 hlk;obtain ⟨m,hn,hl⟩:=id I.loc;have hkd:=S.free _ hmem rfl;obtain ⟨u,ru,lk⟩:=hl j y v hxn h2' (by
     rcases hkd with z | z
     ·exact .inr (.inl z)
     ·exact .inr (.inr z))
    refine ⟨u,ru,?_⟩;rcases lk with ⟨z,_⟩ | ⟨_,c,e1,z⟩
    ·rcases hkd with y' | y'
     ·have y':X.env.kindOf y=some .cell:=y';rw [z] at y';cases y'
     ·have y':X.env.kindOf y=some .free:=y';rw [z] at y';cases y'
    ·obtain ⟨c',e2⟩:=qFL (env:=X.env) (names:=scope.names) (acc:=[]) (x:=y) (.inl hmem);have e3:=sub _ _ e2;rw [e1] at e3;cases e3;obtain ⟨o,ho,hd⟩:=z;exact .inr ⟨.inr hlk,c,e2,o,hk _ _ ho,hd⟩
 ·obtain ⟨v,o,ho,hd⟩:=I.cell y c (sub _ _ e);exact ⟨v,o,hk _ _ ho,hd⟩
 ·unfold qGB;show _=(p::fv.map fun i=>X.N.getD i R8).length;simp
theorem qR5 {params:Arguments} {body:Expr} {scope:Scope} {p:Str} {fv:List Nat} {q:Str} {A:Around} {f cc:Addr} {ctv u:Value} {x:V} {te:TE} {Q:VK} (rm:Room 0 A) (I:Inv X Ab σ H s) (S:LmScope X scope p fv) (hA:A.frames=some X.stack)
  (hf:s.heap.get? f=some (lamO X q params body scope cc ctv)) (hcc:H cc=some (.tbl (.cod q))) (hx:RelV x u)
  (hbind:∀ (cl:List (Str × Addr)) (pm cd ct u:Value),bindArgs (R0 "<lambda>" q params body scope cl pm cd ct) ⟨[u],[]⟩=pure [(p,u)])
  (he:∀ z,PE (lmCx X scope p fv q z) body te) (h:te (qGB fv σ x) H Q) :
  codeAny (model X.prog X.w) A (.call (.ref f) ⟨[u],[]⟩) (fun r s'=>∃ v y H',r=.ok (.ret v)/\Inv X Ab σ H' s'/\RelV y v/\Q y H'/\Un (frs X.stack) [] H H' s.heap s'.heap) s:=by
 have hrec:s.heap.CodeRec (.ref cc) q:=(show ObjOk X.prog X.w H s.heap cc (.tbl (.cod q)) from I.hok cc _ hcc);refine PySem.W.kla_callFunE rm.depth hf rfl S.co S.gen rfl hrec ?_;rw [hbind];refine wpAny_pure (wpAny_newFunctionEnv S.nocell (fun y hy=>?_) (fun h₁ hns hsb=>⟨I.nolimit.fresh _ hsb,?_⟩) S.kind)
 ·rw [A4.mp hy];exact S.par
 have hk₁:∀ b o,s.heap.get? b=some o->h₁.get? b=some o:=fun b o e=>hsb.extBut b o (C7 (B1 e)) (A2 _ e);refine PySem.W.kla_codeExpr ?_;have J:=qWX (q:=q) (f:=f) (cd:=.ref cc) (tk:=s.toks+[(p,u)].length) rm I S hA hx hns hk₁;refine wpAny_mono ((he ⟨A,f,.ref cc,s,H,rm⟩) [] _ _ H Q J h) (fun v s' ⟨y,H',J',ry,qy⟩=>?_) fun _ _ z=>z.elim;exact ⟨v,y,H',rfl,I.call' (ch:=[]) J'.os J'.base J'.hok J'.bare (fun b hb=>absurd hb (by simp)),ry,qy,J'.base⟩
end
abbrev Sm0 (H H':Hp):Prop:=∀ b o,H b=some o->H' b=some o
section
variable {X:Cx}
def LamF (X:Cx) (q:Str) (params:Arguments) (body:Expr) (scope:Scope) (cc:Addr) (ctv:Value) (f:Addr):HO:=.ext fun h=>h.get? f=some (lamO X q params body scope cc ctv)
def tLam (X:Cx) (P:Addr) (q:Str) (params:Arguments) (body:Expr) (scope:Scope):TE:=fun σ H Q=>H P=some (.tbl (.tab q))/\
 ∀ f cc ctv H',Sm0 H H'->H f=none->H' f=some (LamF X q params body scope cc ctv f)->H' cc=some (.tbl (.cod q))->Q (.ref f) H'
theorem qXX {params:Arguments} {body:Expr} {scope:Scope} {pos:Pos} {c P:Addr} {q:Str} {p:Str} {fv:List Nat} (hb:BM X.mg X.base) (hcode:X.env.code=.ref c) (C:PySem.W.CodeHd X.base c P) (hq:X.env.qual ++ "<lambda>" = q)
  (S:LmScope X scope p fv) (hdef:defaultsOf params X.env=([],[])):PE X (.Lambda params body scope pos) (tLam X P q params body scope):=by
 intro Ab s σ H Q I ⟨hP,h⟩;refine qbO I hb hcode C hP hq (S.fr I) hdef fun f cc ctv s' H' I' sm hcc hf hsz hn=>?_;have hf0:H f=none:=I.hok.fresh hsz;have ncf:cc ≠ f:=qA5 hcc hn
 -- f is tracked from now on
 have hF:X.s₀.heap.objs.size<=f:=L6 I.sz hsz;have I2:Inv X Ab σ (upd H' f (LamF X q params body scope cc ctv f)) s':=by
  refine I'.track hn hF (R3 (D9 I.lt hsz)) (fun x c e z=>?_) (fun p hp z=>?_) ⟨hf,⟨_,hf⟩,fun h1 h2 x k=>k _ x⟩
  ·obtain ⟨v,hc⟩:=I.cell x c e;exact absurd (D9 hc.lt (by rw [z];exact hsz)) (T5 _)
  ·exact absurd (D9 (B1 (I.pin p hp).1) (by rw [z];exact hsz)) (T5 _)
 refine ⟨.ref f,_,I2,rfl,h f cc ctv _ (fun b o e=>?_) hf0 qA1 (by rw [qA8 ncf];exact hcc)⟩
 rw [qA8 (qA5 e hf0)];exact sm b o e
structure KCmp (X:Cx) (KR:Hp->V->List Int->Prop):Prop where
 mono:∀ H H' y k,Sm0 H H'->KR H y k->KR H' y k
 cmp:∀ (Ab:List (Addr × Obj)) (σ:St) (s:Shared) (H:Hp) (y y':V) (u u':Value) (k k':List Int) (Q:Value->Shared->Prop) (E:Value->Shared->Prop),Inv X Ab σ H s->RelV y u->RelV y' u'->KR H y k->KR H y' k'->Q (.bool (HT.lexLt k k')) s->
  wpAny (model X.prog X.w) X.A.in1 (richCompare .Lt u u') Q E s
theorem Inv.fpStk {Ab:List (Addr × Obj)} {σ:St} {H:Hp} {s:Shared} {b:Addr} (I:Inv X Ab σ H s) (f:FpOk X Ab H b):b ∉ frs X.stack:=fun z=>by
 rcases B5.mp (I.stkSub b z) with e | e
 ·exact f.2.1 e
 ·exact f.2.2.1 e
theorem FpOk.to {Ab:List (Addr × Obj)} {H H':Hp} {b:Addr} (f:FpOk X Ab H b) (h:H' b=none):FpOk X Ab H' b:=⟨h,f.2⟩
structure KeyAt (X:Cx) (σ:St) (fv:List Nat) (te:TE) (KR:Hp->V->List Int->Prop) (H0:Hp) (xs:List V) (ks:List (List Int)):Prop where
 len:ks.length=xs.length
 key:∀ (i:Nat) (x:V) (k:List Int),xs[i]?=some x->ks[i]?=some k->∀ Hc,Sm0 H0 Hc->te (qGB fv σ x) Hc fun y H'=>Sm0 Hc H'/\KR H' y k
section
variable {Ab:List (Addr × Obj)} {σ:St} {params:Arguments} {body:Expr} {scope:Scope} {p:Str} {fv:List Nat} {q:Str} {te:TE} {KR:Hp->V->List Int->Prop} {l f cc:Addr} {ctv:Value} {H0:Hp} {xs:List V} {ks:List (List Int)} {Q:VK}
end
end
def KR1 (H:Hp) (y:V) (k:List Int):Prop:=∃ r,y=.ref r/\H r=some (.tup (k.map V.int))
def hdIn (K:PySem.W.Frag) (c P:Addr):Bool:=match K.lookup c with
 | some ⟨.type n,_,.fields vs,_⟩=>decide (n = "code") && decide (c ≠ P) && (match (vs[11]?:Option Value),vs.getD 11 .none with | some (.ref a),.ref b=>decide (a=P) && decide (b=P) | _,_=>false) &&
   (match vs.getD 18 .none,vs.getD 7 .none,vs.getD 9 .none,vs.getD 10 .none with | .str _ _,.int _ _,.bool _,.int _ _=>true | _,_,_,_=>false)
 | _=>false
theorem qOL {K:PySem.W.Frag} {h:Heap} {c P:Addr} (X:K.In h) (hd:hdIn K c P=true):PySem.W.CodeHd h c P:=by
 unfold hdIn at hd
 split at hd
 ·rename_i n dd vs sl hl
  rw [P4,P4,P4] at hd;obtain ⟨⟨⟨h1,h2⟩,h3⟩,h4⟩:=hd
  split at h3
  ·rename_i a b e1 e2
   rw [P4,decide_eq_true_eq,decide_eq_true_eq] at h3;obtain ⟨rfl,rfl⟩:=h3
   split at h4
   ·rename_i f t fl tg inF text tt g1 g2 g3 g4
    exact ⟨_,vs,_,_,_,_,_,_,_,X _ _ hl,by rw [of_decide_eq_true h1],rfl,e1,e2,g1,g2,g3,g4,of_decide_eq_true h2⟩
   ·cases h4
  ·cases h3
 ·cases hd
section
variable {X:Cx}
end
theorem Fun.okL {P:Program} {w:World} {K:PySem.W.Frag} {mg:Str->Option Value} {base:Heap} {x qual:Str} {st:Stmt} {f:Addr} {fd:FuncData} {N ps:List Str} {k:Nat} {sp:Sp} {c:Addr} (F:Fun K x qual st f fd) (hc:fd.code=.ref c) (S:FnScope N ps (qAE st)) (len:∀ vs H Q E,sp vs H Q E->vs.length=ps.length)
  (hbody:∀ (A:Around) (outer:List Env) (s:Shared) (H:Hp) (vs:List V) (Q:VK) (E:XK),Room k (A.deeper (envOfC qual (qAE st) s.heap.objs.size f (.ref c)))->sp vs H Q E->
   ∃ t,PSs (cxOf CX0 P w K mg base N qual (qAE st) f (.ref c) A outer s H E).nox (qEE st) t/\t { nx:=fun _ H'=>Q .non H',rt:=Q } (qLK N vs) H):FnOk P w K mg base CX0 (k+1) f fd ps sp:=by
 obtain ⟨oc,od,kV,doc,pm,an,cdv,ct,osl,rfl,lk,hcd⟩:=F.ex;have e:cdv=.ref c:=hc;subst e;refine qbN lk hcd S len fun A outer s H vs Q E hr hsp=>?_;obtain ⟨t,h,q⟩:=hbody A outer s H vs Q E hr hsp;exact ⟨t,h.nox,q⟩
def qUE (scope:Scope) (p:Str) (fv:List Nat) (osc:Scope) (N:List Str):Bool:=
 decide (scope.kind=.function) && decide (scope.isCoroutine=false) && decide (scope.isGenerator=false) && scope.names.all (fun y=>decide (y.2 ≠ .cell)) && decide (scope.names.lookup p=some .local) &&
 scope.names.all (fun y=>decide (y.2 ≠ .free) || (decide (osc.names.lookup y.1=some .cell) || decide (osc.names.lookup y.1=some .free))) && fv.all fun i=>decide (i<N.length) && decide (scope.names.lookup (N.getD i R8)=some .free)
theorem lms {X:Cx} {scope:Scope} {p:Str} {fv:List Nat} (h:qUE scope p fv X.env.scope X.N=true):LmScope X scope p fv:=by
 unfold qUE at h;simp only [P4,decide_eq_true_eq,O2,Y0] at h;obtain ⟨⟨⟨⟨⟨⟨h1,h2⟩,h3⟩,h4⟩,h5⟩,h6⟩,h7⟩:=h;refine ⟨h1,h2,h3,h4,h5,fun y hy hf=>?_,h7⟩;rcases h6 y hy with z | z
 ·exact absurd hf z
 ·exact z
structure LTab where
 x:Str
 c:Addr
 P:Addr
 q:Str
def qbT (tabs:List LTab) (H:Hp):Prop:=∀ t ∈ tabs,H t.P=some (.tbl (.tab t.q))
def entH (a:Addr) (o:Obj) (xs:List V) (ina:Bool) (tabs:List LTab):Hp:=fun b=>if ina=true/\b=a then some (.frz o (.lst xs)) else (tabs.find? fun t=>decide (t.P=b)).map fun t=>.tbl (.tab t.q)
theorem qUH {P:Program} {w:World} {K:PySem.W.Frag} {mg mb:Str->Option Value} {k:Nat} {fa a:Addr} {fd:FuncData} {x:Str} {sp:Sp} {s₁:Shared} {vs:List Value} {ns:List Int} (tabs:List LTab)
  (KX:K.In s₁.heap) (hns:s₁.heap.Ns mainGlobals mg) (hb:s₁.heap.Ns builtinsNs mb) (hbb:∀ x:Str,x ≠ "__name__"->mb x=bootBuiltins x) (hlim:s₁.heap.NoLimit) (hg:s₁.gens=#[])
  (ha:s₁.heap.get? a=some { cls:=.type "list",data:=.seq vs.toArray }) (hi:IntsAre vs ns) (hl:ns.length<=sizeLine) (hr:Room k callerA) (hbm:BM mg s₁.heap)
  (htab:∀ t ∈ tabs,PySem.W.CodeHd s₁.heap t.c t.P/\s₁.heap.get? t.P=some (A78 #[])) (hK:A25 K=true) (hone:∀ t ∈ tabs,∀ t' ∈ tabs,t.P=t'.P->t.q=t'.q)
  (F:∀ base:Heap,K.In base->base.Ns mainGlobals mg->BM mg base->FnOk P w K mg base CX0 k fa fd [x] sp) (hbind:∀ (s:Shared) (u:Value),BindsTo s fd ⟨[u],[]⟩ [(x,u)])
  (hsp:∀ H:Hp,qbT tabs H->SqL K H a (ns.map V.int)->sp [.ref a] H (fun v _=>v=.bl true) fun _ _ _=>False) :
  codeAny (model P w) callerA (.call (.ref fa) ⟨[.ref a],[]⟩) (fun r s'=>r=.ok (.ret (.bool true))/\OldK s₁.heap s'.heap/\s'.os=s₁.os/\AllBare s'.gens) s₁:=by
 have rv:=qJ7 hi;have lenV:=hi.length;have naP:∀ t ∈ tabs,t.P ≠ a:=fun t ht z=>by
  have:=(htab t ht).2;rw [z,ha] at this;cases this
 have KnP:∀ t ∈ tabs,K.lookup t.P=none:=fun t ht=>by
  cases e:K.lookup t.P with
  | none=>rfl
  | some o=>
   have e2:=KX _ _ e;rw [(htab t ht).2] at e2;cases e2;have h2:=O2.mp hK _ (PySem.W.mem_of_lookupK e);exact absurd (show false=true from h2) C5
 obtain ⟨ina,hina⟩:∃ ina:Bool,(ina=true ↔ K.lookup a=none):=by
  cases e:K.lookup a with
  | none=>exact ⟨true,by simp⟩
  | some o=>exact ⟨false,by simp⟩
 -- the heap's description
 let o0:Obj:={ cls:=.type "list",data:=.seq vs.toArray }
 have hdef:∀ b u,entH a o0 (ns.map V.int) ina tabs b=some u->(ina=true/\b=a/\u=.frz o0 (.lst (ns.map V.int)))\/∃ t ∈ tabs,t.P=b/\u=.tbl (.tab t.q):=fun b u e=>by
  unfold entH at e
  split at e
  ·rename_i c
   cases e;exact .inl ⟨c.1,c.2,rfl⟩
  ·cases e2:tabs.find? (fun t=>decide (t.P=b)) with
   | none=>rw [e2] at e;cases e
   | some t=>
    rw [e2] at e;cases e;exact .inr ⟨t,o5 e2,of_decide_eq_true (A71 (p:=fun t:LTab=>decide (t.P=b)) e2),rfl⟩
 have htb:∀ t ∈ tabs,entH a o0 (ns.map V.int) ina tabs t.P=some (.tbl (.tab t.q)):=fun t ht=>by
  unfold entH;rw [if_neg fun z=>naP t ht z.2];cases e2:tabs.find? (fun t'=>decide (t'.P=t.P)) with
  | none=>exact absurd (decide_eq_true (rfl:t.P=t.P)) (List.find?_eq_none.mp e2 t ht)
  | some t'=>
   have h1:=o5 e2;have h2:t'.P=t.P:=of_decide_eq_true (A71 (p:=fun t':LTab=>decide (t'.P=t.P)) e2);rw [R4,hone t' h1 t ht h2]
 generalize hH:entH a o0 (ns.map V.int) ina tabs=H at hdef htb;have hS:SqL K H a (ns.map V.int):=by
  cases e:K.lookup a with
  | none=>
   refine .inl (.inr ⟨o0,?_⟩);rw [<- hH];unfold entH;rw [if_pos ⟨hina.mpr e,rfl⟩]
  | some o=>
   have e2:=KX a o e;rw [ha] at e2;cases e2;exact .inr ⟨_,vs.toArray,_,e,rfl,rfl,rfl,by rw [A7,lenV];exact hl,by simpa using rv⟩
 have hok:HOk P w H s₁.heap:=fun b u e=>by
  rcases hdef b u e with ⟨_,rfl,rfl⟩ | ⟨t,ht,rfl,rfl⟩
  ·exact ⟨ha,by rw [A0];exact hl,vs,_,rv,ha⟩
  ·exact ⟨#[],(htab t ht).2,trivial,fun pos cv z=>by cases z⟩
 have base_of:∀ {b:Addr} {o:Obj},s₁.heap.get? b=some o->H b=none->(hidT s₁.heap H).get? b=some o:=fun e n=>qX7 e n;have noA:∀ {b:Addr} {o:Obj},s₁.heap.get? b=some o->(∀ xs n,o.data ≠ .seq xs n)->(∀ ps,o.data ≠ .fields ps)->H b=none:=fun {b o} e d1 d2=>by
  cases q:H b with
  | none=>rfl
  | some u=>
   rcases hdef b u q with ⟨_,rfl,_⟩ | ⟨t,ht,rfl,_⟩
   ·rw [ha] at e;cases e;exact absurd rfl (d1 _ _)
   ·rw [(htab t ht).2] at e;cases e;exact absurd rfl (d2 _)
 have nsK:∀ {b:Addr} {m:Str->Option Value},s₁.heap.Ns b m->(hidT s₁.heap H).Ns b m:=fun {b m} ⟨o,es,ep,e,d,r⟩=>⟨o,es,ep,base_of e (noA e (fun _ _ z=>by rw [d] at z;cases z) fun _ z=>by rw [d] at z;cases z),d,r⟩
 have hKb:K.In (hidT s₁.heap H):=fun b o e=>base_of (KX b o e) (by
  cases q:H b with
  | none=>rfl
  | some u=>
   rcases hdef b u q with ⟨h1,rfl,_⟩ | ⟨t,ht,rfl,_⟩
   ·rw [hina.mp h1] at e;cases e
   ·rw [KnP t ht] at e;cases e)
 have hBb:BM mg (hidT s₁.heap H):=by
  obtain ⟨bm,ob,b1,b2,b3,b4,b5,b6⟩:=hbm;exact ⟨bm,ob,b1,b2,base_of b3 (noA b3 (fun _ _ z=>by rw [b6] at z;cases z) fun _ z=>by rw [b6] at z;cases z),b4,b5,b6⟩
 have hM:Mod K mg (hidT s₁.heap H):=⟨hKb,nsK hns,⟨mb,nsK hb,hbb⟩,let ⟨mc,h1,h2⟩:=hlim;⟨mc,nsK h1,h2⟩⟩
 have e0:Env0 P w K mg (hidT s₁.heap H) callerA [] s₁ H:=⟨rfl,hM,fun b o e=>qZ4 e,A59 (qUR _ _),trivial,fun b hb=>absurd (show b ∈ ([]:List Addr) from hb) (by simp),hok,.of_eq hg⟩
 refine codeAny_mono ((F _ hKb (nsK hns) hBb).run callerA [] s₁ H ⟨[.ref a],[]⟩ [.ref a] [.ref a] _ _ hr e0 (hbind s₁ (.ref a)) (.cons rfl .nil) (hsp H htb hS)) fun r s' h=>?_;cases r with
 | error e=>exact X2 h
 | ok fl=>
  cases fl with
  | next=>exact X2 h
  | brk=>exact X2 h
  | cont=>exact X2 h
  | ret u=>
   obtain ⟨v,H',os,bare,un,hok',r',q⟩:=h;have q':v=.bl true:=q;subst q';obtain rfl:u=Q4 true:=r';have kept:∀ b o,s₁.heap.get? b=some o->s'.heap.get? b=some o\/∃ t ∈ tabs,t.P=b:=fun b o e=>by
    cases q:H b with
    | none=>exact .inl (un.keep b o e q (by intro z;exact absurd (show b ∈ ([]:List Addr) from z) (by simp)) (by simp))
    | some u=>
     rcases hdef b u q with ⟨_,rfl,rfl⟩ | ⟨t,ht,e1,_⟩
     ·have z2:=un.frzs b o0 _ q;obtain ⟨e1,_⟩:=hok b _ q;obtain ⟨e2,_⟩:=hok' b _ z2;rw [e] at e1;cases e1;exact .inl e2
     ·exact .inr ⟨t,ht,e1⟩
   have tabK:∀ t ∈ tabs,∃ more,s'.heap.get? t.P=some (A78 more):=fun t ht=>by
    obtain ⟨more,e,_⟩:=(show ObjOk P w H' s'.heap t.P (.tbl (.tab t.q)) from hok' t.P _ (un.tbls t.P _ (htb t ht)));exact ⟨more,e⟩
   refine ⟨rfl,⟨fun b o e=>?_,fun b o e=>?_⟩,os,bare⟩
   ·rcases kept b o e with z | ⟨t,ht,rfl⟩
    ·exact .inl z
    ·obtain ⟨more,em⟩:=tabK t ht;have e2:=(htab t ht).2;rw [e] at e2;cases e2;exact .inr (.inl ⟨((htab t ht).1.tab (htab t ht).2).isCodeTable,rfl,#[],more,rfl,by rw [em];simp⟩)
   ·rcases kept b o e with z | ⟨t,ht,rfl⟩
    ·exact ⟨_,z⟩
    ·obtain ⟨more,em⟩:=tabK t ht;exact ⟨_,em⟩
theorem walk_ofT {l:PySem.W.OpenLaw} {n k:Nat} {q:Program} {loose:List Str} {XP:(Str->Option Value)->Heap->Prop} {YP:World->Heap->Prop} {d:DefRec} {K:Params->PySem.W.Frag} {sp:World->Sp} {x:Str} (tabs:List LTab)
  (hn:l.most=some n) (hn2:n<=sizeLine) (hdf:d.params.defaults=[]) (hr:Room k callerA)
  (hY:∀ (w:World) (h:Heap),YP w h->(K w.params).In h)
  (hrec:∀ t ∈ tabs,((recsOf q).find? fun e=>e.name == t.x).isSome=true) (htab:∀ (w:World),∀ t ∈ tabs,A91 (K w.params) t.x=some (t.c,t.P)) (hK:∀ w:World,A25 (K w.params)=true) (hone:∀ t ∈ tabs,∀ t' ∈ tabs,t.P=t'.P->t.q=t'.q)
  (F:∀ (w:World) (mg:Str->Option Value) (fa:Addr) (h:Heap),(K w.params).In h->h.Ns mainGlobals mg->mg d.name=some (.ref fa)->
   ∃ fd:FuncData,(∀ (s:Shared) (u:Value),BindsTo s fd ⟨[u],[]⟩ [(x,u)])/\
    ∀ base:Heap,(K w.params).In base->base.Ns mainGlobals mg->BM mg base->FnOk l.prog w (K w.params) mg base CX0 k fa fd [x] (sp w))
  (hsp:∀ (w:World) (H:Hp) (a:Addr) (ns:List Int),ns.length<=n->qbT tabs H->SqL (K w.params) H a (ns.map V.int)->sp w [.ref a] H (fun v _=>v=.bl true) fun _ _ _=>False) :
  PySem.W.WalkO q loose XP YP l.row.toRowW d [] (fun f vs=>A84 f vs):=by
 refine Att.attach_call hn hdf fun w s₀ s₁ mg mb fa o pm cd doc a vs ns G Y ho hd hcd hmg hobj hints hlen hg=>?_;have KX:=hY w _ Y;obtain ⟨fd,hb,hF⟩:=F w mg fa _ KX G.T.g hmg;refine qUH tabs KX G.T.g G.T.b G.T.builtins G.T.nolimit hg hobj hints (L6 hlen hn2) hr G.T.bmain (fun t ht=>?_) (hK w) hone hF hb fun H hO hS=>hsp w H a ns hlen hO hS;obtain ⟨dd,hdd⟩:=W4.mp (hrec t ht);exact PySem.W.tab_of G.T KX hdd (htab w t ht)
section
variable {prog:Program} {w:World} {A:Around} {E:Value->Shared->Prop} {s:Shared}
end
section
variable {X:Cx}
end
section
open PySem.SeqAt
open PySem.AutoSeq1 (wpAny_loadPart')
open PySem.MeetsSeq PySem.MeetsSeq2 PySem.MeetsSeq3
end
section
variable {X:Cx}
end
end L2
namespace L2.G
open PySem PySem.Spec PyProof.Rows
section
variable [NM]
variable {prog:Program} {w:World} {A:Around} {E:Value->Shared->Prop} {s:Shared}
theorem qHK {vs:List Value}:∀ p ∈ (pairsOf vs).toList,p.1=p.2:=by
 intro p hp;unfold pairsOf at hp;rw [j6] at hp
 induction vs with
 | nil=>cases hp
 | cons v vs ih=>
  rcases B5.mp hp with h | h
  ·rw [h]
  ·exact ih h
theorem qNC (vs:List Value):(pairsOf vs).toList.map (·.2)=vs:=by
 unfold pairsOf;rw [j6,List.map_snd_zip (by simp)]
theorem qTT {vs:List Value} {xs:Array Keyed} (px:xs.Perm (pairsOf vs)) (sx:gSortedTo xs (pairsOf vs).size):(xs.map (·.2)).toList.Perm vs/\(xs.map (·.2)).toList.Pairwise (fun u v=>NM.nm u<=NM.nm v):=by
 have p2:=Q8.mp px
 constructor
 ·have:=p2.map (·.2);rw [qNC] at this;rw [j7];exact this
 ·rw [j7,F3,F0];intro i j hi hj hij;have hs:=px.size_eq;have hi2:i<xs.size:=by simpa using hi
  have hj2:j<xs.size:=by simpa using hj
  have a:=sx i j (R1 hij) (by omega)
  rw [qO4 hi2,qO4 hj2] at a;have ei:=qHK _ (p2.mem_iff.mp (show xs[i] ∈ xs.toList by simp))
  have ej:=qHK _ (p2.mem_iff.mp (show xs[j] ∈ xs.toList by simp))
  rw [ei,ej] at a;simpa using a
end
theorem lexLt_self:∀ a:List Int,HT.lexLt a a=false
 | []=>rfl
 | x::a=>by rw [HT.lexLt_cons,if_pos rfl];exact lexLt_self a
theorem qJR:∀ a b c:List Int,HT.lexLt a b=true->HT.lexLt b c=true->HT.lexLt a c=true
 | [],[],_,h,_=>by cases h
 | [],_::_,[],_,h=>by cases h
 | [],_::_,_::_,_,_=>rfl
 | _::_,[],_,h,_=>by cases h
 | _::_,_::_,[],_,h=>by cases h
 | x::a,y::b,z::c,h1,h2=>by
  rw [HT.lexLt_cons] at h1 h2 ⊢;by_cases e1:x=y
  ·subst e1;rw [if_pos rfl] at h1;by_cases e2:x=z
   ·rw [if_pos e2] at h2 ⊢;exact qJR a b c h1 h2
   ·rw [if_neg e2] at h2 ⊢;exact h2
  ·rw [if_neg e1] at h1;have h1:=of_decide_eq_true h1;by_cases e2:y=z
   ·subst e2;rw [if_neg e1];exact decide_eq_true h1
   ·rw [if_neg e2] at h2;have h2:=of_decide_eq_true h2;rw [if_neg (by omega)]
    exact decide_eq_true (by omega)
theorem qNO:∀ a b:List Int,HT.lexLt a b=false->HT.lexLt b a=false->a=b
 | [],[],_,_=>rfl
 | [],_::_,h,_=>by cases h
 | _::_,[],_,h=>by cases h
 | x::a,y::b,h1,h2=>by
  rw [HT.lexLt_cons] at h1 h2;by_cases e:x=y
  ·subst e;rw [if_pos rfl] at h1 h2;rw [qNO a b h1 h2]
  ·rw [if_neg e] at h1;rw [if_neg (fun z=>e z.symm)] at h2;have:=of_decide_eq_false h1;have:=of_decide_eq_false h2;omega
def qF4 (L:List (List Int)) (a:List Int):Int:=(((L.filter fun x=>HT.lexLt x a).length:Nat):Int)
theorem qGY {α:Type} {p q:α->Bool}:∀ {L:List α},(∀ x ∈ L,p x=true->q x=true)->(∃ x ∈ L,p x=false/\q x=true)->(L.filter p).length<(L.filter q).length
 | [],_,⟨x,hx,_⟩=>nomatch hx
 | y::L,h,⟨x,hx,h1,h2⟩=>by
  have le:∀ {M:List α},(∀ x ∈ M,p x=true->q x=true)->(M.filter p).length<=(M.filter q).length:=by
   intro M hM
   induction M with
   | nil=>exact B0 _
   | cons z M ih=>
    have i:=ih fun x hx=>hM x (A5 _ hx);rw [O1,O1];cases ep:p z
    ·cases q z
     ·simpa using i
     ·simp;omega
    ·rw [hM z (by simp) ep]
     simpa using i
  rw [O1,O1];rcases B5.mp hx with e | e
  ·subst e;have:=le fun x hx=>h x (A5 _ hx);rw [h1,h2];simp;omega
  ·have i:=qGY (fun x hx=>h x (A5 _ hx)) ⟨x,e,h1,h2⟩;cases ep:p y
   ·cases q y
    ·simpa using i
    ·simp;omega
   ·rw [h y (by simp) ep]
    simpa using i
theorem qTB {L:List (List Int)} {a b:List Int} (ha:a ∈ L) (h:HT.lexLt a b=true):qF4 L a<qF4 L b:=by
 unfold qF4;have:=qGY (p:=fun x=>HT.lexLt x a) (q:=fun x=>HT.lexLt x b) (L:=L) (fun x _ hx=>qJR _ _ _ hx h) ⟨a,ha,lexLt_self a,h⟩;omega
theorem qIR {L:List (List Int)} {a b:List Int} (ha:a ∈ L) (hb:b ∈ L):decide (qF4 L a<qF4 L b)=HT.lexLt a b:=by
 cases h:HT.lexLt a b with
 | true=>exact decide_eq_true (qTB ha h)
 | false=>
  refine decide_eq_false fun z=>?_;cases h2:HT.lexLt b a with
  | true=>have:=qTB hb h2;omega
  | false=>rw [qNO a b h h2] at z;omega
def qX1 (xs:List V):List Int:=xs.map fun | .int i=>i | _=>0
theorem qUP (t:List Int):qX1 (t.map V.int)=t:=by
 unfold qX1;rw [R7];exact (P0 fun x _=>rfl).trans (List.map_id _)
def keyH (H:Hp):Value->List Int
 | .ref r=>match H r with
  | some (.tup xs)=>qX1 xs
  | _=>[]
 | _=>[]
@[reducible] def tupNM (H:Hp) (L:List (List Int)):NM:=⟨fun v=>qF4 L (keyH H v),fun v=>∃ r t,v=.ref r/\H r=some (.tup (t.map V.int))/\t ∈ L⟩
theorem qET {H:Hp} {r:Addr} {t:List Int} (h:H r=some (.tup (t.map V.int))):keyH H (.ref r)=t:=by
 show (match H r with | some (.tup xs)=>qX1 xs | _=>[])=t
 rw [h];exact qUP t
section
variable {prog:Program} {w:World} {A:Around} {E:Value->Shared->Prop} {s:Shared}
theorem qJV {b:Bool} {Q:Bool->Shared->Prop}:∀ {vs ws:List Value} {ns ms:List Int} {i:Nat} {fin:Bool},IntsAre vs ns->IntsAre ws ms->
  (fin=decide (vs.length<ws.length))->Q (HT.lexLt ns ms) s->PySem.W.KatLex prog w A b fin Q (vs.zip ws) i s
 | _,_,_,_,i,fin,.nil,.nil,ef,h=>by
  rw [ef];exact A12 h
 | _,_,_,_,i,fin,.nil,.cons _ _ _,ef,h=>by
  rw [ef];exact A12 h
 | _,_,_,_,i,fin,.cons _ _ _,.nil,ef,h=>by
  rw [ef];exact A12 h
 | _,_,_,_,i,fin,.cons (vs:=vs) (ns:=ns) x t hv,.cons (vs:=ws) (ns:=ms) y u hw,ef,h=>by
  rw [G3];refine PySem.W.kat_cons (wpAny_eqBool_int ?_);rw [HT.lexLt_cons] at h;by_cases e:x=y
  ·rw [if_pos e] at h;rw [beq_iff_eq.mpr e];refine PySem.W.kat_yes (qJV hv hw ?_ h);rw [ef];simp
  ·rw [if_neg e] at h;rw [beq_eq_false_iff_ne.mpr e];refine PySem.W.kat_no ?_;cases eb:(b && i == 0) with
   | true=>exact oneLt_int h
   | false=>exact PySem.W.kat_one _ _ (lt_int h)
theorem qL5 {x y:Addr} {xs ys:Array Value} {ns ms:List Int} {b:Bool} {Q:Bool->Shared->Prop} (hx:IsTup s.heap x xs) (hy:IsTup s.heap y ys) (ix:IntsAre xs.toList ns) (iy:IntsAre ys.toList ms) (h:Q (HT.lexLt ns ms) s):wpAny (model prog w) A (keyLt' (tuples' b) (.ref x) (.ref y)) Q E s:=by
 obtain ⟨o,ho,hc,n,hd⟩:=id hx;obtain ⟨o2,ho2,hc2,n2,hd2⟩:=id hy;refine PySem.W.kat_lt ho hd ho2 hd2 (qJV ix iy ?_ h);simp
theorem qNT {rs:List Addr} {ts:List (List Int)} {Q:SortKind->Shared->Prop} (h:Paired (fun (r:Addr) (t:List Int)=>∃ xs:Array Value,IsTup s.heap r xs/\IntsAre xs.toList t) rs ts) (hne:∀ t ∈ ts,t ≠ []) (h2:2<=rs.length)
  (q:Q (tuples' true) s):wpAny (model prog w) A (keyKind' (rs.map C9).toArray) Q E s:=by
 have tu:∃ fs,PySem.W.KatTups s.heap (rs.map C9) fs/\fs.length=rs.length/\∀ v ∈ fs,∃ n t,v=.int n t:=by
  clear h2
  induction h with
  | nil=>exact ⟨[],trivial,rfl,fun _ z=>nomatch z⟩
  | @cons r t l1 l2 a _ ih=>
   obtain ⟨fs,k1,k2,k3⟩:=ih fun t ht=>hne t (A5 _ ht);obtain ⟨xs,⟨o,ho,hc,n,hd⟩,ia⟩:=a;have ht:t ≠ []:=hne t (by simp)
   obtain ⟨xs⟩:=xs;cases ia with
   | nil=>exact absurd rfl ht
   | cons x tk rest=>
    refine ⟨.int x tk::fs,.cons ho hc hd rfl k1,by simp [k2],fun v hv=>?_⟩
    rcases B5.mp hv with e | e
    ·exact ⟨x,tk,e⟩
    ·exact k3 v e
 obtain ⟨fs,k1,k2,k3⟩:=tu;refine PySem.W.kat_kind (T:=.type "int") k1 (by omega) (fun v hv=>?_) rfl ?_
 ·obtain ⟨n,t,rfl⟩:=k3 v hv;exact .now
 ·exact q
end
section
variable {X:Cx}
abbrev TupsAt (H:Hp) (rs:List Addr) (ts:List (List Int)):Prop:=Paired (fun (r:Addr) (t:List Int)=>H r=some (.tup (t.map V.int))) rs ts
theorem qEH:∀ {rs:List Addr} {its:List Value},Vals (rs.map V.ref) its->its=rs.map C9
 | [],_,.nil=>rfl
 | r::rs,_,.cons h t=>by
  rw [C1,<- qEH t];have:_=C9 r:=h;rw [this]
def qIB:Value->Addr
 | .ref a=>a
 | _=>0
theorem qN8:∀ {vs:List Value},(∀ v ∈ vs,∃ a,v=.ref a)->(vs.map qIB).map C9=vs
 | [],_=>rfl
 | v::vs,h=>by
  obtain ⟨a,rfl⟩:=h v (by simp)
  rw [C1,C1,qN8 fun v hv=>h v (A5 _ hv)]
  rfl
theorem qQI {H:Hp}:∀ {rs:List Addr} {ts:List (List Int)},TupsAt H rs ts->ts=rs.map fun r=>keyH H (.ref r)
 | _,_,.nil=>rfl
 | _,_,.cons h t=>by rw [C1,qET h,<- qQI t]
theorem qSW {H:Hp}:∀ {rs:List Addr},(∀ r ∈ rs,∃ t:List Int,H r=some (.tup (t.map V.int)))->TupsAt H rs (rs.map fun r=>keyH H (.ref r))
 | [],_=>.nil
 | r::rs,h=>by
  obtain ⟨t,e⟩:=h r (by simp)
  exact .cons (by dsimp only;rw [qET e];exact e) (qSW fun r hr=>h r (A5 _ hr))
theorem qIH {H:Hp}:∀ {rs:List Addr} {ts:List (List Int)},TupsAt H rs ts->∀ {r:Addr},r ∈ rs->∃ t,t ∈ ts/\H r=some (.tup (t.map V.int))
 | _,_,.nil,_,h=>nomatch h
 | _,_,.cons (b:=t) g T,r,h=>by
  rcases B5.mp h with e | e
  ·exact ⟨t,by simp,by rw [e];exact g⟩
  ·obtain ⟨t,h1,h2⟩:=qIH T e;exact ⟨t,A5 _ h1,h2⟩
end
open PySem PySem.Spec PyProof.Rows PySem.W
theorem perm_map_inv {α β:Type} {g:α->β} {a b:List β} (h:a.Perm b):∀ L:List α,b=L.map g->∃ L':List α,L'.Perm L/\a=L'.map g:=by
 induction h with
 | nil=>
  intro L e;exact ⟨[],by rw [List.map_eq_nil_iff.mp e.symm],rfl⟩
 | cons x _ ih=>
  intro L e;cases L with
  | nil=>cases e
  | cons y L=>
   rw [C1] at e
   injection e with e1 e2
   obtain ⟨L',p,e3⟩:=ih L e2;exact ⟨y::L',p.cons y,by rw [C1,e1,e3]⟩
 | swap x y l=>
  intro L e
  match L,e with
  | p::q::L,e=>
   rw [C1,C1] at e
   injection e with e1 e2
   injection e2 with e2 e3
   exact ⟨q::p::L,.swap p q L,by rw [C1,C1,e1,e2,e3]⟩
 | trans _ _ ih1 ih2=>
  intro L e;obtain ⟨L2,p2,e2⟩:=ih2 L e;obtain ⟨L1,p1,e1⟩:=ih1 L2 e2;exact ⟨L1,p1.trans p2,e1⟩
section
variable {X:Cx} {Ab:List (Addr × Obj)} {σ:St} {params:Arguments} {body:Expr} {scope:Scope} {p:Str} {fv:List Nat} {q:Str} {te:TE} {l f cc:Addr} {ctv:Value} {H0:Hp} {xs:List V} {ks:List (List Int)} {Q:VK}
theorem qX0 {A:Around} {s:Shared} {H:Hp} {it S:Addr} {i:Nat} {x:V} {k:List Int} {u:Value} (rm:Room 0 A) (hA:A.frames=some X.stack) (S':LmScope X scope p fv) (hbind:∀ (cl:List (Str × Addr)) (pm cd ct u:Value),bindArgs (R0 "<lambda>" q params body scope cl pm cd ct) ⟨[u],[]⟩=pure [(p,u)])
  (he:∀ z,PE (lmCx X scope p fv q z) body te) (KA:KeyAt X σ fv te KR1 H0 xs ks) (hf:H0 f=some (LamF X q params body scope cc ctv f)) (hcc:H0 cc=some (.tbl (.cod q)))
  (I:Inv X Ab σ H s) (sm:Sm0 H0 H) (hx:xs[i]?=some x) (hk:ks[i]?=some k) (rx:RelV x u) (fi:FpOk X Ab H it) (fS:FpOk X Ab H S) {oi oS:Obj} (gi:s.heap.get? it=some oi) (gS:s.heap.get? S=some oS) {Q':Value->Shared->Prop} {E:Value->Shared->Prop}
  (h:∀ v y H' s',Inv X Ab σ H' s'->Sm0 H H'->RelV y v->KR1 H' y k->FpOk X Ab H' it->FpOk X Ab H' S->s'.heap.get? it=some oi->s'.heap.get? S=some oS->Q' v s'):wpAny (model X.prog X.w) A (call (.ref f) [u]) Q' E s:=by
 have gf:s.heap.get? f=some (lamO X q params body scope cc ctv):=(show ObjOk X.prog X.w H s.heap f (LamF X q params body scope cc ctv f) from I.hok f _ (sm _ _ hf)).1;refine wpAny_call (codeAny_mono (qR5 rm I S' hA gf (sm _ _ hcc) rx hbind he (KA.key i x k hx hk H sm)) fun r s' ⟨v,y,H',e,I',ry,⟨sm',kr⟩,un⟩=>?_);subst e;exact h v y H' s' I' sm' ry kr (fi.to (un.free it oi gi fi.1 (by simp))) (fS.to (un.free S oS gS fS.1 (by simp))) (un.keep it oi gi fi.1 (I.fpStk fi) (by simp)) (un.keep S oS gS fS.1 (I.fpStk fS) (by simp))
theorem Inv.off {H:Hp} {s:Shared} {b:Addr} {h':Heap} (I:Inv X Ab σ H s) (f:FpOk X Ab H b) (hk:∀ c o,c ≠ b->s.heap.get? c=some o->h'.get? c=some o):Inv X Ab σ H { s with heap:=h' }:=
 I.turned (t':=s.toks) (fun c o hc e=>hk c o hc e) f.1 f.2.1 f.2.2.2.1 f.2.2.2.2.1 f.2.2.2.2.2
def qbU (X:Cx) (Ab:List (Addr × Obj)) (σ:St) (H0:Hp) (ks:List (List Int)) (kS D:Addr) (oD:Obj) (j:Nat) (s:Shared):Prop:=
 ∃ (H:Hp) (rs:List Addr) (c:Nat),Inv X Ab σ H s/\Sm0 H0 H/\FpOk X Ab H kS/\FpOk X Ab H D/\s.heap.get? kS=some (seqObj "list" (rs.map C9).toArray c)/\s.heap.get? D=some oD/\TupsAt H rs (ks.take j)
theorem qRS {A:Around} {s:Shared} {us:List Value} {kS D:Addr} {e1:Nat} {P:Fin->Shared->Prop} {E:Value->Shared->Prop} (rm:Room 0 A) (hA:A.frames=some X.stack) (S':LmScope X scope p fv) (hbind:∀ (cl:List (Str × Addr)) (pm cd ct u:Value),bindArgs (R0 "<lambda>" q params body scope cl pm cd ct) ⟨[u],[]⟩=pure [(p,u)])
  (he:∀ z,PE (lmCx X scope p fv q z) body te) (KA:KeyAt X σ fv te KR1 H0 xs ks) (hf:H0 f=some (LamF X q params body scope cc ctv f)) (hcc:H0 cc=some (.tbl (.cod q))) (rv:Vals xs us) (hz:us.length<=63) (hne:∀ k ∈ ks,k ≠ []) (hkD:kS ≠ D)
  (h0:qbU X Ab σ H0 ks kS D (seqObj "list" #[] e1) 0 s)
  (h:∀ (H:Hp) (s':Shared) (zs:List (List Int × V)) (out:List Value) (n:Nat),Inv X Ab σ H s'->Sm0 H0 H->FpOk X Ab H D->zs.Perm (ks.zip xs)->zs.Pairwise (fun a b=>HT.lexLt b.1 a.1=false)->Vals (zs.map (·.2)) out->s'.heap.get? D=some (seqObj "list" out.toArray n)->P (.done (.ret .none)) s') :
  wpAny (model X.prog X.w) A (ksk_rest D (.ref f) false us.toArray e1 (.ref kS)) P E s:=by
 have lu:=rv.length;have lk:=KA.len;unfold ksk_rest;refine wpAny_bind (wpAny_rule ?_)
 first
  | rw [A43]
  | (rw [<- d3];simp only [A30])
  | rw [<- d3]
 refine wpAny_bind (ksk_fold (fun j s'=>qbU X Ab σ H0 ks kS D (seqObj "list" #[] e1) j s') us 0 s h0 (fun j u s' hu hK=>?_) fun s' hK=>?_)
 ·rw [O6] at hK ⊢;obtain ⟨H,rs,c,I,sm,fk,fD,gk,gD,T⟩:=hK;have hj:j<us.length:=(A3.mp hu).1;have hjx:j<xs.length:=by omega
  have hjk:j<ks.length:=by omega
  have hx:=A1 hjx;have hk:=A1 hjk;obtain ⟨u',hu',ru⟩:=rv.get hx;rw [hu] at hu';cases hu';have lT:rs.length=(ks.take j).length:=C6 T;rw [D4] at lT;refine wpAny_bind (wpAny_attempt (qX0 rm hA S' hbind he KA hf hcc I sm hx hk ru fk fD gk gD fun v y H' s2 I2 sm2 ry ⟨r,ey,gr⟩ fk2 fD2 gk2 gD2=>?_));subst ey;cases ry;have ea:((rs.map C9).toArray).push (.ref r)=((rs++[r]).map C9).toArray:=by simp
  obtain ⟨c2,hc2⟩:∃ c2,(s2.heap.update kS (F2 (·.push (.ref r)))).get? kS=some (seqObj "list" ((rs++[r]).map C9).toArray c2):=⟨_,by rw [<- ea];exact get?_update_seq gk2 (·.push (.ref r))⟩
  try dsimp only
  refine wpAny_bind (listUpdate_at gk2 rfl ?_ (by rw [A7,A0,sizeLine_eq];omega) (L6 (A59 (A72 ..)) (by rw [A7,A0,sizeLine_eq];omega)))
  refine wpAny_pure ⟨rfl,H',rs++[r],c2,Inv.off I2 fk2 (fun b o hb e=>(C0 _ _ (G6 hb)).trans e),fun b o e=>sm2 b o (sm b o e),fk2,fD2,hc2,(C0 _ _ hkD).trans gD2,?_⟩;rw [C2,hk,B9];have T2:TupsAt H' rs (ks.take j):=Paired.mapP T fun _ _ z=>sm2 _ _ z;exact V6 T2 gr
 ·rw [O6] at hK;obtain ⟨H,rs,c,I,sm,fk,fD,gk,gD,T⟩:=hK;rw [G0 (by omega)] at T
  have lr:rs.length=ks.length:=C6 T
  try dsimp only
  refine wpAny_bind (listItems_at gk rfl ?_);unfold ksk_end;dsimp only;simp only [E2,if_false]
  -- the triples
  have ez:((rs.map C9).toArray.zip us.toArray).toList=(rs.zip (xs.zip us)).map fun t=>((C9 t.1,t.2.2):Keyed):=by
   rw [j6];show (rs.map C9).zip us=_;have:∀ (rs:List Addr) (xs:List V) (us:List Value),rs.length=xs.length->xs.length=us.length->(rs.map C9).zip us=(rs.zip (xs.zip us)).map fun t=>((C9 t.1,t.2.2):Keyed):=by
    intro rs
    induction rs with
    | nil=>intro xs us _ _;rfl
    | cons r rs ih=>
     intro xs us h1 h2
     match xs,us,h1,h2 with
     | x::xs,u::us,h1,h2=>
      rw [C1,G3,G3,G3,C1,ih xs us (by simpa using h1) (by simpa using h2)]
     | [],_,h1,_=>simp at h1
     | _::_,[],_,h2=>simp at h2
   exact this rs xs us (by omega) (by omega)
  have tz:(rs.zip (xs.zip us)).map (fun t=>(keyH H (.ref t.1),t.2.1))=ks.zip xs:=by
   have:∀ (rs:List Addr) (ks:List (List Int)) (xs:List V) (us:List Value),TupsAt H rs ks->rs.length=xs.length->xs.length=us.length->(rs.zip (xs.zip us)).map (fun t=>(keyH H (.ref t.1),t.2.1))=ks.zip xs:=by
    intro rs ks xs us T
    induction T generalizing xs us with
    | nil=>intro _ _;rfl
    | @cons r k l1 l2 g _ ih=>
     intro h1 h2
     match xs,us,h1,h2 with
     | x::xs,u::us,h1,h2=>
      rw [G3,G3,G3,C1,qET g,ih xs us (by simpa using h1) (by simpa using h2)]
     | [],_,h1,_=>simp at h1
     | _::_,[],_,h2=>simp at h2
   exact this rs ks xs us T (by omega) (by omega)
  have relT:∀ t ∈ rs.zip (xs.zip us),RelV t.2.1 t.2.2:=by
   intro t ht;obtain ⟨i,hi⟩:=L8 ht;rw [Q1] at hi;have h2:=hi.2;rw [Q1] at h2;obtain ⟨u,hu,ru⟩:=rv.get h2.1;rw [hu] at h2;have:=D5 h2.2;rw [<- this];exact ru
  have memT:∀ t ∈ rs.zip (xs.zip us),∃ k,k ∈ ks/\H t.1=some (.tup (k.map V.int)):=fun t ht=>qIH T (c6 ht).1
  letI:NM:=tupNM H ks
  have fin:∀ arr:Array Keyed,arr.Perm ((rs.map C9).toArray.zip us.toArray)->gSortedTo arr arr.size->wpAny (model X.prog X.w) A (ksk_tail D false e1 (.ref kS) (SortSt.mk' (tuples' true) arr #[] 7 none)) P E s'->True:=fun _ _ _ _=>trivial;have tail:∀ (st:SortSt),(arrOf st).Perm ((rs.map C9).toArray.zip us.toArray)->gSortedTo (arrOf st) (arrOf st).size->failedOf st=none->wpAny (model X.prog X.w) A (ksk_tail D false e1 (.ref kS) st) P E s':=by
   intro st pm so fl;obtain ⟨L',p1,p2⟩:=perm_map_inv (Q8.mp pm) (rs.zip (xs.zip us)) ez;unfold ksk_tail;dsimp only;refine wpAny_bind (listUpdate_at gk rfl ?_ (by rw [A7,A0,sizeLine_eq];omega) (D7 _))
   refine wpAny_bind (wpAny_letGo ?_);have gD2:(s'.heap.update kS (F2 fun _=>(#[]:Array Value))).get? D=some (seqObj "list" #[] e1):=(C0 _ _ hkD).trans gD;have I2:=Inv.off (h':=s'.heap.update kS (F2 fun _=>(#[]:Array Value))) I fk (fun b o hb e=>(C0 _ _ (G6 hb)).trans e);refine wpAny_bind (seqEpoch_at gD2 rfl ?_);have la:(arrOf st).size=us.length:=by
    have:=pm.size_eq;rw [this];simp;omega
   refine wpAny_bind (listUpdate_at gD2 rfl ?_ (D7 _) (by simp only [E2,if_false];rw [o3,la,sizeLine_eq];omega))
   simp only [E2,if_false];rw [fl];simp only [bne_self_eq_false,E2,if_false];obtain ⟨n2,hn2⟩:∃ n2,((s'.heap.update kS (F2 fun _=>(#[]:Array Value))).update D (F2 fun _=>(arrOf st).map (·.2))).get? D=some (seqObj "list" ((arrOf st).map (·.2)) n2):=⟨_,get?_update_seq gD2 fun _=>(arrOf st).map (·.2)⟩;have eo:(arrOf st).map (·.2)=(L'.map (·.2.2)).toArray:=by
    apply A62.mp;rw [j7,p2,R7]
    rfl
   rw [show seqObj "list" ((arrOf st).map (·.2)) n2=seqObj "list" (L'.map (·.2.2)).toArray n2 by rw [eo]] at hn2
   have I3:=Inv.off (s:={ s' with heap:=s'.heap.update kS (F2 fun _=>(#[]:Array Value)) }) (h':=(s'.heap.update kS (F2 fun _=>(#[]:Array Value))).update D (F2 fun _=>(arrOf st).map (·.2))) I2 fD (fun b o hb e=>(C0 _ _ (G6 hb)).trans e);refine wpAny_pure (h H _ (L'.map fun t=>(keyH H (.ref t.1),t.2.1)) (L'.map (·.2.2)) n2 I3 sm fD ?_ ?_ ?_ hn2)
   ·rw [<- tz];exact p1.map _
   ·rw [F3];have so2:(arrOf st).toList.Pairwise (fun a b=>gkv a<=gkv b):=by
     rw [F0];intro i j hi hj hij;have hi2:i<(arrOf st).size:=by simpa using hi
     have hj2:j<(arrOf st).size:=by simpa using hj
     have a:=so i j (R1 hij) hj2;rw [qO4 hi2,qO4 hj2] at a;rw [S0,S0];exact a
    rw [p2,F3] at so2;refine so2.imp_of_mem fun {a b} ha hb le=>?_;obtain ⟨k1,m1,g1⟩:=memT a (p1.mem_iff.mp ha);obtain ⟨k2,m2,g2⟩:=memT b (p1.mem_iff.mp hb);have le:qF4 ks (keyH H (.ref a.1))<=qF4 ks (keyH H (.ref b.1)):=le;rw [qET g1,qET g2] at le ⊢;dsimp only;rw [<- qIR m2 m1];exact decide_eq_false (by omega)
   ·have:∀ L:List (Addr × V × Value),(∀ t ∈ L,RelV t.2.1 t.2.2)->Vals ((L.map fun t=>(keyH H (.ref t.1),t.2.1)).map (·.2)) (L.map (·.2.2)):=by
     intro L
     induction L with
     | nil=>intro _;exact .nil
     | cons t L ih=>intro hL;exact .cons (hL t (by simp)) (ih fun t ht=>hL t (A5 _ ht))
    exact this L' fun t ht=>relT t (p1.mem_iff.mp ht)
  by_cases few:us.toArray.size<2
  ·simp only [if_pos few];refine wpAny_bind (wpAny_pure ?_);rw [l8];refine wpAny_bind (wpAny_pure (tail _ (.refl _) (fun i j hij hj=>?_) rfl));have sz:(arrOf (SortSt.mk' general' ((rs.map C9).toArray.zip us.toArray) #[] 7 none)).size<=1:=by
    show ((rs.map C9).toArray.zip us.toArray).size<=1;rw [Z1];omega
   have hj':j<(arrOf (SortSt.mk' general' ((rs.map C9).toArray.zip us.toArray) #[] 7 none)).size:=hj;have ij:i=j:=by omega
   rw [ij];exact F4 _
  ·simp only [if_neg few];rw [A7] at few;have tat:∀ (r:Addr) (t:List Int),H r=some (.tup (t.map V.int))->∃ ys:Array Value,IsTup s'.heap r ys/\IntsAre ys.toList t:=by
    intro r t g;obtain ⟨its,r1,pt,_⟩:=I.tuple (SqT.of g);exact ⟨its.toArray,pt,qL7 r1⟩
   have lt_ok:LtOk X.prog X.w A s' (tuples' true):=by
    refine ⟨fun {x y Q E} hx hy h=>?_⟩;obtain ⟨r1,t1,rfl,g1,m1⟩:=hx;obtain ⟨r2,t2,rfl,g2,m2⟩:=hy;obtain ⟨ya,i1,j1⟩:=tat r1 t1 g1;obtain ⟨yb,i2,j2⟩:=tat r2 t2 g2;refine qL5 i1 i2 j1 j2 ?_;have e1:NM.nm (C9 r1)=qF4 ks t1:=by show qF4 ks (keyH H (.ref r1))=_;rw [qET g1]
    have e2:NM.nm (C9 r2)=qF4 ks t2:=by show qF4 ks (keyH H (.ref r2))=_;rw [qET g2]
    rw [e1,e2,qIR m1 m2] at h;exact h
   have ik:qC5 ((rs.map C9).toArray.zip us.toArray):=fun pq hp=>by
    rw [ez] at hp;obtain ⟨t,ht,rfl⟩:=D6.mp hp;obtain ⟨k,mk,g⟩:=memT t ht;exact ⟨t.1,k,rfl,g,mk⟩
   refine wpAny_bind (qNT (rs:=rs) (ts:=ks) (Paired.mapP T fun r t g=>tat r t g) hne (by omega) ?_)
   refine wpAny_bind (wpAny_mono (gwpS_runs (κ0:=tuples' true) (a₀:=(rs.map C9).toArray.zip us.toArray) (Q:=fun _ st2=>gSG (tuples' true) ((rs.map C9).toArray.zip us.toArray) st2/\gSortedTo (arrOf st2) ((rs.map C9).toArray.zip us.toArray).size) (by rw [Z1,A7,A7];omega) ik ⟨.refl _,rfl,rfl⟩ rfl fun st2 g u=>⟨g,u⟩) ?_ fun _ _ x=>x)
   rintro ⟨_,st2⟩ s2 ⟨es,g,u⟩;cases (show s2=_ from es);exact tail st2 g.perm (by rw [g.perm.size_eq];exact u) g.failed
theorem qKR (l:Addr) (v:Value):argsOk "sorted" ⟨[.ref l],[(D3 "key",v)]⟩:=by unfold argsOk;kernel_rfl
theorem sortk_call {s:Shared} {H:Hp} (rm:Room 2 X.A) (hA:X.A.in1.in1.frames=some X.stack) (S':LmScope X scope p fv) (hbind:∀ (cl:List (Str × Addr)) (pm cd ct u:Value),bindArgs (R0 "<lambda>" q params body scope cl pm cd ct) ⟨[u],[]⟩=pure [(p,u)])
  (he:∀ z,PE (lmCx X scope p fv q z) body te) (KA:KeyAt X σ fv te KR1 H xs ks) (hf:H f=some (LamF X q params body scope cc ctv f)) (hcc:H cc=some (.tbl (.cod q))) (hl:SqT X.K H l xs\/SqL X.K H l xs) (I:Inv X Ab σ H s) (hz:xs.length<=63) (hne:∀ k ∈ ks,k ≠ [])
  (hQ:∀ (H':Hp) (D:Addr) (zs:List (List Int × V)),Sm0 H H'->H' D=none->zs.Perm (ks.zip xs)->zs.Pairwise (fun a b=>HT.lexLt b.1 a.1=false)->Q (.ref D) (upd H' D (.lst (zs.map (·.2))))) :
  wpAny (model X.prog X.w) X.A (call (.builtin "sorted") [.ref l] [(D3 "key",.ref f)]) (EP X Ab σ Q) X.xe s:=by
 refine call_function_entry_kw kind_sorted plain_sorted entry_sorted (qKR _ _) ?_;unfold Builtin.«sorted»;refine wpAny_bind (m:=checkCount "sorted" 1 1 _) (wpAny_pure ?_);have src:∃ (its:List Value),Vals xs its/\∀ (P:List Value->Shared->Prop),(∀ h',(∀ b o,s.heap.get? b=some o->h'.get? b=some o)->P its { s with heap:=h' })->wpAny (model X.prog X.w) X.A.in1 (collect (.ref l)) P X.xe s:=by
  rcases hl with hl | hl
  ·obtain ⟨its,rv,⟨o,ho,hc',n,hd⟩,hz2⟩:=I.tuple hl;refine ⟨its,rv,fun P h=>wpAny_collect_seq l (.inr rfl) ho hc' hd (fun h' hk=>h h' hk) ?_⟩;rw [A7,<- rv.length,sizeLine_eq];omega
  ·obtain ⟨its,rv,pl,hz2⟩:=I.list hl;obtain ⟨o,ho,hc',n,hd⟩:=pl.isList;refine ⟨its,rv,fun P h=>wpAny_collect_seq l (.inl rfl) ho hc' hd (fun h' hk=>h h' hk) ?_⟩;rw [A7,<- rv.length,sizeLine_eq];omega
 obtain ⟨its,rv,col⟩:=src;have li:=rv.length;refine wpAny_bind (col _ fun h1 k1=>?_);have I1:Inv X Ab σ H { s with heap:=h1 }:=I.kept (t':=s.toks) k1;refine wpAny_bind (wpAny_newList ?_ (by show its.length<=_;rw [sizeLine_eq];omega))
 have fD0:FpOk X Ab H h1.objs.size:=I1.fpOk (B0 _) (I1.hok.fresh (B0 _));have szD:=I1.sz;have gD:(h1.push (seqObj "list" its.toArray 0)).get? h1.objs.size=some (seqObj "list" its.toArray 0):=B6 _ rfl;have I2:Inv X Ab σ H { s with heap:=h1.push (seqObj "list" its.toArray 0) }:=I1.kept (t':=s.toks) fun b o e=>A2 _ e;have ltD:h1.objs.size<(h1.push (seqObj "list" its.toArray 0)).objs.size:=B1 gD;show wpAny _ _ _ _ _ { s with heap:=h1.push (seqObj "list" its.toArray 0) };show wpAny _ _ (holding [.ref h1.objs.size] (call (.builtin "list.sort") [.ref h1.objs.size] [(D3 "key",.ref f)]) >>= _) _ _ _;generalize h1.push (seqObj "list" its.toArray 0)=h2 at gD I2 ltD ⊢;have szD:X.s₀.heap.objs.size<=h1.objs.size:=szD;generalize h1.objs.size=D at fD0 szD gD ltD ⊢;refine wpAny_bind (wpAny_holding (wpAny_call_entry_kw slot_list_sort ⟨_,gD,rfl⟩ entry_list_sort ?_ (ksk_l1 _ _)));show wpAny (model X.prog X.w) X.A.in1.in1 (Builtin.«list.sort» ⟨[.ref D],[(D3 "key",.ref f)]⟩) _ _ _;rw [ksk_t1];unfold ksk_tree;refine wpAny_bind (listItems_at gD rfl ?_);refine wpAny_bind (listUpdate_at gD rfl ?_ (by rw [A7,sizeLine_eq];omega) (D7 _))
 obtain ⟨e1,ho1⟩:∃ e1,(h2.update D (F2 fun _=>(#[]:Array Value))).get? D=some (seqObj "list" #[] e1):=⟨_,get?_update_seq gD fun _=>#[]⟩;have I3:=Inv.off (h':=h2.update D (F2 fun _=>(#[]:Array Value))) I2 fD0 (fun b o hb e=>(C0 _ _ (G6 hb)).trans e);have ltD3:D<(h2.update D (F2 fun _=>(#[]:Array Value))).objs.size:=B1 ho1;refine wpAny_bind (seqEpoch_at ho1 rfl ?_);generalize h2.update D (F2 fun _=>(#[]:Array Value))=h3 at ho1 I3 ltD3 ⊢;refine wpAny_bind (wpAny_newTuple ?_ (by show its.length<=_;rw [sizeLine_eq];omega))
 refine wpAny_bind (wpAny_newList ?_ (D7 _));refine wpAny_holding ?_;have hkS:(h3.push (seqObj "tuple" its.toArray 0)).objs.size=h3.objs.size+1:=J6 ..;have I4:Inv X Ab σ H { s with heap:=(h3.push (seqObj "tuple" its.toArray 0)).push (seqObj "list" #[] 0) }:=I3.kept (t':=s.toks) fun b o e=>A2 _ (A2 _ e);have fk:FpOk X Ab H (h3.push (seqObj "tuple" its.toArray 0)).objs.size:=by rw [hkS];exact I3.fpOk (Z5 _) (I3.hok.fresh (Z5 _))
 refine qRS (kS:=(h3.push (seqObj "tuple" its.toArray 0)).objs.size) (D:=D) (rm.in1.in1) hA S' hbind he KA hf hcc rv (by omega) hne (by rw [hkS];exact R3 (L0 ltD3)) ⟨H,[],0,I4,fun _ _ e=>e,fk,fD0,B6 _ rfl,A2 _ (A2 _ ho1),?_⟩ fun H' s' zs out n I5 sm fD5 pm so rvo gD5=>⟨_,rfl,?_⟩
 ·rw [o6];exact .nil
 ·refine wpAny_pure ⟨_,rfl,.ref D,upd H' D (.lst (zs.map (·.2))),I5.track fD5.1 szD fD5.2.1 fD5.2.2.2.2.1 fD5.2.2.2.2.2 ⟨?_,out,n,rvo,gD5⟩,rfl,hQ H' D zs sm fD5.1 pm so⟩;have:=pm.length_eq;rw [A0,this,m4,sizeLine_eq];omega
end
end L2.G
namespace L2
open PySem PySem.Spec PyProof.Rows
section
variable {X:Cx}
theorem SqT.sm {K:PySem.W.Frag} {H H':Hp} {a:Addr} {xs:List V} (h:SqT K H a xs) (sm:Sm0 H H'):SqT K H' a xs:=by
 rcases h with (h | ⟨o,h⟩) | h
 ·exact .inl (.inl (sm _ _ h))
 ·exact .inl (.inr ⟨o,sm _ _ h⟩)
 ·exact .inr h
theorem SqL.sm {K:PySem.W.Frag} {H H':Hp} {a:Addr} {xs:List V} (h:SqL K H a xs) (sm:Sm0 H H'):SqL K H' a xs:=by
 rcases h with (h | ⟨o,h⟩) | h
 ·exact .inl (.inl (sm _ _ h))
 ·exact .inl (.inr ⟨o,sm _ _ h⟩)
 ·exact .inr h
def qaA (P:Addr) (K:PySem.W.Frag) (q:Str) (fv:List Nat) (te:TE) (ta:TA):TE:=fun σ H Q=>ta σ H fun vs H1=>H1 P=some (.tbl (.tab q))/\
 ∃ (l:Addr) (xs:List V) (ks:List (List Int)),vs=[.ref l]/\(SqT K H1 l xs\/SqL K H1 l xs)/\xs.length<=63/\ks.length=xs.length/\(∀ k ∈ ks,k ≠ [])/\(∀ (i:Nat) (x:V) (k:List Int),xs[i]?=some x->ks[i]?=some k->∀ Hc,Sm0 H1 Hc->te (qGB fv σ x) Hc fun y H'=>Sm0 Hc H'/\KR1 H' y k)/\
  ∀ (H':Hp) (D:Addr) (zs:List (List Int × V)),Sm0 H1 H'->H' D=none->zs.Perm (ks.zip xs)->zs.Pairwise (fun a b=>HT.lexLt b.1 a.1=false)->Q (.ref D) (upd H' D (.lst (zs.map (·.2))))
theorem qWK {e:Expr} {ta:TA} {np pos kpos lpos:Pos} {params:Arguments} {body:Expr} {scope:Scope} {c P:Addr} {q:Str} {p:Str} {fv:List Nat} {te:TE}
  (rm:Room 2 X.A) (hg:Gl X "sorted") (hm:X.mg "sorted" = none) (hv:bootBuiltins "sorted" = some (.builtin "sorted")) (hb:BM X.mg X.base) (hcode:X.env.code=.ref c) (hd:hdIn X.K c P=true) (hq:X.env.qual ++ "<lambda>" = q)
  (S:LmScope X scope p fv) (hdef:defaultsOf params X.env=([],[])) (hbind:∀ (cl:List (Str × Addr)) (pm cd ct u:Value),bindArgs (R0 "<lambda>" q params body scope cl pm cd ct) ⟨[u],[]⟩=pure [(p,u)])
  (ha:PA X [e] ta) (he:∀ z,PE (lmCx X scope p fv q z) body te) (hs:starEach [e] X.env=[(false,eval e X.env)]:=by rfl) :
  PE X (.Call (.Name "sorted" np) [e] [⟨some "key",.Lambda params body scope lpos,kpos⟩] pos) (qaA P X.K q fv te ta):=by
 intro Ab s σ H Q I h;refine wpAny_Call_Name_kw (qFB I hg hm hv ?_ (by decide) (by decide))
 refine a9 (thn (ha pos Ab s σ H _ I h) fun us s1 ⟨vs,H1,I1,r1,q1⟩=>?_) (by rw [hs];rfl) (by rw [hs];rfl)
 obtain ⟨hP,l,xs,ks,rfl,hl,hz,lk,hne,hk,q2⟩:=q1;obtain ⟨u,rfl,rx⟩:=qDK r1;cases rx;have C:=qOL (c:=c) (P:=P) I1.ok.mod.kin hd;have pl:=qXX (X:=X) (pos:=lpos) (body:=body) hb hcode C hq S hdef;refine thn (qPH (kpos:=kpos) (nm:=some "key") pl qTH pos Ab s1 σ H1 (fun zs H2=>∃ f cc ctv,zs=[.ref f]/\Sm0 H1 H2/\H2 f=some (LamF X q params body scope cc ctv f)/\H2 cc=some (.tbl (.cod q))) I1 ⟨hP,fun f cc ctv H' sm h0 hf hcc=>⟨f,cc,ctv,rfl,sm,hf,hcc⟩⟩) fun ws s2 ⟨zs,H2,I2,rz,f,cc,ctv,ez,sm,hf,hcc⟩=>?_;subst ez;obtain ⟨u2,rfl,r2⟩:=qDK rz;cases r2;have hA:X.A.in1.in1.frames=some X.stack:=I2.ok.frames;exact G.sortk_call (H:=H2) rm hA S hbind he ⟨lk,fun i x k hx hk' Hc smc=>hk i x k hx hk' Hc fun b o e=>smc b o (sm b o e)⟩ hf hcc (hl.imp (fun z=>z.sm sm) fun z=>z.sm sm) I2 hz hne
  fun H' D zs smc a b c=>q2 H' D zs (fun b o e=>smc b o (sm b o e)) a b c
end
structure Clb (P:Program) (w:World) (K:PySem.W.Frag) (mg:Str->Option Value) (base:Heap) (n:Nat) (f:Addr) (fd:FuncData) (x:Str) (ps:List Str) (sp:Sp):Prop where
 G:FnOk P w K mg base CX0 n f fd ps sp
 b:Binds K fd ps []
 k:P8 K (.ref f)=true
 m:mg x=some (.ref f)
theorem qAX {X:Cx} {n k:Nat} {f:Addr} {fd:FuncData} {x:Str} {ps:List Str} {sp:Sp} {e:Expr} {es:List Expr} {t:TA} {p pos:Pos} (C:Clb X.prog X.w X.K X.mg X.base n f fd x ps sp) (hr:Room k X.A) (hg:Gl X x)
  (ha:PA X (e::es) t) (hnk:n<=k:=by decide) (hdb:(x == ("__debug__" : Str))=false:=by decide) (he:starEach (e::es) X.env=(false,eval e X.env)::starEach es X.env:=by rfl) (hpl:(backTo pos (starEach es X.env)).any (·.1)=false:=by rfl) :
  PE X (.Call (.Name x p) (e::es) [] pos) (qaG sp [] E0 t):=qTQ C.G (hr.mono hnk) hg C.m C.k C.b .nil qb0 ha hdb he hpl
def lowI (b:Int) (l:List Int):Int:=l.foldl (fun b x=>if x<b then x else b) b
theorem qUC:∀ (l:List Int) (b:Int),lowI b l<=b/\(∀ x ∈ l,lowI b l<=x)/\(lowI b l=b\/lowI b l ∈ l)
 | [],b=>⟨F4 _,(fun _ z=>nomatch z),.inl rfl⟩
 | y::l,b=>by
  obtain ⟨h1,h2,h3⟩:=qUC l (if y<b then y else b)
  have e:lowI b (y::l)=lowI (if y<b then y else b) l:=rfl
  rw [e];have hb:(if y<b then y else b)<=b/\(if y<b then y else b)<=y:=by split <;> omega
  refine ⟨by omega,fun x hx=>?_,?_⟩
  ·rcases B5.mp hx with hx | hx
   ·omega
   ·exact h2 x hx
  ·rcases h3 with h3 | h3
   ·split at h3
    ·rw [if_pos (by assumption)]
     exact .inr (by rw [h3];exact A8)
    ·rw [if_neg (by assumption)]
     exact .inl h3
   ·exact .inr (A5 _ h3)
section
variable {prog:Program} {w:World} {A:Around} {R:Result->Shared->Prop} {I:Addr} {fp wr:List Addr} {n:Nat} {P:Nat->Value->Prop} {St:Nat->Heap->Prop}
theorem qZ7 (W:Walks prog w A.in1 I fp wr n P St) (kw:List (Str × Value)) (ns:List Int) (hn:ns.length=n) (hval:∀ i v,P i v->∃ t,v=.int (ns.getD i 0) t) (S:Addr) (hSf:S ∉ fp) :
  ∀ (k j:Nat) (s:Shared) (b:Int) (t:Tok) (c:Nat),n - j=k->j<=n->St j s.heap->s.heap.get? S=some { cls:=.type "list",dict:=none,data:=.seq #[.int b t,.int b t] c,slots:=#[] }->
  (∀ t' h' tk,(∀ x o,x ∉ wr->x ≠ S->s.heap.get? x=some o->h'.get? x=some o)->R (.ok (.ret (.int (lowI b (ns.drop j)) t'))) { s with heap:=h',toks:=tk })->
  codeAny (model prog w) A (.builtin "min.loop" ⟨[.ref I,.none,.ref S],kw⟩) R s:=by
 have hSw:S ∉ wr:=fun h=>hSf (W.sub _ h);have hname:(toString "min" ++ toString ".loop" : String) = "min.loop":=by decide
 intro k
 induction k with
 | zero=>
  intro j s b t c hk hj st hS hR;have e:j=n:=by omega
  refine codeAny_builtin A00 ?_;rw [F6 V1 _];show wpAny _ A.in1 (seqItems? (.ref S) >>= _) _ _ s;refine wpAny_bind (wpAny_seqItems hS rfl ?_);show wpAny _ A.in1 (tryCatch (pyNext (.ref I)) _ >>= _) _ _ s;refine wpAny_bind (wpAny_tryCatch (W.done s _ _ (e ▸ st) fun h' tk hk'=>?_));show wpAny _ A.in1 (updateSeq S (fun _=>#[]) >>= _) _ _ _;refine wpAny_bind (wpAny_updateSeq (hk' S _ hSw hS) rfl (wpAny_bind (wpAny_letGo (wpAny_pure ?_))));rw [X5 (by omega)] at hR
  exact hR t _ tk fun x o hx hxS ex=>(C0 _ _ (G6 hxS)).trans (hk' x o hx ex)
 | succ k ih=>
  intro j s b t c hk hj st hS hR;have hlt:j<n:=by omega
  refine codeAny_builtin A00 ?_;rw [F6 V1 _];show wpAny _ A.in1 (seqItems? (.ref S) >>= _) _ _ s;refine wpAny_bind (wpAny_seqItems hS rfl ?_);show wpAny _ A.in1 (tryCatch (pyNext (.ref I)) _ >>= _) _ _ s;refine wpAny_bind (wpAny_tryCatch (W.item j s _ _ hlt st fun v h' tk hP st' hk'=>?_));have hS':=hk' S _ hSw hS;obtain ⟨u,rfl⟩:=hval j v hP;have ed:ns.drop j=ns.getD j 0::ns.drop (j+1):=by
   have hj':j<ns.length:=by omega
   rw [O5 hj',P6,A1 hj']
   rfl
  rw [ed] at hR;generalize ns.getD j 0=y at hR hP ⊢;show wpAny _ A.in1 (tryCatch (holding [G8 y u,G8 y u] (richCompare .Lt (.int y u) (.int b t) >>= _)) _ >>= _) _ _ _;refine wpAny_bind (wpAny_tryCatch (wpAny_holding (wpAny_bind (richCompare_gives (op:=.Lt) (typeIs_int _ _ u) (typeIs_int _ _ t) F.slot_int_lt F.entry_int_lt (F.args_int_lt_2 _ _) (gives_int_lt _ _ u t) (fun x=>nomatch x) ?_))));refine wpAny_bind (wpAny_holding (wpAny_truthy_bool (wpAny_bind (wpAny_letGo (wpAny_pure ?_)))));by_cases hb:y<b
  ·rw [decide_eq_true hb,if_pos rfl];have et:lowI b (y::ns.drop (j+1))=lowI y (ns.drop (j+1)):=by show lowI (if y<b then y else b) _=_;rw [if_pos hb]
   rw [et] at hR;refine wpAny_bind (wpAny_updateSeq hS' rfl (wpAny_bind (wpAny_letGo ?_)));rw [hname];refine wpAny_pure ⟨plainId_quiet V1 _,ih (j+1) _ y u _ (by omega) hlt (W.frame _ _ _ st' fun x hx o ex=>?_) (M7 _ hS' rfl) fun t' h2 tk2 hk2=>?_⟩
   ·exact (C0 _ _ (fun z:S=x=>hSf (by rw [z];exact hx))).trans ex
   ·exact hR t' h2 tk2 fun x o hx hxS ex=>hk2 x o hx hxS ((C0 _ _ (G6 hxS)).trans (hk' x o hx ex))
  ·rw [decide_eq_false hb,if_neg C5];have et:lowI b (y::ns.drop (j+1))=lowI b (ns.drop (j+1)):=by show lowI (if y<b then y else b) _=_;rw [if_neg hb]
   rw [et] at hR;refine wpAny_bind (wpAny_letGo ?_);rw [hname];exact wpAny_pure ⟨plainId_quiet V1 _,ih (j+1) _ b t c (by omega) hlt st' hS' fun t' h2 tk2 hk2=>hR t' h2 tk2 fun x o hx hxS ex=>hk2 x o hx hxS (hk' x o hx ex)⟩
theorem qU7 (W:Walks prog w A.in1 I fp wr n P St) (kw:List (Str × Value)) (ns:List Int) (hn:ns.length=n) (hval:∀ i v,P i v->∃ t,v=.int (ns.getD i 0) t) (S:Addr) (hSf:S ∉ fp) {s:Shared} {c:Nat} (st:St 0 s.heap)
  (hS:s.heap.get? S=some { cls:=.type "list",dict:=none,data:=.seq #[] c,slots:=#[] })
  (h1:∀ y r,ns=y::r->∀ t' h' tk,(∀ x o,x ∉ wr->x ≠ S->s.heap.get? x=some o->h'.get? x=some o)->R (.ok (.ret (.int (lowI y r) t'))) { s with heap:=h',toks:=tk })
  (h2:ns=[]->∃ nm dv,kw=[(nm,dv)]/\∀ h' tk,(∀ x o,x ∉ wr->x ≠ S->s.heap.get? x=some o->h'.get? x=some o)->R (.ok (.ret dv)) { s with heap:=h',toks:=tk }) :
  codeAny (model prog w) A (.builtin "min.loop" ⟨[.ref I,.none,.ref S],kw⟩) R s:=by
 have hSw:S ∉ wr:=fun h=>hSf (W.sub _ h);have hname:(toString "min" ++ toString ".loop" : String) = "min.loop":=by decide
 refine codeAny_builtin A00 ?_;rw [F6 V1 _];show wpAny _ A.in1 (seqItems? (.ref S) >>= _) _ _ s;refine wpAny_bind (wpAny_seqItems hS rfl ?_);show wpAny _ A.in1 (tryCatch (pyNext (.ref I)) _ >>= _) _ _ s;cases ns with
 | nil=>
  obtain ⟨nm,dv,rfl,h3⟩:=h2 rfl;refine wpAny_bind (wpAny_tryCatch (W.done s _ _ (hn ▸ st) fun h' tk hk'=>?_));show wpAny _ A.in1 (rule _ >>= fun _=>ret dv) _ _ _;exact wpAny_bind (wpAny_rule (wpAny_pure (h3 _ tk fun x o hx _ ex=>hk' x o hx ex)))
 | cons y r=>
  refine wpAny_bind (wpAny_tryCatch (W.item 0 s _ _ (by rw [<- hn];simp) st fun v h' tk hP st' hk'=>?_))
  have hS':=hk' S _ hSw hS;obtain ⟨u,rfl⟩:=hval 0 v hP;show wpAny _ A.in1 (updateSeq S (fun _=>#[G8 y u,G8 y u]) >>= _) _ _ _;refine wpAny_bind (wpAny_updateSeq hS' rfl ?_);rw [hname];refine wpAny_pure ⟨plainId_quiet V1 _,qZ7 W kw (y::r) hn hval S hSf _ 1 _ y u _ rfl (by rw [<- hn];simp) (W.frame _ _ _ st' fun x hx o ex=>?_) (M7 _ hS' rfl) fun t' h2 tk2 hk2=>?_⟩
  ·exact (C0 _ _ (fun z:S=x=>hSf (by rw [z];exact hx))).trans ex
  ·exact h1 y r rfl t' h2 tk2 fun x o hx hxS ex=>hk2 x o hx hxS ((C0 _ _ (G6 hxS)).trans (hk' x o hx ex))
end
section
variable {X:Cx}
def lowD (dv:Option Int):List Int->Option Int
 | []=>dv
 | y::r=>some (lowI y r)
theorem qZ8 {Ab:List (Addr × Obj)} {s:Shared} {σ:St} {H:Hp} {Q:VK} {p:Addr} {ns:List Int} {kw:List (Str × Value)} {dv:Option Int} (hc:X.calm=true) (I:Inv X Ab σ H s) (hq:SqL X.K H p (ns.map V.int))
  (ok:argsOk "min" ⟨[.ref p],kw⟩) (df:Option Value) (hb:U4 "min" ["key","default"] 0 ⟨[],kw⟩=pure [none,df]) (hdf:df=none/\dv=none\/∃ d t,df=some (.int d t)/\dv=some d)
  (m:Int) (em:lowD dv ns=some m) (q:Q (.int m) H):wpAny (model X.prog X.w) X.A (call (.builtin "min") [.ref p] kw) (EP X Ab σ Q) X.xe s:=by
 obtain ⟨its,rv,pl,hz⟩:=I.list hq;have hl:=pl.isList;have hlt:p<s.heap.objs.size:=by obtain ⟨_,e,_⟩:=hl;exact B1 e
 have hlen:=rv.length;rw [A0] at hlen;have ia:=qBN rv;have hname:(toString "min" ++ toString ".loop" : String) = "min.loop":=by decide
 refine qI3 F.kind_min F.plain_min F.entry_min ok ?_;show wpAny _ _ (U4 "min" ["key","default"] 0 ⟨[],kw⟩ >>= _) _ _ s;refine wpAny_bind (wpAny_of_eq hb ?_);refine wpAny_bind (wpAny_pure ?_);refine wpAny_bind (wpAny_pyIter_list hl ?_);refine wpAny_bind (wpAny_newObj_type ?_);rw [hname];have w0:X.A.in1.handled=none:=I.ok.hd hc;refine wpAny_pure ⟨_,rfl,plainId_quiet V1 _,?_⟩;refine qU7 (p8 w0 _ p (C7 hlt) its.toArray) _ ns (by simpa using hlen) (fun i v hv=>?_) _ ?_ (c:=0) ?_ (B6 _ rfl) ?_ ?_
 ·exact Y3 ia i v (by simpa using hv)
 ·simp only [J6,B5,L5,or_false,not_or];exact ⟨y9 _,R3 (L0 hlt)⟩
 ·exact ⟨⟨_,A2 _ (B6 _ rfl),rfl,rfl⟩,(hl.push _).push _⟩
 ·intro y r e t' h' tk hk;subst e;cases em;refine ⟨_,rfl,.int _,H,I.kept (t':=tk) fun b o eb=>hk b o ?_ ?_ (A2 _ (A2 _ eb)),⟨t',rfl⟩,q⟩
  ·simp only [B5,L5,or_false];exact C7 (B1 eb)
  ·rw [J6];exact C7 (L0 (B1 eb))
 ·intro e;subst e;rcases hdf with ⟨_,e2⟩ | ⟨d,t,rfl,rfl⟩
  ·rw [e2] at em;cases em
  ·cases em;refine ⟨_,_,rfl,fun h' tk hk=>⟨_,rfl,.int _,H,I.kept (t':=tk) fun b o eb=>hk b o ?_ ?_ (A2 _ (A2 _ eb)),⟨t,rfl⟩,q⟩⟩
   ·simp only [B5,L5,or_false];exact C7 (B1 eb)
   ·rw [J6];exact C7 (L0 (B1 eb))
theorem qVM (hc:X.calm=true):qCW X (.builtin "min") (fun xs H Q=>∃ p ns m,xs=[.ref p]/\SqL X.K H p (ns.map V.int)/\lowD none ns=some m/\Q (.int m) H):=by
 intro Ab s σ H xs us Q I r h;obtain ⟨p,ns,m,rfl,hq,em,q⟩:=h;obtain ⟨u,rfl,rx⟩:=qDK r;cases rx;exact qZ8 hc I hq (F.args_min1 _) none rfl (.inl ⟨rfl,rfl⟩) m em q
abbrev TJ:=St->Hp->(Hp->Prop)->Prop
def PJ (X:Cx) (es:List Expr) (t:TJ):Prop:=∀ (Ab:List (Addr × Obj)) (s:Shared) (σ:St) (H:Hp) (acc:Str) (R:Hp->Prop),Inv X Ab σ H s->acc.length+2000 * es.length<=sizeLine->t σ H R->
 Joins (model X.prog X.w) X.A X.xe (evalEach es X.env) acc (fun out s1=>out.length<=sizeLine/\∃ H1,Inv X Ab σ H1 s1/\R H1) s
end
end L2
namespace L2.G
open PySem PySem.Spec PyProof.Rows PySem.W
theorem qWJ {α:Type} (d:α) {L' L:List α} (p:L'.Perm L):∃ I:List Nat,I.Perm (I0 L.length)/\L'=I.map fun i=>(L[i]?).getD d:=by
 have e:L=(I0 L.length).map fun i=>(L[i]?).getD d:=g8 fun i=>by
  by_cases hi:i<L.length
  ·rw [B7,Z6 hi,A1 hi];show some L[i]=some ((L[i]?).getD d);rw [A1 hi]
   rfl
  ·rw [J2 (by omega),J2 (by rw [A0,Y7];omega)]
 exact perm_map_inv p _ e
noncomputable def plc (us:List Value) (v:Value):Nat:=by classical exact us.findIdx fun u=>decide (u=v)
theorem qTG {us:List Value} {i:Nat} {v:Value} (n:us.Nodup) (h:us[i]?=some v):plc us v=i:=by
 obtain ⟨hi,e⟩:=A3.mp h;unfold plc;refine (List.findIdx_eq hi).mpr ⟨by rw [e];exact decide_eq_true rfl,fun j hj=>decide_eq_false fun z=>?_⟩
 exact F0.mp n j i (by omega) hi hj (z.trans e.symm)
theorem qS0 {α β:Type} {F:α->β->Prop} {l₁:List α} {l₂:List β} (h:Paired F l₁ l₂):∀ {i:Nat} {a:α},l₁[i]?=some a->∃ b,l₂[i]?=some b/\F a b:=by
 induction h with
 | nil=>intro i a e;simp at e
 | cons r _ ih=>
  intro i a e;cases i with
  | zero=>cases e;exact ⟨_,rfl,r⟩
  | succ i=>exact ih e
def StI (ks:List (List Int)) (xs:List V) (zs:List (List Int × V)):Prop:=∃ I:List Nat,I.Perm (I0 xs.length)/\I.Pairwise (fun i j=>HT.lexLt ((ks[i]?).getD []) ((ks[j]?).getD [])=true\/(ks[i]?).getD []=(ks[j]?).getD []/\i<=j)/\zs=I.map fun i=>((ks[i]?).getD [],(xs[i]?).getD .non)
def KR0 (_:Hp) (y:V) (k:List Int):Prop:=∃ n,y=.int n/\k=[n]
abbrev qXP (rs:List Value) (ks:List (List Int)):Prop:=Paired (fun v k=>∃ n t,v=G8 n t/\k=[n]) rs ks
theorem qO1:∀ {rs:List Value} {ks:List (List Int)},qXP rs ks->∀ {r:Value},r ∈ rs->∃ n t,r=G8 n t
 | _,_,.nil,_,h=>nomatch h
 | _,_,.cons ⟨n,t,e,_⟩ T,r,h=>by
  rcases B5.mp h with q | q
  ·exact ⟨n,t,q.trans e⟩
  ·exact qO1 T q
theorem qO2:∀ {rs:List Value} {ks:List (List Int)},qXP rs ks->IntsAre rs (ks.map fun k=>k.headD 0)
 | _,_,.nil=>.nil
 | _,_,.cons ⟨n,t,e,f⟩ T=>by
  subst e f;exact .cons _ _ (qO2 T)
theorem qYU {n:Int} {v:Value} (h:RelV (.int n) v):∃ t,v=.int n t:=h
theorem qS8 {a b:Int} (h:a<=b):HT.lexLt [b] [a]=false:=by
 rw [HT.lexLt_cons]
 split
 ·exact lexLt_self []
 ·exact decide_eq_false (by omega)
section
variable {X:Cx} {Ab:List (Addr × Obj)} {σ:St} {params:Arguments} {body:Expr} {scope:Scope} {p:Str} {fv:List Nat} {q:Str} {te:TE} {l f cc:Addr} {ctv:Value} {H0:Hp} {xs:List V} {ks:List (List Int)} {Q:VK}
theorem qWZ {A:Around} {s:Shared} {H:Hp} {it S:Addr} {i:Nat} {x:V} {k:List Int} {u:Value} (rm:Room 0 A) (hA:A.frames=some X.stack) (S':LmScope X scope p fv) (hbind:∀ (cl:List (Str × Addr)) (pm cd ct u:Value),bindArgs (R0 "<lambda>" q params body scope cl pm cd ct) ⟨[u],[]⟩=pure [(p,u)])
  (he:∀ z,PE (lmCx X scope p fv q z) body te) (KA:KeyAt X σ fv te KR0 H0 xs ks) (hf:H0 f=some (LamF X q params body scope cc ctv f)) (hcc:H0 cc=some (.tbl (.cod q)))
  (I:Inv X Ab σ H s) (sm:Sm0 H0 H) (hx:xs[i]?=some x) (hk:ks[i]?=some k) (rx:RelV x u) (fi:FpOk X Ab H it) (fS:FpOk X Ab H S) {oi oS:Obj} (gi:s.heap.get? it=some oi) (gS:s.heap.get? S=some oS) {Q':Value->Shared->Prop} {E:Value->Shared->Prop}
  (h:∀ v y H' s',Inv X Ab σ H' s'->Sm0 H H'->RelV y v->KR0 H' y k->FpOk X Ab H' it->FpOk X Ab H' S->s'.heap.get? it=some oi->s'.heap.get? S=some oS->Q' v s'):wpAny (model X.prog X.w) A (call (.ref f) [u]) Q' E s:=by
 have gf:s.heap.get? f=some (lamO X q params body scope cc ctv):=(show ObjOk X.prog X.w H s.heap f (LamF X q params body scope cc ctv f) from I.hok f _ (sm _ _ hf)).1;refine wpAny_call (codeAny_mono (qR5 rm I S' hA gf (sm _ _ hcc) rx hbind he (KA.key i x k hx hk H sm)) fun r s' ⟨v,y,H',e,I',ry,⟨sm',kr⟩,un⟩=>?_);subst e;exact h v y H' s' I' sm' ry kr (fi.to (un.free it oi gi fi.1 (by simp))) (fS.to (un.free S oS gS fS.1 (by simp))) (un.keep it oi gi fi.1 (I.fpStk fi) (by simp)) (un.keep S oS gS fS.1 (I.fpStk fS) (by simp))
def qYG (X:Cx) (Ab:List (Addr × Obj)) (σ:St) (H0:Hp) (ks:List (List Int)) (kS D:Addr) (oD:Obj) (j:Nat) (s:Shared):Prop:=
 ∃ (H:Hp) (rs:List Value) (c:Nat),Inv X Ab σ H s/\Sm0 H0 H/\FpOk X Ab H kS/\FpOk X Ab H D/\s.heap.get? kS=some (seqObj "list" rs.toArray c)/\s.heap.get? D=some oD/\qXP rs (ks.take j)
theorem qRT {A:Around} {s:Shared} {us:List Value} {kS D:Addr} {e1:Nat} {P:Fin->Shared->Prop} {E:Value->Shared->Prop} (rm:Room 0 A) (hA:A.frames=some X.stack) (S':LmScope X scope p fv) (hbind:∀ (cl:List (Str × Addr)) (pm cd ct u:Value),bindArgs (R0 "<lambda>" q params body scope cl pm cd ct) ⟨[u],[]⟩=pure [(p,u)])
  (he:∀ z,PE (lmCx X scope p fv q z) body te) (KA:KeyAt X σ fv te KR0 H0 xs ks) (hf:H0 f=some (LamF X q params body scope cc ctv f)) (hcc:H0 cc=some (.tbl (.cod q))) (rv:Vals xs us) (hz:us.length<=63) (hkD:kS ≠ D)
  (h0:qYG X Ab σ H0 ks kS D (seqObj "list" #[] e1) 0 s)
  (h:∀ (H:Hp) (s':Shared) (zs:List (List Int × V)) (out:List Value) (n:Nat),Inv X Ab σ H s'->Sm0 H0 H->FpOk X Ab H D->zs.Perm (ks.zip xs)->zs.Pairwise (fun a b=>HT.lexLt b.1 a.1=false)->(us.Nodup->StI ks xs zs)->Vals (zs.map (·.2)) out->s'.heap.get? D=some (seqObj "list" out.toArray n)->P (.done (.ret .none)) s') :
  wpAny (model X.prog X.w) A (ksk_rest D (.ref f) false us.toArray e1 (.ref kS)) P E s:=by
 have lu:=rv.length;have lk:=KA.len;unfold ksk_rest;refine wpAny_bind (wpAny_rule ?_)
 first
  | rw [A43]
  | (rw [<- d3];simp only [A30])
  | rw [<- d3]
 refine wpAny_bind (ksk_fold (fun j s'=>qYG X Ab σ H0 ks kS D (seqObj "list" #[] e1) j s') us 0 s h0 (fun j u s' hu hK=>?_) fun s' hK=>?_)
 ·rw [O6] at hK ⊢;obtain ⟨H,rs,c,I,sm,fk,fD,gk,gD,T⟩:=hK;have hj:j<us.length:=(A3.mp hu).1;have hjx:j<xs.length:=by omega
  have hjk:j<ks.length:=by omega
  have hx:=A1 hjx;have hk:=A1 hjk;obtain ⟨u',hu',ru⟩:=rv.get hx;rw [hu] at hu';cases hu';have lT:rs.length=(ks.take j).length:=C6 T;rw [D4] at lT;refine wpAny_bind (wpAny_attempt (qWZ rm hA S' hbind he KA hf hcc I sm hx hk ru fk fD gk gD fun v y H' s2 I2 sm2 ry ⟨r,ey,gr⟩ fk2 fD2 gk2 gD2=>?_));subst ey;obtain ⟨tg,rfl⟩:=qYU ry;have ea:(rs.toArray).push (G8 r tg)=(rs++[G8 r tg]).toArray:=by simp
  obtain ⟨c2,hc2⟩:∃ c2,(s2.heap.update kS (F2 (·.push (G8 r tg)))).get? kS=some (seqObj "list" (rs++[G8 r tg]).toArray c2):=⟨_,by rw [<- ea];exact get?_update_seq gk2 (·.push (G8 r tg))⟩
  try dsimp only
  refine wpAny_bind (listUpdate_at gk2 rfl ?_ (by rw [A7,sizeLine_eq];omega) (L6 (A59 (A72 ..)) (by rw [A7,sizeLine_eq];omega)))
  refine wpAny_pure ⟨rfl,H',rs++[.int r tg],c2,Inv.off I2 fk2 (fun b o hb e=>(C0 _ _ (G6 hb)).trans e),fun b o e=>sm2 b o (sm b o e),fk2,fD2,hc2,(C0 _ _ hkD).trans gD2,?_⟩;rw [C2,hk,B9];exact V6 T ⟨r,tg,rfl,gr⟩
 ·rw [O6] at hK;obtain ⟨H,rs,c,I,sm,fk,fD,gk,gD,T⟩:=hK;rw [G0 (by omega)] at T
  have lr:rs.length=ks.length:=C6 T
  try dsimp only
  refine wpAny_bind (listItems_at gk rfl ?_);unfold ksk_end;dsimp only;simp only [E2,if_false]
  -- the triples
  have ez:(rs.toArray.zip us.toArray).toList=(rs.zip (xs.zip us)).map fun t=>((t.1,t.2.2):Keyed):=by
   rw [j6];show rs.zip us=_;have:∀ (rs:List Value) (xs:List V) (us:List Value),rs.length=xs.length->xs.length=us.length->rs.zip us=(rs.zip (xs.zip us)).map fun t=>((t.1,t.2.2):Keyed):=by
    intro rs
    induction rs with
    | nil=>intro xs us _ _;rfl
    | cons r rs ih=>
     intro xs us h1 h2
     match xs,us,h1,h2 with
     | x::xs,u::us,h1,h2=>
      rw [G3,G3,G3,C1,ih xs us (by simpa using h1) (by simpa using h2)]
     | [],_,h1,_=>simp at h1
     | _::_,[],_,h2=>simp at h2
   exact this rs xs us (by omega) (by omega)
  have tz:(rs.zip (xs.zip us)).map (fun t=>([numOf t.1],t.2.1))=ks.zip xs:=by
   have:∀ (rs:List Value) (ks:List (List Int)) (xs:List V) (us:List Value),qXP rs ks->rs.length=xs.length->xs.length=us.length->(rs.zip (xs.zip us)).map (fun t=>([numOf t.1],t.2.1))=ks.zip xs:=by
    intro rs ks xs us T
    induction T generalizing xs us with
    | nil=>intro _ _;rfl
    | @cons r k l1 l2 g _ ih=>
     intro h1 h2
     match xs,us,h1,h2 with
     | x::xs,u::us,h1,h2=>
      obtain ⟨n,t,e1,e2⟩:=g;subst e1 e2;rw [G3,G3,G3,C1,show numOf (G8 n t)=n from rfl,ih xs us (by simpa using h1) (by simpa using h2)]
     | [],_,h1,_=>simp at h1
     | _::_,[],_,h2=>simp at h2
   exact this rs ks xs us T (by omega) (by omega)
  have relT:∀ t ∈ rs.zip (xs.zip us),RelV t.2.1 t.2.2:=by
   intro t ht;obtain ⟨i,hi⟩:=L8 ht;rw [Q1] at hi;have h2:=hi.2;rw [Q1] at h2;obtain ⟨u,hu,ru⟩:=rv.get h2.1;rw [hu] at h2;have:=D5 h2.2;rw [<- this];exact ru
  have memT:∀ t ∈ rs.zip (xs.zip us),∃ n tg,t.1=G8 n tg:=fun t ht=>qO1 T (c6 ht).1
  letI:NM:=⟨numOf,fun v=>∃ n t,v=.int n t⟩
  have fin:∀ arr:Array Keyed,arr.Perm (rs.toArray.zip us.toArray)->gSortedTo arr arr.size->wpAny (model X.prog X.w) A (ksk_tail D false e1 (.ref kS) (SortSt.mk' oneType' arr #[] 7 none)) P E s'->True:=fun _ _ _ _=>trivial;have tail:∀ (st:SortSt),(arrOf st).Perm (rs.toArray.zip us.toArray)->gSortedTo (arrOf st) (arrOf st).size->(us.Nodup->qFF (fun p=>(plc us p.2:Int)) (arrOf st) (arrOf st).size)->failedOf st=none->wpAny (model X.prog X.w) A (ksk_tail D false e1 (.ref kS) st) P E s':=by
   intro st pm so soX fl;obtain ⟨L',p1,p2⟩:=perm_map_inv (Q8.mp pm) (rs.zip (xs.zip us)) ez;unfold ksk_tail;dsimp only;refine wpAny_bind (listUpdate_at gk rfl ?_ (by rw [A7,sizeLine_eq];omega) (D7 _))
   refine wpAny_bind (wpAny_letGo ?_);have gD2:(s'.heap.update kS (F2 fun _=>(#[]:Array Value))).get? D=some (seqObj "list" #[] e1):=(C0 _ _ hkD).trans gD;have I2:=Inv.off (h':=s'.heap.update kS (F2 fun _=>(#[]:Array Value))) I fk (fun b o hb e=>(C0 _ _ (G6 hb)).trans e);refine wpAny_bind (seqEpoch_at gD2 rfl ?_);have la:(arrOf st).size=us.length:=by
    have:=pm.size_eq;rw [this];simp;omega
   refine wpAny_bind (listUpdate_at gD2 rfl ?_ (D7 _) (by simp only [E2,if_false];rw [o3,la,sizeLine_eq];omega))
   simp only [E2,if_false];rw [fl];simp only [bne_self_eq_false,E2,if_false];obtain ⟨n2,hn2⟩:∃ n2,((s'.heap.update kS (F2 fun _=>(#[]:Array Value))).update D (F2 fun _=>(arrOf st).map (·.2))).get? D=some (seqObj "list" ((arrOf st).map (·.2)) n2):=⟨_,get?_update_seq gD2 fun _=>(arrOf st).map (·.2)⟩;have eo:(arrOf st).map (·.2)=(L'.map (·.2.2)).toArray:=by
    apply A62.mp;rw [j7,p2,R7]
    rfl
   rw [show seqObj "list" ((arrOf st).map (·.2)) n2=seqObj "list" (L'.map (·.2.2)).toArray n2 by rw [eo]] at hn2
   have I3:=Inv.off (s:={ s' with heap:=s'.heap.update kS (F2 fun _=>(#[]:Array Value)) }) (h':=(s'.heap.update kS (F2 fun _=>(#[]:Array Value))).update D (F2 fun _=>(arrOf st).map (·.2))) I2 fD (fun b o hb e=>(C0 _ _ (G6 hb)).trans e);refine wpAny_pure (h H _ (L'.map fun t=>([numOf t.1],t.2.1)) (L'.map (·.2.2)) n2 I3 sm fD ?_ ?_ ?_ ?_ hn2)
   ·rw [<- tz];exact p1.map _
   ·rw [F3];have so2:(arrOf st).toList.Pairwise (fun a b=>gkv a<=gkv b):=by
     rw [F0];intro i j hi hj hij;have hi2:i<(arrOf st).size:=by simpa using hi
     have hj2:j<(arrOf st).size:=by simpa using hj
     have a:=so i j (R1 hij) hj2;rw [qO4 hi2,qO4 hj2] at a;rw [S0,S0];exact a
    rw [p2,F3] at so2;refine so2.imp_of_mem fun {a b} ha hb le=>?_;have le:numOf a.1<=numOf b.1:=le;exact qS8 le
   ·intro nu;obtain ⟨I,pI,eI⟩:=qWJ ((.none,.non,.none):Value × V × Value) p1;have lL:(rs.zip (xs.zip us)).length=xs.length:=by rw [m4,m4];omega
    rw [lL] at pI;have at_:∀ i ∈ I,∃ n tg x u,rs[i]?=some (G8 n tg)/\ks[i]?=some [n]/\xs[i]?=some x/\us[i]?=some u/\(rs.zip (xs.zip us))[i]?=some (G8 n tg,x,u):=fun i hi=>by
     have hl:i<xs.length:=P7.mp (pI.mem_iff.mp hi);have h1:=A1 (show i<rs.length by omega)
     have h2:=A1 hl;have h3:=A1 (show i<us.length by omega)
     obtain ⟨k,hk,n,tg,e1,e2⟩:=qS0 T h1;rw [e1] at h1;rw [e2] at hk;exact ⟨n,tg,_,_,h1,hk,h2,h3,by rw [Q1];exact ⟨h1,by rw [Q1];exact ⟨h2,h3⟩⟩⟩
    refine ⟨I,pI,?_,?_⟩
    ·have so3:(arrOf st).toList.Pairwise (fun a b=>gkv a<gkv b\/gkv a=gkv b/\(plc us a.2:Int)<=plc us b.2):=by
      rw [F0];intro i j hi hj hij;have hi2:i<(arrOf st).size:=by simpa using hi
      have hj2:j<(arrOf st).size:=by simpa using hj
      have a:=soX nu i j (R1 hij) hj2;unfold gLe gX at a;rw [qO4 hi2,qO4 hj2,E5 hi2,E5 hj2] at a;rw [S0,S0];exact a
     rw [p2,eI,R7,F3] at so3;refine so3.imp_of_mem fun {i j} hi hj le=>?_;obtain ⟨n,tg,x,u,h1,h2,h3,h4,h5⟩:=at_ i hi;obtain ⟨n',tg',x',u',h1',h2',h3',h4',h5'⟩:=at_ j hj;simp only [x6,h5,h5',U8] at le;rw [qTG nu h4,qTG nu h4'] at le;rw [h2,h2'];have le:n<n'\/n=n'/\(i:Int)<=(j:Int):=le;rcases le with le | ⟨le,le2⟩
     ·refine .inl ?_;show HT.lexLt [n] [n']=true;rw [HT.lexLt_cons,if_neg (by omega)]
      exact decide_eq_true le
     ·exact .inr ⟨by rw [le],by omega⟩
    ·rw [eI,R7];refine P0 fun i hi=>?_;obtain ⟨n,tg,x,u,h1,h2,h3,h4,h5⟩:=at_ i hi;simp only [x6,h5,h2,h3,U8]
     rfl
   ·have:∀ L:List (Value × V × Value),(∀ t ∈ L,RelV t.2.1 t.2.2)->Vals ((L.map fun t=>([numOf t.1],t.2.1)).map (·.2)) (L.map (·.2.2)):=by
     intro L
     induction L with
     | nil=>intro _;exact .nil
     | cons t L ih=>intro hL;exact .cons (hL t (by simp)) (ih fun t ht=>hL t (A5 _ ht))
    exact this L' fun t ht=>relT t (p1.mem_iff.mp ht)
  by_cases few:us.toArray.size<2
  ·simp only [if_pos few];refine wpAny_bind (wpAny_pure ?_);rw [l8];refine wpAny_bind (wpAny_pure (tail _ (.refl _) (fun i j hij hj=>?_) (fun _ i j hij hj=>by
    have sz:(rs.toArray.zip us.toArray).size<=1:=by rw [Z1];omega
    have hj':j<(rs.toArray.zip us.toArray).size:=hj;rw [show i=j by omega]
    exact .refl _) rfl))
   have sz:(arrOf (SortSt.mk' general' (rs.toArray.zip us.toArray) #[] 7 none)).size<=1:=by
    show (rs.toArray.zip us.toArray).size<=1;rw [Z1];omega
   have hj':j<(arrOf (SortSt.mk' general' (rs.toArray.zip us.toArray) #[] 7 none)).size:=hj;have ij:i=j:=by omega
   rw [ij];exact F4 _
  ·simp only [if_neg few];rw [A7] at few
   haveI lt_ok:LtOk X.prog X.w A s' oneType':=⟨fun {x y Q E} hx hy h=>by
    obtain ⟨n,t,rfl⟩:=hx;obtain ⟨m,u,rfl⟩:=hy;rw [keyLt'_oneType];exact oneLt_int h⟩
   have ik:qC5 (rs.toArray.zip us.toArray):=fun pq hp=>by
    rw [ez] at hp;obtain ⟨t,ht,rfl⟩:=D6.mp hp;exact memT t ht
   have kk:keyKind' rs.toArray=pure oneType':=by
    have ia:=qO2 T
    match rs,lr,ia with
    | [],lr,_=>exact absurd lr (by show ¬ 0=ks.length;omega)
    | [_],lr,_=>exact absurd lr (by show ¬ 1=ks.length;omega)
    | _::_::_,_,ia=>exact keyKind_ints ia
   rw [kk];refine wpAny_bind (wpAny_pure ?_);refine wpAny_bind (wpAny_mono (qL8 (ix:=fun p=>if us.Nodup then (plc us p.2:Int) else 0) (κ0:=oneType') (a₀:=rs.toArray.zip us.toArray) (Q:=fun _ st2=>gSG oneType' (rs.toArray.zip us.toArray) st2/\qFF (fun p=>if us.Nodup then (plc us p.2:Int) else 0) (arrOf st2) (rs.toArray.zip us.toArray).size) (by rw [Z1,A7,A7];omega) ik ⟨.refl _,rfl,rfl⟩ ?_ rfl fun st2 g u=>⟨g,u⟩) ?_ fun _ _ x=>x)
   ·intro i j hij _ hj;have hj:j<(rs.toArray.zip us.toArray).size:=hj;show gX _ (rs.toArray.zip us.toArray) i<=gX _ (rs.toArray.zip us.toArray) j;have hsz:(rs.toArray.zip us.toArray).size<=us.length:=by rw [Z1,A7,A7];omega
    by_cases nu:us.Nodup
    ·have e:∀ k,k<(rs.toArray.zip us.toArray).size->gX (fun p=>if us.Nodup then (plc us p.2:Int) else 0) (rs.toArray.zip us.toArray) k=k:=fun k hk=>by
      unfold gX;rw [E5 hk,Array.getElem_zip];dsimp only;rw [if_pos nu,qTG nu (i:=k) (by rw [W0,A1])]
     rw [e i (by omega),e j hj]
     omega
    ·have e:∀ k,gX (fun p=>if us.Nodup then (plc us p.2:Int) else 0) (rs.toArray.zip us.toArray) k=0:=fun k=>by
      unfold gX
      split
      ·exact if_neg nu
      ·rfl
     rw [e i,e j];exact F4 _
   rintro ⟨_,st2⟩ s2 ⟨es,g,u⟩;cases (show s2=_ from es);exact tail st2 g.perm (by rw [g.perm.size_eq];exact fun i j hij hj=>(u i j hij hj).k) (fun nu=>by rw [g.perm.size_eq];simp only [if_pos nu] at u;exact u) g.failed
theorem sorti_call {s:Shared} {H:Hp} (rm:Room 2 X.A) (hA:X.A.in1.in1.frames=some X.stack) (S':LmScope X scope p fv) (hbind:∀ (cl:List (Str × Addr)) (pm cd ct u:Value),bindArgs (R0 "<lambda>" q params body scope cl pm cd ct) ⟨[u],[]⟩=pure [(p,u)])
  (he:∀ z,PE (lmCx X scope p fv q z) body te) (KA:KeyAt X σ fv te KR0 H xs ks) (hf:H f=some (LamF X q params body scope cc ctv f)) (hcc:H cc=some (.tbl (.cod q))) (hl:SqT X.K H l xs\/SqL X.K H l xs) (I:Inv X Ab σ H s) (hz:xs.length<=63)
  (hQ:∀ (H':Hp) (D:Addr) (zs:List (List Int × V)),Sm0 H H'->H' D=none->zs.Perm (ks.zip xs)->zs.Pairwise (fun a b=>HT.lexLt b.1 a.1=false)->(∀ as:List Addr,xs=as.map V.ref->as.Nodup->StI ks xs zs)->Q (.ref D) (upd H' D (.lst (zs.map (·.2))))) :
  wpAny (model X.prog X.w) X.A (call (.builtin "sorted") [.ref l] [(D3 "key",.ref f)]) (EP X Ab σ Q) X.xe s:=by
 refine call_function_entry_kw kind_sorted plain_sorted entry_sorted (qKR _ _) ?_;unfold Builtin.«sorted»;refine wpAny_bind (m:=checkCount "sorted" 1 1 _) (wpAny_pure ?_);have src:∃ (its:List Value),Vals xs its/\∀ (P:List Value->Shared->Prop),(∀ h',(∀ b o,s.heap.get? b=some o->h'.get? b=some o)->P its { s with heap:=h' })->wpAny (model X.prog X.w) X.A.in1 (collect (.ref l)) P X.xe s:=by
  rcases hl with hl | hl
  ·obtain ⟨its,rv,⟨o,ho,hc',n,hd⟩,hz2⟩:=I.tuple hl;refine ⟨its,rv,fun P h=>wpAny_collect_seq l (.inr rfl) ho hc' hd (fun h' hk=>h h' hk) ?_⟩;rw [A7,<- rv.length,sizeLine_eq];omega
  ·obtain ⟨its,rv,pl,hz2⟩:=I.list hl;obtain ⟨o,ho,hc',n,hd⟩:=pl.isList;refine ⟨its,rv,fun P h=>wpAny_collect_seq l (.inl rfl) ho hc' hd (fun h' hk=>h h' hk) ?_⟩;rw [A7,<- rv.length,sizeLine_eq];omega
 obtain ⟨its,rv,col⟩:=src;have li:=rv.length;refine wpAny_bind (col _ fun h1 k1=>?_);have I1:Inv X Ab σ H { s with heap:=h1 }:=I.kept (t':=s.toks) k1;refine wpAny_bind (wpAny_newList ?_ (by show its.length<=_;rw [sizeLine_eq];omega))
 have fD0:FpOk X Ab H h1.objs.size:=I1.fpOk (B0 _) (I1.hok.fresh (B0 _));have szD:=I1.sz;have gD:(h1.push (seqObj "list" its.toArray 0)).get? h1.objs.size=some (seqObj "list" its.toArray 0):=B6 _ rfl;have I2:Inv X Ab σ H { s with heap:=h1.push (seqObj "list" its.toArray 0) }:=I1.kept (t':=s.toks) fun b o e=>A2 _ e;have ltD:h1.objs.size<(h1.push (seqObj "list" its.toArray 0)).objs.size:=B1 gD;show wpAny _ _ _ _ _ { s with heap:=h1.push (seqObj "list" its.toArray 0) };show wpAny _ _ (holding [.ref h1.objs.size] (call (.builtin "list.sort") [.ref h1.objs.size] [(D3 "key",.ref f)]) >>= _) _ _ _;generalize h1.push (seqObj "list" its.toArray 0)=h2 at gD I2 ltD ⊢;have szD:X.s₀.heap.objs.size<=h1.objs.size:=szD;generalize h1.objs.size=D at fD0 szD gD ltD ⊢;refine wpAny_bind (wpAny_holding (wpAny_call_entry_kw slot_list_sort ⟨_,gD,rfl⟩ entry_list_sort ?_ (ksk_l1 _ _)));show wpAny (model X.prog X.w) X.A.in1.in1 (Builtin.«list.sort» ⟨[.ref D],[(D3 "key",.ref f)]⟩) _ _ _;rw [ksk_t1];unfold ksk_tree;refine wpAny_bind (listItems_at gD rfl ?_);refine wpAny_bind (listUpdate_at gD rfl ?_ (by rw [A7,sizeLine_eq];omega) (D7 _))
 obtain ⟨e1,ho1⟩:∃ e1,(h2.update D (F2 fun _=>(#[]:Array Value))).get? D=some (seqObj "list" #[] e1):=⟨_,get?_update_seq gD fun _=>#[]⟩;have I3:=Inv.off (h':=h2.update D (F2 fun _=>(#[]:Array Value))) I2 fD0 (fun b o hb e=>(C0 _ _ (G6 hb)).trans e);have ltD3:D<(h2.update D (F2 fun _=>(#[]:Array Value))).objs.size:=B1 ho1;refine wpAny_bind (seqEpoch_at ho1 rfl ?_);generalize h2.update D (F2 fun _=>(#[]:Array Value))=h3 at ho1 I3 ltD3 ⊢;refine wpAny_bind (wpAny_newTuple ?_ (by show its.length<=_;rw [sizeLine_eq];omega))
 refine wpAny_bind (wpAny_newList ?_ (D7 _));refine wpAny_holding ?_;have hkS:(h3.push (seqObj "tuple" its.toArray 0)).objs.size=h3.objs.size+1:=J6 ..;have I4:Inv X Ab σ H { s with heap:=(h3.push (seqObj "tuple" its.toArray 0)).push (seqObj "list" #[] 0) }:=I3.kept (t':=s.toks) fun b o e=>A2 _ (A2 _ e);have fk:FpOk X Ab H (h3.push (seqObj "tuple" its.toArray 0)).objs.size:=by rw [hkS];exact I3.fpOk (Z5 _) (I3.hok.fresh (Z5 _))
 refine qRT (kS:=(h3.push (seqObj "tuple" its.toArray 0)).objs.size) (D:=D) (rm.in1.in1) hA S' hbind he KA hf hcc rv (by omega) (by rw [hkS];exact R3 (L0 ltD3)) ⟨H,[],0,I4,fun _ _ e=>e,fk,fD0,B6 _ rfl,A2 _ (A2 _ ho1),?_⟩ fun H' s' zs out n I5 sm fD5 pm so sti rvo gD5=>⟨_,rfl,?_⟩
 ·rw [o6];exact .nil
 ·refine wpAny_pure ⟨_,rfl,.ref D,upd H' D (.lst (zs.map (·.2))),I5.track fD5.1 szD fD5.2.1 fD5.2.2.2.2.1 fD5.2.2.2.2.2 ⟨?_,out,n,rvo,gD5⟩,rfl,hQ H' D zs sm fD5.1 pm so fun as ea na=>sti ?_⟩
  ·have:=pm.length_eq;rw [A0,this,m4,sizeLine_eq];omega
  ·have:∀ (as:List Addr) (us:List Value),Vals (as.map V.ref) us->us=as.map C9:=by
    intro as
    induction as with
    | nil=>intro us h;cases h;rfl
    | cons a as ih=>intro us h;cases h with | cons h1 h2=>cases h1;rw [ih _ h2];rfl
   rw [ea] at rv;rw [this as its rv];exact List.Pairwise.map _ (fun a b hab z=>hab (C9.inj z)) na
end
end L2.G
namespace L2
open PySem PySem.Spec PyProof.Rows
section
variable {X:Cx}
def qaB (P:Addr) (K:PySem.W.Frag) (q:Str) (fv:List Nat) (te:TE) (ta:TA):TE:=fun σ H Q=>ta σ H fun vs H1=>H1 P=some (.tbl (.tab q))/\
 ∃ (l:Addr) (xs:List V) (ks:List (List Int)),vs=[.ref l]/\(SqT K H1 l xs\/SqL K H1 l xs)/\xs.length<=63/\ks.length=xs.length/\(∀ (i:Nat) (x:V) (k:List Int),xs[i]?=some x->ks[i]?=some k->∀ Hc,Sm0 H1 Hc->te (qGB fv σ x) Hc fun y H'=>Sm0 Hc H'/\G.KR0 H' y k)/\
  ∀ (H':Hp) (D:Addr) (zs:List (List Int × V)),Sm0 H1 H'->H' D=none->zs.Perm (ks.zip xs)->zs.Pairwise (fun a b=>HT.lexLt b.1 a.1=false)->(∀ as:List Addr,xs=as.map V.ref->as.Nodup->G.StI ks xs zs)->Q (.ref D) (upd H' D (.lst (zs.map (·.2))))
theorem qWL {e:Expr} {ta:TA} {np pos kpos lpos:Pos} {params:Arguments} {body:Expr} {scope:Scope} {c P:Addr} {q:Str} {p:Str} {fv:List Nat} {te:TE}
  (rm:Room 2 X.A) (hg:Gl X "sorted") (hm:X.mg "sorted" = none) (hv:bootBuiltins "sorted" = some (.builtin "sorted")) (hb:BM X.mg X.base) (hcode:X.env.code=.ref c) (hd:hdIn X.K c P=true) (hq:X.env.qual ++ "<lambda>" = q)
  (S:LmScope X scope p fv) (hdef:defaultsOf params X.env=([],[])) (hbind:∀ (cl:List (Str × Addr)) (pm cd ct u:Value),bindArgs (R0 "<lambda>" q params body scope cl pm cd ct) ⟨[u],[]⟩=pure [(p,u)])
  (ha:PA X [e] ta) (he:∀ z,PE (lmCx X scope p fv q z) body te) (hs:starEach [e] X.env=[(false,eval e X.env)]:=by rfl) :
  PE X (.Call (.Name "sorted" np) [e] [⟨some "key",.Lambda params body scope lpos,kpos⟩] pos) (qaB P X.K q fv te ta):=by
 intro Ab s σ H Q I h;refine wpAny_Call_Name_kw (qFB I hg hm hv ?_ (by decide) (by decide))
 refine a9 (thn (ha pos Ab s σ H _ I h) fun us s1 ⟨vs,H1,I1,r1,q1⟩=>?_) (by rw [hs];rfl) (by rw [hs];rfl)
 obtain ⟨hP,l,xs,ks,rfl,hl,hz,lk,hk,q2⟩:=q1;obtain ⟨u,rfl,rx⟩:=qDK r1;cases rx;have C:=qOL (c:=c) (P:=P) I1.ok.mod.kin hd;have pl:=qXX (X:=X) (pos:=lpos) (body:=body) hb hcode C hq S hdef;refine thn (qPH (kpos:=kpos) (nm:=some "key") pl qTH pos Ab s1 σ H1 (fun zs H2=>∃ f cc ctv,zs=[.ref f]/\Sm0 H1 H2/\H2 f=some (LamF X q params body scope cc ctv f)/\H2 cc=some (.tbl (.cod q))) I1 ⟨hP,fun f cc ctv H' sm h0 hf hcc=>⟨f,cc,ctv,rfl,sm,hf,hcc⟩⟩) fun ws s2 ⟨zs,H2,I2,rz,f,cc,ctv,ez,sm,hf,hcc⟩=>?_;subst ez;obtain ⟨u2,rfl,r2⟩:=qDK rz;cases r2;have hA:X.A.in1.in1.frames=some X.stack:=I2.ok.frames;exact G.sorti_call (H:=H2) rm hA S hbind he ⟨lk,fun i x k hx hk' Hc smc=>hk i x k hx hk' Hc fun b o e=>smc b o (sm b o e)⟩ hf hcc (hl.imp (fun z=>z.sm sm) fun z=>z.sm sm) I2 hz
  fun H' D zs smc a b c d=>q2 H' D zs (fun b o e=>smc b o (sm b o e)) a b c d
end
end L2
namespace L2.G
open PySem PySem.Spec PyProof.Rows
section
variable [NM]
variable {prog:Program} {w:World} {A:Around} {E:Value->Shared->Prop} {s:Shared}
theorem qT6 {κ0:SortKind} {a:Addr} {vs:List Value} {n:Nat} {P:Fin->Shared->Prop} (e0:s.heap.get? a=some (seqObj "list" vs.toArray n)) (hs:vs.length<64) (hz:vs.length<=sizeLine) (gd:∀ v ∈ vs,NM.good v)
  (hk:∀ h':Heap,(∀ (b:Addr) (o:Obj),b ≠ a->s.heap.get? b=some o->h'.get? b=some o)->2<=vs.length->(∀ {Q:SortKind->Shared->Prop},Q κ0 { s with heap:=h' }->wpAny (model prog w) A (keyKind' vs.toArray) Q E { s with heap:=h' })/\LtOk prog w A { s with heap:=h' } κ0)
  (h:∀ (out:Array Value),out.toList.Perm vs->out.toList.Pairwise (fun u v=>NM.nm v<=NM.nm u)->P (.done (.ret .none)) { s with heap:=sortedHeap s.heap a vs out }):wpAny (model prog w) A (Builtin.«list.sort» ⟨[.ref a],[(D3 "reverse",.bool true)]⟩) P E s:=by
 have la:=B1 e0;have z0:vs.toArray.size<=sizeLine:=by simpa using hz
 unfold Builtin.«list.sort»;dsimp only;rw [if_neg (show ¬ ([]:List Value).length+[(D3 "reverse",Q4 true)].length > 2 by decide)]
 rw [if_neg (show ¬ (!([]:List Value).isEmpty)=true by decide)]
 have k1:List.lookup (D3 "key") [(D3 "reverse",Q4 true)]=none:=by kernel_rfl
 have k2:List.lookup (D3 "reverse") [(D3 "reverse",Q4 true)]=some (.bool true):=by kernel_rfl
 have k3:((D3 "reverse" : Str) != D3 "key" && (D3 "reverse" : Str) != D3 "reverse")=false:=by kernel_rfl
 have k4:(U0 != U0)=false:=by kernel_rfl
 simp only [k1,k2,k3,y8,k4,E2,if_false,R6,A24,pure_bind];refine wpAny_bind (wpAny_truthy_bool ?_);simp only [if_true];refine wpAny_bind (listItems_at e0 rfl (wpAny_bind (listUpdate_at e0 rfl ?_ z0 (D7 _))));have e1:∃ k,(s.heap.update a (F2 fun _=>#[])).get? a=some (seqObj "list" #[] k):=⟨_,get?_update_seq e0 fun _=>#[]⟩;obtain ⟨k,e1⟩:=e1;refine wpAny_bind (seqEpoch_at e1 rfl (wpAny_bind (wpAny_newTuple ?_ (by simpa using hz))))
 refine wpAny_bind (wpAny_newList (wpAny_holding ?_));have e2:(((s.heap.update a (F2 fun _=>#[])).push (seqObj "tuple" vs.toArray 0)).push (seqObj "list" #[] 0)).get? a=some (seqObj "list" #[] k):=by
  rw [e7,e7]
  ·exact e1
  ·rw [i9];exact C7 la
  ·rw [size_push',i9];exact C7 (L0 la)
 have kept:∀ (b:Addr) (o:Obj),b ≠ a->s.heap.get? b=some o->(((s.heap.update a (F2 fun _=>#[])).push (seqObj "tuple" vs.toArray 0)).push (seqObj "list" #[] 0)).get? b=some o:=fun b o hb q=>
  A2 _ (A2 _ ((Heap.get?_update_ne _ _ _ _ hb).trans q))
 have last:∀ xs:Array Keyed,xs.Perm (pairsOf vs)->gSortedTo xs (pairsOf vs).size->P (.done (.ret .none)) { s with heap:=sortedHeap s.heap a vs (xs.map (·.2)).reverse }:=by
  intro xs px sx;obtain ⟨q1,q2⟩:=qTT px sx;refine h _ ?_ ?_
  ·rw [j8];exact (t7 _).trans q1
  ·rw [j8];exact A13.mpr q2
 have sz:∀ xs:Array Keyed,xs.Perm (pairsOf vs)->(xs.map (·.2)).reverse.size<=sizeLine+1:=by
  intro xs px;rw [Array.size_reverse,o3,px.size_eq,pairsOf_size];omega
 refine wpAny_bind (wpAny_rule ?_);show wpAny _ A _ P E { s with heap:=((s.heap.update a (F2 fun _=>#[])).push (seqObj "tuple" vs.toArray 0)).push (seqObj "list" #[] 0) };have pr:(pairsOf vs).reverse.Perm (pairsOf vs):=Q8.mpr (by rw [j8];exact t7 _)
 by_cases few:vs.toArray.size<2
 ·simp only [if_pos few];rw [l8];refine wpAny_bind (wpAny_pure (wpAny_bind (seqEpoch_at e2 rfl (wpAny_bind (listUpdate_at e2 rfl ?_ (D7 _) (sz (pairsOf vs).reverse pr))))));simp only [bne_self_eq_false,E2,if_false];refine wpAny_pure (last (pairsOf vs).reverse pr fun i j hij hj=>?_);rw [pairsOf_size] at hj;rw [A7] at few;rw [show i=j by omega]
  exact F4 _
 ·simp only [if_neg few];rw [A7] at few;obtain ⟨hk1,hk2⟩:=hk _ kept (by omega)
  have ik:qC5 (pairsOf vs):=fun p hp=>by
   have m:=A31 (f:=(·.2)) hp;rw [qNC] at m;rw [qHK p hp];exact gd _ m
  refine wpAny_bind (hk1 (wpAny_bind (wpAny_mono (gwpS_runs (κ0:=κ0) (a₀:=pairsOf vs) (Q:=fun _ st2=>gSG κ0 (pairsOf vs) st2/\gSortedTo (arrOf st2) (pairsOf vs).size) (by simpa [pairsOf] using hs) ik ⟨pr,rfl,rfl⟩ rfl fun st2 g u=>⟨g,u⟩) ?_ fun _ _ x=>x)))
  rintro ⟨_,st2⟩ s2 ⟨es,g,u⟩;cases (show s2=_ from es);refine wpAny_bind (seqEpoch_at e2 rfl (wpAny_bind (listUpdate_at e2 rfl ?_ (D7 _) (sz _ g.perm))));have gf:failedOf st2=none:=g.failed;dsimp only
  split
  ·rename_i e he
   have:failedOf st2=some e:=he;rw [gf] at this;cases this
  ·simp only [bne_self_eq_false,E2,if_false];exact wpAny_pure (last _ g.perm u)
end
section
variable {X:Cx}
theorem qRU {Ab:List (Addr × Obj)} {s:Shared} {σ:St} {H:Hp} {Q:VK} {A:Around} {E:Value->Shared->Prop} {rs:List Addr} {ts:List (List Int)} {D:Addr} (I:Inv X Ab σ (upd H D (.lst (rs.map V.ref))) s) (hD:H D=none) (T:TupsAt H rs ts)
  (hk:∀ t ∈ ts,t ≠ []) (hs:rs.length<64)
  (q:∀ rs' ts',rs'.Perm rs->TupsAt H rs' ts'->ts'.Perm ts->ts'.Pairwise (fun a b=>HT.lexLt a b=false)->Q (.ref D) (upd H D (.lst (rs'.map V.ref)))) :
  wpAny (model X.prog X.w) A (call (.builtin "list.sort") [.ref D] [(D3 "reverse",.bool true)]) (fun _ s'=>EP X Ab σ Q (.ref D) s') E s:=by
 obtain ⟨z,its,n,rv,hl,e⟩:=I.lstM qA1;have ei:=qEH rv;subst ei;have hz:(rs.map C9).length<=sizeLine:=by simpa using z
 letI:NM:=tupNM H ts
 have gd:∀ v ∈ rs.map C9,NM.good v:=fun v hv=>by
  obtain ⟨r,hr,rfl⟩:=D6.mp hv;obtain ⟨t,ht,g⟩:=qIH T hr;exact ⟨r,t,rfl,g,ht⟩
 have tat:∀ (h':Heap),(∀ (b:Addr) (o:Obj),b ≠ D->s.heap.get? b=some o->h'.get? b=some o)->∀ (r:Addr) (t:List Int),H r=some (.tup (t.map V.int))->∃ xs:Array Value,IsTup h' r xs/\IntsAre xs.toList t:=by
  intro h' kept r t g;have nr:r ≠ D:=qA5 g hD;obtain ⟨its,r1,⟨o,ho,hc,n,hd⟩,_⟩:=I.tuple (SqT.of (show (upd H D (.lst (rs.map V.ref))) r=some (.tup (t.map V.int)) by rw [qA8 nr];exact g))
  exact ⟨its.toArray,⟨o,kept r o nr ho,hc,n,hd⟩,qL7 r1⟩
 have lt_ok:∀ (A':Around) (h':Heap) (κ:SortKind),(∀ (x y:Addr) (xs ys:Array Value) (ns ms:List Int) (Q:Bool->Shared->Prop) (E:Value->Shared->Prop),IsTup h' x xs->IsTup h' y ys->IntsAre xs.toList ns->IntsAre ys.toList ms->Q (HT.lexLt ns ms) { s with heap:=h' }->wpAny (model X.prog X.w) A' (keyLt' κ (.ref x) (.ref y)) Q E { s with heap:=h' })->
   (∀ (b:Addr) (o:Obj),b ≠ D->s.heap.get? b=some o->h'.get? b=some o)->LtOk X.prog X.w A' { s with heap:=h' } κ:=by
  intro A' h' κ rule kept;refine ⟨fun {x y Q E} hx hy h=>?_⟩;obtain ⟨r1,t1,rfl,g1,m1⟩:=hx;obtain ⟨r2,t2,rfl,g2,m2⟩:=hy;obtain ⟨xs,i1,j1⟩:=tat h' kept r1 t1 g1;obtain ⟨ys,i2,j2⟩:=tat h' kept r2 t2 g2;refine rule r1 r2 xs ys t1 t2 Q E i1 i2 j1 j2 ?_;have e1:NM.nm (C9 r1)=qF4 ts t1:=by show qF4 ts (keyH H (.ref r1))=_;rw [qET g1]
  have e2:NM.nm (C9 r2)=qF4 ts t2:=by show qF4 ts (keyH H (.ref r2))=_;rw [qET g2]
  rw [e1,e2,qIR m1 m2] at h;exact h
 have fin:∀ out:Array Value,out.toList.Perm (rs.map C9)->out.toList.Pairwise (fun u v=>NM.nm v<=NM.nm u)->EP X Ab σ Q (.ref D) { s with heap:=sortedHeap s.heap D (rs.map C9) out }:=by
  intro out p1 p2;have refs:∀ v ∈ out.toList,∃ a,v=C9 a:=fun v hv=>by
   obtain ⟨r,_,er⟩:=D6.mp (p1.mem_iff.mp hv);exact ⟨r,er.symm⟩
  have back:=qN8 refs;have p3:(out.toList.map qIB).Perm rs:=by
   have:=p1.map qIB;rw [R7] at this;have e:rs.map (qIB ∘ C9)=rs:=(P0 fun x _=>rfl).trans (List.map_id _)
   rwa [e] at this
  obtain ⟨e2,hat⟩:=sortedHeap_at (vs:=rs.map C9) (out:=out) e;have T':TupsAt H (out.toList.map qIB) ((out.toList.map qIB).map fun r=>keyH H (.ref r)):=qSW fun r hr=>by
   obtain ⟨t,_,g⟩:=qIH T (p3.mem_iff.mp hr);exact ⟨t,g⟩
  have p4:((out.toList.map qIB).map fun r=>keyH H (.ref r)).Perm ts:=by
   have:=p3.map fun r=>keyH H (.ref r);rw [<- qQI T] at this;exact this
  have p5:((out.toList.map qIB).map fun r=>keyH H (.ref r)).Pairwise (fun a b=>HT.lexLt a b=false):=by
   rw [<- back,F3] at p2;rw [F3];refine p2.imp_of_mem fun {a b} ha hb le=>?_;have ma:keyH H (.ref a) ∈ ts:=p4.mem_iff.mp (D6.mpr ⟨a,ha,rfl⟩);have mb:keyH H (.ref b) ∈ ts:=p4.mem_iff.mp (D6.mpr ⟨b,hb,rfl⟩);have le:qF4 ts (keyH H (.ref b))<=qF4 ts (keyH H (.ref a)):=le;rw [<- qIR ma mb];exact decide_eq_false (by omega)
  refine ⟨.ref D,upd H D (.lst ((out.toList.map qIB).map V.ref)),?_,rfl,q _ _ p3 T' p4 p5⟩;have hu:upd (upd H D (.lst (rs.map V.ref))) D (.lst ((out.toList.map qIB).map V.ref))=upd H D (.lst ((out.toList.map qIB).map V.ref)):=qJ9;rw [<- hu];refine I.write (x:=D) (e:=D) (t':=s.toks) (by rw [qA1];exact trivial) (.inl rfl) (fun b u hb hbu=>?_) ⟨_,hat⟩ ?_
  ·rw [sortedHeap_old hb (B1 hbu)];exact hbu
  ·refine ⟨?_,out.toList,e2,?_,by simpa using hat⟩
   ·rw [A0,p3.length_eq];simpa using z
   ·have:=qJ6 (out.toList.map qIB);rw [back] at this;exact this
 refine wpAny_call_entry_kw slot_list_sort ⟨_,e,rfl⟩ entry_list_sort (qT6 (κ0:=tuples' true) (n:=n) e (by simpa using hs) hz gd (fun h' kept h2=>⟨fun {Q} hq=>?_,lt_ok _ h' _ (fun x y xs ys ns ms Q E i1 i2 j1 j2 hq=>qL5 i1 i2 j1 j2 hq) kept⟩) fun out p1 p2=>⟨_,rfl,fin out p1 p2⟩) (qKA _)
 refine qNT (s:={ s with heap:=h' }) (ts:=ts) ?_ hk (by simpa using h2) hq
 exact Paired.mapP T fun r t g=>tat h' kept r t g
def qYL (K:PySem.W.Frag) (t tk:TA):TE:=fun σ H Q=>t σ H fun vs H1=>tk σ H1 fun ws H2=>∃ p rs ts,vs=[.ref p]/\ws=[.bl true]/\SqL K H2 p (rs.map V.ref)/\TupsAt H2 rs ts/\(∀ t ∈ ts,t ≠ [])/\rs.length<64/\∀ a rs' ts',H2 a=none->rs'.Perm rs->TupsAt H2 rs' ts'->ts'.Perm ts->ts'.Pairwise (fun a b=>HT.lexLt a b=false)->Q (.ref a) (upd H2 a (.lst (rs'.map V.ref)))
theorem pe_sortRT {e d:Expr} {t tk:TA} {p pos kpos:Pos} (hc:X.calm=true) (hg:Gl X "sorted") (hm:X.mg "sorted" = none) (hv:bootBuiltins "sorted" = some (.builtin "sorted")) (ha:PA X [e] t) (hd:PK X [⟨some "reverse",d,kpos⟩] tk)
  (hs:starEach [e] X.env=[(false,eval e X.env)]:=by rfl):PE X (.Call (.Name "sorted" p) [e] [⟨some "reverse",d,kpos⟩] pos) (qYL X.K t tk):=by
 intro Ab s σ H Q I h;refine wpAny_Call_Name_kw (qFB I hg hm hv ?_ (by decide) (by decide))
 refine a9 (thn (ha pos Ab s σ H _ I h) fun us s1 ⟨vs,H1,I1,r1,q1⟩=>?_) (by rw [hs];rfl) (by rw [hs];rfl)
 refine thn (hd pos Ab s1 σ H1 _ I1 q1) fun ws s2 ⟨zs,H2,I2,rz,q2⟩=>?_;obtain ⟨p,rs,ts,rfl,rfl,hq,T,hne,hs64,q⟩:=q2;obtain ⟨u,rfl,rx⟩:=qDK r1;cases rx;obtain ⟨u2,rfl,ry⟩:=qDK rz;cases ry;refine call_function_entry_kw kind_sorted plain_sorted entry_sorted (qP2 _ _) ?_;unfold Builtin.«sorted»;refine wpAny_bind (m:=checkCount "sorted" 1 1 _) (wpAny_pure ?_);obtain ⟨its,rv,pl,hz⟩:=I2.list hq;obtain ⟨o,ho,hc',n,hd⟩:=pl.isList;have hlen:=rv.length;have ei:=qEH rv;subst ei;refine wpAny_bind (wpAny_collect_seq p (.inl rfl) ho hc' hd (fun h' hk=>?_) (by rw [A7,<- hlen];exact hz))
 have I3:Inv X Ab σ H2 { s2 with heap:=h' }:=I2.kept (t':=s2.toks) hk;have hz:rs.length<=sizeLine:=by rw [A0] at hz;exact hz
 show wpAny _ _ (newList (rs.map C9) >>= _) _ _ _;refine wpAny_bind (wpAny_newList ?_ (by rw [A0];exact hz))
 have hf:=I3.hok.fresh (B0 h'.objs.size);have I4:=I3.laid (a:=h'.objs.size) (t':=s2.toks) (o:=.lst (rs.map V.ref)) (h':=h'.push { cls:=.type "list",data:=.seq (rs.map C9).toArray }) (fun b u e=>A2 _ e) (B0 _) ⟨by rw [A0];exact hz,_,0,qJ6 rs,B6 _ rfl⟩
 refine wpAny_bind (wpAny_holding (wpAny_mono (qRU (E:=X.xe) I4 hf T hne hs64 fun rs' ts' a b c d=>q _ rs' ts' hf a b c d) (fun _ s' x=>?_) fun _ _ e=>e));exact wpAny_pure ⟨_,rfl,x⟩
end
end L2.G
namespace L2
open PySem PySem.Spec PyProof.Rows
section
variable {prog:Program} {w:World} {A:Around} {E:Value->Shared->Prop} {s:Shared}
end
section
variable {X:Cx}
end
def ItB (K:PySem.W.Frag) (a:Addr) (n:Nat):It:=
 ⟨fun i H=>i<n/\∃ xs x,SqL K H a xs/\xs[n - 1 - i]?=some x,fun i H x H'=>H'=H/\∀ xs,SqL K H a xs->xs[n - 1 - i]?=some x,fun i H=>i=n⟩
theorem qW7 {P:Program} {w:World} {K:PySem.W.Frag} {tg:Expr} (a it:Addr) (n:Nat):Turn P w K tg (ItB K a n) [it] it (fun i h=>h.IsRevIter it a ((n:Int) - 1 - (i:Int))) where
 mem:=by simp
 obj:=fun i h st b hb=>by
  have e:b=it:=by simpa using hb
  subst e;obtain ⟨o,e,c,d⟩:=st;exact ⟨o,e,fun v z=>by rw [d] at z;cases z⟩
 keep:=fun i h h' st k=>st.at fun o e=>k it (by simp) o e
 item:=by
  intro X hP hw hK hc i Ab s σ H E I hf st hg;subst hP hw hK;obtain ⟨hi,xs,x,hq,hx⟩:=hg;obtain ⟨its,rv,p,hz⟩:=I.list hq;obtain ⟨u,hu,ru⟩:=rv.get hx;obtain ⟨f0,f1,f2,f3,f4,f5⟩:=hf it (by simp)
  rw [show (n:Int) - 1 - (i:Int)=((n - 1 - i:Nat):Int) by omega] at st
  refine wpAny_pyNext_rev_item st p.isList (x:=u) (by simpa using hu) fun h' st' sb=>?_
  have I1:Inv X Ab σ H { s with heap:=h' }:=I.turned (t':=s.toks) (fun b o hb e=>(sb.2 b hb).trans e) f0 f1 f3 f4 f5;obtain ⟨o,e,c,d⟩:=id st';rw [show ((n - 1 - i:Nat):Int) - 1=(n:Int) - 1 - ((i+1:Nat):Int) by omega] at st'
  exact ⟨u,rfl,qUV (s:={ s with heap:=h' }) e c d (by decide) ⟨x,H,I1,ru,⟨rfl,fun ys hy=>by rw [I.list_inj hy hq];exact hx⟩,st',fun b hb=>(hf b hb).1⟩⟩
 done:=by
  intro X hP hw hK hc i Ab s σ H E I hf st hg;subst hP hw hK;have e:i=n:=hg;subst e;obtain ⟨f0,f1,f2,f3,f4,f5⟩:=hf it (by simp)
  rw [show (i:Int) - 1 - (i:Int) = -1 by omega] at st
  exact wpAny_pyNext_rev_end (I.ok.hd hc) st fun h' eb=>⟨rfl,I.turned (t':=s.toks) (fun b o hb e=>eb b o hb e) f0 f1 f3 f4 f5⟩
 self:=fun _ _ _ _ _ st h=>wpAny_pyIter_revIter st h
section
variable {X:Cx} {tg:Expr}
def iRev (K:PySem.W.Frag) (ta:TA):TI:=fun σ H R=>ta σ H fun vs H1=>∃ l xs,vs=[.ref l]/\SqL K H1 l xs/\R (ItB K l xs.length) H1
theorem qOP:bootBuiltins "reversed" = some (.type "reversed"):=by decide +kernel
theorem qaX {a:Expr} {ta:TA} {p pos:Pos} (hg:Gl X "reversed") (hm:X.mg "reversed" = none) (ha:PA X [a] ta) (hs:starEach [a] X.env=[(false,eval a X.env)]:=by rfl) :
  PI X tg (.Call (.Name "reversed" p) [a] [] pos) (iRev X.K ta):=by
 intro Ab s σ H R I h;refine Call_ (qFB I hg hm qOP (O7 (thn (ha pos Ab s σ H _ I h) fun us s1 ⟨vs,H1,I1,r1,q1⟩=>?_) hs rfl));obtain ⟨l,xs,e,hq,q⟩:=q1;subst e;obtain ⟨u,rfl,rx⟩:=qDK r1;cases rx;obtain ⟨its,rv,pl,hz⟩:=I1.list hq;refine call_reversed_list pl.isList ?_;have st:(s1.heap.push (revObj l ((its.toArray.size:Int) - 1))).IsRevIter s1.heap.objs.size l ((xs.length:Int) - 1 - ((0:Nat):Int)):=⟨_,B6 _ rfl,rfl,by rw [A7,<- rv.length];simp [revObj]⟩
 refine wpAny_pyIter_revIter st ?_;refine ⟨s1.heap.objs.size,[s1.heap.objs.size],_,_,H1,rfl,I1.kept (t':=s1.toks) fun b o e=>A2 _ e,qW7 l _ xs.length,st,fun b hb=>?_,q⟩;have e:b=s1.heap.objs.size:=by simpa using hb
 subst e;exact I1.fpOk (B0 _) (I1.hok.fresh (B0 _))
end
theorem qZR {K:PySem.W.Frag} {a:Addr} {xs:List V} {g:TG} {tb:TS} {D:Ends} {σ:St} {H:Hp} (Pv:Nat->St->Hp->Prop) (h0:Pv 0 σ H) (hl:∀ i σ H,i<=xs.length->Pv i σ H->SqL K H a xs)
  (hs:∀ i x σ H,i<xs.length->xs[xs.length - 1 - i]?=some x->Pv i σ H->g x σ H fun σ2 H2=>tb { D with nx:=Pv (i+1),ct:=Pv (i+1),bk:=D.nx } σ2 H2) (hd:∀ σ H,Pv xs.length σ H->D.nx σ H) :
  ∃ W:Nat->Nat->St->Hp->Prop,(∃ m,W 0 m σ H)/\∀ i m σ H,W i m σ H->
   ((ItB K a xs.length).stop i H/\D.nx σ H)\/((ItB K a xs.length).go i H/\∃ N:St->Hp->Prop,(∀ σ' H',N σ' H'->∃ m',m'<m/\W (i+1) m' σ' H')/\∀ x H',(ItB K a xs.length).yld i H x H'->g x σ H' fun σ2 H2=>tb { D with nx:=N,ct:=N,bk:=D.nx } σ2 H2):=by
 refine ⟨fun i m σ H=>m=xs.length - i/\i<=xs.length/\Pv i σ H,⟨xs.length,by simp,D7 _,h0⟩,?_⟩
 rintro i m σ H ⟨rfl,hi,p⟩;have q:=hl i σ H hi p;by_cases hlt:i<xs.length
 ·have hj:xs.length - 1 - i<xs.length:=by omega
  refine .inr ⟨⟨hlt,xs,xs[xs.length - 1 - i],q,by simp [hj]⟩,Pv (i+1),fun σ' H' p'=>⟨xs.length - (i+1),by omega,rfl,hlt,p'⟩,fun x H' y=>?_⟩
  obtain ⟨e,y⟩:=y;subst e;exact hs i x σ _ hlt (y xs q) p
 ·have e:i=xs.length:=by omega
  subst e;exact .inl ⟨rfl,hd σ H p⟩
section
variable {X:Cx}
end
end L2
namespace Fw
open PySem L2
theorem qD7:bootBuiltins "len" = some (.builtin "len"):=by decide +kernel
theorem qVO:bootBuiltins "min" = some (.builtin "min"):=by decide +kernel
theorem qK9:bootBuiltins "max" = some (.builtin "max"):=by decide +kernel
theorem qDR:bootBuiltins "sorted" = some (.builtin "sorted"):=by decide +kernel
theorem qVP:bootBuiltins "divmod" = some (.builtin "divmod"):=by decide +kernel
theorem qRN:bootBuiltins "all" = some (.builtin "all"):=by decide +kernel
theorem qAO:bootBuiltins "isinstance" = some (.builtin "isinstance"):=by decide +kernel
theorem qOQ:bootBuiltins "int" = some (.type "int"):=by decide +kernel
theorem qVQ:bootBuiltins "bool" = some (.type "bool"):=by decide +kernel
theorem qYD:bootBuiltins "str" = some (.type "str"):=by decide +kernel
theorem qHR:bootBuiltins "list" = some (.type "list"):=by decide +kernel
theorem qBI:bootBuiltins "tuple" = some (.type "tuple"):=by decide +kernel
theorem qYE:bootBuiltins "set" = some (.type "set"):=by decide +kernel
theorem qXG:bootBuiltins "range" = some (.type "range"):=by decide +kernel
theorem qI7:bootBuiltins "enumerate" = some (.type "enumerate"):=by decide +kernel
structure StAt (H:Hp) (d c:Addr) (t:Int) (ns:List Int):Prop where
 dict:H d=some (.dK [(P5 "cells",.ref c),(P5 "turn",.int t)])
 list:H c=some (.lst (ns.map V.int))
 ne:0<ns.length
 len:ns.length<=63
 pos:0<=t
def Keep (d c:Addr) (H H':Hp):Prop:=∀ b o,H b=some o->b ≠ d->b ≠ c->H' b=some o
theorem Keep.refl {d c:Addr} {H:Hp}:Keep d c H H:=fun _ _ h _ _=>h
theorem Keep.trans {d c:Addr} {H H1 H2:Hp} (a:Keep d c H H1) (b:Keep d c H1 H2):Keep d c H H2:=fun x o h n m=>b x o (a x o h n m) n m
theorem Keep.of_same {d c:Addr} {H H':Hp} (h:Same H H'):Keep d c H H':=fun b o e _ _=>h b o e
theorem qA2 {H:Hp} {p:Addr} (h:H p=none) (o:HO):Same H (upd H p o):=fun b u q=>by rw [qA8 (qA5 q h)];exact q
theorem qC3 {d c:Addr} {H:Hp} {p:Addr} (h:H p=none) (o:HO):Keep d c H (upd H p o):=.of_same (qA2 h o)
theorem StAt.ndc {H:Hp} {d c:Addr} {t:Int} {ns:List Int} (S:StAt H d c t ns):d ≠ c:=qBM S.dict S.list (by intro z;cases z)
theorem StAt.same {H H':Hp} {d c:Addr} {t:Int} {ns:List Int} (S:StAt H d c t ns) (h:Same H H'):StAt H' d c t ns:=⟨h _ _ S.dict,h _ _ S.list,S.ne,S.len,S.pos⟩
theorem StAt.new {H:Hp} {d c p:Addr} {t:Int} {ns:List Int} (S:StAt H d c t ns) (h:H p=none) (o:HO):StAt (upd H p o) d c t ns:=S.same (qA2 h o)
theorem s_cs:¬ (D3 "cells" = D3 "turn"):=by decide +kernel
theorem s_ct:¬ ((P5 (D3 "cells"):Key)=P5 (D3 "turn")):=fun h=>s_cs (A99 h)
theorem qZV {H:Hp} {d c:Addr} {t:Int} {ns:List Int} (S:StAt H d c t ns):DGet H d (.str "turn") (some (.int t)):=by
 have h:=DGet.k (k:=P5 "turn") S.dict;rw [qBG s_ct,qBO rfl] at h;exact h
theorem qMG {H:Hp} {d c:Addr} {t:Int} {ns:List Int} (S:StAt H d c t ns):DGet H d (.str "cells") (some (.ref c)):=by
 have h:=DGet.k (k:=P5 "cells") S.dict;rw [qBO rfl] at h;exact h
theorem qWG (c:Addr) (t u:Int):putK [((P5 "cells" : Key),V.ref c),(P5 "turn",V.int t)] (P5 "turn") (V.int u)=[((P5 "cells" : Key),V.ref c),(P5 "turn",V.int u)]:=by
 unfold putK;simp [s_cs]
theorem qZT {H:Hp} {d c:Addr} {t u:Int} {ns:List Int} (S:StAt H d c t ns):DPut H d (.str "turn") (.int u) (upd H d (.dK [(P5 "cells",.ref c),(P5 "turn",.int u)])):=by
 have h:=DPut.k (k:=P5 "turn") (v:=.int u) S.dict (by rw [sizeLine_eq];exact (by decide:2<16777216))
 rw [qWG] at h;exact h
theorem StAt.turn {H:Hp} {d c:Addr} {t u:Int} {ns:List Int} (S:StAt H d c t ns) (h:0<=u):StAt (upd H d (.dK [(P5 "cells",.ref c),(P5 "turn",.int u)])) d c u ns:=
 ⟨qA1,by rw [qA8 (G6 S.ndc)];exact S.list,S.ne,S.len,h⟩
theorem StAt.put {H:Hp} {d c:Addr} {t:Int} {ns ms:List Int} (S:StAt H d c t ns) (h:ms.length=ns.length):StAt (upd H c (.lst (ms.map V.int))) d c t ms:=
 ⟨by rw [qA8 S.ndc];exact S.dict,qA1,by rw [h];exact S.ne,by rw [h];exact S.len,S.pos⟩
abbrev TB:Int:=1000000000
def qHW:Sp:=fun vs H Q _=>∃ d c t ns m,vs=[.ref d,.int m]/\StAt H d c t ns/\t<=TB/\1<=m/\m<=1000000/\∀ k ns' H',0<=k->k<m->StAt H' d c (t+1) ns'->Keep d c H H'->Q (.int k) H'
def qT3 (K:PySem.W.Frag):Sp:=fun vs H Q _=>∃ (a:Addr) (ns:List Int),vs=[.ref a]/\SqL K H a (ns.map V.int)/\ns.length<=63/\∀ d c ms H',StAt H' d c 0 ms->Same H H'->H d=none->H c=none->Q (.ref d) H'
def cutI {α:Type} (xs:List α) (lo hi:Option Int):List α:=(xs.drop (HT.sIx xs.length 0 lo)).take (HT.sIx xs.length xs.length hi - HT.sIx xs.length 0 lo)
theorem qHB {α:Type} (f:α->V) (xs:List α) (lo hi:Option Int):cutV (xs.map f) lo hi=(cutI xs lo hi).map f:=by
 unfold cutV cutI;rw [A0,<- List.map_drop,<- A92]
theorem qXF {α:Type} (xs:List α) (lo hi:Option Int):(cutI xs lo hi).length<=xs.length:=by
 unfold cutI;rw [D4,P3];omega
theorem qY1 (c:Addr) (t:Int):qJQ [] [((P5 (D3 "cells"):Key),V.ref c),(P5 (D3 "turn"),V.int t)]=[((P5 (D3 "cells"):Key),V.ref c),(P5 (D3 "turn"),V.int t)]:=by
 unfold qJQ;simp only [c7,A76];unfold putK;simp [s_cs]
theorem qPX {xs:List V} {j:Nat} (h:j<xs.length):ixN xs.length (j:Int)=some j:=by
 unfold ixN;rw [if_pos (by omega),if_pos (by omega),J8]
def qc9 (K:PySem.W.Frag):Sp:=fun vs H Q _=>∃ (a:Addr) (ns:List Int),vs=[.ref a]/\SqL K H a (ns.map V.int)/\ns.length<=63/\∀ H',Q (.bl true) H'
theorem cut {t u:TS} {D:Ends} {σ:St} {H:Hp} (h:∀ N:St->Hp->Prop,(∀ σ H,u D σ H->N σ H)->t { D with nx:=N } σ H):tSeq t u D σ H:=h _ fun _ _ z=>z
theorem opq {A:Prop} (h:∀ G:Prop,(A->G)->G):A:=h A id
structure Rise (k:Int) (zs:List Int):Prop where
 up:zs.Pairwise (·<·)
 in_:∀ x ∈ zs,0<=x/\x<k
theorem Rise.nil {k:Int}:Rise k []:=⟨.nil,fun _ h=>nomatch h⟩
theorem Rise.mono {j k:Int} {zs:List Int} (h:Rise j zs) (l:j<=k):Rise k zs:=⟨h.up,fun x hx=>⟨(h.in_ x hx).1,by have:=(h.in_ x hx).2;omega⟩⟩
theorem Rise.sub {k:Int} {zs ys:List Int} (h:Rise k zs) (s:ys.Sublist zs):Rise k ys:=⟨h.up.sublist s,fun x hx=>h.in_ x (s.subset hx)⟩
theorem Rise.snoc {k:Int} {zs:List Int} (h:Rise k zs) (h0:0<=k):Rise (k+1) (zs++[k]):=by
 refine ⟨R9.mpr ⟨h.up,T8 _ _,fun a ha b hb=>?_⟩,fun x hx=>?_⟩
 ·rw [A4.mp hb];exact (h.in_ a ha).2
 ·rcases E1.mp hx with hx | hx
  ·have:=h.in_ x hx;omega
  ·rw [A4.mp hx];omega
theorem Rise.shift {k j:Int} {zs:List Int} (h:Rise k zs) (hj:0<=j):Rise (k+j) (zs.map (·+j)):=by
 refine ⟨F3.mpr (h.up.imp fun {a b} hab=>by omega),fun x hx=>?_⟩
 obtain ⟨y,hy,e⟩:=D6.mp hx;have:=h.in_ y hy;omega
theorem Rise.nodup {k:Int} {zs:List Int} (h:Rise k zs):zs.Nodup:=h.up.imp fun {a b} hab=>by omega
theorem Rise.len {zs:List Int} {k:Nat} (h:Rise (k:Int) zs):zs.length<=k:=by
 have sub:zs ⊆ (I0 k).map fun (i:Nat)=>(i:Int):=fun x hx=>by
  have:=h.in_ x hx;exact D6.mpr ⟨x.toNat,P7.mpr (by omega),by omega⟩
 have:=J5 h.nodup sub;simpa using this
theorem mem_addI {zs:List Int} {k x:Int}:x ∈ addI zs k ↔ x ∈ zs\/x=k:=by
 unfold addI
 split
 ·rename_i h
  constructor
  ·exact .inl
  ·rintro (z | rfl)
   ·exact z
   ·exact h
 ·simp
theorem qZ6 {zs:List Int} {k:Int} (h:zs.Nodup):(addI zs k).Nodup:=by
 unfold addI
 split
 ·exact h
 ·rename_i hk
  exact qM1 h hk
theorem qVB:∀ (l zs:List Int),zs.Nodup->(l.foldl addI zs).Nodup/\∀ x,x ∈ l.foldl addI zs ↔ x ∈ zs\/x ∈ l
 | [],zs,h=>⟨h,fun x=>by simp⟩
 | k::r,zs,h=>by
  obtain ⟨a,b⟩:=qVB r (addI zs k) (qZ6 h);refine ⟨a,fun x=>?_⟩;rw [c7,b x,mem_addI,B5,or_assoc]
theorem qSD (l:List Int):(dedI l).Nodup:=(qVB l [] .nil).1
theorem mem_dedI {l:List Int} {x:Int}:x ∈ dedI l ↔ x ∈ l:=by
 have:=(qVB l [] .nil).2 x;unfold dedI;rw [this];simp
theorem qRJ (l:List Int):(dedI l).length<=l.length:=by
 have:=qED l [];simpa [dedI] using this
theorem qI1 {zs:List Int} (h1:zs.Pairwise (·<=·)) (h2:zs.Nodup):zs.Pairwise (·<·):=by
 have h3:zs.Pairwise (fun a b=>a<=b/\a ≠ b):=A14.mpr ⟨h1,h2⟩;exact h3.imp fun {a b} ⟨x,y⟩=>by omega
theorem qQT {k:Int} {fs zs:List Int} (hp:zs.Perm (dedI fs)) (hs:zs.Pairwise (·<=·)) (h:∀ x ∈ fs,0<=x/\x<k):Rise k zs:=
 ⟨qI1 hs (hp.nodup_iff.mpr (qSD fs)),fun x hx=>h x (mem_dedI.mp (hp.mem_iff.mp hx))⟩
def qDL (lo hi:Int):List Int:=(I0 (hi - lo).toNat).map fun (i:Nat)=>lo+i
theorem qPA (lo hi:Int):qHZ lo hi=(qDL lo hi).map V.int:=by
 unfold qHZ qDL;rw [R7]
 rfl
theorem mem_rangeI {lo hi x:Int}:x ∈ qDL lo hi ↔ lo<=x/\x<hi:=by
 unfold qDL;rw [D6]
 constructor
 ·rintro ⟨i,hi',e⟩;have:=P7.mp hi';omega
 ·intro h;exact ⟨(x - lo).toNat,P7.mpr (by omega),by omega⟩
theorem qRY (lo hi:Int):(qDL lo hi).length=(hi - lo).toNat:=by unfold qDL;simp
theorem qJI (lo hi:Int):(qDL lo hi).Pairwise (·<·):=by
 unfold qDL;exact F3.mpr (List.pairwise_lt_range.imp fun {a b} h=>by omega)
theorem qPB {lo hi:Int} (h:0<=lo):Rise hi (qDL lo hi):=⟨qJI _ _,fun x hx=>by have:=mem_rangeI.mp hx;omega⟩
theorem qOH {α:Type} (xs:List α) (k:Nat) (h:k<=xs.length):cutI xs (some (k:Int)) none=xs.drop k:=by
 unfold cutI;rw [HT.sIx_nat,HT.sIx_none,A73 h];exact G0 (by rw [P3];exact B0 _)
theorem qVH {α:Type} (xs:List α) (k:Nat):cutI xs none (some (k:Int))=xs.take k:=by
 unfold cutI;rw [HT.sIx_nat,HT.sIx_none,A79,Nat.sub_zero];rcases Nat.le_total k xs.length with h | h
 ·rw [A73 h]
 ·rw [Nat.min_eq_right h,G0 h,G0 (B0 _)]
abbrev NetL (H:Hp):List Addr->List (List Int)->Prop:=Paired fun r zs=>H r=some (.tup (zs.map V.int))
theorem NetL.keep {d c:Addr} {H H':Hp} {rs:List Addr} {Ae:List (List Int)} (h:NetL H rs Ae) (hd:∀ r zs,H r=some (.tup zs)->r ≠ d/\r ≠ c) (k:Keep d c H H'):NetL H' rs Ae:=by
 induction h with
 | nil=>exact .nil
 | cons r t ih=>exact .cons (k _ _ r (hd _ _ r).1 (hd _ _ r).2) ih
theorem NetL.same {H H':Hp} {rs:List Addr} {Ae:List (List Int)} (h:NetL H rs Ae) (k:∀ r zs,H r=some (.tup zs)->H' r=some (.tup zs)):NetL H' rs Ae:=by
 induction h with
 | nil=>exact .nil
 | cons r t ih=>exact .cons (k _ _ r) ih
theorem NetL.get {H:Hp}:∀ {rs:List Addr} {Ae:List (List Int)} {i:Nat} {zs:List Int},NetL H rs Ae->Ae[i]?=some zs->∃ r,rs[i]?=some r/\H r=some (.tup (zs.map V.int))
 | _,_,_,_,.nil,e=>by simp at e
 | _,_,0,_,.cons r _,e=>by simp at e;subst e;exact ⟨_,rfl,r⟩
 | _,_,i+1,zs,.cons _ t,e=>by
  obtain ⟨r,h1,h2⟩:=NetL.get (i:=i) (zs:=zs) t (by simpa using e)
  exact ⟨r,by simpa using h1,h2⟩
def NetAt (H:Hp) (a:Addr) (Ae:List (List Int)):Prop:=∃ rs:List Addr,H a=some (.tup (rs.map V.ref))/\NetL H rs Ae
theorem StAt.tup {H:Hp} {d c:Addr} {t:Int} {ns:List Int} (S:StAt H d c t ns) {r:Addr} {zs:List V} (h:H r=some (.tup zs)):r ≠ d/\r ≠ c:=
 ⟨qBM h S.dict (by intro z;cases z),qBM h S.list (by intro z;cases z)⟩
theorem NetAt.keep {H H':Hp} {d c:Addr} {t:Int} {ns:List Int} (S:StAt H d c t ns) {a:Addr} {Ae:List (List Int)} (h:NetAt H a Ae) (k:Keep d c H H'):NetAt H' a Ae:=by
 obtain ⟨rs,h1,h2⟩:=h;exact ⟨rs,k _ _ h1 (S.tup h1).1 (S.tup h1).2,h2.keep (fun r zs e=>S.tup e) k⟩
theorem NetAt.same {H H':Hp} {a:Addr} {Ae:List (List Int)} (h:NetAt H a Ae) (k:Same H H'):NetAt H' a Ae:=by
 obtain ⟨rs,h1,h2⟩:=h;exact ⟨rs,k _ _ h1,h2.same fun r zs e=>k _ _ e⟩
theorem NetAt.len {H:Hp} {rs:List Addr} {Ae:List (List Int)} (h:NetL H rs Ae):rs.length=Ae.length:=C6 h
def WFn (Ae:List (List Int)):Prop:=∀ (i:Nat) zs,Ae[i]?=some zs->Rise (i:Int) zs
theorem WFn.snoc {Ae:List (List Int)} {zs:List Int} (h:WFn Ae) (hz:Rise (Ae.length:Int) zs):WFn (Ae++[zs]):=by
 intro i ys e;rcases i0 i Ae.length with l | l | l
 ·rw [E4 l] at e;exact h i ys e
 ·subst l;simp at e;subst e;exact hz
 ·rw [J2 (by rw [A6,C3];omega)] at e
  cases e
theorem WFn.nil:WFn []:=fun i zs e=>by simp at e
theorem qCO {α β:Type} {F:α->β->Prop} {a:α} {b:β} {l₁:List α} {l₂:List β} (h:Paired F l₁ l₂) (r:F a b):Paired F (l₁++[a]) (l₂++[b]):=V6 h r
def qLL:Sp:=fun vs H Q _=>∃ d c t ns k,vs=[.ref d,.int k]/\StAt H d c t ns/\t<=TB - 20/\0<=k/\k<=63/\
 ∀ r zs t' ns' H',StAt H' d c t' ns'->t<=t'->t'<=t+9->Keep d c H H'->H' r=some (.tup (zs.map V.int))->Rise k zs->Q (.ref r) H'
def qaI:Sp:=fun vs H Q _=>∃ d c t ns m,vs=[.ref d,.int m]/\StAt H d c t ns/\t<=TB - 10000/\1<=m/\m<=63/\
 ∀ a Ae t' ns' H',StAt H' d c t' ns'->t<=t'->t'<=t+10 * m+10->Keep d c H H'->NetAt H' a Ae->WFn Ae->(Ae.length:Int)=m->Q (.ref a) H'
theorem qcJ {a b k:Int} (h0:0<=k) (h1:k<4):∃ v,atI [V.int a,V.int b] (k / 3)=some (.int v)/\(v=a\/v=b):=by
 rcases (by omega:k=0\/k=1\/k=2\/k=3) with rfl | rfl | rfl | rfl
 ·exact ⟨a,rfl,.inl rfl⟩
 ·exact ⟨a,rfl,.inl rfl⟩
 ·exact ⟨a,rfl,.inl rfl⟩
 ·exact ⟨b,rfl,.inr rfl⟩
theorem qcI {k:Int} (h0:0<=k) (h1:k<6):∃ v,atI [V.int 0,V.int 0,V.int 1,V.int 2,V.int 2,V.int 3] k=some (.int v)/\0<=v/\v<=3:=by
 rcases (by omega:k=0\/k=1\/k=2\/k=3\/k=4\/k=5) with rfl | rfl | rfl | rfl | rfl | rfl
 all_goals exact ⟨_,rfl,by decide,by decide⟩
theorem qAC {H Hc:Hp} {p:Addr} {o:HO} (h:Same H Hc) (hp:H p=none):Same H (upd Hc p o):=fun b u e=>by rw [qA8 (qA5 e hp)];exact h b u e
theorem qEU {d c:Addr} {H Hc:Hp} {p:Addr} {o:HO} (h:Keep d c H Hc) (hp:H p=none):Keep d c H (upd Hc p o):=fun b u e n1 n2=>by rw [qA8 (qA5 e hp)];exact h b u e n1 n2
theorem qEO {H:Hp} {p:Addr} {xs:List V} {o:HO} {rs:List Addr} {Ae:List (List Int)} (h:NetL H rs Ae) (hp:H p=some (.lst xs)):NetL (upd H p o) rs Ae:=
 h.same fun r zs e=>by rw [qA8 (qBM e hp (by intro z;cases z))];exact e
theorem qCN (rs:List Addr) (r:Addr):rs.map V.ref++[V.ref r]=(rs++[r]).map V.ref:=by rw [A9];rfl
theorem qaR (b:Bool) (x:Int):(C4 (if b=true then (1:Int) else 0).toNat [V.int x]).flatten=(if b=true then [x] else []).map V.int:=by cases b <;> rfl
theorem qBF {α β:Type} {F:α->β->Prop}:∀ {l₁:List α} {l₂:List β} {i:Nat} {a:α},Paired F l₁ l₂->l₁[i]?=some a->∃ b,l₂[i]?=some b/\F a b
 | _,_,_,_,.nil,e=>by simp at e
 | _,_,0,_,.cons r _,e=>by simp at e;subst e;exact ⟨_,rfl,r⟩
 | _,_,i+1,a,.cons _ t,e=>by
  obtain ⟨b,h1,h2⟩:=qBF (i:=i) (a:=a) t (by simpa using e)
  exact ⟨b,by simpa using h1,h2⟩
theorem qAN {α β:Type} {F G:α->β->Prop} {l₁:List α} {l₂:List β} (h:Paired F l₁ l₂) (k:∀ a b,F a b->G a b):Paired G l₁ l₂:=by
 induction h with
 | nil=>exact .nil
 | cons r t ih=>exact .cons (k _ _ r) ih
theorem qEC {rs:List Addr} {i:Nat} {x:V} (h:(rs.map V.ref)[i]?=some x):∃ r,rs[i]?=some r/\x=.ref r:=by
 rw [B7] at h;cases e:rs[i]? with
 | none=>rw [e] at h;cases h
 | some r=>rw [e] at h;exact ⟨r,rfl,(D5 h).symm⟩
theorem qAQ {zs:List Int} {i:Nat} {x:V} (h:(zs.map V.int)[i]?=some x):∃ z,zs[i]?=some z/\x=.int z:=by
 rw [B7] at h;cases e:zs[i]? with
 | none=>rw [e] at h;cases h
 | some r=>rw [e] at h;exact ⟨r,rfl,(D5 h).symm⟩
theorem qQO {α:Type} {l:List α} {a b:α} {j:Nat} (h:(l++[a])[j]?=some b):l[j]?=some b\/(j=l.length/\b=a):=by
 rcases i0 j l.length with z | z | z
 ·rw [E4 z] at h;exact .inl h
 ·subst z;simp at h;exact .inr ⟨rfl,h.symm⟩
 ·rw [J2 (by rw [A6,C3];omega)] at h
  cases h
theorem qZO (a:Int) (zs:List Int):inV (.int a) (zs.map V.int)=decide (a ∈ zs):=by
 unfold inV
 induction zs with
 | nil=>simp
 | cons z r ih=>
  rw [C1,Y6,ih];have e:eqV (.int z) (.int a)=decide (a=z):=by
   by_cases h:z=a
   ·subst h;simp [eqV]
   ·have h':¬ a=z:=fun q=>h q.symm;simp [eqV,h,h']
  rw [e];simp [B5]
theorem qV3 (zs:List Int):(zs.map V.int).all qMC=true:=by
 rw [O2];intro x hx;obtain ⟨z,_,rfl⟩:=D6.mp hx
 rfl
def qa7 (ns st:List Int) (Aa wk:Int):V:=if wk ∈ st then .str "there" else if ∀ x ∈ ns,x ∈ st then (if Aa<=(st.length:Int) then .str "full" else .non) else .str "needs"
def qSQ (st:List Int) (wk:Int):V:=if wk ∈ st then .non else .str "empty"
def qa6 (ns st:List Int) (Aa:Int) (Ac:Str) (wk:Int):V:=if Ac = "do" then qa7 ns st Aa wk else qSQ st wk
theorem qBR {xs:List V} {i:Int} {x:V} (h0:0<=i) (h:xs[i.toNat]?=some x):atI xs i=some x:=by
 have e:i=((i.toNat:Nat):Int):=by omega
 rw [e];exact qVY (by simpa using h)
theorem NetAt.get {H:Hp} {a:Addr} {Ae:List (List Int)} {ns:List Int} {i:Nat} (h:NetAt H a Ae) (e:Ae[i]?=some ns):∃ (rs:List Addr) (r:Addr),H a=some (.tup (rs.map V.ref))/\rs.length=Ae.length/\(rs.map V.ref)[i]?=some (.ref r)/\H r=some (.tup (ns.map V.int)):=by
 obtain ⟨rs,h1,h2⟩:=h;obtain ⟨r,h3,h4⟩:=h2.get e;exact ⟨rs,r,h1,C6 h2,by rw [B7,h3];rfl,h4⟩
def qc3 (t:TS):TS:=fun D σ H=>∃ Pm:St->Hp->Prop,t { D with nx:=Pm } σ H/\∀ σ' H',Pm σ' H'->D.nx σ' H'
theorem qPE {X:Cx} {st:Stmt} {t:TS} (h:PS X st t):PS X st (qc3 t):=by
 intro Ab s σ H D I hq;obtain ⟨Pm,h1,h2⟩:=hq;refine thn (h Ab s σ H _ I h1) fun f s' q=>?_;cases f with
 | next=>obtain ⟨σ',H',I',q⟩:=q;exact ⟨σ',H',I',h2 _ _ q⟩
 | brk=>exact q
 | cont=>exact q
 | ret u=>exact q
theorem qbR:bootBuiltins "zip" = some (.type "zip"):=by decide +kernel
def seqO (b:Bool) (xs:List V):HO:=match b with | true=>.tup xs | false=>.lst xs
def Leaf (x:V):Prop:=x=.non\/(∃ i,x=.int i)\/∃ y,x=.str y
def Alike (H:Hp):Nat->V->V->Prop
 | 0,x,y=>x=y/\Leaf x
 | n+1,x,y=>(x=y/\Leaf x)\/∃ (b:Bool) (a c:Addr) (xs ys:List V),x=.ref a/\y=.ref c/\H a=some (seqO b xs)/\H c=some (seqO b ys)/\xs.length=ys.length/\xs.length<=100000/\∀ (i:Nat) (x' y':V),xs[i]?=some x'->ys[i]?=some y'->Alike H n x' y'
theorem Alike.same {H H':Hp} (s:Same H H'):∀ {n:Nat} {x y:V},Alike H n x y->Alike H' n x y:=by
 intro n
 induction n with
 | zero=>exact fun {x y} h=>show x=y/\Leaf x from h
 | succ n ih=>
  rintro x y (h | ⟨b,a,c,xs,ys,e1,e2,h1,h2,hl,hb,h⟩)
  ·exact .inl h
  ·exact .inr ⟨b,a,c,xs,ys,e1,e2,s _ _ h1,s _ _ h2,hl,hb,fun i x' y' q1 q2=>ih (h i x' y' q1 q2)⟩
def qaH (n:Nat):Sp:=fun vs H Q _=>∃ x y:V,vs=[x,y]/\Alike H n x y/\∀ H',Same H H'->Q (.bl true) H'
theorem SqB.of {b:Bool} {K:PySem.W.Frag} {H:Hp} {a:Addr} {xs:List V} (h:H a=some (seqO b xs)):SqB b K H a xs:=by
 cases b
 ·exact SqL.of h
 ·exact SqT.of h
def tyOf (b:Bool):Value:=match b with | true=>.type "tuple" | false=>.type "list"
theorem qJA {b:Bool} {K:PySem.W.Frag} {H:Hp} {a:Addr} {xs:List V} (h:H a=some (seqO b xs)):TyOf K H (.ref a) (tyOf b):=by
 cases b
 ·exact TyOf.lst h
 ·exact TyOf.tup h
section
variable {K:PySem.W.Frag}
theorem qL4 (b:Bool):P1 K (tyOf b) (.type "list")=some (!b):=by cases b <;> rfl
theorem qNS (b:Bool):P1 K (tyOf b) (.type "tuple")=some b:=by cases b <;> rfl
theorem qbB:P1 K (.type "str") (.type "list")=some false:=by rfl
theorem qbA:P1 K (.type "str") (.type "tuple")=some false:=by rfl
theorem qY3:P1 K (.type "str") (.type "str")=some true:=by rfl
theorem qbE:P1 K (.type "int") (.type "list")=some false:=by rfl
theorem qbC:P1 K (.type "int") (.type "tuple")=some false:=by rfl
theorem qbD:P1 K (.type "int") (.type "str")=some false:=by rfl
theorem qbF:P1 K (.type "int") (.type "int")=some true:=by rfl
theorem qbG:P1 K (.type "int") (.type "bool")=some false:=by rfl
end
theorem qVS {i:Nat}:((C4 i true).map V.bl)++[V.bl true]=(C4 (i+1) true).map V.bl:=by
 rw [W2,A9];rfl
theorem qW0 {n:Nat}:(C4 n true).all id=true:=by simp
theorem qDP {α:Type} {p:α->Bool} {l:List α} {i:Nat} {x:α} (h:l[i]?=some x):(l.take (i+1)).filter p=(l.take i).filter p++(if p x then [x] else []):=by
 rw [C2,h,B9,A44];by_cases hp:p x=true
 ·simp [hp]
 ·simp [hp]
end Fw
namespace L2
open PySem PySem.Spec PyProof.Rows Fw
section
variable {X:Cx} {Ab:List (Addr × Obj)} {σ:St} {H:Hp} {s:Shared}
end
end L2
namespace HT
open PySem PySem.Spec PyProof.Rows
section
variable {prog:Program} {w:World} {A:Around} {E:Value->Shared->Prop} {s:Shared}
end
end HT
namespace L2
open PySem PySem.Spec PyProof.Rows Fw
section
variable {X:Cx} {e:Expr} {te:TE} {st:Option Expr} {tst:TO} {pos p2:Pos}
theorem qPL (hu:X.A.units<cLine):OpR X (compareOp .NotEq) (fun x y H Q=>∃ (p l:Addr) (zs ys:List Int),x=.ref p/\y=.ref l/\SqL X.K H p (zs.map V.int)/\SqL X.K H l (ys.map V.int)/\Q (.bl (decide (zs ≠ ys))) H):=by
 intro Ab s σ H x y v u Q I rx ry h;obtain ⟨p,l,zs,ys,rfl,rfl,h1,h2,q⟩:=h;cases rx;cases ry;obtain ⟨us,r1,p1,z1⟩:=I.list h1;obtain ⟨vs,r2,p2,z2⟩:=I.list h2;have l1:=r1.length;have l2:=r2.length;rw [A0] at l1 l2;by_cases hl:zs.length=ys.length
 ·refine Z9 (e:=fun j=>decide (zs[j]?=ys[j]?)) p1.isList p2.isList (by simp [<- l1,<- l2,hl]) hu (fun j h1 h2=>?_) _ _ _ _ ⟨.bl (decide (zs ≠ ys)),H,I,?_,q⟩
  ·rw [A7] at h1 h2;have hz:j<zs.length:=by omega
   have hy:j<ys.length:=by omega
   obtain ⟨a,ea,ra⟩:=r1.get (i:=j) (x:=.int zs[j]) (by rw [B7,A1 hz];rfl)
   obtain ⟨b,eb,rb⟩:=r2.get (i:=j) (x:=.int ys[j]) (by rw [B7,A1 hy];rfl)
   obtain ⟨t,rfl⟩:=ra;obtain ⟨t',rfl⟩:=rb;have e1:us.toArray[j]=.int zs[j] t:=by
    rw [W0];exact D5 ((A1 h1).symm.trans ea)
   have e2:vs.toArray[j]=.int ys[j] t':=by
    rw [W0];exact D5 ((A1 h2).symm.trans eb)
   rw [e1,e2];have:=m7 (A:=X.A.in1) (s:=s) zs[j] t ys[j] t';rw [show (zs[j] == ys[j])=decide (zs[j]?=ys[j]?) by rw [A1 hz,A1 hy];by_cases c:zs[j]=ys[j] <;> simp [c]] at this
   exact this
  ·show Q4 _=Q4 _;congr 1;rw [A7,<- l1];by_cases c:zs=ys
   ·subst c;simp
   ·have dc:decide (zs ≠ ys)=true:=decide_eq_true c;rw [dc];rw [t8];rw [<- A63,O2];intro z;apply c;apply g8;intro i;by_cases hi:i<zs.length
    ·exact of_decide_eq_true (z i (P7.mpr hi))
    ·rw [J2 (by omega),J2 (by omega)]
 ·refine d6 p1.isList p2.isList (by simp;omega) hu _ _ _ _ ⟨.bl true,H,I,rfl,?_⟩
  have:decide (zs ≠ ys)=true:=decide_eq_true (fun z=>hl (by rw [z]))
  rw [this] at q;exact q
theorem qI6 {K:PySem.W.Frag} (hK:X.K=K):qCW X (.builtin "isinstance") (fun xs H Q=>∃ x T t b,xs=[x,.ty T]/\TyOf K H x t/\P1 K t (.type T)=some b/\Q (.bl b) H):=by subst hK;exact qB6
end
end L2
namespace Fw
open PySem L2
theorem qHL {α β:Type} {F:α->β->Prop} {a c:List α} {b d:List β} (h:Paired F a b) (k:Paired F c d):Paired F (a++c) (b++d):=by
 induction h with
 | nil=>exact k
 | cons r t ih=>exact .cons r ih
def wd (Ae:List (List Int)) (st:List Int) (Aa:Int) (m:Str × Int):V:=qa6 ((Ae[m.2.toNat]?).getD []) st Aa m.1 m.2
theorem rep0:∀ n:Nat,(C4 n [V.int 0]).flatten=(C4 n (0:Int)).map V.int
 | 0=>rfl
 | n+1=>by rw [L7,L7,E7,rep0 n];rfl
theorem qPC {n:Int} {i:Nat} (h:(i:Int)<n):(qDL 0 n)[i]?=some (i:Int):=by
 unfold qDL;rw [B7,Z6 (by omega)]
 simp
theorem qAU {α:Type} {l:List α} {n:Nat} (h:l.length=n):l.take n=l:=G0 (by omega)
theorem qFG {p:Int->Bool} {l:List Int} {i:Nat}:((l.take i).filter p).length<=i:=by
 have:=V3 p (l.take i);rw [D4] at this;omega
structure Cnt (n:Nat) (cs:List Int) (seen:List Int):Prop where
 len:cs.length=n
 at_:∀ x:Nat,x<n->∃ c,cs[x]?=some c/\0<=c/\(c=0 ↔ (x:Int) ∉ seen)
theorem qB7 {n:Nat} (h:n<=1000000):n<sizeLine:=by rw [sizeLine_eq];omega
inductive Nd (Ae:List (List Int)) (Ad:List Int):Int->Prop
 | ask {x:Int}:x ∈ Ad->Nd Ae Ad x
 | need {w y:Int} {zs:List Int}:Nd Ae Ad w->Ae[w.toNat]?=some zs->y ∈ zs->Nd Ae Ad y
structure KeysI (Af:List (Key × V)) (ks:List Int):Prop where
 keys:Af.map (·.1)=ks.map E9
 nd:ks.Nodup
theorem KeysI.len {Af:List (Key × V)} {ks:List Int} (h:KeysI Af ks):Af.length=ks.length:=by
 have:=congrArg u9 h.keys;simpa using this
theorem KeysI.nil:KeysI [] []:=⟨rfl,.nil⟩
theorem qQB (k:Key):∀ Af:List (Key × V),(Af.any fun kv=>decide (kv.1=k))=true ↔ k ∈ Af.map (·.1)
 | []=>by simp
 | p::r=>by
  rw [Y6,C1,Y0,qQB k r,B5,decide_eq_true_eq];exact or_congr_left ⟨Eq.symm,Eq.symm⟩
theorem KeysI.mem {Af:List (Key × V)} {ks:List Int} (h:KeysI Af ks) (x:Int):(E9 x:Key) ∈ Af.map (·.1) ↔ x ∈ ks:=by
 rw [h.keys,D6];exact ⟨fun ⟨y,hy,e⟩=>X8 e ▸ hy,fun hx=>⟨x,hx,rfl⟩⟩
theorem KeysI.has {Af:List (Key × V)} {ks:List Int} (h:KeysI Af ks) (x:Int):(valV Af (E9 x)).isSome=decide (x ∈ ks):=by
 rw [<- qFW];have:=(qQB (E9 x) Af).trans (h.mem x);by_cases e:x ∈ ks
 ·rw [decide_eq_true e];exact this.mpr e
 ·rw [decide_eq_false e];exact Q3.mpr fun z=>e (this.mp z)
theorem qR4 (k:Key) (v:V):∀ Af:List (Key × V),(Af.map fun kv=>if kv.1=k then (kv.1,v) else kv).map (·.1)=Af.map (·.1)
 | []=>rfl
 | p::r=>by
  rw [C1,C1,C1,qR4 k v r];congr 1
  split <;> rfl
theorem KeysI.put {Af:List (Key × V)} {ks:List Int} (h:KeysI Af ks) (x:Int) (v:V):KeysI (putK Af (E9 x) v) (addI ks x):=by
 have key:=(qQB (E9 x) Af).trans (h.mem x);unfold putK addI;by_cases e:x ∈ ks
 ·rw [if_pos (key.mpr e),if_pos e];exact ⟨by rw [qR4];exact h.keys,h.nd⟩
 ·rw [if_neg fun z=>e (key.mp z),if_neg e];refine ⟨by rw [A9,A9,h.keys];rfl,qM1 h.nd e⟩
theorem qJO {ks:List Int} {n:Nat} (h:ks.Nodup) (b:∀ x ∈ ks,0<=x/\x<(n:Int)):ks.length<=n:=by
 have sub:ks ⊆ (I0 n).map fun (i:Nat)=>(i:Int):=fun x hx=>by
  have:=b x hx;exact D6.mpr ⟨x.toNat,P7.mpr (by omega),by omega⟩
 have:=J5 h sub;simpa using this
structure Fnd (Ae:List (List Int)) (Ad ks:List Int) (j:Int):Prop where
 in_:∀ x ∈ ks,(0<=x/\x<(Ae.length:Int))/\Nd Ae Ad x
 ask:∀ x ∈ Ad,x ∈ ks
 clo:∀ (w:Nat) zs,j<=(w:Int)->(w:Int) ∈ ks->Ae[w]?=some zs->∀ y ∈ zs,y ∈ ks
theorem Fnd.all {Ae:List (List Int)} {Ad ks:List Int} (wf:WFn Ae) (h:Fnd Ae Ad ks 0) (x:Int):x ∈ ks ↔ Nd Ae Ad x:=by
 refine ⟨fun hx=>(h.in_ x hx).2,fun hx=>?_⟩
 induction hx with
 | ask m=>exact h.ask _ m
 | @need w y zs _ e m ih=>
  have b:=(h.in_ w ih).1;exact h.clo w.toNat zs (by omega) (by rw [show ((w.toNat:Nat):Int)=w by omega];exact ih) e y m
def qB0 (Ae:List (List Int)) (Ad zs:List Int):Prop:=Rise (Ae.length:Int) zs/\∀ x,x ∈ zs ↔ Nd Ae Ad x
theorem qYK:∀ {l m:List Int},l.Pairwise (·<·)->m.Pairwise (·<·)->(∀ x,x ∈ l ↔ x ∈ m)->l=m
 | [],[],_,_,_=>rfl
 | [],y::m,_,_,h=>absurd ((h y).mpr (by simp)) (by simp)
 | x::l,[],_,_,h=>absurd ((h x).mp (by simp)) (by simp)
 | x::l,y::m,hl,hm,h=>by
  have l1:=M6.mp hl;have m1:=M6.mp hm;have exy:x=y:=by
   rcases B5.mp ((h x).mp (by simp)) with e | e
   ·exact e
   ·rcases B5.mp ((h y).mpr (by simp)) with e2 | e2
    ·exact e2.symm
    ·have:=m1.1 x e;have:=l1.1 y e2;omega
  subst exy;rw [qYK l1.2 m1.2 fun z=>?_]
  constructor
  ·intro hz;rcases B5.mp ((h z).mp (by simp [hz])) with e | e
   ·have:=l1.1 z hz;omega
   ·exact e
  ·intro hz;rcases B5.mp ((h z).mpr (by simp [hz])) with e | e
   ·have:=m1.1 z hz;omega
   ·exact e
theorem qSS {ws:List Int} (up:ws.Pairwise (·<·)) {i j:Nat} {x y:Int} (hx:ws[i]?=some x) (hy:ws[j]?=some y):i<j ↔ x<y:=by
 obtain ⟨hi,ex⟩:=A3.mp hx;obtain ⟨hj,ey⟩:=A3.mp hy;have key:∀ a b (ha:a<ws.length) (hb:b<ws.length),a<b->ws[a]<ws[b]:=fun a b ha hb hab=>F0.mp up a b ha hb hab
 constructor
 ·intro h;have:=key i j hi hj h;omega
 ·intro h;rcases i0 i j with z | z | z
  ·exact z
  ·subst z;omega
  ·have:=key j i hj hi z;omega
theorem qU3 {Ae:List (List Int)} (wf:WFn Ae) (w:Nat):Rise (w:Int) ((Ae[w]?).getD []):=by
 cases e:Ae[w]? with
 | none=>exact Rise.nil
 | some zs=>exact wf w zs e
def qWA:Sp:=fun vs H Q _=>∃ (a t:Addr) (Ae:List (List Int)) (Ad:List Int),vs=[.ref a,.ref t]/\NetAt H a Ae/\WFn Ae/\Ae.length<=63/\H t=some (.tup (Ad.map V.int))/\(∀ x ∈ Ad,0<=x/\x<(Ae.length:Int))/\
 ∀ l zs H',Same H H'->H l=none->H' l=some (.lst (zs.map V.int))->qB0 Ae Ad zs->Q (.ref l) H'
abbrev Mv:=Str × Int
def nd (Ae:List (List Int)) (w:Int):List Int:=(Ae[w.toNat]?).getD []
theorem qAF {Ae:List (List Int)} {w:Int} {zs:List Int} (h:Ae[w.toNat]?=some zs):nd Ae w=zs:=by unfold nd;rw [h];rfl
def qBB (Ae:List (List Int)):List Int->Int->Option Int
 | [],_=>none
 | w::r,y=>match qBB Ae r y with
  | some v=>some v
  | none=>if y ∈ nd Ae w then some w else none
theorem qL3 {Ae:List (List Int)} {y v:Int}:∀ {l:List Int},qBB Ae l y=some v->v ∈ l/\y ∈ nd Ae v
 | [],h=>by cases h
 | w::r,h=>by
  unfold qBB at h;cases e:qBB Ae r y with
  | some u=>
   rw [e] at h;cases h;have:=qL3 e;exact ⟨A5 _ this.1,this.2⟩
  | none=>
   rw [e] at h;dsimp only at h
   split at h
   ·cases h;exact ⟨A8,by assumption⟩
   ·cases h
theorem lastOf_none {Ae:List (List Int)} {y:Int}:∀ {l:List Int},qBB Ae l y=none ↔ ∀ v ∈ l,y ∉ nd Ae v
 | []=>by simp [qBB]
 | w::r=>by
  unfold qBB;have ih:=lastOf_none (Ae:=Ae) (y:=y) (l:=r);cases e:qBB Ae r y with
  | some u=>
   refine ⟨fun z=>(by cases z),fun z=>?_⟩
   have:=ih.mpr fun v hv=>z v (A5 _ hv);rw [e] at this;cases this
  | none=>
   dsimp only;have q:=ih.mp e
   constructor
   ·intro z v hv
    split at z
    ·cases z
    ·rcases B5.mp hv with rfl | hv
     ·assumption
     ·exact q v hv
   ·intro z;rw [if_neg (z w A8)]
theorem qJU {Ae:List (List Int)} {w y:Int}:∀ {l:List Int},qBB Ae (l++[w]) y=if y ∈ nd Ae w then some w else qBB Ae l y
 | []=>by simp [qBB]
 | x::l=>by
  rw [Q7];unfold qBB;rw [qJU (l:=l)];by_cases h:y ∈ nd Ae w
  ·rw [if_pos h,if_pos h]
  ·rw [if_neg h,if_neg h]
def qES (Ae:List (List Int)) (zs:List Int) (j:Nat) (x:Int):Prop:=∃ v ∈ zs.drop j,x ∈ nd Ae v
instance (Ae:List (List Int)) (zs:List Int) (j:Nat) (x:Int):Decidable (qES Ae zs j x):=by unfold qES;infer_instance
theorem qNQ {Ae:List (List Int)} {zs:List Int} (n:zs.Nodup) {i:Nat} {w:Int} (h:zs[i]?=some w) (y:Int):qBB Ae zs y=some w ↔ y ∈ nd Ae w/\¬ qES Ae zs (i+1) y:=by
 obtain ⟨hi,e⟩:=A3.mp h;have split:zs=zs.take i++w::zs.drop (i+1):=by rw [<- e,<- O5 hi,M8]
 have key:∀ (a b:List Int),w ∉ a->w ∉ b->(qBB Ae (a++w::b) y=some w ↔ y ∈ nd Ae w/\¬ ∃ v ∈ b,y ∈ nd Ae v):=by
  intro a b ha hb
  induction a with
  | nil=>
   show qBB Ae (w::b) y=some w ↔ _;unfold qBB;cases q:qBB Ae b y with
   | some v=>
    have:=qL3 q
    constructor
    ·intro z;cases z;exact absurd this.1 hb
    ·rintro ⟨_,z⟩;exact absurd ⟨v,this.1,this.2⟩ z
   | none=>
    have:=lastOf_none.mp q;dsimp only
    constructor
    ·intro z
     split at z
     ·rename_i hy
      exact ⟨hy,fun ⟨v,hv,hy2⟩=>this v hv hy2⟩
     ·cases z
    ·rintro ⟨z,_⟩;rw [if_pos z]
  | cons x a ih=>
   have ih:=ih fun z=>ha (A5 _ z);rw [Q7];unfold qBB;cases q:qBB Ae (a++w::b) y with
   | some v=>
    rw [q] at ih;exact ih
   | none=>
    rw [q] at ih;dsimp only
    constructor
    ·intro z
     split at z
     ·cases z;exact absurd A8 ha
     ·cases z
    ·intro z;exact absurd (ih.mpr z) (by simp)
 have n2:=n;rw [split] at n2;have n3:=L9.mp n2;have wb:w ∉ zs.drop (i+1):=(G9.mp n3.2.1).1;have wa:w ∉ zs.take i:=fun z=>n3.2.2 w z w A8 rfl;have:=key (zs.take i) (zs.drop (i+1)) wa wb;rw [<- split] at this;exact this
inductive Run (Ae:List (List Int)) (Aa:Int):List Int->List Mv->List Int->Prop
 | nil {s:List Int}:Run Ae Aa s [] s
 | do_ {s s' t:List Int} {w:Int} {ms:List Mv}:w ∉ s->(∀ y ∈ nd Ae w,y ∈ s)->(s.length:Int)<Aa->s'.Perm (s++[w])->s'.Pairwise (·<·)->Run Ae Aa s' ms t->Run Ae Aa s (("do",w)::ms) t
 | clear {s t:List Int} {w:Int} {ms:List Mv}:w ∈ s->Run Ae Aa (s.filter fun x=>decide (x ≠ w)) ms t->Run Ae Aa s (("clear",w)::ms) t
section
variable {Ae:List (List Int)} {Ad zs:List Int}
theorem qDG (wf:WFn Ae) (N:qB0 Ae Ad zs) {i:Nat} {w y:Int} (h:zs[i]?=some w) (hy:y ∈ nd Ae w):y ∈ zs.take i/\y<w:=by
 have mw:=B8 h;have wb:=N.1.in_ w mw;have hw:w.toNat<Ae.length:=by omega
 have e:=A1 hw;rw [qAF e] at hy;have yb:=(wf w.toNat _ e).in_ y hy;have my:y ∈ zs:=(N.2 y).mpr (.need ((N.2 w).mp mw) e hy);obtain ⟨k,hk⟩:=L8 my;have lt:k<i:=(qSS N.1.up hk h).mpr (by omega)
 refine ⟨B8 (i:=k) (by rw [Z7 lt];exact hk),by omega⟩
theorem qXN (N:qB0 Ae Ad zs) (wf:WFn Ae) {i:Nat} {w:Int} (h:zs[i]?=some w):w ∈ Ad\/qES Ae zs (i+1) w:=by
 have mw:=B8 h;cases (N.2 w).mp mw with
 | ask m=>exact .inl m
 | @need v _ ns hv e hm=>
  have mv:=(N.2 v).mpr hv;obtain ⟨k,hk⟩:=L8 mv;have q:=qDG wf N hk (by rw [qAF e];exact hm)
  have lt:i<k:=(qSS N.1.up h hk).mpr q.2;refine .inr ⟨v,B8 (i:=k - (i+1)) ?_,by rw [qAF e];exact hm⟩
  rw [List.getElem?_drop,show i+1+(k - (i+1))=k by omega]
  exact hk
theorem qLI (N:qB0 Ae Ad zs) {i:Nat} {w x:Int} (h:zs[i]?=some w) (hx:x ∈ zs.take i):x<w:=by
 obtain ⟨k,hk⟩:=L8 hx;have lk:k<i:=by have:=(A3.mp hk).1;rw [D4] at this;omega
 rw [Z7 lk] at hk;exact (qSS N.1.up hk h).mp lk
theorem qcK (wf:WFn Ae) (w:Int):(nd Ae w).Pairwise (·<·):=(qU3 wf w.toNat).up
theorem qL1 {ys:List Int} (a:qB0 Ae Ad zs) (b:qB0 Ae Ad ys):zs=ys:=qYK a.1.up b.1.up fun x=>(a.2 x).trans (b.2 x).symm
end
def qZZ (H:Hp) (t:Addr) (Ae:List (List Int)) (Ad:List Int):Prop:=H t=some (.tup (Ad.map V.int))/\Rise (Ae.length:Int) Ad
def qIK:Sp:=fun vs H Q _=>∃ (a t:Addr) (Ae:List (List Int)) (Ad:List Int),vs=[.ref a,.ref t]/\NetAt H a Ae/\WFn Ae/\Ae.length<=63/\qZZ H t Ae Ad/\
 ∀ l zs H',Same H H'->H l=none->H' l=some (.lst (zs.map V.int))->qB0 Ae Ad zs->Q (.ref l) H'
theorem qZX:bootBuiltins "dict" = some (.type "dict"):=by decide +kernel
def lv (L:List Int) (x:Int):Int:=(L[x.toNat]?).getD 0
structure Lev (Ae:List (List Int)) (L:List Int):Prop where
 len:L.length=Ae.length
 at_:∀ (i:Nat) zs,Ae[i]?=some zs->∃ l,L[i]?=some l/\0<=l/\l<=(i:Int)/\(∀ y ∈ zs,lv L y+1<=l)/\(l=0\/∃ y ∈ zs,lv L y+1=l)
structure Fd (n:Nat) (L:List Int) (S:Int->Prop) (fs:List Int):Prop where
 len:fs.length=n
 at_:∀ w:Nat,w<n->(S w->fs[w]?=some (lv L w))/\(¬ S w->fs[w]?=some 0)
def nds (Ae:List (List Int)) (ws:List Int):List Int:=(ws.map (nd Ae)).flatten
theorem qWO {Ae:List (List Int)} {ws:List Int} {i:Nat} {x:Int} (h:ws[i]?=some x):nds Ae (ws.take (i+1))=nds Ae (ws.take i)++nd Ae x:=by
 unfold nds;rw [C2,h,B9,A9,Q2];simp
structure CntX (n:Nat) (cs:List Int) (seen:List Int):Prop where
 len:cs.length=n
 at_:∀ x:Nat,x<n->cs[x]?=some ((seen.count (x:Int):Nat):Int)
theorem CntX.nil (n:Nat):CntX n (C4 n 0) []:=⟨by simp,fun x hx=>by simp [hx]⟩
theorem CntX.bump {n:Nat} {cs seen:List Int} {z c:Int} (h:CntX n cs seen) (h0:0<=z) (h1:z<n) (hc:cs[z.toNat]?=some c):CntX n (cs.set z.toNat (c+1)) (seen++[z]):=by
 refine ⟨by rw [k7];exact h.len,fun x hx=>?_⟩
 rw [t9];by_cases e:x=z.toNat
 ·subst e;have q:=h.at_ _ hx;rw [hc] at q;rw [X3 (by rw [h.len];exact hx)]
  have ez:((z.toNat:Nat):Int)=z:=by omega
  rw [ez] at q ⊢;have e1:=D5 q;have e2:[z].count z=1:=by simp
  rw [e2,e1]
  rfl
 ·rw [Y9 (by omega),h.at_ x hx]
  have e2:[z].count (x:Int)=0:=by
   rw [m8];simp;omega
  rw [e2]
  rfl
theorem CntX.get {n:Nat} {cs seen:List Int} (h:CntX n cs seen) {x:Int} (h0:0<=x) (h1:x<n):cs[x.toNat]?=some ((seen.count x:Nat):Int):=by
 have:=h.at_ x.toNat (by omega)
 rw [show ((x.toNat:Nat):Int)=x by omega] at this
 exact this
theorem qM2 {Ae:List (List Int)} (wf:WFn Ae) {work x:Int} (h:Nd Ae [work] x):x<=work:=by
 induction h with
 | ask m=>rw [A4.mp m];exact F4 _
 | @need w y zs _ e m ih=>
  have:=(wf _ _ e).in_ y m;omega
def cI (Ae:List (List Int)) (zs:List Int) (x:Int):Int:=(((nds Ae zs).count x:Nat):Int)
def qN0 (Ae:List (List Int)) (work:Int) (zs:List Int):Bool:=zs.all fun x=>decide (x ≠ work->cI Ae zs x=1)
theorem qW8 (Ae:List (List Int)) (work:Int) (zs:List Int):(((zs.filter fun x=>decide (x ≠ work)).map fun x=>decide (V.int (cI Ae zs x)=V.int 1)).all id)=qN0 Ae work zs:=by
 unfold qN0;generalize hc:cI Ae zs=c;clear hc
 induction zs with
 | nil=>rfl
 | cons x r ih=>
  rw [O1,w6,<- ih];by_cases e:x=work
  ·rw [if_neg (by simp [e])]
   have:decide (x ≠ work->c x=1)=true:=decide_eq_true fun z=>absurd e z;rw [this]
   rfl
  ·rw [if_pos (by simp [e]),C1,w6]
   congr 1;exact decide_eq_decide.mpr ⟨fun z _=>V.int.inj z,fun z=>by rw [z e]⟩
def qaJ:Sp:=fun vs H Q _=>∃ (a lw:Addr) (Ae:List (List Int)) (ws:List Int),vs=[.ref a,.ref lw]/\NetAt H a Ae/\WFn Ae/\Ae.length<=63/\H lw=some (.lst (ws.map V.int))/\(∀ x ∈ ws,0<=x/\x<(Ae.length:Int))/\
 ∀ l cs H',Same H H'->H l=none->H' l=some (.lst (cs.map V.int))->CntX Ae.length cs (nds Ae ws)->Q (.ref l) H'
def qQM:Sp:=fun vs H Q _=>∃ (a:Addr) (Ae:List (List Int)) (work:Int),vs=[.ref a,.int work]/\NetAt H a Ae/\WFn Ae/\Ae.length<=63/\0<=work/\work<(Ae.length:Int)/\
 ∀ zs H',Same H H'->qB0 Ae [work] zs->Q (.bl (qN0 Ae work zs)) H'
def Beh (st st':List Int) (Ac:Str) (wk:Int):Prop:=(Ac = "do"->st'.Perm (st++[wk])/\st'.Pairwise (·<=·))/\(Ac = "clear"->st'=st.filter fun x=>decide (x ≠ wk))
inductive Play (Ae:List (List Int)) (Aa:Int):List Int->List Mv->List (List Int)->V->Prop
 | nil {st}:Play Ae Aa st [] [] .non
 | stop {st m ms w0}:wd Ae st Aa m=.str w0->Play Ae Aa st (m::ms) [] (.str w0)
 | go {st st' m ms sts v}:wd Ae st Aa m=.non->Beh st st' m.1 m.2->Play Ae Aa st' ms sts v->Play Ae Aa st (m::ms) (st'::sts) v
def Once (Ae:List (List Int)) (n:Nat):Prop:=∀ (i j:Nat) (zi zj:List Int) (x:Int),i<n->j<n->Ae[i]?=some zi->Ae[j]?=some zj->x ∈ zi->x ∈ zj->i=j
def Opens (Ae:List (List Int)) (os:List Int):Prop:=Once Ae Ae.length/\∀ x ∈ os,∀ (i:Nat) (zi:List Int),Ae[i]?=some zi->x ∉ zi
theorem Opens.nil:Opens [] []:=⟨(fun i j _ _ _ h=>absurd h (Nat.not_lt_zero _)),(fun x h=>nomatch h)⟩
theorem qH0 {α:Type} {l:List α} {z y:α} {i:Nat} (h:(l++[z])[i]?=some y):(i<l.length/\l[i]?=some y)\/(i=l.length/\y=z):=by
 by_cases c:i<l.length
 ·rw [E4 c] at h;exact .inl ⟨c,h⟩
 ·rw [G7 (by omega)] at h
  have hl:=(A3.mp h).1;rw [C3] at hl;have e:i - l.length=0:=by omega
  rw [e] at h;exact .inr ⟨by omega,(D5 h).symm⟩
theorem Opens.step {Ae:List (List Int)} {os:List Int} {kk:Nat} (h:Opens Ae os) (wf:WFn Ae) (r:Rise (Ae.length:Int) os):Opens (Ae++[os.drop kk]) (os.take kk++[(Ae.length:Int)]):=by
 have old:∀ x ∈ os.drop kk,∀ (i:Nat) (zi:List Int),Ae[i]?=some zi->x ∉ zi:=fun x hx=>h.2 x (Q6 hx)
 constructor
 ·intro i j zi zj x _ _ e1 e2 h1 h2;rcases qH0 e1 with ⟨c1,g1⟩ | ⟨c1,g1⟩
  ·rcases qH0 e2 with ⟨c2,g2⟩ | ⟨c2,g2⟩
   ·exact h.1 i j zi zj x c1 c2 g1 g2 h1 h2
   ·subst g2;exact absurd h1 (old x h2 i zi g1)
  ·rcases qH0 e2 with ⟨c2,g2⟩ | ⟨c2,g2⟩
   ·subst g1;exact absurd h2 (old x h1 j zj g2)
   ·omega
 ·intro x hx i zi e hz;rcases E1.mp hx with m | m
  ·rcases qH0 e with ⟨c1,g1⟩ | ⟨c1,g1⟩
   ·exact h.2 x (J7 m) i zi g1 hz
   ·subst g1;have up:=r.up;rw [<- M8 kk os] at up;have:=(R9.mp up).2.2 x m x hz;omega
  ·have ex:=A4.mp m;subst ex;rcases qH0 e with ⟨c1,g1⟩ | ⟨c1,g1⟩
   ·have:=((wf i zi g1).in_ _ hz).2;omega
   ·subst g1;have:=(r.in_ _ (Q6 hz)).2;omega
theorem qLB {Ae:List (List Int)} {x v:Int}:∀ {l:List Int},l.Nodup->v ∈ l->(∀ u ∈ l,x ∈ nd Ae u->u=v)->x ∈ nd Ae v->(nd Ae v).Nodup->(nds Ae l).count x=1
 | [],_,h,_,_,_=>by cases h
 | u::l,n,h,only,hx,nv=>by
  have n2:=G9.mp n;have e:nds Ae (u::l)=nd Ae u++nds Ae l:=by simp [nds]
  rw [e,t9];by_cases c:u=v
  ·subst c;have c1:(nd Ae u).count x=1:=by
    have a:=List.nodup_iff_count.mp nv x;have b:=m9.mpr hx;omega
   have c2:(nds Ae l).count x=0:=m8.mpr fun m=>by
    obtain ⟨ys,hy,hm⟩:=F7.mp m;obtain ⟨w,hw,ew⟩:=D6.mp hy;rw [<- ew] at hm;exact n2.1 (only w (A5 _ hw) hm ▸ hw)
   omega
  ·have c1:(nd Ae u).count x=0:=m8.mpr fun m=>c (only u A8 m);have:=qLB n2.2 ((B5.mp h).resolve_left fun z=>c z.symm) (fun w hw=>only w (A5 _ hw)) hx nv;omega
theorem qEP {Ae:List (List Int)} {work:Int} {zs:List Int} (N:qB0 Ae [work] zs):work ∈ zs:=(N.2 work).mpr (.ask (A4.mpr rfl))
def qP9:Sp:=fun vs H Q _=>∃ d c t ns m,vs=[.ref d,.int m]/\StAt H d c t ns/\t<=TB - 1000/\1<=m/\m<=63/\
 ∀ a Ae t' ns' H',StAt H' d c t' ns'->t<=t'->t'<=t+m->Keep d c H H'->NetAt H' a Ae->WFn Ae->(Ae.length:Int)=m->Once Ae Ae.length->Q (.ref a) H'
def OrdR (f:Int->Int) (a b:Int):Prop:=f b<f a\/(f a=f b/\a<b)
def mx (a b:Int):Int:=if b > a then b else a
inductive TRun (Ae:List (List Int)):List Int->Int->List Mv->List Int->Int->Prop
 | nil {S:List Int} {m:Int}:TRun Ae S m [] S m
 | do_ {S:List Int} {m:Int} {x:Int} {r:List Mv} {t:List Int} {n:Int}:x ∉ S->(∀ y ∈ nd Ae x,y ∈ S)->TRun Ae (S++[x]) (mx m ((S.length:Int)+1)) r t n->TRun Ae S m ((("do",x):Mv)::r) t n
 | clr {S:List Int} {m:Int} {x:Int} {r:List Mv} {t:List Int} {n:Int}:x ∈ S->TRun Ae (S.erase x) m r t n->TRun Ae S m ((("clear",x):Mv)::r) t n
def tk:Nat->List Int->List Int
 | _,[]=>[]
 | j,x::l=>(x+(j:Int))::tk (j+1) l
theorem qU4 {Ae:List (List Int)} {z y x:Int} (hy:y ∈ nd Ae z) (h:Nd Ae [y] x) (b:∃ zs,Ae[z.toNat]?=some zs):Nd Ae [z] x:=by
 induction h with
 | ask m=>
  obtain ⟨zs,e⟩:=b;rw [A4.mp m];exact .need (.ask (A4.mpr rfl)) e (by rw [qAF e] at hy;exact hy)
 | need _ e m ih=>exact .need ih e m
structure TIn (Ae:List (List Int)) (zs:List Int) (work:Int):Prop where
 wf:WFn Ae
 N:qB0 Ae [work] zs
 len:Ae.length<=63
 user:∀ {u v x:Int},u ∈ zs->v ∈ zs->x ∈ nd Ae u->x ∈ nd Ae v->u=v
section
variable {Ae:List (List Int)} {zs:List Int} {work:Int}
theorem TIn.get (T:TIn Ae zs work) {z:Int} (hz:z ∈ zs):Ae[z.toNat]?=some (nd Ae z):=by
 have b:=T.N.1.in_ z hz;have hl:z.toNat<Ae.length:=by omega
 have g:=A1 hl;rw [g,qAF g]
theorem TIn.has (T:TIn Ae zs work) {z y:Int} (hz:z ∈ zs) (hy:y ∈ nd Ae z):y ∈ zs/\y<z/\0<=y:=by
 obtain ⟨i,hi⟩:=L8 hz;obtain ⟨h1,h2⟩:=qDG T.wf T.N hi hy;have h3:=J7 h1;exact ⟨h3,h2,(T.N.1.in_ y h3).1⟩
theorem TIn.sub (T:TIn Ae zs work) {z x:Int} (hz:z ∈ zs) (h:Nd Ae [z] x):x ∈ zs:=by
 induction h with
 | ask m=>rw [A4.mp m];exact hz
 | @need w y ys hw e m ih=>exact (T.has ih (by rw [qAF e];exact m)).1
theorem TIn.chain (T:TIn Ae zs work) {a b x:Int} (ha:a ∈ zs) (hb:b ∈ zs) (h1:Nd Ae [a] x):Nd Ae [b] x->Nd Ae [a] b\/Nd Ae [b] a:=by
 induction h1 with
 | ask m=>
  intro h2;rw [A4.mp m] at h2;exact .inr h2
 | @need w y ys hw e m ih=>
  intro h2;cases h2 with
  | ask m2=>rw [<- A4.mp m2];exact .inl (.need hw e m)
  | @need w2 _ ys2 hw2 e2 m2=>
   have:=T.user (T.sub ha hw) (T.sub hb hw2) (by rw [qAF e];exact m) (by rw [qAF e2];exact m2)
   subst this;exact ih hw2
theorem TIn.apart (T:TIn Ae zs work) {z a b:Int} (hz:z ∈ zs) (ha:a ∈ nd Ae z) (hb:b ∈ nd Ae z) (h:Nd Ae [a] b):a=b:=by
 cases h with
 | ask m=>exact (A4.mp m).symm
 | @need w _ ys hw e m=>
  have h1:=T.has hz ha;have hwz:=T.sub h1.1 hw;have:=T.user hwz hz (by rw [qAF e];exact m) hb
  have:=qM2 T.wf hw;omega
theorem TIn.nodup (T:TIn Ae zs work) {z:Int} (hz:z ∈ zs):(nd Ae z).Nodup:=(T.wf _ _ (T.get hz)).nodup
end
theorem qcM {X:Cx} {scope:Scope} {p:Str} {fv:List Nat} {q:Str} (z:LmZ):(lmCx X scope p fv q z).A.units+1<cLine:=by
 have:=z.rm.un;show z.A.units+3+1<cLine;omega
def kvsV (l:List Int) (g:Int->V):List (Key × V):=l.map fun z=>(E9 z,g z)
theorem qDB {g:Int->V} {y:Int}:∀ {l:List Int},y ∈ l->valV (kvsV l g) (E9 y)=some (g y)
 | [],h=>by cases h
 | x::l,h=>by
  by_cases e:x=y
  ·subst e;exact qBO rfl
  ·exact (qBG (fun z=>e (X8 z))).trans (qDB ((B5.mp h).resolve_left fun z=>e z.symm))
theorem qNR {g:Int->V} {y:Int}:∀ {l:List Int},y ∉ l->valV (kvsV l g) (E9 y)=none
 | [],_=>rfl
 | x::l,h=>(qBG (fun z=>h (by rw [<- X8 z];exact A8))).trans (qNR fun z=>h (A5 _ z))
theorem qM6 {l:List Int} {g:Int->V} {z:Int} {v:V} (h:z ∉ l):putK (kvsV l g) (E9 z) v=kvsV (l++[z]) (fun y=>if y=z then v else g y):=by
 rw [qWH _ (qNR h)];unfold kvsV;rw [A9];congr 1
 ·exact P0 fun y hy=>by
   show _=(E9 y,if y=z then v else g y)
   rw [if_neg fun (e:y=z)=>h (e ▸ hy)]
 ·simp
section
variable {Ae:List (List Int)} {zs:List Int} {work:Int}
end
theorem lexT (a b c d:Int):HT.lexLt [a,b] [c,d]=true ↔ a<c\/(a=c/\b<d):=by
 simp only [HT.lexLt];simp
 split <;> omega
section
variable {dp p:Addr} {H Hc Hd:Hp}
end
structure Pck (f:Int->Int) (ys pk lf:List Int):Prop where
 perm:(pk++lf).Perm ys
 up:lf.Pairwise (·<·)
 ord:pk.Pairwise (OrdR f)
 ahead:∀ a ∈ pk,∀ b ∈ lf,OrdR f a b
section
variable {Ae:List (List Int)} {zs:List Int} {work:Int}
def isT (Ae:List (List Int)) (work:Int):Prop:=∃ zs,qB0 Ae [work] zs/\qN0 Ae work zs=true
theorem qUM (N:qB0 Ae [work] zs):isT Ae work ↔ qN0 Ae work zs=true:=by
 constructor
 ·rintro ⟨z2,N2,h⟩;rw [qL1 N N2];exact h
 ·exact fun h=>⟨zs,N,h⟩
theorem qOJ {x u v:Int} (ne:u ≠ v) (h1:x ∈ nd Ae u) (h2:x ∈ nd Ae v):∀ {l:List Int},u ∈ l->v ∈ l->2<=(nds Ae l).count x
 | [],h,_=>by cases h
 | w::l,hu,hv=>by
  have e:nds Ae (w::l)=nd Ae w++nds Ae l:=by simp [nds]
  have pos:∀ y ∈ l,x ∈ nd Ae y->1<=(nds Ae l).count x:=fun y hy hx=>m9.mpr (by
   unfold nds;exact F7.mpr ⟨_,D6.mpr ⟨y,hy,rfl⟩,hx⟩)
  have pw:∀ {y},y=w->x ∈ nd Ae y->1<=(nd Ae w).count x:=fun ey hx=>m9.mpr (ey ▸ hx);rw [e,t9];rcases B5.mp hu with a | a
  ·rcases B5.mp hv with b | b
   ·exact absurd (a.trans b.symm) ne
   ·have:=pw a h1;have:=pos v b h2;omega
  ·rcases B5.mp hv with b | b
   ·have:=pw b h2;have:=pos u a h1;omega
   ·have:=qOJ ne h1 h2 a b;omega
theorem qKO (wf:WFn Ae) (n4:Ae.length<=63) (N:qB0 Ae [work] zs) (h:isT Ae work):TIn Ae zs work:=by
 refine ⟨wf,N,n4,fun {u v x} hu hv h1 h2=>?_⟩;have tb:=(qUM N).mp h;unfold qN0 at tb;obtain ⟨i,hi⟩:=L8 hu;obtain ⟨a1,a2⟩:=qDG wf N hi h1;have le:=qM2 wf ((N.2 u).mp hu);have:=of_decide_eq_true (O2.mp tb x (J7 a1)) (by omega)
 unfold cI at this;rcases i7 (u=v) with e | e
 ·exact e
 ·have:=qOJ e h1 h2 hu hv;omega
end
def NIn (H:Hp) (a:Addr) (Ae:List (List Int)) (work:Int):Prop:=NetAt H a Ae/\WFn Ae/\Ae.length<=63/\0<=work/\work<(Ae.length:Int)
def wdO (ws:List Int) (x:Int):Int:=(ws[x.toNat]?).getD 0
def sumW (ws l:List Int):Int:=(l.map (wdO ws)).sum
def qDO (Ae:List (List Int)) (ws zs:List Int) (p:Nat):Int:=sumW ws ((zs.take p).filter fun x=>decide (qES Ae zs p x))
def qCB (Ae:List (List Int)) (ws zs:List Int):List Int:=(I0 zs.length).map fun p=>wdO ws ((zs[p]?).getD 0)+qDO Ae ws zs p
theorem qEI (ws:List Int):sumW ws []=0:=rfl
theorem qB5 (ws l:List Int) (x:Int):sumW ws (x::l)=wdO ws x+sumW ws l:=by simp [sumW]
theorem qIJ (ws:List Int):∀ l m:List Int,sumW ws (l++m)=sumW ws l+sumW ws m
 | [],m=>by simp [sumW]
 | x::l,m=>by rw [Q7,qB5,qB5,qIJ ws l m];omega
theorem qGO {ws l m:List Int} (h:l.Perm m):sumW ws l=sumW ws m:=by
 induction h with
 | nil=>rfl
 | cons x _ ih=>rw [qB5,qB5,ih]
 | swap x y l=>rw [qB5,qB5,qB5,qB5];omega
 | trans _ _ a b=>exact a.trans b
theorem qKP (ws:List Int) (a b:Int->Bool):∀ l:List Int,sumW ws (l.filter fun x=>a x || b x)=sumW ws (l.filter b)+sumW ws (l.filter fun x=>a x && !b x)
 | []=>rfl
 | x::l=>by
  have ih:=qKP ws a b l;cases ea:a x <;> cases eb:b x <;> simp [O1,ea,eb,qB5] at ih ⊢ <;> omega
structure TopO (Ae:List (List Int)) (zs:List Int):Prop where
 nodup:zs.Nodup
 in_:∀ x ∈ zs,0<=x/\x<(Ae.length:Int)
 bef:∀ (p:Nat) (o:Int),zs[p]?=some o->∀ x ∈ nd Ae o,x ∈ zs.take p
 aft:∀ (p:Nat) (o:Int),zs[p]?=some o->p+1<zs.length->qES Ae zs (p+1) o
theorem qNW {Ae:List (List Int)} {ws zs:List Int} (wf:WFn Ae) (T:TopO Ae zs) {p:Nat} {o:Int} (h:zs[p]?=some o) (hp:p+1<zs.length) :
  qDO Ae ws zs (p+1)=qDO Ae ws zs p+wdO ws o - sumW ws ((nd Ae o).filter fun y=>decide (qBB Ae zs y=some o)):=by
 obtain ⟨hi,e⟩:=A3.mp h;have ed:zs.drop p=o::zs.drop (p+1):=by rw [O5 hi,e]
 have lt:∀ x,decide (qES Ae zs p x)=(decide (x ∈ nd Ae o) || decide (qES Ae zs (p+1) x)):=by
  intro x;rw [U2,Y0,decide_eq_true_eq,decide_eq_true_eq,decide_eq_true_eq];unfold qES;rw [ed]
  constructor
  ·rintro ⟨v,hv,hx⟩;rcases B5.mp hv with rfl | hv
   ·exact .inl hx
   ·exact .inr ⟨v,hv,hx⟩
  ·rintro (hx | ⟨v,hv,hx⟩)
   ·exact ⟨o,A8 ..,hx⟩
   ·exact ⟨v,A5 _ hv,hx⟩
 have e1:qDO Ae ws zs (p+1)=sumW ws ((zs.take p).filter fun x=>decide (qES Ae zs (p+1) x))+wdO ws o:=by
  unfold qDO;rw [C2,h,B9,A44,qIJ];have:([o].filter fun x=>decide (qES Ae zs (p+1) x))=[o]:=by
   simp [O1,T.aft p o h hp]
  rw [this,qB5,qEI];omega
 have e2:qDO Ae ws zs p=sumW ws ((zs.take p).filter fun x=>decide (qES Ae zs (p+1) x))+sumW ws ((zs.take p).filter fun x=>decide (x ∈ nd Ae o) && !decide (qES Ae zs (p+1) x)):=by
  unfold qDO;rw [<- qKP ws (fun x=>decide (x ∈ nd Ae o)) (fun x=>decide (qES Ae zs (p+1) x))];congr 2
  funext x
  exact lt x
 have e3:sumW ws ((zs.take p).filter fun x=>decide (x ∈ nd Ae o) && !decide (qES Ae zs (p+1) x))=sumW ws ((nd Ae o).filter fun y=>decide (qBB Ae zs y=some o)):=by
  refine qGO ((Y8 ((T.nodup.sublist (W5 p zs)).sublist Q9) (((qcK wf o).imp fun {a b} hab=>by omega).sublist Q9)).mpr fun x=>?_)
  rw [F9,F9,P4,decide_eq_true_eq,t8,decide_eq_false_iff_not,decide_eq_true_eq,qNQ T.nodup h]
  constructor
  ·rintro ⟨_,h1,h2⟩;exact ⟨h1,h1,h2⟩
  ·rintro ⟨h1,_,h2⟩;exact ⟨T.bef p o h x h1,h1,h2⟩
 rw [e1,e2,e3];omega
theorem qNV (Ae:List (List Int)) (ws zs:List Int):qDO Ae ws zs 0=0:=rfl
theorem qMA {l:List Int} (n:l.Nodup) {i j:Nat} (hi:i<l.length) (hj:j<l.length) (e:l[i]=l[j]):i=j:=by
 rcases i0 i j with h | h | h
 ·exact absurd e (F0.mp n i j hi hj h)
 ·exact h
 ·exact absurd e.symm (F0.mp n j i hj hi h)
theorem qP7 {Ae:List (List Int)} {work:Int} {some_ zs:List Int} (ND:qB0 Ae [work] some_) (n:zs.Nodup) (m:∀ x,x ∈ zs ↔ x ∈ some_) (bef:∀ (p:Nat) (o:Int),zs[p]?=some o->∀ x ∈ nd Ae o,x ∈ zs.take p):TopO Ae zs:=by
 have user:∀ x ∈ zs,x ≠ work->∃ z ∈ zs,x ∈ nd Ae z:=by
  intro x hx hne;have h:=(ND.2 x).mp ((m x).mp hx);cases h with
  | ask h=>exact absurd (A4.mp h) hne
  | need h1 h2 h3=>exact ⟨_,(m _).mpr ((ND.2 _).mpr h1),by rw [qAF h2];exact h3⟩
 have after:∀ (p:Nat) (o:Int),zs[p]?=some o->∀ z ∈ zs,o ∈ nd Ae z->z ∈ zs.drop (p+1):=by
  intro p o h z hz ho;obtain ⟨q,hq,e⟩:=U5 hz;have h1:=bef q z (by rw [A1 hq,e]) o ho
  obtain ⟨k,hk,ek⟩:=U5 h1;rw [A53] at ek;have hk':k<q:=by rw [D4] at hk;omega
  obtain ⟨hp,ep⟩:=A3.mp h;have:k=p:=qMA n (by omega) hp (by rw [ek,ep])
  subst this;rw [V9];exact ⟨q - (k+1),by rw [P3];omega,by rw [p7,<- e];congr 1;omega⟩
 refine ⟨n,fun x hx=>ND.1.in_ x ((m x).mp hx),bef,fun p o h hp=>?_⟩;by_cases e:o=work
 ·exfalso
  have hl:zs.length - 1<zs.length:=by omega
  have hy:=U9 hl;obtain ⟨hp',ep⟩:=A3.mp h;have hne:zs[zs.length - 1] ≠ work:=by
   intro z;rw [<- e,<- ep] at z;have:=qMA n hl hp' z;omega
  obtain ⟨z,hz,hu⟩:=user _ hy hne;have:=after (zs.length - 1) _ (A1 hl) z hz hu;rw [X5 (by omega)] at this
  cases this
 ·obtain ⟨z,hz,hu⟩:=user o (B8 h) e;exact ⟨z,after p o h z hz hu,hu⟩
theorem StAt.upd {H:Hp} {d c p:Addr} {t:Int} {ns:List Int} {o:HO} (S:StAt H d c t ns) (h1:d ≠ p) (h2:c ≠ p):StAt (L2.upd H p o) d c t ns:=⟨by rw [qA8 h1];exact S.dict,by rw [qA8 h2];exact S.list,S.ne,S.len,S.pos⟩
theorem qJ8 (k j:Key):∀ Af:List (Key × V),valV (qGF Af k) j=if j=k then none else valV Af j
 | []=>by simp [qGF,valV]
 | p::r=>by
  by_cases e:p.1=k
  ·rw [qV6 e,qJ8 k j r];by_cases ej:j=k
   ·rw [if_pos ej,if_pos ej]
   ·rw [if_neg ej,if_neg ej,qBG (fun z=>ej (z.symm.trans e))]
  ·rw [qV7 e];by_cases ep:p.1=j
   ·rw [qBO ep,qBO ep,if_neg (fun z=>e (ep.trans z))]
   ·rw [qBG ep,qBG ep,qJ8 k j r]
theorem qSR (b:V) (y:Int):∀ (zs:List Int) (Af:List (Key × V)),(valV (qDM Af (zs.map fun x=>(x,b))) (E9 y)).isSome=((valV Af (E9 y)).isSome || decide (y ∈ zs))
 | [],Af=>by simp [qDM]
 | z::zs,Af=>by
  show (valV (qDM (putK Af (E9 z) b) (zs.map fun x=>(x,b))) (E9 y)).isSome=_;rw [qSR b y zs,qIG];by_cases e:y=z
  ·subst e;rw [if_pos rfl];simp
  ·rw [if_neg fun h=>e (X8 h)];simp [e]
structure Begun (Ae:List (List Int)) (some_ ord:List Int):Prop where
 nodup:ord.Nodup
 sub:∀ x ∈ ord,x ∈ some_
 bef:∀ (p:Nat) (o:Int),ord[p]?=some o->∀ x ∈ nd Ae o,x ∈ ord.take p
abbrev lft (some_ ord:List Int) (x:Int):Bool:=decide (x ∈ some_/\x ∉ ord)
abbrev fre (Ae:List (List Int)) (some_ ord:List Int) (x:Int):Bool:=lft some_ ord x && !((nd Ae x).any (lft some_ ord))
theorem Begun.snoc {Ae:List (List Int)} {work:Int} {some_ ord:List Int} (ND:qB0 Ae [work] some_) (B:Begun Ae some_ ord) {x:Int} (hx:x ∈ some_.filter (fre Ae some_ ord)):Begun Ae some_ (ord++[x])/\lft some_ ord x=true:=by
 rw [F9,P4,decide_eq_true_eq] at hx;obtain ⟨h1,⟨_,h2⟩,h3⟩:=hx;have h3':∀ y ∈ nd Ae x,y ∈ ord:=by
  intro y hy;have hb:=ND.1.in_ x h1;have hw:x.toNat<Ae.length:=by omega
  have hz:=A1 hw;have hys:y ∈ some_:=(ND.2 y).mpr (.need ((ND.2 x).mp h1) hz (by rw [<- qAF hz];exact hy))
  rcases i7 (y ∈ ord) with h | h
  ·exact h
  ·have:(nd Ae x).any (lft some_ ord)=true:=Z3.mpr ⟨y,hy,decide_eq_true ⟨hys,h⟩⟩;rw [this] at h3;cases h3
 refine ⟨⟨?_,fun y hy=>?_,fun p o e y hy=>?_⟩,decide_eq_true ⟨h1,h2⟩⟩
 ·rw [L9];refine ⟨B.nodup,by simp,fun a ha b hb z=>?_⟩
  rw [A4.mp hb] at z;exact h2 (z ▸ ha)
 ·rcases E1.mp hy with h | h
  ·exact B.sub y h
  ·rw [A4.mp h];exact h1
 ·rcases Nat.lt_or_ge p ord.length with l | l
  ·rw [E4 l] at e;rw [O3 (by omega)]
   exact B.bef p o e y hy
  ·rw [G7 l] at e;have hp:p - ord.length=0:=by
    have:=(A3.mp e).1;simp at this;omega
   rw [hp] at e;cases e;rw [O3 (by omega),G0 (by omega)]
   exact h3' y hy
theorem Begun.free {Ae:List (List Int)} {work:Int} {some_ ord:List Int} (wf:WFn Ae) (ND:qB0 Ae [work] some_) (B:Begun Ae some_ ord) (h:ord.length<some_.length):1<=(some_.filter (fre Ae some_ ord)).length:=by
 have ex:∃ x ∈ some_,x ∉ ord:=by
  rcases i7 (∃ x ∈ some_,x ∉ ord) with h1 | h1
  ·exact h1
  ·exfalso
   have sub:some_ ⊆ ord:=fun x hx=>o7 fun z=>h1 ⟨x,hx,z⟩;have:=J5 ND.1.nodup sub;omega
 -- the least one
 have least:∀ k:Nat,∀ x ∈ some_,x ∉ ord->x.toNat<=k->∃ y ∈ some_,y ∉ ord/\∀ z ∈ nd Ae y,z ∈ ord:=by
  intro k
  induction k with
  | zero=>
   intro x hx hn hk;refine ⟨x,hx,hn,fun z hz=>?_⟩;have hb:=ND.1.in_ x hx;have hw:x.toNat<Ae.length:=by omega
   have hg:=A1 hw;have:=(wf x.toNat _ hg).in_ z (by rw [<- qAF hg];exact hz)
   omega
  | succ k ih=>
   intro x hx hn hk;rcases i7 (∃ z ∈ nd Ae x,z ∉ ord) with ⟨z,hz,hzn⟩ | h2
   ·have hb:=ND.1.in_ x hx;have hw:x.toNat<Ae.length:=by omega
    have hg:=A1 hw;have hzb:=(wf x.toNat _ hg).in_ z (by rw [<- qAF hg];exact hz)
    exact ih z ((ND.2 z).mpr (.need ((ND.2 x).mp hx) hg (by rw [<- qAF hg];exact hz))) hzn (by omega)
   ·exact ⟨x,hx,hn,fun z hz=>o7 fun q=>h2 ⟨z,hz,q⟩⟩
 obtain ⟨x,hx,hn⟩:=ex;obtain ⟨y,hy,hyn,hyf⟩:=least x.toNat x hx hn (B0 _);have hm:y ∈ some_.filter (fre Ae some_ ord):=by
  rw [F9,P4,decide_eq_true_eq,t8];refine ⟨hy,⟨hy,hyn⟩,?_⟩;rw [A47];intro z hz q;exact (of_decide_eq_true q).2 (hyf z hz)
 exact A05 hm
theorem Begun.top {Ae:List (List Int)} {work:Int} {some_ ord:List Int} (ND:qB0 Ae [work] some_) (B:Begun Ae some_ ord) (h:some_.length<=ord.length):TopO Ae ord:=by
 refine qP7 ND B.nodup (fun x=>⟨B.sub x,fun hx=>?_⟩) B.bef;rcases i7 (x ∈ ord) with q | q
 ·exact q
 ·exfalso
  have nd2:(x::ord).Nodup:=G9.mpr ⟨q,B.nodup⟩;have:=J5 nd2 (fun y hy=>(B5.mp hy).elim (fun e=>e ▸ hx) (B.sub y));simp at this;omega
def WdAt (H:Hp) (t:Addr) (Ae:List (List Int)) (ws:List Int):Prop:=H t=some (.tup (ws.map V.int))/\ws.length=Ae.length
def qJC:Sp:=fun vs H Q _=>∃ (a t lo:Addr) (wk:Int) (Ae:List (List Int)) (ws zs:List Int),vs=[.ref a,.ref t,.int wk,.ref lo]/\NetAt H a Ae/\WFn Ae/\Ae.length<=63/\WdAt H t Ae ws/\H lo=some (.lst (zs.map V.int))/\TopO Ae zs/\zs.length<=63/\
 ∀ l H',Same H H'->H l=none->H' l=some (.lst ((qCB Ae ws zs).map V.int))->Q (.ref l) H'
def qT1:Sp:=fun vs H Q _=>∃ (a t lo:Addr) (Ae:List (List Int)) (ws zs:List Int),vs=[.ref a,.ref t,.ref lo]/\NetAt H a Ae/\WFn Ae/\Ae.length<=63/\WdAt H t Ae ws/\H lo=some (.lst (zs.map V.int))/\TopO Ae zs/\zs.length<=63/\
 ∀ l H',Same H H'->H l=none->H' l=some (.lst ((qCB Ae ws zs).map V.int))->Q (.ref l) H'
section
variable {Ae:List (List Int)} {zs:List Int} {work:Int}
end
def mxi (a b:Int):Int:=if b > a then b else a
def strR (ws:List Int) (R:Int->Int):Int->List Int->Int
 | _,[]=>0
 | h,y::os=>mxi (h+R y) (strR ws R (h+wdO ws y) os)
theorem qXZ {a b c:Int}:mxi a b<=c ↔ a<=c/\b<=c:=by unfold mxi;split <;> omega
theorem qNP {a b:Int}:a<=mxi a b/\b<=mxi a b:=by unfold mxi;split <;> omega
def OrdS (ws:List Int) (R:Int->Int) (a b:Int):Prop:=wdO ws a - R a<wdO ws b - R b\/(wdO ws a - R a=wdO ws b - R b/\a<b)
def St1 (Ae:List (List Int)) (ws:List Int) (R:Int->Int) (O:Int->List Int) (z:Int):Prop:=∃ os:List Int,os.Perm (nd Ae z)/\os.Pairwise (OrdS ws R)/\O z=(os.map O).flatten++[z]/\R z=mxi (strR ws R 0 os) (sumW ws os+wdO ws z)
def StOn (Ae:List (List Int)) (ws zs:List Int) (R:Int->Int) (O:Int->List Int):Prop:=∀ z ∈ zs,St1 Ae ws R O z
theorem qLY {ws:List Int} {R:Int->Int}:∀ {a b:List Int},a.Perm b->a.Pairwise (OrdS ws R)->b.Pairwise (OrdS ws R)->a=b
 | [],b,p,_,_=>(List.nil_perm.mp p).symm
 | x::a,b,p,h1,h2=>by
  cases b with
  | nil=>exact absurd p.length_eq (by simp)
  | cons y b=>
   rw [M6] at h1 h2;have e:x=y:=by
    rcases B5.mp (p.mem_iff.mp A8) with e | m
    ·exact e
    ·rcases B5.mp (p.mem_iff.mpr A8) with e | m2
     ·exact e.symm
     ·have r1:=h2.1 x m;have r2:=h1.1 y m2;unfold OrdS at r1 r2;omega
   subst e;rw [qLY (List.Perm.cons_inv p) h1.2 h2.2]
def runK (Ae:List (List Int)) (ws:List Int):Int->List Int->List Int
 | _,[]=>[]
 | k,o::l=>(k+wdO ws o)::runK Ae ws (k+wdO ws o - sumW ws (nd Ae o)) l
def endK (Ae:List (List Int)) (ws:List Int):Int->List Int->Int
 | k,[]=>k
 | k,o::l=>endK Ae ws (k+wdO ws o - sumW ws (nd Ae o)) l
theorem qLS {Ae:List (List Int)} {ws:List Int}:∀ (a b:List Int) (k:Int),runK Ae ws k (a++b)=runK Ae ws k a++runK Ae ws (endK Ae ws k a) b
 | [],b,k=>rfl
 | o::a,b,k=>by rw [Q7,runK,runK,qLS a b,endK];rfl
theorem qJ0 {Ae:List (List Int)} {ws:List Int}:∀ (a b:List Int) (k:Int),endK Ae ws k (a++b)=endK Ae ws (endK Ae ws k a) b
 | [],b,k=>rfl
 | o::a,b,k=>by rw [Q7,endK,qJ0 a b,endK]
theorem qQR {Ae:List (List Int)} {ws:List Int}:∀ (a:List Int) (k:Int),(runK Ae ws k a).length=a.length
 | [],_=>rfl
 | o::a,k=>by rw [runK,D1,D1,qQR a]
def IsTop (l:List Int) (m:Int):Prop:=m ∈ l/\∀ x ∈ l,x<=m
theorem IsTop.app {a b:List Int} {m n:Int} (h:IsTop a m) (k:IsTop b n):IsTop (a++b) (mxi m n):=by
 constructor
 ·unfold mxi
  split
  ·exact G1 _ k.1
  ·exact Q5 _ h.1
 ·intro x hx;rcases E1.mp hx with q | q
  ·exact Int.le_trans (h.2 x q) qNP.1
  ·exact Int.le_trans (k.2 x q) qNP.2
theorem IsTop.top {l:List Int} {m:Int} (h:IsTop l m):topD none l=some m:=by
 cases l with
 | nil=>cases h.1
 | cons x l=>
  show some (topI x l)=some m;obtain ⟨a,b,c⟩:=qP8 l x;congr 1;have h1:topI x l<=m:=by
   rcases c with e | e
   ·rw [e];exact h.2 x A8
   ·exact h.2 _ (A5 _ e)
  have h2:m<=topI x l:=by
   rcases B5.mp h.1 with e | e
   ·rw [e];exact a
   ·exact b m e
  omega
section
variable {Ae:List (List Int)} {ws zs:List Int} {work:Int} {R:Int->Int} {O:Int->List Int}
theorem qSY {ws:List Int}:∀ {l:List Int},(∀ x ∈ l,1<=wdO ws x)->0<=sumW ws l
 | [],_=>by rw [qEI];exact F4 _
 | x::l,h=>by
  have a:=h x A8;have b:=qSY fun y hy=>h y (A5 _ hy);rw [qB5];omega
def Wd1 (Ae:List (List Int)) (ws:List Int):Prop:=∀ x,0<=x->x<(Ae.length:Int)->1<=wdO ws x
theorem qYP (T:TIn Ae zs work) (S:StOn Ae ws zs R O) (w0:Wd1 Ae ws) {z:Int} (hz:z ∈ zs):1<=R z:=by
 obtain ⟨os,p,s,eO,eR⟩:=S z hz;have zb:=T.N.1.in_ z hz;have a:=w0 z zb.1 zb.2;have b:=qSY (ws:=ws) (l:=os) fun y hy=>by
  have h:=T.has hz (p.mem_iff.mp hy);exact w0 y h.2.2 (by omega)
 rw [eR];have:=(qNP (a:=strR ws R 0 os) (b:=sumW ws os+wdO ws z)).2;omega
theorem qYO (T:TIn Ae zs work) (S:StOn Ae ws zs R O) (w0:Wd1 Ae ws):∀ (n:Nat) (z:Int),z.toNat=n->z ∈ zs->∀ k,endK Ae ws k (O z)=k+wdO ws z/\IsTop (runK Ae ws k (O z)) (k+R z):=by
 intro n
 induction n using d4 with
 | ind n ih=>
  intro z hn hz k;have zb:=T.N.1.in_ z hz;have many:∀ (os:List Int),(∀ y ∈ os,y ∈ zs/\y<z/\0<=y)->∀ (k h:Int),0<=h->endK Ae ws (k+h) ((os.map O).flatten)=k+h+sumW ws os/\(os=[]\/IsTop (runK Ae ws (k+h) ((os.map O).flatten)) (k+strR ws R h os)):=by
   intro os
   induction os with
   | nil=>intro _ k h _;exact ⟨by rw [qEI];show k+h=_;omega,.inl rfl⟩
   | cons y os ihs=>
    intro hy k h h0;have yb:=hy y A8;have wy:=w0 y yb.2.2 (by omega)
    have Ry:=qYP T S w0 yb.1;obtain ⟨e1,t1⟩:=ih y.toNat (by omega) y rfl yb.1 (k+h)
    obtain ⟨e2,t2⟩:=ihs (fun x hx=>hy x (A5 _ hx)) k (h+wdO ws y) (by omega)
    rw [C1,E7,qJ0,qLS,e1,qB5,show k+h+wdO ws y=k+(h+wdO ws y) by omega]
    refine ⟨by rw [e2];omega,.inr ?_⟩
    show IsTop _ (k+mxi (h+R y) (strR ws R (h+wdO ws y) os));rcases t2 with rfl | t2
    ·have e:mxi (h+R y) (strR ws R (h+wdO ws y) [])=h+R y:=by show mxi (h+R y) 0=_;unfold mxi;split <;> omega
     rw [e,show k+(h+R y)=k+h+R y by omega]
     show IsTop (runK Ae ws (k+h) (O y)++[]) _;rw [W3];exact t1
    ·have:=t1.app t2;have e:mxi (k+h+R y) (k+strR ws R (h+wdO ws y) os)=k+mxi (h+R y) (strR ws R (h+wdO ws y) os):=by unfold mxi;split <;> split <;> omega
     rw [e] at this;exact this
  obtain ⟨os,p,s,eO,eR⟩:=S z hz;obtain ⟨e2,t2⟩:=many os (fun y hy=>T.has hz (p.mem_iff.mp hy)) k 0 (F4 _);rw [n8] at e2 t2;rw [eO,eR,qJ0,qLS,e2];have wz:=w0 z zb.1 zb.2;refine ⟨?_,?_⟩
  ·show k+sumW ws os+wdO ws z - sumW ws (nd Ae z)=_;rw [qGO p];omega
  ·have last:IsTop (runK Ae ws (k+sumW ws os) [z]) (k+sumW ws os+wdO ws z):=⟨A4.mpr rfl,fun x hx=>by rw [A4.mp hx];exact F4 _⟩
   rcases t2 with rfl | t2
   ·rw [qEI] at last ⊢;have e:mxi (strR ws R 0 []) (0+wdO ws z)=wdO ws z:=by show mxi 0 _=_;unfold mxi;split <;> omega
    rw [e];rw [n8] at last ⊢;exact last
   ·have:=t2.app last;have e:mxi (k+strR ws R 0 os) (k+sumW ws os+wdO ws z)=k+mxi (strR ws R 0 os) (sumW ws os+wdO ws z):=by unfold mxi;split <;> split <;> omega
    rw [e] at this;exact this
theorem qSZ (T:TIn Ae zs work) (S:StOn Ae ws zs R O):∀ (n:Nat) (z:Int),z.toNat=n->z ∈ zs->(O z).Nodup/\(∀ x,x ∈ O z ↔ Nd Ae [z] x)/\(∀ (p:Nat) (o:Int),(O z)[p]?=some o->∀ x ∈ nd Ae o,x ∈ (O z).take p):=by
 intro n
 induction n using d4 with
 | ind n ih=>
  intro z hn hz;have zb:=T.N.1.in_ z hz;obtain ⟨os,p,s,eO,eR⟩:=S z hz;have has:∀ y ∈ os,y ∈ zs/\y<z/\0<=y:=fun y hy=>T.has hz (p.mem_iff.mp hy);have ndo:os.Nodup:=p.nodup_iff.mpr (T.nodup hz);have get:=T.get hz;have mem:∀ x,x ∈ (os.map O).flatten ↔ ∃ y ∈ os,Nd Ae [y] x:=by
   intro x;rw [F7]
   constructor
   ·rintro ⟨l,hl,hx⟩;obtain ⟨y,hy,rfl⟩:=D6.mp hl;have yb:=has y hy;exact ⟨y,hy,((ih y.toNat (by omega) y rfl yb.1).2.1 x).mp hx⟩
   ·rintro ⟨y,hy,hx⟩;have yb:=has y hy;exact ⟨O y,D6.mpr ⟨y,hy,rfl⟩,((ih y.toNat (by omega) y rfl yb.1).2.1 x).mpr hx⟩
  have flat:∀ (l:List Int),l.Nodup->(∀ y ∈ l,y ∈ os)->((l.map O).flatten).Nodup/\(∀ (q:Nat) (o:Int),((l.map O).flatten)[q]?=some o->∀ x ∈ nd Ae o,x ∈ ((l.map O).flatten).take q):=by
   intro l
   induction l with
   | nil=>exact fun _ _=>⟨A80,fun q o e=>by simp at e⟩
   | cons y l ihl=>
    intro nl hl;have yb:=has y (hl y A8);obtain ⟨n1,m1,b1⟩:=ih y.toNat (by omega) y rfl yb.1
    rw [G9] at nl;obtain ⟨n2,b2⟩:=ihl nl.2 fun x hx=>hl x (A5 _ hx);rw [C1,E7]
    constructor
    ·rw [L9];refine ⟨n1,n2,fun a ha b hb e=>?_⟩;subst e;obtain ⟨lb,hlb,hab⟩:=F7.mp hb;obtain ⟨y2,hy2,rfl⟩:=D6.mp hlb;have yb2:=has y2 (hl y2 (A5 _ hy2));have h1:=(m1 a).mp ha;have h2:=((ih y2.toNat (by omega) y2 rfl yb2.1).2.1 a).mp hab
     have eq:y=y2:=by
      rcases T.chain yb.1 yb2.1 h1 h2 with q | q
      ·exact T.apart hz (p.mem_iff.mp (hl y A8)) (p.mem_iff.mp (hl y2 (A5 _ hy2))) q
      ·exact (T.apart hz (p.mem_iff.mp (hl y2 (A5 _ hy2))) (p.mem_iff.mp (hl y A8)) q).symm
     rw [eq] at nl;exact nl.1 hy2
    ·intro q o e x hx;by_cases c:q<(O y).length
     ·rw [E4 c] at e;rw [O3 (by omega)]
      exact b1 q o e x hx
     ·rw [G7 (by omega)] at e
      have:=b2 _ o e x hx;rw [List.take_append];exact G1 _ this
  obtain ⟨n1,b1⟩:=flat os ndo fun y hy=>hy;have memz:∀ x,x ∈ O z ↔ Nd Ae [z] x:=by
   intro x;rw [eO,E1,mem,A4]
   constructor
   ·rintro (⟨y,hy,h⟩ | h)
    ·exact qU4 (p.mem_iff.mp hy) h ⟨_,get⟩
    ·rw [h];exact .ask (A4.mpr rfl)
   ·intro h;have:x=z\/∃ y ∈ nd Ae z,Nd Ae [y] x:=by
     induction h with
     | ask m=>exact .inl (A4.mp m)
     | @need w y ys hw e hm ihn=>
      rcases ihn with h | ⟨v,hv,hn⟩
      ·subst h;exact .inr ⟨y,by rw [qAF e];exact hm,.ask (A4.mpr rfl)⟩
      ·exact .inr ⟨v,hv,.need hn e hm⟩
    rcases this with h | ⟨y,hy,h⟩
    ·exact .inr h
    ·exact .inl ⟨y,p.mem_iff.mpr hy,h⟩
  refine ⟨?_,memz,fun q o e x hx=>?_⟩
  ·rw [eO,L9];refine ⟨n1,by simp,fun a ha b hb e=>?_⟩
   rw [A4.mp hb] at e;subst e;obtain ⟨y,hy,h⟩:=(mem a).mp ha;have:=qM2 T.wf h;have:=(has y hy).2.1;omega
  ·rw [eO] at e ⊢;by_cases c:q<((os.map O).flatten).length
   ·rw [E4 c] at e;rw [O3 (by omega)]
    exact b1 q o e x hx
   ·rw [G7 (by omega)] at e
    have hq:=(A3.mp e).1;rw [C3] at hq;have hq0:q - ((os.map O).flatten).length=0:=by omega
    rw [hq0] at e;have eo:z=o:=by simpa using e
    subst eo;rw [O3 (by omega),G0 (by omega)]
    exact (mem x).mpr ⟨x,p.mem_iff.mpr hx,.ask (A4.mpr rfl)⟩
theorem qQS:∀ (l:List Int) (k:Int) (p:Nat) (o:Int),l[p]?=some o->(runK Ae ws k l)[p]?=some (endK Ae ws k (l.take p)+wdO ws o)
 | [],_,p,o,h=>by simp at h
 | x::l,k,0,o,h=>by cases h;rfl
 | x::l,k,p+1,o,h=>by
  show (runK Ae ws (k+wdO ws x - sumW ws (nd Ae x)) l)[p]?=_;rw [qQS l _ p o h]
  rfl
theorem qN1 {l:List Int} (wf:WFn Ae) (T:TopO Ae l) (user:∀ {u v x:Int},u ∈ l->v ∈ l->x ∈ nd Ae u->x ∈ nd Ae v->u=v):qCB Ae ws l=runK Ae ws 0 l:=by
 have kp:∀ p,p<l.length->qDO Ae ws l p=endK Ae ws 0 (l.take p):=by
  intro p
  induction p with
  | zero=>intro _;rw [qNV];rfl
  | succ p ih=>
   intro hp;have hlt:p<l.length:=by omega
   have g:=A1 hlt;have ks:=qNW (ws:=ws) wf T g hp;have all:((nd Ae l[p]).filter fun y=>decide (qBB Ae l y=some l[p]))=nd Ae l[p]:=List.filter_eq_self.mpr fun y hy=>decide_eq_true ((qNQ T.nodup g y).mpr ⟨hy,fun ⟨v,hv,hyv⟩=>by
    have e:=user (U9 hlt) (Q6 hv) hy hyv;obtain ⟨j,hj,ej⟩:=U5 hv;rw [p7] at ej;have:=qMA T.nodup (by rw [P3] at hj;omega) hlt (ej.trans e.symm)
    omega⟩)
   rw [ks,all,ih hlt,C2,g,B9,qJ0]
   rfl
 apply g8;intro p;unfold qCB;rw [B7];by_cases hp:p<l.length
 ·have g:=A1 hp;rw [Z6 hp,qQS l 0 p _ g,<- kp p hp];show some (wdO ws ((l[p]?).getD 0)+qDO Ae ws l p)=_;rw [g,U8,A60]
 ·rw [J2 (by rw [Y7];omega),J2 (by rw [qQR];omega)]
  rfl
theorem qDF (T:TIn Ae zs work) {z:Int} (hz:z ∈ zs):∃ yy,qB0 Ae [z] yy/\∀ x ∈ yy,x ∈ zs:=by
 refine ⟨zs.filter fun x=>@decide (Nd Ae [z] x) (d5 _),⟨⟨T.N.1.up.sublist Q9,fun x hx=>T.N.1.in_ x (F9.mp hx).1⟩,fun x=>?_⟩,fun x hx=>(F9.mp hx).1⟩;rw [F9]
 constructor
 ·exact fun h=>@of_decide_eq_true _ (d5 _) h.2
 ·exact fun h=>⟨T.sub hz h,@decide_eq_true _ (d5 _) h⟩
theorem qT0 (T:TIn Ae zs work) (S:StOn Ae ws zs R O) (w0:Wd1 Ae ws) {z:Int} (hz:z ∈ zs):TopO Ae (O z)/\(O z).length<=63/\topD none (qCB Ae ws (O z))=some (R z)/\(∀ x ∈ O z,0<=x/\x<(Ae.length:Int)):=by
 obtain ⟨n1,m1,b1⟩:=qSZ T S _ z rfl hz;obtain ⟨yy,NY,sy⟩:=qDF T hz;have mm:∀ x,x ∈ O z ↔ x ∈ yy:=fun x=>(m1 x).trans (NY.2 x).symm;have TO:=qP7 NY n1 mm b1;have inz:∀ x ∈ O z,x ∈ zs:=fun x hx=>sy x ((mm x).mp hx);refine ⟨TO,?_,?_,fun x hx=>T.N.1.in_ x (inz x hx)⟩
 ·have h:=J5 n1 (fun x hx=>inz x hx:O z ⊆ zs);have:=T.N.1.len;have:=T.len;omega
 ·rw [qN1 T.wf TO (fun hu hv h1 h2=>T.user (inz _ hu) (inz _ hv) h1 h2)];have:=(qYO T S w0 _ z rfl hz 0).2.top;rw [W8] at this;exact this
def ordS (ws:List Int) (R:Int->Int) (l:List Int):List Int:=l.mergeSort fun a b=>decide (wdO ws a - R a<wdO ws b - R b\/(wdO ws a - R a=wdO ws b - R b/\a<=b))
theorem qC0 (ws:List Int) (R:Int->Int) (l:List Int):(ordS ws R l).Perm l:=List.mergeSort_perm _ _
theorem qLX {ws:List Int} {R:Int->Int} {l:List Int} (n:l.Nodup):(ordS ws R l).Pairwise (OrdS ws R):=by
 have h:=List.pairwise_mergeSort (le:=fun a b=>decide (wdO ws a - R a<wdO ws b - R b\/(wdO ws a - R a=wdO ws b - R b/\a<=b))) (fun a b c h1 h2=>by
  rw [decide_eq_true_eq] at h1 h2 ⊢;omega) (fun a b=>by
  rw [Y0,decide_eq_true_eq,decide_eq_true_eq];omega) l
 have n2:(ordS ws R l).Nodup:=(qC0 ws R l).nodup_iff.mpr n;refine (h.and n2).imp fun {a b} z=>?_;have z1:=of_decide_eq_true z.1;have z2:a ≠ b:=z.2;unfold OrdS;omega
def rF (Ae:List (List Int)) (ws:List Int):Nat->Int->Int
 | 0,_=>0
 | n+1,z=>mxi (strR ws (rF Ae ws n) 0 (ordS ws (rF Ae ws n) (nd Ae z))) (sumW ws (nd Ae z)+wdO ws z)
theorem qHH {ws:List Int} {R R':Int->Int}:∀ {os:List Int} (h:Int),(∀ y ∈ os,R y=R' y)->strR ws R h os=strR ws R' h os
 | [],_,_=>rfl
 | y::os,h,e=>by
  show mxi (h+R y) _=mxi (h+R' y) _;rw [e y A8,qHH _ fun x hx=>e x (A5 _ hx)]
theorem qKW {ws:List Int} {R R':Int->Int} {l:List Int} (n:l.Nodup) (e:∀ y ∈ l,R y=R' y):ordS ws R l=ordS ws R' l:=by
 have h2:(ordS ws R' l).Pairwise (OrdS ws R):=(qLX n).imp_of_mem fun {a b} ha hb h=>by
  unfold OrdS at h ⊢;rw [e a ((qC0 ws R' l).mem_iff.mp ha),e b ((qC0 ws R' l).mem_iff.mp hb)];exact h
 exact qLY ((qC0 ws R l).trans (qC0 ws R' l).symm) (qLX n) h2
theorem qaT (T:TIn Ae zs work):∀ (k n m:Nat) (z:Int),z.toNat=k->z ∈ zs->k<n->k<m->rF Ae ws n z=rF Ae ws m z:=by
 intro k
 induction k using d4 with
 | ind k ih=>
  intro n m z hk hz hn hm;obtain ⟨n,rfl⟩:∃ n',n=n'+1:=⟨n - 1,by omega⟩
  obtain ⟨m,rfl⟩:∃ m',m=m'+1:=⟨m - 1,by omega⟩
  have e:∀ y ∈ nd Ae z,rF Ae ws n y=rF Ae ws m y:=fun y hy=>by
   have h:=T.has hz hy;exact ih y.toNat (by omega) n m y rfl h.1 (by omega) (by omega)
  unfold rF;rw [qKW (T.nodup hz) e,qHH _ fun y hy=>e y ((qC0 ws _ _).mem_iff.mp hy)]
def oF (Ae:List (List Int)) (ws:List Int) (R:Int->Int):Nat->Int->List Int
 | 0,_=>[]
 | n+1,z=>((ordS ws R (nd Ae z)).map (oF Ae ws R n)).flatten++[z]
theorem qb5 (T:TIn Ae zs work):∀ (k n m:Nat) (z:Int),z.toNat=k->z ∈ zs->k<n->k<m->oF Ae ws R n z=oF Ae ws R m z:=by
 intro k
 induction k using d4 with
 | ind k ih=>
  intro n m z hk hz hn hm;obtain ⟨n,rfl⟩:∃ n',n=n'+1:=⟨n - 1,by omega⟩
  obtain ⟨m,rfl⟩:∃ m',m=m'+1:=⟨m - 1,by omega⟩
  unfold oF;congr 2;refine P0 fun y hy=>?_;have h:=T.has hz ((qC0 ws R _).mem_iff.mp hy);exact ih y.toNat (by omega) n m y rfl h.1 (by omega) (by omega)
theorem exS (T:TIn Ae zs work) (ws:List Int):∃ R O,StOn Ae ws zs R O:=by
 refine ⟨fun z=>rF Ae ws (z.toNat+1) z,fun z=>oF Ae ws (fun z=>rF Ae ws (z.toNat+1) z) (z.toNat+1) z,fun z hz=>?_⟩;have zb:=T.N.1.in_ z hz;have eR:∀ y ∈ nd Ae z,rF Ae ws z.toNat y=rF Ae ws (y.toNat+1) y:=fun y hy=>by
  have h:=T.has hz hy;exact qaT T y.toNat _ _ y rfl h.1 (by omega) (by omega)
 refine ⟨ordS ws (fun z=>rF Ae ws (z.toNat+1) z) (nd Ae z),qC0 _ _ _,qLX (T.nodup hz),?_,?_⟩
 ·show ((ordS ws (fun z=>rF Ae ws (z.toNat+1) z) (nd Ae z)).map (oF Ae ws _ z.toNat)).flatten++[z]=_;congr 2;refine P0 fun y hy=>?_;have h:=T.has hz ((qC0 ws _ _).mem_iff.mp hy);exact qb5 T y.toNat _ _ y rfl h.1 (by omega) (by omega)
 ·show mxi (strR ws (rF Ae ws z.toNat) 0 (ordS ws (rF Ae ws z.toNat) (nd Ae z))) (sumW ws (nd Ae z)+wdO ws z)=_;rw [qKW (T.nodup hz) eR,qHH 0 fun y hy=>eR y ((qC0 ws _ _).mem_iff.mp hy),qGO (qC0 ws _ (nd Ae z))]
theorem St1.by {z:Int} {os:List Int} (h:St1 Ae ws R O z) (p:os.Perm (nd Ae z)) (s:os.Pairwise (OrdS ws R)):O z=(os.map O).flatten++[z]/\R z=mxi (strR ws R 0 os) (sumW ws os+wdO ws z):=by
 obtain ⟨o,p2,s2,e1,e2⟩:=h;have:=qLY (p2.trans p.symm) s2 s;subst this;exact ⟨e1,e2⟩
end
def qQJ:Sp:=fun vs H Q _=>∃ d c t ns m,vs=[.ref d,.int m]/\StAt H d c t ns/\t<=TB - 1000/\1<=m/\m<=100/\
 ∀ (r:Addr) (ws:List Int) (t':Int) (ns':List Int) (H':Hp),StAt H' d c t' ns'->t<=t'->t'<=t+300->Keep d c H H'->H' r=some (.tup (ws.map V.int))->(ws.length:Int)=m->(∀ u ∈ ws,1<=u)->Q (.ref r) H'
def TabS (H:Hp) (Pt:Addr):Prop:=H Pt=some (.tbl (.tab "stretched.<locals>.<lambda>"))
def qJE:Sp:=fun vs H Q _=>∃ (a:Addr) (Ae:List (List Int)) (work:Int),vs=[.ref a,.int work]/\NIn H a Ae work/\isT Ae work/\∀ H',Same H H'->Q .non H'
def qQF (H:Hp) (a t:Addr) (Ae:List (List Int)) (ws:List Int) (work:Int):Prop:=NIn H a Ae work/\WdAt H t Ae ws/\Wd1 Ae ws/\isT Ae work
def qJD (Pt:Addr):Sp:=fun vs H Q _=>∃ (a t:Addr) (Ae:List (List Int)) (ws:List Int) (work:Int),vs=[.ref a,.ref t,.int work]/\TabS H Pt/\qQF H a t Ae ws work/\
 ∀ (T l:Addr) (zs:List Int) (R:Int->Int) (O:Int->List Int) (H':Hp),Same H H'->H l=none->qB0 Ae [work] zs->StOn Ae ws zs R O->H' T=some (.tup [.int (R work),.ref l])->H' l=some (.lst ((O work).map V.int))->Q (.ref T) H'
def keyS (ws:List Int) (R:Int->Int) (y:Int):List Int:=[wdO ws y - R y,y]
theorem qcA {ws:List Int} {R:Int->Int} {ys:List Int} {rs:List (List Int × V)} (n:ys.Nodup) (p:rs.Perm ((ys.map (keyS ws R)).zip (ys.map V.int))) (s:rs.Pairwise (fun a b=>HT.lexLt b.1 a.1=false)):∃ os:List Int,os.Perm ys/\os.Pairwise (OrdS ws R)/\rs.map (·.2)=os.map V.int:=by
 have ez:(ys.map (keyS ws R)).zip (ys.map V.int)=ys.map fun y=>(keyS ws R y,V.int y):=by
  clear n p
  induction ys with
  | nil=>rfl
  | cons y ys ih=>rw [C1,C1,G3,ih,C1]
 obtain ⟨os,p2,e⟩:=L2.G.perm_map_inv p ys ez;refine ⟨os,p2,?_,by rw [e,R7];rfl⟩
 rw [e,F3] at s;have n2:os.Nodup:=p2.nodup_iff.mpr n;refine (s.and n2).imp fun {a b} z=>?_;have z2:a ≠ b:=z.2;have z1:¬ (wdO ws b - R b<wdO ws a - R a\/(wdO ws b - R b=wdO ws a - R a/\b<a)):=fun q=>by
  have:=(lexT _ _ _ _).mpr q;have z1:HT.lexLt [wdO ws b - R b,b] [wdO ws a - R a,a]=false:=z.1;rw [z1] at this;cases this
 unfold OrdS;omega
abbrev Stp:=Int × Int
def gns:List Stp->Int
 | []=>0
 | a::l=>a.2+gns l
theorem qFE:∀ (a b:List Stp),gns (a++b)=gns a+gns b
 | [],b=>by show gns b=0+gns b;omega
 | x::a,b=>by
  show x.2+gns (a++b)=x.2+gns a+gns b;rw [qFE a b];omega
def Belo (m:Int):Int->List Stp->Prop
 | _,[]=>True
 | d,a::l=>d+a.1<=m/\Belo m (d+a.2) l
theorem Belo.up {m n e:Int}:∀ {l:List Stp} {d:Int},Belo m d l->m+e<=n->Belo n (d+e) l
 | [],_,_,_=>trivial
 | a::l,d,h,k=>by
  refine ⟨by have:=h.1;omega,?_⟩
  have:=h.2.up (e:=e) k;rw [show d+e+a.2=d+a.2+e by omega]
  exact this
theorem Belo.app {m:Int}:∀ {a b:List Stp} {d:Int},Belo m d (a++b) ↔ Belo m d a/\Belo m (d+gns a) b
 | [],b,d=>by
  show Belo m d b ↔ True/\Belo m (d+0) b;rw [n8];simp
 | x::a,b,d=>by
  show (d+x.1<=m/\Belo m (d+x.2) (a++b)) ↔ (d+x.1<=m/\Belo m (d+x.2) a)/\Belo m (d+(x.2+gns a)) b;rw [Belo.app,show d+(x.2+gns a)=d+x.2+gns a by omega,and_assoc]
inductive Dm:Int->List Stp->List Stp->Prop
 | nil {d:Int}:d<=0->Dm d [] []
 | step {d:Int} {a:Stp} {t s1 s:List Stp}:d<=0->Belo a.1 d s1->Dm (d+gns s1 - a.2) s t->Dm d (s1++s) (a::t)
theorem Dm.le {d:Int} {s t:List Stp} (h:Dm d s t):d<=0:=by cases h <;> assumption
theorem Dm.to {d e:Int} {s t:List Stp} (h:Dm d s t) (k:d=e):Dm e s t:=k ▸ h
theorem Dm.end_ {d:Int} {s t:List Stp} (h:Dm d s t):d+gns s - gns t<=0:=by
 induction h with
 | nil h=>show _+0 - 0<=0;omega
 | @step d a t s1 s _ _ _ ih=>
  rw [qFE];show _ - (a.2+gns t)<=0;omega
theorem Dm.low {d:Int} {s t:List Stp} (h:Dm d s t):∀ {m k:Int},Belo m k t->Belo m (k+d) s:=by
 induction h with
 | nil _=>intros;trivial
 | @step d a t s1 s _ b _ ih=>
  intro m k ht;refine Belo.app.mpr ⟨?_,?_⟩
  ·have:=b.up (n:=m) (e:=k) (by have:=ht.1;omega)
   rwa [A60] at this
  ·have:=ih ht.2
   rwa [show k+a.2+(d+gns s1 - a.2)=k+d+gns s1 by omega] at this
theorem Dm.refl {d:Int} (h:d<=0):∀ s:List Stp,Dm d s s
 | []=>.nil h
 | a::s=>Dm.step (s1:=[a]) h ⟨by omega,trivial⟩ ((Dm.refl h s).to (by show d=d+(a.2+0) - a.2;omega))
theorem Dm.app {d:Int} {s t s' t':List Stp} (h:Dm d s t):Dm (d+gns s - gns t) s' t'->Dm d (s++s') (t++t'):=by
 induction h with
 | nil h=>intro k;exact k.to (by show _+0 - 0=_;omega)
 | @step d a t s1 s hd b _ ih=>
  intro k;rw [O4];refine Dm.step hd b (ih (k.to ?_));rw [qFE];show d+(gns s1+gns s) - (a.2+gns t)=d+gns s1 - a.2+gns s - gns t;omega
theorem Dm.nil_right {d:Int} {s:List Stp} (h:Dm d s []):s=[]:=by cases h;rfl
theorem Dm.split:∀ {t:List Stp} {d:Int} {s t':List Stp},Dm d s (t++t')->∃ s1 s',s=s1++s'/\Dm d s1 t/\Dm (d+gns s1 - gns t) s' t'
 | [],d,s,t',h=>⟨[],s,rfl,.nil h.le,h.to (by show d=d+0 - 0;omega)⟩
 | a::t,d,s,t',h=>by
  cases h with
  | @step _ _ _ s0 s2 hd b k=>
   obtain ⟨s1,s',e,k1,k2⟩:=Dm.split k;subst e;refine ⟨s0++s1,s',by rw [O4],.step hd b k1,k2.to ?_⟩
   rw [qFE];show _=d+(gns s0+gns s1) - (a.2+gns t);omega
theorem Dm.trans {d e:Int} {s t u:List Stp} (h:Dm d s t) (k:Dm e t u):Dm (d+e) s u:=by
 induction k generalizing d s with
 | nil he=>
  rw [h.nil_right];exact .nil (by have:=h.le;omega)
 | @step e a u t1 t he b _ ih=>
  obtain ⟨s1,s',rfl,k1,k2⟩:=h.split;refine .step (by have:=h.le;omega) ?_ ((ih k2).to (by omega))
  have:=k1.low b
  rwa [A60] at this
theorem Dm.tr {s t u:List Stp} (h:Dm 0 s t) (k:Dm 0 t u):Dm 0 s u:=h.trans k
inductive Shu:List Stp->List Stp->List Stp->Prop
 | nil:Shu [] [] []
 | left {a:Stp} {s u v:List Stp}:Shu s u v->Shu (a::s) u (a::v)
 | right {a:Stp} {s u v:List Stp}:Shu s u v->Shu s (a::u) (a::v)
theorem Shu.symm {s u v:List Stp} (h:Shu s u v):Shu u s v:=by
 induction h with
 | nil=>exact .nil
 | left _ ih=>exact .right ih
 | right _ ih=>exact .left ih
theorem Shu.front {s u v:List Stp} (h:Shu s u v):∀ s1:List Stp,Shu (s1++s) u (s1++v)
 | []=>h
 | a::s1=>.left (h.front s1)
theorem Shu.perm {s u v:List Stp} (h:Shu s u v):v.Perm (s++u):=by
 induction h with
 | nil=>exact .refl _
 | left _ ih=>exact ih.cons _
 | right _ ih=>exact (ih.cons _).trans A01.symm
theorem Shu.repl {t u v:List Stp} (h:Shu t u v):∀ {d:Int} {s:List Stp},Dm d s t->∃ v',Shu s u v'/\Dm d v' v:=by
 induction h with
 | nil=>
  intro d s k;have hd:=k.le;rw [k.nil_right];exact ⟨[],.nil,.nil hd⟩
 | @left a t u v _ ih=>
  intro d s k;cases k with
  | @step _ _ _ s1 s' hd b k=>
   obtain ⟨v',h1,h2⟩:=ih k;exact ⟨s1++v',h1.front s1,.step hd b h2⟩
 | @right a t u v _ ih=>
  intro d s k;obtain ⟨v',h1,h2⟩:=ih k;exact ⟨a::v',.right h1,Dm.step (s1:=[a]) k.le ⟨by have:=k.le;omega,trivial⟩ (h2.to (by show d=d+(a.2+0) - a.2;omega))⟩
def ShM:List (List Stp)->List Stp->Prop
 | [],v=>v=[]
 | t::ts,v=>∃ u,ShM ts u/\Shu t u v
theorem ShM.perm:∀ {ts:List (List Stp)} {v:List Stp},ShM ts v->v.Perm ts.flatten
 | [],v,h=>by rw [show v=[] from h];exact .refl _
 | t::ts,v,⟨u,h1,h2⟩=>by
  rw [E7];exact h2.perm.trans (h1.perm.append_left t)
theorem ShM.repl:∀ {ts ss:List (List Stp)} {v:List Stp},Paired (fun s t=>Dm 0 s t) ss ts->ShM ts v->∃ v',ShM ss v'/\Dm 0 v' v
 | _,_,v,.nil,h=>⟨v,h,.refl (F4 _) v⟩
 | _,_,v,.cons k p,⟨u,h1,h2⟩=>by
  obtain ⟨u',a1,a2⟩:=ShM.repl p h1;obtain ⟨v1,b1,b2⟩:=h2.symm.repl a2;obtain ⟨v2,c1,c2⟩:=b1.symm.repl k;exact ⟨v2,⟨u',a1,c1⟩,c2.tr b2⟩
def kyS (a:Stp):Int:=a.2 - a.1
theorem qZU {x y:Stp} {r:List Stp} (g:0<=x.2) (k:kyS y<=kyS x):Dm 0 (y::x::r) (x::y::r):=by
 unfold kyS at k;refine Dm.step (s1:=[]) (F4 _) trivial ?_;refine Dm.step (s1:=[y,x]) ?_ ⟨?_,?_,trivial⟩ ((Dm.refl (F4 0) r).to ?_)
 ·show 0+0 - x.2<=0;omega
 ·show 0+0 - x.2+y.1<=y.1;omega
 ·show 0+0 - x.2+y.2+x.1<=y.1;omega
 ·show 0=0+0 - x.2+(y.2+(x.2+0)) - y.2;omega
theorem qV8 {x:Stp} {s t:List Stp} (h:Dm 0 s t):Dm 0 (x::s) (x::t):=
 Dm.step (s1:=[x]) (F4 _) ⟨by omega,trivial⟩ (h.to (by show 0=0+(x.2+0) - x.2;omega))
theorem qRH {y:Stp} {b:List Stp}:∀ (a:List Stp),(∀ x ∈ a,0<=x.2/\kyS y<=kyS x)->Dm 0 (y::(a++b)) (a++y::b)
 | [],_=>.refl (F4 _) _
 | x::a,h=>by
  have hx:=h x A8;exact (qZU hx.1 hx.2).tr (qV8 (qRH a fun z hz=>h z (A5 _ hz)))
theorem qOE:∀ (os t:List Stp),os.Pairwise (fun a b=>kyS a<=kyS b)->t.Perm os->(∀ x ∈ os,0<=x.2)->Dm 0 os t
 | [],t,_,p,_=>by rw [List.perm_nil.mp p];exact .nil (F4 _)
 | y::os,t,s,p,g=>by
  obtain ⟨a,b,rfl⟩:=A45 (p.mem_iff.mpr A8);have pb:(a++b).Perm os:=(A01.symm.trans p).cons_inv;rw [M6] at s;refine (qV8 (qOE os (a++b) s.2 pb fun x hx=>g x (A5 _ hx))).tr (qRH a fun x hx=>?_);have mx:x ∈ os:=pb.mem_iff.mp (Q5 _ hx);exact ⟨g x (A5 _ mx),s.1 x mx⟩
def Eqv (s t:List Stp):Prop:=Dm 0 s t/\Dm 0 t s
theorem Eqv.rfl' (s:List Stp):Eqv s s:=⟨.refl (F4 _) s,.refl (F4 _) s⟩
theorem Eqv.tr {s t u:List Stp} (h:Eqv s t) (k:Eqv t u):Eqv s u:=⟨h.1.tr k.1,k.2.tr h.2⟩
theorem Eqv.gns {s t:List Stp} (h:Eqv s t):gns s=gns t:=by
 have a:=h.1.end_;have b:=h.2.end_;omega
theorem Eqv.app {s t s' t':List Stp} (h:Eqv s t) (k:Eqv s' t'):Eqv (s++s') (t++t'):=
 ⟨h.1.app (k.1.to (by have:=h.gns;omega)),h.2.app (k.2.to (by have:=h.gns;omega))⟩
def qUJ (a b:Stp):Stp:=(mxi a.1 (a.2+b.1),a.2+b.2)
theorem qIZ {a b:Stp} (g:0<=a.2) (h:b.2<=0\/a.1<=a.2+b.1):Eqv [qUJ a b] [a,b]:=by
 constructor
 ·by_cases c:a.1<=a.2+b.1
  ·refine Dm.step (s1:=[]) (F4 _) trivial (Dm.step (s1:=[qUJ a b]) ?_ ⟨?_,trivial⟩ (Dm.nil ?_))
   ·show 0+0 - a.2<=0;omega
   ·show 0+0 - a.2+mxi a.1 (a.2+b.1)<=b.1;have:=qXZ (a:=a.1) (b:=a.2+b.1) (c:=a.2+b.1);have:=this.mpr ⟨c,F4 _⟩;omega
   ·show 0+0 - a.2+(a.2+b.2+0) - b.2<=0;omega
  ·have h':b.2<=0:=by omega
   refine Dm.step (s1:=[qUJ a b]) (F4 _) ⟨?_,trivial⟩ (Dm.step (s1:=[]) ?_ trivial (Dm.nil ?_))
   ·show 0+mxi a.1 (a.2+b.1)<=a.1;have:=(qXZ (a:=a.1) (b:=a.2+b.1) (c:=a.1)).mpr ⟨F4 _,by omega⟩
    omega
   ·show 0+(a.2+b.2+0) - a.2<=0;omega
   ·show 0+(a.2+b.2+0) - a.2+0 - b.2<=0;omega
 ·refine Dm.step (s1:=[a,b]) (F4 _) ⟨?_,?_,trivial⟩ (Dm.nil ?_)
  ·show 0+a.1<=mxi a.1 (a.2+b.1);have:=(qNP (a:=a.1) (b:=a.2+b.1)).1;omega
  ·show 0+a.2+b.1<=mxi a.1 (a.2+b.1);have:=(qNP (a:=a.1) (b:=a.2+b.1)).2;omega
  ·show 0+(a.2+(b.2+0)) - (a.2+b.2)<=0;omega
structure Prt where
 r:Int
 g:Int
 wks:List Int
def Prt.s (p:Prt):Stp:=(p.r,p.g)
def qAB (ps:List Prt):List Int:=(ps.map Prt.wks).flatten
theorem qB4 (a b:List Prt):qAB (a++b)=qAB a++qAB b:=by unfold qAB;rw [A9,Q2]
theorem qBP (p:Prt):qAB [p]=p.wks:=by unfold qAB;simp
def qCE (a b:Prt):Prt:=⟨mxi a.r (a.g+b.r),a.g+b.g,a.wks++b.wks⟩
def qD3:List Prt->Prt->List Prt
 | [],p=>[p]
 | a::st,p=>if p.g<=0\/a.r<=a.g+p.r then qD3 st (qCE a p) else p::a::st
structure PileOk (st:List Prt):Prop where
 pos:∀ a ∈ st,0<a.g
 fall:st.Pairwise fun b a=>kyS a.s<kyS b.s
theorem PileOk.nil:PileOk []:=⟨(fun _ h=>nomatch h),.nil⟩
theorem qIS:∀ (st:List Prt) (p:Prt),PileOk st->0<p.g+gns (st.map Prt.s)->
  PileOk (qD3 st p)/\Eqv ((qD3 st p).reverse.map Prt.s) ((st.reverse++[p]).map Prt.s)/\qAB (qD3 st p).reverse=qAB (st.reverse++[p])
 | [],p,_,h=>by
  have h':0<p.g+0:=h;exact ⟨⟨fun a ha=>by rw [A4.mp ha];omega,T8 _ _⟩,.rfl' _,rfl⟩
 | a::st,p,ok,h=>by
  have h':0<p.g+(a.g+gns (st.map Prt.s)):=h;have pa:=ok.pos a A8;have fl:=M6.mp ok.fall;have ok':PileOk st:=⟨fun x hx=>ok.pos x (A5 _ hx),fl.2⟩;unfold qD3
  split
  ·rename_i c
   obtain ⟨k1,k2,k3⟩:=qIS st (qCE a p) ok' (by show 0<a.g+p.g+gns (st.map Prt.s);omega)
   refine ⟨k1,k2.tr ?_,k3.trans ?_⟩
   ·rw [J9,O4,A9,A9];refine (Eqv.rfl' _).app ?_;exact qIZ (a:=a.s) (b:=p.s) (by show 0<=a.g;omega) c
   ·rw [J9,O4,qB4,qB4,qBP];show _++(a.wks++p.wks)=_++qAB ([a]++[p]);rw [qB4,qBP,qBP]
  ·rename_i c
   have c1:0<p.g:=by omega
   have c2:a.g+p.r<a.r:=by omega
   refine ⟨⟨fun x hx=>?_,M6.mpr ⟨fun x hx=>?_,ok.fall⟩⟩,?_,?_⟩
   ·rcases B5.mp hx with e | e
    ·rw [e];exact c1
    ·exact ok.pos x e
   ·have ka:kyS a.s<kyS p.s:=by show a.g - a.r<p.g - p.r;omega
    rcases B5.mp hx with e | e
    ·rw [e];exact ka
    ·have:=fl.1 x e;omega
   ·rw [J9];exact .rfl' _
   ·rw [J9]
def jrun (st ps:List Prt):List Prt:=ps.foldl qD3 st
theorem qQ0:∀ {st:List Prt},(∀ a ∈ st,0<a.g)->0<=gns (st.map Prt.s)
 | [],_=>F4 _
 | a::st,h=>by
  have h1:=h a A8;have h2:=qQ0 fun x hx=>h x (A5 _ hx);show 0<=a.g+gns (st.map Prt.s);omega
theorem qIT {a b:List Stp} (h:a.Perm b):gns a=gns b:=by
 induction h with
 | nil=>rfl
 | cons x _ ih=>show x.2+_=x.2+_;rw [ih]
 | swap x y l=>show y.2+(x.2+gns l)=x.2+(y.2+gns l);omega
 | trans _ _ h1 h2=>exact h1.trans h2
theorem qPW:∀ (ps st:List Prt),PileOk st->(∀ p ∈ ps,0<p.g)->PileOk (jrun st ps)/\Eqv ((jrun st ps).reverse.map Prt.s) ((st.reverse++ps).map Prt.s)/\qAB (jrun st ps).reverse=qAB (st.reverse++ps)
 | [],st,ok,_=>by
  show PileOk st/\Eqv (st.reverse.map Prt.s) _/\qAB st.reverse=_;rw [W3];exact ⟨ok,.rfl' _,rfl⟩
 | p::ps,st,ok,h=>by
  have g1:=qQ0 ok.pos;have g2:=h p A8;obtain ⟨k1,k2,k3⟩:=qIS st p ok (by omega)
  obtain ⟨m1,m2,m3⟩:=qPW ps (qD3 st p) k1 fun x hx=>h x (A5 _ hx);have e:st.reverse++p::ps=(st.reverse++[p])++ps:=by rw [O4];rfl
  refine ⟨m1,m2.tr ?_,m3.trans ?_⟩
  ·rw [e,A9,A9];exact k2.app (.rfl' _)
  ·rw [e,qB4,qB4,k3]
theorem qJX (ps st:List Prt) (p:Prt):jrun st (ps++[p])=qD3 (jrun st ps) p:=by unfold jrun;rw [A55];rfl
theorem qNZ {ps:List Prt} {p:Prt} (h:∀ x ∈ ps,0<x.g) (t:0<p.g+gns (ps.map Prt.s)) :
  (∀ x ∈ (jrun [] (ps++[p])).reverse,0<x.g)/\(jrun [] (ps++[p])).reverse.Pairwise (fun a b=>kyS a.s<kyS b.s)/\Eqv ((jrun [] (ps++[p])).reverse.map Prt.s) ((ps++[p]).map Prt.s)/\qAB (jrun [] (ps++[p])).reverse=qAB (ps++[p]):=by
 obtain ⟨k1,k2,k3⟩:=qPW ps [] .nil h;have k2':Eqv ((jrun [] ps).reverse.map Prt.s) (ps.map Prt.s):=k2;have k3':qAB (jrun [] ps).reverse=qAB ps:=k3;have g:gns ((jrun [] ps).map Prt.s)=gns (ps.map Prt.s):=by
  rw [<- k2'.gns];exact qIT ((t7 _).symm.map _)
 obtain ⟨m1,m2,m3⟩:=qIS (jrun [] ps) p k1 (by omega)
 rw [qJX];refine ⟨fun x hx=>m1.pos x (A64.mp hx),A13.mpr m1.fall,m2.tr ?_,m3.trans ?_⟩
 ·rw [A9,A9];exact k2'.app (.rfl' _)
 ·rw [qB4,qB4,k3']
theorem qJW {G:Prt->Prop} (hG:∀ a b,G a->G b->0<=a.g->(b.g<=0\/a.r<=a.g+b.r)->G (qCE a b)):∀ (st:List Prt) (p:Prt),(∀ a ∈ st,0<a.g)->(∀ a ∈ st,G a)->G p->∀ a ∈ qD3 st p,G a
 | [],p,_,_,h=>fun a ha=>by rw [A4.mp ha];exact h
 | b::st,p,ok,g,h=>by
  have pb:=ok b A8;unfold qD3
  split
  ·rename_i c
   exact qJW hG st _ (fun x hx=>ok x (A5 _ hx)) (fun x hx=>g x (A5 _ hx)) (hG b p (g b A8) h (by omega) c)
  ·intro a ha;rcases B5.mp ha with e | e
   ·rw [e];exact h
   ·exact g a e
theorem qR7 {G:Prt->Prop} (hG:∀ a b,G a->G b->0<=a.g->(b.g<=0\/a.r<=a.g+b.r)->G (qCE a b)):∀ (ps st:List Prt),PileOk st->(∀ p ∈ ps,0<p.g)->(∀ a ∈ st,G a)->(∀ p ∈ ps,G p)->∀ a ∈ jrun st ps,G a
 | [],st,_,_,g,_=>g
 | p::ps,st,ok,h,g,k=>by
  have g1:=qQ0 ok.pos;have g2:=h p A8;obtain ⟨k1,_,_⟩:=qIS st p ok (by omega)
  exact qR7 hG ps (qD3 st p) k1 (fun x hx=>h x (A5 _ hx)) (qJW hG st p ok.pos g (k p A8)) (fun x hx=>k x (A5 _ hx))
theorem qS9 {G:Prt->Prop} (hG:∀ a b,G a->G b->0<=a.g->(b.g<=0\/a.r<=a.g+b.r)->G (qCE a b)) {ps:List Prt} {p:Prt} (h:∀ x ∈ ps,0<x.g) (g:∀ x ∈ ps,G x) (gp:G p):∀ x ∈ (jrun [] (ps++[p])).reverse,G x:=by
 intro x hx;rw [A64,qJX] at hx;obtain ⟨k1,_,_⟩:=qPW ps [] .nil h;exact qJW hG _ _ k1.pos (qR7 hG ps [] .nil h (fun _ z=>nomatch z) g) gp x hx
theorem qQX {α:Type} {R:α->α->Prop}:∀ {l:List α} {a b:α},l.Pairwise R->a ∈ l->b ∈ l->a ≠ b->R a b\/R b a
 | [],_,_,_,h,_,_=>nomatch h
 | x::l,a,b,h,ha,hb,n=>by
  rw [M6] at h;rcases B5.mp ha with e | e
  ·rcases B5.mp hb with f | f
   ·exact absurd (e.trans f.symm) n
   ·rw [e];exact .inl (h.1 b f)
  ·rcases B5.mp hb with f | f
   ·rw [f];exact .inr (h.1 a e)
   ·exact qQX h.2 e f n
section
variable {Ae:List (List Int)} {ws zs:List Int} {work:Int}
def stp (Ae:List (List Int)) (ws:List Int) (x:Int):Stp:=(wdO ws x,wdO ws x - sumW ws (nd Ae x))
def stps (Ae:List (List Int)) (ws:List Int) (l:List Int):List Stp:=l.map (stp Ae ws)
theorem qFX (a b:List Int):stps Ae ws (a++b)=stps Ae ws a++stps Ae ws b:=by unfold stps;rw [A9]
structure OrdT (Ae:List (List Int)) (z:Int) (l:List Int):Prop where
 nodup:l.Nodup
 mem:∀ x,x ∈ l ↔ Nd Ae [z] x
 top:l.Pairwise fun a b=>b ∉ nd Ae a
theorem qHN (T:TIn Ae zs work) {z a b x:Int} (hz:z ∈ zs) (ha:a ∈ nd Ae z) (hb:b ∈ nd Ae z) (h1:Nd Ae [a] x) (h2:Nd Ae [b] x):a=b:=by
 have A:=T.has hz ha;have B:=T.has hz hb;rcases T.chain A.1 B.1 h1 h2 with q | q
 ·exact T.apart hz ha hb q
 ·exact (T.apart hz hb ha q).symm
theorem qWP {z x:Int} (h:Nd Ae [z] x):x=z\/∃ y ∈ nd Ae z,Nd Ae [y] x:=by
 induction h with
 | ask m=>exact .inl (A4.mp m)
 | @need w y ys hw e hm ihn=>
  rcases ihn with h | ⟨v,hv,hn⟩
  ·subst h;exact .inr ⟨y,by rw [qAF e];exact hm,.ask (A4.mpr rfl)⟩
  ·exact .inr ⟨v,hv,.need hn e hm⟩
theorem qPT (T:TIn Ae zs work) {z x:Int} (hz:z ∈ zs):(∃ y ∈ nd Ae z,Nd Ae [y] x) ↔ Nd Ae [z] x/\x ≠ z:=by
 constructor
 ·rintro ⟨y,hy,h⟩;refine ⟨qU4 hy h ⟨_,T.get hz⟩,?_⟩;have:=qM2 T.wf h;have:=(T.has hz hy).2.1;omega
 ·rintro ⟨h,n⟩;exact (qWP h).resolve_left n
theorem OrdT.last (T:TIn Ae zs work) {z:Int} (hz:z ∈ zs) {l:List Int} (h:OrdT Ae z l):∃ l',l=l'++[z]/\l'.Nodup/\(∀ x,x ∈ l' ↔ ∃ y ∈ nd Ae z,Nd Ae [y] x)/\l'.Pairwise (fun a b=>b ∉ nd Ae a):=by
 obtain ⟨a,b,e⟩:=A45 ((h.mem z).mpr (.ask (A4.mpr rfl)));have hb:b=[]:=by
  rcases List.eq_nil_or_concat b with q | ⟨b',o,q⟩
  ·exact q
  ·exfalso
   subst q;have e2:l=(a++z::b')++[o]:=by rw [e];simp
   have nd1:=h.nodup;rw [e2,L9] at nd1;have tp:=h.top;rw [e2,R9] at tp;have oz:o ≠ z:=fun q=>nd1.2.2 z (by simp) o (by simp) q.symm
   have ho:Nd Ae [z] o:=(h.mem o).mp (by rw [e2];simp)
   cases ho with
   | ask m=>exact oz (A4.mp m)
   | @need u _ ys hu g hm=>
    have hu2:=(h.mem u).mpr hu;rw [e2,E1] at hu2;rcases hu2 with q | q
    ·exact tp.2.2 u q o (by simp) (by rw [qAF g];exact hm)
    ·rw [A4.mp q] at g;have:=((T.wf _ _ g).in_ o hm);omega
 subst hb;refine ⟨a,e,?_,fun x=>?_,?_⟩
 ·have:=h.nodup;rw [e,L9] at this;exact this.1
 ·rw [qPT T hz,<- h.mem x,e,E1,A4];have:=h.nodup;rw [e,L9] at this
  constructor
  ·exact fun hx=>⟨.inl hx,fun q=>this.2.2 x hx z (by simp) q⟩
  ·rintro ⟨q | q,n⟩
   ·exact q
   ·exact absurd q n
 ·have:=h.top;rw [e,R9] at this;exact this.1
theorem qFY (p:Int->Bool) (f:Int->Stp):∀ u:List Int,Shu ((u.filter p).map f) ((u.filter fun x=>!p x).map f) (u.map f)
 | []=>.nil
 | x::u=>by
  by_cases c:p x=true
  ·rw [y4 c,y7 (by rw [c];decide)]
   exact .left (qFY p f u)
  ·rw [y7 c,y4 (by rw [A63] at c;rw [c];decide)]
   exact .right (qFY p f u)
theorem qQP (T:TIn Ae zs work) {z:Int} (hz:z ∈ zs):∀ (cs:List Int),cs.Nodup->(∀ y ∈ cs,y ∈ nd Ae z)->∀ u:List Int,u.Nodup->(∀ x,x ∈ u ↔ ∃ y ∈ cs,Nd Ae [y] x)->u.Pairwise (fun a b=>b ∉ nd Ae a)->
  ∃ ts:List (List Int),Paired (fun t y=>OrdT Ae y t) ts cs/\ShM (ts.map (stps Ae ws)) (stps Ae ws u)
 | [],_,_,u,_,m,_=>by
  have:u=[]:=List.eq_nil_iff_forall_not_mem.mpr fun x hx=>by
   obtain ⟨y,hy,_⟩:=(m x).mp hx;cases hy
  subst this;exact ⟨[],.nil,rfl⟩
 | y::cs,nc,hc,u,nu,m,tp=>by
  classical
  rw [G9] at nc;have hy:=hc y A8;obtain ⟨ts,p1,s1⟩:=qQP T hz cs nc.2 (fun x hx=>hc x (A5 _ hx)) (u.filter fun x=>!decide (Nd Ae [y] x)) (nu.filter _) (fun x=>by
   rw [F9,m x]
   constructor
   ·rintro ⟨⟨y',hy',h⟩,n⟩;rcases B5.mp hy' with q | q
    ·subst q;simp [h] at n
    ·exact ⟨y',q,h⟩
   ·rintro ⟨y',hy',h⟩;refine ⟨⟨y',A5 _ hy',h⟩,?_⟩;have:¬ Nd Ae [y] x:=fun h2=>nc.1 (qHN T hz hy (hc y' (A5 _ hy')) h2 h ▸ hy');simp [this]) (tp.sublist Q9)
  refine ⟨(u.filter fun x=>decide (Nd Ae [y] x))::ts,.cons ⟨nu.filter _,fun x=>?_,tp.sublist Q9⟩ p1,_,s1,qFY _ _ u⟩;rw [F9,m x,decide_eq_true_eq];exact ⟨fun h=>h.2,fun h=>⟨⟨y,A8,h⟩,h⟩⟩
structure PrtOk (Ae:List (List Int)) (ws:List Int) (z:Int) (ps:List Prt):Prop where
 eqv:∀ p ∈ ps,Eqv [p.s] (stps Ae ws p.wks)
 pos:∀ p ∈ ps,0<p.g
 fall:ps.Pairwise fun a b=>kyS a.s<kyS b.s
 sum:gns (ps.map Prt.s)=wdO ws z
 ord:OrdT Ae z (qAB ps)
 best:∀ l,OrdT Ae z l->Dm 0 (stps Ae ws (qAB ps)) (stps Ae ws l)
theorem qME:∀ {ps:List Prt},(∀ p ∈ ps,Eqv [p.s] (stps Ae ws p.wks))->Eqv (ps.map Prt.s) (stps Ae ws (qAB ps))
 | [],_=>.rfl' _
 | p::ps,h=>by
  have e:qAB (p::ps)=p.wks++qAB ps:=by unfold qAB;rw [C1,E7]
  rw [e,qFX];exact (h p A8).app (qME fun x hx=>h x (A5 _ hx))
theorem qII {F:Int->List Prt}:∀ {cs:List Int},(∀ y ∈ cs,PrtOk Ae ws y (F y))->gns (((cs.map F).flatten).map Prt.s)=sumW ws cs
 | [],_=>by rw [qEI];rfl
 | y::cs,h=>by
  rw [C1,E7,A9,qFE,qB5,(h y A8).sum,qII fun x hx=>h x (A5 _ hx)]
theorem qIF {F:Int->List Prt}:∀ (cs:List Int),qAB ((cs.map F).flatten)=(cs.map fun y=>qAB (F y)).flatten
 | []=>rfl
 | y::cs=>by rw [C1,E7,qB4,qIF cs,C1,E7]
theorem qG2 (T:TIn Ae zs work) {z:Int} (hz:z ∈ zs) {F:Int->List Prt}:∀ (cs:List Int),cs.Nodup->(∀ y ∈ cs,y ∈ nd Ae z/\OrdT Ae y (qAB (F y)))->((cs.map fun y=>qAB (F y)).flatten).Nodup
 | [],_,_=>A80
 | y::cs,nc,h=>by
  rw [G9] at nc;rw [C1,E7,L9];have hy:=h y A8;refine ⟨hy.2.nodup,qG2 T hz cs nc.2 fun x hx=>h x (A5 _ hx),fun a ha b hb e=>?_⟩;subst e;obtain ⟨l,hl,hal⟩:=F7.mp hb;obtain ⟨y2,hy2,rfl⟩:=D6.mp hl;have h2:=h y2 (A5 _ hy2);have:=qHN T hz hy.1 h2.1 ((hy.2.mem a).mp ha) ((h2.2.mem a).mp hal);exact nc.1 (this ▸ hy2)
theorem qJM {F:Int->List Prt}:∀ {cs:List Int} {ts:List (List Int)},(∀ y ∈ cs,PrtOk Ae ws y (F y))->Paired (fun t y=>OrdT Ae y t) ts cs->Paired (fun s t=>Dm 0 s t) (cs.map fun y=>(F y).map Prt.s) (ts.map (stps Ae ws))
 | _,_,_,.nil=>.nil
 | _,_,h,.cons k p=>.cons (by
   have hy:=h _ A8;exact (qME hy.eqv).1.tr (hy.best _ k)) (qJM (fun x hx=>h x (A5 _ hx)) p)
theorem qKV (T:TIn Ae zs work) (w1:Wd1 Ae ws) {z:Int} (hz:z ∈ zs) {F:Int->List Prt} (h:∀ y ∈ nd Ae z,PrtOk Ae ws y (F y)) {srt:List Prt} (p:srt.Perm ((nd Ae z).map F).flatten) (s:srt.Pairwise fun a b=>kyS a.s<=kyS b.s) :
  PrtOk Ae ws z (jrun [] (srt++[⟨wdO ws z,wdO ws z - sumW ws (nd Ae z),[z]⟩])).reverse:=by
 have zb:=T.N.1.in_ z hz;have wz:=w1 z zb.1 zb.2;have from_:∀ q ∈ srt,∃ y ∈ nd Ae z,q ∈ F y:=fun q hq=>by
  obtain ⟨l,hl,hql⟩:=F7.mp (p.mem_iff.mp hq);obtain ⟨y,hy,rfl⟩:=D6.mp hl;exact ⟨y,hy,hql⟩
 have pos:∀ q ∈ srt,0<q.g:=fun q hq=>by
  obtain ⟨y,hy,hm⟩:=from_ q hq;exact (h y hy).pos q hm
 have sm:gns (srt.map Prt.s)=sumW ws (nd Ae z):=by rw [qIT (p.map _)];exact qII h
 obtain ⟨j1,j2,j3,j4⟩:=qNZ (p:=⟨wdO ws z,wdO ws z - sumW ws (nd Ae z),[z]⟩) pos (by rw [sm];show 0<wdO ws z - sumW ws (nd Ae z)+_;omega)
 have j4':qAB (jrun [] (srt++[⟨wdO ws z,wdO ws z - sumW ws (nd Ae z),[z]⟩])).reverse=qAB srt++[z]:=by rw [j4,qB4,qBP]
 have ev:∀ q ∈ srt,Eqv [q.s] (stps Ae ws q.wks):=fun q hq=>by
  obtain ⟨y,hy,hm⟩:=from_ q hq;exact (h y hy).eqv q hm
 have ea:=qME ev;have one:Eqv [Prt.s ⟨wdO ws z,wdO ws z - sumW ws (nd Ae z),[z]⟩] (stps Ae ws [z]):=.rfl' _;have pw:(qAB srt).Perm ((nd Ae z).map fun y=>qAB (F y)).flatten:=by
  rw [<- qIF];exact (p.map Prt.wks).flatten
 have ndk:=qG2 T hz (nd Ae z) (T.nodup hz) fun y hy=>⟨hy,(h y hy).ord⟩;have nds:(qAB srt).Nodup:=pw.nodup_iff.mpr ndk;have mem:∀ x,x ∈ qAB srt ↔ ∃ y ∈ nd Ae z,Nd Ae [y] x:=fun x=>by
  rw [pw.mem_iff,F7]
  constructor
  ·rintro ⟨l,hl,hx⟩;obtain ⟨y,hy,rfl⟩:=D6.mp hl;exact ⟨y,hy,((h y hy).ord.mem x).mp hx⟩
  ·rintro ⟨y,hy,hx⟩;exact ⟨_,D6.mpr ⟨y,hy,rfl⟩,((h y hy).ord.mem x).mpr hx⟩
 have wof:∀ {y:Int} {q:Prt} {x:Int},q ∈ F y->x ∈ q.wks->x ∈ qAB (F y):=fun {y q x} hq hx=>F7.mpr ⟨_,D6.mpr ⟨q,hq,rfl⟩,hx⟩;have tops:(qAB srt).Pairwise fun a b=>b ∉ nd Ae a:=by
  unfold qAB;rw [Y5,F3];have dis:srt.Pairwise fun a b=>∀ x ∈ a.wks,∀ y ∈ b.wks,x ≠ y:=by
   have:=nds;unfold qAB List.Nodup at this;rw [Y5,F3] at this;exact this.2
  constructor
  ·intro l hl;obtain ⟨q,hq,rfl⟩:=D6.mp hl;obtain ⟨y,hy,hm⟩:=from_ q hq;have:=(h y hy).ord.top;unfold qAB at this;rw [Y5] at this;exact this.1 _ (D6.mpr ⟨q,hm,rfl⟩)
  ·refine (s.and dis).imp_of_mem fun {a b} ha hb q x hx y hy hyx=>?_;obtain ⟨c1,hc1,ma⟩:=from_ a ha;obtain ⟨c2,hc2,mb⟩:=from_ b hb;have x1:=((h c1 hc1).ord.mem x).mp (wof ma hx);have y2:=((h c2 hc2).ord.mem y).mp (wof mb hy);have xz:x ∈ zs:=by
    have A:=T.has hz hc1;obtain ⟨yy,NY,sy⟩:=qDF T A.1;exact sy x ((NY.2 x).mpr x1)
   have y1:Nd Ae [c1] y:=.need x1 (T.get xz) hyx;have ec:=qHN T hz hc1 hc2 y1 y2;subst ec;have ne:a ≠ b:=fun e=>q.2 y (e ▸ hy) y hy rfl;have tp:=(h c1 hc1).ord.top;unfold qAB at tp;rw [Y5,F3] at tp;rcases qQX ((h c1 hc1).fall.and tp.2) ma mb ne with r | r
   ·exact r.2 x hx y hy hyx
   ·have:=r.1;have:=q.1;omega
 have ord:OrdT Ae z (qAB srt++[z]):=by
  refine ⟨?_,fun x=>?_,?_⟩
  ·rw [L9];refine ⟨nds,by simp,fun a ha b hb e=>?_⟩
   rw [A4.mp hb] at e;exact ((qPT T hz).mp ((mem a).mp ha)).2 e
  ·rw [E1,mem x,qPT T hz,A4]
   constructor
   ·rintro (q | q)
    ·exact q.1
    ·rw [q];exact .ask (A4.mpr rfl)
   ·intro q;by_cases e:x=z
    ·exact .inr e
    ·exact .inl ⟨q,e⟩
  ·rw [R9];refine ⟨tops,T8 _ _,fun a ha b hb hn=>?_⟩;rw [A4.mp hb] at hn;obtain ⟨y,hy,ha2⟩:=(mem a).mp ha;have A:=T.has hz hy;obtain ⟨yy,NY,sy⟩:=qDF T A.1;have az:=sy a ((NY.2 a).mpr ha2);have:=(T.has az hn).2.1;have:=qM2 T.wf ha2;omega
 refine ⟨?_,j1,j2,?_,?_,?_⟩
 ·refine qS9 (G:=fun q=>Eqv [q.s] (stps Ae ws q.wks)) (fun a b ga gb g0 c=>?_) pos ev one;show Eqv [qUJ a.s b.s] (stps Ae ws (a.wks++b.wks));rw [qFX];exact (qIZ (a:=a.s) (b:=b.s) g0 c).tr (ga.app gb)
 ·rw [j3.gns,A9,qFE,sm];show _+(wdO ws z - sumW ws (nd Ae z)+0)=_;omega
 ·rw [j4'];exact ord
 ·intro l hl;obtain ⟨l',rfl,nl,ml,tl⟩:=hl.last T hz;obtain ⟨ts,p1,s1⟩:=qQP (ws:=ws) T hz (nd Ae z) (T.nodup hz) (fun y hy=>hy) l' nl ml tl;obtain ⟨v,v1,v2⟩:=ShM.repl (qJM h p1) s1;have pv:v.Perm (srt.map Prt.s):=by
   refine v1.perm.trans ?_;have e:((nd Ae z).map fun y=>(F y).map Prt.s).flatten=(((nd Ae z).map F).flatten).map Prt.s:=by
    rw [List.map_flatten,R7]
    rfl
   rw [e];exact (p.map _).symm
  have d1:Dm 0 (srt.map Prt.s) v:=qOE _ _ (F3.mpr s) pv fun x hx=>by
   obtain ⟨q,hq,rfl⟩:=D6.mp hx;have:=pos q hq;show 0<=q.g;omega
  have d2:=(ea.2.tr d1).tr v2;rw [j4',qFX,qFX];exact d2.app (.refl d2.end_ _)
end
theorem qPJ {α β:Type} {F:α->β->Prop} {l₁:List α} {l₂:List β} (h:Paired F l₁ l₂):Paired F l₁.reverse l₂.reverse:=by
 induction h with
 | nil=>exact .nil
 | cons r _ ih=>rw [J9,J9];exact qCO ih r
theorem qD2 {r:Addr} {rs:List Addr}:(((r::rs).reverse.map V.ref)[((r::rs).reverse.map V.ref).length - 1]?=some (V.ref r))/\((r::rs).reverse.map V.ref).dropLast=rs.reverse.map V.ref:=by
 rw [J9,A9]
 constructor
 ·rw [A6,A0,A0];simp
 ·simp
def PrtAt (H:Hp) (T:Addr) (p:Prt):Prop:=∃ l,H T=some (.tup [.int p.r,.int p.g,.ref l])/\H l=some (.lst (p.wks.map V.int))
theorem PrtAt.same {H H':Hp} {T:Addr} {p:Prt} (h:PrtAt H T p) (s:Same H H'):PrtAt H' T p:=by
 obtain ⟨l,h1,h2⟩:=h;exact ⟨l,s _ _ h1,s _ _ h2⟩
abbrev PrtL (H:Hp) (rs:List Addr) (ps:List Prt):Prop:=Paired (PrtAt H) rs ps
theorem PrtL.same {H H':Hp} {rs:List Addr} {ps:List Prt} (h:PrtL H rs ps) (s:Same H H'):PrtL H' rs ps:=qAN h fun _ _ e=>e.same s
def PrtX (x:Addr) (H:Hp) (T:Addr) (p:Prt):Prop:=∃ l,l ≠ x/\H T=some (.tup [.int p.r,.int p.g,.ref l])/\H l=some (.lst (p.wks.map V.int))
theorem PrtX.same {x:Addr} {H H':Hp} {T:Addr} {p:Prt} (h:PrtX x H T p) (s:Same H H'):PrtX x H' T p:=by
 obtain ⟨l,n,h1,h2⟩:=h;exact ⟨l,n,s _ _ h1,s _ _ h2⟩
theorem PrtX.put {x:Addr} {H:Hp} {T:Addr} {p:Prt} {xs:List V} {o:HO} (h:PrtX x H T p) (g:H x=some (.lst xs)):PrtX x (upd H x o) T p:=by
 obtain ⟨l,n,h1,h2⟩:=h;exact ⟨l,n,by rw [qA8 (qBM h1 g (by intro z;cases z))];exact h1,by rw [qA8 n];exact h2⟩
theorem PrtX.at_ {x:Addr} {H:Hp} {T:Addr} {p:Prt} (h:PrtX x H T p):PrtAt H T p:=by
 obtain ⟨l,n,h1,h2⟩:=h;exact ⟨l,h1,h2⟩
theorem PrtAt.out {x:Addr} {H:Hp} {T:Addr} {p:Prt} (h:PrtAt H T p) (n:H x=none):PrtX x H T p:=by
 obtain ⟨l,h1,h2⟩:=h;exact ⟨l,qA5 h2 n,h1,h2⟩
theorem qNY:∀ (st:List Prt) (p:Prt),(qAB (qD3 st p)).length=(qAB st).length+p.wks.length/\(qD3 st p).length<=st.length+1
 | [],p=>by
  show (qAB [p]).length=(qAB []).length+_/\1<=0+1;rw [qBP];exact ⟨by show _=0+_;omega,by omega⟩
 | a::st,p=>by
  have e:(qAB (a::st)).length=a.wks.length+(qAB st).length:=by
   show (qAB ([a]++st)).length=_;rw [qB4,qBP,A6]
  unfold qD3
  split
  ·have:=qNY st (qCE a p);have l:(qCE a p).wks.length=a.wks.length+p.wks.length:=by show (a.wks++p.wks).length=_;rw [A6]
   rw [D1];omega
  ·have e2:(qAB (p::a::st)).length=p.wks.length+(qAB (a::st)).length:=by
    show (qAB ([p]++(a::st))).length=_;rw [qB4,qBP,A6]
   exact ⟨by omega,by rw [D1,D1];omega⟩
def qQK:Sp:=fun vs H Q _=>∃ (a b:Addr) (p q:Prt),vs=[.ref a,.ref b]/\PrtAt H a p/\PrtAt H b q/\p.wks.length+q.wks.length<=63/\
 ∀ T l H',Same H H'->H l=none->H' T=some (.tup [.int (qCE p q).r,.int (qCE p q).g,.ref l])->H' l=some (.lst ((qCE p q).wks.map V.int))->Q (.ref T) H'
def qQL:Sp:=fun vs H Q _=>∃ (a:Addr) (rs:List Addr) (ps:List Prt),vs=[.ref a]/\H a=some (.lst (rs.map V.ref))/\PrtL H rs ps/\(qAB ps).length<=63/\ps.length<=63/\
 ∀ l rs' H',Same H H'->H l=none->H' l=some (.lst (rs'.map V.ref))->PrtL H' rs' (jrun [] ps).reverse->Q (.ref l) H'
def TabP (H:Hp) (Pt:Addr):Prop:=H Pt=some (.tbl (.tab "parts_over.<locals>.<lambda>"))
def qEG (Ae:List (List Int)) (ws:List Int) (z:Int):Prt:=⟨wdO ws z,wdO ws z - sumW ws (nd Ae z),[z]⟩
theorem PrtAt.dict {H:Hp} {T dn:Addr} {p:Prt} {Af:List (Key × V)} {o:HO} (h:PrtAt H T p) (g:H dn=some (.dK Af)):PrtAt (upd H dn o) T p:=by
 obtain ⟨l,h1,h2⟩:=h;exact ⟨l,by rw [qA8 (qBM h1 g (by intro z;cases z))];exact h1,by rw [qA8 (qBM h2 g (by intro z;cases z))];exact h2⟩
theorem qPF {Ae:List (List Int)} {ws:List Int}:∀ {ps:List Prt},(∀ p ∈ ps,Eqv [p.s] (stps Ae ws p.wks))->ps.length<=(qAB ps).length
 | [],_=>B0 _
 | p::ps,h=>by
  have e:qAB (p::ps)=p.wks++qAB ps:=by unfold qAB;rw [C1,E7]
  have ih:=qPF fun x hx=>h x (A5 _ hx);have h1:=h p A8;have n:1<=p.wks.length:=by
   cases hw:p.wks with
   | nil=>
    rw [hw] at h1;have:=h1.1.nil_right;cases this
   | cons _ _=>exact Nat.succ_le_succ (D7 _)
  rw [e,A6,D1];omega
theorem OrdT.ahead {Ae:List (List Int)} {z:Int} {l:List Int} (wf:WFn Ae) (h:OrdT Ae z l) (b:∀ x ∈ l,Ae[x.toNat]?=some (nd Ae x)):∀ (p:Nat) (o:Int),l[p]?=some o->∀ x ∈ nd Ae o,x ∈ l.take p:=by
 intro p o e x hx;have ho:=B8 e;have hxl:x ∈ l:=(h.mem x).mpr (.need ((h.mem o).mp ho) (b o ho) hx);obtain ⟨q,hq,eq⟩:=U5 hxl;obtain ⟨hp,ep⟩:=A3.mp e;by_cases c:q<p
 ·rw [<- eq];exact V8.mpr ⟨q,by omega,rfl⟩
 ·exfalso
  by_cases c2:q=p
  ·subst c2;have:x=o:=by rw [<- eq,<- ep]
   have:=(wf _ _ (b o ho)).in_ x hx;omega
  ·have:=F0.mp h.top p q hp hq (by omega)
   rw [ep,eq] at this;exact this hx
theorem OrdT.all {Ae:List (List Int)} {zs:List Int} {work:Int} {l:List Int} (T:TIn Ae zs work) (h:OrdT Ae work l):TopO Ae l/\l.length<=63:=by
 have inz:∀ x ∈ l,x ∈ zs:=fun x hx=>(T.N.2 x).mpr ((h.mem x).mp hx);refine ⟨qP7 T.N h.nodup (fun x=>(h.mem x).trans (T.N.2 x).symm) (h.ahead T.wf fun x hx=>T.get (inz x hx)),?_⟩;have:=qJO h.nodup fun x hx=>T.N.1.in_ x (inz x hx);have:=T.len;omega
def Best (Ae:List (List Int)) (ws:List Int) (work:Int) (l:List Int):Prop:=OrdT Ae work l/\∀ l',OrdT Ae work l'->Dm 0 (stps Ae ws l) (stps Ae ws l')
def qJB (Pt:Addr):Sp:=fun vs H Q _=>∃ (a t:Addr) (Ae:List (List Int)) (ws:List Int) (work:Int),vs=[.ref a,.ref t,.int work]/\TabP H Pt/\qQF H a t Ae ws work/\
 ∀ (m:Int) (L:List Int) (H':Hp),Same H H'->Best Ae ws work L->topD none (qCB Ae ws L)=some m->Q (.int m) H'
theorem qG4 {Ae:List (List Int)} {ws:List Int} {m:Int}:∀ (l:List Int) (k:Int),Belo m k (stps Ae ws l) ↔ ∀ v ∈ runK Ae ws k l,v<=m
 | [],k=>⟨(fun _ v h=>nomatch h),fun _=>trivial⟩
 | x::l,k=>by
  show (k+wdO ws x<=m/\Belo m (k+(wdO ws x - sumW ws (nd Ae x))) (stps Ae ws l)) ↔ _;rw [qG4 l,show k+(wdO ws x - sumW ws (nd Ae x))=k+wdO ws x - sumW ws (nd Ae x) by omega]
  constructor
  ·rintro ⟨h1,h2⟩ v hv;rcases B5.mp hv with e | e
   ·rw [e];exact h1
   ·exact h2 v e
  ·exact fun h=>⟨h _ A8,fun v hv=>h v (A5 _ hv)⟩
theorem qLH {l:List Int} {m:Int} (h:topD none l=some m):IsTop l m:=by
 cases l with
 | nil=>cases h
 | cons x l=>
  have e:topI x l=m:=D5 h;obtain ⟨a,b,c⟩:=qP8 l x;rw [<- e];refine ⟨?_,fun y hy=>?_⟩
  ·rcases c with q | q
   ·rw [q];exact A8
   ·exact A5 _ q
  ·rcases B5.mp hy with q | q
   ·rw [q];exact a
   ·exact b y q
theorem OrdT.run {Ae:List (List Int)} {ws zs:List Int} {work:Int} {l:List Int} (T:TIn Ae zs work) (h:OrdT Ae work l):qCB Ae ws l=runK Ae ws 0 l:=by
 have inz:∀ x ∈ l,x ∈ zs:=fun x hx=>(T.N.2 x).mpr ((h.mem x).mp hx);exact qN1 T.wf (h.all T).1 fun hu hv h1 h2=>T.user (inz _ hu) (inz _ hv) h1 h2
theorem OrdT.ne {Ae:List (List Int)} {work:Int} {l:List Int} (h:OrdT Ae work l):l ≠ []:=fun e=>by
 have:=(h.mem work).mpr (.ask (A4.mpr rfl));rw [e] at this;cases this
theorem OrdT.top_ex {Ae:List (List Int)} {ws:List Int} {work:Int} {l:List Int} (h:OrdT Ae work l):∃ m,topD none (qCB Ae ws l)=some m:=by
 have hm:=List.length_pos_iff.mpr h.ne;have le:(qCB Ae ws l).length=l.length:=by unfold qCB;rw [A0,Y7]
 cases e:qCB Ae ws l with
 | nil=>rw [e] at le;simp at le;omega
 | cons x r=>exact ⟨_,rfl⟩
theorem qML {Ae:List (List Int)} {ws zs:List Int} {work m m':Int} {l l':List Int} (T:TIn Ae zs work) (B:Best Ae ws work l) (h':OrdT Ae work l') (e:topD none (qCB Ae ws l)=some m) (e':topD none (qCB Ae ws l')=some m'):m<=m':=by
 have t:=qLH e;have t':=qLH e';rw [B.1.run T] at t;rw [h'.run T] at t';have b:Belo m' 0 (stps Ae ws l'):=(qG4 l' 0).mpr t'.2;have b2:=(B.2 l' h').low b;exact (qG4 l (0+0)).mp b2 m t.1
theorem qRO {Ae:List (List Int)} {ws zs:List Int} {work m m':Int} {l l':List Int} (T:TIn Ae zs work) (B:Best Ae ws work l) (B':Best Ae ws work l') (e:topD none (qCB Ae ws l)=some m) (e':topD none (qCB Ae ws l')=some m'):m=m':=by
 have:=qML T B B'.1 e e';have:=qML T B' B.1 e' e;omega
def dP:Prt:=⟨0,0,[]⟩
def kA (ps:List Prt) (i:Nat):Int:=kyS ((ps[i]?).getD dP).s
def StO (ps srt:List Prt):Prop:=∃ I:List Nat,I.Perm (I0 ps.length)/\I.Pairwise (fun i j=>kA ps i<kA ps j\/kA ps i=kA ps j/\i<=j)/\srt=I.map fun i=>(ps[i]?).getD dP
theorem StO.one {ps a b:List Prt} (h:StO ps a) (k:StO ps b):a=b:=by
 obtain ⟨I,p,s,rfl⟩:=h;obtain ⟨J,p2,s2,rfl⟩:=k;have e:=List.Perm.eq_of_pairwise (le:=fun i j=>kA ps i<kA ps j\/kA ps i=kA ps j/\i<=j) (fun a b _ _ h1 h2=>by omega) s s2 (p.trans p2.symm)
 rw [e]
theorem qZP {α:Type} (d:α) (L:List α):(I0 L.length).map (fun i=>(L[i]?).getD d)=L:=g8 fun i=>by
 by_cases hi:i<L.length
 ·rw [B7,Z6 hi,A1 hi];show some ((L[i]?).getD d)=some L[i];rw [A1 hi]
  rfl
 ·rw [J2 (by rw [A0,Y7];omega),J2 (by omega)]
theorem StO.perm {ps a:List Prt} (h:StO ps a):a.Perm ps:=by
 obtain ⟨I,p,s,rfl⟩:=h;have:=p.map fun i=>(ps[i]?).getD dP
 rwa [qZP] at this
theorem StO.up {ps a:List Prt} (h:StO ps a):a.Pairwise (fun a b=>kyS a.s<=kyS b.s):=by
 obtain ⟨I,p,s,rfl⟩:=h;rw [F3];exact s.imp fun {i j} z=>by unfold kA at z;omega
theorem PrtAt.one {H:Hp} {T:Addr} {p q:Prt} (h:PrtAt H T p) (k:PrtAt H T q):p=q:=by
 obtain ⟨l,h1,h2⟩:=h;obtain ⟨m,k1,k2⟩:=k;rw [h1] at k1
 injection k1 with k1
 injection k1 with k1
 injection k1 with e1 k1
 injection k1 with e2 k1
 injection k1 with e3 k1
 injection e1 with e1
 injection e2 with e2
 injection e3 with e3
 subst e3;rw [h2] at k2
 injection k2 with k2
 injection k2 with k2
 have e4:p.wks=q.wks:=by
  have inj:∀ a b:List Int,a.map V.int=b.map V.int->a=b:=by
   intro a
   induction a with
   | nil=>intro b h;cases b with | nil=>rfl | cons _ _=>cases h
   | cons x a ih=>
    intro b h;cases b with
    | nil=>cases h
    | cons y b=>
     rw [C1,C1] at h
     injection h with h1 h2
     injection h1 with h1
     rw [h1,ih b h2]
  exact inj _ _ k2
 cases p;cases q;cases e1;cases e2;cases e4
 rfl
theorem qTE {H:Hp} {rs:List Addr} {ps:List Prt} (h:PrtL H rs ps):(qAB ps).Nodup->(∀ p ∈ ps,p.wks ≠ [])->rs.Nodup:=by
 induction h with
 | nil=>exact fun _ _=>.nil
 | @cons r p rs ps h0 hP ih=>
  intro n ne;have e:qAB (p::ps)=p.wks++qAB ps:=by unfold qAB;rw [C1,E7]
  rw [e] at n;obtain ⟨n1,n2,n3⟩:=L9.mp n;refine G9.mpr ⟨fun m=>?_,ih n2 fun q hq=>ne q (A5 _ hq)⟩;obtain ⟨i,hi⟩:=L8 m;obtain ⟨q,hq,hA⟩:=qBF hP hi;have pq:=h0.one hA;obtain ⟨x,hx⟩:=List.exists_mem_of_ne_nil p.wks (ne p A8);refine n3 x hx x ?_ rfl;unfold qAB;exact F7.mpr ⟨q.wks,A31 (B8 hq),pq ▸ hx⟩
theorem qaK {H:Hp} {rs:List Addr} {ps:List Prt} {zs:List (List Int × V)} (hP:PrtL H rs ps) (s:L2.G.StI (ps.map fun q=>[kyS q.s]) (rs.map V.ref) zs) :
  ∃ (rs2:List Addr) (srt:List Prt),PrtL H rs2 srt/\StO ps srt/\zs.map (·.2)=rs2.map V.ref:=by
 obtain ⟨I,p,so,rfl⟩:=s;have le:=C6 hP;rw [A0,le] at p;have at_:∀ i ∈ I,∃ r q,rs[i]?=some r/\ps[i]?=some q/\PrtAt H r q:=fun i hi=>by
  have hl:i<ps.length:=P7.mp (p.mem_iff.mp hi);have h1:=A1 (show i<rs.length by omega)
  obtain ⟨q,hq,hA⟩:=qBF hP h1;exact ⟨_,q,h1,hq,hA⟩
 refine ⟨I.map fun i=>(rs[i]?).getD 0,I.map fun i=>(ps[i]?).getD dP,?_,⟨I,p,so.imp_of_mem fun {i j} hi hj z=>?_,rfl⟩,?_⟩
 ·clear p so
  induction I with
  | nil=>exact .nil
  | cons i I ih=>
   obtain ⟨r,q,h1,h2,h3⟩:=at_ i A8;rw [C1,C1];refine .cons ?_ (ih fun j hj=>at_ j (A5 _ hj));rw [h1,h2];exact h3
 ·obtain ⟨r,q,h1,h2,h3⟩:=at_ i hi;obtain ⟨r',q',h1',h2',h3'⟩:=at_ j hj;unfold kA;rw [B7,B7,h2,h2'] at z;rw [h2,h2'];have z:HT.lexLt [kyS q.s] [kyS q'.s]=true\/[kyS q.s]=[kyS q'.s]/\i<=j:=z;show kyS q.s<kyS q'.s\/kyS q.s=kyS q'.s/\i<=j;rcases z with z | ⟨z,z2⟩
  ·rw [HT.lexLt_cons] at z
   split at z
   ·rw [L2.G.lexLt_self] at z;cases z
   ·exact .inl (of_decide_eq_true z)
  ·injection z with z
   exact .inr ⟨z,z2⟩
 ·rw [R7,R7];refine P0 fun i hi=>?_;obtain ⟨r,q,h1,h2,h3⟩:=at_ i hi;simp only [x6,B7,h1,R4,U8]
def POn (Ae:List (List Int)) (ws:List Int) (work:Int) (F:Int->List Prt):Prop:=∀ z,Nd Ae [work] z->∃ srt,StO ((nd Ae z).map F).flatten srt/\F z=(jrun [] (srt++[qEG Ae ws z])).reverse
theorem POn.one {Ae:List (List Int)} {ws zs:List Int} {work:Int} {F G:Int->List Prt} (T:TIn Ae zs work) (h:POn Ae ws work F) (k:POn Ae ws work G):∀ (n:Nat) (z:Int),z.toNat=n->Nd Ae [work] z->F z=G z:=by
 intro n
 induction n using d4 with
 | ind n ih=>
  intro z hn hz;obtain ⟨a,h1,h2⟩:=h z hz;obtain ⟨b,k1,k2⟩:=k z hz;have mz:=(T.N.2 z).mpr hz;have e:(nd Ae z).map F=(nd Ae z).map G:=P0 fun y hy=>by
   have yb:=T.has mz hy;exact ih y.toNat (by omega) y rfl ((T.N.2 y).mp yb.1)
  rw [e] at h1;rw [h2,k2,h1.one k1]
def WO (Ae:List (List Int)) (ws:List Int) (work:Int) (L:List Int):Prop:=∃ F,POn Ae ws work F/\L=qAB (F work)
theorem WO.one {Ae:List (List Int)} {ws zs:List Int} {work:Int} {a b:List Int} (T:TIn Ae zs work) (h:WO Ae ws work a) (k:WO Ae ws work b):a=b:=by
 obtain ⟨F,h1,rfl⟩:=h;obtain ⟨G,k1,rfl⟩:=k;rw [h1.one T k1 _ work rfl (.ask (A4.mpr rfl))]
def qHX (Pt:Addr):Sp:=fun vs H Q _=>∃ (a t own:Addr) (Ae:List (List Int)) (ws ks:List Int) (z:Int) (ad:Int->Addr) (F:Int->List Prt),vs=[.ref a,.ref t,.int z,.ref own]/\TabP H Pt/\NetAt H a Ae/\WFn Ae/\Ae.length<=63/\WdAt H t Ae ws/\0<=z/\z<(Ae.length:Int)/\
 H own=some (.dK (kvsV ks fun y=>.ref (ad y)))/\(∀ y ∈ nd Ae z,y ∈ ks/\∃ rs:List Addr,H (ad y)=some (.lst (rs.map V.ref))/\PrtL H rs (F y))/\(qAB ((nd Ae z).map F).flatten).length<=62/\((nd Ae z).map F).flatten.length<=62/\
 (qAB ((nd Ae z).map F).flatten).Nodup/\(∀ p ∈ ((nd Ae z).map F).flatten,p.wks ≠ [])/\
 ∀ (l:Addr) (rs:List Addr) (srt:List Prt) (H':Hp),Same H H'->H l=none->StO ((nd Ae z).map F).flatten srt->H' l=some (.lst (rs.map V.ref))->PrtL H' rs (jrun [] (srt++[qEG Ae ws z])).reverse->Q (.ref l) H'
def qF9 (Pt:Addr):Sp:=fun vs H Q _=>∃ (a t:Addr) (Ae:List (List Int)) (ws:List Int) (work:Int),vs=[.ref a,.ref t,.int work]/\TabP H Pt/\qQF H a t Ae ws work/\
 ∀ (l:Addr) (L:List Int) (H':Hp),Same H H'->H l=none->H' l=some (.lst (L.map V.int))->Best Ae ws work L->WO Ae ws work L->Q (.ref l) H'
theorem qaV {Ae:List (List Int)} {ws:List Int} {p:Prt} (h:Eqv [p.s] (stps Ae ws p.wks)):p.wks ≠ []:=fun hw=>by
 rw [hw] at h;have:=h.1.nil_right;cases this
section
variable {Ae:List (List Int)} {ws zs:List Int} {work:Int}
theorem qND {z:Int} {l:List Int} (n:l.Nodup) (m:∀ x,x ∈ l ↔ Nd Ae [z] x) (ah:∀ (p:Nat) (o:Int),l[p]?=some o->∀ x ∈ nd Ae o,x ∈ l.take p):OrdT Ae z l:=by
 refine ⟨n,m,F0.mpr fun i j hi hj ij hx=>?_⟩;have:=ah i _ (A1 hi) _ hx;obtain ⟨q,hq,eq⟩:=V8.mp this;have:=qMA n (by omega) hj eq
 omega
theorem qYQ (T:TIn Ae zs work) {R:Int->Int} {O:Int->List Int} (S:StOn Ae ws zs R O) {z:Int} (hz:z ∈ zs):OrdT Ae z (O z):=by
 obtain ⟨n1,m1,b1⟩:=qSZ T S _ z rfl hz;exact qND n1 m1 b1
theorem qXH (T:TIn Ae zs work) (w1:Wd1 Ae ws) {R:Int->Int} {O:Int->List Int} (S:StOn Ae ws zs R O) {l:List Int} {m:Int} (B:Best Ae ws work l) (e:topD none (qCB Ae ws l)=some m):m<=R work:=by
 have wz:=qEP T.N;obtain ⟨_,_,tD,_⟩:=qT0 T S w1 wz;exact qML T B (qYQ T S wz) e tD
end
end Fw
namespace L2
open PySem PySem.Spec PyProof.Rows
theorem qSF {X:Cx} {K:PySem.W.Frag} (hK:X.K=K) (hc:X.calm=true):qCW X (.builtin "max") (fun xs H Q=>∃ p ns m,xs=[.ref p]/\SqL K H p (ns.map V.int)/\topD none ns=some m/\Q (.int m) H):=by subst hK;exact qHD hc
end L2
namespace Fw
open PySem L2
section
variable {Ae:List (List Int)} {ws works:List Int} {work:Int}
theorem qVU {l:List Int} (N:qB0 Ae [work] works) (B:Begun Ae works l) (e:l.length=works.length):OrdT Ae work l:=by
 refine qND B.nodup (fun x=>?_) B.bef;rw [<- N.2 x];refine ⟨B.sub x,fun hx=>?_⟩;rcases i7 (x ∈ l) with q | q
 ·exact q
 ·exfalso
  have:=J5 (G9.mpr ⟨q,B.nodup⟩) (fun y hy=>(B5.mp hy).elim (fun e=>e ▸ hx) (B.sub y));simp at this;omega
theorem qTU {l:List Int} (wf:WFn Ae) (N:qB0 Ae [work] works) (h:OrdT Ae work l):Begun Ae works l/\l.length=works.length:=by
 have m:∀ x,x ∈ l ↔ x ∈ works:=fun x=>(h.mem x).trans (N.2 x).symm;have pm:=(Y8 h.nodup N.1.nodup).mpr m;refine ⟨⟨h.nodup,fun x hx=>(m x).mp hx,h.ahead wf fun x hx=>?_⟩,pm.length_eq⟩;have b:=N.1.in_ x ((m x).mp hx);have hw:x.toNat<Ae.length:=by omega
 have hz:=A1 hw;rw [qAF hz];exact hz
theorem qZC:∀ {l:List Int} {m:Int},lowD none l=some m->m ∈ l/\∀ x ∈ l,m<=x:=by
 intro l m h;cases l with
 | nil=>cases h
 | cons x r=>
  have h:=D5 h;subst h;obtain ⟨h2,h3,h1⟩:=qUC r x;exact ⟨h1.elim (fun e=>by rw [e];exact A8) (A5 _),fun y hy=>(B5.mp hy).elim (fun e=>by rw [e];exact h2) (h3 y)⟩
theorem qb7 {l:List Int} (h:l ≠ []):∃ m,lowD none l=some m:=by
 cases l with
 | nil=>exact absurd rfl h
 | cons x r=>exact ⟨_,rfl⟩
end
theorem qS3 {Ae:List (List Int)} {Ad:List Int} (wf:WFn Ae) (r:Rise (Ae.length:Int) Ad) {x:Int} (h:Nd Ae Ad x):0<=x/\x<(Ae.length:Int):=by
 induction h with
 | ask m=>exact r.in_ _ m
 | need _ e hy ih=>
  have h1:=(wf _ _ e).in_ _ hy;have h2:=(A3.mp e).1;omega
theorem qHP {l:List Int} {j:Nat} {y:Int} (h:l[j]?=some y):(y::l.eraseIdx j).Perm l:=by
 obtain ⟨hj,e⟩:=A3.mp h;rw [List.eraseIdx_eq_take_drop_succ];have:l=l.take j++y::l.drop (j+1):=by
  rw [<- e,<- O5 hj,M8]
 exact (A01.symm).trans (by rw [<- this])
structure LeftO (works ord lf:List Int):Prop where
 nd:lf.Nodup
 mem:∀ x,x ∈ lf ↔ x ∈ works/\x ∉ ord
 len:lf.length+ord.length=works.length
end Fw
namespace L2
open PySem PySem.Spec PyProof.Rows
end L2
namespace Fw
open PySem L2
section
variable {Ae:List (List Int)} {ws zs:List Int} {work:Int}
def qbX (Ae:List (List Int)) (zs D:List Int) (x:Int):Bool:=(zs.filter fun o=>decide (x ∈ nd Ae o)).all fun o=>decide (o ∈ D)
def qcR (Ae:List (List Int)) (ws zs D:List Int):Int:=sumW ws (D.filter fun x=>!qbX Ae zs D x)
theorem qRA:∀ l:List Int,gns (stps Ae ws l)=sumW ws l - sumW ws (l.flatMap (nd Ae))
 | []=>rfl
 | x::l=>by
  show (wdO ws x - sumW ws (nd Ae x))+gns (stps Ae ws l)=_;rw [qRA l,qB5,A57,qIJ];omega
theorem qQ2 (T:TIn Ae zs work):∀ l:List Int,l.Nodup->(∀ x ∈ l,x ∈ zs)->(l.flatMap (nd Ae)).Nodup
 | [],_,_=>.nil
 | x::l,n,h=>by
  obtain ⟨n1,n2⟩:=G9.mp n;rw [A57];refine L9.mpr ⟨T.nodup (h x A8),qQ2 T l n2 fun y hy=>h y (A5 _ hy),fun a ha b hb e=>?_⟩;subst e;obtain ⟨u,hu,hb⟩:=A65.mp hb;exact n1 (T.user (h x A8) (h u (A5 _ hu)) ha hb ▸ hu)
theorem Begun.has {l:List Int} (B:Begun Ae zs l) {x y:Int} (hx:x ∈ l) (hy:y ∈ nd Ae x):y ∈ l:=by
 obtain ⟨p,hp⟩:=L8 hx;exact J7 (B.bef p x hp y hy)
theorem Begun.front {l:List Int} {x:Int} (B:Begun Ae zs (l++[x])):Begun Ae zs l/\x ∈ zs/\x ∉ l/\∀ y ∈ nd Ae x,y ∈ l:=by
 obtain ⟨n1,n2,n3⟩:=L9.mp B.nodup;refine ⟨⟨n1,fun y hy=>B.sub y (Q5 _ hy),fun p o h y hy=>?_⟩,B.sub x (by simp),fun m=>n3 x m x (by simp) rfl,fun y hy=>?_⟩
 ·have hp:=(A3.mp h).1;have:=B.bef p o (by rw [E4 hp];exact h) y hy
  rwa [O3 (by omega)] at this
 ·have:=B.bef l.length x (by rw [G7 (B0 _),A10];rfl) y hy
  rwa [List.take_left] at this
theorem belo_snoc {m:Int} {l:List Int} {x:Int}:Belo m 0 (stps Ae ws (l++[x])) ↔ Belo m 0 (stps Ae ws l)/\gns (stps Ae ws l)+wdO ws x<=m:=by
 rw [qFX,Belo.app,W8]
 constructor
 ·exact fun h=>⟨h.1,h.2.1⟩
 ·exact fun h=>⟨h.1,h.2,trivial⟩
structure Dp1 (Ae:List (List Int)) (ws zs:List Int) (t:Nat) (v:Int) (D:List Int):Prop where
 up:D.Pairwise (·<·)
 pos:0<=v
 ord:∃ l,Begun Ae zs l/\l.length=t/\l.Perm D/\Belo v 0 (stps Ae ws l)
structure Dp (Ae:List (List Int)) (ws zs:List Int) (t:Nat) (ks:List (List Int)) (g:List Int->Int):Prop where
 nd:ks.Nodup
 snd:∀ D ∈ ks,Dp1 Ae ws zs t (g D) D
 full:∀ l n,Begun Ae zs l->l.length=t->0<=n->Belo n 0 (stps Ae ws l)->∃ D ∈ ks,l.Perm D/\g D<=n
def canD (Ae:List (List Int)) (D:List Int) (x:Int):Bool:=decide (x ∉ D) && (nd Ae x).all fun y=>decide (y ∈ D)
def qcD (Ae:List (List Int)) (ws zs:List Int) (g:List Int->Int) (D:List Int) (x:Int):Int:=mxi (g D) (qcR Ae ws zs D+wdO ws x)
structure Dq (Ae:List (List Int)) (ws zs:List Int) (t:Nat) (ks:List (List Int)) (g:List Int->Int) (fk:List (List Int)) (fg:List Int->Int) (i j:Nat):Prop where
 nd:fk.Nodup
 snd:∀ D ∈ fk,Dp1 Ae ws zs (t+1) (fg D) D
 full:∀ (a b:Nat) (D:List Int) (x:Int),ks[a]?=some D->zs[b]?=some x->(a<i\/a=i/\b<j)->canD Ae D x=true->∃ E ∈ fk,E.Perm (D++[x])/\fg E<=qcD Ae ws zs g D x
variable {t:Nat} {ks fk:List (List Int)} {g fg:List Int->Int} {i j:Nat}
def FewW (Ae:List (List Int)) (ws:List Int) (work m:Int):Prop:=(∃ l,OrdT Ae work l/\Belo m 0 (stps Ae ws l))/\∀ l n,OrdT Ae work l->0<=n->Belo n 0 (stps Ae ws l)->m<=n
theorem qXD {m M:Int} {L:List Int} (T:TIn Ae zs work) (w1:Wd1 Ae ws) (F:FewW Ae ws work m) (B:Best Ae ws work L) (e:topD none (qCB Ae ws L)=some M):M=m:=by
 obtain ⟨⟨l,O,b⟩,low⟩:=F;have t:=qLH e;rw [B.1.run T] at t;have M0:0<=M:=by
  obtain ⟨x,r,el⟩:∃ x r,L=x::r:=by cases L with | nil=>exact absurd rfl B.1.ne | cons x r=>exact ⟨x,r,rfl⟩
  have hx:=T.N.1.in_ x ((T.N.2 x).mpr ((B.1.mem x).mp (by rw [el];exact A8)))
  have:=w1 x hx.1 hx.2;have:=t.2 (0+wdO ws x) (by rw [el];exact A8)
  omega
 have h1:=low L M B.1 M0 ((qG4 L 0).mpr t.2);have h2:=(B.2 l O).low b;have h3:=(qG4 L (0+0)).mp h2 M t.1;omega
end
theorem qNH {Ae:List (List Int)} {work x:Int} (wf:WFn Ae) (w0:0<=work) (w1:work<(Ae.length:Int)) (h:Nd Ae [work] x):0<=x/\x<(Ae.length:Int):=qS3 wf ⟨by simp,fun y hy=>by rw [A4.mp hy];exact ⟨w0,w1⟩⟩ h
def qKQ:Sp:=fun vs H Q _=>∃ (a lo:Addr) (Ae:List (List Int)) (L:List Int) (work:Int),vs=[.ref a,.int work,.ref lo]/\NetAt H a Ae/\WFn Ae/\Ae.length<=60/\0<=work/\work<(Ae.length:Int)/\H lo=some (.lst (L.map V.int))/\OrdT Ae work L/\∀ H',Same H H'->Q (.bl true) H'
def qDT:Prt->List Prt->List Prt
 | p,[]=>[p]
 | p,b::r=>if p.r<=p.g+b.r\/b.g<=0 then qDT (qCE p b) r else p::b::r
def frun:List Prt->List Prt
 | []=>[]
 | p::ps=>qDT p (frun ps)
def hfal:List Prt->Prop
 | a::b::r=>a.g+b.r<a.r/\hfal (b::r)
 | _=>True
structure FOk (R:List Prt):Prop where
 pos:R.length<=1\/∀ b ∈ R,0<b.g
 fall:R.Pairwise fun a b=>kyS a.s<kyS b.s
 hf:hfal R
theorem qRB:∀ (R:List Prt) (p:Prt),FOk R->0<p.g->FOk (qDT p R)/\Eqv ((qDT p R).map Prt.s) ((p::R).map Prt.s)/\qAB (qDT p R)=p.wks++qAB R/\(qDT p R).length<=R.length+1
 | [],p,_,_=>⟨⟨.inl (B0 _),by show ([p]:List Prt).Pairwise _;simp,trivial⟩,.rfl' _,by show qAB [p]=_++qAB [];rw [qBP];show _=_++[];rw [W3],B0 _⟩
 | b::r,p,ok,hp=>by
  have eb:qAB (b::r)=b.wks++qAB r:=by unfold qAB;rw [C1,E7]
  obtain ⟨f1,f2⟩:=M6.mp ok.fall;unfold qDT
  split
  ·rename_i c
   have ej:Eqv ((qCE p b).s::r.map Prt.s) (p.s::b.s::r.map Prt.s):=(qIZ (a:=p.s) (b:=b.s) (by show 0<=p.g;omega) (c.elim .inr .inl)).app (.rfl' (r.map Prt.s))
   cases r with
   | nil=>
    refine ⟨⟨.inl (B0 _),by show ([qCE p b]:List Prt).Pairwise _;simp,trivial⟩,ej,?_,by show 1<=_;simp⟩
    show qAB [qCE p b]=_;rw [qBP,eb];show p.wks++b.wks=p.wks++(b.wks++[]);rw [W3]
   | cons a r=>
    have ps:∀ x ∈ b::a::r,0<x.g:=ok.pos.resolve_left (by simp)
    have hb:=ps b A8;obtain ⟨k1,k2,k3,k4⟩:=qRB (a::r) (qCE p b) ⟨.inr fun x hx=>ps x (A5 _ hx),f2,ok.hf.2⟩ (by show 0<p.g+b.g;omega)
    refine ⟨k1,k2.tr ej,?_,by rw [D1] at k4 ⊢;rw [D1];omega⟩
    rw [k3,eb];show p.wks++b.wks++_=_;rw [O4]
  ·rename_i c
   have c1:¬ p.r<=p.g+b.r:=fun z=>c (.inl z);have c2:¬ b.g<=0:=fun z=>c (.inr z);have kp:kyS p.s<kyS b.s:=by show p.g - p.r<b.g - b.r;omega
   have ps:∀ x ∈ b::r,0<x.g:=by
    rcases ok.pos with h | h
    ·have:r=[]:=by cases r with | nil=>rfl | cons _ _=>simp at h
     subst this;intro x hx;rw [A4.mp hx];omega
    ·exact h
   refine ⟨⟨.inr fun x hx=>?_,M6.mpr ⟨fun x hx=>?_,ok.fall⟩,⟨by omega,ok.hf⟩⟩,.rfl' _,?_,by simp⟩
   ·rcases B5.mp hx with e | e
    ·rw [e];exact hp
    ·exact ps x e
   ·rcases B5.mp hx with e | e
    ·rw [e];exact kp
    ·have:=f1 x e;omega
   ·show qAB (p::b::r)=_;unfold qAB;rw [C1,E7]
theorem qQ1 (root:Prt):∀ ps:List Prt,(∀ p ∈ ps,0<p.g)->FOk (frun (ps++[root]))/\Eqv ((frun (ps++[root])).map Prt.s) ((ps++[root]).map Prt.s)/\qAB (frun (ps++[root]))=qAB (ps++[root])
 | [],_=>⟨⟨.inl (B0 _),by show ([root]:List Prt).Pairwise _;simp,trivial⟩,.rfl' _,rfl⟩
 | p::ps,h=>by
  obtain ⟨k1,k2,k3⟩:=qQ1 root ps fun x hx=>h x (A5 _ hx);obtain ⟨m1,m2,m3,_⟩:=qRB _ p k1 (h p A8);refine ⟨m1,m2.tr ?_,m3.trans ?_⟩
  ·have e:=(Eqv.rfl' [p.s]).app k2;exact e
  ·rw [k3];show _=qAB (p::(ps++[root]));unfold qAB;rw [C1,E7]
theorem qO5 {G:Prt->Prop} (hG:∀ a b,G a->G b->0<=a.g->(b.g<=0\/a.r<=a.g+b.r)->G (qCE a b)):∀ (R:List Prt) (p:Prt),FOk R->0<p.g->(∀ a ∈ R,G a)->G p->∀ a ∈ qDT p R,G a
 | [],p,_,_,_,h=>fun a ha=>by rw [A4.mp ha];exact h
 | b::r,p,ok,hp,g,h=>by
  obtain ⟨f1,f2⟩:=M6.mp ok.fall;unfold qDT
  split
  ·rename_i c
   have gj:=hG p b h (g b A8) (by omega) (c.elim .inr .inl)
   cases r with
   | nil=>exact fun a ha=>by rw [A4.mp ha];exact gj
   | cons a r=>
    have ps:∀ x ∈ b::a::r,0<x.g:=ok.pos.resolve_left (by simp)
    have hb:=ps b A8;exact qO5 hG (a::r) (qCE p b) ⟨.inr fun x hx=>ps x (A5 _ hx),f2,ok.hf.2⟩ (by show 0<p.g+b.g;omega) (fun x hx=>g x (A5 _ hx)) gj
  ·intro a ha;rcases B5.mp ha with e | e
   ·rw [e];exact h
   ·exact g a e
theorem qRD {G:Prt->Prop} (hG:∀ a b,G a->G b->0<=a.g->(b.g<=0\/a.r<=a.g+b.r)->G (qCE a b)) {root:Prt} (gr:G root):∀ ps:List Prt,(∀ p ∈ ps,0<p.g)->(∀ p ∈ ps,G p)->∀ a ∈ frun (ps++[root]),G a
 | [],_,_=>fun a ha=>by rw [A4.mp ha];exact gr
 | p::ps,h,g=>by
  have k:=qQ1 root ps fun x hx=>h x (A5 _ hx);exact qO5 hG _ p k.1 (h p A8) (qRD hG gr ps (fun x hx=>h x (A5 _ hx)) fun x hx=>g x (A5 _ hx)) (g p A8)
section
variable {Ae:List (List Int)} {ws zs:List Int} {work:Int}
theorem qUQ (T:TIn Ae zs work) (w1:Wd1 Ae ws) {z:Int} (hz:z ∈ zs) {F:Int->List Prt} (h:∀ y ∈ nd Ae z,PrtOk Ae ws y (F y)) {srt:List Prt} (p:srt.Perm ((nd Ae z).map F).flatten) (s:srt.Pairwise fun a b=>kyS a.s<=kyS b.s) :
  PrtOk Ae ws z (frun (srt++[qEG Ae ws z]))/\hfal (frun (srt++[qEG Ae ws z])):=by
 have PJ:=qKV T w1 hz h p s;have zb:=T.N.1.in_ z hz;have wz:=w1 z zb.1 zb.2;have from_:∀ q ∈ srt,∃ y ∈ nd Ae z,q ∈ F y:=fun q hq=>by
  obtain ⟨l,hl,hql⟩:=F7.mp (p.mem_iff.mp hq);obtain ⟨y,hy,rfl⟩:=D6.mp hl;exact ⟨y,hy,hql⟩
 have pos:∀ q ∈ srt,0<q.g:=fun q hq=>by
  obtain ⟨y,hy,hm⟩:=from_ q hq;exact (h y hy).pos q hm
 have sm:gns (srt.map Prt.s)=sumW ws (nd Ae z):=by rw [qIT (p.map _)];exact qII h
 obtain ⟨_,_,_,j4⟩:=qNZ (p:=qEG Ae ws z) pos (by rw [sm];show 0<wdO ws z - sumW ws (nd Ae z)+_;omega)
 obtain ⟨k1,k2,k3⟩:=qQ1 (qEG Ae ws z) srt pos;have ew:qAB (frun (srt++[qEG Ae ws z]))=qAB (jrun [] (srt++[qEG Ae ws z])).reverse:=k3.trans j4.symm;have sum:gns ((frun (srt++[qEG Ae ws z])).map Prt.s)=wdO ws z:=by
  rw [k2.gns,A9,qFE,sm];show _+(wdO ws z - sumW ws (nd Ae z)+0)=_;omega
 refine ⟨⟨?_,?_,k1.fall,sum,by rw [ew];exact PJ.ord,by rw [ew];exact PJ.best⟩,k1.hf⟩
 ·refine qRD (G:=fun q=>Eqv [q.s] (stps Ae ws q.wks)) (fun a b ga gb g0 c=>?_) (.rfl' _) srt pos fun q hq=>?_
  ·show Eqv [qUJ a.s b.s] (stps Ae ws (a.wks++b.wks));rw [qFX];exact (qIZ (a:=a.s) (b:=b.s) g0 c).tr (ga.app gb)
  ·obtain ⟨y,hy,hm⟩:=from_ q hq;exact (h y hy).eqv q hm
 ·rcases k1.pos with l | l
  ·intro x hx
   match e:frun (srt++[qEG Ae ws z]),l,hx,sum with
   | [a],_,hx,sum=>
    rw [A4.mp hx];have:a.g+0=wdO ws z:=sum;omega
   | _::_::_,l,_,_=>simp at l
  ·exact l
theorem qOV:∀ (ps:List Prt) (m d:Int),hfal ps->(∀ p r,ps=p::r->d+p.r<=m)->Belo m d (ps.map Prt.s)
 | [],_,_,_,_=>trivial
 | [p],m,d,_,h=>⟨h p [] rfl,trivial⟩
 | a::b::r,m,d,hf,h=>by
  have ha:=h a (b::r) rfl;refine ⟨ha,qOV (b::r) m (d+a.g) hf.2 fun p r' e=>?_⟩;cases e;have:=hf.1;omega
theorem qX6 (T:TIn Ae zs work) {ps:List Prt} (h:PrtOk Ae ws work ps) (hf:hfal ps):∃ p r,ps=p::r/\FewW Ae ws work p.r:=by
 cases ps with
 | nil=>exact absurd rfl h.ord.ne
 | cons p r=>
  have ev:=qME h.eqv;refine ⟨p,r,rfl,⟨_,h.ord,?_⟩,fun l n O n0 b=>?_⟩
  ·have b:=qOV (p::r) p.r 0 hf fun q r' e=>by cases e;omega
   exact ev.2.low b
  ·have b2:=ev.1.low ((h.best l O).low b);have b3:0+0+0+p.r<=n:=b2.1;omega
theorem qZL (T:TIn Ae zs work) {y:Int} (hy:y ∈ zs):isT Ae y:=by
 obtain ⟨yy,NY,sy⟩:=qDF T hy;refine ⟨yy,NY,?_⟩;unfold qN0;rw [O2];intro x hx;rw [decide_eq_true_eq];intro ne;have nd1:(nds Ae yy).Nodup:=qQ2 T yy NY.1.nodup sy;have mem:x ∈ nds Ae yy:=by
  have h:=(NY.2 x).mp hx;cases h with
  | ask m=>exact absurd (A4.mp m) ne
  | @need w _ ys hw e hm=>exact F7.mpr ⟨_,D6.mpr ⟨w,(NY.2 w).mpr hw,rfl⟩,by rw [qAF e];exact hm⟩
 unfold cI;rw [List.Nodup.count nd1,if_pos mem]
 rfl
theorem qVT {s u v:List Stp} (h:Shu s u v):∀ {m d e:Int},Belo m (d+e) v->(∀ i,i<=u.length->0<=e+gns (u.take i))->Belo m d s:=by
 induction h with
 | nil=>intros;trivial
 | @left a s u v _ ih=>
  intro m d e b k;have k0:=k 0 (D7 _);have k0:0<=e+0:=k0;have b1:=b.1;refine ⟨by omega,ih (e:=e) ?_ k⟩
  have:=b.2
  rwa [show d+e+a.2=d+a.2+e by omega] at this
 | @right a s u v _ ih=>
  intro m d e b k;refine ih (e:=e+a.2) ?_ fun i hi=>?_
  ·have:=b.2
   rwa [show d+e+a.2=d+(e+a.2) by omega] at this
  ·have:=k (i+1) (by rw [D1];omega)
   have:0<=e+(a.2+gns (u.take i)):=this;omega
theorem qW9 {l X:List Int} (nx:X.Nodup) (nl:l.Nodup) (h:∀ x ∈ X,x ∈ l) (w:∀ x ∈ l,0<=wdO ws x):sumW ws X<=sumW ws l:=by
 have p:(l.filter fun x=>decide (x ∈ X)).Perm X:=(Y8 (nl.filter _) nx).mpr fun x=>by
  rw [F9,decide_eq_true_eq];exact ⟨fun z=>z.2,fun z=>⟨h x z,z⟩⟩
 have le:∀ (q:Int->Bool) (l:List Int),(∀ x ∈ l,0<=wdO ws x)->sumW ws (l.filter q)<=sumW ws l:=by
  intro q l
  induction l with
  | nil=>exact fun _=>F4 _
  | cons x l ih=>
   intro w;have a:=ih fun y hy=>w y (A5 _ hy);have b:=w x A8;rw [O1,qB5]
   split
   ·rw [qB5];omega
   ·omega
 have:=le (fun x=>decide (x ∈ X)) l w;rw [qGO p] at this;exact this
theorem qS2 (T:TIn Ae zs work) (w1:Wd1 Ae ws) {L:List Int} {m y:Int} (O:OrdT Ae work L) (b:Belo m 0 (stps Ae ws L)) (hy:y ∈ nd Ae work):∃ A,OrdT Ae y A/\Belo m 0 (stps Ae ws A):=by
 classical
 have hw:work ∈ zs:=(T.N.2 work).mpr (.ask (A4.mpr rfl));obtain ⟨l',rfl,nl,ml,tl⟩:=O.last T hw;have b':=(belo_snoc.mp b).1;have inz:∀ x ∈ l',x ∈ zs:=fun x hx=>(T.N.2 x).mpr ((O.mem x).mp (Q5 _ hx));have BO:Begun Ae zs (l'++[work]):=(qTU T.wf T.N O).1;have nw:work ∉ l':=BO.front.2.2.1;have bl:=BO.front.1;refine ⟨l'.filter fun x=>decide (Nd Ae [y] x),⟨nl.filter _,fun x=>?_,tl.sublist Q9⟩,?_⟩
 ·rw [F9,decide_eq_true_eq];exact ⟨fun h=>h.2,fun h=>⟨(ml x).mpr ⟨y,hy,h⟩,h⟩⟩
 ·refine qVT (qFY (fun x=>decide (Nd Ae [y] x)) (stp Ae ws) l') (d:=0) (e:=0) b' fun i hi=>?_;generalize hB:(l'.filter fun x=>!decide (Nd Ae [y] x))=B at hi;rw [<- A92];show 0<=0+gns (stps Ae ws (B.take i));rw [qRA];have nB:B.Nodup:=by rw [<- hB];exact nl.filter _
  have inB:∀ x ∈ B,x ∈ l'/\¬ Nd Ae [y] x:=fun x hx=>by
   rw [<- hB,F9] at hx;exact ⟨hx.1,by simpa using hx.2⟩
  have tB:B.Pairwise (fun a b=>b ∉ nd Ae a):=by rw [<- hB];exact tl.sublist Q9
  have sub:∀ x ∈ (B.take i).flatMap (nd Ae),x ∈ B.take i:=fun x hx=>by
   obtain ⟨o,ho,hxo⟩:=A65.mp hx;have oB:=J7 ho;obtain ⟨ol,on⟩:=inB o oB;have xl:x ∈ l':=bl.has ol hxo;have xn:¬ Nd Ae [y] x:=fun h=>by
    by_cases e:x=y
    ·subst e;have:=T.user (inz o ol) hw hxo hy;exact nw (this ▸ ol)
    ·cases h with
     | ask m=>exact e (A4.mp m)
     | @need u _ ys hu eu hm=>
      have hu2:u ∈ zs:=T.sub (T.has hw hy).1 hu;have:=T.user (inz o ol) hu2 hxo (by rw [qAF eu];exact hm)
      exact on (this ▸ hu)
   have xB:x ∈ B:=by rw [<- hB,F9];exact ⟨xl,by simpa using xn⟩
   obtain ⟨p,hp,ep⟩:=U5 xB;obtain ⟨q,hq,eq⟩:=V8.mp ho;by_cases c:p<q
   ·rw [<- ep];exact V8.mpr ⟨p,by omega,rfl⟩
   ·exfalso
    by_cases c2:p=q
    ·subst c2;have:x=o:=by rw [<- ep,<- eq]
     have:=(T.has (inz o ol) hxo).2.1;omega
    ·have:=F0.mp tB q p (by omega) hp (by omega)
     rw [ep,eq] at this;exact this hxo
  have wp:∀ x ∈ B.take i,0<=wdO ws x:=fun x hx=>by
   have h:=inz x (inB x (J7 hx)).1;have:=w1 x (T.N.1.in_ x h).1 (T.N.1.in_ x h).2;omega
  have:=qW9 (ws:=ws) (qQ2 T (B.take i) (nB.sublist (W5 _ _)) fun x hx=>inz x (inB x (J7 hx)).1) (nB.sublist (W5 _ _)) sub wp;omega
theorem qZ5 {m M y:Int} {L:List Int} (T:TIn Ae zs work) (w1:Wd1 Ae ws) (F:FewW Ae ws work m) (hy:y ∈ nd Ae work) {zy:List Int} (TY:TIn Ae zy y) (B:Best Ae ws y L) (e:topD none (qCB Ae ws L)=some M):M<=m:=by
 obtain ⟨⟨l,O,b⟩,_⟩:=F;obtain ⟨A,OA,bA⟩:=qS2 T w1 O b hy;have t:=qLH e;rw [B.1.run TY] at t;exact (qG4 L (0+0)).mp ((B.2 A OA).low bA) M t.1
end
def hlv:Int->List Prt->List (Int × Int)
 | _,[]=>[]
 | d,p::ps=>(d+p.r,d+p.g)::hlv (d+p.g) ps
theorem qHO:∀ (ps:List Prt) (d:Int),(hlv d ps).length=ps.length
 | [],_=>rfl
 | p::ps,d=>by show (hlv (d+p.g) ps).length+1=_;rw [qHO ps];rfl
theorem qPZ:∀ (a b:List Prt) (d:Int),hlv d (a++b)=hlv d a++hlv (d+gns (a.map Prt.s)) b
 | [],b,d=>by show hlv d b=hlv (d+0) b;rw [n8]
 | p::a,b,d=>by
  show (d+p.r,d+p.g)::hlv (d+p.g) (a++b)=(d+p.r,d+p.g)::(hlv (d+p.g) a++hlv (d+(p.g+gns (a.map Prt.s))) b);rw [qPZ a b,show d+(p.g+gns (a.map Prt.s))=d+p.g+gns (a.map Prt.s) by omega]
theorem qPY:∀ (ps:List Prt) (d:Int) (k:Nat) (p:Prt),ps[k]?=some p->(hlv d ps)[k]?=some (d+gns ((ps.take k).map Prt.s)+p.r,d+gns ((ps.take k).map Prt.s)+p.g)
 | [],_,_,_,h=>by simp at h
 | q::ps,d,0,p,h=>by
  cases h;show some (d+q.r,d+q.g)=some (d+0+q.r,d+0+q.g);rw [n8]
 | q::ps,d,k+1,p,h=>by
  have:=qPY ps (d+q.g) k p h;show (hlv (d+q.g) ps)[k]?=some (d+(q.g+gns ((ps.take k).map Prt.s))+p.r,d+(q.g+gns ((ps.take k).map Prt.s))+p.g);rw [this,show d+(q.g+gns ((ps.take k).map Prt.s))=d+q.g+gns ((ps.take k).map Prt.s) by omega]
theorem qMB {ps:List Prt} {k:Nat} {p:Prt} (h:ps[k]?=some p):gns ((ps.take (k+1)).map Prt.s)=gns ((ps.take k).map Prt.s)+p.g:=by
 rw [C2,h,B9,A9,qFE];show _+(p.g+0)=_;omega
theorem qK2:∀ (R:List Prt) (p:Prt),(qDT p R).length<=R.length+1
 | [],p=>B0 _
 | b::r,p=>by
  unfold qDT
  split
  ·have:=qK2 r (qCE p b);rw [D1];omega
  ·simp
theorem qRC:∀ ps:List Prt,(frun ps).length<=ps.length
 | []=>B0 _
 | p::ps=>by
  have:=qRC ps;have:=qK2 (frun ps) p;show (qDT p (frun ps)).length<=_;rw [D1];omega
def HV (H:Hp) (r:Addr) (z:Int × Int):Prop:=H r=some (.tup [.int z.1,.int z.2])
abbrev HVL (H:Hp) (rs:List Addr) (zs:List (Int × Int)):Prop:=Paired (HV H) rs zs
theorem HVL.same {H H':Hp} {rs:List Addr} {zs:List (Int × Int)} (h:HVL H rs zs) (s:Same H H'):HVL H' rs zs:=qAN h fun _ _ e=>s _ _ e
theorem HVL.put {H:Hp} {rs:List Addr} {zs:List (Int × Int)} {N:Addr} {xs:List V} {o:HO} (h:HVL H rs zs) (g:H N=some (.lst xs)):HVL (upd H N o) rs zs:=qAN h fun r z e=>by
 show upd H N o r=_;rw [qA8 (qBM e g (by intro z;cases z))]
 exact e
theorem HVL.dict {H:Hp} {rs:List Addr} {zs:List (Int × Int)} {N:Addr} {xs:List (Key × V)} {o:HO} (h:HVL H rs zs) (g:H N=some (.dK xs)):HVL (upd H N o) rs zs:=qAN h fun r z e=>by
 show upd H N o r=_;rw [qA8 (qBM e g (by intro z;cases z))]
 exact e
def trp (p:Prt):List Int:=[p.r - p.g,p.r,p.g]
theorem qQ3 {ps:List Prt} {ts:List (List Int)} (p:ts.Perm (ps.map trp)) (s:ts.Pairwise (fun a b=>HT.lexLt a b=false)):∃ srt:List Prt,srt.Perm ps/\ts=srt.map trp/\srt.Pairwise (fun a b=>kyS a.s<=kyS b.s):=by
 obtain ⟨srt,p2,e⟩:=L2.G.perm_map_inv p ps rfl;refine ⟨srt,p2,e,?_⟩;rw [e,F3] at s;refine s.imp fun {a b} z=>?_;have z:HT.lexLt (trp a) (trp b)=false:=z;unfold trp at z;rw [HT.lexLt_cons] at z;show a.g - a.r<=b.g - b.r
 split at z
 ·omega
 ·have:=of_decide_eq_false z;omega
def qN3:Sp:=fun vs H Q _=>∃ (l:Addr) (rs:List Addr) (ps:List Prt),vs=[.ref l]/\H l=some (.lst (rs.map V.ref))/\HVL H rs (hlv 0 ps)/\ps.length<=200/\
 ∀ (l':Addr) (rs':List Addr) (H':Hp),Same H H'->H l'=none->H' l'=some (.lst (rs'.map V.ref))->HVL H' rs' (hlv 0 (frun ps))->Q (.ref l') H'
def qJF:Sp:=fun vs H Q _=>∃ d c t ns a Ae work,vs=[.ref d,.ref a,.int work]/\StAt H d c t ns/\t<=TB - 1000/\NetAt H a Ae/\WFn Ae/\Ae.length<=63/\0<=work/\work<(Ae.length:Int)/\
 ∀ (l:Addr) (zs:List Int) (t':Int) (ns':List Int) (H':Hp),StAt H' d c t' ns'->t<=t'->t'<=t+400->Keep d c H H'->H l=none->H' l=some (.lst (zs.map V.int))->TopO Ae zs->zs.length<=63->OrdT Ae work zs->Q (.ref l) H'
def qT2:Sp:=fun vs H Q _=>∃ (a t:Addr) (Ae:List (List Int)) (ws:List Int) (work:Int),vs=[.ref a,.ref t,.int work]/\qQF H a t Ae ws work/\Ae.length<=60/\
 ∀ (l:Addr) (rs:List Addr) (ps:List Prt) (H':Hp),Same H H'->H' l=some (.lst (rs.map V.ref))->HVL H' rs (hlv 0 ps)->PrtOk Ae ws work ps->hfal ps->Q (.ref l) H'
section
variable {P:Program} {w:World} {K:PySem.W.Frag} {mg:Str->Option Value} {base:Heap} {f:Addr} {fd:FuncData}
theorem sc_Lbegin:FnScope ["_law_script","_law_cells"] ["_law_script"] (qAE qIQ):=⟨rfl,rfl,rfl,by decide +kernel,rfl,by decide +kernel,by decide +kernel⟩
theorem ok_Lbegin (F:Fun K "_law_begin" "_law_begin" qIQ f fd) (qCL:mg "list" = none):FnOk P w K mg base CX0 1 f fd ["_law_script"] (qT3 K):=by
 refine F.ok sc_Lbegin (fun vs H Q E h=>?_) (fun cdv A outer s H vs Q E hr h=>?_)
 ·obtain ⟨a,ns,rfl,_⟩:=h
  rfl
 obtain ⟨a,ns,rfl,hS,h63,q⟩:=h;have hu:=qJZ hr;have hu0:=hr.units0;refine ⟨_,(qA4 (qAG (i:=1) sc_Lbegin.nd rfl (D2 rfl) (qAL qI5 rfl qCL qHR (qA0 (qGV qJG (pv 0) qJK (qHI qA7)) qA3))) (qA4 (qCK (qAS (qTZ hu0) (pv 1) (qBA qA3) (qB1 _)) (qA6 (qAG (i:=1) sc_Lbegin.nd rfl (D2 rfl) (qBA (qA0 qA7 qA3)))) qAV) (qA6 (qAR (qZ0 (qQV qJL (pv 1) (qQV qJL qA7 qYZ)) rfl rfl (by simp) (by decide)))))),?_⟩
 try dsimp only [Cx.nox,Cx.wish,cxOf]
 refine ⟨_,rfl,_,rfl,a,_,rfl,hS,fun p hp=>?_⟩;rw [qHB];have hl:(cutI ns none (some 63)).length<=63:=L6 (qXF _ _ _) h63;refine ⟨p,_,rfl,.inl (SqL.of qA1),fun c hc=>?_⟩;have s1:Same H (upd (upd H p (.lst ((cutI ns none (some 63)).map V.int))) c (.lst ((cutI ns none (some 63)).map V.int))):=(qA2 hp _).trans (qA2 hc _);refine ⟨_,rfl,(by show 0<=sizeLine;decide),fun e he=>?_⟩
 have hce:c ≠ e:=qA5 qA1 he;refine ⟨c,e,_,rfl,rfl,SqL.of (by rw [qA8 hce];exact qA1),SqL.of qA1,_,rfl,?_⟩
 have s2:=s1.trans (qA2 he (.lst []));cases hm:cutI ns none (some 63) with
 | nil=>
  rw [hm] at s2 he;refine iteT ?_;refine ⟨(by show 1<=sizeLine;decide),fun c2 hc2=>?_⟩
  have s3:=s2.trans (qA2 hc2 (.lst [.int 7]));intro d hd;refine ⟨_,rfl,?_⟩;have s4:=s3.trans (qA2 hd (.dK []));refine ⟨qA1,[(P5 (D3 "cells"),.ref c2),(P5 (D3 "turn"),.int 0)],rfl,(by show 2<=15;decide),?_⟩
  have ncd:c2 ≠ d:=qA5 qA1 hd;refine q d c2 [7] _ ⟨?_,?_,by decide,by decide,by decide⟩ ?_ ?_ ?_
  ·rw [qA1,qY1]
  ·rw [qA8 ncd,qA8 ncd];exact qA1
  ·rw [qJ9];exact s3.trans (qA2 hd _)
  ·exact s3.free hd
  ·exact s2.free hc2
 | cons x r=>
  rw [hm] at s2 he hl;refine iteF ?_;intro d hd;refine ⟨_,rfl,?_⟩;refine ⟨qA1,[(P5 (D3 "cells"),.ref c),(P5 (D3 "turn"),.int 0)],rfl,(by show 2<=15;decide),?_⟩
  have gc:(upd (upd (upd H p (.lst ((x::r).map V.int))) c (.lst ((x::r).map V.int))) e (.lst [])) c=some (.lst ((x::r).map V.int)):=by rw [qA8 hce];exact qA1
  have ncd:c ≠ d:=qA5 gc hd;refine q d c (x::r) _ ⟨?_,?_,by simp,hl,by decide⟩ ?_ ?_ ?_
  ·rw [qA1,qY1]
  ·rw [qA8 ncd,qA8 ncd];exact gc
  ·rw [qJ9];exact s2.trans (qA2 hd _)
  ·exact s2.free hd
  ·rw [hm] at hc;exact (qA2 hp _).free hc
theorem sc_Ltake:FnScope ["_law_state","_law_many","_law_turn","_law_place","_law_cell","_law_digit","_law_mixed"] ["_law_state","_law_many"] (qAE qLR):=⟨rfl,rfl,rfl,by decide +kernel,rfl,by decide +kernel,by decide +kernel⟩
theorem ok_Ltake (F:Fun K "_law_take" "_law_take" qLR f fd) (qBQ:mg "len" = none) (qFV:mg "divmod" = none):FnOk P w K mg base CX0 1 f fd ["_law_state","_law_many"] qHW:=by
 refine F.ok sc_Ltake (fun vs H Q E h=>?_) (fun cdv A outer s H vs Q E hr h=>?_)
 ·obtain ⟨d,c,t,ns,m,rfl,_⟩:=h
  rfl
 obtain ⟨d,c,t,ns,m,rfl,S,ht,hm1,hm2,q⟩:=h;have hu:=qJZ hr;refine ⟨_,(qA4 (qAG (i:=2) sc_Ltake.nd rfl (D2 rfl) (qAJ qBW (qD8 hu (pv 0) qJL (fun _ _=>rfl)) qA7)) (qA4 (qEL hu (pv 0) qJL (pv 2) rfl) (qA4 (qAG (i:=3) sc_Ltake.nd rfl (D2 rfl) (qAJ qJN (pv 2) (qAA qAI rfl qBQ qD7 (qA0 (qD8 hu (pv 0) qJL (fun _ _=>rfl)) qA3)))) (qA4 (qAG (i:=4) sc_Ltake.nd rfl (D2 rfl) (qAW qCP (qD8 hu (pv 0) qJL (fun _ _=>rfl)) (pv 3) (fun _ _=>rfl))) (qA4 (qCK (qAS qWN (pv 4) (qAJ qb1 qA7 qA7) (qB1 _)) (qA4 (qKU (qAA qQ6 rfl qFV qVP (qA0 (pv 4) (qA0 (pv 1) qA3))) (qGU rfl (qB3 (qTN (qD8 hu (pv 0) qJL (fun _ _=>rfl)) (pv 3) qIL) (qB3 (qA9 (i:=5) sc_Ltake.nd rfl (D2 rfl)) qEA)))) (qA6 (qAR (pv 5)))) qAV) (qA4 (qAG (i:=6) sc_Ltake.nd rfl (D2 rfl) (qAJ qJN (qAJ qKX (qAJ qBW (qAJ qBW (qAJ qJN (pv 4) qA7) (qAJ qKX (qAJ qKX (pv 2) (pv 2)) qA7)) qA7) qA7) qA7)) (qA4 (qAG (i:=6) sc_Ltake.nd rfl (D2 rfl) (qAJ qJN (qAJ qKX (pv 6) (pv 6)) qA7)) (qA6 (qAR (qAJ qJN (qAJ qPM (qAJ qJN (qAJ qKX (qAJ qBW (pv 6) (qAJ qKX (pv 2) qA7)) qA7) qA7) qA7) (pv 1))))))))))),?_⟩
 try dsimp only [Cx.nox,Cx.wish,cxOf]
 have hpos:=S.pos;have hne:=S.ne;have ht':t<=1000000000:=ht;refine ⟨_,rfl,d,_,rfl,qZV S,_,_,rfl,rfl,?_⟩;refine ⟨_,rfl,_,rfl,d,_,rfl,qZT S,?_⟩;have S1:=S.turn (u:=t+1) (by omega)
 have k1:Keep d c H (upd H d (.dK [(P5 (D3 "cells"),.ref c),(P5 (D3 "turn"),.int (t+1))])):=fun b o e n _=>by rw [qA8 n];exact e
 generalize upd H d (.dK [(P5 (D3 "cells"),.ref c),(P5 (D3 "turn"),.int (t+1))])=H1 at S1 k1;have hlen:(((ns.map V.int).length:Nat):Int)=(ns.length:Int):=by rw [A0]
 refine ⟨_,rfl,_,rfl,d,_,rfl,qMG S1,c,_,rfl,.inl (SqL.of S1.list),_,_,rfl,rfl,(by rw [hlen];omega),?_⟩
 have p0:0<=(t+1) % (((ns.map V.int).length:Nat):Int):=Y1 _ (by rw [hlen];omega)
 have p1:(t+1) % (((ns.map V.int).length:Nat):Int)<(ns.length:Int):=by
  have:=V4 (t+1) (b:=(((ns.map V.int).length:Nat):Int)) (by rw [hlen];omega)
  rw [hlen] at this ⊢;exact this
 dsimp only;generalize (t+1) % (((ns.map V.int).length:Nat):Int)=pl at p0 p1;obtain ⟨j,rfl⟩:∃ j:Nat,pl=(j:Int):=⟨pl.toNat,by omega⟩
 have hj:j<ns.length:=by omega
 have hat:atI (ns.map V.int) (j:Int)=some (.int ns[j]):=qVY (by rw [B7,A1 hj];rfl)
 refine ⟨_,rfl,d,_,rfl,qMG S1,_,rfl,c,_,_,_,rfl,rfl,SqL.of S1.list,hat,?_⟩;generalize hx:ns[j]=x at hat ⊢;refine ⟨_,rfl,_,_,rfl,rfl,⟨by decide,by decide,by decide⟩,_,_,rfl,rfl,_,rfl,?_⟩
 refine ite2 (fun _=>?_) (fun _=>?_)
 ·-- a great cell
  refine ⟨_,rfl,_,rfl,x,m,rfl,⟨by omega,by omega⟩,fun p hp=>?_⟩
  have S2:=S1.new hp (.tup [.int (x / m),.int (x % m)]);have npc:p ≠ c:=(qA5 S1.list hp).symm;refine ⟨p,_,rfl,SqT.of qA1,rfl,_,_,rfl,?_⟩;refine ⟨_,rfl,d,_,rfl,qMG S2,_,rfl,c,_,_,j,rfl,rfl,S2.list,qPX (by rw [A0];exact hj),?_⟩
  refine ⟨_,_,rfl,rfl,?_⟩;refine ⟨_,rfl,?_⟩;have e1:(ns.map V.int).set j (.int (x / m))=(ns.set j (x / m)).map V.int:=by rw [A15]
  rw [e1];refine q (x % m) (ns.set j (x / m)) _ (Y1 _ (by omega)) (V4 _ (by omega)) (S2.put (by rw [k7])) ?_
  have k2:=k1.trans (qC3 (d:=d) (c:=c) hp (.tup [.int (x / m),.int (x % m)]));exact fun b o e n1 n2=>by rw [qA8 n2];exact k2 b o e n1 n2
 ·have b1:0<=x % 2147483629:=Y1 _ (by decide)
  have b2:x % 2147483629<2147483629:=V4 _ (by decide)
  refine ⟨_,rfl,_,_,rfl,rfl,(by show (0:Int)<2147483629;decide),_,rfl,_,rfl,_,_,rfl,rfl,.inl ⟨by omega,by omega⟩,_,_,rfl,rfl,.inr ⟨by decide,by decide⟩,_,_,rfl,rfl,_,_,rfl,rfl,_,_,rfl,rfl,.inr ⟨by decide,by decide⟩,_,_,rfl,rfl,(by show (0:Int)<2147483647;decide),?_⟩
  have c1:=Y1 ((x % 2147483629+(t+1) * (t+1) * 7919+11) * 48271) (b:=2147483647) (by decide)
  have c2:=V4 ((x % 2147483629+(t+1) * (t+1) * 7919+11) * 48271) (b:=2147483647) (by decide)
  dsimp only;generalize ((x % 2147483629+(t+1) * (t+1) * 7919+11) * 48271) % 2147483647=y at c1 c2;refine ⟨_,rfl,_,rfl,_,_,rfl,rfl,.inl ⟨by omega,by omega⟩,_,_,rfl,rfl,(by show (0:Int)<2147483587;decide),?_⟩
  dsimp only;generalize y * y % 2147483587=z;refine ⟨_,rfl,_,rfl,_,_,rfl,rfl,.inr ⟨by decide,by decide⟩,_,_,rfl,rfl,_,_,rfl,rfl,.inr ⟨by decide,by decide⟩,_,_,rfl,rfl,(by show (0:Int)<2147483629;decide),_,_,rfl,rfl,⟨by decide,by decide⟩,_,rfl,_,_,rfl,rfl,(by omega),?_⟩
  exact q _ ns _ (Y1 _ (by omega)) (V4 _ (by omega)) S1 k1
end
section
variable {P:Program} {w:World} {K:PySem.W.Frag} {mg:Str->Option Value} {base:Heap} {f:Addr} {fd:FuncData} {qCF:Addr} {qC8:FuncData}
theorem sc_Lsome_needs:FnScope ["_law_state","_law_k","_law_found","_law_turn","_law_far"] ["_law_state","_law_k"] (qAE qDA):=⟨rfl,rfl,rfl,by decide +kernel,rfl,by decide +kernel,by decide +kernel⟩
theorem ok_Lsome_needs (F:Fun K "_law_some_needs" "_law_some_needs" qDA f fd) (qAH:Clb P w K mg base 1 qCF qC8 "_law_take" ["_law_state","_law_many"] qHW)
  (qAP:mg "range" = none) (qI9:mg "min" = none) (qAM:mg "tuple" = none) (qAT:mg "sorted" = none) (qLG:mg "set" = none):FnOk P w K mg base CX0 2 f fd ["_law_state","_law_k"] qLL:=by
 refine F.ok sc_Lsome_needs (fun vs H Q E h=>?_) (fun cdv A outer s H vs Q E hr h=>?_)
 ·obtain ⟨d,c,t,ns,k,rfl,_⟩:=h
  rfl
 obtain ⟨d,c,t,ns,k,rfl,S,ht,hk0,hk1,q⟩:=h;have ht':t<=1000000000 - 20:=ht;have qX4:Room 1 _:=hr;refine ⟨_,(qA4 (qAG (i:=2) sc_Lsome_needs.nd rfl (D2 rfl) (qBA qA3)) (qA4 (qBC D0 rfl (qBZ rfl qAP (qA0 (qAX qAH hr rfl (qA0 (pv 0) (qA0 qA7 qA3))) qA3)) (qA9 (i:=3) sc_Lsome_needs.nd rfl (D2 rfl)) (qA4 (qAG (i:=4) sc_Lsome_needs.nd rfl (D2 rfl) (qAW qCP (qBA (qA0 (qAA (qON rfl) rfl qI9 qVO (qA0 (pv 1) (qA0 qA7 qA3))) (qA0 (pv 1) qA3))) (qAJ qPM (qAX qAH hr rfl (qA0 (pv 0) (qA0 qA7 qA3))) qA7) (fun _ _=>rfl))) (qA6 (qCK (qAS qZ1 (pv 1) qA7 (qB1 _)) (qA6 (qBY (qHJ D8 G4 G5 qC1 (pv 2) (qA0 (qAJ qCS (qAJ qCS (pv 1) qA7) (qAX qAH hr rfl (qA0 (pv 0) (qA0 (pv 4) qA3)))) qA3)))) qAV)))) (qA6 (qAR (qAL qAY rfl qAM qBI (qA0 (qAA (qK6 rfl) rfl qAT qDR (qA0 (qAL (qRM rfl) rfl qLG qYE (qA0 (pv 2) qA3)) qA3)) qA3)))))),?_⟩
 try dsimp only [Cx.nox,Cx.wish,cxOf]
 refine ⟨(by show 0<=sizeLine;decide),fun fo hfo=>?_⟩
 have S1:=S.new hfo (.lst []);have nd:fo ≠ d:=(qA5 S.dict hfo).symm;have nc:fo ≠ c:=(qA5 S.list hfo).symm;refine ⟨_,rfl,d,c,t,ns,5,rfl,S1,(by show t<=1000000000;omega),by decide,by decide,fun j ns1 H1 j0 j5 S2 K2=>?_⟩
 refine ⟨j,rfl,by omega,by omega,qH3 (lo:=0) (n:=j.toNat) (fun i σ Hc=>∃ (t':Int) (ms fs:List Int) (v1 v2:Option V),σ=[some (.ref d),some (.int k),some (.ref fo),v1,v2]/\StAt Hc d c t' ms/\t<=t'/\t'<=t+1+2 * i/\Keep d c H Hc/\
  Hc fo=some (.lst (fs.map V.int))/\fs.length<=i/\∀ x ∈ fs,0<=x/\x<k)
  ⟨t+1,ns1,[],none,none,rfl,S2,by omega,by omega,(qC3 hfo _).trans K2,K2 _ _ qA1 nd nc,B0 _,fun _ z=>nomatch z⟩ ?_ ?_⟩
 ·refine fun i σ Hc hi hI_1=>opq fun G_1 hG_1=>?_;obtain ⟨t',ms,fs,v1,v2,rfl,S3,a1,a2,K3,h3,l3,m3⟩:=hI_1;refine hG_1 ?_;have hi5:(i:Int)<5:=by omega
  -- far
  refine ⟨_,rfl,k,4,rfl,_,rfl,(by show 2<=sizeLine;decide),fun p hp=>?_⟩
  have S4:=S3.new hp (.lst [.int (if (4:Int)<k then 4 else k),.int k])
  have npd:p ≠ d:=(qA5 S3.dict hp).symm;have npc:p ≠ c:=(qA5 S3.list hp).symm;refine ⟨_,rfl,d,c,t',ms,4,rfl,S4,(by show t'<=1000000000;omega),by decide,by decide,fun k2 ms2 H2 g0 g4 S5 K5=>?_⟩
  obtain ⟨far,hfar,ef⟩:=qcJ (a:=if (4:Int)<k then 4 else k) (b:=k) g0 g4
  have far1:far<=k:=by rcases ef with e | e <;> (subst e;first | omega | (split <;> omega))
  have far2:0<k->1<=far:=fun hk=>by rcases ef with e | e <;> (subst e;first | omega | (split <;> omega))
  refine ⟨_,_,rfl,rfl,⟨by decide,by decide⟩,p,_,_,_,rfl,rfl,SqL.of (K5 _ _ qA1 npd npc),hfar,?_⟩
  have K6:=K3.trans ((qC3 (d:=d) (c:=c) hp (.lst [.int (if (4:Int)<k then 4 else k),.int k])).trans K5)
  have h6:H2 fo=some (.lst (fs.map V.int)):=K5 _ _ (by rw [qA8 (qA5 h3 hp)];exact h3) nd nc
  refine ⟨_,rfl,_,_,rfl,rfl,_,rfl,?_⟩;refine ite2 (fun ck=>?_) (fun ck=>?_)
  ·have hk:0<k:=of_decide_eq_true ck;refine ⟨_,rfl,.inl ⟨rfl,_,SqL.of h6⟩,_,rfl,_,_,rfl,rfl,_,rfl,_,rfl,d,c,t'+1,ms2,far,rfl,S5,(by show t'+1<=1000000000;omega),far2 hk,by omega,fun k3 ms3 H3 c0 c1 S6 K7=>?_⟩
   have h7:=K7 _ _ h6 nd nc;refine ⟨_,_,rfl,rfl,fo,_,_,rfl,rfl,h7,qAK (by rw [A0];omega),?_⟩
   have S8:StAt (upd H3 fo (.lst (fs.map V.int++[.int (k - 1 - k3)]))) d c (t'+1+1) ms3:=⟨by rw [qA8 (G6 nd)];exact S6.dict,by rw [qA8 (G6 nc)];exact S6.list,S6.ne,S6.len,S6.pos⟩
   have hH:H fo=none:=hfo;refine ⟨t'+1+1,ms3,fs++[k - 1 - k3],_,_,rfl,S8,by omega,by omega,fun b o e n1 n2=>?_,?_,?_,fun x hx=>?_⟩
   ·rw [qA8 (qA5 e hH)];exact (K6.trans K7) b o e n1 n2
   ·rw [qA1,A9];rfl
   ·rw [A6,C3];omega
   ·rcases E1.mp hx with hx | hx
    ·exact m3 x hx
    ·rw [A4.mp hx];omega
  ·exact ⟨t'+1,ms2,fs,_,_,rfl,S5,by omega,by omega,K6,h6,by omega,m3⟩
 ·refine fun σ Hc hI_2=>opq fun G_2 hG_2=>?_;obtain ⟨t',ms,fs,v1,v2,rfl,S3,a1,a2,K3,h3,l3,m3⟩:=hI_2;refine hG_2 ?_;refine ⟨_,rfl,fo,fs,rfl,SqL.of h3,by omega,fun a ha=>?_⟩
  have sm1:=qA2 ha (SetO w a (dedI fs));refine ⟨a,dedI fs,rfl,.inr (.inr qA1),X6 (qRJ fs) (by omega),fun b zs hb hp hs=>?_⟩
  have sm2:=sm1.trans (qA2 hb (.lst (zs.map V.int)));refine ⟨b,_,rfl,.inl ⟨SqL.of qA1,fun r hr'=>?_⟩⟩;have sm3:=sm2.trans (qA2 hr' (.tup (zs.map V.int)));exact q r zs t' ms _ (S3.same sm3) (by omega) (by omega) (K3.trans (.of_same sm3)) qA1 (qQT hp hs m3)
theorem sc_Ltree_net:FnScope ["_law_state","_law_many","_law_open_ones","_law_found","_law_k","_law_so_many"] ["_law_state","_law_many"] (qAE qEJ):=⟨rfl,rfl,rfl,by decide +kernel,rfl,by decide +kernel,by decide +kernel⟩
theorem ok_Ltree_net (F:Fun K "_law_tree_net" "_law_tree_net" qEJ f fd) (qAH:Clb P w K mg base 1 qCF qC8 "_law_take" ["_law_state","_law_many"] qHW)
  (qAP:mg "range" = none) (qI9:mg "min" = none) (qAM:mg "tuple" = none) (qBQ:mg "len" = none):FnOk P w K mg base CX0 2 f fd ["_law_state","_law_many"] qP9:=by
 refine F.ok sc_Ltree_net (fun vs H Q E h=>?_) (fun cdv A outer s H vs Q E hr h=>?_)
 ·obtain ⟨d,c,t,ns,m,rfl,_⟩:=h
  rfl
 obtain ⟨d,c,t,ns,m,rfl,S,ht,hm0,hm1,q⟩:=h;have ht':t<=1000000000 - 1000:=ht;have qX4:Room 1 _:=hr;refine ⟨_,(qA4 (qAG (i:=2) sc_Ltree_net.nd rfl (D2 rfl) (qBA qA3)) (qA4 (qAG (i:=3) sc_Ltree_net.nd rfl (D2 rfl) (qBA qA3)) (qA4 (qBC D0 rfl (qBZ rfl qAP (qA0 (qAJ qCS (pv 1) qA7) qA3)) (qA9 (i:=4) sc_Ltree_net.nd rfl (D2 rfl)) (qA4 (qAG (i:=5) sc_Ltree_net.nd rfl (D2 rfl) (qAA (qON rfl) rfl qI9 qVO (qA0 (qAA qAI rfl qBQ qD7 (qA0 (pv 2) qA3)) (qA0 (qAW qCP (qBA (qA0 qA7 (qA0 qA7 (qA0 qA7 (qA0 qA7 (qA0 qA7 (qA0 qA7 qA3))))))) (qAX qAH hr rfl (qA0 (pv 0) (qA0 qA7 qA3))) (fun _ _=>rfl)) qA3)))) (qA4 (qBY (qHJ D8 G4 G5 qC1 (pv 3) (qA0 (qAL qAY rfl qAM qBI (qA0 (qGV qJG (pv 2) (qHI (qAJ qCS (qAA qAI rfl qBQ qD7 (qA0 (pv 2) qA3)) (pv 5))) qJK) qA3)) qA3))) (qA6 (qAG (i:=2) sc_Ltree_net.nd rfl (D2 rfl) (qAJ qKY (qGV qJG (pv 2) qJK (qHI (qAJ qCS (qAA qAI rfl qBQ qD7 (qA0 (pv 2) qA3)) (pv 5)))) (qBA (qA0 (pv 4) qA3)))))))) (qA6 (qAR (qAL qAY rfl qAM qBI (qA0 (qAJ qKY (pv 3) (qBA (qA0 (qAL qAY rfl qAM qBI (qA0 (pv 2) qA3)) qA3))) qA3))))))),?_⟩
 try dsimp only [Cx.nox,Cx.wish,cxOf]
 refine ⟨(by show 0<=sizeLine;decide),fun o0 ho0=>?_⟩
 have S1:=S.new ho0 (.lst []);refine ⟨(by show 0<=sizeLine;decide),fun fo hfo=>?_⟩
 have S2:=S1.new hfo (.lst []);have nd:fo ≠ d:=(qA5 S1.dict hfo).symm;have nc:fo ≠ c:=(qA5 S1.list hfo).symm;have no0:o0 ≠ fo:=qA5 qA1 hfo;have hF:H fo=none:=(qA2 ho0 _).free hfo;refine ⟨_,rfl,_,_,rfl,rfl,m - 1,rfl,by omega,by omega,qH3 (lo:=0) (n:=(m - 1).toNat) (fun i σ Hc=>∃ (t':Int) (ms os:List Int) (o:Addr) (rs:List Addr) (Ae:List (List Int)) (v1 v2:Option V),σ=[some (.ref d),some (.int m),some (.ref o),some (.ref fo),v1,v2]/\StAt Hc d c t' ms/\t<=t'/\t'<=t+i/\Keep d c H Hc/\
  Hc o=some (.lst (os.map V.int))/\(o ≠ fo/\o ≠ c)/\Hc fo=some (.lst (rs.map V.ref))/\NetL Hc rs Ae/\Ae.length=i/\WFn Ae/\Rise (i:Int) os/\Opens Ae os)
  ⟨t,ns,[],o0,[],[],none,none,rfl,S2,by omega,by omega,(qC3 ho0 _).trans (qC3 hfo _),by rw [qA8 no0];exact qA1,⟨no0,(qA5 S.list ho0).symm⟩,qA1,.nil,rfl,WFn.nil,Rise.nil,Opens.nil⟩ ?_ ?_⟩
 ·refine fun i σ Hc hi hI_3=>opq fun G_3 hG_3=>?_;obtain ⟨t',ms,os,o,rs,Ae,v1,v2,rfl,S3,a1,a2,K3,h3,⟨n3,n3c⟩,f3,N3,l3,w3,r3,op3⟩:=hI_3;refine hG_3 ?_;have hlo:os.length<=i:=r3.len;refine ⟨_,rfl,o,_,rfl,.inl (SqL.of h3),(by show 6<=sizeLine;decide),fun p hp=>?_⟩
  have S4:=S3.new hp (.lst [.int 0,.int 0,.int 1,.int 2,.int 2,.int 3]);have npd:p ≠ d:=(qA5 S3.dict hp).symm;have npc:p ≠ c:=(qA5 S3.list hp).symm;refine ⟨_,rfl,d,c,t',ms,6,rfl,S4,(by show t'<=1000000000;omega),by decide,by decide,fun k2 ms2 H2 g0 g6 S5 K5=>?_⟩
  obtain ⟨v,hv,v0,v3⟩:=qcI g0 g6;refine ⟨p,_,_,_,rfl,rfl,SqL.of (K5 _ _ qA1 npd npc),hv,?_⟩;have sm:Same Hc (upd Hc p (.lst [.int 0,.int 0,.int 1,.int 2,.int 2,.int 3])):=qA2 hp _;have K6:=(Keep.of_same (d:=d) (c:=c) sm).trans K5;have nod:o ≠ d:=qBM h3 S3.dict (by intro z;cases z)
  have h6:H2 o=some (.lst (os.map V.int)):=K6 _ _ h3 nod n3c;have f6:H2 fo=some (.lst (rs.map V.ref)):=K6 _ _ f3 nd nc;have N6:NetL H2 rs Ae:=N3.keep (fun r zs e=>S3.tup e) K6;refine ⟨_,_,rfl,?_⟩;dsimp only;have so0:0<=(if v<(((os.map V.int).length:Nat):Int) then v else (((os.map V.int).length:Nat):Int)):=by split <;> omega
  have so1:(if v<(((os.map V.int).length:Nat):Int) then v else (((os.map V.int).length:Nat):Int))<=(os.length:Int):=by rw [A0];split <;> omega
  generalize (if v<(((os.map V.int).length:Nat):Int) then v else (((os.map V.int).length:Nat):Int))=so at so0 so1
  obtain ⟨kk,ek⟩:∃ kk:Nat,(os.length:Int) - so=(kk:Int):=⟨((os.length:Int) - so).toNat,by omega⟩
  have ek':(((os.map V.int).length:Nat):Int) - so=(kk:Int):=by rw [A0];exact ek
  have hkk:kk<=os.length:=by omega
  -- found.append(tuple(open_ones[len(open_ones) - so_many:]))
  refine ⟨_,rfl,.inl ⟨rfl,_,SqL.of f6⟩,_,rfl,_,rfl,o,_,rfl,.inl (SqL.of h6),_,rfl,_,_,rfl,rfl,_,rfl,o,_,rfl,SqL.of h6,fun p1 hp1=>?_⟩;refine ⟨p1,_,rfl,.inl ⟨SqL.of qA1,fun r hr1=>?_⟩⟩;rw [ek',qHB,qOH _ _ hkk] at hr1 ⊢;have sm1:=(qA2 hp1 (.lst ((os.drop kk).map V.int))).trans (qA2 hr1 (.tup ((os.drop kk).map V.int)));have f7:=sm1 _ _ f6;have h7:=sm1 _ _ h6;have N7:NetL _ (rs++[r]) (Ae++[os.drop kk]):=qCO (N6.same fun r zs e=>sm1 _ _ e) (show (upd (upd H2 p1 (.lst ((os.drop kk).map V.int))) r (.tup ((os.drop kk).map V.int))) r=some (.tup ((os.drop kk).map V.int)) from qA1);have S7:=S5.same sm1;have K7:=K6.trans (.of_same sm1);generalize (upd (upd H2 p1 (.lst ((os.drop kk).map V.int))) r (.tup ((os.drop kk).map V.int)))=H7 at f7 h7 N7 S7 K7 ⊢;refine ⟨fo,_,_,rfl,rfl,f7,qAK (by rw [A0,NetAt.len N3];omega),?_⟩
  have e8:rs.map V.ref++[V.ref r]=(rs++[r]).map V.ref:=by rw [A9];rfl
  rw [e8];have S8:StAt (upd H7 fo (.lst ((rs++[r]).map V.ref))) d c (t'+1) ms2:=⟨by rw [qA8 (G6 nd)];exact S7.dict,by rw [qA8 (G6 nc)];exact S7.list,S7.ne,S7.len,S7.pos⟩
  have h8:(upd H7 fo (.lst ((rs++[r]).map V.ref))) o=some (.lst (os.map V.int)):=by rw [qA8 n3];exact h7
  have N8:NetL (upd H7 fo (.lst ((rs++[r]).map V.ref))) (rs++[r]) (Ae++[os.drop kk]):=N7.same fun r' zs e=>by rw [qA8 (qBM e f7 (by intro z;cases z))];exact e
  have K8:Keep d c H (upd H7 fo (.lst ((rs++[r]).map V.ref))):=fun b u e n1 n2=>by rw [qA8 (qA5 e hF)];exact (K3.trans K7) b u e n1 n2
  have f8:(upd H7 fo (.lst ((rs++[r]).map V.ref))) fo=some (.lst ((rs++[r]).map V.ref)):=qA1;generalize upd H7 fo (.lst ((rs++[r]).map V.ref))=H8 at S8 h8 N8 K8 f8 ⊢
  -- open_ones=open_ones[:len(open_ones) - so_many]+[k]
  refine ⟨_,rfl,_,rfl,o,_,rfl,.inl (SqL.of h8),_,rfl,_,_,rfl,rfl,_,rfl,o,_,rfl,SqL.of h8,fun p2 hp2=>?_⟩;rw [ek',qHB,qVH];refine ⟨_,rfl,(by show 1<=sizeLine;decide),fun p3 hp3=>?_⟩
  have n23:p2 ≠ p3:=qA5 qA1 hp3;refine ⟨p2,p3,_,_,rfl,rfl,by rw [qA8 n23];exact qA1,qA1,R1 (qAK (by rw [A0,D4,C3];omega)),fun p4 hp4=>?_⟩
  have sm2:=((qA2 hp2 (.lst ((os.take kk).map V.int))).trans (qA2 hp3 (.lst [.int (0+(i:Int))]))).trans (qA2 hp4 (.lst ((os.take kk).map V.int++[.int (0+(i:Int))])));have e9:(os.take kk).map V.int++[V.int (0+(i:Int))]=(os.take kk++[(i:Int)]).map V.int:=by rw [A9,W8];rfl
  have nf4:p4 ≠ fo:=(qA5 ((qA2 hp3 _) _ _ ((qA2 hp2 _) _ _ f8)) hp4).symm;have nc4:p4 ≠ c:=(qA5 ((qA2 hp3 _) _ _ ((qA2 hp2 _) _ _ S8.list)) hp4).symm;refine ⟨t'+1,ms2,os.take kk++[(i:Int)],p4,rs++[r],Ae++[os.drop kk],_,_,rfl,S8.same sm2,by omega,by omega,K8.trans (.of_same sm2),by rw [<- e9];exact qA1,⟨nf4,nc4⟩,sm2 _ _ f8,N8.same fun r' zs e=>sm2 _ _ e,by rw [A6,C3,l3],w3.snoc ?_,?_,?_⟩
  ·rw [l3];exact r3.sub (A54 _ _)
  ·have:=(r3.sub (W5 kk os)).snoc (by omega)
   rw [show ((i+1:Nat):Int)=(i:Int)+1 by omega]
   exact this
  ·have:=op3.step (kk:=kk) w3 (by rw [l3];exact r3)
   rw [l3] at this;exact this
 ·refine fun σ Hc hI_4=>opq fun G_4 hG_4=>?_;obtain ⟨t',ms,os,o,rs,Ae,v1,v2,rfl,S3,a1,a2,K3,h3,⟨n3,n3c⟩,f3,N3,l3,w3,r3,op3⟩:=hI_4;refine hG_4 ?_;refine ⟨_,rfl,_,rfl,o,_,rfl,.inl ⟨SqL.of h3,fun r hr1=>?_⟩⟩;refine ⟨(by show 1<=sizeLine;decide),fun p hp=>?_⟩
  have sm1:=(qA2 hr1 (.tup (os.map V.int))).trans (qA2 hp (.lst [.ref r]));refine ⟨fo,p,_,_,rfl,rfl,sm1 _ _ f3,qA1,R1 (qAK (by rw [A0,NetAt.len N3,C3];omega)),fun p2 hp2=>?_⟩
  refine ⟨p2,_,rfl,.inl ⟨SqL.of qA1,fun a ha=>?_⟩⟩;have sm2:=(sm1.trans (qA2 hp2 (.lst (rs.map V.ref++[.ref r])))).trans (qA2 ha (.tup (rs.map V.ref++[.ref r])));have gr:=(qA2 ha (.tup (rs.map V.ref++[.ref r]))) _ _ ((qA2 hp2 (.lst (rs.map V.ref++[.ref r]))) _ _ ((qA2 hp (.lst [.ref r])) r _ (qA1 (H:=Hc) (o:=.tup (os.map V.int)))));have e8:rs.map V.ref++[V.ref r]=(rs++[r]).map V.ref:=by rw [A9];rfl
  refine q a (Ae++[os]) t' ms _ (S3.same sm2) (by omega) (by omega) (K3.trans (.of_same sm2)) ⟨rs++[r],by rw [<- e8];exact qA1,qCO (N3.same fun r' zs e=>sm2 _ _ e) gr⟩ (w3.snoc (by rw [l3];exact r3)) ?_ ?_
  ·rw [A6,C3,l3];omega
  ·exact (op3.step (kk:=0) w3 (by rw [l3];exact r3)).1
end
section
variable {P:Program} {w:World} {K:PySem.W.Frag} {mg:Str->Option Value} {base:Heap} {f:Addr} {fd:FuncData} {qCF:Addr} {qC8:FuncData} {qCA:Addr} {qCZ:FuncData} {qCV:Addr} {qE1:FuncData}
theorem sc_Lnet:FnScope ["_law_state","_law_many","_law_way","_law_wide","_law_some","_law_half"] ["_law_state","_law_many"] (qAE qQQ):=⟨rfl,rfl,rfl,by decide +kernel,rfl,by decide +kernel,by decide +kernel⟩
theorem ok_Lnet (F:Fun K "_law_net" "_law_net" qQQ f fd) (qAH:Clb P w K mg base 1 qCF qC8 "_law_take" ["_law_state","_law_many"] qHW)
  (qB9:Clb P w K mg base 2 qCA qCZ "_law_some_needs" ["_law_state","_law_k"] qLL)
  (qC2:Clb P w K mg base 2 qCV qE1 "_law_tree_net" ["_law_state","_law_many"] qP9)
  (qAP:mg "range" = none) (qDS:mg "max" = none) (qF3:mg "int" = none) (qBT:mg "enumerate" = none) (qAM:mg "tuple" = none) (qAT:mg "sorted" = none) (qLG:mg "set" = none):FnOk P w K mg base CX0 3 f fd ["_law_state","_law_many"] qaI:=by
 refine F.ok sc_Lnet (fun vs H Q E h=>?_) (fun cdv A outer s H vs Q E hr h=>?_)
 ·obtain ⟨d,c,t,ns,m,rfl,_⟩:=h
  rfl
 obtain ⟨d,c,t,ns,m,rfl,S,ht,hm0,hm1,q⟩:=h;have ht':t<=1000000000 - 10000:=ht;have qW3:Room 2 _:=hr;have qY6:Room 2 _:=hr;refine ⟨_,(qA4 (qAG (i:=2) sc_Lnet.nd rfl (D2 rfl) (qAX qAH hr rfl (qA0 (pv 0) (qA0 qA7 qA3)))) (qA4 (qAG (i:=3) sc_Lnet.nd rfl (c8 rfl) (qAJ qBW qA7 (qAX qAH hr rfl (qA0 (pv 0) (qA0 qA7 qA3))))) (qA4 (qCK (qAS qGW (pv 2) qA7 (qB1 _)) (qA6 (qAR (qAL qAY rfl qAM qBI (qA0 (qEM rfl (lcs (own:=["_law_k"]) (fv:=[3]) (by kernel_rfl)) (qBZ rfl qAP (qA0 (pv 1) qA3)) (fun z1=>qA9 (i:=0) (qCU (by kernel_rfl)) rfl (D2 rfl)) (fun z1=>qBL) (fun z1=>(qAL (qKK rfl) rfl qAM qBI (qA0 (qAL qVL rfl qAP qXG (qA0 (qAA (qK7 rfl) rfl qDS qK9 (qA0 qA7 (qA0 (qAJ qCS (pv 0) (pv 1)) qA3))) (qA0 (pv 0) qA3))) qA3)))) qA3)))) qAV) (qA4 (qCK (qAS qGW (pv 2) qA7 (qB1 _)) (qA4 (qRZ (i:=4) sc_Lnet.nd rfl rfl rfl (lcs (own:=["_law_k"]) (fv:=[3]) (by kernel_rfl)) (qBZ rfl qAP (qA0 (pv 1) qA3)) (fun z2=>qA9 (i:=0) (qCU (by kernel_rfl)) rfl (D2 rfl)) (fun z2=>qBL) (fun z2=>(qAJ qKY (qAJ qNE (qBA (qA0 (qAJ qCS (pv 0) (pv 1)) qA3)) (qAL qK8 rfl qF3 qOQ (qA0 (qG8 qWN (pv 0) (pv 1) (qB1 _)) qA3))) (qAJ qNE (qBA (qA0 (qAJ qCS (pv 0) qA7) qA3)) (qAL qK8 rfl qF3 qOQ (qA0 (qG8 qZ1 (qAJ qJN (pv 0) (pv 1)) qA7 (qB1 _)) qA3))))) (by kernel_rfl)) (qA6 (qAR (qAL qAY rfl qAM qBI (qA0 (qEM rfl (lcs (own:=["_law_needs"]) (fv:=[]) (by kernel_rfl)) (qBE (pv 4)) (fun z3=>qA9 (i:=0) (qCU (by kernel_rfl)) rfl (D2 rfl)) (fun z3=>qBL) (fun z3=>(qAL (qGG (K:=K) rfl) rfl qAM qBI (qA0 (qAA (qOM (K:=K) (w:=w) rfl rfl rfl) rfl qAT qDR (qA0 (qAL (qVK (K:=K) (w:=w) rfl rfl rfl) rfl qLG qYE (qA0 (pv 0) qA3)) qA3)) qA3)))) qA3))))) qAV) (qA4 (qCK (qAS qGW (pv 2) qA7 (qB1 _)) (qA6 (qAR (qAX qC2 hr rfl (qA0 (pv 0) (qA0 (pv 1) qA3))))) qAV) (qA4 (qCK (qAS qGW (pv 2) qA7 (qB1 _)) (qA4 (qAG (i:=5) sc_Lnet.nd rfl (c8 rfl) (qAJ qPM (pv 1) qA7)) (qA4 (qRZ (i:=4) sc_Lnet.nd rfl rfl rfl (lcs (own:=["_law_k"]) (fv:=[0,5]) (by kernel_rfl)) (qBZ rfl qAP (qA0 (pv 1) qA3)) (fun z4=>qA9 (i:=0) (qCU (by kernel_rfl)) rfl (D2 rfl)) (fun z4=>qBL) (fun z4=>(qAX qB9 hr rfl (qA0 (pv 1) (qA0 (qQW (qAS qTX (pv 0) (pv 2) (qB1 _)) (pv 0) (qAJ qCS (pv 0) (pv 2))) qA3)))) (by kernel_rfl)) (qA6 (qAR (qAL qAY rfl qAM qBI (qA0 (qEM rfl (lcs (own:=["_law_k","_law_needs"]) (fv:=[5]) (by kernel_rfl)) (qTK rfl qBT qI7 (qA0 (pv 4) qA3)) (fun z5=>qTM (K:=K) (n:=2) rfl rfl (qB3 (qA9 (i:=0) (qCU (by kernel_rfl)) rfl (D2 rfl)) (qB3 (qA9 (i:=1) (qCU (by kernel_rfl)) rfl (D2 rfl)) qEA)) rfl rfl) (fun z5=>qBL) (fun z5=>(qQW (qAS qTX (pv 0) (pv 2) (qB1 _)) (pv 1) (qAL (qGG (K:=K) rfl) rfl qAM qBI (qA0 (qEM (X:=lcCx _ _ _ _ z5) rfl (lcs (own:=["_law_n"]) (fv:=[2]) (by kernel_rfl)) (qPI (K:=K) rfl (pv 1)) (fun z6=>qA9 (i:=0) (qCU (by kernel_rfl)) rfl (D2 rfl)) (fun z6=>qBL) (fun z6=>(qAJ qBW (pv 0) (pv 1)))) qA3))))) qA3)))))) qAV) (qA6 (qAR (qAL qAY rfl qAM qBI (qA0 (qEM rfl (lcs (own:=["_law_k"]) (fv:=[0]) (by kernel_rfl)) (qBZ rfl qAP (qA0 (pv 1) qA3)) (fun z7=>qA9 (i:=0) (qCU (by kernel_rfl)) rfl (D2 rfl)) (fun z7=>qBL) (fun z7=>(qAX qB9 hr rfl (qA0 (pv 1) (qA0 (pv 0) qA3))))) qA3)))))))))),?_⟩
 try dsimp only [Cx.nox,Cx.wish,cxOf]
 refine cut fun N1 hN1=>?_;refine ⟨_,rfl,d,c,t,ns,8,rfl,S,(by show t<=1000000000;omega),by decide,by decide,fun way ns1 H1 w0 w8 S1 K1=>?_⟩
 refine hN1 _ _ (cut fun N2 hN2=>?_);refine ⟨_,rfl,d,c,t+1,ns1,4,rfl,S1,(by show t+1<=1000000000;omega),by decide,by decide,fun wd ns2 H2 wd0 wd4 S2 K2=>⟨_,_,rfl,rfl,?_⟩⟩
 dsimp only;have K12:=K1.trans K2;generalize hwide:(1:Int)+wd=wide;have wi0:1<=wide:=by omega
 have wi4:wide<=4:=by omega
 refine hN2 _ _ (cut fun N3 hN3=>?_);refine ⟨_,rfl,rfl,_,rfl,?_⟩;refine ite2 (fun _=>?_) (fun _=>?_)
 ·refine ⟨_,rfl,m,rfl,by omega,by omega,fun p hp=>?_⟩
  refine qEQ (p:=p) (lo:=0) (n:=m.toNat) (fun i σ Hc=>∃ (v:Option V) (rs:List Addr) (Ae:List (List Int)),σ=[v,some (.int wide)]/\Same H2 Hc/\Hc p=some (.lst (rs.map V.ref))/\NetL Hc rs Ae/\Ae.length=i/\WFn Ae) ?_ ?_ ?_
  ·exact ⟨none,[],[],rfl,qA2 hp _,qA1,.nil,rfl,WFn.nil⟩
  ·refine fun i σ Hc hi hI_1=>opq fun G_1 hG_1=>?_;obtain ⟨v,rs,Ae,rfl,sm,hpc,N,hl,wf⟩:=hI_1;refine hG_1 ?_;refine ⟨_,rfl,_,rfl,_,_,rfl,rfl,0,_,rfl,_,rfl,_,_,rfl,fun p1 hp1=>?_⟩;refine ⟨p1,_,_,rfl,qA1,by split <;> omega,by split <;> omega,by omega,by omega,fun r hr1=>?_⟩
   have lo0:0<=(if (0+(i:Int)) - wide > 0 then (0+(i:Int)) - wide else 0):=by split <;> omega
   have hri:=qPB (hi:=0+(i:Int)) lo0;dsimp only;rw [qPA];generalize qDL (if (0+(i:Int)) - wide > 0 then (0+(i:Int)) - wide else 0) (0+(i:Int))=zs at hri ⊢
   generalize HO.rng (if (0+(i:Int)) - wide > 0 then (0+(i:Int)) - wide else 0) (0+(i:Int))=ho at hp1 hr1 ⊢
   have s1:=(qA2 hp1 ho).trans (qA2 hr1 (.tup (zs.map V.int)));have g1:=s1 _ _ hpc;refine ⟨_,g1,qAK (by rw [A0,NetAt.len N];omega),?_⟩
   rw [qCN];refine ⟨_,rs++[r],Ae++[zs],rfl,qAC (sm.trans s1) hp,qA1,qEO (qCO (N.same fun r' ys e=>s1 _ _ e) qA1) g1,by rw [A6,C3,hl],wf.snoc ?_⟩
   rw [hl];exact hri.mono (by omega)
  ·refine fun σ Hc hI_2=>opq fun G_2 hG_2=>?_;obtain ⟨v,rs,Ae,rfl,sm,hpc,N,hl,wf⟩:=hI_2;refine hG_2 ?_;refine ⟨p,_,rfl,.inl ⟨SqL.of hpc,fun a ha=>?_⟩⟩;have s1:=qA2 ha (.tup (rs.map V.ref));exact q a Ae (t+1+1) ns2 _ (S2.same (sm.trans s1)) (by omega) (by omega) (K12.trans (.of_same (sm.trans s1))) ⟨rs,qA1,N.same fun r ys e=>s1 _ _ e⟩ wf (by rw [hl];omega)
 refine hN3 _ _ (cut fun N4 hN4=>?_);refine ⟨_,rfl,rfl,_,rfl,?_⟩;refine ite2 (fun _=>?_) (fun _=>?_)
 ·refine ⟨_,rfl,m,rfl,by omega,by omega,fun p hp=>?_⟩
  refine qEQ (p:=p) (lo:=0) (n:=m.toNat) (fun i σ Hc=>∃ (v:Option V) (rs:List Addr) (ls:List (List Int)),σ=[v,some (.int wide)]/\Same H2 Hc/\Hc p=some (.lst (rs.map V.ref))/\Paired (fun r zs=>r ≠ p/\Hc r=some (.lst (zs.map V.int))) rs ls/\ls.length=i/\
   ∀ (j:Nat) zs,ls[j]?=some zs->zs.length<=2/\∀ x ∈ zs,0<=x/\x<(j:Int)) ?_ ?_ ?_
  ·exact ⟨none,[],[],rfl,qA2 hp _,qA1,.nil,rfl,fun j zs e=>by simp at e⟩
  ·refine fun i σ Hc hi hI_3=>opq fun G_3 hG_3=>?_;obtain ⟨v,rs,ls,rfl,sm,hpc,N,hl,wf⟩:=hI_3;refine hG_3 ?_;refine ⟨_,rfl,_,rfl,_,_,rfl,rfl,(by show 1<=sizeLine;decide),fun a1 ha1=>?_⟩
   refine ⟨_,rfl,_,rfl,_,_,rfl,rfl,.inr ⟨_,rfl,?_⟩⟩;refine ⟨a1,_,_,rfl,rfl,qA1,by split <;> decide,by split <;> decide,?_,fun a2 ha2=>?_⟩
   ·have:∀ b:Bool,[V.int (0+(i:Int) - wide)].length * (if b=true then (1:Int) else 0).toNat<=sizeLine:=by intro b;cases b <;> simp [sizeLine_eq]
    exact this _
   dsimp only;rw [qaR];refine ⟨_,rfl,_,_,rfl,rfl,(by show 1<=sizeLine;decide),fun a3 ha3=>?_⟩
   refine ⟨_,rfl,_,rfl,_,_,rfl,rfl,(by show 0<wide;omega),_,_,rfl,rfl,.inr ⟨_,rfl,?_⟩⟩
   refine ⟨a3,_,_,rfl,rfl,qA1,by split <;> decide,by split <;> decide,?_,fun a4 ha4=>?_⟩
   ·have:∀ b:Bool,[V.int (0+(i:Int) - 1)].length * (if b=true then (1:Int) else 0).toNat<=sizeLine:=by intro b;cases b <;> simp [sizeLine_eq]
    exact this _
   dsimp only;rw [qaR];have b1:∀ x ∈ (if decide (wide<=0+(i:Int))=true then [0+(i:Int) - wide] else []),0<=x/\x<(i:Int):=by
    intro x hx
    split at hx
    ·rename_i hd
     have:=of_decide_eq_true hd;rw [A4.mp hx];omega
    ·cases hx
   have b2:∀ x ∈ (if decide (0<(0+(i:Int)) % wide)=true then [0+(i:Int) - 1] else []),0<=x/\x<(i:Int):=by
    intro x hx
    split at hx
    ·rename_i hd
     have hd':=of_decide_eq_true hd;have:(i:Int) ≠ 0:=by
      intro e;rw [e] at hd';simp at hd'
     rw [A4.mp hx];omega
    ·cases hx
   have c1:(if decide (wide<=0+(i:Int))=true then [0+(i:Int) - wide] else []).length<=1:=by split <;> simp
   have c2:(if decide (0<(0+(i:Int)) % wide)=true then [0+(i:Int) - 1] else []).length<=1:=by split <;> simp
   generalize (if decide (wide<=0+(i:Int))=true then [0+(i:Int) - wide] else [])=z1 at b1 c1 ha3 ha4 ⊢
   generalize (if decide (0<(0+(i:Int)) % wide)=true then [0+(i:Int) - 1] else [])=z2 at b2 c2 ⊢
   have s2:=(qA2 ha3 (.lst [.int (0+(i:Int) - 1)])).trans (qA2 ha4 (.lst (z2.map V.int)));refine ⟨a2,a4,_,_,rfl,rfl,s2 _ _ qA1,qA1,R1 (qAK (by rw [A0,A0];omega)),fun a5 ha5=>?_⟩
   have s1:=(qA2 ha1 (.lst [.int (0+(i:Int) - wide)])).trans (qA2 ha2 (.lst (z1.map V.int)));have s3:=(s1.trans s2).trans (qA2 ha5 (.lst (z1.map V.int++z2.map V.int)));have e5:z1.map V.int++z2.map V.int=(z1++z2).map V.int:=by rw [A9]
   rw [e5] at s3 ⊢;have g1:=s3 _ _ hpc;have n5:a5 ≠ p:=(qA5 ((s1.trans s2) _ _ hpc) ha5).symm;refine ⟨_,g1,qAK (by rw [A0,C6 N];omega),?_⟩
   rw [qCN];refine ⟨_,rs++[a5],ls++[z1++z2],rfl,qAC (sm.trans s3) hp,qA1,V6 (qAN N fun r zs e=>⟨e.1,by rw [qA8 e.1];exact s3 _ _ e.2⟩) ⟨n5,by rw [qA8 n5];exact qA1⟩,by rw [A6,C3,hl],fun j zs e=>?_⟩
   rcases qQO e with e | ⟨rfl,rfl⟩
   ·exact wf j zs e
   ·rw [hl];refine ⟨by rw [A6];omega,fun x hx=>?_⟩
    rcases E1.mp hx with hx | hx
    ·exact b1 x hx
    ·exact b2 x hx
  ·refine fun σ Hc hI_4=>opq fun G_4 hG_4=>?_;obtain ⟨v,rs,ls,rfl,sm,hpc,N,hl,wf⟩:=hI_4;refine hG_4 ?_;refine ⟨_,rfl,p,rfl,⟨_,SqL.of hpc⟩,fun p' hp'=>?_⟩;refine qER (p:=p') (a:=p) (xs:=rs.map V.ref) (fun i σ Hd=>∃ (v:Option V) (rs':List Addr) (Ae:List (List Int)),σ=[v]/\Same Hc Hd/\Hd p'=some (.lst (rs'.map V.ref))/\NetL Hd rs' Ae/\Ae.length=i/\WFn Ae) ?_ ?_ ?_ ?_
   ·exact ⟨none,[],[],rfl,qA2 hp' _,qA1,.nil,rfl,WFn.nil⟩
   ·rintro i σ Hd hi ⟨v,rs',Ae,rfl,sm2,_⟩;exact SqL.of (sm2 _ _ hpc)
   ·refine fun i x σ Hd hx hI_6=>opq fun G_6 hG_6=>?_;obtain ⟨v,rs',Ae,rfl,sm2,hpd,N2,hl2,wf2⟩:=hI_6;obtain ⟨r,hr1,rfl⟩:=qEC hx;obtain ⟨zs,hz,_,hr2⟩:=qBF N hr1;obtain ⟨l2,m2⟩:=wf i zs hz;refine hG_6 ?_;refine ⟨_,rfl,r,zs,rfl,SqL.of (sm2 _ _ hr2),by omega,fun a ha=>?_⟩
    refine ⟨a,dedI zs,rfl,.inr (.inr qA1),X6 (qRJ zs) (by omega),fun b ys hb hpm hs=>?_⟩
    refine ⟨b,_,rfl,.inl ⟨SqL.of qA1,fun r2 hr3=>?_⟩⟩;have s1:=((qA2 ha (SetO w a (dedI zs))).trans (qA2 hb (.lst (ys.map V.int)))).trans (qA2 hr3 (.tup (ys.map V.int)));have g1:=s1 _ _ hpd;have lrs:rs.length=m.toNat:=by rw [C6 N,hl]
    have hi:i<rs.length:=(A3.mp hr1).1;refine ⟨_,g1,qAK (by rw [A0,NetAt.len N2];omega),?_⟩
    rw [qCN];refine ⟨_,rs'++[r2],Ae++[ys],rfl,qAC (sm2.trans s1) hp',qA1,qEO (qCO (N2.same fun r' zs' e=>s1 _ _ e) qA1) g1,by rw [A6,C3,hl2],wf2.snoc ?_⟩
    rw [hl2];exact qQT hpm hs m2
   ·refine fun σ Hd hI_7=>opq fun G_7 hG_7=>?_;obtain ⟨v,rs',Ae,rfl,sm2,hpd,N2,hl2,wf2⟩:=hI_7;refine hG_7 ?_;refine ⟨p',_,rfl,.inl ⟨SqL.of hpd,fun a ha=>?_⟩⟩;have s1:=qA2 ha (.tup (rs'.map V.ref));refine q a Ae (t+1+1) ns2 _ (S2.same ((sm.trans sm2).trans s1)) (by omega) (by omega) (K12.trans (.of_same ((sm.trans sm2).trans s1))) ⟨rs',qA1,N2.same fun r ys e=>s1 _ _ e⟩ wf2 ?_
    rw [hl2,A0,C6 N,hl];omega
 refine hN4 _ _ (cut fun N5 hN5=>?_);refine ⟨_,rfl,rfl,_,rfl,?_⟩;refine ite2 (fun _=>?_) (fun _=>?_)
 ·refine ⟨_,rfl,_,rfl,d,c,t+1+1,ns2,m,rfl,S2,?_,hm0,hm1,fun a Ae t' ms H' a1 a2 a3 a4 a5 a6 a7 _=>?_⟩
  ·show t+1+1<=1000000000 - 1000;omega
  ·exact q a Ae t' ms H' a1 (by omega) (by omega) (K12.trans a4) a5 a6 a7
 refine hN5 _ _ (cut fun N6 hN6=>?_);refine ⟨_,rfl,rfl,_,rfl,?_⟩;refine ite2 (fun _=>?_) (fun _=>?_)
 ·refine ⟨_,rfl,_,_,rfl,rfl,⟨by decide,by decide⟩,?_⟩
  dsimp only;have hf0:0<=m / 2:=by omega
  have hf1:m / 2<=m:=by omega
  generalize m / 2=half at hf0 hf1;refine ⟨_,rfl,m,rfl,by omega,by omega,fun p hp=>?_⟩
  refine qEQ (p:=p) (lo:=0) (n:=m.toNat) (fun i σ Hc=>∃ (v:Option V) (t':Int) (ms:List Int) (rs:List Addr) (Ae:List (List Int)),σ=[v,some (.ref d),some (.int half)]/\StAt Hc d c t' ms/\t+2<=t'/\t'<=t+2+9 * i/\Keep d c H2 Hc/\Hc p=some (.lst (rs.map V.ref))/\NetL Hc rs Ae/\Ae.length=i/\
   ∀ (j:Nat) zs,Ae[j]?=some zs->Rise (if (j:Int)<half then (j:Int) else (j:Int) - half) zs) ?_ ?_ ?_
  ·exact ⟨none,t+1+1,ns2,[],[],rfl,S2.new hp _,by omega,by omega,qC3 hp _,qA1,.nil,rfl,fun j zs e=>by simp at e⟩
  ·refine fun i σ Hc hi hI_8=>opq fun G_8 hG_8=>?_;obtain ⟨v,t',ms,rs,Ae,rfl,S3,b1,b2,k3,hpc,N,hl,wf⟩:=hI_8;refine hG_8 ?_;have npd:p ≠ d:=(qA5 S2.dict hp).symm;have npc:p ≠ c:=(qA5 S2.list hp).symm;have nx:∀ (kk:Int),kk=(if (i:Int)<half then (i:Int) else (i:Int) - half)->qLL [.ref d,.int kk] Hc (fun y H4=>∃ ys,H4 p=some (.lst ys)/\ys.length<sizeLine/\∃ (v:Option V) (t':Int) (ms:List Int) (rs:List Addr) (Ae:List (List Int)),[some (V.int (0+(i:Int))),some (.ref d),some (.int half)]=[v,some (.ref d),some (.int half)]/\StAt (upd H4 p (.lst (ys++[y]))) d c t' ms/\t+2<=t'/\t'<=t+2+9 * (i+1:Nat)/\Keep d c H2 (upd H4 p (.lst (ys++[y])))/\(upd H4 p (.lst (ys++[y]))) p=some (.lst (rs.map V.ref))/\NetL (upd H4 p (.lst (ys++[y]))) rs Ae/\Ae.length=i+1/\
     ∀ (j:Nat) zs,Ae[j]?=some zs->Rise (if (j:Int)<half then (j:Int) else (j:Int) - half) zs) E0:=by
    intro kk ek;refine ⟨d,c,t',ms,kk,rfl,S3,(by show t'<=1000000000 - 20;omega),by rw [ek];split <;> omega,by rw [ek];split <;> omega,fun r zs t'' ms2 H3 e1 e2 e3 e4 e5 e6=>?_⟩
    have g1:=e4 _ _ hpc npd npc;refine ⟨_,g1,qAK (by rw [A0,NetAt.len N];omega),?_⟩
    rw [qCN];refine ⟨_,t'',ms2,rs++[r],Ae++[zs],rfl,⟨by rw [qA8 (G6 npd)];exact e1.dict,by rw [qA8 (G6 npc)];exact e1.list,e1.ne,e1.len,e1.pos⟩,by omega,by omega,qEU (k3.trans e4) hp,qA1,qEO (qCO (N.keep (fun r ys e=>S3.tup e) e4) e5) g1,by rw [A6,C3,hl],fun j ys e=>?_⟩
    rcases qQO e with e | ⟨rfl,rfl⟩
    ·exact wf j ys e
    ·rw [hl,<- ek];exact e6
   refine ⟨_,rfl,_,rfl,_,rfl,_,_,rfl,rfl,_,rfl,?_⟩;refine ite2 (fun ck=>?_) (fun ck=>?_)
   ·have ck':0+(i:Int)<half:=of_decide_eq_true ck;exact ⟨_,rfl,nx _ (by rw [if_pos (by omega)];omega)⟩
   ·have ck':¬ 0+(i:Int)<half:=of_decide_eq_false (Q3.mpr ck);exact ⟨_,rfl,_,rfl,_,_,rfl,rfl,nx _ (by rw [if_neg (by omega)];omega)⟩
  ·refine fun σ Hc hI_9=>opq fun G_9 hG_9=>?_;obtain ⟨v,t',ms,rs,Ae,rfl,S3,b1,b2,k3,hpc,N,hl,wf⟩:=hI_9;refine hG_9 ?_;have lrs:rs.length=m.toNat:=by rw [C6 N,hl]
   refine ⟨_,rfl,p,rfl,⟨_,SqL.of hpc⟩,fun p' hp'=>?_⟩;refine qZG (p:=p') (a:=p) (xs:=rs.map V.ref) (fun i σ Hd=>∃ (v1 v2:Option V) (rs':List Addr) (net':List (List Int)),σ=[v1,v2,some (.int half)]/\Same Hc Hd/\Hd p'=some (.lst (rs'.map V.ref))/\NetL Hd rs' net'/\net'.length=i/\WFn net') ?_ ?_ ?_ ?_
   ·exact ⟨none,none,[],[],rfl,qA2 hp' _,qA1,.nil,rfl,WFn.nil⟩
   ·rintro i σ Hd hi ⟨v1,v2,rs',net',rfl,sm2,_⟩;exact SqL.of (sm2 _ _ hpc)
   ·refine fun i x σ Hd T hx hI_11 hT=>opq fun G_11 hG_11=>?_;obtain ⟨v1,v2,rs',net',rfl,sm2,hpd,N2,hl2,wf2⟩:=hI_11;obtain ⟨r,hr1,rfl⟩:=qEC hx;obtain ⟨zs,hz,hr2⟩:=qBF N hr1;refine hG_11 ?_;have hi:i<rs.length:=(A3.mp hr1).1;have rz:=wf i zs hz;have sT:=qA2 hT (.tup [.int (i:Int),.ref r]);have hrT:=sT _ _ (sm2 _ _ hr2);have hpT:=sT _ _ hpd;have NT:=N2.same fun r' zs' e=>sT _ _ e;have smT:=sm2.trans sT;have gT:SqT K (upd Hd T (.tup [.int (i:Int),.ref r])) T [.int (i:Int),.ref r]:=SqT.of qA1;generalize upd Hd T (.tup [.int (i:Int),.ref r])=HT' at hrT hpT NT smT gT ⊢;refine ⟨T,_,rfl,gT,rfl,_,_,rfl,_,_,rfl,rfl,?_⟩;refine ⟨_,rfl,_,rfl,_,_,rfl,rfl,_,rfl,?_⟩;refine ite2 (fun ck=>?_) (fun ck=>?_)
    ·have ck':(i:Int)<half:=of_decide_eq_true ck;rw [if_pos ck'] at rz;refine ⟨_,rfl,_,hpT,qAK (by rw [A0,NetAt.len N2];omega),?_⟩
     rw [qCN];refine ⟨_,_,rs'++[r],net'++[zs],rfl,qAC smT hp',qA1,qEO (qCO NT hrT) hpT,by rw [A6,C3,hl2],wf2.snoc ?_⟩
     rw [hl2];exact rz
    ·have ck':¬ (i:Int)<half:=of_decide_eq_false (Q3.mpr ck);rw [if_neg ck'] at rz;have lz:zs.length<=i:=by
      have e:((i:Int) - half)=(((i:Int) - half).toNat:Nat):=by omega
      rw [e] at rz;have:=rz.len;omega
     refine ⟨_,rfl,r,rfl,⟨_,SqT.of hrT⟩,fun p2 hp2=>?_⟩;refine qJS (p:=p2) (a:=r) (xs:=zs.map V.int) (fun j σ He=>∃ (v:Option V),σ=[v,some (.int half)]/\Same HT' He/\He p2=some (.lst (((zs.take j).map (·+half)).map V.int))) ?_ ?_ ?_ ?_
     ·exact ⟨none,rfl,qA2 hp2 _,qA1⟩
     ·rintro j σ He hj ⟨v,rfl,sm3,_⟩;exact SqT.of (sm3 _ _ hrT)
     ·refine fun j x σ He hx2 hI_13=>opq fun G_13 hG_13=>?_;obtain ⟨v,rfl,sm3,hp3⟩:=hI_13;obtain ⟨z,hz2,rfl⟩:=qAQ hx2;refine hG_13 ?_;refine ⟨_,rfl,_,rfl,_,_,rfl,rfl,_,hp3,qAK (by rw [A0,A0,D4];omega),_,rfl,qAC sm3 hp2,?_⟩
      rw [qA1,C2,hz2,B9,A9,A9]
      rfl
     ·refine fun σ He hI_14=>opq fun G_14 hG_14=>?_;obtain ⟨v,rfl,sm3,hp3⟩:=hI_14;refine hG_14 ?_;rw [A0,G0 (B0 _)] at hp3;refine ⟨p2,_,rfl,.inl ⟨SqL.of hp3,fun r2 hr3=>?_⟩⟩;have s1:=qA2 hr3 (.tup ((zs.map (·+half)).map V.int));have s2:=sm3.trans s1;have g1:=s2 _ _ hpT;refine ⟨_,g1,qAK (by rw [A0,NetAt.len N2];omega),?_⟩
      rw [qCN];refine ⟨_,_,rs'++[r2],net'++[zs.map (·+half)],rfl,qAC (smT.trans s2) hp',qA1,qEO (qCO (NT.same fun r' zs' e=>s2 _ _ e) qA1) g1,by rw [A6,C3,hl2],wf2.snoc ?_⟩
      rw [hl2];have:=rz.shift hf0;rw [show (i:Int) - half+half=(i:Int) by omega] at this
      exact this
   ·refine fun σ Hd hI_15=>opq fun G_15 hG_15=>?_;obtain ⟨v1,v2,rs',net',rfl,sm2,hpd,N2,hl2,wf2⟩:=hI_15;refine hG_15 ?_;refine ⟨p',_,rfl,.inl ⟨SqL.of hpd,fun a ha=>?_⟩⟩;have s1:=qA2 ha (.tup (rs'.map V.ref));refine q a net' t' ms _ (S3.same (sm2.trans s1)) (by omega) (by omega) (K12.trans (k3.trans (.of_same (sm2.trans s1)))) ⟨rs',qA1,N2.same fun r ys e=>s1 _ _ e⟩ wf2 ?_
    rw [hl2,A0,C6 N,hl];omega
 refine hN6 _ _ ?_;refine ⟨_,rfl,m,rfl,by omega,by omega,fun p hp=>?_⟩
 refine qEQ (p:=p) (lo:=0) (n:=m.toNat) (fun i σ Hc=>∃ (v:Option V) (t':Int) (ms:List Int) (rs:List Addr) (Ae:List (List Int)),σ=[v,some (.ref d)]/\StAt Hc d c t' ms/\t+2<=t'/\t'<=t+2+9 * i/\Keep d c H2 Hc/\Hc p=some (.lst (rs.map V.ref))/\NetL Hc rs Ae/\Ae.length=i/\WFn Ae) ?_ ?_ ?_
 ·exact ⟨none,t+1+1,ns2,[],[],rfl,S2.new hp _,by omega,by omega,qC3 hp _,qA1,.nil,rfl,WFn.nil⟩
 ·refine fun i σ Hc hi hI_16=>opq fun G_16 hG_16=>?_;obtain ⟨v,t',ms,rs,Ae,rfl,S3,b1,b2,k3,hpc,N,hl,wf⟩:=hI_16;refine hG_16 ?_;have npd:p ≠ d:=(qA5 S2.dict hp).symm;have npc:p ≠ c:=(qA5 S2.list hp).symm;refine ⟨_,rfl,_,rfl,d,c,t',ms,0+(i:Int),rfl,S3,(by show t'<=1000000000 - 20;omega),by omega,by omega,fun r zs t'' ms2 H3 e1 e2 e3 e4 e5 e6=>?_⟩
  have g1:=e4 _ _ hpc npd npc;refine ⟨_,g1,qAK (by rw [A0,NetAt.len N];omega),?_⟩
  rw [qCN];refine ⟨_,t'',ms2,rs++[r],Ae++[zs],rfl,⟨by rw [qA8 (G6 npd)];exact e1.dict,by rw [qA8 (G6 npc)];exact e1.list,e1.ne,e1.len,e1.pos⟩,by omega,by omega,qEU (k3.trans e4) hp,qA1,qEO (qCO (N.keep (fun r ys e=>S3.tup e) e4) e5) g1,by rw [A6,C3,hl],wf.snoc ?_⟩
  rw [hl];exact e6.mono (by omega)
 ·refine fun σ Hc hI_17=>opq fun G_17 hG_17=>?_;obtain ⟨v,t',ms,rs,Ae,rfl,S3,b1,b2,k3,hpc,N,hl,wf⟩:=hI_17;refine hG_17 ?_;refine ⟨p,_,rfl,.inl ⟨SqL.of hpc,fun a ha=>?_⟩⟩;have s1:=qA2 ha (.tup (rs.map V.ref));exact q a Ae t' ms _ (S3.same s1) (by omega) (by omega) (K12.trans (k3.trans (.of_same s1))) ⟨rs,qA1,N.same fun r ys e=>s1 _ _ e⟩ wf (by rw [hl];omega)
end
section
variable {P:Program} {w:World} {K:PySem.W.Frag} {mg:Str->Option Value} {base:Heap} {f:Addr} {fd:FuncData}
theorem qWE:FnScope ["_law_found","_law_due"] ["_law_found","_law_due"] (qAE qJH):=⟨rfl,rfl,rfl,by decide +kernel,rfl,by decide +kernel,by decide +kernel⟩
def spS:Nat->Sp
 | 0=>fun _ _ _ _=>False
 | n+1=>qaH n
theorem ok_Lsame_step {n:Nat} {qFI:Addr} {qH6:FuncData} (F:Fun K "_law_same" "_law_same" qJH f fd) (qa3:FnOk P w K mg base CX0 n qFI qH6 ["_law_found","_law_due"] (spS n)) (qGI:Binds K qH6 ["_law_found","_law_due"] []) (qM7:P8 K (.ref qFI)=true) (qGA:mg "_law_same" = some (.ref qFI))
  (qAD:mg "isinstance" = none) (qCL:mg "list" = none) (qAM:mg "tuple" = none) (qLF:mg "str" = none) (qF3:mg "int" = none) (qF5:mg "bool" = none) (qBQ:mg "len" = none) (qG7:mg "all" = none) (qMW:mg "zip" = none):FnOk P w K mg base CX0 (n+1) f fd ["_law_found","_law_due"] (spS (n+1)):=by
 refine F.ok qWE (fun vs H Q E h=>?_) (fun cdv A outer s H vs Q E hr h=>?_)
 ·obtain ⟨x,y,rfl,_⟩:=h
  rfl
 obtain ⟨x,y,rfl,hal,q⟩:=h;have qX5:Room n _:=hr;refine ⟨_,(qA4 (qCK (qQU (qXY (pv 1))) (qA6 (qAR (qTP (qXY (pv 0))))) qAV) (qA4 (qCK (PW.pt (qLT (qDN (qAA qB6 rfl qAD qAO (qA0 (pv 1) (qA0 (qCT (v:=.ty "list") rfl qCL qHR rfl) qA3)))) (qGS (qDN (qAA qB6 rfl qAD qAO (qA0 (pv 1) (qA0 (qCT (v:=.ty "tuple") rfl qAM qBI rfl) qA3))))))) (qA4 (qCK (qAS qTW (qAA qB6 rfl qAD qAO (qA0 (pv 0) (qA0 (qCT (v:=.ty "list") rfl qCL qHR rfl) qA3))) (qAA qB6 rfl qAD qAO (qA0 (pv 1) (qA0 (qCT (v:=.ty "list") rfl qCL qHR rfl) qA3))) (qB1 _)) (qA6 (qAR qEB)) qAV) (qA4 (qCK (PW.pt (qLT (qAS qTW (qAA qB6 rfl qAD qAO (qA0 (pv 0) (qA0 (qCT (v:=.ty "tuple") rfl qAM qBI rfl) qA3))) (qAA qB6 rfl qAD qAO (qA0 (pv 1) (qA0 (qCT (v:=.ty "tuple") rfl qAM qBI rfl) qA3))) (qB1 _)) (qGS (qAS qTW (qAA qAI rfl qBQ qD7 (qA0 (pv 0) qA3)) (qAA qAI rfl qBQ qD7 (qA0 (pv 1) qA3)) (qB1 _))))) (qA6 (qAR qEB)) qAV) (qA6 (qAR (qAA (qJ1 rfl) rfl qG7 qRN (qA0 (qEM rfl (lcs (own:=["_law_one","_law_other"]) (fv:=[]) (by kernel_rfl)) (qaW rfl qMW qbR (qA0 (pv 0) (qA0 (pv 1) qA3))) (fun z1=>qTM (K:=K) (n:=2) rfl rfl (qB3 (qA9 (i:=0) (qCU (by kernel_rfl)) rfl (D2 rfl)) (qB3 (qA9 (i:=1) (qCU (by kernel_rfl)) rfl (D2 rfl)) qEA)) rfl rfl) (fun z1=>qBL) (fun z1=>(qTQ qa3 qX5 rfl qGA qM7 qGI .nil qb0 (qA0 (pv 0) (qA0 (pv 1) qA3))))) qA3)))))) qAV) (qA4 (qCK (qDN (qAA qB6 rfl qAD qAO (qA0 (pv 1) (qA0 (qCT (v:=.ty "str") rfl qLF qYD rfl) qA3)))) (qA6 (qAR (qTS (qAA qB6 rfl qAD qAO (qA0 (pv 0) (qA0 (qCT (v:=.ty "str") rfl qLF qYD rfl) qA3))) (qXW (qG8 qGW (pv 0) (pv 1) (qB1 _)))))) qAV) (qA6 (qAR (qTS (qAA qB6 rfl qAD qAO (qA0 (pv 0) (qA0 (qCT (v:=.ty "int") rfl qF3 qOQ rfl) qA3))) (qTS (qaZ (qAA qB6 rfl qAD qAO (qA0 (pv 0) (qA0 (qCT (v:=.ty "bool") rfl qF5 qVQ rfl) qA3)))) (qXW (qG8 qGW (pv 0) (pv 1) (qB1 _)))))))))),?_⟩
 try dsimp only [Cx.nox,Cx.wish,cxOf]
 have leaf:x=y/\Leaf x\/∃ (m:Nat) (b:Bool) (a c:Addr) (xs ys:List V),n=m+1/\x=.ref a/\y=.ref c/\H a=some (seqO b xs)/\H c=some (seqO b ys)/\xs.length=ys.length/\xs.length<=100000/\∀ (i:Nat) (x' y':V),xs[i]?=some x'->ys[i]?=some y'->Alike H m x' y':=by
  cases n with
  | zero=>exact .inl hal
  | succ m=>
   rcases hal with h | ⟨b,a,c,xs,ys,h⟩
   ·exact .inl h
   ·exact .inr ⟨m,b,a,c,xs,ys,rfl,h⟩
 rcases leaf with ⟨rfl,hl⟩ | ⟨m,b,a,c,xs,ys,rfl,rfl,rfl,ha,hc,hlen,hbd,hel⟩
 ·refine ⟨_,rfl,_,rfl,?_⟩;rcases hl with rfl | ⟨i,rfl⟩ | ⟨y,rfl⟩
  ·exact ⟨_,rfl,q H (Same.refl H)⟩
  ·refine ⟨_,rfl,_,"list",_,false,rfl,TyOf.int i,qbE,_,rfl,?_⟩;refine ⟨_,rfl,_,"tuple",_,false,rfl,TyOf.int i,qbC,_,rfl,?_⟩;refine ⟨_,rfl,_,"str",_,false,rfl,TyOf.int i,qbD,_,rfl,?_⟩;refine ⟨_,rfl,_,"int",_,true,rfl,TyOf.int i,qbF,_,rfl,?_⟩;refine ⟨_,rfl,_,"bool",_,false,rfl,TyOf.int i,qbG,_,rfl,_,rfl,?_⟩;refine ⟨_,rfl,_,rfl,rfl,?_⟩;have e:decide (V.int i=V.int i)=true:=decide_eq_true rfl;have q':Q (.bl (decide (V.int i=V.int i))) H:=by rw [e];exact q H (Same.refl H)
   exact q'
  ·refine ⟨_,rfl,_,"list",_,false,rfl,TyOf.str y,qbB,_,rfl,?_⟩;refine ⟨_,rfl,_,"tuple",_,false,rfl,TyOf.str y,qbA,_,rfl,?_⟩;refine ⟨_,rfl,_,"str",_,true,rfl,TyOf.str y,qY3,_,rfl,?_⟩;refine ⟨_,rfl,_,"str",_,true,rfl,TyOf.str y,qY3,_,rfl,?_⟩;refine ⟨_,rfl,_,rfl,rfl,?_⟩;have e:decide (V.str y=V.str y)=true:=decide_eq_true rfl;have q':Q (.bl (decide (V.str y=V.str y))) H:=by rw [e];exact q H (Same.refl H)
   exact q'
 ·have step:∀ (i:Nat) (x' y':V) (Hi:Hp) (Q':VK) (E':XK),Same H Hi->xs[i]?=some x'->ys[i]?=some y'->(∀ H',Same Hi H'->Q' (.bl true) H')->spS (m+1) [x',y'] Hi Q' E':=fun i x' y' Hi Q' E' s e1 e2 k=>⟨x',y',rfl,(hel i x' y' e1 e2).same s,k⟩;have fin:∀ (H1:Hp),Same H H1->Q (.bl true) H1:=q;have el:(!decide (V.int ((xs.length:Nat):Int)=V.int ((ys.length:Nat):Int)))=false:=by rw [hlen];simp
  cases b
  ·refine ⟨_,rfl,_,rfl,_,rfl,_,"list",_,true,rfl,qJA hc,qL4 false,_,rfl,?_⟩;refine ⟨_,rfl,_,"list",_,true,rfl,qJA ha,qL4 false,_,rfl,_,"list",_,true,rfl,qJA hc,qL4 false,rfl,_,rfl,?_⟩;refine ⟨_,rfl,_,"tuple",_,false,rfl,qJA ha,qNS false,_,rfl,_,"tuple",_,false,rfl,qJA hc,qNS false,rfl,_,rfl,?_⟩;refine ⟨_,rfl,a,_,rfl,.inl (SqL.of ha),_,rfl,c,_,rfl,.inl (SqL.of hc),rfl,?_⟩;rw [el];refine ⟨_,rfl,_,rfl,_,rfl,false,a,c,rfl,⟨_,SqB.of ha⟩,⟨_,SqB.of hc⟩,fun p hp=>?_⟩;refine qY2 (b:=false) (p:=p) (xs:=xs) (ys:=ys) hlen (fun i σ Hi=>∃ (v0 v1:Option V),σ=[v0,v1]/\Same H Hi/\Hi p=some (.lst ((C4 i true).map V.bl))) ⟨none,none,rfl,qA2 hp _,qA1⟩ (fun i σ Hi _ ⟨_,_,_,sm,_⟩=>⟨SqB.of (sm _ _ ha),SqB.of (sm _ _ hc)⟩) ?_ ?_
   ·refine fun i x' y' σ Hi T ex ey hI_1 hT=>opq fun G_1 hG_1=>?_;obtain ⟨v0,v1,rfl,sm,hpi⟩:=hI_1;refine hG_1 ?_;have li:i<xs.length:=(A3.mp ex).1;refine ⟨T,_,rfl,SqT.of qA1,rfl,_,_,rfl,_,_,rfl,rfl,?_⟩;have s1:=sm.trans (qA2 hT (.tup [x',y']));refine ⟨_,rfl,_,rfl,?_⟩;dsimp only [tNil,Q7,k8];refine step i x' y' _ _ _ s1 ex ey fun H' sm'=>?_;refine ⟨_,(sm' _ _ ((qA2 hT _) _ _ hpi)),?_,_,_,rfl,(fun b u e=>by rw [qA8 (qA5 e hp)];exact (s1.trans sm') b u e),?_⟩
    ·rw [A0,O8,sizeLine_eq];omega
    ·rw [qA1,qVS]
   ·refine fun σ Hi hI_2=>opq fun G_2 hG_2=>?_;obtain ⟨v0,v1,rfl,sm,hpi⟩:=hI_2;refine hG_2 ?_;refine ⟨p,_,rfl,SqL.of hpi,?_⟩;rw [qW0];exact q Hi sm
  ·refine ⟨_,rfl,_,rfl,_,rfl,_,"list",_,false,rfl,qJA hc,qL4 true,_,rfl,?_⟩;refine ⟨_,rfl,_,"tuple",_,true,rfl,qJA hc,qNS true,_,rfl,?_⟩;refine ⟨_,rfl,_,"list",_,false,rfl,qJA ha,qL4 true,_,rfl,_,"list",_,false,rfl,qJA hc,qL4 true,rfl,_,rfl,?_⟩;refine ⟨_,rfl,_,"tuple",_,true,rfl,qJA ha,qNS true,_,rfl,_,"tuple",_,true,rfl,qJA hc,qNS true,rfl,_,rfl,?_⟩;refine ⟨_,rfl,a,_,rfl,.inr (SqT.of ha),_,rfl,c,_,rfl,.inr (SqT.of hc),rfl,?_⟩;rw [el];refine ⟨_,rfl,_,rfl,_,rfl,true,a,c,rfl,⟨_,SqB.of ha⟩,⟨_,SqB.of hc⟩,fun p hp=>?_⟩;refine qY2 (b:=true) (p:=p) (xs:=xs) (ys:=ys) hlen (fun i σ Hi=>∃ (v0 v1:Option V),σ=[v0,v1]/\Same H Hi/\Hi p=some (.lst ((C4 i true).map V.bl))) ⟨none,none,rfl,qA2 hp _,qA1⟩ (fun i σ Hi _ ⟨_,_,_,sm,_⟩=>⟨SqB.of (sm _ _ ha),SqB.of (sm _ _ hc)⟩) ?_ ?_
   ·refine fun i x' y' σ Hi T ex ey hI_3 hT=>opq fun G_3 hG_3=>?_;obtain ⟨v0,v1,rfl,sm,hpi⟩:=hI_3;refine hG_3 ?_;have li:i<xs.length:=(A3.mp ex).1;refine ⟨T,_,rfl,SqT.of qA1,rfl,_,_,rfl,_,_,rfl,rfl,?_⟩;have s1:=sm.trans (qA2 hT (.tup [x',y']));refine ⟨_,rfl,_,rfl,?_⟩;dsimp only [tNil,Q7,k8];refine step i x' y' _ _ _ s1 ex ey fun H' sm'=>?_;refine ⟨_,(sm' _ _ ((qA2 hT _) _ _ hpi)),?_,_,_,rfl,(fun b u e=>by rw [qA8 (qA5 e hp)];exact (s1.trans sm') b u e),?_⟩
    ·rw [A0,O8,sizeLine_eq];omega
    ·rw [qA1,qVS]
   ·refine fun σ Hi hI_4=>opq fun G_4 hG_4=>?_;obtain ⟨v0,v1,rfl,sm,hpi⟩:=hI_4;refine hG_4 ?_;refine ⟨p,_,rfl,SqL.of hpi,?_⟩;rw [qW0];exact q Hi sm
theorem ok_Lsame (F:Fun K "_law_same" "_law_same" qJH f fd) (qGI:Binds K fd ["_law_found","_law_due"] []) (qM7:P8 K (.ref f)=true) (qGA:mg "_law_same" = some (.ref f))
  (qAD:mg "isinstance" = none) (qCL:mg "list" = none) (qAM:mg "tuple" = none) (qLF:mg "str" = none) (qF3:mg "int" = none) (qF5:mg "bool" = none) (qBQ:mg "len" = none) (qG7:mg "all" = none) (qMW:mg "zip" = none) (n:Nat):FnOk P w K mg base CX0 n f fd ["_law_found","_law_due"] (spS n):=by
 induction n with
 | zero=>exact ⟨fun _ _ _ _ h=>h.elim,fun _ _ _ _ _ _ _ _ _ _ _ _ _ h=>h.elim⟩
 | succ n ih=>exact ok_Lsame_step F ih qGI qM7 qGA qAD qCL qAM qLF qF3 qF5 qBQ qG7 qMW
end
section
variable {P:Program} {w:World} {K:PySem.W.Frag} {mg:Str->Option Value} {base:Heap} {f:Addr} {fd:FuncData} {f_renumbered:Addr} {fd_renumbered:FuncData}
theorem sc_all_needed:FnScope ["net","asked","wanted","work","need"] ["net","asked"] (qAE qDY):=⟨rfl,rfl,rfl,by decide +kernel,rfl,by decide +kernel,by decide +kernel⟩
theorem ok_all_needed (F:Fun K "all_needed" "all_needed" qDY f fd) (qAP:mg "range" = none) (qBQ:mg "len" = none) (qAT:mg "sorted" = none):FnOk P w K mg base CX0 1 f fd ["net","asked"] qWA:=by
 refine F.ok sc_all_needed (fun vs H Q E h=>?_) (fun cdv A outer s H vs Q E hr h=>?_)
 ·obtain ⟨a,t,Ae,Ad,rfl,_⟩:=h
  rfl
 obtain ⟨a,t,Ae,Ad,rfl,hN,wf,n1000,hT,inA,q⟩:=h;have hu:=qJZ hr;refine ⟨_,(qA4 (qAG (i:=2) sc_all_needed.nd rfl (D2 rfl) qEN) (qA4 (qBC D0 rfl (qE0 (pv 1)) (qA9 (i:=3) sc_all_needed.nd rfl (D2 rfl)) (qA6 (qEL hu (pv 2) (pv 3) qEB rfl))) (qA4 (qBC D0 rfl (qTL rfl qAP (qA0 (qAJ qCS (qAA qAI rfl qBQ qD7 (qA0 (pv 0) qA3)) qA7) (qA0 (qKH qG6 qA7) (qA0 (qKH qG6 qA7) qA3)))) (qA9 (i:=3) sc_all_needed.nd rfl (D2 rfl)) (qA6 (qCK (qQU (qNB hu (pv 3) (pv 2))) (qA6 (qBC D0 rfl (qE0 (qAW qB2 (pv 0) (pv 3) (fun _ _=>rfl))) (qA9 (i:=4) sc_all_needed.nd rfl (D2 rfl)) (qA6 (qEL hu (pv 2) (pv 4) qEB rfl)))) qAV))) (qA6 (qAR (qAA (qI4 rfl) rfl qAT qDR (qA0 (pv 2) qA3))))))),?_⟩
 try dsimp only [Cx.nox,Cx.wish,cxOf]
 obtain ⟨rs,hA,NL⟩:=id hN;have lrv:(((rs.map V.ref).length:Nat):Int)=(Ae.length:Int):=by rw [A0,C6 NL]
 refine fun dn hdn=>?_;have sn:=qA2 hdn (.dK []);refine ⟨_,rfl,t,rfl,⟨_,SqT.of (sn _ _ hT)⟩,qEV (a:=t) (xs:=Ad.map V.int) (fun j σ Hf=>∃ (Af:List (Key × V)) (ks:List Int) (v3 v4:Option V),σ=[some (.ref a),some (.ref t),some (.ref dn),v3,v4]/\Same H Hf/\Hf dn=some (.dK Af)/\KeysI Af ks/\∀ x,x ∈ ks ↔ x ∈ Ad.take j)
  ⟨[],[],none,none,rfl,sn,qA1,KeysI.nil,fun x=>by simp⟩ (fun j σ Hf _ hP=>by obtain ⟨_,_,_,_,_,sm,_⟩:=hP;exact SqT.of (sm _ _ hT)) ?_ ?_⟩
 ·refine fun j x σ Hf hx hI_1=>opq fun G_1 hG_1=>?_;obtain ⟨Af,ks,v3,v4,rfl,sm,hd,hk,mk⟩:=hI_1;obtain ⟨y,ey,rfl⟩:=qAQ hx;refine hG_1 ?_;have lk:ks.length<=Ae.length:=qJO hk.nd fun x hx=>inA x (J7 ((mk x).mp hx));refine ⟨_,rfl,_,rfl,dn,_,rfl,DPut.k (k:=E9 y) hd (qB7 (by rw [hk.len];omega)),?_⟩
  refine ⟨_,_,_,_,rfl,qAC sm hdn,qA1,hk.put y _,fun x=>?_⟩;rw [mem_addI,mk,C2,ey,B9,E1,A4]
 refine fun σ Hf hI_2=>opq fun G_2 hG_2=>?_;obtain ⟨Af,ks,v3,v4,rfl,sm,hd,hk,mk⟩:=hI_2;refine hG_2 ?_;rw [A0,qAU rfl] at mk;refine ⟨_,rfl,a,_,rfl,.inr (SqT.of (sm _ _ hA)),_,_,rfl,rfl,_,rfl,_,rfl,_,_,rfl,⟨by rw [lrv];omega,by rw [lrv];omega,by decide,by decide⟩,qRE (lo:=(((rs.map V.ref).length:Nat):Int) - 1) (n:=((((rs.map V.ref).length:Nat):Int) - 1 - -1).toNat) (fun i σ Hc=>∃ (Af:List (Key × V)) (ks:List Int) (v3 v4:Option V),σ=[some (.ref a),some (.ref t),some (.ref dn),v3,v4]/\Same H Hc/\Hc dn=some (.dK Af)/\KeysI Af ks/\Fnd Ae Ad ks ((Ae.length:Int) - i))
  ⟨Af,ks,v3,v4,rfl,sm,hd,hk,⟨fun x hx=>⟨inA x ((mk x).mp hx),.ask ((mk x).mp hx)⟩,fun x hx=>(mk x).mpr hx,fun w zs h1 h2 h3=>?_⟩⟩ ?_ ?_⟩
 ·have:=(A3.mp h3).1;omega
 ·refine fun i σ Hc hi hI_3=>opq fun G_3 hG_3=>?_;obtain ⟨Af,ks,v3,v4,rfl,sm,hd,hk,fn⟩:=hI_3;refine hG_3 ?_;rw [lrv] at hi ⊢;have hi':i<Ae.length:=by omega
  obtain ⟨w0,ew⟩:∃ w0:Nat,(Ae.length:Int) - 1 - i=(w0:Int):=⟨Ae.length - 1 - i,by omega⟩
  have hw:w0<Ae.length:=by omega
  rw [ew];obtain ⟨r,h3,h4⟩:=NL.get (A1 hw);have hz:=A1 hw;have rz:=wf w0 _ hz;generalize Ae[w0]=zs at h4 hz rz;refine ⟨_,rfl,_,rfl,dn,_,rfl,DGet.k (k:=E9 (w0:Int)) hd,_,rfl,?_⟩;rw [hk.has];by_cases mw:(w0:Int) ∈ ks
  ·rw [decide_eq_true mw];refine ⟨_,rfl,_,rfl,a,_,_,_,rfl,rfl,SqT.of (sm _ _ hA),qBR (by omega) (by rw [J8,B7,h3];rfl),r,rfl,⟨_,SqT.of (sm _ _ h4)⟩,qEV (a:=r) (xs:=zs.map V.int) (fun k σ Hd=>∃ (Af:List (Key × V)) (ks:List Int) (v4:Option V),σ=[some (.ref a),some (.ref t),some (.ref dn),some (.int (w0:Int)),v4]/\Same H Hd/\Hd dn=some (.dK Af)/\KeysI Af ks/\Fnd Ae Ad ks ((w0:Int)+1)/\(w0:Int) ∈ ks/\∀ y ∈ zs.take k,y ∈ ks)
    ⟨Af,ks,v4,rfl,sm,hd,hk,by rw [show (w0:Int)+1=(Ae.length:Int) - i by omega];exact fn,mw,fun y hy=>by simp at hy⟩ (fun k σ Hd _ hP=>by obtain ⟨_,_,_,_,sm',_⟩:=hP;exact SqT.of (sm' _ _ h4)) ?_ ?_⟩
   ·refine fun k x σ Hd hx hI_4=>opq fun G_4 hG_4=>?_;obtain ⟨Af,ks,v4,rfl,sm',hd',hk',fn',mw',ty⟩:=hI_4;obtain ⟨y,ey,rfl⟩:=qAQ hx;refine hG_4 ?_;have my:=B8 ey;have yb:=rz.in_ y my;have lk:ks.length<=Ae.length:=qJO hk'.nd fun x hx=>(fn'.in_ x hx).1;refine ⟨_,rfl,_,rfl,dn,_,rfl,DPut.k (k:=E9 y) hd' (qB7 (by rw [hk'.len];omega)),?_⟩
    refine ⟨_,_,_,rfl,qAC sm' hdn,qA1,hk'.put y _,⟨fun x hx=>?_,fun x hx=>mem_addI.mpr (.inl (fn'.ask x hx)),fun w1 ys h1 h2 h3 z hz'=>?_⟩,mem_addI.mpr (.inl mw'),fun z hz'=>?_⟩
    ·rcases mem_addI.mp hx with hx | hx
     ·exact fn'.in_ x hx
     ·rw [hx];exact ⟨⟨yb.1,by omega⟩,.need (fn'.in_ _ mw').2 (by rw [J8];exact hz) my⟩
    ·rcases mem_addI.mp h2 with h2 | h2
     ·exact mem_addI.mpr (.inl (fn'.clo w1 ys h1 h2 h3 z hz'))
     ·omega
    ·rw [C2,ey,B9,E1,A4] at hz';rcases hz' with hz' | hz'
     ·exact mem_addI.mpr (.inl (ty z hz'))
     ·exact mem_addI.mpr (.inr hz')
   ·refine fun σ Hd hI_5=>opq fun G_5 hG_5=>?_;obtain ⟨Af,ks,v4,rfl,sm',hd',hk',fn',mw',ty⟩:=hI_5;refine hG_5 ?_;rw [A0,qAU rfl] at ty;refine ⟨Af,ks,_,_,rfl,sm',hd',hk',fn'.in_,fn'.ask,fun w1 ys h1 h2 h9=>?_⟩;by_cases e:w1=w0
    ·subst e;rw [hz] at h9;cases h9;exact ty
    ·exact fn'.clo w1 ys (by omega) h2 h9
  ·rw [decide_eq_false mw];refine ⟨Af,ks,_,_,rfl,sm,hd,hk,fn.in_,fn.ask,fun w1 ys h1 h2 h3=>?_⟩;by_cases e:w1=w0
   ·subst e;exact absurd h2 mw
   ·exact fn.clo w1 ys (by omega) h2 h3
 ·refine fun σ Hc hI_6=>opq fun G_6 hG_6=>?_;obtain ⟨Af,ks,v3,v4,rfl,sm,hd,hk,fn⟩:=hI_6;refine hG_6 ?_;rw [lrv,show ((Ae.length:Int) - (((Ae.length:Int) - 1 - -1).toNat:Nat))=0 by omega] at fn
  refine ⟨_,rfl,dn,ks,rfl,.inr (.inr ⟨Af,hd,hk.keys⟩),X6 (qJO hk.nd fun x hx=>(fn.in_ x hx).1) (by omega),fun l zs hl hp hs=>?_⟩
  have s1:=qA2 hl (.lst (zs.map V.int));refine q l zs _ (sm.trans s1) (sm.free hl) qA1 ⟨⟨qI1 hs (hp.nodup_iff.mpr hk.nd),fun x hx=>(fn.in_ x (hp.mem_iff.mp hx)).1⟩,fun x=>?_⟩;rw [hp.mem_iff];exact fn.all wf x
end
section
variable {P:Program} {w:World} {K:PySem.W.Frag} {mg:Str->Option Value} {base:Heap} {f:Addr} {fd:FuncData}
structure Fnd2 (Ae:List (List Int)) (Ad ks:List Int) (j:Int):Prop where
 in_:∀ x ∈ ks,(0<=x/\x<(Ae.length:Int))/\Nd Ae Ad x
 ask:∀ x ∈ Ad,j<=x->x ∈ ks
 clo:∀ (w:Nat) zs,j<=(w:Int)->(w:Int) ∈ ks->Ae[w]?=some zs->∀ y ∈ zs,y ∈ ks
theorem repF:∀ n:Nat,(C4 n [V.bl false]).flatten=(C4 n false).map V.bl
 | 0=>rfl
 | n+1=>by rw [L7,L7,E7,repF n];rfl
structure Bls (n:Nat) (ks:List Int) (bs:List Bool):Prop where
 len:bs.length=n
 at_:∀ x:Nat,x<n->bs[x]?=some (decide ((x:Int) ∈ ks))
theorem Bls.set {n:Nat} {ks:List Int} {bs:List Bool} (h:Bls n ks bs) {x:Int} (h0:0<=x) (h1:x<n):Bls n (addI ks x) (bs.set x.toNat true):=by
 refine ⟨by rw [k7];exact h.len,fun y hy=>?_⟩
 by_cases e:(y:Int)=x
 ·have e2:x.toNat=y:=by omega
  rw [e2,X3 (by rw [h.len];exact hy),decide_eq_true (mem_addI.mpr (.inr e))]
 ·rw [Y9 (by omega),h.at_ y hy]
  congr 1;exact decide_eq_decide.mpr ⟨fun z=>mem_addI.mpr (.inl z),fun z=>(mem_addI.mp z).resolve_right e⟩
theorem qY7 {bs:List Bool} {i:Nat} {b:Bool} (h:bs[i]?=some b):(bs.map V.bl)[i]?=some (.bl b):=by rw [B7,h];rfl
theorem sc_Lneeded:FnScope ["_law_net_here","_law_asked","_law_found","_law_work","_law_need"] ["_law_net_here","_law_asked"] (qAE qGQ):=⟨rfl,rfl,rfl,by decide +kernel,rfl,by decide +kernel,by decide +kernel⟩
theorem ok_Lneeded (F:Fun K "_law_needed" "_law_needed" qGQ f fd) (qBQ:mg "len" = none) (qAP:mg "range" = none):FnOk P w K mg base CX0 1 f fd ["_law_net_here","_law_asked"] qIK:=by
 refine F.ok sc_Lneeded (fun vs H Q E h=>?_) (fun cdv A outer s H vs Q E hr h=>?_)
 ·obtain ⟨a,t,Ae,Ad,rfl,_⟩:=h
  rfl
 obtain ⟨a,t,Ae,Ad,rfl,hN,wf,n1000,⟨hT,rA⟩,q⟩:=h;refine ⟨_,(qA4 (qAG (i:=2) sc_Lneeded.nd rfl (c8 rfl) (qAJ qNE (qBA (qA0 qEB qA3)) (qAA qAI rfl qBQ qD7 (qA0 (pv 0) qA3)))) (qA4 (qBC D0 rfl (qTL rfl qAP (qA0 (qAJ qCS (qAA qAI rfl qBQ qD7 (qA0 (pv 0) qA3)) qA7) (qA0 (qKH qG6 qA7) (qA0 (qKH qG6 qA7) qA3)))) (qA9 (i:=3) sc_Lneeded.nd rfl (D2 rfl)) (qA4 (qPE (qCK (qAS qTY (pv 3) (pv 1) (by with_unfolding_all rfl)) (qA6 (qKU qEB (qTN (pv 2) (pv 3) qIL))) qAV)) (qA6 (qCK (qDN (qAW qCP (pv 2) (pv 3) (fun _ _=>rfl))) (qA6 (qBC D0 rfl (qE0 (qAW qB2 (pv 0) (pv 3) (fun _ _=>rfl))) (qA9 (i:=4) sc_Lneeded.nd rfl (D2 rfl)) (qA6 (qKU qEB (qTN (pv 2) (pv 4) qIL))))) qAV)))) (qA6 (qAR (qEM rfl (lcs (own:=["_law_work"]) (fv:=[2]) (by kernel_rfl)) (qBZ rfl qAP (qA0 (qAA qAI rfl qBQ qD7 (qA0 (pv 0) qA3)) qA3)) (fun z1=>qA9 (i:=0) (qCU (by kernel_rfl)) rfl (D2 rfl)) (fun z1=>(qLU (qDN (qAW (qM9 (K:=K) rfl) (pv 1) (pv 0) (fun _ _=>rfl))))) (fun z1=>(pv 0))))))),?_⟩
 try dsimp only [Cx.nox,Cx.wish,cxOf]
 obtain ⟨rs,hA,NL⟩:=id hN;have lrv:(((rs.map V.ref).length:Nat):Int)=(Ae.length:Int):=by rw [A0,C6 NL]
 refine ⟨(by show 1<=sizeLine;decide),fun p0 hp0=>?_⟩
 have s0:=qA2 hp0 (.lst [.bl false]);refine ⟨_,rfl,a,_,rfl,.inr (SqT.of (s0 _ _ hA)),p0,_,_,rfl,rfl,qA1,by rw [lrv];omega,by rw [lrv];omega,?_,fun fo hfo=>?_⟩
 ·rw [lrv,sizeLine_eq];simp;omega
 have ffo:H fo=none:=s0.free hfo;have s1:=s0.trans (qA2 hfo (.lst (C4 ((((rs.map V.ref).length:Nat):Int)).toNat [V.bl false]).flatten));have gfo:(upd (upd H p0 (.lst [.bl false])) fo (.lst (C4 ((((rs.map V.ref).length:Nat):Int)).toNat [V.bl false]).flatten)) fo=some (.lst ((C4 Ae.length false).map V.bl)):=by
  rw [qA1,repF,lrv,J8]
 generalize upd (upd H p0 (.lst [.bl false])) fo (.lst (C4 ((((rs.map V.ref).length:Nat):Int)).toNat [V.bl false]).flatten)=H1 at s1 gfo;refine ⟨_,rfl,a,_,rfl,.inr (SqT.of (s1 _ _ hA)),_,_,rfl,rfl,_,rfl,_,rfl,_,_,rfl,⟨by rw [lrv];omega,by rw [lrv];omega,by decide,by decide⟩,qRE (lo:=(((rs.map V.ref).length:Nat):Int) - 1) (n:=((((rs.map V.ref).length:Nat):Int) - 1 - -1).toNat) (fun i σ Hc=>∃ (bs:List Bool) (ks:List Int) (v3 v4:Option V),σ=[some (.ref a),some (.ref t),some (.ref fo),v3,v4]/\Same H Hc/\Hc fo=some (.lst (bs.map V.bl))/\Bls Ae.length ks bs/\Fnd2 Ae Ad ks ((Ae.length:Int) - i))
  ⟨_,[],none,none,rfl,s1,gfo,⟨by simp,fun x hx=>by simp [hx]⟩,⟨fun x hx=>(nomatch hx),fun x hx hl=>?_,fun w zs h1 h2=>(nomatch h2)⟩⟩ ?_ ?_⟩
 ·have:=(rA.in_ x hx).2;omega
 ·refine fun i σ Hc hi hI_1=>opq fun G_1 hG_1=>?_;obtain ⟨bs,ks,v3,v4,rfl,sm,hf,B,fn⟩:=hI_1;refine hG_1 ?_;rw [lrv] at hi ⊢;obtain ⟨w0,ew⟩:∃ w0:Nat,(Ae.length:Int) - 1 - i=(w0:Int):=⟨Ae.length - 1 - i,by omega⟩
  have hw:w0<Ae.length:=by omega
  rw [ew];obtain ⟨r,h3,h4⟩:=NL.get (A1 hw);have hz:=A1 hw;have rz:=wf w0 _ hz;generalize Ae[w0]=zs at h4 hz rz;have ix:∀ {bs:List Bool} {ks:List Int} {x:Int},Bls Ae.length ks bs->0<=x->x<(Ae.length:Int)->ixN (bs.map V.bl).length x=some x.toNat:=fun {bs ks x} B h0 h1=>by
   have:=qPX (xs:=bs.map V.bl) (j:=x.toNat) (by rw [A0,B.len];omega)
   rw [show ((x.toNat:Nat):Int)=x by omega] at this
   exact this
  -- Ad
  refine ⟨fun σ Hc=>∃ (bs:List Bool) (ks:List Int),σ=[some (.ref a),some (.ref t),some (.ref fo),some (.int (w0:Int)),v4]/\Same H Hc/\Hc fo=some (.lst (bs.map V.bl))/\Bls Ae.length ks bs/\(∀ x ∈ ks,(0<=x/\x<(Ae.length:Int))/\Nd Ae Ad x)/\(∀ x ∈ Ad,(w0:Int)<=x->x ∈ ks)/\(∀ (w:Nat) zs,(w0:Int)+1<=(w:Int)->(w:Int) ∈ ks->Ae[w]?=some zs->∀ y ∈ zs,y ∈ ks),?_,?_⟩
  ·refine ⟨_,rfl,_,rfl,t,_,rfl,.inr (SqT.of (sm _ _ hT)),rfl,qV3 Ad,_,rfl,?_⟩;rw [qZO];by_cases c:(w0:Int) ∈ Ad
   ·rw [decide_eq_true c];refine ⟨_,rfl,_,rfl,fo,_,_,w0,rfl,rfl,hf,?_,?_⟩
    ·have:=ix B (x:=(w0:Int)) (by omega) (by omega)
     rw [J8] at this;exact this
    ·have st:=B.set (x:=(w0:Int)) (by omega) (by omega)
     rw [J8] at st;refine ⟨_,addI ks (w0:Int),rfl,qAC sm ffo,by rw [qA1,A15],st,fun x hx=>?_,fun x hx hl=>?_,fun w1 ys h1 h2 h9 y hy=>?_⟩
     ·rcases mem_addI.mp hx with hx | hx
      ·exact fn.in_ x hx
      ·rw [hx];exact ⟨⟨by omega,by omega⟩,.ask c⟩
     ·by_cases e:x=(w0:Int)
      ·exact mem_addI.mpr (.inr e)
      ·exact mem_addI.mpr (.inl (fn.ask x hx (by omega)))
     ·rcases mem_addI.mp h2 with h2 | h2
      ·exact mem_addI.mpr (.inl (fn.clo w1 ys (by omega) h2 h9 y hy))
      ·omega
   ·rw [decide_eq_false c];refine ⟨bs,ks,rfl,sm,hf,B,fn.in_,fun x hx hl=>?_,fun w1 ys h1 h2 h9=>fn.clo w1 ys (by omega) h2 h9⟩
    by_cases e:x=(w0:Int)
    ·rw [e] at hx;exact absurd hx c
    ·exact fn.ask x hx (by omega)
  refine fun σ Hc hI_2=>opq fun G_2 hG_2=>?_;obtain ⟨bs,ks,rfl,sm,hf,B,f1,f2,f3⟩:=hI_2;refine hG_2 ?_;refine ⟨_,rfl,_,rfl,fo,_,_,_,rfl,rfl,SqL.of hf,qBR (by omega) (by rw [J8];exact qY7 (B.at_ w0 hw)),_,rfl,?_⟩
  by_cases c:(w0:Int) ∈ ks
  ·rw [decide_eq_true c];refine ⟨_,rfl,_,rfl,a,_,_,_,rfl,rfl,SqT.of (sm _ _ hA),qBR (by omega) (by rw [J8,B7,h3];rfl),r,rfl,⟨_,SqT.of (sm _ _ h4)⟩,qEV (a:=r) (xs:=zs.map V.int) (fun k σ Hd=>∃ (bs:List Bool) (ks:List Int) (v4:Option V),σ=[some (.ref a),some (.ref t),some (.ref fo),some (.int (w0:Int)),v4]/\Same H Hd/\Hd fo=some (.lst (bs.map V.bl))/\Bls Ae.length ks bs/\(∀ x ∈ ks,(0<=x/\x<(Ae.length:Int))/\Nd Ae Ad x)/\(∀ x ∈ Ad,(w0:Int)<=x->x ∈ ks)/\(∀ (w:Nat) zs,(w0:Int)+1<=(w:Int)->(w:Int) ∈ ks->Ae[w]?=some zs->∀ y ∈ zs,y ∈ ks)/\(w0:Int) ∈ ks/\∀ y ∈ zs.take k,y ∈ ks)
    ⟨bs,ks,v4,rfl,sm,hf,B,f1,f2,f3,c,fun y hy=>by simp at hy⟩ (fun k σ Hd _ hP=>by obtain ⟨_,_,_,_,sd,_⟩:=hP;exact SqT.of (sd _ _ h4)) ?_ ?_⟩
   ·refine fun k x σ Hd hx hI_3=>opq fun G_3 hG_3=>?_;obtain ⟨bs,ks,v4,rfl,sd,hfd,B,f1,f2,f3,c,ty⟩:=hI_3;obtain ⟨y,ey,rfl⟩:=qAQ hx;refine hG_3 ?_;have my:=B8 ey;have yb:=rz.in_ y my;refine ⟨_,rfl,_,rfl,fo,_,_,y.toNat,rfl,rfl,hfd,ix B yb.1 (by omega),?_⟩
    refine ⟨_,addI ks y,_,rfl,qAC sd ffo,by rw [qA1,A15],B.set yb.1 (by omega),fun x hx=>?_,fun x hx hl=>mem_addI.mpr (.inl (f2 x hx hl)),fun w1 ys h1 h2 h9 z hz'=>?_,mem_addI.mpr (.inl c),fun z hz'=>?_⟩
    ·rcases mem_addI.mp hx with hx | hx
     ·exact f1 x hx
     ·rw [hx];exact ⟨⟨yb.1,by omega⟩,.need (f1 _ c).2 (by rw [J8];exact hz) my⟩
    ·rcases mem_addI.mp h2 with h2 | h2
     ·exact mem_addI.mpr (.inl (f3 w1 ys h1 h2 h9 z hz'))
     ·omega
    ·rw [C2,ey,B9,E1,A4] at hz';rcases hz' with hz' | hz'
     ·exact mem_addI.mpr (.inl (ty z hz'))
     ·exact mem_addI.mpr (.inr hz')
   ·refine fun σ Hd hI_4=>opq fun G_4 hG_4=>?_;obtain ⟨bs,ks,v4,rfl,sd,hfd,B,f1,f2,f3,c,ty⟩:=hI_4;refine hG_4 ?_;rw [A0,qAU rfl] at ty;refine ⟨bs,ks,_,_,rfl,sd,hfd,B,f1,fun x hx hl=>f2 x hx (by omega),fun w1 ys h1 h2 h9=>?_⟩
    by_cases e:w1=w0
    ·subst e;rw [hz] at h9;cases h9;exact ty
    ·exact f3 w1 ys (by omega) h2 h9
  ·rw [decide_eq_false c];refine ⟨bs,ks,_,_,rfl,sm,hf,B,f1,fun x hx hl=>f2 x hx (by omega),fun w1 ys h1 h2 h9=>?_⟩
   by_cases e:w1=w0
   ·subst e;exact absurd h2 c
   ·exact f3 w1 ys (by omega) h2 h9
 ·refine fun σ Hc hI_5=>opq fun G_5 hG_5=>?_;obtain ⟨bs,ks,v3,v4,rfl,sm,hf,B,fn⟩:=hI_5;refine hG_5 ?_;rw [lrv,show ((Ae.length:Int) - (((Ae.length:Int) - 1 - -1).toNat:Nat))=0 by omega] at fn
  have all:=Fnd.all wf (⟨fn.in_,fun x hx=>fn.ask x hx (rA.in_ x hx).1,fn.clo⟩:Fnd Ae Ad ks 0);have lrn:((((rs.map V.ref).length:Nat):Int)).toNat=Ae.length:=by rw [lrv];omega
  refine ⟨_,rfl,a,_,rfl,.inr (SqT.of (sm _ _ hA)),_,rfl,by rw [lrv];omega,by rw [lrv];omega,fun p hp=>?_⟩
  refine qEQ (p:=p) (lo:=0) (n:=((((rs.map V.ref).length:Nat):Int)).toNat) (fun i σ Hd=>∃ (v:Option V),σ=[v,some (.ref fo)]/\Same Hc Hd/\Hd p=some (.lst ((((qDL 0 Ae.length).take i).filter fun x=>decide (x ∈ ks)).map V.int))) ?_ ?_ ?_
  ·exact ⟨none,rfl,qA2 hp _,qA1⟩
  ·refine fun i σ Hd hi hI_6=>opq fun G_6 hG_6=>?_;obtain ⟨v,rfl,sd,hpd⟩:=hI_6;refine hG_6 ?_;rw [lrn] at hi;have lk:=qFG (p:=fun x=>decide (x ∈ ks)) (l:=qDL 0 Ae.length) (i:=i);refine ⟨_,rfl,_,rfl,fo,_,_,_,rfl,rfl,SqL.of (sd _ _ hf),qBR (by omega) (by rw [show (0+(i:Int)).toNat=i by omega];exact qY7 (B.at_ i hi)),_,rfl,?_⟩
   rw [qDP (qPC (by omega)),W8]
   by_cases c:(i:Int) ∈ ks
   ·rw [decide_eq_true c];refine ⟨_,rfl,_,hpd,qAK (by rw [A0];omega),_,rfl,qAC sd hp,?_⟩
    rw [qA1,if_pos rfl,A9]
    rfl
   ·rw [decide_eq_false c];refine ⟨_,rfl,sd,?_⟩;simpa using hpd
  ·refine fun σ Hd hI_7=>opq fun G_7 hG_7=>?_;obtain ⟨v,rfl,sd,hpd⟩:=hI_7;refine hG_7 ?_;rw [qAU (by rw [qRY,lrn];omega)] at hpd
   refine q p _ Hd (sm.trans sd) (sm.free hp) hpd ⟨⟨(qJI _ _).filter _,fun x hx=>mem_rangeI.mp (F9.mp hx).1⟩,fun x=>?_⟩;rw [F9,mem_rangeI,decide_eq_true_eq,<- all x];exact ⟨fun z=>z.2,fun z=>⟨(fn.in_ x z).1,z⟩⟩
end
section
variable {P:Program} {w:World} {K:PySem.W.Frag} {mg:Str->Option Value} {base:Heap} {f:Addr} {fd:FuncData} {qE3 qBS:Addr} {qH5 qC7:FuncData}
theorem sc_use_counts:FnScope ["net","works","counts","work","need"] ["net","works"] (qAE qDX):=⟨rfl,rfl,rfl,by decide +kernel,rfl,by decide +kernel,by decide +kernel⟩
theorem ok_use_counts (F:Fun K "use_counts" "use_counts" qDX f fd) (qBQ:mg "len" = none):FnOk P w K mg base CX0 1 f fd ["net","works"] qaJ:=by
 refine F.ok sc_use_counts (fun vs H Q E h=>?_) (fun cdv A outer s H vs Q E hr h=>?_)
 ·obtain ⟨a,lw,Ae,ws,rfl,_⟩:=h
  rfl
 obtain ⟨a,lw,Ae,ws,rfl,hN,wf,n1000,hlw,wb,q⟩:=h;refine ⟨_,(qA4 (qAG (i:=2) sc_use_counts.nd rfl (D2 rfl) (qAJ qNE (qBA (qA0 qA7 qA3)) (qAA qAI rfl qBQ qD7 (qA0 (pv 0) qA3)))) (qA4 (qBC D0 rfl (qBE (pv 1)) (qA9 (i:=3) sc_use_counts.nd rfl (D2 rfl)) (qA6 (qBC D0 rfl (qE0 (qAW qB2 (pv 0) (pv 3) (fun _ _=>rfl))) (qA9 (i:=4) sc_use_counts.nd rfl (D2 rfl)) (qA6 (qYY (pv 2) (pv 4) qXB qA7 qY5 qIL))))) (qA6 (qAR (pv 2))))),?_⟩
 try dsimp only [Cx.nox,Cx.wish,cxOf]
 obtain ⟨rs,hA,NL⟩:=id hN;have lrs:=C6 NL;have lrv:(((rs.map V.ref).length:Nat):Int)=(Ae.length:Int):=by rw [A0,C6 NL]
 refine ⟨(by show 1<=sizeLine;decide),fun p0 hp0=>?_⟩
 have s0:=qA2 hp0 (.lst [.int 0]);refine ⟨_,rfl,a,_,rfl,.inr (SqT.of (s0 _ _ hA)),p0,_,_,rfl,rfl,qA1,by rw [lrv];omega,by rw [lrv];omega,?_,fun co hco=>?_⟩
 ·rw [lrv,sizeLine_eq];simp;omega
 have fco:H co=none:=s0.free hco;have s1:=s0.trans (qA2 hco (.lst (C4 ((((rs.map V.ref).length:Nat):Int)).toNat [V.int 0]).flatten));have gco:(upd (upd H p0 (.lst [.int 0])) co (.lst (C4 ((((rs.map V.ref).length:Nat):Int)).toNat [V.int 0]).flatten)) co=some (.lst ((C4 Ae.length (0:Int)).map V.int)):=by
  rw [qA1,rep0,lrv,J8]
 generalize upd (upd H p0 (.lst [.int 0])) co (.lst (C4 ((((rs.map V.ref).length:Nat):Int)).toNat [V.int 0]).flatten)=H1 at s1 gco ⊢;refine ⟨_,rfl,lw,rfl,⟨_,SqL.of (s1 _ _ hlw)⟩,qC6 (a:=lw) (xs:=ws.map V.int) (fun i σ Hc=>∃ (cs:List Int) (v3 v4:Option V),σ=[some (.ref a),some (.ref lw),some (.ref co),v3,v4]/\Same H Hc/\Hc co=some (.lst (cs.map V.int))/\CntX Ae.length cs (nds Ae (ws.take i)))
  ⟨_,none,none,rfl,s1,gco,CntX.nil _⟩ (fun i σ Hc _ hP=>by obtain ⟨_,_,_,_,sm,_⟩:=hP;exact SqL.of (sm _ _ hlw)) ?_ ?_⟩
 ·refine fun i x σ Hc hx hI_1=>opq fun G_1 hG_1=>?_;obtain ⟨cs,v3,v4,rfl,sm,hcc,ct⟩:=hI_1;obtain ⟨z,ez,rfl⟩:=qAQ hx;refine hG_1 ?_;have zb:=wb z (B8 ez);have hi:z.toNat<Ae.length:=by omega
  obtain ⟨rs',r,h1,l1,h2,h3⟩:=hN.get (A1 hi);have rz:=wf z.toNat _ (A1 hi);have fs:=qWO (Ae:=Ae) ez;rw [qAF (A1 hi)] at fs;generalize Ae[z.toNat]=zs at h3 rz fs;refine ⟨_,rfl,_,rfl,a,_,_,_,rfl,rfl,SqT.of (sm _ _ h1),qBR zb.1 h2,r,rfl,⟨_,SqT.of (sm _ _ h3)⟩,qEV (a:=r) (xs:=zs.map V.int) (fun k σ Hd=>∃ (cs:List Int) (v4:Option V),σ=[some (.ref a),some (.ref lw),some (.ref co),some (.int z),v4]/\Same H Hd/\Hd co=some (.lst (cs.map V.int))/\CntX Ae.length cs (nds Ae (ws.take i)++zs.take k))
   ⟨cs,v4,rfl,sm,hcc,by simpa using ct⟩ (fun k σ Hd _ hP=>by obtain ⟨_,_,_,sm',_⟩:=hP;exact SqT.of (sm' _ _ h3)) ?_ ?_⟩
  ·refine fun k x σ Hd hx hI_2=>opq fun G_2 hG_2=>?_;obtain ⟨cs,v4,rfl,sm',hcd,ct'⟩:=hI_2;obtain ⟨y,ey,rfl⟩:=qAQ hx;refine hG_2 ?_;have yin:=rz.in_ y (B8 ey);have hc:=ct'.get yin.1 (by omega)
   generalize ((List.count y (nds Ae (ws.take i)++zs.take k):Nat):Int)=c at hc;refine ⟨_,rfl,_,rfl,co,_,_,_,rfl,rfl,SqL.of hcd,qBR yin.1 (by rw [B7,hc];rfl),_,_,rfl,rfl,co,_,_,y.toNat,rfl,rfl,hcd,?_,?_⟩
   ·have:=qPX (xs:=cs.map V.int) (j:=y.toNat) (by rw [A0,ct'.len];omega)
    rw [show ((y.toNat:Nat):Int)=y by omega] at this
    exact this
   ·refine ⟨cs.set y.toNat (c+1),_,rfl,qAC sm' fco,?_,?_⟩
    ·rw [qA1,A15]
    ·rw [C2,ey,B9,<- O4];exact ct'.bump yin.1 (by omega) hc
  ·refine fun σ Hd hI_3=>opq fun G_3 hG_3=>?_;obtain ⟨cs,v4,rfl,sm',hcd,ct'⟩:=hI_3;refine hG_3 ?_;rw [A0,qAU rfl,<- fs] at ct';exact ⟨cs,_,_,rfl,sm',hcd,ct'⟩
 ·refine fun σ Hc hI_4=>opq fun G_4 hG_4=>?_;obtain ⟨cs,v3,v4,rfl,sm,hcc,ct⟩:=hI_4;refine hG_4 ?_;rw [A0,qAU rfl] at ct;exact ⟨_,rfl,q co cs Hc sm fco hcc ct⟩
theorem sc_is_tree:FnScope ["net","work","needed","counts"] ["net","work"] (qAE qGP):=⟨rfl,rfl,rfl,by decide +kernel,rfl,by decide +kernel,by decide +kernel⟩
theorem ok_is_tree (F:Fun K "is_tree" "is_tree" qGP f fd)
  (qAZ:Clb P w K mg base 1 qBS qC7 "all_needed" ["net","asked"] qWA)
  (qE6:Clb P w K mg base 1 qE3 qH5 "use_counts" ["net","works"] qaJ)
  (qG7:mg "all" = none):FnOk P w K mg base CX0 2 f fd ["net","work"] qQM:=by
 refine F.ok sc_is_tree (fun vs H Q E h=>?_) (fun cdv A outer s H vs Q E hr h=>?_)
 ·obtain ⟨a,Ae,work,rfl,_⟩:=h
  rfl
 obtain ⟨a,Ae,work,rfl,hN,wf,n1000,w0,w1,q⟩:=h;have qX3:Room 1 _:=hr;have qX2:Room 1 _:=hr;refine ⟨_,(qA4 (qAG (i:=2) sc_is_tree.nd rfl (D2 rfl) (qAX qAZ hr rfl (qA0 (pv 0) (qA0 (qCM (qA0 (pv 1) qA3)) qA3)))) (qA4 (qAG (i:=3) sc_is_tree.nd rfl (c8 rfl) (qAX qE6 hr rfl (qA0 (pv 0) (qA0 (pv 2) qA3)))) (qA6 (qAR (qAA (qJ1 rfl) rfl qG7 qRN (qA0 (qEM rfl (lcs (own:=["other"]) (fv:=[3,1]) (by kernel_rfl)) (qBE (pv 2)) (fun z1=>qA9 (i:=0) (qCU (by kernel_rfl)) rfl (D2 rfl)) (fun z1=>(qLU (qAS qTW (pv 0) (pv 2) (qB1 _)))) (fun z1=>(qG8 qGW (qAW (qM9 (K:=K) rfl) (pv 1) (pv 0) (fun _ _=>rfl)) qA7 (qB1 _)))) qA3)))))),?_⟩
 try dsimp only [Cx.nox,Cx.wish,cxOf]
 refine ⟨_,rfl,_,rfl,(by show 1<=sizeLine;decide),fun tp htp=>?_⟩
 have s1:=qA2 htp (.tup [.int work]);refine ⟨a,tp,Ae,[work],rfl,hN.same s1,wf,n1000,qA1,fun x hx=>by rw [A4.mp hx];exact ⟨w0,w1⟩,fun l zs H1 sm1 fl gl nd=>?_⟩
 have s2:=s1.trans sm1;refine ⟨_,rfl,_,rfl,a,l,Ae,zs,rfl,hN.same s2,wf,n1000,gl,nd.1.in_,fun co cs H2 sm2 fco gco ct=>?_⟩;have s3:=s2.trans sm2;refine ⟨_,rfl,l,rfl,⟨_,SqL.of (sm2 _ _ gl)⟩,fun p hp=>?_⟩;refine qER (p:=p) (a:=l) (xs:=zs.map V.int) (fun i σ Hd=>∃ (v0:Option V),σ=[v0,some (.ref co),some (.int work)]/\Same H2 Hd/\Hd p=some (.lst ((((zs.take i).filter fun x=>decide (x ≠ work)).map fun x=>decide (V.int (cI Ae zs x)=V.int 1)).map V.bl))) ?_ ?_ ?_ ?_
 ·exact ⟨none,rfl,qA2 hp _,qA1⟩
 ·rintro i σ Hd hi ⟨v0,rfl,sd,_⟩;exact SqL.of (sd _ _ (sm2 _ _ gl))
 ·refine fun i x σ Hd hx hI_6=>opq fun G_6 hG_6=>?_;obtain ⟨v0,rfl,sd,hpd⟩:=hI_6;obtain ⟨y,ey,rfl⟩:=qAQ hx;refine hG_6 ?_;have yb:=nd.1.in_ y (B8 ey);have lz:=nd.1.len;have lk:=qFG (p:=fun x=>decide (x ≠ work)) (l:=zs) (i:=i);have li:=(A3.mp ey).1;refine ⟨_,rfl,_,rfl,rfl,_,rfl,?_⟩;rw [qDP ey];by_cases e:y=work
  ·rw [decide_eq_true (show V.int y=V.int work by rw [e]),decide_eq_false (show ¬ y ≠ work from fun z=>z e)]
   refine ⟨_,rfl,sd,?_⟩;simpa using hpd
  ·rw [decide_eq_false (show ¬ V.int y=V.int work from fun z=>e (V.int.inj z)),decide_eq_true (show y ≠ work from e)];refine ⟨_,rfl,_,rfl,co,_,_,_,rfl,rfl,SqL.of (sd _ _ gco),qBR yb.1 (by rw [B7,ct.get yb.1 yb.2];rfl),rfl,_,hpd,qAK (by rw [A0,A0];omega),_,rfl,qAC sd hp,?_⟩
   rw [qA1,if_pos rfl,A9,A9]
   rfl
 ·refine fun σ Hd hI_7=>opq fun G_7 hG_7=>?_;obtain ⟨v0,rfl,sd,hpd⟩:=hI_7;refine hG_7 ?_;rw [A0,qAU rfl] at hpd;refine ⟨p,_,rfl,SqL.of hpd,?_⟩;rw [qW8];exact q zs Hd (s3.trans sd) nd
end
section
variable {P:Program} {w:World} {K:PySem.W.Frag} {mg:Str->Option Value} {base:Heap} {f:Addr} {fd:FuncData}
theorem sc_taken_by:FnScope ["net","wides","work","order","last_user","other","need","told","kept"] ["net","wides","work","order"] (qAE qFZ):=⟨rfl,rfl,rfl,by decide +kernel,rfl,by decide +kernel,by decide +kernel⟩
theorem ok_taken_by (F:Fun K "taken_by" "taken_by" qFZ f fd):FnOk P w K mg base CX0 1 f fd ["net","wides","work","order"] qJC:=by
 refine F.ok sc_taken_by (fun vs H Q E h=>?_) (fun cdv A outer s H vs Q E hr h=>?_)
 ·obtain ⟨a,t,lo,wk,Ae,ws,zs,rfl,_⟩:=h
  rfl
 obtain ⟨a,t,lo,wk,Ae,ws,zs,rfl,hN,wf,n400,⟨hT,lw⟩,hLo,TO,lz,q⟩:=h;have hu:=qJZ hr;refine ⟨_,(qA4 (qAG (i:=4) sc_taken_by.nd rfl (D2 rfl) qEN) (qA4 (qBC D0 rfl (qBE (pv 3)) (qA9 (i:=5) sc_taken_by.nd rfl (D2 rfl)) (qA6 (qBC D0 rfl (qE0 (qAW qB2 (pv 0) (pv 5) (fun _ _=>rfl))) (qA9 (i:=6) sc_taken_by.nd rfl (D2 rfl)) (qA6 (qEL hu (pv 4) (pv 6) (pv 5) rfl))))) (qA4 (qAG (i:=7) sc_taken_by.nd rfl (D2 rfl) (qBA qA3)) (qA4 (qAG (i:=8) sc_taken_by.nd rfl (D2 rfl) qA7) (qA4 (qBC D0 rfl (qBE (pv 3)) (qA9 (i:=5) sc_taken_by.nd rfl (D2 rfl)) (qA4 (qXT (i:=8) sc_taken_by.nd rfl (D2 rfl) (qAW qB2 (pv 1) (pv 5) (fun _ _=>rfl)) qY5) (qA4 (qBY (qHJ D8 G4 G5 qC1 (pv 7) (qA0 (pv 8) qA3))) (qA6 (qBC D0 rfl (qE0 (qAW qB2 (pv 0) (pv 5) (fun _ _=>rfl))) (qA9 (i:=6) sc_taken_by.nd rfl (D2 rfl)) (qA6 (qCK (qAS qGW (qD8 hu (pv 4) (pv 6) (fun _ _=>rfl)) (pv 5) (qB1 _)) (qA6 (qXT (i:=8) sc_taken_by.nd rfl (D2 rfl) (qAW qB2 (pv 1) (pv 6) (fun _ _=>rfl)) qbM)) qAV))))))) (qA6 (qAR (pv 7)))))))),?_⟩
 try dsimp only [Cx.nox,Cx.wish,cxOf]
 obtain ⟨rs,hA,NL⟩:=id hN;refine cut fun N0 hN0=>?_;refine fun dn hdn=>?_;have sn:=qA2 hdn (.dK []);refine hN0 _ _ (cut fun N1 hN1=>?_);refine ⟨_,rfl,lo,rfl,⟨_,SqL.of (sn _ _ hLo)⟩,qC6 (a:=lo) (xs:=zs.map V.int) (fun i σ Hf=>∃ (Af:List (Key × V)) (v5 v6:Option V),σ=[some (.ref a),some (.ref t),some (.int wk),some (.ref lo),some (.ref dn),v5,v6,none,none]/\Same H Hf/\Hf dn=some (.dK Af)/\Af.length<=63 * i/\∀ y,valV Af (E9 y)=(qBB Ae (zs.take i) y).map V.int)
  ⟨[],none,none,rfl,sn,qA1,D7 _,fun y=>by simp [qBB,valV]⟩ (fun i σ Hf _ hP=>by obtain ⟨_,_,_,_,sm,_⟩:=hP;exact SqL.of (sm _ _ hLo)) ?_ ?_⟩
 ·refine fun i x σ Hf hx hI_1=>opq fun G_1 hG_1=>?_;obtain ⟨Af,v5,v6,rfl,sm,hd,lk,hv⟩:=hI_1;obtain ⟨w0,ew,rfl⟩:=qAQ hx;refine hG_1 ?_;have hi:=(A3.mp ew).1;have wb:=TO.in_ w0 (B8 ew);have hw:w0.toNat<Ae.length:=by omega
  have hz:=A1 hw;obtain ⟨r,h3,h4⟩:=NL.get hz;have ln:=(wf w0.toNat _ hz).len;have en:=qAF hz;generalize Ae[w0.toNat]=ns at h4 hz ln en;refine ⟨_,rfl,_,rfl,a,_,_,_,rfl,rfl,SqT.of (sm _ _ hA),qBR wb.1 (by rw [B7,h3];rfl),r,rfl,⟨_,SqT.of (sm _ _ h4)⟩,qEV (a:=r) (xs:=ns.map V.int) (fun k σ Hd=>∃ (Af:List (Key × V)) (v6:Option V),σ=[some (.ref a),some (.ref t),some (.int wk),some (.ref lo),some (.ref dn),some (.int w0),v6,none,none]/\Same H Hd/\Hd dn=some (.dK Af)/\Af.length<=63 * i+k/\∀ y,valV Af (E9 y)=if y ∈ ns.take k then some (.int w0) else (qBB Ae (zs.take i) y).map V.int)
   ⟨Af,v6,rfl,sm,hd,by omega,fun y=>by rw [hv y];simp⟩ (fun k σ Hd _ hP=>by obtain ⟨_,_,_,sm',_⟩:=hP;exact SqT.of (sm' _ _ h4)) ?_ ?_⟩
  ·refine fun k x σ Hd hx hI_2=>opq fun G_2 hG_2=>?_;obtain ⟨Af,v6,rfl,sm',hd',lk',hv'⟩:=hI_2;obtain ⟨y,ey,rfl⟩:=qAQ hx;refine hG_2 ?_;have hk:=(A3.mp ey).1;refine ⟨_,rfl,_,rfl,_,rfl,dn,_,rfl,DPut.k (k:=E9 y) hd' (qB7 (by omega)),?_⟩
   refine ⟨_,_,rfl,qAC sm' hdn,qA1,L6 (qCD _ _ _) (by omega),fun x=>?_⟩
   rw [qIG,C2,ey,B9];by_cases e:x=y
   ·rw [e,if_pos rfl,if_pos (by simp)]
   ·rw [if_neg fun z=>e (X8 z),hv' x];simp [e]
  ·refine fun σ Hd hI_3=>opq fun G_3 hG_3=>?_;obtain ⟨Af,v6,rfl,sm',hd',lk',hv'⟩:=hI_3;refine hG_3 ?_;rw [A0] at lk' hv';refine ⟨Af,_,_,rfl,sm',hd',by omega,fun y=>?_⟩
   rw [hv' y,qAU rfl,C2,ew,B9,qJU,en];by_cases c:y ∈ ns
   ·rw [if_pos c,if_pos c]
    rfl
   ·rw [if_neg c,if_neg c]
 refine fun σ Hf hI_4=>opq fun G_4 hG_4=>?_;obtain ⟨Af,v5,v6,rfl,sm,hd,lk,hv⟩:=hI_4;refine hG_4 ?_;rw [A0] at lk hv;rw [qAU rfl] at hv;refine hN1 _ _ (cut fun N2 hN2=>?_);refine ⟨(by show 0<=sizeLine;decide),fun lt hlt=>?_⟩
 have flt:H lt=none:=sm.free hlt;have sp:=qA2 hlt (.lst []);have hd1:=sp _ _ hd;have s1:=sm.trans sp;have glt:(upd Hf lt (.lst [])) lt=some (.lst (([]:List Int).map V.int)):=qA1;generalize upd Hf lt (.lst [])=H1 at hd1 s1 glt;have ndl:dn ≠ lt:=qBM hd1 glt (by intro z;cases z)
 refine hN2 _ _ (cut fun N3 hN3=>?_);refine hN3 _ _ (cut fun N4 hN4=>?_);refine ⟨_,rfl,lo,rfl,⟨_,SqL.of (s1 _ _ hLo)⟩,qC6 (a:=lo) (xs:=zs.map V.int) (fun i σ Hg=>∃ (v5 v6:Option V) (kept:Int),σ=[some (.ref a),some (.ref t),some (.int wk),some (.ref lo),some (.ref dn),v5,v6,some (.ref lt),some (.int kept)]/\Same H Hg/\Hg dn=some (.dK Af)/\Hg lt=some (.lst (((I0 i).map fun p=>wdO ws ((zs[p]?).getD 0)+qDO Ae ws zs p).map V.int))/\(i<zs.length->kept=qDO Ae ws zs i))
  ⟨v5,v6,0,rfl,s1,hd1,glt,fun _=>(qNV Ae ws zs).symm⟩ (fun i σ Hg _ hP=>by obtain ⟨_,_,_,_,sg,_⟩:=hP;exact SqL.of (sg _ _ hLo)) ?_ ?_⟩
 ·refine fun i x σ Hg hx hI_5=>opq fun G_5 hG_5=>?_;obtain ⟨v5,v6,kept,rfl,sg,hdg,hlg,hk⟩:=hI_5;obtain ⟨w0,ew,rfl⟩:=qAQ hx;refine hG_5 ?_;have hi:=(A3.mp ew).1;have wb:=TO.in_ w0 (B8 ew);have hw:w0.toNat<Ae.length:=by omega
  have hz:=A1 hw;obtain ⟨r,h3,h4⟩:=NL.get hz;have ln:=(wf w0.toNat _ hz).len;have en:=qAF hz;have inz:=(wf w0.toNat _ hz).in_;generalize Ae[w0.toNat]=ns at h4 hz ln en inz;have hk':=hk hi;have wat:∀ x:Int,0<=x->x<(Ae.length:Int)->atI (ws.map V.int) x=some (.int (wdO ws x)):=by
   intro x x0 x1;have hx:x.toNat<ws.length:=by omega
   refine qBR x0 ?_;rw [B7];unfold wdO;rw [A1 hx]
   rfl
  refine cut fun N5 hN5=>?_;refine ⟨_,rfl,_,rfl,_,rfl,t,_,_,_,rfl,rfl,SqT.of (sg _ _ hT),wat w0 wb.1 wb.2,_,_,rfl,rfl,?_⟩;refine hN5 _ _ (cut fun N6 hN6=>?_);refine ⟨_,rfl,.inl ⟨rfl,_,SqL.of hlg⟩,_,rfl,lt,_,_,rfl,rfl,hlg,qB7 (by simp;omega),?_⟩
  dsimp only;have e1:(((I0 i).map fun p=>wdO ws ((zs[p]?).getD 0)+qDO Ae ws zs p).map V.int)++[V.int (kept+wdO ws w0)]=((I0 (i+1)).map fun p=>wdO ws ((zs[p]?).getD 0)+qDO Ae ws zs p).map V.int:=by
   rw [A74,A9,A9,hk'];congr 1;simp [ew];omega
  rw [e1];have sg2:Same H (upd Hg lt (.lst (((I0 (i+1)).map fun p=>wdO ws ((zs[p]?).getD 0)+qDO Ae ws zs p).map V.int))):=qAC sg flt;have hdg2:(upd Hg lt (.lst (((I0 (i+1)).map fun p=>wdO ws ((zs[p]?).getD 0)+qDO Ae ws zs p).map V.int))) dn=some (.dK Af):=by rw [qA8 ndl];exact hdg
  have hlg2:(upd Hg lt (.lst (((I0 (i+1)).map fun p=>wdO ws ((zs[p]?).getD 0)+qDO Ae ws zs p).map V.int))) lt=some (.lst (((I0 (i+1)).map fun p=>wdO ws ((zs[p]?).getD 0)+qDO Ae ws zs p).map V.int)):=qA1;generalize upd Hg lt (.lst (((I0 (i+1)).map fun p=>wdO ws ((zs[p]?).getD 0)+qDO Ae ws zs p).map V.int))=H2 at sg2 hdg2 hlg2 ⊢;refine hN6 _ _ ?_;refine ⟨_,rfl,_,rfl,a,_,_,_,rfl,rfl,SqT.of (sg2 _ _ hA),qBR wb.1 (by rw [B7,h3];rfl),r,rfl,⟨_,SqT.of (sg2 _ _ h4)⟩,qEV (a:=r) (xs:=ns.map V.int) (fun k σ Hd=>∃ (v6:Option V),σ=[some (.ref a),some (.ref t),some (.int wk),some (.ref lo),some (.ref dn),some (.int w0),v6,some (.ref lt),some (.int (kept+wdO ws w0 - sumW ws ((ns.take k).filter fun y=>decide (qBB Ae zs y=some w0))))]/\Hd=H2)
   ⟨v6,by simp [qEI],rfl⟩ (fun k σ Hd _ ⟨_,_,e⟩=>by rw [e];exact SqT.of (sg2 _ _ h4)) ?_ ?_⟩
  ·refine fun k x σ Hd hx hI_6=>opq fun G_6 hG_6=>?_;obtain ⟨v6,rfl,rfl⟩:=hI_6;obtain ⟨y,ey,rfl⟩:=qAQ hx;refine hG_6 ?_;have my':=B8 ey;have my:y ∈ nd Ae w0:=by rw [en];exact my'
   have yb:=inz y my';obtain ⟨v,ev⟩:∃ v,qBB Ae zs y=some v:=by
    cases e:qBB Ae zs y with
    | some v=>exact ⟨v,rfl⟩
    | none=>exact absurd my (lastOf_none.mp e w0 (B8 ew))
   have hg:=DGet.k (k:=E9 y) hdg2;rw [hv y,ev] at hg;rw [qDP ey,ev];refine ⟨_,rfl,_,rfl,dn,_,rfl,hg,_,rfl,rfl,_,rfl,?_⟩;by_cases c1:v=w0
   ·rw [decide_eq_true (show V.int v=V.int w0 by rw [c1]),decide_eq_true (show some v=some w0 by rw [c1])]
    refine ⟨_,rfl,_,rfl,_,rfl,t,_,_,_,rfl,rfl,SqT.of (sg2 _ _ hT),wat y yb.1 (by omega),_,_,rfl,rfl,?_⟩
    refine ⟨some (.int y),?_,rfl⟩;have e2:sumW ws ((ns.take k).filter (fun y=>decide (qBB Ae zs y=some w0))++(if true=true then [y] else []))=sumW ws ((ns.take k).filter fun y=>decide (qBB Ae zs y=some w0))+wdO ws y:=by
     rw [qIJ,if_pos rfl,qB5,qEI];omega
    rw [e2];generalize sumW ws ((ns.take k).filter fun y=>decide (qBB Ae zs y=some w0))=S;have e3:kept+wdO ws w0 - (S+wdO ws y)=kept+wdO ws w0 - S - wdO ws y:=by omega
    rw [e3]
    rfl
   ·rw [decide_eq_false (show ¬ V.int v=V.int w0 from fun z=>c1 (V.int.inj z)),decide_eq_false (show ¬ some v=some w0 from fun z=>c1 (D5 z))];exact ⟨some (.int y),by simp,rfl⟩
  ·refine fun σ Hd hI_7=>opq fun G_7 hG_7=>?_;obtain ⟨v6,rfl,rfl⟩:=hI_7;refine hG_7 ?_;rw [A0,qAU rfl];refine ⟨_,_,_,rfl,sg2,hdg2,hlg2,fun hl=>?_⟩;rw [qNW wf TO ew hl,hk',en]
 ·refine fun σ Hg hI_8=>opq fun G_8 hG_8=>?_;obtain ⟨v5,v6,kept,rfl,sg,hdg,hlg,_⟩:=hI_8;refine hG_8 ?_;rw [A0] at hlg;refine hN4 _ _ ⟨_,rfl,?_⟩;exact q lt Hg sg flt hlg
theorem sc_Ltaken:FnScope ["_law_net_here","_law_wides_here","_law_order","_law_found","_law_place","_law_one","_law_wanted","_law_other","_law_need"] ["_law_net_here","_law_wides_here","_law_order"] (qAE qIO):=⟨rfl,rfl,rfl,by decide +kernel,rfl,by decide +kernel,by decide +kernel⟩
theorem ok_Ltaken (F:Fun K "_law_taken" "_law_taken" qIO f fd) (qBT:mg "enumerate" = none) (qLE:mg "sum" = none):FnOk P w K mg base CX0 1 f fd ["_law_net_here","_law_wides_here","_law_order"] qT1:=by
 refine F.ok sc_Ltaken (fun vs H Q E h=>?_) (fun cdv A outer s H vs Q E hr h=>?_)
 ·obtain ⟨a,t,lo,Ae,ws,zs,rfl,_⟩:=h
  rfl
 obtain ⟨a,t,lo,Ae,ws,zs,rfl,hN,wf,n400,⟨hT,lw⟩,hLo,TO,lz,q⟩:=h;have hu:=qJZ hr;refine ⟨_,(qA4 (qAG (i:=3) sc_Ltaken.nd rfl (D2 rfl) (qBA qA3)) (qA4 (qBC D0 rfl (qTK rfl qBT qI7 (qA0 (pv 2) qA3)) (qGU rfl (qB3 (qA9 (i:=4) sc_Ltaken.nd rfl (D2 rfl)) (qB3 (qA9 (i:=5) sc_Ltaken.nd rfl (D2 rfl)) qEA))) (qA4 (qAG (i:=6) sc_Ltaken.nd rfl (c8 rfl) qEN) (qA4 (qBC D0 rfl (qBE (qGV qJG (pv 2) (qHI (pv 4)) qJK)) (qA9 (i:=7) sc_Ltaken.nd rfl (D2 rfl)) (qA6 (qBC D0 rfl (qE0 (qAW qB2 (pv 0) (pv 7) (fun _ _=>rfl))) (qA9 (i:=8) sc_Ltaken.nd rfl (D2 rfl)) (qA6 (qEL hu (pv 6) (pv 8) qEB rfl))))) (qA6 (qBY (qHJ D8 G4 G5 qC1 (pv 3) (qA0 (qAJ qBW (qAW qB2 (pv 1) (pv 5) (fun _ _=>rfl)) (qAA (qRL rfl) rfl qLE qYC (qA0 (qEM rfl (lcs (own:=["_law_other"]) (fv:=[1,6]) (by kernel_rfl)) (qBE (qGV qJG (pv 2) qJK (qHI (pv 4)))) (fun z1=>qA9 (i:=0) (qCU (by kernel_rfl)) rfl (D2 rfl)) (fun z1=>(qLU (qQU (qNB hu (pv 0) (pv 2))))) (fun z1=>(qAW (qGE (K:=K) rfl) (pv 1) (pv 0) (fun _ _=>rfl)))) qA3))) qA3))))))) (qA6 (qAR (pv 3))))),?_⟩
 try dsimp only [Cx.nox,Cx.wish,cxOf]
 obtain ⟨rs,hA,NL⟩:=id hN;have wat:∀ x:Int,0<=x->x<(Ae.length:Int)->atI (ws.map V.int) x=some (.int (wdO ws x)):=by
  intro x x0 x1;have hx:x.toNat<ws.length:=by omega
  refine qBR x0 ?_;rw [B7];unfold wdO;rw [A1 hx]
  rfl
 refine cut fun N1 hN1=>?_;refine ⟨(by show 0<=sizeLine;decide),fun lf hlf=>?_⟩
 refine hN1 _ _ (cut fun N2 hN2=>?_);have s0:=qA2 hlf (.lst []);refine ⟨_,rfl,lo,rfl,⟨_,SqL.of (s0 _ _ hLo)⟩,qXC (a:=lo) (xs:=zs.map V.int) (fun i σ Hc=>∃ (v4 v5 v6 v7 v8:Option V),σ=[some (.ref a),some (.ref t),some (.ref lo),some (.ref lf),v4,v5,v6,v7,v8]/\Same H Hc/\Hc lf=some (.lst (((I0 i).map fun p=>wdO ws ((zs[p]?).getD 0)+qDO Ae ws zs p).map V.int)))
  ⟨none,none,none,none,none,rfl,s0,qA1⟩ (fun i σ Hc _ hP=>by obtain ⟨_,_,_,_,_,_,sc,_⟩:=hP;exact SqL.of (sc _ _ hLo)) ?_ ?_⟩
 ·refine fun i x σ Hc T hx hI_1 hT2=>opq fun G_1 hG_1=>?_;obtain ⟨v4,v5,v6,v7,v8,rfl,sm,hlc⟩:=hI_1;obtain ⟨w0,ew,rfl⟩:=qAQ hx;refine hG_1 ?_;have hi:=(A3.mp ew).1;have wb:=TO.in_ w0 (B8 ew);have sT:=sm.trans (qA2 hT2 (.tup [.int (i:Int),.int w0]));have hlT:=(qA2 hT2 (.tup [.int (i:Int),.int w0])) _ _ hlc;have gT:SqT K (upd Hc T (.tup [.int (i:Int),.int w0])) T [.int (i:Int),.int w0]:=SqT.of qA1;generalize upd Hc T (.tup [.int (i:Int),.int w0])=H1 at sT hlT gT ⊢;refine ⟨T,_,rfl,gT,rfl,_,_,rfl,_,_,rfl,rfl,?_⟩;refine cut fun N3 hN3=>?_;refine fun dw hdw=>?_;refine hN3 _ _ (cut fun N4 hN4=>?_);have fdw:H dw=none:=sT.free hdw;have sd:=qA2 hdw (.dK []);have hld:=sd _ _ hlT;have sD:=sT.trans sd;have gd0:(upd H1 dw (.dK [])) dw=some (.dK []):=qA1;generalize upd H1 dw (.dK [])=H2 at hld sD gd0 ⊢;have ndl:dw ≠ lf:=qBM gd0 hld (by intro z;cases z)
  refine ⟨_,rfl,_,rfl,_,rfl,lo,_,rfl,SqL.of (sD _ _ hLo),fun l2 hl2=>?_⟩;have s2:=sD.trans (qA2 hl2 (.lst (cutV (zs.map V.int) (some (i:Int)) none)));have gl2:(upd H2 l2 (.lst (cutV (zs.map V.int) (some (i:Int)) none))) l2=some (.lst (cutV (zs.map V.int) (some (i:Int)) none)):=qA1;have hl2':=(qA2 hl2 (.lst (cutV (zs.map V.int) (some (i:Int)) none))) _ _ hld;have gd2:=(qA2 hl2 (.lst (cutV (zs.map V.int) (some (i:Int)) none))) _ _ gd0;rw [qHB,qOH _ _ (by omega)] at gl2 s2 hl2' gd2 ⊢
  generalize upd H2 l2 (.lst ((zs.drop i).map V.int))=H3 at gl2 s2 hl2' gd2 ⊢;refine ⟨l2,rfl,⟨_,SqL.of gl2⟩,qC6 (a:=l2) (xs:=(zs.drop i).map V.int) (fun k σ Hd=>∃ (Af:List (Key × V)) (v7 v8:Option V),σ=[some (.ref a),some (.ref t),some (.ref lo),some (.ref lf),some (.int (i:Int)),some (.int w0),some (.ref dw),v7,v8]/\Same H Hd/\Hd l2=some (.lst ((zs.drop i).map V.int))/\Hd lf=some (.lst (((I0 i).map fun p=>wdO ws ((zs[p]?).getD 0)+qDO Ae ws zs p).map V.int))/\Hd dw=some (.dK Af)/\Af.length<=63 * k/\∀ y,(valV Af (E9 y)).isSome=decide (∃ v ∈ (zs.drop i).take k,y ∈ nd Ae v))
   ⟨[],v7,v8,rfl,s2,gl2,hl2',gd2,D7 _,fun y=>by simp [valV]⟩ (fun k σ Hd _ hP=>by obtain ⟨_,_,_,_,_,g,_⟩:=hP;exact SqL.of g) ?_ ?_⟩
  ·refine fun k x σ Hd hx hI_2=>opq fun G_2 hG_2=>?_;obtain ⟨Af,v7,v8,rfl,sd',gl',hlf',hd',lk,hv⟩:=hI_2;obtain ⟨w1,ew1,rfl⟩:=qAQ hx;refine hG_2 ?_;have hk:=(A3.mp ew1).1;have wb1:=TO.in_ w1 (Q6 (B8 ew1));have hw:w1.toNat<Ae.length:=by omega
   have hz:=A1 hw;obtain ⟨r,h3,h4⟩:=NL.get hz;have ln:=(wf w1.toNat _ hz).len;have en:=qAF hz;generalize Ae[w1.toNat]=ns at h4 hz ln en;refine ⟨_,rfl,_,rfl,a,_,_,_,rfl,rfl,SqT.of (sd' _ _ hA),qBR wb1.1 (by rw [B7,h3];rfl),r,rfl,⟨_,SqT.of (sd' _ _ h4)⟩,qEV (a:=r) (xs:=ns.map V.int) (fun j σ He=>∃ (Af:List (Key × V)) (v8:Option V),σ=[some (.ref a),some (.ref t),some (.ref lo),some (.ref lf),some (.int (i:Int)),some (.int w0),some (.ref dw),some (.int w1),v8]/\Same H He/\He l2=some (.lst ((zs.drop i).map V.int))/\He lf=some (.lst (((I0 i).map fun p=>wdO ws ((zs[p]?).getD 0)+qDO Ae ws zs p).map V.int))/\He dw=some (.dK Af)/\Af.length<=63 * k+j/\∀ y,(valV Af (E9 y)).isSome=(decide (y ∈ ns.take j) || decide (∃ v ∈ (zs.drop i).take k,y ∈ nd Ae v)))
    ⟨Af,v8,rfl,sd',gl',hlf',hd',by omega,fun y=>by rw [hv y];simp⟩ (fun j σ He _ hP=>by obtain ⟨_,_,_,sm',_⟩:=hP;exact SqT.of (sm' _ _ h4)) ?_ ?_⟩
   ·refine fun j x σ He hx hI_3=>opq fun G_3 hG_3=>?_;obtain ⟨Af,v8,rfl,se,gl'',hlf'',hd'',lk',hv'⟩:=hI_3;obtain ⟨y,ey,rfl⟩:=qAQ hx;refine hG_3 ?_;have hj:=(A3.mp ey).1;refine ⟨_,rfl,_,rfl,dw,_,rfl,DPut.k (k:=E9 y) hd'' (qB7 (by rw [P3] at hk;omega)),?_⟩
    refine ⟨_,_,rfl,qAC se fdw,?_,?_,qA1,L6 (qCD _ _ _) (by omega),fun x=>?_⟩
    ·rw [qA8 (qBM gl'' hd'' (by intro z;cases z))];exact gl''
    ·rw [qA8 (qBM hlf'' hd'' (by intro z;cases z))];exact hlf''
    ·rw [qIG,C2,ey,B9];by_cases e:x=y
     ·rw [e,if_pos rfl];simp
     ·rw [if_neg fun z=>e (X8 z),hv' x];simp [e]
   ·refine fun σ He hI_4=>opq fun G_4 hG_4=>?_;obtain ⟨Af,v8,rfl,se,gl'',hlf'',hd'',lk',hv'⟩:=hI_4;refine hG_4 ?_;rw [A0] at lk' hv';refine ⟨Af,_,_,rfl,se,gl'',hlf'',hd'',by omega,fun y=>?_⟩
    rw [hv' y,qAU rfl,C2,ew1,B9,<- en,U2,Y0,decide_eq_true_eq,decide_eq_true_eq,decide_eq_true_eq]
    constructor
    ·rintro (h | ⟨v,h1,h2⟩)
     ·exact ⟨w1,by simp,h⟩
     ·exact ⟨v,Q5 _ h1,h2⟩
    ·refine fun hI_5=>opq fun G_5 hG_5=>?_;obtain ⟨v,h1,h2⟩:=hI_5;refine hG_5 ?_;rcases E1.mp h1 with h1 | h1
     ·exact .inr ⟨v,h1,h2⟩
     ·rw [A4.mp h1] at h2;exact .inl h2
  refine fun σ Hd hI_6=>opq fun G_6 hG_6=>?_;obtain ⟨Af,v7,v8,rfl,sd',gl',hlf',hd',lk,hv⟩:=hI_6;refine hG_6 ?_;have hv2:∀ y,(valV Af (E9 y)).isSome=decide (qES Ae zs i y):=by
   intro y;rw [hv y,A0,X1]
   rfl
  refine hN4 _ _ ?_;refine ⟨_,rfl,.inl ⟨rfl,_,SqL.of hlf'⟩,_,rfl,_,rfl,t,_,_,_,rfl,rfl,SqT.of (sd' _ _ hT),wat w0 wb.1 wb.2,?_⟩;refine ⟨_,rfl,_,rfl,_,rfl,lo,_,rfl,SqL.of (sd' _ _ hLo),fun l3 hl3=>?_⟩;have s3':=qA2 hl3 (.lst (cutV (zs.map V.int) none (some (i:Int))));have gl3:(upd Hd l3 (.lst (cutV (zs.map V.int) none (some (i:Int))))) l3=some (.lst (cutV (zs.map V.int) none (some (i:Int)))):=qA1;rw [qHB,qVH] at gl3 s3' ⊢;have s3:=sd'.trans s3';have hlf3:=s3' _ _ hlf';have hd3:=s3' _ _ hd';generalize upd Hd l3 (.lst ((zs.take i).map V.int))=H5 at gl3 s3 s3' hlf3 hd3 ⊢;refine ⟨l3,rfl,⟨_,SqL.of gl3⟩,fun p hp=>?_⟩;refine qER (p:=p) (a:=l3) (xs:=(zs.take i).map V.int) (fun j σ He=>∃ (v:Option V),σ=[v,some (.ref t),some (.ref dw)]/\Same H5 He/\He p=some (.lst (((((zs.take i).take j).filter fun x=>decide (qES Ae zs i x)).map (wdO ws)).map V.int))) ?_ ?_ ?_ ?_
  ·exact ⟨none,rfl,qA2 hp _,qA1⟩
  ·rintro j σ He hj ⟨v,rfl,se,_⟩;exact SqL.of (se _ _ gl3)
  ·refine fun j x σ He hx hI_8=>opq fun G_8 hG_8=>?_;obtain ⟨v,rfl,se,hpe⟩:=hI_8;obtain ⟨y,ey,rfl⟩:=qAQ hx;refine hG_8 ?_;have hj:=(A3.mp ey).1;have yb:=TO.in_ y (J7 (B8 ey));refine ⟨_,rfl,_,rfl,dw,_,rfl,DGet.k (k:=E9 y) (se _ _ hd3),_,rfl,?_⟩;rw [hv2 y,qDP ey];by_cases c:qES Ae zs i y
   ·rw [decide_eq_true c];refine ⟨_,rfl,_,rfl,t,_,_,_,rfl,rfl,SqT.of (se _ _ (s3 _ _ hT)),wat y yb.1 yb.2,?_⟩;have lf1:(((zs.take i).take j).filter fun x=>decide (qES Ae zs i x)).length<=63:=L6 (V3 _ _) (by rw [D4,D4];omega)
    refine ⟨_,hpe,qB7 (by rw [A0,A0];omega),_,rfl,qAC se hp,?_⟩
    rw [qA1,if_pos rfl,A9,A9]
    rfl
   ·rw [decide_eq_false c];refine ⟨_,rfl,se,?_⟩;simpa using hpe
  refine fun σ He hI_9=>opq fun G_9 hG_9=>?_;obtain ⟨v,rfl,se,hpe⟩:=hI_9;refine hG_9 ?_;rw [A0,X1] at hpe;have hl6:=se _ _ hlf3;refine ⟨p,_,rfl,SqL.of hpe,_,_,rfl,rfl,lf,_,_,rfl,rfl,hl6,qB7 (by simp;omega),?_⟩
  refine ⟨_,_,_,_,_,rfl,qAC (s3.trans se) hlf,?_⟩;rw [qA1,A74,A9,A9];have e5:((zs[i]?).getD 0)=w0:=by rw [ew];rfl
  show _=some (HO.lst (_++[V.int (wdO ws ((zs[i]?).getD 0)+qDO Ae ws zs i)]));rw [e5]
  rfl
 ·refine fun σ Hc hI_10=>opq fun G_10 hG_10=>?_;obtain ⟨v4,v5,v6,v7,v8,rfl,sm,hlc⟩:=hI_10;refine hG_10 ?_;rw [A0] at hlc;exact hN2 _ _ ⟨_,rfl,q lf Hc sm hlf hlc⟩
end
section
variable {P:Program} {w:World} {K:PySem.W.Frag} {mg:Str->Option Value} {base:Heap} {f:Addr} {fd:FuncData} {qCF:Addr} {qC8:FuncData}
theorem qXV {xs:List Int} {k:Int} (h0:0<=k) (h1:k<(xs.length:Int)):∃ v,atI (xs.map V.int) k=some (.int v)/\v ∈ xs:=by
 have hk:k.toNat<xs.length:=by omega
 exact ⟨xs[k.toNat],qBR h0 (by rw [B7,A1 hk];rfl),U9 hk⟩
theorem sc_Lwides:FnScope ["_law_state","_law_many","_law_way","_law_most","_law_found"] ["_law_state","_law_many"] (qAE qIN):=⟨rfl,rfl,rfl,by decide +kernel,rfl,by decide +kernel,by decide +kernel⟩
theorem ok_Lwides (F:Fun K "_law_wides" "_law_wides" qIN f fd) (qAH:Clb P w K mg base 1 qCF qC8 "_law_take" ["_law_state","_law_many"] qHW) (qAP:mg "range" = none) (qAM:mg "tuple" = none):FnOk P w K mg base CX0 2 f fd ["_law_state","_law_many"] qQJ:=by
 refine F.ok sc_Lwides (fun vs H Q E h=>?_) (fun cdv A outer s H vs Q E hr h=>?_)
 ·obtain ⟨d,c,t,ns,m,rfl,_⟩:=h
  rfl
 obtain ⟨d,c,t,ns,m,rfl,S,ht,m1,m100,q⟩:=h;have ht':t<=1000000000 - 1000:=ht;refine ⟨_,(qA4 (qAG (i:=2) sc_Lwides.nd rfl (D2 rfl) (qAX qAH hr rfl (qA0 (pv 0) (qA0 qA7 qA3)))) (qA4 (qAG (i:=3) sc_Lwides.nd rfl (c8 rfl) (qAW qCP (qBA (qA0 (qAJ qBW qA7 (qAX qAH hr rfl (qA0 (pv 0) (qA0 qA7 qA3)))) (qA0 qA7 (qA0 qA7 (qA0 qA7 (qA0 qA7 qA3)))))) (pv 2) (fun _ _=>rfl))) (qA4 (qRZ (i:=4) sc_Lwides.nd rfl rfl rfl (lcs (own:=["_law_k"]) (fv:=[0,3]) (by kernel_rfl)) (qBZ rfl qAP (qA0 (pv 1) qA3)) (fun z1=>qA9 (i:=0) (qCU (by kernel_rfl)) rfl (D2 rfl)) (fun z1=>qBL) (fun z1=>(qAJ qBW qA7 (qAX qAH hr rfl (qA0 (pv 1) (qA0 (pv 2) qA3))))) (by kernel_rfl)) (qA4 (qPE (qCK (qAS qGW (pv 2) qA7 (qB1 _)) (qA6 (qAG (i:=4) sc_Lwides.nd rfl (D2 rfl) (qAJ qNE (qBA (qA0 (pv 3) qA3)) (pv 1)))) qAV)) (qA4 (qPE (qCK (qAS qGW (pv 2) qA7 (qB1 _)) (qA6 (qRZ (i:=4) sc_Lwides.nd rfl rfl rfl (lcs (own:=["_law_wide"]) (fv:=[0]) (by kernel_rfl)) (qBE (pv 4)) (fun z2=>qA9 (i:=0) (qCU (by kernel_rfl)) rfl (D2 rfl)) (fun z2=>qBL) (fun z2=>(qAW (qM9 (K:=K) rfl) (qBA (qA0 qA7 (qA0 qA7 (qA0 (pv 0) qA3)))) (qAX qAH hr rfl (qA0 (pv 1) (qA0 qA7 qA3))) (fun _ _=>rfl))) (by kernel_rfl))) qAV)) (qA6 (qAR (qAL qAY rfl qAM qBI (qA0 (pv 4) qA3))))))))),?_⟩
 try dsimp only [Cx.nox,Cx.wish,cxOf]
 refine cut fun N1 hN1=>?_;refine ⟨_,rfl,d,c,t,ns,5,rfl,S,(by show t<=1000000000;omega),by decide,by decide,fun way ns1 H1 w0 w5 S1 K1=>?_⟩
 refine hN1 _ _ (cut fun N2 hN2=>?_);refine ⟨_,rfl,d,c,t+1,ns1,4,rfl,S1,(by show t+1<=1000000000;omega),by decide,by decide,fun x ns2 H2 x0 x4 S2 K2=>⟨_,_,rfl,rfl,?_⟩⟩
 refine ⟨(by show 5<=sizeLine;decide),fun l hl=>?_⟩
 obtain ⟨most,hv,hm⟩:=qXV (xs:=[1+x,3,9,99,99]) w0 (by simpa using w5)
 have mb:1<=most/\most<=99:=by simp at hm;omega
 refine ⟨_,rfl,l,_,way,_,rfl,rfl,SqL.of qA1,hv,?_⟩;have K2':=(K1.trans K2).trans (qC3 hl (.lst ([1+x,3,9,99,99].map V.int)));have S2':=S2.new hl (.lst ([1+x,3,9,99,99].map V.int));refine hN2 _ _ (cut fun N3 hN3=>?_);show tAsg _ _ _ _ (upd H2 l (.lst ([1+x,3,9,99,99].map V.int)));generalize upd H2 l (.lst ([1+x,3,9,99,99].map V.int))=H3 at K2' S2' ⊢;refine ⟨_,rfl,m,rfl,by omega,by omega,fun p hp=>?_⟩
 have npd:p ≠ d/\p ≠ c:=⟨(qA5 S2'.dict hp).symm,(qA5 S2'.list hp).symm⟩;refine qEQ (p:=p) (lo:=0) (n:=m.toNat) (fun i σ Hc=>∃ (v:Option V) (ns' ws:List Int),σ=[v,some (.ref d),some (.int most)]/\StAt Hc d c (t+1+1+(i:Int)) ns'/\Keep d c H3 Hc/\Hc p=some (.lst (ws.map V.int))/\ws.length=i/\∀ u ∈ ws,1<=u) ?_ ?_ ?_
 ·exact ⟨none,ns2,[],rfl,by simpa using S2'.new hp (.lst []),qC3 hp _,qA1,rfl,fun _ z=>nomatch z⟩
 ·refine fun i σ Hc hi hI_1=>opq fun G_1 hG_1=>?_;obtain ⟨v,ns',ws,rfl,Sc,Kc,hpc,lw,p1⟩:=hI_1;refine hG_1 ?_;refine ⟨_,rfl,_,rfl,d,c,_,ns',most,rfl,Sc,(by show t+1+1+(i:Int)<=1000000000;omega),mb.1,by omega,fun k ns6 H6 k0 k1 S6 K6=>⟨_,_,rfl,rfl,?_⟩⟩
  have g6:=K6 _ _ hpc npd.1 npd.2;refine ⟨_,g6,qAK (by rw [A0];omega),_,ns6,ws++[1+k],rfl,?_,qEU (Kc.trans K6) hp,by rw [qA1,A9];rfl,by rw [A6,lw];rfl,fun u hu=>(E1.mp hu).elim (p1 u) fun z=>by rw [A4.mp z];omega⟩
  have:=S6.upd (o:=.lst (ws.map V.int++[.int (1+k)])) npd.1.symm npd.2.symm;rw [show t+1+1+((i+1:Nat):Int)=t+1+1+(i:Int)+1 by omega]
  exact this
 refine fun σ Hc hI_2=>opq fun G_2 hG_2=>?_;obtain ⟨v,ns',ws,rfl,Sc,Kc,hpc,lw,p1⟩:=hI_2;refine hG_2 ?_;have K4:=K2'.trans Kc;have lw':(ws.length:Int)=m:=by omega
 rw [show t+1+1+((m.toNat:Nat):Int)=t+1+1+m by omega] at Sc
 refine hN3 _ _ (cut fun N4 hN4=>?_);refine ⟨fun σ Hx=>∃ (lf:Addr) (ws:List Int),σ=[some (.ref d),some (.int m),some (.int way),some (.int most),some (.ref lf)]/\StAt Hx d c (t+1+1+m) ns'/\Keep d c H Hx/\Hx lf=some (.lst (ws.map V.int))/\(ws.length:Int)=m/\lf ≠ d/\lf ≠ c/\∀ u ∈ ws,1<=u,?_,?_⟩
 ·refine ⟨_,rfl,rfl,_,rfl,?_⟩;refine ite2 (fun _=>?_) (fun _=>?_)
  ·refine ⟨_,rfl,(by show 1<=sizeLine;decide),fun l1 hl1=>?_⟩
   refine ⟨_,rfl,l1,m,_,rfl,rfl,qA1,by omega,by omega,?_,fun l2 hl2=>?_⟩
   ·exact R1 (qAK (by simp;omega))
   have e1:(C4 m.toNat [V.int most]).flatten=(C4 m.toNat most).map V.int:=by
    rw [List.map_replicate];generalize m.toNat=n
    induction n with
    | zero=>rfl
    | succ n ih=>rw [L7,E7,ih,L7];rfl
   rw [e1];have s6:=(qA2 hl1 (.lst [.int most])).trans (qA2 hl2 (.lst ((C4 m.toNat most).map V.int)));have n2:=(qA2 hl1 (.lst [.int most])).free hl2;exact ⟨l2,C4 m.toNat most,rfl,Sc.same s6,K4.trans (.of_same s6),qA1,by rw [O8];omega,(qA5 Sc.dict n2).symm,(qA5 Sc.list n2).symm,fun u hu=>by rw [(X7.mp hu).2];exact mb.1⟩
  ·exact ⟨p,ws,rfl,Sc,K4,hpc,lw',npd.1,npd.2,p1⟩
 refine fun σ Hx hI_3=>opq fun G_3 hG_3=>?_;obtain ⟨lf,ws,rfl,Sx,Kx,gx,lx,nd1,nd2,p2⟩:=hI_3;refine hG_3 ?_;refine hN4 _ _ (cut fun N5 hN5=>?_);refine ⟨fun σ Hx=>∃ (lf:Addr) (ws:List Int) (t':Int) (ns':List Int),σ=[some (.ref d),some (.int m),some (.int way),some (.int most),some (.ref lf)]/\StAt Hx d c t' ns'/\t<=t'/\t'<=t+300/\Keep d c H Hx/\Hx lf=some (.lst (ws.map V.int))/\(ws.length:Int)=m/\∀ u ∈ ws,1<=u,?_,?_⟩
 ·refine ⟨_,rfl,rfl,_,rfl,?_⟩;refine ite2 (fun _=>?_) (fun _=>?_)
  ·refine ⟨_,rfl,lf,rfl,⟨_,SqL.of gx⟩,fun p hp=>?_⟩;have npd:p ≠ d/\p ≠ c:=⟨(qA5 Sx.dict hp).symm,(qA5 Sx.list hp).symm⟩;have npl:lf ≠ p:=qA5 gx hp;refine qER (p:=p) (a:=lf) (xs:=ws.map V.int) (fun i σ Hc=>∃ (v:Option V) (ns' us:List Int),σ=[v,some (.ref d)]/\StAt Hc d c (t+1+1+m+(i:Int)) ns'/\Keep d c Hx Hc/\Hc p=some (.lst (us.map V.int))/\us.length=i/\∀ u ∈ us,1<=u) ?_ ?_ ?_ ?_
   ·exact ⟨none,ns',[],rfl,by simpa using Sx.new hp (.lst []),qC3 hp _,qA1,rfl,fun _ z=>nomatch z⟩
   ·rintro i σ Hc hi ⟨v,ns',us,rfl,Sc,Kc,_⟩;exact SqL.of (Kc _ _ gx nd1 nd2)
   ·refine fun i y σ Hc hy hI_5=>opq fun G_5 hG_5=>?_;obtain ⟨v,ns',us,rfl,Sc,Kc,hpc,lu,p3⟩:=hI_5;obtain ⟨z,ez,rfl⟩:=qAQ hy;refine hG_5 ?_;have hi:=(A3.mp ez).1;refine ⟨_,rfl,(by show 3<=sizeLine;decide),fun l3 hl3=>?_⟩
    have s3:=qA2 hl3 (.lst [.int 1,.int 2,.int z]);have g3:(upd Hc l3 (.lst [.int 1,.int 2,.int z])) l3=some (.lst [.int 1,.int 2,.int z]):=qA1;have n3:l3 ≠ d/\l3 ≠ c:=⟨(qA5 Sc.dict hl3).symm,(qA5 Sc.list hl3).symm⟩;refine ⟨_,rfl,d,c,_,ns',3,rfl,Sc.same s3,(by show t+1+1+m+(i:Int)<=1000000000;omega),by decide,by decide,fun k ns6 H6 k0 k1 S6 K6=>?_⟩
    obtain ⟨v,hv,mv⟩:=qXV (xs:=[1,2,z]) k0 (by simpa using k1)
    refine ⟨l3,_,k,_,rfl,rfl,SqL.of (K6 _ _ g3 n3.1 n3.2),hv,?_⟩;have g6:=K6 _ _ (s3 _ _ hpc) npd.1 npd.2;refine ⟨_,g6,qAK (by rw [A0];omega),_,ns6,us++[v],rfl,?_,qEU (Kc.trans ((Keep.of_same s3).trans K6)) hp,by rw [qA1,A9];rfl,by rw [A6,lu];rfl,fun u hu=>(E1.mp hu).elim (p3 u) fun q=>by
     rw [A4.mp q];have pz:=p2 z (B8 ez);simp at mv;omega⟩
    have:=S6.upd (o:=.lst (us.map V.int++[.int v])) npd.1.symm npd.2.symm;rw [show t+1+1+m+((i+1:Nat):Int)=t+1+1+m+(i:Int)+1 by omega]
    exact this
   ·refine fun σ Hc hI_6=>opq fun G_6 hG_6=>?_;obtain ⟨v,ns',us,rfl,Sc,Kc,hpc,lu,p3⟩:=hI_6;refine hG_6 ?_;rw [A0] at lu Sc;exact ⟨p,us,_,ns',rfl,Sc,by omega,by omega,Kx.trans Kc,hpc,by omega,p3⟩
  ·exact ⟨lf,ws,_,_,rfl,Sx,by omega,by omega,Kx,gx,lx,p2⟩
 refine fun σ Hx hI_7=>opq fun G_7 hG_7=>?_;obtain ⟨lf,ws,t',ns',rfl,Sx,g1,g2,Kx,gx,lx,p4⟩:=hI_7;refine hG_7 ?_;refine hN5 _ _ ?_;refine ⟨_,rfl,lf,_,rfl,.inl ⟨SqL.of gx,fun r hr1=>?_⟩⟩;exact q r ws t' ns' _ (Sx.new hr1 _) g1 g2 (Kx.trans (qC3 hr1 _)) qA1 lx p4
end
section
variable {P:Program} {w:World} {K:PySem.W.Frag} {mg:Str->Option Value} {base:Heap} {f:Addr} {fd:FuncData} {qH8:Addr} {qL9:FuncData}
theorem qKF:FnScope ["net","work"] ["net","work"] (qAE qD9):=⟨rfl,rfl,rfl,by decide +kernel,rfl,by decide +kernel,by decide +kernel⟩
theorem ok_demand_tree (F:Fun K "demand_tree" "demand_tree" qD9 f fd) (qHE:Clb P w K mg base 2 qH8 qL9 "is_tree" ["net","work"] qQM):FnOk P w K mg base CX0 3 f fd ["net","work"] qJE:=by
 refine F.ok qKF (fun vs H Q E h=>?_) (fun cdv A outer s H vs Q E hr h=>?_)
 ·obtain ⟨a,Ae,work,rfl,_⟩:=h
  rfl
 obtain ⟨a,Ae,work,rfl,⟨hN,wf,n400,w0,w1⟩,iT,q⟩:=h;refine ⟨_,(qA6 (qCK (qI0 (qDN (qAX qHE hr rfl (qA0 (pv 0) (qA0 (pv 1) qA3))))) qTD qAV)),?_⟩
 try dsimp only [Cx.nox,Cx.wish,cxOf]
 refine ⟨_,rfl,_,rfl,a,Ae,work,rfl,hN,wf,by omega,w0,w1,fun zs H1 s1 N=>?_⟩
 rw [(qUM N).mp iT];exact ⟨_,rfl,q H1 s1⟩
end
section
variable {P:Program} {w:World} {K:PySem.W.Frag} {mg:Str->Option Value} {base:Heap} {f:Addr} {fd:FuncData} {Pt cc:Addr} {qC9 qBS qDI:Addr} {qCY qC7 qEW:FuncData}
theorem sc_stretched:FnScope ["net","wides","work","own","other","order","need"] ["net","wides","work"] (qAE qCC):=⟨rfl,rfl,rfl,by decide +kernel,rfl,by decide +kernel,by decide +kernel⟩
theorem ok_stretched (F:Fun K "stretched" "stretched" qCC f fd) (hcd:fd.code=.ref cc) (hBM:BM mg base) (qCG:hdIn K cc Pt=true) (qBK:Clb P w K mg base 3 qC9 qCY "demand_tree" ["net","work"] qJE) (qAZ:Clb P w K mg base 1 qBS qC7 "all_needed" ["net","asked"] qWA) (qCJ:Clb P w K mg base 1 qDI qEW "taken_by" ["net","wides","work","order"] qJC) (qAT:mg "sorted" = none) (qDS:mg "max" = none):FnOk P w K mg base CX0 4 f fd ["net","wides","work"] (qJD Pt):=by
 refine F.okL hcd sc_stretched (fun vs H Q E h=>?_) (fun A outer s H vs Q E hr h=>?_)
 ·obtain ⟨a,t,Ae,ws,work,rfl,_⟩:=h
  rfl
 obtain ⟨a,t,Ae,ws,work,rfl,hTab,⟨NI,WD,w1,iT⟩,q⟩:=h;have hu:=qJZ hr;have rm:Room 2 _:=hr.mono (by decide)
 refine ⟨_,(qA4 (qBY (qAX qBK hr rfl (qA0 (pv 0) (qA0 (pv 2) qA3)))) (qA4 (qAG (i:=3) sc_stretched.nd rfl (c8 rfl) qEN) (qA4 (qBC D0 rfl (qBE (qAX qAZ hr rfl (qA0 (pv 0) (qA0 (qCM (qA0 (pv 2) qA3)) qA3)))) (qA9 (i:=4) sc_stretched.nd rfl (D2 rfl)) (qA4 (qAG (i:=5) sc_stretched.nd rfl (D2 rfl) (qBA qA3)) (qA4 (qBC D0 rfl (qBE (qWK (p:="one") (fv:=[1,3]) (q:="stretched.<locals>.<lambda>") rm rfl qAT qDR hBM rfl qCG (by kernel_rfl) (lms (by kernel_rfl)) rfl (fun _ _ _ _ _=>rfl) (qA0 (qAW qB2 (pv 0) (pv 4) (fun _ _=>rfl)) qA3) (fun z1=>(qCM (qA0 (qAJ qCS (qAW (qGE (K:=K) rfl) (pv 1) (pv 0) (fun _ _=>rfl)) (qAW (qGE (K:=K) rfl) (qD8 (qcM _) (pv 2) (pv 0) (fun _ _=>rfl)) qA7 (fun _ _=>rfl))) (qA0 (pv 0) qA3)))))) (qA9 (i:=6) sc_stretched.nd rfl (D2 rfl)) (qA6 (qBY (qHJ D8 b7 b8 qJP (pv 5) (qA0 (qAW qB2 (qD8 hu (pv 3) (pv 6) (fun _ _=>rfl)) qA7 (fun _ _=>rfl)) qA3))))) (qA4 (qBY (qHJ D8 G4 G5 qC1 (pv 5) (qA0 (pv 4) qA3))) (qA6 (qEL hu (pv 3) (pv 4) (qCM (qA0 (qAA (qHD rfl) rfl qDS qK9 (qA0 (qAX qCJ hr rfl (qA0 (pv 0) (qA0 (pv 1) (qA0 (pv 4) (qA0 (pv 5) qA3))))) qA3)) (qA0 (pv 5) qA3))) rfl)))))) (qA6 (qAR (qD8 hu (pv 3) (pv 2) (fun _ _=>rfl))))))),?_⟩
 try dsimp only [Cx.nox,Cx.wish,cxOf]
 obtain ⟨hN,wf,n400,wk0,wk1⟩:=id NI;refine cut fun N0 hN0=>?_;refine ⟨_,rfl,_,rfl,a,Ae,work,rfl,NI,iT,fun H1 s1=>?_⟩;refine hN0 _ _ (cut fun N1 hN1=>?_);intro dn hdn;have s2:=s1.trans (qA2 hdn (.dK []));have gd2:(upd H1 dn (.dK [])) dn=some (.dK (kvsV [] fun _=>V.non)):=qA1;have fdn:H dn=none:=s1.free hdn;generalize upd H1 dn (.dK [])=H2 at s2 gd2 ⊢;refine hN1 _ _ (cut fun N2 hN2=>?_);refine ⟨_,rfl,_,rfl,(by show 1<=sizeLine;decide),fun ta hta=>?_⟩
 have sta:=qA2 hta (.tup [.int work]);have gta:(upd H2 ta (.tup [.int work])) ta=some (.tup ([work].map V.int)):=qA1;have s3:=s2.trans sta;have gd3:=sta _ _ gd2;generalize upd H2 ta (.tup [.int work])=H3 at gta s3 gd3 ⊢;refine ⟨a,ta,Ae,[work],rfl,hN.same s3,wf,by omega,gta,(fun x hx=>by rw [A4.mp hx];omega),fun lw zs H4 s4 f4 gw N=>?_⟩
 have lz:=N.1.len;have s5:=s3.trans s4;have gd4:=s4 _ _ gd3;have nwd:lw ≠ dn:=qBM gw gd4 (by intro z;cases z)
 have T:=qKO wf n400 N iT;obtain ⟨R,O,S⟩:=exS T ws;obtain ⟨rs,hA,NL⟩:=id hN;refine ⟨lw,rfl,⟨_,SqL.of gw⟩,qC6 (a:=lw) (xs:=zs.map V.int) (fun i σ Hc=>∃ (ad al:Int->Addr) (v4 v5 v6:Option V),σ=[some (.ref a),some (.ref t),some (.int work),some (.ref dn),v4,v5,v6]/\Same H Hc/\Hc lw=some (.lst (zs.map V.int))/\Hc dn=some (.dK (kvsV (zs.take i) fun z=>.ref (ad z)))/\∀ z ∈ zs.take i,Hc (ad z)=some (.tup [.int (R z),.ref (al z)])/\Hc (al z)=some (.lst ((O z).map V.int))/\H (al z)=none)
  ⟨fun _=>a,fun _=>a,none,none,none,rfl,s5,gw,gd4,fun z hz=>by simp at hz⟩ (fun i σ Hc _ hP=>by obtain ⟨_,_,_,_,_,_,_,g,_⟩:=hP;exact SqL.of g) ?_ ?_⟩
 ·refine fun i x σ Hc hx hI_1=>opq fun G_1 hG_1=>?_;obtain ⟨ad,al,v4,v5,v6,rfl,sc,gwc,gdc,PA⟩:=hI_1;obtain ⟨z,ez,rfl⟩:=qAQ hx;refine hG_1 ?_;have hi:=(A3.mp ez).1;have hz:=B8 ez;have zb:=N.1.in_ z hz;have hw:z.toNat<Ae.length:=by omega
  obtain ⟨rs',r,h1,l1,h2,h3⟩:=hN.get (A1 hw);have rz:=wf z.toNat _ (A1 hw);have en:=qAF (A1 hw);generalize Ae[z.toNat]=ys at h3 rz en;have lys:=rz.len;have hys:∀ y ∈ ys,y ∈ zs.take i:=fun y hy=>(qDG wf N ez (by rw [en];exact hy)).1
  obtain ⟨TO,lO,tO,inO⟩:=qT0 T S w1 hz;refine cut fun M0 hM0=>?_;refine ⟨(by show 0<=sizeLine;decide),fun lo hlo=>?_⟩
  have k4:Keep dn lo Hc (upd Hc lo (.lst [])):=qC3 hlo _;have s4':=qA2 hlo (.lst []);have glo:(upd Hc lo (.lst [])) lo=some (.lst (([]:List Int).map V.int)):=qA1;have gd4':=s4' _ _ gdc;have gw4:=s4' _ _ gwc;have sc4:=sc.trans s4';have ndl:dn ≠ lo:=qA5 gdc hlo;have nwl:lw ≠ lo:=qA5 gwc hlo;have flo:H lo=none:=sc.free hlo;have PA4:∀ z ∈ zs.take i,(upd Hc lo (.lst [])) (ad z)=some (.tup [.int (R z),.ref (al z)])/\(upd Hc lo (.lst [])) (al z)=some (.lst ((O z).map V.int))/\al z ≠ lo:=fun z hz=>⟨s4' _ _ (PA z hz).1,s4' _ _ (PA z hz).2.1,qA5 (PA z hz).2.1 hlo⟩;generalize upd Hc lo (.lst [])=Hd at k4 s4' glo gd4' gw4 sc4 PA4 ⊢;refine hM0 _ _ (cut fun M1 hM1=>?_);refine ⟨_,rfl,_,rfl,a,_,_,_,rfl,rfl,SqT.of (sc4 _ _ h1),qBR zb.1 h2,sc4 _ _ hTab,r,ys.map V.int,ys.map (keyS ws R),rfl,.inl (SqT.of (sc4 _ _ h3)),by rw [A0];omega,by rw [A0,A0],?_,?_,fun H5 D rs5 s5' hD pm so=>?_⟩
  ·intro k hk;obtain ⟨y,_,rfl⟩:=D6.mp hk;exact fun z=>by cases z
  ·intro i x k hx hk2 Hx sx;obtain ⟨y,ey,rfl⟩:=qAQ hx;rw [B7,ey] at hk2;cases hk2;have my:=B8 ey;have yz:=hys y my;have yb:=rz.in_ y my;have hg:=DGet.k (k:=E9 y) (sx _ _ gd4');rw [qDB (g:=fun z=>V.ref (ad z)) yz] at hg;have hwd:atI (ws.map V.int) y=some (.int (wdO ws y)):=by
    have hl:y.toNat<ws.length:=by have:=WD.2;omega
    refine qBR yb.1 ?_;rw [B7,A1 hl];unfold wdO;rw [A1 hl]
    rfl
   exact ⟨_,rfl,_,rfl,t,_,_,_,rfl,rfl,SqT.of (sx _ _ (sc4 _ _ WD.1)),hwd,_,rfl,_,rfl,dn,_,rfl,hg,ad y,_,_,_,rfl,rfl,SqT.of (sx _ _ (PA4 y yz).1),rfl,_,_,rfl,rfl,_,rfl,(by show 2<=sizeLine;decide),fun p hp=>⟨qA2 hp _,p,rfl,qA1⟩⟩
  obtain ⟨os,po,oo,eo⟩:=qcA rz.nodup pm so;rw [eo];obtain ⟨eO,eR⟩:=(S z hz).by (by rw [en];exact po) oo
  have sD:=qA2 hD (.lst (os.map V.int));have gD:(upd H5 D (.lst (os.map V.int))) D=some (.lst (os.map V.int)):=qA1;have s6:Same Hd (upd H5 D (.lst (os.map V.int))):=fun b o e=>sD b o (s5' b o e);have nDl:D ≠ lo:=(qA5 (s5' _ _ glo) hD).symm;have nDd:D ≠ dn:=(qA5 (s5' _ _ gd4') hD).symm;generalize upd H5 D (.lst (os.map V.int))=H6 at gD s6 ⊢;have lflat:∀ j,((((os.take j).map O).flatten).length:Nat)<=63:=fun j=>by
   have e1:(os.map O).flatten=((os.take j).map O).flatten++((os.drop j).map O).flatten:=by rw [<- Q2,<- A9,M8]
   rw [eO,A6,e1,A6] at lO;omega
  refine ⟨D,rfl,⟨_,SqL.of gD⟩,qC6 (a:=D) (xs:=os.map V.int) (fun j σ Hx=>∃ (v6:Option V),σ=[some (.ref a),some (.ref t),some (.int work),some (.ref dn),some (.int z),some (.ref lo),v6]/\Keep lo lo H6 Hx/\Hx lo=some (.lst ((((os.take j).map O).flatten).map V.int)))
   ⟨v6,rfl,.refl,s6 _ _ glo⟩ (fun j σ Hx _ hP=>by obtain ⟨_,_,kx,_⟩:=hP;exact SqL.of (kx _ _ gD nDl nDl)) ?_ ?_⟩
  ·refine fun j x σ Hx hx hI_2=>opq fun G_2 hG_2=>?_;obtain ⟨v6,rfl,kx,glx⟩:=hI_2;obtain ⟨y,ey,rfl⟩:=qAQ hx;refine hG_2 ?_;have my:=B8 ey;have yz:=hys y (po.mem_iff.mp my);obtain ⟨p1,p2,p3⟩:=PA4 y yz;have hg:=DGet.k (k:=E9 y) (kx _ _ (s6 _ _ gd4') ndl ndl);rw [qDB (g:=fun z=>V.ref (ad z)) yz] at hg;have p1':=s6 _ _ p1;have nad:ad y ≠ lo:=qBM p1 glo (by intro z;cases z)
   have lj:=lflat (j+1);have ef:((os.take (j+1)).map O).flatten=((os.take j).map O).flatten++O y:=by rw [C2,ey,B9,A9,Q2];simp
   rw [ef,A6] at lj;refine ⟨_,rfl,.inl ⟨rfl,_,SqL.of glx⟩,_,rfl,_,rfl,dn,_,rfl,hg,ad y,_,_,_,rfl,rfl,SqT.of (kx _ _ p1' nad nad),rfl,lo,al y,_,_,rfl,rfl,glx,kx _ _ (s6 _ _ p2) p3 p3,by rw [A0,A0,sizeLine_eq];omega,?_⟩
   rw [<- A9];refine ⟨_,rfl,fun b o e n1 _=>by rw [qA8 n1];exact kx b o e n1 n1,by rw [qA1,ef]⟩
  refine fun σ Hx hI_3=>opq fun G_3 hG_3=>?_;obtain ⟨v6,rfl,kx,glx⟩:=hI_3;refine hG_3 ?_;rw [A0,qAU rfl] at glx;refine hM1 _ _ (cut fun M2 hM2=>?_);refine ⟨_,rfl,.inl ⟨rfl,_,SqL.of glx⟩,_,rfl,lo,_,_,rfl,rfl,glx,qB7 (by rw [A0];have:=lflat os.length;rw [qAU rfl] at this;omega),?_⟩
  have eO2:((os.map O).flatten).map V.int++[V.int z]=(O z).map V.int:=by rw [eO,A9];rfl
  rw [eO2];have kx2:Keep lo lo H6 (upd Hx lo (.lst ((O z).map V.int))):=fun b o e n1 _=>by rw [qA8 n1];exact kx b o e n1 n1
  have gl2:(upd Hx lo (.lst ((O z).map V.int))) lo=some (.lst ((O z).map V.int)):=qA1;generalize upd Hx lo (.lst ((O z).map V.int))=Hy at kx2 gl2 ⊢;have kH:∀ b o,Hd b=some o->b ≠ lo->Hy b=some o:=fun b o e n=>kx2 b o (s6 b o e) n n;have sy:Same H Hy:=fun b o e=>kH b o (sc4 b o e) (qA5 e flo);refine hM2 _ _ ?_;refine ⟨_,rfl,_,rfl,_,rfl,_,rfl,a,t,lo,z,Ae,ws,O z,rfl,hN.same sy,wf,n400,⟨sy _ _ WD.1,WD.2⟩,gl2,TO,lO,fun l2 H7 s7 f7 g7=>?_⟩;refine ⟨l2,_,_,rfl,SqL.of g7,tO,_,rfl,(by show 2<=sizeLine;decide),fun tp htp=>?_⟩
  have s8:=s7.trans (qA2 htp (.tup [.int (R z),.ref lo]));have gtp:(upd H7 tp (.tup [.int (R z),.ref lo])) tp=some (.tup [.int (R z),.ref lo]):=qA1;have gdy:=s8 _ _ (kH _ _ gd4' ndl);have gly:=s8 _ _ gl2;have gwy:=s8 _ _ (kH _ _ gw4 nwl);have s9:=sy.trans s8;have PA9:∀ z ∈ zs.take i,(upd H7 tp (.tup [.int (R z),.ref lo])) (ad z)=(upd H7 tp (.tup [.int (R z),.ref lo])) (ad z):=fun _ _=>rfl;have PAn:∀ x ∈ zs.take i,(upd H7 tp (.tup [.int (R z),.ref lo])) (ad x)=some (.tup [.int (R x),.ref (al x)])/\(upd H7 tp (.tup [.int (R z),.ref lo])) (al x)=some (.lst ((O x).map V.int)):=fun x hx=>by
   obtain ⟨p1,p2,p3⟩:=PA4 x hx;exact ⟨s8 _ _ (kH _ _ p1 (qBM p1 glo (by intro z;cases z))),s8 _ _ (kH _ _ p2 p3)⟩
  generalize upd H7 tp (.tup [.int (R z),.ref lo])=H8 at gtp gdy gly gwy s9 PAn ⊢;have zno:z ∉ zs.take i:=fun m=>by have:=qLI N ez m;omega
  have put:=DPut.k (k:=E9 z) (v:=.ref tp) gdy (qB7 (by unfold kvsV;rw [A0,D4];omega))
  rw [qM6 zno] at put;refine ⟨_,rfl,_,rfl,dn,_,rfl,put,?_⟩;refine ⟨fun y=>if y=z then tp else ad y,fun y=>if y=z then lo else al y,_,_,_,rfl,qAC s9 fdn,by rw [qA8 nwd];exact gwy,?_,fun x hx=>?_⟩
  ·rw [qA1,C2,ez,B9];congr 3
   funext y
   show _=V.ref (if y=z then tp else ad y)
   by_cases c:y=z
   ·rw [if_pos c,if_pos c]
   ·rw [if_neg c,if_neg c]
  ·rw [C2,ez,B9] at hx;dsimp only;rcases E1.mp hx with m | m
   ·have ne:x ≠ z:=fun e=>zno (e ▸ m);rw [if_neg ne,if_neg ne];obtain ⟨p1,p2⟩:=PAn x m;exact ⟨by rw [qA8 (qBM p1 gdy (by intro z;cases z))];exact p1,by rw [qA8 (qBM p2 gdy (by intro z;cases z))];exact p2,(PA x m).2.2⟩
   ·have ex:=A4.mp m;subst ex;rw [if_pos rfl,if_pos rfl];exact ⟨by rw [qA8 (qBM gtp gdy (by intro z;cases z))];exact gtp,by rw [qA8 (qBM gly gdy (by intro z;cases z))];exact gly,flo⟩
 ·refine fun σ Hc hI_4=>opq fun G_4 hG_4=>?_;obtain ⟨ad,al,v4,v5,v6,rfl,sc,gwc,gdc,PA⟩:=hI_4;refine hG_4 ?_;rw [A0,qAU rfl] at gdc PA;have hw:=qEP N;have hg:=DGet.k (k:=E9 work) gdc;rw [qDB (g:=fun z=>V.ref (ad z)) hw] at hg;obtain ⟨p1,p2,p3⟩:=PA work hw;exact hN2 _ _ ⟨_,rfl,_,rfl,dn,_,rfl,hg,q _ _ zs R O Hc sc p3 N S p1 p2⟩
end
section
variable {P:Program} {w:World} {K:PySem.W.Frag} {mg:Str->Option Value} {base:Heap} {f:Addr} {fd:FuncData} {qIU:Addr} {qO8:FuncData}
theorem qT9:FnScope ["one","other"] ["one","other"] (qAE qIM):=⟨rfl,rfl,rfl,by decide +kernel,rfl,by decide +kernel,by decide +kernel⟩
theorem ok_joined (F:Fun K "joined" "joined" qIM f fd) (qDS:mg "max" = none):FnOk P w K mg base CX0 1 f fd ["one","other"] qQK:=by
 refine F.ok qT9 (fun vs H Q E h=>?_) (fun cdv A outer s H vs Q E hr h=>?_)
 ·obtain ⟨a,b,p,q,rfl,_⟩:=h
  rfl
 obtain ⟨a,b,p,q,rfl,hp,hq,lz,qq⟩:=h;refine ⟨_,(qA6 (qAR (qCM (qA0 (qAA (qK7 rfl) rfl qDS qK9 (qA0 (qAW qB2 (pv 0) qA7 (fun _ _=>rfl)) (qA0 (qAJ qBW (qAW qB2 (pv 0) qA7 (fun _ _=>rfl)) (qAW qB2 (pv 1) qA7 (fun _ _=>rfl))) qA3))) (qA0 (qAJ qBW (qAW qB2 (pv 0) qA7 (fun _ _=>rfl)) (qAW qB2 (pv 1) qA7 (fun _ _=>rfl))) (qA0 (qAJ qKY (qAW qB2 (pv 0) qA7 (fun _ _=>rfl)) (qAW qB2 (pv 1) qA7 (fun _ _=>rfl))) qA3)))))),?_⟩
 try dsimp only [Cx.nox,Cx.wish,cxOf]
 obtain ⟨l1,g1,g2⟩:=id hp;obtain ⟨l2,k1,k2⟩:=id hq;refine ⟨_,rfl,a,_,_,_,rfl,rfl,SqT.of g1,rfl,_,rfl,a,_,_,_,rfl,rfl,SqT.of g1,rfl,_,rfl,b,_,_,_,rfl,rfl,SqT.of k1,rfl,_,_,rfl,rfl,_,_,rfl,?_⟩;refine ⟨_,rfl,a,_,_,_,rfl,rfl,SqT.of g1,rfl,_,rfl,b,_,_,_,rfl,rfl,SqT.of k1,rfl,_,_,rfl,rfl,?_⟩;refine ⟨_,rfl,a,_,_,_,rfl,rfl,SqT.of g1,rfl,_,rfl,b,_,_,_,rfl,rfl,SqT.of k1,rfl,?_⟩;refine ⟨l1,l2,_,_,rfl,rfl,g2,k2,by rw [A0,A0,sizeLine_eq];omega,fun l3 hl3=>⟨(by show 3<=sizeLine;decide),fun T hT=>?_⟩⟩
 have s1:=qA2 hl3 (.lst (p.wks.map V.int++q.wks.map V.int));have sT:=s1.trans (qA2 hT (.tup [.int (if p.g+q.r > p.r then p.g+q.r else p.r),.int (p.g+q.g),.ref l3]))
 refine qq T l3 _ sT hl3 qA1 ?_;have e:(qCE p q).wks.map V.int=p.wks.map V.int++q.wks.map V.int:=by show (p.wks++q.wks).map V.int=_;rw [A9]
 rw [e,qA8 (qA5 qA1 hT)];exact qA1
theorem sc_joined_parts:FnScope ["parts","told","part","last"] ["parts"] (qAE qCX):=⟨rfl,rfl,rfl,by decide +kernel,rfl,by decide +kernel,by decide +kernel⟩
theorem ok_joined_parts (F:Fun K "joined_parts" "joined_parts" qCX f fd) (qJ2:Clb P w K mg base 1 qIU qO8 "joined" ["one","other"] qQK):FnOk P w K mg base CX0 2 f fd ["parts"] qQL:=by
 refine F.ok sc_joined_parts (fun vs H Q E h=>?_) (fun cdv A outer s H vs Q E hr h=>?_)
 ·obtain ⟨a,rs,ps,rfl,_⟩:=h
  rfl
 obtain ⟨a,rs,ps,rfl,hA,hP,lz,lp,qq⟩:=h;refine ⟨_,(qA4 (qAG (i:=1) sc_joined_parts.nd rfl (D2 rfl) (qBA qA3)) (qA4 (qBC D0 rfl (qBE (pv 0)) (qA9 (i:=2) sc_joined_parts.nd rfl (D2 rfl)) (qA4 (qAG (i:=3) sc_joined_parts.nd rfl (D2 rfl) (pv 2)) (qA4 (qLV D0 (PW.pt (qTC (qWI (pv 1) (fun _=>rfl)) (qPD (PW.pt (qLT (qAS qb2 (qAW qB2 (pv 3) qA7 (fun _ _=>rfl)) qA7 (qB1 _)) (qGS (qAS qWN (qAJ qBW (qAW qB2 (qAW qCP (pv 1) (qKH qG6 qA7) (fun _ _=>rfl)) qA7 (fun _ _=>rfl)) (qAW qB2 (pv 3) qA7 (fun _ _=>rfl))) (qAW qB2 (qAW qCP (pv 1) (qKH qG6 qA7) (fun _ _=>rfl)) qA7 (fun _ _=>rfl)) (qB1 _)))))))) (qA6 (qAG (i:=3) sc_joined_parts.nd rfl (D2 rfl) (qAX qJ2 hr rfl (qA0 (qTR D8 A16 A17 qY0 (pv 1)) (qA0 (pv 3) qA3)))))) (qA6 (qBY (qHJ D8 G4 G5 qC1 (pv 1) (qA0 (pv 3) qA3))))))) (qA6 (qAR (pv 1))))),?_⟩
 try dsimp only [Cx.nox,Cx.wish,cxOf]
 refine cut fun N0 hN0=>?_;refine ⟨(by show 0<=sizeLine;decide),fun lt hlt=>?_⟩
 have s1:=qA2 hlt (.lst []);have g1:(upd H lt (.lst [])) lt=some (.lst (([]:List Addr).reverse.map V.ref)):=qA1;generalize upd H lt (.lst [])=H1 at s1 g1 ⊢;refine hN0 _ _ ?_;refine ⟨_,rfl,a,rfl,⟨_,SqL.of (s1 _ _ hA)⟩,qC6 (a:=a) (xs:=rs.map V.ref) (fun i σ Hc=>∃ (srs:List Addr) (v2 v3:Option V),σ=[some (.ref a),some (.ref lt),v2,v3]/\Same H Hc/\Hc lt=some (.lst (srs.reverse.map V.ref))/\Paired (PrtX lt Hc) srs (jrun [] (ps.take i))/\(qAB (jrun [] (ps.take i))).length=(qAB (ps.take i)).length/\(jrun [] (ps.take i)).length<=i)
  ⟨[],none,none,rfl,s1,g1,.nil,rfl,B0 _⟩ (fun i σ Hc _ hP=>by obtain ⟨_,_,_,_,sm,_⟩:=hP;exact SqL.of (sm _ _ hA)) ?_ ?_⟩
 ·refine fun i x σ Hc hx hI_1=>opq fun G_1 hG_1=>?_;obtain ⟨srs,v2,v3,rfl,sc,gt,PX,lw,li⟩:=hI_1;obtain ⟨T0,e0,rfl⟩:=qEC hx;obtain ⟨p,ep,hp⟩:=qBF hP e0;refine hG_1 ?_;have hi:=(A3.mp ep).1;have ej:jrun [] (ps.take (i+1))=qD3 (jrun [] (ps.take i)) p:=by rw [C2,ep,B9,qJX]
  have ew:(qAB (ps.take (i+1))).length=(qAB (ps.take i)).length+p.wks.length:=by rw [C2,ep,B9,qB4,qBP,A6]
  have ew2:(qAB (ps.take (i+1))).length<=63:=by
   have:qAB ps=qAB (ps.take (i+1))++qAB (ps.drop (i+1)):=by rw [<- qB4,M8]
   rw [this,A6] at lz;omega
  have jl:=qNY (jrun [] (ps.take i)) p;refine cut fun M0 hM0=>?_;refine ⟨_,rfl,?_⟩;refine hM0 _ _ (cut fun M1 hM1=>?_);have fin:∀ (st:List Prt) (last:Prt) (T:Addr) (srs:List Addr) (Hd:Hp),Same H Hd->Hd lt=some (.lst (srs.reverse.map V.ref))->Paired (PrtX lt Hd) srs st->PrtX lt Hd T last->last::st=qD3 (jrun [] (ps.take i)) p->M1 [some (.ref a),some (.ref lt),some (.ref T0),some (.ref T)] Hd:=by
   intro st last T srs Hd sd gd PX hT e;have ls:=C6 PX;have le:=congrArg u9 e;rw [D1] at le;refine hM1 _ _ ?_;refine ⟨_,rfl,.inl ⟨rfl,_,SqL.of gd⟩,_,rfl,lt,_,_,rfl,rfl,gd,qB7 (by rw [A0,l9];omega),?_⟩
   refine ⟨T::srs,_,_,rfl,qAC sd hlt,by rw [qA1,J9,A9];rfl,?_,?_,?_⟩
   ·rw [ej,<- e];exact .cons (hT.put gd) (qAN PX fun _ _ z=>z.put gd)
   ·rw [ej,jl.1,ew,lw]
   ·rw [ej];have:=jl.2;omega
  refine ⟨fun m σ Hd=>∃ (srs:List Addr) (st:List Prt) (T:Addr) (last:Prt),σ=[some (.ref a),some (.ref lt),some (.ref T0),some (.ref T)]/\m=st.length/\Same H Hd/\Hd lt=some (.lst (srs.reverse.map V.ref))/\Paired (PrtX lt Hd) srs st/\PrtX lt Hd T last/\qD3 st last=qD3 (jrun [] (ps.take i)) p/\(qAB st).length+last.wks.length<=63/\st.length<=63,
   ⟨_,srs,_,T0,p,rfl,rfl,sc,gt,PX,(hp.out hlt).same sc,rfl,by omega,by omega⟩,?_⟩
  refine fun m σ Hd hI_2=>opq fun G_2 hG_2=>?_;obtain ⟨srs,st,T,last,rfl,rfl,sd,gd,PX,hT,ejs,lw4,ls4⟩:=hI_2;refine hG_2 ?_;refine ⟨_,rfl,_,.inl ⟨_,SqL.of gd,rfl⟩,?_⟩;cases PX with
  | nil=>
   refine iteF ?_;refine iteF ?_;exact fin [] last T [] Hd sd gd .nil hT ejs
  | @cons r b srs st hr' PX=>
   have nr:(!((r::srs).reverse.map V.ref).isEmpty)=true:=by simp
   rw [if_pos nr];obtain ⟨lb,nb,g2,g3⟩:=id hr';obtain ⟨ll,nl,k2,k3⟩:=id hT;have lat:atI ((r::srs).reverse.map V.ref) (-1)=some (.ref r):=by rw [J9,A9];exact qMP _ _
   have lwb:(qAB (b::st)).length=b.wks.length+(qAB st).length:=by
    show (qAB ([b]++st)).length=_;rw [qB4,qBP,A6]
   refine ⟨_,rfl,T,_,_,_,rfl,rfl,SqT.of k2,rfl,_,_,rfl,rfl,_,rfl,?_⟩;refine ite2 (fun c1=>?_) (fun c1=>?_)
   ·have cc:last.g<=0\/b.r<=b.g+last.r:=.inl (of_decide_eq_true c1);have ec:qD3 st (qCE b last)=qD3 (jrun [] (ps.take i)) p:=by rw [<- ejs];show _=(if last.g<=0\/b.r<=b.g+last.r then _ else _);rw [if_pos cc]
    refine ⟨fun σ' H'=>∃ (srs:List Addr) (st':List Prt) (T:Addr) (last:Prt),σ'=[some (.ref a),some (.ref lt),some (.ref T0),some (.ref T)]/\st'.length<(b::st).length/\Same H H'/\H' lt=some (.lst (srs.reverse.map V.ref))/\Paired (PrtX lt H') srs st'/\PrtX lt H' T last/\qD3 st' last=qD3 (jrun [] (ps.take i)) p/\(qAB st').length+last.wks.length<=63/\st'.length<=63,
     fun σ' H' ⟨srs',st',T',last',e,l',z⟩=>⟨_,l',srs',st',T',last',e,rfl,z⟩,?_⟩
    refine ⟨_,rfl,.inl ⟨rfl,_,SqL.of gd⟩,lt,_,_,rfl,rfl,gd,qD2.1,?_⟩;rw [qD2.2];have PX5:Paired (PrtX lt (upd Hd lt (.lst (srs.reverse.map V.ref)))) srs st:=qAN PX fun _ _ z=>z.put gd;have hr5:=hr'.put (o:=.lst (srs.reverse.map V.ref)) gd;have hT5:=hT.put (o:=.lst (srs.reverse.map V.ref)) gd;have s5:Same H (upd Hd lt (.lst (srs.reverse.map V.ref))):=qAC sd hlt;have g5:(upd Hd lt (.lst (srs.reverse.map V.ref))) lt=some (.lst (srs.reverse.map V.ref)):=qA1;generalize upd Hd lt (.lst (srs.reverse.map V.ref))=H5 at PX5 hr5 hT5 s5 g5 ⊢;refine ⟨_,rfl,r,T,b,last,rfl,hr5.at_,hT5.at_,by omega,fun T' l' H6 s6 fl' gT' gl'=>?_⟩
    refine ⟨srs,st,T',qCE b last,rfl,by rw [D1];omega,s5.trans s6,s6 _ _ g5,qAN PX5 fun _ _ z=>z.same s6,⟨l',(qA5 g5 fl').symm,gT',gl'⟩,ec,?_,by rw [D1] at ls4;omega⟩
    show (qAB st).length+(b.wks++last.wks).length<=63;rw [A6];omega
   ·refine ⟨_,rfl,_,rfl,lt,_,_,_,rfl,rfl,SqL.of gd,lat,r,_,_,_,rfl,rfl,SqT.of g2,rfl,_,rfl,T,_,_,_,rfl,rfl,SqT.of k2,rfl,_,_,rfl,rfl,_,rfl,_,rfl,lt,_,_,_,rfl,rfl,SqL.of gd,lat,r,_,_,_,rfl,rfl,SqT.of g2,rfl,_,_,rfl,rfl,_,rfl,?_⟩;refine ite2 (fun c2=>?_) (fun c2=>?_)
    ·have cc:last.g<=0\/b.r<=b.g+last.r:=.inr (of_decide_eq_true c2);have ec:qD3 st (qCE b last)=qD3 (jrun [] (ps.take i)) p:=by rw [<- ejs];show _=(if last.g<=0\/b.r<=b.g+last.r then _ else _);rw [if_pos cc]
     refine ⟨fun σ' H'=>∃ (srs:List Addr) (st':List Prt) (T:Addr) (last:Prt),σ'=[some (.ref a),some (.ref lt),some (.ref T0),some (.ref T)]/\st'.length<(b::st).length/\Same H H'/\H' lt=some (.lst (srs.reverse.map V.ref))/\Paired (PrtX lt H') srs st'/\PrtX lt H' T last/\qD3 st' last=qD3 (jrun [] (ps.take i)) p/\(qAB st').length+last.wks.length<=63/\st'.length<=63,
      fun σ' H' ⟨srs',st',T',last',e,l',z⟩=>⟨_,l',srs',st',T',last',e,rfl,z⟩,?_⟩
     refine ⟨_,rfl,.inl ⟨rfl,_,SqL.of gd⟩,lt,_,_,rfl,rfl,gd,qD2.1,?_⟩;rw [qD2.2];have PX5:Paired (PrtX lt (upd Hd lt (.lst (srs.reverse.map V.ref)))) srs st:=qAN PX fun _ _ z=>z.put gd;have hr5:=hr'.put (o:=.lst (srs.reverse.map V.ref)) gd;have hT5:=hT.put (o:=.lst (srs.reverse.map V.ref)) gd;have s5:Same H (upd Hd lt (.lst (srs.reverse.map V.ref))):=qAC sd hlt;have g5:(upd Hd lt (.lst (srs.reverse.map V.ref))) lt=some (.lst (srs.reverse.map V.ref)):=qA1;generalize upd Hd lt (.lst (srs.reverse.map V.ref))=H5 at PX5 hr5 hT5 s5 g5 ⊢;refine ⟨_,rfl,r,T,b,last,rfl,hr5.at_,hT5.at_,by omega,fun T' l' H6 s6 fl' gT' gl'=>?_⟩
     refine ⟨srs,st,T',qCE b last,rfl,by rw [D1];omega,s5.trans s6,s6 _ _ g5,qAN PX5 fun _ _ z=>z.same s6,⟨l',(qA5 g5 fl').symm,gT',gl'⟩,ec,?_,by rw [D1] at ls4;omega⟩
     show (qAB st).length+(b.wks++last.wks).length<=63;rw [A6];omega
    ·have n1:¬ last.g<=0:=fun z=>c1 (decide_eq_true z);have n2:¬ b.r<=b.g+last.r:=fun z=>c2 (decide_eq_true z);refine fin (b::st) last T (r::srs) Hd sd gd (.cons hr' PX) hT ?_;rw [<- ejs];show _=(if last.g<=0\/b.r<=b.g+last.r then _ else _)
     rw [if_neg (by omega)]
 ·refine fun σ Hc hI_3=>opq fun G_3 hG_3=>?_;obtain ⟨srs,v2,v3,rfl,sc,gt,PX,lw,li⟩:=hI_3;refine hG_3 ?_;rw [A0,C6 hP,qAU rfl] at PX;exact ⟨_,rfl,qq lt srs.reverse Hc sc hlt gt (qPJ (qAN PX fun _ _ e=>e.at_))⟩
end
section
variable {P:Program} {w:World} {K:PySem.W.Frag} {mg:Str->Option Value} {base:Heap} {f:Addr} {fd:FuncData} {Pt cc:Addr} {qD0:Addr} {qFH:FuncData}
theorem sc_parts_over:FnScope ["net","wides","work","own","parts","need","given_up"] ["net","wides","work","own"] (qAE qBX):=⟨rfl,rfl,rfl,by decide +kernel,rfl,by decide +kernel,by decide +kernel⟩
theorem ok_parts_over (F:Fun K "parts_over" "parts_over" qBX f fd) (hcd:fd.code=.ref cc) (hBM:BM mg base) (qC4:hdIn K cc Pt=true) (qD1:Clb P w K mg base 2 qD0 qFH "joined_parts" ["parts"] qQL) (qAT:mg "sorted" = none) (qLE:mg "sum" = none):FnOk P w K mg base CX0 3 f fd ["net","wides","work","own"] (qHX Pt):=by
 refine F.okL hcd sc_parts_over (fun vs H Q E h=>?_) (fun A outer s H vs Q E hr h=>?_)
 ·obtain ⟨a,t,own,Ae,ws,ks,z,ad,F,rfl,_⟩:=h
  rfl
 obtain ⟨a,t,own,Ae,ws,ks,z,ad,F,rfl,hTab,hN,wf,n400,WD,z0,z1,gown,hF,lw,lp,wnd,wne,qq⟩:=h;have hu:=qJZ hr;have rm:Room 2 _:=hr;refine ⟨_,(qA4 (qAG (i:=4) sc_parts_over.nd rfl (D2 rfl) (qBA qA3)) (qA4 (qBC D0 rfl (qE0 (qAW qB2 (pv 0) (pv 2) (fun _ _=>rfl))) (qA9 (i:=5) sc_parts_over.nd rfl (D2 rfl)) (qA6 (qBY (qHJ D8 b7 b8 qJP (pv 4) (qA0 (qD8 hu (pv 3) (pv 5) (fun _ _=>rfl)) qA3))))) (qA4 (qAG (i:=4) sc_parts_over.nd rfl (D2 rfl) (qWL (p:="part") (fv:=[]) (q:="parts_over.<locals>.<lambda>") rm rfl qAT qDR hBM rfl qC4 (by kernel_rfl) (lms (by kernel_rfl)) rfl (fun _ _ _ _ _=>rfl) (qA0 (pv 4) qA3) (fun z1=>(qAJ qCS (qAW (qGE (K:=K) rfl) (pv 0) qA7 (fun _ _=>rfl)) (qAW (qGE (K:=K) rfl) (pv 0) qA7 (fun _ _=>rfl)))))) (qA4 (qAG (i:=6) sc_parts_over.nd rfl (D2 rfl) (qAA (qRL rfl) rfl qLE qYC (qA0 (qEM rfl (lcs (own:=["need"]) (fv:=[1]) (by kernel_rfl)) (qE0 (qAW qB2 (pv 0) (pv 2) (fun _ _=>rfl))) (fun z2=>qA9 (i:=0) (qCU (by kernel_rfl)) rfl (D2 rfl)) (fun z2=>qBL) (fun z2=>(qAW (qGE (K:=K) rfl) (pv 1) (pv 0) (fun _ _=>rfl)))) qA3))) (qA6 (qAR (qAX qD1 hr rfl (qA0 (qAJ qKY (pv 4) (qBA (qA0 (qCM (qA0 (qAW qB2 (pv 1) (pv 2) (fun _ _=>rfl)) (qA0 (qAJ qCS (qAW qB2 (pv 1) (pv 2) (fun _ _=>rfl)) (pv 6)) (qA0 (qBA (qA0 (pv 2) qA3)) qA3)))) qA3))) qA3)))))))),?_⟩
 try dsimp only [Cx.nox,Cx.wish,cxOf]
 have hw:z.toNat<Ae.length:=by omega
 obtain ⟨rn,r,h1,l1,h2,h3⟩:=hN.get (A1 hw);have rz:=wf z.toNat _ (A1 hw);have en:=qAF (A1 hw);generalize Ae[z.toNat]=ys at h3 rz en;rw [en] at hF lw lp wnd wne;have lys:=rz.len;have hwd:∀ y,0<=y->y<(Ae.length:Int)->atI (ws.map V.int) y=some (.int (wdO ws y)):=fun y y0 y1=>by
  have hl:y.toNat<ws.length:=by have:=WD.2;omega
  refine qBR y0 ?_;rw [B7,A1 hl];unfold wdO;rw [A1 hl]
  rfl
 refine cut fun N0 hN0=>?_;refine ⟨(by show 0<=sizeLine;decide),fun la hla=>?_⟩
 have s1:=qA2 hla (.lst []);have g1:(upd H la (.lst [])) la=some (.lst (([]:List Addr).map V.ref)):=qA1;generalize upd H la (.lst [])=H1 at s1 g1 ⊢;refine hN0 _ _ (cut fun N1 hN1=>?_);have lflat:∀ j,(((ys.take j).map F).flatten).length<=62:=fun j=>by
  have e1:(ys.map F).flatten=((ys.take j).map F).flatten++((ys.drop j).map F).flatten:=by rw [<- Q2,<- A9,M8]
  rw [e1,A6] at lp;omega
 refine ⟨_,rfl,_,rfl,a,_,_,_,rfl,rfl,SqT.of (s1 _ _ h1),qBR z0 h2,r,rfl,⟨_,SqT.of (s1 _ _ h3)⟩,qEV (a:=r) (xs:=ys.map V.int) (fun j σ Hx=>∃ (v5:Option V) (qs:List Addr),σ=[some (.ref a),some (.ref t),some (.int z),some (.ref own),some (.ref la),v5,none]/\Same H Hx/\Hx la=some (.lst (qs.map V.ref))/\PrtL H qs ((ys.take j).map F).flatten)
  ⟨none,[],rfl,s1,g1,.nil⟩ (fun j σ Hx _ hP=>by obtain ⟨_,_,_,sx,_⟩:=hP;exact SqT.of (sx _ _ h3)) ?_ ?_⟩
 ·refine fun j x σ Hx hx hI_1=>opq fun G_1 hG_1=>?_;obtain ⟨v5,qs,rfl,sx,gx,PQ⟩:=hI_1;obtain ⟨y,ey,rfl⟩:=qAQ hx;refine hG_1 ?_;have my:=B8 ey;obtain ⟨yk,rs,gy,Py⟩:=hF y my;have hg:=DGet.k (k:=E9 y) (sx _ _ gown);rw [qDB (g:=fun z=>V.ref (ad z)) yk] at hg;have ef:((ys.take (j+1)).map F).flatten=((ys.take j).map F).flatten++F y:=by rw [C2,ey,B9,A9,Q2];simp
  have lj:=lflat (j+1);rw [ef,A6] at lj;have lq:=C6 PQ;have lr:=C6 Py;refine ⟨_,rfl,.inl ⟨rfl,_,SqL.of gx⟩,_,rfl,_,rfl,own,_,rfl,hg,la,ad y,_,_,rfl,rfl,gx,sx _ _ gy,by rw [A0,A0,sizeLine_eq];omega,?_⟩
  rw [<- A9];exact ⟨_,qs++rs,rfl,qAC sx hla,qA1,by rw [ef];exact qHL PQ Py⟩
 refine fun σ Hx hI_2=>opq fun G_2 hG_2=>?_;obtain ⟨v5,qs,rfl,sx,gx,PQ⟩:=hI_2;refine hG_2 ?_;rw [A0,qAU rfl] at PQ;have lq:=C6 PQ;refine hN1 _ _ (cut fun N2 hN2=>?_);refine ⟨_,rfl,sx _ _ hTab,la,qs.map V.ref,(ys.map F).flatten.map (fun q=>[kyS q.s]),rfl,.inr (SqL.of gx),by rw [A0];omega,by rw [A0,A0,lq],?_,fun H5 D rs5 s5 hD pm so sti=>?_⟩
 ·intro i x k hx hk2 Hc sc;obtain ⟨T,eT,rfl⟩:=qEC hx;obtain ⟨p,ep,l,hp,_⟩:=qBF PQ eT;rw [B7,ep] at hk2;cases hk2;have gT:=sc _ _ (sx _ _ hp);exact ⟨_,rfl,T,_,_,_,rfl,rfl,SqT.of gT,rfl,_,rfl,T,_,_,_,rfl,rfl,SqT.of gT,rfl,_,_,rfl,rfl,fun _ _ e=>e,_,rfl,rfl⟩
 obtain ⟨rs2,srt,P2,so2,e2⟩:=qaK PQ (sti qs rfl (qTE PQ wnd wne));have ps2:=so2.perm;rw [e2];have sD:=qA2 hD (.lst (rs2.map V.ref));have gD:(upd H5 D (.lst (rs2.map V.ref))) D=some (.lst (rs2.map V.ref)):=qA1;have s6:Same H (upd H5 D (.lst (rs2.map V.ref))):=fun b o e=>sD b o (s5 b o (sx b o e));generalize upd H5 D (.lst (rs2.map V.ref))=H6 at gD s6 ⊢;have l2:=C6 P2;have l3:=ps2.length_eq;refine hN2 _ _ (cut fun N3 hN3=>?_);refine ⟨_,rfl,_,rfl,a,_,_,_,rfl,rfl,SqT.of (s6 _ _ h1),qBR z0 h2,r,rfl,⟨_,SqT.of (s6 _ _ h3)⟩,fun p hp=>?_⟩;refine qJS (p:=p) (a:=r) (xs:=ys.map V.int) (fun j σ Hc=>∃ (v:Option V),σ=[v,some (.ref t)]/\Same H6 Hc/\Hc p=some (.lst (((ys.take j).map (wdO ws)).map V.int))) ?_ ?_ ?_ ?_
 ·exact ⟨none,rfl,qA2 hp _,qA1⟩
 ·rintro j σ Hc hj ⟨v,rfl,sc,_⟩;exact SqT.of (sc _ _ (s6 _ _ h3))
 ·refine fun j x σ Hc hx hI_4=>opq fun G_4 hG_4=>?_;obtain ⟨v,rfl,sc,hpc⟩:=hI_4;obtain ⟨y,ey,rfl⟩:=qAQ hx;refine hG_4 ?_;have yb:=rz.in_ y (B8 ey);have lj:=(A3.mp ey).1;refine ⟨_,rfl,_,rfl,t,_,_,_,rfl,rfl,SqT.of (sc _ _ (s6 _ _ WD.1)),hwd y yb.1 (by omega),_,hpc,qB7 (by rw [A0,A0,D4];omega),_,rfl,qAC sc hp,?_⟩
  rw [qA1,C2,ey,B9,A9,A9]
  rfl
 refine fun σ Hc hI_5=>opq fun G_5 hG_5=>?_;obtain ⟨v,rfl,sc,hpc⟩:=hI_5;refine hG_5 ?_;rw [A0,qAU rfl] at hpc;refine ⟨p,_,rfl,SqL.of hpc,?_⟩;have es:(ys.map (wdO ws)).sum=sumW ws (nd Ae z):=by rw [en];rfl
 rw [es];have s7:=s6.trans sc;have gD7:=sc _ _ gD;refine hN3 _ _ ?_;refine ⟨_,rfl,_,rfl,_,rfl,t,_,_,_,rfl,rfl,SqT.of (s7 _ _ WD.1),hwd z z0 z1,_,rfl,_,rfl,t,_,_,_,rfl,rfl,SqT.of (s7 _ _ WD.1),hwd z z0 z1,_,rfl,_,_,rfl,rfl,_,rfl,(by show 1<=sizeLine;decide),fun l4 hl4=>⟨(by show 3<=sizeLine;decide),fun T4 hT4=>⟨(by show 1<=sizeLine;decide),fun l5 hl5=>?_⟩⟩⟩
 have u4:=qA2 hl4 (.lst [.int z]);have g4:(upd Hc l4 (.lst [.int z])) l4=some (.lst ([z].map V.int)):=qA1;generalize upd Hc l4 (.lst [.int z])=H8 at u4 g4 hT4 hl5 ⊢;have u5:=qA2 hT4 (.tup [.int (wdO ws z),.int (wdO ws z - sumW ws (nd Ae z)),.ref l4]);have gT4:(upd H8 T4 (.tup [.int (wdO ws z),.int (wdO ws z - sumW ws (nd Ae z)),.ref l4])) T4=some (.tup [.int (qEG Ae ws z).r,.int (qEG Ae ws z).g,.ref l4]):=qA1;generalize upd H8 T4 (.tup [.int (wdO ws z),.int (wdO ws z - sumW ws (nd Ae z)),.ref l4])=H9 at u5 gT4 hl5 ⊢;have u6:=qA2 hl5 (.lst [.ref T4]);refine ⟨D,l5,_,[V.ref T4],rfl,rfl,u6 _ _ (u5 _ _ (u4 _ _ gD7)),qA1,by rw [A0,C3,sizeLine_eq];omega,fun l6 hl6=>?_⟩
 have e6:rs2.map V.ref++[V.ref T4]=(rs2++[T4]).map V.ref:=by rw [A9];rfl
 rw [e6];have u7:=u6.trans (qA2 hl6 (.lst ((rs2++[T4]).map V.ref)));have g6:(upd (upd H9 l5 (.lst [.ref T4])) l6 (.lst ((rs2++[T4]).map V.ref))) l6=some (.lst ((rs2++[T4]).map V.ref)):=qA1;generalize upd (upd H9 l5 (.lst [.ref T4])) l6 (.lst ((rs2++[T4]).map V.ref))=Ha at u7 g6 ⊢;have sa:=s7.trans (u4.trans (u5.trans u7));have root:PrtAt Ha T4 (qEG Ae ws z):=⟨l4,u7 _ _ gT4,u7 _ _ (u5 _ _ g4)⟩;have lws:(qAB srt).length=(qAB (ys.map F).flatten).length:=((ps2.map Prt.wks).flatten).length_eq;refine ⟨l6,rs2++[T4],srt++[qEG Ae ws z],rfl,g6,qHL (PrtL.same P2 sa) (.cons root .nil),?_,by rw [A6,C3];omega,fun l rs' H' s' fl' gl' PL'=>?_⟩
 ·rw [qB4,qBP,A6];show _+1<=63;omega
 ·exact qq l rs' srt H' (sa.trans s') (sa.free fl') (by rw [en];exact so2) gl' PL'
end
section
variable {P:Program} {w:World} {K:PySem.W.Frag} {mg:Str->Option Value} {base:Heap} {f:Addr} {fd:FuncData} {Pt:Addr} {qC9 qBS qD5 qDI qCH:Addr} {qCY qC7 qMD qEW qDC:FuncData}
theorem sc_wide_order:FnScope ["net","wides","work","own","other","order","part"] ["net","wides","work"] (qAE qDW):=⟨rfl,rfl,rfl,by decide +kernel,rfl,by decide +kernel,by decide +kernel⟩
theorem ok_wide_order (F:Fun K "wide_order" "wide_order" qDW f fd) (qBK:Clb P w K mg base 3 qC9 qCY "demand_tree" ["net","work"] qJE) (qAZ:Clb P w K mg base 1 qBS qC7 "all_needed" ["net","asked"] qWA) (qE7:Clb P w K mg base 3 qD5 qMD "parts_over" ["net","wides","work","own"] (qHX Pt)):FnOk P w K mg base CX0 4 f fd ["net","wides","work"] (qF9 Pt):=by
 refine F.ok sc_wide_order (fun vs H Q E h=>?_) (fun cdv A outer s H vs Q E hr h=>?_)
 ·obtain ⟨a,t,Ae,ws,work,rfl,_⟩:=h
  rfl
 obtain ⟨a,t,Ae,ws,work,rfl,hTab,⟨NI,WD,w1,iT⟩,q⟩:=h;have hu:=qJZ hr;refine ⟨_,(qA4 (qBY (qAX qBK hr rfl (qA0 (pv 0) (qA0 (pv 2) qA3)))) (qA4 (qAG (i:=3) sc_wide_order.nd rfl (D2 rfl) qEN) (qA4 (qBC D0 rfl (qBE (qAX qAZ hr rfl (qA0 (pv 0) (qA0 (qCM (qA0 (pv 2) qA3)) qA3)))) (qA9 (i:=4) sc_wide_order.nd rfl (D2 rfl)) (qA6 (qEL hu (pv 3) (pv 4) (qAX qE7 hr rfl (qA0 (pv 0) (qA0 (pv 1) (qA0 (pv 4) (qA0 (pv 3) qA3))))) rfl))) (qA4 (qAG (i:=5) sc_wide_order.nd rfl (D2 rfl) (qBA qA3)) (qA4 (qBC D0 rfl (qBE (qD8 hu (pv 3) (pv 2) (fun _ _=>rfl))) (qA9 (i:=6) sc_wide_order.nd rfl (D2 rfl)) (qA6 (qBY (qHJ D8 b7 b8 qJP (pv 5) (qA0 (qAW qB2 (pv 6) qA7 (fun _ _=>rfl)) qA3))))) (qA6 (qAR (pv 5)))))))),?_⟩
 try dsimp only [Cx.nox,Cx.wish,cxOf]
 obtain ⟨hN,wf,n400,wk0,wk1⟩:=id NI;refine cut fun N0 hN0=>?_;refine ⟨_,rfl,_,rfl,a,Ae,work,rfl,NI,iT,fun H1 s1=>?_⟩;refine hN0 _ _ (cut fun N1 hN1=>?_);intro dn hdn;have s2:=s1.trans (qA2 hdn (.dK []));have gd2:(upd H1 dn (.dK [])) dn=some (.dK (kvsV [] fun _=>V.non)):=qA1;have fdn:H dn=none:=s1.free hdn;generalize upd H1 dn (.dK [])=H2 at s2 gd2 ⊢;refine hN1 _ _ (cut fun N2 hN2=>?_);refine ⟨_,rfl,_,rfl,(by show 1<=sizeLine;decide),fun ta hta=>?_⟩
 have sta:=qA2 hta (.tup [.int work]);have gta:(upd H2 ta (.tup [.int work])) ta=some (.tup ([work].map V.int)):=qA1;have s3:=s2.trans sta;have gd3:=sta _ _ gd2;generalize upd H2 ta (.tup [.int work])=H3 at gta s3 gd3 ⊢;refine ⟨a,ta,Ae,[work],rfl,hN.same s3,wf,by omega,gta,(fun x hx=>by rw [A4.mp hx];omega),fun lw zs H4 s4 f4 gw N=>?_⟩
 have lz:=N.1.len;have s5:=s3.trans s4;have gd4:=s4 _ _ gd3;have nwd:lw ≠ dn:=qBM gw gd4 (by intro z;cases z)
 have T:=qKO wf n400 N iT;refine ⟨lw,rfl,⟨_,SqL.of gw⟩,qC6 (a:=lw) (xs:=zs.map V.int) (fun i σ Hc=>∃ (ad:Int->Addr) (Fp:Int->List Prt) (v4 v5 v6:Option V),σ=[some (.ref a),some (.ref t),some (.int work),some (.ref dn),v4,v5,v6]/\Same H Hc/\Hc lw=some (.lst (zs.map V.int))/\Hc dn=some (.dK (kvsV (zs.take i) fun z=>.ref (ad z)))/\∀ z ∈ zs.take i,(PrtOk Ae ws z (Fp z)/\∃ srt,StO ((nd Ae z).map Fp).flatten srt/\Fp z=(jrun [] (srt++[qEG Ae ws z])).reverse)/\∃ rs:List Addr,Hc (ad z)=some (.lst (rs.map V.ref))/\PrtL Hc rs (Fp z))
  ⟨fun _=>a,fun _=>[],none,none,none,rfl,s5,gw,gd4,fun z hz=>by simp at hz⟩ (fun i σ Hc _ hP=>by obtain ⟨_,_,_,_,_,_,_,g,_⟩:=hP;exact SqL.of g) ?_ ?_⟩
 ·refine fun i x σ Hc hx hI_1=>opq fun G_1 hG_1=>?_;obtain ⟨ad,Fp,v4,v5,v6,rfl,sc,gwc,gdc,PA⟩:=hI_1;obtain ⟨z,ez,rfl⟩:=qAQ hx;refine hG_1 ?_;have hi:=(A3.mp ez).1;have hz:=B8 ez;have zb:=N.1.in_ z hz;have hys:∀ y ∈ nd Ae z,y ∈ zs.take i:=fun y hy=>(qDG wf N ez hy).1;have kn:=qG2 (F:=Fp) T hz (nd Ae z) (T.nodup hz) fun y hy=>⟨hy,(PA y (hys y hy)).1.1.ord⟩;have lk:(((nd Ae z).map fun y=>qAB (Fp y)).flatten).length+1<=63:=by
   have nz:(z::((nd Ae z).map fun y=>qAB (Fp y)).flatten).Nodup:=G9.mpr ⟨fun m=>by
    obtain ⟨l,hl,hm⟩:=F7.mp m;obtain ⟨y,hy,rfl⟩:=D6.mp hl;have:=qM2 wf (((PA y (hys y hy)).1.1.ord.mem z).mp hm);have:=(T.has hz hy).2.1;omega,kn⟩
   have:=qJO nz (n:=Ae.length) fun x hx=>by
    rcases B5.mp hx with e | e
    ·rw [e];exact zb
    ·obtain ⟨l,hl,hm⟩:=F7.mp e;obtain ⟨y,hy,rfl⟩:=D6.mp hl;obtain ⟨yy,NY,sy⟩:=qDF T (T.has hz hy).1;exact N.1.in_ x (sy x ((NY.2 x).mpr (((PA y (hys y hy)).1.1.ord.mem x).mp hm)))
   rw [D1] at this;omega
  rw [<- qIF] at lk kn;have lk2:((nd Ae z).map Fp).flatten.length<=(qAB ((nd Ae z).map Fp).flatten).length:=qPF (Ae:=Ae) (ws:=ws) fun p hp=>by
   obtain ⟨l,hl,hm⟩:=F7.mp hp;obtain ⟨y,hy,rfl⟩:=D6.mp hl;exact (PA y (hys y hy)).1.1.eqv p hm
  refine ⟨_,rfl,_,rfl,_,rfl,_,rfl,a,t,dn,Ae,ws,zs.take i,z,ad,Fp,rfl,sc _ _ hTab,hN.same sc,wf,n400,⟨sc _ _ WD.1,WD.2⟩,zb.1,zb.2,gdc,(fun y hy=>⟨hys y hy,(PA y (hys y hy)).2⟩),by omega,by omega,kn,(fun p hp=>by
   obtain ⟨l,hl,hm⟩:=F7.mp hp;obtain ⟨y,hy,rfl⟩:=D6.mp hl;exact qaV ((PA y (hys y hy)).1.1.eqv p hm)),fun l rs srt H6 s6 fl sto gl PL=>?_⟩
  have ok:=qKV T w1 hz (fun y hy=>(PA y (hys y hy)).1.1) sto.perm sto.up;have keep:∀ x,x ∈ zs->x<=z->(nd Ae x).map (fun y=>if y=z then (jrun [] (srt++[qEG Ae ws z])).reverse else Fp y)=(nd Ae x).map Fp:=fun x hx le=>P0 fun y hy=>by
   have:=T.has hx hy;rw [if_neg (by omega)]
  have gdy:=s6 _ _ gdc;have zno:z ∉ zs.take i:=fun m=>by have:=qLI N ez m;omega
  have put:=DPut.k (k:=E9 z) (v:=.ref l) gdy (qB7 (by unfold kvsV;rw [A0,D4];omega))
  rw [qM6 zno] at put;refine ⟨_,rfl,_,rfl,dn,_,rfl,put,?_⟩;refine ⟨fun y=>if y=z then l else ad y,fun y=>if y=z then (jrun [] (srt++[qEG Ae ws z])).reverse else Fp y,_,_,_,rfl,qAC (sc.trans s6) fdn,by rw [qA8 nwd];exact s6 _ _ gwc,?_,fun x hx=>?_⟩
  ·rw [qA1,C2,ez,B9];congr 3
   funext y
   show _=V.ref (if y=z then l else ad y)
   by_cases c:y=z
   ·rw [if_pos c,if_pos c]
   ·rw [if_neg c,if_neg c]
  ·rw [C2,ez,B9] at hx;dsimp only;rcases E1.mp hx with m | m
   ·have ne:x ≠ z:=fun e=>zno (e ▸ m);rw [if_neg ne,if_neg ne,keep x (J7 m) (by have:=qLI N ez m;omega)]
    obtain ⟨p1,rs',p2,p3⟩:=PA x m;exact ⟨p1,rs',by rw [qA8 (qBM (s6 _ _ p2) gdy (by intro z;cases z))];exact s6 _ _ p2,qAN p3 fun _ _ e=>(e.same s6).dict gdy⟩
   ·have ex:=A4.mp m;subst ex;rw [if_pos rfl,if_pos rfl,keep _ hz (F4 _)];exact ⟨⟨ok,srt,sto,rfl⟩,rs,by rw [qA8 (qBM gl gdy (by intro z;cases z))];exact gl,qAN PL fun _ _ e=>e.dict gdy⟩
 ·refine fun σ Hc hI_2=>opq fun G_2 hG_2=>?_;obtain ⟨ad,Fp,v4,v5,v6,rfl,sc,gwc,gdc,PA⟩:=hI_2;refine hG_2 ?_;rw [A0,qAU rfl] at gdc PA;have hw:=qEP N;have hg:=DGet.k (k:=E9 work) gdc;rw [qDB (g:=fun z=>V.ref (ad z)) hw] at hg;obtain ⟨⟨ok,_⟩,rs,p2,p3⟩:=PA work hw;refine hN2 _ _ (cut fun N3 hN3=>?_);refine ⟨(by show 0<=sizeLine;decide),fun lo hlo=>?_⟩
  have s6:=qA2 hlo (.lst []);have g6:(upd Hc lo (.lst [])) lo=some (.lst (([]:List Int).map V.int)):=qA1;have hg6:=DGet.k (k:=E9 work) (s6 _ _ gdc);rw [qDB (g:=fun z=>V.ref (ad z)) hw] at hg6;generalize upd Hc lo (.lst [])=H6 at s6 g6 hg6 ⊢;refine hN3 _ _ (cut fun N4 hN4=>?_);have lL:=(ok.ord.all T).2;refine ⟨_,rfl,_,rfl,dn,_,rfl,hg6,ad work,rfl,⟨_,SqL.of (s6 _ _ p2)⟩,qC6 (a:=ad work) (xs:=rs.map V.ref) (fun j σ Hx=>∃ (v6:Option V),σ=[some (.ref a),some (.ref t),some (.int work),some (.ref dn),v4,some (.ref lo),v6]/\Same Hc Hx/\Hx lo=some (.lst ((qAB ((Fp work).take j)).map V.int)))
   ⟨v6,rfl,s6,g6⟩ (fun j σ Hx _ hP=>by obtain ⟨_,_,sx,_⟩:=hP;exact SqL.of (sx _ _ p2)) ?_ ?_⟩
  ·refine fun j x σ Hx hx hI_3=>opq fun G_3 hG_3=>?_;obtain ⟨v6,rfl,sx,gx⟩:=hI_3;obtain ⟨T1,eT,rfl⟩:=qEC hx;obtain ⟨p,ep,l,h1,h2⟩:=qBF p3 eT;refine hG_3 ?_;have ew:qAB ((Fp work).take (j+1))=qAB ((Fp work).take j)++p.wks:=by rw [C2,ep,B9,qB4,qBP]
   have ll:(qAB ((Fp work).take (j+1))).length<=63:=by
    have:qAB (Fp work)=qAB ((Fp work).take (j+1))++qAB ((Fp work).drop (j+1)):=by rw [<- qB4,M8]
    rw [this,A6] at lL;omega
   rw [ew,A6] at ll;refine ⟨_,rfl,.inl ⟨rfl,_,SqL.of gx⟩,_,rfl,T1,_,_,_,rfl,rfl,SqT.of (sx _ _ h1),rfl,lo,l,_,_,rfl,rfl,gx,sx _ _ h2,by rw [A0,A0,sizeLine_eq];omega,?_⟩
   rw [<- A9,<- ew];exact ⟨_,rfl,qAC sx hlo,qA1⟩
  ·refine fun σ Hx hI_4=>opq fun G_4 hG_4=>?_;obtain ⟨v6,rfl,sx,gx⟩:=hI_4;refine hG_4 ?_;rw [A0,C6 p3,qAU rfl] at gx;exact hN4 _ _ ⟨_,rfl,q lo _ Hx (sc.trans sx) (sc.free hlo) gx ⟨ok.ord,ok.best⟩ ⟨Fp,fun z hz=>(PA z ((N.2 z).mpr hz)).1.2,rfl⟩⟩
theorem qLQ:FnScope ["net","wides","work"] ["net","wides","work"] (qAE qDV):=⟨rfl,rfl,rfl,by decide +kernel,rfl,by decide +kernel,by decide +kernel⟩
theorem ok_wide_rooms (F:Fun K "wide_rooms" "wide_rooms" qDV f fd) (qCJ:Clb P w K mg base 1 qDI qEW "taken_by" ["net","wides","work","order"] qJC) (qBJ:Clb P w K mg base 4 qCH qDC "wide_order" ["net","wides","work"] (qF9 Pt)) (qDS:mg "max" = none):FnOk P w K mg base CX0 5 f fd ["net","wides","work"] (qJB Pt):=by
 refine F.ok qLQ (fun vs H Q E h=>?_) (fun cdv A outer s H vs Q E hr h=>?_)
 ·obtain ⟨a,t,Ae,ws,work,rfl,_⟩:=h
  rfl
 obtain ⟨a,t,Ae,ws,work,rfl,hTab,SI,q⟩:=h;refine ⟨_,(qA6 (qAR (qAA (qHD rfl) rfl qDS qK9 (qA0 (qAX qCJ hr rfl (qA0 (pv 0) (qA0 (pv 1) (qA0 (pv 2) (qA0 (qAX qBJ hr rfl (qA0 (pv 0) (qA0 (pv 1) (qA0 (pv 2) qA3)))) qA3))))) qA3)))),?_⟩
 try dsimp only [Cx.nox,Cx.wish,cxOf]
 obtain ⟨⟨hN,wf,n400,wk0,wk1⟩,WD,w1,iT⟩:=id SI;refine ⟨_,rfl,_,rfl,_,rfl,_,rfl,_,rfl,_,rfl,a,t,Ae,ws,work,rfl,hTab,SI,fun l L H1 s1 fl gl B _=>?_⟩;obtain ⟨zs,N,tb⟩:=id iT;have T:=qKO wf n400 N iT;obtain ⟨TO,lL⟩:=B.1.all T;refine ⟨a,t,l,work,Ae,ws,L,rfl,hN.same s1,wf,n400,⟨s1 _ _ WD.1,WD.2⟩,gl,TO,lL,fun l2 H2 s2 f2 g2=>?_⟩;have ne:∃ m,topD none (qCB Ae ws L)=some m:=by
  have hm:0<L.length:=A05 ((B.1.mem work).mpr (.ask (A4.mpr rfl)));have le:(qCB Ae ws L).length=L.length:=by unfold qCB;rw [A0,Y7]
  cases e:qCB Ae ws L with
  | nil=>rw [e] at le;simp at le;omega
  | cons x r=>exact ⟨_,rfl⟩
 obtain ⟨m,hm⟩:=ne;exact ⟨l2,_,m,rfl,SqL.of g2,hm,q m L H2 (s1.trans s2) B hm⟩
end
theorem qU5 {Ae:List (List Int)} {Ad:List Int} (wf:WFn Ae) (r:Rise (Ae.length:Int) Ad) {x:Int} (h:Nd Ae Ad x):0<=x/\x<(Ae.length:Int):=by
 induction h with
 | ask m=>exact r.in_ _ m
 | need _ e hy ih=>
  have h1:=(wf _ _ e).in_ _ hy;have h2:=(A3.mp e).1;omega
theorem qS1 {Ae:List (List Int)} {Ad:List Int} (wf:WFn Ae) (r:Rise (Ae.length:Int) Ad):∃ zs,qB0 Ae Ad zs:=by
 classical
 refine ⟨(qDL 0 Ae.length).filter fun x=>decide (Nd Ae Ad x),⟨(qJI _ _).filter _,fun x hx=>?_⟩,fun x=>?_⟩
 ·have:=mem_rangeI.mp (F9.mp hx).1;omega
 ·rw [F9,decide_eq_true_eq,mem_rangeI];exact ⟨fun h=>h.2,fun h=>⟨qU5 wf r h,h⟩⟩
def OnceF (Ae:List (List Int)) (F n:Nat):Prop:=(∀ (i:Nat) (z:List Int) (x:Int),F<=i->i<n->Ae[i]?=some z->x ∈ z->(F:Int)<=x)/\
 ∀ (i j:Nat) (zi zj:List Int) (x:Int),F<=i->F<=j->i<n->j<n->Ae[i]?=some zi->Ae[j]?=some zj->x ∈ zi->x ∈ zj->i=j
theorem OnceF.isT {Ae:List (List Int)} {F n:Nat} {work:Int} (wf:WFn Ae) (o:OnceF Ae F n) (hn:n<=Ae.length) (w0:(F:Int)<=work) (w1:work<(n:Int)):isT Ae work:=by
 obtain ⟨zs,N⟩:=qS1 (Ae:=Ae) (Ad:=[work]) wf ⟨T8 _ _,fun x hx=>by rw [A4.mp hx];omega⟩
 refine ⟨zs,N,?_⟩;have low:∀ u,Nd Ae [work] u->(F:Int)<=u:=by
  intro u hu
  induction hu with
  | ask m=>rw [A4.mp m];exact w0
  | @need v y z hv e m ih=>
   have b:=qM2 wf hv;exact o.1 v.toNat z y (by omega) (by omega) e m
 unfold qN0;rw [O2];intro x hx;rw [decide_eq_true_eq];intro ne;obtain ⟨i,hi⟩:=L8 hx;rcases qXN N wf hi with q | ⟨v,hv,hxv⟩
 ·exact absurd (A4.mp q) ne
 ·have hvz:v ∈ zs:=Q6 hv;have lt:∀ u ∈ zs,(F:Int)<=u/\u<(n:Int):=fun u hu=>by
   have a:=low u ((N.2 u).mp hu);have b:=qM2 wf ((N.2 u).mp hu);omega
  have get:∀ u ∈ zs,Ae[u.toNat]?=some (nd Ae u):=fun u hu=>by
   have:=lt u hu;have hl:u.toNat<Ae.length:=by omega
   have g:=A1 hl;rw [g,qAF g]
  have nv:(nd Ae v).Nodup:=(wf _ _ (get v hvz)).nodup;unfold cI;rw [qLB N.1.nodup hvz (fun u hu hxu=>?_) hxv nv]
  ·rfl
  ·have a:=lt u hu;have b:=lt v hvz;have:=o.2 u.toNat v.toNat _ _ x (by omega) (by omega) (by omega) (by omega) (get u hu) (get v hvz) hxu hxv
   omega
theorem OnceF.zero {Ae:List (List Int)} {n:Nat} (wf:WFn Ae) (h:Once Ae n):OnceF Ae 0 n:=
 ⟨fun i z x _ _ e hx=>by have:=(wf i z e).in_ x hx;omega,fun i j zi zj x _ _ h1 h2 e1 e2 m1 m2=>h i j zi zj x h1 h2 e1 e2 m1 m2⟩
theorem OnceF.app {Ae more:List (List Int)} {F n:Nat} (h:OnceF Ae F n) (hn:n<=Ae.length):OnceF (Ae++more) F n:=
 ⟨fun i z x h1 h2 e hx=>h.1 i z x h1 h2 (by rw [E4 (by omega)] at e;exact e) hx,
  fun i j zi zj x h1 h2 h3 h4 e1 e2 m1 m2=>h.2 i j zi zj x h1 h2 h3 h4 (by rw [E4 (by omega)] at e1;exact e1) (by rw [E4 (by omega)] at e2;exact e2) m1 m2⟩
def shT (F:Int) (t:List (List Int)):List (List Int):=t.map fun z=>z.map fun x=>x+F
theorem qLP {F:Nat} {pre t:List (List Int)} (hF:pre.length=F) {i:Nat} {z:List Int} (h:(pre++shT F t)[i]?=some z) (hi:F<=i):∃ y,t[i - F]?=some y/\z=y.map fun x=>x+(F:Int):=by
 rw [G7 (by omega),hF] at h
 unfold shT at h;rw [B7] at h;cases e:t[i - F]? with
 | none=>rw [e] at h;cases h
 | some y=>rw [e] at h;exact ⟨y,rfl,(D5 h).symm⟩
theorem qaP {F:Nat} {pre t:List (List Int)} (hF:pre.length=F) (w1:WFn pre) (w2:WFn t):WFn (pre++shT F t):=fun i z e=>by
 by_cases c:i<F
 ·rw [E4 (by omega)] at e
  exact w1 i z e
 ·obtain ⟨y,h1,rfl⟩:=qLP hF e (by omega)
  have r:=w2 _ _ h1;refine ⟨F3.mpr (r.up.imp fun {a b} q=>by omega),fun x hx=>?_⟩
  obtain ⟨x0,h0,rfl⟩:=D6.mp hx;have:=r.in_ x0 h0;omega
theorem qWC {F n:Nat} {pre t:List (List Int)} (hF:pre.length=F) (w2:WFn t) (h:Once t n):OnceF (pre++shT F t) F (F+n):=by
 refine ⟨fun i z x h1 h2 e hx=>?_,fun i j zi zj x h1 h2 h3 h4 e1 e2 m1 m2=>?_⟩
 ·obtain ⟨y,g,rfl⟩:=qLP hF e h1;obtain ⟨x0,h0,rfl⟩:=D6.mp hx;have:=(w2 _ _ g).in_ x0 h0;omega
 ·obtain ⟨y,g,rfl⟩:=qLP hF e1 h1;obtain ⟨y2,g2,rfl⟩:=qLP hF e2 h2;obtain ⟨x0,a0,b0⟩:=D6.mp m1;obtain ⟨x1,a1,b1⟩:=D6.mp m2;have:=h (i - F) (j - F) _ _ x0 (by omega) (by omega) g g2 a0 (by rw [show x0=x1 by omega];exact a1)
  omega
def qQN:Sp:=fun vs H Q _=>∃ d c t ns m,vs=[.ref d,.int m]/\StAt H d c t ns/\t<=TB - 20000/\1<=m/\m<=56/\
 ∀ T a Ae work t' ns' H',StAt H' d c t' ns'->t<=t'->t'<=t+200->Keep d c H H'->NIn H' a Ae work->(Ae.length:Int)<=m+4->isT Ae work->H' T=some (.tup [.ref a,.int work])->Q (.ref T) H'
section
variable {P:Program} {w:World} {K:PySem.W.Frag} {mg:Str->Option Value} {base:Heap} {f:Addr} {fd:FuncData} {qCF qCV qRF qCA:Addr} {qC8 qE1 qV4 qCZ:FuncData}
theorem sc_Lground:FnScope ["_law_state","_law_many","_law_tree","_law_way","_law_net_here","_law_first","_law_turn"] ["_law_state","_law_many"] (qAE qGR):=⟨rfl,rfl,rfl,by decide +kernel,rfl,by decide +kernel,by decide +kernel⟩
theorem ok_Lground (F:Fun K "_law_ground" "_law_ground" qGR f fd) (qAH:Clb P w K mg base 1 qCF qC8 "_law_take" ["_law_state","_law_many"] qHW) (qC2:Clb P w K mg base 2 qCV qE1 "_law_tree_net" ["_law_state","_law_many"] qP9) (qRP:Clb P w K mg base 3 qRF qV4 "_law_net" ["_law_state","_law_many"] qaI) (qB9:Clb P w K mg base 2 qCA qCZ "_law_some_needs" ["_law_state","_law_k"] qLL) (qBQ:mg "len" = none) (qAM:mg "tuple" = none) (qAP:mg "range" = none):FnOk P w K mg base CX0 4 f fd ["_law_state","_law_many"] qQN:=by
 refine F.ok sc_Lground (fun vs H Q E h=>?_) (fun cdv A outer s H vs Q E hr h=>?_)
 ·obtain ⟨d,c,t,ns,m,rfl,_⟩:=h
  rfl
 obtain ⟨d,c,t,ns,m,rfl,S,ht,m1,m2,q⟩:=h;have ht':t<=1000000000 - 20000:=ht;refine ⟨_,(qA4 (qAG (i:=2) sc_Lground.nd rfl (D2 rfl) (qAX qC2 hr rfl (qA0 (pv 0) (qA0 (pv 1) qA3)))) (qA4 (qAG (i:=3) sc_Lground.nd rfl (D2 rfl) (qAX qAH hr rfl (qA0 (pv 0) (qA0 qA7 qA3)))) (qA4 (qKU (qCM (qA0 (pv 2) (qA0 qA7 qA3))) (qGU rfl (qB3 (qA9 (i:=4) sc_Lground.nd rfl (D2 rfl)) (qB3 (qA9 (i:=5) sc_Lground.nd rfl (c8 rfl)) qEA)))) (qA4 (qCK (qAS qGW (pv 3) qA7 (qB1 _)) (qA4 (qAG (i:=4) sc_Lground.nd rfl (D2 rfl) (qAX qRP hr rfl (qA0 (pv 0) (qA0 (qAJ qBW qA7 (qAX qAH hr rfl (qA0 (pv 0) (qA0 qA7 qA3)))) qA3)))) (qA4 (qAG (i:=5) sc_Lground.nd rfl (c8 rfl) (qAA qAI rfl qBQ qD7 (qA0 (pv 4) qA3))) (qA6 (qAG (i:=4) sc_Lground.nd rfl (D2 rfl) (qAJ qU0 (pv 4) (qAL qAY rfl qAM qBI (qA0 (qEM rfl (lcs (own:=["_law_needs"]) (fv:=[5]) (by kernel_rfl)) (qE0 (pv 2)) (fun z1=>qA9 (i:=0) (qCU (by kernel_rfl)) rfl (D2 rfl)) (fun z1=>qBL) (fun z1=>(qAL (qGG (K:=K) rfl) rfl qAM qBI (qA0 (qEM (X:=lcCx _ _ _ _ z1) rfl (lcs (own:=["_law_need"]) (fv:=[1]) (by kernel_rfl)) (qPI (K:=K) rfl (pv 0)) (fun z2=>qA9 (i:=0) (qCU (by kernel_rfl)) rfl (D2 rfl)) (fun z2=>qBL) (fun z2=>(qAJ qBW (pv 0) (pv 1)))) qA3)))) qA3))))))) qAV) (qA4 (qCK (qAS qGW (pv 3) qA7 (qB1 _)) (qA6 (qBC D0 rfl (qBZ rfl qAP (qA0 (qAJ qBW qA7 (qAX qAH hr rfl (qA0 (pv 0) (qA0 qA7 qA3)))) qA3)) (qA9 (i:=6) sc_Lground.nd rfl (D2 rfl)) (qA6 (qAG (i:=4) sc_Lground.nd rfl (D2 rfl) (qAJ qU0 (pv 4) (qCM (qA0 (qAX qB9 hr rfl (qA0 (pv 0) (qA0 (qAA qAI rfl qBQ qD7 (qA0 (pv 4) qA3)) qA3))) qA3))))))) qAV) (qA4 (qCK (qAS qGW (qAX qAH hr rfl (qA0 (pv 0) (qA0 qA7 qA3))) qA7 (qB1 _)) (qA6 (qAR (qCM (qA0 (pv 4) (qA0 (qAJ qBW (pv 5) (qAX qAH hr rfl (qA0 (pv 0) (qA0 (pv 1) qA3)))) qA3))))) qAV) (qA6 (qAR (qCM (qA0 (pv 4) (qA0 (qAJ qCS (qAJ qBW (pv 5) (pv 1)) qA7) qA3))))))))))),?_⟩
 try dsimp only [Cx.nox,Cx.wish,cxOf]
 refine cut fun N0 hN0=>?_;refine ⟨_,rfl,_,rfl,d,c,t,ns,m,rfl,S,(by show t<=1000000000 - 1000;omega),by omega,by omega,fun a Ae t1 ns1 H1 S1 g0 g1 K1 hN wf nl once=>?_⟩
 refine hN0 _ _ (cut fun N1 hN1=>?_);refine ⟨_,rfl,d,c,t1,ns1,4,rfl,S1,(by show t1<=1000000000;omega),by decide,by decide,fun way ns2 H2 y0 y1 S2 K2=>?_⟩
 have hN2:=hN.keep S1 K2;have K02:=K1.trans K2;refine hN1 _ _ (cut fun N2 hN2'=>?_);refine ⟨_,rfl,(by show 2<=sizeLine;decide),fun T0 hT0=>?_⟩
 have u0:=qA2 hT0 (.tup [.ref a,.int 0]);refine ⟨T0,_,rfl,SqT.of qA1,rfl,_,_,rfl,_,_,rfl,rfl,?_⟩;have S3:=S2.same u0;have hT3:=hN2.same u0;have K03:=K02.trans (.of_same u0);generalize upd H2 T0 (.tup [.ref a,.int 0])=H3 at S3 hT3 K03 ⊢;refine hN2' _ _ (cut fun N3 hN3=>?_);have J3:∀ (a':Addr) (net':List (List Int)) (Fi:Nat) (t':Int) (ns':List Int) (H':Hp),StAt H' d c t' ns'->t<=t'->t'<=t+140->Keep d c H H'->NetAt H' a' net'->WFn net'->(net'.length:Int)<=m+4->Fi+m.toNat<=net'.length->OnceF net' Fi (Fi+m.toNat)->(way=1->(net'.length:Int)<=m+1)->
   N3 [some (.ref d),some (.int m),some (.ref a),some (.int way),some (.ref a'),some (.int Fi),none] H':=by
  intro a' net' Fi t' ns' H' S' h1 h2 K' hN' wf' l60 lm oF w57;refine hN3 _ _ (cut fun N4 hN4=>?_);have J4:∀ (v6:Option V) (a':Addr) (net':List (List Int)) (t':Int) (ns':List Int) (H':Hp),StAt H' d c t' ns'->t<=t'->t'<=t+180->Keep d c H H'->NetAt H' a' net'->WFn net'->(net'.length:Int)<=m+4->Fi+m.toNat<=net'.length->OnceF net' Fi (Fi+m.toNat)->
    N4 [some (.ref d),some (.int m),some (.ref a),some (.int way),some (.ref a'),some (.int Fi),v6] H':=by
   intro v6 a' net' t' ns' H' S' h1 h2 K' hN' wf' l60 lm oF;refine hN4 _ _ (cut fun N5 hN5=>?_);refine ⟨_,rfl,d,c,t',ns',5,rfl,S',(by show t'<=1000000000;omega),by decide,by decide,fun k ns4 H4 k0 k1 S4 K4=>?_⟩
   have hN4':=hN'.keep S' K4;have K04:=K'.trans K4;refine ⟨rfl,_,rfl,?_⟩;refine ite2 (fun _=>?_) (fun _=>?_)
   ·refine ⟨_,rfl,_,rfl,_,rfl,_,rfl,d,c,t'+1,ns4,m,rfl,S4,(by show t'+1<=1000000000;omega),by omega,by omega,fun j ns5 H5 j0 j1 S5 K5=>⟨_,_,rfl,rfl,(by show 2<=sizeLine;decide),fun T hT=>?_⟩⟩
    have sT:=qA2 hT (.tup [.ref a',.int ((Fi:Int)+j)]);have hN5:=(hN4'.keep S4 K5).same sT;exact q T a' net' ((Fi:Int)+j) (t'+1+1) ns5 _ (S5.same sT) (by omega) (by omega) (K04.trans (K5.trans (.of_same sT))) ⟨hN5,wf',by omega,by omega,by omega⟩ l60 (oF.isT wf' lm (by omega) (by omega)) qA1
   refine hN5 _ _ ?_;refine ⟨_,rfl,_,rfl,_,rfl,_,_,rfl,rfl,_,_,rfl,rfl,(by show 2<=sizeLine;decide),fun T hT=>?_⟩
   have sT:=qA2 hT (.tup [.ref a',.int ((Fi:Int)+m - 1)]);exact q T a' net' ((Fi:Int)+m - 1) (t'+1) ns4 _ (S4.same sT) (by omega) (by omega) (K04.trans (.of_same sT)) ⟨hN4'.same sT,wf',by omega,by omega,by omega⟩ l60 (oF.isT wf' lm (by omega) (by omega)) qA1
  refine ⟨_,rfl,rfl,_,rfl,?_⟩;refine ite2 (fun cw=>?_) (fun _=>?_)
  ·have ew:way=1:=V.int.inj (of_decide_eq_true cw);have l57:=w57 ew;refine ⟨_,rfl,d,c,t',ns',3,rfl,S',(by show t'<=1000000000;omega),by decide,by decide,fun k ns4 H4 k0 k1 S4 K4=>⟨_,_,rfl,rfl,?_⟩⟩
   refine ⟨1+k,rfl,by omega,by omega,qH3 (lo:=0) (n:=(1+k).toNat) (fun i σ Hc=>∃ (tc:Int) (nc:List Int) (ac:Addr) (nt:List (List Int)) (v6:Option V),σ=[some (.ref d),some (.int m),some (.ref a),some (.int way),some (.ref ac),some (.int Fi),v6]/\StAt Hc d c tc nc/\t<=tc/\tc<=t+141+9 * i/\Keep d c H Hc/\NetAt Hc ac nt/\WFn nt/\(nt.length:Int)<=m+1+i/\Fi+m.toNat<=nt.length/\OnceF nt Fi (Fi+m.toNat))
    ⟨t'+1,ns4,a',net',none,rfl,S4,by omega,by omega,K'.trans K4,hN'.keep S' K4,wf',by omega,lm,oF⟩ ?_ ?_⟩
   ·refine fun i σ Hc hi hI_1=>opq fun G_1 hG_1=>?_;obtain ⟨tc,nc,ac,nt,v6,rfl,Sc,c1,c2,Kc,hNc,wfc,l57c,lmc,oFc⟩:=hI_1;refine hG_1 ?_;have i3:i<3:=by omega
    obtain ⟨rs,hA,NL⟩:=id hNc;have lrs:=C6 NL;refine ⟨_,rfl,_,rfl,_,rfl,ac,_,rfl,.inr (SqT.of hA),?_⟩;rw [A0,lrs];refine ⟨d,c,tc,nc,_,rfl,Sc,(by show tc<=1000000000 - 20;omega),by omega,by omega,fun r zs t5 ns5 H5 S5 e1 e2 K5 gr rz=>⟨(by show 1<=sizeLine;decide),fun p1 hp1=>?_⟩⟩
    have u1:=qA2 hp1 (.tup [.ref r]);have hN5:=hNc.keep Sc K5;obtain ⟨rs5,hA5,NL5⟩:=id hN5;have lrs5:=C6 NL5;refine ⟨ac,p1,_,[r].map V.ref,rfl,rfl,u1 _ _ hA5,qA1,by rw [A0,A0,C3,sizeLine_eq];omega,fun p2 H6 s6 g6=>?_⟩
    rw [<- A9] at g6;have uu:=u1.trans s6;refine ⟨t5,ns5,p2,nt++[zs],_,rfl,S5.same uu,by omega,by omega,Kc.trans (K5.trans (.of_same uu)),⟨_,g6,qCO (NL5.same fun r ys e=>uu _ _ e) (uu _ _ gr)⟩,wfc.snoc rz,by rw [A6,C3];omega,by rw [A6];omega,oFc.app (by omega)⟩
   ·refine fun σ Hc hI_2=>opq fun G_2 hG_2=>?_;obtain ⟨tc,nc,ac,nt,v6,rfl,Sc,c1,c2,Kc,hNc,wfc,l57c,lmc,oFc⟩:=hI_2;refine hG_2 ?_;exact J4 v6 ac nt tc nc Hc Sc c1 (by omega) Kc hNc wfc (by omega) lmc oFc
  ·exact J4 none a' net' t' ns' H' S' h1 (by omega) K' hN' wf' l60 lm oF
 refine ⟨_,rfl,rfl,_,rfl,?_⟩;refine ite2 (fun cw=>?_) (fun _=>?_)
 ·have ew:way=0:=V.int.inj (of_decide_eq_true cw);refine cut fun M0 hM0=>?_;refine ⟨_,rfl,_,rfl,d,c,t1+1,ns2,4,rfl,S3,(by show t1+1<=1000000000;omega),by decide,by decide,fun k ns4 H4 k0 k1 S4 K4=>⟨_,_,rfl,rfl,?_⟩⟩
  refine ⟨d,c,t1+1+1,ns4,1+k,rfl,S4,(by show t1+1+1<=1000000000 - 10000;omega),by omega,by omega,fun b pre t5 ns5 H5 S5 e1 e2 K5 hB wfB lB=>?_⟩
  have hN5:=(hT3.keep S3 K4).keep S4 K5;have K05:=K03.trans (K4.trans K5);refine hM0 _ _ (cut fun M1 hM1=>?_);obtain ⟨rb,gB,NB⟩:=id hB;have lrb:=C6 NB;refine ⟨_,rfl,b,_,rfl,.inr (SqT.of gB),?_⟩;rw [A0,lrb];refine hM1 _ _ ?_;obtain ⟨rs,hA,NL⟩:=id hN5;have lrs:=C6 NL;refine ⟨_,rfl,_,rfl,a,rfl,⟨_,SqT.of hA⟩,fun p hp=>?_⟩;refine qJS (p:=p) (a:=a) (xs:=rs.map V.ref) (fun j σ Hc=>∃ (v:Option V) (qs:List Addr),σ=[v,some (.int pre.length)]/\Same H5 Hc/\Hc p=some (.lst (qs.map V.ref))/\NetL Hc qs (shT pre.length (Ae.take j))) ?_ ?_ ?_ ?_
  ·exact ⟨none,[],rfl,qA2 hp _,qA1,.nil⟩
  ·rintro j σ Hc hj ⟨v,qs,rfl,sc,_⟩;exact SqT.of (sc _ _ hA)
  ·refine fun j x σ Hc hx hI_4=>opq fun G_4 hG_4=>?_;obtain ⟨v,qs,rfl,sc,hpc,NQ⟩:=hI_4;obtain ⟨r,er,rfl⟩:=qEC hx;obtain ⟨z,ez,gz⟩:=qBF NL er;refine hG_4 ?_;have hj:=(A3.mp ez).1;have rz:=wf j z ez;have lz:=rz.len;refine ⟨_,rfl,r,rfl,⟨_,SqT.of (sc _ _ gz)⟩,fun p2 hp2=>?_⟩;refine qJS (p:=p2) (a:=r) (xs:=z.map V.int) (fun i σ Hd=>∃ (v:Option V),σ=[v,some (.int pre.length)]/\Same Hc Hd/\Hd p2=some (.lst (((z.take i).map fun x=>x+(pre.length:Int)).map V.int))) ?_ ?_ ?_ ?_
   ·exact ⟨none,rfl,qA2 hp2 _,qA1⟩
   ·rintro i σ Hd hi ⟨v,rfl,sd,_⟩;exact SqT.of (sd _ _ (sc _ _ gz))
   ·refine fun i x σ Hd hx hI_6=>opq fun G_6 hG_6=>?_;obtain ⟨v,rfl,sd,hpd⟩:=hI_6;obtain ⟨y,ey,rfl⟩:=qAQ hx;refine hG_6 ?_;have li:=(A3.mp ey).1;refine ⟨_,rfl,_,rfl,_,_,rfl,rfl,_,hpd,qAK (by rw [A0,A0,D4];omega),_,rfl,qAC sd hp2,?_⟩
    rw [qA1,C2,ey,B9,A9,A9]
    rfl
   ·refine fun σ Hd hI_7=>opq fun G_7 hG_7=>?_;obtain ⟨v,rfl,sd,hpd⟩:=hI_7;refine hG_7 ?_;rw [A0,qAU rfl] at hpd;refine ⟨p2,_,rfl,.inl ⟨SqL.of hpd,fun p3 hp3=>?_⟩⟩;have s3:=sd.trans (qA2 hp3 (.tup ((z.map fun x=>x+(pre.length:Int)).map V.int)));have g3:=s3 _ _ hpc;have lq:=C6 NQ;have lsh:(shT pre.length (Ae.take j)).length=j:=by unfold shT;rw [A0,D4];omega
    refine ⟨_,g3,qAK (by rw [A0];omega),?_⟩
    rw [qCN];refine ⟨_,qs++[p3],rfl,qAC (sc.trans s3) hp,qA1,?_⟩;have e:shT pre.length (Ae.take (j+1))=shT pre.length (Ae.take j)++[z.map fun x=>x+(pre.length:Int)]:=by
     unfold shT;rw [C2,ez,B9,A9]
     rfl
    rw [e];exact qEO (qCO (NQ.same fun r ys e=>s3 _ _ e) qA1) g3
  ·refine fun σ Hc hI_8=>opq fun G_8 hG_8=>?_;obtain ⟨v,qs,rfl,sc,hpc,NQ⟩:=hI_8;refine hG_8 ?_;rw [A0,lrs,qAU rfl] at NQ;have lq:=C6 NQ;have lsh:(shT pre.length Ae).length=Ae.length:=by unfold shT;rw [A0]
   refine ⟨p,_,rfl,.inl ⟨SqL.of hpc,fun p1 hp1=>?_⟩⟩;have u1:=qA2 hp1 (.tup (qs.map V.ref));refine ⟨b,p1,_,_,rfl,rfl,u1 _ _ (sc _ _ gB),qA1,by rw [A0,A0,sizeLine_eq];omega,fun p2 H6 s6 g6=>?_⟩
   rw [<- A9] at g6;have uu:=sc.trans (u1.trans s6);exact J3 p2 (pre++shT pre.length Ae) pre.length t5 ns5 H6 (S5.same uu) (by omega) (by omega) (K05.trans (.of_same uu)) ⟨_,g6,qHL (NB.same fun r ys e=>uu _ _ e) (NQ.same fun r ys e=>(u1.trans s6) _ _ e)⟩ (qaP rfl wfB wf) (by rw [A6,lsh];omega) (by rw [A6,lsh];omega) (by rw [show m.toNat=Ae.length by omega];exact qWC rfl wf once) (fun z=>by omega)
 ·exact J3 a Ae 0 (t1+1) ns2 H3 S3 (by omega) (by omega) K03 hT3 wf (by omega) (by omega) (by rw [show 0+m.toNat=Ae.length by omega];exact .zero wf once) (fun _=>by omega)
end
section
variable {P:Program} {w:World} {K:PySem.W.Frag} {mg:Str->Option Value} {base:Heap} {f:Addr} {fd:FuncData} {qD6:Addr} {qDH:FuncData}
theorem qWW {l:List Int} (h:l.Pairwise (·<=·)) (n:l.Nodup):l.Pairwise (·<·):=(A14.mpr ⟨h,n⟩).imp fun {a b} z=>by have:=z.1;have:=z.2;omega
theorem sc_Lis_order:FnScope ["_law_net_here","_law_work","_law_order","_law_ahead","_law_one"] ["_law_net_here","_law_work","_law_order"] (qAE qEK):=⟨rfl,rfl,rfl,by decide +kernel,rfl,by decide +kernel,by decide +kernel⟩
theorem ok_Lis_order (F:Fun K "_law_is_order" "_law_is_order" qEK f fd) (qBV:Clb P w K mg base 1 qD6 qDH "_law_needed" ["_law_net_here","_law_asked"] qIK) (qAD:mg "isinstance" = none) (qCL:mg "list" = none) (qF3:mg "int" = none) (qF5:mg "bool" = none) (qAT:mg "sorted" = none) (qG7:mg "all" = none) (qIA:mg "any" = none):FnOk P w K mg base CX0 2 f fd ["_law_net_here","_law_work","_law_order"] qKQ:=by
 refine F.ok sc_Lis_order (fun vs H Q E h=>?_) (fun cdv A outer s H vs Q E hr h=>?_)
 ·obtain ⟨a,lo,Ae,L,work,rfl,_⟩:=h
  rfl
 obtain ⟨a,lo,Ae,L,work,rfl,hN,wf,n60,w0,w1,gL,O,q⟩:=h;have hu:=qJZ hr;have hu0:=hr.units0;refine ⟨_,(qA4 (qCK (PW.pt (qLT (qI0 (qDN (qAA qB6 rfl qAD qAO (qA0 (pv 2) (qA0 (qCT (v:=.ty "list") rfl qCL qHR rfl) qA3))))) (qGS (qI0 (qDN (qAA (qJ1 rfl) rfl qG7 qRN (qA0 (qEM rfl (lcs (own:=["_law_one"]) (fv:=[]) (by kernel_rfl)) (qBE (pv 2)) (fun z1=>qA9 (i:=0) (qCU (by kernel_rfl)) rfl (D2 rfl)) (fun z1=>qBL) (fun z1=>(qAA (qI6 (K:=K) rfl) rfl qAD qAO (qA0 (pv 0) (qA0 (qCT (v:=.ty "int") rfl qF3 qOQ rfl) qA3))))) qA3))))))) (qA6 (qAR qEB)) qAV) (qA4 (qCK (PW.pt (qLT (qAS (qPL hu0) (qAA (qI4 rfl) rfl qAT qDR (qA0 (pv 2) qA3)) (qAX qBV hr rfl (qA0 (pv 0) (qA0 (qCM (qA0 (pv 1) qA3)) qA3))) (qB1 _)) (qGS (qDN (qAA (qMK rfl) rfl qIA qVR (qA0 (qEM rfl (lcs (own:=["_law_one"]) (fv:=[]) (by kernel_rfl)) (qBE (pv 2)) (fun z2=>qA9 (i:=0) (qCU (by kernel_rfl)) rfl (D2 rfl)) (fun z2=>qBL) (fun z2=>(qAA (qI6 (K:=K) rfl) rfl qAD qAO (qA0 (pv 0) (qA0 (qCT (v:=.ty "bool") rfl qF5 qVQ rfl) qA3))))) qA3)))))) (qA6 (qAR qEB)) qAV) (qA4 (qAG (i:=3) sc_Lis_order.nd rfl (c8 rfl) qEN) (qA4 (qBC D0 rfl (qBE (pv 2)) (qA9 (i:=4) sc_Lis_order.nd rfl (D2 rfl)) (qA4 (qCK (qI0 (qDN (qAA (qJ1 rfl) rfl qG7 qRN (qA0 (qEM rfl (lcs (own:=["_law_need"]) (fv:=[3]) (by kernel_rfl)) (qE0 (qAW qB2 (pv 0) (pv 4) (fun _ _=>rfl))) (fun z3=>qA9 (i:=0) (qCU (by kernel_rfl)) rfl (D2 rfl)) (fun z3=>qBL) (fun z3=>(qTP (qNB hu (pv 0) (pv 1))))) qA3)))) (qA6 (qAR qEB)) qAV) (qA6 (qEL hu (pv 3) (pv 4) qEB rfl)))) (qA6 (qAR qEB)))))),?_⟩
 try dsimp only [Cx.nox,Cx.wish,cxOf]
 obtain ⟨rs,hA,NL⟩:=id hN;refine cut fun N0 hN0=>?_;refine ⟨_,rfl,_,"list",_,true,rfl,TyOf.lst gL,rfl,_,rfl,?_⟩;refine iteF ?_;refine ⟨_,rfl,lo,rfl,⟨_,SqL.of gL⟩,fun p hp=>?_⟩;have lL:L.length<=60:=by
  have:=qJO O.nodup (n:=Ae.length) fun x hx=>qNH wf w0 w1 ((O.mem x).mp hx);omega
 refine qER (p:=p) (a:=lo) (xs:=L.map V.int) (fun i σ Hd=>∃ (v:Option V),σ=[v]/\Same H Hd/\Hd p=some (.lst ((C4 i true).map V.bl))) ?_ ?_ ?_ ?_
 ·exact ⟨none,rfl,qA2 hp _,qA1⟩
 ·rintro i σ Hd hi ⟨v,rfl,sd,_⟩;exact SqL.of (sd _ _ gL)
 ·refine fun i x' σ Hd hx hI_2=>opq fun G_2 hG_2=>?_;obtain ⟨v,rfl,sd,gp⟩:=hI_2;obtain ⟨y,ey,rfl⟩:=qAQ hx;refine hG_2 ?_;have hi:=(A3.mp ey).1;refine ⟨_,rfl,_,"int",_,true,rfl,TyOf.int y,rfl,_,gp,qB7 (by rw [A0,O8];omega),_,rfl,qAC sd hp,?_⟩
  rw [qA1,W2,A9]
  rfl
 refine fun σ Hd hI_3=>opq fun G_3 hG_3=>?_;obtain ⟨v,rfl,sd,gp⟩:=hI_3;refine hG_3 ?_;refine ⟨p,_,rfl,SqL.of gp,_,rfl,?_⟩;have ea:(C4 (L.map V.int).length true).all id=true:=by rw [O2];exact fun x hx=>(X7.mp hx).2
 rw [ea];refine iteF ?_;refine hN0 _ _ (cut fun N1 hN1=>?_);have gLd:=sd _ _ gL;refine ⟨_,rfl,lo,L,rfl,.inl (SqL.of gLd),by omega,fun l1 ns1 hl1 pm1 st1=>?_⟩
 have s1:=qA2 hl1 (.lst (ns1.map V.int));have g1:(upd Hd l1 (.lst (ns1.map V.int))) l1=some (.lst (ns1.map V.int)):=qA1;have sd1:=sd.trans s1;generalize upd Hd l1 (.lst (ns1.map V.int))=H1 at s1 g1 sd1 ⊢;refine ⟨_,rfl,_,rfl,(by show 1<=sizeLine;decide),fun ta hta=>?_⟩
 have s2:=qA2 hta (.tup [.int work]);have g2:(upd H1 ta (.tup [.int work])) ta=some (.tup ([work].map V.int)):=qA1;have sd2:=sd1.trans s2;generalize upd H1 ta (.tup [.int work])=H2 at s2 g2 sd2 ⊢;refine ⟨a,ta,Ae,[work],rfl,hN.same sd2,wf,by omega,⟨g2,(by simp),fun x hx=>by rw [A4.mp hx];exact ⟨w0,w1⟩⟩,fun l3 zs H3 s3 f3 g3 Nz=>?_⟩
 have e1:ns1=zs:=qYK (qWW st1 (pm1.nodup_iff.mpr O.nodup)) Nz.1.up fun x=>by rw [pm1.mem_iff,O.mem,Nz.2]
 subst e1;refine ⟨l1,l3,ns1,ns1,rfl,rfl,SqL.of (s3 _ _ (s2 _ _ g1)),SqL.of g3,_,rfl,?_⟩;rw [show decide (ns1 ≠ ns1)=false from decide_eq_false fun z=>z rfl];refine iteF ?_;have sd3:=sd2.trans s3;refine ⟨_,rfl,lo,rfl,⟨_,SqL.of (sd3 _ _ gL)⟩,fun pb hpb=>?_⟩;refine qER (p:=pb) (a:=lo) (xs:=L.map V.int) (fun i σ Hd=>∃ (v:Option V),σ=[v]/\Same H3 Hd/\Hd pb=some (.lst ((C4 i false).map V.bl))) ?_ ?_ ?_ ?_
 ·exact ⟨none,rfl,qA2 hpb _,qA1⟩
 ·rintro i σ He hi ⟨v,rfl,se,_⟩;exact SqL.of (se _ _ (sd3 _ _ gL))
 ·refine fun i x' σ He hx hI_5=>opq fun G_5 hG_5=>?_;obtain ⟨v,rfl,se,gpe⟩:=hI_5;obtain ⟨y,ey,rfl⟩:=qAQ hx;refine hG_5 ?_;have hi:=(A3.mp ey).1;refine ⟨_,rfl,_,"bool",_,false,rfl,TyOf.int y,rfl,_,gpe,qB7 (by rw [A0,O8];omega),_,rfl,qAC se hpb,?_⟩
  rw [qA1,W2,A9]
  rfl
 refine fun σ He hI_6=>opq fun G_6 hG_6=>?_;obtain ⟨v,rfl,se,gpe⟩:=hI_6;refine hG_6 ?_;refine ⟨pb,_,rfl,SqL.of gpe,_,rfl,?_⟩;have ea2:(C4 (L.map V.int).length false).any id=false:=by rw [Q3];intro z;obtain ⟨x,hx,e⟩:=Z3.mp z;rw [(X7.mp hx).2] at e;cases e
 rw [ea2];refine iteF ?_;have sd4:=sd3.trans se;refine hN1 _ _ (cut fun N2 hN2=>?_);intro dk hdk;have s5:=qA2 hdk (.dK []);have g5:(upd He dk (.dK [])) dk=some (.dK []):=qA1;have fdk:H dk=none:=sd4.free hdk;have sd5:=sd4.trans s5;generalize upd He dk (.dK [])=H5 at s5 g5 sd5 ⊢;refine hN2 _ _ (cut fun N3 hN3=>?_);have bt:∀ x ∈ L,0<=x/\x<(Ae.length:Int):=fun x hx=>qNH wf w0 w1 ((O.mem x).mp hx);have gtn:∀ x ∈ L,Ae[x.toNat]?=some (nd Ae x):=fun x hx=>by
  have b:=bt x hx;have hw:x.toNat<Ae.length:=by omega
  rw [qAF (A1 hw)];exact A1 hw
 have ah:=O.ahead wf gtn;refine ⟨_,rfl,lo,rfl,⟨_,SqL.of (sd5 _ _ gL)⟩,qC6 (a:=lo) (xs:=L.map V.int) (fun i σ Hc=>∃ (Af:List (Key × V)) (v4:Option V),σ=[some (.ref a),some (.int work),some (.ref lo),some (.ref dk),v4]/\Same H Hc/\Hc dk=some (.dK Af)/\Af.length<=i/\∀ z:Int,(valV Af (E9 z)).isSome=decide (z ∈ L.take i))
  ⟨[],none,rfl,sd5,g5,B0 _,fun z=>by simp [valV]⟩ (fun i σ Hc _ hP=>by obtain ⟨_,_,_,sc,_⟩:=hP;exact SqL.of (sc _ _ gL)) ?_ ?_⟩
 ·refine fun i x' σ Hc hx hI_7=>opq fun G_7 hG_7=>?_;obtain ⟨Af,v4,rfl,sc,gk,lk,hv⟩:=hI_7;obtain ⟨y,ey,rfl⟩:=qAQ hx;refine hG_7 ?_;have hi:=(A3.mp ey).1;have yb:=bt y (B8 ey);have hw:y.toNat<Ae.length:=by omega
  have hz:=A1 hw;obtain ⟨rn,h3,h4⟩:=NL.get hz;have en:=qAF hz;have lys:=(wf _ _ hz).len;have aty:=ah i y ey;rw [en] at aty;generalize Ae[y.toNat]=ys at h4 hz en lys aty;refine cut fun M0 hM0=>?_;refine ⟨_,rfl,_,rfl,a,_,_,_,rfl,rfl,SqT.of (sc _ _ hA),qBR yb.1 (by rw [B7,h3];rfl),rn,rfl,⟨_,SqT.of (sc _ _ h4)⟩,fun pc hpc=>?_⟩
  refine qJS (p:=pc) (a:=rn) (xs:=ys.map V.int) (fun j σ Hd=>∃ (v:Option V),σ=[v,some (.ref dk)]/\Same Hc Hd/\Hd pc=some (.lst ((C4 j true).map V.bl))) ?_ ?_ ?_ ?_
  ·exact ⟨none,rfl,qA2 hpc _,qA1⟩
  ·rintro j σ Hd hj ⟨v,rfl,sd,_⟩;exact SqT.of (sd _ _ (sc _ _ h4))
  ·refine fun j x' σ Hd hx hI_9=>opq fun G_9 hG_9=>?_;obtain ⟨v,rfl,sd,gp⟩:=hI_9;obtain ⟨u,eu,rfl⟩:=qAQ hx;refine hG_9 ?_;have hj:=(A3.mp eu).1;refine ⟨_,rfl,_,rfl,dk,_,rfl,DGet.k (k:=E9 u) (sd _ _ gk),_,gp,qB7 (by rw [A0,O8];omega),_,rfl,qAC sd hpc,?_⟩
   rw [hv u,decide_eq_true (aty u (B8 eu)),qA1,W2,A9]
   rfl
  refine fun σ Hd hI_10=>opq fun G_10 hG_10=>?_;obtain ⟨v,rfl,sd,gp⟩:=hI_10;refine hG_10 ?_;refine ⟨pc,_,rfl,SqL.of gp,_,rfl,?_⟩;have ea3:(C4 (ys.map V.int).length true).all id=true:=by rw [O2];exact fun x hx=>(X7.mp hx).2
  rw [ea3];refine iteF ?_;refine hM0 _ _ ?_;refine ⟨_,rfl,_,rfl,dk,_,rfl,DPut.k (k:=E9 y) (sd _ _ gk) (qB7 (by omega)),?_⟩
  refine ⟨_,_,rfl,qAC (sc.trans sd) fdk,qA1,L6 (qCD _ _ _) (by omega),fun z=>?_⟩
  rw [qIG,C2,ey,B9];by_cases e:z=y
  ·rw [e,if_pos rfl];simp
  ·rw [if_neg fun u=>e (X8 u),hv z];simp [e]
 ·refine fun σ Hc hI_11=>opq fun G_11 hG_11=>?_;obtain ⟨Af,v4,rfl,sc,gk,lk,hv⟩:=hI_11;refine hG_11 ?_;exact hN3 _ _ (q Hc sc)
end
section
variable {P:Program} {w:World} {K:PySem.W.Frag} {mg:Str->Option Value} {base:Heap} {f:Addr} {fd:FuncData} {qCF qD6:Addr} {qC8 qDH:FuncData}
theorem sc_Lany_order:FnScope ["_law_state","_law_net_here","_law_work","_law_some","_law_left","_law_order","_law_free"] ["_law_state","_law_net_here","_law_work"] (qAE qDZ):=⟨rfl,rfl,rfl,by decide +kernel,rfl,by decide +kernel,by decide +kernel⟩
theorem ok_Lany_order (F:Fun K "_law_any_order" "_law_any_order" qDZ f fd) (qAH:Clb P w K mg base 1 qCF qC8 "_law_take" ["_law_state","_law_many"] qHW) (qBV:Clb P w K mg base 1 qD6 qDH "_law_needed" ["_law_net_here","_law_asked"] qIK) (qKN:mg "dict" = none) (qBQ:mg "len" = none) (qIA:mg "any" = none):FnOk P w K mg base CX0 2 f fd ["_law_state","_law_net_here","_law_work"] qJF:=by
 refine F.ok sc_Lany_order (fun vs H Q E h=>?_) (fun cdv A outer s H vs Q E hr h=>?_)
 ·obtain ⟨d,c,t,ns,a,Ae,work,rfl,_⟩:=h
  rfl
 obtain ⟨d,c,t,ns,a,Ae,work,rfl,S,ht,hN,wf,n400,w0,w1,q⟩:=h;have ht':t<=1000000000 - 1000:=ht;have hu:=qJZ hr;refine ⟨_,(qA4 (qAG (i:=3) sc_Lany_order.nd rfl (D2 rfl) (qAX qBV hr rfl (qA0 (pv 1) (qA0 (qCM (qA0 (pv 2) qA3)) qA3)))) (qA4 (qAG (i:=4) sc_Lany_order.nd rfl (c8 rfl) (qAL (qSG rfl) rfl qKN qZX (qA0 (qEM rfl (lcs (own:=["_law_one"]) (fv:=[]) (by kernel_rfl)) (qBE (pv 3)) (fun z1=>qA9 (i:=0) (qCU (by kernel_rfl)) rfl (D2 rfl)) (fun z1=>qBL) (fun z1=>(qCM (qA0 (pv 0) (qA0 qEB qA3))))) qA3))) (qA4 (qAG (i:=5) sc_Lany_order.nd rfl (D2 rfl) (qBA qA3)) (qA4 (qLV D0 (qAS qTX (qAA qAI rfl qBQ qD7 (qA0 (pv 5) qA3)) (qAA qAI rfl qBQ qD7 (qA0 (pv 3) qA3)) (qB1 _)) (qA4 (qRZ (i:=6) sc_Lany_order.nd rfl rfl rfl (lcs (own:=["_law_one"]) (fv:=[4,1]) (by kernel_rfl)) (qBE (pv 3)) (fun z2=>qA9 (i:=0) (qCU (by kernel_rfl)) rfl (D2 rfl)) (fun z2=>(qLU (PW.pt (qTC (qQU (qNB hu (pv 0) (pv 1))) (qPD (qI0 (qDN (qAA (qVN (K:=K) rfl rfl) rfl qIA qVR (qA0 (qEM (X:=lcCx _ _ _ _ z2) rfl (lcs (own:=["_law_need"]) (fv:=[1]) (by kernel_rfl)) (qPI (K:=K) rfl (qAW (qGE (K:=K) rfl) (pv 2) (pv 0) (fun _ _=>rfl))) (fun z3=>qA9 (i:=0) (qCU (by kernel_rfl)) rfl (D2 rfl)) (fun z3=>qBL) (fun z3=>(qTP (qNB hu (pv 0) (pv 1))))) qA3))))))))) (fun z2=>(pv 0)) (by kernel_rfl)) (qA4 (qBY (qHJ D8 G4 G5 qC1 (pv 5) (qA0 (qAW qCP (pv 6) (qAX qAH hr rfl (qA0 (pv 0) (qA0 (qAA qAI rfl qBQ qD7 (qA0 (pv 6) qA3)) qA3))) (fun _ _=>rfl)) qA3))) (qA6 (qBY (qWM (pv 4) (qAW qCP (pv 5) (qKH qG6 qA7) (fun _ _=>rfl)) ⟨rfl,rfl,rfl,rfl⟩)))))) (qA6 (qAR (pv 5))))))),?_⟩
 try dsimp only [Cx.nox,Cx.wish,cxOf]
 obtain ⟨rs,hA,NL⟩:=id hN;refine cut fun N1 hN1=>?_;refine ⟨_,rfl,_,rfl,(by show 1<=sizeLine;decide),fun tt htt=>?_⟩
 have st:=qA2 htt (.tup [.int work]);refine ⟨a,tt,Ae,[work],rfl,hN.same st,wf,by omega,⟨qA1,⟨T8 _ _,fun x hx=>by rw [A4.mp hx];exact ⟨w0,w1⟩⟩⟩,fun ls zs H1 s1' fl gl ND=>?_⟩
 have s1:=st.trans s1';have lz:=ND.1.len;refine hN1 _ _ (cut fun N2 hN2=>?_);refine ⟨_,rfl,ls,rfl,⟨_,SqL.of gl⟩,fun p hp=>?_⟩;refine qER (p:=p) (a:=ls) (xs:=zs.map V.int) (fun i σ Hc=>∃ (v:Option V) (qs:List Addr),σ=[v]/\Same H1 Hc/\Hc p=some (.lst (qs.map V.ref))/\Paired (fun r (z:Int)=>Hc r=some (.tup [.int z,.bl true])) qs (zs.take i)) ?_ ?_ ?_ ?_
 ·exact ⟨none,[],rfl,qA2 hp _,qA1,.nil⟩
 ·rintro i σ Hc hi ⟨v,qs,rfl,sc,_⟩;exact SqL.of (sc _ _ gl)
 ·refine fun i x σ Hc hx hI_2=>opq fun G_2 hG_2=>?_;obtain ⟨v,qs,rfl,sc,hpc,PQ⟩:=hI_2;obtain ⟨z,ez,rfl⟩:=qAQ hx;refine hG_2 ?_;have hi:=(A3.mp ez).1;have lQ:=C6 PQ;rw [D4] at lQ;refine ⟨_,rfl,(by show 2<=sizeLine;decide),fun r hr1=>?_⟩
  have s2:=qA2 hr1 (.tup [.int z,.bl true]);have g2:=s2 _ _ hpc;refine ⟨_,g2,qAK (by rw [A0];omega),?_⟩
  rw [qCN];refine ⟨_,qs++[r],rfl,qAC (sc.trans s2) hp,qA1,?_⟩;rw [C2,ez,B9];refine V6 (qAN PQ fun r' z' e=>?_) ?_
  ·have e2:=s2 _ _ e;rw [qA8 (qBM e2 g2 (fun z=>nomatch z))];exact e2
  ·rw [qA8 (qA5 hpc hr1).symm];exact qA1
 refine fun σ Hc hI_3=>opq fun G_3 hG_3=>?_;obtain ⟨v,qs,rfl,sc,hpc,PQ⟩:=hI_3;refine hG_3 ?_;rw [A0,X1] at PQ;have pp:∀ {qs:List Addr} {zs:List Int},Paired (fun r (z:Int)=>Hc r=some (.tup [.int z,.bl true])) qs zs->qQY Hc K qs (zs.map fun x=>(x,V.bl true)):=by
  intro qs zs h
  induction h with
  | nil=>exact .nil
  | cons h t ih=>exact .cons (SqT.of h) ih
 refine ⟨p,qs,zs.map fun x=>(x,V.bl true),rfl,SqL.of hpc,pp PQ,fun dl hdl=>?_⟩;have s2:=s1.trans (sc.trans (qA2 hdl (.dK (qDM [] (zs.map fun x=>(x,V.bl true))))));have gl2:=(sc.trans (qA2 hdl (.dK (qDM [] (zs.map fun x=>(x,V.bl true)))))) _ _ gl;have gd2:(upd Hc dl (.dK (qDM [] (zs.map fun x=>(x,V.bl true))))) dl=some (.dK (qDM [] (zs.map fun x=>(x,V.bl true)))):=qA1;have fdl:H dl=none:=(s1.trans sc).free hdl;generalize upd Hc dl (.dK (qDM [] (zs.map fun x=>(x,V.bl true))))=H2 at s2 gl2 gd2 ⊢;refine hN2 _ _ (cut fun N3 hN3=>?_);refine ⟨(by show 0<=sizeLine;decide),fun lo hlo=>?_⟩
 have flo:H lo=none:=s2.free hlo;have s3:=s2.trans (qA2 hlo (.lst []));have gl3:=(qA2 hlo (.lst [])) _ _ gl2;have gd3:=(qA2 hlo (.lst [])) _ _ gd2;have go3:(upd H2 lo (.lst [])) lo=some (.lst (([]:List Int).map V.int)):=qA1;generalize upd H2 lo (.lst [])=H3 at s3 gl3 gd3 go3 ⊢;have nls:ls ≠ d/\ls ≠ c:=⟨(qA5 S.dict (st.free fl)).symm,(qA5 S.list (st.free fl)).symm⟩;have nlo:lo ≠ d/\lo ≠ c:=⟨(qA5 S.dict flo).symm,(qA5 S.list flo).symm⟩;have ndl:dl ≠ d/\dl ≠ c:=⟨(qA5 S.dict fdl).symm,(qA5 S.list fdl).symm⟩;have nlol:lo ≠ ls:=(qA5 gl2 hlo).symm;refine hN3 _ _ (cut fun N4 hN4=>?_);refine ⟨fun m σ Hx=>∃ (t':Int) (ns' ord:List Int) (Af:List (Key × V)) (v6:Option V),m+ord.length=zs.length/\σ=[some (.ref d),some (.ref a),some (.int work),some (.ref ls),some (.ref dl),some (.ref lo),v6]/\StAt Hx d c t' ns'/\t'=t+(ord.length:Int)/\Keep d c H Hx/\Hx ls=some (.lst (zs.map V.int))/\Hx lo=some (.lst (ord.map V.int))/\Hx dl=some (.dK Af)/\(∀ y,(valV Af (E9 y)).isSome=lft zs ord y)/\Begun Ae zs ord,
  ⟨zs.length,t,ns,[],_,none,rfl,rfl,S.same s3,by simp,.of_same s3,gl3,go3,gd3,fun y=>by rw [qSR];simp [valV,lft],⟨.nil,(fun x hx=>nomatch hx),fun p o e=>by simp at e⟩⟩,?_⟩
 refine fun m σ Hx hI_4=>opq fun G_4 hG_4=>?_;obtain ⟨t',ns',ord,Af,v6,hm,rfl,Sx,et,Kx,glx,gox,gdx,hv,B⟩:=hI_4;refine hG_4 ?_;have hNx:NetAt Hx a Ae:=hN.keep S Kx;obtain ⟨rs',hA',NL'⟩:=id hNx;refine ⟨_,rfl,lo,_,rfl,.inl (SqL.of gox),_,rfl,ls,_,rfl,.inl (SqL.of glx),_,_,rfl,rfl,_,rfl,?_⟩;refine ite2 (fun ck=>?_) (fun ck=>?_)
 ·have ck':(((ord.map V.int).length:Nat):Int)<(((zs.map V.int).length:Nat):Int):=of_decide_eq_true ck;rw [A0,A0] at ck';have hlt:ord.length<zs.length:=by omega
  refine ⟨fun σ Hx=>∃ (t':Int) (ns' ord:List Int) (Af:List (Key × V)) (v6:Option V),m - 1+ord.length=zs.length/\σ=[some (.ref d),some (.ref a),some (.int work),some (.ref ls),some (.ref dl),some (.ref lo),v6]/\StAt Hx d c t' ns'/\t'=t+(ord.length:Int)/\Keep d c H Hx/\Hx ls=some (.lst (zs.map V.int))/\Hx lo=some (.lst (ord.map V.int))/\Hx dl=some (.dK Af)/\(∀ y,(valV Af (E9 y)).isSome=lft zs ord y)/\Begun Ae zs ord,fun σ' H' z=>⟨m - 1,by omega,z⟩,?_⟩
  refine cut fun N5 hN5=>?_;refine ⟨_,rfl,ls,rfl,⟨_,SqL.of glx⟩,fun p hp=>?_⟩;refine qER (p:=p) (a:=ls) (xs:=zs.map V.int) (fun i σ Hd=>∃ (v:Option V),σ=[v,some (.ref dl),some (.ref a)]/\Same Hx Hd/\Hd p=some (.lst (((zs.take i).filter (fre Ae zs ord)).map V.int))) ?_ ?_ ?_ ?_
  ·exact ⟨none,rfl,qA2 hp _,qA1⟩
  ·rintro i σ Hd hi ⟨v,rfl,sd,_⟩;exact SqL.of (sd _ _ glx)
  ·refine fun i x σ Hd hx hI_6=>opq fun G_6 hG_6=>?_;obtain ⟨v,rfl,sd,hpd⟩:=hI_6;obtain ⟨z,ez,rfl⟩:=qAQ hx;refine hG_6 ?_;have hi:=(A3.mp ez).1;have zb:=ND.1.in_ z (B8 ez);have hw:z.toNat<Ae.length:=by omega
   have hz:=A1 hw;obtain ⟨r,h3,h4⟩:=NL'.get hz;have ln:=(wf z.toNat _ hz).len;have en:=qAF hz;generalize Ae[z.toNat]=nsz at h4 hz ln en;refine ⟨_,rfl,_,rfl,dl,_,rfl,DGet.k (k:=E9 z) (sd _ _ gdx),_,rfl,?_⟩;rw [hv z,qDP ez];by_cases c1:lft zs ord z=true
   ·rw [c1];refine ⟨_,rfl,_,rfl,a,_,_,_,rfl,rfl,SqT.of (sd _ _ hA'),qBR zb.1 (by rw [B7,h3];rfl),r,rfl,⟨_,SqT.of (sd _ _ h4)⟩,fun p2 hp2=>?_⟩
    refine qJS (p:=p2) (a:=r) (xs:=nsz.map V.int) (fun j σ He=>∃ (v:Option V),σ=[v,some (.ref dl)]/\Same Hd He/\He p2=some (.lst (((nsz.take j).map (lft zs ord)).map V.bl))) ?_ ?_ ?_ ?_
    ·exact ⟨none,rfl,qA2 hp2 _,qA1⟩
    ·rintro j σ He hj ⟨v,rfl,se,_⟩;exact SqT.of (se _ _ (sd _ _ h4))
    ·refine fun j x σ He hx hI_8=>opq fun G_8 hG_8=>?_;obtain ⟨v,rfl,se,hpe⟩:=hI_8;obtain ⟨y,ey,rfl⟩:=qAQ hx;refine hG_8 ?_;have hj:=(A3.mp ey).1;refine ⟨_,rfl,_,rfl,dl,_,rfl,DGet.k (k:=E9 y) (se _ _ (sd _ _ gdx)),?_⟩;refine ⟨_,hpe,qAK (by rw [A0,A0,D4];omega),_,rfl,qAC se hp2,?_⟩
     rw [qA1,hv y,C2,ey,B9,A9,A9]
     rfl
    refine fun σ He hI_9=>opq fun G_9 hG_9=>?_;obtain ⟨v,rfl,se,hpe⟩:=hI_9;refine hG_9 ?_;rw [A0,qAU rfl] at hpe;refine ⟨p2,_,rfl,SqL.of hpe,_,rfl,?_⟩;have ea:(nsz.map (lft zs ord)).any id=(nd Ae z).any (lft zs ord):=by rw [en,List.any_map];rfl
    rw [ea];have ef:fre Ae zs ord z=!((nd Ae z).any (lft zs ord)):=by
     unfold fre;rw [c1,A41]
    rw [ef];cases (nd Ae z).any (lft zs ord) with
    | true=>
     refine ⟨_,rfl,sd.trans se,?_⟩;have:=se _ _ hpd;simpa using this
    | false=>
     have g:=se _ _ hpd;refine ⟨_,rfl,_,g,qAK (by have:=V3 (fre Ae zs ord) (zs.take i);rw [D4] at this;rw [A0];omega),_,rfl,qAC (sd.trans se) hp,?_⟩
     rw [qA1,A77,if_pos rfl,A9]
     rfl
   ·have c2:lft zs ord z=false:=Q3.mpr c1;have ef:fre Ae zs ord z=false:=by unfold fre;rw [c2,i4]
    rw [c2,ef];refine ⟨_,rfl,sd,?_⟩;simpa using hpd
  refine fun σ Hd hI_10=>opq fun G_10 hG_10=>?_;obtain ⟨v,rfl,sd,hpd⟩:=hI_10;refine hG_10 ?_;rw [A0,X1] at hpd;refine hN5 _ _ (cut fun N6 hN6=>?_);have lfr:=Begun.free wf ND B hlt;have lfr2:=V3 (fre Ae zs ord) zs;have Sd:=Sx.same sd;have npd:p ≠ d/\p ≠ c:=⟨(qA5 Sx.dict hp).symm,(qA5 Sx.list hp).symm⟩;have nplo:p ≠ lo:=(qA5 gox hp).symm;refine ⟨_,rfl,.inl ⟨rfl,_,SqL.of (sd _ _ gox)⟩,_,rfl,_,rfl,_,rfl,p,_,rfl,.inl (SqL.of hpd),?_⟩;refine ⟨d,c,t',ns',_,rfl,Sd,(by show t'<=1000000000;omega),(by rw [A0];omega),(by rw [A0];omega),fun k ns6 H6 k0 k1 S6 K6=>?_⟩
  rw [A0] at k1;have hkl:k.toNat<(zs.filter (fre Ae zs ord)).length:=by omega
  have gp6:=K6 _ _ hpd npd.1 npd.2;have hx:=U9 hkl;have go6:=K6 _ _ (sd _ _ gox) nlo.1 nlo.2;have gl6:=K6 _ _ (sd _ _ glx) nls.1 nls.2;have gd6:=K6 _ _ (sd _ _ gdx) ndl.1 ndl.2;have eat:atI ((zs.filter (fre Ae zs ord)).map V.int) k=some (.int (zs.filter (fre Ae zs ord))[k.toNat]):=qBR k0 (by rw [B7,A1 hkl];rfl)
  generalize (zs.filter (fre Ae zs ord))[k.toNat]=x at hx eat;obtain ⟨B2,hlx⟩:=B.snoc ND hx;refine ⟨p,_,k,_,rfl,rfl,SqL.of gp6,eat,?_⟩;refine ⟨lo,_,_,rfl,rfl,go6,qB7 (by rw [A0];omega),?_⟩
  have S7:StAt (upd H6 lo (.lst (ord.map V.int++[.int x]))) d c (t'+1) ns6:=S6.upd nlo.1.symm nlo.2.symm;have go7:(upd H6 lo (.lst (ord.map V.int++[.int x]))) lo=some (.lst (ord.map V.int++[.int x])):=qA1;have gl7:(upd H6 lo (.lst (ord.map V.int++[.int x]))) ls=some (.lst (zs.map V.int)):=by rw [qA8 nlol.symm];exact gl6
  have gd7:(upd H6 lo (.lst (ord.map V.int++[.int x]))) dl=some (.dK Af):=by rw [qA8 (qBM gd6 go6 (by intro z;cases z))];exact gd6
  have K7:Keep d c H (upd H6 lo (.lst (ord.map V.int++[.int x]))):=qEU (Kx.trans ((Keep.of_same sd).trans K6)) flo;generalize upd H6 lo (.lst (ord.map V.int++[.int x]))=H7 at S7 go7 gl7 gd7 K7 ⊢;refine hN6 _ _ ?_;obtain ⟨vx,evx⟩:∃ v,valV Af (E9 x)=some v:=W4.mp (by rw [hv x];exact hlx)
  refine ⟨_,rfl,dl,rfl,.inl ⟨_,.inl gd7⟩,_,rfl,_,rfl,lo,_,_,_,rfl,rfl,SqL.of go7,qMP _ _,Af,E9 x,vx,gd7,rfl,evx,?_⟩;refine ⟨t'+1,ns6,ord++[x],qGF Af (E9 x),_,by rw [A6,C3];omega,rfl,S7.upd ndl.1.symm ndl.2.symm,by rw [A6,C3];omega,qEU K7 fdl,?_,?_,qA1,fun y=>?_,B2⟩
  ·rw [qA8 (qBM gl7 gd7 (by intro z;cases z))];exact gl7
  ·rw [qA8 (qBM go7 gd7 (by intro z;cases z)),A9];exact go7
  ·rw [qJ8];by_cases e:y=x
   ·rw [e,if_pos rfl];simp [lft]
   ·rw [if_neg fun z=>e (X8 z),hv y];simp [lft,e]
 ·have ck':¬ (((ord.map V.int).length:Nat):Int)<(((zs.map V.int).length:Nat):Int):=of_decide_eq_false (Q3.mpr ck);rw [A0,A0] at ck';refine hN4 _ _ ⟨_,rfl,?_⟩;exact q lo ord t' ns' Hx Sx (by omega) (by omega) Kx flo gox (B.top ND (by omega)) (by omega) (qVU ND B (by omega))
end
section
variable {P:Program} {w:World} {K:PySem.W.Frag} {mg:Str->Option Value} {base:Heap} {f:Addr} {fd:FuncData}
theorem sc_Lfalling:FnScope ["_law_parts","_law_found","_law_hill","_law_valley","_law_other"] ["_law_parts"] (qAE qG0):=⟨rfl,rfl,rfl,by decide +kernel,rfl,by decide +kernel,by decide +kernel⟩
theorem ok_Lfalling (F:Fun K "_law_falling" "_law_falling" qG0 f fd) (qDE:mg "reversed" = none) (qDS:mg "max" = none):FnOk P w K mg base CX0 1 f fd ["_law_parts"] qN3:=by
 refine F.ok sc_Lfalling (fun vs H Q E h=>?_) (fun cdv A outer s H vs Q E hr h=>?_)
 ·obtain ⟨l,rs,ps,rfl,_⟩:=h
  rfl
 obtain ⟨l,rs,ps,rfl,hL,HL,lp,qq⟩:=h;have hu0:=hr.units0;refine ⟨_,(qA4 (qAG (i:=1) sc_Lfalling.nd rfl (D2 rfl) (qBA qA3)) (qA4 (qBC D0 rfl (qaX rfl qDE (qA0 (pv 0) qA3)) (qGU rfl (qB3 (qA9 (i:=2) sc_Lfalling.nd rfl (D2 rfl)) (qB3 (qA9 (i:=3) sc_Lfalling.nd rfl (D2 rfl)) qEA))) (qA4 (qLV D0 (PW.pt (qTC (qAS (qTV hu0) (pv 1) (qBA qA3) (qB1 _)) (qPD (PW.pt (qLT (qAS qWN (qAW qB2 (qAW qCP (pv 1) (qKH qG6 qA7) (fun _ _=>rfl)) qA7 (fun _ _=>rfl)) (pv 2) (qB1 _)) (qGS (qAS qb2 (qAW qB2 (qAW qCP (pv 1) (qKH qG6 qA7) (fun _ _=>rfl)) qA7 (fun _ _=>rfl)) (pv 3) (qB1 _)))))))) (qA4 (qKU (qTR D8 A16 A17 qY0 (pv 1)) (qGU rfl (qB3 (qA9 (i:=4) sc_Lfalling.nd rfl (D2 rfl)) (qB3 (qA9 (i:=3) sc_Lfalling.nd rfl (D2 rfl)) qEA)))) (qA6 (qAG (i:=2) sc_Lfalling.nd rfl (D2 rfl) (qAA (qK7 rfl) rfl qDS qK9 (qA0 (pv 2) (qA0 (pv 4) qA3))))))) (qA6 (qBY (qHJ D8 G4 G5 qC1 (pv 1) (qA0 (qCM (qA0 (pv 2) (qA0 (pv 3) qA3))) qA3)))))) (qA6 (qAR (qTO (pv 1) (qHI (qKH qG6 qA7))))))),?_⟩
 try dsimp only [Cx.nox,Cx.wish,cxOf]
 have lr:rs.length=ps.length:=by rw [C6 HL,qHO]
 refine cut fun N0 hN0=>?_;refine ⟨(by show 0<=sizeLine;decide),fun lt hlt=>?_⟩
 have s1:=qA2 hlt (.lst []);have g1:(upd H lt (.lst [])) lt=some (.lst (([]:List Addr).reverse.map V.ref)):=qA1;generalize upd H lt (.lst [])=H1 at s1 g1 ⊢;refine hN0 _ _ (cut fun N1 hN1=>?_);refine ⟨_,rfl,l,_,rfl,SqL.of (s1 _ _ hL),?_⟩;refine qZR (a:=l) (xs:=rs.map V.ref) (fun i σ Hc=>∃ (srs:List Addr) (v2 v3 v4:Option V),σ=[some (.ref l),some (.ref lt),v2,v3,v4]/\Same H Hc/\Hc lt=some (.lst (srs.reverse.map V.ref))/\HVL Hc srs (hlv (gns ((ps.take (ps.length - i)).map Prt.s)) (frun (ps.drop (ps.length - i)))))
  ⟨[],none,none,none,rfl,s1,g1,by rw [Nat.sub_zero,List.drop_length];exact .nil⟩ (fun i σ Hc _ hP=>by obtain ⟨_,_,_,_,_,sc,_⟩:=hP;exact SqL.of (sc _ _ hL)) ?_ ?_
 ·refine fun i x σ Hc hi hx hI_1=>opq fun G_1 hG_1=>?_;obtain ⟨srs,v2,v3,v4,rfl,sc,gt,HS⟩:=hI_1;refine hG_1 ?_;rw [A0] at hi hx;obtain ⟨r,er,rfl⟩:=qEC hx;rw [lr] at hi er;obtain ⟨p,ep⟩:∃ p,ps[ps.length - 1 - i]?=some p:=⟨_,A1 (by omega)⟩
  obtain ⟨z,ez,hz⟩:=qBF HL er;rw [qPY ps 0 _ p ep] at ez;cases ez;have e1:ps.length - i=ps.length - 1 - i+1:=by omega
  have e2:ps.length - (i+1)=ps.length - 1 - i:=by omega
  rw [e1,qMB ep] at HS;rw [e2];have ed:ps.drop (ps.length - 1 - i)=p::ps.drop (ps.length - 1 - i+1):=by
   obtain ⟨h1,h2⟩:=A3.mp ep;rw [O5 h1,h2]
  have er2:frun (ps.drop (ps.length - 1 - i))=qDT p (frun (ps.drop (ps.length - 1 - i+1))):=by rw [ed];rfl
  rw [er2];have lf:=qRC (ps.drop (ps.length - 1 - i+1));rw [P3] at lf;rw [W8] at hz;generalize gns ((ps.take (ps.length - 1 - i)).map Prt.s)=d at HS hz ⊢;generalize frun (ps.drop (ps.length - 1 - i+1))=R at HS lf ⊢;have gr:=sc _ _ hz;refine ⟨r,_,rfl,SqT.of gr,rfl,_,_,rfl,_,_,rfl,rfl,?_⟩;refine cut fun M1 hM1=>?_;have fin:∀ (R':List Prt) (p':Prt) (v4:Option V) (srs:List Addr) (Hd:Hp),Same H Hd->Hd lt=some (.lst (srs.reverse.map V.ref))->HVL Hd srs (hlv (d+p'.g) R')->p'::R'=qDT p R->M1 [some (.ref l),some (.ref lt),some (.int (d+p'.r)),some (.int (d+p'.g)),v4] Hd:=by
   intro R' p' v4 srs Hd sd gd HX e;have ls:=C6 HX;rw [qHO] at ls;have le:=congrArg u9 e;have fl:=qK2 R p;rw [D1] at le;refine hM1 _ _ ?_;refine ⟨_,rfl,.inl ⟨rfl,_,SqL.of gd⟩,_,rfl,_,rfl,(by show 2<=sizeLine;decide),fun T hT=>?_⟩
   have sT:=qA2 hT (.tup [.int (d+p'.r),.int (d+p'.g)]);have gT:HV (upd Hd T (.tup [.int (d+p'.r),.int (d+p'.g)])) T (d+p'.r,d+p'.g):=qA1;have gdT:=sT _ _ gd;have HXT:=HX.same sT;have sdT:=sd.trans sT;generalize upd Hd T (.tup [.int (d+p'.r),.int (d+p'.g)])=He at gT gdT HXT sdT ⊢;refine ⟨lt,_,_,rfl,rfl,gdT,qB7 (by rw [A0,l9];omega),?_⟩
   refine ⟨T::srs,_,_,_,rfl,qAC sdT hlt,by rw [qA1,J9,A9];rfl,?_⟩
   rw [<- e];exact HVL.put (.cons gT HXT) gdT
  refine ⟨fun m σ Hd=>∃ (srs:List Addr) (R':List Prt) (p':Prt) (v4:Option V),σ=[some (.ref l),some (.ref lt),some (.int (d+p'.r)),some (.int (d+p'.g)),v4]/\m=R'.length/\Same H Hd/\Hd lt=some (.lst (srs.reverse.map V.ref))/\HVL Hd srs (hlv (d+p'.g) R')/\qDT p' R'=qDT p R,
   ⟨_,srs,R,p,v4,rfl,rfl,sc,gt,HS,rfl⟩,?_⟩
  clear HS gt gr sc;refine fun m σ Hd hI_2=>opq fun G_2 hG_2=>?_;obtain ⟨srs,R',p',v4,rfl,rfl,sd,gd,HX,ef⟩:=hI_2;refine hG_2 ?_;refine ⟨_,rfl,(by show 0<=sizeLine;decide),fun en hen=>?_⟩
  have t0:=qA2 hen (.lst []);have gen:(upd Hd en (.lst [])) en=some (.lst []):=qA1;have sd:=sd.trans t0;have gd:=t0 _ _ gd;have HX:=HX.same t0;generalize upd Hd en (.lst [])=Hd at gen sd gd HX ⊢;refine ⟨lt,en,_,rfl,rfl,SqL.of gd,SqL.of gen,_,rfl,?_⟩;cases R' with
  | nil=>
   cases HX with
   | nil=>
    refine iteF ?_;refine iteF ?_;exact fin [] p' _ [] Hd sd gd .nil ef
  | cons b R'=>
   cases HX with
   | @cons rb _ srs _ hb HX=>
    have nr:(!((rb::srs).reverse.map V.ref).isEmpty)=true:=by simp
    rw [if_pos nr];have lat:atI ((rb::srs).reverse.map V.ref) (-1)=some (.ref rb):=by rw [J9,A9];exact qMP _ _
    have step:(p'.r<=p'.g+b.r\/b.g<=0)->qDT (qCE p' b) R'=qDT p R:=fun c=>by
     rw [<- ef];show _=(if p'.r<=p'.g+b.r\/b.g<=0 then _ else _)
     rw [if_pos c]
    refine ⟨_,rfl,_,rfl,lt,_,_,_,rfl,rfl,SqL.of gd,lat,rb,_,_,_,rfl,rfl,SqT.of hb,rfl,_,rfl,_,_,rfl,rfl,_,rfl,?_⟩;refine ite2 (fun c1=>?_) (fun c1=>?_)
    ·have cc:p'.r<=p'.g+b.r\/b.g<=0:=.inl (by have:=of_decide_eq_true c1;omega)
     refine ⟨fun σ' H'=>∃ (srs:List Addr) (R'':List Prt) (p'':Prt) (v4:Option V),σ'=[some (.ref l),some (.ref lt),some (.int (d+p''.r)),some (.int (d+p''.g)),v4]/\R''.length<(b::R').length/\Same H H'/\H' lt=some (.lst (srs.reverse.map V.ref))/\HVL H' srs (hlv (d+p''.g) R'')/\qDT p'' R''=qDT p R,
      fun σ' H' ⟨srs',R'',p'',v4',e,l',z⟩=>⟨_,l',srs',R'',p'',v4',e,rfl,z⟩,?_⟩
     refine cut fun K0 hK0=>?_;refine ⟨_,rfl,.inl ⟨rfl,_,SqL.of gd⟩,lt,_,_,rfl,rfl,gd,qD2.1,?_⟩;rw [qD2.2];have s5:Same H (upd Hd lt (.lst (srs.reverse.map V.ref))):=qAC sd hlt;have g5:(upd Hd lt (.lst (srs.reverse.map V.ref))) lt=some (.lst (srs.reverse.map V.ref)):=qA1;have HX5:=HVL.put (o:=.lst (srs.reverse.map V.ref)) HX gd;have hb5:HV (upd Hd lt (.lst (srs.reverse.map V.ref))) rb (d+p'.g+b.r,d+p'.g+b.g):=by show upd _ _ _ _=_;rw [qA8 (qBM hb gd (by intro z;cases z))];exact hb
     generalize upd Hd lt (.lst (srs.reverse.map V.ref))=H5 at s5 g5 HX5 hb5 ⊢;refine ⟨rb,_,rfl,SqT.of hb5,rfl,_,_,rfl,_,_,rfl,rfl,?_⟩;refine hK0 _ _ ?_;refine ⟨_,rfl,_,rfl,_,_,rfl,?_⟩;have e1:(if d+p'.g+b.r > d+p'.r then d+p'.g+b.r else d+p'.r)=d+(qCE p' b).r:=by show _=d+mxi p'.r (p'.g+b.r);unfold mxi;split <;> split <;> omega
     have e2:d+p'.g+b.g=d+(qCE p' b).g:=by show _=d+(p'.g+b.g);omega
     rw [e2] at HX5;refine ⟨srs,R',qCE p' b,some (.int (d+p'.g+b.r)),?_,by simp,s5,g5,HX5,step cc⟩
     rw [<- e1,<- e2]
     rfl
    ·refine ⟨_,rfl,_,rfl,lt,_,_,_,rfl,rfl,SqL.of gd,lat,rb,_,_,_,rfl,rfl,SqT.of hb,rfl,_,rfl,_,_,rfl,rfl,_,rfl,?_⟩;refine ite2 (fun c2=>?_) (fun c2=>?_)
     ·have cc:p'.r<=p'.g+b.r\/b.g<=0:=.inr (by have:=of_decide_eq_true c2;omega)
      refine ⟨fun σ' H'=>∃ (srs:List Addr) (R'':List Prt) (p'':Prt) (v4:Option V),σ'=[some (.ref l),some (.ref lt),some (.int (d+p''.r)),some (.int (d+p''.g)),v4]/\R''.length<(b::R').length/\Same H H'/\H' lt=some (.lst (srs.reverse.map V.ref))/\HVL H' srs (hlv (d+p''.g) R'')/\qDT p'' R''=qDT p R,
       fun σ' H' ⟨srs',R'',p'',v4',e,l',z⟩=>⟨_,l',srs',R'',p'',v4',e,rfl,z⟩,?_⟩
      refine cut fun K0 hK0=>?_;refine ⟨_,rfl,.inl ⟨rfl,_,SqL.of gd⟩,lt,_,_,rfl,rfl,gd,qD2.1,?_⟩;rw [qD2.2];have s5:Same H (upd Hd lt (.lst (srs.reverse.map V.ref))):=qAC sd hlt;have g5:(upd Hd lt (.lst (srs.reverse.map V.ref))) lt=some (.lst (srs.reverse.map V.ref)):=qA1;have HX5:=HVL.put (o:=.lst (srs.reverse.map V.ref)) HX gd;have hb5:HV (upd Hd lt (.lst (srs.reverse.map V.ref))) rb (d+p'.g+b.r,d+p'.g+b.g):=by show upd _ _ _ _=_;rw [qA8 (qBM hb gd (by intro z;cases z))];exact hb
      generalize upd Hd lt (.lst (srs.reverse.map V.ref))=H5 at s5 g5 HX5 hb5 ⊢;refine ⟨rb,_,rfl,SqT.of hb5,rfl,_,_,rfl,_,_,rfl,rfl,?_⟩;refine hK0 _ _ ?_;refine ⟨_,rfl,_,rfl,_,_,rfl,?_⟩;have e1:(if d+p'.g+b.r > d+p'.r then d+p'.g+b.r else d+p'.r)=d+(qCE p' b).r:=by show _=d+mxi p'.r (p'.g+b.r);unfold mxi;split <;> split <;> omega
      have e2:d+p'.g+b.g=d+(qCE p' b).g:=by show _=d+(p'.g+b.g);omega
      rw [e2] at HX5;refine ⟨srs,R',qCE p' b,some (.int (d+p'.g+b.r)),?_,by simp,s5,g5,HX5,step cc⟩
      rw [<- e1,<- e2]
      rfl
     ·have n1:=of_decide_eq_false (Q3.mpr c1);have n2:=of_decide_eq_false (Q3.mpr c2);refine fin (b::R') p' _ (rb::srs) Hd sd gd (.cons hb HX) ?_;rw [<- ef];show _=(if p'.r<=p'.g+b.r\/b.g<=0 then _ else _)
      rw [if_neg (by omega)]
 ·refine fun σ Hc hI_3=>opq fun G_3 hG_3=>?_;obtain ⟨srs,v2,v3,v4,rfl,sc,gt,HS⟩:=hI_3;refine hG_3 ?_;rw [A0,lr,A10,o6,A79] at HS;have HS:HVL Hc srs (hlv 0 (frun ps)):=HS;refine hN1 _ _ ?_;refine ⟨_,rfl,_,rfl,_,rfl,rfl,lt,_,rfl,SqL.of gt,fun p hp=>?_⟩;rw [<- List.map_reverse,List.reverse_reverse];have sp:=qA2 hp (.lst (srs.map V.ref));exact qq p srs _ (sc.trans sp) (sc.free hp) qA1 (HS.same sp)
end
section
variable {P:Program} {w:World} {K:PySem.W.Frag} {mg:Str->Option Value} {base:Heap} {f:Addr} {fd:FuncData} {qD6 qG3:Addr} {qDH qK3:FuncData}
theorem qMZ {H:Hp} {rs:List Addr} {ts:List (List Int)} {N:Addr} {xs:List V} {o:HO} (h:L2.G.TupsAt H rs ts) (g:H N=some (.lst xs)):L2.G.TupsAt (upd H N o) rs ts:=qAN h fun r z e=>by
 rw [qA8 (qBM e g (by intro z;cases z))]
 exact e
theorem sc_Lhills:FnScope ["_law_net_here","_law_wides_here","_law_work","_law_rows","_law_one","_law_falls","_law_need","_law_begin_here","_law_hill","_law_valley","_law_level","_law_parts","_law_fall","_law_up","_law_on"] ["_law_net_here","_law_wides_here","_law_work"] (qAE qIP):=⟨rfl,rfl,rfl,by decide +kernel,rfl,by decide +kernel,by decide +kernel⟩
theorem ok_Lhills (F:Fun K "_law_hills" "_law_hills" qIP f fd) (qBV:Clb P w K mg base 1 qD6 qDH "_law_needed" ["_law_net_here","_law_asked"] qIK) (qG5:Clb P w K mg base 1 qG3 qK3 "_law_falling" ["_law_parts"] qN3) (qAT:mg "sorted" = none):FnOk P w K mg base CX0 2 f fd ["_law_net_here","_law_wides_here","_law_work"] qT2:=by
 refine F.ok sc_Lhills (fun vs H Q E h=>?_) (fun cdv A outer s H vs Q E hr h=>?_)
 ·obtain ⟨a,t,Ae,ws,work,rfl,_⟩:=h
  rfl
 obtain ⟨a,t,Ae,ws,work,rfl,⟨⟨hN,wf,n400,w0,wk1⟩,WD,w1,iT⟩,n60,q⟩:=h;have hu:=qJZ hr;refine ⟨_,(qA4 (qAG (i:=3) sc_Lhills.nd rfl (D2 rfl) qEN) (qA4 (qBC D0 rfl (qBE (qAX qBV hr rfl (qA0 (pv 0) (qA0 (qCM (qA0 (pv 2) qA3)) qA3)))) (qA9 (i:=4) sc_Lhills.nd rfl (D2 rfl)) (qA4 (qAG (i:=5) sc_Lhills.nd rfl (D2 rfl) (qBA qA3)) (qA4 (qBC D0 rfl (qE0 (qAW qB2 (pv 0) (pv 4) (fun _ _=>rfl))) (qA9 (i:=6) sc_Lhills.nd rfl (D2 rfl)) (qA4 (qAG (i:=7) sc_Lhills.nd rfl (D2 rfl) qA7) (qA6 (qBC D0 rfl (qBE (qD8 hu (pv 3) (pv 6) (fun _ _=>rfl))) (qGU rfl (qB3 (qA9 (i:=8) sc_Lhills.nd rfl (D2 rfl)) (qB3 (qA9 (i:=9) sc_Lhills.nd rfl (D2 rfl)) qEA))) (qA4 (qBY (qHJ D8 G4 G5 qC1 (pv 5) (qA0 (qCM (qA0 (qAJ qCS (pv 8) (pv 9)) (qA0 (qAJ qCS (pv 8) (pv 7)) (qA0 (qAJ qCS (pv 9) (pv 7)) qA3)))) qA3))) (qA6 (qAG (i:=7) sc_Lhills.nd rfl (D2 rfl) (pv 9)))))))) (qA4 (qAG (i:=10) sc_Lhills.nd rfl (D2 rfl) qA7) (qA4 (qAG (i:=11) sc_Lhills.nd rfl (D2 rfl) (qBA qA3)) (qA4 (qBC D0 rfl (qBE (L2.G.pe_sortRT rfl rfl qAT qDR (qA0 (pv 5) qA3) (qPH qEB qTH))) (qGU rfl (qB3 (qA9 (i:=12) sc_Lhills.nd rfl (D2 rfl)) (qB3 (qA9 (i:=13) sc_Lhills.nd rfl (D2 rfl)) (qB3 (qA9 (i:=14) sc_Lhills.nd rfl (D2 rfl)) qEA)))) (qA4 (qBY (qHJ D8 G4 G5 qC1 (pv 11) (qA0 (qCM (qA0 (qAJ qBW (pv 10) (pv 13)) (qA0 (qAJ qBW (pv 10) (pv 14)) qA3))) qA3))) (qA6 (qAG (i:=10) sc_Lhills.nd rfl (D2 rfl) (qAJ qBW (pv 10) (pv 14)))))) (qA6 (qEL hu (pv 3) (pv 4) (qAX qG5 hr rfl (qA0 (qAJ qKY (pv 11) (qBA (qA0 (qCM (qA0 (qAJ qBW (pv 10) (qAW qB2 (pv 1) (pv 4) (fun _ _=>rfl))) (qA0 (qAW qB2 (pv 1) (pv 4) (fun _ _=>rfl)) qA3))) qA3))) qA3)) rfl)))))))) (qA6 (qAR (qD8 hu (pv 3) (pv 2) (fun _ _=>rfl)))))),?_⟩
 try dsimp only [Cx.nox,Cx.wish,cxOf]
 have hwd:∀ y,0<=y->y<(Ae.length:Int)->atI (ws.map V.int) y=some (.int (wdO ws y)):=fun y y0 y1=>by
  have hl:y.toNat<ws.length:=by have:=WD.2;omega
  refine qBR y0 ?_;rw [B7,A1 hl];unfold wdO;rw [A1 hl]
  rfl
 refine cut fun N1 hN1=>?_;intro dn hdn;have s2:=qA2 hdn (.dK []);have gd2:(upd H dn (.dK [])) dn=some (.dK (kvsV [] fun _=>V.non)):=qA1;have fdn:H dn=none:=hdn;generalize upd H dn (.dK [])=H2 at s2 gd2 ⊢;refine hN1 _ _ (cut fun N2 hN2=>?_);refine ⟨_,rfl,_,rfl,(by show 1<=sizeLine;decide),fun ta hta=>?_⟩
 have sta:=qA2 hta (.tup [.int work]);have gta:(upd H2 ta (.tup [.int work])) ta=some (.tup ([work].map V.int)):=qA1;have s3:=s2.trans sta;have gd3:=sta _ _ gd2;generalize upd H2 ta (.tup [.int work])=H3 at gta s3 gd3 ⊢;refine ⟨a,ta,Ae,[work],rfl,hN.same s3,wf,by omega,⟨gta,(by simp),fun x hx=>by rw [A4.mp hx];exact ⟨w0,wk1⟩⟩,fun lw zs H4 s4 f4 gw N=>?_⟩
 have s5:=s3.trans s4;have gd4:=s4 _ _ gd3;have nwd:lw ≠ dn:=qBM gw gd4 (by intro z;cases z)
 have T:=qKO wf n400 N iT;refine ⟨lw,rfl,⟨_,SqL.of gw⟩,qC6 (a:=lw) (xs:=zs.map V.int) (fun i σ Hc=>∃ (ad:Int->Addr) (Fp:Int->List Prt) (v4 v5 v6 v7 v8 v9 v10 v11 v12 v13 v14:Option V),σ=[some (.ref a),some (.ref t),some (.int work),some (.ref dn),v4,v5,v6,v7,v8,v9,v10,v11,v12,v13,v14]/\Same H Hc/\Hc lw=some (.lst (zs.map V.int))/\Hc dn=some (.dK (kvsV (zs.take i) fun z=>.ref (ad z)))/\∀ z ∈ zs.take i,(PrtOk Ae ws z (Fp z)/\hfal (Fp z))/\∃ rs:List Addr,Hc (ad z)=some (.lst (rs.map V.ref))/\HVL Hc rs (hlv 0 (Fp z)))
  ⟨fun _=>a,fun _=>[],none,none,none,none,none,none,none,none,none,none,none,rfl,s5,gw,gd4,fun z hz=>by simp at hz⟩ (fun i σ Hc _ hP=>by obtain ⟨_,_,_,_,_,_,_,_,_,_,_,_,_,_,_,g,_⟩:=hP;exact SqL.of g) ?_ ?_⟩
 ·refine fun i x σ Hc hx hI_1=>opq fun G_1 hG_1=>?_;obtain ⟨ad,Fp,v4,v5,v6,v7,v8,v9,v10,v11,v12,v13,v14,rfl,sc,gwc,gdc,PA⟩:=hI_1;obtain ⟨z,ez,rfl⟩:=qAQ hx;refine hG_1 ?_;have hi:=(A3.mp ez).1;have hz:=B8 ez;have zb:=N.1.in_ z hz;have lz:=N.1.len;have hys:∀ y ∈ nd Ae z,y ∈ zs.take i:=fun y hy=>(qDG wf N ez hy).1;have kn:=qG2 (F:=Fp) T hz (nd Ae z) (T.nodup hz) fun y hy=>⟨hy,(PA y (hys y hy)).1.1.ord⟩;have lk:(((nd Ae z).map fun y=>qAB (Fp y)).flatten).length+1<=60:=by
   have nz:(z::((nd Ae z).map fun y=>qAB (Fp y)).flatten).Nodup:=G9.mpr ⟨fun m=>by
    obtain ⟨l,hl,hm⟩:=F7.mp m;obtain ⟨y,hy,rfl⟩:=D6.mp hl;have:=qM2 wf (((PA y (hys y hy)).1.1.ord.mem z).mp hm);have:=(T.has hz hy).2.1;omega,kn⟩
   have:=qJO nz (n:=Ae.length) fun x hx=>by
    rcases B5.mp hx with e | e
    ·rw [e];exact zb
    ·obtain ⟨l,hl,hm⟩:=F7.mp e;obtain ⟨y,hy,rfl⟩:=D6.mp hl;obtain ⟨yy,NY,sy⟩:=qDF T (T.has hz hy).1;exact N.1.in_ x (sy x ((NY.2 x).mpr (((PA y (hys y hy)).1.1.ord.mem x).mp hm)))
   rw [D1] at this;omega
  rw [<- qIF] at lk;have lk2:((nd Ae z).map Fp).flatten.length<=(qAB ((nd Ae z).map Fp).flatten).length:=qPF (Ae:=Ae) (ws:=ws) fun p hp=>by
   obtain ⟨l,hl,hm⟩:=F7.mp hp;obtain ⟨y,hy,rfl⟩:=D6.mp hl;exact (PA y (hys y hy)).1.1.eqv p hm
  have lfl:((nd Ae z).map Fp).flatten.length<=59:=by omega
  clear lk lk2 kn;have hN':=hN.same sc;have hw:z.toNat<Ae.length:=by omega
  obtain ⟨rn,r,h1,l1,h2,h3⟩:=hN'.get (A1 hw);have en:=qAF (A1 hw);generalize Ae[z.toNat]=ys at h3 en;have zno:z ∉ zs.take i:=fun m=>by have:=qLI N ez m;omega
  refine cut fun M1 hM1=>?_;refine ⟨(by show 0<=sizeLine;decide),fun lf hlf=>?_⟩
  have u1:=qA2 hlf (.lst []);have gf1:(upd Hc lf (.lst [])) lf=some (.lst (([]:List Addr).map V.ref)):=qA1;generalize upd Hc lf (.lst [])=K1 at u1 gf1 ⊢;refine hM1 _ _ (cut fun M2 hM2=>?_);have lpart:∀ j,(((ys.take j).map Fp).flatten).length<=59:=fun j=>by
   have e1:(ys.map Fp).flatten=((ys.take j).map Fp).flatten++((ys.drop j).map Fp).flatten:=by rw [<- Q2,<- A9,M8]
   rw [en,e1,A6] at lfl;omega
  refine ⟨_,rfl,_,rfl,a,_,_,_,rfl,rfl,SqT.of (u1 _ _ h1),qBR zb.1 h2,r,rfl,⟨_,SqT.of (u1 _ _ h3)⟩,qEV (a:=r) (xs:=ys.map V.int) (fun j σ Hx=>∃ (v6 v7 v8 v9:Option V) (qs:List Addr),σ=[some (.ref a),some (.ref t),some (.int work),some (.ref dn),some (.int z),some (.ref lf),v6,v7,v8,v9,v10,v11,v12,v13,v14]/\Same Hc Hx/\Hx lf=some (.lst (qs.map V.ref))/\L2.G.TupsAt Hx qs ((((ys.take j).map Fp).flatten).map trp))
   ⟨v6,v7,v8,v9,[],rfl,u1,gf1,.nil⟩ (fun j σ Hx _ hP=>by obtain ⟨_,_,_,_,_,_,sx,_⟩:=hP;exact SqT.of (sx _ _ h3)) ?_ ?_⟩
  ·refine fun j x σ Hx hx hI_2=>opq fun G_2 hG_2=>?_;obtain ⟨v6,v7,v8,v9,qs,rfl,sx,gx,TQ⟩:=hI_2;obtain ⟨y,ey,rfl⟩:=qAQ hx;refine hG_2 ?_;have my:=B8 ey;obtain ⟨⟨Py,_⟩,rs,gy,HY⟩:=PA y (hys y (by rw [en];exact my))
   have hg:=DGet.k (k:=E9 y) (sx _ _ gdc);rw [qDB (g:=fun z=>V.ref (ad z)) (hys y (by rw [en];exact my))] at hg
   have ef:((ys.take (j+1)).map Fp).flatten=((ys.take j).map Fp).flatten++Fp y:=by rw [C2,ey,B9,A9,Q2];simp
   have lj:=lpart (j+1);rw [ef,A6] at lj;have lr:=C6 HY;rw [qHO] at lr;refine cut fun L1 hL1=>?_;refine hL1 _ _ ?_;refine ⟨_,rfl,_,rfl,dn,_,rfl,hg,ad y,rfl,⟨_,SqL.of (sx _ _ gy)⟩,qC6 (a:=ad y) (xs:=rs.map V.ref) (fun k σ Hy=>∃ (v8 v9:Option V) (qs:List Addr),σ=[some (.ref a),some (.ref t),some (.int work),some (.ref dn),some (.int z),some (.ref lf),some (.int y),some (.int (gns (((Fp y).take k).map Prt.s))),v8,v9,v10,v11,v12,v13,v14]/\Same Hc Hy/\Hy lf=some (.lst (qs.map V.ref))/\L2.G.TupsAt Hy qs ((((ys.take j).map Fp).flatten++(Fp y).take k).map trp))
    ⟨v8,v9,qs,rfl,sx,gx,by rw [o6,W3];exact TQ⟩ (fun k σ Hy _ hP=>by obtain ⟨_,_,_,_,sy,_⟩:=hP;exact SqL.of (sy _ _ gy)) ?_ ?_⟩
   ·refine fun k x σ Hy hx hI_3=>opq fun G_3 hG_3=>?_;obtain ⟨v8,v9,qs,rfl,sy,gyl,TY⟩:=hI_3;obtain ⟨rp,erp,rfl⟩:=qEC hx;obtain ⟨zp,ezp,hzp⟩:=qBF HY erp;refine hG_3 ?_;have hk:k<(Fp y).length:=by have:=(A3.mp erp).1;omega
    obtain ⟨p,ep⟩:∃ p,(Fp y)[k]?=some p:=⟨_,A1 hk⟩;rw [qPY (Fp y) 0 k p ep] at ezp;cases ezp;have lq:=C6 TY;rw [A0,A6,D4] at lq;have eG:=qMB ep;have hzy:=sy _ _ hzp;rw [W8] at hzy;refine ⟨rp,_,rfl,SqT.of hzy,rfl,_,_,rfl,_,_,rfl,rfl,?_⟩;refine cut fun J1 hJ1=>?_;refine ⟨_,rfl,.inl ⟨rfl,_,SqL.of gyl⟩,_,rfl,_,rfl,_,_,rfl,rfl,_,rfl,_,rfl,_,_,rfl,rfl,_,rfl,_,rfl,_,_,rfl,rfl,(by show 3<=sizeLine;decide),fun T1 hT1=>?_⟩
    generalize gns (((Fp y).take k).map Prt.s)=G at eG hzy hT1 ⊢;have e1:G+p.r - (G+p.g)=p.r - p.g:=by omega
    have e2:G+p.r - G=p.r:=by omega
    have e3:G+p.g - G=p.g:=by omega
    dsimp only;rw [e1,e2,e3];have sT:=qA2 hT1 (.tup [.int (p.r - p.g),.int p.r,.int p.g]);have gT:(upd Hy T1 (.tup [.int (p.r - p.g),.int p.r,.int p.g])) T1=some (.tup ((trp p).map V.int)):=qA1;have gyT:=sT _ _ gyl;have TYT:L2.G.TupsAt (upd Hy T1 (.tup [.int (p.r - p.g),.int p.r,.int p.g])) qs _:=qAN TY fun _ _ e=>sT _ _ e;have syT:=sy.trans sT;generalize upd Hy T1 (.tup [.int (p.r - p.g),.int p.r,.int p.g])=Hz at sT gT gyT TYT syT ⊢;refine ⟨lf,_,_,rfl,rfl,gyT,qB7 (by rw [A0];omega),?_⟩
    refine hJ1 _ _ ?_;rw [qCN];refine ⟨_,rfl,?_⟩;refine ⟨_,_,qs++[T1],by rw [eG];rfl,qAC syT hlf,qA1,?_⟩
    have et:(((ys.take j).map Fp).flatten++(Fp y).take (k+1)).map trp=(((ys.take j).map Fp).flatten++(Fp y).take k).map trp++[trp p]:=by rw [C2,ep,B9,<- O4,A9];rfl
    rw [et];exact qMZ (V6 TYT gT) gyT
   ·refine fun σ Hy hI_4=>opq fun G_4 hG_4=>?_;obtain ⟨v8,v9,qs,rfl,sy,gyl,TY⟩:=hI_4;refine hG_4 ?_;rw [A0,lr,X1,<- ef] at TY;exact ⟨_,_,_,_,qs,rfl,sy,gyl,TY⟩
  refine fun σ Hx hI_5=>opq fun G_5 hG_5=>?_;obtain ⟨v6,v7,v8,v9,qs,rfl,sx,gx,TQ⟩:=hI_5;refine hG_5 ?_;rw [A0,qAU rfl,<- en] at TQ;have lq:=C6 TQ;rw [A0] at lq;refine hM2 _ _ (cut fun M3 hM3=>?_);refine hM3 _ _ (cut fun M4 hM4=>?_);refine ⟨(by show 0<=sizeLine;decide),fun lp hlp=>?_⟩
  have u2:=qA2 hlp (.lst []);have gp2:(upd Hx lp (.lst [])) lp=some (.lst (([]:List Addr).map V.ref)):=qA1;have gx2:=u2 _ _ gx;have TQ2:L2.G.TupsAt (upd Hx lp (.lst [])) qs _:=qAN TQ fun _ _ e=>u2 _ _ e;have flp:Hc lp=none:=sx.free hlp;have sx2:=sx.trans u2;generalize upd Hx lp (.lst [])=K2 at u2 gp2 gx2 TQ2 sx2 ⊢;refine hM4 _ _ (cut fun M5 hM5=>?_);refine ⟨_,rfl,lf,qs,_,rfl,rfl,SqL.of gx2,TQ2,(fun tt htt=>by obtain ⟨p,_,rfl⟩:=D6.mp htt;unfold trp;simp),by omega,fun lS rs' ts' hlS pr T' pm so=>?_⟩
  obtain ⟨srt,ps2,rfl,so2⟩:=qQ3 pm so;have u3:=qA2 hlS (.lst (rs'.map V.ref));have gS:(upd K2 lS (.lst (rs'.map V.ref))) lS=some (.lst (rs'.map V.ref)):=qA1;have gp3:=u3 _ _ gp2;have T3:L2.G.TupsAt (upd K2 lS (.lst (rs'.map V.ref))) rs' _:=qAN T' fun _ _ e=>u3 _ _ e;have nSp:lS ≠ lp:=(qA5 gp2 hlS).symm;have sx3:=sx2.trans u3;have fS:Hc lS=none:=sx2.free hlS;have lsr:=ps2.length_eq;have lrs:=C6 T3;rw [A0] at lrs;generalize upd K2 lS (.lst (rs'.map V.ref))=K3 at gS gp3 T3 sx3 ⊢;refine ⟨lS,rfl,⟨_,SqL.of gS⟩,qC6 (a:=lS) (xs:=rs'.map V.ref) (fun k σ Hy=>∃ (v12 v13 v14:Option V) (qp:List Addr),σ=[some (.ref a),some (.ref t),some (.int work),some (.ref dn),some (.int z),some (.ref lf),v6,v7,v8,v9,some (.int (gns ((srt.take k).map Prt.s))),some (.ref lp),v12,v13,v14]/\Same Hc Hy/\Hy lS=some (.lst (rs'.map V.ref))/\L2.G.TupsAt Hy rs' (srt.map trp)/\Hy lp=some (.lst (qp.map V.ref))/\HVL Hy qp (hlv 0 (srt.take k)))
   ⟨v12,v13,v14,[],rfl,sx3,gS,T3,gp3,.nil⟩ (fun k σ Hy _ hP=>by obtain ⟨_,_,_,_,_,_,g,_⟩:=hP;exact SqL.of g) ?_ ?_⟩
  ·clear gS gp3 T3 sx3 sx2 TQ2 gx2 gp2;refine fun k x σ Hy hx hI_6=>opq fun G_6 hG_6=>?_;obtain ⟨v12,v13,v14,qp,rfl,sy,gS,TS,gp,HP⟩:=hI_6;obtain ⟨rp,erp,rfl⟩:=qEC hx;obtain ⟨tt,ett,htt⟩:=qBF TS erp;refine hG_6 ?_;rw [B7] at ett;obtain ⟨p,ep,rfl⟩:=A03.mp ett;have hk:=(A3.mp ep).1;have eG:=qMB ep;have lqp:=C6 HP;rw [qHO,D4] at lqp;have htt:Hy rp=some (.tup [.int (p.r - p.g),.int p.r,.int p.g]):=htt;refine ⟨rp,_,rfl,SqT.of htt,rfl,_,_,rfl,_,_,rfl,_,_,rfl,rfl,?_⟩;refine cut fun J1 hJ1=>?_;refine ⟨_,rfl,.inl ⟨rfl,_,SqL.of gp⟩,_,rfl,_,rfl,_,_,rfl,rfl,_,rfl,_,rfl,_,_,rfl,rfl,(by show 2<=sizeLine;decide),fun T1 hT1=>?_⟩
   have eh:hlv 0 (srt.take (k+1))=hlv 0 (srt.take k)++[(gns ((srt.take k).map Prt.s)+p.r,gns ((srt.take k).map Prt.s)+p.g)]:=by
    rw [C2,ep,B9,qPZ,W8]
    rfl
   generalize gns ((srt.take k).map Prt.s)=G at eG eh hT1 ⊢;have sT:=qA2 hT1 (.tup [.int (G+p.r),.int (G+p.g)]);have gT:HV (upd Hy T1 (.tup [.int (G+p.r),.int (G+p.g)])) T1 (G+p.r,G+p.g):=qA1;have gpT:=sT _ _ gp;have gST:=sT _ _ gS;have TST:L2.G.TupsAt (upd Hy T1 (.tup [.int (G+p.r),.int (G+p.g)])) rs' _:=qAN TS fun _ _ e=>sT _ _ e;have HPT:=HP.same sT;have syT:=sy.trans sT;generalize upd Hy T1 (.tup [.int (G+p.r),.int (G+p.g)])=Hz at sT gT gpT gST TST HPT syT ⊢;refine ⟨lp,_,_,rfl,rfl,gpT,qB7 (by rw [A0];omega),?_⟩
   refine hJ1 _ _ ?_;rw [qCN];refine ⟨_,rfl,_,rfl,_,_,rfl,rfl,?_⟩;refine ⟨_,_,_,qp++[T1],by rw [eG];rfl,qAC syT flp,by rw [qA8 nSp];exact gST,qMZ TST gpT,qA1,by rw [eh];exact HVL.put (V6 HPT gT) gpT⟩
  refine fun σ Hy hI_7=>opq fun G_7 hG_7=>?_;obtain ⟨v12,v13,v14,qp,rfl,sy,gS4,TS4,gp4,HP⟩:=hI_7;refine hG_7 ?_;rw [A0,lrs,X1] at HP ⊢;have hok:=fun y hy=>(PA y (hys y hy)).1.1;have sm:gns (srt.map Prt.s)=sumW ws (nd Ae z):=by rw [qIT (ps2.map _)];exact qII hok
  obtain ⟨ok,hf⟩:=qUQ T w1 hz hok ps2 so2;have lqp:=C6 HP;rw [qHO] at lqp;refine hM5 _ _ ?_;have sHy:=sc.trans sy;have wz:=hwd z zb.1 zb.2;refine ⟨_,rfl,_,rfl,_,rfl,_,rfl,t,_,_,_,rfl,rfl,SqT.of (sHy _ _ WD.1),wz,_,_,rfl,rfl,_,rfl,_,rfl,t,_,_,_,rfl,rfl,SqT.of (sHy _ _ WD.1),wz,(by show 2<=sizeLine;decide),fun T4 hT4=>⟨(by show 1<=sizeLine;decide),fun l5 hl5=>?_⟩⟩
  have eh:hlv 0 (srt++[qEG Ae ws z])=hlv 0 srt++[(gns (srt.map Prt.s)+wdO ws z,wdO ws z)]:=by
   rw [qPZ,W8];show _++[(gns (srt.map Prt.s)+wdO ws z,gns (srt.map Prt.s)+(wdO ws z - sumW ws (nd Ae z)))]=_;rw [show gns (srt.map Prt.s)+(wdO ws z - sumW ws (nd Ae z))=wdO ws z by omega]
  generalize gns (srt.map Prt.s)=G at sm eh hT4 hl5 ⊢;have sT:=qA2 hT4 (.tup [.int (G+wdO ws z),.int (wdO ws z)]);have gT:HV (upd Hy T4 (.tup [.int (G+wdO ws z),.int (wdO ws z)])) T4 (G+wdO ws z,wdO ws z):=qA1;have HPT:=HP.same sT;have gpT:=sT _ _ gp4;generalize upd Hy T4 (.tup [.int (G+wdO ws z),.int (wdO ws z)])=Hz at sT gT HPT gpT hl5 ⊢;have s5':=qA2 hl5 (.lst [.ref T4]);refine ⟨lp,l5,_,[V.ref T4],rfl,rfl,s5' _ _ gpT,qA1,by rw [A0,C3,sizeLine_eq];omega,fun l6 hl6=>?_⟩
  have e6:qp.map V.ref++[V.ref T4]=(qp++[T4]).map V.ref:=by rw [A9];rfl
  rw [e6];have s6:=s5'.trans (qA2 hl6 (.lst ((qp++[T4]).map V.ref)));have g6:(upd (upd Hz l5 (.lst [.ref T4])) l6 (.lst ((qp++[T4]).map V.ref))) l6=some (.lst ((qp++[T4]).map V.ref)):=qA1;generalize upd (upd Hz l5 (.lst [.ref T4])) l6 (.lst ((qp++[T4]).map V.ref))=Ha at s6 g6 ⊢;refine ⟨l6,qp++[T4],srt++[qEG Ae ws z],rfl,g6,by rw [eh];exact HVL.same (V6 HPT gT) s6,by rw [A6,C3];omega,fun l' rs2 Hb sb fl' gl' HL'=>?_⟩
  have scb:=sy.trans (sT.trans (s6.trans sb));have gdb:=scb _ _ gdc;have put:=DPut.k (k:=E9 z) (v:=.ref l') gdb (qB7 (by unfold kvsV;rw [A0,D4];omega))
  rw [qM6 zno] at put;refine ⟨_,rfl,_,rfl,dn,_,rfl,put,?_⟩;refine ⟨fun y=>if y=z then l' else ad y,fun y=>if y=z then frun (srt++[qEG Ae ws z]) else Fp y,_,_,_,_,_,_,_,_,_,_,_,rfl,qAC (sc.trans scb) fdn,by rw [qA8 nwd];exact scb _ _ gwc,?_,fun x hx=>?_⟩
  ·rw [qA1,C2,ez,B9];congr 3
   funext y
   show _=V.ref (if y=z then l' else ad y)
   by_cases c:y=z
   ·rw [if_pos c,if_pos c]
   ·rw [if_neg c,if_neg c]
  ·rw [C2,ez,B9] at hx;dsimp only;rcases E1.mp hx with m | m
   ·have ne:x ≠ z:=fun e=>zno (e ▸ m);rw [if_neg ne,if_neg ne];obtain ⟨p1,rs',p2,p3⟩:=PA x m;exact ⟨p1,rs',by rw [qA8 (qBM (scb _ _ p2) gdb (by intro z;cases z))];exact scb _ _ p2,(p3.same scb).dict gdb⟩
   ·have ex:=A4.mp m;subst ex;rw [if_pos rfl,if_pos rfl];exact ⟨⟨ok,hf⟩,rs2,by rw [qA8 (qBM gl' gdb (by intro z;cases z))];exact gl',HL'.dict gdb⟩
 ·refine fun σ Hc hI_8=>opq fun G_8 hG_8=>?_;obtain ⟨ad,Fp,v4,v5,v6,v7,v8,v9,v10,v11,v12,v13,v14,rfl,sc,gwc,gdc,PA⟩:=hI_8;refine hG_8 ?_;rw [A0,qAU rfl] at gdc PA;have hw:=qEP N;have hg:=DGet.k (k:=E9 work) gdc;rw [qDB (g:=fun z=>V.ref (ad z)) hw] at hg;obtain ⟨⟨ok,hf⟩,rs,p2,p3⟩:=PA work hw;exact hN2 _ _ ⟨_,rfl,_,rfl,dn,_,rfl,hg,q (ad work) rs (Fp work) Hc sc p2 p3 ok hf⟩
end
def qLM (K:PySem.W.Frag) (Ps Pp:Addr):Sp:=fun vs H Q E=>TabS H Ps/\TabP H Pp/\qc9 K vs H Q E
theorem qYI {Ae:List (List Int)} {ws:List Int} (l:ws.length=Ae.length) (h:∀ u ∈ ws,1<=u):Wd1 Ae ws:=fun x x0 x1=>by
 have hx:x.toNat<ws.length:=by omega
 unfold wdO;rw [A1 hx];exact h _ (U9 hx)
section
variable {P:Program} {w:World} {K:PySem.W.Frag} {mg:Str->Option Value} {base:Heap} {f:Addr} {fd:FuncData} {Ps Pp:Addr} {qIY qCF qH9 qIV qIX qCH qE2 qFI qEX qIW qDQ qE4:Addr} {qOC qC8 qLA qO9 qOB qDC qH4 qH6 qI2 qOA qO7 qH7:FuncData}
theorem sc_law:FnScope ["_law_script","_law_state","_law_turn","_law_many","_law_net_here","_law_work","_law_wides_here","_law_due","_law_order","_law_others","_law_kept"] ["_law_script"] (qAE qKG):=⟨rfl,rfl,rfl,by decide +kernel,rfl,by decide +kernel,by decide +kernel⟩
theorem ok_law (F:Fun K "law" "law" qKG f fd) (qJ5:Clb P w K mg base 1 qIY qOC "_law_begin" ["_law_script"] (qT3 K)) (qAH:Clb P w K mg base 1 qCF qC8 "_law_take" ["_law_state","_law_many"] qHW) (qHG:Clb P w K mg base 4 qH9 qLA "_law_ground" ["_law_state","_law_many"] qQN) (qJ3:Clb P w K mg base 2 qIV qO9 "_law_wides" ["_law_state","_law_many"] qQJ) (qJ4:Clb P w K mg base 2 qIX qOB "_law_hills" ["_law_net_here","_law_wides_here","_law_work"] qT2) (qBJ:Clb P w K mg base 4 qCH qDC "wide_order" ["net","wides","work"] (qF9 Pp)) (qCI:Clb P w K mg base 5 qE2 qH4 "wide_rooms" ["net","wides","work"] (qJB Pp)) (qKE:Clb P w K mg base 2 qFI qH6 "_law_same" ["_law_found","_law_due"] (spS 2)) (qF2:Clb P w K mg base 2 qEX qI2 "_law_is_order" ["_law_net_here","_law_work","_law_order"] qKQ) (qHF:Clb P w K mg base 1 qIW qOA "_law_taken" ["_law_net_here","_law_wides_here","_law_order"] qT1) (qF1:Clb P w K mg base 4 qDQ qO7 "stretched" ["net","wides","work"] (qJD Ps)) (qE8:Clb P w K mg base 2 qE4 qH7 "_law_any_order" ["_law_state","_law_net_here","_law_work"] qJF) (qAP:mg "range" = none) (qF3:mg "int" = none) (qI9:mg "min" = none) (qIA:mg "any" = none) (qBQ:mg "len" = none) (qCL:mg "list" = none) (qDS:mg "max" = none):FnOk P w K mg base CX0 8 f fd ["_law_script"] (qLM K Ps Pp):=by
 refine F.ok sc_law (fun vs H Q E h=>?_) (fun cdv A outer s H vs Q E hr h=>?_)
 ·obtain ⟨_,_,sc,ns,rfl,_⟩:=h
  rfl
 obtain ⟨hTs,hTp,sc,ns,rfl,hS,h63,q⟩:=h;have hu0:=hr.units0;refine ⟨_,(qA4 (qAG (i:=1) sc_law.nd rfl (c8 rfl) (qAX qJ5 hr rfl (qA0 (pv 0) qA3))) (qA4 (qBC D0 rfl (qBZ rfl qAP (qA0 (qAJ qBW qA7 (qAX qAH hr rfl (qA0 (pv 1) (qA0 qA7 qA3)))) qA3)) (qA9 (i:=2) sc_law.nd rfl (D2 rfl)) (qA4 (qAG (i:=3) sc_law.nd rfl (D2 rfl) (qAW qCP (qBA (qA0 (qAJ qBW qA7 (qAX qAH hr rfl (qA0 (pv 1) (qA0 qA7 qA3)))) (qA0 (qAJ qBW qA7 (qAX qAH hr rfl (qA0 (pv 1) (qA0 qA7 qA3)))) qA3))) (qAL qK8 rfl qF3 qOQ (qA0 (qG8 qGW (qAX qAH hr rfl (qA0 (pv 1) (qA0 qA7 qA3))) qA7 (qB1 _)) qA3)) (fun _ _=>rfl))) (qA4 (qKU (qAX qHG hr rfl (qA0 (pv 1) (qA0 (pv 3) qA3))) (qGU rfl (qB3 (qA9 (i:=4) sc_law.nd rfl (c8 rfl)) (qB3 (qA9 (i:=5) sc_law.nd rfl (c8 rfl)) qEA)))) (qA4 (qAG (i:=6) sc_law.nd rfl (c8 rfl) (qAX qJ3 hr rfl (qA0 (pv 1) (qA0 (qAA qAI rfl qBQ qD7 (qA0 (pv 4) qA3)) qA3)))) (qA4 (qAG (i:=7) sc_law.nd rfl (c8 rfl) (qAW qB2 (qAW qCP (qAX qJ4 hr rfl (qA0 (pv 4) (qA0 (pv 6) (qA0 (pv 5) qA3)))) qA7 (fun _ _=>rfl)) qA7 (fun _ _=>rfl))) (qA4 (qAG (i:=8) sc_law.nd rfl (D2 rfl) (qAX qBJ hr rfl (qA0 (pv 4) (qA0 (pv 6) (qA0 (pv 5) qA3))))) (qA4 (qCK (PW.pt (qLT (qI0 (qDN (qAX qKE hr rfl (qA0 (qAX qCI hr rfl (qA0 (pv 4) (qA0 (pv 6) (qA0 (pv 5) qA3)))) (qA0 (pv 7) qA3))))) (qGS (qI0 (qDN (qAX qF2 hr rfl (qA0 (pv 4) (qA0 (pv 5) (qA0 (pv 8) qA3))))))))) (qA6 (qAR qEB)) qAV) (qA4 (qCK (PW.pt (qLT (qAS qTW (qAA (qHD rfl) rfl qDS qK9 (qA0 (qAX qHF hr rfl (qA0 (pv 4) (qA0 (pv 6) (qA0 (pv 8) qA3)))) qA3)) (pv 7) (qB1 _)) (qGS (qAS qTX (qAW qB2 (qAX qF1 hr rfl (qA0 (pv 4) (qA0 (pv 6) (qA0 (pv 5) qA3)))) qA7 (fun _ _=>rfl)) (pv 7) (qB1 _))))) (qA6 (qAR qEB)) qAV) (qA4 (qRZ (i:=9) sc_law.nd rfl rfl rfl (lcs (own:=["_law_again"]) (fv:=[1,4,5]) (by kernel_rfl)) (qBZ rfl qAP (qA0 qA7 qA3)) (fun z1=>qA9 (i:=0) (qCU (by kernel_rfl)) rfl (D2 rfl)) (fun z1=>qBL) (fun z1=>(qAX qE8 hr rfl (qA0 (pv 1) (qA0 (pv 2) (qA0 (pv 3) qA3))))) (by kernel_rfl)) (qA4 (qCK (qAS qTX (qAA (qVM rfl) rfl qI9 qVO (qA0 (qEM rfl (lcs (own:=["_law_other"]) (fv:=[4,6]) (by kernel_rfl)) (qBE (pv 9)) (fun z2=>qA9 (i:=0) (qCU (by kernel_rfl)) rfl (D2 rfl)) (fun z2=>qBL) (fun z2=>(qAA (qSF (K:=K) rfl rfl) rfl qDS qK9 (qA0 (qAX qHF hr rfl (qA0 (pv 1) (qA0 (pv 2) (qA0 (pv 0) qA3)))) qA3)))) qA3)) (pv 7) (qB1 _)) (qA6 (qAR qEB)) qAV) (qA4 (qCK (qDN (qAA (qMK rfl) rfl qIA qVR (qA0 (qEM rfl (lcs (own:=["_law_need"]) (fv:=[4,6,7]) (by kernel_rfl)) (qE0 (qAW qB2 (pv 4) (pv 5) (fun _ _=>rfl))) (fun z3=>qA9 (i:=0) (qCU (by kernel_rfl)) rfl (D2 rfl)) (fun z3=>qBL) (fun z3=>(qG8 qZ1 (qAX qCI hr rfl (qA0 (pv 1) (qA0 (pv 2) (qA0 (pv 0) qA3)))) (pv 3) (qB1 _)))) qA3))) (qA6 (qAR qEB)) qAV) (qA4 (qAG (i:=10) sc_law.nd rfl (D2 rfl) (qAL qI5 rfl qCL qHR (qA0 (pv 8) qA3))) (qA4 (qBY (qTR D8 PySem.F.slot_list_clear PySem.F.type_list_clear qWQ (pv 8))) (qA6 (qCK (PW.pt (qLT (qAS (qPK hu0) (qAX qBJ hr rfl (qA0 (pv 4) (qA0 (pv 6) (qA0 (pv 5) qA3)))) (pv 10) (qB1 _)) (qGS (qI0 (qDN (qAX qKE hr rfl (qA0 (qAX qCI hr rfl (qA0 (pv 4) (qA0 (pv 6) (qA0 (pv 5) qA3)))) (qA0 (pv 7) qA3)))))))) (qA6 (qAR qEB)) qAV))))))))))))))) (qA6 (qAR qEB)))),?_⟩
 try dsimp only [Cx.nox,Cx.wish,cxOf]
 refine cut fun Na hNa=>?_;refine ⟨_,rfl,sc,ns,rfl,hS,h63,fun d c ms H1 S1 sm0 hd0 hc0=>?_⟩;have hTs0:=sm0 _ _ hTs;have hTp0:=sm0 _ _ hTp;have nSd:Ps ≠ d:=qBM hTs0 S1.dict (by intro z;cases z)
 have nSc:Ps ≠ c:=qBM hTs0 S1.list (by intro z;cases z)
 have nPd:Pp ≠ d:=qBM hTp0 S1.dict (by intro z;cases z)
 have nPc:Pp ≠ c:=qBM hTp0 S1.list (by intro z;cases z)
 refine hNa _ _ (cut fun Nb hNb=>?_);refine ⟨_,rfl,d,c,0,ms,2,rfl,S1,(by show (0:Int)<=1000000000;decide),by decide,by decide,fun x ms2 H2 x0 x3 S2 K2=>⟨_,_,rfl,rfl,?_⟩⟩
 refine ⟨(1+x),rfl,by omega,by omega,qH3 (lo:=0) (n:=(1+x).toNat) (fun i σ Hc=>∃ (t:Int) (ns:List Int) (v2 v3 v4 v5 v6 v7 v8 v9 v10:Option V),σ=[some (.ref sc),some (.ref d),v2,v3,v4,v5,v6,v7,v8,v9,v10]/\StAt Hc d c t ns/\t<=10+10000 * (i:Int)/\TabS Hc Ps/\TabP Hc Pp)
  ⟨0+1,ms2,none,none,none,none,none,none,none,none,none,rfl,S2,by omega,K2 _ _ hTs0 nSd nSc,K2 _ _ hTp0 nPd nPc⟩ ?_ ?_⟩
 ·clear hTs0 hTp0 hTs hTp;refine fun i σ Hc hi hI_1=>opq fun G_1 hG_1=>?_;obtain ⟨t,ns,v2,v3,v4,v5,v6,v7,v8,v9,v10,rfl,S3,tb,hTs,hTp⟩:=hI_1;refine hG_1 ?_;refine cut fun N1 hN1=>?_;refine ⟨_,rfl,d,c,t,ns,21,rfl,S3,(by show t<=1000000000;omega),by decide,by decide,fun y1 ns1 H3 y10 y11 S4 K3=>⟨_,_,rfl,rfl,?_⟩⟩
  refine ⟨_,rfl,d,c,t+1,ns1,26,rfl,S4,(by show t+1<=1000000000;omega),by decide,by decide,fun y2 ns2 H4 y20 y21 S5 K4=>⟨_,_,rfl,rfl,?_⟩⟩
  refine ⟨(by show 2<=sizeLine;decide),fun l hl=>?_⟩
  have sl:=qA2 hl (.lst [.int (10+y1),.int (30+y2)]);have gl:(upd H4 l (.lst [.int (10+y1),.int (30+y2)])) l=some (.lst [.int (10+y1),.int (30+y2)]):=qA1;have nl:l ≠ d/\l ≠ c:=⟨(qA5 S5.dict hl).symm,(qA5 S5.list hl).symm⟩;refine ⟨_,rfl,d,c,t+1+1,ns2,4,rfl,S5.same sl,(by show t+1+1<=1000000000;omega),by decide,by decide,fun y3 ns3 H5 y30 y31 S6 K5=>⟨rfl,.inr ⟨_,rfl,?_⟩⟩⟩
  have pk:∀ b:Bool,∃ m:Int,atI [V.int (10+y1),.int (30+y2)] (if b=true then 1 else 0)=some (.int m)/\1<=m/\m<=55:=by
   intro b;cases b with
   | true=>exact ⟨30+y2,rfl,by omega,by omega⟩
   | false=>exact ⟨10+y1,rfl,by omega,by omega⟩
  obtain ⟨m,hm,m1,m55⟩:=pk (decide (V.int y3=V.int 0));refine ⟨l,_,_,_,rfl,rfl,SqL.of (K5 _ _ gl nl.1 nl.2),hm,?_⟩;have KB:=K3.trans (K4.trans ((Keep.of_same sl).trans K5));refine hN1 _ _ (cut fun N2 hN2=>?_);refine ⟨_,rfl,_,rfl,d,c,t+1+1+1,ns3,m,rfl,S6,(by show t+1+1+1<=1000000000 - 20000;omega),m1,by omega,fun T a Ae work t4 ns4 H6 S7 g1 g2 K6 NI l13 iT gT=>?_⟩
  refine ⟨T,_,rfl,SqT.of gT,rfl,_,_,rfl,_,_,rfl,rfl,?_⟩;refine hN2 _ _ (cut fun N3 hN3=>?_);obtain ⟨hN,wf,n4,w0,w1⟩:=NI;obtain ⟨rs,hA,NL⟩:=id hN;have lrs:=C6 NL;refine ⟨_,rfl,_,rfl,a,_,rfl,.inr (SqT.of hA),?_⟩;rw [A0,lrs];refine ⟨d,c,t4,ns4,_,rfl,S7,(by show t4<=1000000000 - 1000;omega),by omega,by omega,fun r ws t5 ns5 H7 S8 g3 g4 K7 gr lw ge1=>?_⟩
  have hN7:=hN.keep S7 K7;have tS:TabS H7 Ps:=(KB.trans (K6.trans K7)) _ _ hTs nSd nSc;have tP:TabP H7 Pp:=(KB.trans (K6.trans K7)) _ _ hTp nPd nPc;have lw':ws.length=Ae.length:=by omega
  have W1:=qYI lw' ge1;refine hN3 _ _ (cut fun N4 hN4=>?_);have SI:∀ {Hx:Hp},Same H7 Hx->qQF Hx a r Ae ws work:=fun k=>⟨⟨hN7.same k,wf,n4,w0,w1⟩,⟨k _ _ gr,lw'⟩,W1,iT⟩;clear K7 K6 KB gT hA NL hm gl sl hTs hTp;obtain ⟨zs,Nz,_⟩:=id iT;have TI:=qKO wf n4 Nz iT;refine ⟨_,rfl,_,rfl,_,rfl,a,r,Ae,ws,work,rfl,SI (.refl _),by omega,fun lh rh ps H8 s8 gh HH ok hf=>?_⟩
  obtain ⟨p0,pr,rfl,FW⟩:=qX6 TI ok hf;cases HH with
  | @cons r0 _ rh _ h0 HH=>
  have h0:H8 r0=some (.tup [.int (0+p0.r),.int (0+p0.g)]):=h0;rw [W8] at h0;refine ⟨lh,_,_,_,rfl,rfl,SqL.of gh,qBR (F4 0) rfl,r0,_,_,_,rfl,rfl,SqT.of h0,qBR (F4 0) rfl,?_⟩;generalize p0.r=due at FW h0 ⊢;clear HH h0 gh;refine hN4 _ _ (cut fun N5 hN5=>?_);refine ⟨_,rfl,_,rfl,_,rfl,a,r,Ae,ws,work,rfl,s8 _ _ tP,SI s8,fun lo L H9 s9 fl9 g9 B WL=>?_⟩;have lL:=(B.1.all TI).2;obtain ⟨M,hM⟩:=B.1.top_ex (ws:=ws);have eM:=qXD TI W1 FW B hM;subst eM;refine hN5 _ _ (cut fun N6 hN6=>?_);have s79:=s8.trans s9;refine ⟨_,rfl,_,rfl,_,rfl,a,r,Ae,ws,work,rfl,s79 _ _ tP,SI s79,fun m2 L2 Ha sa B2 hm2=>?_⟩;have em:m2=M:=qRO TI B2 B hm2 hM;subst em;refine ⟨_,rfl,_,_,rfl,.inl ⟨rfl,.inr (.inl ⟨_,rfl⟩)⟩,fun Hb sb=>⟨_,rfl,?_⟩⟩;refine iteF ?_;have s7b:=s79.trans (sa.trans sb);have g9b:=(sa.trans sb) _ _ g9;refine ⟨_,rfl,_,rfl,_,rfl,a,lo,Ae,L,work,rfl,hN7.same s7b,wf,by omega,w0,w1,g9b,B.1,fun Hd sd=>⟨_,rfl,?_⟩⟩
  refine iteF ?_;refine hN6 _ _ (cut fun N7 hN7'=>?_);have s7d:=s7b.trans sd;have g9d:=sd _ _ g9b;have f9:H7 lo=none:=s8.free fl9;have nlo:lo ≠ d/\lo ≠ c:=⟨(qA5 S8.dict f9).symm,(qA5 S8.list f9).symm⟩
  -- taken,stretched
  refine ⟨_,rfl,_,rfl,_,rfl,a,r,lo,Ae,ws,L,rfl,hN7.same s7d,wf,n4,⟨s7d _ _ gr,lw'⟩,g9d,(B.1.all TI).1,lL,fun lt Hh sh flt glt=>?_⟩;refine ⟨lt,_,_,rfl,SqL.of glt,hM,_,rfl,rfl,_,rfl,?_⟩;refine ite2 (fun z=>by simp at z) (fun _=>?_)
  have s7h:=s7d.trans sh;refine ⟨_,rfl,_,rfl,_,rfl,a,r,Ae,ws,work,rfl,s7h _ _ tS,SI s7h,fun T1 l1 zs' R O Hj sj fl1 Nz' SO gT1 gl1=>?_⟩;have ez:=qL1 Nz' Nz;subst ez;have hwz:work ∈ zs':=(Nz'.2 work).mpr (.ask (A4.mpr rfl));have leR:m2<=R work:=qXH TI W1 SO B hM;refine ⟨T1,_,_,_,rfl,rfl,SqT.of gT1,rfl,_,rfl,_,_,rfl,rfl,_,rfl,?_⟩;rw [decide_eq_false (show ¬ R work<m2 by omega)]
  refine iteF ?_;have s7j:=s7h.trans sj;have g9j:=(sh.trans sj) _ _ g9d;have Sj:=S8.same s7j;have hNj:=hN7.same s7j;have grj:=s7j _ _ gr;have tSj:TabS Hj Ps:=s7j _ _ tS;have tPj:TabP Hj Pp:=s7j _ _ tP;clear gl1 gT1 glt sh sj sd s7d s7h g9d g9b sa sb s79 s8 s9 g9 tS tP;refine hN7' _ _ (cut fun N8 hN8=>?_)
  -- three orders
  refine ⟨3,rfl,by decide,by decide,fun p hp=>?_⟩
  have npd:p ≠ d/\p ≠ c:=⟨(qA5 Sj.dict hp).symm,(qA5 Sj.list hp).symm⟩;refine qEQ (p:=p) (lo:=0) (n:=3) (fun i σ Hc=>∃ (v:Option V) (t':Int) (ns':List Int) (qs:List Addr),σ=[v,some (.ref d),some (.ref a),some (.int work)]/\StAt Hc d c t' ns'/\t'<=t5+450 * (i:Int)/\Keep d c Hj Hc/\Hc p=some (.lst (qs.map V.ref))/\qs.length=i/\∀ q ∈ qs,∃ o:List Int,Hc q=some (.lst (o.map V.int))/\(q ≠ d/\q ≠ c/\q ≠ p)/\TopO Ae o/\o.length<=63/\OrdT Ae work o) ?_ ?_ ?_
  ·exact ⟨none,t5,ns5,[],rfl,Sj.new hp _,by omega,qC3 hp _,qA1,rfl,fun _ h=>nomatch h⟩
  ·refine fun k σ Hc hk hI_2=>opq fun G_2 hG_2=>?_;obtain ⟨v,t',ns',qs,rfl,Sc,tc,Kc,gp,lq,oq⟩:=hI_2;refine hG_2 ?_;refine ⟨_,rfl,_,rfl,_,rfl,d,c,t',ns',a,Ae,work,rfl,Sc,(by show t'<=1000000000 - 1000;omega),hNj.keep Sj Kc,wf,n4,w0,w1,fun lo2 o t6 ns6 H6 S9 e1 e2 K9 f9' g9' TO lo4 OO=>?_⟩
   have gp6:=K9 _ _ gp npd.1 npd.2;have n6:lo2 ≠ d/\lo2 ≠ c/\lo2 ≠ p:=⟨(qA5 Sc.dict f9').symm,(qA5 Sc.list f9').symm,(qA5 gp f9').symm⟩;refine ⟨_,gp6,qB7 (by rw [A0];omega),_,t6,ns6,qs++[lo2],rfl,S9.upd npd.1.symm npd.2.symm,by omega,qEU (Kc.trans K9) hp,by rw [qA1,A9];rfl,by rw [A6,lq];rfl,fun q hq=>?_⟩
   rcases E1.mp hq with h | h
   ·obtain ⟨o',h1,h2,h3⟩:=oq q h;exact ⟨o',by rw [qA8 h2.2.2];exact K9 _ _ h1 h2.1 h2.2.1,h2,h3⟩
   ·rw [A4.mp h];exact ⟨o,by rw [qA8 n6.2.2];exact g9',n6,TO,lo4,OO⟩
  refine fun σ Hk hI_3=>opq fun G_3 hG_3=>?_;obtain ⟨v,t6,ns6,qs,rfl,Sk,tk,Kk,gp,lq,oq⟩:=hI_3;refine hG_3 ?_;have hNk:=hNj.keep Sj Kk;have grk:=Kk _ _ grj (Sj.tup grj).1 (Sj.tup grj).2;have tSk:TabS Hk Ps:=Kk _ _ tSj nSd nSc;have tPk:TabP Hk Pp:=Kk _ _ tPj nPd nPc;have g9k:=Kk _ _ g9j nlo.1 nlo.2;clear Kk hNj grj tSj tPj g9j Sj hp;have SIk:∀ {Hx:Hp},Same Hk Hx->qQF Hx a r Ae ws work:=fun k=>⟨⟨hNk.same k,wf,n4,w0,w1⟩,⟨k _ _ grk,lw'⟩,W1,iT⟩;refine hN8 _ _ (cut fun N9 hN9=>?_);refine ⟨_,rfl,p,rfl,⟨_,SqL.of gp⟩,fun pm hpm=>?_⟩;refine qER (p:=pm) (a:=p) (xs:=qs.map V.ref) (fun i σ Hd=>∃ (v:Option V) (ms:List Int),σ=[v,some (.ref a),some (.ref r)]/\Same Hk Hd/\Hd pm=some (.lst (ms.map V.int))/\ms.length=i/\∀ x ∈ ms,m2<=x) ?_ ?_ ?_ ?_
  ·exact ⟨none,[],rfl,qA2 hpm _,qA1,rfl,fun _ h=>nomatch h⟩
  ·rintro k σ Hd hk ⟨v,ms,rfl,sd,_⟩;exact SqL.of (sd _ _ gp)
  ·refine fun k x' σ Hd hx hI_5=>opq fun G_5 hG_5=>?_;obtain ⟨v,ms,rfl,sd,gm,lm,gem⟩:=hI_5;obtain ⟨q0,eq0,rfl⟩:=qEC hx;refine hG_5 ?_;have hk:=(A3.mp eq0).1;obtain ⟨o,go,_,TO,lo4,OO⟩:=oq q0 (B8 eq0);refine ⟨_,rfl,_,rfl,_,rfl,a,r,q0,Ae,ws,o,rfl,hNk.same sd,wf,n4,⟨sd _ _ grk,lw'⟩,sd _ _ go,TO,lo4,fun lt2 He se flt2 glt2=>?_⟩;obtain ⟨mo,hmo⟩:=OO.top_ex (ws:=ws);have le:=qML TI B OO hM hmo;refine ⟨lt2,_,_,rfl,SqL.of glt2,hmo,_,se _ _ gm,qB7 (by rw [A0];omega),_,ms++[mo],rfl,qAC (sd.trans se) hpm,by rw [qA1,A9];rfl,by rw [A6,lm];rfl,fun x hx=>?_⟩
   rcases E1.mp hx with h | h
   ·exact gem x h
   ·rw [A4.mp h];exact le
  refine fun σ Hl hI_6=>opq fun G_6 hG_6=>?_;obtain ⟨v,ms,rfl,sl2,gm,lm,gem⟩:=hI_6;refine hG_6 ?_;rw [A0,lq] at lm;obtain ⟨mm,hmm⟩:=qb7 (l:=ms) (fun e=>by rw [e] at lm;cases lm)
  have gemm:=gem mm (qZC hmm).1;refine ⟨pm,_,_,rfl,SqL.of gm,hmm,_,rfl,_,_,rfl,rfl,_,rfl,?_⟩;rw [decide_eq_false (show ¬ mm<m2 by omega)]
  refine iteF ?_;refine hN9 _ _ (cut fun N10 hN10=>?_)
  -- each need
  have hNl:=hNk.same sl2;obtain ⟨rsl,hAl,NLl⟩:=id hNl;have hw:work.toNat<Ae.length:=by omega
  have hz:=A1 hw;obtain ⟨rn,h3,h4⟩:=NLl.get hz;have rz:=wf work.toNat _ hz;have en:=qAF hz;have lys:=rz.len;generalize Ae[work.toNat]=ys at h4 hz en rz lys;refine ⟨_,rfl,_,rfl,a,_,_,_,rfl,rfl,SqT.of hAl,qBR w0 (by rw [B7,h3];rfl),rn,rfl,⟨_,SqT.of h4⟩,fun pn hpn=>?_⟩
  refine qJS (p:=pn) (a:=rn) (xs:=ys.map V.int) (fun j σ Hd=>∃ (v:Option V),σ=[v,some (.ref a),some (.ref r),some (.int m2)]/\Same Hl Hd/\Hd pn=some (.lst ((C4 j false).map V.bl))) ?_ ?_ ?_ ?_
  ·exact ⟨none,rfl,qA2 hpn _,qA1⟩
  ·rintro j σ Hd hj ⟨v,rfl,sd,_⟩;exact SqT.of (sd _ _ h4)
  ·refine fun j x' σ Hd hx hI_8=>opq fun G_8 hG_8=>?_;obtain ⟨v,rfl,sd,gpn⟩:=hI_8;obtain ⟨y,ey,rfl⟩:=qAQ hx;refine hG_8 ?_;have hj:=(A3.mp ey).1;have my:y ∈ nd Ae work:=by rw [en];exact B8 ey
   have hyz:=(TI.has hwz my).1;have yb:=Nz'.1.in_ y hyz;have iTy:=qZL TI hyz;obtain ⟨zy,Nzy,_⟩:=id iTy;have TY:=qKO wf n4 Nzy iTy;have slD:=sl2.trans sd;refine ⟨_,rfl,_,rfl,_,rfl,a,r,Ae,ws,y,rfl,slD _ _ tPk,⟨⟨hNk.same slD,wf,n4,yb.1,yb.2⟩,⟨slD _ _ grk,lw'⟩,W1,iTy⟩,fun my2 Ly He se By hmy=>?_⟩;have le:=qZ5 TI W1 FW my TY By hmy;refine ⟨_,rfl,_,_,rfl,rfl,_,se _ _ gpn,qB7 (by rw [A0,O8];omega),_,rfl,qAC (sd.trans se) hpn,?_⟩
   dsimp only;rw [decide_eq_false (show ¬ m2<my2 by omega),qA1,W2,A9]
   rfl
  refine fun σ Hm hI_9=>opq fun G_9 hG_9=>?_;obtain ⟨v,rfl,sm2,gpn⟩:=hI_9;refine hG_9 ?_;refine ⟨pn,_,rfl,SqL.of gpn,_,rfl,?_⟩;have ea2:(C4 (ys.map V.int).length false).any id=false:=by rw [Q3];intro z;obtain ⟨x,hx,e⟩:=Z3.mp z;rw [(X7.mp hx).2] at e;cases e
  rw [ea2];refine iteF ?_;have skm:=sl2.trans sm2;have g9m:=skm _ _ g9k;refine hN10 _ _ (cut fun N11 hN11=>?_)
  -- kept
  refine ⟨_,rfl,lo,_,rfl,.inl (SqL.of g9m),fun lk hlk=>?_⟩;have sk:=qA2 hlk (.lst (L.map V.int));have gk:(upd Hm lk (.lst (L.map V.int))) lk=some (.lst (L.map V.int)):=qA1;have g9n:=sk _ _ g9m;have nlk:lk ≠ lo:=(qA5 g9m hlk).symm;have skn:=skm.trans sk;generalize upd Hm lk (.lst (L.map V.int))=Hn at sk gk g9n skn ⊢;refine hN11 _ _ (cut fun N12 hN12=>?_);refine ⟨_,rfl,.inl ⟨rfl,_,SqL.of g9n⟩,lo,_,rfl,rfl,g9n,?_⟩;have gko:(upd Hn lo (.lst [])) lk=some (.lst (L.map V.int)):=by rw [qA8 nlk];exact gk
  have Sn:=Sk.same skn;have So:StAt (upd Hn lo (.lst [])) d c t6 ns6:=Sn.upd nlo.1.symm nlo.2.symm;have keepT:∀ {q:Addr} {xs:List V},Hk q=some (.tup xs)->(upd Hn lo (.lst [])) q=some (.tup xs):=fun e=>by rw [qA8 (qBM (skn _ _ e) g9n (by intro z;cases z))];exact skn _ _ e
  have hNo:NetAt (upd Hn lo (.lst [])) a Ae:=by
   obtain ⟨rk,hAk,NLk⟩:=id hNk;exact ⟨rk,keepT hAk,NLk.same fun r ys e=>keepT e⟩
  have gro:=keepT grk;have tSo:TabS (upd Hn lo (.lst [])) Ps:=by show upd _ _ _ _=_;rw [qA8 (qBM (skn _ _ tSk) g9n (by intro z;cases z))];exact skn _ _ tSk
  have tPo:TabP (upd Hn lo (.lst [])) Pp:=by show upd _ _ _ _=_;rw [qA8 (qBM (skn _ _ tPk) g9n (by intro z;cases z))];exact skn _ _ tPk
  generalize upd Hn lo (.lst [])=Ho at gko So hNo gro tSo tPo ⊢;have SIo:∀ {Hx:Hp},Same Ho Hx->qQF Hx a r Ae ws work:=fun k=>⟨⟨hNo.same k,wf,n4,w0,w1⟩,⟨k _ _ gro,lw'⟩,W1,iT⟩;refine hN12 _ _ ?_;refine ⟨_,rfl,_,rfl,_,rfl,a,r,Ae,ws,work,rfl,tPo,SIo (.refl _),fun lo2 L3 Hi si fli gi B3 WL3=>?_⟩;have eL:L3=L:=WL3.one TI WL;subst eL;refine ⟨_,rfl,lo2,lk,L3,rfl,rfl,SqL.of gi,SqL.of (si _ _ gko),_,rfl,?_⟩;refine iteF ?_;refine ⟨_,rfl,_,rfl,_,rfl,a,r,Ae,ws,work,rfl,si _ _ tPo,SIo si,fun m3 L4 Hp2 sp B4 hm4=>?_⟩;have em:m3=m2:=qRO TI B4 B hm4 hM;subst em;refine ⟨_,rfl,_,_,rfl,.inl ⟨rfl,.inr (.inl ⟨_,rfl⟩)⟩,fun Hq sq=>⟨_,rfl,?_⟩⟩;refine iteF ?_;have ssq:=si.trans (sp.trans sq);exact ⟨t6,ns6,_,_,_,_,_,_,_,_,_,rfl,So.same ssq,by omega,ssq _ _ tSo,ssq _ _ tPo⟩
 ·refine fun σ Hc hI_10=>opq fun G_10 hG_10=>?_;obtain ⟨t,ns,v2,v3,v4,v5,v6,v7,v8,v9,v10,rfl,S3,tb,hTs,hTp⟩:=hI_10;refine hG_10 ?_;exact hNb _ _ (q _)
end
theorem all_mk {l:PySem.W.OpenLaw} {w:World} {K:PySem.W.Frag} {h:Heap} {mg:Str->Option Value} {fa qBS qE3 qH8 qC9 qDI qDQ qIU qD0 qD5 qCH qE2 qIY qCF qFI qCA qCV qRF qD6 qIV qH9 qIW qEX qE4 qIX qG3 qZS:Addr} (X:K.In h) (G:h.Ns mainGlobals mg) (hfa:mg "law" = some (.ref fa))
  {qNF qP4 qLZ qMQ qb3 qYF:Option Addr} {qN5 qLO qaL:Array (Option Value)} {qNG qNX qOG qN9 qOI qM0 qM8 qMH qLW qMI qb4 qY4 qYA qXU qVI qYB:Value}
  {qE5 qFT qDD qF0:Addr}
  (qFR:C8 K mainGlobals "all_needed" = some (some (.ref qBS))) (F_all_needed:∃ fd,Fun K "all_needed" "all_needed" qDY qBS fd)
  (qFP:C8 K mainGlobals "use_counts" = some (some (.ref qE3))) (F_use_counts:∃ fd,Fun K "use_counts" "use_counts" qDX qE3 fd)
  (qKB:C8 K mainGlobals "is_tree" = some (some (.ref qH8))) (F_is_tree:∃ fd,Fun K "is_tree" "is_tree" qGP qH8 fd)
  (qEY:C8 K mainGlobals "demand_tree" = some (some (.ref qC9))) (F_demand_tree:∃ fd,Fun K "demand_tree" "demand_tree" qD9 qC9 fd)
  (qHT:C8 K mainGlobals "taken_by" = some (some (.ref qDI))) (F_taken_by:∃ fd,Fun K "taken_by" "taken_by" qFZ qDI fd)
  (qGJ:C8 K mainGlobals "stretched" = some (some (.ref qDQ))) (qGC:K.lookup qDQ=some ⟨qNG,qNF,.func (V2 "stretched" "stretched" (qFJ qCC) (qEE qCC) (qAE qCC) .none qNX qOG qN9 qP4 (.ref qE5) qOI),qN5⟩) (qGH:Z0 K (.ref qE5) "stretched" = true) (qGD:P8 K (.ref qDQ)=true)
  (qMR:C8 K mainGlobals "joined" = some (some (.ref qIU))) (F_joined:∃ fd,Fun K "joined" "joined" qIM qIU fd)
  (qEF:C8 K mainGlobals "joined_parts" = some (some (.ref qD0))) (F_joined_parts:∃ fd,Fun K "joined_parts" "joined_parts" qCX qD0 fd)
  (qFQ:C8 K mainGlobals "parts_over" = some (some (.ref qD5))) (qFC:K.lookup qD5=some ⟨qM0,qLZ,.func (V2 "parts_over" "parts_over" (qFJ qBX) (qEE qBX) (qAE qBX) .none qM8 qMH qLW qMQ (.ref qDD) qMI),qLO⟩) (qFM:Z0 K (.ref qDD) "parts_over" = true) (qFD:P8 K (.ref qD5)=true)
  (qFO:C8 K mainGlobals "wide_order" = some (some (.ref qCH))) (F_wide_order:∃ fd,Fun K "wide_order" "wide_order" qDW qCH fd)
  (qFN:C8 K mainGlobals "wide_rooms" = some (some (.ref qE2))) (F_wide_rooms:∃ fd,Fun K "wide_rooms" "wide_rooms" qDV qE2 fd)
  (qMV:C8 K mainGlobals "_law_begin" = some (some (.ref qIY))) (F_Lbegin:∃ fd,Fun K "_law_begin" "_law_begin" qIQ qIY fd)
  (qQD:C8 K mainGlobals "_law_take" = some (some (.ref qCF))) (F_Ltake:∃ fd,Fun K "_law_take" "_law_take" qLR qCF fd)
  (qQE:C8 K mainGlobals "_law_same" = some (some (.ref qFI))) (F_Lsame:∃ fd,Fun K "_law_same" "_law_same" qJH qFI fd)
  (qEZ:C8 K mainGlobals "_law_some_needs" = some (some (.ref qCA))) (F_Lsome_needs:∃ fd,Fun K "_law_some_needs" "_law_some_needs" qDA qCA fd)
  (qGK:C8 K mainGlobals "_law_tree_net" = some (some (.ref qCV))) (F_Ltree_net:∃ fd,Fun K "_law_tree_net" "_law_tree_net" qEJ qCV fd)
  (qW1:C8 K mainGlobals "_law_net" = some (some (.ref qRF))) (F_Lnet:∃ fd,Fun K "_law_net" "_law_net" qQQ qRF fd)
  (qKC:C8 K mainGlobals "_law_needed" = some (some (.ref qD6))) (F_Lneeded:∃ fd,Fun K "_law_needed" "_law_needed" qGQ qD6 fd)
  (qMS:C8 K mainGlobals "_law_wides" = some (some (.ref qIV))) (F_Lwides:∃ fd,Fun K "_law_wides" "_law_wides" qIN qIV fd)
  (qKD:C8 K mainGlobals "_law_ground" = some (some (.ref qH9))) (F_Lground:∃ fd,Fun K "_law_ground" "_law_ground" qGR qH9 fd)
  (qMT:C8 K mainGlobals "_law_taken" = some (some (.ref qIW))) (F_Ltaken:∃ fd,Fun K "_law_taken" "_law_taken" qIO qIW fd)
  (qGL:C8 K mainGlobals "_law_is_order" = some (some (.ref qEX))) (F_Lis_order:∃ fd,Fun K "_law_is_order" "_law_is_order" qEK qEX fd)
  (qFS:C8 K mainGlobals "_law_any_order" = some (some (.ref qE4))) (F_Lany_order:∃ fd,Fun K "_law_any_order" "_law_any_order" qDZ qE4 fd)
  (qMU:C8 K mainGlobals "_law_hills" = some (some (.ref qIX))) (F_Lhills:∃ fd,Fun K "_law_hills" "_law_hills" qIP qIX fd)
  (qHU:C8 K mainGlobals "_law_falling" = some (some (.ref qG3))) (F_Lfalling:∃ fd,Fun K "_law_falling" "_law_falling" qG0 qG3 fd)
  (qa1:C8 K mainGlobals "law" = some (some (.ref qZS))) (qZI:K.lookup qZS=some ⟨qb4,qb3,.func (V2 "law" "law" (qFJ qKG) (qEE qKG) (qAE qKG) .none qY4 qYA qXU qYF qVI qYB),qaL⟩) (qZW:Z0 K qVI "law" = true) (qZK:P8 K (.ref qZS)=true)
  (qCG:hdIn K qE5 qFT=true)
  (qC4:hdIn K qDD qF0=true)
  (qG7:C8 K mainGlobals "all" = some none)
  (qIA:C8 K mainGlobals "any" = some none)
  (qF5:C8 K mainGlobals "bool" = some none)
  (qKN:C8 K mainGlobals "dict" = some none)
  (qFV:C8 K mainGlobals "divmod" = some none)
  (qBT:C8 K mainGlobals "enumerate" = some none)
  (qF3:C8 K mainGlobals "int" = some none)
  (qAD:C8 K mainGlobals "isinstance" = some none)
  (qBQ:C8 K mainGlobals "len" = some none)
  (qCL:C8 K mainGlobals "list" = some none)
  (qDS:C8 K mainGlobals "max" = some none)
  (qI9:C8 K mainGlobals "min" = some none)
  (qAP:C8 K mainGlobals "range" = some none)
  (qDE:C8 K mainGlobals "reversed" = some none)
  (qLG:C8 K mainGlobals "set" = some none)
  (qAT:C8 K mainGlobals "sorted" = some none)
  (qLF:C8 K mainGlobals "str" = some none)
  (qLE:C8 K mainGlobals "sum" = some none)
  (qAM:C8 K mainGlobals "tuple" = some none)
  (qMW:C8 K mainGlobals "zip" = some none)
  : ∃ fd:FuncData,(∀ (s:Shared) (v:Value),BindsTo s fd ⟨[v],[]⟩ [("_law_script",v)])/\∀ base:Heap,K.In base->base.Ns mainGlobals mg->BM mg base->FnOk l.prog w K mg base CX0 8 fa fd ["_law_script"] (qLM K qFT qF0):=by
 have e:=hfa.symm.trans (F1 X G qa1);cases e;obtain ⟨qC7,F_all_needed⟩:=F_all_needed;have qP0:=F_all_needed.binds (ps:=["net","asked"]) fun _ _ _ _ _ _ us hl=>us2 us hl (fun _ _=>rfl);have qNM:=F1 X G qFR;obtain ⟨qH5,F_use_counts⟩:=F_use_counts;have qOY:=F_use_counts.binds (ps:=["net","works"]) fun _ _ _ _ _ _ us hl=>us2 us hl (fun _ _=>rfl);have qNK:=F1 X G qFP;obtain ⟨qL9,F_is_tree⟩:=F_is_tree;have qVV:=F_is_tree.binds (ps:=["net","work"]) fun _ _ _ _ _ _ us hl=>us2 us hl (fun _ _=>rfl);have qU9:=F1 X G qKB;obtain ⟨qCY,F_demand_tree⟩:=F_demand_tree;have qMN:=F_demand_tree.binds (ps:=["net","work"]) fun _ _ _ _ _ _ us hl=>us2 us hl (fun _ _=>rfl);have qM4:=F1 X G qEY;obtain ⟨qEW,F_taken_by⟩:=F_taken_by;have qSH:=F_taken_by.binds (ps:=["net","wides","work","order"]) fun _ _ _ _ _ _ us hl=>us4 us hl (fun _ _ _ _=>rfl);have qS6:=F1 X G qHT;have F_stretched:=fun_mk (st:=qCC) qGC qGH qGD;have qQ7:=F_stretched.binds (ps:=["net","wides","work"]) fun _ _ _ _ _ _ us hl=>us3 us hl (fun _ _ _=>rfl);have qPP:=F1 X G qGJ;obtain ⟨qO8,F_joined⟩:=F_joined;have qXI:=F_joined.binds (ps:=["one","other"]) fun _ _ _ _ _ _ us hl=>us2 us hl (fun _ _=>rfl);have qWR:=F1 X G qMR;obtain ⟨qFH,F_joined_parts⟩:=F_joined_parts;have qKL:=F_joined_parts.binds (ps:=["parts"]) fun _ _ _ _ _ _ us hl=>us1 us hl (fun _=>rfl);have qKI:=F1 X G qEF;have F_parts_over:=fun_mk (st:=qBX) qFC qFM qFD;have qOZ:=F_parts_over.binds (ps:=["net","wides","work","own"]) fun _ _ _ _ _ _ us hl=>us4 us hl (fun _ _ _ _=>rfl);have qNL:=F1 X G qFQ;obtain ⟨qDC,F_wide_order⟩:=F_wide_order;have qOX:=F_wide_order.binds (ps:=["net","wides","work"]) fun _ _ _ _ _ _ us hl=>us3 us hl (fun _ _ _=>rfl);have qNJ:=F1 X G qFO;obtain ⟨qH4,F_wide_rooms⟩:=F_wide_rooms;have qOW:=F_wide_rooms.binds (ps:=["net","wides","work"]) fun _ _ _ _ _ _ us hl=>us3 us hl (fun _ _ _=>rfl);have qNI:=F1 X G qFN;obtain ⟨qOC,F_Lbegin⟩:=F_Lbegin;have qXM:=F_Lbegin.binds (ps:=["_law_script"]) fun _ _ _ _ _ _ us hl=>us1 us hl (fun _=>rfl);have qWV:=F1 X G qMV;obtain ⟨qC8,F_Ltake⟩:=F_Ltake;have qZY:=F_Ltake.binds (ps:=["_law_state","_law_many"]) fun _ _ _ _ _ _ us hl=>us2 us hl (fun _ _=>rfl);have qZB:=F1 X G qQD;obtain ⟨qH6,F_Lsame⟩:=F_Lsame;have qGI:=F_Lsame.binds (ps:=["_law_found","_law_due"]) fun _ _ _ _ _ _ us hl=>us2 us hl (fun _ _=>rfl);have qGA:=F1 X G qQE;obtain ⟨qCZ,F_Lsome_needs⟩:=F_Lsome_needs;have qMO:=F_Lsome_needs.binds (ps:=["_law_state","_law_k"]) fun _ _ _ _ _ _ us hl=>us2 us hl (fun _ _=>rfl);have qM5:=F1 X G qEZ;obtain ⟨qE1,F_Ltree_net⟩:=F_Ltree_net;have qQ8:=F_Ltree_net.binds (ps:=["_law_state","_law_many"]) fun _ _ _ _ _ _ us hl=>us2 us hl (fun _ _=>rfl);have qPQ:=F1 X G qGK;obtain ⟨qV4,F_Lnet⟩:=F_Lnet;have qbS:=F_Lnet.binds (ps:=["_law_state","_law_many"]) fun _ _ _ _ _ _ us hl=>us2 us hl (fun _ _=>rfl);have qb6:=F1 X G qW1;obtain ⟨qDH,F_Lneeded⟩:=F_Lneeded;have qVW:=F_Lneeded.binds (ps:=["_law_net_here","_law_asked"]) fun _ _ _ _ _ _ us hl=>us2 us hl (fun _ _=>rfl);have qUA:=F1 X G qKC;obtain ⟨qO9,F_Lwides⟩:=F_Lwides;have qXJ:=F_Lwides.binds (ps:=["_law_state","_law_many"]) fun _ _ _ _ _ _ us hl=>us2 us hl (fun _ _=>rfl);have qWS:=F1 X G qMS;obtain ⟨qLA,F_Lground⟩:=F_Lground;have qVX:=F_Lground.binds (ps:=["_law_state","_law_many"]) fun _ _ _ _ _ _ us hl=>us2 us hl (fun _ _=>rfl);have qUB:=F1 X G qKD;obtain ⟨qOA,F_Ltaken⟩:=F_Ltaken;have qXK:=F_Ltaken.binds (ps:=["_law_net_here","_law_wides_here","_law_order"]) fun _ _ _ _ _ _ us hl=>us3 us hl (fun _ _ _=>rfl);have qWT:=F1 X G qMT;obtain ⟨qI2,F_Lis_order⟩:=F_Lis_order;have qQ9:=F_Lis_order.binds (ps:=["_law_net_here","_law_work","_law_order"]) fun _ _ _ _ _ _ us hl=>us3 us hl (fun _ _ _=>rfl);have qPR:=F1 X G qGL;obtain ⟨qH7,F_Lany_order⟩:=F_Lany_order;have qP1:=F_Lany_order.binds (ps:=["_law_state","_law_net_here","_law_work"]) fun _ _ _ _ _ _ us hl=>us3 us hl (fun _ _ _=>rfl);have qNN:=F1 X G qFS;obtain ⟨qOB,F_Lhills⟩:=F_Lhills;have qXL:=F_Lhills.binds (ps:=["_law_net_here","_law_wides_here","_law_work"]) fun _ _ _ _ _ _ us hl=>us3 us hl (fun _ _ _=>rfl);have qWU:=F1 X G qMU;obtain ⟨qK3,F_Lfalling⟩:=F_Lfalling;have qSI:=F_Lfalling.binds (ps:=["_law_parts"]) fun _ _ _ _ _ _ us hl=>us1 us hl (fun _=>rfl);have qS7:=F1 X G qHU;have qcV:=fun_mk (st:=qKG) qZI qZW qZK;have qSN:=E3 X G qG7;have qSM:=E3 X G qIA;have qSL:=E3 X G qF5;have qYH:=E3 X G qKN;have qSK:=E3 X G qFV;have qHV:=E3 X G qBT;have qQG:=E3 X G qF3;have qGN:=E3 X G qAD;have qGM:=E3 X G qBQ;have qLD:=E3 X G qCL;have qKM:=E3 X G qDS;have qSJ:=E3 X G qI9;have qDU:=E3 X G qAP;have qP5:=E3 X G qDE;have qXR:=E3 X G qLG;have qDJ:=E3 X G qAT;have qa5:=E3 X G qLF;have qXQ:=E3 X G qLE;have qFU:=E3 X G qAM;have qa4:=E3 X G qMW;refine ⟨V2 "law" "law" (qFJ qKG) (qEE qKG) (qAE qKG) .none qY4 qYA qXU qYF qVI qYB,fun s v=>.of_eq rfl,fun base _ _ hBM=>?_⟩;have qAZ:=Clb.mk (ok_all_needed (P:=l.prog) (w:=w) (mg:=mg) (base:=base) (F:=F_all_needed) (qBQ:=qGM) (qAP:=qDU) (qAT:=qDJ)) qP0 F_all_needed.kp qNM;have qE6:=Clb.mk (ok_use_counts (P:=l.prog) (w:=w) (mg:=mg) (base:=base) (F:=F_use_counts) (qBQ:=qGM)) qOY F_use_counts.kp qNK;have qHE:=Clb.mk (ok_is_tree (P:=l.prog) (w:=w) (mg:=mg) (base:=base) (F:=F_is_tree) (qAZ:=qAZ) (qE6:=qE6) (qG7:=qSN)) qVV F_is_tree.kp qU9;have qBK:=Clb.mk (ok_demand_tree (P:=l.prog) (w:=w) (mg:=mg) (base:=base) (F:=F_demand_tree) (qHE:=qHE)) qMN F_demand_tree.kp qM4;have qCJ:=Clb.mk (ok_taken_by (P:=l.prog) (w:=w) (mg:=mg) (base:=base) (F:=F_taken_by)) qSH F_taken_by.kp qS6;have qF1:=Clb.mk (ok_stretched (P:=l.prog) (w:=w) (mg:=mg) (base:=base) (F:=F_stretched) (qBK:=qBK) (qAZ:=qAZ) (qCJ:=qCJ) (qDS:=qKM) (qAT:=qDJ) (hcd:=rfl) (hBM:=hBM) (qCG:=qCG)) qQ7 F_stretched.kp qPP;have qJ2:=Clb.mk (ok_joined (P:=l.prog) (w:=w) (mg:=mg) (base:=base) (F:=F_joined) (qDS:=qKM)) qXI F_joined.kp qWR;have qD1:=Clb.mk (ok_joined_parts (P:=l.prog) (w:=w) (mg:=mg) (base:=base) (F:=F_joined_parts) (qJ2:=qJ2)) qKL F_joined_parts.kp qKI;have qE7:=Clb.mk (ok_parts_over (P:=l.prog) (w:=w) (mg:=mg) (base:=base) (F:=F_parts_over) (qD1:=qD1) (qAT:=qDJ) (qLE:=qXQ) (hcd:=rfl) (hBM:=hBM) (qC4:=qC4)) qOZ F_parts_over.kp qNL;have qBJ:=Clb.mk (ok_wide_order (P:=l.prog) (w:=w) (mg:=mg) (base:=base) (F:=F_wide_order) (qBK:=qBK) (qAZ:=qAZ) (qE7:=qE7)) qOX F_wide_order.kp qNJ;have qCI:=Clb.mk (ok_wide_rooms (P:=l.prog) (w:=w) (mg:=mg) (base:=base) (F:=F_wide_rooms) (qCJ:=qCJ) (qBJ:=qBJ) (qDS:=qKM)) qOW F_wide_rooms.kp qNI;have qJ5:=Clb.mk (ok_Lbegin (P:=l.prog) (w:=w) (mg:=mg) (base:=base) (F:=F_Lbegin) (qCL:=qLD)) qXM F_Lbegin.kp qWV;have qAH:=Clb.mk (ok_Ltake (P:=l.prog) (w:=w) (mg:=mg) (base:=base) (F:=F_Ltake) (qFV:=qSK) (qBQ:=qGM)) qZY F_Ltake.kp qZB;have qKE:=Clb.mk (ok_Lsame (P:=l.prog) (w:=w) (mg:=mg) (base:=base) (F:=F_Lsame) (qGI:=qGI) (qM7:=F_Lsame.kp) (qGA:=qGA) (n:=2) (qG7:=qSN) (qF5:=qSL) (qF3:=qQG) (qAD:=qGN) (qBQ:=qGM) (qCL:=qLD) (qLF:=qa5) (qAM:=qFU) (qMW:=qa4)) qGI F_Lsame.kp qGA;have qB9:=Clb.mk (ok_Lsome_needs (P:=l.prog) (w:=w) (mg:=mg) (base:=base) (F:=F_Lsome_needs) (qAH:=qAH) (qI9:=qSJ) (qAP:=qDU) (qLG:=qXR) (qAT:=qDJ) (qAM:=qFU)) qMO F_Lsome_needs.kp qM5;have qC2:=Clb.mk (ok_Ltree_net (P:=l.prog) (w:=w) (mg:=mg) (base:=base) (F:=F_Ltree_net) (qAH:=qAH) (qBQ:=qGM) (qI9:=qSJ) (qAP:=qDU) (qAM:=qFU)) qQ8 F_Ltree_net.kp qPQ;have qRP:=Clb.mk (ok_Lnet (P:=l.prog) (w:=w) (mg:=mg) (base:=base) (F:=F_Lnet) (qAH:=qAH) (qC2:=qC2) (qB9:=qB9) (qBT:=qHV) (qF3:=qQG) (qDS:=qKM) (qAP:=qDU) (qLG:=qXR) (qAT:=qDJ) (qAM:=qFU)) qbS F_Lnet.kp qb6;have qBV:=Clb.mk (ok_Lneeded (P:=l.prog) (w:=w) (mg:=mg) (base:=base) (F:=F_Lneeded) (qBQ:=qGM) (qAP:=qDU)) qVW F_Lneeded.kp qUA;have qJ3:=Clb.mk (ok_Lwides (P:=l.prog) (w:=w) (mg:=mg) (base:=base) (F:=F_Lwides) (qAH:=qAH) (qAP:=qDU) (qAM:=qFU)) qXJ F_Lwides.kp qWS;have qHG:=Clb.mk (ok_Lground (P:=l.prog) (w:=w) (mg:=mg) (base:=base) (F:=F_Lground) (qC2:=qC2) (qAH:=qAH) (qRP:=qRP) (qB9:=qB9) (qBQ:=qGM) (qAP:=qDU) (qAM:=qFU)) qVX F_Lground.kp qUB;have qHF:=Clb.mk (ok_Ltaken (P:=l.prog) (w:=w) (mg:=mg) (base:=base) (F:=F_Ltaken) (qBT:=qHV) (qLE:=qXQ)) qXK F_Ltaken.kp qWT;have qF2:=Clb.mk (ok_Lis_order (P:=l.prog) (w:=w) (mg:=mg) (base:=base) (F:=F_Lis_order) (qBV:=qBV) (qG7:=qSN) (qIA:=qSM) (qF5:=qSL) (qF3:=qQG) (qAD:=qGN) (qCL:=qLD) (qAT:=qDJ)) qQ9 F_Lis_order.kp qPR;have qE8:=Clb.mk (ok_Lany_order (P:=l.prog) (w:=w) (mg:=mg) (base:=base) (F:=F_Lany_order) (qBV:=qBV) (qAH:=qAH) (qIA:=qSM) (qKN:=qYH) (qBQ:=qGM)) qP1 F_Lany_order.kp qNN;have qG5:=Clb.mk (ok_Lfalling (P:=l.prog) (w:=w) (mg:=mg) (base:=base) (F:=F_Lfalling) (qDS:=qKM) (qDE:=qP5)) qSI F_Lfalling.kp qS7;have qJ4:=Clb.mk (ok_Lhills (P:=l.prog) (w:=w) (mg:=mg) (base:=base) (F:=F_Lhills) (qBV:=qBV) (qG5:=qG5) (qAT:=qDJ)) qXL F_Lhills.kp qWU;exact ok_law (P:=l.prog) (w:=w) (mg:=mg) (base:=base) (F:=qcV) (qJ5:=qJ5) (qAH:=qAH) (qHG:=qHG) (qJ3:=qJ3) (qJ4:=qJ4) (qBJ:=qBJ) (qF2:=qF2) (qKE:=qKE) (qCI:=qCI) (qF1:=qF1) (qHF:=qHF) (qE8:=qE8) (qIA:=qSM) (qF3:=qQG) (qBQ:=qGM) (qCL:=qLD) (qDS:=qKM) (qI9:=qSJ) (qAP:=qDU)
def tabsL:List LTab:=[⟨"stretched",78,74,"stretched.<locals>.<lambda>"⟩,⟨"parts_over",97,95,"parts_over.<locals>.<lambda>"⟩]
theorem walk {l:PySem.W.OpenLaw} {q:Program} {loose:List Str} {XP:(Str->Option Value)->Heap->Prop} {YP:World->Heap->Prop} {d:DefRec} {K:Params->PySem.W.Frag} (hn:l.most=some 63) (hdf:d.params.defaults=[])
  (hY:∀ (w:World) (h:Heap),YP w h->(K w.params).In h)
  (hrec:∀ t ∈ tabsL,((PyProof.Rows.recsOf q).find? fun e=>e.name == t.x).isSome=true) (htab:∀ (w:World),∀ t ∈ tabsL,A91 (K w.params) t.x=some (t.c,t.P)) (hK:∀ w:World,A25 (K w.params)=true)
  (F:∀ (w:World) (mg:Str->Option Value) (fa:Addr) (h:Heap),(K w.params).In h->h.Ns mainGlobals mg->mg d.name=some (.ref fa)->
   ∃ fd:FuncData,(∀ (s:Shared) (u:Value),BindsTo s fd ⟨[u],[]⟩ [("_law_script",u)])/\∀ base:Heap,(K w.params).In base->base.Ns mainGlobals mg->BM mg base->FnOk l.prog w (K w.params) mg base CX0 8 fa fd ["_law_script"] (qLM (K w.params) 74 95)) :
  PySem.W.WalkO q loose XP YP l.row.toRowW d [] (fun f vs=>A84 f vs):=
 L2.walk_ofT (n:=63) (k:=8) (x:="_law_script") (sp:=fun w=>qLM (K w.params) 74 95) tabsL hn (by decide) hdf ⟨rfl,by decide,by decide,rfl⟩ hY hrec htab hK (fun t h t' h' _=>by simp only [tabsL,B5,L5,or_false] at h h';rcases h with rfl | rfl <;> rcases h' with rfl | rfl <;> first | rfl | (rename_i q;exact absurd q (by decide))) F fun _ _ a ns hl hO hS=>⟨hO _ A8,hO _ (A5 _ A8),a,ns,rfl,hS,hl,fun _=>rfl⟩
end Fw
open PySem PySem.W PyProof.Rows
set_option maxRecDepth 100000 in
set_option maxHeartbeats 0 in
theorem PySem.Challenge.cw_fewrooms_k28_great_trees_holds : PySem.Challenge.rw_fewrooms_k28_great_trees.Holds := by
 w_on;refine holds_law Fw.hpSaid fun said=>?_
 refine holds_open (q:=Fw.hpQ) (Xt:=Fw.hpX) (XP:=XL Fw.hpQ []) (YP:=(kHook Fw.hpK Fw.hpA Fw.hpE).says)
  Fw.hpLeft (kHook Fw.hpK Fw.hpA Fw.hpE).of (kHook Fw.hpK Fw.hpA Fw.hpE).keeps (fun s e=>xl_of s (A20.mp e).1) XL.keeps
  (by rfl) (by rfl) (by rfl) (fun s e=>recFacts_of (A20.mp e).2) (by rfl)
  (by first | assumption | decide +kernel) (by decide +kernel) ⟨rfl,rfl,rfl,rfl,rfl,by decide +kernel⟩ ?hw ?hc
 case hw=>w_witness2
 k_fill
 refine Fw.walk (l:=PySem.Challenge.rw_fewrooms_k28_great_trees) rfl rfl (fun w h Y=>PySem.W.kIn_of Y) ?hrec ?htab ?hK ?F
 case hrec=>intro t ht;simp only [Fw.tabsL,B5,L5,or_false] at ht;rcases ht with rfl | rfl <;> kernel_rfl
 case htab=>intro w t ht;simp only [Fw.tabsL,B5,L5,or_false] at ht;rcases ht with rfl | rfl <;> kernel_rfl
 case hK=>intro w;kernel_rfl
 case F=>
  intro w mg fa h KX G hmg;refine' Fw.all_mk (qE5:=78) (qFT:=74) (qDD:=97) (qF0:=95) KX G hmg ?qFR ?F_all_needed ?qFP ?F_use_counts ?qKB ?F_is_tree ?qEY ?F_demand_tree ?qHT ?F_taken_by ?qGJ ?qGC ?qGH ?qGD ?qMR ?F_joined ?qEF ?F_joined_parts ?qFQ ?qFC ?qFM ?qFD ?qFO ?F_wide_order ?qFN ?F_wide_rooms ?qMV ?F_Lbegin ?qQD ?F_Ltake ?qQE ?F_Lsame ?qEZ ?F_Lsome_needs ?qGK ?F_Ltree_net ?qW1 ?F_Lnet ?qKC ?F_Lneeded ?qMS ?F_Lwides ?qKD ?F_Lground ?qMT ?F_Ltaken ?qGL ?F_Lis_order ?qFS ?F_Lany_order ?qMU ?F_Lhills ?qHU ?F_Lfalling ?qa1 ?qZI ?qZW ?qZK ?qCG ?qC4 ?qG7 ?qIA ?qF5 ?qKN ?qFV ?qBT ?qF3 ?qAD ?qBQ ?qCL ?qDS ?qI9 ?qAP ?qDE ?qLG ?qAT ?qLF ?qLE ?qAM ?qMW
  (case qFR=>k_is)
  (case F_all_needed=>exact ⟨_,L2.fun_mk (by k_is) (by k_is) (by k_is)⟩)
  (case qFP=>k_is)
  (case F_use_counts=>exact ⟨_,L2.fun_mk (by k_is) (by k_is) (by k_is)⟩)
  (case qKB=>k_is)
  (case F_is_tree=>exact ⟨_,L2.fun_mk (by k_is) (by k_is) (by k_is)⟩)
  (case qEY=>k_is)
  (case F_demand_tree=>exact ⟨_,L2.fun_mk (by k_is) (by k_is) (by k_is)⟩)
  (case qHT=>k_is)
  (case F_taken_by=>exact ⟨_,L2.fun_mk (by k_is) (by k_is) (by k_is)⟩)
  (case qGJ=>k_is)
  (case qGC=>k_is)
  (case qGH=>k_is)
  (case qGD=>k_is)
  (case qMR=>k_is)
  (case F_joined=>exact ⟨_,L2.fun_mk (by k_is) (by k_is) (by k_is)⟩)
  (case qEF=>k_is)
  (case F_joined_parts=>exact ⟨_,L2.fun_mk (by k_is) (by k_is) (by k_is)⟩)
  (case qFQ=>k_is)
  (case qFC=>k_is)
  (case qFM=>k_is)
  (case qFD=>k_is)
  (case qFO=>k_is)
  (case F_wide_order=>exact ⟨_,L2.fun_mk (by k_is) (by k_is) (by k_is)⟩)
  (case qFN=>k_is)
  (case F_wide_rooms=>exact ⟨_,L2.fun_mk (by k_is) (by k_is) (by k_is)⟩)
  (case qMV=>k_is)
  (case F_Lbegin=>exact ⟨_,L2.fun_mk (by k_is) (by k_is) (by k_is)⟩)
  (case qQD=>k_is)
  (case F_Ltake=>exact ⟨_,L2.fun_mk (by k_is) (by k_is) (by k_is)⟩)
  (case qQE=>k_is)
  (case F_Lsame=>exact ⟨_,L2.fun_mk (by k_is) (by k_is) (by k_is)⟩)
  (case qEZ=>k_is)
  (case F_Lsome_needs=>exact ⟨_,L2.fun_mk (by k_is) (by k_is) (by k_is)⟩)
  (case qGK=>k_is)
  (case F_Ltree_net=>exact ⟨_,L2.fun_mk (by k_is) (by k_is) (by k_is)⟩)
  (case qW1=>k_is)
  (case F_Lnet=>exact ⟨_,L2.fun_mk (by k_is) (by k_is) (by k_is)⟩)
  (case qKC=>k_is)
  (case F_Lneeded=>exact ⟨_,L2.fun_mk (by k_is) (by k_is) (by k_is)⟩)
  (case qMS=>k_is)
  (case F_Lwides=>exact ⟨_,L2.fun_mk (by k_is) (by k_is) (by k_is)⟩)
  (case qKD=>k_is)
  (case F_Lground=>exact ⟨_,L2.fun_mk (by k_is) (by k_is) (by k_is)⟩)
  (case qMT=>k_is)
  (case F_Ltaken=>exact ⟨_,L2.fun_mk (by k_is) (by k_is) (by k_is)⟩)
  (case qGL=>k_is)
  (case F_Lis_order=>exact ⟨_,L2.fun_mk (by k_is) (by k_is) (by k_is)⟩)
  (case qFS=>k_is)
  (case F_Lany_order=>exact ⟨_,L2.fun_mk (by k_is) (by k_is) (by k_is)⟩)
  (case qMU=>k_is)
  (case F_Lhills=>exact ⟨_,L2.fun_mk (by k_is) (by k_is) (by k_is)⟩)
  (case qHU=>k_is)
  (case F_Lfalling=>exact ⟨_,L2.fun_mk (by k_is) (by k_is) (by k_is)⟩)
  (case qa1=>k_is)
  (case qZI=>k_is)
  (case qZW=>k_is)
  (case qZK=>k_is)
  (case qCG=>kernel_rfl)
  (case qC4=>kernel_rfl)
  (case qG7=>k_is)
  (case qIA=>k_is)
  (case qF5=>k_is)
  (case qKN=>k_is)
  (case qFV=>k_is)
  (case qBT=>k_is)
  (case qF3=>k_is)
  (case qAD=>k_is)
  (case qBQ=>k_is)
  (case qCL=>k_is)
  (case qDS=>k_is)
  (case qI9=>k_is)
  (case qAP=>k_is)
  (case qDE=>k_is)
  (case qLG=>k_is)
  (case qAT=>k_is)
  (case qLF=>k_is)
  (case qLE=>k_is)
  (case qAM=>k_is)
  (case qMW=>k_is)

