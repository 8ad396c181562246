import PyProof.Rows.All
import Wide.All
import OpenK.AllK
import Wide.FinOn
import Lean
import PyProof.EqAt
import PyProof.EqKinds
import PyProof.TupleCall
import PySem.Challenge.RW_fewrooms_k19_shortened
open Array renaming length_toList→E7,getElem?_eq_getElem→G1,getD_eq_getD_getElem?→G2,getElem?_toList→O4,perm_iff_toList_perm→j4,toList_zip→A46,toList_map→A47,toList→A77
open Bool renaming false_ne_true→C2,and_eq_true→E1,eq_false_iff→F9,false_eq_true→L5,eq_iff_iff→L7,or_eq_true→M8,not_eq_true'→R9,false_and→W3,and_false→m5,true_and→t6,and_eq_true_iff→A03,not_true→A21,false_or→A70
open Classical renaming em→A41
open False renaming elim→X2
open ForInStep renaming yield→M5,done→b7
open Int renaming toNat_natCast→G3,le_refl→U1,emod_lt_of_pos→U8,emod_nonneg→W8,fdiv_eq_ediv_of_nonneg→i8,fmod_eq_emod_of_nonneg→i9,le_of_lt→A39
open List renaming length_map→A0,getElem?_eq_some_iff→A1,getElem?_eq_getElem→A3,length_append→A4,mem_singleton→A6,mem_cons_of_mem→A7,length_singleton→A9,mem_filter→B0,map_append→B1,length_cons→B3,mem_of_getElem?→B4,getElem?_map→B5,mem_cons→B7,mem_append→B8,mem_cons_self→C0,length_take→C1,size_toArray→C6,length_filter_le→C7,range→C8,take_add_one→D5,drop_eq_getElem_cons→D6,map_cons→D7,replicate→E9,mem_append_right→F3,mem_map→F4,length_drop→F5,pairwise_cons→G0,take_length→G5,append_assoc→G8,all_eq_true→G9,mem_range→J1,take_append_drop→J5,pairwise_iff_getElem→J6,take_of_length_le→J8,range'→J9,filter_cons→L0,getElem?_append_right→L4,filter_append→L6,filterMap_cons→O0,flatten_cons→O3,append_nil→O7,mem_append_left→O8,getD_eq_getElem?_getD→O9,drop_eq_nil_of_le→P0,replicate_succ→P3,getElem?_append_left→Q0,length_nil→Q2,nodup_cons→Q4,lookup_cons_self→Q6,getElem?_take_of_lt→Q7,mem_of_mem_drop→Q8,length_range→T5,forIn_cons→T8,mem_iff_getElem→V2,pairwise_map→V7,mem_range'_1→V8,take_succ_cons→V9,lookup_cons→W1,length_replicate→W5,find?_cons→W7,perm_ext_iff_of_nodup→X4,not_mem_nil→X8,getElem_of_mem→Y0,getElem_range'→Y1,any_cons→Y8,foldl_cons→Y9,nil_append→Z0,length_eq_zero_iff→Z3,length_range'→Z5,getElem?_set_self→Z6,getElem_drop→b5,nodup_append→b6,getElem?_eq_none→c5,perm_append_comm→c6,mem_iff_getElem?→c7,cons_append→c8,drop_length→c9,getLast?_eq_some_getLast→d0,getElem?_set_ne→d4,pairwise_append→d5,mem_of_mem_take→d6,map_congr_left→i6,filter_eq_self→i7,zip_cons_cons→j7,map_nil→j8,map_map→k7,filter_filter→k9,getElem?_drop→l7,range'_concat→l8,drop_zero→m7,getLast?_eq_some_iff→m8,drop_drop→m9,take_sublist→n9,getElem_take→o6,drop_sublist→o7,length_filterMap_le→p9,getLast?_map→q0,any_eq_true→u8,pairwise_lt_range→w6,length_pos_of_mem→x5,append_eq_nil_iff→x6,of_mem_zip→y7,length_set→y8,mem_of_getLast?→A01,length_reverse→A07,getElem?_range→A09,flatten_append→A11,mem_filterMap→A15,map_singleton→A23,reverse_cons→A29,mapM_toArray→A35,map_set→A40,getElem_mem→A44,map→A51,range_succ→A55,foldl_nil→A58,forIn_nil→A59,mapM_cons→A60,take_take→A61,foldl→A63,all_cons→A69,findIdx?→A71,map_drop→A73,map_take→A74,take_add→A75
open List.Nodup renaming length_le_of_subset→J4
open List.Pairwise renaming nil→V6,filter→A02
open List.Perm renaming append_left→W9
open Nat renaming le_refl→A5,lt_of_lt_of_le→E5,ne_of_lt→E6,zero_le→E8,le_trans→F6,lt_irrefl→O6,lt_succ_of_lt→P8,le_of_lt→R4,lt_trichotomy→R8,le_of_not_lt→W0,lt_of_le_of_lt→W4,le_of_succ_le→X3,ne_of_gt→Y2,lt_or_ge→Y6,min_eq_left→Z4,lt_trans→j9,le_succ→t8,mul_le_mul_left→A10,add_sub_cancel→A22,mod_lt→A31,sub_self→A36,zero_add→A37,succ_ne_self→A45
open Ne renaming symm→J2
open Option renaming toList_some→D4,map_some→Q5,map_eq_some_iff→U3,getD_some→U5,isSome_iff_exists→V4,isSome_map→o5,isSome_some→A18,getD_none→A43,none→A83
open Option.some renaming inj→A8,injEq→A30
open Or renaming inl→C5,inr→X7
open Prod renaming fst→b8,snd→u0,ext→A84
open PyProof renaming noPylong_small→Z7
open PyProof.Rows renaming callWith_type1→J3,slot_tuple_getitem→V5
open PyProof.Rows.IntsAre renaming int_at→e7
open PySem renaming mem_of_lookup→G7,call→A64
open PySem.Around renaming under_plainId→J7
open PySem.Builtin.Builtins renaming bindParams→i5
open PySem.Builtin.Frozenset renaming updateFrom→A49,newClass→A57,sizeOf→A65,slot0→A72
open PySem.Builtin.List renaming listTooLong→Y5,listLengthHint→f9
open PySem.Builtin.Range renaming rangeSize→Q9,small→A08
open PySem.Builtin.Slice renaming slicePlaces→V0,sliceAdjust→X6,sliceApplied→j3
open PySem.Builtin.SmallTypes renaming ownedTupleIsFree→U0,nextOf→V1,newRecord→A50
open PySem.Builtin.Tuple renaming tupleExact→O1
open PySem.Calls renaming callWith_builtin→U2,spliced_cons→U7,evalArgs_plain→X5,spliced_nil→a8,call_function_entry→m6
open PySem.Data renaming cell→y0,fields→A06,seq→A86
open PySem.F renaming plainAttrs_list→E2,slot_list_append→E3,type_list_append→E4,slot_tuple_iterator_next→U4,plain_max_loop→U6,called_set→X0,slot_zip_next→X1,args_tuple_add_2→Y3,entry_tuple_add→Y7,plainAttrs_dict→Z1,slot_tuple_add→Z9,slot_dict_get→b9,args_tuple_iterator_next_1→d8,slot_dict_setdefault→d9,entry_tuple_iterator_next→i4,slot_dict_delitem→m4,args_zip_next_1→o9,args_dict_get_3→t5,plain_list_iadd→t9,entry_zip_next→u6,entry_max_loop→u7,entry_dict_get→w5,slot_dict_pop→y9,slot_tuple_lt→z8,called_tuple→A05,plain_tuple_new→A33
open PySem.Heap renaming get?_push_of_some→A2,lt_size→B6,get?_push_size→B9,get?_update_other→G4,size_push→G6,get?_update_self→O2,get?_push_ne→A34,size_update→A48
open PySem.Heap.IsSliceOf renaming new→A85
open PySem.Heap.SameBut renaming update→X9
open PySem.IsRange renaming new→A82
open PySem.NameKind renaming free→I0,cell→d7
open PySem.Obj renaming data_mapFields→U9,mapSeq→Y4,isFreed_of_fields→c4,cls_mapFields→o8
open PySem.Paired renaming length→B2,snoc→a9,cons→A56,nil→A66
open PySem.PassesOwn renaming never→C9
open PySem.SeqAt.EqAt renaming int_int→j6,int_str→A13,str_int→A14,str_str→A17,same→A53
open PySem.SeqAt.RcNeAt renaming lists→p6,lists_lengths→A24
open PySem.SetTable renaming below→F0,insertAt→F7,bits→Z2,fits→A19,fill→A20,runEnd→A54,has→A79
open PySem.SetTable.below renaming go→b4
open PySem.SetTable.probe renaming go→R7
open PySem.Str renaming ofString→C4,empty→Q3
open PySem.Value renaming ref→D8,int→Q1,bool→R5,type→V3,none→W2,isInt→r8,str→A12,isInt_shape→A25,isStrOf→A68
open PySem.W renaming nsIn→C3,mg_of→D9,mg_none_of→F1,kitOne→L8,kia_one→L9,keepIn→O5,findIn→P9,fnOf→W6,cellsFrom_some→Z8,codeIn→l9,methodObj→n6,specialIn→n8,instObj→x9,kat_nil→z9,kas_first_eq→A00,lookIn→A04,mroIn→A16,hasDictIn→A26,kitx_list→A27,kitx_dict→A28,plainGet→A42,takesIn→A52,kHook→A67,isFn→A78
open PySem.W.Looks renaming here→k8,ld→u9
open PySem.W.OpenLaw renaming wellSaid→A62,row→A80
open PySem.W.OpenRow renaming toRowW→A76
open PySem.Walks renaming list→A32
open PySem.pickOrder renaming go→A38
open Sum renaming inl→F2,inr→L1
open Sum.inl renaming inj→T6
open Sum.inr renaming inj→A81
open True renaming intro→R6
set_option Elab.async false
set_option linter.all false
set_option maxRecDepth 100000
set_option maxHeartbeats 0
namespace Fw
open PySem
def top (i:Nat):Stmt:=PySem.Challenge.pw_fewrooms_k19_shortened.main.body.getD i (.Pass ⟨0,0,0,0⟩)
abbrev qFW:Stmt:=top 1
abbrev qDQ:Stmt:=top 2
abbrev qIM:Stmt:=top 3
abbrev qCK:Stmt:=top 4
abbrev qDR:Stmt:=top 5
abbrev qCW:Stmt:=top 6
abbrev qES:Stmt:=top 7
abbrev qIQ:Stmt:=top 9
abbrev qLH:Stmt:=top 10
abbrev qJH:Stmt:=top 11
abbrev qD9:Stmt:=top 12
abbrev qET:Stmt:=top 13
abbrev qPW:Stmt:=top 14
abbrev qIR:Stmt:=top 15
abbrev qGV:Stmt:=top 16
abbrev qLF:Stmt:=top 17
abbrev qGW:Stmt:=top 18
abbrev qGU:Stmt:=top 19
abbrev qLK:Stmt:=top 20
abbrev qFZ:Stmt:=top 21
abbrev qDT:Stmt:=top 22
abbrev qLG:Stmt:=top 23
abbrev qIO:Stmt:=top 24
abbrev qIP:Stmt:=top 25
abbrev qLI:Stmt:=top 26
abbrev qIN:Stmt:=top 27
abbrev qFY:Stmt:=top 28
abbrev qLJ:Stmt:=top 29
abbrev qGT:Stmt:=top 30
abbrev qFX:Stmt:=top 31
abbrev qLL:Stmt:=top 32
abbrev qDS:Stmt:=top 33
abbrev qAW:Stmt:=top 34
abbrev qKC:Stmt:=top 35
def dA (s:Stmt):Arguments:=match s with
 | .FunctionDef _ a _ _ _ _ _ _ _ _=>a
 | _=>{ posonlyargs:=[],args:=[],vararg:=none,kwonlyargs:=[],kw_defaults:=[],kwarg:=none,defaults:=[] }
def dB (s:Stmt):List Stmt:=match s with
 | .FunctionDef _ _ b _ _ _ _ _ _ _=>b
 | _=>[]
def dS (s:Stmt):Scope:=match s with
 | .FunctionDef _ _ _ _ _ _ sc _ _ _=>sc
 | _=>{ kind:=.function,names:=[],isGenerator:=false,isCoroutine:=false }
abbrev so (s:String):Str:=PySem.Str.ofString s
abbrev kh (P:Params) (s:Str):Int:=PySem.PyData.keyHash P s
abbrev hde (P:Params) (s:String) (n:Nat) (v:Value):DictEntry:=⟨kh P (so s),.str (so s) n,v⟩
abbrev hvs (s:String) (n:Nat):Value:=.str (so s) n
abbrev hcut (n:Nat):Value:=hvs "/claim/cut.py" n
abbrev hfd (x q:String) (s:Stmt) (a b c d:Value) (e:Option Addr) (f g:Value) (i:Addr):FuncData:=⟨so x,so q,dA s,.stmts (dB s),dS s,3,[],a,b,c,d,e,f,g,i⟩
abbrev htp (d:Data) (s:Array (Option Value)):Obj:=⟨.type "tuple",none,d,s⟩
abbrev hcd (d:Data) (s:Array (Option Value)):Obj:=⟨.type "code",none,d,s⟩
abbrev hfn (d:Data) (s:Array (Option Value)):Obj:=⟨.type "function",none,d,s⟩
def hpK:Params->PySem.W.Frag:=fun P=>
 (nat_lit 2,Obj.mk .none .none (.dict #[]) #[]) ::
 (nat_lit 3,Obj.mk (.type "dict") .none (.dict #[hde P "__name__" 165 (hvs "law_fewrooms_k19_shortened" 245),hde P "__doc__" 166 .none,hde P "__package__" 167 .none,hde P "__loader__" 168 (.builtin "__main__.__loader__#opaque"),hde P "__spec__" 169 .none,hde P "__annotations__" 170 (.ref 6),hde P "__builtins__" 171 (.ref 4),hde P "__file__" 173 (hcut 172),hde P "__cached__" 174 .none,hde P "stays_of" 194 (.ref 19),hde P "stays_left" 205 (.ref 26),hde P "tidied" 211 (.ref 31),hde P "counts_behind" 221 (.ref 38),hde P "done_again" 232 (.ref 45),hde P "first_spared" 238 (.ref 50),hde P "shortened" 244 (.ref 55),hde P "_law_begin" 254 (.ref 62),hde P "_law_take" 267 (.ref 69),hde P "_law_same" 273 (.ref 74),hde P "_law_some_needs" 284 (.ref 81),hde P "_law_tree_net" 296 (.ref 88),hde P "_law_net" 302 (.ref 93),hde P "_law_asked" 312 (.ref 100),hde P "_law_needed" 318 (.ref 105),hde P "_law_word" 324 (.ref 110),hde P "_law_behind" 330 (.ref 115),hde P "_law_played" 342 (.ref 122),hde P "_law_does" 348 (.ref 127),hde P "_law_is_move" 356 (.ref 134),hde P "_law_next_work" 362 (.ref 139),hde P "_law_walk" 377 (.ref 146),hde P "_law_spare" 383 (.ref 151),hde P "_law_doing" 399 (.ref 158),hde P "_law_most" 405 (.ref 163),hde P "_law_stays" 411 (.ref 168),hde P "_law_needing" 417 (.ref 173),hde P "_law_idle" 428 (.ref 180),hde P "_law_tidied" 434 (.ref 185),hde P "_law_shorter" 440 (.ref 190),hde P "_law_case" 449 (.ref 197),hde P "_law_shortened" 461 (.ref 204),hde P "_law_one_behind_another" 470 (.ref 211),hde P "law" 492 (.ref 218)] 43) #[]) ::
 (nat_lit 15,htp (.seq #[]) #[]) ::
 (nat_lit 18,hcd (.fields #[hvs "stays_of" 189,hvs "stays_of" 190,hcut 191,.int 2 0,.int 2 0,.int 0 0,.int 0 0,.int 3 0,.ref 15,.bool .true,.int 181 0,.ref 16,.none,.none,.none,.ref 17,.int 192 0,.int 2 0,hcut 193]) #[]) ::
 (nat_lit 19,hfn (.func (hfd "stays_of" "stays_of" qFW .none .none .none (hvs "fewrooms.tidying" 187) .none (.ref 18) .none 0)) #[]) ::
 (nat_lit 20,htp (.seq #[]) #[]) ::
 (nat_lit 22,htp (.seq #[hvs "needed" 198,hvs "last" 199,hvs "left" 200,hvs "stay" 201,hvs "other" 202]) #[]) ::
 (nat_lit 23,htp (.seq #[]) #[]) ::
 (nat_lit 25,hcd (.fields #[hvs "stays_left" 195,hvs "stays_left" 196,hcut 197,.int 10 0,.int 2 0,.int 0 0,.int 0 0,.int 3 0,.ref 20,.bool .true,.int 181 0,.ref 21,.none,.ref 22,.ref 23,.ref 24,.int 203 0,.int 10 0,hcut 204]) #[]) ::
 (nat_lit 26,hfn (.func (hfd "stays_left" "stays_left" qDQ .none .none .none (hvs "fewrooms.tidying" 187) .none (.ref 25) .none 0)) #[]) ::
 (nat_lit 27,htp (.seq #[]) #[]) ::
 (nat_lit 30,hcd (.fields #[hvs "tidied" 206,hvs "tidied" 207,hcut 208,.int 19 0,.int 3 0,.int 0 0,.int 0 0,.int 3 0,.ref 27,.bool .true,.int 181 0,.ref 28,.none,.none,.none,.ref 29,.int 209 0,.int 19 0,hcut 210]) #[]) ::
 (nat_lit 31,hfn (.func (hfd "tidied" "tidied" qIM .none .none .none (hvs "fewrooms.tidying" 187) .none (.ref 30) .none 0)) #[]) ::
 (nat_lit 32,htp (.seq #[]) #[]) ::
 (nat_lit 34,htp (.seq #[hvs "plan" 215,hvs "counts" 216,hvs "count" 217,hvs "move" 218]) #[]) ::
 (nat_lit 35,htp (.seq #[]) #[]) ::
 (nat_lit 37,hcd (.fields #[hvs "counts_behind" 212,hvs "counts_behind" 213,hcut 214,.int 38 0,.int 1 0,.int 0 0,.int 0 0,.int 3 0,.ref 32,.bool .true,.int 181 0,.ref 33,.none,.ref 34,.ref 35,.ref 36,.int 219 0,.int 38 0,hcut 220]) #[]) ::
 (nat_lit 38,hfn (.func (hfd "counts_behind" "counts_behind" qCK .none .none .none (hvs "fewrooms.tidying" 187) .none (.ref 37) .none 0)) #[]) ::
 (nat_lit 39,htp (.seq #[]) #[]) ::
 (nat_lit 41,htp (.seq #[hvs "plan" 225,hvs "cleared" 226,hvs "pairs" 227,hvs "place" 228,hvs "move" 229]) #[]) ::
 (nat_lit 42,htp (.seq #[]) #[]) ::
 (nat_lit 44,hcd (.fields #[hvs "done_again" 222,hvs "done_again" 223,hcut 224,.int 45 0,.int 1 0,.int 0 0,.int 0 0,.int 3 0,.ref 39,.bool .true,.int 181 0,.ref 40,.none,.ref 41,.ref 42,.ref 43,.int 230 0,.int 45 0,hcut 231]) #[]) ::
 (nat_lit 45,hfn (.func (hfd "done_again" "done_again" qDR .none .none .none (hvs "fewrooms.tidying" 187) .none (.ref 44) .none 0)) #[]) ::
 (nat_lit 46,htp (.seq #[]) #[]) ::
 (nat_lit 49,hcd (.fields #[hvs "first_spared" 233,hvs "first_spared" 234,hcut 235,.int 54 0,.int 2 0,.int 0 0,.int 0 0,.int 3 0,.ref 46,.bool .true,.int 181 0,.ref 47,.none,.none,.none,.ref 48,.int 236 0,.int 54 0,hcut 237]) #[]) ::
 (nat_lit 50,hfn (.func (hfd "first_spared" "first_spared" qCW .none .none .none (hvs "fewrooms.tidying" 187) .none (.ref 49) .none 0)) #[]) ::
 (nat_lit 51,htp (.seq #[]) #[]) ::
 (nat_lit 54,hcd (.fields #[hvs "shortened" 239,hvs "shortened" 240,hcut 241,.int 60 0,.int 4 0,.int 0 0,.int 0 0,.int 3 0,.ref 51,.bool .true,.int 181 0,.ref 52,.none,.none,.none,.ref 53,.int 242 0,.int 60 0,hcut 243]) #[]) ::
 (nat_lit 55,hfn (.func (hfd "shortened" "shortened" qES .none .none .none (hvs "fewrooms.tidying" 187) .none (.ref 54) .none 0)) #[]) ::
 (nat_lit 56,htp (.seq #[]) #[]) ::
 (nat_lit 58,htp (.seq #[hvs "_law_script" 250,hvs "_law_cells" 251]) #[]) ::
 (nat_lit 59,htp (.seq #[]) #[]) ::
 (nat_lit 61,hcd (.fields #[hvs "_law_begin" 247,hvs "_law_begin" 248,hcut 249,.int 69 0,.int 1 0,.int 0 0,.int 0 0,.int 3 0,.ref 56,.bool .true,.int 181 0,.ref 57,.none,.ref 58,.ref 59,.ref 60,.int 252 0,.int 69 0,hcut 253]) #[]) ::
 (nat_lit 62,hfn (.func (hfd "_law_begin" "_law_begin" qIQ .none .none .none (hvs "law_fewrooms_k19_shortened" 245) .none (.ref 61) .none 0)) #[]) ::
 (nat_lit 63,htp (.seq #[]) #[]) ::
 (nat_lit 65,htp (.seq #[hvs "_law_state" 258,hvs "_law_many" 259,hvs "_law_turn" 260,hvs "_law_place" 261,hvs "_law_cell" 262,hvs "_law_digit" 263,hvs "_law_mixed" 264]) #[]) ::
 (nat_lit 66,htp (.seq #[]) #[]) ::
 (nat_lit 68,hcd (.fields #[hvs "_law_take" 255,hvs "_law_take" 256,hcut 257,.int 74 0,.int 2 0,.int 0 0,.int 0 0,.int 3 0,.ref 63,.bool .true,.int 181 0,.ref 64,.none,.ref 65,.ref 66,.ref 67,.int 265 0,.int 74 0,hcut 266]) #[]) ::
 (nat_lit 69,hfn (.func (hfd "_law_take" "_law_take" qLH .none .none .none (hvs "law_fewrooms_k19_shortened" 245) .none (.ref 68) .none 0)) #[]) ::
 (nat_lit 70,htp (.seq #[]) #[]) ::
 (nat_lit 73,hcd (.fields #[hvs "_law_same" 268,hvs "_law_same" 269,hcut 270,.int 85 0,.int 2 0,.int 0 0,.int 0 0,.int 3 0,.ref 70,.bool .true,.int 181 0,.ref 71,.none,.none,.none,.ref 72,.int 271 0,.int 85 0,hcut 272]) #[]) ::
 (nat_lit 74,hfn (.func (hfd "_law_same" "_law_same" qJH .none .none .none (hvs "law_fewrooms_k19_shortened" 245) .none (.ref 73) .none 0)) #[]) ::
 (nat_lit 75,htp (.seq #[]) #[]) ::
 (nat_lit 77,htp (.seq #[hvs "_law_state" 277,hvs "_law_k" 278,hvs "_law_found" 279,hvs "_law_turn" 280,hvs "_law_far" 281]) #[]) ::
 (nat_lit 78,htp (.seq #[]) #[]) ::
 (nat_lit 80,hcd (.fields #[hvs "_law_some_needs" 274,hvs "_law_some_needs" 275,hcut 276,.int 97 0,.int 2 0,.int 0 0,.int 0 0,.int 3 0,.ref 75,.bool .true,.int 181 0,.ref 76,.none,.ref 77,.ref 78,.ref 79,.int 282 0,.int 97 0,hcut 283]) #[]) ::
 (nat_lit 81,hfn (.func (hfd "_law_some_needs" "_law_some_needs" qD9 .none .none .none (hvs "law_fewrooms_k19_shortened" 245) .none (.ref 80) .none 0)) #[]) ::
 (nat_lit 82,htp (.seq #[]) #[]) ::
 (nat_lit 84,htp (.seq #[hvs "_law_state" 288,hvs "_law_many" 289,hvs "_law_open_ones" 290,hvs "_law_found" 291,hvs "_law_k" 292,hvs "_law_so_many" 293]) #[]) ::
 (nat_lit 85,htp (.seq #[]) #[]) ::
 (nat_lit 87,hcd (.fields #[hvs "_law_tree_net" 285,hvs "_law_tree_net" 286,hcut 287,.int 104 0,.int 2 0,.int 0 0,.int 0 0,.int 3 0,.ref 82,.bool .true,.int 181 0,.ref 83,.none,.ref 84,.ref 85,.ref 86,.int 294 0,.int 104 0,hcut 295]) #[]) ::
 (nat_lit 88,hfn (.func (hfd "_law_tree_net" "_law_tree_net" qET .none .none .none (hvs "law_fewrooms_k19_shortened" 245) .none (.ref 87) .none 0)) #[]) ::
 (nat_lit 89,htp (.seq #[]) #[]) ::
 (nat_lit 92,hcd (.fields #[hvs "_law_net" 297,hvs "_law_net" 298,hcut 299,.int 112 0,.int 2 0,.int 0 0,.int 0 0,.int 3 0,.ref 89,.bool .true,.int 181 0,.ref 90,.none,.none,.none,.ref 91,.int 300 0,.int 112 0,hcut 301]) #[]) ::
 (nat_lit 93,hfn (.func (hfd "_law_net" "_law_net" qPW .none .none .none (hvs "law_fewrooms_k19_shortened" 245) .none (.ref 92) .none 0)) #[]) ::
 (nat_lit 94,htp (.seq #[]) #[]) ::
 (nat_lit 96,htp (.seq #[hvs "_law_state" 306,hvs "_law_net_here" 307,hvs "_law_found" 308,hvs "_law_turn" 309]) #[]) ::
 (nat_lit 97,htp (.seq #[]) #[]) ::
 (nat_lit 99,hcd (.fields #[hvs "_law_asked" 303,hvs "_law_asked" 304,hcut 305,.int 127 0,.int 2 0,.int 0 0,.int 0 0,.int 3 0,.ref 94,.bool .true,.int 181 0,.ref 95,.none,.ref 96,.ref 97,.ref 98,.int 310 0,.int 127 0,hcut 311]) #[]) ::
 (nat_lit 100,hfn (.func (hfd "_law_asked" "_law_asked" qIR .none .none .none (hvs "law_fewrooms_k19_shortened" 245) .none (.ref 99) .none 0)) #[]) ::
 (nat_lit 101,htp (.seq #[]) #[]) ::
 (nat_lit 104,hcd (.fields #[hvs "_law_needed" 313,hvs "_law_needed" 314,hcut 315,.int 132 0,.int 2 0,.int 0 0,.int 0 0,.int 3 0,.ref 101,.bool .true,.int 181 0,.ref 102,.none,.none,.none,.ref 103,.int 316 0,.int 132 0,hcut 317]) #[]) ::
 (nat_lit 105,hfn (.func (hfd "_law_needed" "_law_needed" qGV .none .none .none (hvs "law_fewrooms_k19_shortened" 245) .none (.ref 104) .none 0)) #[]) ::
 (nat_lit 106,htp (.seq #[]) #[]) ::
 (nat_lit 109,hcd (.fields #[hvs "_law_word" 319,hvs "_law_word" 320,hcut 321,.int 141 0,.int 4 0,.int 0 0,.int 0 0,.int 3 0,.ref 106,.bool .true,.int 181 0,.ref 107,.none,.none,.none,.ref 108,.int 322 0,.int 141 0,hcut 323]) #[]) ::
 (nat_lit 110,hfn (.func (hfd "_law_word" "_law_word" qLF .none .none .none (hvs "law_fewrooms_k19_shortened" 245) .none (.ref 109) .none 0)) #[]) ::
 (nat_lit 111,htp (.seq #[]) #[]) ::
 (nat_lit 114,hcd (.fields #[hvs "_law_behind" 325,hvs "_law_behind" 326,hcut 327,.int 149 0,.int 2 0,.int 0 0,.int 0 0,.int 3 0,.ref 111,.bool .true,.int 181 0,.ref 112,.none,.none,.none,.ref 113,.int 328 0,.int 149 0,hcut 329]) #[]) ::
 (nat_lit 115,hfn (.func (hfd "_law_behind" "_law_behind" qGW .none .none .none (hvs "law_fewrooms_k19_shortened" 245) .none (.ref 114) .none 0)) #[]) ::
 (nat_lit 116,htp (.seq #[]) #[]) ::
 (nat_lit 118,htp (.seq #[hvs "_law_net_here" 334,hvs "_law_rooms" 335,hvs "_law_plan" 336,hvs "_law_stands" 337,hvs "_law_move" 338,hvs "_law_word_here" 339]) #[]) ::
 (nat_lit 119,htp (.seq #[]) #[]) ::
 (nat_lit 121,hcd (.fields #[hvs "_law_played" 331,hvs "_law_played" 332,hcut 333,.int 153 0,.int 3 0,.int 0 0,.int 0 0,.int 3 0,.ref 116,.bool .true,.int 181 0,.ref 117,.none,.ref 118,.ref 119,.ref 120,.int 340 0,.int 153 0,hcut 341]) #[]) ::
 (nat_lit 122,hfn (.func (hfd "_law_played" "_law_played" qGU .none .none .none (hvs "law_fewrooms_k19_shortened" 245) .none (.ref 121) .none 0)) #[]) ::
 (nat_lit 123,htp (.seq #[]) #[]) ::
 (nat_lit 126,hcd (.fields #[hvs "_law_does" 343,hvs "_law_does" 344,hcut 345,.int 161 0,.int 4 0,.int 0 0,.int 0 0,.int 3 0,.ref 123,.bool .true,.int 181 0,.ref 124,.none,.none,.none,.ref 125,.int 346 0,.int 161 0,hcut 347]) #[]) ::
 (nat_lit 127,hfn (.func (hfd "_law_does" "_law_does" qLK .none .none .none (hvs "law_fewrooms_k19_shortened" 245) .none (.ref 126) .none 0)) #[]) ::
 (nat_lit 128,htp (.seq #[]) #[]) ::
 (nat_lit 130,htp (.seq #[hvs "_law_net_here" 352,hvs "_law_move" 353]) #[]) ::
 (nat_lit 131,htp (.seq #[]) #[]) ::
 (nat_lit 133,hcd (.fields #[hvs "_law_is_move" 349,hvs "_law_is_move" 350,hcut 351,.int 166 0,.int 2 0,.int 0 0,.int 0 0,.int 3 0,.ref 128,.bool .true,.int 181 0,.ref 129,.none,.ref 130,.ref 131,.ref 132,.int 354 0,.int 166 0,hcut 355]) #[]) ::
 (nat_lit 134,hfn (.func (hfd "_law_is_move" "_law_is_move" qFZ .none .none .none (hvs "law_fewrooms_k19_shortened" 245) .none (.ref 133) .none 0)) #[]) ::
 (nat_lit 135,htp (.seq #[]) #[]) ::
 (nat_lit 138,hcd (.fields #[hvs "_law_next_work" 357,hvs "_law_next_work" 358,hcut 359,.int 170 0,.int 3 0,.int 0 0,.int 0 0,.int 3 0,.ref 135,.bool .true,.int 181 0,.ref 136,.none,.none,.none,.ref 137,.int 360 0,.int 170 0,hcut 361]) #[]) ::
 (nat_lit 139,hfn (.func (hfd "_law_next_work" "_law_next_work" qDT .none .none .none (hvs "law_fewrooms_k19_shortened" 245) .none (.ref 138) .none 0)) #[]) ::
 (nat_lit 140,htp (.seq #[]) #[]) ::
 (nat_lit 142,htp (.seq #[hvs "_law_state" 366,hvs "_law_net_here" 367,hvs "_law_rooms" 368,hvs "_law_many" 369,hvs "_law_plan" 370,hvs "_law_stand" 371,hvs "_law_turn" 372,hvs "_law_work" 373,hvs "_law_move" 374]) #[]) ::
 (nat_lit 143,htp (.seq #[]) #[]) ::
 (nat_lit 145,hcd (.fields #[hvs "_law_walk" 363,hvs "_law_walk" 364,hcut 365,.int 177 0,.int 4 0,.int 0 0,.int 0 0,.int 3 0,.ref 140,.bool .true,.int 181 0,.ref 141,.none,.ref 142,.ref 143,.ref 144,.int 375 0,.int 177 0,hcut 376]) #[]) ::
 (nat_lit 146,hfn (.func (hfd "_law_walk" "_law_walk" qLG .none .none .none (hvs "law_fewrooms_k19_shortened" 245) .none (.ref 145) .none 0)) #[]) ::
 (nat_lit 147,htp (.seq #[]) #[]) ::
 (nat_lit 150,hcd (.fields #[hvs "_law_spare" 378,hvs "_law_spare" 379,hcut 380,.int 188 0,.int 4 0,.int 0 0,.int 0 0,.int 3 0,.ref 147,.bool .true,.int 181 0,.ref 148,.none,.none,.none,.ref 149,.int 381 0,.int 188 0,hcut 382]) #[]) ::
 (nat_lit 151,hfn (.func (hfd "_law_spare" "_law_spare" qIO .none .none .none (hvs "law_fewrooms_k19_shortened" 245) .none (.ref 150) .none 0)) #[]) ::
 (nat_lit 152,htp (.seq #[]) #[]) ::
 (nat_lit 154,htp (.seq #[hvs "_law_state" 387,hvs "_law_net_here" 388,hvs "_law_asked_here" 389,hvs "_law_many" 390,hvs "_law_plan" 391,hvs "_law_stand" 392,hvs "_law_needed_here" 393,hvs "_law_place" 394,hvs "_law_work" 395,hvs "_law_spare_here" 396]) #[]) ::
 (nat_lit 155,htp (.seq #[]) #[]) ::
 (nat_lit 157,hcd (.fields #[hvs "_law_doing" 384,hvs "_law_doing" 385,hcut 386,.int 190 0,.int 4 0,.int 0 0,.int 0 0,.int 3 0,.ref 152,.bool .true,.int 181 0,.ref 153,.none,.ref 154,.ref 155,.ref 156,.int 397 0,.int 190 0,hcut 398]) #[]) ::
 (nat_lit 158,hfn (.func (hfd "_law_doing" "_law_doing" qIP .none .none .none (hvs "law_fewrooms_k19_shortened" 245) .none (.ref 157) .none 0)) #[]) ::
 (nat_lit 159,htp (.seq #[]) #[]) ::
 (nat_lit 162,hcd (.fields #[hvs "_law_most" 400,hvs "_law_most" 401,hcut 402,.int 202 0,.int 2 0,.int 0 0,.int 0 0,.int 3 0,.ref 159,.bool .true,.int 181 0,.ref 160,.none,.none,.none,.ref 161,.int 403 0,.int 202 0,hcut 404]) #[]) ::
 (nat_lit 163,hfn (.func (hfd "_law_most" "_law_most" qLI .none .none .none (hvs "law_fewrooms_k19_shortened" 245) .none (.ref 162) .none 0)) #[]) ::
 (nat_lit 164,htp (.seq #[]) #[]) ::
 (nat_lit 167,hcd (.fields #[hvs "_law_stays" 406,hvs "_law_stays" 407,hcut 408,.int 205 0,.int 1 0,.int 0 0,.int 0 0,.int 3 0,.ref 164,.bool .true,.int 181 0,.ref 165,.none,.none,.none,.ref 166,.int 409 0,.int 205 0,hcut 410]) #[]) ::
 (nat_lit 168,hfn (.func (hfd "_law_stays" "_law_stays" qIN .none .none .none (hvs "law_fewrooms_k19_shortened" 245) .none (.ref 167) .none 0)) #[]) ::
 (nat_lit 169,htp (.seq #[]) #[]) ::
 (nat_lit 172,hcd (.fields #[hvs "_law_needing" 412,hvs "_law_needing" 413,hcut 414,.int 212 0,.int 3 0,.int 0 0,.int 0 0,.int 3 0,.ref 169,.bool .true,.int 181 0,.ref 170,.none,.none,.none,.ref 171,.int 415 0,.int 212 0,hcut 416]) #[]) ::
 (nat_lit 173,hfn (.func (hfd "_law_needing" "_law_needing" qFY .none .none .none (hvs "law_fewrooms_k19_shortened" 245) .none (.ref 172) .none 0)) #[]) ::
 (nat_lit 174,htp (.seq #[]) #[]) ::
 (nat_lit 176,htp (.seq #[hvs "_law_net_here" 421,hvs "_law_plan" 422,hvs "_law_asked_here" 423,hvs "_law_stay" 424,hvs "_law_lasting" 425]) #[]) ::
 (nat_lit 177,htp (.seq #[]) #[]) ::
 (nat_lit 179,hcd (.fields #[hvs "_law_idle" 418,hvs "_law_idle" 419,hcut 420,.int 215 0,.int 3 0,.int 0 0,.int 0 0,.int 3 0,.ref 174,.bool .true,.int 181 0,.ref 175,.none,.ref 176,.ref 177,.ref 178,.int 426 0,.int 215 0,hcut 427]) #[]) ::
 (nat_lit 180,hfn (.func (hfd "_law_idle" "_law_idle" qLJ .none .none .none (hvs "law_fewrooms_k19_shortened" 245) .none (.ref 179) .none 0)) #[]) ::
 (nat_lit 181,htp (.seq #[]) #[]) ::
 (nat_lit 184,hcd (.fields #[hvs "_law_tidied" 429,hvs "_law_tidied" 430,hcut 431,.int 221 0,.int 3 0,.int 0 0,.int 0 0,.int 3 0,.ref 181,.bool .true,.int 181 0,.ref 182,.none,.none,.none,.ref 183,.int 432 0,.int 221 0,hcut 433]) #[]) ::
 (nat_lit 185,hfn (.func (hfd "_law_tidied" "_law_tidied" qGT .none .none .none (hvs "law_fewrooms_k19_shortened" 245) .none (.ref 184) .none 0)) #[]) ::
 (nat_lit 186,htp (.seq #[]) #[]) ::
 (nat_lit 189,hcd (.fields #[hvs "_law_shorter" 435,hvs "_law_shorter" 436,hcut 437,.int 237 0,.int 4 0,.int 0 0,.int 0 0,.int 3 0,.ref 186,.bool .true,.int 181 0,.ref 187,.none,.none,.none,.ref 188,.int 438 0,.int 237 0,hcut 439]) #[]) ::
 (nat_lit 190,hfn (.func (hfd "_law_shorter" "_law_shorter" qFX .none .none .none (hvs "law_fewrooms_k19_shortened" 245) .none (.ref 189) .none 0)) #[]) ::
 (nat_lit 191,htp (.seq #[]) #[]) ::
 (nat_lit 193,htp (.seq #[hvs "_law_state" 444,hvs "_law_many" 445,hvs "_law_net_here" 446]) #[]) ::
 (nat_lit 194,htp (.seq #[]) #[]) ::
 (nat_lit 196,hcd (.fields #[hvs "_law_case" 441,hvs "_law_case" 442,hcut 443,.int 245 0,.int 1 0,.int 0 0,.int 0 0,.int 3 0,.ref 191,.bool .true,.int 181 0,.ref 192,.none,.ref 193,.ref 194,.ref 195,.int 447 0,.int 245 0,hcut 448]) #[]) ::
 (nat_lit 197,hfn (.func (hfd "_law_case" "_law_case" qLL .none .none .none (hvs "law_fewrooms_k19_shortened" 245) .none (.ref 196) .none 0)) #[]) ::
 (nat_lit 198,htp (.seq #[]) #[]) ::
 (nat_lit 200,htp (.seq #[hvs "_law_net_here" 453,hvs "_law_rooms" 454,hvs "_law_plan" 455,hvs "_law_asked_here" 456,hvs "_law_found" 457,hvs "_law_less" 458]) #[]) ::
 (nat_lit 201,htp (.seq #[]) #[]) ::
 (nat_lit 203,hcd (.fields #[hvs "_law_shortened" 450,hvs "_law_shortened" 451,hcut 452,.int 251 0,.int 4 0,.int 0 0,.int 0 0,.int 3 0,.ref 198,.bool .true,.int 181 0,.ref 199,.none,.ref 200,.ref 201,.ref 202,.int 459 0,.int 251 0,hcut 460]) #[]) ::
 (nat_lit 204,hfn (.func (hfd "_law_shortened" "_law_shortened" qDS .none .none .none (hvs "law_fewrooms_k19_shortened" 245) .none (.ref 203) .none 0)) #[]) ::
 (nat_lit 205,htp (.seq #[]) #[]) ::
 (nat_lit 207,htp (.seq #[hvs "_law_net_here" 465,hvs "_law_plan" 466,hvs "_law_due" 467]) #[]) ::
 (nat_lit 208,htp (.seq #[]) #[]) ::
 (nat_lit 210,hcd (.fields #[hvs "_law_one_behind_another" 462,hvs "_law_one_behind_another" 463,hcut 464,.int 258 0,.int 0 0,.int 0 0,.int 0 0,.int 3 0,.ref 205,.bool .true,.int 181 0,.ref 206,.none,.ref 207,.ref 208,.ref 209,.int 468 0,.int 258 0,hcut 469]) #[]) ::
 (nat_lit 211,hfn (.func (hfd "_law_one_behind_another" "_law_one_behind_another" qAW .none .none .none (hvs "law_fewrooms_k19_shortened" 245) .none (.ref 210) .none 0)) #[]) ::
 (nat_lit 212,htp (.seq #[]) #[]) ::
 (nat_lit 214,htp (.seq #[hvs "_law_script" 474,hvs "_law_state" 475,hvs "_law_turn" 476,hvs "_law_net_here" 477,hvs "_law_asked_here" 478,hvs "_law_plan" 479,hvs "_law_most_here" 480,hvs "_law_rooms" 481,hvs "_law_due" 482,hvs "_law_handed" 483,hvs "_law_again" 484,hvs "_law_found" 485,hvs "_law_ends" 486,hvs "_law_others" 487,hvs "_law_many" 488,hvs "_law_goals" 489]) #[]) ::
 (nat_lit 215,htp (.seq #[]) #[]) ::
 (nat_lit 217,hcd (.fields #[hvs "law" 471,hvs "law" 472,hcut 473,.int 264 0,.int 1 0,.int 0 0,.int 0 0,.int 3 0,.ref 212,.bool .true,.int 181 0,.ref 213,.none,.ref 214,.ref 215,.ref 216,.int 490 0,.int 264 0,hcut 491]) #[]) ::
 (nat_lit 218,hfn (.func (hfd "law" "law" qKC .none .none .none (hvs "law_fewrooms_k19_shortened" 245) .none (.ref 217) .none 0)) #[]) ::
 []
def hpA:List Addr:=[2,3,15,18,19,20,22,23,25,26,27,30,31,32,34,35,37,38,39,41,42,44,45,46,49,50,51,54,55,56,58,59,61,62,63,65,66,68,69,70,73,74,75,77,78,80,81,82,84,85,87,88,89,92,93,94,96,97,99,100,101,104,105,106,109,110,111,114,115,116,118,119,121,122,123,126,127,128,130,131,133,134,135,138,139,140,142,143,145,146,147,150,151,152,154,155,157,158,159,162,163,164,167,168,169,172,173,174,176,177,179,180,181,184,185,186,189,190,191,193,194,196,197,198,200,201,203,204,205,207,208,210,211,212,214,215,217,218]
def hpQ:Program:=PySem.W.view PySem.Challenge.pw_fewrooms_k19_shortened [1,2,3,4,5,6,7,9,10,11,12,13,14,15,16,17,18,19,20,21,22,23,24,25,26,27,28,29,30,31,32,33,34,35]
def hpN:Nat:=2194
theorem hpE (P:Params):hpA=(hpK P).map (·.1):=by kernel_rfl
def hpX (s:Shared):Bool:=PySem.W.xlAt hpQ [] s && PySem.W.recOk (PySem.W.RowW.records (A76 (A80 PySem.Challenge.rw_fewrooms_k19_shortened))) s
theorem hpLeft:PySem.W.LeftO PySem.Challenge.pw_fewrooms_k19_shortened hpQ [] hpX (A67 hpK hpA hpE).obs (A67 hpK hpA hpE).val hpN:=fun w=>by kernel_rfl
theorem hpSaid:A62 PySem.Challenge.rw_fewrooms_k19_shortened=true:=by kernel_rfl
end Fw
namespace L2
open PySem PySem.Spec PyProof.Rows
abbrev Key:=Sum Int Str
def qP0:Key->Value->Bool
 | .inl k,v=>r8 k v
 | .inr x,v=>A68 x v
def keyH (w:World):Key->Int
 | .inl k=>hashInt k
 | .inr x=>hashStr w x
theorem qBQ:∀ {k:Key} {v:Value},qP0 k v=true->(∃ i t,k=F2 i/\v=Q1 i t)\/(∃ x t,k=L1 x/\v=A12 x t)
 | .inl i,v,h=>by
  obtain ⟨t,e⟩:=A25 (k:=i) (v:=v) h;exact .inl ⟨i,t,rfl,e⟩
 | .inr x,v,h=>by
  obtain ⟨t,e⟩:=Value.isStrOf_shape (x:=x) (v:=v) h;exact .inr ⟨x,t,rfl,e⟩
theorem qTM (i:Int) (t:Tok):qP0 (.inl i) (.int i t)=true:=by simp [qP0,r8]
theorem qTL (x:Str) (t:Tok):qP0 (.inr x) (.str x t)=true:=by simp [qP0,A68]
theorem qbU (a b:Int):decide ((F2 a:Key)=F2 b)=(a == b):=by
 by_cases e:a=b
 ·subst e;simp
 ·have h:¬ (F2 a:Key)=F2 b:=fun q=>e (T6 q);rw [decide_eq_false h];exact (beq_eq_false_iff_ne.mpr e).symm
theorem qbR (a b:Str):decide ((L1 a:Key)=L1 b)=decide (a=b):=by
 by_cases e:a=b
 ·subst e;simp
 ·have h:¬ (L1 a:Key)=L1 b:=fun q=>e (A81 q);rw [decide_eq_false h,decide_eq_false e]
theorem qbT (a:Int) (b:Str):decide ((F2 a:Key)=L1 b)=false:=decide_eq_false (fun q=>nomatch q)
theorem qbS (a:Str) (b:Int):decide ((L1 a:Key)=F2 b)=false:=decide_eq_false (fun q=>nomatch q)
def qBP (prog:Program) (w:World):PySem.KeyKind prog w Key where
 is:=qP0
 hash:=keyH w
 inj:=fun v a b ha hb=>by
  rcases qBQ ha with ⟨i,t,rfl,rfl⟩ | ⟨x,t,rfl,rfl⟩
  ·rcases qBQ hb with ⟨j,u,rfl,e⟩ | ⟨y,u,rfl,e⟩
   ·injection e with e1 _;rw [e1]
   ·exact nomatch e
  ·rcases qBQ hb with ⟨j,u,rfl,e⟩ | ⟨y,u,rfl,e⟩
   ·exact nomatch e
   ·injection e with e1 _;rw [e1]
 byValue:=fun k v h=>by
  rcases qBQ h with ⟨i,t,rfl,rfl⟩ | ⟨x,t,rfl,rfl⟩ <;> rfl
 pyHash:=fun hv h=>by
  rcases qBQ hv with ⟨i,t,rfl,rfl⟩ | ⟨x,t,rfl,rfl⟩
  ·exact wpAny_pyHash_int h
  ·exact wpAny_pyHash_str h
 eqBool:=fun hu hv h=>by
  rcases qBQ hu with ⟨i,t,rfl,rfl⟩ | ⟨x,t,rfl,rfl⟩
  ·rcases qBQ hv with ⟨j,u,rfl,rfl⟩ | ⟨y,u,rfl,rfl⟩
   ·rw [qbU] at h;exact wpAny_eqBool_int h
   ·rw [qbT] at h;exact A13 i t y u _ _ _ _ h
  ·rcases qBQ hv with ⟨j,u,rfl,rfl⟩ | ⟨y,u,rfl,rfl⟩
   ·rw [qbS] at h;exact A14 x t j u _ _ _ _ h
   ·rw [qbR] at h;exact wpAny_eqBool_str h
 «strs»:=fun k x t v h=>by
  rcases qBQ h with ⟨i,u,rfl,e⟩ | ⟨y,u,rfl,e⟩
  ·exact nomatch e
  ·injection e with e1 _
   subst e1;cases v <;> rfl
theorem qOX (prog:Program) (w:World) (i:Int) (t:Tok):(qBP prog w).is (.inl i) (.int i t)=true:=qTM i t
theorem qOW (prog:Program) (w:World) (x:Str) (t:Tok):(qBP prog w).is (.inr x) (.str x t)=true:=qTL x t
inductive V where
 | non | bl (b:Bool) | int (i:Int) | str (x:Str) | byt (b:Array UInt8) | flt (b:UInt64) | ref (a:Addr) | ty (n:String)
 deriving DecidableEq
def RelV:V->Value->Prop
 | .non,u=>u=W2
 | .bl b,u=>u=R5 b
 | .int i,u=>∃ t,u=Q1 i t
 | .str x,u=>∃ t,u=A12 x t
 | .byt b,u=>∃ t,u=Value.bytes b t
 | .flt b,u=>∃ t,u=Value.float b t
 | .ref a,u=>u=D8 a
 | .ty n,u=>u=V3 n
abbrev Vals:List V->List Value->Prop:=Paired RelV
theorem Vals.length {xs:List V} {us:List Value} (r:Vals xs us):xs.length=us.length:=B2 r
theorem Vals.get:∀ {xs:List V} {us:List Value} {i:Nat} {x:V},Vals xs us->xs[i]?=some x->∃ u,us[i]?=some u/\RelV x u
 | _,_,_,_,.nil,e=>by simp at e
 | _,_,0,_,.cons r _,e=>by simp at e;subst e;exact ⟨_,rfl,r⟩
 | _,_,i+1,x,.cons _ t,e=>by
  obtain ⟨u,h1,h2⟩:=Vals.get (i:=i) (x:=x) t (by simpa using e)
  exact ⟨u,by simpa using h1,h2⟩
theorem Vals.set {x:V} {u:Value} (r:RelV x u):∀ {xs:List V} {us:List Value} (i:Nat),Vals xs us->Vals (xs.set i x) (us.set i u)
 | _,_,_,.nil=>.nil
 | _,_,0,.cons _ t=>.cons r t
 | _,_,i+1,.cons q t=>.cons q (Vals.set r i t)
theorem Vals.append:∀ {xs ys:List V} {us ws:List Value},Vals xs us->Vals ys ws->Vals (xs++ys) (us++ws)
 | _,_,_,_,.nil,s=>s
 | _,_,_,_,.cons r t,s=>.cons r (Vals.append t s)
theorem Vals.take:∀ {xs:List V} {us:List Value} (n:Nat),Vals xs us->Vals (xs.take n) (us.take n)
 | _,_,0,_=>.nil
 | _,_,_+1,.nil=>.nil
 | _,_,n+1,.cons r t=>.cons r (Vals.take n t)
theorem Vals.drop:∀ {xs:List V} {us:List Value} (n:Nat),Vals xs us->Vals (xs.drop n) (us.drop n)
 | _,_,0,r=>r
 | _,_,_+1,.nil=>.nil
 | _,_,n+1,.cons _ t=>Vals.drop n t
def RelO:Option V->Option Value->Prop
 | some v,some u=>RelV v u
 | none,none=>True
 | _,_=>False
def KV {κ:Type}:List (κ × V)->List (κ × Value)->Prop:=Paired fun (p:κ × V) (q:κ × Value)=>p.1=q.1/\RelV p.2 q.2
inductive CTb where
 | tab (q:Str)
 | cod (q:Str)
def kV:Key->V
 | .inl i=>.int i
 | .inr x=>.str x
inductive HO where
 | lst (xs:List V)
 | tup (xs:List V)
 | dK (Ah:List (Key × V)) | dT (Ah:List (List Key × V))
 | set (S:Int->Bool) (n:Nat)
 | ins (C dx:Addr) (fs:List (Str × V))
 | own (x:Addr)
 | xd (fs:List (Str × V))
 | met (f x:Addr)
 | rng (lo hi:Int)
 | frz (o:Obj) (u:HO)
 | tbl (t:CTb)
 | ext (φ:Heap->Prop)
abbrev Hp:=Addr->Option HO
def Ai (H:Hp) (a:Addr) (o:HO):Hp:=fun b=>if b=a then some o else H b
theorem qA1 {H:Hp} {a:Addr} {o:HO}:Ai H a o a=some o:=by unfold Ai;rw [if_pos rfl]
theorem qA8 {H:Hp} {a b:Addr} {o:HO} (h:b ≠ a):Ai H a o b=H b:=by unfold Ai;rw [if_neg h]
theorem qL9 {H:Hp} {a:Addr} {o u:HO}:Ai (Ai H a o) a u=Ai H a u:=by
 funext b;unfold Ai;split <;> rfl
theorem qBT {H:Hp} {a b:Addr} {o u:HO} (h:H a=some o) (h':H b=some u) (d:o ≠ u):a ≠ b:=by
 intro e;subst e;rw [h] at h';exact d (A8 h')
theorem qA5 {H:Hp} {a b:Addr} {o:HO} (h:H a=some o) (h':H b=none):a ≠ b:=by
 intro e;subst e;rw [h] at h';cases h'
section
variable (P:Program) (w:World)
def ObjOk (H:Hp) (h:Heap) (a:Addr):HO->Prop
 | .lst xs=>xs.length<=sizeLine/\∃ (its:List Value) (n:Nat),Vals xs its/\h.get? a=some { cls:=.type "list",data:=.seq its.toArray n }
 | .tup xs=>xs.length<=sizeLine/\∃ its:List Value,Vals xs its/\IsTup h a its.toArray
 | .dK Ah=>Ah.length<=sizeLine/\(a == sysModules)=false/\∃ vs,KV Ah vs/\h.DictOf (qBP P w) a vs
 | .dT Ah=>Ah.length<=sizeLine/\(a == sysModules)=false/\∃ xs:List (List Key × Addr × Value),
   Paired (fun (p:List Key × V) (q:List Key × Addr × Value)=>p.1=q.1/\H q.2.1=some (.tup (p.1.map kV))/\RelV p.2 q.2.2) Ah xs/\
   ∃ o es ep,h.get? a=some o/\o.ExactDict/\o.data=.dict es ep/\es.toList=xs.map (entryOfKey (tupleKind (qBP P w)))/\(xs.map (·.1)).Nodup
 | .set S n=>h.SetOf (intKind P w) a S n
 | .ins C dx fs=>H dx=some (.own a)/\fs.length<=1000/\dx ≠ a/\h.get? a=some (x9 C dx)/\
   ∃ mA,h.Ns1 dx mA/\(∀ f,RelO (fs.lookup f) (mA f))/\PySem.Within mA (fs.map (·.1))
 | .own _=>∃ o,h.get? a=some o
 | .xd fs=>∃ mA,h.Ns1 a mA/\∀ f,RelO (fs.lookup f) (mA f)
 | .rng lo hi=>∃ t u v,h.get? a=some { cls:=.type "range",data:=.fields #[.int lo t,.int hi u,.int 1 v] }
 | .frz o u=>h.get? a=some o/\ObjOk H h a u
 | .tbl (.tab q)=>∃ more:Array Value,h.get? a=some { cls:=.none,data:=.fields more }/\TriplesOk more.toList/\∀ pos cv,codeAmong pos more.toList=some cv->∃ c,cv=.ref c/\H c=some (.tbl (.cod q))
 | .tbl (.cod q)=>h.CodeRec (.ref a) q
 | .met f x=>h.get? a=some (n6 (.ref f) (.ref x))
 | .ext φ=>φ h/\(∃ o,h.get? a=some o)/\∀ h1 h2:Heap,φ h1->(∀ o,h1.get? a=some o->h2.get? a=some o)->φ h2
def HOk (H:Hp) (h:Heap):Prop:=∀ a o,H a=some o->ObjOk P w H h a o
end
section
variable {P:Program} {w:World} {H H':Hp} {h h':Heap} {a:Addr} {o:HO}
theorem ObjOk.lt (x:ObjOk P w H h a o):a<h.objs.size:=by
 cases o with
 | lst xs=>obtain ⟨_,_,_,_,e⟩:=x;exact B6 e
 | tup xs=>obtain ⟨_,_,_,p⟩:=x;exact p.lt
 | dK Ah=>obtain ⟨_,_,_,_,o,_,_,e,_⟩:=x;exact B6 e
 | dT Ah=>obtain ⟨_,_,_,_,o,_,_,e,_⟩:=x;exact B6 e
 | set S n=>obtain ⟨o,_,_,_,e,_⟩:=x;exact B6 e
 | ins C dx fs=>obtain ⟨_,_,_,e,_⟩:=x;exact B6 e
 | own y=>obtain ⟨_,e⟩:=x;exact B6 e
 | xd fs=>obtain ⟨_,⟨_,_,_,e,_⟩,_⟩:=x;exact B6 e
 | rng lo hi=>obtain ⟨_,_,_,e⟩:=x;exact B6 e
 | frz ob u=>obtain ⟨e,_⟩:=x;exact B6 e
 | tbl t=>
  cases t with
  | tab q=>obtain ⟨_,e,_⟩:=x;exact B6 e
  | cod q=>obtain ⟨c,o,_,_,e,g,_⟩:=x;cases e;exact B6 g
 | met f y=>exact B6 (show h.get? a=some _ from x)
 | ext φ=>obtain ⟨_,⟨_,e⟩,_⟩:=x;exact B6 e
theorem Paired.mapP {α β:Type} {F G:α->β->Prop}:∀ {l₁:List α} {l₂:List β},Paired F l₁ l₂->(∀ a b,F a b->G a b)->Paired G l₁ l₂
 | _,_,.nil,_=>.nil
 | _,_,.cons r t,f=>.cons (f _ _ r) (Paired.mapP t f)
theorem ObjOk.stay (x:ObjOk P w H h a o) (k:∀ b u,(b=a\/H b=some (.own a))->h.get? b=some u->h'.get? b=some u)
  (ho:∀ b,H b=some (.own a)->H' b=some (.own a)) (ht:∀ b xs,H b=some (.tup xs)->H' b=some (.tup xs)) (hb:∀ b t,H b=some (.tbl t)->H' b=some (.tbl t):=by exact fun _ _ q=>q):ObjOk P w H' h' a o:=by
 induction o with
 | lst xs=>obtain ⟨z,its,n,r,e⟩:=x;exact ⟨z,its,n,r,k _ _ (.inl rfl) e⟩
 | tup xs=>obtain ⟨z,its,r,ob,e,c⟩:=x;exact ⟨z,its,r,ob,k _ _ (.inl rfl) e,c⟩
 | dK Ah=>obtain ⟨z,y,vs,r,ob,es,ep,e,c⟩:=x;exact ⟨z,y,vs,r,ob,es,ep,k _ _ (.inl rfl) e,c⟩
 | dT Ah=>
  obtain ⟨z,y,xs,r,ob,es,ep,e,c⟩:=x;exact ⟨z,y,xs,Paired.mapP r fun p q z=>⟨z.1,ht _ _ z.2.1,z.2.2⟩,ob,es,ep,k _ _ (.inl rfl) e,c⟩
 | set S n=>obtain ⟨ob,es,ep,t,e,c⟩:=x;exact ⟨ob,es,ep,t,k _ _ (.inl rfl) e,c⟩
 | ins C dx fs=>
  obtain ⟨d,z,ne,e,mA,⟨od,es,ep,e2,c⟩,r⟩:=x;exact ⟨ho _ d,z,ne,k _ _ (.inl rfl) e,mA,⟨od,es,ep,k _ _ (.inr d) e2,c⟩,r⟩
 | own y=>obtain ⟨ob,e⟩:=x;exact ⟨ob,k _ _ (.inl rfl) e⟩
 | xd fs=>obtain ⟨mA,⟨od,es,ep,e,c⟩,r⟩:=x;exact ⟨mA,⟨od,es,ep,k _ _ (.inl rfl) e,c⟩,r⟩
 | rng lo hi=>obtain ⟨t,u,v,e⟩:=x;exact ⟨t,u,v,k _ _ (.inl rfl) e⟩
 | frz ob u ih=>obtain ⟨e,q⟩:=x;exact ⟨k _ _ (.inl rfl) e,ih q⟩
 | tbl t=>
  cases t with
  | tab q=>obtain ⟨m,e,tr,c⟩:=x;exact ⟨m,k a _ (.inl rfl) e,tr,fun pos cv z=>let ⟨c',e1,e2⟩:=c pos cv z;⟨c',e1,hb _ _ e2⟩⟩
  | cod q=>obtain ⟨c,o,vs,t,e,g,r⟩:=x;cases e;exact ⟨a,o,vs,t,rfl,k a _ (.inl rfl) g,r⟩
 | met f y=>
  have e:h.get? a=some (n6 (.ref f) (.ref y)):=x;show h'.get? a=some (n6 (.ref f) (.ref y));exact k a _ (.inl rfl) e
 | ext φ=>obtain ⟨p,⟨o,e⟩,st⟩:=x;exact ⟨st _ _ p fun o q=>k _ _ (.inl rfl) q,⟨o,k _ _ (.inl rfl) e⟩,st⟩
theorem HOk.lt (x:HOk P w H h) (e:H a=some o):a<h.objs.size:=(x a o e).lt
theorem HOk.fresh (x:HOk P w H h) (e:h.objs.size<=a):H a=none:=by
 cases q:H a with
 | none=>rfl
 | some u=>exact absurd (E5 (x.lt q) e) (O6 _)
theorem HOk.kept (x:HOk P w H h) (k:∀ b u,h.get? b=some u->h'.get? b=some u):HOk P w H h':=fun a o e=>
 (x a o e).stay (fun b u _ q=>k b u q) (fun _ q=>q) fun _ _ q=>q
theorem HOk.laid (x:HOk P w H h) (k:∀ b u,h.get? b=some u->h'.get? b=some u) (hp:h.objs.size<=a) (new:ObjOk P w (Ai H a o) h' a o):HOk P w (Ai H a o) h':=fun b u e=>by
 have hn:=x.fresh hp;by_cases hb:b=a
 ·subst hb;rw [qA1] at e;cases e;exact new
 ·rw [qA8 hb] at e;exact (x b u e).stay (fun c v _ q=>k c v q) (fun c q=>by rw [qA8 (qA5 q hn)];exact q) (fun c xs q=>by rw [qA8 (qA5 q hn)];exact q) fun c t q=>by rw [qA8 (qA5 q hn)];exact q
end
def Rd (H:Hp) (a:Addr) (u:HO):Prop:=H a=some u\/∃ o,H a=some (.frz o u)
theorem Rd.ok {P:Program} {w:World} {H:Hp} {h:Heap} {a:Addr} {u:HO} (r:Rd H a u) (x:HOk P w H h):ObjOk P w H h a u:=by
 rcases r with r | ⟨o,r⟩
 ·exact x a u r
 ·obtain ⟨_,q⟩:=x a _ r;exact q
def Mut:Option HO->Prop
 | some (.lst _)=>True
 | some (.dK _)=>True
 | some (.dT _)=>True
 | some (.set _ _)=>True
 | some (.ins _ _ _)=>True
 | some (.ext _)=>True
 | _=>False
section
variable {P:Program} {w:World} {H:Hp} {h h':Heap} {x e:Addr} {o':HO}
theorem HOk.write (ok:HOk P w H h) (mu:Mut (H x)) (he:e=x\/H e=some (.own x)) (k:∀ b u,b ≠ e->h.get? b=some u->h'.get? b=some u) (heo:∃ u,h'.get? e=some u)
  (new:ObjOk P w (Ai H x o') h' x o'):HOk P w (Ai H x o') h':=fun b u q=>by
 have nown:∀ c y,H c=some (.own y)->c ≠ x:=fun c y r z=>by subst z;rw [r] at mu;exact mu
 have ntup:∀ c xs,H c=some (.tup xs)->c ≠ x:=fun c xs r z=>by subst z;rw [r] at mu;exact mu
 by_cases hb:b=x
 ·subst hb;rw [qA1] at q;cases q;exact new
 ·rw [qA8 hb] at q;by_cases hbe:b=e
  ·have q':H b=some (.own x):=by
    rcases he with z | z
    ·exact absurd (hbe.trans z) hb
    ·rw [hbe];exact z
   rw [q] at q';cases q';obtain ⟨v,hv⟩:=heo;exact ⟨v,by rw [hbe];exact hv⟩
  ·refine (ok b u q).stay (fun c v hc r=>k c v ?_ r) (fun c r=>by rw [qA8 (nown c b r)];exact r) (fun c xs r=>by rw [qA8 (ntup c xs r)];exact r) fun c t r=>by rw [qA8 (fun z=>by subst z;rw [r] at mu;exact mu)];exact r
   rcases hc with rfl | hc
   ·exact hbe
   ·rintro rfl;rcases he with z | z
    ·exact nown c b hc z
    ·rw [hc] at z;cases z;exact hb rfl
end
structure Un (fs ex:List Addr) (H H':Hp) (h h':Heap):Prop where
 keep:∀ b o,h.get? b=some o->H b=none->b ∉ fs->b ∉ ex->h'.get? b=some o
 slot:∀ b o,h.get? b=some o->H b=none->b ∈ fs->b ∉ ex->∃ sl,h'.get? b=some { o with slots:=sl }
 free:∀ b o,h.get? b=some o->H b=none->b ∉ ex->H' b=none
 there:∀ b o,h.get? b=some o->b ∉ ex->∃ o',h'.get? b=some o'
 tups:∀ b xs,H b=some (.tup xs)->H' b=some (.tup xs)
 frzs:∀ b o u,H b=some (.frz o u)->H' b=some (.frz o u)
 tbls:∀ b ps,H b=some (.tbl ps)->H' b=some (.tbl ps)
section
variable {fs fs' ex ex':List Addr} {H H1 H2:Hp} {h h1 h2 h':Heap} {a x e:Addr} {o:HO}
theorem Un.any (u:Un fs ex H H1 h h1) {b:Addr} {ob:Obj} (q:h.get? b=some ob) (n:H b=none) (hx:b ∉ ex):∃ sl,h1.get? b=some { ob with slots:=sl }:=by
 by_cases hb:b ∈ fs
 ·exact u.slot b ob q n hb hx
 ·exact ⟨ob.slots,u.keep b ob q n hb hx⟩
theorem Un.kept (k:∀ b u,h.get? b=some u->h'.get? b=some u):Un fs ex H H h h':=
 ⟨fun b ob q _ _ _=>k b ob q,fun b ob q _ _ _=>⟨ob.slots,k b ob q⟩,fun _ _ _ n _=>n,fun b ob q _=>⟨ob,k b ob q⟩,fun _ _ q=>q,fun _ _ _ q=>q,fun _ _ q=>q⟩
theorem Un.refl:Un fs ex H H h h:=Un.kept fun _ _ q=>q
theorem Un.laid (k:∀ b u,h.get? b=some u->h'.get? b=some u) (hp:h.objs.size<=a) (hn:H a=none):Un fs ex H (Ai H a o) h h' where
 keep:=fun b u q _ _ _=>k b u q
 slot:=fun b u q _ _ _=>⟨u.slots,k b u q⟩
 free:=fun b u q n _=>by rw [qA8 (E6 (E5 (B6 q) hp))];exact n
 there:=fun b u q _=>⟨u,k b u q⟩
 tups:=fun b xs q=>by rw [qA8 (qA5 q hn)];exact q
 frzs:=fun b u xs q=>by rw [qA8 (qA5 q hn)];exact q
 tbls:=fun b ps q=>by rw [qA8 (qA5 q hn)];exact q
theorem Un.write (mu:Mut (H x)) (he:e=x\/H e=some (.own x)) (k:∀ b u,b ≠ e->h.get? b=some u->h'.get? b=some u) (heo:∃ u,h'.get? e=some u):Un fs ex H (Ai H x o) h h':=by
 have hx:∀ b,H b=none->b ≠ x:=fun b n z=>by subst z;rw [n] at mu;exact mu
 have hb:∀ b,H b=none->b ≠ e:=fun b n z=>by
  subst z;rcases he with r | r
  ·exact hx b n r
  ·rw [n] at r;cases r
 have hm:∀ b u,H b=some u->¬ Mut (some u)->b ≠ x:=fun b u q nm z=>by subst z;rw [q] at mu;exact nm mu
 refine ⟨fun b u q n _ _=>k b u (hb b n) q,fun b u q n _ _=>⟨u.slots,k b u (hb b n) q⟩,fun b u q n _=>by rw [qA8 (hx b n)];exact n,fun b u q _=>?_,
  fun b xs q=>by rw [qA8 (hm b _ q fun z=>z)];exact q,fun b u xs q=>by rw [qA8 (hm b _ q fun z=>z)];exact q,fun b ps q=>by rw [qA8 (hm b _ q fun z=>z)];exact q⟩
 by_cases hbe:b=e
 ·subst hbe;exact heo
 ·exact ⟨u,k b u hbe q⟩
end
def trk (h:Heap) (H:Hp):List Addr:=(C8 h.objs.size).filter fun a=>(H a).isSome
def hidT (h:Heap) (H:Hp):Heap:=PySem.W.hideAll h (trk h H)
theorem qTU (h:Heap) (H:Hp):(hidT h H).objs.size=h.objs.size:=PySem.W.hideAll_size _ _
theorem qWO {h:Heap} {H:Hp} {b:Addr} {o:Obj} (e:h.get? b=some o) (n:H b=none):(hidT h H).get? b=some o:=
 PySem.W.hideAll_get _ e fun hm=>by
  have q:(H b).isSome=true:=(B0.mp hm).2;rw [n] at q;simp at q
theorem qZ5 {h:Heap} {H:Hp} {b:Addr} {o:Obj} (e:(hidT h H).get? b=some o):h.get? b=some o/\H b=none:=by
 have e':h.get? b=some o:=PySem.W.of_hideAll (trk h H) e;refine ⟨e',?_⟩;cases q:H b with
 | none=>rfl
 | some x=>
  have hm:b ∈ trk h H:=B0.mpr ⟨J1.mpr (B6 e'),by simp [q]⟩
  have z:(hidT h H).get? b=none:=PySem.W.hideAll_none (trk h H) hm;rw [z] at e;cases e
def qa6 (g h:Heap) (L:Addr):List (Addr × Obj):=(C8 h.objs.size).filterMap fun a=>if a=L\/(g.get? a).isSome=true then none else (h.get? a).map fun o=>(a,o)
def rest (g h:Heap) (L d:Addr):List (Addr × Obj):=(qa6 g h L).filter fun p=>decide (p.1 ≠ d)
structure Mod (K:PySem.W.Frag) (mg:Str->Option Value) (base:Heap):Prop where
 kin:K.In base
 glob:base.Ns mainGlobals mg
 blt:∃ mb,base.Ns builtinsNs mb/\∀ x:Str,x ≠ "__name__"->mb x=bootBuiltins x
 nolimit:base.NoLimit
structure Cx where
 prog:Program
 w:World
 K:PySem.W.Frag
 mg:Str->Option Value
 base:Heap
 A:Around
 N:List Str
 s₀:Shared
 H₀:Hp
 env:Env
 outer:List Env
 stack:List Env
 ex:List Addr
 fn:Str->Bool
 calm:Bool
 pn:List (Addr × Obj)
 xe:Value->Shared->Prop
def frs (l:List Env):List Addr:=l.filterMap (·.frame)
abbrev Cx.fs (X:Cx):List Addr:=frs X.outer
def Vis (sc:Scope) (x:Str):Prop:=sc.names.lookup x=some .local\/sc.names.lookup x=some .cell\/sc.names.lookup x=some .free
def Loc (sc:Scope) (x:Str):Prop:=sc.names.lookup x=some .local\/sc.names.lookup x=some .cell
def Look (env:Env) (h:Heap) (m:Str->Option Value) (x:Str) (u:Value):Prop:=
 (env.kindOf x=some .local/\m x=some u)\/((env.kindOf x=some .cell\/env.kindOf x=some .free)/\∃ c,env.cells.lookup x=some c/\h.IsCell c (some u))
structure Cx.Ok (X:Cx):Prop where
 mod:Mod X.K X.mg X.base
 kind:X.env.scope.kind=.function
 glob:X.env.globals=mainGlobals
 blt:X.env.builtins=builtinsNs
 above:X.s₀.heap.objs.size<=X.env.locals
 inj:∀ x y c,X.env.cells.lookup x=some c->X.env.cells.lookup y=some c->x=y
 has:∀ x,(X.env.kindOf x=some .cell\/X.env.kindOf x=some .free)->∃ c,X.env.cells.lookup x=some c
 cab:∀ x c,X.fn x=true->X.env.cells.lookup x=some c->X.s₀.heap.objs.size<=c
 hd:X.calm=true->X.A.handled=none
 frames:X.A.frames=some X.stack
 stk:X.stack=X.outer\/(X.stack=X.env::X.outer/\X.env.frame=some X.env.locals)
 exf:∀ b ∈ X.ex,b ≠ X.env.locals/\∀ x c,X.env.cells.lookup x=some c->c ≠ b
 bs:∀ b o,X.base.get? b=some o->X.s₀.heap.get? b=some o/\X.H₀ b=none
 bsz:X.base.objs.size<=X.s₀.heap.objs.size
 noex:∀ b o,X.base.get? b=some o->b ∉ X.ex
 exfs:∀ b ∈ X.ex,b ∉ X.fs
 funs:X.s₀.heap.FunFrames X.base X.outer
 frf:∀ b ∈ X.fs,X.H₀ b=none
structure Inv (X:Cx) (Ab:List (Addr × Obj)) (σ:List (Option V)) (H:Hp) (s:Shared):Prop where
 ok:X.Ok
 os:s.os=X.s₀.os
 bare:AllBare s.gens
 base:Un X.fs X.ex X.H₀ H X.s₀.heap s.heap
 loc:∃ m,s.heap.Ns X.env.locals m/\∀ (i:Nat) (x:Str) (v:V),X.N[i]?=some x->σ[i]?=some (some v)->Vis X.env.scope x->∃ u,RelV v u/\Look X.env s.heap m x u
 cell:∀ x c,X.env.cells.lookup x=some c->∃ v,s.heap.IsCell c v
 free:H X.env.locals=none
 freeC:∀ x c,X.env.cells.lookup x=some c->H c=none
 pin:∀ p ∈ X.pn++Ab,s.heap.get? p.1=some p.2/\H p.1=none/\p.1 ≠ X.env.locals/\p.1 ∉ X.fs/\∀ v,p.2.data ≠ .cell v
 hok:HOk X.prog X.w H s.heap
 len:σ.length=X.N.length
section
variable {X:Cx} {Ab:List (Addr × Obj)} {σ:List (Option V)} {H H':Hp} {s:Shared} {h':Heap}
theorem Cx.Ok.nofr (ok:X.Ok) {b:Addr} {o:Obj} (e:X.base.get? b=some o):b ∉ X.fs:=fun hb=>by
 have:=(ok.funs.mem hb).1;rw [e] at this;cases this
theorem Inv.bs (I:Inv X Ab σ H s):∀ b o,X.base.get? b=some o->s.heap.get? b=some o/\H b=none:=fun b o e=>
 ⟨I.base.keep b o (I.ok.bs b o e).1 (I.ok.bs b o e).2 (I.ok.nofr e) (I.ok.noex b o e),I.base.free b o (I.ok.bs b o e).1 (I.ok.bs b o e).2 (I.ok.noex b o e)⟩
theorem Inv.bk (I:Inv X Ab σ H s):∀ b o,X.base.get? b=some o->s.heap.get? b=some o:=fun b o e=>(I.bs b o e).1
theorem Inv.mod (I:Inv X Ab σ H s):Mod X.K X.mg X.base:=I.ok.mod
theorem Inv.kIn (I:Inv X Ab σ H s):X.K.In s.heap:=I.ok.mod.kin.keeps I.bk
theorem Inv.lt (I:Inv X Ab σ H s):X.env.locals<s.heap.objs.size:=let ⟨_,hn,_⟩:=I.loc;hn.lt
theorem Inv.sz (I:Inv X Ab σ H s):X.s₀.heap.objs.size<=s.heap.objs.size:=F6 I.ok.above (R4 I.lt)
theorem Inv.nofs (I:Inv X Ab σ H s) {a:Addr} (h:s.heap.objs.size<=a):a ∉ X.fs:=fun hb=>by
 obtain ⟨_,o,ho,_⟩:=I.ok.funs.mem hb;exact absurd (E5 (B6 ho) (F6 I.sz h)) (O6 _)
theorem Inv.cne (I:Inv X Ab σ H s):∀ x c,X.env.cells.lookup x=some c->c ≠ X.env.locals:=fun x c e z=>by
 obtain ⟨v,o,ho,hd⟩:=I.cell x c e;obtain ⟨m,⟨o',es,ep,ho',hd',_⟩,_⟩:=I.loc;rw [z,ho'] at ho;cases ho;rw [hd'] at hd;cases hd
theorem Inv.funs (I:Inv X Ab σ H s):s.heap.FunFrames X.base X.outer:=by
 have all:∀ (l:List Env),(∀ b ∈ frs l,b ∈ X.fs)->X.s₀.heap.FunFrames X.base l->s.heap.FunFrames X.base l:=by
  intro l
  induction l with
  | nil=>intro _ _;trivial
  | cons env r ih=>
   intro hs hl;obtain ⟨hk,⟨L,o,hf,hn,ho,hd⟩,hr⟩:=hl;have hL:L ∈ X.fs:=hs L (by unfold frs;rw [O0,hf];exact C0)
   obtain ⟨sl,e⟩:=I.base.slot L o ho (I.ok.frf L hL) hL fun z=>I.ok.exfs L z hL;exact ⟨hk,⟨L,_,hf,hn,e,hd⟩,ih (fun b hb=>hs b (by unfold frs;rw [O0,hf];exact A7 _ hb)) hr⟩
 exact all X.outer (fun _ hb=>hb) I.ok.funs
theorem Inv.stack (I:Inv X Ab σ H s):s.heap.FunFrames X.base X.stack:=by
 rcases I.ok.stk with e | ⟨e,hf⟩
 ·rw [e];exact I.funs
 ·rw [e];obtain ⟨m,hn,_⟩:=I.loc;refine .cons (by rw [I.ok.kind];decide) hf hn ?_ I.funs
  exact Heap.get?_none_of_le (F6 I.ok.bsz I.ok.above)
theorem Inv.stkSub (I:Inv X Ab σ H s):∀ b ∈ frs X.stack,b ∈ X.env.locals::X.fs:=fun b hb=>by
 rcases I.ok.stk with e | ⟨e,hf⟩
 ·rw [e] at hb;exact A7 _ hb
 ·rw [e] at hb;unfold frs at hb;rw [O0,hf] at hb;exact hb
theorem Inv.stkFree (I:Inv X Ab σ H s):∀ b ∈ frs X.stack,H b=none:=fun b hb=>by
 rcases B7.mp (I.stkSub b hb) with e | hb
 ·rw [e];exact I.free
 ·obtain ⟨_,o,ho,_⟩:=I.ok.funs.mem hb;exact I.base.free b o ho (I.ok.frf b hb) fun z=>I.ok.exfs b z hb
theorem Inv.step {g':Array GenState} {t':Nat} {d':Drawn} {ch:List Addr} (I:Inv X Ab σ H s)
  (hch:∀ b ∈ ch,(b ∈ X.ex\/X.s₀.heap.objs.size<=b)/\b ≠ X.env.locals/\(∀ x c,X.env.cells.lookup x=some c->c ≠ b)/\∀ p ∈ X.pn++Ab,p.1 ≠ b)
  (keep:∀ b o,b ≠ X.env.locals->b ∉ X.fs->b ∉ ch->s.heap.get? b=some o->H b=none->h'.get? b=some o)
  (slot:∀ b o,b ≠ X.env.locals->b ∈ X.fs->b ∉ ch->s.heap.get? b=some o->H b=none->∃ sl,h'.get? b=some { o with slots:=sl }) (free:∀ b o,b ∉ ch->s.heap.get? b=some o->H b=none->H' b=none)
  (there:∀ b o,b ∉ ch->s.heap.get? b=some o->∃ o',h'.get? b=some o')
  (tups:∀ b xs,H b=some (.tup xs)->H' b=some (.tup xs)) (frzs:∀ b o u,H b=some (.frz o u)->H' b=some (.frz o u)) (tbls:∀ b ps,H b=some (.tbl ps)->H' b=some (.tbl ps))
  (ns:∀ m,s.heap.Ns X.env.locals m->h'.Ns X.env.locals m) (hok:HOk X.prog X.w H' h') (hg:AllBare g') :
  Inv X Ab σ H' { s with heap:=h',gens:=g',drawn:=d',toks:=t' }:=by
 have neL:∀ b o,X.s₀.heap.get? b=some o->b ≠ X.env.locals:=fun b o e=>E6 (E5 (B6 e) I.ok.above);have neC:∀ b o,X.s₀.heap.get? b=some o->b ∉ X.ex->b ∉ ch:=fun b o e hx hb=>by
  rcases (hch b hb).1 with z | z
  ·exact hx z
  ·exact absurd (E5 (B6 e) z) (O6 _)
 have cellK:∀ x c,X.env.cells.lookup x=some c->∀ v,s.heap.IsCell c v->h'.IsCell c v:=fun x c e v ⟨o,ho,hd⟩=>by
  have nch:c ∉ ch:=fun z=>(hch c z).2.2.1 x c e rfl;by_cases hc:c ∈ X.fs
  ·obtain ⟨sl,q⟩:=slot c o (I.cne x c e) hc nch ho (I.freeC x c e);exact ⟨_,q,hd⟩
  ·exact ⟨o,keep c o (I.cne x c e) hc nch ho (I.freeC x c e),hd⟩
 refine ⟨I.ok,I.os,hg,⟨fun b o e n hb hx=>?_,fun b o e n hb hx=>?_,fun b o e n hx=>?_,fun b o e hx=>?_,fun b xs e=>tups b xs (I.base.tups b xs e),fun b o xs e=>frzs b o xs (I.base.frzs b o xs e),fun b ps e=>?_⟩,?_,fun x c e=>?_,?_,fun x c e=>?_,fun p hp=>?_,hok,I.len⟩
 ·exact keep b o (neL b o e) hb (neC b o e hx) (I.base.keep b o e n hb hx) (I.base.free b o e n hx)
 ·obtain ⟨sl,e1⟩:=I.base.slot b o e n hb hx;obtain ⟨sl',e2⟩:=slot b _ (neL b o e) hb (neC b o e hx) e1 (I.base.free b o e n hx);exact ⟨sl',e2⟩
 ·obtain ⟨o',e1⟩:=I.base.there b o e hx;exact free b o' (neC b o e hx) e1 (I.base.free b o e n hx)
 ·obtain ⟨o',e1⟩:=I.base.there b o e hx;exact there b o' (neC b o e hx) e1
 ·exact tbls b ps (I.base.tbls b ps e)
 ·obtain ⟨m,hn,hl⟩:=I.loc;refine ⟨m,ns m hn,fun i x v e1 e2 e3=>?_⟩;obtain ⟨u,r,l⟩:=hl i x v e1 e2 e3;refine ⟨u,r,?_⟩;rcases l with l | ⟨k,c,e,z⟩
  ·exact .inl l
  ·exact .inr ⟨k,c,e,cellK x c e _ z⟩
 ·obtain ⟨v,z⟩:=I.cell x c e;exact ⟨v,cellK x c e v z⟩
 ·obtain ⟨m,⟨o,_,_,ho,_⟩,_⟩:=I.loc;exact free _ o (fun z=>(hch _ z).2.1 rfl) ho I.free
 ·obtain ⟨v,o,ho,hd⟩:=I.cell x c e;exact free c o (fun z=>(hch c z).2.2.1 x c e rfl) ho (I.freeC x c e)
 ·obtain ⟨e,n,ne,nf,d⟩:=I.pin p hp;have nch:p.1 ∉ ch:=fun z=>(hch p.1 z).2.2.2 p hp rfl;exact ⟨keep p.1 p.2 ne nf nch e n,free p.1 p.2 nch e n,ne,nf,d⟩
theorem Inv.un {t':Nat} (I:Inv X Ab σ H s) (u:Un X.fs [] H H' s.heap h') (hok:HOk X.prog X.w H' h'):Inv X Ab σ H' { s with heap:=h',toks:=t' }:=by
 obtain ⟨m,⟨o,es,ep,ho,r⟩,_⟩:=id I.loc;obtain ⟨sl,hL⟩:=u.any ho I.free (by simp)
 exact I.step (g':=s.gens) (d':=s.drawn) (ch:=[]) (fun _ z=>nomatch z) (fun b o _ hb _ e n=>u.keep b o e n hb (by simp)) (fun b o _ hb _ e n=>u.slot b o e n hb (by simp)) (fun b o _ e n=>u.free b o e n (by simp)) (fun b o _ e=>u.there b o e (by simp)) u.tups u.frzs u.tbls (fun m' hm=>by
  obtain ⟨o',es',ep',ho',r'⟩:=hm;rw [ho] at ho';cases ho';exact ⟨_,es',ep',hL,r'⟩) hok I.bare
theorem Inv.call {g':Array GenState} {t':Nat} {d':Drawn} {ch:List Addr} (I:Inv X Ab σ H s) (u:Un (frs X.stack) ch H H' s.heap h') (hok:HOk X.prog X.w H' h') (hg:AllBare g')
  (hch:∀ b ∈ ch,(b ∈ X.ex\/X.s₀.heap.objs.size<=b)/\b ≠ X.env.locals/\(∀ x c,X.env.cells.lookup x=some c->c ≠ b)/\∀ p ∈ X.pn++Ab,p.1 ≠ b) :
  Inv X Ab σ H' { s with heap:=h',gens:=g',drawn:=d',toks:=t' }:=by
 obtain ⟨m,⟨o,es,ep,ho,r⟩,_⟩:=id I.loc;obtain ⟨sl,hL⟩:=u.any ho I.free fun z=>(hch _ z).2.1 rfl;exact I.step (ch:=ch) hch (fun b o hL hb hc e n=>u.keep b o e n (fun z=>(B7.mp (I.stkSub b z)).elim hL hb) hc) (fun b o _ _ hc e n=>u.any e n hc) (fun b o hc e n=>u.free b o e n hc) (fun b o hc e=>u.there b o e hc) u.tups u.frzs u.tbls (fun m' hm=>by
  obtain ⟨o',es',ep',ho',r'⟩:=hm;rw [ho] at ho';cases ho';exact ⟨_,es',ep',hL,r'⟩) hok hg
theorem Inv.turned {t':Nat} {it:Addr} (I:Inv X Ab σ H s) (k:∀ b o,b ≠ it->s.heap.get? b=some o->h'.get? b=some o) (hn:H it=none) (hL:it ≠ X.env.locals)
  (h1:it ∈ X.ex\/X.s₀.heap.objs.size<=it) (h2:∀ x c,X.env.cells.lookup x=some c->c ≠ it) (h3:∀ p ∈ X.pn++Ab,p.1 ≠ it):Inv X Ab σ H { s with heap:=h',toks:=t' }:=by
 have nit:∀ b u,H b=some u->b ≠ it:=fun b u e z=>by rw [z,hn] at e;cases e
 refine I.step (g':=s.gens) (d':=s.drawn) (ch:=[it]) (fun b hb=>?_) (fun b o _ _ hc e _=>k b o (fun z=>hc (by simp [z])) e) (fun b o _ _ hc e _=>⟨o.slots,k b o (fun z=>hc (by simp [z])) e⟩) (fun _ _ _ _ n=>n)
  (fun b o hc e=>⟨o,k b o (fun z=>hc (by simp [z])) e⟩) (fun _ _ e=>e) (fun _ _ _ e=>e) (fun _ _ e=>e) (fun m hm=>?_) (fun b u e=>?_) I.bare
 ·have e:b=it:=by simpa using hb
  subst e;exact ⟨h1,hL,h2,h3⟩
 ·obtain ⟨o,es,ep,ho,r⟩:=hm;exact ⟨o,es,ep,k _ o (J2 hL) ho,r⟩
 ·refine (I.hok b u e).stay (fun c v hc q=>k c v ?_ q) (fun _ q=>q) fun _ _ q=>q;rcases hc with z | z
  ·rw [z];exact nit b u e
  ·exact nit c _ z
theorem Inv.tok (I:Inv X Ab σ H s) (t:Nat):Inv X Ab σ H { s with toks:=t }:=I.un (h':=s.heap) (t':=t) Un.refl I.hok
theorem Inv.kept {t':Nat} (I:Inv X Ab σ H s) (k:∀ b u,s.heap.get? b=some u->h'.get? b=some u):Inv X Ab σ H { s with heap:=h',toks:=t' }:=I.un (Un.kept k) (I.hok.kept k)
theorem Inv.laid {a:Addr} {o:HO} {t':Nat} (I:Inv X Ab σ H s) (k:∀ b u,s.heap.get? b=some u->h'.get? b=some u) (hp:s.heap.objs.size<=a) (new:ObjOk X.prog X.w (Ai H a o) h' a o) :
  Inv X Ab σ (Ai H a o) { s with heap:=h',toks:=t' }:=I.un (Un.laid k hp (I.hok.fresh hp)) (I.hok.laid k hp new)
theorem Inv.write {x e:Addr} {o:HO} {t':Nat} (I:Inv X Ab σ H s) (mu:Mut (H x)) (he:e=x\/H e=some (.own x)) (k:∀ b u,b ≠ e->s.heap.get? b=some u->h'.get? b=some u) (heo:∃ u,h'.get? e=some u)
  (new:ObjOk X.prog X.w (Ai H x o) h' x o):Inv X Ab σ (Ai H x o) { s with heap:=h',toks:=t' }:=I.un (Un.write mu he k heo) (I.hok.write mu he k heo new)
theorem Inv.pins_of {pins':List (Addr × Obj)} (I:Inv X Ab σ H s) (h:∀ p ∈ pins',s.heap.get? p.1=some p.2/\H p.1=none/\p.1 ≠ X.env.locals/\p.1 ∉ X.fs/\∀ v,p.2.data ≠ .cell v):Inv X pins' σ H s:=
 ⟨I.ok,I.os,I.bare,I.base,I.loc,I.cell,I.free,I.freeC,fun p hp=>(B8.mp hp).elim (fun z=>I.pin p (O8 _ z)) (h p),I.hok,I.len⟩
theorem qQ2 {N:List Str} (hN:N.Nodup) {i j:Nat} {x:Str} (a:N[i]?=some x) (b:N[j]?=some x):i=j:=by
 obtain ⟨h1,e1⟩:=A1.mp a;obtain ⟨h2,e2⟩:=A1.mp b;exact (List.getElem_inj hN).mp (e1.trans e2.symm)
theorem qN1 {M:Model} {A:Around} {E:Value->Shared->Prop} {i:Nat} {x:Str} {v:V} {u:Value} {Q:Unit->Shared->Prop} (I:Inv X Ab σ H s) (hN:X.N.Nodup) (hi:X.N[i]?=some x) (hx:Loc X.env.scope x) (r:RelV v u)
  (h:∀ s',Inv X Ab (σ.set i (some v)) H s'->(∃ a,Heap.SameBut a s.heap s'.heap/\(a=X.env.locals\/X.env.cells.lookup x=some a))->Q () s') (hf:X.fn x=true\/X.env.scope.names.lookup x=some .local:=by first | exact .inl rfl | exact .inr rfl | assumption):wpAny M A (storeName X.env x u) Q E s:=by
 obtain ⟨m,hn,hl⟩:=id I.loc;have hcls:(X.env.scope.kind == .class || (X.env.scope.kind == .module && X.env.locals != X.env.globals))=false:=by rw [I.ok.kind];rfl
 have hiσ:i<σ.length:=by rw [I.len];exact (A1.mp hi).1
 have cne:=I.cne;have tracked:∀ {a:Addr} {h':Heap},(∃ o,s.heap.get? a=some o/\H a=none)->Heap.SameBut a s.heap h'->HOk X.prog X.w H h':=fun {a h'} ha hs b ob e=>by
  obtain ⟨_,_,hfree⟩:=ha;refine (I.hok b ob e).stay (fun c w' hc q=>(hs.2 c ?_).trans q) (fun _ q=>q) fun _ _ q=>q;rintro rfl;rcases hc with rfl | hc
  ·rw [hfree] at e;cases e
  ·rw [hfree] at hc;cases hc
 rcases hx with hk | hk
 ·refine wpAny_storeName_local hk hn (fun h' hn' hs=>?_) hcls;obtain ⟨oL,_,_,hoL,_⟩:=id hn;refine h _ ⟨I.ok,I.os,I.bare,⟨fun b o e n hb hx=>?_,fun b o e n hb hx=>?_,I.base.free,fun b o e hx=>?_,I.base.tups,I.base.frzs,I.base.tbls⟩,⟨_,hn',fun j y v' e1 e2 e3=>?_⟩,fun y c e=>?_,I.free,I.freeC,fun p hp=>?_,tracked ⟨oL,hoL,I.free⟩ hs,by simpa using I.len⟩ ⟨_,hs,.inl rfl⟩
  ·exact (hs.2 b (E6 (E5 (B6 e) I.ok.above))).trans (I.base.keep b o e n hb hx)
  ·obtain ⟨sl,e1⟩:=I.base.slot b o e n hb hx;exact ⟨sl,(hs.2 b (E6 (E5 (B6 e) I.ok.above))).trans e1⟩
  ·obtain ⟨o',e1⟩:=I.base.there b o e hx;exact ⟨o',(hs.2 b (E6 (E5 (B6 e) I.ok.above))).trans e1⟩
  ·by_cases hj:j=i
   ·subst hj;rw [hi] at e1;cases e1;rw [Z6 hiσ] at e2;cases e2;exact ⟨u,r,.inl ⟨hk,by simp⟩⟩
   ·rw [d4 (J2 hj)] at e2;obtain ⟨u',r',q⟩:=hl j y v' e1 e2 e3;refine ⟨u',r',?_⟩;rcases q with ⟨k,e⟩ | ⟨k,c,e,z⟩
    ·refine .inl ⟨k,?_⟩;have:y ≠ x:=fun e=>hj (qQ2 hN e1 (e ▸ hi));simp [this,e]
    ·exact .inr ⟨k,c,e,z.sameBut hs (cne y c e)⟩
  ·obtain ⟨w',z⟩:=I.cell y c e;exact ⟨w',z.sameBut hs (cne y c e)⟩
  ·obtain ⟨e,n,ne,nf,d⟩:=I.pin p hp;exact ⟨(hs.2 p.1 ne).trans e,n,ne,nf,d⟩
 ·have hfn:X.fn x=true:=by
   rcases hf with z | z
   ·exact z
   ·rw [z] at hk;cases hk
  obtain ⟨c,hc⟩:=I.ok.has x (.inl hk);obtain ⟨w',z⟩:=I.cell x c hc;refine wpAny_storeName_cell I.ok.kind hk hc z (fun h' hc' hs=>?_);obtain ⟨oc,hoc,hocd⟩:=id z;refine h { s with heap:=h' } ⟨I.ok,I.os,I.bare,⟨fun b o e n hb hx=>?_,fun b o e n hb hx=>?_,I.base.free,fun b o e hx=>?_,I.base.tups,I.base.frzs,I.base.tbls⟩,⟨m,hn.sameBut hs (J2 (cne x c hc)),fun j y v' e1 e2 e3=>?_⟩,fun y c' e=>?_,I.free,I.freeC,fun p hp=>?_,tracked ⟨oc,hoc,I.freeC x c hc⟩ hs,by simpa using I.len⟩ ⟨c,hs,.inr hc⟩
  ·exact (hs.2 b (E6 (E5 (B6 e) (I.ok.cab x c hfn hc)))).trans (I.base.keep b o e n hb hx)
  ·obtain ⟨sl,e1⟩:=I.base.slot b o e n hb hx;exact ⟨sl,(hs.2 b (E6 (E5 (B6 e) (I.ok.cab x c hfn hc)))).trans e1⟩
  ·obtain ⟨o',e1⟩:=I.base.there b o e hx;exact ⟨o',(hs.2 b (E6 (E5 (B6 e) (I.ok.cab x c hfn hc)))).trans e1⟩
  ·by_cases hj:j=i
   ·subst hj;rw [hi] at e1;cases e1;rw [Z6 hiσ] at e2;cases e2;exact ⟨u,r,.inr ⟨.inl hk,c,hc,hc'⟩⟩
   ·rw [d4 (J2 hj)] at e2;obtain ⟨u',r',q⟩:=hl j y v' e1 e2 e3;refine ⟨u',r',?_⟩;rcases q with q | ⟨k,c',e,z'⟩
    ·exact .inl q
    ·refine .inr ⟨k,c',e,z'.sameBut hs ?_⟩;rintro rfl;exact hj (qQ2 hN e1 (I.ok.inj _ _ _ e hc ▸ hi))
  ·by_cases hcc:c'=c
   ·subst hcc;exact ⟨_,hc'⟩
   ·obtain ⟨w2,z2⟩:=I.cell y c' e;exact ⟨w2,z2.sameBut hs hcc⟩
  ·obtain ⟨e,n,ne,nf,d⟩:=I.pin p hp;refine ⟨(hs.2 p.1 ?_).trans e,n,ne,nf,d⟩;intro q;rw [q,hoc] at e;have q':oc=p.2:=A8 e;exact d w' (by rw [<- q'];exact hocd)
theorem qLC {M:Model} {A:Around} {E:Value->Shared->Prop} {i:Nat} {x:Str} {v:V} {u:Value} {Q:Unit->Shared->Prop} (I:Inv X Ab σ H s) (hN:X.N.Nodup) (hi:X.N[i]?=some x) (hx:Loc X.env.scope x) (r:RelV v u)
  (h:∀ s',Inv X Ab (σ.set i (some v)) H s'->Q () s') (hf:X.fn x=true\/X.env.scope.names.lookup x=some .local:=by first | exact .inl rfl | exact .inr rfl | assumption):wpAny M A (storeName X.env x u) Q E s:=
 qN1 I hN hi hx r (fun s' I' _=>h s' I') hf
theorem Inv.call' {s':Shared} {ch:List Addr} (I:Inv X Ab σ H s) (ho:s'.os=s.os) (u:Un (frs X.stack) ch H H' s.heap s'.heap) (hok:HOk X.prog X.w H' s'.heap) (hg:AllBare s'.gens)
  (hch:∀ b ∈ ch,(b ∈ X.ex\/X.s₀.heap.objs.size<=b)/\b ≠ X.env.locals/\(∀ x c,X.env.cells.lookup x=some c->c ≠ b)/\∀ p ∈ X.pn++Ab,p.1 ≠ b):Inv X Ab σ H' s':=by
 obtain ⟨h',g',d',t',o'⟩:=s';have e:o'=s.os:=ho;subst e;exact I.call (g':=g') (t':=t') (d':=d') u hok hg hch
end
abbrev XK:=Value->Option Addr->Hp->Prop
abbrev St:=List (Option V)
abbrev VK:=V->Hp->Prop
abbrev TE:=St->Hp->VK->Prop
abbrev TT:=St->Hp->(Bool->Hp->Prop)->Prop
abbrev TA:=St->Hp->(List V->Hp->Prop)->Prop
structure Ends where
 nx:St->Hp->Prop
 rt:VK
 bk:St->Hp->Prop:=fun _ _=>False
 ct:St->Hp->Prop:=fun _ _=>False
abbrev TS:=Ends->St->Hp->Prop
def EP (X:Cx) (Ab:List (Addr × Obj)) (σ:St) (Q:VK) (u:Value) (s':Shared):Prop:=∃ v H',Inv X Ab σ H' s'/\RelV v u/\Q v H'
def TP (X:Cx) (Ab:List (Addr × Obj)) (σ:St) (Q:Bool->Hp->Prop) (b:Bool) (s':Shared):Prop:=∃ H',Inv X Ab σ H' s'/\Q b H'
def AP (X:Cx) (Ab:List (Addr × Obj)) (σ:St) (Q:List V->Hp->Prop) (us:List Value) (s':Shared):Prop:=∃ vs H',Inv X Ab σ H' s'/\Vals vs us/\Q vs H'
def SP (X:Cx) (Ab:List (Addr × Obj)) (D:Ends) (f:Flow) (s':Shared):Prop:=
 match f with
 | .next=>∃ σ' H',Inv X Ab σ' H' s'/\D.nx σ' H'
 | .brk=>∃ σ' H',Inv X Ab σ' H' s'/\D.bk σ' H'
 | .cont=>∃ σ' H',Inv X Ab σ' H' s'/\D.ct σ' H'
 | .ret u=>∃ v σ' H',Inv X Ab σ' H' s'/\RelV v u/\D.rt v H'
def PE (X:Cx) (e:Expr) (t:TE):Prop:=
 ∀ (Ab:List (Addr × Obj)) (s:Shared) (σ:St) (H:Hp) (Q:VK),Inv X Ab σ H s->t σ H Q->wpAny (model X.prog X.w) X.A (eval e X.env) (EP X Ab σ Q) X.xe s
def PT (X:Cx) (e:Expr) (t:TT):Prop:=
 ∀ (Ab:List (Addr × Obj)) (s:Shared) (σ:St) (H:Hp) (Q:Bool->Hp->Prop),Inv X Ab σ H s->t σ H Q->wpAny (model X.prog X.w) X.A (isTrue e X.env (eval e X.env)) (TP X Ab σ Q) X.xe s
def PW (X:Cx) (e:Expr) (t:TT):Prop:=
 ∀ (whole:Sem Value) (Ab:List (Addr × Obj)) (s:Shared) (σ:St) (H:Hp) (Q:Bool->Hp->Prop),Inv X Ab σ H s->t σ H Q->wpAny (model X.prog X.w) X.A (isTrue e X.env whole) (TP X Ab σ Q) X.xe s
theorem PW.pt {X:Cx} {e:Expr} {t:TT} (h:PW X e t):PT X e t:=h _
def PA (X:Cx) (es:List Expr) (t:TA):Prop:=
 ∀ (pos:Pos) (Ab:List (Addr × Obj)) (s:Shared) (σ:St) (H:Hp) (Q:List V->Hp->Prop),Inv X Ab σ H s->t σ H Q->wpAny (model X.prog X.w) X.A (spliced (backTo pos (starEach es X.env))) (AP X Ab σ Q) X.xe s
def PS (X:Cx) (st:Stmt) (t:TS):Prop:=
 ∀ (Ab:List (Addr × Obj)) (s:Shared) (σ:St) (H:Hp) (D:Ends),Inv X Ab σ H s->t D σ H->wpAny (model X.prog X.w) X.A (exec st X.env) (SP X Ab D) X.xe s
def PSs (X:Cx) (st:List Stmt) (t:TS):Prop:=
 ∀ (Ab:List (Addr × Obj)) (s:Shared) (σ:St) (H:Hp) (D:Ends),Inv X Ab σ H s->t D σ H->wpAny (model X.prog X.w) X.A (execs st X.env) (SP X Ab D) X.xe s
theorem thn {α:Type} {t:Sem α} {Q Q':α->Shared->Prop} {M:Model} {A:Around} {E:Value->Shared->Prop} {s:Shared} (h:wpAny M A t Q E s) (hQ:∀ a s,Q a s->Q' a s):wpAny M A t Q' E s:=wpAny_mono h hQ fun _ _ x=>x
section
variable {X:Cx}
theorem bin {a b:Expr} {ta tb:TE} (ha:PE X a ta) (hb:PE X b tb) {Ab:List (Addr × Obj)} {s:Shared} {σ:St} {H:Hp} {R:V->V->Hp->Prop} (I:Inv X Ab σ H s) (h:ta σ H fun x H1=>tb σ H1 fun y H2=>R x y H2)
  {α:Type} {Q:α->Shared->Prop} {f:Value->Value->Sem α}
  (hf:∀ v u s2 x y H2,Inv X Ab σ H2 s2->RelV x v->RelV y u->R x y H2->wpAny (model X.prog X.w) X.A (f v u) Q X.xe s2) :
  wpAny (model X.prog X.w) X.A (eval a X.env) (fun v s₁=>wpAny (model X.prog X.w) X.A (eval b X.env) (fun u s₂=>wpAny (model X.prog X.w) X.A (f v u) Q X.xe s₂) X.xe s₁) X.xe s:=by
 refine thn (ha Ab s σ H _ I h) fun v s1 ⟨x,H1,I1,r1,q1⟩=>?_;refine thn (hb Ab s1 σ H1 _ I1 q1) fun u s2 ⟨y,H2,I2,r2,q2⟩=>?_;exact hf v u s2 x y H2 I2 r1 r2 q2
def tVar (i:Nat):TE:=fun σ H Q=>∃ v,σ[i]?=some (some v)/\Q v H
def tC (v:V):TE:=fun _ H Q=>Q v H
theorem qb5 {i:Nat} {x:Str} {pos:Pos} (hN:X.N[i]?=some x) (hv:Vis X.env.scope x) (hd:(x == ("__debug__" : Str))=false:=by decide) (hcd:(x == ("__classdict__" : Str))=false:=by decide):PE X (.Name x pos) (tVar i):=by
 intro Ab s σ H Q I h;obtain ⟨v,e,h⟩:=h;obtain ⟨m,hn,hl⟩:=I.loc;obtain ⟨u,r,l⟩:=hl i x v hN e hv;have fin:EP X Ab σ Q u s:=⟨v,H,I,r,h⟩;rcases l with ⟨hk,hm⟩ | ⟨hk,c,hc,hcell⟩
 ·exact wpAny_Name (wpAny_loadName_local I.ok.kind hk hn hm fin) hd
 ·rcases hk with hk | hk
  ·exact wpAny_Name (wpAny_loadName_cell I.ok.kind hk hc hcell fin) hd
  ·exact wpAny_Name (wpAny_loadName_free I.ok.kind hk hc hcell fin hcd) hd
theorem qA7 {i j pos}:PE X (.Constant (.int i) j pos) (tC (.int i)):=fun _ _ _ H _ I h=>wpAny_Constant_int ⟨.int i,H,I.tok _,⟨_,rfl⟩,h⟩
theorem qGX {b j pos}:PE X (.Constant (.bool b) j pos) (tC (.bl b)):=fun _ _ _ H _ I h=>Constant_bool ⟨.bl b,H,I,rfl,h⟩
theorem qJN {j pos}:PE X (.Constant .none j pos) (tC .non):=fun _ _ _ H _ I h=>Constant_none ⟨.non,H,I,rfl,h⟩
theorem qB9 {x j pos}:PE X (.Constant (.str x) j pos) (tC (.str x)):=fun _ _ _ H _ I h=>Calls.Constant_str ⟨.str x,H,I.tok _,⟨_,rfl⟩,h⟩
def Gl (X:Cx) (x:Str):Prop:=X.env.kindOf x=some .globalImplicit
theorem qTH {E:Value->Shared->Prop} {Ab:List (Addr × Obj)} {s:Shared} {σ:St} {H:Hp} {x:Str} {u:Value} {pos:Pos} {Q:Value->Shared->Prop} (I:Inv X Ab σ H s) (hg:Gl X x) (hm:X.mg x=some u) (h:Q u s)
  (hd:(x == ("__debug__" : Str))=false:=by decide):wpAny (model X.prog X.w) X.A (eval (.Name x pos) X.env) Q E s:=
 Calls.Name_function_global I.ok.kind hg (Calls.loadGlobal_global (by rw [I.ok.glob];exact I.mod.glob.keeps I.bk) hm h) hd
theorem qH1 {E:Value->Shared->Prop} {Ab:List (Addr × Obj)} {s:Shared} {σ:St} {H:Hp} {x:Str} {u:Value} {pos:Pos} {Q:Value->Shared->Prop} (I:Inv X Ab σ H s) (hg:Gl X x) (hm:X.mg x=none) (hv:bootBuiltins x=some u) (h:Q u s)
  (hn:x ≠ "__name__":=by decide) (hd:(x == ("__debug__" : Str))=false:=by decide):wpAny (model X.prog X.w) X.A (eval (.Name x pos) X.env) Q E s:=by
 obtain ⟨mb,h1,h2⟩:=I.mod.blt;exact Calls.Name_function_global I.ok.kind hg (Calls.loadGlobal_builtin (by rw [I.ok.glob];exact I.mod.glob.keeps I.bk) hm (by rw [I.ok.blt];exact h1.keeps I.bk) ((h2 x hn).trans hv) h) hd
theorem qCL {x:Str} {v:V} {u:Value} {pos:Pos} (hg:Gl X x) (hm:X.mg x=none) (hv:bootBuiltins x=some u) (r:RelV v u) (hn:x ≠ "__name__":=by decide) (hd:(x == ("__debug__" : Str))=false:=by decide):PE X (.Name x pos) (tC v):=
 fun _ _ _ H _ I h=>qH1 I hg hm hv ⟨v,H,I,r,h⟩ hn hd
variable {a b:Expr} {ta tb:TE} {pos:Pos}
def PC (X:Cx) (op:CmpOp) (a b:Expr) (t:TE):Prop:=
 ∀ (Ab:List (Addr × Obj)) (s:Shared) (σ:St) (H:Hp) (Q:VK),Inv X Ab σ H s->t σ H Q->
  wpAny (model X.prog X.w) X.A (eval a X.env) (fun v s₁=>wpAny (model X.prog X.w) X.A (eval b X.env) (fun u s₂=>wpAny (model X.prog X.w) X.A (compareOp op v u) (EP X Ab σ Q) X.xe s₂) X.xe s₁) X.xe s
theorem qQ3 (b:Expr) {op:CmpOp} (h:op ≠ .In) (h2:op ≠ .NotIn):behindInMarks op b=false:=by
 have e1:(op == CmpOp.In)=false:=by cases op <;> first | rfl | exact absurd rfl h
 have e2:(op == CmpOp.NotIn)=false:=by cases op <;> first | rfl | exact absurd rfl h2
 cases b <;> simp [behindInMarks,e1,e2]
def tIsN (ta:TE):TE:=fun σ H Q=>ta σ H fun x H1=>Q (.bl (decide (x=.non))) H1
def qcH (ta:TE):TE:=fun σ H Q=>ta σ H fun x H1=>Q (.bl (!decide (x=.non))) H1
theorem RelV.none_iff {x:V} {v:Value} (r:RelV x v):(v == W2)=decide (x=.non):=by
 cases x with
 | non=>cases r;rfl
 | bl _=>cases r;rfl
 | int _=>obtain ⟨t,rfl⟩:=r;rfl
 | str _=>obtain ⟨t,rfl⟩:=r;rfl
 | byt _=>obtain ⟨t,rfl⟩:=r;rfl
 | flt _=>obtain ⟨t,rfl⟩:=r;rfl
 | ref _=>cases r;rfl
 | ty _=>cases r;rfl
theorem qSW {j pos'} (ha:PE X a ta):PC X .Is a (.Constant .none j pos') (tIsN ta):=by
 intro Ab s σ H Q I h;refine thn (ha Ab s σ H _ I h) fun v s1 ⟨x,H1,I1,r1,q1⟩=>?_;exact Constant_none (is_none_gen ⟨.bl _,H1,I1,by rw [r1.none_iff];rfl,q1⟩)
theorem qLP {j pos'} (ha:PE X a ta):PC X .IsNot a (.Constant .none j pos') (qcH ta):=by
 intro Ab s σ H Q I h;refine thn (ha Ab s σ H _ I h) fun v s1 ⟨x,H1,I1,r1,q1⟩=>?_;exact Constant_none (isnot_none_gen ⟨.bl _,H1,I1,by rw [r1.none_iff];rfl,q1⟩)
def tB (t:TE):TT:=fun σ H Q=>t σ H fun x H1=>∃ c,x=.bl c/\Q c H1
theorem qXR {op:CmpOp} {t:TE} (h:PC X op a b t) (h1:behindInMarks op b=false:=by first | exact qQ3 _ (by decide) (by decide) | rfl):PE X (.Compare a [op] [b] pos) t:=fun Ab s σ H Q I hw=>wpAny_Compare1 (h Ab s σ H Q I hw) h1
theorem qI6 {op:CmpOp} {t:TE} (h:PC X op a b t) (h1:behindInMarks op b=false:=by first | exact qQ3 _ (by decide) (by decide) | rfl):PT X (.Compare a [op] [b] pos) (tB t):=by
 intro Ab s σ H Q I hw;refine wpAny_isTrue_Compare1 (thn (h Ab s σ H _ I hw) fun v s1 h1=>thn h1 fun u s2 h2=>thn h2 fun c s3 ⟨x,H1,I1,r1,q1⟩=>?_) h1;obtain ⟨d,rfl,q⟩:=q1;cases r1;exact wpAny_truthy_bool ⟨H1,I1,q⟩
theorem qD2 {e:Expr} {t:TE} (h:PE X e t) (he:∀ whole,isTrue e X.env whole=(do let v <- whole;standAt e.pos;holding [v] (truthy v)):=by intro _;rfl):PT X e (tB t):=by
 intro Ab s σ H Q I hw;refine isTrue_plain (thn (h Ab s σ H _ I hw) fun v s1 ⟨x,H1,I1,r1,q1⟩=>?_) (he _);obtain ⟨d,rfl,q⟩:=q1;cases r1;exact wpAny_truthy_bool ⟨H1,I1,q⟩
variable {tA tB':TT} {rest:List Expr}
def tAnd (t u:TT):TT:=fun σ H Q=>t σ H fun c H1=>if c=true then u σ H1 Q else Q false H1
def tOr (t u:TT):TT:=fun σ H Q=>t σ H fun c H1=>if c=true then Q true H1 else u σ H1 Q
def tNot (t:TT):TT:=fun σ H Q=>t σ H fun c H1=>Q (!c) H1
theorem qHQ (ha:PT X a tA):PW X (.BoolOp .And [a] pos) tA:=by
 intro wh Ab s σ H Q I h;refine isTrue_and (thn (ha Ab s σ H Q I h) fun c s1 e=>?_);cases c with
 | true=>exact isTrue_and_nil e
 | false=>exact e
theorem qKO (ha:PT X a tA):PW X (.BoolOp .Or [a] pos) tA:=by
 intro wh Ab s σ H Q I h;refine isTrue_or (thn (ha Ab s σ H Q I h) fun c s1 e=>?_);cases c with
 | false=>exact isTrue_or_nil e
 | true=>exact e
theorem qKP (ha:PT X a tA) (hb:PW X (.BoolOp .And (b::rest) pos) tB'):PW X (.BoolOp .And (a::b::rest) pos) (tAnd tA tB'):=by
 intro wh Ab s σ H Q I h;refine isTrue_and (thn (ha Ab s σ H _ I h) fun c s1 ⟨H1,I1,q1⟩=>?_);cases c with
 | true=>exact hb wh Ab s1 σ H1 Q I1 q1
 | false=>exact ⟨H1,I1,q1⟩
theorem qOT (ha:PT X a tA) (hb:PW X (.BoolOp .Or (b::rest) pos) tB'):PW X (.BoolOp .Or (a::b::rest) pos) (tOr tA tB'):=by
 intro wh Ab s σ H Q I h;refine isTrue_or (thn (ha Ab s σ H _ I h) fun c s1 ⟨H1,I1,q1⟩=>?_);cases c with
 | true=>exact ⟨H1,I1,q1⟩
 | false=>exact hb wh Ab s1 σ H1 Q I1 q1
theorem qGE (ha:PT X a tA):PT X (.UnaryOp .Not a pos) (tNot tA):=by
 intro Ab s σ H Q I h;exact isTrue_not (ha Ab s σ H (fun c H1=>Q (!c) H1) I h)
def qcM (ta tb:TE):TE:=fun σ H Q=>ta σ H fun x H1=>∃ c,x=.bl c/\if c=true then tb σ H1 Q else Q (.bl false) H1
def qcG (ta:TE):TE:=fun σ H Q=>ta σ H fun x H1=>∃ c,x=.bl c/\Q (.bl (!c)) H1
theorem qKR {op} {t:TE} (h:PE X a t):PE X (.BoolOp op [a] pos) t:=fun Ab s σ H Q I hw=>BoolOp_one (h Ab s σ H Q I hw)
theorem qI8 (ha:PE X a ta) (hb:PE X (.BoolOp .And (b::rest) pos) tb):PE X (.BoolOp .And (a::b::rest) pos) (qcM ta tb):=by
 intro Ab s σ H Q I h;refine BoolOp_and (thn (ha Ab s σ H _ I h) fun v s1 ⟨x,H1,I1,r1,q1⟩=>?_);obtain ⟨c,rfl,q1⟩:=q1;cases r1;refine wpAny_truthy_bool ?_;cases c with
 | true=>exact hb Ab s1 σ H1 Q I1 q1
 | false=>exact ⟨.bl false,H1,I1,rfl,q1⟩
theorem qXQ (ha:PE X a ta):PE X (.UnaryOp .Not a pos) (qcG ta):=by
 intro Ab s σ H Q I h;refine UnaryOp_ (thn (ha Ab s σ H _ I h) fun v s1 ⟨x,H1,I1,r1,q1⟩=>?_);obtain ⟨c,rfl,q1⟩:=q1;cases r1;exact not_of (wpAny_truthy_bool ⟨.bl (!c),H1,I1,rfl,q1⟩)
def tIf (t:TT) (ta tb:TE):TE:=fun σ H Q=>t σ H fun c H1=>if c=true then ta σ H1 Q else tb σ H1 Q
theorem qG2 {c:Expr} (hc:PT X c tA) (ha:PE X a ta) (hb:PE X b tb):PE X (.IfExp c a b pos) (tIf tA ta tb):=by
 intro Ab s σ H Q I h;refine wpAny_IfExp (thn (hc Ab s σ H _ I h) fun d s1 ⟨H1,I1,q1⟩=>?_);cases d with
 | true=>exact ha Ab s1 σ H1 Q I1 q1
 | false=>exact hb Ab s1 σ H1 Q I1 q1
end
def SqL (K:PySem.W.Frag) (H:Hp) (a:Addr) (xs:List V):Prop:=
 Rd H a (.lst xs)\/
  ∃ (o:Obj) (its:Array Value) (n:Nat),K.lookup a=some o/\o.cls=.type "list"/\o.dict=none/\o.data=.seq its n/\its.size<=sizeLine/\Vals xs its.toList
def SqT (K:PySem.W.Frag) (H:Hp) (a:Addr) (xs:List V):Prop:=
 Rd H a (.tup xs)\/
  ∃ (o:Obj) (its:Array Value) (n:Nat),K.lookup a=some o/\o.cls=.type "tuple"/\o.data=.seq its n/\its.size<=sizeLine/\Vals xs its.toList
def absV:Value->Option V
 | .none=>some .non
 | .bool b=>some (.bl b)
 | .int i _=>some (.int i)
 | .str x _=>some (.str x)
 | .bytes b _=>some (.byt b)
 | .float b _=>some (.flt b)
 | .ref a=>some (.ref a)
 | .type n=>some (.ty n)
 | _=>none
theorem RelV.abs {x:V} {u:Value} (r:RelV x u):absV u=some x:=by
 cases x with
 | non=>cases r;rfl
 | bl _=>cases r;rfl
 | int _=>obtain ⟨t,rfl⟩:=r;rfl
 | str _=>obtain ⟨t,rfl⟩:=r;rfl
 | byt _=>obtain ⟨t,rfl⟩:=r;rfl
 | flt _=>obtain ⟨t,rfl⟩:=r;rfl
 | ref _=>cases r;rfl
 | ty _=>cases r;rfl
theorem RelV.inj {x y:V} {u:Value} (r:RelV x u) (q:RelV y u):x=y:=A8 (r.abs.symm.trans q.abs)
theorem Vals.inj:∀ {xs ys:List V} {us:List Value},Vals xs us->Vals ys us->xs=ys
 | _,_,_,.nil,.nil=>rfl
 | _,_,_,.cons r t,.cons r' t'=>by rw [r.inj r',Vals.inj t t']
section
variable {X:Cx} {Ab:List (Addr × Obj)} {σ:St} {H:Hp} {s:Shared} {a:Addr} {xs ys:List V}
theorem SqL.of {K:PySem.W.Frag} (h:H a=some (.lst xs)):SqL K H a xs:=.inl (.inl h)
theorem SqT.of {K:PySem.W.Frag} (h:H a=some (.tup xs)):SqT K H a xs:=.inl (.inl h)
theorem Inv.list (I:Inv X Ab σ H s) (h:SqL X.K H a xs):∃ its:List Value,Vals xs its/\PlainL s.heap a its.toArray/\xs.length<=sizeLine:=by
 rcases h with h | ⟨o,its,n,hk,hc,hd,hs,hz,r⟩
 ·obtain ⟨z,its,n,r,e⟩:=h.ok I.hok;exact ⟨its,r,⟨_,n,e,rfl,rfl,rfl⟩,z⟩
 ·refine ⟨its.toList,r,⟨o,n,I.kIn a o hk,hc,hd,by simpa using hs⟩,?_⟩
  have e:=r.length;simp only [E7] at e;omega
theorem Inv.tuple (I:Inv X Ab σ H s) (h:SqT X.K H a xs):∃ its:List Value,Vals xs its/\IsTup s.heap a its.toArray/\xs.length<=sizeLine:=by
 rcases h with h | ⟨o,its,n,hk,hc,hs,hz,r⟩
 ·obtain ⟨z,its,r,p⟩:=h.ok I.hok;exact ⟨its,r,p,z⟩
 ·refine ⟨its.toList,r,⟨o,I.kIn a o hk,hc,n,by simpa using hs⟩,?_⟩
  have e:=r.length;simp only [E7] at e;omega
theorem Inv.list_inj (I:Inv X Ab σ H s) (h:SqL X.K H a xs) (h':SqL X.K H a ys):xs=ys:=by
 obtain ⟨its,r,⟨o,n,e,_,_,d⟩,_⟩:=I.list h;obtain ⟨its',r',⟨o',n',e',_,_,d'⟩,_⟩:=I.list h';rw [e] at e';cases e';rw [d] at d'
 injection d' with d1 _
 have:its=its':=by simpa using congrArg A77 d1
 subst this;exact r.inj r'
theorem Inv.tuple_inj (I:Inv X Ab σ H s) (h:SqT X.K H a xs) (h':SqT X.K H a ys):xs=ys:=by
 obtain ⟨its,r,⟨o,e,_,n,d⟩,_⟩:=I.tuple h;obtain ⟨its',r',⟨o',e',_,n',d'⟩,_⟩:=I.tuple h';rw [e] at e';cases e';rw [d] at d'
 injection d' with d1 _
 have:its=its':=by simpa using congrArg A77 d1
 subst this;exact r.inj r'
end
abbrev Cx.wish (X:Cx) (E:Value->Shared->Prop):Cx:={ X with xe:=E }
abbrev Cx.nox (X:Cx):Cx:=X.wish fun _ _=>False
theorem Cx.Ok.wish {X:Cx} (ok:X.Ok) (E:Value->Shared->Prop):(X.wish E).Ok:=
 ⟨ok.mod,ok.kind,ok.glob,ok.blt,ok.above,ok.inj,ok.has,ok.cab,ok.hd,ok.frames,ok.stk,ok.exf,ok.bs,ok.bsz,ok.noex,ok.exfs,ok.funs,ok.frf⟩
theorem Cx.Ok.unwish {X:Cx} {E:Value->Shared->Prop} (ok:(X.wish E).Ok):X.Ok:=
 ⟨ok.mod,ok.kind,ok.glob,ok.blt,ok.above,ok.inj,ok.has,ok.cab,ok.hd,ok.frames,ok.stk,ok.exf,ok.bs,ok.bsz,ok.noex,ok.exfs,ok.funs,ok.frf⟩
section
variable {X:Cx} {Ab:List (Addr × Obj)} {σ:St} {H:Hp} {s:Shared} {E:Value->Shared->Prop}
theorem Inv.wish (I:Inv X Ab σ H s) (E:Value->Shared->Prop):Inv (X.wish E) Ab σ H s:=⟨I.ok.wish E,I.os,I.bare,I.base,I.loc,I.cell,I.free,I.freeC,I.pin,I.hok,I.len⟩
theorem Inv.unwish (I:Inv (X.wish E) Ab σ H s):Inv X Ab σ H s:=⟨I.ok.unwish,I.os,I.bare,I.base,I.loc,I.cell,I.free,I.freeC,I.pin,I.hok,I.len⟩
theorem SP.unwish {D:Ends} {f:Flow} {s':Shared} (h:SP (X.wish E) Ab D f s'):SP X Ab D f s':=by
 cases f with
 | next=>obtain ⟨σ',H',I,q⟩:=h;exact ⟨σ',H',I.unwish,q⟩
 | brk=>obtain ⟨σ',H',I,q⟩:=h;exact ⟨σ',H',I.unwish,q⟩
 | cont=>obtain ⟨σ',H',I,q⟩:=h;exact ⟨σ',H',I.unwish,q⟩
 | ret u=>obtain ⟨v,σ',H',I,r,q⟩:=h;exact ⟨v,σ',H',I.unwish,r,q⟩
theorem PSs.nox {st:List Stmt} {t:TS} (h:PSs X.nox st t):PSs X st t:=fun Ab s σ H D I hw=>
 wpAny_mono (h Ab s σ H D (I.wish _) hw) (fun _ _ q=>q.unwish) fun _ _ z=>X2 z
end
section
variable {X:Cx} {st:Stmt} {rest:List Stmt} {t u:TS} {e:Expr} {te:TE} {pos:Pos}
def qcI:TS:=fun D σ H=>D.nx σ H
def tSeq (t u:TS):TS:=fun D σ H=>t { D with nx:=u D } σ H
theorem qAM:PSs X [] qcI:=fun _ _ σ H _ I h=>wpAny_execs_nil ⟨σ,H,I,h⟩
theorem qA4 (h1:PS X st t) (h2:PSs X rest u):PSs X (st::rest) (tSeq t u):=by
 intro Ab s σ H D I h;refine wpAny_execs_cons (thn (h1 Ab s σ H { D with nx:=u D } I h) fun f s1 q=>?_);cases f with
 | next=>
  obtain ⟨σ',H',I',q⟩:=q;exact h2 Ab s1 σ' H' D I' q
 | ret v=>exact q
 | brk=>exact q
 | cont=>exact q
theorem qA6 (h1:PS X st t):PSs X [st] t:=by
 intro Ab s σ H D I h;refine wpAny_execs_cons (thn (h1 Ab s σ H D I h) fun f s1 q=>?_);cases f with
 | next=>exact wpAny_execs_nil q
 | ret v=>exact q
 | brk=>exact q
 | cont=>exact q
theorem Inv.quiet {Ab:List (Addr × Obj)} {σ:St} {H:Hp} {s:Shared} (I:Inv X Ab σ H s):interactive X.env=false:=by simp [interactive,I.ok.kind]
def qaK (te:TE):TS:=fun D σ H=>te σ H fun _ H1=>D.nx σ H1
theorem qCC (he:PE X e te) (hs:swapsWith e none pos.line X.env=pure false:=by rfl):PS X (.Expr e pos) (qaK te):=by
 intro Ab s σ H D I h;exact wpAny_Expr_any (thn (he Ab s σ H _ I h) fun v s1 ⟨x,H1,I1,r1,q1⟩=>⟨σ,H1,I1,q1⟩) I.quiet hs
def tRet (te:TE):TS:=fun D σ H=>te σ H D.rt
theorem qAL (he:PE X e te):PS X (.Return (some e) pos) (tRet te):=by
 intro Ab s σ H D I h;exact wpAny_Return_some (thn (he Ab s σ H _ I h) fun v s1 ⟨x,H1,I1,r1,q1⟩=>⟨x,σ,H1,I1,r1,q1⟩)
def tIfS (c:TT) (t u:TS):TS:=fun D σ H=>c σ H fun b H1=>if b=true then t D σ H1 else u D σ H1
theorem qBW {c:Expr} {a b:List Stmt} {tc:TT} (hc:PT X c tc) (ha:PSs X a t) (hb:PSs X b u):PS X (.If c a b pos) (tIfS tc t u):=by
 intro Ab s σ H D I h;refine wpAny_If (thn (hc Ab s σ H _ I h) fun d s1 ⟨H1,I1,q1⟩=>?_);cases d with
 | true=>exact ha Ab s1 σ H1 D I1 q1
 | false=>exact hb Ab s1 σ H1 D I1 q1
end
abbrev TG:=V->St->Hp->(St->Hp->Prop)->Prop
abbrev TGs:=List V->St->Hp->(St->Hp->Prop)->Prop
def PG (X:Cx) (target:Expr) (t:TG):Prop:=
 ∀ (Ab:List (Addr × Obj)) (s:Shared) (σ:St) (H:Hp) (v:V) (u:Value) (Q:St->Hp->Prop),Inv X Ab σ H s->RelV v u->t v σ H Q->
  wpAny (model X.prog X.w) X.A (assign target X.env u) (fun _ s'=>∃ σ' H',Inv X Ab σ' H' s'/\Q σ' H') X.xe s
def PGs (X:Cx) (ts:List Expr) (t:TGs):Prop:=
 ∀ (Ab:List (Addr × Obj)) (s:Shared) (σ:St) (H:Hp) (vs:List V) (us:List Value) (Q:St->Hp->Prop),Inv X Ab σ H s->Vals vs us->t vs σ H Q->
  wpAny (model X.prog X.w) X.A (assignInOrder ((assignEach ts X.env).map (·.2)) us) (fun _ s'=>∃ σ' H',Inv X Ab σ' H' s'/\Q σ' H') X.xe s
abbrev TSet:=V->V->V->Hp->(Hp->Prop)->Prop
def PSet (X:Cx) (t:TSet):Prop:=
 ∀ (Ab:List (Addr × Obj)) (s:Shared) (σ:St) (H:Hp) (o i v:V) (ov iv u:Value) (Q:Hp->Prop),Inv X Ab σ H s->RelV o ov->RelV i iv->RelV v u->t o i v H Q->
  wpAny (model X.prog X.w) X.A (setItem ov iv u) (fun _ s'=>∃ H',Inv X Ab σ H' s'/\Q H') X.xe s
abbrev TIp:=V->V->Hp->VK->Prop
def PIp (X:Cx) (op:Operator) (t:TIp):Prop:=
 ∀ (Ab:List (Addr × Obj)) (s:Shared) (σ:St) (H:Hp) (x y:V) (v u:Value) (Q:VK),Inv X Ab σ H s->RelV x v->RelV y u->t x y H Q->
  wpAny (model X.prog X.w) X.A (inplaceOp op v u) (EP X Ab σ Q) X.xe s
section
variable {X:Cx} {pos:Pos}
def qWV (i:Nat):TG:=fun v σ H Q=>Q (σ.set i (some v)) H
theorem qAA {i:Nat} {x:Str} (hN:X.N.Nodup) (hi:X.N[i]?=some x) (hx:Loc X.env.scope x) (hf:X.fn x=true\/X.env.scope.names.lookup x=some .local:=by first | exact .inl rfl | exact .inr rfl | assumption):PG X (.Name x pos) (qWV i):=by
 intro Ab s σ H v u Q I r h;exact wpAny_assign_Name (qLC I hN hi hx r (fun s' I'=>⟨_,H,I',h⟩) hf)
def gNil:TGs:=fun vs σ H Q=>vs=[]/\Q σ H
def qd6 (t:TG) (u:TGs):TGs:=fun vs σ H Q=>∃ v r,vs=v::r/\t v σ H fun σ' H'=>u r σ' H' Q
theorem qC4:PGs X [] gNil:=by
 intro Ab s σ H vs us Q I r h;obtain ⟨e,h⟩:=h;subst e;cases r;exact assignInOrder_nil ⟨σ,H,I,h⟩
theorem qAK {e:Expr} {es:List Expr} {t:TG} {u:TGs} (h1:PG X e t) (h2:PGs X es u)
  (hs:(assignEach (e::es) X.env).map (·.2)=assign e X.env::(assignEach es X.env).map (·.2):=by rfl):PGs X (e::es) (qd6 t u):=by
 intro Ab s σ H vs us Q I r h;obtain ⟨v,vr,e1,h⟩:=h;subst e1;cases r with
 | cons r rr=>
  rw [hs];refine assignInOrder_cons (thn (h1 Ab s σ H _ _ _ I r h) fun _ s1 ⟨σ1,H1,I1,q1⟩=>?_);exact h2 Ab s1 σ1 H1 _ _ Q I1 rr q1
def gTup (K:PySem.W.Frag) (n:Nat) (t:TGs):TG:=fun v σ H Q=>∃ a xs,v=.ref a/\SqT K H a xs/\xs.length=n/\t xs σ H Q
theorem qDU {es:List Expr} {k:Nat} {t:TGs} {n:Nat} (hc:X.calm=true) (h:PGs X es t)
  (hn:(assignEach es X.env).length=n:=by rfl) (hst:(assignEach es X.env).findIdx? (·.1)=none:=by rfl):PG X (.Tuple es k pos) (gTup X.K n t):=by
 intro Ab s σ H v u Q I r hw;obtain ⟨a,xs,e1,hq,hl,hw⟩:=hw;subst e1;cases r;obtain ⟨its,rv,ht,hz⟩:=I.tuple hq;refine assign_Tuple_tuple (I.ok.hd hc) ht (by simp [hn,<- hl,rv.length]) hst fun h' hx=>?_
 have I1:Inv X Ab σ H { s with heap:=h' }:=I.kept (t':=s.toks) fun b o e=>hx b o (E6 (B6 e)) e;exact h Ab _ σ H xs _ Q I1 (by simpa using rv) hw
def gSub (to ti:TE) (t:TSet):TG:=fun v σ H Q=>to σ H fun o H1=>ti σ H1 fun i H2=>t o i v H2 fun H3=>Q σ H3
theorem qST {o i:Expr} {to ti:TE} {t:TSet} (ho:PE X o to) (hi:PE X i ti) (hs:PSet X t)
  (ha:∀ v,assign (.Subscript o i pos) X.env v=(do
   let ov <- holding [v] (eval o X.env)
   let iv <- holding [v,ov] (eval i X.env)
   standAt pos
   holding [v,ov,iv] (setItem ov iv v)
   release [v,ov,iv] []):=by intro _;rfl):PG X (.Subscript o i pos) (gSub to ti t):=by
 intro Ab s σ H v u Q I r h;rw [ha];refine wpAny_bind (wpAny_holding (thn (ho Ab s σ H _ I h) fun ov s1 ⟨x,H1,I1,r1,q1⟩=>?_));refine wpAny_bind (wpAny_holding (thn (hi Ab s1 σ H1 _ I1 q1) fun iv s2 ⟨y,H2,I2,r2,q2⟩=>?_));refine wpAny_bind (wpAny_standAt (wpAny_bind (wpAny_holding (thn (hs Ab s2 σ H2 x y v ov iv u _ I2 r1 r2 r q2) fun _ s3 ⟨H3,I3,q3⟩=>?_))));exact wpAny_release ⟨σ,H3,I3,q3⟩
def tAsg (te:TE) (g:TG):TS:=fun D σ H=>te σ H fun x H1=>g x σ H1 D.nx
theorem qI7 {tg e:Expr} {te:TE} {g:TG} (he:PE X e te) (hg:PG X tg g) (hs:swapsWithSole [tg] e pos.line X.env=pure false:=by rfl) (hw:swappedStores [tg] e X.env=pure none:=by rfl)
  (h1:(assignEach [tg] X.env).map (·.2)=[assign tg X.env]:=by rfl):PS X (.Assign [tg] e pos) (tAsg te g):=by
 intro Ab s σ H D I h;refine wpAny_Assign_stores (thn (he Ab s σ H _ I h) fun v s1 ⟨x,H1,I1,r1,q1⟩=>?_) hs hw;rw [h1];exact thn (hg Ab s1 σ H1 x v _ I1 r1 q1) fun _ s2 q=>q
theorem qAE {i:Nat} {x:Str} {e:Expr} {te:TE} {pos':Pos} (hN:X.N.Nodup) (hi:X.N[i]?=some x) (hx:Loc X.env.scope x) (he:PE X e te) (hs:swapsWith e (some (.Name x pos')) pos.line X.env=pure false:=by rfl) (hf:X.fn x=true\/X.env.scope.names.lookup x=some .local:=by first | exact .inl rfl | exact .inr rfl | assumption) :
  PS X (.Assign [.Name x pos'] e pos) (tAsg te (qWV i)):=by
 intro Ab s σ H D I h;refine wpAny_Assign_Name (thn (he Ab s σ H _ I h) fun v s1 ⟨y,H1,I1,r1,q1⟩=>?_) hs;exact qLC I1 hN hi hx r1 (fun s2 I2=>⟨_,H1,I2,q1⟩) hf
def tAug (i:Nat) (te:TE) (ti:TIp):TS:=fun D σ H=>∃ x,σ[i]?=some (some x)/\te σ H fun y H1=>ti x y H1 fun z H2=>D.nx (σ.set i (some z)) H2
theorem qb0 {i:Nat} {x:Str} {e:Expr} {te:TE} {op:Operator} {ti:TIp} {pos':Pos} (hN:X.N.Nodup) (hi:X.N[i]?=some x) (hx:Loc X.env.scope x) (he:PE X e te) (ho:PIp X op ti) (hf:X.fn x=true\/X.env.scope.names.lookup x=some .local:=by first | exact .inl rfl | exact .inr rfl | assumption) :
  PS X (.AugAssign (.Name x pos') op e pos) (tAug i te ti):=by
 intro Ab s σ H D I h;obtain ⟨v,e1,h⟩:=h;obtain ⟨m,hn,hl⟩:=I.loc;have vis:Vis X.env.scope x:=by rcases hx with k | k;exact .inl k;exact .inr (.inl k)
 obtain ⟨u,r,l⟩:=hl i x v hi e1 vis;refine wpAny_AugAssign_Name ?_;have go:wpAny (model X.prog X.w) X.A (eval e X.env) (fun w s₂=>wpAny (model X.prog X.w) X.A (inplaceOp op u w) (fun r s₃=>wpAny (model X.prog X.w) X.A (storeName X.env x r) (fun _=>SP X Ab D .next) X.xe s₃) X.xe s₂) X.xe s:=by
  refine thn (he Ab s σ H _ I h) fun w s1 ⟨y,H1,I1,r1,q1⟩=>?_;refine thn (ho Ab s1 σ H1 v y u w _ I1 r r1 q1) fun z s2 ⟨zv,H2,I2,r2,q2⟩=>?_;exact qLC I2 hN hi hx r2 (fun s3 I3=>⟨_,H2,I3,q2⟩) hf
 rcases l with ⟨hk,hm⟩ | ⟨hk,c,hc,hcell⟩
 ·exact wpAny_loadName_local I.ok.kind hk hn hm go
 ·rcases hk with hk | hk
  ·exact wpAny_loadName_cell I.ok.kind hk hc hcell go
  ·rcases hx with k | k
   ·have:X.env.scope.names.lookup x=some .free:=hk;rw [k] at this;cases this
   ·have:X.env.scope.names.lookup x=some .free:=hk;rw [k] at this;cases this
def ipI (f:Int->Int->Int):TIp:=fun x y H Q=>∃ i j,x=.int i/\y=.int j/\Q (.int (f i j)) H
theorem qbW:PIp X .Add (ipI fun i j=>i+j):=by
 intro Ab s σ H x y v u Q I r1 r2 h;obtain ⟨i,j,e1,e2,q⟩:=h;subst e1;subst e2;obtain ⟨t,rfl⟩:=r1;obtain ⟨t',rfl⟩:=r2;exact iadd_int ⟨.int _,H,I.tok _,⟨_,rfl⟩,q⟩
def qaJ (c:TT) (tb:TS):TS:=fun D σ H=>∃ W:Nat->St->Hp->Prop,(∃ m,W m σ H)/\∀ m σ H,W m σ H->
 c σ H fun b H1=>if b=true then ∃ N:St->Hp->Prop,(∀ σ' H',N σ' H'->∃ m',m'<m/\W m' σ' H')/\tb { D with nx:=N,ct:=N,bk:=D.nx } σ H1 else D.nx σ H1
theorem qIT {c:Expr} {body:List Stmt} {tc:TT} {tb:TS} (hp:PassesOwn (model X.prog X.w) X.A X.env X.xe) (hc:PT X c tc) (hb:PSs X body tb):PS X (.While c body [] pos) (qaJ tc tb):=by
 intro Ab s σ H D I h;obtain ⟨W,⟨m0,w0⟩,turn⟩:=h;refine wpAny_While (codeAny_whileLoop (fun n s'=>∃ σ' H',Inv X Ab σ' H' s'/\W n σ' H') ?_ m0 ⟨σ,H,I,w0⟩);rintro n s1 ⟨σ1,H1,I1,w1⟩;refine wpAny_passesOwn hp (thn (hc Ab s1 σ1 H1 _ I1 (turn n σ1 H1 w1)) fun b s2 ⟨H2,I2,q2⟩=>?_);cases b with
 | true=>
  obtain ⟨N,hN,q2⟩:=q2;rw [if_pos rfl];refine wpAny_passesOwn hp (thn (hb Ab s2 σ1 H2 _ I2 q2) fun f s3 q3=>?_);cases f with
  | next=>
   obtain ⟨σ3,H3,I3,n3⟩:=q3;obtain ⟨m',hm,w3⟩:=hN σ3 H3 n3;exact ⟨m',hm,σ3,H3,I3,w3⟩
  | cont=>
   obtain ⟨σ3,H3,I3,n3⟩:=q3;obtain ⟨m',hm,w3⟩:=hN σ3 H3 n3;exact ⟨m',hm,σ3,H3,I3,w3⟩
  | brk=>exact q3
  | ret v=>exact q3
 | false=>
  rw [if_neg C2];exact wpAny_execs_nil ⟨σ1,H2,I2,q2⟩
end
structure It where
 go:Nat->Hp->Prop
 yld:Nat->Hp->V->Hp->Prop
 stop:Nat->Hp->Prop
def FpOk (X:Cx) (Ab:List (Addr × Obj)) (H:Hp) (b:Addr):Prop:=
 H b=none/\b ≠ X.env.locals/\b ∉ X.fs/\(b ∈ X.ex\/X.s₀.heap.objs.size<=b)/\(∀ x c,X.env.cells.lookup x=some c->c ≠ b)/\∀ p ∈ X.pn++Ab,p.1 ≠ b
theorem Inv.fpOk {X:Cx} {Ab:List (Addr × Obj)} {σ:St} {H H':Hp} {s:Shared} {b:Addr} (I:Inv X Ab σ H s) (hb:s.heap.objs.size<=b) (hn:H' b=none):FpOk X Ab H' b:=by
 refine ⟨hn,Y2 (E5 I.lt hb),I.nofs hb,.inr (F6 I.sz hb),fun x c e z=>?_,fun p hp z=>?_⟩
 ·obtain ⟨v,q⟩:=I.cell x c e;exact absurd (E5 q.lt (by rw [z];exact hb)) (O6 _)
 ·exact absurd (E5 (B6 (I.pin p hp).1) (by rw [z];exact hb)) (O6 _)
structure Turn (P:Program) (w:World) (K:PySem.W.Frag) (tg:Expr) (J:It) (fp:List Addr) (it:Addr) (tn:Nat->Heap->Prop):Prop where
 mem:it ∈ fp
 obj:∀ i h,tn i h->∀ b ∈ fp,∃ o,h.get? b=some o/\∀ v,o.data ≠ .cell v
 keep:∀ i h h',tn i h->(∀ b ∈ fp,∀ o,h.get? b=some o->h'.get? b=some o)->tn i h'
 item:∀ (X:Cx),X.prog=P->X.w=w->X.K=K->X.calm=true->∀ (i:Nat) (Ab:List (Addr × Obj)) (s:Shared) (σ:St) (H:Hp) (E:Value->Shared->Prop),Inv X Ab σ H s->(∀ b ∈ fp,FpOk X Ab H b)->tn i s.heap->J.go i H->
  wpAny (model P w) X.A (pyNext (.ref it)) (fun r s1=>∃ u,r=some u/\
   wpAny (model P w) X.A (letOwnedTupleGo tg (.ref it) u) (fun _ s2=>∃ x H',Inv X Ab σ H' s2/\RelV x u/\J.yld i H x H'/\tn (i+1) s2.heap/\∀ b ∈ fp,H' b=none) E s1) E s
 done:∀ (X:Cx),X.prog=P->X.w=w->X.K=K->X.calm=true->∀ (i:Nat) (Ab:List (Addr × Obj)) (s:Shared) (σ:St) (H:Hp) (E:Value->Shared->Prop),Inv X Ab σ H s->(∀ b ∈ fp,FpOk X Ab H b)->tn i s.heap->J.stop i H->
  wpAny (model P w) X.A (pyNext (.ref it)) (fun r s1=>r=none/\Inv X Ab σ H s1) E s
 self:∀ (A:Around) (i:Nat) (s:Shared) (Q:Value->Shared->Prop) (E:Value->Shared->Prop),tn i s.heap->Q (.ref it) s->wpAny (model P w) A (pyIter (.ref it)) Q E s
abbrev TI:=St->Hp->(It->Hp->Prop)->Prop
def PIE (X:Cx) (Ab:List (Addr × Obj)) (σ:St) (tg:Expr) (R:It->Hp->Prop) (itv:Value) (s2:Shared):Prop:=
 ∃ (it:Addr) (fp:List Addr) (tn:Nat->Heap->Prop) (J:It) (H':Hp),itv=.ref it/\Inv X Ab σ H' s2/\Turn X.prog X.w X.K tg J fp it tn/\tn 0 s2.heap/\(∀ b ∈ fp,FpOk X Ab H' b)/\R J H'
def PI (X:Cx) (tg iter:Expr) (wi:TI):Prop:=
 ∀ (Ab:List (Addr × Obj)) (s:Shared) (σ:St) (H:Hp) (R:It->Hp->Prop),Inv X Ab σ H s->wi σ H R->
  wpAny (model X.prog X.w) X.A (eval iter X.env) (fun v s1=>wpAny (model X.prog X.w) X.A (pyIter v) (PIE X Ab σ tg R) X.xe s1) X.xe s
theorem qRF {M:Model} {A:Around} {E:Value->Shared->Prop} {s:Shared} {tg:Expr} {it:Addr} {u:Value} {o:Obj} {n:String} {vs:Array Value} {Q:Unit->Shared->Prop} (ho:s.heap.get? it=some o) (hc:o.cls=.type n) (hd:o.data=.fields vs)
  (hn:["enumerate","zip","dict_itemiterator","dict_reverseitemiterator","odict_iterator","itertools.zip_longest","itertools.pairwise"].contains n=false) (hQ:Q () s):wpAny M A (letOwnedTupleGo tg (.ref it) u) Q E s:=by
 unfold letOwnedTupleGo;cases tg <;> first
  | exact wpAny_pure hQ
  | (cases u <;> first
    | exact wpAny_pure hQ
    | (refine wpAny_bind (wpAny_load ho ?_)
       rw [hc,hd];show wpAny M A (if (["enumerate","zip","dict_itemiterator","dict_reverseitemiterator","odict_iterator","itertools.zip_longest","itertools.pairwise"].contains n && vs[0]? == some (rawInt _))=true then _ else _) Q E s
       rw [if_neg (by intro h;rw [hn,W3] at h;cases h)]
       exact wpAny_pure hQ))
def Itl (K:PySem.W.Frag) (a:Addr):It:=
 ⟨fun i H=>∃ xs x,SqL K H a xs/\xs[i]?=some x,fun i H x H'=>H'=H/\∀ xs,SqL K H a xs->xs[i]?=some x,fun i H=>∃ xs,SqL K H a xs/\xs.length<=i⟩
def Itt (K:PySem.W.Frag) (a:Addr):It:=
 ⟨fun i H=>∃ xs x,SqT K H a xs/\xs[i]?=some x,fun i H x H'=>H'=H/\∀ xs,SqT K H a xs->xs[i]?=some x,fun i H=>∃ xs,SqT K H a xs/\xs.length<=i⟩
def Itr (lo:Int) (n:Nat):It:=⟨fun i _=>i<n,fun i H x H'=>H'=H/\x=.int (lo+i),fun i _=>n<=i⟩
theorem qRZ {P:Program} {w:World} {K:PySem.W.Frag} {tg:Expr} (a it:Addr):Turn P w K tg (Itl K a) [it] it (fun i h=>h.IsListIter it a i) where
 mem:=by simp
 obj:=fun i h st b hb=>by
  have e:b=it:=by simpa using hb
  subst e;obtain ⟨o,e,c,d⟩:=st;exact ⟨o,e,fun v z=>by rw [d] at z;cases z⟩
 keep:=fun i h h' st k=>st.at fun o e=>k it (by simp) o e
 item:=by
  intro X hP hw hK hc i Ab s σ H E I hf st hg;subst hP hw hK;obtain ⟨xs,x,hq,hx⟩:=hg;obtain ⟨its,rv,p,hz⟩:=I.list hq;obtain ⟨u,hu,ru⟩:=rv.get hx;obtain ⟨f0,f1,f2,f3,f4,f5⟩:=hf it (by simp)
  refine wpAny_pyNext_list_item st p.isList (x:=u) (by simpa using hu) fun h' st' sb=>?_
  have I1:Inv X Ab σ H { s with heap:=h' }:=I.turned (t':=s.toks) (fun b o hb e=>(sb.2 b hb).trans e) f0 f1 f3 f4 f5;obtain ⟨o,e,c,d⟩:=id st';exact ⟨u,rfl,qRF (s:={ s with heap:=h' }) e c d (by decide) ⟨x,H,I1,ru,⟨rfl,fun ys hy=>by rw [I.list_inj hy hq];exact hx⟩,st',fun b hb=>(hf b hb).1⟩⟩
 done:=by
  intro X hP hw hK hc i Ab s σ H E I hf st hg;subst hP hw hK;obtain ⟨xs,hq,hx⟩:=hg;obtain ⟨its,rv,p,hz⟩:=I.list hq;obtain ⟨f0,f1,f2,f3,f4,f5⟩:=hf it (by simp)
  have hl:=rv.length;exact wpAny_pyNext_list_end (I.ok.hd hc) st p.isList (by simp;omega) fun h' eb=>⟨rfl,I.turned (t':=s.toks) (fun b o hb e=>eb b o hb e) f0 f1 f3 f4 f5⟩
 self:=fun _ _ _ _ _ st h=>wpAny_pyIter_listiter st h
theorem qQR {P:Program} {w:World} {K:PySem.W.Frag} {tg:Expr} (a it:Addr):Turn P w K tg (Itt K a) [it] it (fun i h=>h.IsTupleIter it a i) where
 mem:=by simp
 obj:=fun i h st b hb=>by
  have e:b=it:=by simpa using hb
  subst e;obtain ⟨o,e,c,d⟩:=st;exact ⟨o,e,fun v z=>by rw [d] at z;cases z⟩
 keep:=fun i h h' st k=>st.at fun o e=>k it (by simp) o e
 item:=by
  intro X hP hw hK hc i Ab s σ H E I hf st hg;subst hP hw hK;obtain ⟨xs,x,hq,hx⟩:=hg;obtain ⟨its,rv,p,hz⟩:=I.tuple hq;obtain ⟨u,hu,ru⟩:=rv.get hx;obtain ⟨f0,f1,f2,f3,f4,f5⟩:=hf it (by simp)
  refine wpAny_pyNext_tuple_item st (show s.heap.IsTuple a its.toArray from p) (x:=u) (by simpa using hu) fun h' st' sb=>?_
  have I1:Inv X Ab σ H { s with heap:=h' }:=I.turned (t':=s.toks) (fun b o hb e=>(sb.2 b hb).trans e) f0 f1 f3 f4 f5;obtain ⟨o,e,c,d⟩:=id st';exact ⟨u,rfl,qRF (s:={ s with heap:=h' }) e c d (by decide) ⟨x,H,I1,ru,⟨rfl,fun ys hy=>by rw [I.tuple_inj hy hq];exact hx⟩,st',fun b hb=>(hf b hb).1⟩⟩
 done:=by
  intro X hP hw hK hc i Ab s σ H E I hf st hg;subst hP hw hK;obtain ⟨xs,hq,hx⟩:=hg;obtain ⟨its,rv,p,hz⟩:=I.tuple hq;obtain ⟨f0,f1,f2,f3,f4,f5⟩:=hf it (by simp)
  have hl:=rv.length;exact wpAny_pyNext_tuple_end (I.ok.hd hc) st (show s.heap.IsTuple a its.toArray from p) (by simp;omega) fun h' eb=>⟨rfl,I.turned (t':=s.toks) (fun b o hb e=>eb b o hb e) f0 f1 f3 f4 f5⟩
 self:=fun _ _ _ _ _ st h=>wpAny_pyIter_tupleiter st h
theorem qQS {P:Program} {w:World} {K:PySem.W.Frag} {tg:Expr} (it:Addr) (lo:Int) (n:Nat):Turn P w K tg (Itr lo n) [it] it (fun i h=>IsRangeIter h it (lo+(i:Nat) * 1) ((n:Int) - (i:Nat)) 1) where
 mem:=by simp
 obj:=fun i h st b hb=>by
  have e:b=it:=by simpa using hb
  subst e;exact ⟨_,st,fun v z=>by
   have z':A06 _=y0 v:=z;cases z'⟩
 keep:=fun i h h' st k=>k it (by simp) _ st
 item:=by
  intro X hP hw hK hc i Ab s σ H E I hf st hg;subst hP hw hK;obtain ⟨f0,f1,f2,f3,f4,f5⟩:=hf it (by simp)
  have W:=Walks.range (prog:=X.prog) (w:=X.w) (I.ok.hd hc) it lo 1 n;refine W.item i s _ _ hg st fun v h' tk hv st' kk=>?_;obtain ⟨t,rfl⟩:=hv;have I1:Inv X Ab σ H { s with heap:=h',toks:=tk }:=I.turned (fun b o hb e=>kk b o (by simpa using hb) e) f0 f1 f3 f4 f5
  refine ⟨_,rfl,qRF (s:={ s with heap:=h',toks:=tk }) (n:="range_iterator") st' rfl rfl (by decide) ⟨.int (lo+i),H,I1,⟨t,?_⟩,⟨rfl,rfl⟩,st',fun b hb=>(hf b hb).1⟩⟩
  rw [Int.mul_one]
 done:=by
  intro X hP hw hK hc i Ab s σ H E I hf st hg;subst hP hw hK;obtain ⟨f0,f1,f2,f3,f4,f5⟩:=hf it (by simp)
  exact wpAny_pyNext_range_end (I.ok.hd hc) st (by have:n<=i:=hg;omega) fun h' eb=>⟨rfl,I.turned (t':=s.toks) (fun b o hb e=>eb b o hb e) f0 f1 f3 f4 f5⟩
 self:=fun _ _ _ _ _ st h=>wpAny_pyIter_rangeiter st h
section
variable {X:Cx} {tg:Expr}
def qbX (K:PySem.W.Frag) (tl:TE):TI:=fun σ H R=>tl σ H fun x H1=>∃ a,x=.ref a/\(∃ xs,SqL K H1 a xs)/\R (Itl K a) H1
def iTup (K:PySem.W.Frag) (tl:TE):TI:=fun σ H R=>tl σ H fun x H1=>∃ a,x=.ref a/\(∃ xs,SqT K H1 a xs)/\R (Itt K a) H1
theorem qC3 {l:Expr} {tl:TE} (hl:PE X l tl):PI X tg l (qbX X.K tl):=by
 intro Ab s σ H R I h;refine thn (hl Ab s σ H _ I h) fun v s1 ⟨x,H1,I1,r1,q1⟩=>?_;obtain ⟨a,e,⟨xs,hq⟩,q⟩:=q1;subst e;cases r1;obtain ⟨its,rv,p,hz⟩:=I1.list hq;refine wpAny_pyIter_list p.isList ?_;refine ⟨s1.heap.objs.size,[s1.heap.objs.size],_,_,H1,rfl,I1.kept (t':=s1.toks) fun b o e=>A2 _ e,qRZ a _,⟨_,B9 _ rfl,rfl,rfl⟩,fun b hb=>?_,q⟩;have e:b=s1.heap.objs.size:=by simpa using hb
 subst e;exact I1.fpOk (A5 _) (I1.hok.fresh (A5 _))
theorem qFG {l:Expr} {tl:TE} (hl:PE X l tl):PI X tg l (iTup X.K tl):=by
 intro Ab s σ H R I h;refine thn (hl Ab s σ H _ I h) fun v s1 ⟨x,H1,I1,r1,q1⟩=>?_;obtain ⟨a,e,⟨xs,hq⟩,q⟩:=q1;subst e;cases r1;obtain ⟨its,rv,p,hz⟩:=I1.tuple hq;refine wpAny_pyIter_tuple (show s1.heap.IsTuple a its.toArray from p) ?_;refine ⟨s1.heap.objs.size,[s1.heap.objs.size],_,_,H1,rfl,I1.kept (t':=s1.toks) fun b o e=>A2 _ e,qQR a _,⟨_,B9 _ rfl,rfl,rfl⟩,fun b hb=>?_,q⟩;have e:b=s1.heap.objs.size:=by simpa using hb
 subst e;exact I1.fpOk (A5 _) (I1.hok.fresh (A5 _))
theorem range_it {Ab:List (Addr × Obj)} {σ:St} {H:Hp} {s:Shared} {R:It->Hp->Prop} {E:Value->Shared->Prop} {lo hi:Int} {t u v:Tok} {tk:Nat} (I:Inv X Ab σ H s) (h1 : -(2 ^ 62)<=lo) (h2:lo<2 ^ 62) (h3 : -(2 ^ 62)<=hi) (h4:hi<2 ^ 62)
  (q:R (Itr lo (hi - lo).toNat) H):wpAny (model X.prog X.w) X.A (pyIter (.ref s.heap.objs.size)) (PIE X Ab σ tg R) E { s with heap:=s.heap.push { cls:=.type "range",data:=.fields #[.int lo t,.int hi u,.int 1 v] },toks:=tk }:=by
 refine wpAny_pyIter_range (A82 ..) (small_one h1 h2 h3 h4) ?_;have I1:Inv X Ab σ H { s with heap:=s.heap.push { cls:=.type "range",data:=.fields #[.int lo t,.int hi u,.int 1 v] },toks:=tk }:=I.kept fun b o e=>A2 _ e;refine ⟨(s.heap.push { cls:=.type "range",data:=.fields #[.int lo t,.int hi u,.int 1 v] }).objs.size,[(s.heap.push { cls:=.type "range",data:=.fields #[.int lo t,.int hi u,.int 1 v] }).objs.size],_,_,H,rfl,
  I1.kept (t':=tk) fun b o e=>A2 _ e,qQS _ lo (hi - lo).toNat,?_,fun b hb=>?_,q⟩
 ·have e1:lo+((0:Nat):Int) * 1=lo:=by simp
  have e2:(((hi - lo).toNat:Nat):Int) - ((0:Nat):Int)=Q9 lo hi 1:=by rw [rangeSize_one];split <;> omega
  show IsRangeIter _ _ (lo+((0:Nat):Int) * 1) ((((hi - lo).toNat:Nat):Int) - ((0:Nat):Int)) 1;rw [e1,e2];exact B9 _ rfl
 ·have e:b=(s.heap.push { cls:=.type "range",data:=.fields #[.int lo t,.int hi u,.int 1 v] }).objs.size:=by simpa using hb
  subst e;exact I1.fpOk (A5 _) (I1.hok.fresh (A5 _))
def qd3 (ta:TA):TI:=fun σ H R=>ta σ H fun vs H1=>∃ j:Int,vs=[.int j]/\-(2 ^ 62)<=j/\j<2 ^ 62/\R (Itr 0 j.toNat) H1
def qd2 (ta:TA):TI:=fun σ H R=>ta σ H fun vs H1=>∃ i j:Int,vs=[.int i,.int j]/\(-(2 ^ 62)<=i/\i<2 ^ 62/\-(2 ^ 62)<=j/\j<2 ^ 62)/\R (Itr i (j - i).toNat) H1
theorem qC7 {a:Expr} {ta:TA} {p pos:Pos} (hg:Gl X "range") (hm:X.mg "range" = none) (ha:PA X [a] ta) (hs:starEach [a] X.env=[(false,eval a X.env)]:=by rfl):PI X tg (.Call (.Name "range" p) [a] [] pos) (qd3 ta):=by
 intro Ab s σ H R I h;refine Call_ (qH1 I hg hm boot_range (J3 (thn (ha pos Ab s σ H _ I h) fun us s1 ⟨vs,H1,I1,r1,q1⟩=>?_) hs rfl));obtain ⟨j,e,q1,q2,q⟩:=q1;subst e;cases r1 with
 | cons r rr=>
  cases rr;obtain ⟨t,rfl⟩:=r;exact call_range_1 (range_it I1 (by omega) (by omega) q1 q2 (by simpa using q))
theorem qJL {a b:Expr} {ta:TA} {p pos:Pos} (hg:Gl X "range") (hm:X.mg "range" = none) (ha:PA X [a,b] ta) (hs:starEach [a,b] X.env=[(false,eval a X.env),(false,eval b X.env)]:=by rfl) (hs2:starEach [b] X.env=[(false,eval b X.env)]:=by rfl) :
  PI X tg (.Call (.Name "range" p) [a,b] [] pos) (qd2 ta):=by
 intro Ab s σ H R I h;refine Call_ (qH1 I hg hm boot_range (J3 (thn (ha pos Ab s σ H _ I h) fun us s1 ⟨vs,H1,I1,r1,q1⟩=>?_) (by rw [hs,hs2]) (by rw [hs2];rfl)))
 obtain ⟨i,j,e,⟨q1,q2,q3,q4⟩,q⟩:=q1;subst e;cases r1 with
 | cons r rr=>
  cases rr with
  | cons r' rr=>
   cases rr;obtain ⟨t,rfl⟩:=r;obtain ⟨t',rfl⟩:=r';exact call_range_2 (range_it I1 q1 q2 q3 q4 q)
def tFor (wi:TI) (g:TG) (tb:TS):TS:=fun D σ H=>wi σ H fun J H1=>∃ W:Nat->Nat->St->Hp->Prop,(∃ m,W 0 m σ H1)/\∀ i m σ H,W i m σ H->
 (J.stop i H/\D.nx σ H)\/(J.go i H/\∃ N:St->Hp->Prop,(∀ σ' H',N σ' H'->∃ m',m'<m/\W (i+1) m' σ' H')/\∀ x H',J.yld i H x H'->g x σ H' fun σ2 H2=>tb { D with nx:=N,ct:=N,bk:=D.nx } σ2 H2)
def qKQ (fp:List Addr) (h:Heap):List (Addr × Obj):=fp.filterMap fun b=>(h.get? b).map fun o=>(b,o)
theorem qDG {fp:List Addr} {h:Heap} {b:Addr} {o:Obj} (hb:b ∈ fp) (e:h.get? b=some o):(b,o) ∈ qKQ fp h:=A15.mpr ⟨b,hb,by rw [e];rfl⟩
theorem qT3 {fp:List Addr} {h:Heap} {p:Addr × Obj} (hp:p ∈ qKQ fp h):p.1 ∈ fp/\h.get? p.1=some p.2:=by
 obtain ⟨b,hb,e⟩:=A15.mp hp;cases q:h.get? b with
 | none=>rw [q] at e;cases e
 | some o=>
  rw [q] at e;have e':(b,o)=p:=A8 e;subst e';exact ⟨hb,q⟩
theorem Inv.pinned {Ab:List (Addr × Obj)} {σ:St} {H:Hp} {s:Shared} {fp:List Addr} (I:Inv X Ab σ H s) (hf:∀ b ∈ fp,FpOk X Ab H b) (ho:∀ b ∈ fp,∃ o,s.heap.get? b=some o/\∀ v,o.data ≠ .cell v):Inv X (Ab++qKQ fp s.heap) σ H s:=
 I.pins_of fun p hp=>(B8.mp hp).elim (fun z=>I.pin p (F3 _ z)) fun z=>by
  obtain ⟨hb,e⟩:=qT3 z;obtain ⟨f0,f1,f2,_⟩:=hf p.1 hb;obtain ⟨o,e',d⟩:=ho p.1 hb;rw [e] at e';cases e';exact ⟨e,f0,f1,f2,d⟩
theorem Inv.unpinned {Ab pl:List (Addr × Obj)} {σ:St} {H:Hp} {s:Shared} (I:Inv X (Ab++pl) σ H s):Inv X Ab σ H s:=I.pins_of fun p hp=>I.pin p (F3 _ (O8 _ hp))
theorem qBS {iter:Expr} {body:List Stmt} {wi:TI} {g:TG} {tb:TS} {pos:Pos} (hp:PassesOwn (model X.prog X.w) X.A X.env X.xe) (hc:X.calm=true) (hi:PI X tg iter wi) (hg:PG X tg g) (hb:PSs X body tb)
  (hs:∀ x,foldedSetIterable iter X.env x=pure x:=by intro _;rfl):PS X (.For tg iter body [] pos) (tFor wi g tb):=by
 intro Ab s σ H D I h;refine wpAny_For (thn (hi Ab s σ H _ I h) fun v s1 h1=>thn h1 fun itv s2 h2=>?_) hs;obtain ⟨it,fp,tn,J,H2,e,I2,T,st2,f2,W,⟨m0,w0⟩,turn⟩:=h2;subst e
 -- what stays true of the iterator's objects through the loop
 have stat:∀ {H':Hp},(∀ b ∈ fp,H' b=none)->∀ b ∈ fp,FpOk X Ab H' b:=fun hn b hb=>⟨hn b hb,(f2 b hb).2⟩;refine codeAny_forLoop_any (fun n s'=>∃ i σ' H',Inv X Ab σ' H' s'/\tn i s'.heap/\(∀ b ∈ fp,H' b=none)/\W i n σ' H') ?_ m0 ⟨0,σ,H2,I2,st2,fun b hb=>(f2 b hb).1,w0⟩;rintro n s3 ⟨i,σ3,H3,I3,st3,fr3,w3⟩;rcases turn i n σ3 H3 w3 with ⟨stop,qn⟩ | ⟨go,N,hN,step⟩
 ·refine wpAny_passesOwn hp (thn (T.done X rfl rfl rfl hc i Ab s3 σ3 H3 X.xe I3 (stat fr3) st3 stop) fun r s4 ⟨hr,I4⟩=>?_);subst hr;exact wpAny_execs_nil ⟨σ3,H3,I4,qn⟩
 ·refine wpAny_passesOwn hp (thn (T.item X rfl rfl rfl hc i Ab s3 σ3 H3 X.xe I3 (stat fr3) st3 go) fun r s4 ⟨u,hr,h4⟩=>?_);subst hr;refine wpAny_passesOwn hp (thn h4 fun _ s5 ⟨x,H5,I5,r5,y5,st5,fr5⟩=>?_);have I5':=I5.pinned (stat fr5) (T.obj _ _ st5);refine wpAny_passesOwn hp (thn (hg _ s5 σ3 H5 x u _ I5' r5 (step x H5 y5)) fun _ s6 ⟨σ6,H6,I6,q6⟩=>?_);refine wpAny_passesOwn hp (thn (hb _ s6 σ6 H6 _ I6 q6) fun f s7 q7=>?_);have again:∀ {σ7:St} {H7:Hp},Inv X (Ab++qKQ fp s5.heap) σ7 H7 s7->N σ7 H7->∃ m,m<n/\∃ i σ' H',Inv X Ab σ' H' s7/\tn i s7.heap/\(∀ b ∈ fp,H' b=none)/\W i m σ' H':=fun {σ7 H7} I7 n7=>by
   obtain ⟨m',hm,w7⟩:=hN σ7 H7 n7;refine ⟨m',hm,i+1,σ7,H7,I7.unpinned,T.keep _ _ _ st5 fun b hb o e=>(I7.pin (b,o) (F3 _ (F3 _ (qDG hb e)))).1,fun b hb=>?_,w7⟩;obtain ⟨o,e,d⟩:=T.obj _ _ st5 b hb;exact (I7.pin (b,o) (F3 _ (F3 _ (qDG hb e)))).2.1
  cases f with
  | next=>obtain ⟨σ7,H7,I7,n7⟩:=q7;exact again I7 n7
  | cont=>obtain ⟨σ7,H7,I7,n7⟩:=q7;exact again I7 n7
  | brk=>obtain ⟨σ7,H7,I7,q7⟩:=q7;exact ⟨σ7,H7,I7.unpinned,q7⟩
  | ret v=>obtain ⟨x7,σ7,H7,I7,r7,q7⟩:=q7;exact ⟨x7,σ7,H7,I7.unpinned,r7,q7⟩
end
theorem qCF {K:PySem.W.Frag} {a:Addr} {xs:List V} {g:TG} {tb:TS} {D:Ends} {σ:St} {H:Hp} (Pv:Nat->St->Hp->Prop) (h0:Pv 0 σ H) (hl:∀ i σ H,i<=xs.length->Pv i σ H->SqL K H a xs)
  (hs:∀ i x σ H,xs[i]?=some x->Pv i σ H->g x σ H fun σ2 H2=>tb { D with nx:=Pv (i+1),ct:=Pv (i+1),bk:=D.nx } σ2 H2) (hd:∀ σ H,Pv xs.length σ H->D.nx σ H) :
  ∃ W:Nat->Nat->St->Hp->Prop,(∃ m,W 0 m σ H)/\∀ i m σ H,W i m σ H->
   ((Itl K a).stop i H/\D.nx σ H)\/((Itl K a).go i H/\∃ N:St->Hp->Prop,(∀ σ' H',N σ' H'->∃ m',m'<m/\W (i+1) m' σ' H')/\∀ x H',(Itl K a).yld i H x H'->g x σ H' fun σ2 H2=>tb { D with nx:=N,ct:=N,bk:=D.nx } σ2 H2):=by
 refine ⟨fun i m σ H=>m=xs.length - i/\i<=xs.length/\Pv i σ H,⟨xs.length,by simp,E8 _,h0⟩,?_⟩
 rintro i m σ H ⟨rfl,hi,p⟩;have q:=hl i σ H hi p;by_cases hlt:i<xs.length
 ·refine .inr ⟨⟨xs,xs[i],q,by simp [hlt]⟩,Pv (i+1),fun σ' H' p'=>⟨xs.length - (i+1),by omega,rfl,hlt,p'⟩,fun x H' y=>?_⟩
  obtain ⟨e,y⟩:=y;subst e;exact hs i x σ _ (y xs q) p
 ·have e:i=xs.length:=by omega
  subst e;exact .inl ⟨⟨xs,q,A5 _⟩,hd σ H p⟩
theorem qU1 {K:PySem.W.Frag} {a:Addr} {xs:List V} {g:TG} {tb:TS} {D:Ends} {σ:St} {H:Hp} (Pv:Nat->St->Hp->Prop) (h0:Pv 0 σ H) (hl:∀ i σ H,i<=xs.length->Pv i σ H->SqT K H a xs)
  (hs:∀ i x σ H,xs[i]?=some x->Pv i σ H->g x σ H fun σ2 H2=>tb { D with nx:=Pv (i+1),ct:=Pv (i+1),bk:=D.nx } σ2 H2) (hd:∀ σ H,Pv xs.length σ H->D.nx σ H) :
  ∃ W:Nat->Nat->St->Hp->Prop,(∃ m,W 0 m σ H)/\∀ i m σ H,W i m σ H->
   ((Itt K a).stop i H/\D.nx σ H)\/((Itt K a).go i H/\∃ N:St->Hp->Prop,(∀ σ' H',N σ' H'->∃ m',m'<m/\W (i+1) m' σ' H')/\∀ x H',(Itt K a).yld i H x H'->g x σ H' fun σ2 H2=>tb { D with nx:=N,ct:=N,bk:=D.nx } σ2 H2):=by
 refine ⟨fun i m σ H=>m=xs.length - i/\i<=xs.length/\Pv i σ H,⟨xs.length,by simp,E8 _,h0⟩,?_⟩
 rintro i m σ H ⟨rfl,hi,p⟩;have q:=hl i σ H hi p;by_cases hlt:i<xs.length
 ·refine .inr ⟨⟨xs,xs[i],q,by simp [hlt]⟩,Pv (i+1),fun σ' H' p'=>⟨xs.length - (i+1),by omega,rfl,hlt,p'⟩,fun x H' y=>?_⟩
  obtain ⟨e,y⟩:=y;subst e;exact hs i x σ _ (y xs q) p
 ·have e:i=xs.length:=by omega
  subst e;exact .inl ⟨⟨xs,q,A5 _⟩,hd σ H p⟩
theorem qEL {lo:Int} {n:Nat} {g:TG} {tb:TS} {D:Ends} {σ:St} {H:Hp} (Pv:Nat->St->Hp->Prop) (h0:Pv 0 σ H)
  (hs:∀ i σ H,i<n->Pv i σ H->g (.int (lo+i)) σ H fun σ2 H2=>tb { D with nx:=Pv (i+1),ct:=Pv (i+1),bk:=D.nx } σ2 H2) (hd:∀ σ H,Pv n σ H->D.nx σ H) :
  ∃ W:Nat->Nat->St->Hp->Prop,(∃ m,W 0 m σ H)/\∀ i m σ H,W i m σ H->
   ((Itr lo n).stop i H/\D.nx σ H)\/((Itr lo n).go i H/\∃ N:St->Hp->Prop,(∀ σ' H',N σ' H'->∃ m',m'<m/\W (i+1) m' σ' H')/\∀ x H',(Itr lo n).yld i H x H'->g x σ H' fun σ2 H2=>tb { D with nx:=N,ct:=N,bk:=D.nx } σ2 H2):=by
 refine ⟨fun i m σ H=>m=n - i/\i<=n/\Pv i σ H,⟨n,by simp,E8 _,h0⟩,?_⟩
 rintro i m σ H ⟨rfl,hi,p⟩;by_cases hlt:i<n
 ·refine .inr ⟨hlt,Pv (i+1),fun σ' H' p'=>⟨n - (i+1),by omega,rfl,hlt,p'⟩,fun x H' y=>?_⟩
  obtain ⟨e,y⟩:=y;subst e y;exact hs i σ _ hlt p
 ·have e:i=n:=by omega
  subst e;exact .inl ⟨A5 _,hd σ H p⟩
abbrev R2:=V->V->Hp->VK->Prop
def OpR (X:Cx) (f:Value->Value->Sem Value) (r:R2):Prop:=
 ∀ (Ab:List (Addr × Obj)) (s:Shared) (σ:St) (H:Hp) (x y:V) (v u:Value) (Q:VK),Inv X Ab σ H s->RelV x v->RelV y u->r x y H Q->
  wpAny (model X.prog X.w) X.A (f v u) (EP X Ab σ Q) X.xe s
def UnR (X:Cx) (f:Value->Sem Value) (r:V->Hp->VK->Prop):Prop:=
 ∀ (Ab:List (Addr × Obj)) (s:Shared) (σ:St) (H:Hp) (x:V) (v:Value) (Q:VK),Inv X Ab σ H s->RelV x v->r x H Q->
  wpAny (model X.prog X.w) X.A (f v) (EP X Ab σ Q) X.xe s
def qDD (X:Cx) (f:Value) (r:List V->Hp->VK->Prop):Prop:=
 ∀ (Ab:List (Addr × Obj)) (s:Shared) (σ:St) (H:Hp) (xs:List V) (us:List Value) (Q:VK),Inv X Ab σ H s->Vals xs us->r xs H Q->
  wpAny (model X.prog X.w) X.A (call f us) (EP X Ab σ Q) X.xe s
def tOp (r:R2) (ta tb:TE):TE:=fun σ H Q=>ta σ H fun x H1=>tb σ H1 fun y H2=>r x y H2 Q
def tUn (r:V->Hp->VK->Prop) (ta:TE):TE:=fun σ H Q=>ta σ H fun x H1=>r x H1 Q
def rI (C:Int->Int->Prop) (g:Int->Int->V):R2:=fun x y H Q=>∃ i j,x=.int i/\y=.int j/\C i j/\Q (g i j) H
def rI0 (g:Int->Int->V):R2:=fun x y H Q=>∃ i j,x=.int i/\y=.int j/\Q (g i j) H
def rU (g:Int->V):V->Hp->VK->Prop:=fun x H Q=>∃ i,x=.int i/\Q (g i) H
section
variable {X:Cx} {a b c:Expr} {ta tb tc:TE} {pos:Pos}
theorem binT (ha:PE X a ta) (hb:PE X b tb) {Ab:List (Addr × Obj)} {s:Shared} {σ:St} {H:Hp} {R:V->V->Hp->Prop} (I:Inv X Ab σ H s)
  (h:ta σ H fun x H1=>tb σ H1 fun y H2=>R x y H2) {Q:Value->Shared->Prop} {f:Value->Value->Sem Value}
  (hf:∀ v u s2 x y H2,Inv X Ab σ H2 s2->RelV x v->RelV y u->R x y H2->wpAny (model X.prog X.w) X.A (f v u) Q X.xe s2) :
  wpAny (model X.prog X.w) X.A (eval a X.env) (fun v s₁=>wpAny (model X.prog X.w) X.A (eval b X.env) (fun u s₂=>wpAny (model X.prog X.w) X.A (f v u) Q X.xe s₂) X.xe s₁) X.xe s:=by
 refine thn (ha Ab s σ H _ I h) fun v s1 ⟨x,H1,I1,r1,q1⟩=>?_;refine thn (hb Ab s1 σ H1 _ I1 q1) fun u s2 ⟨y,H2,I2,r2,q2⟩=>?_;exact hf v u s2 x y H2 I2 r1 r2 q2
theorem qB5 {op:Operator} {r:R2} (ho:OpR X (binaryOp op) r) (ha:PE X a ta) (hb:PE X b tb):PE X (.BinOp a op b pos) (tOp r ta tb):=by
 intro Ab s σ H Q I h;exact wpAny_BinOp (binT ha hb I h fun v u s2 x y H2 I2 rx ry q=>ho Ab s2 σ H2 x y v u Q I2 rx ry q)
theorem qKE {op:UnaryOp} {r:V->Hp->VK->Prop} (ho:UnR X (unaryOp op) r) (ha:PE X a ta):PE X (.UnaryOp op a pos) (tUn r ta):=by
 intro Ab s σ H Q I h;exact UnaryOp_ (thn (ha Ab s σ H _ I h) fun v s1 ⟨x,H1,I1,r1,q1⟩=>ho Ab s1 σ H1 x v Q I1 r1 q1)
theorem opI {f:Value->Value->Sem Value} {C:Int->Int->Prop} {g:Int->Int->Int}
  (rule:∀ (i j:Int) (t u:Tok) (s:Shared) (Q:Value->Shared->Prop) (E:Value->Shared->Prop),C i j->Q (.int (g i j) s.toks) { s with toks:=s.toks+1 }->wpAny (model X.prog X.w) X.A (f (.int i t) (.int j u)) Q E s) :
  OpR X f (rI C fun i j=>.int (g i j)):=by
 intro Ab s σ H x y v u Q I rx ry h;obtain ⟨i,j,rfl,rfl,hc,q⟩:=h;obtain ⟨t,rfl⟩:=rx;obtain ⟨t',rfl⟩:=ry;exact rule i j t t' s _ _ hc ⟨.int (g i j),H,I.tok _,⟨_,rfl⟩,q⟩
theorem opI0 {f:Value->Value->Sem Value} {g:Int->Int->Int}
  (rule:∀ (i j:Int) (t u:Tok) (s:Shared) (Q:Value->Shared->Prop) (E:Value->Shared->Prop),Q (.int (g i j) s.toks) { s with toks:=s.toks+1 }->wpAny (model X.prog X.w) X.A (f (.int i t) (.int j u)) Q E s) :
  OpR X f (rI0 fun i j=>.int (g i j)):=by
 intro Ab s σ H x y v u Q I rx ry h;obtain ⟨i,j,rfl,rfl,q⟩:=h;obtain ⟨t,rfl⟩:=rx;obtain ⟨t',rfl⟩:=ry;exact rule i j t t' s _ _ ⟨.int (g i j),H,I.tok _,⟨_,rfl⟩,q⟩
theorem opB0 {f:Value->Value->Sem Value} {g:Int->Int->Bool}
  (rule:∀ (i j:Int) (t u:Tok) (s:Shared) (Q:Value->Shared->Prop) (E:Value->Shared->Prop),Q (.bool (g i j)) s->wpAny (model X.prog X.w) X.A (f (.int i t) (.int j u)) Q E s) :
  OpR X f (rI0 fun i j=>.bl (g i j)):=by
 intro Ab s σ H x y v u Q I rx ry h;obtain ⟨i,j,rfl,rfl,q⟩:=h;obtain ⟨t,rfl⟩:=rx;obtain ⟨t',rfl⟩:=ry;exact rule i j t t' s _ _ ⟨.bl (g i j),H,I,rfl,q⟩
def CDiv (i j:Int):Prop:=0<j/\j<1073741824
def CPow (i j:Int):Prop:=0<=j/\j<=1000000/\i.natAbs<2 ^ 64
def CMul (i j:Int):Prop:=(-(2 ^ 64)<i/\i<2 ^ 64)\/(-(2 ^ 64)<j/\j<2 ^ 64)
theorem CMul.ok {i j:Int} (h:CMul i j):IntMulOk i j:=by
 rcases h with ⟨h1,h2⟩ | ⟨h1,h2⟩
 ·exact .of_left (intBits_le_64 h1 h2)
 ·exact .of_right (intBits_le_64 h1 h2)
theorem qDK:OpR X (binaryOp .Add) (rI0 fun i j=>.int (i+j)):=opI0 fun _ _ _ _ _ _ _ q=>add_int q
theorem qF4:OpR X (binaryOp .Sub) (rI0 fun i j=>.int (i - j)):=opI0 fun _ _ _ _ _ _ _ q=>sub_int q
theorem qKT:OpR X (binaryOp .Mult) (rI CMul fun i j=>.int (i * j)):=opI fun _ _ _ _ _ _ _ hc q=>mul_int q hc.ok
theorem qOV:OpR X (binaryOp .FloorDiv) (rI CDiv fun i j=>.int (i / j)):=opI fun i j _ _ _ _ _ hc q=>by
 have h1:(0:Int)<j:=hc.1;have h2:j<1073741824:=hc.2;exact floordiv_int (by omega) (by rw [i8 i (by omega)];exact q) (.inl (Z7 (by omega)))
theorem qJP:OpR X (binaryOp .Mod) (rI (fun _ j=>0<j) fun i j=>.int (i % j)):=opI fun i j _ _ _ _ _ hc q=>by
 have h1:(0:Int)<j:=hc;exact mod_int' (by omega) (by rw [i9 i (by omega)];exact q)
theorem qbA:OpR X (binaryOp .Pow) (rI CPow fun i j=>.int (i ^ j.toNat)):=opI fun _ _ _ _ _ _ _ hc q=>pow_int_small hc.1 hc.2.1 hc.2.2 q
theorem unI {f:Value->Sem Value} {g:Int->Int}
  (rule:∀ (i:Int) (t:Tok) (s:Shared) (Q:Value->Shared->Prop) (E:Value->Shared->Prop),Q (.int (g i) s.toks) { s with toks:=s.toks+1 }->wpAny (model X.prog X.w) X.A (f (.int i t)) Q E s) :
  UnR X f (rU fun i=>.int (g i)):=by
 intro Ab s σ H x v Q I rx h;obtain ⟨i,rfl,q⟩:=h;obtain ⟨t,rfl⟩:=rx;exact rule i t s _ _ ⟨.int (g i),H,I.tok _,⟨_,rfl⟩,q⟩
theorem qGC:UnR X (unaryOp .USub) (rU fun i=>.int (-i)):=unI fun _ _ _ _ _ q=>neg_int q
end
def scal:V->V->Bool
 | .non,.non=>true | .non,.int _=>true | .int _,.non=>true | .non,.bl _=>true | .bl _,.non=>true | .non,.str _=>true | .str _,.non=>true
 | .int _,.int _=>true | .bl _,.bl _=>true | .str _,.str _=>true | .byt _,.byt _=>true
 | .int _,.str _=>true | .str _,.int _=>true | .bl _,.str _=>true | .str _,.bl _=>true
 | _,_=>false
def rEq:R2:=fun x y H Q=>scal x y=true/\Q (.bl (decide (x=y))) H
def rNe:R2:=fun x y H Q=>scal x y=true/\Q (.bl (!decide (x=y))) H
theorem qUA {i j:Int}:decide (V.int i=V.int j)=(i == j):=by
 rw [L7];simp
theorem qY7 {i j:Bool}:decide (V.bl i=V.bl j)=(i == j):=by
 rw [L7];simp
theorem qU9 {i j:Str}:decide (V.str i=V.str j)=(i == j):=by
 rw [L7];simp
theorem qUB {i j:Array UInt8}:decide (V.byt i=V.byt j)=(i.toList == j.toList):=by
 rw [L7];cases i;cases j;simp
section
variable {X:Cx} {a b c:Expr} {ta tb tc:TE} {pos:Pos}
theorem qBH {Ab:List (Addr × Obj)} {σ:St} {H:Hp} {s:Shared} {Q:VK} {k k':Bool} (I:Inv X Ab σ H s) (q:Q (.bl k) H) (e:k=k'):EP X Ab σ Q (.bool k') s:=by
 subst e;exact ⟨.bl k,H,I,rfl,q⟩
theorem qE8:OpR X (compareOp .Eq) rEq:=by
 intro Ab s σ H x y v u Q I rx ry h;obtain ⟨hs,q⟩:=h;cases x with
 | non=>
  cases rx;cases y with
  | non=>cases ry;exact PySem.EqNone.eq_none_none (qBH I q (by simp))
  | bl j=>cases ry;exact PySem.EqNone.eq_none_bool (qBH I q (by simp))
  | int j=>obtain ⟨t',rfl⟩:=ry;exact PySem.EqNone.eq_none_int (qBH I q (by simp))
  | str j=>obtain ⟨t',rfl⟩:=ry;exact PySem.EqNone.eq_none_str (qBH I q (by simp))
  | _=>exact absurd (show false=true from hs) C2
 | bl i=>
  cases rx;cases y with
  | non=>cases ry;exact PySem.EqNone.eq_bool_none (qBH I q (by simp))
  | bl j=>cases ry;exact eq_bool (qBH I q qY7)
  | str j=>obtain ⟨t',rfl⟩:=ry;exact PySem.EqMixed.eq_bool_str (qBH I q (by simp))
  | _=>exact absurd (show false=true from hs) C2
 | int i=>
  obtain ⟨t,rfl⟩:=rx;cases y with
  | non=>cases ry;exact PySem.EqNone.eq_int_none (qBH I q (by simp))
  | int j=>obtain ⟨t',rfl⟩:=ry;exact eq_int (qBH I q qUA)
  | str j=>obtain ⟨t',rfl⟩:=ry;exact PySem.EqMixed.eq_int_str (qBH I q (by simp))
  | _=>exact absurd (show false=true from hs) C2
 | str i=>
  obtain ⟨t,rfl⟩:=rx;cases y with
  | non=>cases ry;exact PySem.EqNone.eq_str_none (qBH I q (by simp))
  | bl j=>cases ry;exact PySem.EqMixed.eq_str_bool (qBH I q (by simp))
  | int j=>obtain ⟨t',rfl⟩:=ry;exact PySem.EqMixed.eq_str_int (qBH I q (by simp))
  | str j=>obtain ⟨t',rfl⟩:=ry;exact eq_str (qBH I q qU9)
  | _=>exact absurd (show false=true from hs) C2
 | byt i=>
  obtain ⟨t,rfl⟩:=rx;cases y with
  | byt j=>obtain ⟨t',rfl⟩:=ry;exact PySem.W.eq_bytes (qBH I q qUB)
  | _=>exact absurd (show false=true from hs) C2
 | _=>cases y <;> exact absurd (show false=true from hs) C2
theorem qT0:OpR X (compareOp .NotEq) rNe:=by
 intro Ab s σ H x y v u Q I rx ry h;obtain ⟨hs,q⟩:=h;cases x with
 | non=>
  cases rx;cases y with
  | non=>cases ry;exact PySem.EqNone.ne_none_none (qBH I q (by simp))
  | bl j=>cases ry;exact PySem.EqNone.ne_none_bool (qBH I q (by simp))
  | int j=>obtain ⟨t',rfl⟩:=ry;exact PySem.EqNone.ne_none_int (qBH I q (by simp))
  | str j=>obtain ⟨t',rfl⟩:=ry;exact PySem.EqNone.ne_none_str (qBH I q (by simp))
  | _=>exact absurd (show false=true from hs) C2
 | bl i=>
  cases rx;cases y with
  | non=>cases ry;exact PySem.EqNone.ne_bool_none (qBH I q (by simp))
  | bl j=>cases ry;exact ne_bool (qBH I q (congrArg not qY7))
  | str j=>obtain ⟨t',rfl⟩:=ry;exact PySem.EqMixed.ne_bool_str (qBH I q (by simp))
  | _=>exact absurd (show false=true from hs) C2
 | int i=>
  obtain ⟨t,rfl⟩:=rx;cases y with
  | non=>cases ry;exact PySem.EqNone.ne_int_none (qBH I q (by simp))
  | int j=>obtain ⟨t',rfl⟩:=ry;exact ne_int (qBH I q (congrArg not qUA))
  | str j=>obtain ⟨t',rfl⟩:=ry;exact PySem.EqMixed.ne_int_str (qBH I q (by simp))
  | _=>exact absurd (show false=true from hs) C2
 | str i=>
  obtain ⟨t,rfl⟩:=rx;cases y with
  | non=>cases ry;exact PySem.EqNone.ne_str_none (qBH I q (by simp))
  | bl j=>cases ry;exact PySem.EqMixed.ne_str_bool (qBH I q (by simp))
  | int j=>obtain ⟨t',rfl⟩:=ry;exact PySem.EqMixed.ne_str_int (qBH I q (by simp))
  | str j=>obtain ⟨t',rfl⟩:=ry;exact ne_str (qBH I q (congrArg not qU9))
  | _=>exact absurd (show false=true from hs) C2
 | byt i=>
  obtain ⟨t,rfl⟩:=rx;cases y with
  | byt j=>obtain ⟨t',rfl⟩:=ry;exact PySem.W.ne_bytes (qBH I q (congrArg not qUB))
  | _=>exact absurd (show false=true from hs) C2
 | _=>cases y <;> exact absurd (show false=true from hs) C2
theorem qT1:OpR X (compareOp .Lt) (rI0 fun i j=>.bl (decide (i<j))):=opB0 fun _ _ _ _ _ _ _ q=>lt_int q
theorem qcX:OpR X (compareOp .LtE) (rI0 fun i j=>.bl (decide (i<=j))):=opB0 fun _ _ _ _ _ _ _ q=>le_int q
theorem qbB:OpR X (compareOp .Gt) (rI0 fun i j=>.bl (decide (j<i))):=opB0 fun _ _ _ _ _ _ _ q=>gt_int q
theorem qW3:OpR X (compareOp .GtE) (rI0 fun i j=>.bl (decide (j<=i))):=opB0 fun _ _ _ _ _ _ _ q=>ge_int q
theorem qAY (b:Expr) {op:CmpOp} (h:op ≠ .In:=by decide) (h2:op ≠ .NotIn:=by decide):behindInMarks op b=false:=by
 have e1:(op == CmpOp.In)=false:=by cases op <;> first | rfl | exact absurd rfl h
 have e2:(op == CmpOp.NotIn)=false:=by cases op <;> first | rfl | exact absurd rfl h2
 cases b <;> simp [behindInMarks,e1,e2]
theorem qDJ {op:CmpOp} {r:R2} (ho:OpR X (compareOp op) r) (ha:PE X a ta) (hb:PE X b tb) (hm:behindInMarks op b=false):PE X (.Compare a [op] [b] pos) (tOp r ta tb):=by
 intro Ab s σ H Q I h;exact wpAny_Compare1 (binT ha hb I h fun v u s2 x y H2 I2 rx ry q=>ho Ab s2 σ H2 x y v u Q I2 rx ry q) hm
def qcE (t:TE):TT:=fun σ H Q=>t σ H fun x H'=>∃ k,x=.bl k/\Q k H'
theorem qAI {op:CmpOp} {r:R2} (ho:OpR X (compareOp op) r) (ha:PE X a ta) (hb:PE X b tb) (hm:behindInMarks op b=false):PT X (.Compare a [op] [b] pos) (qcE (tOp r ta tb)):=by
 intro Ab s σ H Q I h;refine wpAny_isTrue_Compare1 (thn (ha Ab s σ H _ I h) fun v s1 ⟨x,H1,I1,r1,q1⟩=>thn (hb Ab s1 σ H1 _ I1 q1) fun u s2 ⟨y,H2,I2,r2,q2⟩=>
  thn (ho Ab s2 σ H2 x y v u _ I2 r1 r2 q2) fun c s3 ⟨z,H3,I3,r3,k,e,q3⟩=>?_) hm
 subst e;cases r3;exact wpAny_truthy_bool ⟨H3,I3,q3⟩
def qaO (r r':R2) (ta tb tc:TE):TE:=fun σ H Q=>ta σ H fun x H1=>tb σ H1 fun y H2=>r x y H2 fun z H3=>∃ k,z=.bl k/\
 (if k=true then tc σ H3 fun w' H4=>r' y w' H4 Q else Q (.bl false) H3)
theorem qW1 {op op':CmpOp} {r r':R2} (ho:OpR X (compareOp op) r) (ho':OpR X (compareOp op') r') (ha:PE X a ta) (hb:PE X b tb) (hc:PE X c tc)
  (hm:lastMarks [op,op'] [b,c]=false:=by with_unfolding_all rfl):PE X (.Compare a [op,op'] [b,c] pos) (qaO r r' ta tb tc):=by
 intro Ab s σ H Q I h;refine Compare_chain (thn (ha Ab s σ H _ I h) fun v s1 ⟨x,H1,I1,r1,q1⟩=>chain_link (thn (hb Ab s1 σ H1 _ I1 q1) fun u s2 ⟨y,H2,I2,r2,q2⟩=>
  thn (ho Ab s2 σ H2 x y v u _ I2 r1 r2 q2) fun d s3 ⟨z,H3,I3,r3,k,e,q3⟩=>?_)) hm
 subst e;cases r3;refine wpAny_truthy_bool ?_;cases k with
 | false=>exact ite_ff ⟨.bl false,H3,I3,rfl,q3⟩
 | true=>exact ite_tt (chain_last (thn (hc Ab s3 σ H3 _ I3 q3) fun w' s4 ⟨z',H4,I4,r4,q4⟩=>ho' Ab s4 σ H4 y z' u w' Q I4 r2 r4 q4))
theorem qQ5:(sizeLine:Nat)<2 ^ 63:=by rw [sizeLine_eq];decide
theorem qGH {x:V} {us:List Value} (r:Vals [x] us):∃ u,us=[u]/\RelV x u:=by
 cases r with
 | cons r1 r2=>cases r2;exact ⟨_,rfl,r1⟩
theorem qOI {x y:V} {us:List Value} (r:Vals [x,y] us):∃ u w',us=[u,w']/\RelV x u/\RelV y w':=by
 cases r with
 | cons r1 r2=>
  cases r2 with
  | cons r3 r4=>cases r4;exact ⟨_,_,rfl,r1,r3⟩
theorem qUN (hc:X.calm=true):qDD X (.builtin "max") (fun xs H Q=>∃ i j,xs=[.int i,.int j]/\Q (.int (if j > i then j else i)) H):=by
 intro Ab s σ H xs us Q I r h;obtain ⟨i,j,rfl,q⟩:=h;obtain ⟨u,w',rfl,⟨t,rfl⟩,⟨t',rfl⟩⟩:=qOI r;refine max_two_ints (I.ok.hd hc) fun h' tk k=>⟨_,H,I.kept k,?_,q⟩;by_cases hj:j > i
 ·rw [if_pos hj,if_pos hj];exact ⟨_,rfl⟩
 ·rw [if_neg hj,if_neg hj];exact ⟨_,rfl⟩
theorem qK3 (hc:X.calm=true):qDD X (.builtin "min") (fun xs H Q=>∃ i j,xs=[.int i,.int j]/\Q (.int (if j<i then j else i)) H):=by
 intro Ab s σ H xs us Q I r h;obtain ⟨i,j,rfl,q⟩:=h;obtain ⟨u,w',rfl,⟨t,rfl⟩,⟨t',rfl⟩⟩:=qOI r;refine min_two_ints (I.ok.hd hc) fun h' tk k=>⟨_,H,I.kept k,?_,q⟩;by_cases hj:j<i
 ·rw [if_pos hj,if_pos hj];exact ⟨_,rfl⟩
 ·rw [if_neg hj,if_neg hj];exact ⟨_,rfl⟩
theorem qO3:qDD X (.type "int") (fun xs H Q=>(∃ i,xs=[.int i]/\Q (.int i) H)\/∃ k,xs=[.bl k]/\Q (.int (if k then 1 else 0)) H):=by
 intro Ab s σ H xs us Q I r h;rcases h with ⟨i,rfl,q⟩ | ⟨k,rfl,q⟩
 ·obtain ⟨u,rfl,t,rfl⟩:=qGH r;exact call_int_int ⟨.int i,H,I,⟨_,rfl⟩,q⟩
 ·obtain ⟨u,rfl,r1⟩:=qGH r;cases r1;exact call_int_bool ⟨.int (if k then 1 else 0),H,I.tok _,⟨_,rfl⟩,q⟩
theorem qP7:qDD X (.builtin "divmod") (fun xs H Q=>∃ i j,xs=[.int i,.int j]/\CDiv i j/\∀ p,H p=none->Q (.ref p) (Ai H p (.tup [.int (i / j),.int (i % j)]))):=by
 intro Ab s σ H xs us Q I r h;obtain ⟨i,j,rfl,⟨h1,h2⟩,q⟩:=h;obtain ⟨u,w',rfl,⟨t,rfl⟩,⟨t',rfl⟩⟩:=qOI r;refine divmod_int (by omega) ?_ (.inl (Z7 (by omega)))
 rw [i8 i (by omega),i9 i (by omega)]
 have hn:H s.heap.objs.size=none:=I.hok.fresh (A5 _);refine ⟨.ref s.heap.objs.size,_,?_,rfl,q _ hn⟩;refine I.laid (fun b o e=>A2 _ e) (A5 _) ⟨by simp only [B3,Q2];rw [sizeLine_eq];decide,[.int (i / j) s.toks,.int (i % j) (s.toks+1)],.cons ⟨_,rfl⟩ (.cons ⟨_,rfl⟩ .nil),?_⟩
 exact ⟨_,B9 s.heap rfl,rfl,0,rfl⟩
end
structure ObjM (h:Heap) (x dx C:Addr) (mA:Str->Option Value):Prop where
 obj:h.get? x=some (x9 C dx)
 ns:h.Ns1 dx mA
 ne:dx ≠ x
theorem qTE {h:Heap} {dx:Addr} {mA:Str->Option Value} (n:h.Ns1 dx mA):∃ od,h.get? dx=some od/\∀ name,A04 name od=some (mA name):=by
 obtain ⟨o,es,ep,ho,hd,hk,_,hm⟩:=n;refine ⟨o,ho,fun name=>?_⟩;have e:=hm name;unfold nsFind findBy at e;rw [<- Array.find?_toList] at e;unfold A04;rw [hd];dsimp only
 split
 ·rename_i y q
  rw [q] at e;exact congrArg some e
 ·rename_i q
  rw [q] at e;have a:es.toList.any (·.refKey)=false:=by
   rw [List.any_eq_false];intro y hy;obtain ⟨z,t,hkey⟩:=hk y (Array.mem_toList_iff.mp hy);simp [DictEntry.refKey,hkey]
  have a':¬ es.toList.any (·.refKey)=true:=by rw [a];exact C2
  rw [if_neg a'];exact congrArg some e
theorem ObjM.look {h:Heap} {x dx C:Addr} {mA:Str->Option Value} (I:ObjM h x dx C mA):∃ od,PySem.W.InstAt h x (x9 C dx) C (some od)/\∀ name,A04 name od=some (mA name):=
 let ⟨od,ho,hl⟩:=qTE I.ns
 ⟨od,⟨I.obj,rfl,rfl,ho⟩,hl⟩
section
variable {prog:Program} {w:World} {A:Around} {E:Value->Shared->Prop} {s:Shared} {K:PySem.W.Frag} {x dx C f:Addr} {mA:Str->Option Value} {name:Str} {v:Value}
end
def putF (f:Str) (v:V):List (Str × V)->List (Str × V)
 | []=>[(f,v)]
 | (g,x)::r=>if g=f then (g,v)::r else (g,x)::putF f v r
theorem RelO.some_of {v:V} {o:Option Value} (r:RelO (some v) o):∃ u,o=some u/\RelV v u:=by
 cases o with
 | none=>exact (show False from r).elim
 | some u=>exact ⟨u,rfl,r⟩
theorem RelO.none_of {o:Option Value} (r:RelO none o):o=none:=by
 cases o with
 | none=>rfl
 | some u=>exact (show False from r).elim
section
variable {P:Program} {w:World} {H H':Hp} {h h':Heap} {a C dx:Addr} {fs fs':List (Str × V)}
theorem qZQ (hok:HOk P w H h) (e:H a=some (.ins C dx fs)):∃ mA,ObjM h a dx C mA/\(∀ f,RelO (fs.lookup f) (mA f))/\PySem.Within mA (fs.map (·.1))/\fs.length<=1000/\H dx=some (.own a):=by
 obtain ⟨d,z,ne,ob,mA,n,r,q⟩:=(show ObjOk P w H h a (.ins C dx fs) from hok a _ e);exact ⟨mA,⟨ob,n,ne⟩,r,q,z,d⟩
end
structure Cls (K:PySem.W.Frag) (C:Addr):Prop where
 pg:A42 K C Q3=true
 hd:A26 K C=true
 po:PySem.W.plainOver K C=true
 sa:P9 K (.ref C) "__setattr__" = some (some (.builtin "object.__setattr__"))
theorem Cls.get {K:PySem.W.Frag} {C:Addr} (c:Cls K C) (f:Str):A42 K C f=true:=c.pg
def qQO (K:PySem.W.Frag) (C:Addr) (f:Str):Prop:=P9 K (.ref C) f=some none
structure Con (K:PySem.W.Frag) (C:Addr) (f:Str) (v:V) (u:Value):Prop where
 at_:P9 K (.ref C) f=some (some u)
 rel:RelV v u
 get:n8 K u "__get__" = some none
 cp:PySem.W.copiedNames.contains f=false
structure Meth (K:PySem.W.Frag) (C:Addr) (m:Str) (f:Addr):Prop where
 at_:P9 K (.ref C) m=some (some (.ref f))
 fn:A78 K (.ref f)=true
 kp:O5 K (.ref f)=true
section
variable {X:Cx} {Ab:List (Addr × Obj)} {σ:St} {H:Hp} {s:Shared} {a C dx:Addr} {fs:List (Str × V)} {f:Str} {v:V} {A:Around} {E:Value->Shared->Prop}
end
section
variable {X:Cx} {o e value:Expr} {f:Str} {pos pos' tpos:Pos} {ta tv:TE}
end
section
variable {X:Cx} {Ab:List (Addr × Obj)} {σ:St} {H:Hp} {s:Shared} {A:Around} {E:Value->Shared->Prop} {Q:Value->Shared->Prop} {c:Value} {b:Bool}
inductive TyOf (K:PySem.W.Frag) (H:Hp):V->Value->Prop where
 | non:TyOf K H .non (.type "NoneType")
 | bl (x:Bool):TyOf K H (.bl x) (.type "bool")
 | int (i:Int):TyOf K H (.int i) (.type "int")
 | str (x:Str):TyOf K H (.str x) (.type "str")
 | flt (x:UInt64):TyOf K H (.flt x) (.type "float")
 | lst {a:Addr} {xs:List V} (e:H a=some (.lst xs)):TyOf K H (.ref a) (.type "list")
 | frz {a:Addr} {o:Obj} {xs:List V} (e:H a=some (.frz o (.lst xs))):TyOf K H (.ref a) (.type "list")
 | tup {a:Addr} {xs:List V} (e:H a=some (.tup xs)):TyOf K H (.ref a) (.type "tuple")
 | dK {a:Addr} {Ah:List (Key × V)} (e:H a=some (.dK Ah)):TyOf K H (.ref a) (.type "dict")
 | dT {a:Addr} {Ah:List (List Key × V)} (e:H a=some (.dT Ah)):TyOf K H (.ref a) (.type "dict")
 | ins {a C dx:Addr} {fs:List (Str × V)} (e:H a=some (.ins C dx fs)) (cl:Cls K C) (ha:P9 K (.ref C) "__class__" = some (some (.builtin "object.__class__")))
   (hn:n8 K (.builtin "object.__class__") "__get__" = some (some (.builtin "getset_descriptor.__get__"))) (htk:A52 K (.builtin "object.__class__")=some true)
   (hm:A16 K C (.type "object")=some true):TyOf K H (.ref a) (.ref C)
theorem qTP {x:V} {u t:Value} (I:Inv X Ab σ H s) (rx:RelV x u) (ty:TyOf X.K H x t) (e:L8 X.K t c=some b) (h:∀ tk,Q (.bool b) { s with toks:=tk }) :
  wpAny (model X.prog X.w) A (call (.builtin "isinstance") [u,c]) Q E s:=by
 cases ty with
 | non=>cases (show u=W2 from rx);exact L9 PySem.W.kitx_none I.kIn R6 e (fun z=>nomatch z) h
 | bl y=>cases (show u=R5 y from rx);exact L9 PySem.W.kitx_bool I.kIn R6 e (fun z=>nomatch z) h
 | int i=>obtain ⟨t,q⟩:=(show ∃ t,u=Q1 i t from rx);cases q;exact L9 PySem.W.kitx_int I.kIn R6 e (fun z=>nomatch z) h
 | str y=>obtain ⟨t,q⟩:=(show ∃ t,u=A12 y t from rx);cases q;exact L9 PySem.W.kitx_str I.kIn R6 e (fun z=>nomatch z) h
 | flt y=>obtain ⟨t,q⟩:=(show ∃ t,u=Value.float y t from rx);cases q;exact L9 PySem.W.kitx_float I.kIn R6 e (fun z=>nomatch z) h
 | @lst a xs ea=>
  cases (show u=D8 a from rx);obtain ⟨_,_,n,_,h1⟩:=(show ObjOk X.prog X.w H s.heap a (.lst xs) from I.hok a _ ea);exact L9 A27 I.kIn ⟨_,h1,rfl⟩ e (fun z=>nomatch z) h
 | @frz a ob xs ea=>
  cases (show u=D8 a from rx);obtain ⟨_,_,_,n,_,h1⟩:=(show ObjOk X.prog X.w H s.heap a (.frz ob (.lst xs)) from I.hok a _ ea);exact L9 A27 I.kIn ⟨_,h1,rfl⟩ e (fun z=>nomatch z) h
 | @tup a xs ea=>
  cases (show u=D8 a from rx);obtain ⟨_,_,_,p⟩:=(show ObjOk X.prog X.w H s.heap a (.tup xs) from I.hok a _ ea);obtain ⟨o,h1,h2,_⟩:=p;exact L9 PySem.W.kitx_tuple I.kIn ⟨o,h1,h2⟩ e (fun z=>nomatch z) h
 | @dK a Ah ea=>
  cases (show u=D8 a from rx);obtain ⟨_,_,vs,_,p⟩:=(show ObjOk X.prog X.w H s.heap a (.dK Ah) from I.hok a _ ea);obtain ⟨o,es,ep,h1,h2,_⟩:=p;exact L9 A28 I.kIn ⟨o,h1,h2.1⟩ e (fun z=>nomatch z) h
 | @dT a Ah ea=>
  cases (show u=D8 a from rx);obtain ⟨_,_,xs,_,o,es,ep,h1,h2,_⟩:=(show ObjOk X.prog X.w H s.heap a (.dT Ah) from I.hok a _ ea);exact L9 A28 I.kIn ⟨o,h1,h2.1⟩ e (fun z=>nomatch z) h
 | @ins a C dx fs ea cl ha hn htk hm=>
  cases (show u=D8 a from rx);obtain ⟨mA,O,_⟩:=qZQ I.hok ea;obtain ⟨od,J,_⟩:=O.look;exact L9 (PySem.W.kitx_own (cl.get _) cl.hd ha hn htk hm) I.kIn J e (fun z=>nomatch z) h
end
structure Room (k:Nat) (A:Around):Prop where
 hd:A.handled=none
 dp:A.depth+3 * k+5<recursionLimit
 un:A.units+16 * k+200<cLine
 gd:A.guards=some []
theorem Room.mono {j k:Nat} {A:Around} (r:Room k A) (h:j<=k):Room j A:=⟨r.hd,by have:=r.dp;omega,by have:=r.un;omega,r.gd⟩
theorem Room.deeper {k:Nat} {A:Around} (r:Room (k+1) A) (env:Env):Room k (A.deeper env):=
 ⟨r.hd,by have:=r.dp;show A.depth+1+3 * k+5<_;omega,by have:=r.un;show A.units+3+16 * k+200<_;omega,r.gd⟩
theorem Room.depth {k:Nat} {A:Around} (r:Room k A):A.depth<recursionLimit:=by have:=r.dp;omega
theorem Room.units {k:Nat} {A:Around} (r:Room k A):A.units+64<cLine:=by have:=r.un;omega
theorem Room.units0 {k:Nat} {A:Around} (r:Room k A):A.units<cLine:=by have:=r.un;omega
def tNil:TA:=fun _ H Q=>Q [] H
def qKB (ta:TE) (tr:TA):TA:=fun σ H Q=>ta σ H fun x H1=>tr σ H1 fun xs H2=>Q (x::xs) H2
section
variable {X:Cx} {e:Expr} {es:List Expr} {te:TE} {t:TA} {pos:Pos}
theorem qA3:PA X [] tNil:=fun _ _ _ _ H Q I h=>a8 ⟨[],H,I,.nil,h⟩
theorem qA0 (ha:PE X e te) (hr:PA X es t) (hs:starEach (e::es) X.env=(false,eval e X.env)::starEach es X.env:=by rfl):PA X (e::es) (qKB te t):=by
 intro pos Ab s σ H Q I h;rw [hs];show wpAny _ _ (spliced ((false,eval e X.env)::backTo pos (starEach es X.env))) _ _ s;refine U7 (thn (ha Ab s σ H _ I h) fun u s1 ⟨x,H1,I1,r1,q1⟩=>?_);exact thn (hr pos Ab s1 σ H1 _ I1 q1) fun us s2 ⟨xs,H2,I2,r2,q2⟩=>⟨x::xs,H2,I2,.cons r1 r2,q2⟩
def tTup (t:TA):TE:=fun σ H Q=>t σ H fun xs H1=>xs.length<=sizeLine/\∀ p,H1 p=none->Q (.ref p) (Ai H1 p (.tup xs))
def tLst (t:TA):TE:=fun σ H Q=>t σ H fun xs H1=>xs.length<=sizeLine/\∀ p,H1 p=none->Q (.ref p) (Ai H1 p (.lst xs))
theorem qBC {x1} (h:PA X es t):PE X (.Tuple es x1 pos) (tTup t):=by
 intro Ab s σ H Q I hq;refine wpAny_Tuple_spliced (thn (h pos Ab s σ H _ I hq) fun us s1 ⟨xs,H1,I1,r,z,q⟩=>⟨by rw [<- r.length];exact z,?_⟩)
 have hf:H1 s1.heap.objs.size=none:=I1.hok.fresh (A5 _);refine ⟨.ref s1.heap.objs.size,Ai H1 s1.heap.objs.size (.tup xs),I1.laid (t':=s1.toks) (fun b u e=>A2 _ e) (A5 _) ?_,rfl,q _ hf⟩;exact ⟨z,us,r,⟨_,B9 _ rfl,rfl,_,rfl⟩⟩
theorem qBG (h:PA X es t):PE X (.List es pos) (tLst t):=by
 intro Ab s σ H Q I hq;refine wpAny_List_spliced (thn (h pos Ab s σ H _ I hq) fun us s1 ⟨xs,H1,I1,r,z,q⟩=>⟨by rw [<- r.length];exact z,?_⟩)
 have hf:H1 s1.heap.objs.size=none:=I1.hok.fresh (A5 _);refine ⟨.ref s1.heap.objs.size,Ai H1 s1.heap.objs.size (.lst xs),I1.laid (t':=s1.toks) (fun b u e=>A2 _ e) (A5 _) ?_,rfl,q _ hf⟩;exact ⟨z,us,0,r,B9 _ rfl⟩
end
abbrev Sp:=List V->Hp->VK->XK->Prop
abbrev CXT:=List Env->Hp->Shared->XK->Value->Shared->Prop
structure Env0 (P:Program) (w:World) (K:PySem.W.Frag) (mg:Str->Option Value) (base:Heap) (A:Around) (outer:List Env) (s:Shared) (H:Hp):Prop where
 frames:A.frames=some outer
 mod:Mod K mg base
 bs:∀ b o,base.get? b=some o->s.heap.get? b=some o/\H b=none
 bsz:base.objs.size<=s.heap.objs.size
 funs:s.heap.FunFrames base outer
 frf:∀ b ∈ frs outer,H b=none
 hok:HOk P w H s.heap
 bare:AllBare s.gens
def CE (outer:List Env) (P:Program) (w:World) (H:Hp) (s:Shared) (Q:VK) (u:Value) (s':Shared):Prop:=
 ∃ v H',s'.os=s.os/\AllBare s'.gens/\Un (frs outer) [] H H' s.heap s'.heap/\HOk P w H' s'.heap/\RelV v u/\Q v H'
def CR (CX:CXT) (outer:List Env) (P:Program) (w:World) (H:Hp) (s:Shared) (Q:VK) (E:XK) (r:Result) (s':Shared):Prop:=
 match r with
 | .ok (.ret u)=>CE outer P w H s Q u s'
 | .ok _=>False
 | .error e=>CX outer H s E e s'
structure FnOk (P:Program) (w:World) (K:PySem.W.Frag) (mg:Str->Option Value) (base:Heap) (CX:CXT) (k:Nat) (f:Addr) (fd:FuncData) (ps:List Str) (sp:Sp):Prop where
 len:∀ vs H Q E,sp vs H Q E->vs.length=ps.length
 run:∀ (A:Around) (outer:List Env) (s:Shared) (H:Hp) (args:Args) (us:List Value) (vs:List V) (Q:VK) (E:XK),Room k A->Env0 P w K mg base A outer s H->BindsTo s fd args (ps.zip us)->Vals vs us->sp vs H Q E->
  codeAny (model P w) A (.call (.ref f) args) (CR CX outer P w H s Q E) s
section
variable {X:Cx} {Ab:List (Addr × Obj)} {σ:St} {H:Hp} {s s':Shared}
theorem Inv.env0 (I:Inv X Ab σ H s):Env0 X.prog X.w X.K X.mg X.base X.A X.stack s H:=
 ⟨I.ok.frames,I.ok.mod,I.bs,F6 I.ok.bsz I.sz,I.stack,I.stkFree,I.hok,I.bare⟩
theorem Inv.after {Q:VK} {u:Value} (I:Inv X Ab σ H s) (h:CE X.stack X.prog X.w H s Q u s'):EP X Ab σ Q u s':=by
 obtain ⟨v,H',os,bare,un,hok,r,q⟩:=h;obtain ⟨hh,g,d,t,os'⟩:=s';obtain rfl:os'=s.os:=os;exact ⟨v,H',I.call (h':=hh) (g':=g) (d':=d) (t':=t) (ch:=[]) un hok bare (fun b z=>absurd z (by simp)),r,q⟩
end
def qVB (sp:Sp) (dvs:List V) (E:XK) (t:TA):TE:=fun σ H Q=>t σ H fun vs H1=>sp (vs++dvs) H1 Q E
def Binds (K:PySem.W.Frag) (fd:FuncData) (ps:List Str) (ds:List Value):Prop:=
 ∀ (s:Shared) (us:List Value),K.In s.heap->(us++ds).length=ps.length->BindsTo s fd ⟨us,[]⟩ (ps.zip (us++ds))
theorem Binds.all {K:PySem.W.Frag} {fd:FuncData} {ps:List Str} (h:∀ us:List Value,us.length=ps.length->bindArgs fd ⟨us,[]⟩=pure (ps.zip us)):Binds K fd ps []:=fun s us _ hl=>by
 rw [O7] at hl ⊢;exact .of_eq (h us hl)
def qQN (CX:CXT) (X:Cx) (E:XK):Prop:=∀ (Ab:List (Addr × Obj)) (σ:St) (H:Hp) (s:Shared) (e:Value) (s':Shared),Inv X Ab σ H s->CX X.stack H s E e s'->X.xe e s'
section
variable {X:Cx} {CX:CXT} {k:Nat} {f C:Addr} {fd:FuncData} {ps:List Str} {sp:Sp} {dvs:List V} {ds:List Value} {E:XK} {x m:Str} {p pos apos:Pos} {e o:Expr} {es:List Expr} {ta:TE} {t:TA}
theorem qXN {Ab:List (Addr × Obj)} {σ:St} {H:Hp} {s:Shared} {Q:VK} {us:List Value} {vs:List V} (F:FnOk X.prog X.w X.K X.mg X.base CX k f fd ps sp) (hr:Room k X.A) (hb:Binds X.K fd ps ds) (hd:Vals dvs ds) (hx:qQN CX X E)
  (I:Inv X Ab σ H s) (r:Vals vs us) (h:sp (vs++dvs) H Q E):wpAny (model X.prog X.w) X.A (call (.ref f) us) (EP X Ab σ Q) X.xe s:=by
 have r2:Vals (vs++dvs) (us++ds):=r.append hd;have hl:(us++ds).length=ps.length:=by rw [<- r2.length];exact F.len _ _ _ _ h
 refine wpAny_call (codeAny_mono (F.run X.A X.stack s H ⟨us,[]⟩ (us++ds) (vs++dvs) Q E hr I.env0 (hb s us I.kIn hl) r2 h) fun r s' hq=>?_);cases r with
 | error e=>exact hx Ab σ H s e s' I hq
 | ok fl=>
  cases fl with
  | ret u=>exact I.after hq
  | next=>exact X2 hq
  | brk=>exact X2 hq
  | cont=>exact X2 hq
theorem qSV (F:FnOk X.prog X.w X.K X.mg X.base CX k f fd ps sp) (hr:Room k X.A) (hg:Gl X x) (hm:X.mg x=some (.ref f)) (hk:O5 X.K (.ref f)=true) (hb:Binds X.K fd ps ds) (hd:Vals dvs ds) (hx:qQN CX X E)
  (ha:PA X (e::es) t) (hdb:(x == ("__debug__" : Str))=false:=by decide) (he:starEach (e::es) X.env=(false,eval e X.env)::starEach es X.env:=by rfl) (hpl:(backTo pos (starEach es X.env)).any (·.1)=false:=by rfl) :
  PE X (.Call (.Name x p) (e::es) [] pos) (qVB sp dvs E t):=by
 intro Ab s σ H Q I h;refine wpAny_Call_Name_kw (qTH I hg hm ?_ hdb);refine PySem.W.callWith_K (h₀:=X.base) I.ok.mod.kin hk (thn (ha pos Ab s σ H _ I h) fun us s1 ⟨vs,H1,I1,r,q⟩=>⟨I1.kIn,?_⟩) he hpl;exact qXN F hr hb hd hx I1 r q
theorem qW2 (F:FnOk X.prog X.w X.K X.mg X.base CX k f fd ps sp) (hr:Room k X.A) (hg:Gl X x) (hm:X.mg x=some (.ref f)) (hk:O5 X.K (.ref f)=true) (hb:Binds X.K fd ps ds) (hd:Vals dvs ds) (hx:qQN CX X E)
  (hdb:(x == ("__debug__" : Str))=false:=by decide):PE X (.Call (.Name x p) [] [] pos) (qVB sp dvs E tNil):=by
 intro Ab s σ H Q I h;refine wpAny_Call_Name_kw (qTH I hg hm ?_ hdb);exact PySem.W.callWith_K0 I.kIn hk (qXN (us:=[]) F hr hb hd hx I .nil h)
structure Mk (K:PySem.W.Frag) (C f:Addr):Prop where
 makes:PySem.W.makesIn K C=true
 init:P9 K (.ref C) "__init__" = some (some (.ref f))
 fn:A78 K (.ref f)=true
 kp:O5 K (.ref C)=true
end
section
variable {X:Cx} {CX:CXT} {k:Nat} {f C:Addr} {fd:FuncData} {ps ks:List Str} {sp:Sp} {E:XK} {x m:Str} {p pos apos kpos:Pos} {e o:Expr} {es:List Expr} {kws:List Keyword} {te ta:TE} {t tk:TA} {nm:Option Str}
structure KBinds (K:PySem.W.Frag) (fd:FuncData) (ps ks:List Str) (g:List Value->List Value->List Value) (gV:List V->List V->List V):Prop where
 to:∀ (s:Shared) (us ws:List Value),K.In s.heap->(g us ws).length=ps.length->BindsTo s fd ⟨us,ks.zip ws⟩ (ps.zip (g us ws))
 rel:∀ {vs:List V} {us:List Value} {zs:List V} {ws:List Value},Vals vs us->Vals zs ws->Vals (gV vs zs) (g us ws)
variable {g:List Value->List Value->List Value} {gV:List V->List V->List V}
end
structure FnScope (N P:List Str) (sc:Scope):Prop where
 kind:sc.kind=.function
 co:sc.isCoroutine=false
 gen:sc.isGenerator=false
 nd:N.Nodup
 pre:N.take P.length=P
 par:∀ x ∈ P,sc.names.lookup x=some .local\/sc.names.lookup x=some .cell
 nofree:∀ y ∈ sc.names,y.2 ≠ .free
theorem qO6 {kindOf:Str->Option NameKind} {x:Str}:∀ {binds:List (Str × Value)} {m:Str->Option Value},(∀ v,(x,v) ∉ binds)->bindL kindOf binds m x=m x
 | [],_,_=>rfl
 | (n,v)::r,m,h=>by
  unfold bindL;rw [qO6 fun w hw=>h w (A7 _ hw)]
  split
  ·have:x ≠ n:=by rintro rfl;exact h v C0
   simp [this]
  ·rfl
theorem qO8 {kindOf:Str->Option NameKind} {x:Str}:∀ {binds:List (Str × Value)} {m:Str->Option Value},(∀ v,(x,v) ∉ binds)->bindC kindOf binds m x=m x
 | [],_,_=>rfl
 | (n,v)::r,m,h=>by
  unfold bindC;rw [qO8 fun w hw=>h w (A7 _ hw)]
  split
  ·rfl
  ·have:x ≠ n:=by rintro rfl;exact h v C0
   simp [this]
theorem qO7 {kindOf:Str->Option NameKind} {x:Str} {v:Value}:∀ {P:List Str} {vs:List Value} {i:Nat} {m:Str->Option Value},P.Nodup->P[i]?=some x->vs[i]?=some v->kindOf x=some .local->
  bindL kindOf (P.zip vs) m x=some v
 | [],_,_,_,_,h,_,_=>by simp at h
 | _::_,[],_,_,_,_,h,_=>by simp at h
 | p::P,w::vs,0,m,nd,h1,h2,hk=>by
  simp at h1 h2;subst h1;subst h2;show bindL kindOf ((p,w)::P.zip vs) m p=_;unfold bindL;rw [qO6 fun v hv=>(Q4.mp nd).1 (y7 hv).1,if_pos hk];simp
 | p::P,w::vs,i+1,m,nd,h1,h2,hk=>by
  show bindL kindOf ((p,w)::P.zip vs) m x=_;unfold bindL;exact qO7 (i:=i) (Q4.mp nd).2 (by simpa using h1) (by simpa using h2) hk
theorem qO9 {kindOf:Str->Option NameKind} {x:Str} {v:Value}:∀ {P:List Str} {vs:List Value} {i:Nat} {m:Str->Option Value},P.Nodup->P[i]?=some x->vs[i]?=some v->kindOf x ≠ some .local->
  bindC kindOf (P.zip vs) m x=some v
 | [],_,_,_,_,h,_,_=>by simp at h
 | _::_,[],_,_,_,_,h,_=>by simp at h
 | p::P,w::vs,0,m,nd,h1,h2,hk=>by
  simp at h1 h2;subst h1;subst h2;show bindC kindOf ((p,w)::P.zip vs) m p=_;unfold bindC;rw [qO8 fun v hv=>(Q4.mp nd).1 (y7 hv).1,if_neg hk];simp
 | p::P,w::vs,i+1,m,nd,h1,h2,hk=>by
  show bindC kindOf ((p,w)::P.zip vs) m x=_;unfold bindC;exact qO9 (i:=i) (Q4.mp nd).2 (by simpa using h1) (by simpa using h2) hk
def qJD (N:List Str) (vs:List V):St:=vs.map some++E9 (N.length - vs.length) none
def cxOf (CX:CXT) (P:Program) (w:World) (K:PySem.W.Frag) (mg:Str->Option Value) (base:Heap) (N:List Str) (qual:Str) (scope:Scope) (f:Addr) (cd:Value) (A:Around) (outer:List Env) (s:Shared) (H:Hp) (E:XK):Cx where
 prog:=P
 w:=w
 K:=K
 mg:=mg
 base:=base
 A:=A.deeper (envOfC qual scope s.heap.objs.size f cd)
 N:=N
 s₀:=s
 H₀:=H
 env:=envOfC qual scope s.heap.objs.size f cd
 outer:=outer
 stack:=envOfC qual scope s.heap.objs.size f cd::outer
 ex:=[]
 calm:=true
 fn:=fun _=>true
 pn:=[]
 xe:=fun e s'=>wpAny (model P w) (A.deeper (envOfC qual scope s.heap.objs.size f cd)) (leaving (envOfC qual scope s.heap.objs.size f cd) e) (fun _ s''=>CX outer H s E e s'') (fun e' s''=>CX outer H s E e' s'') s'
theorem qQJ {sc:Scope} {n:Nat} {x:Str} (h:sc.names.lookup x=some .cell):∃ c,(cellsFrom n sc.names []).lookup x=some c:=by
 have q:=Z8 sc.names n [] (.inl h);exact V4.mp q
theorem qTR {CX:CXT} {P:Program} {w:World} {K:PySem.W.Frag} {mg:Str->Option Value} {base:Heap} {N ps:List Str} {qual:Str} {scope:Scope} {f:Addr} {cd:Value} {A:Around} {outer:List Env} {s s1:Shared} {H:Hp} {E:XK} {us:List Value} {vs:List V}
  (S:FnScope N ps scope) (hd:A.handled=none) (e0:Env0 P w K mg base A outer s H) (hl:vs.length=ps.length) (r:Vals vs us)
  (x:InCallC s s.heap.objs.size (bindL (envOfC qual scope s.heap.objs.size f cd).kindOf (ps.zip us) fun _=>none) (cellsFrom (s.heap.objs.size+1) scope.names []) (bindC (envOfC qual scope s.heap.objs.size f cd).kindOf (ps.zip us) fun _=>none) s1) :
  Inv (cxOf CX P w K mg base N qual scope f cd A outer s H E) [] (qJD N vs) H s1:=by
 have hpl:ps.length<=N.length:=by have:=congrArg List.length S.pre;rw [C1] at this;omega
 obtain ⟨h1,tk,rfl,hk⟩:=x.done;have noA:∀ b:Addr,b ∉ (cxOf CX P w K mg base N qual scope f cd A outer s H E).ex:=fun b z=>absurd (show b ∈ ([]:List Addr) from z) (by simp)
 refine ⟨⟨e0.mod,S.kind,rfl,rfl,A5 _,fun y z c h1 h2=>?_,fun y hy=>?_,fun y c _ h=>?_,fun _=>hd,Around.frames_deeper e0.frames,.inr ⟨rfl,rfl⟩,fun b z=>absurd z (noA b),e0.bs,e0.bsz,fun b _ _=>noA b,fun b z=>absurd z (noA b),e0.funs,e0.frf⟩,
  rfl,e0.bare,Un.kept hk,⟨_,x.toInCall.ns,fun i y v h1 h2 h3=>?_⟩,fun y c h=>⟨_,x.cell y c h⟩,e0.hok.fresh (A5 _),fun y c h=>?_,fun p hp=>absurd (show p ∈ ([]:List (Addr × Obj)) from hp) (by simp),e0.hok.kept hk,?_⟩
 ·exact name_of_addr x.apart (G7 h1) (G7 h2)
 ·have hy:scope.names.lookup y=some .cell\/scope.names.lookup y=some .free:=hy;rcases hy with hy | hy
  ·exact qQJ hy
  ·exact absurd rfl (S.nofree _ (G7 hy))
 ·exact R4 (x.above y c (G7 h))
 ·have hi:i<vs.length:=by
   unfold qJD at h2;by_cases hi:i<vs.length
   ·exact hi
   ·rw [L4 (by simpa using hi)] at h2
    rw [List.getElem?_replicate] at h2
    split at h2 <;> cases h2
  have ha:vs[i]?=some v:=by
   unfold qJD at h2;rw [Q0 (by simpa using hi),B5] at h2
   cases e:vs[i]? with
   | none=>rw [e] at h2;cases h2
   | some a=>rw [e] at h2;cases h2;rfl
  obtain ⟨u,hu,rv⟩:=r.get ha;have hp:ps[i]?=some y:=by
   rw [<- S.pre,Q7 (by omega)];exact h1
  have ndP:ps.Nodup:=by rw [<- S.pre];exact S.nd.sublist (n9 _ _)
  refine ⟨u,rv,?_⟩;rcases S.par y (B4 hp) with k | k
  ·exact .inl ⟨k,qO7 ndP hp hu k⟩
  ·obtain ⟨c,e⟩:=qQJ (n:=s.heap.objs.size+1) k;refine .inr ⟨.inl k,c,e,?_⟩;have q:=x.cell y c e;rw [qO9 ndP hp hu (by show scope.names.lookup y ≠ _;rw [k];decide)] at q
   exact q
 ·exact e0.hok.fresh (R4 (x.above y c (G7 h)))
 ·unfold qJD;show _=N.length;rw [A4,A0,W5];omega
theorem qd7 {CX:CXT} {P:Program} {w:World} {K:PySem.W.Frag} {mg:Str->Option Value} {base:Heap} {k:Nat} {f:Addr} {name qual:Str} {params:Arguments} {body:List Stmt} {scope:Scope} {dV kV doc pm cdv ct oc:Value} {an od:Option Addr}
  {osl:Array (Option Value)} {N ps:List Str} {sp:Sp} (lk:K.lookup f=some ⟨oc,od,.func (W6 name qual params body scope dV kV doc pm an cdv ct),osl⟩) (hcd:l9 K cdv qual=true) (S:FnScope N ps scope)
  (len:∀ vs H Q E,sp vs H Q E->vs.length=ps.length)
  (hbody:∀ (A:Around) (outer:List Env) (s:Shared) (H:Hp) (vs:List V) (Q:VK) (E:XK),Room k (A.deeper (envOfC qual scope s.heap.objs.size f cdv))->sp vs H Q E->
   ∃ t,PSs (cxOf CX P w K mg base N qual scope f cdv A outer s H E) body t/\t { nx:=fun _ H'=>Q .non H',rt:=Q } (qJD N vs) H) :
  FnOk P w K mg base CX (k+1) f (W6 name qual params body scope dV kV doc pm an cdv ct) ps sp:=by
 refine ⟨len,fun A outer s H args us vs Q E hr e0 hb r hsp=>?_⟩;have hl:=len _ _ _ _ hsp;have KX:K.In s.heap:=e0.mod.kin.keeps fun b o e=>(e0.bs b o e).1;have lim:s.heap.NoLimit:=e0.mod.nolimit.keeps fun b o e=>(e0.bs b o e).1;have hkind:∀ y ∈ ps.zip us,scope.names.lookup y.1=some .local\/(scope.names.lookup y.1=some .cell/\((cellsFrom (s.heap.objs.size+1) scope.names []).lookup y.1).isSome=true):=fun ⟨n,v⟩ hy=>by
  rcases S.par n (y7 hy).1 with q | q
  ·exact .inl q
  ·exact .inr ⟨q,Z8 _ _ _ (.inl q)⟩
 refine codeAny_call_function hr.depth (KX _ _ lk) rfl S.co S.gen rfl (PySem.W.codeRec_of KX hcd) (hb _ _ _ _ ?_);refine wpAny_newFunctionEnv_cells S.kind hkind fun env he s1 x=>?_;subst he;refine ⟨lim.keeps x.toInCall.keep,codeAny_func ?_⟩;obtain ⟨t,ht,hq⟩:=hbody A outer s H vs Q E (hr.deeper _) hsp;have I:Inv (cxOf CX P w K mg base N qual scope f cdv A outer s H E) [] (qJD N vs) H s1:=qTR S hr.hd e0 hl r x;refine wpAny_mono (ht [] s1 (qJD N vs) H _ I hq) (fun fl s' hs=>?_) fun e s' hs=>hs;have fin:∀ {σ':St} {H':Hp} {v:V} {u:Value},Inv (cxOf CX P w K mg base N qual scope f cdv A outer s H E) [] σ' H' s'->RelV v u->Q v H'->CE outer P w H s Q u s':=
  fun {σ' H' v u} J rv q=>⟨v,H',J.os,J.bare,J.base,J.hok,rv,q⟩
 cases fl with
 | ret u=>
  obtain ⟨v,σ',H',J,rv,q⟩:=hs;exact fin J rv q
 | next=>
  obtain ⟨σ',H',J,q⟩:=hs;exact fin (v:=V.non) (u:=W2) J rfl q
 | brk=>
  obtain ⟨_,_,_,q⟩:=hs;exact X2 q
 | cont=>
  obtain ⟨_,_,_,q⟩:=hs;exact X2 q
section
variable {X:Cx} {x:Str} {p pos:Pos} {e:Expr} {es:List Expr} {t:TA} {id T:String} {r:List V->Hp->VK->Prop}
def tCB (r:List V->Hp->VK->Prop) (t:TA):TE:=fun σ H Q=>t σ H fun vs H1=>r vs H1 Q
theorem qA9 (hc:qDD X (.builtin id) r) (hg:Gl X x) (hm:X.mg x=none) (hv:bootBuiltins x=some (.builtin id)) (ha:PA X (e::es) t) (hn:x ≠ "__name__":=by decide) (hdb:(x == ("__debug__" : Str))=false:=by decide)
  (he:starEach (e::es) X.env=(false,eval e X.env)::starEach es X.env:=by rfl) (hpl:(backTo pos (starEach es X.env)).any (·.1)=false:=by rfl):PE X (.Call (.Name x p) (e::es) [] pos) (tCB r t):=by
 intro Ab s σ H Q I h;refine wpAny_Call_Name_kw (qH1 I hg hm hv ?_ hn hdb);exact PyProof.Rows.callWith_builtin1 (thn (ha pos Ab s σ H _ I h) fun us s1 ⟨vs,H1,I1,r1,q1⟩=>hc Ab s1 σ H1 vs us Q I1 r1 q1) he hpl
theorem qAS (hc:qDD X (.type T) r) (hg:Gl X x) (hm:X.mg x=none) (hv:bootBuiltins x=some (.type T)) (ha:PA X (e::es) t) (hn:x ≠ "__name__":=by decide) (hdb:(x == ("__debug__" : Str))=false:=by decide)
  (he:starEach (e::es) X.env=(false,eval e X.env)::starEach es X.env:=by rfl) (hpl:(backTo pos (starEach es X.env)).any (·.1)=false:=by rfl):PE X (.Call (.Name x p) (e::es) [] pos) (tCB r t):=by
 intro Ab s σ H Q I h;refine wpAny_Call_Name_kw (qH1 I hg hm hv ?_ hn hdb);exact J3 (thn (ha pos Ab s σ H _ I h) fun us s1 ⟨vs,H1,I1,r1,q1⟩=>hc Ab s1 σ H1 vs us Q I1 r1 q1) he hpl
end
end L2
namespace HT
open PySem PyProof.Rows
def lexLt:List Int->List Int->Bool
 | [],[]=>false
 | [],_::_=>true
 | _::_,[]=>false
 | x::xs,y::ys=>if x=y then lexLt xs ys else decide (x<y)
theorem lexLt_cons (x y:Int) (xs ys:List Int):lexLt (x::xs) (y::ys)=if x=y then lexLt xs ys else decide (x<y):=rfl
theorem qLR:lexLt [] []=false:=rfl
theorem qKG (y:Int) (ys:List Int):lexLt [] (y::ys)=true:=rfl
theorem qKH (x:Int) (xs:List Int):lexLt (x::xs) []=false:=rfl
theorem qWX (A:Around) (s:Shared) (a:Int) (t:Tok) (c:Int) (u:Tok):∃ e,SeqAt.EqAt A s (.int a t) (.int c u) e/\(e=true ↔ a=c):=
 ⟨(a == c),j6 a t c u,by simp⟩
theorem qVO (A:Around) (s:Shared) (a:Int) (t:Tok) (c:Int) (u:Tok) (prog:Program) (w:World) (E:Value->Shared->Prop) (Q:Value->Shared->Prop) (h:Q (.bool (decide (a<c))) s) :
  wpAny (model prog w) A (richCompare .Lt (.int a t) (.int c u)) Q E s:=
 (PyProof.Rows.lt_int h:wpAny (model prog w) A (compareOp .Lt (.int a t) (.int c u)) Q E s)
section
open PySem.SeqAt
open PySem.AutoSeq1 (wpAny_loadPart')
open PySem.MeetsSeq PySem.MeetsSeq2 PySem.MeetsSeq3
theorem tuple_lt_ints (l b:Addr) (Ae items2:Array Value) (n n2:Nat) (dd dd2:Option Addr) (sl sl2:Array (Option Value)) (ns ms:List Int) (hi:IntsAre Ae.toList ns) (hj:IntsAre items2.toList ms) :
  Meets (Builtin.«tuple.__lt__» ⟨[.ref l,.ref b],[]⟩)
   (fun _ R s=>s.heap.get? l=some { cls:=.type "tuple",dict:=dd,data:=.seq Ae n,slots:=sl }/\s.heap.get? b=some { cls:=.type "tuple",dict:=dd2,data:=.seq items2 n2,slots:=sl2 }/\
    R (.ok (.ret (.bool (lexLt ns ms)))) s):=
 .of_wp fun prog w A R s h=>by
  obtain ⟨hp,g,d,tk,os⟩:=s;obtain ⟨hl,hb,h⟩:=h;have f2:=AutoSeq1.sub_tuple_tuple;have z1:Ae.size=ns.length:=by rw [<- hi.length];simp
  have z2:items2.size=ms.length:=by rw [<- hj.length];simp
  wp_walk using wpAny_loadPart' hl,wpAny_loadPart' hb,wpAny_forIn_list _ (fun rest b s'=>b.1=none/\s'=⟨hp,g,d,tk,os⟩/\∃ (vs ws:List Value) (ns' ms':List Int),rest=vs.zip ws/\
   IntsAre vs ns'/\IntsAre ws ms'/\ns'.length+items2.size=ms'.length+Ae.size/\R (.ok (.ret (.bool (lexLt ns' ms')))) ⟨hp,g,d,tk,os⟩) _
  case turn=>
   rintro ⟨y,x⟩ rest b s' ⟨hb',rfl,vs,ws,ns',ms',hz,hvi,hwi,hlen,hR⟩;cases hvi with
   | nil=>rw [List.zip_nil_left] at hz;cases hz
   | cons a t hvi'=>
    cases hwi with
    | nil=>rw [List.zip_nil_right] at hz;cases hz
    | cons c u hwi'=>
     rw [j7] at hz
     injection hz with hyx hrest
     injection hyx with hy hx
     subst hy hx;rw [lexLt_cons] at hR;simp only [B3] at hlen;obtain ⟨e,he,hiff⟩:=qWX A.in1 ⟨hp,g,d,tk,os⟩ a t c u;refine wpAny_bind (he prog w _ _ ?_);cases e with
     | true=>
      rw [if_pos (hiff.mp rfl)] at hR
      wp_walk
      exact ⟨rfl,rfl,_,_,_,_,hrest,hvi',hwi',by omega,hR⟩
     | false=>
      rw [if_neg (fun q=>absurd (hiff.mpr q) C2)] at hR;have hri:=qVO A.in1 ⟨hp,g,d,tk,os⟩ a t c u prog w
      wp_walk using hri
      exact ⟨_,rfl,by simpa using hR⟩
  case fin=>
   rintro ⟨b1,b2⟩ s' ⟨hb',rfl,vs,ws,ns',ms',hz,hvi,hwi,hlen,hR⟩;simp only at hb';subst hb';have hv:lexLt ns' ms'=decide (Ae.size<items2.size):=by
    cases hvi with
    | nil=>
     cases hwi with
     | nil=>
      simp only [Q2] at hlen;rw [qLR];exact (decide_eq_false (by omega)).symm
     | cons c u hw=>
      simp only [Q2,B3] at hlen;rw [qKG];exact (decide_eq_true (by omega)).symm
    | cons a t hv=>
     cases hwi with
     | nil=>
      simp only [Q2,B3] at hlen;rw [qKH];exact (decide_eq_false (by omega)).symm
     | cons c u hw=>
      rw [j7] at hz;cases hz
   rw [hv] at hR
   wp_walk
   exact ⟨_,rfl,by simpa [Builtin.Tuple.tupleCompareSizes] using hR⟩
  case h=>
   exact ⟨rfl,rfl,Ae.toList,items2.toList,ns,ms,rfl,hi,hj,by omega,h⟩
end
section
variable {prog:Program} {w:World} {A:Around} {E:Value->Shared->Prop} {s:Shared}
theorem cat_tup {t b:Addr} {vs ws:List Value} {Q:Value->Shared->Prop} (ht:IsTup s.heap t vs.toArray) (hb:IsTup s.heap b ws.toArray) (hv:vs ≠ [])
  (h1:ws=[]->Q (.ref t) s) (h2:ws ≠ []->Q (.ref s.heap.objs.size) { s with heap:=s.heap.push { cls:=.type "tuple",data:=.seq (vs++ws).toArray } })
  (hsz:vs.length+ws.length<=sizeLine):wpAny (model prog w) A (binaryOp .Add (.ref t) (.ref b)) Q E s:=by
 obtain ⟨⟨cls,dd,data,sl⟩,ho,hc,n,hd⟩:=id ht;obtain ⟨⟨cls2,dd2,data2,sl2⟩,ho2,hc2,n2,hd2⟩:=id hb;simp only at hc hd hc2 hd2;subst hc hd hc2 hd2;have e:vs.toArray++ws.toArray=(vs++ws).toArray:=by simp
 by_cases hw:ws=[]
 ·exact concat_meets ⟨_,ho,rfl⟩ ⟨_,ho2,rfl⟩ noFill_tuple_add seq_tuple_add Z9 Y7 (Y3 _ _)
   (tuple_addW1 t b vs.toArray ws.toArray n n2 dd dd2 sl sl2 (by simpa using hv) (by simp [hw])) ⟨ho,ho2,h1 hw⟩
 ·refine concat_meets ⟨_,ho,rfl⟩ ⟨_,ho2,rfl⟩ noFill_tuple_add seq_tuple_add Z9 Y7 (Y3 _ _)
   (tuple_addW2 t b vs.toArray ws.toArray n n2 dd dd2 sl sl2 (by simpa using hv) (by simpa using hw) (by rw [C6,C6];exact hsz)) ⟨ho,ho2,?_⟩
  rw [e];exact h2 hw
def sIx (n d:Nat):Option Int->Nat
 | none=>d
 | some v=>if v<0 then (v+(n:Int)).toNat else min v.toNat n
theorem sIx_none (n d:Nat):sIx n d none=d:=rfl
theorem sIx_nat (n d k:Nat):sIx n d (some (k:Int))=min k n:=by
 show (if (k:Int)<0 then ((k:Int)+(n:Int)).toNat else min (k:Int).toNat n)=min k n
 rw [if_neg (by omega),G3]
theorem qaX (n d:Nat) (hd:d<=n) (o:Option Int):sIx n d o<=n:=by
 cases o with
 | none=>exact hd
 | some v=>
  show (if v<0 then (v+(n:Int)).toNat else min v.toNat n)<=n
  by_cases hv:v<0
  ·rw [if_pos hv];omega
  ·rw [if_neg hv];exact Nat.min_le_right _ _
theorem qUF (v:Int) (n d:Nat):(if v<0 then max (v+(n:Int)) 0 else min v (n:Int))=((sIx n d (some v):Nat):Int):=by
 show (if v<0 then max (v+(n:Int)) 0 else min v (n:Int))=(((if v<0 then (v+(n:Int)).toNat else min v.toNat n):Nat):Int)
 by_cases hv:v<0
 ·simp only [if_pos hv];omega
 ·simp only [if_neg hv];omega
theorem qRQ (lo hi:Option Int) (n:Nat):X6 lo hi 1 (n:Int)=(((sIx n 0 lo:Nat):Int),((sIx n n hi:Nat):Int)):=by
 have h1:¬ ((1:Int)<0):=by omega
 unfold X6;simp only [h1,if_false];refine A84 ?_ ?_
 ·cases lo with
  | none=>rfl
  | some v=>exact qUF v n 0
 ·cases hi with
  | none=>rfl
  | some v=>exact qUF v n n
theorem qR0 (i j:Nat):V0 (i:Int) (j:Int) 1=j - i:=by
 unfold V0;have h1:(1:Int) > 0:=by omega
 simp only [h1,if_true,Int.ediv_one]
 split <;> omega
theorem qKM {v:Value} {o:Option Int} {Q:Option Int->Shared->Prop} (p:IsPart v o) (h:Q o s):wpAny (model prog w) A (Builtin.Slice.slicePartIndex v) Q E s:=by
 cases p with
 | none=>exact slicePart_none h
 | int i t=>exact slicePart_int h
theorem qIF {sl:Addr} {vl vu:Value} {lo hi:Option Int} {n:Nat} {Q:Int × Int × Nat->Shared->Prop} (hs:s.heap.IsSliceOf sl vl vu .none) (pl:IsPart vl lo) (pu:IsPart vu hi)
  (h:Q (((sIx n 0 lo:Nat):Int),1,sIx n n hi - sIx n 0 lo) s):wpAny (model prog w) A (j3 (.ref sl) (pure (n:Int))) Q E s:=by
 obtain ⟨os,hos,hcs,hds⟩:=id hs;unfold j3 Builtin.Slice.sliceFields;refine wpAny_bind (wpAny_bind (wpAny_field hos hds (x:=vl) rfl (wpAny_bind (wpAny_field hos hds (x:=vu) rfl (wpAny_bind (wpAny_field hos hds (x:=.none) rfl (wpAny_pure ?_)))))));refine wpAny_bind (slicePart_none ?_);show wpAny _ _ (if ((1:Int) == 0)=true then _ else _) _ _ s
 rw [if_neg (by decide)]
 refine wpAny_bind (qKM pl (wpAny_bind (qKM pu (wpAny_bind (wpAny_pure ?_)))));show wpAny _ _ (match X6 lo hi 1 (n:Int) with | (lo,hi)=>pure (lo,(1:Int),V0 lo hi 1)) _ _ s
 rw [qRQ lo hi n];show wpAny _ _ (pure (((sIx n 0 lo:Nat):Int),(1:Int),V0 ((sIx n 0 lo:Nat):Int) ((sIx n n hi:Nat):Int) 1)) _ _ s;rw [qR0];exact wpAny_pure h
theorem qVU (xs:Array Value) (i k:Nat):((C8 k).filterMap fun (m:Nat)=>xs[((i:Int)+(m:Int) * 1).toNat]?).toArray=((xs.toList.drop i).take k).toArray:=by
 have e:(fun (m:Nat)=>xs[((i:Int)+(m:Int) * 1).toNat]?)=fun m=>xs[i+m]?:=by
  funext m
  have:((i:Int)+(m:Int) * 1).toNat=i+m:=by omega
  rw [this]
 rw [e];have:=pick_run xs i k;rw [List.filterMap_map] at this;have e2:((fun x=>xs[x]?) ∘ fun x=>i+x)=fun m=>xs[i+m]?:=rfl;rw [e2] at this;rw [this]
theorem getItem_tuple_cut {t sl:Addr} {Ae:Array Value} {vl vu:Value} {lo hi:Option Int} {Q:Value->Shared->Prop} (ht:IsTup s.heap t Ae) (hs:s.heap.IsSliceOf sl vl vu .none) (pl:IsPart vl lo) (pu:IsPart vu hi)
  (hw:¬ (sIx Ae.size 0 lo=0/\sIx Ae.size Ae.size hi=Ae.size))
  (h:Q (.ref s.heap.objs.size) { s with heap:=s.heap.push { cls:=.type "tuple",data:=.seq ((Ae.toList.drop (sIx Ae.size 0 lo)).take (sIx Ae.size Ae.size hi - sIx Ae.size 0 lo)).toArray } })
  (hsz:Ae.size<=sizeLine):wpAny (model prog w) A (getItem (.ref t) (.ref sl)) Q E s:=by
 have htake:sizeOk (.seq ((Ae.toList.drop (sIx Ae.size 0 lo)).take (sIx Ae.size Ae.size hi - sIx Ae.size 0 lo)).toArray):=by
  show ((Ae.toList.drop (sIx Ae.size 0 lo)).take (sIx Ae.size Ae.size hi - sIx Ae.size 0 lo)).toArray.size<=sizeLine;rw [C6,C1,F5,E7];omega
 have hj:sIx Ae.size Ae.size hi<=Ae.size:=qaX _ _ (A5 _) hi;obtain ⟨os,hos,hcs,hds⟩:=id hs;have hTs:s.TypeIs (.ref sl) "slice":=⟨os,hos,hcs⟩;unfold getItem
 try with_reducible refine wpAny_holding ?_
 first | refine wpAny_bind (wpAny_pure ?_) | skip
 refine wpAny_bind (wpAny_sequenceKey ht.typeIs (by decide) ?_)
 refine wpAny_bind (wpAny_callSpecial?_slot (name:=C4 "__getitem__") ht.typeIs V5
  (wpAny_call_entry V5 ht.typeIs entry_tuple_getitem ?_ (args_tuple_getitem _ _)))
 show wpAny _ _ (Builtin.Tuple.tupleItemsOf (.ref t) >>= _) _ _ s;refine wpAny_bind (tupleItemsOf_ ht ?_);refine wpAny_bind (wpAny_typeOf hTs ?_);rw [if_pos (by decide)]
 refine wpAny_bind (qIF hs pl pu ?_);have hno:¬ ((((sIx Ae.size 0 lo:Nat):Int) == 0 && (1:Int) == 1 && (sIx Ae.size Ae.size hi - sIx Ae.size 0 lo) == Ae.size)=true):=by
  intro q;rw [E1,E1] at q;have q1:((sIx Ae.size 0 lo:Nat):Int)=0:=eq_of_beq q.1.1;have q2:sIx Ae.size Ae.size hi - sIx Ae.size 0 lo=Ae.size:=eq_of_beq q.2;exact hw ⟨by omega,by omega⟩
 show wpAny _ _ (if (((sIx Ae.size 0 lo:Nat):Int) == 0 && (1:Int) == 1 && (sIx Ae.size Ae.size hi - sIx Ae.size 0 lo) == Ae.size)=true then _ else _) _ _ s
 rw [if_neg hno,qVU]
 first
  | exact wpAny_bind (m:=O1 _) (wpAny_newObj_type (wpAny_pure ⟨_,rfl,wpAny_pure h⟩) htake)
  | exact wpAny_bind (m:=O1 _) (wpAny_newObj_type (wpAny_bind (wpAny_pure (wpAny_pure ⟨_,rfl,wpAny_pure h⟩))) htake)
  | exact wpAny_bind (wpAny_bind (m:=O1 _) (wpAny_newObj_type (wpAny_pure (wpAny_pure ⟨_,rfl,wpAny_pure h⟩)) htake))
  | exact wpAny_bind (wpAny_bind (m:=O1 _) (wpAny_newObj_type (wpAny_pure ⟨_,rfl,wpAny_pure h⟩) htake))
end
end HT
namespace L2
open PySem PySem.Spec PyProof.Rows
abbrev TO:=St->Hp->(Option Int->Hp->Prop)->Prop
def PO (X:Cx) (e:Option Expr) (t:TO):Prop:=
 ∀ (Ab:List (Addr × Obj)) (s:Shared) (σ:St) (H:Hp) (Q:Option Int->Hp->Prop),Inv X Ab σ H s->t σ H Q->
  wpAny (model X.prog X.w) X.A (evalPart e X.env) (fun u s'=>∃ o H',Inv X Ab σ H' s'/\IsPart u o/\Q o H') X.xe s
def qYL:TO:=fun _ H Q=>Q none H
def qcF (t:TE):TO:=fun σ H Q=>t σ H fun x H1=>∃ i,x=.int i/\Q (some i) H1
theorem qRE {ns:List Int}:∀ {us:List Value},Vals (ns.map V.int) us->IntsAre us ns:=by
 induction ns with
 | nil=>intro us r;rw [j8] at r;cases r;exact .nil
 | cons n ns ih=>
  intro us r;rw [D7] at r;cases r with
  | cons r1 r2=>
   obtain ⟨t,e⟩:=r1;subst e;exact .cons n t (ih r2)
section
variable {X:Cx} {e:Expr} {te:TE} {lo hi:Option Expr} {tl th:TO} {pos p2:Pos}
theorem qJK:PO X none qYL:=by
 intro Ab s σ H Q I h;rw [evalPart_none];exact wpAny_pure ⟨none,H,I,.none,h⟩
theorem qGI (h:PE X e te):PO X (some e) (qcF te):=by
 intro Ab s σ H Q I hw;rw [evalPart_some];refine thn (h Ab s σ H _ I hw) fun u s1 ⟨x,H1,I1,r1,q1⟩=>?_;obtain ⟨i,rfl,q⟩:=q1;obtain ⟨t,rfl⟩:=r1;exact ⟨some i,H1,I1,.int i t,q⟩
def SlR (X:Cx) (r:V->Option Int->Option Int->Hp->VK->Prop):Prop:=
 ∀ (Ab:List (Addr × Obj)) (s:Shared) (σ:St) (H:Hp) (x:V) (v vl vu:Value) (lo hi:Option Int) (sl:Addr) (Q:VK),Inv X Ab σ H s->RelV x v->s.heap.IsSliceOf sl vl vu .none->IsPart vl lo->IsPart vu hi->r x lo hi H Q->
  ∃ T id,typeLookup (.type T) "__getitem__" = pure (some (.builtin id))/\s.TypeIs v T/\wpAny (model X.prog X.w) X.A (getItem v (.ref sl)) (EP X Ab σ Q) X.xe s
def tSl (r:V->Option Int->Option Int->Hp->VK->Prop) (te:TE) (tl th:TO):TE:=fun σ H Q=>te σ H fun x H1=>tl σ H1 fun l H2=>th σ H2 fun u H3=>r x l u H3 Q
theorem qG1 {r:V->Option Int->Option Int->Hp->VK->Prop} (hr:SlR X r) (he:PE X e te) (hl:PO X lo tl) (hu:PO X hi th):PE X (.Subscript e (.Slice lo hi none p2) pos) (tSl r te tl th):=by
 intro Ab s σ H Q I h;refine Subscript_ (thn (he Ab s σ H _ I h) fun v s1 ⟨x,H1,I1,r1,q1⟩=>?_);refine wpAny_Slice (thn (hl Ab s1 σ H1 _ I1 q1) fun vl s2 ⟨l,H2,I2,pl,q2⟩=>thn (hu Ab s2 σ H2 _ I2 q2) fun vu s3 ⟨u,H3,I3,pu,q3⟩=>?_);rw [evalPart_none];refine wpAny_pure ?_;have I4:Inv X Ab σ H3 { s3 with heap:=s3.heap.push { cls:=.type "slice",data:=.fields #[vl,vu,.none] } }:=I3.kept (t':=s3.toks) fun b ob q=>A2 _ q;obtain ⟨T,id,hT,ht,hg⟩:=hr Ab { s3 with heap:=s3.heap.push { cls:=.type "slice",data:=.fields #[vl,vu,.none] } } σ H3 x v vl vu l u s3.heap.objs.size Q I4 r1 (A85 ..) pl pu q3;show wpAny (model X.prog X.w) X.A (subscriptTail e (.Slice lo hi none p2) v (.ref s3.heap.objs.size)) (EP X Ab σ Q) X.xe { s3 with heap:=s3.heap.push { cls:=.type "slice",data:=.fields #[vl,vu,.none] } };exact tail_any (ops:=[.ref s3.heap.objs.size,v]) ht hT hg (by with_unfolding_all rfl)
def cutV (xs:List V) (lo hi:Option Int):List V:=(xs.drop (HT.sIx xs.length 0 lo)).take (HT.sIx xs.length xs.length hi - HT.sIx xs.length 0 lo)
theorem qK0 (xs:List V) (lo hi:Option Int):(cutV xs lo hi).length<=xs.length:=by
 unfold cutV;rw [C1,F5];omega
def rSlT (K:PySem.W.Frag):V->Option Int->Option Int->Hp->VK->Prop:=fun x lo hi H Q=>∃ a xs,x=.ref a/\SqT K H a xs/\
 ¬ (HT.sIx xs.length 0 lo=0/\HT.sIx xs.length xs.length hi=xs.length)/\∀ p,H p=none->Q (.ref p) (Ai H p (.tup (cutV xs lo hi)))
theorem qaS:SlR X (rSlT X.K):=by
 intro Ab s σ H x v vl vu lo hi sl Q I rx hs pl pu h;obtain ⟨a,xs,rfl,hx,hw,q⟩:=h;cases rx;obtain ⟨its,r,ht,hz⟩:=I.tuple hx;have hlen:its.toArray.size=xs.length:=by rw [C6];exact r.length.symm
 refine ⟨"tuple",_,V5.lookup,ht.typeIs,?_⟩;refine HT.getItem_tuple_cut ht hs pl pu (by rw [hlen];exact hw) ?_ (by rw [hlen];exact hz)
 rw [hlen];refine ⟨.ref s.heap.objs.size,_,I.laid (t':=s.toks) (o:=.tup (cutV xs lo hi)) (fun b ob q=>A2 _ q) (A5 _) ?_,rfl,q _ (I.hok.fresh (A5 _))⟩;exact ⟨F6 (qK0 xs lo hi) hz,_,(r.drop (HT.sIx xs.length 0 lo)).take (HT.sIx xs.length xs.length hi - HT.sIx xs.length 0 lo),IsTup.new _ _⟩
def qcR (K:PySem.W.Frag):R2:=fun x y H Q=>∃ a b xs ys,x=.ref a/\y=.ref b/\SqT K H a xs/\SqT K H b ys/\xs ≠ []/\xs.length+ys.length<=sizeLine/\
 (ys=[]->Q (.ref a) H)/\(ys ≠ []->∀ p,H p=none->Q (.ref p) (Ai H p (.tup (xs++ys))))
theorem Vals.nil_iff {xs:List V} {us:List Value} (r:Vals xs us):us=[] ↔ xs=[]:=by
 cases r with
 | nil=>simp
 | cons _ _=>simp
theorem qZ3:OpR X (binaryOp .Add) (qcR X.K):=by
 intro Ab s σ H x y v u Q I rx ry h;obtain ⟨a,b,xs,ys,rfl,rfl,ha,hb,hx,hz,q1,q2⟩:=h;cases rx;cases ry;obtain ⟨its,r1,p1,_⟩:=I.tuple ha;obtain ⟨its2,r2,p2,_⟩:=I.tuple hb;refine HT.cat_tup p1 p2 (fun z=>hx (r1.nil_iff.mp z)) (fun z=>⟨.ref a,H,I,rfl,q1 (r2.nil_iff.mp z)⟩) (fun z=>?_) (by rw [<- r1.length,<- r2.length];exact hz)
 refine ⟨.ref s.heap.objs.size,_,I.laid (t':=s.toks) (o:=.tup (xs++ys)) (fun b ob q=>A2 _ q) (A5 _) ?_,rfl,q2 (fun w=>z (r2.nil_iff.mpr w)) _ (I.hok.fresh (A5 _))⟩;exact ⟨by rw [A4];exact hz,_,r1.append r2,IsTup.new _ _⟩
end
def ixN (n:Nat) (i:Int):Option Nat:=if 0<=i then (if i<n then some i.toNat else none) else if -(n:Int)<=i then some (i+n).toNat else none
def atI {α:Type} (xs:List α) (i:Int):Option α:=(ixN xs.length i).bind fun j=>xs[j]?
theorem qTN {n:Nat} {i:Int} {j:Nat} (h:ixN n i=some j):seqIndex? i n=some j/\j<n/\-(n:Int)<=i/\i<n:=by
 unfold ixN at h;by_cases h0:0<=i
 ·rw [if_pos h0] at h;by_cases h1:i<n
  ·rw [if_pos h1] at h;have e:i.toNat=j:=A8 h;exact ⟨by rw [seqIndex_of h0 h1,e],by omega,by omega,h1⟩
  ·rw [if_neg h1] at h;cases h
 ·rw [if_neg h0] at h;by_cases h1 : -(n:Int)<=i
  ·rw [if_pos h1] at h;have e:(i+n).toNat=j:=A8 h;exact ⟨by rw [seqIndex_neg (by omega) h1,e],by omega,h1,by omega⟩
  ·rw [if_neg h1] at h;cases h
theorem qV2 {α:Type} {xs:List α} {i:Int} {v:α} (h:atI xs i=some v):∃ j,seqIndex? i xs.length=some j/\xs[j]?=some v/\j<xs.length/\-(xs.length:Int)<=i/\i<xs.length:=by
 unfold atI at h;cases e:ixN xs.length i with
 | none=>rw [e] at h;cases h
 | some j=>
  rw [e] at h;obtain ⟨h1,h2,h3,h4⟩:=qTN e;exact ⟨j,h1,h,h2,h3,h4⟩
theorem qV1 {α:Type} {xs:List α} {j:Nat} {v:α} (h:xs[j]?=some v):atI xs (j:Int)=some v:=by
 have hj:j<xs.length:=(A1.mp h).1;have e:ixN xs.length (j:Int)=some j:=by
  unfold ixN;rw [if_pos (by omega),if_pos (by omega)];simp
 unfold atI;rw [e];exact h
theorem qJ1 {α:Type} (xs:List α) (v:α):atI (xs++[v]) (-1)=some v:=by
 have hl:(xs++[v]).length=xs.length+1:=by simp
 have e:ixN (xs++[v]).length (-1)=some xs.length:=by
  unfold ixN;rw [hl,if_neg (by decide),if_pos (by omega)]
  congr 1;omega
 unfold atI;rw [e];show (xs++[v])[xs.length]?=some v;simp
def qa8 (b:Expr):Prop:=∀ o i,subscripted b false o i=operate [o,i] (getItem o i)
def IxR (X:Cx) (r:R2):Prop:=
 ∀ (value slice:Expr) (Ab:List (Addr × Obj)) (s:Shared) (σ:St) (H:Hp) (x y:V) (v u:Value) (Q:VK),Inv X Ab σ H s->RelV x v->RelV y u->r x y H Q->
  subscripted slice false v u=operate [v,u] (getItem v u)->wpAny (model X.prog X.w) X.A (subscriptTail value slice v u) (EP X Ab σ Q) X.xe s
def MtR (X:Cx) (id:String) (r:V->List V->Hp->VK->Prop):Prop:=
 ∀ (Ab:List (Addr × Obj)) (s:Shared) (σ:St) (H:Hp) (x:V) (xs:List V) (v:Value) (us:List Value) (Q:VK),Inv X Ab σ H s->RelV x v->Vals xs us->r x xs H Q->
  wpAny (model X.prog X.w) X.A (call (.builtin id) (v::us)) (EP X Ab σ Q) X.xe s
section
variable {X:Cx} {a b:Expr} {ta tb:TE} {pos:Pos}
theorem qAV {r:R2} (hr:IxR X r) (ha:PE X a ta) (hb:PE X b tb) (hs:qa8 b):PE X (.Subscript a b pos) (tOp r ta tb):=by
 intro Ab s σ H Q I h;exact Subscript_ (binT ha hb I h fun v u s2 x y H2 I2 rx ry q=>hr a b Ab s2 σ H2 x y v u Q I2 rx ry q (hs _ _))
def rIxL (K:PySem.W.Frag):R2:=fun x y H Q=>∃ p xs i v,x=.ref p/\y=.int i/\SqL K H p xs/\atI xs i=some v/\Q v H
def rIxT (K:PySem.W.Frag):R2:=fun x y H Q=>∃ p xs i v,x=.ref p/\y=.int i/\SqT K H p xs/\atI xs i=some v/\Q v H
theorem qC5:IxR X (rIxL X.K):=by
 intro value slice Ab s σ H x y v u Q I rx ry h hs;obtain ⟨p,xs,i,z,rfl,rfl,hq,he,q⟩:=h;cases rx;obtain ⟨t,rfl⟩:=ry;obtain ⟨its,r,pl,hz⟩:=I.list hq;obtain ⟨j,h1,h2,h3,h4,h5⟩:=qV2 he;obtain ⟨w,ew,rw'⟩:=r.get h2;have hl:=r.length;have hn:=qQ5;have fin:EP X Ab σ Q w s:=⟨z,H,I,rw',q⟩;by_cases h0:0<=i
 ·have hj:i.toNat=j:=by
   rw [seqIndex_of h0 h5] at h1;exact A8 h1
  exact item_listR pl.isList h0 (by omega) (by rw [hj];simpa using ew) fin hs
 ·have hj:(i+(its.toArray.size:Int)).toNat=j:=by
   rw [seqIndex_neg (by omega) h4] at h1
   rw [C6,<- hl];exact A8 h1
  exact subscriptTail_builtinR (x:=w) pl.isList.typeIs slot_list_getitem.lookup
   (wpAny_getItem_list_neg (Q:=fun r s'=>r=w/\EP X Ab σ Q r s') pl.isList (by omega) (by rw [C6] <;> omega) (by omega) (by rw [hj];simpa using ew) ⟨rfl,fin⟩) hs
theorem qB0:IxR X (rIxT X.K):=by
 intro value slice Ab s σ H x y v u Q I rx ry h hs;obtain ⟨p,xs,i,z,rfl,rfl,hq,he,q⟩:=h;cases rx;obtain ⟨t,rfl⟩:=ry;obtain ⟨its,r,pl,hz⟩:=I.tuple hq;obtain ⟨j,h1,h2,h3,h4,h5⟩:=qV2 he;obtain ⟨w,ew,rw'⟩:=r.get h2;have hl:=r.length;have hn:=qQ5;have fin:EP X Ab σ Q w s:=⟨z,H,I,rw',q⟩;exact subscriptTail_builtinR (x:=w) pl.typeIs slot_tuple_getitem.lookup
  (getItem_tuple (j:=j) (Q:=fun r s'=>r=w/\EP X Ab σ Q r s') pl (by omega) (by omega) (by rw [C6,<- hl];exact h1) (by simpa using ew) ⟨rfl,fin⟩) hs
theorem qR6 (its:List Value) (n j:Nat) (u:Value):Y4 (·.setIfInBounds j u) { cls:=.type "list",data:=.seq its.toArray n }={ cls:=.type "list",data:=.seq (its.set j u).toArray n }:=by
 simp [Y4]
theorem Inv.lst {Ab:List (Addr × Obj)} {σ:St} {H:Hp} {s:Shared} {p:Addr} {xs:List V} (I:Inv X Ab σ H s) (h:H p=some (.lst xs)) :
  ∃ (its:List Value) (n:Nat),Vals xs its/\s.heap.get? p=some { cls:=.type "list",data:=.seq its.toArray n }/\xs.length<=sizeLine:=by
 obtain ⟨z,its,n,r,e⟩:=I.hok p _ h;exact ⟨its,n,r,e,z⟩
theorem Inv.lstUpd {Ab:List (Addr × Obj)} {σ:St} {H:Hp} {s:Shared} {p:Addr} {xs ys:List V} {its its':List Value} {n n':Nat} {f:Obj->Obj} (I:Inv X Ab σ H s) (h:H p=some (.lst xs))
  (ho:s.heap.get? p=some { cls:=.type "list",data:=.seq its.toArray n }) (hf:f { cls:=.type "list",data:=.seq its.toArray n }={ cls:=.type "list",data:=.seq its'.toArray n' }) (r:Vals ys its') (hz:ys.length<=sizeLine) (t:Nat) :
  Inv X Ab σ (Ai H p (.lst ys)) { s with heap:=s.heap.update p f,toks:=t }:=by
 have e:(s.heap.update p f).get? p=some { cls:=.type "list",data:=.seq its'.toArray n' }:=by
  rw [O2 f ho (by rw [hf] <;> rfl),hf]
 refine I.write (x:=p) (e:=p) (by rw [h];trivial) (.inl rfl) (fun b u hb q=>(G4 _ _ (J2 hb)).trans q) ⟨_,e⟩ ?_
 exact ⟨hz,its',n',r,e⟩
def qcQ:V->V->V->Hp->(Hp->Prop)->Prop:=fun o i v H Q=>∃ p xs k j,o=.ref p/\i=.int k/\H p=some (.lst xs)/\ixN xs.length k=some j/\Q (Ai H p (.lst (xs.set j v)))
theorem qLE:PSet X qcQ:=by
 intro Ab s σ H o i v ov iv u Q I ro ri rv h;obtain ⟨p,xs,k,j,rfl,rfl,hp,hj,q⟩:=h;cases ro;obtain ⟨t,rfl⟩:=ri;obtain ⟨its,n,r,ho,hz⟩:=I.lst hp;obtain ⟨h1,h2,h3,h4⟩:=qTN hj;have hl:=r.length;have hn:=qQ5;have I':Inv X Ab σ (Ai H p (.lst (xs.set j v))) { s with heap:=s.heap.update p (Y4 (·.setIfInBounds j u)) }:=
  I.lstUpd hp ho (qR6 its n j u) (r.set rv j) (by rw [y8];exact hz) s.toks
 by_cases h0:0<=k
 ·have hk:k.toNat=j:=by
   rw [seqIndex_of h0 h4] at h1;exact A8 h1
  exact PySem.W.ki_setAt ho h0 (by omega) (by rw [C6,<- hl];exact h4) (by rw [hk];exact ⟨_,I',q⟩)
 ·have hk:(k+(its.toArray.size:Int)).toNat=j:=by
   rw [seqIndex_neg (by omega) h3] at h1
   rw [C6,<- hl];exact A8 h1
  exact PySem.W.ki_setBack ho (by omega) (by rw [C6,<- hl];exact h3) (by omega) (by rw [hk];exact ⟨_,I',q⟩)
theorem qN5 (lo hi:Option Int) (n:Nat):(sliceBounds lo hi none n).1=((HT.sIx n 0 lo:Nat):Int)/\(sliceBounds lo hi none n).2.1=((HT.sIx n n hi:Nat):Int)/\(sliceBounds lo hi none n).2.2=1:=by
 refine ⟨?_,?_,rfl⟩
 ·cases lo with
  | none=>simp [sliceBounds,HT.sIx]
  | some i=>
   simp only [sliceBounds,HT.sIx,A43,show (1:Int) > 0 by decide,if_true]
   by_cases h:i<0
   ·simp only [h,if_true] <;> omega
   ·simp only [h,if_false] <;> omega
 ·cases hi with
  | none=>simp [sliceBounds,HT.sIx]
  | some i=>
   simp only [sliceBounds,HT.sIx,A43,show (1:Int) > 0 by decide,if_true]
   by_cases h:i<0
   ·simp only [h,if_true] <;> omega
   ·simp only [h,if_false] <;> omega
theorem qLD (its:List Value) (lo hi:Option Int):slicePick its.toArray lo hi none=((its.drop (HT.sIx its.length 0 lo)).take (HT.sIx its.length its.length hi - HT.sIx its.length 0 lo)).toArray:=by
 obtain ⟨h1,h2,h3⟩:=qN5 lo hi its.toArray.size;unfold slicePick;rw [h1,h2,h3];simp only [sliceRange_one,pick_run,C6] <;> rfl
def rSlL (K:PySem.W.Frag):V->Option Int->Option Int->Hp->VK->Prop:=fun x lo hi H Q=>∃ a xs,x=.ref a/\SqL K H a xs/\∀ p,H p=none->Q (.ref p) (Ai H p (.lst (cutV xs lo hi)))
theorem qJG:SlR X (rSlL X.K):=by
 intro Ab s σ H x v vl vu lo hi sl Q I rx hs pl pu h;obtain ⟨a,xs,rfl,hx,q⟩:=h;cases rx;obtain ⟨its,r,ht,hz⟩:=I.list hx;have hlen:=r.length;refine ⟨"list",_,slot_list_getitem.lookup,ht.isList.typeIs,?_⟩;refine wpAny_getItem_list_slice ht.isList hs pl pu .none (by simp) ?_ (by rw [C6] <;> omega)
 rw [qLD,<- hlen];refine ⟨.ref s.heap.objs.size,_,I.laid (t':=s.toks) (o:=.lst (cutV xs lo hi)) (fun b ob q=>A2 _ q) (A5 _) ?_,rfl,q _ (I.hok.fresh (A5 _))⟩;exact ⟨F6 (qK0 xs lo hi) hz,_,0,(r.drop (HT.sIx xs.length 0 lo)).take (HT.sIx xs.length xs.length hi - HT.sIx xs.length 0 lo),B9 _ rfl⟩
def qM3:V->Bool
 | .non=>true
 | .bl _=>true
 | .int _=>true
 | .str _=>true
 | _=>false
def eqV:V->V->Bool
 | .non,.non=>true
 | .bl a,.bl b=>a == b
 | .bl a,.int b=>(if a then 1 else 0) == b
 | .int a,.bl b=>a == (if b then 1 else 0)
 | .int a,.int b=>a == b
 | .str a,.str b=>a == b
 | _,_=>false
theorem qc0 {A:Around} {s:Shared} {y x:V} {u v:Value} (ry:RelV y u) (rx:RelV x v) (fy:qM3 y=true) (fx:qM3 x=true):SeqAt.EqAt A s u v (eqV y x):=by
 cases y with
 | non=>
  cases ry;cases x with
  | non=>cases rx;exact A53 _
  | bl b=>cases rx;exact SeqAt.EqAt.none_bool b
  | int b=>obtain ⟨t,rfl⟩:=rx;exact SeqAt.EqAt.none_int b t
  | str b=>obtain ⟨t,rfl⟩:=rx;exact SeqAt.EqAt.none_str b t
  | _=>exact absurd (show false=true from fx) C2
 | bl a=>
  cases ry;cases x with
  | non=>cases rx;exact SeqAt.EqAt.bool_none a
  | bl b=>cases rx;exact SeqAt.EqAt.bool_bool a b
  | int b=>obtain ⟨t,rfl⟩:=rx;exact SeqAt.EqAt.bool_int a b t
  | str b=>obtain ⟨t,rfl⟩:=rx;exact SeqAt.EqAt.bool_str a b t
  | _=>exact absurd (show false=true from fx) C2
 | int a=>
  obtain ⟨t',rfl⟩:=ry;cases x with
  | non=>cases rx;exact SeqAt.EqAt.int_none a t'
  | bl b=>cases rx;exact SeqAt.EqAt.int_bool a t' b
  | int b=>obtain ⟨t,rfl⟩:=rx;exact j6 a t' b t
  | str b=>obtain ⟨t,rfl⟩:=rx;exact A13 a t' b t
  | _=>exact absurd (show false=true from fx) C2
 | str a=>
  obtain ⟨t',rfl⟩:=ry;cases x with
  | non=>cases rx;exact SeqAt.EqAt.str_none a t'
  | bl b=>cases rx;exact SeqAt.EqAt.str_bool a t' b
  | int b=>obtain ⟨t,rfl⟩:=rx;exact A14 a t' b t
  | str b=>obtain ⟨t,rfl⟩:=rx;exact A17 a t' b t
  | _=>exact absurd (show false=true from fx) C2
 | _=>exact absurd (show false=true from fy) C2
def eqU (x:V) (u:Value):Bool:=match u with
 | .none=>eqV .non x
 | .bool b=>eqV (.bl b) x
 | .int i _=>eqV (.int i) x
 | .str z _=>eqV (.str z) x
 | _=>false
theorem qY5 {x y:V} {u:Value} (r:RelV y u) (f:qM3 y=true):eqU x u=eqV y x:=by
 cases y with
 | non=>cases r;rfl
 | bl b=>cases r;rfl
 | int i=>obtain ⟨t,rfl⟩:=r;rfl
 | str z=>obtain ⟨t,rfl⟩:=r;rfl
 | _=>exact absurd (show false=true from f) C2
theorem qK5 {x:V}:∀ {xs:List V} {us:List Value},Vals xs us->xs.all qM3=true->us.any (eqU x)=xs.any fun y=>eqV y x
 | _,_,.nil,_=>rfl
 | y::xs,u::us,.cons r t,f=>by
  rw [A69,E1] at f;rw [Y8,Y8,qY5 r f.1,qK5 t f.2]
theorem qGY {A:Around} {s:Shared} {x:V} {v:Value} (rx:RelV x v) (fx:qM3 x=true):∀ {xs:List V} {us:List Value},Vals xs us->xs.all qM3=true->∀ u ∈ us,SeqAt.EqAt A s u v (eqU x u)
 | _,_,.nil,_=>fun u hu=>by cases hu
 | y::xs,u::us,.cons r t,f=>fun u' hu=>by
  rw [A69,E1] at f;rcases B7.mp hu with rfl | hu
  ·rw [qY5 r f.1];exact qc0 r rx f.1 fx
  ·exact qGY rx fx t f.2 u' hu
def inV (x:V) (xs:List V):Bool:=xs.any fun y=>eqV y x
def rIn (K:PySem.W.Frag) (neg:Bool):R2:=fun x y H Q=>∃ p xs,y=.ref p/\(SqL K H p xs\/SqT K H p xs)/\qM3 x=true/\xs.all qM3=true/\Q (.bl (if neg then !inV x xs else inV x xs)) H
theorem qEJ:OpR X (compareOp .In) (rIn X.K false):=by
 intro Ab s σ H x y v u Q I rx ry h;obtain ⟨p,xs,rfl,hq,fx,fs,q⟩:=h;cases ry;rcases hq with hq | hq
 ·obtain ⟨its,r,pl,hz⟩:=I.list hq;refine SeqAt.in_listAt (eqU x) pl.isList (fun w hw=>qGY rx fx r fs w (by simpa using hw)) ⟨.bl _,H,I,rfl,?_⟩
  rw [show its.toArray.any (eqU x)=its.any (eqU x) by simp,qK5 r fs]
  exact q
 ·obtain ⟨its,r,pl,hz⟩:=I.tuple hq;refine SeqAt.in_tupleAt (eqU x) pl (fun w hw=>qGY rx fx r fs w (by simpa using hw)) ⟨.bl _,H,I,rfl,?_⟩
  rw [show its.toArray.any (eqU x)=its.any (eqU x) by simp,qK5 r fs]
  exact q
theorem qDV:OpR X (compareOp .NotIn) (rIn X.K true):=by
 intro Ab s σ H x y v u Q I rx ry h;obtain ⟨p,xs,rfl,hq,fx,fs,q⟩:=h;cases ry;rcases hq with hq | hq
 ·obtain ⟨its,r,pl,hz⟩:=I.list hq;refine SeqAt.notIn_listAt (eqU x) pl.isList (fun w hw=>qGY rx fx r fs w (by simpa using hw)) ⟨.bl _,H,I,rfl,?_⟩
  rw [show its.toArray.any (eqU x)=its.any (eqU x) by simp,qK5 r fs]
  exact q
 ·obtain ⟨its,r,pl,hz⟩:=I.tuple hq;refine SeqAt.notIn_tupleAt (eqU x) pl (fun w hw=>qGY rx fx r fs w (by simpa using hw)) ⟨.bl _,H,I,rfl,?_⟩
  rw [show its.toArray.any (eqU x)=its.any (eqU x) by simp,qK5 r fs]
  exact q
theorem qAB:qDD X (.builtin "len") (fun xs H Q=>∃ p ys,xs=[.ref p]/\(SqL X.K H p ys\/SqT X.K H p ys)/\Q (.int ys.length) H):=by
 intro Ab s σ H xs us Q I r h;obtain ⟨p,ys,rfl,hq,q⟩:=h;obtain ⟨u,rfl,rx⟩:=qGH r;cases rx;have hn:=qQ5;rcases hq with hq | hq
 ·obtain ⟨its,r',pl,hz⟩:=I.list hq;have hlen:=r'.length;exact Calls.call_len_list pl.isList (by simp only [C6] <;> omega) ⟨.int ys.length,H,I.tok _,⟨s.toks+1,by rw [C6,hlen]⟩,q⟩
 ·obtain ⟨its,r',pl,hz⟩:=I.tuple hq;have hlen:=r'.length;exact len_tuple pl (by simp only [C6] <;> omega) ⟨.int ys.length,H,I.tok _,⟨s.toks+1,by rw [C6,hlen]⟩,q⟩
theorem qFM:qDD X (.type "list") (fun xs H Q=>∃ p ys,xs=[.ref p]/\(SqL X.K H p ys\/SqT X.K H p ys)/\∀ l,H l=none->Q (.ref l) (Ai H l (.lst ys))):=by
 intro Ab s σ H xs us Q I r h;obtain ⟨p,ys,rfl,hq,q⟩:=h;obtain ⟨u,rfl,rx⟩:=qGH r;cases rx;have fin:∀ (its:List Value),Vals ys its->ys.length<=sizeLine->∀ (h':Heap) (c':Nat),(∀ b o',s.heap.get? b=some o'->h'.get? b=some o')->
   h'.get? s.heap.objs.size=some { cls:=.type "list",dict:=none,data:=.seq its.toArray c',slots:=#[] }->EP X Ab σ Q (.ref s.heap.objs.size) { s with heap:=h' }:=fun its r' hz h' c' kp e=>
  ⟨.ref s.heap.objs.size,_,I.laid (t':=s.toks) kp (A5 _) (show ObjOk X.prog X.w _ h' _ (.lst ys) from ⟨hz,its,c',r',e⟩),rfl,q _ (I.hok.fresh (A5 _))⟩
 rcases hq with hq | hq
 ·obtain ⟨its,r',pl,hz⟩:=I.list hq;have hlen:=r'.length;obtain ⟨o,ho,hc,n,hd⟩:=pl.isList;exact call_list_seq p (.inl rfl) ho hc hd (fun h' c' kp e=>fin its r' hz h' c' kp e) (by simp only [C6] <;> omega)
 ·obtain ⟨its,r',pl,hz⟩:=I.tuple hq;have hlen:=r'.length;obtain ⟨o,ho,hc,n,hd⟩:=pl;exact call_list_seq p (.inr rfl) ho hc hd (fun h' c' kp e=>fin its r' hz h' c' kp e) (by simp only [C6] <;> omega)
theorem qAZ:qDD X (.type "tuple") (fun xs H Q=>∃ p ys,xs=[.ref p]/\((SqL X.K H p ys/\∀ l,H l=none->Q (.ref l) (Ai H l (.tup ys)))\/(SqT X.K H p ys/\Q (.ref p) H))):=by
 intro Ab s σ H xs us Q I r h;obtain ⟨p,ys,rfl,h⟩:=h;obtain ⟨u,rfl,rx⟩:=qGH r;cases rx;rcases h with ⟨hq,q⟩ | ⟨hq,q⟩
 ·obtain ⟨its,r',pl,hz⟩:=I.list hq;have hlen:=r'.length;refine call_tuple_list pl.isList (fun h' kp=>?_) (by simp only [C6] <;> omega)
  have I1:Inv X Ab σ H { s with heap:=h' }:=I.kept (t':=s.toks) kp;have I2:Inv X Ab σ (Ai H h'.objs.size (.tup ys)) { s with heap:=h'.push { cls:=.type "tuple",data:=.seq its.toArray } }:=
   I1.laid (t':=s.toks) (fun b o e=>A2 _ e) (A5 _) (show ObjOk X.prog X.w _ _ _ (.tup ys) from ⟨hz,its,r',IsTup.new _ _⟩)
  exact ⟨.ref h'.objs.size,_,I2,rfl,q _ (I1.hok.fresh (A5 _))⟩
 ·obtain ⟨its,r',pl,hz⟩:=I.tuple hq;exact call_tuple_same pl ⟨.ref p,H,I,rfl,q⟩
def tyV (K:PySem.W.Frag) (T:String) (x:V) (H:Hp):Prop:=match x with
 | .str _=>T = "str"
 | .int _=>T = "int"
 | .ref p=>(T = "list"/\∃ xs,SqL K H p xs)\/(T = "tuple"/\∃ o,K.lookup p=some o/\o.cls=.type "tuple"/\o.dict=none)\/
   (T = "dict"/\((∃ Ah,H p=some (.dK Ah))\/∃ Ah,H p=some (.dT Ah)))\/(T = "set"/\∃ S n,H p=some (.set S n))
 | _=>False
theorem qXH {Ab:List (Addr × Obj)} {σ:St} {H:Hp} {s:Shared} {T:String} {x:V} {v:Value} (I:Inv X Ab σ H s) (r:RelV x v) (ty:tyV X.K T x H) :
  s.TypeIs v T/\∀ a,v=.ref a->∃ ob,s.heap.get? a=some ob/\ob.dict=none:=by
 cases x with
 | str z=>
  obtain ⟨t,rfl⟩:=r;cases (show T = "str" from ty);exact ⟨typeIs_str s z t,fun _ e=>nomatch e⟩
 | int i=>
  obtain ⟨t,rfl⟩:=r;cases (show T = "int" from ty);exact ⟨typeIs_int s i t,fun _ e=>nomatch e⟩
 | ref p=>
  cases r;rcases ty with ⟨rfl,xs,hq⟩ | ⟨rfl,o,hk,hc,hd⟩ | ⟨rfl,hk⟩ | ⟨rfl,S,n,hk⟩
  ·obtain ⟨its,_,pl,_⟩:=I.list hq;refine ⟨pl.isList.typeIs,fun a e=>?_⟩;cases e;obtain ⟨o,n,e,c,hd,_⟩:=pl;exact ⟨o,e,hd⟩
  ·refine ⟨⟨o,I.kIn p o hk,hc⟩,fun a e=>?_⟩;cases e;exact ⟨o,I.kIn _ o hk,hd⟩
  ·have z:∃ o,s.heap.get? p=some o/\o.ExactDict:=by
    rcases hk with ⟨Ah,hk⟩ | ⟨Ah,hk⟩
    ·obtain ⟨_,_,_,_,o,_,_,e,ex,_⟩:=I.hok p _ hk;exact ⟨o,e,ex⟩
    ·obtain ⟨_,_,_,_,o,_,_,e,ex,_⟩:=I.hok p _ hk;exact ⟨o,e,ex⟩
   obtain ⟨o,e,ex⟩:=z;refine ⟨⟨o,e,ex.1⟩,fun a e2=>?_⟩;cases e2;exact ⟨o,e,ex.2.1⟩
  ·obtain ⟨o,_,_,_,e,ex,_⟩:=I.hok p _ hk;refine ⟨⟨o,e,ex.1⟩,fun a e2=>?_⟩;cases e2;exact ⟨o,e,ex.2.1⟩
 | _=>exact X2 ty
def tBM0 (K:PySem.W.Frag) (T:String) (r:V->List V->Hp->VK->Prop) (to:TE):TE:=fun σ H Q=>to σ H fun x H1=>tyV K T x H1/\r x [] H1 Q
def tBM (K:PySem.W.Frag) (T:String) (r:V->List V->Hp->VK->Prop) (to:TE) (t:TA):TE:=fun σ H Q=>to σ H fun x H1=>tyV K T x H1/\t σ H1 fun xs H2=>r x xs H2 Q
variable {o e:Expr} {es:List Expr} {to:TE} {t:TA} {name:Str} {apos cpos:Pos} {T id:String} {r:V->List V->Hp->VK->Prop}
theorem qb8 (pa:PlainAttrs T) (slot:Slot T name id) (hty:typeOf (.builtin id)=pure (.type "method_descriptor")) (hm:MtR X id r) (ho:PE X o to)
  (hbase:attributeBase o name X.env (eval o X.env)=eval o X.env:=by rfl) (hline:(apos.endLine == cpos.line)=true:=by rfl):PE X (.Call (.Attribute o name apos) [] [] cpos) (tBM0 X.K T r to):=by
 intro Ab s σ H Q I h;refine wpAny_Call_method0_late hbase hline (thn (ho Ab s σ H _ I h) fun v s1 ⟨x,H1,I1,r1,ty,q1⟩=>?_);obtain ⟨h1,h2⟩:=qXH I1 r1 ty;exact ⟨T,id,pa,slot,hty,h1,h2,U2 rfl (PySem.evalArgs_none (hm Ab s1 σ H1 x [] v [] Q I1 r1 .nil q1))⟩
theorem qGJ (pa:PlainAttrs T) (slot:Slot T name id) (hty:typeOf (.builtin id)=pure (.type "method_descriptor")) (hm:MtR X id r) (ho:PE X o to) (ha:PA X (e::es) t)
  (hbase:attributeBase o name X.env (eval o X.env)=eval o X.env:=by rfl)
  (hfew:((backTo cpos (starEach (e::es) X.env)).all (fun x=>!x.1) && (backToKw cpos (keywordEach [] X.env)).all (fun x=>x.1.isSome)
   && decide ((e::es).length+([]:List Keyword).length+(if ([]:List Keyword).isEmpty then 0 else 1)<30))=true:=by rfl)
  (hline:(apos.endLine == cpos.line)=true:=by rfl) (hs:starEach (e::es) X.env=(false,eval e X.env)::starEach es X.env:=by rfl) (hplain:(backTo cpos (starEach es X.env)).any (·.1)=false:=by rfl) :
  PE X (.Call (.Attribute o name apos) (e::es) [] cpos) (tBM X.K T r to t):=by
 intro Ab s σ H Q I h;refine wpAny_Call_method_late hbase hfew hline rfl (thn (ho Ab s σ H _ I h) fun v s1 ⟨x,H1,I1,r1,ty,q1⟩=>?_);obtain ⟨h1,h2⟩:=qXH I1 r1 ty;refine ⟨T,id,pa,slot,hty,h1,h2,?_⟩;have hA:=ha cpos Ab s1 σ H1 _ I1 q1;rw [hs] at hA ⊢;refine U2 (by show (false || (backTo cpos (starEach es X.env)).any (·.1))=false;rw [hplain] <;> rfl) (X5 ?_)
 exact thn hA fun us s2 ⟨vs,H2,I2,r2,q2⟩=>hm Ab s2 σ H2 x vs v us Q I2 r1 r2 q2
end
def MtM (X:Cx) (id:String) (r:V->List V->Hp->VK->Prop):Prop:=
 ∀ (Ab:List (Addr × Obj)) (s:Shared) (σ:St) (H:Hp) (x:V) (xs:List V) (v:Value) (us:List Value) (Q:VK),Inv X Ab σ H s->RelV x v->Vals xs us->r x xs H Q->
  wpAny (model X.prog X.w) X.A (call (.builtin id) (v::us)) (EP X Ab σ Q) X.xe s
theorem Vals.one:∀ {x:V} {us:List Value},Vals [x] us->∃ u,us=[u]/\RelV x u
 | _,_,.cons r .nil=>⟨_,rfl,r⟩
theorem Vals.zero:∀ {us:List Value},Vals [] us->us=[]
 | _,.nil=>rfl
theorem Vals.reverse {xs:List V} {us:List Value} (h:Vals xs us):Vals xs.reverse us.reverse:=by
 induction h with
 | nil=>exact .nil
 | cons r t ih=>rw [A29,A29];exact Vals.append ih (.cons r .nil)
theorem Vals.rep {xs:List V} {us:List Value} (h:Vals xs us):∀ k:Nat,Vals (E9 k xs).flatten (E9 k us).flatten
 | 0=>.nil
 | k+1=>by
  rw [P3,P3,O3,O3];exact Vals.append h (Vals.rep h k)
theorem qNR (its:List Value):∀ (k:Nat) (acc:List Value),
  A63 (fun x1 x2=>x1++x2) acc.toArray (E9 k its.toArray)=(acc++(E9 k its).flatten).toArray
 | 0,acc=>by simp
 | k+1,acc=>by
  have e:acc.toArray++its.toArray=(acc++its).toArray:=by simp
  have e2:(acc++its)++(E9 k its).flatten=acc++(E9 (k+1) its).flatten:=by
   rw [P3,O3,G8]
  rw [<- e2,<- qNR its k (acc++its),<- e,P3,Y9]
section
variable {X:Cx} {Ab:List (Addr × Obj)} {σ:St} {H:Hp} {s:Shared} {l b:Addr} {xs ys zs:List V}
theorem Inv.lset {its its':List Value} {n:Nat} {f:Array Value->Array Value} {t':Nat} (I:Inv X Ab σ H s) (hH:H l=some (.lst xs))
  (e:s.heap.get? l=some { cls:=.type "list",data:=.seq its.toArray n }) (hf:f its.toArray=its'.toArray) (hv:Vals ys its') (hz:ys.length<=sizeLine) :
  Inv X Ab σ (Ai H l (.lst ys)) { s with heap:=s.heap.update l (Y4 f),toks:=t' }:=by
 have q:=PySem.IsL.update e f;rw [hf] at q;refine I.write (x:=l) (e:=l) (by rw [hH];exact trivial) (.inl rfl) (fun b' u hb hu=>(G4 s.heap (Y4 f) (J2 hb)).trans hu) ⟨_,q⟩ ?_
 exact ⟨hz,its',_,hv,q⟩
theorem Inv.lnew {its:List Value} {t':Nat} (I:Inv X Ab σ H s) (hv:Vals ys its) (hz:ys.length<=sizeLine) :
  Inv X Ab σ (Ai H s.heap.objs.size (.lst ys)) { s with heap:=s.heap.push { cls:=.type "list",data:=.seq its.toArray },toks:=t' }:=
 I.laid (fun _ _ q=>A2 _ q) (A5 _) ⟨hz,its,0,hv,B9 _ rfl⟩
theorem Inv.fresh (I:Inv X Ab σ H s):H s.heap.objs.size=none:=I.hok.fresh (A5 _)
theorem Inv.lstM (I:Inv X Ab σ H s) (hH:H l=some (.lst xs)):xs.length<=sizeLine/\∃ (its:List Value) (n:Nat),Vals xs its/\xs.length=its.length/\s.heap.get? l=some { cls:=.type "list",data:=.seq its.toArray n }:=by
 obtain ⟨z,its,n,r,e⟩:=I.hok l _ hH;exact ⟨z,its,n,r,r.length,e⟩
theorem qW5 {n:Nat} (h:n<=sizeLine):Y5 n=false:=by
 unfold Y5;exact decide_eq_false (by omega)
end
section
variable {X:Cx}
def qSL:V->List V->Hp->VK->Prop:=fun x vs H Q=>∃ l xs y,x=.ref l/\vs=[y]/\H l=some (.lst xs)/\xs.length<sizeLine/\Q .non (Ai H l (.lst (xs++[y])))
theorem qB6:MtM X "list.append" qSL:=by
 intro Ab s σ H x vs v us Q I rx rv h;obtain ⟨l,xs,y,rfl,rfl,hH,hz,q⟩:=h;cases rx;obtain ⟨u,rfl,ru⟩:=rv.one;obtain ⟨z,its,n,r,hl,e⟩:=I.lstM hH;refine call_meets F.slot_list_append ⟨_,e,rfl⟩ F.entry_list_append (F.args_list_append_2 _ _) (PySem.list_append l its.toArray n u (by rw [C6];omega)) ⟨e,?_⟩
 refine ⟨.non,_,I.lset (its':=its++[u]) hH e (by simp) (r.append (.cons ru .nil)) ?_,rfl,q⟩
 rw [A4,A9];omega
def qVP:V->List V->Hp->VK->Prop:=fun x vs H Q=>∃ l xs,x=.ref l/\vs=[]/\H l=some (.lst xs)/\Q .non (Ai H l (.lst xs.reverse))
theorem qR4:MtM X "list.reverse" qVP:=by
 intro Ab s σ H x vs v us Q I rx rv h;obtain ⟨l,xs,rfl,rfl,hH,q⟩:=h;cases rx;have hus:=rv.zero;subst hus;obtain ⟨z,its,n,r,hl,e⟩:=I.lstM hH;refine call_meets F.slot_list_reverse ⟨_,e,rfl⟩ F.entry_list_reverse (F.args_list_reverse_1 _) (AutoSeq1.list_reverse_list_0 l its.toArray n (by rw [C6];omega)) ⟨e,?_⟩
 refine ⟨.non,_,I.lset (its':=its.reverse) hH e (by simp) r.reverse ?_,rfl,q⟩
 rw [A07];omega
def rCat:R2:=fun x y H Q=>∃ l b xs zs,x=.ref l/\y=.ref b/\H l=some (.lst xs)/\H b=some (.lst zs)/\xs.length+zs.length<=sizeLine/\∀ p,H p=none->Q (.ref p) (Ai H p (.lst (xs++zs)))
theorem qKU:OpR X (binaryOp .Add) rCat:=by
 intro Ab s σ H x y v u Q I rx ry h;obtain ⟨l,b,xs,zs,rfl,rfl,hH,hB,hz,q⟩:=h;cases rx;cases ry;obtain ⟨z,its,n,r,hl,e⟩:=I.lstM hH;obtain ⟨z2,its2,n2,r2,hl2,e2⟩:=I.lstM hB;refine PySem.P.add_list e e2 ?_ (by rw [C6,C6];omega)
 have ea:its.toArray++its2.toArray=(its++its2).toArray:=by simp
 rw [ea];exact ⟨.ref _,_,I.lnew (t':=s.toks) (r.append r2) (by rw [A4];omega),rfl,q _ I.fresh⟩
def rRep:R2:=fun x y H Q=>∃ l k xs,x=.ref l/\y=.int k/\H l=some (.lst xs)/\-(2 ^ 63)<=k/\k<2 ^ 63/\xs.length * k.toNat<=sizeLine/\
 ∀ p,H p=none->Q (.ref p) (Ai H p (.lst (E9 k.toNat xs).flatten))
theorem qZK {α:Type} (xs:List α) (k:Nat):(E9 k xs).flatten.length=k * xs.length:=by
 induction k with
 | zero=>simp
 | succ k ih=>rw [P3,O3,A4,ih,Nat.succ_mul,Nat.add_comm]
theorem qSZ:OpR X (binaryOp .Mult) rRep:=by
 intro Ab s σ H x y v u Q I rx ry h;obtain ⟨l,k,xs,rfl,rfl,hH,h1,h2,hz,q⟩:=h;cases rx;obtain ⟨t,rfl⟩:=ry;obtain ⟨z,its,n,r,hl,e⟩:=I.lstM hH;have hlen:its.toArray.size * k.toNat<=sizeLine:=by rw [C6,<- hl];exact hz
 have hcap:¬ its.toArray.size * k.toNat > (2 ^ 63 - 1) / 8:=by
  have:(sizeLine:Nat)<=(2 ^ 63 - 1) / 8:=by decide
  omega
 have hfit:¬ (!Builtin.List.listFitsIndex k)=true:=by
  rw [fitsIndex_both h1 h2];exact C2
 have hlong:¬ Y5 (its.toArray.size * k.toNat)=true:=by
  rw [qW5 hlen];exact C2
 have hnew:A63 (fun x1 x2=>x1++x2) #[] (E9 (if its.toArray.isEmpty=true then 0 else k.toNat) its.toArray)=(E9 k.toNat its).flatten.toArray:=by
  have f0:∀ m:Nat,A63 (fun x1 x2=>x1++x2) #[] (E9 m its.toArray)=(E9 m its).flatten.toArray:=fun m=>by
   have:=qNR its m [];rw [Z0] at this;exact this
  rw [f0];cases its with
  | nil=>simp
  | cons a r'=>rw [if_neg (by simp)]
 refine wpAny_binaryOp_repeat_ref (T:="list") (U:="int") (by decide) ⟨_,e,rfl⟩ (fun s'=>typeIs_int s' k t) noFill_list_mul F.fills_int_mul F.slot_int_rmul repeat_list F.slot_int_index.lookup
  (call_meets F.slot_int_rmul (typeIs_int s k t) F.entry_int_rmul (F.args_int_rmul_2 _ _) (int___rmul___int_list k t l its.toArray n)
   ⟨e,rfl,⟨_,e,rfl⟩,call_meets F.slot_list_mul ⟨_,e,rfl⟩ F.entry_list_mul (F.args_list_mul_2 _ _) (AutoListH.list___mul___list_int_3 l its.toArray n k t hfit hcap hlong) ⟨e,?_⟩⟩)
 rw [hnew];exact ⟨.ref _,_,I.lnew (t':=s.toks) (r.rep k.toNat) (by rw [qZK,Nat.mul_comm];exact hz),rfl,q _ I.fresh⟩
end
section
variable {prog:Program} {w:World} {A:Around} {E:Value->Shared->Prop} {s:Shared}
set_option maxRecDepth 100000 in
end
section
variable {X:Cx}
end
end L2
namespace Att
open PySem PySem.W PySem.Calls PyProof.Rows
theorem qJW {P:Params} {h:Heap}:∀ (ns:List Int) (vs:List Value),WellAll P h vs (ns.map WData.int)->IntsAre vs ns:=by
 intro ns
 induction ns with
 | nil=>
  intro vs w;rw [j8] at w;cases w;exact .nil
 | cons n ns ih=>
  intro vs w;rw [D7] at w;cases w with
  | cons a b=>
   cases a;exact .cons _ _ (ih _ b)
theorem qSG {l:OpenLaw} {n:Nat} (hn:l.most=some n) {P:Params} {h:Heap} {args:List WData} {vals:List Value}
  (hpre:l.row.toRowW.claim.pre args=true) (hwl:WellAll P h vals args) :
  ∃ a vs ns,vals=[D8 a]/\args=[WData.list (ns.map WData.int)]/\h.get? a=some { cls:=.type "list",data:=.seq vs.toArray }/\IntsAre vs ns/\ns.length<=n:=by
 have hsh:WShape.hasAll [] args [.list .int]=true:=(pre_splitW hpre).1;have hc:l.pre.holds [] { args:=args }=true:=(pre_splitW hpre).2;obtain ⟨d,r,rfl,h1,h2⟩:=hasAllW_cons hsh;obtain rfl:=hasAllW_nil h2;obtain ⟨xs,rfl,h3⟩:=hasW_list h1;obtain ⟨ns,rfl⟩:=items_int h3;have hlen:ns.length<=n:=by
  unfold OpenLaw.pre at hc;have h4:(WTm.not (.lt (.lit (.int (n:Int))) (.len (.arg 0)))).holds [] { args:=[.list (ns.map .int)] }=true:=by
   have h4:=(holds_andW hc).1;rw [hn] at h4;exact h4
  have h5:=condW_of h4 (w_not (w_lt w_lit (w_len_list (w_arg rfl))));rw [A0] at h5;refine W0 fun q=>?_;have q':(n:Int)<((ns.length:Nat):Int):=by omega
  first
   | (rw [decide_eq_true q'] at h5;exact absurd h5 (by decide))
   | (simp at h5;omega)
 cases hwl with
 | cons w1 w2=>
  cases w2;cases w1 with
  | list ho hall=>exact ⟨_,_,ns,rfl,rfl,ho,qJW ns _ hall,hlen⟩
theorem qSQ (l:OpenLaw) (args:List WData):l.row.toRowW.claim.post args (.bool true) args=true:=
 postW_of (r:=l.row.toRowW) (X:=(true == true))
  (show WShape.has [] (.bool true) .bool=true by first | rfl | decide | simp [WShape.has,WShape.arms,WShape.armsAll])
  (show (WTm.eq .res (.lit (.bool true))).value [] { args:=args,res:=some (.bool true),after:=args }=some (.bool (true == true)) from w_eq_bool (w_res rfl) w_lit) rfl
theorem attach_call {l:OpenLaw} {n:Nat} {q:Program} {loose:List Str} {XP:(Str->Option Value)->Heap->Prop} {YP:World->Heap->Prop} {d:DefRec}
  (hn:l.most=some n) (hdf:d.params.defaults=[])
  (call:∀ (w:World) (s₀ s₁:Shared) (mg mb:Str->Option Value) (fa:Addr) (o:Obj) (pm cd doc:Value) (a:Addr) (vs:List Value) (ns:List Int),
   Ground q loose [] XP w s₀ mg mb s₁.heap->YP w s₁.heap->
   s₁.heap.get? fa=some o->o.data=.func (docDef d.name d.params d.body d.scope pm cd doc)->s₁.heap.CodeRec cd d.name->mg d.name=some (.ref fa)->
   s₁.heap.get? a=some { cls:=.type "list",data:=.seq vs.toArray }->IntsAre vs ns->ns.length<=n->s₁.gens=#[]->
   codeAny (model l.prog w) callerA (.call (.ref fa) ⟨[.ref a],[]⟩) (fun r s'=>r=.ok (.ret (.bool true))/\OldK s₁.heap s'.heap/\s'.os=s₁.os/\AllBare s'.gens) s₁) :
  WalkO q loose XP YP l.row.toRowW d [] (fun f vs=>A64 f vs):=by
 intro w s₀ s₁ mg mb G Y fa o pm cd doc dV kV ho hd hcd hD hmg hg args vals as hpre hlay hrd hwl hlo;obtain rfl:dV=.none:=Dflts.none hD hdf;obtain rfl:kV=.none:=Dflts.noKw hD;obtain ⟨a,vs,ns,rfl,rfl,hobj,hints,hlen⟩:=qSG hn hpre hwl;refine enter_call (codeAny_mono (call w s₀ s₁ mg mb fa o pm cd doc a vs ns G Y ho (fd_plain hd) hcd hmg hobj hints hlen hg) fun r s' hq=>?_);obtain ⟨rfl,h2,h3,h4⟩:=hq;exact ⟨.inl ⟨.bool true,.bool true,[],rfl,fun _=>rfl,.bool true,qSQ l _,fun _=>⟨V6,fun _ hm=>(nomatch hm)⟩⟩,h2,h3,h4⟩
section
variable {prog:Program} {w:World} {A:Around} {E:Value->Shared->Prop} {s:Shared} {K:Frag}
end
end Att
namespace L2
open PySem PySem.Spec PyProof.Rows
theorem qJ9:∀ {vs:List Value} {ns:List Int},IntsAre vs ns->Vals (ns.map V.int) vs
 | _,_,.nil=>.nil
 | _,_,.cons n t h=>.cons ⟨t,rfl⟩ (qJ9 h)
def Only (H:Hp):Prop:=∀ b,H b=none\/∃ o xs,H b=some (.frz o (.lst xs))
theorem qWI {P:Program} {w:World} {K:PySem.W.Frag} {mg mb:Str->Option Value} {CX:CXT} {k:Nat} {fa a:Addr} {fd:FuncData} {x:Str} {sp:Sp} {s₁:Shared} {vs:List Value} {ns:List Int}
  (KX:K.In s₁.heap) (hns:s₁.heap.Ns mainGlobals mg) (hb:s₁.heap.Ns builtinsNs mb) (hbb:∀ x:Str,x ≠ "__name__"->mb x=bootBuiltins x) (hlim:s₁.heap.NoLimit) (hg:s₁.gens=#[])
  (ha:s₁.heap.get? a=some { cls:=.type "list",data:=.seq vs.toArray }) (hi:IntsAre vs ns) (hl:ns.length<=sizeLine) (hr:Room k callerA)
  (F:∀ base:Heap,K.In base->base.Ns mainGlobals mg->FnOk P w K mg base CX k fa fd [x] sp) (hbind:∀ (s:Shared) (u:Value),BindsTo s fd ⟨[u],[]⟩ [(x,u)])
  (hsp:∀ H:Hp,Only H->SqL K H a (ns.map V.int)->sp [.ref a] H (fun v _=>v=.bl true) fun _ _ _=>False)
  (hCX:∀ H e s',CX [] H s₁ (fun _ _ _=>False) e s'->False) :
  codeAny (model P w) callerA (.call (.ref fa) ⟨[.ref a],[]⟩) (fun r s'=>r=.ok (.ret (.bool true))/\OldK s₁.heap s'.heap/\s'.os=s₁.os/\AllBare s'.gens) s₁:=by
 have rv:=qJ9 hi;have lenV:=hi.length
 -- from an abstract heap in which nothing but the script may be tracked
 have core:∀ H:Hp,Only H->SqL K H a (ns.map V.int)->HOk P w H s₁.heap->(∀ b,H b ≠ none->b=a)->(H a ≠ none->K.lookup a=none)->
   codeAny (model P w) callerA (.call (.ref fa) ⟨[.ref a],[]⟩) (fun r s'=>r=.ok (.ret (.bool true))/\OldK s₁.heap s'.heap/\s'.os=s₁.os/\AllBare s'.gens) s₁:=by
  intro H hO hS hok hA hK;have base_of:∀ {b:Addr} {o:Obj},s₁.heap.get? b=some o->H b=none->(hidT s₁.heap H).get? b=some o:=fun e n=>qWO e n;have noA:∀ {b:Addr} {o:Obj} {es:Array DictEntry} {ep:Nat},s₁.heap.get? b=some o->o.data=.dict es ep->H b=none:=fun {b o es ep} e d=>by
   cases q:H b with
   | none=>rfl
   | some u=>
    have e':b=a:=hA b (by rw [q];simp)
    subst e';rw [ha] at e;cases e;have d':A86 vs.toArray _=Data.dict es ep:=d;cases d'
  have nsK:∀ {b:Addr} {m:Str->Option Value},s₁.heap.Ns b m->(hidT s₁.heap H).Ns b m:=fun {b m} ⟨o,es,ep,e,d,r⟩=>⟨o,es,ep,base_of e (noA e d),d,r⟩;have hKb:K.In (hidT s₁.heap H):=fun b o e=>base_of (KX b o e) (by
   cases q:H b with
   | none=>rfl
   | some u=>
    have e':b=a:=hA b (by rw [q];simp)
    subst e';rw [hK (by rw [q];simp)] at e;cases e)
  have hM:Mod K mg (hidT s₁.heap H):=⟨hKb,nsK hns,⟨mb,nsK hb,hbb⟩,let ⟨mc,h1,h2⟩:=hlim;⟨mc,nsK h1,h2⟩⟩
  have e0:Env0 P w K mg (hidT s₁.heap H) callerA [] s₁ H:=⟨rfl,hM,fun b o e=>qZ5 e,Nat.le_of_eq (qTU _ _),trivial,fun b hb=>absurd (show b ∈ ([]:List Addr) from hb) (by simp),hok,.of_eq hg⟩
  refine codeAny_mono ((F _ hKb (nsK hns)).run callerA [] s₁ H ⟨[.ref a],[]⟩ [.ref a] [.ref a] _ _ hr e0 (hbind s₁ (.ref a)) (.cons rfl .nil) (hsp H hO hS)) fun r s' h=>?_;cases r with
  | error e=>exact (hCX H e s' h).elim
  | ok fl=>
   cases fl with
   | next=>exact X2 h
   | brk=>exact X2 h
   | cont=>exact X2 h
   | ret u=>
    obtain ⟨v,H',os,bare,un,hok',r',q⟩:=h;have q':v=.bl true:=q;subst q';obtain rfl:u=R5 true:=r';refine ⟨rfl,OldK.of_keep fun b o e=>?_,os,bare⟩;cases q:H b with
    | none=>exact un.keep b o e q (by intro z;exact absurd (show b ∈ ([]:List Addr) from z) (by simp)) (by simp)
    | some u=>
     rcases hO b with z | ⟨ob,xs,z⟩
     ·rw [q] at z;cases z
     ·have z2:=un.frzs b ob _ z;obtain ⟨e1,_⟩:=hok b _ z;obtain ⟨e2,_⟩:=hok' b _ z2;rw [e] at e1;cases e1;exact e2
 cases hk:K.lookup a with
 | some o=>
  -- the script is one of the module's own objects
  have e:=KX a o hk;rw [ha] at e;cases e;refine core (fun _=>none) (fun _=>.inl rfl) (.inr ⟨_,vs.toArray,_,hk,rfl,rfl,rfl,by rw [C6,lenV];exact hl,by simpa using rv⟩) (fun b u z=>by have z':(none:Option HO)=some u:=z;cases z') (fun b z=>absurd rfl z) fun z=>absurd rfl z
 | none=>
  refine core (fun b=>if b=a then some (.frz { cls:=.type "list",data:=.seq vs.toArray } (.lst (ns.map V.int))) else none) (fun b=>?_) (.inl (.inr ⟨{ cls:=.type "list",data:=.seq vs.toArray },if_pos rfl⟩)) (fun b u z=>?_) (fun b z=>?_) fun _=>hk
  ·by_cases hb:b=a
   ·exact .inr ⟨_,_,if_pos hb⟩
   ·exact .inl (if_neg hb)
  ·by_cases hb:b=a
   ·have z':=(if_pos hb).symm.trans z;cases z';subst hb;exact ⟨ha,by rw [A0];exact hl,vs,_,rv,ha⟩
   ·have z':=(if_neg hb).symm.trans z;cases z'
  ·by_cases hb:b=a
   ·exact hb
   ·exact absurd (if_neg hb) z
theorem walk_of {l:PySem.W.OpenLaw} {n k:Nat} {q:Program} {loose:List Str} {XP:(Str->Option Value)->Heap->Prop} {YP:World->Heap->Prop} {d:DefRec} {K:Params->PySem.W.Frag} {CX:World->CXT} {sp:World->Sp} {x:Str}
  (hn:l.most=some n) (hn2:n<=sizeLine) (hdf:d.params.defaults=[]) (hr:Room k callerA)
  (hY:∀ (w:World) (h:Heap),YP w h->(K w.params).In h)
  (F:∀ (w:World) (mg:Str->Option Value) (fa:Addr) (h:Heap),(K w.params).In h->h.Ns mainGlobals mg->mg d.name=some (.ref fa)->
   ∃ fd:FuncData,(∀ (s:Shared) (u:Value),BindsTo s fd ⟨[u],[]⟩ [(x,u)])/\
    ∀ base:Heap,(K w.params).In base->base.Ns mainGlobals mg->FnOk l.prog w (K w.params) mg base (CX w) k fa fd [x] (sp w))
  (hsp:∀ (w:World) (H:Hp) (a:Addr) (ns:List Int),ns.length<=n->Only H->SqL (K w.params) H a (ns.map V.int)->sp w [.ref a] H (fun v _=>v=.bl true) fun _ _ _=>False)
  (hCX:∀ (w:World) (H:Hp) (s:Shared) (e:Value) (s':Shared),CX w [] H s (fun _ _ _=>False) e s'->False) :
  PySem.W.WalkO q loose XP YP l.row.toRowW d [] (fun f vs=>A64 f vs):=by
 refine Att.attach_call hn hdf fun w s₀ s₁ mg mb fa o pm cd doc a vs ns G Y ho hd hcd hmg hobj hints hlen hg=>?_;have KX:=hY w _ Y;obtain ⟨fd,hb,hF⟩:=F w mg fa _ KX G.T.g hmg;exact qWI KX G.T.g G.T.b G.T.builtins G.T.nolimit hg hobj hints (F6 hlen hn2) hr hF hb (fun H hO hS=>hsp w H a ns hlen hO hS) fun H e s'=>hCX w H s₁ e s'
def qHU (s:Stmt):Arguments:=match s with
 | .FunctionDef _ a _ _ _ _ _ _ _ _=>a
 | _=>{ posonlyargs:=[],args:=[],vararg:=none,kwonlyargs:=[],kw_defaults:=[],kwarg:=none,defaults:=[] }
def qEC (s:Stmt):List Stmt:=match s with
 | .FunctionDef _ _ b _ _ _ _ _ _ _=>b
 | _=>[]
def qAH (s:Stmt):Scope:=match s with
 | .FunctionDef _ _ _ _ _ _ sc _ _ _=>sc
 | _=>{ kind:=.function,names:=[],isGenerator:=false,isCoroutine:=false }
abbrev CX0:CXT:=fun _ _ _ _ _ _=>False
abbrev E0:XK:=fun _ _ _=>False
theorem qZ0 {X:Cx}:qQN CX0 X E0:=fun _ _ _ _ _ _ _ h=>h.elim
structure Fun (K:PySem.W.Frag) (x qual:Str) (st:Stmt) (f:Addr) (fd:FuncData):Prop where
 ex:∃ (oc:Value) (od:Option Addr) (kV doc pm:Value) (an:Option Addr) (cdv ct:Value) (osl:Array (Option Value)),
  fd=W6 x qual (qHU st) (qEC st) (qAH st) .none kV doc pm an cdv ct/\K.lookup f=some ⟨oc,od,.func fd,osl⟩/\l9 K cdv qual=true
 kp:O5 K (.ref f)=true
section
variable {P:Program} {w:World} {K:PySem.W.Frag} {mg:Str->Option Value} {base:Heap}
theorem Fun.ok {x qual:Str} {st:Stmt} {f:Addr} {fd:FuncData} {N ps:List Str} {k:Nat} {sp:Sp} (F:Fun K x qual st f fd) (S:FnScope N ps (qAH st)) (len:∀ vs H Q E,sp vs H Q E->vs.length=ps.length)
  (hbody:∀ (cdv:Value) (A:Around) (outer:List Env) (s:Shared) (H:Hp) (vs:List V) (Q:VK) (E:XK),Room k (A.deeper (envOfC qual (qAH st) s.heap.objs.size f cdv))->sp vs H Q E->
   ∃ t,PSs (cxOf CX0 P w K mg base N qual (qAH st) f cdv A outer s H E).nox (qEC st) t/\t { nx:=fun _ H'=>Q .non H',rt:=Q } (qJD N vs) H):FnOk P w K mg base CX0 (k+1) f fd ps sp:=by
 obtain ⟨oc,od,kV,doc,pm,an,cdv,ct,osl,rfl,lk,hcd⟩:=F.ex;refine qd7 lk hcd S len fun A outer s H vs Q E hr hsp=>?_;obtain ⟨t,h,q⟩:=hbody cdv A outer s H vs Q E hr hsp;exact ⟨t,h.nox,q⟩
theorem Fun.binds {x qual:Str} {st:Stmt} {f:Addr} {fd:FuncData} {ps:List Str} (F:Fun K x qual st f fd)
  (h:∀ (kV doc pm:Value) (an:Option Addr) (cdv ct:Value) (us:List Value),us.length=ps.length->bindArgs (W6 x qual (qHU st) (qEC st) (qAH st) .none kV doc pm an cdv ct) ⟨us,[]⟩=pure (ps.zip us)):Binds K fd ps []:=by
 obtain ⟨oc,od,kV,doc,pm,an,cdv,ct,osl,rfl,lk,hcd⟩:=F.ex;exact .all (h kV doc pm an cdv ct)
theorem fun_mk {x qual:Str} {st:Stmt} {f:Addr} {oc:Value} {od an:Option Addr} {osl:Array (Option Value)} {kV doc pm cdv ct:Value} (l:K.lookup f=some ⟨oc,od,.func (W6 x qual (qHU st) (qEC st) (qAH st) .none kV doc pm an cdv ct),osl⟩)
  (c:l9 K cdv qual=true) (k:O5 K (.ref f)=true):Fun K x qual st f (W6 x qual (qHU st) (qEC st) (qAH st) .none kV doc pm an cdv ct):=⟨⟨oc,od,kV,doc,pm,an,cdv,ct,osl,rfl,l,c⟩,k⟩
end
theorem qP1 {A:Around} {k:Nat} (hr:Room k A):A.units+1<cLine:=W4 (Nat.add_le_add_left (by decide:1<=64) _) hr.units
theorem qAQ {n:Nat} (h:n<=1000):n<sizeLine:=W4 h (by decide)
section
variable {X:Cx}
theorem pv (i:Nat) {x:Str} {pos:Pos} (hN:X.N[i]?=some x:=by rfl) (hv:Vis X.env.scope x:=by first | exact C5 rfl | exact X7 (C5 rfl) | exact X7 (X7 rfl)) (hd:(x == ("__debug__" : Str))=false:=by decide)
  (hcd:(x == ("__classdict__" : Str))=false:=by decide):PE X (.Name x pos) (tVar i):=qb5 hN hv hd hcd
end
theorem iteF {A B:Prop} (h:B):if false=true then A else B:=by
 rw [if_neg C2];exact h
theorem iteT {A B:Prop} (h:A):if true=true then A else B:=by
 rw [if_pos rfl];exact h
theorem ite2 {c A B:Prop} [Decidable c] (h1:c->A) (h2:¬ c->B):if c then A else B:=by
 by_cases h:c
 ·rw [if_pos h];exact h1 h
 ·rw [if_neg h];exact h2 h
def Same (H H':Hp):Prop:=∀ b o,H b=some o->H' b=some o
theorem Same.refl (H:Hp):Same H H:=fun _ _ h=>h
theorem Same.trans {H H1 H2:Hp} (a:Same H H1) (b:Same H1 H2):Same H H2:=fun c o h=>b c o (a c o h)
theorem Same.free {H H':Hp} (e:Same H H') {l:Addr} (h:H' l=A83):H l=A83:=by
 cases q:H l with
 | none=>rfl
 | some o=>
  rw [e l o q] at h;cases h
section
variable {κ:Type} [DecidableEq κ]
def valV (Ah:List (κ × V)) (k:κ):Option V:=(Ah.find? fun kv=>decide (kv.1=k)).map (·.2)
def putK (Ah:List (κ × V)) (k:κ) (v:V):List (κ × V):=
 if (Ah.any fun kv=>decide (kv.1=k))=true then Ah.map (fun kv=>if kv.1=k then (kv.1,v) else kv) else Ah++[(k,v)]
def qEB (Ah:List (κ × V)) (k:κ):List (κ × V):=Ah.filter fun kv=>decide (kv.1 ≠ k)
theorem qBU {p:κ × V} {r:List (κ × V)} {k:κ} (e:p.1=k):valV (p::r) k=some p.2:=by simp [valV,W7,e]
theorem qBJ {p:κ × V} {r:List (κ × V)} {k:κ} (e:¬ p.1=k):valV (p::r) k=valV r k:=by simp [valV,W7,e]
theorem qGQ (k:κ):∀ Ah:List (κ × V),(Ah.any fun kv=>decide (kv.1=k))=(valV Ah k).isSome
 | []=>rfl
 | p::r=>by
  rw [Y8];by_cases e:p.1=k
  ·simp only [qBU e,decide_eq_true e,Bool.true_or,A18]
  ·rw [qBJ e,decide_eq_false e,A70];exact qGQ k r
theorem qPL (k j:κ) (y:V):∀ Ah:List (κ × V),valV (Ah.map fun kv=>if kv.1=k then (kv.1,y) else kv) j=(valV Ah j).map fun x=>if j=k then y else x
 | []=>rfl
 | p::r=>by
  have ih:=qPL k j y r;rw [D7];by_cases h:p.1=k
  ·rw [if_pos h];by_cases e:p.1=j
   ·rw [qBU (p:=(p.1,y)) e,qBU e,Q5,if_pos (e.symm.trans h)]
   ·rw [qBJ (p:=(p.1,y)) e,qBJ e,ih]
  ·rw [if_neg h];by_cases e:p.1=j
   ·rw [qBU (p:=p) e,qBU e,Q5,if_neg (fun z=>h (e.trans z))]
   ·rw [qBJ (p:=p) e,qBJ e,ih]
theorem qMZ (k j:κ) (y:V):∀ Ah:List (κ × V),valV Ah k=none->valV (Ah++[(k,y)]) j=if j=k then some y else valV Ah j
 | [],_=>by
  by_cases e:k=j
  ·rw [if_pos e.symm];exact qBU (p:=(k,y)) e
  ·rw [if_neg (fun z=>e z.symm)];exact qBJ (p:=(k,y)) e
 | p::r,hn=>by
  rw [c8];have hk:¬ p.1=k:=fun z=>by rw [qBU z] at hn;cases hn
  rw [qBJ hk] at hn;have ih:=qMZ k j y r hn;by_cases e:p.1=j
  ·rw [qBU e,qBU e,if_neg (fun z=>hk (e.trans z))]
  ·rw [qBJ e,qBJ e,ih]
theorem qD8 (Ah:List (κ × V)) (k j:κ) (y:V):valV (putK Ah k y) j=if j=k then some y else valV Ah j:=by
 unfold putK;by_cases a:(Ah.any fun kv=>decide (kv.1=k))=true
 ·rw [if_pos a,qPL];rw [qGQ] at a;by_cases e:j=k
  ·obtain ⟨x,hx⟩:=V4.mp a;rw [if_pos e,e,hx,Q5,if_pos rfl]
  ·rw [if_neg e];cases valV Ah j with
   | none=>rfl
   | some x=>rw [Q5,if_neg e]
 ·rw [if_neg a];refine qMZ k j y Ah ?_;rw [qGQ] at a;cases q:valV Ah k with
  | none=>rfl
  | some x=>rw [q] at a;exact (a rfl).elim
theorem qBE (Ah:List (κ × V)) (k:κ) (v:V):(putK Ah k v).length<=Ah.length+1:=by
 unfold putK
 split
 ·rw [A0];omega
 ·rw [A4,B3,Q2];omega
theorem qVR {Ah:List (κ × V)} {k:κ} (v:V) (h:valV Ah k=none):putK Ah k v=Ah++[(k,v)]:=by
 unfold putK;rw [qGQ,h];exact if_neg (by decide)
theorem RelO.isSome_eq {o:Option V} {u:Option Value} (r:RelO o u):o.isSome=u.isSome:=by
 cases o with
 | none=>cases u with
  | none=>rfl
  | some _=>exact (show False from r).elim
 | some _=>cases u with
  | none=>exact (show False from r).elim
  | some _=>rfl
theorem RelO.getD {o:Option V} {u:Option Value} {d:V} {d':Value} (r:RelO o u) (rd:RelV d d'):RelV (o.getD d) (u.getD d'):=by
 cases o with
 | none=>cases u with
  | none=>exact rd
  | some _=>exact (show False from r).elim
 | some _=>cases u with
  | none=>exact (show False from r).elim
  | some _=>exact r
theorem KV.val {Ah:List (κ × V)} {vs:List (κ × Value)} (r:KV Ah vs) (k:κ):RelO (valV Ah k) (valueAt vs k):=by
 unfold KV at r
 induction r with
 | nil=>exact R6
 | @cons p q ps qs h t ih=>
  obtain ⟨h1,h2⟩:=h;by_cases e:p.1=k
  ·have e':q.1=k:=h1.symm.trans e;have b:valueAt (q::qs) k=some q.2:=by simp [valueAt,W7,e']
   rw [qBU e,b];exact h2
  ·have e':¬ q.1=k:=fun z=>e (h1.trans z);have b:valueAt (q::qs) k=valueAt qs k:=by simp [valueAt,W7,e']
   rw [qBJ e,b];exact ih
theorem KV.any {Ah:List (κ × V)} {vs:List (κ × Value)} (r:KV Ah vs) (k:κ):(Ah.any fun kv=>decide (kv.1=k))=vs.any fun kv=>decide (kv.1=k):=by
 unfold KV at r
 induction r with
 | nil=>rfl
 | cons h t ih=>rw [Y8,Y8,ih,h.1]
theorem KV.repl {Ah:List (κ × V)} {vs:List (κ × Value)} (r:KV Ah vs) (k:κ) {y:V} {u:Value} (ry:RelV y u) :
  KV (Ah.map fun kv=>if kv.1=k then (kv.1,y) else kv) (vs.map fun kv=>if kv.1=k then (kv.1,u) else kv):=by
 unfold KV at r ⊢
 induction r with
 | nil=>exact .nil
 | @cons p q ps qs h t ih=>
  rw [D7,D7];refine .cons ?_ ih;obtain ⟨h1,h2⟩:=h;by_cases e:p.1=k
  ·rw [if_pos e,if_pos (h1.symm.trans e)];exact ⟨h1,ry⟩
  ·rw [if_neg e,if_neg (fun z=>e (h1.trans z))];exact ⟨h1,h2⟩
theorem KV.put {Ah:List (κ × V)} {vs:List (κ × Value)} (r:KV Ah vs) (k:κ) {y:V} {u:Value} (ry:RelV y u):KV (putK Ah k y) (stored vs k u):=by
 unfold putK stored;rw [r.any k];by_cases e:(vs.any fun kv=>decide (kv.1=k))=true
 ·rw [if_pos e,if_pos e];exact r.repl k ry
 ·rw [if_neg e,if_neg e];exact a9 r ⟨rfl,ry⟩
theorem KV.drop {Ah:List (κ × V)} {vs:List (κ × Value)} (r:KV Ah vs) (k:κ):KV (qEB Ah k) (without vs k):=by
 unfold KV at r ⊢;unfold qEB without
 induction r with
 | nil=>exact .nil
 | @cons p q ps qs h t ih=>
  obtain ⟨h1,h2⟩:=h;rw [L0,L0];by_cases e:p.1=k
  ·have a:¬ decide (p.1 ≠ k)=true:=by simp [e]
   have b:¬ decide (q.1 ≠ k)=true:=by simp [h1.symm.trans e]
   rw [if_neg a,if_neg b];exact ih
  ·have e':¬ q.1=k:=fun z=>e (h1.trans z);have a:decide (p.1 ≠ k)=true:=by simp [e]
   have b:decide (q.1 ≠ k)=true:=by simp [e']
   rw [if_pos a,if_pos b];exact .cons ⟨h1,h2⟩ ih
theorem KV.keys {Ah:List (κ × V)} {vs:List (κ × Value)} (r:KV Ah vs):Ah.map (·.1)=vs.map (·.1):=by
 unfold KV at r
 induction r with
 | nil=>rfl
 | cons h t ih=>rw [D7,D7,ih,h.1]
theorem KV.length {Ah:List (κ × V)} {vs:List (κ × Value)} (r:KV Ah vs):Ah.length=vs.length:=B2 r
theorem qMF (Ah:List (κ × V)) (k:κ):(qEB Ah k).length<=Ah.length:=C7 _ _
end
theorem qM0 {P:Program} {w:World} {k:Key} {u:Value} (r:RelV (kV k) u):(qBP P w).is k u=true:=by
 cases k with
 | inl i=>obtain ⟨t,e⟩:=(show ∃ t,u=Q1 i t from r);subst e;exact qOX P w i t
 | inr x=>obtain ⟨t,e⟩:=(show ∃ t,u=A12 x t from r);subst e;exact qOW P w x t
theorem qNP {P:Program} {w:World}:∀ {ks:List Key} {us:List Value},Vals (ks.map kV) us->ItemsAre (qBP P w) ks us
 | [],_,r=>by rw [j8] at r;cases r;exact .nil
 | k::ks,_,r=>by
  rw [D7] at r;cases r with
  | cons h t=>exact .cons (qM0 h) (qNP t)
abbrev KT (H:Hp):List (List Key × V)->List (List Key × Addr × Value)->Prop:=Paired fun p q=>p.1=q.1/\H q.2.1=some (.tup (p.1.map kV))/\RelV p.2 q.2.2
theorem KT.val {H:Hp} {Ah:List (List Key × V)} {xs:List (List Key × Addr × Value)} (r:KT H Ah xs) (k:List Key):RelO (valV Ah k) ((atKey xs k).map (·.2)):=by
 induction r with
 | nil=>exact R6
 | @cons p q ps qs h t ih=>
  obtain ⟨h1,_,h2⟩:=h;by_cases e:p.1=k
  ·have e':q.1=k:=h1.symm.trans e;have b:atKey (q::qs) k=some q.2:=by simp [atKey,W7,e']
   rw [qBU e,b];exact h2
  ·have e':¬ q.1=k:=fun z=>e (h1.trans z);have b:atKey (q::qs) k=atKey qs k:=by simp [atKey,W7,e']
   rw [qBJ e,b];exact ih
theorem KT.repl {H:Hp} {Ah:List (List Key × V)} {xs:List (List Key × Addr × Value)} (r:KT H Ah xs) (k:List Key) {y:V} {u:Value} (ry:RelV y u) :
  KT H (Ah.map fun kv=>if kv.1=k then (kv.1,y) else kv) (xs.map (putAt k u)):=by
 induction r with
 | nil=>exact .nil
 | @cons p q ps qs h t ih=>
  rw [D7,D7];refine .cons ?_ ih;obtain ⟨h1,h2,h3⟩:=h;unfold putAt;by_cases e:p.1=k
  ·rw [if_pos e,if_pos (h1.symm.trans e)];exact ⟨h1,h2,ry⟩
  ·rw [if_neg e,if_neg (fun z=>e (h1.trans z))];exact ⟨h1,h2,h3⟩
theorem KT.put {H:Hp} {Ah:List (List Key × V)} {xs:List (List Key × Addr × Value)} (r:KT H Ah xs) (k:List Key) {b:Addr} {y:V} {u:Value} (hb:H b=some (.tup (k.map kV))) (ry:RelV y u) :
  KT H (putK Ah k y) (storedH xs k b u):=by
 have e:(Ah.any fun kv=>decide (kv.1=k))=(atKey xs k).isSome:=by
  rw [qGQ,(r.val k).isSome_eq,o5]
 unfold putK storedH;rw [e];by_cases q:(atKey xs k).isSome=true
 ·rw [if_pos q,if_pos q];exact r.repl k ry
 ·rw [if_neg q,if_neg q];exact a9 r ⟨rfl,hb,ry⟩
theorem KT.keeps {H H':Hp} {Ah:List (List Key × V)} {xs:List (List Key × Addr × Value)} (r:KT H Ah xs) (ht:∀ b ys,H b=some (.tup ys)->H' b=some (.tup ys)):KT H' Ah xs:=
 Paired.mapP r fun _ _ z=>⟨z.1,ht _ _ z.2.1,z.2.2⟩
section
variable {P:Program} {w:World} {H:Hp} {h:Heap} {a:Addr}
theorem qaZ {u:HO} (ok:HOk P w H h) (e:Rd H a u):ObjOk P w H h a u:=e.ok ok
theorem qRH {Ah:List (Key × V)} (ok:HOk P w H h) (e:Rd H a (.dK Ah)):Ah.length<=sizeLine/\(a == sysModules)=false/\∃ vs,KV Ah vs/\h.DictOf (qBP P w) a vs:=
 show ObjOk P w H h a (.dK Ah) from qaZ ok e
theorem qRI {Ah:List (Key × V)} (ok:HOk P w H h) (e:H a=some (.dK Ah)):Ah.length<=sizeLine/\(a == sysModules)=false/\∃ vs,KV Ah vs/\h.DictOf (qBP P w) a vs:=qRH ok (.inl e)
theorem qNO {ks:List Key} (ok:HOk P w H h) (e:H a=some (.tup (ks.map kV))):(tupleKind (qBP P w)).is h ks a:=by
 obtain ⟨_,its,r,o,h1,h2,n,h3⟩:=(show ObjOk P w H h a (.tup (ks.map kV)) from ok a _ e);exact ⟨o,its.toArray,n,h1,h2,h3,by simpa using qNP r⟩
theorem qRG {Ah:List (List Key × V)} (ok:HOk P w H h) (e:Rd H a (.dT Ah)):Ah.length<=sizeLine/\(a == sysModules)=false/\
  ∃ xs,KT H Ah xs/\h.DictOfH (tupleKind (qBP P w)) a xs:=by
 obtain ⟨z,y,xs,r,o,es,ep,h1,h2,h3,h4,h5⟩:=(show ObjOk P w H h a (.dT Ah) from qaZ ok e);refine ⟨z,y,xs,r,o,es,ep,h1,h2,h3,h4,fun x hx=>?_,h5⟩;have all:∀ {l:List (List Key × V)} {m:List (List Key × Addr × Value)},KT H l m->∀ x ∈ m,(tupleKind (qBP P w)).is h x.1 x.2.1:=by
  intro l m q
  induction q with
  | nil=>intro x hx;exact nomatch hx
  | @cons p q ps qs hq t ih=>
   intro x hx;rcases B7.mp hx with e | hx
   ·subst e;exact qNO ok (by rw [<- hq.1];exact hq.2.1)
   ·exact ih x hx
 exact all r x hx
theorem qd8 {Ah:List (List Key × V)} (ok:HOk P w H h) (e:H a=some (.dT Ah)):Ah.length<=sizeLine/\(a == sysModules)=false/\
  ∃ xs,KT H Ah xs/\h.DictOfH (tupleKind (qBP P w)) a xs:=qRG ok (.inl e)
end
def DGet (H:Hp) (a:Addr) (y:V) (r:Option V):Prop:=
 (∃ Ah k,Rd H a (.dK Ah)/\y=kV k/\r=valV Ah k)\/∃ Ah k b,Rd H a (.dT Ah)/\y=.ref b/\H b=some (.tup (k.map kV))/\r=valV Ah k
def DPut (H:Hp) (a:Addr) (y v:V) (H':Hp):Prop:=
 (∃ Ah k,H a=some (.dK Ah)/\y=kV k/\Ah.length<sizeLine/\H'=Ai H a (.dK (putK Ah k v)))\/
 ∃ Ah k b,H a=some (.dT Ah)/\y=.ref b/\H b=some (.tup (k.map kV))/\Ah.length<sizeLine/\H'=Ai H a (.dT (putK Ah k v))
theorem DGet.k {H:Hp} {a:Addr} {Ah:List (Key × V)} {k:Key} (e:H a=some (.dK Ah)):DGet H a (kV k) (valV Ah k):=.inl ⟨Ah,k,.inl e,rfl,rfl⟩
theorem DPut.k {H:Hp} {a:Addr} {Ah:List (Key × V)} {k:Key} {v:V} (e:H a=some (.dK Ah)) (hl:Ah.length<sizeLine):DPut H a (kV k) v (Ai H a (.dK (putK Ah k v))):=.inl ⟨Ah,k,e,rfl,hl,rfl⟩
section
variable {X:Cx} {Ab:List (Addr × Obj)} {σ:St} {H:Hp} {s:Shared} {a:Addr} {y v:V} {u r:Value} {o:Option V} {A:Around} {E:Value->Shared->Prop}
theorem Inv.big (I:Inv X Ab σ H s):sysModules<s.heap.objs.size:=by
 have h:mainGlobals<s.heap.objs.size:=(I.mod.glob.keeps I.bk).lt;exact j9 (by decide) h
theorem qUD {Q:Value->Shared->Prop} (hu:A.units+1<cLine) (I:Inv X Ab σ H s) (g:DGet H a y (some v)) (ry:RelV y u) (h:∀ w' s',Inv X Ab σ H s'->RelV v w'->Q w' s') :
  wpAny (model X.prog X.w) A (getItem (.ref a) u) Q E s:=by
 rcases g with ⟨Ah,k,e,ey,l⟩ | ⟨Ah,k,b,e,ey,eb,l⟩
 ·subst ey;obtain ⟨z,hd,vs,rel,dd⟩:=qRH I.hok e;obtain ⟨w',hw,rw'⟩:=RelO.some_of (v:=v) (o:=valueAt vs k) (by rw [l];exact rel.val k)
  exact wpAny_getItem_of (qM0 ry) dd.mapOf hw (h w' _ (I.tok _) rw')
 ·subst ey;cases (show u=D8 b from ry);obtain ⟨z,hd,xs,rel,dd⟩:=qRG I.hok e;obtain ⟨w',hw,rw'⟩:=RelO.some_of (v:=v) (o:=(atKey xs k).map (·.2)) (by rw [l];exact rel.val k)
  obtain ⟨p,hp,hp2⟩:=U3.mp hw;refine wpAny_getItem_heap (tupleKind_room_in1 hu) (qNO I.hok eb) dd hp ?_;rw [hp2];exact h w' _ (I.tok _) rw'
theorem d_in {Q:Value->Shared->Prop} (hu:A.units+1<cLine) (I:Inv X Ab σ H s) (g:DGet H a y o) (ry:RelV y u) (h:∀ s',Inv X Ab σ H s'->Q (.bool o.isSome) s') :
  wpAny (model X.prog X.w) A (compareOp .In u (.ref a)) Q E s:=by
 rcases g with ⟨Ah,k,e,ey,l⟩ | ⟨Ah,k,b,e,ey,eb,l⟩
 ·subst ey;obtain ⟨z,hd,vs,rel,dd⟩:=qRH I.hok e;refine wpAny_in_of (qM0 ry) hd dd.mapOf ?_;rw [<- (rel.val k).isSome_eq,<- l];exact h _ (I.tok _)
 ·subst ey;cases (show u=D8 b from ry);obtain ⟨z,hd,xs,rel,dd⟩:=qRG I.hok e;refine wpAny_in_heap (tupleKind_room_in1 hu) (qNO I.hok eb) hd dd ?_;have q:=(rel.val k).isSome_eq;rw [o5] at q;rw [<- q,<- l];exact h _ (I.tok _)
theorem qHV {h':Heap} {t':Nat} {ob:HO} (I:Inv X Ab σ H s) (mu:Mut (H a)) (hs:Heap.SameBut a s.heap h') (he:∃ q,h'.get? a=some q) (new:ObjOk X.prog X.w (Ai H a ob) h' a ob) :
  Inv X Ab σ (Ai H a ob) { s with heap:=h',toks:=t' }:=
 I.write (x:=a) (e:=a) mu (.inl rfl) (fun b q hb z=>(hs.2 b hb).trans z) he new
theorem qNX {P:Program} {w:World} {H':Hp} {h':Heap} {Ah:List (Key × V)} {vs:List (Key × Value)} (z:Ah.length<=sizeLine) (hd:(a == sysModules)=false) (rel:KV Ah vs) (dd:h'.DictOf (qBP P w) a vs) :
  ObjOk P w H' h' a (.dK Ah):=⟨z,hd,vs,rel,dd⟩
theorem qUC {H':Hp} {Q:Unit->Shared->Prop} (hu:A.units+1<cLine) (I:Inv X Ab σ H s) (g:DPut H a y v H') (ry:RelV y u) (rv:RelV v r) (h:∀ s',Inv X Ab σ H' s'->Q () s') :
  wpAny (model X.prog X.w) A (setItem (.ref a) u r) Q E s:=by
 rcases g with ⟨Ah,k,e,ey,l,eH⟩ | ⟨Ah,k,b,e,ey,eb,l,eH⟩
 ·subst ey eH;obtain ⟨z,hd,vs,rel,dd⟩:=qRI I.hok e;have hz:vs.length<=sizeLine:=by rw [<- rel.length];exact z
  have hl:(putK Ah k v).length<=sizeLine:=by have:=qBE Ah k v;omega
  refine wpAny_setItem_pairs (hsz:=hz) (qM0 ry) dd fun h' dd' hs=>h _ ?_;have he:∃ q,h'.get? a=some q:=let ⟨q,_,_,hq,_⟩:=dd';⟨q,hq⟩
  exact qHV I (by rw [e];exact R6) hs he (qNX hl hd (rel.put k rv) dd')
 ·subst ey eH;cases (show u=D8 b from ry);obtain ⟨z,hd,xs,rel,dd⟩:=qd8 I.hok e;have hz:xs.length<=sizeLine:=by rw [<- B2 rel];exact z
  have hl:(putK Ah k v).length<=sizeLine:=by have:=qBE Ah k v;omega
  refine wpAny_setItem_heap (hsz:=hz) (tupleKind_room_in1 hu) (qNO I.hok eb) dd fun h' dd' hs=>h _ ?_;obtain ⟨q,es,ep,hq,h2,h3,h4,_,h5⟩:=dd';refine qHV I (by rw [e];exact R6) hs ⟨q,hq⟩ ⟨hl,hd,_,(rel.put k eb rv).keeps fun c ys ec=>?_,q,es,ep,hq,h2,h3,h4,h5⟩
  rw [qA8 (qBT ec e (fun z=>nomatch z))];exact ec
end
section
variable {X:Cx} {Ab:List (Addr × Obj)} {σ:St} {H:Hp} {s:Shared} {a:Addr} {Ah:List (Key × V)} {k:Key} {u:Value} {A:Around} {E:Value->Shared->Prop}
theorem qc3 {Q:Unit->Shared->Prop} (I:Inv X Ab σ H s) (e:H a=some (.dK Ah)) (ry:RelV (kV k) u) (l:(valV Ah k).isSome=true) (h:∀ s',Inv X Ab σ (Ai H a (.dK (qEB Ah k))) s'->Q () s') :
  wpAny (model X.prog X.w) A (delItem (.ref a) u) Q E s:=by
 obtain ⟨z,hd,vs,rel,dd⟩:=qRI I.hok e;refine wpAny_delItem_slot dd.typeIs (by decide) m4
  (call_meetsIn m4 dd.typeIs PySem.F.entry_dict_delitem (PySem.F.args_dict_delitem_2 _ _) (meets_dict_delitem_pairs (qBP X.prog X.w) a (qM0 ry)) ⟨vs,dd,by rw [<- rel.length];exact z,by rw [<- (rel.val k).isSome_eq];exact l,fun h' dd' hs=>h _ ?_⟩)
 have he:∃ q,h'.get? a=some q:=let ⟨q,_,_,hq,_⟩:=dd';⟨q,hq⟩
 exact qHV I (by rw [e];exact R6) hs he (qNX (F6 (qMF Ah k) z) hd (rel.drop k) dd')
theorem qd9 {v:V} {more:List Value} {Q:Value->Shared->Prop} (I:Inv X Ab σ H s) (e:H a=some (.dK Ah)) (ry:RelV (kV k) u) (l:valV Ah k=some v) (hm:more=[]\/∃ x,more=[x])
  (h:∀ w' s',Inv X Ab σ (Ai H a (.dK (qEB Ah k))) s'->RelV v w'->Q w' s'):wpAny (model X.prog X.w) A (call (.builtin "dict.pop") (.ref a::u::more)) Q E s:=by
 obtain ⟨z,hd,vs,rel,dd⟩:=qRI I.hok e;obtain ⟨w',hw,rw'⟩:=RelO.some_of (v:=v) (o:=valueAt vs k) (by rw [<- l];exact rel.val k)
 have hp:(keyPart u).isSome=true:=by
  cases k with
  | inl i=>obtain ⟨t,q⟩:=(show ∃ t,u=Q1 i t from ry);subst q;rfl
  | inr x=>obtain ⟨t,q⟩:=(show ∃ t,u=A12 x t from ry);subst q;rfl
 have ha:argsOk "dict.pop" ⟨.ref a::u::more,[]⟩:=by
  rcases hm with q | ⟨x,q⟩
  ·subst q;exact PySem.F.args_dict_pop_2 _ _
  ·subst q;exact PySem.F.args_dict_pop_3 _ _ _
 refine call_meetsIn y9 dd.typeIs PySem.F.entry_dict_pop ha (meets_dict_pop_there (qBP X.prog X.w) a (qM0 ry) more hm hp)
  ⟨vs,w',dd,by rw [<- rel.length];exact z,hw,fun h' dd' hs=>h w' _ ?_ rw'⟩
 have he:∃ q,h'.get? a=some q:=let ⟨q,_,_,hq,_⟩:=dd';⟨q,hq⟩
 exact qHV I (by rw [e];exact R6) hs he (qNX (F6 (qMF Ah k) z) hd (rel.drop k) dd')
end
def NoSl (i:Expr):Prop:=∀ ov iv,subscripted i false ov iv=operate [ov,iv] (getItem ov iv)
theorem qYM {prog:Program} {w:World} {A:Around} {E:Value->Shared->Prop} {s:Shared} {env:Env} {value slice:Expr} {pos:Pos} {T id:String} {Q:Value->Shared->Prop}
  (hl:typeLookup (.type T) "__getitem__" = pure (some (.builtin id))) (hs:NoSl slice)
  (h:wpAny (model prog w) A (eval value env) (fun o s₁=>wpAny (model prog w) A (eval slice env) (fun i s₂=>s₂.TypeIs o T/\wpAny (model prog w) A (getItem o i) Q E s₂) E s₁) E s) :
  wpAny (model prog w) A (eval (.Subscript value slice pos) env) Q E s:=by
 refine Subscript_ (wpAny_mono h (fun o s₁ h₁=>wpAny_mono h₁ (fun i s₂ h₂=>?_) fun _ _ x=>x) fun _ _ x=>x);obtain ⟨hT,h₂⟩:=h₂;unfold subscriptTail;refine wpAny_bind ?_;rw [getitemInPython_of_ne hT.not_modules];refine wpAny_bind (wpAny_specialOf hT hl ?_);have fin:wpAny (model prog w) A (subscripted slice false o i) (fun r s₃=>wpAny (model prog w) A (letTemporaryGo value o r >>= fun _=>pure r) Q E s₃) E s₂:=by
  rw [hs o i];exact wpAny_operating (wpAny_mono h₂ (fun r s₃ h₃=>wpAny_bind (wpAny_letTemporaryGo (wpAny_pure h₃))) fun _ _ x=>x)
 first
  | exact wpAny_pure (wpAny_bind fin)
  | exact wpAny_bind (wpAny_pure (wpAny_bind fin))
  | exact wpAny_bind fin
theorem qP5 {X:Cx} {Ab:List (Addr × Obj)} {σ:St} {H:Hp} {s:Shared} {a:Addr} {y:V} {o:Option V} (I:Inv X Ab σ H s) (g:DGet H a y o):s.TypeIs (.ref a) "dict":=by
 rcases g with ⟨Ah,k,e,_,_⟩ | ⟨Ah,k,b,e,_,_,_⟩
 ·obtain ⟨_,_,vs,_,dd⟩:=qRH I.hok e;exact dd.typeIs
 ·obtain ⟨_,_,xs,_,dd⟩:=qRG I.hok e;exact dd.typeIs
def qcL (td ty:TE):TE:=fun σ H Q=>td σ H fun x H1=>ty σ H1 fun y H2=>∃ a v,x=.ref a/\DGet H2 a y (some v)/\Q v H2
def tDIn (ty td:TE):TE:=fun σ H Q=>ty σ H fun y H1=>td σ H1 fun x H2=>∃ a o,x=.ref a/\DGet H2 a y o/\Q (.bl o.isSome) H2
def qcN (td ty tv:TE):TS:=fun D σ H=>tv σ H fun v H1=>td σ H1 fun x H2=>ty σ H2 fun y H3=>∃ a H4,x=.ref a/\DPut H3 a y v H4/\D.nx σ H4
section
variable {X:Cx} {o i e value:Expr} {pos pos' tpos:Pos} {td ty tv:TE}
theorem qE7 (hu:X.A.units+1<cLine) (ho:PE X o td) (hi:PE X i ty) (hs:NoSl i):PE X (.Subscript o i pos) (qcL td ty):=by
 intro Ab s σ H Q I h;refine qYM PySem.F.slot_dict_getitem.lookup hs (thn (ho Ab s σ H _ I h) fun u s1 ⟨x,H1,I1,rx,q1⟩=>thn (hi Ab s1 σ H1 _ I1 q1) fun iv s2 ⟨y,H2,I2,ry,a,v,ex,g,q2⟩=>?_);subst ex;obtain rfl:u=D8 a:=rx;exact ⟨qP5 I2 g,qUD hu I2 g ry fun w' s3 I3 rw'=>⟨v,H2,I3,rw',q2⟩⟩
theorem qSX (hu:X.A.units+1<cLine) (hi:PE X i ty) (ho:PE X o td):PC X .In i o (tDIn ty td):=by
 intro Ab s σ H Q I h;refine thn (hi Ab s σ H _ I h) fun iv s1 ⟨y,H1,I1,ry,q1⟩=>thn (ho Ab s1 σ H1 _ I1 q1) fun u s2 ⟨x,H2,I2,rx,a,ov,ex,g,q2⟩=>?_;subst ex;obtain rfl:u=D8 a:=rx;exact d_in hu I2 g ry fun s3 I3=>⟨.bl ov.isSome,H2,I3,rfl,q2⟩
theorem qFF (hu:X.A.units+1<cLine) (ho:PE X o td) (hi:PE X i ty) (hv:PE X value tv) (hs:swapsWith value (some (.Subscript o i pos')) pos.line X.env=pure false) :
  PS X (.Assign [.Subscript o i pos'] value pos) (qcN td ty tv):=by
 intro Ab s σ H D I h;refine wpAny_Assign_Subscript (thn (hv Ab s σ H _ I h) fun r s1 ⟨v,H1,I1,rv,q1⟩=>thn (ho Ab s1 σ H1 _ I1 q1) fun u s2 ⟨x,H2,I2,rx,q2⟩=>thn (hi Ab s2 σ H2 _ I2 q2) fun iv s3 ⟨y,H3,I3,ry,a,H4,ex,g,q3⟩=>?_) hs;subst ex;obtain rfl:u=D8 a:=rx;exact qUC hu I3 g ry rv fun s4 I4=>⟨σ,H4,I4,q3⟩
end
theorem qQH {P:Program} {w:World} {H:Hp} (h:Heap) (hb:sysModules<h.objs.size):ObjOk P w H (h.push { cls:=.type "dict",data:=.dict #[] }) h.objs.size (.dK []):=
 ⟨E8 _,beq_eq_false_iff_ne.mpr (J2 (E6 hb)),[],.nil,Heap.DictOf.new h⟩
def qaM:TE:=fun _ H Q=>∀ p,H p=none->Q (.ref p) (Ai H p (.dK []))
section
variable {X:Cx} {pos:Pos}
theorem qG3:PE X (.Dict [] [] pos) qaM:=fun Ab s σ H Q I h=>
 wpAny_Dict_empty ⟨.ref s.heap.objs.size,_,I.laid (a:=s.heap.objs.size) (o:=.dK []) (t':=s.toks) (fun _ _ q=>A2 _ q) (A5 _) (qQH s.heap I.big),rfl,h _ (I.hok.fresh (A5 _))⟩
end
def qS4:List (TE × TE)->St->Hp->(List (V × V)->Hp->Prop)->Prop
 | [],_,H,Q=>Q [] H
 | (tk,tv)::r,σ,H,Q=>tk σ H fun x H1=>tv σ H1 fun y H2=>qS4 r σ H2 fun ps H3=>Q ((x,y)::ps) H3
abbrev VV:List (V × V)->List (Value × Value)->Prop:=Paired fun p q=>RelV p.1 q.1/\RelV p.2 q.2
def PPs (X:Cx) (pos:Pos) (keys:List (Option Expr)) (values:List Expr) (trs:List (TE × TE)):Prop:=
 ∀ (Ab:List (Addr × Obj)) (s:Shared) (σ:St) (H:Hp) (Q:List (V × V)->Hp->Prop),Inv X Ab σ H s->qS4 trs σ H Q->
  wpAny (model X.prog X.w) X.A (evalPairs (pairTrees keys values X.env pos)) (fun vs s'=>∃ ps H',Inv X Ab σ H' s'/\VV ps vs/\Q ps H') X.xe s
theorem qYW {X:Cx} {pos:Pos}:PPs X pos [] [] []:=fun Ab s σ H Q I h=>pairTrees_nil_walk ⟨[],H,I,.nil,h⟩
theorem qPZ {X:Cx} {pos:Pos} {k v:Expr} {ks:List (Option Expr)} {vs:List Expr} {tk tv:TE} {trs:List (TE × TE)} (hk:PE X k tk) (hv:PE X v tv) (hr:PPs X pos ks vs trs) :
  PPs X pos (some k::ks) (v::vs) ((tk,tv)::trs):=fun Ab s σ H Q I h=>
 pairTrees_cons_walk (thn (hk Ab s σ H _ I h) fun u s1 ⟨x,H1,I1,rx,q1⟩=>thn (hv Ab s1 σ H1 _ I1 q1) fun w2 s2 ⟨y,H2,I2,ry,q2⟩=>
  thn (hr Ab s2 σ H2 _ I2 q2) fun ws s3 ⟨ps,H3,I3,rel,q3⟩=>⟨(x,y)::ps,H3,I3,.cons ⟨rx,ry⟩ rel,q3⟩)
def qJS (Ah more:List (Key × V)):List (Key × V):=more.foldl (fun acc kv=>putK acc kv.1 kv.2) Ah
theorem KV.merge:∀ {more:List (Key × V)} {rs:List (Key × Value)} {Ah:List (Key × V)} {vs:List (Key × Value)},KV more rs->KV Ah vs->KV (qJS Ah more) (merged vs rs):=by
 intro more rs Ah vs r;unfold KV at r
 induction r generalizing Ah vs with
 | nil=>intro q;exact q
 | @cons p q ps qs h t ih=>
  intro r0;have e:KV (putK Ah p.1 p.2) (stored vs q.1 q.2):=by
   have:=r0.put p.1 h.2;rw [<- h.1];exact this
  exact ih e
theorem qGZ:∀ (more Ah:List (Key × V)),(qJS Ah more).length<=Ah.length+more.length
 | [],Ah=>by show Ah.length<=Ah.length+0;omega
 | p::r,Ah=>by
  have h1:=qGZ r (putK Ah p.1 p.2);have h2:=qBE Ah p.1 p.2;show (qJS (putK Ah p.1 p.2) r).length<=_;rw [B3];omega
theorem qL4 {P:Program} {w:World}:∀ {Ah:List (Key × V)} {ws:List (Value × Value)},VV (Ah.map fun kv=>(kV kv.1,kv.2)) ws->∃ rs,Carries (qBP P w) ws rs/\KV Ah rs
 | [],_,r=>by rw [j8] at r;cases r;exact ⟨[],R6,.nil⟩
 | p::Ah,_,r=>by
  rw [D7] at r;cases r with
  | @cons a b as bs h t=>
   obtain ⟨rs,c,q⟩:=qL4 (P:=P) (w:=w) t;obtain ⟨b1,b2⟩:=b;exact ⟨(p.1,b2)::rs,⟨qM0 h.1,rfl,c⟩,.cons ⟨rfl,h.2⟩ q⟩
def qcK (trs:List (TE × TE)):TE:=fun σ H Q=>∀ p,H p=none->qS4 trs σ (Ai H p (.dK [])) fun ps H2=>H2 p=some (.dK [])/\∃ Ah:List (Key × V),ps=Ah.map (fun kv=>(kV kv.1,kv.2))/\Ah.length<=15/\Q (.ref p) (Ai H2 p (.dK (qJS [] Ah)))
theorem qYZ {X:Cx} {pos:Pos} {keys:List (Option Expr)} {values:List Expr} {trs:List (TE × TE)} (h:PPs X pos keys values trs) (hall:keys.all (·.isSome)=true) (hl:keys.length=values.length) (h0:keys ≠ [])
  (h15:keys.length<=15):PE X (.Dict keys values pos) (qcK trs):=by
 intro Ab s σ H Q I q;have hn:=I.hok.fresh (A5 s.heap.objs.size);have I1:=I.laid (a:=s.heap.objs.size) (o:=.dK []) (h':=s.heap.push { cls:=.type "dict",data:=.dict #[] }) (t':=s.toks) (fun _ _ q=>A2 _ q) (A5 _) (qQH s.heap I.big);refine wpAny_Dict_walk (knd:=qBP X.prog X.w) hall hl h0 h15 (thn (h Ab _ σ _ _ I1 (q _ hn)) fun ws s2 ⟨ps,H2,I2,rel,e,Ah,ep,lk,q2⟩=>?_);subst ep;obtain ⟨rs,c,rk⟩:=qL4 (P:=X.prog) (w:=X.w) rel;obtain ⟨z,hd,vs0,r0,dd⟩:=qRI I2.hok e;cases r0;refine ⟨rs,c,dd,fun h' dd' hs=>⟨.ref s.heap.objs.size,_,?_,rfl,q2⟩⟩;have hz:(qJS [] Ah).length<=sizeLine:=by
  have h1:=qGZ Ah [];rw [Q2] at h1;rw [sizeLine_eq];omega
 have he:∃ q,h'.get? s.heap.objs.size=some q:=let ⟨q,_,_,hq,_⟩:=dd';⟨q,hq⟩
 exact qHV I2 (by rw [e];exact R6) hs he (qNX hz hd (rk.merge .nil) dd')
structure M1 (X:Cx) (o:Expr) (m:Str) (apos:Pos) (e:Expr) (cpos:Pos):Prop where
 base:attributeBase o m X.env (eval o X.env)=eval o X.env
 few:((backTo cpos (starEach [e] X.env)).all (fun x=>!x.1) && (backToKw cpos (keywordEach [] X.env)).all (fun x=>x.1.isSome)
  && decide (([e]:List Expr).length+([]:List Keyword).length+(if ([]:List Keyword).isEmpty then 0 else 1)<30))=true
 line:(apos.endLine == cpos.line)=true
 trees:backTo cpos (starEach [e] X.env)=[(false,eval e X.env)]
structure M2 (X:Cx) (o:Expr) (m:Str) (apos:Pos) (e f:Expr) (cpos:Pos):Prop where
 base:attributeBase o m X.env (eval o X.env)=eval o X.env
 few:((backTo cpos (starEach [e,f] X.env)).all (fun x=>!x.1) && (backToKw cpos (keywordEach [] X.env)).all (fun x=>x.1.isSome)
  && decide (([e,f]:List Expr).length+([]:List Keyword).length+(if ([]:List Keyword).isEmpty then 0 else 1)<30))=true
 line:(apos.endLine == cpos.line)=true
 trees:backTo cpos (starEach [e,f] X.env)=[(false,eval e X.env),(false,eval f X.env)]
def IsD (H:Hp) (a:Addr):Prop:=(∃ Ah,Rd H a (.dK Ah))\/∃ Ah,Rd H a (.dT Ah)
theorem qTQ {X:Cx} {Ab:List (Addr × Obj)} {σ:St} {H:Hp} {s:Shared} {a:Addr} (I:Inv X Ab σ H s) (d:IsD H a) :
  s.TypeIs (.ref a) "dict"/\(∀ b,D8 a=.ref b->∃ ob,s.heap.get? b=some ob/\ob.dict=none)/\(a == sysModules)=false:=by
 rcases d with ⟨Ah,e⟩ | ⟨Ah,e⟩
 ·obtain ⟨_,hd,vs,_,dd⟩:=qRH I.hok e;refine ⟨dd.typeIs,fun b q=>?_,hd⟩;cases q;obtain ⟨ob,_,_,h1,h2,_⟩:=dd;exact ⟨ob,h1,h2.2.1⟩
 ·obtain ⟨_,hd,xs,_,dd⟩:=qRG I.hok e;refine ⟨dd.typeIs,fun b q=>?_,hd⟩;cases q;obtain ⟨ob,_,_,h1,h2,_⟩:=dd;exact ⟨ob,h1,h2.2.1⟩
section
variable {X:Cx} {Ab:List (Addr × Obj)} {σ:St} {H:Hp} {s:Shared} {a:Addr} {y d:V} {u r:Value} {o:Option V} {A:Around} {E:Value->Shared->Prop}
theorem qc2 {Q:Value->Shared->Prop} (hu:A.units+1<cLine) (I:Inv X Ab σ H s) (g:DGet H a y o) (ry:RelV y u) (rd:RelV d r) (h:∀ w' s',Inv X Ab σ H s'->RelV (o.getD d) w'->Q w' s') :
  wpAny (model X.prog X.w) A (call (.builtin "dict.get") [.ref a,u,r]) Q E s:=by
 rcases g with ⟨Ah,k,e,ey,l⟩ | ⟨Ah,k,b,e,ey,eb,l⟩
 ·subst ey;obtain ⟨z,hd,vs,rel,dd⟩:=qRH I.hok e;refine call_meetsIn b9 dd.typeIs w5 (t5 _ _ _) (meets_dict_get_default (qBP X.prog X.w) a (qM0 ry) hd r) ⟨_,dd.mapOf,h _ _ (I.tok _) ?_⟩;rw [l];exact (rel.val k).getD rd
 ·subst ey;cases (show u=D8 b from ry);obtain ⟨z,hd,xs,rel,dd⟩:=qRG I.hok e;refine call_meetsIn b9 dd.typeIs w5 (t5 _ _ _) (meetsH_dict_get_default (tupleKind (qBP X.prog X.w)) a b hd r) ⟨tupleKind_room_in1 hu,k,xs,qNO I.hok eb,dd,h _ _ (I.tok _) ?_⟩;rw [l];exact (rel.val k).getD rd
end
def qaN (td ty tx:TE):TE:=fun σ H Q=>td σ H fun x H1=>∃ a,x=.ref a/\IsD H1 a/\ty σ H1 fun y H2=>tx σ H2 fun z H3=>∃ o,DGet H3 a y o/\Q (o.getD z) H3
def qaL (td ty:TE):TE:=fun σ H Q=>td σ H fun x H1=>∃ a,x=.ref a/\IsD H1 a/\ty σ H1 fun y H2=>∃ Ah k v,H2 a=some (.dK Ah)/\y=kV k/\valV Ah k=some v/\Q v (Ai H2 a (.dK (qEB Ah k)))
section
variable {X:Cx} {o e f:Expr} {apos cpos:Pos} {td ty tx:TE}
theorem qW0 (hu:X.A.units+1<cLine) (ho:PE X o td) (he:PE X e ty) (hf:PE X f tx) (m:M2 X o "get" apos e f cpos):PE X (.Call (.Attribute o "get" apos) [e,f] [] cpos) (qaN td ty tx):=by
 intro Ab s σ H Q I h;refine wpAny_Call_method m.base m.few m.line Z1 b9 PySem.F.type_dict_get (thn (ho Ab s σ H _ I h) fun u s1 ⟨x,H1,I1,rx,a,ex,d,q1⟩=>?_);subst ex;obtain rfl:u=D8 a:=rx;obtain ⟨t1,t2,_⟩:=qTQ I1 d;refine ⟨t1,t2,?_⟩;rw [m.trees];refine U2 rfl (X5 (U7 (thn (he Ab s1 σ H1 _ I1 q1) fun iv s2 ⟨y,H2,I2,ry,q2⟩=>
  U7 (thn (hf Ab s2 σ H2 _ I2 q2) fun fv s3 ⟨z,H3,I3,rz,ov,g,q3⟩=>a8 ?_))))
 exact qc2 hu I3 g ry rz fun w' s4 I4 rw'=>⟨_,H3,I4,rw',q3⟩
theorem qVZ (ho:PE X o td) (he:PE X e ty) (m:M1 X o "pop" apos e cpos):PE X (.Call (.Attribute o "pop" apos) [e] [] cpos) (qaL td ty):=by
 intro Ab s σ H Q I h;refine wpAny_Call_method m.base m.few m.line Z1 y9 PySem.F.type_dict_pop (thn (ho Ab s σ H _ I h) fun u s1 ⟨x,H1,I1,rx,a,ex,d,q1⟩=>?_);subst ex;obtain rfl:u=D8 a:=rx;obtain ⟨t1,t2,_⟩:=qTQ I1 d;refine ⟨t1,t2,?_⟩;rw [m.trees];refine U2 rfl (X5 (U7 (thn (he Ab s1 σ H1 _ I1 q1) fun iv s2 ⟨y,H2,I2,ry,Ah,k,v,ea,ey,l,q2⟩=>a8 ?_)));subst ey;exact qd9 I2 ea ry l (.inl rfl) fun w' s3 I3 rw'=>⟨v,_,I3,rw',q2⟩
end
section
variable {X:Cx} {Ab:List (Addr × Obj)} {σ:St} {H:Hp} {s:Shared} {a:Addr} {Ah:List (Key × V)} {A:Around} {E:Value->Shared->Prop}
end
section
variable {X:Cx} {Ab:List (Addr × Obj)} {σ:St} {H:Hp} {s:Shared} {a:Addr} {y:V} {u:Value} {A:Around} {E:Value->Shared->Prop}
end
section
variable {X:Cx}
end
section
variable {κ:Type} [DecidableEq κ]
theorem qJQ:∀ {l:List κ} {k:κ},l.Nodup->¬ k ∈ l->(l++[k]).Nodup
 | [],k,_,_=>by simp
 | a::r,k,h,hk=>by
  obtain ⟨h1,h2⟩:=Q4.mp h;show (a::(r++[k])).Nodup;refine Q4.mpr ⟨fun m=>?_,qJQ h2 fun m=>hk (B7.mpr (X7 m))⟩;rcases B8.mp m with q | q
  ·exact h1 q
  ·exact hk (B7.mpr (C5 (A6.mp q).symm))
theorem qU4 {p:κ × V} {r:List (κ × V)} {k:κ} (e:p.1=k):qEB (p::r) k=qEB r k:=by
 unfold qEB;rw [L0,if_neg (by simp [e])]
theorem qU5 {p:κ × V} {r:List (κ × V)} {k:κ} (e:¬ p.1=k):qEB (p::r) k=p::qEB r k:=by
 unfold qEB;rw [L0,if_pos (by simp [e])]
end
def noX:Value->Shared->Prop:=fun _ _=>False
def qDP (env:Env):List (Str × NameKind)->List (Str × Addr)->List (Str × Addr)
 | [],acc=>acc
 | (n,k)::r,acc=>qDP env r (if (k == I0)=true then (n,(env.cells.lookup n).getD 0)::acc else acc)
theorem qHG {env:Env}:∀ {names:List (Str × NameKind)} {acc:List (Str × Addr)},(∀ x,(x,I0) ∈ names->∃ c,env.cells.lookup x=some c)->(∀ x c,acc.lookup x=some c->env.cells.lookup x=some c)->
  ∀ x c,(qDP env names acc).lookup x=some c->env.cells.lookup x=some c
 | [],acc,_,ha,x,c,h=>ha x c h
 | (n,k)::r,acc,hf,ha,x,c,h=>by
  refine qHG (names:=r) (fun y hy=>hf y (A7 _ hy)) (fun y d hd=>?_) x c h
  split at hd
  ·rename_i hk
   have hk':k=I0:=by simpa using hk
   subst hk';obtain ⟨e,he⟩:=hf n C0;by_cases hyn:y=n
   ·subst hyn;rw [Q6,he] at hd;rw [he];exact hd
   ·rw [W1,beq_eq_false_iff_ne.mpr hyn] at hd;exact ha y d hd
  ·exact ha y d hd
theorem qHH {env:Env}:∀ {names:List (Str × NameKind)} {acc:List (Str × Addr)} {x:Str},((x,I0) ∈ names\/∃ c,acc.lookup x=some c)->∃ c,(qDP env names acc).lookup x=some c
 | [],acc,x,h=>by
  rcases h with h | h
  ·exact absurd h (by simp)
  ·exact h
 | (n,k)::r,acc,x,h=>by
  refine qHH (names:=r) ?_;rcases h with h | ⟨c,h⟩
  ·rcases B7.mp h with e | h
   ·cases e;refine .inr ⟨(env.cells.lookup n).getD 0,?_⟩;rw [if_pos (by rfl),Q6]
   ·exact .inl h
  ·refine .inr ?_
   split
   ·by_cases hyn:x=n
    ·subst hyn;exact ⟨_,Q6⟩
    ·refine ⟨c,?_⟩;rw [W1,beq_eq_false_iff_ne.mpr hyn];exact h
   ·exact ⟨c,h⟩
theorem qK1 {env:Env} (f:Str × NameKind->List (Str × Addr)->Sem (ForInStep (List (Str × Addr))))
  (hf:∀ n k c,f (n,k) c=(if (k == I0)=true then (do let a <- cellOf env n;pure (M5 ((n,a)::c))) else pure (M5 c))) :
  ∀ (names:List (Str × NameKind)) (acc:List (Str × Addr)),(∀ x,(x,I0) ∈ names->∃ c,env.cells.lookup x=some c)->forIn names acc f=(pure (qDP env names acc):Sem _)
 | [],acc,_=>rfl
 | (n,k)::r,acc,h=>by
  have ih:=fun acc=>qK1 f hf r acc fun x hx=>h x (A7 _ hx);rw [T8,hf];by_cases hk:(k == I0)=true
  ·have hk':k=I0:=by simpa using hk
   subst hk';obtain ⟨c,hc⟩:=h n C0;rw [if_pos hk];unfold cellOf qDP;rw [hc,if_pos hk];exact ih _
  ·rw [if_neg hk];unfold qDP;rw [if_neg hk];exact ih _
theorem qL3 {scope:Scope} {env:Env} (h:∀ x,(x,I0) ∈ scope.names->∃ c,env.cells.lookup x=some c):closureFor scope env=pure (qDP env scope.names []):=by
 unfold closureFor;dsimp only;rw [qK1 (env:=env) _ (fun n k c=>?_) scope.names [] h]
 ·rfl
 ·rfl
theorem qCD {env:Env} {x:Str}:∀ {names:List (Str × NameKind)},
  (names.map fun (n,k)=>if (k == I0 && env.scope.kind == .function && env.kindOf n == some .cell)=true then (n,d7) else (n,k)).lookup x =
   (names.lookup x).map fun k=>if (k == I0 && env.scope.kind == .function && env.kindOf x == some .cell)=true then d7 else k
 | []=>rfl
 | (n,k)::r=>by
  have ih:=@qCD env x r;rw [D7];by_cases hx:x=n
  ·subst hx;dsimp only;rw [Q6 (b:=k),Q5]
   split
   ·rw [Q6]
   ·rw [Q6]
  ·have hb:(x == n)=false:=beq_eq_false_iff_ne.mpr hx;dsimp only;rw [W1 (k:=n) (b:=k),hb];dsimp only;rw [<- ih]
   split
   ·rw [W1,hb]
   ·rw [W1,hb]
structure LcZ where
 L:Addr
 cl:List (Str × Addr)
 ex:List Addr
 s₀:Shared
 H₀:Hp
def lcCx (X:Cx) (scope:Scope) (own:List Str) (fv:List Nat) (z:LcZ):Cx where
 prog:=X.prog
 w:=X.w
 K:=X.K
 mg:=X.mg
 base:=X.base
 A:=X.A
 N:=own++fv.map fun i=>X.N.getD i Q3
 s₀:=z.s₀
 H₀:=z.H₀
 env:=compEnvC scope z.cl z.L X.env
 outer:=X.stack
 stack:=X.stack
 ex:=z.ex
 fn:=fun _=>false
 calm:=X.calm
 pn:=[]
 xe:=noX
structure LcScope (X:Cx) (scope:Scope) (own:List Str) (fv:List Nat):Prop where
 kind:scope.kind=.function
 nocell:∀ y ∈ scope.names,y.2 ≠ .cell
 names:∀ y ∈ scope.names,y.2=.local->scope.names.lookup y.1=some .local
 free:∀ y ∈ scope.names,y.2=.free->X.env.kindOf y.1=some .cell\/X.env.kindOf y.1=some .free
 nd:(own++fv.map fun i=>X.N.getD i Q3).Nodup
 fvs:∀ i ∈ fv,i<X.N.length/\scope.names.lookup (X.N.getD i Q3)=some .free
def qEV (own:List Str) (fv:List Nat) (σ:St):St:=(own.map fun _=>none)++fv.map fun i=>(σ[i]?).join
theorem qIA {prog:Program} {w:World} {A:Around} {R:Result->Shared->Prop} {s:Shared} {elt target iter:Expr} {ifs:List Expr} {scope:Scope} {pos:Pos} {it acc:Value} {env:Env} (I:Nat->Shared->Prop)
  (turn:∀ n s,I n s->wpAny (model prog w) A (pyNext it) (fun r s₁=>match r with
   | none=>R (.ok .next) s₁
   | some v=>wpAny (model prog w) A (letOwnedTupleGo target it v) (fun _ s₁=>wpAny (model prog w) A (assign target env v) (fun _ s₂=>
     wpAny (model prog w) A (forIn ifs true fun c r=>if r=true then do let ok <- isTrue c env (eval c env);pure (M5 ok) else pure (M5 r)) (fun ok s₃=>
      if ok=true then wpAny (model prog w) A (eval elt env) (fun x s₄=>
       wpAny (model prog w) A (call (.builtin "list.append") [acc,x]) (fun _ s₅=>∃ m,m<n/\I m s₅) noX s₄) noX s₃
      else ∃ m,m<n/\I m s₃) noX s₂) noX s₁) noX s₁) noX s)
  (n:Nat) (h:I n s) :
  codeAny (model prog w) A (.compLoop (.ListComp elt [⟨target,iter,ifs,0⟩] scope pos) 0 it acc env) R s:=by
 refine codeAny_loop rfl I (fun n s hI=>?_) n h;show wpAny _ A ((compTurn (.ListComp elt [⟨target,iter,ifs,0⟩] scope pos) 0 it acc env).onRaise (fun x=>do noteFrame x env;theTreesLotGoes x)) _ _ s
 refine wpAny_noted ?_;rw [compTurn_list];refine wpAny_bind (wpAny_standAt (wpAny_bind (wpAny_mono (turn n s hI) (fun r s₁ h₁=>?_) fun _ _ h'=>h'.elim)));cases r with
 | none=>exact wpAny_pure h₁
 | some v=>
  refine wpAny_bind (wpAny_mono h₁ (fun _ s₁ h₁=>?_) fun _ _ h'=>h'.elim);refine wpAny_bind (wpAny_mono h₁ (fun _ s₂ h₂=>wpAny_bind (wpAny_mono h₂ (fun ok s₃ h₃=>?_) fun _ _ h'=>h'.elim)) fun _ _ h'=>h'.elim);cases ok with
  | false=>exact wpAny_pure ⟨rfl,h₃⟩
  | true=>
   exact wpAny_bind (wpAny_bind (wpAny_mono h₃ (fun x s₄ h₄=>wpAny_bind (wpAny_mono h₄ (fun _ s₅ h₅=>wpAny_pure (wpAny_pure ⟨rfl,h₅⟩)) fun _ _ h'=>h'.elim)) fun _ _ h'=>h'.elim))
section
variable {X:Cx} {Ab:List (Addr × Obj)} {σ:St} {H:Hp} {s:Shared}
theorem Inv.other {h':Heap} {L:Addr} {n:Nat} (I:Inv X Ab σ H s) (hb:X.s₀.heap.objs.size<=L) (h0:H L=none) (h1:L ≠ X.env.locals) (h2:∀ x c,X.env.cells.lookup x=some c->c ≠ L) (h3:∀ p ∈ X.pn++Ab,p.1 ≠ L)
  (k:Heap.SameBut L s.heap h'):Inv X Ab σ H { s with heap:=h' }:=
 I.turned (t':=s.toks) (fun b o hb e=>(k.2 b hb).trans e) h0 h1 (.inr hb) h2 h3
theorem qbJ {scope:Scope} {own:List Str} {fv:List Nat} {fp:List Addr} (I:Inv X Ab σ H s) (S:LcScope X scope own fv) (hf:∀ b ∈ fp,FpOk X Ab H b) (hsz:∀ b ∈ fp,b<s.heap.objs.size) :
  (lcCx X scope own fv ⟨s.heap.objs.size,qDP X.env scope.names [],fp,s,H⟩).Ok:=by
 have hfr:∀ x,(x,I0) ∈ scope.names->∃ c,X.env.cells.lookup x=some c:=fun x hx=>I.ok.has x (S.free _ hx rfl);have sub:=qHG (env:=X.env) (names:=scope.names) (acc:=[]) hfr (fun x c z=>by simp at z)
 refine ⟨I.ok.mod,S.kind,I.ok.glob,I.ok.blt,A5 _,fun x y c h1 h2=>I.ok.inj x y c (sub _ _ h1) (sub _ _ h2),fun x hx=>?_,fun x c hx=>?_,I.ok.hd,I.ok.frames,.inl rfl,fun b hb=>⟨?_,fun x c e=>?_⟩,I.bs,F6 I.ok.bsz I.sz,fun b o e hb=>?_,fun b hb hb'=>?_,I.stack,I.stkFree⟩
 ·refine qHH (.inl ?_);have hx':(relabel scope X.env).names.lookup x=some .cell\/(relabel scope X.env).names.lookup x=some .free:=hx;unfold relabel at hx';rw [qCD] at hx';cases e:scope.names.lookup x with
  | none=>rw [e] at hx';simp at hx'
  | some k=>
   have hm:=G7 e;have nc:=S.nocell _ hm;rw [e] at hx';simp only [Q5,A30] at hx';cases k with
   | free=>exact hm
   | cell=>exact absurd rfl nc
   | _=>simp at hx'
 ·cases hx
 ·exact E6 (hsz b hb)
 ·exact (hf b hb).2.2.2.2.1 x c (sub _ _ e)
 ·rcases (hf b hb).2.2.2.1 with z | z
  ·exact I.ok.noex b o e z
  ·exact absurd (E5 (B6 (I.ok.bs b o e).1) z) (O6 _)
 ·rcases B7.mp (I.stkSub b hb') with z | z
  ·exact (hf b hb).2.1 z
  ·exact (hf b hb).2.2.1 z
theorem qWG {scope:Scope} {own:List Str} {fv:List Nat} {fp:List Addr} {h₁:Heap} {tk:Nat} (I:Inv X Ab σ H s) (S:LcScope X scope own fv) (hf:∀ b ∈ fp,FpOk X Ab H b) (hsz:∀ b ∈ fp,b<s.heap.objs.size)
  (hns:h₁.Ns s.heap.objs.size (fun _=>none)) (hk:∀ b o,s.heap.get? b=some o->h₁.get? b=some o) :
  Inv (lcCx X scope own fv ⟨s.heap.objs.size,qDP X.env scope.names [],fp,s,H⟩) [] (qEV own fv σ) H { s with heap:=h₁,toks:=tk }:=by
 have hfr:∀ x,(x,I0) ∈ scope.names->∃ c,X.env.cells.lookup x=some c:=fun x hx=>I.ok.has x (S.free _ hx rfl);have sub:=qHG (env:=X.env) (names:=scope.names) (acc:=[]) hfr (fun x c z=>by simp at z)
 refine ⟨qbJ I S hf hsz,rfl,I.bare,Un.kept hk,⟨_,hns,fun i x v h1 h2 h3=>?_⟩,fun x c e=>?_,I.hok.fresh (A5 _),fun x c e=>I.freeC x c (sub _ _ e),fun p hp=>absurd (show p ∈ ([]:List (Addr × Obj)) from hp) (by simp),I.hok.kept hk,?_⟩
 ·have h1:(own++fv.map fun i=>X.N.getD i Q3)[i]?=some x:=h1;unfold qEV at h2;have hi:own.length<=i:=by
   apply W0;intro hi;rw [Q0 (by simpa using hi),B5] at h2
   cases e:own[i]? with
   | none=>rw [e] at h2;cases h2
   | some z=>rw [e] at h2;cases h2
  rw [L4 (by simpa using hi),A0,B5] at h2
  rw [L4 hi,B5] at h1;cases e:fv[i - own.length]? with
  | none=>rw [e] at h1;cases h1
  | some j=>
   rw [e] at h1 h2;have hj:=S.fvs j (B4 e);have h1:X.N.getD j Q3=x:=A8 h1;have h2:(σ[j]?).join=some v:=A8 h2;have h2':σ[j]?=some (some v):=by
    cases q:σ[j]? with
    | none=>rw [q] at h2;cases h2
    | some y=>rw [q] at h2;exact congrArg some h2
   have hx:X.N[j]?=some x:=by
    rw [O9] at h1;rw [A3 hj.1] at h1 ⊢;exact congrArg some h1
   have hlk:scope.names.lookup x=some .free:=h1 ▸ hj.2;have hmem:=G7 hlk;obtain ⟨m,hn,hl⟩:=id I.loc;have hkd:=S.free _ hmem rfl;obtain ⟨u,ru,lk⟩:=hl j x v hx h2' (by
    rcases hkd with z | z
    ·exact .inr (.inl z)
    ·exact .inr (.inr z))
   refine ⟨u,ru,?_⟩;rcases lk with ⟨z,_⟩ | ⟨_,c,e1,z⟩
   ·rcases hkd with y | y
    ·have y':X.env.kindOf x=some .cell:=y;rw [z] at y';cases y'
    ·have y':X.env.kindOf x=some .free:=y;rw [z] at y';cases y'
   ·obtain ⟨c',e2⟩:=qHH (env:=X.env) (names:=scope.names) (acc:=[]) (x:=x) (.inl hmem);have e3:=sub _ _ e2;rw [e1] at e3;cases e3;obtain ⟨o,ho,hd⟩:=z;refine .inr ⟨?_,c,e2,o,hk _ _ ho,hd⟩;show (relabel scope X.env).names.lookup x=some .cell\/(relabel scope X.env).names.lookup x=some .free;unfold relabel;rw [qCD,hlk,Q5]
    split
    ·exact .inl rfl
    ·exact .inr rfl
 ·obtain ⟨v,o,ho,hd⟩:=I.cell x c (sub _ _ e);exact ⟨v,o,hk _ _ ho,hd⟩
 ·unfold qEV;show _=(own++fv.map fun i=>X.N.getD i Q3).length;rw [A4,A4,A0,A0,A0]
theorem qZL {scope:Scope} {own:List Str} {fv:List Nat} {fp:List Addr} {pins':List (Addr × Obj)} {σ':St} {H':Hp} {s':Shared} {cl:List (Str × Addr)} (I:Inv X Ab σ H s) (hf:∀ b ∈ fp,FpOk X Ab H b)
  (J:Inv (lcCx X scope own fv ⟨s.heap.objs.size,cl,fp,s,H⟩) pins' σ' H' s'):Inv X Ab σ H' s':=
 I.call' (ch:=fp) J.os J.base J.hok J.bare fun b hb=>⟨(hf b hb).2.2.2.1,(hf b hb).2.1,(hf b hb).2.2.2.2.1,(hf b hb).2.2.2.2.2⟩
end
def PTs (X:Cx) (ifs:List Expr) (t:TT):Prop:=
 ∀ (Ab:List (Addr × Obj)) (s:Shared) (σ:St) (H:Hp) (Q:Bool->Hp->Prop),Inv X Ab σ H s->t σ H Q->
  wpAny (model X.prog X.w) X.A (forIn ifs true fun c r=>if r=true then do let ok <- isTrue c X.env (eval c X.env);pure (M5 ok) else pure (M5 r)) (TP X Ab σ Q) X.xe s
def qcD:TT:=fun _ H Q=>Q true H
theorem qC6 {X:Cx}:PTs X [] qcD:=fun Ab s σ H Q I h=>wpAny_tests_nil ⟨H,I,h⟩
theorem qD7 {X:Cx} {c:Expr} {t:TT} (h:PT X c t):PTs X [c] t:=fun Ab s σ H Q I hq=>wpAny_tests_one (h Ab s σ H Q I hq)
def qZM (own:List Str) (fv:List Nat) (wi:TI) (g:TG) (tc:TT) (te:TE) (K:Addr->Hp->Prop):St->Hp->Prop:=fun σ H=>wi σ H fun J H1=>∀ p,H1 p=none->
 ∃ W:Nat->Nat->St->Hp->Prop,(∃ m,W 0 m (qEV own fv σ) (Ai H1 p (.lst [])))/\∀ i m σ H,W i m σ H->
  (J.stop i H/\K p H)\/(J.go i H/\∃ N:St->Hp->Prop,(∀ σ' H',N σ' H'->∃ m',m'<m/\W (i+1) m' σ' H')/\∀ x H',J.yld i H x H'->g x σ H' fun σ2 H2=>tc σ2 H2 fun b H3=>
   if b=true then te σ2 H3 fun y H4=>∃ ys,H4 p=some (.lst ys)/\ys.length<sizeLine/\N σ2 (Ai H4 p (.lst (ys++[y])))
   else N σ2 H3)
def tLc (own:List Str) (fv:List Nat) (wi:TI) (g:TG) (tc:TT) (te:TE):TE:=fun σ H Q=>qZM own fv wi g tc te (fun p H'=>Q (.ref p) H') σ H
section
variable {X:Cx} {tg iter elt:Expr} {ifs:List Expr} {scope:Scope} {pos:Pos} {own:List Str} {fv:List Nat} {wi:TI} {g:TG} {tc:TT} {te:TE}
theorem qTI {Ab:List (Addr × Obj)} {s:Shared} {σ:St} {H:Hp} {K:Addr->Hp->Prop} {use:Option (Value->Sem Unit)} {Q:Value->Shared->Prop} {E:Value->Shared->Prop} (hc:X.calm=true) (S:LcScope X scope own fv) (hi:PI X tg iter wi)
  (hg:∀ z,PG (lcCx X scope own fv z) tg g) (ht:∀ z,PTs (lcCx X scope own fv z) ifs tc) (he:∀ z,PE (lcCx X scope own fv z) elt te)
  (I:Inv X Ab σ H s) (h:qZM own fv wi g tc te K σ H) (hxe:∀ e s,X.xe e s->E e s)
  (fin:∀ (p:Addr) (L:Addr) (H':Hp) (s':Shared) (m:Str->Option Value),Inv X Ab σ H' s'->K p H'->s'.heap.Ns L m->X.s₀.heap.objs.size<=L->H' L=none->L ≠ X.env.locals->(∀ x c,X.env.cells.lookup x=some c->c ≠ L)->(∀ q ∈ X.pn++Ab,q.1 ≠ L)->
   compPost (model X.prog X.w) X.A E use Q (.ref p) L (.ok .next) s') (hs:∀ x,foldedSetIterable iter X.env x=pure x:=by intro _;rfl) :
  wpAny (model X.prog X.w) X.A (comprehension (.ListComp elt [⟨tg,iter,ifs,0⟩] scope pos) scope X.env (firstIterPos [⟨tg,iter,ifs,0⟩] pos) (newList []) false (eval iter X.env) use) Q E s:=by
 have hfr:∀ x,(x,I0) ∈ scope.names->∃ c,X.env.cells.lookup x=some c:=fun x hx=>I.ok.has x (S.free _ hx rfl);refine wpAny_comprehension_free rfl hs (qL3 hfr) S.kind S.names (wpAny_mono (hi Ab s σ H _ I h) (fun v s1 h1=>wpAny_mono h1 (fun itv s2 h2=>?_) hxe) hxe);obtain ⟨it,fp,tn,J,H2,e,I2,T,st2,f2,q2⟩:=h2;subst e
 -- the list
 refine wpAny_newObj_type ?_;have fresh2:H2 s2.heap.objs.size=none:=I2.hok.fresh (A5 _);have I3:Inv X Ab σ (Ai H2 s2.heap.objs.size (.lst [])) { s2 with heap:=s2.heap.push { cls:=.type "list",dict:=none,data:=.seq ([]:List Value).toArray } }:=
  I2.laid (t':=s2.toks) (fun b u e=>A2 _ e) (A5 _) ⟨E8 _,[],0,.nil,B9 _ rfl⟩
 obtain ⟨W,⟨m0,w0⟩,turn⟩:=q2 s2.heap.objs.size fresh2;have lt2:∀ b ∈ fp,b<s2.heap.objs.size:=fun b hb=>by
  obtain ⟨o,e,_⟩:=T.obj 0 _ st2 b hb;exact B6 e
 have f3:∀ b ∈ fp,FpOk X Ab (Ai H2 s2.heap.objs.size (.lst [])) b:=fun b hb=>⟨by rw [qA8 (E6 (lt2 b hb))];exact (f2 b hb).1,(f2 b hb).2⟩
 generalize hp:s2.heap.objs.size=p at *;generalize hH3:Ai H2 p (.lst [])=H3 at *;have st3:tn 0 (s2.heap.push { cls:=.type "list",dict:=none,data:=.seq ([]:List Value).toArray }):=T.keep _ _ _ st2 fun b _ o e=>A2 _ e;have lt3:∀ b ∈ fp,b<(s2.heap.push { cls:=.type "list",dict:=none,data:=.seq ([]:List Value).toArray }).objs.size:=fun b hb=>by
  rw [G6];have:=lt2 b hb;rw [hp];exact P8 this
 generalize hs3:({ s2 with heap:=s2.heap.push { cls:=.type "list",dict:=none,data:=.seq ([]:List Value).toArray } }:Shared)=s3 at *;have st3':tn 0 s3.heap:=by rw [<- hs3];exact st3
 have lt3':∀ b ∈ fp,b<s3.heap.objs.size:=by rw [<- hs3];exact lt3
 -- the block's frame
 refine wpAny_newFunctionEnv S.nocell (by intro y hy;simp at hy) (fun h₁ hns₁ hsb₁=>?_) S.kind
 have keep1:∀ b o,s3.heap.get? b=some o->h₁.get? b=some o:=fun b o e=>hsb₁.extBut b o (E6 (B6 e)) (A2 _ e);have J0:Inv (lcCx X scope own fv ⟨s3.heap.objs.size,qDP X.env scope.names [],fp,s3,H3⟩) [] (qEV own fv σ) H3 { s3 with heap:=h₁,toks:=s3.toks+([]:List (Str × Value)).length }:=qWG I3 S f3 lt3' hns₁ keep1;have cOk:=qbJ I3 S f3 lt3';generalize hz:(⟨s3.heap.objs.size,qDP X.env scope.names [],fp,s3,H3⟩:LcZ)=z at *;have st4:tn 0 h₁:=T.keep _ _ _ st3' fun b _ o e=>keep1 b o e;have fr4:∀ b ∈ fp,H3 b=none:=fun b hb=>(f3 b hb).1;have stat:∀ {H':Hp},(∀ b ∈ fp,H' b=none)->∀ b ∈ fp,FpOk (lcCx X scope own fv z) [] H' b:=fun hn b hb=>by
  subst hz;refine ⟨hn b hb,(cOk.exf b hb).1,cOk.exfs b hb,.inl hb,(cOk.exf b hb).2,fun q hq=>absurd (show q ∈ ([]:List (Addr × Obj)) from hq) (by simp)⟩
 have envE:({ newEnv scope s3.heap.objs.size X.env.globals (qDP X.env scope.names []) X.env.qual none .none (some X.env) builtinsNs with scope:=relabel scope X.env }:Env)=(lcCx X scope own fv z).env:=by
  subst hz
  rfl
 have loop:∀ sA:Shared,sA={ s3 with heap:=h₁,toks:=s3.toks+([]:List (Str × Value)).length }->codeAny (model X.prog X.w) X.A (.compLoop (.ListComp elt [⟨tg,iter,ifs,0⟩] scope pos) 0 (.ref it) (.ref p) (lcCx X scope own fv z).env)
   (compPost (model X.prog X.w) X.A E use Q (.ref p) s3.heap.objs.size) sA:=by
  rintro sA rfl;refine qIA (fun n s'=>∃ i σ' H',Inv (lcCx X scope own fv z) [] σ' H' s'/\tn i s'.heap/\(∀ b ∈ fp,H' b=none)/\W i n σ' H') ?_ m0 ⟨0,_,H3,J0,st4,fr4,w0⟩;rintro n s4 ⟨i,σ4,H4,I4,st4,fr4,w4⟩;rcases turn i n σ4 H4 w4 with ⟨stop,qn⟩ | ⟨go,Nx,hNx,step⟩
  ·refine thn (T.done (lcCx X scope own fv z) rfl rfl rfl hc i [] s4 σ4 H4 noX I4 (stat fr4) st4 stop) fun r s5 ⟨hr,I5⟩=>?_;subst hr;subst hz;have I6:Inv X Ab σ H4 s5:=qZL I3 f3 I5;obtain ⟨m,hn,_⟩:=id I5.loc;have fpL:=I3.fpOk (H':=H4) (b:=s3.heap.objs.size) (A5 _) I5.free;refine fin p s3.heap.objs.size H4 s5 m I6 qn hn I3.sz fpL.1 fpL.2.1 fpL.2.2.2.2.1 fpL.2.2.2.2.2
  ·refine thn (T.item (lcCx X scope own fv z) rfl rfl rfl hc i [] s4 σ4 H4 noX I4 (stat fr4) st4 go) fun r s5 ⟨u,hr,h5⟩=>?_;subst hr;refine thn h5 fun _ s6 ⟨x,H6,I6,r6,y6,st6,fr6⟩=>?_;have I6':=I6.pinned (stat fr6) (T.obj _ _ st6);have again:∀ {σ7:St} {H7:Hp} {s7:Shared} {m':Nat},m'<n->Inv (lcCx X scope own fv z) ([]++qKQ fp s6.heap) σ7 H7 s7->W (i+1) m' σ7 H7->
     ∃ m,m<n/\∃ i σ' H',Inv (lcCx X scope own fv z) [] σ' H' s7/\tn i s7.heap/\(∀ b ∈ fp,H' b=none)/\W i m σ' H':=fun {σ7 H7 s7 m'} hm I7 w7=>by
    refine ⟨m',hm,i+1,σ7,H7,I7.unpinned,T.keep _ _ _ st6 fun b hb o e=>(I7.pin (b,o) (F3 _ (F3 _ (qDG hb e)))).1,fun b hb=>?_,w7⟩;obtain ⟨o,e,d⟩:=T.obj _ _ st6 b hb;exact (I7.pin (b,o) (F3 _ (F3 _ (qDG hb e)))).2.1
   refine thn (hg z _ s6 σ4 H6 x u _ I6' r6 (step x H6 y6)) fun _ s7 ⟨σ7,H7,I7,q7⟩=>?_;refine thn (ht z _ s7 σ7 H7 _ I7 q7) fun b s8 ⟨H8,I8,q8⟩=>?_;cases b with
   | false=>
    obtain ⟨m',hm,w8⟩:=hNx _ _ q8;exact again hm I8 w8
   | true=>
    refine thn (he z _ s8 σ7 H8 _ I8 q8) fun v s9 ⟨y,H9,I9,r9,ys,ep,hl,w9⟩=>?_;refine thn (qB6 (X:=lcCx X scope own fv z) _ s9 σ7 H9 (.ref p) [y] (.ref p) [v] (fun _ H'=>Nx σ7 H') I9 rfl (.cons r9 .nil) ⟨p,ys,y,rfl,rfl,ep,hl,w9⟩) fun _ s10 ⟨_,H10,I10,_,q10⟩=>?_;obtain ⟨m',hm,w10⟩:=hNx _ _ q10;exact again hm I10 w10
 rw [envE];exact codeAny_compStart_list (loop _ rfl) (T.self _ _ _ _ _ st4 (loop _ rfl))
theorem qF8 (hc:X.calm=true) (S:LcScope X scope own fv) (hi:PI X tg iter wi) (hg:∀ z,PG (lcCx X scope own fv z) tg g) (ht:∀ z,PTs (lcCx X scope own fv z) ifs tc) (he:∀ z,PE (lcCx X scope own fv z) elt te)
  (hs:∀ x,foldedSetIterable iter X.env x=pure x:=by intro _;rfl):PE X (.ListComp elt [⟨tg,iter,ifs,0⟩] scope pos) (tLc own fv wi g tc te):=by
 intro Ab s σ H Q I h;rw [eval_ListComp];refine qTI (use:=none) (K:=fun p H'=>Q (.ref p) H') hc S hi hg ht he I h (fun _ _ q=>q) (fun p L H' s' m I' q hn h1 h2 h3 h4 h5=>?_) hs;exact ⟨m,hn,fun h' hs'=>⟨.ref p,H',I'.other (n:=0) h1 h2 h3 h4 h5 hs',rfl,q⟩⟩
theorem qKD {i:Nat} {x:Str} {pos' spos:Pos} (hN:X.N.Nodup) (hx:X.N[i]?=some x) (hl:X.env.scope.names.lookup x=some .local) (hc:X.calm=true) (S:LcScope X scope own fv) (hi:PI X tg iter wi) (hg:∀ z,PG (lcCx X scope own fv z) tg g)
  (ht:∀ z,PTs (lcCx X scope own fv z) ifs tc) (he:∀ z,PE (lcCx X scope own fv z) elt te) (hsw:swapsWith (.ListComp elt [⟨tg,iter,ifs,0⟩] scope pos) (some (.Name x pos')) spos.line X.env=pure true)
  (hs:∀ x,foldedSetIterable iter X.env x=pure x:=by intro _;rfl):PS X (.Assign [.Name x pos'] (.ListComp elt [⟨tg,iter,ifs,0⟩] scope pos) spos) (tAsg (tLc own fv wi g tc te) (qWV i)):=by
 intro Ab s σ H D I h;rw [exec_Assign_Name_used _ _ _ _ hsw];refine wpAny_bind (wpAny_standAt (wpAny_bind ?_));show wpAny _ X.A (do let _ <- comprehension (.ListComp elt [⟨tg,iter,ifs,0⟩] scope pos) scope X.env _ (newList []) false (eval iter X.env) (some (assign (.Name x pos') X.env))) _ _ s
 refine wpAny_bind (wpAny_mono (qTI (use:=some (assign (.Name x pos') X.env)) (K:=fun p H'=>D.nx (σ.set i (some (.ref p))) H') (Q:=fun _ s'=>SP X Ab D .next s') (E:=X.xe) hc S hi hg ht he I h (fun _ _ q=>q) (fun p L H' s' m I' q hn h1 h2 h3 h4 h5=>?_) hs)
  (fun _ s' hq=>wpAny_pure (wpAny_pure hq)) fun _ _ e=>e)
 show wpAny _ X.A (assign (.Name x pos') X.env (.ref p)) _ _ _;refine wpAny_assign_Name (qN1 (v:=.ref p) I' hN hx (.inl hl) rfl (fun s2 I2 ⟨a,hsb,ha⟩=>?_) (.inr hl));have hLa:L ≠ a:=by
  rcases ha with z | z
  ·rw [z];exact h3
  ·exact fun y=>h4 x a z y.symm
 exact ⟨m,hn.sameBut hsb hLa,fun h' hs'=>⟨_,H',I2.other (n:=0) h1 h2 h3 h4 h5 hs',q⟩⟩
end
theorem qDW {lo:Int} {n:Nat} {g:TG} {tc:TT} {te:TE} {Kf:Hp->Prop} {σ0:St} {H0:Hp} {p:Addr} (Pv:Nat->St->Hp->Prop) (h0:Pv 0 σ0 H0)
  (hs:∀ i σ H,i<n->Pv i σ H->g (.int (lo+i)) σ H fun σ2 H2=>tc σ2 H2 fun b H3=>if b=true then te σ2 H3 fun y H4=>∃ ys,H4 p=some (.lst ys)/\ys.length<sizeLine/\Pv (i+1) σ2 (Ai H4 p (.lst (ys++[y]))) else Pv (i+1) σ2 H3)
  (hd:∀ σ H,Pv n σ H->Kf H) :
  ∃ W:Nat->Nat->St->Hp->Prop,(∃ m,W 0 m σ0 H0)/\∀ i m σ H,W i m σ H->
   ((Itr lo n).stop i H/\Kf H)\/((Itr lo n).go i H/\∃ N:St->Hp->Prop,(∀ σ' H',N σ' H'->∃ m',m'<m/\W (i+1) m' σ' H')/\∀ x H',(Itr lo n).yld i H x H'->g x σ H' fun σ2 H2=>tc σ2 H2 fun b H3=>
    if b=true then te σ2 H3 fun y H4=>∃ ys,H4 p=some (.lst ys)/\ys.length<sizeLine/\N σ2 (Ai H4 p (.lst (ys++[y]))) else N σ2 H3):=by
 refine ⟨fun i m σ H=>m=n - i/\i<=n/\Pv i σ H,⟨n,by simp,E8 _,h0⟩,?_⟩
 rintro i m σ H ⟨rfl,hi,q⟩;by_cases hlt:i<n
 ·refine .inr ⟨hlt,Pv (i+1),fun σ' H' p'=>⟨n - (i+1),by omega,rfl,hlt,p'⟩,fun x H' y=>?_⟩
  obtain ⟨e,y⟩:=y;subst e y;exact hs i σ _ hlt q
 ·have e:i=n:=by omega
  subst e;exact .inl ⟨A5 _,hd σ H q⟩
theorem qHT {K:PySem.W.Frag} {a:Addr} {xs:List V} {g:TG} {tc:TT} {te:TE} {Kf:Hp->Prop} {σ0:St} {H0:Hp} {p:Addr} (Pv:Nat->St->Hp->Prop) (h0:Pv 0 σ0 H0) (hl:∀ i σ H,i<=xs.length->Pv i σ H->SqL K H a xs)
  (hs:∀ i x σ H,xs[i]?=some x->Pv i σ H->g x σ H fun σ2 H2=>tc σ2 H2 fun b H3=>if b=true then te σ2 H3 fun y H4=>∃ ys,H4 p=some (.lst ys)/\ys.length<sizeLine/\Pv (i+1) σ2 (Ai H4 p (.lst (ys++[y]))) else Pv (i+1) σ2 H3)
  (hd:∀ σ H,Pv xs.length σ H->Kf H) :
  ∃ W:Nat->Nat->St->Hp->Prop,(∃ m,W 0 m σ0 H0)/\∀ i m σ H,W i m σ H->
   ((Itl K a).stop i H/\Kf H)\/((Itl K a).go i H/\∃ N:St->Hp->Prop,(∀ σ' H',N σ' H'->∃ m',m'<m/\W (i+1) m' σ' H')/\∀ x H',(Itl K a).yld i H x H'->g x σ H' fun σ2 H2=>tc σ2 H2 fun b H3=>
    if b=true then te σ2 H3 fun y H4=>∃ ys,H4 p=some (.lst ys)/\ys.length<sizeLine/\N σ2 (Ai H4 p (.lst (ys++[y]))) else N σ2 H3):=by
 refine ⟨fun i m σ H=>m=xs.length - i/\i<=xs.length/\Pv i σ H,⟨xs.length,by simp,E8 _,h0⟩,?_⟩
 rintro i m σ H ⟨rfl,hi,q⟩;have hq:=hl i σ H hi q;by_cases hlt:i<xs.length
 ·refine .inr ⟨⟨xs,xs[i],hq,by simp [hlt]⟩,Pv (i+1),fun σ' H' p'=>⟨xs.length - (i+1),by omega,rfl,hlt,p'⟩,fun x H' y=>?_⟩
  obtain ⟨e,y⟩:=y;subst e;exact hs i x σ _ (y xs hq) q
 ·have e:i=xs.length:=by omega
  subst e;exact .inl ⟨⟨xs,hq,A5 _⟩,hd σ H q⟩
theorem qH2 {K:PySem.W.Frag} {a:Addr} {xs:List V} {g:TG} {tc:TT} {te:TE} {Kf:Hp->Prop} {σ0:St} {H0:Hp} {p:Addr} (Pv:Nat->St->Hp->Prop) (h0:Pv 0 σ0 H0) (hl:∀ i σ H,i<=xs.length->Pv i σ H->SqT K H a xs)
  (hs:∀ i x σ H,xs[i]?=some x->Pv i σ H->g x σ H fun σ2 H2=>tc σ2 H2 fun b H3=>if b=true then te σ2 H3 fun y H4=>∃ ys,H4 p=some (.lst ys)/\ys.length<sizeLine/\Pv (i+1) σ2 (Ai H4 p (.lst (ys++[y]))) else Pv (i+1) σ2 H3)
  (hd:∀ σ H,Pv xs.length σ H->Kf H) :
  ∃ W:Nat->Nat->St->Hp->Prop,(∃ m,W 0 m σ0 H0)/\∀ i m σ H,W i m σ H->
   ((Itt K a).stop i H/\Kf H)\/((Itt K a).go i H/\∃ N:St->Hp->Prop,(∀ σ' H',N σ' H'->∃ m',m'<m/\W (i+1) m' σ' H')/\∀ x H',(Itt K a).yld i H x H'->g x σ H' fun σ2 H2=>tc σ2 H2 fun b H3=>
    if b=true then te σ2 H3 fun y H4=>∃ ys,H4 p=some (.lst ys)/\ys.length<sizeLine/\N σ2 (Ai H4 p (.lst (ys++[y]))) else N σ2 H3):=by
 refine ⟨fun i m σ H=>m=xs.length - i/\i<=xs.length/\Pv i σ H,⟨xs.length,by simp,E8 _,h0⟩,?_⟩
 rintro i m σ H ⟨rfl,hi,q⟩;have hq:=hl i σ H hi q;by_cases hlt:i<xs.length
 ·refine .inr ⟨⟨xs,xs[i],hq,by simp [hlt]⟩,Pv (i+1),fun σ' H' p'=>⟨xs.length - (i+1),by omega,rfl,hlt,p'⟩,fun x H' y=>?_⟩
  obtain ⟨e,y⟩:=y;subst e;exact hs i x σ _ (y xs hq) q
 ·have e:i=xs.length:=by omega
  subst e;exact .inl ⟨⟨xs,hq,A5 _⟩,hd σ H q⟩
def qTJ (scope:Scope) (own:List Str) (fv:List Nat) (osc:Scope) (N:List Str):Bool:=
 decide (scope.kind=.function) && scope.names.all (fun y=>decide (y.2 ≠ .cell)) && scope.names.all (fun y=>decide (y.2 ≠ .local) || decide (scope.names.lookup y.1=some .local)) &&
 scope.names.all (fun y=>decide (y.2 ≠ .free) || (decide (osc.names.lookup y.1=some .cell) || decide (osc.names.lookup y.1=some .free))) && decide ((own++fv.map fun i=>N.getD i Q3).Nodup) &&
 fv.all fun i=>decide (i<N.length) && decide (scope.names.lookup (N.getD i Q3)=some .free)
theorem lcs {X:Cx} {scope:Scope} {own:List Str} {fv:List Nat} (h:qTJ scope own fv X.env.scope X.N=true):LcScope X scope own fv:=by
 unfold qTJ at h;simp only [E1,decide_eq_true_eq,G9,M8] at h;obtain ⟨⟨⟨⟨⟨h1,h2⟩,h3⟩,h4⟩,h5⟩,h6⟩:=h;exact ⟨h1,h2,fun y hy e=>(h3 y hy).resolve_left fun z=>z e,fun y hy e=>(h4 y hy).resolve_left fun z=>z e,h5,h6⟩
theorem qCA {N:List Str} (h:decide N.Nodup=true):N.Nodup:=of_decide_eq_true h
theorem qJM {X:Cx} {K:PySem.W.Frag} {es:List Expr} {k n:Nat} {t:TGs} {pos:Pos} (hK:X.K=K) (hc:X.calm=true) (h:PGs X es t) (hn:(assignEach es X.env).length=n) (hst:(assignEach es X.env).findIdx? (·.1)=none):PG X (.Tuple es k pos) (gTup K n t):=by
 subst hK hn;exact qDU hc h rfl hst
theorem qYX {X:Cx} {K:PySem.W.Frag} {tg l:Expr} {tl:TE} (hK:X.K=K) (hl:PE X l tl):PI X tg l (iTup K tl):=by subst hK;exact qFG hl
theorem qVW {X:Cx} {K:PySem.W.Frag} {tg l:Expr} {tl:TE} (hK:X.K=K) (hl:PE X l tl):PI X tg l (qbX K tl):=by subst hK;exact qC3 hl
theorem qFJ {X:Cx} {K:PySem.W.Frag} (hK:X.K=K):IxR X (rIxT K):=by subst hK;exact qB0
theorem qEX {X:Cx} {K:PySem.W.Frag} (hK:X.K=K):IxR X (rIxL K):=by subst hK;exact qC5
theorem qQ1 {X:Cx} {K:PySem.W.Frag} (hK:X.K=K):OpR X (compareOp .In) (rIn K false):=by subst hK;exact qEJ
theorem qEI {X:Cx} {K:PySem.W.Frag} (hK:X.K=K):OpR X (compareOp .NotIn) (rIn K true):=by subst hK;exact qDV
theorem qUO {X:Cx} {K:PySem.W.Frag} (hK:X.K=K):qDD X (.builtin "len") (fun xs H Q=>∃ p ys,xs=[.ref p]/\(SqL K H p ys\/SqT K H p ys)/\Q (.int ys.length) H):=by subst hK;exact qAB
theorem qK2 {X:Cx} {K:PySem.W.Frag} (hK:X.K=K):qDD X (.type "tuple") (fun xs H Q=>∃ p ys,xs=[.ref p]/\((SqL K H p ys/\∀ l,H l=none->Q (.ref l) (Ai H l (.tup ys)))\/(SqT K H p ys/\Q (.ref p) H))):=by subst hK;exact qAZ
theorem qML {xs:Array Nat} {j:Nat} (up:∀ a b,a<b->b<xs.size->xs.getD a j<xs.getD b j):∀ (fuel lo hi:Nat),lo<=hi->hi<=xs.size->hi - lo<=fuel->(∀ i,i<lo->xs.getD i j<j)->(∀ i,hi<=i->i<xs.size->j<=xs.getD i j)->
  b4 xs j fuel lo hi<=xs.size/\(∀ i,i<b4 xs j fuel lo hi->xs.getD i j<j)/\(∀ i,b4 xs j fuel lo hi<=i->i<xs.size->j<=xs.getD i j)
 | 0,lo,hi,h1,h2,h3,a,b=>by
  have e:lo=hi:=by omega
  subst e;exact ⟨h2,a,b⟩
 | fuel+1,lo,hi,h1,h2,h3,a,b=>by
  unfold b4;by_cases hlt:lo<hi
  ·rw [if_pos hlt];dsimp only;have hm1:lo<=(lo+hi) / 2:=by omega
   have hm2:(lo+hi) / 2<hi:=by omega
   by_cases hc:xs.getD ((lo+hi) / 2) j<j
   ·rw [if_pos hc];refine qML up fuel _ _ (by omega) h2 (by omega) (fun i hi'=>?_) b
    by_cases e:i=(lo+hi) / 2
    ·rw [e];exact hc
    ·exact j9 (up i ((lo+hi) / 2) (by omega) (by omega)) hc
   ·rw [if_neg hc];refine qML up fuel _ _ (by omega) (by omega) (by omega) a (fun i hi' hs=>?_)
    by_cases e:i=(lo+hi) / 2
    ·rw [e];omega
    ·have:=up ((lo+hi) / 2) i (by omega) hs
     omega
  ·rw [if_neg hlt];have e:lo=hi:=by omega
   subst e;exact ⟨h2,a,b⟩
theorem qYI {xs:Array Nat} (j:Nat) (h:xs.toList.Pairwise (·<·)):∀ a b,a<b->b<xs.size->xs.getD a j<xs.getD b j:=fun a b hab hb=>by
 have:=J6.mp h a b (by simpa using j9 hab hb) (by simpa using hb) hab
 rw [G2,G2,G1 (j9 hab hb),G1 hb];simpa using this
theorem qHX {xs:Array Nat} {j:Nat} (h:xs.toList.Pairwise (·<·)):F0 xs j<=xs.size/\(∀ i,i<F0 xs j->xs.getD i j<j)/\(∀ i,F0 xs j<=i->i<xs.size->j<=xs.getD i j):=by
 unfold F0;exact qML (qYI j h) xs.size 0 xs.size (E8 _) (A5 _) (by omega) (fun i hi=>absurd hi (by omega)) (fun i hi hs=>absurd hs (by omega))
theorem qCM {α:Type} (xs:Array α) (p:Nat) (x:α):(F7 xs p x).toList=xs.toList.take p++x::xs.toList.drop p:=by
 unfold F7;simp [Array.toList_extract,J8]
structure T7 (byText:Bool) (t:SetTable) (n:Nat):Prop where
 mask:t.mask=7
 dum:t.dummies=#[]
 plain:t.plain=true
 led:t.led=!byText
 size:t.place.size=n
 up:t.place.toList.Pairwise (·<·)
 le:∀ j ∈ t.place.toList,j<=7
section
variable {byText:Bool} {t:SetTable} {n:Nat}
theorem T7.slot (T:T7 byText t n) (j:Nat):(t.slot j=.empty/\j ∉ t.place.toList)\/(∃ i,t.slot j=.live i/\j ∈ t.place.toList):=by
 unfold SetTable.slot;dsimp only;have hd:A79 t.dummies j=false:=by rw [T.dum];rfl
 obtain ⟨b1,b2,b3⟩:=qHX (j:=j) T.up;by_cases hc:t.place[F0 t.place j]?=some j
 ·rw [if_pos (by rw [hc];simp)]
  exact .inr ⟨_,rfl,by rw [<- Array.mem_def];exact Array.mem_of_getElem? hc⟩
 ·rw [if_neg (by simpa using hc),hd,if_neg (by simp)]
  refine .inl ⟨rfl,fun hm=>?_⟩;obtain ⟨i,hi,he⟩:=V2.mp hm;have hi':i<t.place.size:=by simpa using hi
  have he':t.place.getD i j=j:=by
   rw [G2,G1 hi'];simpa using he
  have h1:¬ i<F0 t.place j:=fun z=>by have:=b2 i z;omega
  have h2:F0 t.place j=i:=by
   apply Nat.le_antisymm (W0 h1);apply W0;intro z;have:=b3 (F0 t.place j) (A5 _) (by omega)
   have:=qYI j T.up _ _ z hi';omega
  apply hc;rw [h2,G1 hi'];simpa using he
def pr (i pt:Nat):SetTable.Probe:={ j:=i,more:=0,i:=i,perturb:=pt,dummy:=none }
theorem T7.adv (T:T7 byText t n) (i pt:Nat):t.advance (pr i pt)=pr ((i * 5+1+pt / 32) % 8) (pt / 32):=by
 unfold SetTable.advance pr SetTable.leap A54;rw [T.mask];dsimp only;rw [if_neg (by omega),if_neg (by omega),A36]
theorem T7.go1 (T:T7 byText t n) (h:Int) (f i pt:Nat) :
  (R7 t (fun _=>h+1) h (f+1) (pr i pt)=some (.empty i none)/\i ∉ t.place.toList)\/
  (R7 t (fun _=>h+1) h (f+1) (pr i pt)=R7 t (fun _=>h+1) h f (pr ((i * 5+1+pt / 32) % 8) (pt / 32))/\i ∈ t.place.toList):=by
 rcases T.slot i with ⟨e,m⟩ | ⟨k,e,m⟩
 ·left
  refine ⟨?_,m⟩;unfold R7;rw [show (pr i pt).j=i from rfl,e]
  rfl
 ·right
  refine ⟨?_,m⟩;rw [R7];rw [show (pr i pt).j=i from rfl,e];dsimp only;rw [if_neg (by simp;omega),T.adv]
def F8 (i:Nat):Nat:=(i * 5+1) % 8
def F8n:Nat->Nat->Nat
 | 0,i=>i
 | m+1,i=>F8n m (F8 i)
theorem T7.go0 (T:T7 byText t n) (h:Int) (f:Nat):∀ (m i:Nat),(∃ j,R7 t (fun _=>h+1) h (m+f) (pr i 0)=some (.empty j none)/\j ∉ t.place.toList/\∃ q,q<m/\j=F8n q i)\/(∀ q,q<m->F8n q i ∈ t.place.toList)
 | 0,i=>.inr fun q hq=>absurd hq (by omega)
 | m+1,i=>by
  rcases T.go1 h (m+f) i 0 with ⟨e,z⟩ | ⟨e,z⟩
  ·exact .inl ⟨i,by rw [show m+1+f=m+f+1 by omega];exact e,z,0,by omega,rfl⟩
  ·rw [show m+1+f=m+f+1 by omega,e]
   have e2:(i * 5+1+0 / 32) % 8=F8 i:=by unfold F8;omega
   rw [e2];rcases T.go0 h f m (F8 i) with ⟨j,e3,z3,q,hq,e4⟩ | e3
   ·exact .inl ⟨j,e3,z3,q+1,by omega,e4⟩
   ·refine .inr fun q hq=>?_;cases q with
    | zero=>exact z
    | succ q=>exact e3 q (by omega)
theorem qcB:∀ i:_root_.Fin 8,∀ j:_root_.Fin 8,∃ q:_root_.Fin 8,F8n q.1 i.1=j.1:=by decide
theorem qcA:∀ (q i:Nat),i<8->F8n q i<8
 | 0,i,h=>h
 | q+1,i,h=>qcA q (F8 i) (A31 _ (by decide))
theorem T7.goK (T:T7 byText t n) (hn:n<=7) (h:Int) (f:Nat):∀ (k i pt:Nat),i<8->pt<32 ^ k->∃ j,R7 t (fun _=>h+1) h (k+(8+f)) (pr i pt)=some (.empty j none)/\j ∉ t.place.toList/\j<=7
 | 0,i,pt,hi,hp=>by
  have e:pt=0:=by omega
  subst e;rw [A37];rcases T.go0 h f 8 i with ⟨j,e,z,q,hq,e2⟩ | e
  ·exact ⟨j,e,z,by have:=qcA q i hi;omega⟩
  ·exfalso
   have sub:[0,1,2,3,4,5,6,7] ⊆ t.place.toList:=fun j hj=>by
    have hj8:j<8:=by
     simp at hj;omega
    obtain ⟨q,hq⟩:=qcB ⟨i,hi⟩ ⟨j,hj8⟩;rw [<- show F8n q.1 i=j from hq];exact e q.1 q.2
   have:=J4 (by decide:[0,1,2,3,4,5,6,7].Nodup) sub
   have hs:=T.size;simp at this;omega
 | k+1,i,pt,hi,hp=>by
  rw [show k+1+(8+f)=k+(8+f)+1 by omega]
  rcases T.go1 h (k+(8+f)) i pt with ⟨e,z⟩ | ⟨e,z⟩
  ·exact ⟨i,e,z,by omega⟩
  ·rw [e];refine T.goK hn h f k _ _ (A31 _ (by decide)) ?_
   rw [Nat.pow_succ] at hp;omega
theorem T7.free (T:T7 byText t n) (hn:n<=7) (h:Int):∃ j,t.freeSlot h=some (j,false)/\j ∉ t.place.toList/\j<=7:=by
 have hb:Z2 h<32 ^ 13:=by
  unfold Z2;have h1:0<=h % (2 ^ 64:Int):=W8 _ (by decide)
  have h2:h % (2 ^ 64:Int)<2 ^ 64:=U8 _ (by decide)
  have:((2:Int) ^ 64)=18446744073709551616:=by decide
  rw [this] at h1 h2 ⊢;have h3:(32:Nat) ^ 13=36893488147419103232:=by decide
  omega
 obtain ⟨j,e,z,l⟩:=T.goK hn h 199 13 (Z2 h % 8) (Z2 h) (A31 _ (by decide)) hb
 refine ⟨j,?_,z,l⟩;have hst:t.probeStart h=pr (Z2 h % 8) (Z2 h):=by
  unfold SetTable.probeStart pr A54;rw [T.mask];dsimp only;rw [if_neg (by omega),A36]
 unfold SetTable.freeSlot SetTable.probe;rw [hst,show 10 * SetTable.turns t.mask=13+(8+199) by rw [T.mask];rfl,e]
 rfl
theorem T7.lay (T:T7 byText t n) (hn:n<=3) {es:Array (Int × Value)} (he:es.size=n) (h:Int) (x:Value) :
  ∃ p t',layNew t es h x=(F7 es p (h,x),t',false,false)/\T7 byText t' (n+1)/\t'.tooFull=false/\p<=es.size:=by
 obtain ⟨j,e,z,l⟩:=T.free (by omega) h
 obtain ⟨b1,b2,b3⟩:=qHX (j:=j) T.up;have hd:A79 t.dummies j=false:=by rw [T.dum];rfl
 have tl:(F7 t.place (F0 t.place j) j).toList=t.place.toList.take (F0 t.place j)++j::t.place.toList.drop (F0 t.place j):=qCM _ _ _;have sz:(F7 t.place (F0 t.place j) j).size=n+1:=by
  rw [<- E7,tl,A4,B3,C1,F5,E7,T.size];rw [T.size] at b1;omega
 have T':T7 byText { t with place:=F7 t.place (F0 t.place j) j,dummies:=t.dummies } (n+1):=by
  refine ⟨T.mask,T.dum,T.plain,T.led,sz,?_,?_⟩
  ·show (F7 t.place (F0 t.place j) j).toList.Pairwise (·<·);rw [tl];have geti:∀ i,i<t.place.size->t.place.getD i j=t.place.toList.getD i j:=fun i hi=>by
    rw [G2,O9,O4]
   have lo:∀ a ∈ t.place.toList.take (F0 t.place j),a<j:=fun a ha=>by
    obtain ⟨i,hi,hai⟩:=V2.mp ha;rw [C1,E7] at hi;have hi1:i<F0 t.place j:=by omega
    have hi2:i<t.place.size:=by omega
    have:=b2 i hi1;rw [G2,G1 hi2] at this;rw [o6] at hai;rw [<- hai];simpa using this
   have hi:∀ a ∈ t.place.toList.drop (F0 t.place j),j<a:=fun a ha=>by
    have hm:a ∈ t.place.toList:=Q8 ha;obtain ⟨i,hi,hai⟩:=V2.mp ha;rw [F5,E7] at hi;have hi2:F0 t.place j+i<t.place.size:=by omega
    have:=b3 _ (Nat.le_add_right _ i) hi2;rw [G2,G1 hi2] at this;rw [b5] at hai;have h3:j<=a:=by
     rw [<- hai];simpa using this
    rcases Nat.lt_or_eq_of_le h3 with h4 | h4
    ·exact h4
    ·exact absurd (h4 ▸ hm) z
   refine d5.mpr ⟨T.up.sublist (n9 _ _),G0.mpr ⟨hi,T.up.sublist (o7 _ _)⟩,fun a ha b hb=>?_⟩;rcases B7.mp hb with e | hb
   ·rw [e];exact lo a ha
   ·exact j9 (lo a ha) (hi b hb)
  ·show ∀ i ∈ (F7 t.place (F0 t.place j) j).toList,i<=7;rw [tl];intro i hi;rcases B8.mp hi with hi | hi
   ·exact T.le i (d6 hi)
   ·rcases B7.mp hi with e | hi
    ·omega
    ·exact T.le i (Q8 hi)
 have fits:A19 { t with place:=F7 t.place (F0 t.place j) j,dummies:=t.dummies } (n+1)=true:=by
  unfold A19 A20;dsimp only;rw [sz,T.dum,T.mask];have:((#[]:Array Nat)).size=0:=rfl;simp only [this,beq_self_eq_true,t6,decide_eq_true_eq];omega
 have szE:(F7 es (F0 t.place j) (h,x)).size=n+1:=by
  rw [<- E7,qCM,A4,B3,C1,F5,E7];rw [T.size] at b1;omega
 refine ⟨F0 t.place j,{ t with place:=F7 t.place (F0 t.place j) j,dummies:=t.dummies },?_,T',?_,by rw [he,<- T.size];exact b1⟩
 ·unfold layNew;rw [e];dsimp only;unfold SetTable.put;rw [hd];dsimp only;rw [szE];unfold SetTable.orStandIn;simp only [L5,if_false];rw [fits];simp
 ·unfold SetTable.tooFull A20;dsimp only;rw [sz,T.dum,T.mask];have:((#[]:Array Nat)).size=0:=rfl;rw [this];exact decide_eq_false (by omega)
end
theorem qL2 {α:Type}:∀ (l:List α) (i:Nat) (h:i<l.length),(l[i]::l.eraseIdx i).Perm l
 | [],i,h=>absurd h (by simp)
 | a::r,0,h=>.refl _
 | a::r,i+1,h=>by
  have hi:i<r.length:=by simpa using h
  have ih:=qL2 r i hi;show (r[i]::a::r.eraseIdx i).Perm (a::r);exact (List.Perm.swap _ _ _).trans (ih.cons a)
theorem qSS {α:Type} (next:Nat->Nat):∀ (fuel k:Nat) (left:List α) (out:Array α),fuel=left.length->(A38 next fuel k left out).toList.Perm (out.toList++left)
 | 0,k,left,out,h=>by
  have:left=[]:=Z3.mp h.symm;subst this;unfold A38;simp
 | fuel+1,k,left,out,h=>by
  have hl:0<left.length:=by omega
  have hm:next k % left.length<left.length:=A31 _ hl;unfold A38;rw [A3 hm];dsimp only;refine (qSS next fuel (k+1) _ _ (by rw [List.length_eraseIdx_of_lt hm];omega)).trans ?_
  rw [Array.toList_push,G8];exact W9 _ (qL2 left _ hm)
theorem qSR {α:Type} (next:Nat->Nat) (xs:Array α):(pickOrder next xs).toList.Perm xs.toList:=by
 unfold pickOrder;have:=qSS next xs.size 0 xs.toList #[] (by simp)
 simpa using this
abbrev Ents:List Int->List (Int × Value)->Prop:=Paired fun k e=>∃ tk,e=(hashInt k,Q1 k tk)
theorem Ents.perm:∀ {es es':List (Int × Value)} {ks:List Int},Ents ks es->es'.Perm es->∃ ks',Ents ks' es'/\ks'.Perm ks:=by
 intro es es' ks h p;have key:∀ {a b:List (Int × Value)},a.Perm b->∀ ks,Ents ks b->∃ ks',Ents ks' a/\ks'.Perm ks:=by
  intro a b p
  induction p with
  | nil=>intro ks h;exact ⟨ks,h,.refl _⟩
  | cons x p ih=>
   intro ks h;cases h with
   | cons r t=>
    obtain ⟨ks',h1,h2⟩:=ih _ t;exact ⟨_::ks',.cons r h1,h2.cons _⟩
  | swap x y l=>
   intro ks h;cases h with
   | cons r t=>
    cases t with
    | cons r' t'=>exact ⟨_,.cons r' (.cons r t'),.swap _ _ _⟩
  | trans p q ih1 ih2=>
   intro ks h;obtain ⟨k1,h1,h2⟩:=ih2 ks h;obtain ⟨k2,h3,h4⟩:=ih1 k1 h1;exact ⟨k2,h3,h4.trans h2⟩
 exact key p ks h
theorem Ents.elems {prog:Program} {w:World} {es:List (Int × Value)} {ks:List Int} (h:Ents ks es):ElemsOf (intKind prog w) es:=by
 intro e he;have key:∀ {ks:List Int} {es:List (Int × Value)},Ents ks es->∀ e ∈ es,∃ k tk,e=(hashInt k,Q1 k tk):=by
  intro ks es h
  induction h with
  | nil=>intro e he;cases he
  | cons r t ih=>
   intro e he;rcases B7.mp he with z | z
   ·subst z;obtain ⟨tk,e⟩:=r;exact ⟨_,tk,e⟩
   ·exact ih e z
 obtain ⟨k,tk,rfl⟩:=key h e he;exact ⟨⟨k,by simp [intKind,r8],rfl⟩,rfl⟩
theorem Ents.find {prog:Program} {w:World} {k:Int}:∀ {es:List (Int × Value)} {ks:List Int},Ents ks es->((A71 (fun e=>(intKind prog w).is k e.2) es).isSome=true ↔ k ∈ ks)
 | _,_,.nil=>by simp
 | _,_,.cons r t=>by
  obtain ⟨tk,rfl⟩:=r
  rename_i k' ks' es'
  have ih:=Ents.find (prog:=prog) (w:=w) (k:=k) t;rw [List.findIdx?_cons,B7];have hi:(intKind prog w).is k (Q1 k' tk)=decide (k=k'):=by
   by_cases e:k=k'
   ·simp [intKind,r8,e]
   ·have e':¬ k'=k:=fun z=>e z.symm;simp [intKind,r8,e,e']
  dsimp only;rw [hi];by_cases e:k=k'
  ·simp [e]
  ·simp only [e,decide_false,L5,if_false,false_or,o5];exact ih
def byT (w:World):Bool:=w.params.followText "set-order"
def SetI (w:World) (a:Addr) (zs:List Int) (h:Heap):Prop:=
 ∃ (es:Array (Int × Value)) (ep:Nat) (t:SetTable) (ks:List Int),h.get? a=some { cls:=.type "set",data:=.set es ep t }/\T7 (byT w) t es.size/\Ents ks es.toList/\ks.Perm zs/\zs.Nodup/\zs.length<=4
theorem SetI.at {w:World} {a:Addr} {zs:List Int} {h h':Heap} (x:SetI w a zs h) (k:∀ o,h.get? a=some o->h'.get? a=some o):SetI w a zs h':=
 let ⟨es,ep,t,ks,h1,r⟩:=x;⟨es,ep,t,ks,k _ h1,r⟩
theorem T7.fits {b:Bool} {t:SetTable} {n:Nat} (T:T7 b t n) (hn:n<=7):t.fits n=true:=by
 unfold A19 A20;rw [T.size,T.dum,T.mask];have:((#[]:Array Nat)).size=0:=rfl;simp only [this,beq_self_eq_true,t6,decide_eq_true_eq];omega
def addI (zs:List Int) (k:Int):List Int:=if k ∈ zs then zs else zs++[k]
section
variable {prog:Program} {w:World} {A:Around} {E:Value->Shared->Prop} {s:Shared}
theorem SetI.size {a:Addr} {zs:List Int} {h:Heap} {es:Array (Int × Value)} {ks:List Int} (he:Ents ks es.toList) (hp:ks.Perm zs):es.size=zs.length:=by
 rw [<- hp.length_eq,B2 he,E7]
theorem qVF {a:Addr} {zs:List Int} {k:Int} {tk:Tok} {Q:Bool->Shared->Prop} (hS:SetI w a zs s.heap) (hroom:zs.length<=3\/k ∈ zs)
  (h:∀ h',Heap.SameBut a s.heap h'->SetI w a (addI zs k) h'->∀ b,Q b { s with heap:=h' }):wpAny (model prog w) A (setAddHashed a (.int k tk) (hashInt k)) Q E s:=by
 obtain ⟨es,ep,t,ks,ho,T,he,hp,hnd,hlen⟩:=id hS;have hsz:es.size=zs.length:=SetI.size (a:=a) (h:=s.heap) he hp;have hel:ElemsOf (intKind prog w) es.toList:=he.elems;have hb:es.size<scanBound:=by rw [hsz];unfold scanBound;omega
 have hf:t.fits es.size=true:=T.fits (by omega)
 unfold setAddHashed setAddHashedIn;refine wpAny_holding (wpAny_bind (wpAny_setState_of ho rfl hf ?_));dsimp only;rw [byScan_of (knd:=intKind prog w) (x:=.int k tk) rfl hb hel];simp only [↓reduceIte];unfold setAddByScan;refine wpAny_bind ?_;refine wpAny_bind (wpAny_rule ?_);refine wpAny_bind (wpAny_setScan_of (knd:=intKind prog w) (k:=k) (intKind_is _ _ _ _) ho rfl hf hel ?_);have hfd:=Ents.find (prog:=prog) (w:=w) (k:=k) he;cases hr:A71 (fun e=>(intKind prog w).is k e.2) es.toList with
 | some j=>
  dsimp only;rw [hr] at hfd;have hk:k ∈ zs:=hp.mem_iff.mp (hfd.mp rfl);refine wpAny_pure (wpAny_pure ?_);have e:s={ s with heap:=s.heap }:=by cases s;rfl
  rw [e];refine h s.heap (Heap.SameBut.refl a s.heap) ?_ _;unfold addI;rw [if_pos hk];exact hS
 | none=>
  dsimp only;rw [hr] at hfd;have hk:¬ k ∈ zs:=fun z=>by have:=hfd.mpr (hp.mem_iff.mpr z);cases this
  have h3:zs.length<=3:=hroom.resolve_right hk;obtain ⟨p,t',e1,T',tf,hpe⟩:=T.lay (by omega) rfl (hashInt k) (.int k tk)
  rw [e1];dsimp only;refine wpAny_bind (wpAny_pure ?_);rw [T'.plain];simp only [↓reduceIte];rw [hashByValue_scannable 8 (x:=.int k tk) rfl];refine wpAny_bind (wpAny_pure ?_);have hszE:(F7 es p (hashInt k,Q1 k tk)).size=es.size+1:=by
   rw [<- E7,qCM,A4,B3,C1,F5,E7];omega
  rw [show plainKind (Q1 k tk)=true from rfl];simp only [↓reduceIte];show wpAny _ _ (storeSet a (F7 es p (hashInt k,.int k tk)) t' >>= _) _ _ _;refine wpAny_bind (wpAny_storeSet_of ho rfl ?_ (by rw [hszE,hsz,sizeLine_eq];omega))
  rw [tf];simp only [m5,L5,↓reduceIte];refine wpAny_pure (wpAny_pure ?_);refine h _ (X9 s.heap a _) ?_ _;have hg:(s.heap.update a (Obj.putSet (F7 es p (hashInt k,.int k tk)) t')).get? a=some { cls:=.type "set",data:=.set (F7 es p (hashInt k,.int k tk)) (ep+1) t' }:=by
   have:=O2 (Obj.putSet (F7 es p (hashInt k,.int k tk)) t') ho (by rw [putSet_of _ _ (ep:=ep) (es:=es) (t:=t) rfl];rfl)
   rw [putSet_of _ _ (ep:=ep) (es:=es) (t:=t) rfl] at this;exact this
  have hpm:(F7 es p (hashInt k,Q1 k tk)).toList.Perm (es.toList++[(hashInt k,.int k tk)]):=by
   rw [qCM];have e3:es.toList++[(hashInt k,Q1 k tk)]=es.toList.take p++(es.toList.drop p++[(hashInt k,Q1 k tk)]):=by
    rw [<- G8,J5]
   rw [e3];exact W9 _ (List.perm_append_singleton _ _).symm
  obtain ⟨ks',h4,h5⟩:=Ents.perm (ks:=ks++[k]) (a9 he ⟨tk,rfl⟩) hpm;refine ⟨_,_,t',ks',hg,by rw [hszE];exact T',h4,?_,?_,?_⟩
  ·unfold addI;rw [if_neg hk];exact h5.trans (hp.append_right _)
  ·unfold addI;rw [if_neg hk];exact qJQ hnd hk
  ·unfold addI;rw [if_neg hk,A4,A9];omega
end
def dedI:List Int->List Int:=fun l=>l.foldl addI []
theorem qXB (zs:List Int) (k:Int):(addI zs k).length<=zs.length+1:=by
 unfold addI
 split <;> simp
theorem qE9:∀ (l zs:List Int),(l.foldl addI zs).length<=zs.length+l.length
 | [],zs=>by simp
 | k::r,zs=>by
  have h1:=qE9 r (addI zs k);have h2:=qXB zs k;rw [Y9,B3];omega
section
variable {prog:Program} {w:World} {A:Around} {R:Result->Shared->Prop} {I:Addr} {fp wr:List Addr} {G:Array GenState->Array GenState->Prop} {n:Nat} {P:Nat->Value->Prop} {St:Nat->Shared->Prop}
theorem qN6 (W:WalksS prog w A.in1 I fp wr G n P St) (S:Addr) (hSf:S ∉ fp) (ns:List Int) (hnn:ns.length=n) (h4:n<=4) (hval:∀ i v,P i v->∃ t,v=.int (ns.getD i 0) t) :
  ∀ (k i:Nat) (s:Shared),n - i=k->i<=n->St i s->SetI w S (dedI (ns.take i)) s.heap->
   (∀ s',Moved (S::wr) G s s'->SetI w S (dedI ns) s'.heap->R (.ok (.ret .none)) s')->
   codeAny (model prog w) A (.builtin "set.update.loop" ⟨[.ref S,.ref I],[]⟩) R s:=by
 have hSw:S ∉ wr:=fun h=>hSf (W.sub _ h);have hsub:∀ b ∈ wr,b ∈ S::wr:=fun b hb=>A7 _ hb;intro k
 induction k with
 | zero=>
  intro i s hk hi hst hS hR;have hin:i=n:=by omega
  subst hin;refine codeAny_builtin F.entry_set_update_loop ?_;rw [J7 F.plain_set_update_loop _];show wpAny _ A.in1 (pyNext (.ref I) >>= _) _ _ s;refine wpAny_bind (W.done s _ _ hst fun s' hm=>?_);show wpAny _ A.in1 (ret W2) _ _ s';rw [J8 (by omega)] at hS
  exact wpAny_pure (hR s' (hm.mono hsub) (hS.at fun o e=>hm.heap S _ hSw e))
 | succ k ih=>
  intro i s hk hi hst hS hR;have hlt:i<n:=by omega
  refine codeAny_builtin F.entry_set_update_loop ?_;rw [J7 F.plain_set_update_loop _];show wpAny _ A.in1 (pyNext (.ref I) >>= _) _ _ s;refine wpAny_bind (W.item i s _ _ hlt hst fun v s' hP hst' hm=>?_);obtain ⟨t,rfl⟩:=hval i v hP;have hS':SetI w S (dedI (ns.take i)) s'.heap:=hS.at fun o e=>hm.heap S _ hSw e;show wpAny _ A.in1 (holding [Q1 (ns.getD i 0) t] (setAdd S (.int (ns.getD i 0) t)) >>= _) _ _ s';refine wpAny_bind (wpAny_holding ?_);unfold setAdd;refine wpAny_holding ?_;refine wpAny_bind ((intKind prog w).pyHash (k:=ns.getD i 0) (intKind_is _ _ _ _) ?_);have hroom:(dedI (ns.take i)).length<=3:=by
   have:=qE9 (ns.take i) [];rw [C1] at this;unfold dedI;simp at this;omega
  refine qVF (s:={ s' with toks:=s'.toks+1 }) hS' (.inl hroom) fun h' hsb hS2 b=>?_;have e2:addI (dedI (ns.take i)) (ns.getD i 0)=dedI (ns.take (i+1)):=by
   have hi':i<ns.length:=by omega
   rw [D5,A3 hi',D4];unfold dedI;rw [List.foldl_append,Y9,A58,O9,A3 hi',U5]
  rw [e2] at hS2;refine wpAny_pure ⟨plainId_quiet F.plain_set_update_loop _,ih (i+1) _ (by omega) hlt (W.frame _ s' _ _ hst' (t8 _) fun b hb o e=>?_) hS2 fun s'' hm'' hS''=>?_⟩
  ·rw [hsb.2 b (fun h:b=S=>hSf (by rw [<- h];exact hb))];exact e
  ·refine hR s'' (Moved.trans W.gtrans ((hm.mono hsub).then_heap (t8 _) fun b o hb e=>?_) hm'') hS'';rw [hsb.2 b (fun h:b=S=>hb (by rw [h];exact C0))];exact e
end
abbrev qCN (w:World):Obj:={ cls:=.type "set",dict:=none,data:=.set #[] 0 (.fresh 0 0 (!byT w)) }
section
variable {prog:Program} {w:World} {A:Around} {E:Value->Shared->Prop} {s:Shared}
theorem qSF (a:Value) {Q₁:Value->Shared->Prop} (h:Q₁ (.ref s.heap.objs.size) { s with heap:=s.heap.push (qCN w) }) :
  codeAny (model prog w) A (.call (.builtin "set.__new__") ⟨[.type "set",a],[]⟩) (wants Q₁ E) s:=by
 refine codeAny_of_tree ?_;show wpAny _ A.in1 (do checkBuiltinCall "set.__new__" ⟨[.type "set",a],[]⟩;again (.builtin "set.__new__" ⟨[.type "set",a],[]⟩)) _ _ s
 refine wpAny_bind (wpAny_of_eq (F.newCall_set_1 a) (wpAny_pure ⟨plainId_quiet F.plain_set_new _,codeAny_builtin F.entry_set_new ?_⟩));rw [J7 F.plain_set_new _];unfold Builtin.«set.__new__» A57;have hsub:=sub_set_self;obtain ⟨hp,g,d,tk,os⟩:=s;dsimp only
 wp_walk
 refine wpAny_askSetting (wpAny_pure ?_);dsimp only;simp only [newObj];refine wpAny_bind (wpAny_alloc (wpAny_pure ?_));exact wpAny_pure h
theorem SetI.fresh {a:Addr} {h:Heap} (e:h.get? a=some (qCN w)):SetI w a [] h:=
 ⟨#[],0,_,[],e,⟨rfl,rfl,rfl,rfl,rfl,.nil,fun _ z=>nomatch z⟩,.nil,.refl _,.nil,E8 _⟩
set_option maxHeartbeats 3200000 in
theorem qRK {l:Addr} {Ae:Array Value} {ns:List Int} {Q:Value->Shared->Prop} (hh:A.handled=none) (hl:s.heap.IsList l Ae) (hi:IntsAre Ae.toList ns) (h4:Ae.size<=4)
  (h:∀ (h':Heap) (tk:Nat),SetI w s.heap.objs.size (dedI ns) h'->(∀ b o,s.heap.get? b=some o->h'.get? b=some o)->Q (.ref s.heap.objs.size) { s with heap:=h',toks:=tk }) :
  wpAny (model prog w) A (call (.type "set") [.ref l]) Q E s:=by
 have hlen:ns.length=Ae.size:=by have:=IntsAre.length hi;simpa using this.symm
 obtain ⟨c,tl,hmro⟩:=X0.mro;have hmade:=X0.made;have hsub:=X0.sub;refine wpAny_call (codeAny_of_tree ?_);show wpAny _ _ (callAny (.type "set") _) _ _ _;refine wpAny_pure ⟨Code.quiet_builtin _ (by decide +kernel),codeAny_builtin F.entry_type_call ?_⟩
 rw [Around.under_plain (weight_type_call_type "set" [.ref l] []) rfl];have h1:=X0.notType;have h2:=X0.canCreate;have hct:=F.typeCall_set_1 (.ref l)
 repeat (any_goals (first | assumption | wp_step))
 refine codeAny_mono (qSF (.ref l) (E:=E) (Q₁:=fun obj s₁=>obj=.ref s.heap.objs.size/\s₁={ s with heap:=s.heap.push (qCN w) }) ⟨rfl,rfl⟩) fun r s₁ hr=>?_;cases r with
 | error e=>exact hr
 | ok fl=>
  cases fl with
  | ret obj=>
   obtain ⟨rfl,rfl⟩:=hr;have hS:(s.heap.push (qCN w)).get? s.heap.objs.size=some (qCN w):=B9 _ rfl;have hT:Shared.TypeIs { s with heap:=s.heap.push (qCN w) } (.ref s.heap.objs.size) "set":=⟨_,hS,rfl⟩;have hli:=X0.init.lookup;have hbi:=X0.init.bind (.ref s.heap.objs.size)
   repeat (any_goals (first | assumption | wp_step))
   refine codeAny_mono (codeAny_call_builtin (R:=wants (fun r s₂=>r=.none/\∃ h' tk,s₂={ s with heap:=h',toks:=tk }/\SetI w s.heap.objs.size (dedI ns) h'/\
     (∀ b o,s.heap.get? b=some o->h'.get? b=some o)) E) X0.init.plain F.entry_set_init (check_set_init_1 hT ?_)) fun r₂ s₂ hr₂=>?_
   ·obtain ⟨ol,hol,hcl,nl,hdl⟩:=hl;obtain ⟨ocls,odict,odata,oslots⟩:=ol;simp only at hcl hdl;subst hcl;subst hdl;have hol':(s.heap.push (qCN w)).get? l=some { cls:=.type "list",dict:=odict,data:=.seq Ae nl,slots:=oslots }:=A2 _ hol;have hsls:=F.sub_list_set;have hslf:=F.sub_list_frozenset;have hne:(V3 "list" == V3 "dict")=false:=by decide
    have hl1:(s.heap.push (qCN w)).IsList l Ae:=⟨_,hol',rfl,nl,rfl⟩;unfold Builtin.«set.__init__» noKeywords A49;generalize hPI:pyIter=PI
    wp_walk
    subst hPI;refine wpAny_pyIter_list hl1 ?_;refine wpAny_bind (wpAny_runValue ?_);have hlS:l<s.heap.objs.size:=B6 hol;have hh3:A.in1.in1.in1.handled=none:=by simp [hh]
    have hneI:l ≠ (s.heap.push (qCN w)).objs.size:=by
     rw [G6];exact E6 (P8 hlS)
    have hSf:s.heap.objs.size ∉ [(s.heap.push (qCN w)).objs.size,l]:=by
     rw [G6];simp only [B7,A6,X8,or_false,not_or];exact ⟨E6 (Nat.lt_succ_self _),Y2 hlS⟩
    have hval:∀ (i:Nat) (v:Value),Ae[i]?=some v->∃ t,v=.int (ns.getD i 0) t:=fun i v hv=>
     e7 hi i v (by rw [O4];exact hv)
    refine qN6 ((A32 hh3 _ l hneI Ae).toS) s.heap.objs.size hSf ns hlen h4 hval (Ae.size - 0) 0 _ (by omega) (E8 _)
     ⟨⟨_,B9 _ rfl,rfl,rfl⟩,(hl1.push _)⟩ ?hS0 ?hR
    case hS0=>exact SetI.fresh (A2 _ hS)
    case hR=>
     intro s' hm hS';obtain ⟨h',g',d',tk',os'⟩:=s';have eg:g'=s.gens:=hm.gens;have ed:d'=s.drawn:=hm.drawn;have eo:os'=s.os:=hm.os;subst eg;subst ed;subst eo;show wpAny _ _ _ _ _ _;refine wpAny_pure ?_;show wpAny _ _ (ret W2) _ _ _;refine wpAny_pure ⟨rfl,h',tk',rfl,hS',fun b o e=>?_⟩;have hb:=B6 e;have hb1:b ≠ s.heap.objs.size:=E6 hb;have hb2:b ≠ (s.heap.push (qCN w)).objs.size:=by
      rw [G6];exact E6 (P8 hb)
     exact hm.heap b o (by simp only [B7,A6,X8,or_false,not_or];exact ⟨hb1,hb2⟩) (A2 _ (A2 _ e))
   ·cases r₂ with
    | error e=>exact hr₂
    | ok fl₂=>
     cases fl₂ with
     | ret r=>
      obtain ⟨rfl,h',tk,rfl,hS',hk'⟩:=hr₂
      repeat (any_goals (first | assumption | wp_step))
      exact h _ _ hS' hk'
     | next=>exact hr₂
     | brk=>exact hr₂
     | cont=>exact hr₂
  | next=>exact hr
  | brk=>exact hr
  | cont=>exact hr
end
theorem slot_si_next:Slot "set_iterator" "__next__" "set_iterator.__next__":=
 .of (owner:="set_iterator") (n:="__next__") (by rw [typeLookup_type,builtinLookup_eq_fast];kernel_rfl) (by decide +kernel) (by decide +kernel) (by decide +kernel)
  (by first | exact .inl (by decide +kernel) | exact .inr (by decide +kernel)) (by rw [isSubtype_type];kernel_rfl)
theorem qI3:Slot "set_iterator" "__iter__" "set_iterator.__iter__":=
 .of (owner:="set_iterator") (n:="__iter__") (by rw [typeLookup_type,builtinLookup_eq_fast];kernel_rfl) (by decide +kernel) (by decide +kernel) (by decide +kernel)
  (by first | exact .inl (by decide +kernel) | exact .inr (by decide +kernel)) (by rw [isSubtype_type];kernel_rfl)
theorem qHF:entryFor table "set_iterator.__next__" = some Builtin.«set_iterator.__next__»:=entryFor_of_tree (by kernel_rfl)
theorem qME:entryFor table "set_iterator.__iter__" = some Builtin.«dict_keyiterator.__iter__»:=
 entryFor_alias (id':="dict_keyiterator.__iter__") (by kernel_rfl) rfl (by decide +kernel) (by kernel_rfl)
theorem qKI:entryFor table "set.__iter__" = some Builtin.«frozenset.__iter__»:=
 entryFor_alias (id':="frozenset.__iter__") (by kernel_rfl) rfl (by decide +kernel) (by kernel_rfl)
theorem qQ0:Manifest.owners.lookup (String.ofList "set_iterator".toList.reverse.reverse)=some Manifest.sig_set_iterator:=by kernel_rfl
theorem qIB (a:Value):argsOk "set_iterator.__next__" ⟨[a],[]⟩:=by
 unfold argsOk;rw [signature?_of (id:="set_iterator.__next__") (n:="__next__".toList.reverse) (o:="set_iterator".toList.reverse) (by kernel_rfl) qQ0];kernel_rfl
theorem qOF (a:Value):argsOk "set_iterator.__iter__" ⟨[a],[]⟩:=by
 unfold argsOk;rw [signature?_of (id:="set_iterator.__iter__") (n:="__iter__".toList.reverse) (o:="set_iterator".toList.reverse) (by kernel_rfl) qQ0];kernel_rfl
def qFB (w:World) (a:Addr) (ep:Nat) (es:Array (Int × Value)):List (Int × Value):=if byT w=true then (pickOrder (w.params.setOrder a ep) es).toList else es.toList
def qFD (w:World) (t:SetTable) (i:Nat):Nat:=if byT w=true then 0 else if i=0 then 0 else t.place.getD (i - 1) 0+1
theorem qFA (w:World) (a:Addr) (ep:Nat) (es:Array (Int × Value)):(qFB w a ep es).Perm es.toList:=by
 unfold qFB
 split
 ·exact qSR _ _
 ·exact .refl _
theorem T7.below_at {b:Bool} {t:SetTable} {n:Nat} (T:T7 b t n) (i:Nat) (hi:i<=n):F0 t.place (if i=0 then 0 else t.place.getD (i - 1) 0+1)=i:=by
 obtain ⟨b1,b2,b3⟩:=qHX (j:=if i=0 then 0 else t.place.getD (i - 1) 0+1) T.up
 have hs:=T.size;have gd:∀ a c d,a<t.place.size->t.place.getD a c=t.place.getD a d:=fun a c d ha=>by
  rw [G2,G2,G1 ha]
  rfl
 by_cases h0:i=0
 ·rw [if_pos h0] at b1 b2 b3 ⊢;subst h0;apply Nat.eq_zero_of_not_pos;intro z;have:=b2 0 z;omega
 ·rw [if_neg h0] at b1 b2 b3 ⊢;have h1:¬ F0 t.place (t.place.getD (i - 1) 0+1)<i:=fun z=>by
   have:=b3 (i - 1) (by omega) (by omega)
   rw [gd (i - 1) (t.place.getD (i - 1) 0+1) 0 (by omega)] at this
   omega
  have h2:¬ i<F0 t.place (t.place.getD (i - 1) 0+1):=fun z=>by
   have q:=b2 i z;have:=qYI 0 T.up (i - 1) i (by omega) (by omega)
   rw [gd i (t.place.getD (i - 1) 0+1) 0 (by omega)] at q
   omega
  omega
def SetIt (w:World) (a I:Addr) (es:Array (Int × Value)) (ep:Nat) (t:SetTable) (i:Nat) (h:Heap):Prop:=
 (∃ o,h.get? I=some o/\o.cls=.type "set_iterator"/\o.data=.fields #[.int (qFD w t i) 0,.int i 0,.ref a,.int es.size 0,.int ep 0])/\h.get? a=some { cls:=.type "set",data:=.set es ep t }
section
variable {prog:Program} {w:World} {A:Around} {E:Value->Shared->Prop} {s:Shared} {a I:Addr} {es:Array (Int × Value)} {ep:Nat} {t:SetTable} {i:Nat}
theorem SetIt.typeIs (x:SetIt w a I es ep t i s.heap):s.TypeIs (.ref I) "set_iterator":=let ⟨⟨o,h1,h2,_⟩,_⟩:=x;⟨o,h1,h2⟩
theorem qN7 {Q:Option (Value × Nat)->Shared->Prop} (T:T7 (byT w) t es.size) (h8:es.size<=7) (ho:s.heap.get? a=some { cls:=.type "set",data:=.set es ep t }) (hi:i<=es.size)
  (h:Q (match (qFB w a ep es)[i]? with | some e=>some (e.2,qFD w t (i+1)) | none=>none) s):wpAny (model prog w) A (setNext a (qFD w t i) i ep) Q E s:=by
 have hf:=T.fits h8;unfold setNext;refine wpAny_bind (wpAny_setState_of ho rfl hf ?_);dsimp only;unfold setsByText;refine wpAny_bind (wpAny_bind (wpAny_askSetting (wpAny_pure ?_)));show wpAny _ _ (if byT w=true then _ else _) _ _ _
 cases hb:byT w with
 | true=>
  rw [if_pos rfl];simp only [bne_self_eq_false,L5,if_false];refine wpAny_bind ?_;unfold setWalk;refine wpAny_bind (wpAny_setState_of ho rfl hf ?_);dsimp only;unfold setsByText;refine wpAny_bind (wpAny_bind (wpAny_askSetting (wpAny_pure ?_)));show wpAny _ _ (if byT w=true then _ else _) _ _ _
  rw [hb,if_pos rfl];refine wpAny_bind (wpAny_askSetting (wpAny_pure (wpAny_pure ?_)));have e:qFB w a ep es=(pickOrder (w.params.setOrder a ep) es).toList:=by unfold qFB;rw [if_pos hb]
  have e2:∀ j,qFD w t j=0:=fun j=>by unfold qFD;rw [if_pos hb]
  rw [e,O4,e2] at h;rw [e2];show Q (Option.map _ (pickOrder (w.params.setOrder a ep) es)[i]?) s;cases hx:(pickOrder (w.params.setOrder a ep) es)[i]? with
  | none=>rw [hx] at h;exact h
  | some v=>rw [hx] at h;exact h
 | false=>
  rw [if_neg (by simp)]
  show wpAny _ _ (if (!t.plain && decide (es.size > 1))=true then _ else _) _ _ _
  rw [T.plain];simp only [A21,W3,L5,if_false];refine wpAny_bind ?_;show wpAny _ _ (if (!t.led && !es.isEmpty)=true then _ else _) _ _ _
  rw [T.led,hb];simp only [Bool.not_false,A21,W3,L5,if_false];refine wpAny_pure (wpAny_pure ?_);have e:qFB w a ep es=es.toList:=by unfold qFB;rw [if_neg (by rw [hb];simp)]
  have e2:∀ j,qFD w t j=if j=0 then 0 else t.place.getD (j - 1) 0+1:=fun j=>by unfold qFD;rw [if_neg (by rw [hb];simp)]
  rw [e,O4] at h;rw [e2,T.below_at i hi];cases hx:es[i]? with
  | none=>rw [hx] at h;exact h
  | some v=>
   rw [hx] at h;have hlt:i<t.place.size:=by rw [T.size];exact (Array.getElem?_eq_some_iff.mp hx).1
   rw [G1 hlt];dsimp only at h ⊢;have e3:qFD w t (i+1)=t.place[i]+1:=by
    rw [e2,if_neg (by omega),A22,G2,G1 hlt]
    rfl
   rw [e3] at h;exact h
theorem qYQ {Q:Option Value->Shared->Prop} (T:T7 (byT w) t es.size) (h8:es.size<=7) (hit:SetIt w a I es ep t i s.heap) (hne:a ≠ I) {e:Int × Value} (hx:(qFB w a ep es)[i]?=some e)
  (hQ:∀ h',SetIt w a I es ep t (i+1) h'->(∀ b o,b ≠ I->s.heap.get? b=some o->h'.get? b=some o)->Q (some e.2) { s with heap:=h' }):wpAny (model prog w) A (pyNext (.ref I)) Q E s:=by
 obtain ⟨⟨o,ho,hc,hd⟩,hs⟩:=id hit;have hi:i<es.size:=by
  have:=(A1.mp hx).1;rw [(qFA w a ep es).length_eq,E7] at this;exact this
 unfold pyNext;refine wpAny_bind (wpAny_attempt (wpAny_callSpecial?_slot (name:=C4 "__next__") hit.typeIs slot_si_next (wpAny_call_entry slot_si_next hit.typeIs qHF ?_ (qIB _))));unfold Builtin.«set_iterator.__next__»;refine wpAny_bind (wpAny_pure ?_);refine wpAny_bind (wpAny_fieldsOf ho hd ?_);dsimp only;unfold setEntries;refine wpAny_bind (wpAny_bind (wpAny_setState_of hs rfl (T.fits h8) (wpAny_pure ?_)));rw [if_neg (by simp)]
 simp only [G3];refine wpAny_bind (qN7 T h8 hs (R4 hi) ?_);rw [hx];dsimp only;show wpAny _ _ (setField (.ref I) 0 (rawInt _) >>= _) _ _ s;refine wpAny_bind (wpAny_setField ho hd (by simp) ?_)
 have g1:=O2 (Obj.mapFields (·.setIfInBounds 0 (rawInt ((qFD w t (i+1):Nat):Int)))) ho (c4 (U9 hd _));have d1:=U9 hd (·.setIfInBounds 0 (rawInt ((qFD w t (i+1):Nat):Int)));refine wpAny_bind (wpAny_setField g1 d1 (by simp) ?_)
 have g2:=O2 (Obj.mapFields (·.setIfInBounds 1 (rawInt ((i:Int)+1)))) g1 (c4 (U9 d1 _));have d2:=U9 d1 (·.setIfInBounds 1 (rawInt ((i:Int)+1)));refine wpAny_pure ⟨_,rfl,wpAny_pure (hQ _ ⟨⟨_,g2,(o8 ..).trans ((o8 ..).trans hc),?_⟩,?_⟩ fun b o' hb e=>?_)⟩
 ·rw [d2];simp [rawInt]
 ·exact (G4 _ _ (J2 hne)).trans ((G4 _ _ (J2 hne)).trans hs)
 ·exact (G4 _ _ (J2 hb)).trans ((G4 _ _ (J2 hb)).trans e)
theorem qaW {Q:Option Value->Shared->Prop} (hh:A.handled=none) (T:T7 (byT w) t es.size) (h8:es.size<=7) (hit:SetIt w a I es ep t es.size s.heap)
  (hQ:∀ h',(∀ b o,b ≠ I->s.heap.get? b=some o->h'.get? b=some o)->Q none { s with heap:=h' }):wpAny (model prog w) A (pyNext (.ref I)) Q E s:=by
 obtain ⟨⟨o,ho,hc,hd⟩,hs⟩:=id hit;unfold pyNext;refine wpAny_bind (wpAny_attempt (wpAny_callSpecial?_slot (name:=C4 "__next__") hit.typeIs slot_si_next (wpAny_call_entry slot_si_next hit.typeIs qHF ?_ (qIB _))));unfold Builtin.«set_iterator.__next__»;refine wpAny_bind (wpAny_pure ?_);refine wpAny_bind (wpAny_fieldsOf ho hd ?_);dsimp only;unfold setEntries;refine wpAny_bind (wpAny_bind (wpAny_setState_of hs rfl (T.fits h8) (wpAny_pure ?_)));rw [if_neg (by simp)]
 simp only [G3];have hx:(qFB w a ep es)[es.size]?=none:=c5 (by rw [(qFA w a ep es).length_eq,E7];exact A5 _)
 refine wpAny_bind (qN7 T h8 hs (A5 _) ?_);rw [hx];dsimp only;show wpAny _ _ (setField (.ref I) 2 .none >>= _) _ _ s;refine wpAny_bind (wpAny_setField ho hd (by simp) ?_)
 show wpAny _ _ (newExc (.type "StopIteration") [] >>= _) _ _ _;refine wpAny_bind ?_;simp only [newExc,newTuple];refine wpAny_bind (wpAny_newObj_type ?_ (by size_fits))
 refine wpAny_bind (m:=firstArgMember _ _) (wpAny_of_eq (a:=W2) (by first | rfl | (simp only [firstArgMember];rfl)) ?_)
 refine wpAny_newObj_type ?_ (by size_fits)
 simp only [raiseNew];refine wpAny_bind (wpAny_handled ?_);rw [show A.in1.handled=none from hh];refine wpAny_bind (wpAny_pure (wpAny_throw ?_));refine wpAny_bind (wpAny_isInstance (T:="StopIteration") (b:=true) ⟨_,B9 _ rfl,rfl⟩ isSubtype_stop ?_);exact wpAny_pure (hQ _ (((X9 ..).extBut.push _).push _))
theorem qYP {Q:Value->Shared->Prop} (hit:SetIt w a I es ep t i s.heap) (h:Q (.ref I) s):wpAny (model prog w) A (pyIter (.ref I)) Q E s:=by
 refine wpAny_pyIter_slot hit.typeIs qI3 (wpAny_call_entry qI3 hit.typeIs qME ?_ (qOF _));show wpAny _ _ (ret (.ref I)) _ _ s;exact wpAny_pure ⟨_,rfl,"set_iterator",_,hit.typeIs,slot_si_next.lookup,h⟩
theorem qaV {Q:Value->Shared->Prop} (T:T7 (byT w) t es.size) (h8:es.size<=7) (hs:s.heap.get? a=some { cls:=.type "set",data:=.set es ep t })
  (hQ:Q (.ref s.heap.objs.size) { s with heap:=s.heap.push { cls:=.type "set_iterator",data:=.fields #[.int 0 0,.int 0 0,.ref a,.int es.size 0,.int ep 0] } }):wpAny (model prog w) A (pyIter (.ref a)) Q E s:=by
 have hT:s.TypeIs (.ref a) "set":=⟨_,hs,rfl⟩;have hf:=T.fits h8;refine wpAny_pyIter_slot hT F.slot_set_iter (wpAny_call_entry F.slot_set_iter hT qKI ?_ (F.args_set_iter_1 _));unfold Builtin.«frozenset.__iter__» A72 A65 setEntries;refine wpAny_bind (wpAny_bind (wpAny_pure ?_));show wpAny _ _ (pure a) _ _ s;refine wpAny_pure ?_;refine wpAny_bind (wpAny_bind (wpAny_bind (wpAny_setState_of hs rfl hf (wpAny_pure (wpAny_pure ?_)))));unfold setDrawn setsByText;refine wpAny_bind (wpAny_bind (wpAny_setState_of hs rfl hf ?_));dsimp only;refine wpAny_bind (wpAny_bind (wpAny_askSetting (wpAny_pure (wpAny_pure ?_))));show wpAny _ _ (if (!byT w && (!t.plain && decide (es.size > 1)))=true then _ else _) _ _ _
 rw [T.plain];simp only [A21,W3,m5,L5,if_false];refine wpAny_bind (wpAny_pure ?_);unfold setEpoch;refine wpAny_bind (wpAny_bind (wpAny_setState_of hs rfl hf (wpAny_pure ?_)));refine wpAny_bind (wpAny_newObj_type (wpAny_pure ⟨_,rfl,"set_iterator",_,⟨_,B9 _ rfl,rfl⟩,slot_si_next.lookup,?_⟩));simpa [rawInt] using hQ
theorem qYR {Q:Bool->Shared->Prop} (hT:s.TypeIs (.ref a) "set") (h:Q false s):wpAny (model prog w) A (f9 (.ref a)) Q E s:=by
 unfold f9;refine wpAny_bind (wpAny_specialOf hT PySem.F.slot_set_len.lookup ?_);generalize hid:("set.__len__" : String)=id0
 wp_delta
 rw [show splitId id0=some ("set","__len__") from by subst hid;decide +kernel]
 subst hid;refine wpAny_bind (wpAny_isInstance (T:="set") (b:=true) hT (by rw [isSubtype_type];kernel_rfl) ?_)
 refine wpAny_ite_split (fun hab=>absurd hab (by decide)) (fun _=>?_)
 refine wpAny_ite_split (fun _=>?_) (fun hab=>absurd (by decide +kernel) hab)
 refine wpAny_bind (wpAny_typeOf hT ?_);exact wpAny_pure h
theorem qaU (T:T7 (byT w) t es.size) (h8:es.size<=7):PySem.W.KdlSrc prog w "set" a a es.size (fun i v=>∃ e,(qFB w a ep es)[i]?=some e/\v=e.2) (fun h=>h.get? a=some { cls:=.type "set",data:=.set es ep t }) where
 type:=fun s h=>⟨_,h,rfl⟩
 there:=fun h x=>⟨B6 x,B6 x⟩
 keep:=fun h h' x k=>k a (.inl rfl) _ x
 notList:=by decide
 notTuple:=by decide
 hint:=fun A E s Q x q=>qYR ⟨_,x,rfl⟩ q
 iter:=fun A s hh x=>by
  have hne:a ≠ s.heap.objs.size:=E6 (B6 x);refine ⟨_,fun i h=>SetIt w a s.heap.objs.size es ep t i h,fun E Q q=>qaV T h8 x q,?_,⟨⟨_,B9 _ rfl,rfl,?_⟩,A2 _ x⟩⟩
  ·refine ⟨fun b hb=>?_,fun i h h' st k=>?_,fun i s' Q E hi st q=>?_,fun s' Q E st q=>?_,fun i s' Q E st q=>qYP st q⟩
   ·have e:b=s.heap.objs.size:=by simpa using hb
    simp [e]
   ·obtain ⟨⟨o,h1,h2,h3⟩,h4⟩:=st;exact ⟨⟨o,k _ (by simp) _ h1,h2,h3⟩,k _ (by simp) _ h4⟩
   ·have hl:i<(qFB w a ep es).length:=by rw [(qFA w a ep es).length_eq,E7];exact hi
    refine qYQ T h8 st hne (A3 hl) fun h' st' k=>?_;exact q _ h' s'.toks ⟨_,A3 hl,rfl⟩ st' fun b o hb e=>k b o (fun z=>hb (by simp [z])) e
   ·refine qaW hh T h8 st fun h' k=>?_;exact q h' s'.toks fun b o hb e=>k b o (fun z=>hb (by simp [z])) e
  ·unfold qFD
   split <;> rfl
end
theorem qDL {ns:List Int}:∀ {us:List Value},Vals (ns.map V.int) us->IntsAre us ns:=by
 induction ns with
 | nil=>intro us h;cases h;exact .nil
 | cons n r ih=>
  intro us h;cases h with
  | cons r1 r2=>
   obtain ⟨t,rfl⟩:=r1;exact IntsAre.cons _ _ (ih r2)
theorem qFC:∀ {us:List Value} {ns:List Int},IntsAre us ns->Vals (ns.map V.int) us:=qJ9
section
variable {X:Cx}
def SetO (w:World) (a:Addr) (zs:List Int):HO:=.ext (SetI w a zs)
theorem qMK (hc:X.calm=true):qDD X (.type "set") (fun xs H Q=>∃ p ns,xs=[.ref p]/\SqL X.K H p (ns.map V.int)/\ns.length<=4/\∀ a,H a=none->Q (.ref a) (Ai H a (SetO X.w a (dedI ns)))):=by
 intro Ab s σ H xs us Q I r h;obtain ⟨p,ns,rfl,hq,h4,q⟩:=h;obtain ⟨u,rfl,rx⟩:=qGH r;cases rx;obtain ⟨its,rv,pl,hz⟩:=I.list hq;have hlen:=rv.length;rw [A0] at hlen;refine qRK (ns:=ns) (I.ok.hd hc) pl.isList (by simpa using qDL rv) (by simp;omega) fun h' tk hS hk=>?_
 refine ⟨.ref s.heap.objs.size,_,I.laid (t':=tk) hk (A5 _) ?_,rfl,q _ (I.hok.fresh (A5 _))⟩;obtain ⟨es,ep,t,ks,e,_⟩:=id hS;exact ⟨hS,⟨_,e⟩,fun h1 h2 x k=>x.at k⟩
theorem Inv.track {Ab:List (Addr × Obj)} {s:Shared} {σ:St} {H:Hp} {T:Addr} {o:HO} (I:Inv X Ab σ H s) (h0:H T=none) (h1:X.s₀.heap.objs.size<=T) (h2:T ≠ X.env.locals) (h3:∀ x c,X.env.cells.lookup x=some c->c ≠ T) (h4:∀ p ∈ X.pn++Ab,p.1 ≠ T)
  (new:ObjOk X.prog X.w (Ai H T o) s.heap T o):Inv X Ab σ (Ai H T o) s:=by
 have old:∀ b ob,X.s₀.heap.get? b=some ob->b ≠ T:=fun b ob e=>E6 (E5 (B6 e) h1);have some':∀ b u,H b=some u->(Ai H T o) b=some u:=fun b u e=>by rw [qA8 (qA5 e h0)];exact e
 refine ⟨I.ok,I.os,I.bare,⟨I.base.keep,I.base.slot,fun b ob e n hx=>?_,I.base.there,fun b xs e=>some' _ _ (I.base.tups b xs e),fun b ob u e=>some' _ _ (I.base.frzs b ob u e),fun b ps e=>?_⟩,I.loc,I.cell,?_,fun x c e=>?_,fun p hp=>?_,fun b u e=>?_,I.len⟩
 ·rw [qA8 (old b ob e)];exact I.base.free b ob e n hx
 ·exact some' _ _ (I.base.tbls b ps e)
 ·rw [qA8 (J2 h2)];exact I.free
 ·rw [qA8 (h3 x c e)];exact I.freeC x c e
 ·obtain ⟨e1,n,r⟩:=I.pin p hp;exact ⟨e1,by rw [qA8 (h4 p hp)];exact n,r⟩
 ·by_cases hb:b=T
  ·subst hb;rw [qA1] at e;cases e;exact new
  ·rw [qA8 hb] at e;exact (I.hok b u e).stay (fun c v _ q=>q) (fun c q=>some' _ _ q) (fun c ys q=>some' _ _ q) fun c t q=>some' _ _ q
theorem qVE {Ab:List (Addr × Obj)} {s:Shared} {σ:St} {H:Hp} {Q:VK} {A:Around} {E:Value->Shared->Prop} {vs:List Value} {ns:List Int} {D:Addr} (I:Inv X Ab σ (Ai H D (.lst (ns.map V.int))) s) (hD:H D=none) (h64:ns.length<64)
  (q:∀ ns':List Int,ns'.Perm ns->ns'.Pairwise (·<=·)->Q (.ref D) (Ai H D (.lst (ns'.map V.int)))) :
  wpAny (model X.prog X.w) A (call (.builtin "list.sort") [.ref D]) (fun _ s'=>EP X Ab σ Q (.ref D) s') E s:=by
 obtain ⟨z,its,n,rv,hl,e⟩:=I.lstM qA1;have hI:=qDL rv;have hlen:=rv.length;rw [A0] at hlen;refine wpAny_call_entry slot_list_sort ⟨_,e,rfl⟩ entry_list_sort (list_sort_tree (ns:=ns) (n:=n) e hI (by omega) fun out ns' a1 a2 a3=>⟨_,rfl,?_⟩) (args_list_sort _)
 have hat:=sortedHeap_at (vs:=its) (out:=out) e;obtain ⟨e2,hat⟩:=hat;refine ⟨.ref D,Ai H D (.lst (ns'.map V.int)),?_,rfl,q ns' a2 a3⟩;have hu:Ai (Ai H D (.lst (ns.map V.int))) D (.lst (ns'.map V.int))=Ai H D (.lst (ns'.map V.int)):=qL9;rw [<- hu];refine I.write (x:=D) (e:=D) (t':=s.toks) (by rw [qA1];exact trivial) (.inl rfl) (fun b u hb hbu=>?_) ⟨_,hat⟩ ?_
 ·rw [sortedHeap_old hb (B6 hbu)];exact hbu
 ·refine ⟨?_,out.toList,e2,qFC a1,by simpa using hat⟩
  rw [A0,a2.length_eq,<- A0 (f:=V.int)];exact z
theorem qR1 {Ab:List (Addr × Obj)} {s:Shared} {σ:St} {H:Hp} {vs:List Value} {ns:List Int} (I:Inv X Ab σ H s) (hv:IntsAre vs ns) (hz:ns.length<=sizeLine) :
  Inv X Ab σ (Ai H s.heap.objs.size (.lst (ns.map V.int))) { s with heap:=s.heap.push { cls:=.type "list",data:=.seq vs.toArray } }:=
 I.lnew (t':=s.toks) (qFC hv) (by rw [A0];exact hz)
theorem qDN (hc:X.calm=true):qDD X (.builtin "sorted") (fun xs H Q=>∃ p ns,xs=[.ref p]/\(SqL X.K H p (ns.map V.int)\/SqT X.K H p (ns.map V.int)\/H p=some (SetO X.w p ns))/\ns.length<64/\
  ∀ (a:Addr) (ns':List Int),H a=none->ns'.Perm ns->ns'.Pairwise (·<=·)->Q (.ref a) (Ai H a (.lst (ns'.map V.int)))):=by
 intro Ab s σ H xs us Q I r h;obtain ⟨p,ns,rfl,hq,h64,q⟩:=h;obtain ⟨u,rfl,rx⟩:=qGH r;cases rx;refine m6 kind_sorted plain_sorted entry_sorted (args_sorted1 _) ?_;unfold Builtin.«sorted»;refine wpAny_bind (m:=checkCount "sorted" 1 1 _) (wpAny_pure ?_);have fin:∀ (s1:Shared) (vs:List Value) (zs:List Int),Inv X Ab σ H s1->IntsAre vs zs->zs.Perm ns->wpAny (model X.prog X.w) X.A.in1 (do
   let l <- newList vs
   let _ <- holding [l] (call (.builtin "list.sort") [l] [])
   ret l) (fun fin s'=>∃ r,fin=.done (.ret r)/\EP X Ab σ Q r s') X.xe s1:=by
  intro s1 vs zs I1 hv hp;have hlen:=IntsAre.length hv;have hz:zs.length<=sizeLine:=by rw [hp.length_eq,sizeLine_eq];omega
  refine wpAny_bind (wpAny_newList ?_ (by rw [hlen];exact hz))
  have hf:=I1.hok.fresh (A5 s1.heap.objs.size);refine wpAny_bind (wpAny_holding (wpAny_mono (qVE (E:=X.xe) (vs:=vs) (qR1 I1 hv hz) hf (by rw [hp.length_eq];exact h64) fun ns' a b=>q _ ns' hf (a.trans hp) b) (fun _ s' x=>?_) fun _ _ e=>e))
  exact wpAny_pure ⟨_,rfl,x⟩
 rcases hq with hq | hq | hq
 ·obtain ⟨its,rv,pl,hz⟩:=I.list hq;obtain ⟨o,ho,hc',n,hd⟩:=pl.isList;have hlen:=rv.length;refine wpAny_bind (wpAny_collect_seq p (.inl rfl) ho hc' hd (fun h' hk=>?_) (by simp;omega))
  exact fin _ _ ns (I.kept (t':=s.toks) hk) (by simpa using qDL rv) (.refl _)
 ·obtain ⟨its,rv,pl,hz⟩:=I.tuple hq;obtain ⟨o,ho,hc',n,hd⟩:=pl;have hlen:=rv.length;refine wpAny_bind (wpAny_collect_seq p (.inr rfl) ho hc' hd (fun h' hk=>?_) (by simp;omega))
  exact fin _ _ ns (I.kept (t':=s.toks) hk) (by simpa using qDL rv) (.refl _)
 ·obtain ⟨hS,_,_⟩:=(show ObjOk X.prog X.w H s.heap p (.ext (SetI X.w p ns)) from I.hok p _ hq);obtain ⟨es,ep,t,ks,e,T,he,hp,hnd,h4⟩:=hS;have hsz:es.size=ns.length:=SetI.size (a:=p) (h:=s.heap) he hp;obtain ⟨ks',h1,h2⟩:=he.perm (qFA X.w p ep es);refine wpAny_bind (PySem.W.kdu_collect (A:=X.A.in1) (qaU (ep:=ep) T (by omega)) (I.ok.hd hc) e (by rw [hsz,sizeLine_eq];omega) fun h' tk acc hk hacc=>?_)
  refine fin _ _ ks' (I.kept (t':=tk) hk) ?_ (h2.trans hp);obtain ⟨l1,l2⟩:=hacc;have key:∀ {ks:List Int} {l:List (Int × Value)},Ents ks l->∀ vs:List Value,vs.length=l.length->(∀ (i:Nat) (v:Value),vs[i]?=some v->∃ e:Int × Value,l[i]?=some e/\v=e.2)->IntsAre vs ks:=by
   intro ks l h
   induction h with
   | nil=>
    intro vs hl _;have:vs=[]:=Z3.mp hl;subst this;exact .nil
   | cons r t ih=>
    intro vs hl hv;cases vs with
    | nil=>simp at hl
    | cons v vs=>
     obtain ⟨tk,rfl⟩:=r;obtain ⟨e,he,rfl⟩:=hv 0 v rfl;simp at he;subst he;exact IntsAre.cons _ _ (ih vs (by simpa using hl) fun i v hi=>by simpa using hv (i+1) v (by simpa using hi))
  refine key h1 acc.toList ?_ fun i v hi=>l2 i v (by rw [<- O4];exact hi)
  rw [E7,l1,(qFA X.w p ep es).length_eq,E7]
def qI5 (lo hi:Int):List V:=(C8 (hi - lo).toNat).map fun (i:Nat)=>V.int (lo+i)
theorem qUL:qDD X (.type "range") (fun xs H Q=>∃ i j,xs=[.int i,.int j]/\∀ p,H p=none->Q (.ref p) (Ai H p (.rng i j))):=by
 intro Ab s σ H xs us Q I r h;obtain ⟨i,j,rfl,q⟩:=h;obtain ⟨u,v,rfl,⟨t,rfl⟩,⟨t',rfl⟩⟩:=qOI r;refine call_range_2 ⟨.ref s.heap.objs.size,_,I.laid (fun b o e=>A2 _ e) (A5 _) ?_,rfl,q _ (I.hok.fresh (A5 _))⟩;exact ⟨_,_,_,B9 _ rfl⟩
theorem qVM {lo hi:Int} {n:Nat} {acc:List Value} (hn:n=(hi - lo).toNat) (hl:acc.length=n) (h:∀ (i:Nat) (v:Value),acc[i]?=some v->∃ t,v=.int (lo+i * 1) t):Vals (qI5 lo hi) acc:=by
 have key:∀ (m:Nat) (acc:List Value),acc.length=m->∀ lo:Int,(∀ (i:Nat) (v:Value),acc[i]?=some v->∃ t,v=.int (lo+i) t)->Vals ((C8 m).map fun (i:Nat)=>V.int (lo+i)) acc:=by
  intro m
  induction m with
  | zero=>
   intro acc hl lo h;have:acc=[]:=Z3.mp hl;subst this;exact .nil
  | succ m ih=>
   intro acc hl lo h;cases acc with
   | nil=>simp at hl
   | cons v acc=>
    rw [List.range_succ_eq_map,D7,k7];have h0:=h 0 v rfl;refine .cons h0 ?_;have h1:=ih acc (by simpa using hl) (lo+1) fun i v hi=>by
     have:=h (i+1) v (by simpa using hi)
     obtain ⟨t,e⟩:=this;refine ⟨t,?_⟩;rw [e];congr 1
     push_cast
     omega
    have e:((fun (i:Nat)=>V.int (lo+i)) ∘ Nat.succ)=fun (i:Nat)=>V.int (lo+1+i):=by
     funext i
     simp only [Function.comp];congr 1
     push_cast
     omega
    rw [e];exact h1
 unfold qI5;rw [<- hn];refine key n acc hl lo fun i v hi=>?_;obtain ⟨t,e⟩:=h i v hi;exact ⟨t,by rw [e,Int.mul_one]⟩
theorem qQY (lo hi:Int):(qI5 lo hi).length=(hi - lo).toNat:=by unfold qI5;simp
theorem qcO {lo hi:Int}:Q9 lo hi 1=((hi - lo).toNat:Nat):=by rw [rangeSize_one];split <;> omega
theorem qMJ {prog:Program} {w:World} {A:Around} {E:Value->Shared->Prop} {s:Shared} {R:List Value->Shared->Prop} {r:Addr} {a b:Int} {t u v:Tok} {n:Nat} (hh:A.handled=none) (hr:IsRange s.heap r a b 1 t u v) (hsmall:A08 a b 1=true)
  (hn:Q9 a b 1=n) (hlen:n<=2 ^ 24)
  (h:∀ (h':Heap) (tk:Nat) (acc:Array Value),(∀ b o,s.heap.get? b=some o->h'.get? b=some o)->ItemsOf (fun i v=>∃ t,v=.int (a+i * 1) t) acc n->R acc.toList { s with heap:=h',toks:=tk }) :
  wpAny (model prog w) A (collect (.ref r)) R E s:=by
 unfold collect;refine wpAny_bind (wpAny_runValue (codeAny_builtin entry_proto_collect' ?_));rw [J7 PySem.F.plain_proto_collect _];show wpAny _ A.in1 (newList [] >>= fun l=>again (.builtin "list.__iadd__" ⟨[l,.ref r],[]⟩)) _ _ s;refine wpAny_bind (wpAny_newObj_type ?_);refine wpAny_pure ⟨plainId_quiet t9 _,codeAny_builtin entry_list_iadd' ?_⟩;rw [J7 t9 _];have hS₁:(s.heap.push { cls:=.type "list",data:=.seq ([]:List Value).toArray }).get? s.heap.objs.size=some { cls:=.type "list",data:=.seq #[] }:=B9 _ rfl;show wpAny _ A.in1 (Builtin.List.listExtendWith (.ref s.heap.objs.size) (.ref r) (.ref s.heap.objs.size)) _ _ _;have key:=wpAny_extend_range (prog:=prog) (w:=w) (A:=A) (s:={ s with heap:=s.heap.push { cls:=.type "list",data:=.seq ([]:List Value).toArray } })
  (R:=fun (q:Result) (s':Shared)=>∃ (h':Heap) (tk:Nat) (acc':Array Value) (c':Nat),q=.ok (.ret (.ref s.heap.objs.size))/\s'={ s with heap:=h',toks:=tk }/\
   (∀ b o,s.heap.get? b=some o->h'.get? b=some o)/\h'.get? s.heap.objs.size=some { cls:=.type "list",dict:=none,data:=.seq acc' c',slots:=#[] }/\ItemsOf (fun i v=>∃ t,v=.int (a+i * 1) t) acc' n)
  hh (A2 _ hr) hsmall hn hlen s.heap.objs.size (.ref s.heap.objs.size) 0 hS₁
  (fun h' tk acc' c' hk hS' hacc=>⟨h',tk,acc',c',rfl,rfl,fun b o e=>hk b o (E6 (B6 e)) (A2 _ e),hS',hacc⟩)
 refine wpAny_mono key (fun fin s' x=>?_) fun e s' x=>?_
 ·cases fin with
  | done f=>
   obtain ⟨h',tk,acc',c',e,rfl,hk,hS',hacc⟩:=x;cases e;show wpAny _ A (load s.heap.objs.size >>= _) _ _ _;refine wpAny_bind (wpAny_load hS' ?_);exact wpAny_pure (h h' tk acc' hk hacc)
  | again c₁=>
   refine ⟨x.1,codeAny_mono x.2 fun q s₂ y=>?_⟩;obtain ⟨h',tk,acc',c',rfl,rfl,hk,hS',hacc⟩:=y;show wpAny _ A (load s.heap.objs.size >>= _) _ _ _;refine wpAny_bind (wpAny_load hS' ?_);exact wpAny_pure (h h' tk acc' hk hacc)
 ·obtain ⟨_,_,_,_,e',_⟩:=x;cases e'
theorem qOK {prog:Program} {w:World} {A:Around} {E:Value->Shared->Prop} {s:Shared} {Q:Value->Shared->Prop} {r:Addr} {a b:Int} {t u v:Tok} {n:Nat} (hh:A.handled=none) (hr:IsRange s.heap r a b 1 t u v) (hsmall:A08 a b 1=true)
  (hn:Q9 a b 1=n) (hlen:n<=2 ^ 24)
  (h:∀ (h':Heap) (tk:Nat) (acc:Array Value),(∀ b o,s.heap.get? b=some o->h'.get? b=some o)->ItemsOf (fun i v=>∃ t,v=.int (a+i * 1) t) acc n->Q (.ref h'.objs.size) { s with heap:=h'.push { cls:=.type "tuple",data:=.seq acc },toks:=tk }) :
  wpAny (model prog w) A (call (.type "tuple") [.ref r]) Q E s:=by
 have hcode:codeAny (model prog w) A.in1 (.call (.builtin "tuple.__new__") ⟨[.type "tuple",.ref r],[]⟩) (wants (fun obj s₁=>s₁.TypeIs obj "tuple"/\Q obj s₁) E) s:=by
  refine codeAny_of_tree ?_;show wpAny _ A.in1.in1 (do checkBuiltinCall "tuple.__new__" ⟨[.type "tuple",.ref r],[]⟩;again (.builtin "tuple.__new__" ⟨[.type "tuple",.ref r],[]⟩)) _ _ s
  refine wpAny_bind (wpAny_of_eq (F.newCall_tuple_1 _) (wpAny_pure ⟨plainId_quiet A33 _,codeAny_builtin F.entry_tuple_new ?_⟩));rw [J7 A33 _];have hsub:=sub_tuple_self;have hinit:=init_tuple_lookup;have hmh:=madeHere_tuple;have hTI:s.TypeIs (.ref r) "range":=⟨_,hr,rfl⟩
  wp_walk using wpAny_typeOf hTI,qMJ (prog:=prog) (w:=w) (A:=A.in1.in1) hh hr hsmall hn hlen
  intro h' tk acc hk hacc;show wpAny _ _ (O1 acc.toList.toArray >>= fun v=>ret v) _ _ _;unfold O1;refine wpAny_bind (wpAny_newObj_type ?_ (by show acc.toList.toArray.size<=sizeLine;simp only [Array.toArray_toList];rw [hacc.1,sizeLine_eq];omega))
  refine wpAny_pure ?_;have e:acc.toList.toArray=acc:=by simp
  rw [e];exact ⟨⟨_,B9 _ rfl,rfl⟩,h h' tk acc hk hacc⟩
 refine callType_codes (Q₁:=fun obj s₁=>s₁.TypeIs obj "tuple"/\Q obj s₁) A05 (F.typeCall_tuple_1 _) F.entry_object_init hcode fun obj s₁ h₁=>?_;exact ⟨h₁.1,F.args_object_init_2 obj _,object_init_meets A05.init.lookup A05.made (by decide) prog w A.in1 _ s₁ ⟨h₁.1,rfl,h₁.2⟩⟩
theorem qKJ (hc:X.calm=true):qDD X (.type "tuple") (fun xs H Q=>∃ p lo hi,xs=[.ref p]/\H p=some (.rng lo hi)/\-1000000<=lo/\lo<=1000000/\-1000000<=hi/\hi<=1000000/\∀ l,H l=none->Q (.ref l) (Ai H l (.tup (qI5 lo hi)))):=by
 intro Ab s σ H xs us Q I r h;obtain ⟨p,lo,hi,rfl,hp,l1,l2,l3,l4,q⟩:=h;obtain ⟨u,rfl,rx⟩:=qGH r;cases rx;obtain ⟨t,u,v,e⟩:=(show ∃ t u v,s.heap.get? p=some { cls:=.type "range",data:=.fields #[.int lo t,.int hi u,.int 1 v] } from I.hok p _ hp);refine qOK (n:=(hi - lo).toNat) (I.ok.hd hc) (show IsRange s.heap p lo hi 1 t u v from e) (small_one (by omega) (by omega) (by omega) (by omega)) qcO (by omega) fun h' tk acc hk hacc=>?_
 obtain ⟨a1,a2⟩:=hacc;have I1:Inv X Ab σ H { s with heap:=h',toks:=tk }:=I.kept hk;refine ⟨.ref h'.objs.size,_,I1.laid (t':=tk) (fun b o e=>A2 _ e) (A5 _) (show ObjOk X.prog X.w _ _ _ (.tup (qI5 lo hi)) from ⟨?_,acc.toList,qVM rfl (by simpa using a1) fun i v hi=>a2 i v (by rw [<- O4];exact hi),?_⟩),rfl,q _ (I1.hok.fresh (A5 _))⟩
 ·rw [qQY,sizeLine_eq];omega
 ·have:=IsTup.new h' acc;simpa using this
theorem qQX:∀ (bs:List Bool),((C8 bs.length).all fun i=>(bs[i]?).getD true)=bs.all id:=by
 intro bs;rw [L7,G9,G9]
 constructor
 ·intro h b hb;obtain ⟨i,hi,e⟩:=V2.mp hb;have:=h i (J1.mpr hi);rw [A3 hi,e] at this;exact this
 ·intro h i hi;have hi':=J1.mp hi;rw [A3 hi'];exact h _ (A44 hi')
theorem qHI (hc:X.calm=true):qDD X (.builtin "all") (fun xs H Q=>∃ (p:Addr) (bs:List Bool),xs=[.ref p]/\SqL X.K H p (bs.map V.bl)/\Q (.bl (bs.all id)) H):=by
 intro Ab s σ H xs us Q I r h;obtain ⟨p,bs,rfl,hq,q⟩:=h;obtain ⟨u,rfl,rx⟩:=qGH r;cases rx;obtain ⟨its,rv,pl,hz⟩:=I.list hq;have hl:=pl.isList;have hlt:p<s.heap.objs.size:=by obtain ⟨_,e,_⟩:=hl;exact B6 e
 have hlen:=rv.length;rw [A0] at hlen;refine call_all_walk (wpAny_pyIter_list hl ?_);refine ⟨s.heap.objs.size,[s.heap.objs.size,p],[s.heap.objs.size],its.toArray.size,_,_,fun i=>(bs[i]?).getD true,rfl,A32 (A:=X.A.in1) (I.ok.hd hc) _ p (E6 hlt) its.toArray,
  ⟨⟨_,B9 _ rfl,rfl,rfl⟩,hl.push _⟩,fun i v s' Q' E' hP hQ=>?_,fun h' tk hk=>?_⟩
 ·have hP':its[i]?=some v:=by simpa using hP
  have hi:i<bs.length:=by rw [hlen];exact (A1.mp hP').1
  obtain ⟨u,hu,ru⟩:=rv.get (i:=i) (x:=.bl bs[i]) (by rw [B5,A3 hi];rfl)
  rw [hP'] at hu;cases hu;cases ru;dsimp only at hQ;rw [A3 hi,U5] at hQ;exact wpAny_truthy_bool hQ
 ·have e:((C8 its.toArray.size).all fun i=>(bs[i]?).getD true)=bs.all id:=by
   rw [C6,<- hlen];exact qQX bs
  refine ⟨.bl (bs.all id),H,I.kept fun b x e=>hk b x (fun hm=>by rw [A6.mp hm] at e;exact O6 _ (B6 e)) (A2 _ e),?_,q⟩
  rw [e]
  rfl
theorem qB1:qDD X (.builtin "isinstance") (fun xs H Q=>∃ x T t b,xs=[x,.ty T]/\TyOf X.K H x t/\L8 X.K t (.type T)=some b/\Q (.bl b) H):=by
 intro Ab s σ H xs us Q I r h;obtain ⟨x,T,t,b,rfl,ht,hk,q⟩:=h;obtain ⟨u,v,rfl,r1,r2⟩:=qOI r;cases r2;exact qTP I r1 ht hk fun tk=>⟨.bl b,H,I.tok _,rfl,q⟩
theorem qNC (hu:X.A.units<cLine):OpR X (compareOp .Eq) (fun x y H Q=>∃ p l xs,x=.ref p/\y=.ref l/\SqL X.K H p xs/\SqL X.K H l []/\Q (.bl xs.isEmpty) H):=by
 intro Ab s σ H x y v u Q I rx ry h;obtain ⟨p,l,xs,rfl,rfl,h1,h2,q⟩:=h;cases rx;cases ry;obtain ⟨its,r1,p1,z1⟩:=I.list h1;obtain ⟨its2,r2,p2,z2⟩:=I.list h2;cases r2;cases xs with
 | nil=>
  cases r1;exact SeqAt.eq_listAt (e:=fun _=>true) p1.isList p2.isList rfl hu (fun j h _=>absurd h (by simp)) ⟨.bl true,H,I,rfl,q⟩
 | cons a r=>
  cases r1;exact SeqAt.eq_list_lengthsAt p1.isList p2.isList (by simp) hu ⟨.bl false,H,I,rfl,q⟩
end
theorem qO2 {X:Cx} {K:PySem.W.Frag} {w:World} (hK:X.K=K) (hw:X.w=w) (hc:X.calm=true):qDD X (.builtin "sorted") (fun xs H Q=>∃ p ns,xs=[.ref p]/\(SqL K H p (ns.map V.int)\/SqT K H p (ns.map V.int)\/H p=some (SetO w p ns))/\ns.length<64/\
  ∀ (a:Addr) (ns':List Int),H a=none->ns'.Perm ns->ns'.Pairwise (·<=·)->Q (.ref a) (Ai H a (.lst (ns'.map V.int)))):=by subst hK hw;exact qDN hc
theorem qUK {X:Cx} {K:PySem.W.Frag} {w:World} (hK:X.K=K) (hw:X.w=w) (hc:X.calm=true):qDD X (.type "set") (fun xs H Q=>∃ p ns,xs=[.ref p]/\SqL K H p (ns.map V.int)/\ns.length<=4/\∀ a,H a=none->Q (.ref a) (Ai H a (SetO w a (dedI ns)))):=by subst hK hw;exact qMK hc
def Ite (K:PySem.W.Frag) (l:Addr):It:=
 ⟨fun i H=>∃ xs x,SqL K H l xs/\xs[i]?=some x,fun i H v H'=>∃ T x,H T=none/\v=.ref T/\H'=Ai H T (.tup [.int (i:Int),x])/\∀ xs,SqL K H l xs->xs[i]?=some x,fun i H=>∃ xs,SqL K H l xs/\xs.length<=i⟩
section
variable {X:Cx}
theorem Inv.turnedL {Ab:List (Addr × Obj)} {s:Shared} {σ:St} {H:Hp} {h':Heap} {t':Nat} {ch:List Addr} (I:Inv X Ab σ H s) (k:∀ b o,b ∉ ch->s.heap.get? b=some o->h'.get? b=some o) (hc:∀ b ∈ ch,FpOk X Ab H b):Inv X Ab σ H { s with heap:=h',toks:=t' }:=by
 have nit:∀ b u,H b=some u->b ∉ ch:=fun b u e z=>by rw [(hc b z).1] at e;cases e
 refine I.step (g':=s.gens) (d':=s.drawn) (ch:=ch) (fun b hb=>⟨(hc b hb).2.2.2.1,(hc b hb).2.1,(hc b hb).2.2.2.2.1,(hc b hb).2.2.2.2.2⟩) (fun b o _ _ hc' e _=>k b o hc' e) (fun b o _ _ hc' e _=>⟨o.slots,k b o hc' e⟩) (fun _ _ _ _ n=>n)
  (fun b o hc' e=>⟨o,k b o hc' e⟩) (fun _ _ e=>e) (fun _ _ _ e=>e) (fun _ _ e=>e) (fun m hm=>?_) (fun b u e=>?_) I.bare
 ·obtain ⟨o,es,ep,ho,r⟩:=hm;exact ⟨o,es,ep,k _ o (fun z=>(hc _ z).2.1 rfl) ho,r⟩
 ·refine (I.hok b u e).stay (fun c v hc' q=>k c v ?_ q) (fun _ q=>q) fun _ _ q=>q;rcases hc' with z | z
  ·rw [z];exact nit b u e
  ·exact nit c _ z
theorem qS0 {P:Program} {w:World} {K:PySem.W.Frag} {elts:List Expr} {k:Nat} {pos:Pos} (l it e:Addr) (hne:e ≠ it):Turn P w K (.Tuple elts k pos) (Ite K l) [e,it] e (fun i h=>(∃ old,IsEnum h e it i old)/\h.IsListIter it l i) where
 mem:=by simp
 obj:=fun i h st b hb=>by
  obtain ⟨⟨old,h1⟩,o,h2,_,h4⟩:=st;have e':b=e\/b=it:=by simpa using hb
  rcases e' with rfl | rfl
  ·exact ⟨_,h1,fun v z=>by
    have z':A06 _=y0 v:=z;cases z'⟩
  ·exact ⟨o,h2,fun v z=>by rw [h4] at z;cases z⟩
 keep:=fun i h h' st kk=>by
  obtain ⟨⟨old,h1⟩,h2⟩:=st;exact ⟨⟨old,kk e (by simp) _ h1⟩,h2.at fun o q=>kk it (by simp) o q⟩
 item:=by
  intro X hP hw hK hc i Ab s σ H E I hf st hg;subst hP hw hK;obtain ⟨xs,x,hq,hx⟩:=hg;obtain ⟨its,rv,p,hz⟩:=I.list hq;obtain ⟨u,hu,ru⟩:=rv.get hx;obtain ⟨⟨old,h1⟩,h2⟩:=st;refine wpAny_pyNext_enum_item h1 h2 p.isList (x:=u) (by simpa using hu) hne fun h' a1 a2 a3 a4 a5=>?_
  refine ⟨_,rfl,wpAny_letOwnedTupleGo_enum a1 fun h2 b1 b2=>?_⟩;have ltE:e<s.heap.objs.size:=B6 h1;have I1:Inv X Ab σ H { s with heap:=h2,toks:=s.toks+1 }:=I.turnedL (ch:=[e,it]) (fun b o hb q=>by
   have hb1:b ≠ e:=fun z=>hb (by simp [z])
   have hb2:b ≠ it:=fun z=>hb (by simp [z])
   exact (b2.2 b hb1).trans (a5 b o hb1 hb2 q)) hf
  have hT:H s.heap.objs.size=none:=I.hok.fresh (A5 _);have fT:=I.fpOk (H':=H) (b:=s.heap.objs.size) (A5 _) hT;have gT:h2.get? s.heap.objs.size=some { cls:=.type "tuple",data:=.seq #[.int i s.toks,u] }:=(b2.2 _ (Y2 ltE)).trans a3;refine ⟨.ref s.heap.objs.size,Ai H s.heap.objs.size (.tup [.int (i:Int),x]),I1.track hT I.sz fT.2.1 fT.2.2.2.2.1 fT.2.2.2.2.2 ⟨by simp only [B3,Q2];rw [sizeLine_eq];decide,[.int (i:Int) s.toks,u],.cons ⟨_,rfl⟩ (.cons ru .nil),⟨_,gT,rfl,_,rfl⟩⟩,rfl,
   ⟨_,x,hT,rfl,rfl,fun ys hy=>by rw [I.list_inj hy hq];exact hx⟩,⟨⟨_,b1⟩,a2.at fun o q=>(b2.2 it (J2 hne)).trans q⟩,fun b hb=>?_⟩
  have ltb:b<s.heap.objs.size:=by
   have e':b=e\/b=it:=by simpa using hb
   rcases e' with rfl | rfl
   ·exact ltE
   ·obtain ⟨o,q,_⟩:=h2;exact B6 (by assumption)
  rw [qA8 (E6 ltb)];exact (hf b hb).1
 done:=by
  intro X hP hw hK hc i Ab s σ H E I hf st hg;subst hP hw hK;obtain ⟨xs,hq,hx⟩:=hg;obtain ⟨its,rv,p,hz⟩:=I.list hq;have hl:=rv.length;obtain ⟨⟨old,h1⟩,h2⟩:=st;exact wpAny_pyNext_enum_end (I.ok.hd hc) h1 h2 p.isList (by simp;omega) fun h' eb=>⟨rfl,I.turnedL (t':=s.toks) (ch:=[e,it]) (fun b o hb q=>eb b o (fun z=>hb (by simp [z])) q) hf⟩
 self:=fun _ _ _ _ _ st h=>by
  obtain ⟨⟨old,h1⟩,h2⟩:=st;exact wpAny_pyIter_enum h1 h
def qd4 (K:PySem.W.Frag) (ta:TA):TI:=fun σ H R=>ta σ H fun vs H1=>∃ l,vs=[.ref l]/\(∃ xs,SqL K H1 l xs)/\R (Ite K l) H1
theorem qE6 {elts:List Expr} {k:Nat} {tpos:Pos} {a:Expr} {ta:TA} {p pos:Pos} (hg:Gl X "enumerate") (hm:X.mg "enumerate" = none) (hv:bootBuiltins "enumerate" = some (.type "enumerate")) (ha:PA X [a] ta) (hs:starEach [a] X.env=[(false,eval a X.env)]:=by rfl) :
  PI X (.Tuple elts k tpos) (.Call (.Name "enumerate" p) [a] [] pos) (qd4 X.K ta):=by
 intro Ab s σ H R I h;refine Call_ (qH1 I hg hm hv (J3 (thn (ha pos Ab s σ H _ I h) fun us s1 ⟨vs,H1,I1,r1,q1⟩=>?_) hs rfl));obtain ⟨l,e,⟨xs,hq⟩,q⟩:=q1;subst e;obtain ⟨u,rfl,rx⟩:=qGH r1;cases rx;obtain ⟨its,rv,pl,hz⟩:=I1.list hq;refine call_enumerate_list pl.isList fun h' he hi hsz hk=>?_;refine wpAny_pyIter_enum he ?_;have I2:Inv X Ab σ H1 { s1 with heap:=h' }:=I1.kept (t':=s1.toks) hk;refine ⟨s1.heap.objs.size+1,[s1.heap.objs.size+1,s1.heap.objs.size],_,_,H1,rfl,I2,qS0 l s1.heap.objs.size (s1.heap.objs.size+1) (A45 _),⟨⟨_,he⟩,hi⟩,fun b hb=>?_,q⟩;have e':b=s1.heap.objs.size+1\/b=s1.heap.objs.size:=by simpa using hb
 rcases e' with rfl | rfl
 ·exact I1.fpOk (t8 _) (I1.hok.fresh (t8 _))
 ·exact I1.fpOk (A5 _) (I1.hok.fresh (A5 _))
end
theorem qLS {K:PySem.W.Frag} {a:Addr} {xs:List V} {g:TG} {tc:TT} {te:TE} {Kf:Hp->Prop} {σ0:St} {H0:Hp} {p:Addr} (Pv:Nat->St->Hp->Prop) (h0:Pv 0 σ0 H0) (hl:∀ i σ H,i<=xs.length->Pv i σ H->SqL K H a xs)
  (hs:∀ i x σ H T,xs[i]?=some x->Pv i σ H->H T=none->g (.ref T) σ (Ai H T (.tup [.int (i:Int),x])) fun σ2 H2=>tc σ2 H2 fun b H3=>if b=true then te σ2 H3 fun y H4=>∃ ys,H4 p=some (.lst ys)/\ys.length<sizeLine/\Pv (i+1) σ2 (Ai H4 p (.lst (ys++[y]))) else Pv (i+1) σ2 H3)
  (hd:∀ σ H,Pv xs.length σ H->Kf H) :
  ∃ W:Nat->Nat->St->Hp->Prop,(∃ m,W 0 m σ0 H0)/\∀ i m σ H,W i m σ H->
   ((Ite K a).stop i H/\Kf H)\/((Ite K a).go i H/\∃ N:St->Hp->Prop,(∀ σ' H',N σ' H'->∃ m',m'<m/\W (i+1) m' σ' H')/\∀ x H',(Ite K a).yld i H x H'->g x σ H' fun σ2 H2=>tc σ2 H2 fun b H3=>
    if b=true then te σ2 H3 fun y H4=>∃ ys,H4 p=some (.lst ys)/\ys.length<sizeLine/\N σ2 (Ai H4 p (.lst (ys++[y]))) else N σ2 H3):=by
 refine ⟨fun i m σ H=>m=xs.length - i/\i<=xs.length/\Pv i σ H,⟨xs.length,by simp,E8 _,h0⟩,?_⟩
 rintro i m σ H ⟨rfl,hi,q⟩;have hq:=hl i σ H hi q;by_cases hlt:i<xs.length
 ·refine .inr ⟨⟨xs,xs[i],hq,by simp [hlt]⟩,Pv (i+1),fun σ' H' p'=>⟨xs.length - (i+1),by omega,rfl,hlt,p'⟩,fun v H' y=>?_⟩
  obtain ⟨T,x,hT,e1,e2,y⟩:=y;subst e1 e2;exact hs i x σ H T (y xs hq) q hT
 ·have e:i=xs.length:=by omega
  subst e;exact .inl ⟨⟨xs,hq,A5 _⟩,hd σ H q⟩
theorem qHS {prog:Program} {w:World} {A:Around} {E:Value->Shared->Prop} {s:Shared} {it t:Addr} {i:Nat} {Ae:Array Value} {x:Value} {Q:Value->Shared->Prop} (hit:s.heap.IsTupleIter it t i) (ht:s.heap.IsTuple t Ae) (hx:Ae[i]?=some x)
  (hQ:∀ h':Heap,h'.IsTupleIter it t (i+1)->Heap.SameBut it s.heap h'->Q x { s with heap:=h' }):wpAny (model prog w) A (V1 (.ref it)) Q E s:=by
 obtain ⟨o,ho,hc,hd⟩:=id hit;obtain ⟨ol,hol,_,nl,hdl⟩:=ht;refine wpAny_bind (wpAny_callSpecial?_slot hit.typeIs U4 (wpAny_call_entry U4 hit.typeIs i4 ?_ (d8 _)));show wpAny _ _ (field (.ref it) 0 >>= _) _ _ _;refine wpAny_bind (wpAny_field ho hd rfl ?_);refine wpAny_ite_false rfl ?_;show wpAny _ _ (field (.ref it) 1 >>= _) _ _ _;refine wpAny_bind (wpAny_field ho hd rfl ?_);show wpAny _ _ (seqItems? (.ref t) >>= _) _ _ _;refine wpAny_bind (wpAny_seqItems hol hdl ?_);show wpAny _ _ (match Ae[i]? with | some x=>_ | none=>_) _ _ _
 rw [hx];refine wpAny_bind (wpAny_setField ho hd (by simp) ?_)
 refine wpAny_pure ⟨x,rfl,wpAny_pure (hQ _ ⟨_,O2 _ ho (c4 (U9 hd _)),(o8 o _).trans hc,?_⟩ (X9 _ _ _))⟩;rw [U9 hd];simp
 rfl
theorem qIJ {prog:Program} {w:World} {A:Around} {E:Value->Shared->Prop} {s:Shared} {it t:Addr} {i:Nat} {Ae:Array Value} {Q:Value->Shared->Prop} (hh:A.handled=none) (hit:s.heap.IsTupleIter it t i) (ht:s.heap.IsTuple t Ae) (hx:Ae[i]?=none)
  (hE:∀ (h':Heap) (e:Addr),Heap.ExtBut it s.heap h'->(∃ o,h'.get? e=some o/\o.cls=.type "StopIteration")->E (.ref e) { s with heap:=h' }):wpAny (model prog w) A (V1 (.ref it)) Q E s:=by
 obtain ⟨o,ho,hc,hd⟩:=id hit;obtain ⟨ol,hol,_,nl,hdl⟩:=ht;refine wpAny_bind (wpAny_callSpecial?_slot hit.typeIs U4 (wpAny_call_entry U4 hit.typeIs i4 ?_ (d8 _)));show wpAny _ _ (field (.ref it) 0 >>= _) _ _ _;refine wpAny_bind (wpAny_field ho hd rfl ?_);refine wpAny_ite_false rfl ?_;show wpAny _ _ (field (.ref it) 1 >>= _) _ _ _;refine wpAny_bind (wpAny_field ho hd rfl ?_);show wpAny _ _ (seqItems? (.ref t) >>= _) _ _ _;refine wpAny_bind (wpAny_seqItems hol hdl ?_);show wpAny _ _ (match Ae[i]? with | some x=>_ | none=>_) _ _ _
 rw [hx];refine wpAny_bind (wpAny_rule ?_);refine wpAny_bind (wpAny_setField ho hd (by simp) ?_)
 show wpAny _ _ (newExc (.type "StopIteration") [] >>= _) _ _ _;refine wpAny_bind ?_;simp only [newExc,newTuple];refine wpAny_bind (wpAny_newObj_type ?_ (by size_fits))
 refine wpAny_bind (m:=firstArgMember _ _) (wpAny_of_eq (a:=W2) (by first | rfl | (simp only [firstArgMember];rfl)) ?_)
 refine wpAny_newObj_type ?_ (by size_fits)
 simp only [raiseNew];refine wpAny_bind (wpAny_handled ?_);rw [show A.in1.handled=none from hh];refine wpAny_bind (wpAny_pure (wpAny_throw ?_));exact hE _ _ (((X9 ..).extBut.push _).push _) ⟨_,B9 _ rfl,rfl⟩
def SIt (b:Bool) (h:Heap) (it l:Addr) (i:Nat):Prop:=match b with | true=>h.IsTupleIter it l i | false=>h.IsListIter it l i
def SSq (b:Bool) (h:Heap) (l:Addr) (xs:Array Value):Prop:=match b with | true=>h.IsTuple l xs | false=>h.IsList l xs
theorem SIt.at {b:Bool} {h h':Heap} {it l:Addr} {i:Nat} (q:SIt b h it l i) (k:∀ o,h.get? it=some o->h'.get? it=some o):SIt b h' it l i:=by
 cases b
 ·exact Heap.IsListIter.at q k
 ·exact Heap.IsTupleIter.at q k
theorem SSq.at {b:Bool} {h h':Heap} {l:Addr} {xs:Array Value} (q:SSq b h l xs) (k:∀ o,h.get? l=some o->h'.get? l=some o):SSq b h' l xs:=by
 cases b
 ·obtain ⟨o,e,r⟩:=q;exact ⟨o,k o e,r⟩
 ·obtain ⟨o,e,r⟩:=q;exact ⟨o,k o e,r⟩
theorem qGK {b:Bool} {prog:Program} {w:World} {A:Around} {E:Value->Shared->Prop} {s:Shared} {it t:Addr} {i:Nat} {Ae:Array Value} {x:Value} {Q:Value->Shared->Prop} (hit:SIt b s.heap it t i) (ht:SSq b s.heap t Ae) (hx:Ae[i]?=some x)
  (hQ:∀ h':Heap,SIt b h' it t (i+1)->Heap.SameBut it s.heap h'->Q x { s with heap:=h' }):wpAny (model prog w) A (V1 (.ref it)) Q E s:=by
 cases b
 ·exact wpAny_nextOf_list_item hit ht hx hQ
 ·exact qHS hit ht hx hQ
theorem qKV {b:Bool} {prog:Program} {w:World} {A:Around} {E:Value->Shared->Prop} {s:Shared} {it t:Addr} {i:Nat} {Ae:Array Value} {Q:Value->Shared->Prop} (hh:A.handled=none) (hit:SIt b s.heap it t i) (ht:SSq b s.heap t Ae) (hx:Ae[i]?=none)
  (hE:∀ (h':Heap) (e:Addr),Heap.ExtBut it s.heap h'->(∃ o,h'.get? e=some o/\o.cls=.type "StopIteration")->E (.ref e) { s with heap:=h' }):wpAny (model prog w) A (V1 (.ref it)) Q E s:=by
 cases b
 ·exact wpAny_nextOf_list_end hh hit ht hx hE
 ·exact qIJ hh hit ht hx hE
theorem qRW {b:Bool} {prog:Program} {w:World} {A:Around} {E:Value->Shared->Prop} {s:Shared} {z TI TO i1 i2 l1 l2:Addr} {k1 k2:Nat} {xs ys:Array Value} {x y a c:Value} {Q:Value->Shared->Prop} (D:ZipApart z TI TO i1 i2 l1 l2) (hz:IsZip s.heap z TI TO .none) (hTI:IsPair s.heap TI (.ref i1) (.ref i2)) (hTO:IsPair s.heap TO a c)
  (h1:SIt b s.heap i1 l1 k1) (h2:SIt b s.heap i2 l2 k2) (hl1:SSq b s.heap l1 xs) (hl2:SSq b s.heap l2 ys) (hx:xs[k1]?=some x) (hy:ys[k2]?=some y)
  (hQ:∀ h':Heap,IsZip h' z TI TO (rawInt (s.heap.objs.size:Int))->IsPair h' TO x y->SIt b h' i1 l1 (k1+1)->SIt b h' i2 l2 (k2+1)->IsPair h' s.heap.objs.size x y->h'.objs.size=s.heap.objs.size+1->
   (∀ (c:Addr) (o:Obj),c ≠ z->c ≠ TO->c ≠ i1->c ≠ i2->s.heap.get? c=some o->h'.get? c=some o)->Q (.ref s.heap.objs.size) { s with heap:=h' }) :
  wpAny (model prog w) A (Builtin.«zip.__next__» { pos:=[.ref z] }) (fun fin s'=>∃ v,fin=.done (.ret v)/\Q v s') E s:=by
 show wpAny _ _ (field (.ref z) 2 >>= _) _ _ _;refine wpAny_bind (wpAny_field hz rfl rfl ?_);show wpAny _ _ (field (.ref z) 3 >>= _) _ _ _;refine wpAny_bind (wpAny_field hz rfl rfl ?_);refine wpAny_bind (wpAny_seqItems hTI rfl ?_);show wpAny _ _ (U0 (.ref z) >>= _) _ _ _;refine wpAny_bind ?_;show wpAny _ _ (field (.ref z) 0 >>= _) _ _ _;refine wpAny_bind (wpAny_field hz rfl rfl (wpAny_pure ?_));refine wpAny_ite_true rfl ?_;refine wpAny_bind (wpAny_rule ?_);refine wpAny_bind (wpAny_field hz rfl rfl ?_);refine wpAny_bind (wpAny_setField_rec hz (by simp) fun hA gz sb=>?_)
 refine wpAny_bind ?_;show wpAny _ _ (forIn [(D8 i1,0),(D8 i2,1)] _ _) _ _ _;rw [T8];refine wpAny_bind ?_;dsimp only;refine wpAny_bind (wpAny_onRaise ?_);have e:((#[W2,R5 false,R5 false,D8 TI,D8 TO][2] == R5 true)=false):=rfl;rw [e];have sA1:SIt b hA i1 l1 k1:=h1.at fun o q=>(sb.2 _ D.i1z).trans q;have sL1:SSq b hA l1 xs:=hl1.at fun o q=>(sb.2 _ D.l1z).trans q;refine wpAny_bind (qGK (s:={ s with heap:=hA }) sA1 sL1 hx fun hB nB sB=>?_);refine wpAny_pure ?_;have tB:IsPair hB TO a c:=(sB.2 _ D.TOi1).trans ((sb.2 _ D.TOz).trans hTO);refine wpAny_bind (wpAny_seqItems tB rfl ?_);refine wpAny_bind (wpAny_updateSeq_pair tB fun hC tC sC=>?_);refine wpAny_bind (wpAny_letGo (wpAny_pure ?_));dsimp only;rw [T8];refine wpAny_bind ?_;refine wpAny_bind (wpAny_onRaise ?_);have sC2:SIt b hC i2 l2 k2:=h2.at fun o q=>(sC.2 _ (J2 D.TOi2)).trans ((sB.2 _ (J2 D.i12)).trans ((sb.2 _ D.i2z).trans q));have sL2:SSq b hC l2 ys:=hl2.at fun o q=>(sC.2 _ D.l2TO).trans ((sB.2 _ D.l2i1).trans ((sb.2 _ D.l2z).trans q));refine wpAny_bind (qGK (s:={ s with heap:=hC }) sC2 sL2 hy fun hD nD sD=>?_);refine wpAny_pure ?_;have tD:IsPair hD TO x c:=(sD.2 _ D.TOi2).trans tC;refine wpAny_bind (wpAny_seqItems tD rfl ?_);refine wpAny_bind (wpAny_updateSeq_pair tD fun hF tF sF=>?_);refine wpAny_bind (wpAny_letGo (wpAny_pure ?_));dsimp only;rw [A59];refine wpAny_pure ?_;dsimp only;have tF':IsPair hF TO x y:=tF;refine wpAny_bind (wpAny_seqItems tF' rfl ?_);refine wpAny_bind (wpAny_newTuple ?_ (by show 2<=sizeLine;decide))
 have gzF:hF.get? z=some { cls:=.type "zip",data:=.fields #[.ellipsis,.bool false,.bool false,.ref TI,.ref TO] }:=(sF.2 _ (J2 D.TOz)).trans ((sD.2 _ (J2 D.i2z)).trans ((sC.2 _ (J2 D.TOz)).trans ((sB.2 _ (J2 D.i1z)).trans gz)));have szF:hF.objs.size=s.heap.objs.size:=sF.1.trans (sD.1.trans (sC.1.trans (sB.1.trans sb.1)));have ltz:z<hF.objs.size:=B6 gzF;have gzG:(hF.push { cls:=.type "tuple",data:=.seq #[x,y] }).get? z=some { cls:=.type "zip",data:=.fields #[.ellipsis,.bool false,.bool false,.ref TI,.ref TO] }:=A2 _ gzF;refine wpAny_bind ?_;show wpAny _ _ (setField (.ref z) 0 (rawInt _) >>= _) _ _ _;refine wpAny_bind (wpAny_setField_rec gzG (by simp) fun hG gG sG=>?_)
 refine wpAny_setField_rec gG (by simp) fun hI gI sI=>?_
 refine wpAny_pure ⟨_,rfl,?_⟩;have o4:∀ (c:Addr) (o:Obj),c ≠ z->c ≠ TO->c ≠ i1->c ≠ i2->s.heap.get? c=some o->hI.get? c=some o:=fun c o n1 n2 n3 n4 e=>
  (sI.2 _ n1).trans ((sG.2 _ n1).trans (A2 _ ((sF.2 _ n2).trans ((sD.2 _ n4).trans ((sC.2 _ n2).trans ((sB.2 _ n3).trans ((sb.2 _ n1).trans e)))))))
 have nz:hF.objs.size ≠ z:=Y2 ltz;have gT:hI.get? hF.objs.size=some { cls:=.type "tuple",data:=.seq #[x,y] }:=(sI.2 _ nz).trans ((sG.2 _ nz).trans (B9 _ rfl));have szI:hI.objs.size=hF.objs.size+1:=sI.1.trans (sG.1.trans (G6 ..));have pz:∀ {c:Addr} {o:Obj},c ≠ z->hF.get? c=some o->hI.get? c=some o:=fun n e=>(sI.2 _ n).trans ((sG.2 _ n).trans (A2 _ e));have q:=hQ hI;rw [<- szF] at q;refine q gI (pz D.TOz tF') (nB.at fun o e=>pz D.i1z ((sF.2 _ (J2 D.TOi1)).trans ((sD.2 _ D.i12).trans ((sC.2 _ (J2 D.TOi1)).trans e)))) (nD.at fun o e=>pz D.i2z ((sF.2 _ (J2 D.TOi2)).trans e)) gT szI o4
theorem qV8 {b:Bool} {prog:Program} {w:World} {A:Around} {E:Value->Shared->Prop} {s:Shared} {z TI TO i1 i2 l1 l2:Addr} {k1:Nat} {xs:Array Value} {Q:PySem.Fin->Shared->Prop} (hh:A.handled=none) (D:ZipApart z TI TO i1 i2 l1 l2) (hz:IsZip s.heap z TI TO .none) (hTI:IsPair s.heap TI (.ref i1) (.ref i2))
  (h1:SIt b s.heap i1 l1 k1) (hl1:SSq b s.heap l1 xs) (hx:xs[k1]?=none)
  (hE:∀ (h':Heap) (e:Addr),(∀ (c:Addr) (o:Obj),c ≠ z->c ≠ i1->s.heap.get? c=some o->h'.get? c=some o)->(∃ o,h'.get? e=some o/\o.cls=.type "StopIteration")->E (.ref e) { s with heap:=h' }) :
  wpAny (model prog w) A (Builtin.«zip.__next__» { pos:=[.ref z] }) Q E s:=by
 show wpAny _ _ (field (.ref z) 2 >>= _) _ _ _;refine wpAny_bind (wpAny_field hz rfl rfl ?_);show wpAny _ _ (field (.ref z) 3 >>= _) _ _ _;refine wpAny_bind (wpAny_field hz rfl rfl ?_);refine wpAny_bind (wpAny_seqItems hTI rfl ?_);show wpAny _ _ (U0 (.ref z) >>= _) _ _ _;refine wpAny_bind ?_;show wpAny _ _ (field (.ref z) 0 >>= _) _ _ _;refine wpAny_bind (wpAny_field hz rfl rfl (wpAny_pure ?_));refine wpAny_ite_true rfl ?_;refine wpAny_bind (wpAny_rule ?_);refine wpAny_bind (wpAny_field hz rfl rfl ?_);refine wpAny_bind (wpAny_setField_rec hz (by simp) fun hA gz sb=>?_)
 refine wpAny_bind ?_;show wpAny _ _ (forIn [(D8 i1,0),(D8 i2,1)] _ _) _ _ _;rw [T8];refine wpAny_bind ?_;dsimp only;refine wpAny_bind (wpAny_onRaise ?_);have e:((#[W2,R5 false,R5 false,D8 TI,D8 TO][2] == R5 true)=false):=rfl;rw [e];have sA1:SIt b hA i1 l1 k1:=h1.at fun o q=>(sb.2 _ D.i1z).trans q;have sL1:SSq b hA l1 xs:=hl1.at fun o q=>(sb.2 _ D.l1z).trans q;refine wpAny_bind (qKV (s:={ s with heap:=hA }) hh sA1 sL1 hx fun hB ea xB ⟨ob,gb,cb⟩=>?_);have gzB:=xB z _ (J2 D.i1z) gz;refine wpAny_setField_rec gzB (by simp) fun hC gC sC=>?_
 have nez:ea ≠ z:=fun q=>by
  rw [q,gzB] at gb;cases gb;exact absurd (show V3 "zip" = V3 "StopIteration" from cb) (by decide)
 exact hE hC ea (fun c o n1 n2 q=>(sC.2 _ n1).trans (xB c o n2 ((sb.2 _ n1).trans q))) ⟨ob,(sC.2 _ nez).trans gb,cb⟩
theorem qRX {b:Bool} {prog:Program} {w:World} {A:Around} {E:Value->Shared->Prop} {s:Shared} {z TI TO i1 i2 l1 l2:Addr} {k1 k2:Nat} {xs ys:Array Value} {x a c:Value} {Q:PySem.Fin->Shared->Prop} (hh:A.handled=none) (D:ZipApart z TI TO i1 i2 l1 l2) (hz:IsZip s.heap z TI TO .none) (hTI:IsPair s.heap TI (.ref i1) (.ref i2)) (hTO:IsPair s.heap TO a c)
  (h1:SIt b s.heap i1 l1 k1) (h2:SIt b s.heap i2 l2 k2) (hl1:SSq b s.heap l1 xs) (hl2:SSq b s.heap l2 ys) (hx:xs[k1]?=some x) (hy:ys[k2]?=none)
  (hE:∀ (h':Heap) (e:Addr),(∀ (c:Addr) (o:Obj),c ≠ z->c ≠ TO->c ≠ i1->c ≠ i2->s.heap.get? c=some o->h'.get? c=some o)->(∃ o,h'.get? e=some o/\o.cls=.type "StopIteration")->E (.ref e) { s with heap:=h' }) :
  wpAny (model prog w) A (Builtin.«zip.__next__» { pos:=[.ref z] }) Q E s:=by
 show wpAny _ _ (field (.ref z) 2 >>= _) _ _ _;refine wpAny_bind (wpAny_field hz rfl rfl ?_);show wpAny _ _ (field (.ref z) 3 >>= _) _ _ _;refine wpAny_bind (wpAny_field hz rfl rfl ?_);refine wpAny_bind (wpAny_seqItems hTI rfl ?_);show wpAny _ _ (U0 (.ref z) >>= _) _ _ _;refine wpAny_bind ?_;show wpAny _ _ (field (.ref z) 0 >>= _) _ _ _;refine wpAny_bind (wpAny_field hz rfl rfl (wpAny_pure ?_));refine wpAny_ite_true rfl ?_;refine wpAny_bind (wpAny_rule ?_);refine wpAny_bind (wpAny_field hz rfl rfl ?_);refine wpAny_bind (wpAny_setField_rec hz (by simp) fun hA gz sb=>?_)
 refine wpAny_bind ?_;show wpAny _ _ (forIn [(D8 i1,0),(D8 i2,1)] _ _) _ _ _;rw [T8];refine wpAny_bind ?_;dsimp only;refine wpAny_bind (wpAny_onRaise ?_);have e:((#[W2,R5 false,R5 false,D8 TI,D8 TO][2] == R5 true)=false):=rfl;rw [e];have sA1:SIt b hA i1 l1 k1:=h1.at fun o q=>(sb.2 _ D.i1z).trans q;have sL1:SSq b hA l1 xs:=hl1.at fun o q=>(sb.2 _ D.l1z).trans q;refine wpAny_bind (qGK (s:={ s with heap:=hA }) sA1 sL1 hx fun hB nB sB=>?_);refine wpAny_pure ?_;have tB:IsPair hB TO a c:=(sB.2 _ D.TOi1).trans ((sb.2 _ D.TOz).trans hTO);refine wpAny_bind (wpAny_seqItems tB rfl ?_);refine wpAny_bind (wpAny_updateSeq_pair tB fun hC tC sC=>?_);refine wpAny_bind (wpAny_letGo (wpAny_pure ?_));dsimp only;rw [T8];refine wpAny_bind ?_;refine wpAny_bind (wpAny_onRaise ?_);have sC2:SIt b hC i2 l2 k2:=h2.at fun o q=>(sC.2 _ (J2 D.TOi2)).trans ((sB.2 _ (J2 D.i12)).trans ((sb.2 _ D.i2z).trans q));have sL2:SSq b hC l2 ys:=hl2.at fun o q=>(sC.2 _ D.l2TO).trans ((sB.2 _ D.l2i1).trans ((sb.2 _ D.l2z).trans q));refine wpAny_bind (qKV (s:={ s with heap:=hC }) hh sC2 sL2 hy fun hD ea xD ⟨ob,gb,cb⟩=>?_);have gzC:hC.get? z=some { cls:=.type "zip",data:=.fields #[.ellipsis,.bool false,.bool false,.ref TI,.ref TO] }:=(sC.2 _ (J2 D.TOz)).trans ((sB.2 _ (J2 D.i1z)).trans gz);have gzD:=xD z _ (J2 D.i2z) gzC;refine wpAny_setField_rec gzD (by simp) fun hF gF sF=>?_
 have nez:ea ≠ z:=fun q=>by
  rw [q,gzD] at gb;cases gb;exact absurd (show V3 "zip" = V3 "StopIteration" from cb) (by decide)
 exact hE hF ea (fun c o n1 n2 n3 n4 q=>(sF.2 _ n1).trans (xD c o n4 ((sC.2 _ n2).trans ((sB.2 _ n3).trans ((sb.2 _ n1).trans q))))) ⟨ob,(sF.2 _ nez).trans gb,cb⟩
section
variable {b:Bool} {prog:Program} {w:World} {A:Around} {E:Value->Shared->Prop} {s:Shared} {z TI TO i1 i2 l1 l2:Addr} {k1 k2:Nat} {xs ys:Array Value}
theorem qIH {x y a c:Value} {Q:Option Value->Shared->Prop} (D:ZipApart z TI TO i1 i2 l1 l2) (hz:IsZip s.heap z TI TO .none) (hTI:IsPair s.heap TI (.ref i1) (.ref i2)) (hTO:IsPair s.heap TO a c)
  (h1:SIt b s.heap i1 l1 k1) (h2:SIt b s.heap i2 l2 k2) (hl1:SSq b s.heap l1 xs) (hl2:SSq b s.heap l2 ys) (hx:xs[k1]?=some x) (hy:ys[k2]?=some y)
  (hQ:∀ h':Heap,IsZip h' z TI TO (rawInt (s.heap.objs.size:Int))->IsPair h' TO x y->SIt b h' i1 l1 (k1+1)->SIt b h' i2 l2 (k2+1)->IsPair h' s.heap.objs.size x y->h'.objs.size=s.heap.objs.size+1->
   (∀ (c:Addr) (o:Obj),c ≠ z->c ≠ TO->c ≠ i1->c ≠ i2->s.heap.get? c=some o->h'.get? c=some o)->Q (some (.ref s.heap.objs.size)) { s with heap:=h' }) :
  wpAny (model prog w) A (pyNext (.ref z)) Q E s:=by
 have hT:s.TypeIs (.ref z) "zip":=⟨_,hz,rfl⟩;unfold pyNext;refine wpAny_bind (wpAny_attempt (wpAny_callSpecial?_slot (name:=C4 "__next__") hT X1 (wpAny_call_entry X1 hT u6 ?_ (o9 _))));exact qRW (Q:=fun v s'=>wpAny (model prog w) A (pure (some v)) Q E s') D hz hTI hTO h1 h2 hl1 hl2 hx hy fun h' q1 q2 q3 q4 q5 q6 q7=>wpAny_pure (hQ h' q1 q2 q3 q4 q5 q6 q7)
theorem qJJ {Q:Option Value->Shared->Prop} (hh:A.handled=none) (D:ZipApart z TI TO i1 i2 l1 l2) (hz:IsZip s.heap z TI TO .none) (hTI:IsPair s.heap TI (.ref i1) (.ref i2))
  (h1:SIt b s.heap i1 l1 k1) (hl1:SSq b s.heap l1 xs) (hx:xs[k1]?=none)
  (hQ:∀ h':Heap,(∀ (c:Addr) (o:Obj),c ≠ z->c ≠ i1->s.heap.get? c=some o->h'.get? c=some o)->Q none { s with heap:=h' }) :
  wpAny (model prog w) A (pyNext (.ref z)) Q E s:=by
 have hT:s.TypeIs (.ref z) "zip":=⟨_,hz,rfl⟩;unfold pyNext;refine wpAny_bind (wpAny_attempt (wpAny_callSpecial?_slot (name:=C4 "__next__") hT X1 (wpAny_call_entry X1 hT u6 ?_ (o9 _))));refine qV8 hh D hz hTI h1 hl1 hx fun h' e k ⟨o,g,c⟩=>?_;refine wpAny_bind (wpAny_isInstance (T:="StopIteration") (b:=true) ⟨_,g,c⟩ isSubtype_stop ?_);exact wpAny_pure (hQ h' k)
theorem qII {x a c:Value} {Q:Option Value->Shared->Prop} (hh:A.handled=none) (D:ZipApart z TI TO i1 i2 l1 l2) (hz:IsZip s.heap z TI TO .none) (hTI:IsPair s.heap TI (.ref i1) (.ref i2)) (hTO:IsPair s.heap TO a c)
  (h1:SIt b s.heap i1 l1 k1) (h2:SIt b s.heap i2 l2 k2) (hl1:SSq b s.heap l1 xs) (hl2:SSq b s.heap l2 ys) (hx:xs[k1]?=some x) (hy:ys[k2]?=none)
  (hQ:∀ h':Heap,(∀ (c:Addr) (o:Obj),c ≠ z->c ≠ TO->c ≠ i1->c ≠ i2->s.heap.get? c=some o->h'.get? c=some o)->Q none { s with heap:=h' }) :
  wpAny (model prog w) A (pyNext (.ref z)) Q E s:=by
 have hT:s.TypeIs (.ref z) "zip":=⟨_,hz,rfl⟩;unfold pyNext;refine wpAny_bind (wpAny_attempt (wpAny_callSpecial?_slot (name:=C4 "__next__") hT X1 (wpAny_call_entry X1 hT u6 ?_ (o9 _))));refine qRX hh D hz hTI hTO h1 h2 hl1 hl2 hx hy fun h' e k ⟨o,g,c⟩=>?_;refine wpAny_bind (wpAny_isInstance (T:="StopIteration") (b:=true) ⟨_,g,c⟩ isSubtype_stop ?_);exact wpAny_pure (hQ h' k)
end
abbrev qRD (b:Bool) (l:Addr):Obj:={ cls:=.type (match b with | true=>"tuple_iterator" | false=>"list_iterator"),data:=.fields #[.ref l,.int 0 0] }
theorem qKN {b:Bool} {prog:Program} {w:World} {A:Around} {E:Value->Shared->Prop} {s:Shared} {l:Addr} {xs:Array Value} {Q:Value->Shared->Prop} (h:SSq b s.heap l xs) (hQ:Q (.ref s.heap.objs.size) { s with heap:=s.heap.push (qRD b l) }):wpAny (model prog w) A (pyIter (.ref l)) Q E s:=by
 cases b
 ·exact wpAny_pyIter_list h hQ
 ·exact wpAny_pyIter_tuple h hQ
abbrev zb1 (b:Bool) (h:Heap) (l1:Addr):Heap:=h.push (qRD b l1)
abbrev zb2 (b:Bool) (h:Heap) (l1 l2:Addr):Heap:=(zb1 b h l1).push (qRD b l2)
abbrev zb3 (b:Bool) (h:Heap) (l1 l2:Addr):Heap:=(zb2 b h l1 l2).push { cls:=.type "tuple",data:=.seq #[.ref h.objs.size,.ref (zb1 b h l1).objs.size] }
abbrev zb4 (b:Bool) (h:Heap) (l1 l2:Addr):Heap:=(zb3 b h l1 l2).push { cls:=.type "tuple",data:=.seq #[.none,.none] }
abbrev zb5 (b:Bool) (h:Heap) (l1 l2:Addr):Heap:=(zb4 b h l1 l2).push { cls:=.type "zip",data:=.fields #[.none,.bool false,.bool false,.ref (zb2 b h l1 l2).objs.size,.ref (zb3 b h l1 l2).objs.size] }
theorem qV7 (b:Bool) (l1 l2:Addr) (xs ys:Array Value):Meets (Builtin.«zip.__new__» { pos:=[.type "zip",.ref l1,.ref l2] }) fun _ R s=>
  SSq b s.heap l1 xs/\SSq b s.heap l2 ys/\R (.ok (.ret (.ref (zb4 b s.heap l1 l2).objs.size))) { s with heap:=zb5 b s.heap l1 l2 }:=by
 refine Meets.of_wp fun prog w A R s h=>?_;obtain ⟨hp,g,d,tk,os⟩:=s;obtain ⟨hl1,hl2,h⟩:=h;have hL2:SSq b (hp.push (qRD b l1)) l2 ys:=SSq.at hl2 fun o q=>A2 _ q;refine wpAny_bind ?_;refine wpAny_bind (wpAny_pure ?_);refine wpAny_ite_false rfl ?_;refine wpAny_bind (wpAny_of_eq sub_zip ?_);refine wpAny_ite_false rfl ?_;refine wpAny_pure ?_;refine wpAny_ite_false rfl ?_;refine wpAny_bind ?_;refine wpAny_bind ?_;show wpAny _ _ (forIn [D8 l1,D8 l2] #[] _) _ _ _;rw [T8];refine wpAny_bind (wpAny_bind (wpAny_holding (qKN hl1 (wpAny_pure ?_))));dsimp only;rw [T8];refine wpAny_bind (wpAny_bind (wpAny_holding (qKN hL2 (wpAny_pure ?_))));dsimp only;rw [A59];refine wpAny_pure (wpAny_pure ?_);refine wpAny_bind (wpAny_newTuple ?_ (by show 2<=sizeLine;decide))
 refine wpAny_bind (wpAny_newTuple ?_ (by show 2<=sizeLine;decide))
 refine wpAny_bind ?_;unfold A50;dsimp only;refine wpAny_newObj_type ?_ (by first | rfl | (show (5:Nat)<=_;decide) | (show (5:Nat)<=sizeLine+2;rw [sizeLine_eq];decide))
 refine wpAny_pure ⟨_,rfl,h⟩
theorem qUJ {b:Bool} {prog:Program} {w:World} {A:Around} {E:Value->Shared->Prop} {s:Shared} {l1 l2:Addr} {xs ys:Array Value} {Q:Value->Shared->Prop} (hl1:SSq b s.heap l1 xs) (hl2:SSq b s.heap l2 ys)
  (hQ:∀ (h':Heap) (z TI TO i1 i2:Addr),ZipApart z TI TO i1 i2 l1 l2->IsZip h' z TI TO .none->IsPair h' TI (.ref i1) (.ref i2)->IsPair h' TO .none .none->SIt b h' i1 l1 0->SIt b h' i2 l2 0->(∀ c ∈ [z,TI,TO,i1,i2],s.heap.objs.size<=c)->
   (∀ (c:Addr) (o:Obj),s.heap.get? c=some o->h'.get? c=some o)->Q (.ref z) { s with heap:=h' }) :
  wpAny (model prog w) A (call (.type "zip") [.ref l1,.ref l2]) Q E s:=by
 refine callType_new F.called_zip (by decide) (F.typeCall_zip_2 _ _) (F.newCall_zip_2 _ _) (fun obj=>F.args_object_init_3 obj _ _) F.entry_zip_new (qV7 b l1 l2 xs ys) ⟨hl1,hl2,?_⟩
 have z1:(zb1 b s.heap l1).objs.size=s.heap.objs.size+1:=G6 ..;have z2:(zb2 b s.heap l1 l2).objs.size=s.heap.objs.size+2:=(G6 ..).trans (by rw [z1])
 have z3:(zb3 b s.heap l1 l2).objs.size=s.heap.objs.size+3:=(G6 ..).trans (by rw [z2])
 have z4:(zb4 b s.heap l1 l2).objs.size=s.heap.objs.size+4:=(G6 ..).trans (by rw [z3])
 have g5:(zb5 b s.heap l1 l2).get? (zb4 b s.heap l1 l2).objs.size=some { cls:=.type "zip",data:=.fields #[.none,.bool false,.bool false,.ref (zb2 b s.heap l1 l2).objs.size,.ref (zb3 b s.heap l1 l2).objs.size] }:=B9 _ rfl;have g4:(zb5 b s.heap l1 l2).get? (zb3 b s.heap l1 l2).objs.size=some { cls:=.type "tuple",data:=.seq #[.none,.none] }:=A2 _ (B9 _ rfl);have g3:(zb5 b s.heap l1 l2).get? (zb2 b s.heap l1 l2).objs.size=some { cls:=.type "tuple",data:=.seq #[.ref s.heap.objs.size,.ref (zb1 b s.heap l1).objs.size] }:=A2 _ (A2 _ (B9 _ rfl));have g2:(zb5 b s.heap l1 l2).get? (zb1 b s.heap l1).objs.size=some (qRD b l2):=A2 _ (A2 _ (A2 _ (B9 _ rfl)));have g1:(zb5 b s.heap l1 l2).get? s.heap.objs.size=some (qRD b l1):=A2 _ (A2 _ (A2 _ (A2 _ (B9 _ rfl))));have lt:∀ {l:Addr} {zs:Array Value},SSq b s.heap l zs->l<s.heap.objs.size:=fun {l zs} q=>by
  cases b
  ·obtain ⟨o,e,_⟩:=q;exact B6 e
  ·obtain ⟨o,e,_⟩:=q;exact B6 e
 refine ⟨⟨_,g5,rfl⟩,?_⟩;have D:=zipApart_new (n:=s.heap.objs.size) (lt hl1) (lt hl2);rw [<- z4,<- z3,<- z2,<- z1] at D;refine hQ _ _ _ _ _ _ D g5 g3 g4 ?_ ?_ ?_ fun c o e=>A2 _ (A2 _ (A2 _ (A2 _ (A2 _ e))))
 ·cases b
  ·exact ⟨_,g1,rfl,rfl⟩
  ·exact ⟨_,g1,rfl,rfl⟩
 ·cases b
  ·exact ⟨_,g2,rfl,rfl⟩
  ·exact ⟨_,g2,rfl,rfl⟩
 ·intro c hc;have e':c=(zb4 b s.heap l1 l2).objs.size\/c=(zb2 b s.heap l1 l2).objs.size\/c=(zb3 b s.heap l1 l2).objs.size\/c=s.heap.objs.size\/c=(zb1 b s.heap l1).objs.size:=by simpa using hc
  rcases e' with rfl | rfl | rfl | rfl | rfl
  ·omega
  ·omega
  ·omega
  ·exact A5 _
  ·omega
def SqB (b:Bool) (K:PySem.W.Frag) (H:Hp) (a:Addr) (xs:List V):Prop:=match b with | true=>SqT K H a xs | false=>SqL K H a xs
def Itz (K:PySem.W.Frag) (b:Bool) (l1 l2:Addr):It:=
 ⟨fun i H=>∃ xs ys x y,SqB b K H l1 xs/\SqB b K H l2 ys/\xs[i]?=some x/\ys[i]?=some y,fun i H v H'=>∃ T x y,H T=none/\v=.ref T/\H'=Ai H T (.tup [x,y])/\∀ xs ys,SqB b K H l1 xs->SqB b K H l2 ys->xs[i]?=some x/\ys[i]?=some y,fun i H=>∃ xs,SqB b K H l1 xs/\(xs.length<=i\/∃ ys x,SqB b K H l2 ys/\xs[i]?=some x/\ys.length<=i)⟩
section
variable {X:Cx}
theorem Inv.seqB {b:Bool} {Ab:List (Addr × Obj)} {s:Shared} {σ:St} {H:Hp} {a:Addr} {xs:List V} (I:Inv X Ab σ H s) (h:SqB b X.K H a xs):∃ its:List Value,Vals xs its/\SSq b s.heap a its.toArray:=by
 cases b
 ·obtain ⟨its,rv,p,_⟩:=I.list h;exact ⟨its,rv,p.isList⟩
 ·obtain ⟨its,rv,p,_⟩:=I.tuple h;exact ⟨its,rv,p⟩
theorem Inv.seqB_inj {b:Bool} {Ab:List (Addr × Obj)} {s:Shared} {σ:St} {H:Hp} {a:Addr} {xs ys:List V} (I:Inv X Ab σ H s) (h:SqB b X.K H a xs) (h':SqB b X.K H a ys):xs=ys:=by
 cases b
 ·exact I.list_inj h h'
 ·exact I.tuple_inj h h'
theorem qV9 {P:Program} {w:World} {K:PySem.W.Frag} {elts:List Expr} {k:Nat} {pos:Pos} {b:Bool} {z TI TO i1 i2 l1 l2:Addr} (D:ZipApart z TI TO i1 i2 l1 l2):Turn P w K (.Tuple elts k pos) (Itz K b l1 l2) [z,TI,TO,i1,i2] z (fun i h=>IsZip h z TI TO .none/\IsPair h TI (.ref i1) (.ref i2)/\(∃ a c,IsPair h TO a c)/\SIt b h i1 l1 i/\SIt b h i2 l2 i) where
 mem:=by simp
 obj:=fun i h ⟨h1,h2,⟨a,c,h3⟩,h4,h5⟩ d hd=>by
  have it:∀ {j l:Addr},SIt b h j l i->∃ o,h.get? j=some o/\∀ v,o.data ≠ .cell v:=fun {j l} q=>by
   cases b
   ·obtain ⟨o,e,_,q⟩:=q;exact ⟨o,e,fun v z=>by rw [q] at z;cases z⟩
   ·obtain ⟨o,e,_,q⟩:=q;exact ⟨o,e,fun v z=>by rw [q] at z;cases z⟩
  have e':d=z\/d=TI\/d=TO\/d=i1\/d=i2:=by simpa using hd
  rcases e' with rfl | rfl | rfl | rfl | rfl
  ·exact ⟨_,h1,fun v z=>by
    have z':A06 _=y0 v:=z;cases z'⟩
  ·exact ⟨_,h2,fun v z=>by
    have z':A86 _=y0 v:=z;cases z'⟩
  ·exact ⟨_,h3,fun v z=>by
    have z':A86 _=y0 v:=z;cases z'⟩
  ·exact it h4
  ·exact it h5
 keep:=fun i h h' ⟨h1,h2,⟨a,c,h3⟩,h4,h5⟩ kk=>⟨kk z (by simp) _ h1,kk TI (by simp) _ h2,⟨a,c,kk TO (by simp) _ h3⟩,h4.at fun o q=>kk i1 (by simp) o q,h5.at fun o q=>kk i2 (by simp) o q⟩
 item:=by
  intro X hP hw hK hc i Ab s σ H E I hf st hg;subst hP hw hK;obtain ⟨xs,ys,x,y,hq1,hq2,hx,hy⟩:=hg;obtain ⟨its,rv,p1⟩:=I.seqB hq1;obtain ⟨jts,rw',p2⟩:=I.seqB hq2;obtain ⟨u,hu,ru⟩:=rv.get hx;obtain ⟨v,hv,rv'⟩:=rw'.get hy;obtain ⟨h1,h2,⟨a,c,h3⟩,h4,h5⟩:=st;refine qIH D h1 h2 h3 h4 h5 p1 p2 (x:=u) (y:=v) (by simpa using hu) (by simpa using hv) fun h' a1 a2 a3 a4 a5 a6 a7=>?_
  refine ⟨_,rfl,wpAny_letOwnedTupleGo_zip a1 fun h2' b1 b2=>?_⟩;have ltz:z<s.heap.objs.size:=B6 h1;have nz:s.heap.objs.size ≠ z:=Y2 ltz;have I1:Inv X Ab σ H { s with heap:=h2',toks:=s.toks }:=I.turnedL (ch:=[z,TI,TO,i1,i2]) (fun d o hd q=>by
   have e1:d ≠ z:=fun q=>hd (by simp [q])
   exact (b2.2 d e1).trans (a7 d o e1 (fun q=>hd (by simp [q])) (fun q=>hd (by simp [q])) (fun q=>hd (by simp [q])) q)) hf
  have hT:H s.heap.objs.size=none:=I.hok.fresh (A5 _);have fT:=I.fpOk (H':=H) (b:=s.heap.objs.size) (A5 _) hT;have gT:h2'.get? s.heap.objs.size=some { cls:=.type "tuple",data:=.seq #[u,v] }:=(b2.2 _ nz).trans a5;refine ⟨.ref s.heap.objs.size,Ai H s.heap.objs.size (.tup [x,y]),I1.track hT I.sz fT.2.1 fT.2.2.2.2.1 fT.2.2.2.2.2 ⟨by simp only [B3,Q2];rw [sizeLine_eq];decide,[u,v],.cons ru (.cons rv' .nil),⟨_,gT,rfl,_,rfl⟩⟩,rfl,
   ⟨_,x,y,hT,rfl,rfl,fun xs' ys' e1 e2=>by rw [I.seqB_inj e1 hq1,I.seqB_inj e2 hq2];exact ⟨hx,hy⟩⟩,⟨b1,(b2.2 _ D.TIz).trans (a7 _ _ D.TIz D.TITO D.TIi1 D.TIi2 h2),⟨u,v,(b2.2 _ D.TOz).trans a2⟩,a3.at fun o q=>(b2.2 _ D.i1z).trans q,a4.at fun o q=>(b2.2 _ D.i2z).trans q⟩,fun d hd=>?_⟩
  have ltb:d<s.heap.objs.size:=by
   have it:∀ {j l:Addr} {n:Nat},SIt b s.heap j l n->j<s.heap.objs.size:=fun {j l n} q=>by
    cases b
    ·obtain ⟨o,e,_,q⟩:=q;exact B6 e
    ·obtain ⟨o,e,_,q⟩:=q;exact B6 e
   have e':d=z\/d=TI\/d=TO\/d=i1\/d=i2:=by simpa using hd
   rcases e' with rfl | rfl | rfl | rfl | rfl
   ·exact ltz
   ·exact B6 h2
   ·exact B6 h3
   ·exact it h4
   ·exact it h5
  rw [qA8 (E6 ltb)];exact (hf d hd).1
 done:=by
  intro X hP hw hK hc i Ab s σ H E I hf st hg;subst hP hw hK;obtain ⟨xs,hq,hx⟩:=hg;obtain ⟨its,rv,p⟩:=I.seqB hq;have hl:=rv.length;obtain ⟨h1,h2,⟨a,c,h3⟩,h4,h5⟩:=st;rcases hx with hx | ⟨ys,x,hq2,hxx,hy⟩
  rotate_left
  ·obtain ⟨jts,rw',p2⟩:=I.seqB hq2;have hl2:=rw'.length;obtain ⟨u,hu,ru⟩:=rv.get hxx;exact qII (I.ok.hd hc) D h1 h2 h3 h4 h5 p p2 (x:=u) (by simpa using hu) (by simp;omega) fun h' eb=>⟨rfl,I.turnedL (t':=s.toks) (ch:=[z,TI,TO,i1,i2]) (fun d o hd q=>eb d o (fun z=>hd (by simp [z])) (fun z=>hd (by simp [z])) (fun z=>hd (by simp [z])) (fun z=>hd (by simp [z])) q) hf⟩
  exact qJJ (I.ok.hd hc) D h1 h2 h4 p (by simp;omega) fun h' eb=>⟨rfl,I.turnedL (t':=s.toks) (ch:=[z,TI,TO,i1,i2]) (fun d o hd q=>eb d o (fun z=>hd (by simp [z])) (fun z=>hd (by simp [z])) q) hf⟩
 self:=fun _ _ _ _ _ ⟨h1,_⟩ h=>wpAny_pyIter_zip h1 h
def iZip (K:PySem.W.Frag) (ta:TA):TI:=fun σ H R=>ta σ H fun vs H1=>∃ b l m,vs=[.ref l,.ref m]/\(∃ xs,SqB b K H1 l xs)/\(∃ xs,SqB b K H1 m xs)/\R (Itz K b l m) H1
theorem qb3 {elts:List Expr} {k:Nat} {tpos:Pos} {a b:Expr} {ta:TA} {p pos:Pos} (hg:Gl X "zip") (hm:X.mg "zip" = none) (hv:bootBuiltins "zip" = some (.type "zip")) (ha:PA X [a,b] ta) (hs:starEach [a,b] X.env=[(false,eval a X.env),(false,eval b X.env)]:=by rfl) (hs2:starEach [b] X.env=[(false,eval b X.env)]:=by rfl) :
  PI X (.Tuple elts k tpos) (.Call (.Name "zip" p) [a,b] [] pos) (iZip X.K ta):=by
 intro Ab s σ H R I h;refine Call_ (qH1 I hg hm hv (J3 (thn (ha pos Ab s σ H _ I h) fun us s1 ⟨vs,H1,I1,r1,q1⟩=>?_) (by rw [hs,hs2]) (by rw [hs2];rfl)))
 obtain ⟨bb,l,m,e,⟨xs,hq⟩,⟨ys,hq2⟩,q⟩:=q1;subst e;obtain ⟨u,v,rfl,rx,ry⟩:=qOI r1;cases rx;cases ry;obtain ⟨its,rv,pl⟩:=I1.seqB hq;obtain ⟨jts,rw',pm⟩:=I1.seqB hq2;refine qUJ pl pm fun h' z TI TO i1 i2 D hz hTI hTO hi1 hi2 hfr hk=>?_;refine wpAny_pyIter_zip hz ?_;have I2:Inv X Ab σ H1 { s1 with heap:=h' }:=I1.kept (t':=s1.toks) hk;exact ⟨z,[z,TI,TO,i1,i2],_,_,H1,rfl,I2,qV9 (b:=bb) D,⟨hz,hTI,⟨_,_,hTO⟩,hi1,hi2⟩,fun c hc=>I1.fpOk (hfr c hc) (I1.hok.fresh (hfr c hc)),q⟩
end
theorem qXV {K:PySem.W.Frag} {b:Bool} {l m:Addr} {xs ys:List V} {g:TG} {tc:TT} {te:TE} {Kf:Hp->Prop} {σ0:St} {H0:Hp} {p:Addr} (hlen:xs.length=ys.length) (Pv:Nat->St->Hp->Prop) (h0:Pv 0 σ0 H0) (hl:∀ i σ H,i<=xs.length->Pv i σ H->SqB b K H l xs/\SqB b K H m ys)
  (hs:∀ i x y σ H T,xs[i]?=some x->ys[i]?=some y->Pv i σ H->H T=none->g (.ref T) σ (Ai H T (.tup [x,y])) fun σ2 H2=>tc σ2 H2 fun b H3=>if b=true then te σ2 H3 fun y H4=>∃ ys,H4 p=some (.lst ys)/\ys.length<sizeLine/\Pv (i+1) σ2 (Ai H4 p (.lst (ys++[y]))) else Pv (i+1) σ2 H3)
  (hd:∀ σ H,Pv xs.length σ H->Kf H) :
  ∃ W:Nat->Nat->St->Hp->Prop,(∃ m,W 0 m σ0 H0)/\∀ i n σ H,W i n σ H->
   ((Itz K b l m).stop i H/\Kf H)\/((Itz K b l m).go i H/\∃ N:St->Hp->Prop,(∀ σ' H',N σ' H'->∃ m',m'<n/\W (i+1) m' σ' H')/\∀ x H',(Itz K b l m).yld i H x H'->g x σ H' fun σ2 H2=>tc σ2 H2 fun b H3=>
    if b=true then te σ2 H3 fun y H4=>∃ ys,H4 p=some (.lst ys)/\ys.length<sizeLine/\N σ2 (Ai H4 p (.lst (ys++[y]))) else N σ2 H3):=by
 refine ⟨fun i n σ H=>n=xs.length - i/\i<=xs.length/\Pv i σ H,⟨xs.length,by simp,E8 _,h0⟩,?_⟩
 rintro i n σ H ⟨rfl,hi,q⟩;have hq:=hl i σ H hi q;by_cases hlt:i<xs.length
 ·refine .inr ⟨⟨xs,ys,xs[i],ys[i]'(by omega),hq.1,hq.2,by simp [hlt],A3 _⟩,Pv (i+1),fun σ' H' p'=>⟨xs.length - (i+1),by omega,rfl,hlt,p'⟩,fun v H' y=>?_⟩
  obtain ⟨T,x,y,hT,e1,e2,yy⟩:=y;subst e1 e2;exact hs i x y σ H T (yy xs ys hq.1 hq.2).1 (yy xs ys hq.1 hq.2).2 q hT
 ·have e:i=xs.length:=by omega
  subst e;exact .inl ⟨⟨xs,hq.1,.inl (A5 _)⟩,hd σ H q⟩
section
variable {X:Cx}
end
open PySem
section
variable {es:List Expr} {env:Env} {p:Pos}
theorem qM1 {c:Const} {k:Nat}:starEach (.Constant c k p::es) env=(false,eval (.Constant c k p) env)::starEach es env:=rfl
theorem qY2 {xs:List Expr} {n:Nat}:starEach (.Tuple xs n p::es) env=(false,eval (.Tuple xs n p) env)::starEach es env:=rfl
end
@[irreducible] def cst (i:Int) (p:Pos):Expr:=.Constant (.int i) 0 p
@[elab_as_elim] theorem us0 {α:Type} {P:List α->Prop} (us:List α) (hl:us.length=0) (h:P []):P us:=by
 match us,hl with
 | [],_=>exact h
@[elab_as_elim] theorem us1 {α:Type} {P:List α->Prop} (us:List α) (hl:us.length=1) (h:∀ a,P [a]):P us:=by
 match us,hl with
 | [a],_=>exact h a
@[elab_as_elim] theorem us2 {α:Type} {P:List α->Prop} (us:List α) (hl:us.length=2) (h:∀ a b,P [a,b]):P us:=by
 match us,hl with
 | [a,b],_=>exact h a b
@[elab_as_elim] theorem us3 {α:Type} {P:List α->Prop} (us:List α) (hl:us.length=3) (h:∀ a b c,P [a,b,c]):P us:=by
 match us,hl with
 | [a,b,c],_=>exact h a b c
@[elab_as_elim] theorem us4 {α:Type} {P:List α->Prop} (us:List α) (hl:us.length=4) (h:∀ a b c d,P [a,b,c,d]):P us:=by
 match us,hl with
 | [a,b,c,d],_=>exact h a b c d
section
variable {prog:Program} {w:World} {A:Around} {E:Value->Shared->Prop} {s:Shared}
end
section
variable {X:Cx}
theorem qTS:∀ {vs:List Value} {ns:List Int},vs.length=ns.length->(∀ (i:Nat) (v:Value),vs[i]?=some v->∃ n t,ns[i]?=some n/\v=.int n t)->IntsAre vs ns
 | [],[],_,_=>.nil
 | [],_::_,h,_=>by simp at h
 | _::_,[],h,_=>by simp at h
 | v::vs,n::ns,h,f=>by
  obtain ⟨m,t,e1,e2⟩:=f 0 v rfl;cases (show n=m from A8 e1);rw [e2];exact .cons _ _ (qTS (by simpa using h) fun i u hu=>by simpa using f (i+1) u (by simpa using hu))
theorem qZO {κ:Type}:∀ {Ah:List (κ × V)} {vs:List (κ × Value)},KV Ah vs->Ah.map (·.1)=vs.map (·.1):=by
 intro Ah vs r;unfold KV at r
 induction r with
 | nil=>rfl
 | cons h t ih=>rw [D7,D7,ih,h.1]
def Itd (lo:Int) (n:Nat):It:=⟨fun i _=>i<n,fun i H x H'=>H'=H/\x=.int (lo - i),fun i _=>n<=i⟩
theorem qS1 {P:Program} {w:World} {K:PySem.W.Frag} {tg:Expr} (it:Addr) (lo:Int) (n:Nat):Turn P w K tg (Itd lo n) [it] it (fun i h=>IsRangeIter h it (lo+(i:Nat) * (-1)) ((n:Int) - (i:Nat)) (-1)) where
 mem:=A6.mpr rfl
 obj:=fun i h st b hb=>by
  cases A6.mp hb;exact ⟨_,st,fun v z=>nomatch (show A06 _=y0 v from z)⟩
 keep:=fun i h h' st k=>k it (A6.mpr rfl) _ st
 item:=by
  intro X hP hw hK hc i Ab s σ H E I hf st hg;subst hP hw hK;obtain ⟨f0,f1,f2,f3,f4,f5⟩:=hf it (A6.mpr rfl);refine (Walks.range (prog:=X.prog) (w:=X.w) (I.ok.hd hc) it lo (-1) n).item i s _ _ hg st fun v h' tk hv st' kk=>?_;obtain ⟨t,rfl⟩:=hv;have I1:Inv X Ab σ H { s with heap:=h',toks:=tk }:=I.turned (fun b o hb e=>kk b o (by simpa using hb) e) f0 f1 f3 f4 f5
  refine ⟨_,rfl,qRF (s:={ s with heap:=h',toks:=tk }) (n:="range_iterator") st' rfl rfl (by decide) ⟨.int (lo - i),H,I1,⟨t,?_⟩,⟨rfl,rfl⟩,st',fun b hb=>(hf b hb).1⟩⟩
  rw [show lo+(i:Int) * (-1)=lo - i by omega]
 done:=by
  intro X hP hw hK hc i Ab s σ H E I hf st hg;subst hP hw hK;obtain ⟨f0,f1,f2,f3,f4,f5⟩:=hf it (A6.mpr rfl);have hle:n<=i:=hg;exact wpAny_pyNext_range_end (I.ok.hd hc) st (by omega) fun h' eb=>⟨rfl,I.turned (t':=s.toks) (fun b o hb e=>eb b o hb e) f0 f1 f3 f4 f5⟩
 self:=fun _ _ _ _ _ st h=>wpAny_pyIter_rangeiter st h
def qd1 (ta:TA):TI:=fun σ H R=>ta σ H fun vs H1=>∃ i j:Int,vs=[.int i,.int j,.int (-1)]/\(-(2 ^ 62)<=i/\i<2 ^ 62/\-(2 ^ 62)<=j/\j<2 ^ 62)/\R (Itd i (i - j).toNat) H1
theorem qYY {tg a b c:Expr} {ta:TA} {p pos:Pos} (hg:Gl X "range") (hm:X.mg "range" = none) (ha:PA X [a,b,c] ta) (hs:starEach [a,b,c] X.env=[(false,eval a X.env),(false,eval b X.env),(false,eval c X.env)]:=by rfl)
  (hs2:starEach [b,c] X.env=[(false,eval b X.env),(false,eval c X.env)]:=by rfl):PI X tg (.Call (.Name "range" p) [a,b,c] [] pos) (qd1 ta):=by
 intro Ab s σ H R I h;refine Call_ (qH1 I hg hm boot_range (J3 (thn (ha pos Ab s σ H _ I h) fun us s1 ⟨vs,H1,I1,r1,q1⟩=>?_) (by rw [hs,hs2]) (by rw [hs2];rfl)))
 obtain ⟨i,j,e,⟨q1,q2,q3,q4⟩,q⟩:=q1;subst e;obtain ⟨u1,rr,rfl,⟨t1,rfl⟩,r2⟩:∃ u rr,us=u::rr/\RelV (.int i) u/\Vals [.int j,.int (-1)] rr:=by cases r1 with | cons r rr=>exact ⟨_,_,rfl,r,rr⟩
 obtain ⟨u2,u3,rfl,⟨t2,rfl⟩,⟨t3,rfl⟩⟩:=qOI r2;refine call_range_3 (by decide) ?_ (C5 (Z7 (by omega)))
 refine wpAny_pyIter_range (A82 ..) (PySem.W.small_down q1 q2 q3 q4) ?_;have I2:Inv X Ab σ H1 { s1 with heap:=s1.heap.push { cls:=.type "range",data:=.fields #[.int i t1,.int j t2,.int (-1) t3] },toks:=s1.toks }:=I1.kept fun b o e=>A2 _ e;refine ⟨(s1.heap.push { cls:=.type "range",data:=.fields #[.int i t1,.int j t2,.int (-1) t3] }).objs.size,[(s1.heap.push { cls:=.type "range",data:=.fields #[.int i t1,.int j t2,.int (-1) t3] }).objs.size],_,_,H1,rfl,
  I2.kept (t':=s1.toks) fun b o e=>A2 _ e,qS1 _ i (i - j).toNat,?_,fun b hb=>?_,q⟩
 ·have e1:i+((0:Nat):Int) * (-1)=i:=by simp
  have e2:(((i - j).toNat:Nat):Int) - ((0:Nat):Int)=Q9 i j (-1):=by rw [PySem.W.rangeSize_downNat];simp
  show IsRangeIter _ _ (i+((0:Nat):Int) * (-1)) ((((i - j).toNat:Nat):Int) - ((0:Nat):Int)) (-1);rw [e1,e2];exact B9 _ rfl
 ·cases A6.mp hb;exact I2.fpOk (A5 _) (I2.hok.fresh (A5 _))
theorem qWW {lo:Int} {n:Nat} {g:TG} {tb:TS} {D:Ends} {σ:St} {H:Hp} (Pv:Nat->St->Hp->Prop) (h0:Pv 0 σ H)
  (hs:∀ i σ H,i<n->Pv i σ H->g (.int (lo - i)) σ H fun σ2 H2=>tb { D with nx:=Pv (i+1),ct:=Pv (i+1),bk:=D.nx } σ2 H2) (hd:∀ σ H,Pv n σ H->D.nx σ H) :
  ∃ W:Nat->Nat->St->Hp->Prop,(∃ m,W 0 m σ H)/\∀ i m σ H,W i m σ H->
   ((Itd lo n).stop i H/\D.nx σ H)\/((Itd lo n).go i H/\∃ N:St->Hp->Prop,(∀ σ' H',N σ' H'->∃ m',m'<m/\W (i+1) m' σ' H')/\∀ x H',(Itd lo n).yld i H x H'->g x σ H' fun σ2 H2=>tb { D with nx:=N,ct:=N,bk:=D.nx } σ2 H2):=by
 refine ⟨fun i m σ H=>m=n - i/\i<=n/\Pv i σ H,⟨n,by simp,E8 _,h0⟩,fun i m σ H ⟨e,hi,p⟩=>?_⟩
 rcases Y6 i n with hlt | hge
 ·refine .inr ⟨hlt,Pv (i+1),fun σ' H' p'=>⟨n - (i+1),by omega,rfl,hlt,p'⟩,fun x H' y=>?_⟩
  rw [y.1,y.2];exact hs i σ H hlt p
 ·have e2:i=n:=by omega
  rw [e2] at p;exact .inl ⟨hge,hd σ H p⟩
theorem qJO (hu:X.A.units<cLine):OpR X (compareOp .NotEq) (fun x y H Q=>∃ p l xs,x=.ref p/\y=.ref l/\SqL X.K H p xs/\SqL X.K H l []/\Q (.bl (!xs.isEmpty)) H):=by
 intro Ab s σ H x y v u Q I rx ry h;obtain ⟨p,l,xs,rfl,rfl,h1,h2,q⟩:=h;cases rx;cases ry;obtain ⟨its,r1,p1,z1⟩:=I.list h1;obtain ⟨its2,r2,p2,z2⟩:=I.list h2;cases r2;cases r1 with
 | nil=>exact p6 (e:=fun _=>true) p1.isList p2.isList rfl hu (fun j h _=>absurd h (by simp)) _ _ _ _ ⟨.bl false,H,I,rfl,q⟩
 | cons a r=>exact A24 p1.isList p2.isList (by simp) hu _ _ _ _ ⟨.bl true,H,I,rfl,q⟩
end
end L2
namespace L2.GS
open PySem PyProof.Rows
abbrev gSM:=StateT SortSt Sem
class NM where
 nm:Value->Int
 good:Value->Prop
variable [NM]
def gkv (p:Keyed):Int:=NM.nm p.1
def gIK (p:Keyed):Prop:=NM.good p.1
class LtOk (prog:Program) (w:World) (A:Around) (s:Shared) (κ0:SortKind):Prop where
 lt:∀ {x y:Value} {Q:Bool->Shared->Prop} {E:Value->Shared->Prop},NM.good x->NM.good y->Q (decide (NM.nm x<NM.nm y)) s->wpAny (model prog w) A (keyLt' κ0 x y) Q E s
def gK (xs:Array Keyed) (i:Nat):Int:=match xs[i]? with
 | some p=>NM.nm p.1
 | none=>0
def qH6 (xs:Array Keyed) (k:Nat):Prop:=∀ i j,i<=j->j<k->gK xs i<=gK xs j
def qCX (xs:Array Keyed):Prop:=∀ p,p ∈ xs.toList->NM.good p.1
theorem qbZ {xs:Array Keyed} {i:Nat} (hi:i<xs.size):gK xs i=NM.nm xs[i].1:=by unfold gK;rw [getElem?_pos xs i hi]
theorem qH8 {xs ys:Array Keyed} {i j:Nat} (h:xs[i]?=ys[j]?):gK xs i=gK ys j:=by unfold gK;rw [h]
theorem qJX {xs:Array Keyed} {src d:Nat} (hs:src<xs.size) (hd:d<=src) (k:Nat) :
  gK (bubble xs src d) k=if k=src - d then gK xs src else if src - d<k/\k<=src then gK xs (k - 1) else gK xs k:=by
 have e:=getElem?_bubble hs d hd k;by_cases h1:k=src - d
 ·rw [if_pos h1] at e ⊢;exact qH8 e
 ·rw [if_neg h1] at e ⊢;by_cases h2:src - d<k/\k<=src
  ·rw [if_pos h2] at e ⊢;exact qH8 e
  ·rw [if_neg h2] at e ⊢;exact qH8 e
theorem qH7 {xs:Array Keyed} {i j:Nat} (hj:j<=xs.size) (k:Nat) :
  gK (mirror xs i j ((j - i) / 2)) k=if i<=k/\k<j then gK xs (i+j - 1 - k) else gK xs k:=by
 have e:=getElem?_mirror_all (i:=i) hj k;by_cases h1:i<=k/\k<j
 ·rw [if_pos h1] at e ⊢;exact qH8 e
 ·rw [if_neg h1] at e ⊢;exact qH8 e
theorem qB7 {xs:Array Keyed} {i j:Nat} (hj:j<=xs.size) (heq:∀ k,i<=k->k<j->gK xs k=gK xs (j - 1)) (k:Nat) :
  gK (mirror xs i j ((j - i) / 2)) k=gK xs k:=by
 rw [qH7 hj]
 split
 ·rw [heq _ (by omega) (by omega),heq k (by omega) (by omega)]
 ·rfl
section
variable {prog:Program} {w:World} {A:Around} {E:Value->Shared->Prop} {s:Shared} {κ0:SortKind} [LtOk prog w A s κ0]
theorem qWP {st:SortSt} {x y:Keyed} {Q:Option Bool->SortSt->Prop} (hk:kindOf st=κ0) (hx:gIK x) (hy:gIK y) (h:Q (some (decide (gkv x<gkv y))) st):wpS (model prog w) A E s (lt' x y) Q st:=by
 rw [lt'_eq];refine wpS_bind (wpS_get ?_);rw [hk];refine wpS_bind (wpS_lift (wpAny_attempt (LtOk.lt hx hy ⟨rfl,?_⟩)));exact wpS_pure h
theorem qTW {st:SortSt} {arr:Array Keyed} {i:Nat} {x:Keyed} {Q:Keyed->SortSt->Prop} (h:arr[i]?=some x) (hQ:Q x st):wpS (model prog w) A E s (elem' arr i) Q st:=by
 rw [elem'_eq,h];exact wpS_pure hQ
end
end L2.GS
namespace L2.GS
open PySem PyProof.Rows
variable [NM]
structure gMR (R:Keyed->Keyed->Prop) (all out ra rb:List Keyed):Prop where
 perm:(out++(ra++rb)).Perm all
 up:out.Pairwise R
 ua:ra.Pairwise R
 ub:rb.Pairwise R
 la:∀ x ∈ out,∀ y ∈ ra,R x y
 lb:∀ x ∈ out,∀ y ∈ rb,R x y
section
variable {R:Keyed->Keyed->Prop} {all out ra rb xs:List Keyed}
end
theorem qTZ {a:Array Keyed} {i:Nat} (h:i<a.size):∃ x,a[i]?=some x/\a.toList[i]?=some x/\x ∈ a.toList:=⟨a[i],G1 h,by simp [h],by simp⟩
end L2.GS
namespace L2.GS
open PySem PyProof.Rows
variable [NM]
section
variable {prog:Program} {w:World} {A:Around} {E:Value->Shared->Prop} {s:Shared} {κ0:SortKind} [LtOk prog w A s κ0]
end
end L2.GS
namespace L2.GS
open PySem PyProof.Rows
variable [NM]
section
variable {prog:Program} {w:World} {A:Around} {E:Value->Shared->Prop} {s:Shared} {κ0:SortKind} [LtOk prog w A s κ0]
end
end L2.GS
namespace L2.GS
open PySem PyProof.Rows
variable [NM]
def gSeg (xs:Array Keyed) (lo hi:Nat):Prop:=∀ i j,lo<=i->i<=j->j<hi->gK xs i<=gK xs j
theorem qU0 {xs:Array Keyed} {i:Nat} {x:Keyed} (h:xs[i]?=some x):gK xs i=gkv x:=by
 unfold gK;rw [h]
 rfl
section
variable {prog:Program} {w:World} {A:Around} {E:Value->Shared->Prop} {s:Shared} {κ0:SortKind} [LtOk prog w A s κ0]
structure gSG (κ0:SortKind) (a₀:Array Keyed) (st:SortSt):Prop where
 perm:(arrOf st).Perm a₀
 kind:kindOf st=κ0
 failed:failedOf st=none
theorem gSG.size {a₀:Array Keyed} {st:SortSt} (h:gSG κ0 a₀ st):(arrOf st).size=a₀.size:=h.perm.size_eq
theorem gSG.ik {a₀:Array Keyed} {st:SortSt} (h:gSG κ0 a₀ st) (h0:qCX a₀):∀ x ∈ (arrOf st).toList,gIK x:=fun x hx=>h0 x ((j4.mp h.perm).mem_iff.mp hx)
end
end L2.GS
namespace L2.GS
open PySem PyProof.Rows
variable [NM]
def gOut (xs ys:Array Keyed) (lo hi:Nat):Prop:=∀ k,k<lo\/hi<=k->gK ys k=gK xs k
theorem gOut.refl (xs:Array Keyed) (lo hi:Nat):gOut xs xs lo hi:=fun _ _=>rfl
theorem gOut.trans {xs ys zs:Array Keyed} {lo hi:Nat} (h1:gOut xs ys lo hi) (h2:gOut ys zs lo hi):gOut xs zs lo hi:=fun k hk=>(h2 k hk).trans (h1 k hk)
theorem gOut.wide {xs ys:Array Keyed} {lo hi lo' hi':Nat} (h:gOut xs ys lo hi) (a:lo'<=lo) (b:hi<=hi'):gOut xs ys lo' hi':=fun k hk=>h k (by omega)
theorem gSG.lay {κ0:SortKind} {a₀:Array Keyed} {st:SortSt} (g:gSG κ0 a₀ st) {ys:Array Keyed} (p:ys.Perm (arrOf st)):gSG κ0 a₀ (setArr st ys):=⟨p.trans g.perm,g.kind,g.failed⟩
theorem qP2 {xs:Array Keyed} {i j:Nat} (hj:j<=xs.size):gOut xs (mirror xs i j ((j - i) / 2)) i j:=fun k hk=>by rw [qH7 hj,if_neg (by omega)]
section
variable {prog:Program} {w:World} {A:Around} {E:Value->Shared->Prop} {s:Shared} {κ0:SortKind} [LtOk prog w A s κ0] {a₀:Array Keyed}
theorem qH5 {st:SortSt} {i j:Nat} {Q:Option Bool->SortSt->Prop} (h0:qCX a₀) (g:gSG κ0 a₀ st) (hi:i<a₀.size) (hj:j<a₀.size) (h:Q (some (decide (gK (arrOf st) i<gK (arrOf st) j))) st):wpS (model prog w) A E s (ltAt' i j) Q st:=by
 have hi2:i<(arrOf st).size:=by rw [g.size];exact hi
 have hj2:j<(arrOf st).size:=by rw [g.size];exact hj
 obtain ⟨x,ex,_,mx⟩:=qTZ hi2;obtain ⟨y,ey,_,my⟩:=qTZ hj2;rw [qU0 ex,qU0 ey] at h;rw [ltAt'_eq];refine wpS_bind (wpS_get ?_);exact wpS_bind (qTW ex (wpS_bind (qTW ey (qWP g.kind (g.ik h0 x mx) (g.ik h0 y my) h))))
theorem qWS {st:SortSt} {lo n ok:Nat} {Q:Bool->SortSt->Prop} (h0:qCX a₀) (g:gSG κ0 a₀ st) (hn:lo+n<=a₀.size) (hok:ok<=n) (u:gSeg (arrOf st) lo (lo+ok))
  (h:∀ st2,gSG κ0 a₀ st2->pendingOf st2=pendingOf st->gSeg (arrOf st2) lo (lo+n)->gOut (arrOf st) (arrOf st2) lo (lo+n)->Q true st2):wpS (model prog w) A E s (binarySort' lo n ok) Q st:=by
 rw [binarySort'_eq];refine wpS_bind (wpS_mono (wpS_forRange (I:=fun k c st2=>c=(none,())/\gSG κ0 a₀ st2/\pendingOf st2=pendingOf st/\gSeg (arrOf st2) lo (lo+min k n)/\gOut (arrOf st) (arrOf st2) lo (lo+n))
  (Q:=fun c st2=>c=(none,())/\gSG κ0 a₀ st2/\pendingOf st2=pendingOf st/\gSeg (arrOf st2) lo (lo+n)/\gOut (arrOf st) (arrOf st2) lo (lo+n)) ?step ?fin ?init) ?post)
 case post=>
  rintro c st2 ⟨rfl,g2,pe,u2,o2⟩;exact wpS_pure (h st2 g2 pe u2 o2)
 case init=>
  refine ⟨rfl,g,rfl,fun i j hl hij hj=>?_,.refl _ _ _⟩;by_cases h1:ok=0
  ·rw [show i=j by omega]
   exact U1 _
  ·exact u i j hl hij (by omega)
 case fin=>
  rintro c st2 ⟨hc,g2,pe,u2,o2⟩;rw [show min (max (max ok 1) n) n=n by omega] at u2
  exact ⟨hc,g2,pe,u2,o2⟩
 case step=>
  rintro k c st2 hak hkn ⟨rfl,g2,pe,u2,o2⟩;rw [show min k n=k by omega] at u2
  have hk:lo+k<a₀.size:=by omega
  refine wpS_bind (wpS_mono (wpS_forRange (I:=fun x c st3=>st3=st2/\∃ l r,c=(none,l,r)/\l<=r/\r<=k/\r - l<=k - x/\
    (∀ i,lo<=i->i<lo+l->gK (arrOf st2) i<=gK (arrOf st2) (lo+k))/\(∀ i,lo+r<=i->i<lo+k->gK (arrOf st2) (lo+k)<gK (arrOf st2) i))
   (Q:=fun c st3=>st3=st2/\∃ l r,c=(none,l,r)/\l<=k/\
    (∀ i,lo<=i->i<lo+l->gK (arrOf st2) i<=gK (arrOf st2) (lo+k))/\(∀ i,lo+l<=i->i<lo+k->gK (arrOf st2) (lo+k)<gK (arrOf st2) i)) ?istep ?ifin ?iinit) ?ipost)
  case iinit=>exact ⟨rfl,0,k,rfl,by omega,by omega,by omega,fun i _ hi=>by omega,fun i h1 h2=>by omega⟩
  case ifin=>
   rintro c st3 ⟨rfl,l,r,rfl,hlr,hrk,hm,ha,hb⟩;have e:l=r:=by omega
   rw [<- e] at hb hrk;exact ⟨rfl,l,r,rfl,hrk,ha,hb⟩
  case istep=>
   rintro x c st3 _ hxk ⟨rfl,l,r,rfl,hlr,hrk,hm,ha,hb⟩;dsimp only;by_cases hge:l >= r
   ·rw [if_pos hge];have e:l=r:=by omega
    rw [<- e] at hb hrk;exact wpS_pure ⟨rfl,l,r,rfl,hrk,ha,hb⟩
   ·rw [if_neg hge];refine wpS_bind (qH5 h0 g2 hk (by omega) ?_)
    by_cases less:gK (arrOf st3) (lo+k)<gK (arrOf st3) (lo+(l+r) / 2)
    ·rw [decide_eq_true less];dsimp only;rw [if_pos rfl];refine wpS_pure ⟨rfl,l,(l+r) / 2,rfl,by omega,by omega,by omega,ha,fun i h1 h2=>?_⟩
     have:=u2 (lo+(l+r) / 2) i (by omega) h1 h2
     omega
    ·rw [decide_eq_false less];dsimp only;rw [if_neg C2];refine wpS_pure ⟨rfl,(l+r) / 2+1,r,rfl,by omega,by omega,by omega,fun i h3 h1=>?_,hb⟩
     have:=u2 i (lo+(l+r) / 2) h3 (by omega) (by omega)
     omega
  case ipost=>
   rintro c st3 ⟨rfl,l,r,rfl,hlk,ha,hb⟩;have hks:lo+k<(arrOf st3).size:=by rw [g2.size];exact hk
   show wpS _ _ _ _ (moveDown' (lo+k) (lo+l) >>= fun _=>pure (M5 (none,()))) _ _;rw [moveDown'_eq];refine wpS_bind (wpS_modify (wpS_pure ⟨rfl,g2.lay (bubble_perm _ _ _),pe,?_,o2.trans ?_⟩))
   ·rw [show min (k+1) n=k+1 by omega]
    intro i j hl hij hj;show gK (bubble (arrOf st3) (lo+k) (lo+k - (lo+l))) i<=gK (bubble (arrOf st3) (lo+k) (lo+k - (lo+l))) j;rw [qJX hks (by omega),qJX hks (by omega),show lo+k - (lo+k - (lo+l))=lo+l by omega]
    repeat' split
    all_goals first
     | (exfalso;omega)
     | exact U1 _
     | exact ha _ (by omega) (by omega)
     | exact A39 (hb _ (by omega) (by omega))
     | exact u2 _ _ (by omega) (by omega) (by omega)
   ·intro i hi;show gK (bubble (arrOf st3) (lo+k) (lo+k - (lo+l))) i=gK (arrOf st3) i;rw [qJX hks (by omega),if_neg (by omega),if_neg (by omega)]
abbrev gCUp:=Option (Option Nat) × Nat
abbrev gCDn:=Option (Option Nat) × Nat × Nat
def gupL (lo a m:Nat):gSM gCUp:=
 forIn [a:m] ((none,a):gCUp) fun _ c=>do
  let t <- ltAt' (lo+c.snd) (lo+c.snd - 1)
  match t with
  | some less=>if less=true then pure (b7 (none,c.snd)) else pure (M5 (none,c.snd+1))
  | _=>pure (b7 (some none,c.snd))
def qTX (lo n m:Nat):gSM (Option Nat):=do
 reverseSlice' lo (lo+n)
 let c <- gupL lo n m
 match c.fst with
 | some r=>pure r
 | none=>pure (some c.snd)
def gdnL (lo n m:Nat):gSM gCDn:=
 forIn [n:m] ((none,n,0):gCDn) fun _ c=>do
  let t <- ltAt' (lo+c.snd.fst) (lo+c.snd.fst - 1)
  match t with
  | some less=>
   if less=true then
    if c.snd.snd > 0 then do
     reverseSlice' (lo+c.snd.fst - (c.snd.snd+1)) (lo+c.snd.fst)
     pure (M5 (none,c.snd.fst+1,0))
    else pure (M5 (none,c.snd.fst+1,0))
   else do
    let t <- ltAt' (lo+c.snd.fst - 1) (lo+c.snd.fst)
    match t with
    | some more=>
     if more=true then pure (b7 (none,c.snd.fst,c.snd.snd))
     else pure (M5 (none,c.snd.fst+1,c.snd.snd+1))
    | _=>pure (b7 (some none,c.snd.fst,c.snd.snd))
  | _=>pure (b7 (some none,c.snd.fst,c.snd.snd))
def gdnP (lo n m:Nat):gSM (Option Nat):=do
 liftM (rule "list.sort.descending-run")
 let c <- gdnL lo (n+1) m
 match c.fst with
 | some r=>pure r
 | none=>
  if c.snd.snd > 0 then do
   reverseSlice' (lo+c.snd.fst - (c.snd.snd+1)) (lo+c.snd.fst)
   qTX lo c.snd.fst m
  else qTX lo c.snd.fst m
theorem qBL {α β:Type} {x y:gSM α} {f g:α->gSM β} (h:x=y) (k:∀ a,f a=g a):(x >>= f)=(y >>= g):=by rw [h,show f=g from funext k]
theorem qTY (lo m:Nat):countRun' lo m=(do
  let c <- gupL lo 1 m
  match c.fst with
  | some r=>pure r
  | none=>
   if (c.snd == m)=true then pure (some c.snd)
   else if c.snd > 1 then do
    let t <- ltAt' lo (lo+c.snd - 1)
    match t with
    | some rose=>if rose=true then pure (some c.snd) else do
      reverseSlice' lo (lo+c.snd)
      gdnP lo c.snd m
    | _=>pure none
   else gdnP lo c.snd m):=by
 rw [countRun'_eq];unfold gdnP qTX gdnL gupL;refine qBL rfl fun c=>?_;obtain ⟨r,n⟩:=c;cases r with
 | some r=>rfl
 | none=>
  have last:∀ c3:gCUp,(match c3.fst with | some r=>pure r | none=>pure (some c3.snd):gSM (Option Nat))=(match c3.fst with | some r=>pure r | none=>pure (some c3.snd)):=fun _=>rfl
  dsimp only
  split
  ·rfl
  ·split
   ·refine qBL rfl fun x=>?_;cases x with
    | none=>rfl
    | some rose=>
     dsimp only
     split
     ·rfl
     ·refine qBL rfl fun _=>qBL rfl fun _=>qBL rfl fun c2=>?_;obtain ⟨r2,n2,q2⟩:=c2;cases r2 with
      | some r2=>rfl
      | none=>
       dsimp only
       split
       ·refine qBL rfl fun _=>qBL rfl fun _=>qBL rfl fun c3=>?_;obtain ⟨r3,n3⟩:=c3;cases r3 <;> rfl
       ·refine qBL rfl fun _=>qBL rfl fun c3=>?_;obtain ⟨r3,n3⟩:=c3;cases r3 <;> rfl
   ·refine qBL rfl fun _=>qBL rfl fun c2=>?_;obtain ⟨r2,n2,q2⟩:=c2;cases r2 with
    | some r2=>rfl
    | none=>
     dsimp only
     split
     ·refine qBL rfl fun _=>qBL rfl fun _=>qBL rfl fun c3=>?_;obtain ⟨r3,n3⟩:=c3;cases r3 <;> rfl
     ·refine qBL rfl fun _=>qBL rfl fun c3=>?_;obtain ⟨r3,n3⟩:=c3;cases r3 <;> rfl
def gFal (xs:Array Keyed) (lo hi:Nat):Prop:=∀ i j,lo<=i->i<=j->j<hi->gK xs j<=gK xs i
theorem qQ6 {st:SortSt} {lo a m:Nat} {Q:gCUp->SortSt->Prop} (h0:qCX a₀) (g:gSG κ0 a₀ st) (hm:lo+m<=a₀.size) (ha:1<=a) (han:a<=m) (u:gSeg (arrOf st) lo (lo+a))
  (h:∀ n,a<=n->n<=m->gSeg (arrOf st) lo (lo+n)->(n=m\/gK (arrOf st) (lo+n)<gK (arrOf st) (lo+n - 1))->Q (none,n) st):wpS (model prog w) A E s (gupL lo a m) Q st:=by
 unfold gupL;refine wpS_forRange (I:=fun x c st2=>st2=st/\c=(none,x)/\gSeg (arrOf st) lo (lo+x)) ?step ?fin ⟨rfl,rfl,u⟩
 case fin=>
  rintro c st2 ⟨rfl,rfl,u2⟩;rw [show max a m=m by omega] at u2 ⊢
  exact h m han (A5 _) u2 (.inl rfl)
 case step=>
  rintro x c st2 hax hxn ⟨rfl,rfl,u2⟩;dsimp only;refine wpS_bind (qH5 h0 g (by omega) (by omega) ?_)
  by_cases less:gK (arrOf st2) (lo+x)<gK (arrOf st2) (lo+x - 1)
  ·rw [decide_eq_true less];dsimp only;rw [if_pos rfl];exact wpS_pure (h x hax (by omega) u2 (.inr less))
  ·rw [decide_eq_false less];dsimp only;rw [if_neg C2];refine wpS_pure ⟨rfl,rfl,fun i j hl hij hj=>?_⟩;by_cases hjx:j<lo+x
   ·exact u2 i j hl hij hjx
   ·have ej:j=lo+x:=by omega
    rw [ej];by_cases ei:i=lo+x
    ·rw [ei];exact U1 _
    ·have:=u2 i (lo+x - 1) hl (by omega) (by omega)
     omega
theorem qNQ {st:SortSt} {lo n m:Nat} {Q:Option Nat->SortSt->Prop} (h0:qCX a₀) (g:gSG κ0 a₀ st) (hm:lo+m<=a₀.size) (h1:1<=n) (hnm:n<=m) (u:gFal (arrOf st) lo (lo+n))
  (h:∀ k st2,gSG κ0 a₀ st2->pendingOf st2=pendingOf st->1<=k->k<=m->gSeg (arrOf st2) lo (lo+k)->gOut (arrOf st) (arrOf st2) lo (lo+m)->Q (some k) st2):wpS (model prog w) A E s (qTX lo n m) Q st:=by
 unfold qTX;have hsz:lo+n<=(arrOf st).size:=by rw [g.size];omega
 rw [reverseSlice'_eq];refine wpS_bind (wpS_modify ?_);have g2:gSG κ0 a₀ (setArr st (mirror (arrOf st) lo (lo+n) ((lo+n - lo) / 2))):=g.lay (mirror_perm _ _ _ _);refine wpS_bind (qQ6 h0 g2 hm h1 hnm ?_ fun k hk1 hk2 uk _=>wpS_pure (h k _ g2 rfl (by omega) hk2 uk ((qP2 hsz).wide (A5 _) (by omega))))
 intro i j hl hij hj;show gK (mirror (arrOf st) lo (lo+n) ((lo+n - lo) / 2)) i<=gK (mirror (arrOf st) lo (lo+n) ((lo+n - lo) / 2)) j;rw [qH7 hsz,qH7 hsz,if_pos (by omega),if_pos (by omega)]
 exact u _ _ (by omega) (by omega) (by omega)
theorem qWQ {st:SortSt} {lo n m:Nat} {Q:gCDn->SortSt->Prop} (h0:qCX a₀) (g:gSG κ0 a₀ st) (hm:lo+m<=a₀.size) (h1:1<=n) (hnm:n<=m) (u:gFal (arrOf st) lo (lo+n))
  (h:∀ k e st2,gSG κ0 a₀ st2->pendingOf st2=pendingOf st->n<=k->k<=m->gFal (arrOf st2) lo (lo+k)->e+1<=k->(∀ i,lo+k - (e+1)<=i->i<lo+k->gK (arrOf st2) i=gK (arrOf st2) (lo+k - 1))->gOut (arrOf st) (arrOf st2) lo (lo+m)->Q (none,k,e) st2) :
  wpS (model prog w) A E s (gdnL lo n m) Q st:=by
 unfold gdnL;refine wpS_forRange (I:=fun x c st2=>∃ e,c=(none,x,e)/\gSG κ0 a₀ st2/\pendingOf st2=pendingOf st/\gFal (arrOf st2) lo (lo+x)/\e+1<=x/\
   (∀ i,lo+x - (e+1)<=i->i<lo+x->gK (arrOf st2) i=gK (arrOf st2) (lo+x - 1))/\gOut (arrOf st) (arrOf st2) lo (lo+m)) ?step ?fin ⟨0,rfl,g,rfl,u,by omega,fun i h1 h2=>by congr 1;omega,.refl _ _ _⟩
 case fin=>
  rintro c st2 ⟨e,rfl,g2,pe,u2,hq,he,o2⟩;rw [show max n m=m by omega] at u2 hq he ⊢
  exact h m e st2 g2 pe hnm (A5 _) u2 hq he o2
 case step=>
  rintro x c st2 hax hxn ⟨e,rfl,g2,pe,u2,hq,he,o2⟩;dsimp only;have hsz:lo+x<=(arrOf st2).size:=by rw [g2.size];omega
  refine wpS_bind (qH5 h0 g2 (by omega) (by omega) ?_)
  by_cases less:gK (arrOf st2) (lo+x)<gK (arrOf st2) (lo+x - 1)
  ·rw [decide_eq_true less];dsimp only;rw [if_pos rfl];have more:∀ ys:Array Keyed,(∀ k,gK ys k=gK (arrOf st2) k)->gFal ys lo (lo+(x+1)):=by
    intro ys hk i j hl hij hj;rw [hk,hk];by_cases hjx:j<lo+x
    ·exact u2 i j hl hij hjx
    ·have ej:j=lo+x:=by omega
     rw [ej];by_cases ei:i=lo+x
     ·rw [ei];exact U1 _
     ·have:=u2 i (lo+x - 1) hl (by omega) (by omega)
      omega
   by_cases hpos:e > 0
   ·rw [if_pos hpos,reverseSlice'_eq];refine wpS_bind (wpS_modify (wpS_pure ⟨0,rfl,g2.lay (mirror_perm _ _ _ _),pe,more _ (qB7 hsz he),by omega,fun i h1 h2=>by congr 1;omega,o2.trans ?_⟩))
    exact fun k _=>qB7 hsz he k
   ·rw [if_neg hpos];exact wpS_pure ⟨0,rfl,g2,pe,more _ (fun _=>rfl),by omega,fun i h1 h2=>by congr 1;omega,o2⟩
  ·rw [decide_eq_false less];dsimp only;rw [if_neg C2];refine wpS_bind (qH5 h0 g2 (by omega) (by omega) ?_)
   by_cases big:gK (arrOf st2) (lo+x - 1)<gK (arrOf st2) (lo+x)
   ·rw [decide_eq_true big];dsimp only;rw [if_pos rfl];exact wpS_pure (h x e st2 g2 pe hax (by omega) u2 hq he o2)
   ·rw [decide_eq_false big];dsimp only;rw [if_neg C2];have ex:gK (arrOf st2) (lo+x)=gK (arrOf st2) (lo+x - 1):=by omega
    refine wpS_pure ⟨e+1,rfl,g2,pe,fun i j hl hij hj=>?_,by omega,fun i h1 h2=>?_,o2⟩
    ·by_cases hjx:j<lo+x
     ·exact u2 i j hl hij hjx
     ·have ej:j=lo+x:=by omega
      rw [ej];by_cases ei:i=lo+x
      ·rw [ei];exact U1 _
      ·rw [ex];exact u2 i (lo+x - 1) hl (by omega) (by omega)
    ·rw [show lo+(x+1) - 1=lo+x by omega]
     by_cases ei:i=lo+x
     ·rw [ei]
     ·rw [ex];exact he i (by omega) (by omega)
theorem qQ7 {st:SortSt} {lo n m:Nat} {Q:Option Nat->SortSt->Prop} (h0:qCX a₀) (g:gSG κ0 a₀ st) (hm:lo+m<=a₀.size) (hnm:n+1<=m) (u:gFal (arrOf st) lo (lo+(n+1)))
  (h:∀ k st2,gSG κ0 a₀ st2->pendingOf st2=pendingOf st->1<=k->k<=m->gSeg (arrOf st2) lo (lo+k)->gOut (arrOf st) (arrOf st2) lo (lo+m)->Q (some k) st2):wpS (model prog w) A E s (gdnP lo n m) Q st:=by
 unfold gdnP;refine wpS_bind (wpS_lift (wpAny_rule ⟨rfl,?_⟩));refine wpS_bind (qWQ h0 g hm (by omega) hnm u fun k e st2 g2 pe hk1 hk2 u2 hq he o2=>?_)
 dsimp only;have hsz:lo+k<=(arrOf st2).size:=by rw [g2.size];omega
 by_cases hpos:e > 0
 ·rw [if_pos hpos,reverseSlice'_eq];refine wpS_bind (wpS_modify (qNQ h0 (g2.lay (mirror_perm _ _ _ _)) hm (by omega) hk2 ?_ fun k2 st3 g3 pe3 a1 a2 u3 o3=>h k2 st3 g3 (pe3.trans pe) a1 a2 u3 ?_))
  ·intro i j hl hij hj;show gK (mirror (arrOf st2) _ _ _) j<=gK (mirror (arrOf st2) _ _ _) i;rw [qB7 hsz he,qB7 hsz he];exact u2 i j hl hij hj
  ·exact o2.trans (gOut.trans (fun k _=>qB7 hsz he k) o3)
 ·rw [if_neg hpos];exact qNQ h0 g2 hm (by omega) hk2 u2 fun k2 st3 g3 pe3 a1 a2 u3 o3=>h k2 st3 g3 (pe3.trans pe) a1 a2 u3 (o2.trans o3)
theorem qWR {st:SortSt} {lo m:Nat} {Q:Option Nat->SortSt->Prop} (h0:qCX a₀) (g:gSG κ0 a₀ st) (hm:lo+m<=a₀.size) (h1:1<=m)
  (h:∀ k st2,gSG κ0 a₀ st2->pendingOf st2=pendingOf st->1<=k->k<=m->gSeg (arrOf st2) lo (lo+k)->gOut (arrOf st) (arrOf st2) lo (lo+m)->Q (some k) st2):wpS (model prog w) A E s (countRun' lo m) Q st:=by
 rw [qTY];refine wpS_bind (qQ6 h0 g hm (A5 1) h1 (fun i j hl hij hj=>by rw [show i=j by omega];exact U1 _) fun n hn1 hn2 un or=>?_)
 dsimp only;by_cases e:n=m
 ·rw [if_pos (by simpa using e)]
  exact wpS_pure (h n st g rfl hn1 hn2 un (.refl _ _ _))
 ·rw [if_neg (by simpa using e)]
  have hlt:gK (arrOf st) (lo+n)<gK (arrOf st) (lo+n - 1):=or.resolve_left e;by_cases hgt:n > 1
  ·rw [if_pos hgt];refine wpS_bind (qH5 h0 g (by omega) (by omega) ?_)
   by_cases rose:gK (arrOf st) lo<gK (arrOf st) (lo+n - 1)
   ·rw [decide_eq_true rose];dsimp only;rw [if_pos rfl];exact wpS_pure (h n st g rfl hn1 hn2 un (.refl _ _ _))
   ·rw [decide_eq_false rose];dsimp only;rw [if_neg C2,reverseSlice'_eq];have hsz:lo+n<=(arrOf st).size:=by rw [g.size];omega
    have same:∀ k,lo<=k->k<lo+n->gK (arrOf st) k=gK (arrOf st) (lo+n - 1):=by
     intro k hl hk;have a1:=un lo k (by omega) hl hk
     have a2:=un k (lo+n - 1) hl (by omega) (by omega)
     omega
    refine wpS_bind (wpS_modify (qQ7 h0 (g.lay (mirror_perm _ _ _ _)) hm (by omega) ?_ fun k st2 g2 pe a1 a2 u2 o2=>h k st2 g2 pe a1 a2 u2 (gOut.trans (fun k _=>qB7 hsz same k) o2)))
    intro i j hl hij hj;show gK (mirror (arrOf st) _ _ _) j<=gK (mirror (arrOf st) _ _ _) i;rw [qB7 hsz same,qB7 hsz same];by_cases hjn:j<lo+n
    ·rw [same i hl (by omega),same j (by omega) hjn]
     exact U1 _
    ·have ej:j=lo+n:=by omega
     rw [ej];by_cases ei:i=lo+n
     ·rw [ei];exact U1 _
     ·rw [same i hl (by omega)]
      exact A39 hlt
  ·rw [if_neg hgt];have e1:n=1:=by omega
   rw [e1] at hlt;rw [e1];refine qQ7 h0 g hm (by omega) ?_ h
   intro i j hl hij hj;by_cases ei:i=j
   ·rw [ei];exact U1 _
   ·have ei:i=lo:=by omega
    have ej:j=lo+1:=by omega
    rw [ei,ej];exact A39 hlt
end
end L2.GS
namespace L2.GS
open PySem PyProof.Rows
variable [NM]
def qWU (xs:Array Keyed):List (Nat × Nat × Nat)->Nat->Nat->Prop
 | [],a,b=>a=b
 | r::rs,a,b=>r.1=a/\0<r.2.1/\gSeg xs a (a+r.2.1)/\qWU xs rs (a+r.2.1) b
section
variable {prog:Program} {w:World} {A:Around} {E:Value->Shared->Prop} {s:Shared} {κ0:SortKind} [LtOk prog w A s κ0] {a₀:Array Keyed}
theorem qWT:∀ n:Nat,n<64->minRun' n n 0=n
 | 0,_=>rfl
 | n+1,h=>if_pos h
theorem qTV (hs:a₀.size<64) {st:SortSt} {Q:Unit->SortSt->Prop} (h0:qCX a₀) (g:gSG κ0 a₀ st) (hp:pendingOf st=#[]) (h:∀ st2,gSG κ0 a₀ st2->qH6 (arrOf st2) a₀.size->Q () st2):wpS (model prog w) A E s sortRuns' Q st:=by
 rw [sortRuns'_eq];refine wpS_bind (wpS_get ?_);dsimp only;rw [g.size,qWT _ hs];refine wpS_bind (wpS_mono (wpS_forRange
  (I:=fun x c st2=>∃ lo,c=(none,lo)/\x<=lo/\lo<=a₀.size/\gSG κ0 a₀ st2/\qWU (arrOf st2) (pendingOf st2).toList 0 lo/\(lo=0/\pendingOf st2=#[]\/lo=a₀.size/\(pendingOf st2).size<=1))
  (Q:=fun c st2=>c.1=none/\gSG κ0 a₀ st2/\qWU (arrOf st2) (pendingOf st2).toList 0 a₀.size/\(pendingOf st2).size<=1) ?step ?fin ⟨0,rfl,A5 _,E8 _,g,by rw [hp];rfl,.inl ⟨rfl,hp⟩⟩) ?post)
 case fin=>
  rintro c st2 ⟨lo,rfl,h1,h2,g2,r2,d2⟩;have e:lo=a₀.size:=by omega
  rw [e] at r2;refine ⟨rfl,g2,r2,?_⟩;rcases d2 with ⟨_,d2⟩ | ⟨_,d2⟩
  ·rw [d2];exact E8 _
  ·exact d2
 case post=>
  rintro ⟨c,lo⟩ st2 ⟨e,g2,r2,le2⟩;cases (show c=none from e);dsimp only;refine wpS_bind (wpS_mono (wpS_forRange (I:=fun x c st3=>c=(none,())/\st3=st2)
   (Q:=fun c st3=>c=(none,())/\st3=st2) ?_ ?_ ⟨rfl,rfl⟩) ?_)
  ·rintro x c st3 _ _ ⟨rfl,rfl⟩;refine wpS_bind (wpS_get ?_);rw [if_pos le2];exact wpS_pure ⟨rfl,rfl⟩
  ·rintro c st3 ⟨e,g3⟩;exact ⟨e,g3⟩
  ·rintro c st3 ⟨rfl,rfl⟩;refine wpS_pure (h st3 g2 ?_);have l3:(pendingOf st3).toList.length<=1:=by simpa using le2
   generalize (pendingOf st3).toList=l at r2 l3
   match l,r2,l3 with
   | [],r3,_=>
    have e:0=a₀.size:=r3;intro i j _ hj;omega
   | [r],r3,_=>
    have e:0+r.2.1=a₀.size:=r3.2.2.2;intro i j hij hj;exact r3.2.2.1 i j (E8 _) hij (by omega)
   | _::_::_,_,l3=>simp at l3
 case step=>
  rintro x c st2 _ hx ⟨lo,rfl,hxl,hlo,g2,r2,d2⟩;dsimp only;by_cases c1:lo >= a₀.size
  ·rw [if_pos c1];have e:lo=a₀.size:=by omega
   rw [e] at r2;refine wpS_pure ⟨rfl,g2,r2,?_⟩;rcases d2 with ⟨_,d2⟩ | ⟨_,d2⟩
   ·rw [d2];exact E8 _
   ·exact d2
  rw [if_neg c1];obtain ⟨e0,pe2⟩:lo=0/\pendingOf st2=#[]:=by
   rcases d2 with d2 | ⟨d2,_⟩
   ·exact d2
   ·omega
  subst e0;refine wpS_bind (qWR h0 g2 (by omega) (by omega) fun k st3 g3 pe3 k1 k2 u3 o3=>?_)
  rw [pe2] at pe3;dsimp only;have tail:∀ (st5:SortSt) (n:Nat),gSG κ0 a₀ st5->n=a₀.size->1<=n->gSeg (arrOf st5) 0 (0+n)->pendingOf st5=#[]->
    ∃ lo,((none,0+n):Option Unit × Nat)=(none,lo)/\x+1<=lo/\lo<=a₀.size/\gSG κ0 a₀ (setPending st5 ((pendingOf st5).push (0,n,0)))/\qWU (arrOf st5) ((pendingOf st5).push (0,n,0)).toList 0 lo/\(lo=0/\(pendingOf st5).push (0,n,0)=#[]\/lo=a₀.size/\((pendingOf st5).push (0,n,0)).size<=1):=by
   intro st5 n g5 en h1 u5 pe5;refine ⟨0+n,rfl,by omega,by omega,⟨g5.perm,g5.kind,g5.failed⟩,?_,.inr ⟨by omega,?_⟩⟩
   ·rw [pe5];exact ⟨rfl,h1,u5,rfl⟩
   ·rw [pe5];exact A5 _
  by_cases c2:k<a₀.size
  ·rw [if_pos c2];refine wpS_bind (wpS_lift (wpAny_rule ⟨rfl,?_⟩));refine wpS_bind (qWS h0 g3 (by omega) (by omega) u3 fun st4 g4 pe4 u4 o4=>?_)
   rw [pe3] at pe4;rw [if_neg (by simp)]
   refine wpS_bind (wpS_get ?_);rw [show (pendingOf st4).back?=none by rw [pe4];rfl]
   dsimp only;refine wpS_bind (wpS_modify (wpS_pure ?_));exact tail st4 _ g4 (by omega) (by omega) u4 pe4
  ·rw [if_neg c2];refine wpS_bind (wpS_get ?_);rw [show (pendingOf st3).back?=none by rw [pe3];rfl]
   dsimp only;refine wpS_bind (wpS_modify (wpS_pure ?_));exact tail st3 _ g3 (by omega) (by omega) u3 pe3
end
end L2.GS
namespace L2
open PySem PySem.Spec PyProof.Rows
open PySem.AutoSeq1 in
section
variable {X:Cx}
end
def topI (b:Int) (l:List Int):Int:=l.foldl (fun b x=>if x > b then x else b) b
theorem qJC:∀ (l:List Int) (b:Int),b<=topI b l/\(∀ x ∈ l,x<=topI b l)/\(topI b l=b\/topI b l ∈ l)
 | [],b=>⟨U1 _,(fun _ z=>nomatch z),.inl rfl⟩
 | y::l,b=>by
  obtain ⟨h1,h2,h3⟩:=qJC l (if y > b then y else b)
  have e:topI b (y::l)=topI (if y > b then y else b) l:=rfl
  rw [e];have hb:b<=(if y > b then y else b)/\y<=(if y > b then y else b):=by split <;> omega
  refine ⟨by omega,fun x hx=>?_,?_⟩
  ·rcases B7.mp hx with hx | hx
   ·omega
   ·exact h2 x hx
  ·rcases h3 with h3 | h3
   ·split at h3
    ·rw [if_pos (by assumption)]
     exact .inr (by rw [h3];exact C0)
    ·rw [if_neg (by assumption)]
     exact .inl h3
   ·exact .inr (A7 _ h3)
section
variable {prog:Program} {w:World} {A:Around} {R:Result->Shared->Prop} {I:Addr} {fp wr:List Addr} {n:Nat} {P:Nat->Value->Prop} {St:Nat->Heap->Prop}
theorem qZ7 (W:Walks prog w A.in1 I fp wr n P St) (kw:List (Str × Value)) (ns:List Int) (hn:ns.length=n) (hval:∀ i v,P i v->∃ t,v=.int (ns.getD i 0) t) (S:Addr) (hSf:S ∉ fp) :
  ∀ (k j:Nat) (s:Shared) (b:Int) (t:Tok) (c:Nat),n - j=k->j<=n->St j s.heap->s.heap.get? S=some { cls:=.type "list",dict:=none,data:=.seq #[.int b t,.int b t] c,slots:=#[] }->
  (∀ t' h' tk,(∀ x o,x ∉ wr->x ≠ S->s.heap.get? x=some o->h'.get? x=some o)->R (.ok (.ret (.int (topI b (ns.drop j)) t'))) { s with heap:=h',toks:=tk })->
  codeAny (model prog w) A (.builtin "max.loop" ⟨[.ref I,.none,.ref S],kw⟩) R s:=by
 have hSw:S ∉ wr:=fun h=>hSf (W.sub _ h);have hname:(toString "max" ++ toString ".loop" : String) = "max.loop":=by decide
 intro k
 induction k with
 | zero=>
  intro j s b t c hk hj st hS hR;have e:j=n:=by omega
  refine codeAny_builtin u7 ?_;rw [J7 U6 _];show wpAny _ A.in1 (seqItems? (.ref S) >>= _) _ _ s;refine wpAny_bind (wpAny_seqItems hS rfl ?_);show wpAny _ A.in1 (tryCatch (pyNext (.ref I)) _ >>= _) _ _ s;refine wpAny_bind (wpAny_tryCatch (W.done s _ _ (e ▸ st) fun h' tk hk'=>?_));show wpAny _ A.in1 (updateSeq S (fun _=>#[]) >>= _) _ _ _;refine wpAny_bind (wpAny_updateSeq (hk' S _ hSw hS) rfl (wpAny_bind (wpAny_letGo (wpAny_pure ?_))));rw [List.drop_of_length_le (by omega)] at hR
  exact hR t _ tk fun x o hx hxS ex=>(G4 _ _ (J2 hxS)).trans (hk' x o hx ex)
 | succ k ih=>
  intro j s b t c hk hj st hS hR;have hlt:j<n:=by omega
  refine codeAny_builtin u7 ?_;rw [J7 U6 _];show wpAny _ A.in1 (seqItems? (.ref S) >>= _) _ _ s;refine wpAny_bind (wpAny_seqItems hS rfl ?_);show wpAny _ A.in1 (tryCatch (pyNext (.ref I)) _ >>= _) _ _ s;refine wpAny_bind (wpAny_tryCatch (W.item j s _ _ hlt st fun v h' tk hP st' hk'=>?_));have hS':=hk' S _ hSw hS;obtain ⟨u,rfl⟩:=hval j v hP;have ed:ns.drop j=ns.getD j 0::ns.drop (j+1):=by
   have hj':j<ns.length:=by omega
   rw [D6 hj',O9,A3 hj']
   rfl
  rw [ed] at hR;generalize ns.getD j 0=y at hR hP ⊢;show wpAny _ A.in1 (tryCatch (holding [Q1 y u,Q1 y u] (richCompare .Gt (.int y u) (.int b t) >>= _)) _ >>= _) _ _ _;refine wpAny_bind (wpAny_tryCatch (wpAny_holding (wpAny_bind (richCompare_gives (op:=.Gt) (typeIs_int _ _ u) (typeIs_int _ _ t) F.slot_int_gt F.entry_int_gt (F.args_int_gt_2 _ _) (gives_int_gt _ _ u t) (fun x=>nomatch x) ?_))));refine wpAny_bind (wpAny_holding (wpAny_truthy_bool (wpAny_bind (wpAny_letGo (wpAny_pure ?_)))));by_cases hb:y > b
  ·rw [decide_eq_true hb,if_pos rfl];have et:topI b (y::ns.drop (j+1))=topI y (ns.drop (j+1)):=by show topI (if y > b then y else b) _=_;rw [if_pos hb]
   rw [et] at hR;refine wpAny_bind (wpAny_updateSeq hS' rfl (wpAny_bind (wpAny_letGo ?_)));rw [hname];refine wpAny_pure ⟨plainId_quiet U6 _,ih (j+1) _ y u _ (by omega) hlt (W.frame _ _ _ st' fun x hx o ex=>?_) (O2 _ hS' rfl) fun t' h2 tk2 hk2=>?_⟩
   ·exact (G4 _ _ (fun z:S=x=>hSf (by rw [z];exact hx))).trans ex
   ·exact hR t' h2 tk2 fun x o hx hxS ex=>hk2 x o hx hxS ((G4 _ _ (J2 hxS)).trans (hk' x o hx ex))
  ·rw [decide_eq_false hb,if_neg C2];have et:topI b (y::ns.drop (j+1))=topI b (ns.drop (j+1)):=by show topI (if y > b then y else b) _=_;rw [if_neg hb]
   rw [et] at hR;refine wpAny_bind (wpAny_letGo ?_);rw [hname];exact wpAny_pure ⟨plainId_quiet U6 _,ih (j+1) _ b t c (by omega) hlt st' hS' fun t' h2 tk2 hk2=>hR t' h2 tk2 fun x o hx hxS ex=>hk2 x o hx hxS (hk' x o hx ex)⟩
theorem qT9 (W:Walks prog w A.in1 I fp wr n P St) (kw:List (Str × Value)) (ns:List Int) (hn:ns.length=n) (hval:∀ i v,P i v->∃ t,v=.int (ns.getD i 0) t) (S:Addr) (hSf:S ∉ fp) {s:Shared} {c:Nat} (st:St 0 s.heap)
  (hS:s.heap.get? S=some { cls:=.type "list",dict:=none,data:=.seq #[] c,slots:=#[] })
  (h1:∀ y r,ns=y::r->∀ t' h' tk,(∀ x o,x ∉ wr->x ≠ S->s.heap.get? x=some o->h'.get? x=some o)->R (.ok (.ret (.int (topI y r) t'))) { s with heap:=h',toks:=tk })
  (h2:ns=[]->∃ nm dv,kw=[(nm,dv)]/\∀ h' tk,(∀ x o,x ∉ wr->x ≠ S->s.heap.get? x=some o->h'.get? x=some o)->R (.ok (.ret dv)) { s with heap:=h',toks:=tk }) :
  codeAny (model prog w) A (.builtin "max.loop" ⟨[.ref I,.none,.ref S],kw⟩) R s:=by
 have hSw:S ∉ wr:=fun h=>hSf (W.sub _ h);have hname:(toString "max" ++ toString ".loop" : String) = "max.loop":=by decide
 refine codeAny_builtin u7 ?_;rw [J7 U6 _];show wpAny _ A.in1 (seqItems? (.ref S) >>= _) _ _ s;refine wpAny_bind (wpAny_seqItems hS rfl ?_);show wpAny _ A.in1 (tryCatch (pyNext (.ref I)) _ >>= _) _ _ s;cases ns with
 | nil=>
  obtain ⟨nm,dv,rfl,h3⟩:=h2 rfl;refine wpAny_bind (wpAny_tryCatch (W.done s _ _ (hn ▸ st) fun h' tk hk'=>?_));show wpAny _ A.in1 (rule _ >>= fun _=>ret dv) _ _ _;exact wpAny_bind (wpAny_rule (wpAny_pure (h3 _ tk fun x o hx _ ex=>hk' x o hx ex)))
 | cons y r=>
  refine wpAny_bind (wpAny_tryCatch (W.item 0 s _ _ (by rw [<- hn];simp) st fun v h' tk hP st' hk'=>?_))
  have hS':=hk' S _ hSw hS;obtain ⟨u,rfl⟩:=hval 0 v hP;show wpAny _ A.in1 (updateSeq S (fun _=>#[Q1 y u,Q1 y u]) >>= _) _ _ _;refine wpAny_bind (wpAny_updateSeq hS' rfl ?_);rw [hname];refine wpAny_pure ⟨plainId_quiet U6 _,qZ7 W kw (y::r) hn hval S hSf _ 1 _ y u _ rfl (by rw [<- hn];simp) (W.frame _ _ _ st' fun x hx o ex=>?_) (O2 _ hS' rfl) fun t' h2 tk2 hk2=>?_⟩
  ·exact (G4 _ _ (fun z:S=x=>hSf (by rw [z];exact hx))).trans ex
  ·exact h1 y r rfl t' h2 tk2 fun x o hx hxS ex=>hk2 x o hx hxS ((G4 _ _ (J2 hxS)).trans (hk' x o hx ex))
end
section
variable {prog:Program} {w:World} {A:Around} {E:Value->Shared->Prop} {s:Shared}
theorem qO1 {id:String} {b:Builtin} {args:List Value} {kw:List (Str × Value)} {Q:Value->Shared->Prop} (hk:builtinKind id=none) (hp:plainId id=true) (hb:entryFor table id=some b) (ha:argsOk id ⟨args,kw⟩)
  (hc:wpAny (model prog w) A.in1 (b ⟨args,kw⟩) (fun fin s'=>∃ c',fin=.again c'/\c'.quiet=true/\codeAny (model prog w) A c' (fun r s'=>∃ v,r=.ok (.ret v)/\Q v s') s') E s):wpAny (model prog w) A (call (.builtin id) args kw) Q E s:=by
 refine wpAny_call (codeAny_call_builtin hp hb ?_);have h2:=wpAny_mono hc (Q':=fun fin s'=>match fin with
   | .done f=>(match (Except.ok f:Result) with | .ok (.ret v)=>Q v s' | .ok _=>False | .error e=>E e s')
   | .again c'=>c'.quiet=true/\codeAny (model prog w) A c' (fun r s'=>match r with | .ok (.ret v)=>Q v s' | .ok _=>False | .error e=>E e s') s')
  (fun fin s' ⟨c',e,h1,h2⟩=>by subst e;exact ⟨h1,codeAny_mono h2 fun r s' ⟨v,e,q⟩=>by subst e;exact q⟩) fun _ _ h'=>h'
 simp only [checkBuiltinCall,hk];cases sg:Manifest.signature? id with
 | none=>exact wpAny_pure h2
 | some sig=>
  have ha':Bind.checkArgs id sig ⟨args,kw⟩=pure ():=by simpa only [argsOk,sg] using ha
  simp only [ha'];exact wpAny_pure h2
end
section
variable {X:Cx}
def topD (dv:Option Int):List Int->Option Int
 | []=>dv
 | y::r=>some (topI y r)
theorem qZ8 {Ab:List (Addr × Obj)} {s:Shared} {σ:St} {H:Hp} {Q:VK} {p:Addr} {ns:List Int} {kw:List (Str × Value)} {dv:Option Int} (hc:X.calm=true) (I:Inv X Ab σ H s) (hq:SqL X.K H p (ns.map V.int))
  (ok:argsOk "max" ⟨[.ref p],kw⟩) (df:Option Value) (hb:i5 "max" ["key","default"] 0 ⟨[],kw⟩=pure [none,df]) (hdf:df=none/\dv=none\/∃ d t,df=some (.int d t)/\dv=some d)
  (m:Int) (em:topD dv ns=some m) (q:Q (.int m) H):wpAny (model X.prog X.w) X.A (call (.builtin "max") [.ref p] kw) (EP X Ab σ Q) X.xe s:=by
 obtain ⟨its,rv,pl,hz⟩:=I.list hq;have hl:=pl.isList;have hlt:p<s.heap.objs.size:=by obtain ⟨_,e,_⟩:=hl;exact B6 e
 have hlen:=rv.length;rw [A0] at hlen;have ia:=qDL rv;have hname:(toString "max" ++ toString ".loop" : String) = "max.loop":=by decide
 refine qO1 F.kind_max F.plain_max F.entry_max ok ?_;show wpAny _ _ (i5 "max" ["key","default"] 0 ⟨[],kw⟩ >>= _) _ _ s;refine wpAny_bind (wpAny_of_eq hb ?_);refine wpAny_bind (wpAny_pure ?_);refine wpAny_bind (wpAny_pyIter_list hl ?_);refine wpAny_bind (wpAny_newObj_type ?_);rw [hname];have w0:X.A.in1.handled=none:=I.ok.hd hc;refine wpAny_pure ⟨_,rfl,plainId_quiet U6 _,?_⟩;refine qT9 (A32 w0 _ p (E6 hlt) its.toArray) _ ns (by simpa using hlen) (fun i v hv=>?_) _ ?_ (c:=0) ?_ (B9 _ rfl) ?_ ?_
 ·exact e7 ia i v (by simpa using hv)
 ·simp only [G6,B7,X8,or_false,not_or];exact ⟨A45 _,Y2 (P8 hlt)⟩
 ·exact ⟨⟨_,A2 _ (B9 _ rfl),rfl,rfl⟩,(hl.push _).push _⟩
 ·intro y r e t' h' tk hk;subst e;cases em;refine ⟨_,rfl,.int _,H,I.kept (t':=tk) fun b o eb=>hk b o ?_ ?_ (A2 _ (A2 _ eb)),⟨t',rfl⟩,q⟩
  ·simp only [B7,X8,or_false];exact E6 (B6 eb)
  ·rw [G6];exact E6 (P8 (B6 eb))
 ·intro e;subst e;rcases hdf with ⟨_,e2⟩ | ⟨d,t,rfl,rfl⟩
  ·rw [e2] at em;cases em
  ·cases em;refine ⟨_,_,rfl,fun h' tk hk=>⟨_,rfl,.int _,H,I.kept (t':=tk) fun b o eb=>hk b o ?_ ?_ (A2 _ (A2 _ eb)),⟨t,rfl⟩,q⟩⟩
   ·simp only [B7,X8,or_false];exact E6 (B6 eb)
   ·rw [G6];exact E6 (P8 (B6 eb))
theorem qUM (hc:X.calm=true):qDD X (.builtin "max") (fun xs H Q=>∃ p ns m,xs=[.ref p]/\SqL X.K H p (ns.map V.int)/\topD none ns=some m/\Q (.int m) H):=by
 intro Ab s σ H xs us Q I r h;obtain ⟨p,ns,m,rfl,hq,em,q⟩:=h;obtain ⟨u,rfl,rx⟩:=qGH r;cases rx;exact qZ8 hc I hq (F.args_max1 _) none rfl (.inl ⟨rfl,rfl⟩) m em q
end
section
variable {prog:Program} {w:World} {A:Around} {E:Value->Shared->Prop} {s:Shared}
end
section
variable {prog:Program} {w:World} {A:Around} {R:Result->Shared->Prop} {I:Addr} {fp wr:List Addr} {n:Nat} {P:Nat->Value->Prop} {St:Nat->Heap->Prop}
end
section
variable {prog:Program} {w:World} {A:Around} {E:Value->Shared->Prop} {s:Shared}
end
section
variable {X:Cx}
theorem qRL (hc:X.calm=true):qDD X (.type "list") (fun xs H Q=>∃ (d:Addr) (Ah:List (Key × V)) (ns:List Int),xs=[.ref d]/\H d=some (.dK Ah)/\Ah.map (·.1)=ns.map F2/\∀ l,H l=none->Q (.ref l) (Ai H l (.lst (ns.map V.int)))):=by
 intro Ab s σ H xs us Q I r h;obtain ⟨d,Ah,ns,rfl,hq,hk,q⟩:=h;obtain ⟨u,rfl,rx⟩:=qGH r;cases rx;obtain ⟨hz,hd,vs,rel,dd⟩:=qRI I.hok hq;obtain ⟨ep,da⟩:=dd.dictAt;have lv:vs.length=Ah.length:=rel.length.symm;have ln:ns.length=Ah.length:=by
  have:=congrArg List.length hk;simpa using this.symm
 refine PySem.W.kdl_call (PySem.W.kdl_dict (ep:=ep) hd) (I.ok.hd hc) da (by rw [lv];exact hz) fun h' tk acc c' kept got Ae=>?_
 obtain ⟨l1,l2⟩:=Ae;have ia:IntsAre acc.toList ns:=by
  refine qTS (by rw [E7,l1,lv,ln]) fun i v hv=>?_
  obtain ⟨k,x,e1,e2⟩:=l2 i v (by rw [<- O4];exact hv)
  have ek:(Ah.map (·.1))[i]?=some k:=by rw [qZO rel,B5,e1];rfl
  rw [hk,B5] at ek;cases en:ns[i]? with
  | none=>rw [en] at ek;cases ek
  | some n=>
   rw [en] at ek;cases ek;obtain ⟨t,e3⟩:=A25 (k:=n) (v:=v) e2;exact ⟨n,t,rfl,e3⟩
 refine ⟨.ref s.heap.objs.size,_,I.laid (a:=s.heap.objs.size) (o:=.lst (ns.map V.int)) (t':=tk) kept (A5 _) ⟨by rw [A0,ln];exact hz,acc.toList,c',qFC ia,by simpa using got⟩,rfl,q _ (I.hok.fresh (A5 _))⟩
def qcS (K:PySem.W.Frag):R2:=fun x y H Q=>∃ a b xs ys,x=.ref a/\y=.ref b/\SqT K H a xs/\SqT K H b ys/\ys ≠ []/\xs.length+ys.length<=sizeLine/\(xs=[]->Q (.ref b) H)/\(xs ≠ []->∀ p,H p=none->Q (.ref p) (Ai H p (.tup (xs++ys))))
theorem qZ4:OpR X (binaryOp .Add) (qcS X.K):=by
 intro Ab s σ H x y v u Q I rx ry h;obtain ⟨a,b,xs,ys,rfl,rfl,ha,hb,hy,hz,q1,q2⟩:=h;by_cases hx:xs=[]
 ·subst hx;cases rx;cases ry;obtain ⟨its,r1,p1,_⟩:=I.tuple ha;obtain ⟨its2,r2,p2,_⟩:=I.tuple hb;cases r1;obtain ⟨⟨cls,dd,data,sl⟩,ho,hc,n,hd⟩:=id p1;obtain ⟨⟨cls2,dd2,data2,sl2⟩,ho2,hc2,n2,hd2⟩:=id p2;simp only at hc hd hc2 hd2;subst hc hd hc2 hd2;exact concat_meets ⟨_,ho,rfl⟩ ⟨_,ho2,rfl⟩ noFill_tuple_add seq_tuple_add Z9 Y7 (Y3 _ _) (tuple_addW0 a b #[] its2.toArray n n2 dd dd2 sl sl2 rfl) ⟨ho,ho2,.ref b,H,I,rfl,q1 rfl⟩
 ·exact qZ3 Ab s σ H (.ref a) (.ref b) v u Q I rx ry ⟨a,b,xs,ys,rfl,rfl,ha,hb,hx,hz,fun z=>absurd z hy,fun _=>q2 hx⟩
end
theorem qG5 {K:PySem.W.Frag} {a:Addr} {xs:List V} {g:TG} {tb:TS} {D:Ends} {σ0:St} {H0:Hp} (Pv:Nat->St->Hp->Prop) (h0:Pv 0 σ0 H0) (hl:∀ i σ H,i<=xs.length->Pv i σ H->SqL K H a xs)
  (hs:∀ i x σ H T,xs[i]?=some x->Pv i σ H->H T=none->g (.ref T) σ (Ai H T (.tup [.int (i:Int),x])) fun σ2 H2=>tb { D with nx:=Pv (i+1),ct:=Pv (i+1),bk:=D.nx } σ2 H2)
  (hd:∀ σ H,Pv xs.length σ H->D.nx σ H) :
  ∃ W:Nat->Nat->St->Hp->Prop,(∃ m,W 0 m σ0 H0)/\∀ i m σ H,W i m σ H->
   ((Ite K a).stop i H/\D.nx σ H)\/((Ite K a).go i H/\∃ N:St->Hp->Prop,(∀ σ' H',N σ' H'->∃ m',m'<m/\W (i+1) m' σ' H')/\∀ x H',(Ite K a).yld i H x H'->g x σ H' fun σ2 H2=>tb { D with nx:=N,ct:=N,bk:=D.nx } σ2 H2):=by
 refine ⟨fun i m σ H=>m=xs.length - i/\i<=xs.length/\Pv i σ H,⟨xs.length,by simp,E8 _,h0⟩,?_⟩
 rintro i m σ H ⟨rfl,hi,q⟩;have hq:=hl i σ H hi q;by_cases hlt:i<xs.length
 ·refine .inr ⟨⟨xs,xs[i],hq,by simp [hlt]⟩,Pv (i+1),fun σ' H' p'=>⟨xs.length - (i+1),by omega,rfl,hlt,p'⟩,fun v H' y=>?_⟩
  obtain ⟨T,x,hT,e1,e2,y⟩:=y;subst e1 e2;exact hs i x σ H T (y xs hq) q hT
 ·have e:i=xs.length:=by omega
  subst e;exact .inl ⟨⟨xs,hq,A5 _⟩,hd σ H q⟩
open PySem
def g5:Nat->Nat
 | 0=>0
 | n+1=>5 * g5 n+1
structure TabG (byText:Bool) (t:SetTable) (n:Nat):Prop where
 pow:∃ k,3<=k/\t.mask+1=2 ^ k
 dum:t.dummies=#[]
 plain:t.plain=true
 led:t.led=!byText
 size:t.place.size=n
 up:t.place.toList.Pairwise (·<·)
 le:∀ j ∈ t.place.toList,j<=t.mask
section
variable {byText:Bool} {t:SetTable} {n:Nat}
end
section
variable {mask:Nat} {owner:Array (Option Nat)}
end
structure Own (N:Nat) (L:List Nat) (owner:Array (Option Nat)):Prop where
 size:owner.size=N
 nd:L.Nodup
 lt:∀ j ∈ L,j<N
 at_:∀ (m j:Nat),L[m]?=some j->owner[j]?=some (some m)
 no:∀ j,j<N->j ∉ L->owner[j]?=some none
section
variable {prog:Program} {w:World} {A:Around} {E:Value->Shared->Prop} {s:Shared}
end
section
variable {prog:Program} {w:World} {A:Around} {R:Result->Shared->Prop} {I:Addr} {fp wr:List Addr} {G:Array GenState->Array GenState->Prop} {n:Nat} {P:Nat->Value->Prop} {St:Nat->Shared->Prop}
end
section
variable {prog:Program} {w:World} {A:Around} {E:Value->Shared->Prop} {s:Shared}
end
section
variable {prog:Program} {w:World} {A:Around} {E:Value->Shared->Prop} {s:Shared} {a I:Addr} {es:Array (Int × Value)} {ep:Nat} {t:SetTable} {i:Nat}
end
section
variable {X:Cx}
end
section
variable {prog:Program} {w:World} {A:Around} {E:Value->Shared->Prop} {s:Shared}
end
section
variable {X:Cx}
end
structure Ex (B:Heap) (l:List Env) (e:Addr) (cls:Value) (dd:Option Addr) (nt:Bool) (h:Heap):Prop where
 stays:B.StaysIn h
 new:B.get? e=none
 frames:h.FunFrames B l
 rec_:∃ (oe:Obj) (vs:Array Value) (x1:Value),h.get? e=some oe/\oe.cls=cls/\oe.dict=dd/\oe.data=.fields vs/\vs[1]?=some x1/\
  ((x1=.none/\nt=false)\/∃ (T:Addr) (oT:Obj) (ts:Array Value) (x3:Value),x1=.ref T/\B.get? T=none/\T ≠ e/\h.get? T=some oT/\oT.data=.fields ts/\ts[3]?=some x3)
section
variable {M:Model} {A:Around} {E:Value->Shared->Prop} {s:Shared} {B:Heap} {env:Env} {outer l:List Env} {L e:Addr} {cls:Value} {dd:Option Addr} {nt:Bool} {Q:Unit->Shared->Prop}
end
def Kp (outer:List Env) (H':Hp) (h0:Heap) (b:Addr):Prop:=(∃ o,H' b=some o)\/((∃ o,h0.get? b=some o)/\b ∉ frs outer)
structure XD (P:Program) (w:World) (outer l:List Env) (H:Hp) (h0:Heap) (e:Addr) (cls:Value) (dd:Option Addr) (H':Hp) (B:Heap) (nt:Bool) (h:Heap):Prop where
 un:Un (frs outer) [] H H' h0 h
 hok:HOk P w H' h
 ex:Ex B l e cls dd nt h
 kp:∀ b o,h.get? b=some o->Kp outer H' h0 b->B.get? b=some o
 ne:H' e=none
 ge:h0.objs.size<=e
def XP (X:Cx) (G:XK) (ev:Value) (s':Shared):Prop:=X.A.frames=some X.stack/\∃ (e:Addr) (cls:Value) (dd:Option Addr) (H':Hp) (B:Heap) (nt:Bool),ev=.ref e/\s'.os=X.s₀.os/\AllBare s'.gens/\XD X.prog X.w X.outer X.stack X.H₀ X.s₀.heap e cls dd H' B nt s'.heap/\G cls dd H'
section
variable {X:Cx} {E:XK} {G:XK} {Ab:List (Addr × Obj)} {σ:St} {H:Hp} {s s':Shared}
end
section
variable {P:Program} {w:World} {K:PySem.W.Frag} {mg:Str->Option Value} {base:Heap}
end
section
variable {X:Cx} {Ab:List (Addr × Obj)} {σ:St} {H:Hp} {s:Shared} {ev:Value}
end
section
variable {X:Cx}
def Ends.off (D:Ends):Option Nat->Ends
 | none=>D
 | some j=>{ nx:=fun σ H=>D.nx (σ.set j none) H,rt:=D.rt,bk:=fun σ H=>D.bk (σ.set j none) H,ct:=fun σ H=>D.ct (σ.set j none) H }
end
def bmV:List Value:=[.type "ValueError",.type "Exception",.type "BaseException",.type "object"]
def xcIn (K:PySem.W.Frag) (C:Addr) (init:Option Value):Bool:=match K.lookup C with
 | some ⟨.type "type",_,.cls cd,sl⟩=>(match cd.mro,sl.toList with
  | .ref C'::bm,[_,_,_,_,some (.builtin n),_]=>C' == C && n == "ValueError.__new__" && !cd.hasDel && cd.hasDict && PySem.W.tailIn K bmV bm && PySem.W.nsOkIn K cd.ns && C3 K cd.ns "__init__" == some init
  | _,_=>false)
 | _=>false
structure XCls (K:PySem.W.Frag) (C:Addr) (init:Option Value):Prop where
 cls:xcIn K C init=true
 set:P9 K (.ref C) "__setattr__" = some (some (.builtin "object.__setattr__"))
 kp:O5 K (.ref C)=true
section
variable {prog:Program} {w:World} {A:Around} {E:Value->Shared->Prop} {h:Heap} {g:Array GenState} {d:Drawn} {t:Nat} {os:OsState} {K:PySem.W.Frag} {C x:Addr} {init:Option Value} {mA:Str->Option Value} {name:Str} {v:Value} {ns:List Str}
end
section
variable {prog:Program} {w:World} {A:Around} {R:Result->Shared->Prop} {h:Heap} {g:Array GenState} {d:Drawn} {t:Nat} {os:OsState} {K:PySem.W.Frag} {C fI:Addr} {rest:List Value}
end
section
variable {M:Model} {A:Around} {E:Value->Shared->Prop} {env:Env} {K:PySem.W.Frag} {C:Addr} {init:Option Value}
end
section
variable {X:Cx} {Ab:List (Addr × Obj)} {σ:St} {H:Hp} {s:Shared}
end
section
variable {X:Cx}
end
structure XGet (K:PySem.W.Frag) (C:Addr):Prop where
 ga:P9 K (.ref C) "__getattribute__" = some (some (.builtin "BaseException.__getattribute__"))
 gt:P9 K (.ref C) "__getattr__" = some none
 be:A16 K C (.type "BaseException")=some true
 hd:A26 K C=true
section
variable {prog:Program} {w:World} {A:Around} {E:Value->Shared->Prop} {s:Shared} {K:PySem.W.Frag} {x C:Addr} {ox:Obj} {od:Option Obj} {name:Str} {tk:Tok}
end
structure XTy (K:PySem.W.Frag) (C:Addr):Prop extends XGet K C where
 ca:P9 K (.ref C) "__class__" = some (some (.builtin "object.__class__"))
 cn:n8 K (.builtin "object.__class__") "__get__" = some (some (.builtin "getset_descriptor.__get__"))
 ct:A52 K (.builtin "object.__class__")=some true
 cm:A16 K C (.type "object")=some true
section
variable {K:PySem.W.Frag}
end
section
variable {X:Cx}
theorem qOP:∀ {cs:List Addr} {its:List Value},Vals (cs.map V.ref) its->its=cs.map D8
 | [],_,.nil=>rfl
 | a::l,_,.cons r t=>by
  cases (show _=D8 a from r);rw [qOP t]
  rfl
end
structure RoomH (k:Nat) (A:Around):Prop where
 dp:A.depth+3 * k+5<recursionLimit
 un:A.units+16 * k+200<cLine
structure FnOkH (P:Program) (w:World) (K:PySem.W.Frag) (mg:Str->Option Value) (base:Heap) (CX:CXT) (k:Nat) (f:Addr) (fd:FuncData) (ps:List Str) (sp:Sp):Prop where
 len:∀ vs H Q E,sp vs H Q E->vs.length=ps.length
 run:∀ (A:Around) (outer:List Env) (s:Shared) (H:Hp) (args:Args) (us:List Value) (vs:List V) (Q:VK) (E:XK),RoomH k A->Env0 P w K mg base A outer s H->BindsTo s fd args (ps.zip us)->Vals vs us->sp vs H Q E->
  codeAny (model P w) A (.call (.ref f) args) (CR CX outer P w H s Q E) s
section
variable {P:Program} {w:World} {K:PySem.W.Frag} {mg:Str->Option Value} {base:Heap}
end
section
variable {X:Cx} {CX:CXT} {k:Nat} {f C:Addr} {fd:FuncData} {ps:List Str} {sp:Sp} {dvs:List V} {ds:List Value} {E:XK} {x m:Str} {p pos apos:Pos} {e o:Expr} {es:List Expr} {ta:TE} {t:TA}
end
section
variable {X:Cx}
theorem qYV {A:Around} {s:Shared} {rs:List Addr} {us vs:List Value} (h1:Vals (rs.map V.ref) us) (h2:Vals (rs.map V.ref) vs):∀ j (j1:j<us.toArray.size) (j2:j<vs.toArray.size),SeqAt.EqAt A s us.toArray[j] vs.toArray[j] true:=by
 have e1:=qOP h1;have e2:=qOP h2;subst e1;subst e2;intro j j1 j2;exact A53 _
theorem qOU (hu:X.A.units<cLine):OpR X (compareOp .NotEq) (fun x y H Q=>∃ (p l:Addr) (rs:List Addr),x=.ref p/\y=.ref l/\SqL X.K H p (rs.map V.ref)/\SqL X.K H l (rs.map V.ref)/\Q (.bl false) H):=by
 intro Ab s σ H x y v u Q I rx ry h;obtain ⟨p,l,zs,rfl,rfl,h1,h2,q⟩:=h;cases rx;cases ry;obtain ⟨us,r1,p1,z1⟩:=I.list h1;obtain ⟨vs,r2,p2,z2⟩:=I.list h2;refine p6 (e:=fun _=>true) p1.isList p2.isList (by simp [<- r1.length,<- r2.length]) hu (qYV r1 r2) _ _ _ _ ⟨.bl false,H,I,?_,q⟩
 have:(C8 us.toArray.size).all (fun _=>true)=true:=by simp
 rw [this]
 rfl
end
section
variable {prog:Program} {w:World} {A:Around} {E:Value->Shared->Prop} {s:Shared}
end
section
variable {X:Cx}
end
theorem qUH:∀ (names:List (Str × NameKind)) (n:Nat) (a acc:List (Str × Addr)),cellsFrom n names (a++acc)=cellsFrom n names a++acc
 | [],_,_,_=>rfl
 | (y,k)::r,n,a,acc=>by
  unfold cellsFrom
  split
  ·exact qUH r (n+1) ((y,n)::a) acc
  ·exact qUH r n a acc
theorem qUG {x:Str} {c:Addr}:∀ {names:List (Str × NameKind)} {n:Nat} {acc:List (Str × Addr)},(x,c) ∈ cellsFrom n names acc->(x,d7) ∈ names\/(x,c) ∈ acc
 | [],_,_,h=>.inr h
 | (y,k)::r,n,acc,h=>by
  unfold cellsFrom at h
  split at h
  ·rename_i hk
   have hk':k=d7:=by simpa using hk
   subst hk';rcases qUG h with h | h
   ·exact .inl (A7 _ h)
   ·rcases B7.mp h with e | h
    ·cases e;exact .inl (C0 ..)
    ·exact .inr h
  ·rcases qUG h with h | h
   ·exact .inl (A7 _ h)
   ·exact .inr h
theorem qWE {l m:List (Str × Addr)} {x:Str} {c:Addr} (h:(l++m).lookup x=some c):l.lookup x=some c\/(l.lookup x=none/\m.lookup x=some c):=by
 rw [List.lookup_append] at h;cases e:l.lookup x with
 | some d=>rw [e] at h;exact .inl h
 | none=>rw [e] at h;exact .inr ⟨rfl,h⟩
theorem qR2 {M:Model} {A:Around} {E:Value->Shared->Prop} {s:Shared} {scope:Scope} {globals:Addr} {closure:List (Str × Addr)} {qual:Str} {outer:Env} {Q:Env->Shared->Prop}
  (h:Q (newEnv scope s.heap.objs.size globals (cellsFrom (s.heap.objs.size+1) scope.names closure) qual none .none (some outer) builtinsNs) { s with heap:=pushCells (s.heap.push { cls:=.type "dict",data:=.dict #[] }) scope.names }) :
  wpAny M A (newFunctionEnv scope globals closure [] qual none .none (some outer)) Q E s:=by
 simp only [newFunctionEnv,A18,if_true];refine wpAny_bind (wpAny_alloc ?_);refine wpAny_bind (wpAny_layCells _ (fun name kind cells=>by cases hkc:kind == d7 <;> simp [hkc]) _ _ _ _ ?_)
 rw [show ({ s with heap:=s.heap.push { cls:=.type "dict",data:=.dict #[] } }:Shared).heap.objs.size=s.heap.objs.size+1 from G6 ..];exact wpAny_bind (wpAny_pure (wpAny_pure h))
def qEK (X:Cx) (scope:Scope) (own:List Str) (fv:List Nat) (z:LcZ):Cx:={ lcCx X scope own fv z with fn:=fun x=>own.contains x }
structure LcScopeO (X:Cx) (scope:Scope) (own:List Str) (fv:List Nat):Prop where
 kind:scope.kind=.function
 names:∀ y ∈ scope.names,y.2=.local->scope.names.lookup y.1=some .local
 cells:∀ y ∈ scope.names,y.2=.cell->scope.names.lookup y.1=some .cell
 frees:∀ y ∈ scope.names,y.2=.free->scope.names.lookup y.1=some .free
 free:∀ y ∈ scope.names,y.2=.free->X.env.kindOf y.1=some .cell\/X.env.kindOf y.1=some .free
 nd:(own++fv.map fun i=>X.N.getD i Q3).Nodup
 fvs:∀ i ∈ fv,i<X.N.length/\scope.names.lookup (X.N.getD i Q3)=some .free
 owns:∀ x ∈ own,scope.names.lookup x=some .local\/scope.names.lookup x=some .cell
def qTF (scope:Scope) (own:List Str) (fv:List Nat) (osc:Scope) (N:List Str):Bool:=
 decide (scope.kind=.function) && scope.names.all (fun y=>decide (y.2 ≠ .local) || decide (scope.names.lookup y.1=some .local)) && scope.names.all (fun y=>decide (y.2 ≠ .cell) || decide (scope.names.lookup y.1=some .cell)) && scope.names.all (fun y=>decide (y.2 ≠ .free) || decide (scope.names.lookup y.1=some .free)) &&
 scope.names.all (fun y=>decide (y.2 ≠ .free) || (decide (osc.names.lookup y.1=some .cell) || decide (osc.names.lookup y.1=some .free))) && decide ((own++fv.map fun i=>N.getD i Q3).Nodup) &&
 (fv.all fun i=>decide (i<N.length) && decide (scope.names.lookup (N.getD i Q3)=some .free)) && own.all fun x=>decide (scope.names.lookup x=some .local) || decide (scope.names.lookup x=some .cell)
theorem los {X:Cx} {scope:Scope} {own:List Str} {fv:List Nat} (h:qTF scope own fv X.env.scope X.N=true):LcScopeO X scope own fv:=by
 unfold qTF at h;simp only [E1,decide_eq_true_eq,G9,M8] at h;obtain ⟨⟨⟨⟨⟨⟨⟨h1,h3⟩,hc⟩,hf⟩,h4⟩,h5⟩,h6⟩,h7⟩:=h;exact ⟨h1,fun y hy e=>(h3 y hy).resolve_left fun z=>z e,fun y hy e=>(hc y hy).resolve_left fun z=>z e,fun y hy e=>(hf y hy).resolve_left fun z=>z e,fun y hy e=>(h4 y hy).resolve_left fun z=>z e,h5,h6,h7⟩
section
variable {X:Cx} {Ab:List (Addr × Obj)} {σ:St} {H:Hp} {s:Shared}
theorem qO0 {env:Env} {x:Str} {c:Addr}:∀ {names:List (Str × NameKind)} {acc:List (Str × Addr)},(qDP env names acc).lookup x=some c->(x,I0) ∈ names\/acc.lookup x=some c
 | [],_,h=>.inr h
 | (y,k)::r,acc,h=>by
  unfold qDP at h;rcases qO0 h with h2 | h2
  ·exact .inl (A7 _ h2)
  ·split at h2
   ·rename_i hk
    have hk':k=I0:=by simpa using hk
    subst hk';by_cases e:x=y
    ·subst e;exact .inl (C0 ..)
    ·rw [W1,beq_eq_false_iff_ne.mpr e] at h2;exact .inr h2
   ·exact .inr h2
theorem qEU {scope:Scope} {own:List Str} {fv:List Nat} (I:Inv X Ab σ H s) (S:LcScopeO X scope own fv) {x:Str} {c:Addr} (h:(cellsFrom (s.heap.objs.size+1) scope.names (qDP X.env scope.names [])).lookup x=some c) :
  ((cellsFrom (s.heap.objs.size+1) scope.names []).lookup x=some c/\scope.names.lookup x=some .cell/\s.heap.objs.size+1<=c/\(pushCells (s.heap.push { cls:=.type "dict",data:=.dict #[] }) scope.names).IsCell c none)\/
  (X.env.cells.lookup x=some c/\scope.names.lookup x=some .free/\c<s.heap.objs.size):=by
 have hfr:∀ x,(x,I0) ∈ scope.names->∃ c,X.env.cells.lookup x=some c:=fun x hx=>I.ok.has x (S.free _ hx rfl);have ok:=cellsFrom_ok scope.names (s.heap.push { cls:=.type "dict",data:=.dict #[] }) (s.heap.objs.size+1) [] ⟨fun _ _ hm=>(nomatch hm),V6⟩ (by rw [G6];exact A5 _)
 rw [G6] at ok;have e0:=qUH scope.names (s.heap.objs.size+1) [] (qDP X.env scope.names []);rw [Z0] at e0;rw [e0] at h;rcases qWE h with h | ⟨_,h⟩
 ·have hm:=G7 h;have hc:=(qUG hm).resolve_right (fun z=>nomatch z);exact .inl ⟨h,S.cells _ hc rfl,(ok.empty x c hm).2,(ok.empty x c hm).1⟩
 ·have h2:=qHG (env:=X.env) (names:=scope.names) (acc:=[]) hfr (fun x c z=>by simp at z) x c h
  have h3:=(qO0 h).resolve_right (fun z=>by simp at z)
  obtain ⟨v,z⟩:=I.cell x c h2;exact .inr ⟨h2,S.frees _ h3 rfl,z.lt⟩
theorem qXU {scope:Scope} {own:List Str} {fv:List Nat} (I:Inv X Ab σ H s) (S:LcScopeO X scope own fv) {x:Str} (h:scope.names.lookup x=some .cell\/scope.names.lookup x=some .free):∃ c,(cellsFrom (s.heap.objs.size+1) scope.names (qDP X.env scope.names [])).lookup x=some c:=by
 refine V4.mp (Z8 scope.names _ _ ?_);rcases h with h | h
 ·exact .inl h
 ·exact .inr (V4.mpr (qHH (.inl (G7 h))))
theorem qbH {scope:Scope} {own:List Str} {fv:List Nat} {fp:List Addr} (I:Inv X Ab σ H s) (S:LcScopeO X scope own fv) (hf:∀ b ∈ fp,FpOk X Ab H b) (hsz:∀ b ∈ fp,b<s.heap.objs.size) :
  (qEK X scope own fv ⟨s.heap.objs.size,cellsFrom (s.heap.objs.size+1) scope.names (qDP X.env scope.names []),fp,s,H⟩).Ok:=by
 have ok:=cellsFrom_ok scope.names (s.heap.push { cls:=.type "dict",data:=.dict #[] }) (s.heap.objs.size+1) [] ⟨fun _ _ hm=>(nomatch hm),V6⟩ (by rw [G6];exact A5 _)
 rw [G6] at ok;refine ⟨I.ok.mod,S.kind,I.ok.glob,I.ok.blt,A5 _,fun x y c h1 h2=>?_,fun x hx=>?_,fun x c hx hc=>?_,I.ok.hd,I.ok.frames,.inl rfl,fun b hb=>⟨?_,fun x c e=>?_⟩,I.bs,F6 I.ok.bsz I.sz,fun b o e hb=>?_,fun b hb hb'=>?_,I.stack,I.stkFree⟩
 ·rcases qEU I S h1 with ⟨a1,_,a2,_⟩ | ⟨a1,_,a2⟩ <;> rcases qEU I S h2 with ⟨b1,_,b2,_⟩ | ⟨b1,_,b2⟩
  ·exact name_of_addr ok.apart (G7 a1) (G7 b1)
  ·exact absurd (E5 b2 (X3 a2)) (O6 _)
  ·exact absurd (E5 a2 (X3 b2)) (O6 _)
  ·exact I.ok.inj x y c a1 b1
 ·refine qXU I S ?_;have hx':(relabel scope X.env).names.lookup x=some .cell\/(relabel scope X.env).names.lookup x=some .free:=hx;unfold relabel at hx';rw [qCD] at hx';cases e:scope.names.lookup x with
  | none=>rw [e] at hx';simp at hx'
  | some k=>
   rw [e] at hx';simp only [Q5,A30] at hx';cases k with
   | free=>exact .inr rfl
   | cell=>exact .inl rfl
   | _=>simp at hx'
 ·have hx':x ∈ own:=by simpa using (show own.contains x=true from hx)
  rcases qEU I S hc with ⟨_,_,a2,_⟩ | ⟨_,a1,_⟩
  ·exact X3 a2
  ·rcases S.owns x hx' with z | z <;> (rw [z] at a1;cases a1)
 ·exact E6 (hsz b hb)
 ·rcases qEU I S e with ⟨_,_,a2,_⟩ | ⟨a1,_,a2⟩
  ·exact Y2 (E5 (hsz b hb) (X3 a2))
  ·exact (hf b hb).2.2.2.2.1 x c a1
 ·rcases (hf b hb).2.2.2.1 with z | z
  ·exact I.ok.noex b o e z
  ·exact absurd (E5 (B6 (I.ok.bs b o e).1) z) (O6 _)
 ·rcases B7.mp (I.stkSub b hb') with z | z
  ·exact (hf b hb).2.1 z
  ·exact (hf b hb).2.2.1 z
theorem qWF {scope:Scope} {own:List Str} {fv:List Nat} {fp:List Addr} (I:Inv X Ab σ H s) (S:LcScopeO X scope own fv) (hf:∀ b ∈ fp,FpOk X Ab H b) (hsz:∀ b ∈ fp,b<s.heap.objs.size) :
  Inv (qEK X scope own fv ⟨s.heap.objs.size,cellsFrom (s.heap.objs.size+1) scope.names (qDP X.env scope.names []),fp,s,H⟩) [] (qEV own fv σ) H { s with heap:=pushCells (s.heap.push { cls:=.type "dict",data:=.dict #[] }) scope.names }:=by
 have hk:∀ b o,s.heap.get? b=some o->(pushCells (s.heap.push { cls:=.type "dict",data:=.dict #[] }) scope.names).get? b=some o:=fun b o e=>pushCells_keeps _ _ b o (A2 _ e);have hns:(pushCells (s.heap.push { cls:=.type "dict",data:=.dict #[] }) scope.names).Ns s.heap.objs.size (fun _=>none):=(Heap.Ns.new s.heap (.type "dict")).keeps (pushCells_keeps _ _);refine ⟨qbH I S hf hsz,rfl,I.bare,Un.kept hk,⟨_,hns,fun i x v h1 h2 h3=>?_⟩,fun x c e=>?_,I.hok.fresh (A5 _),fun x c e=>?_,fun p hp=>absurd (show p ∈ ([]:List (Addr × Obj)) from hp) (by simp),I.hok.kept hk,?_⟩
 ·have h1:(own++fv.map fun i=>X.N.getD i Q3)[i]?=some x:=h1;unfold qEV at h2;have hi:own.length<=i:=by
   apply W0;intro hi;rw [Q0 (by simpa using hi),B5] at h2
   cases e:own[i]? with
   | none=>rw [e] at h2;cases h2
   | some z=>rw [e] at h2;cases h2
  rw [L4 (by simpa using hi),A0,B5] at h2
  rw [L4 hi,B5] at h1;cases e:fv[i - own.length]? with
  | none=>rw [e] at h1;cases h1
  | some j=>
   rw [e] at h1 h2;have hj:=S.fvs j (B4 e);have h1:X.N.getD j Q3=x:=A8 h1;have h2:(σ[j]?).join=some v:=A8 h2;have h2':σ[j]?=some (some v):=by
    cases q:σ[j]? with
    | none=>rw [q] at h2;cases h2
    | some y=>rw [q] at h2;exact congrArg some h2
   have hx:X.N[j]?=some x:=by
    rw [O9] at h1;rw [A3 hj.1] at h1 ⊢;exact congrArg some h1
   have hlk:scope.names.lookup x=some .free:=h1 ▸ hj.2;have hmem:=G7 hlk;obtain ⟨m,hn,hl⟩:=id I.loc;have hkd:=S.free _ hmem rfl;obtain ⟨u,ru,lk⟩:=hl j x v hx h2' (by
    rcases hkd with z | z
    ·exact .inr (.inl z)
    ·exact .inr (.inr z))
   refine ⟨u,ru,?_⟩;rcases lk with ⟨z,_⟩ | ⟨_,c,e1,z⟩
   ·rcases hkd with y | y
    ·have y':X.env.kindOf x=some .cell:=y;rw [z] at y';cases y'
    ·have y':X.env.kindOf x=some .free:=y;rw [z] at y';cases y'
   ·obtain ⟨c',e2⟩:=qXU I S (x:=x) (.inr hlk);rcases qEU I S e2 with ⟨_,a1,_⟩ | ⟨e3,_,_⟩
    ·rw [hlk] at a1;cases a1
    rw [e1] at e3;cases e3;obtain ⟨o,ho,hd⟩:=z;refine .inr ⟨?_,c,e2,o,hk _ _ ho,hd⟩;show (relabel scope X.env).names.lookup x=some .cell\/(relabel scope X.env).names.lookup x=some .free;unfold relabel;rw [qCD,hlk,Q5]
    split
    ·exact .inl rfl
    ·exact .inr rfl
 ·rcases qEU I S e with ⟨_,_,_,z⟩ | ⟨a1,_,_⟩
  ·exact ⟨_,z⟩
  ·obtain ⟨v,o,ho,hd⟩:=I.cell x c a1;exact ⟨v,o,hk _ _ ho,hd⟩
 ·rcases qEU I S e with ⟨_,_,a2,_⟩ | ⟨a1,_,_⟩
  ·exact I.hok.fresh (X3 a2)
  ·exact I.freeC x c a1
 ·unfold qEV;show _=(own++fv.map fun i=>X.N.getD i Q3).length;rw [A4,A4,A0,A0,A0]
theorem qZI {scope:Scope} {own:List Str} {fv:List Nat} {fp:List Addr} {pins':List (Addr × Obj)} {σ':St} {H':Hp} {s':Shared} {cl:List (Str × Addr)} (I:Inv X Ab σ H s) (hf:∀ b ∈ fp,FpOk X Ab H b)
  (J:Inv (qEK X scope own fv ⟨s.heap.objs.size,cl,fp,s,H⟩) pins' σ' H' s'):Inv X Ab σ H' s':=
 I.call' (ch:=fp) J.os J.base J.hok J.bare fun b hb=>⟨(hf b hb).2.2.2.1,(hf b hb).2.1,(hf b hb).2.2.2.2.1,(hf b hb).2.2.2.2.2⟩
end
section
variable {X:Cx} {tg iter elt:Expr} {ifs:List Expr} {scope:Scope} {pos:Pos} {own:List Str} {fv:List Nat} {wi:TI} {g:TG} {tc:TT} {te:TE}
theorem qZH {Ab:List (Addr × Obj)} {s:Shared} {σ:St} {H:Hp} {K:Addr->Hp->Prop} {use:Option (Value->Sem Unit)} {Q:Value->Shared->Prop} {E:Value->Shared->Prop} (hc:X.calm=true) (S:LcScopeO X scope own fv) (hi:PI X tg iter wi)
  (hg:∀ z,PG (qEK X scope own fv z) tg g) (ht:∀ z,PTs (qEK X scope own fv z) ifs tc) (he:∀ z,PE (qEK X scope own fv z) elt te)
  (I:Inv X Ab σ H s) (h:qZM own fv wi g tc te K σ H) (hxe:∀ e s,X.xe e s->E e s)
  (fin:∀ (p:Addr) (L:Addr) (H':Hp) (s':Shared) (m:Str->Option Value),Inv X Ab σ H' s'->K p H'->s'.heap.Ns L m->X.s₀.heap.objs.size<=L->H' L=none->L ≠ X.env.locals->(∀ x c,X.env.cells.lookup x=some c->c ≠ L)->(∀ q ∈ X.pn++Ab,q.1 ≠ L)->
   compPost (model X.prog X.w) X.A E use Q (.ref p) L (.ok .next) s') (hs:∀ x,foldedSetIterable iter X.env x=pure x:=by intro _;rfl) :
  wpAny (model X.prog X.w) X.A (comprehension (.ListComp elt [⟨tg,iter,ifs,0⟩] scope pos) scope X.env (firstIterPos [⟨tg,iter,ifs,0⟩] pos) (newList []) false (eval iter X.env) use) Q E s:=by
 have hfr:∀ x,(x,I0) ∈ scope.names->∃ c,X.env.cells.lookup x=some c:=fun x hx=>I.ok.has x (S.free _ hx rfl);refine wpAny_comprehension_free rfl hs (qL3 hfr) S.kind S.names (wpAny_mono (hi Ab s σ H _ I h) (fun v s1 h1=>wpAny_mono h1 (fun itv s2 h2=>?_) hxe) hxe);obtain ⟨it,fp,tn,J,H2,e,I2,T,st2,f2,q2⟩:=h2;subst e
 -- the list
 refine wpAny_newObj_type ?_;have fresh2:H2 s2.heap.objs.size=none:=I2.hok.fresh (A5 _);have I3:Inv X Ab σ (Ai H2 s2.heap.objs.size (.lst [])) { s2 with heap:=s2.heap.push { cls:=.type "list",dict:=none,data:=.seq ([]:List Value).toArray } }:=
  I2.laid (t':=s2.toks) (fun b u e=>A2 _ e) (A5 _) ⟨E8 _,[],0,.nil,B9 _ rfl⟩
 obtain ⟨W,⟨m0,w0⟩,turn⟩:=q2 s2.heap.objs.size fresh2;have lt2:∀ b ∈ fp,b<s2.heap.objs.size:=fun b hb=>by
  obtain ⟨o,e,_⟩:=T.obj 0 _ st2 b hb;exact B6 e
 have f3:∀ b ∈ fp,FpOk X Ab (Ai H2 s2.heap.objs.size (.lst [])) b:=fun b hb=>⟨by rw [qA8 (E6 (lt2 b hb))];exact (f2 b hb).1,(f2 b hb).2⟩
 generalize hp:s2.heap.objs.size=p at *;generalize hH3:Ai H2 p (.lst [])=H3 at *;have st3:tn 0 (s2.heap.push { cls:=.type "list",dict:=none,data:=.seq ([]:List Value).toArray }):=T.keep _ _ _ st2 fun b _ o e=>A2 _ e;have lt3:∀ b ∈ fp,b<(s2.heap.push { cls:=.type "list",dict:=none,data:=.seq ([]:List Value).toArray }).objs.size:=fun b hb=>by
  rw [G6];have:=lt2 b hb;rw [hp];exact P8 this
 generalize hs3:({ s2 with heap:=s2.heap.push { cls:=.type "list",dict:=none,data:=.seq ([]:List Value).toArray } }:Shared)=s3 at *;have st3':tn 0 s3.heap:=by rw [<- hs3];exact st3
 have lt3':∀ b ∈ fp,b<s3.heap.objs.size:=by rw [<- hs3];exact lt3
 -- the block's frame
 refine qR2 ?_;have keep1:∀ b o,s3.heap.get? b=some o->(pushCells (s3.heap.push { cls:=.type "dict",data:=.dict #[] }) scope.names).get? b=some o:=fun b o e=>pushCells_keeps _ _ b o (A2 _ e);have J0:Inv (qEK X scope own fv ⟨s3.heap.objs.size,cellsFrom (s3.heap.objs.size+1) scope.names (qDP X.env scope.names []),fp,s3,H3⟩) [] (qEV own fv σ) H3 { s3 with heap:=pushCells (s3.heap.push { cls:=.type "dict",data:=.dict #[] }) scope.names }:=qWF I3 S f3 lt3';have cOk:=qbH I3 S f3 lt3';generalize hz:(⟨s3.heap.objs.size,cellsFrom (s3.heap.objs.size+1) scope.names (qDP X.env scope.names []),fp,s3,H3⟩:LcZ)=z at *;have st4:tn 0 (pushCells (s3.heap.push { cls:=.type "dict",data:=.dict #[] }) scope.names):=T.keep _ _ _ st3' fun b _ o e=>keep1 b o e;have fr4:∀ b ∈ fp,H3 b=none:=fun b hb=>(f3 b hb).1;have stat:∀ {H':Hp},(∀ b ∈ fp,H' b=none)->∀ b ∈ fp,FpOk (qEK X scope own fv z) [] H' b:=fun hn b hb=>by
  subst hz;refine ⟨hn b hb,(cOk.exf b hb).1,cOk.exfs b hb,.inl hb,(cOk.exf b hb).2,fun q hq=>absurd (show q ∈ ([]:List (Addr × Obj)) from hq) (by simp)⟩
 have envE:({ newEnv scope s3.heap.objs.size X.env.globals (cellsFrom (s3.heap.objs.size+1) scope.names (qDP X.env scope.names [])) X.env.qual none .none (some X.env) builtinsNs with scope:=relabel scope X.env }:Env)=(qEK X scope own fv z).env:=by
  subst hz
  rfl
 have loop:∀ sA:Shared,sA={ s3 with heap:=pushCells (s3.heap.push { cls:=.type "dict",data:=.dict #[] }) scope.names }->codeAny (model X.prog X.w) X.A (.compLoop (.ListComp elt [⟨tg,iter,ifs,0⟩] scope pos) 0 (.ref it) (.ref p) (qEK X scope own fv z).env)
   (compPost (model X.prog X.w) X.A E use Q (.ref p) s3.heap.objs.size) sA:=by
  rintro sA rfl;refine qIA (fun n s'=>∃ i σ' H',Inv (qEK X scope own fv z) [] σ' H' s'/\tn i s'.heap/\(∀ b ∈ fp,H' b=none)/\W i n σ' H') ?_ m0 ⟨0,_,H3,J0,st4,fr4,w0⟩;rintro n s4 ⟨i,σ4,H4,I4,st4,fr4,w4⟩;rcases turn i n σ4 H4 w4 with ⟨stop,qn⟩ | ⟨go,Nx,hNx,step⟩
  ·refine thn (T.done (qEK X scope own fv z) rfl rfl rfl hc i [] s4 σ4 H4 noX I4 (stat fr4) st4 stop) fun r s5 ⟨hr,I5⟩=>?_;subst hr;subst hz;have I6:Inv X Ab σ H4 s5:=qZI I3 f3 I5;obtain ⟨m,hn,_⟩:=id I5.loc;have fpL:=I3.fpOk (H':=H4) (b:=s3.heap.objs.size) (A5 _) I5.free;refine fin p s3.heap.objs.size H4 s5 m I6 qn hn I3.sz fpL.1 fpL.2.1 fpL.2.2.2.2.1 fpL.2.2.2.2.2
  ·refine thn (T.item (qEK X scope own fv z) rfl rfl rfl hc i [] s4 σ4 H4 noX I4 (stat fr4) st4 go) fun r s5 ⟨u,hr,h5⟩=>?_;subst hr;refine thn h5 fun _ s6 ⟨x,H6,I6,r6,y6,st6,fr6⟩=>?_;have I6':=I6.pinned (stat fr6) (T.obj _ _ st6);have again:∀ {σ7:St} {H7:Hp} {s7:Shared} {m':Nat},m'<n->Inv (qEK X scope own fv z) ([]++qKQ fp s6.heap) σ7 H7 s7->W (i+1) m' σ7 H7->
     ∃ m,m<n/\∃ i σ' H',Inv (qEK X scope own fv z) [] σ' H' s7/\tn i s7.heap/\(∀ b ∈ fp,H' b=none)/\W i m σ' H':=fun {σ7 H7 s7 m'} hm I7 w7=>by
    refine ⟨m',hm,i+1,σ7,H7,I7.unpinned,T.keep _ _ _ st6 fun b hb o e=>(I7.pin (b,o) (F3 _ (F3 _ (qDG hb e)))).1,fun b hb=>?_,w7⟩;obtain ⟨o,e,d⟩:=T.obj _ _ st6 b hb;exact (I7.pin (b,o) (F3 _ (F3 _ (qDG hb e)))).2.1
   refine thn (hg z _ s6 σ4 H6 x u _ I6' r6 (step x H6 y6)) fun _ s7 ⟨σ7,H7,I7,q7⟩=>?_;refine thn (ht z _ s7 σ7 H7 _ I7 q7) fun b s8 ⟨H8,I8,q8⟩=>?_;cases b with
   | false=>
    obtain ⟨m',hm,w8⟩:=hNx _ _ q8;exact again hm I8 w8
   | true=>
    refine thn (he z _ s8 σ7 H8 _ I8 q8) fun v s9 ⟨y,H9,I9,r9,ys,ep,hl,w9⟩=>?_;refine thn (qB6 (X:=qEK X scope own fv z) _ s9 σ7 H9 (.ref p) [y] (.ref p) [v] (fun _ H'=>Nx σ7 H') I9 rfl (.cons r9 .nil) ⟨p,ys,y,rfl,rfl,ep,hl,w9⟩) fun _ s10 ⟨_,H10,I10,_,q10⟩=>?_;obtain ⟨m',hm,w10⟩:=hNx _ _ q10;exact again hm I10 w10
 rw [envE];exact codeAny_compStart_list (loop _ rfl) (T.self _ _ _ _ _ st4 (loop _ rfl))
theorem qcV (hc:X.calm=true) (S:LcScopeO X scope own fv) (hi:PI X tg iter wi) (hg:∀ z,PG (qEK X scope own fv z) tg g) (ht:∀ z,PTs (qEK X scope own fv z) ifs tc) (he:∀ z,PE (qEK X scope own fv z) elt te)
  (hs:∀ x,foldedSetIterable iter X.env x=pure x:=by intro _;rfl):PE X (.ListComp elt [⟨tg,iter,ifs,0⟩] scope pos) (tLc own fv wi g tc te):=by
 intro Ab s σ H Q I h;rw [eval_ListComp];refine qZH (use:=none) (K:=fun p H'=>Q (.ref p) H') hc S hi hg ht he I h (fun _ _ q=>q) (fun p L H' s' m I' q hn h1 h2 h3 h4 h5=>?_) hs;exact ⟨m,hn,fun h' hs'=>⟨.ref p,H',I'.other (n:=0) h1 h2 h3 h4 h5 hs',rfl,q⟩⟩
end
section
variable {prog:Program} {w:World} {A:Around} {R:Result->Shared->Prop} {I:Addr} {fp wr:List Addr} {n:Nat} {P:Nat->Value->Prop} {St:Nat->Heap->Prop}
end
section
variable {prog:Program} {w:World} {A:Around} {E:Value->Shared->Prop} {s:Shared}
end
section
variable {X:Cx}
end
theorem qc6:bootBuiltins "any" = some (.builtin "any"):=by decide +kernel
theorem qQW (bs:List Bool):((C8 bs.length).any fun i=>(bs[i]?).getD false)=bs.any id:=by
 rw [L7,u8,u8]
 constructor
 ·rintro ⟨i,hi,h⟩;have hi':=J1.mp hi;rw [A3 hi'] at h;exact ⟨_,A44 hi',h⟩
 ·rintro ⟨b,hb,h⟩;obtain ⟨i,hi,e⟩:=Y0 hb;exact ⟨i,J1.mpr hi,by rw [A3 hi,e];exact h⟩
section
variable {X:Cx}
theorem qX2 (hc:X.calm=true):qDD X (.builtin "any") (fun xs H Q=>∃ (p:Addr) (bs:List Bool),xs=[.ref p]/\SqL X.K H p (bs.map V.bl)/\Q (.bl (bs.any id)) H):=by
 intro Ab s σ H xs us Q I r h;obtain ⟨p,bs,rfl,hq,q⟩:=h;obtain ⟨u,rfl,rx⟩:=qGH r;cases rx;obtain ⟨its,rv,pl,hz⟩:=I.list hq;have hl:=pl.isList;have hlt:p<s.heap.objs.size:=by obtain ⟨_,e,_⟩:=hl;exact B6 e
 have hlen:=rv.length;rw [A0] at hlen;refine call_any_walk (wpAny_pyIter_list hl ?_);refine ⟨s.heap.objs.size,[s.heap.objs.size,p],[s.heap.objs.size],its.toArray.size,_,_,fun i=>(bs[i]?).getD false,rfl,A32 (A:=X.A.in1) (I.ok.hd hc) _ p (E6 hlt) its.toArray,
  ⟨⟨_,B9 _ rfl,rfl,rfl⟩,hl.push _⟩,fun i v s' Q' E' hP hQ=>?_,fun h' tk hk=>?_⟩
 ·have hP':its[i]?=some v:=by simpa using hP
  have hi:i<bs.length:=by rw [hlen];exact (A1.mp hP').1
  obtain ⟨u,hu,ru⟩:=rv.get (i:=i) (x:=.bl bs[i]) (by rw [B5,A3 hi];rfl)
  rw [hP'] at hu;cases hu;cases ru;dsimp only at hQ;rw [A3 hi,U5] at hQ;exact wpAny_truthy_bool hQ
 ·have e:((C8 its.toArray.size).any fun i=>(bs[i]?).getD false)=bs.any id:=by
   rw [C6,<- hlen];exact qQW bs
  refine ⟨.bl (bs.any id),H,I.kept fun b x e=>hk b x (fun hm=>by rw [A6.mp hm] at e;exact O6 _ (B6 e)) (A2 _ e),?_,q⟩
  rw [e]
  rfl
theorem qUP {K:PySem.W.Frag} (hK:X.K=K) (hc:X.calm=true):qDD X (.builtin "any") (fun xs H Q=>∃ (p:Addr) (bs:List Bool),xs=[.ref p]/\SqL K H p (bs.map V.bl)/\Q (.bl (bs.any id)) H):=by subst hK;exact qX2 hc
end
section
variable {prog:Program} {w:World} {A:Around} {E:Value->Shared->Prop} {s:Shared}
end
section
variable {X:Cx}
def qdC (H:Hp) (a:Addr) (xs:List V):Prop:=∃ o:Obj,H a=some (.frz o (.tup xs))/\o.cls=.type "tuple"/\o.dict=none
end
end L2
namespace HT
open PySem PySem.Spec PyProof.Rows
section
variable {prog:Program} {w:World} {A:Around} {E:Value->Shared->Prop} {s:Shared}
end
end HT
namespace L2
open PySem PySem.Spec PyProof.Rows
section
variable {X:Cx}
end
section
variable {A:Around} {s:Shared}
end
section
variable {X:Cx}
end
section
variable {X:Cx} {e:Expr} {te:TE} {st:Option Expr} {tst:TO} {pos p2:Pos}
end
section
variable {X:Cx}
theorem qT4 {X:Cx} {Ab:List (Addr × Obj)} {σ:St} {H:Hp} {s:Shared} (I:Inv X Ab σ H s) {a:Addr} {x y:V} (h:SqT X.K H a [x,y]):∃ u v,RelV x u/\RelV y v/\IsTup s.heap a #[u,v]:=by
 obtain ⟨us,r1,p1,z1⟩:=I.tuple h;cases r1 with
 | cons c1 t1=>
  cases t1 with
  | cons c2 t2=>cases t2;exact ⟨_,_,c1,c2,p1⟩
end
section
variable {prog:Program} {w:World} {A:Around} {E:Value->Shared->Prop} {s:Shared}
end
section
variable {X:Cx}
theorem qJ8:∀ (as:List Addr),Vals (as.map V.ref) (as.map D8)
 | []=>.nil
 | _::as=>.cons rfl (qJ8 as)
end
section
variable {prog:Program} {w:World} {A:Around} {R:Result->Shared->Prop} {h:Heap} {g:Array GenState} {d:Drawn} {t:Nat} {os:OsState} {K:PySem.W.Frag} {C fI:Addr} {rest:List Value}
end
section
variable {X:Cx}
def TB:Type:=(St->XK)->TS
end
section
variable {prog:Program} {w:World} {A:Around} {E:Value->Shared->Prop} {s:Shared}
end
section
variable {X:Cx} {pos:Pos}
end
section
variable {X:Cx} {tg:Expr}
def tFrz (t:TE):TE:=fun σ H Q=>t σ H fun v H1=>∃ d Ah,v=.ref d/\H1 d=some (.dK Ah)/\∀ o,Q v (Ai H1 d (.frz o (.dK Ah)))
theorem Inv.freeze {Ab:List (Addr × Obj)} {σ:St} {H:Hp} {s:Shared} {d:Addr} {Ah:List (Key × V)} (I:Inv X Ab σ H s) (h:H d=some (.dK Ah)):∃ o,Inv X Ab σ (Ai H d (.frz o (.dK Ah))) s:=by
 have ok:=I.hok d _ h;obtain ⟨hz,hd,vs,rel,o,es,ep,ho,r⟩:=id ok;refine ⟨o,?_⟩;have:=I.write (h':=s.heap) (t':=s.toks) (x:=d) (e:=d) (o:=.frz o (.dK Ah)) (by rw [h];trivial) (.inl rfl) (fun b u _ q=>q) ⟨o,ho⟩ ⟨ho,ok⟩
 exact this
theorem qb7 {e:Expr} {t:TE} (he:PE X e t):PE X e (tFrz t):=by
 intro Ab s σ H Q I h;refine thn (he Ab s σ H _ I h) fun v s1 ⟨x,H1,I1,r1,d,Ah,e,hd,q⟩=>?_;obtain ⟨o,I2⟩:=I1.freeze hd;exact ⟨x,_,I2,r1,q o⟩
def Itk (a:Addr) (o:Obj) (Ah:List (Key × V)):It:=
 ⟨fun i H=>i<Ah.length/\H a=some (.frz o (.dK Ah)),fun i H x H'=>H'=H/\∃ k v,Ah[i]?=some (k,v)/\x=kV k,fun i H=>Ah.length<=i/\H a=some (.frz o (.dK Ah))⟩
theorem qVN {k:Key} {v:Value} (h:qP0 k v=true):RelV (kV k) v:=by
 rcases qBQ h with ⟨i,t,rfl,rfl⟩ | ⟨x,t,rfl,rfl⟩
 ·exact ⟨t,rfl⟩
 ·exact ⟨t,rfl⟩
theorem Inv.heldD {Ab:List (Addr × Obj)} {σ:St} {H:Hp} {s:Shared} {d:Addr} {o:Obj} {Ah:List (Key × V)} (I:Inv X Ab σ H s) (h:H d=some (.frz o (.dK Ah))):s.heap.get? d=some o/\(d == sysModules)=false/\∃ vs ep,KV Ah vs/\s.heap.DictAt (qBP X.prog X.w) d vs ep/\(∃ es,o.data=.dict es ep):=by
 obtain ⟨ho,hz,hd,vs,rel,dd⟩:=(show ObjOk X.prog X.w H s.heap d (.frz o (.dK Ah)) from I.hok d _ h);obtain ⟨ep,da⟩:=dd.dictAt;obtain ⟨o',es,ho',hc,hdat,r⟩:=id da;rw [ho] at ho';cases ho';exact ⟨ho,hd,vs,ep,rel,da,es,hdat⟩
theorem qQT {P:Program} {w:World} {K:PySem.W.Frag} {tg:Expr} (a it:Addr) (o:Obj) (Ah:List (Key × V)) (ep:Nat) (es:_) (ho:o.data=.dict es ep):Turn P w K tg (Itk a o Ah) [it] it (fun i h=>h.IsKeyIter it a i Ah.length ep) where
 mem:=by simp
 obj:=fun i h st b hb=>by
  have e:b=it:=by simpa using hb
  subst e;obtain ⟨o,e,c,d⟩:=st;exact ⟨o,e,fun v z=>by rw [d] at z;cases z⟩
 keep:=fun i h h' st k=>st.at fun o e=>k it (by simp) o e
 item:=by
  intro X hP hw hK hc i Ab s σ H E I hf st hg;subst hP hw hK;obtain ⟨hi,hq⟩:=hg;obtain ⟨e1,e2,vs,ep',rel,da,es',e3⟩:=I.heldD hq;rw [ho] at e3;cases e3;obtain ⟨f0,f1,f2,f3,f4,f5⟩:=hf it (by simp)
  have lv:vs.length=Ah.length:=rel.length.symm;rw [<- lv] at st;obtain ⟨⟨k,x⟩,hx⟩:∃ p,vs[i]?=some p:=⟨vs[i]'(by omega),A3 (by omega)⟩
  obtain ⟨⟨k',v'⟩,hx'⟩:∃ p,Ah[i]?=some p:=⟨Ah[i],A3 hi⟩;have ek:k'=k:=by
   have h1:(Ah.map (·.1))[i]?=some k':=by rw [B5,hx'];rfl
   have h2:(vs.map (·.1))[i]?=some k:=by rw [B5,hx];rfl
   rw [rel.keys,h2] at h1;cases h1
   rfl
  refine wpAny_pyNext_dict_item st da hx fun key h' hkey hit' hs'=>?_;have I1:Inv X Ab σ H { s with heap:=h' }:=I.turned (t':=s.toks) (fun b o hb e=>(hs'.2 b hb).trans e) f0 f1 f3 f4 f5;rw [lv] at hit';obtain ⟨oi,ei,c,d⟩:=id hit';exact ⟨key,rfl,qRF (s:={ s with heap:=h' }) ei c d (by decide) ⟨kV k,H,I1,qVN hkey,⟨rfl,k',v',hx',by rw [ek]⟩,hit',fun b hb=>(hf b hb).1⟩⟩
 done:=by
  intro X hP hw hK hc i Ab s σ H E I hf st hg;subst hP hw hK;obtain ⟨hi,hq⟩:=hg;obtain ⟨e1,e2,vs,ep',rel,da,es',e3⟩:=I.heldD hq;rw [ho] at e3;cases e3;obtain ⟨f0,f1,f2,f3,f4,f5⟩:=hf it (by simp)
  have lv:vs.length=Ah.length:=rel.length.symm;rw [<- lv] at st;exact wpAny_pyNext_dict_end (I.ok.hd hc) st da (by simp;omega) fun h' eb=>⟨rfl,I.turned (t':=s.toks) (fun b o hb e=>eb b o hb e) f0 f1 f3 f4 f5⟩
 self:=fun _ _ _ _ _ st h=>wpAny_pyIter_keyiter st h
def qbY (tl:TE):TI:=fun σ H R=>tl σ H fun x H1=>∃ a o Ah,x=.ref a/\H1 a=some (.frz o (.dK Ah))/\R (Itk a o Ah) H1
theorem qVX {l:Expr} {tl:TE} (hl:PE X l tl):PI X tg l (qbY tl):=by
 intro Ab s σ H R I h;refine thn (hl Ab s σ H _ I h) fun v s1 ⟨x,H1,I1,r1,q1⟩=>?_;obtain ⟨a,o,Ah,e,hq,q⟩:=q1;subst e;cases r1;obtain ⟨e1,e2,vs,ep,rel,da,es,e3⟩:=I1.heldD hq;have lv:vs.length=Ah.length:=rel.length.symm;refine wpAny_pyIter_dict e2 da ?_;refine ⟨s1.heap.objs.size,[s1.heap.objs.size],_,_,H1,rfl,I1.kept (t':=s1.toks) fun b o e=>A2 _ e,qQT a _ o Ah ep es e3,⟨_,B9 _ rfl,rfl,by rw [lv];rfl⟩,fun b hb=>?_,q⟩
 have e:b=s1.heap.objs.size:=by simpa using hb
 subst e;exact I1.fpOk (A5 _) (I1.hok.fresh (A5 _))
end
theorem qWH {a:Addr} {o:Obj} {Ah:List (Key × V)} {g:TG} {tc:TT} {te:TE} {Kf:Hp->Prop} {σ0:St} {H0:Hp} {p:Addr} (Pv:Nat->St->Hp->Prop) (h0:Pv 0 σ0 H0) (hl:∀ i σ H,i<=Ah.length->Pv i σ H->H a=some (.frz o (.dK Ah)))
  (hs:∀ i k v σ H,Ah[i]?=some (k,v)->Pv i σ H->g (kV k) σ H fun σ2 H2=>tc σ2 H2 fun b H3=>if b=true then te σ2 H3 fun y H4=>∃ ys,H4 p=some (.lst ys)/\ys.length<sizeLine/\Pv (i+1) σ2 (Ai H4 p (.lst (ys++[y]))) else Pv (i+1) σ2 H3)
  (hd:∀ σ H,Pv Ah.length σ H->Kf H) :
  ∃ W:Nat->Nat->St->Hp->Prop,(∃ m,W 0 m σ0 H0)/\∀ i m σ H,W i m σ H->
   ((Itk a o Ah).stop i H/\Kf H)\/((Itk a o Ah).go i H/\∃ N:St->Hp->Prop,(∀ σ' H',N σ' H'->∃ m',m'<m/\W (i+1) m' σ' H')/\∀ x H',(Itk a o Ah).yld i H x H'->g x σ H' fun σ2 H2=>tc σ2 H2 fun b H3=>
    if b=true then te σ2 H3 fun y H4=>∃ ys,H4 p=some (.lst ys)/\ys.length<sizeLine/\N σ2 (Ai H4 p (.lst (ys++[y]))) else N σ2 H3):=by
 refine ⟨fun i m σ H=>m=Ah.length - i/\i<=Ah.length/\Pv i σ H,⟨Ah.length,by simp,E8 _,h0⟩,?_⟩
 rintro i m σ H ⟨rfl,hi,q⟩;have hq:=hl i σ H hi q;by_cases hlt:i<Ah.length
 ·refine .inr ⟨⟨hlt,hq⟩,Pv (i+1),fun σ' H' p'=>⟨Ah.length - (i+1),by omega,rfl,hlt,p'⟩,fun x H' y=>?_⟩
  obtain ⟨e,k,v,e2,e3⟩:=y;subst e e3;exact hs i k v σ _ e2 q
 ·have e:i=Ah.length:=by omega
  subst e;exact .inl ⟨⟨A5 _,hq⟩,hd σ H q⟩
section
variable {prog:Program} {w:World} {A:Around} {E:Value->Shared->Prop} {s:Shared} {it d:Addr} {i n ep:Nat} {od:Obj} {es:Array DictEntry}
end
section
variable {X:Cx} {tg:Expr}
end
section
variable {X:Cx} {k v:Expr} {tk tv:TE} {pos:Pos}
end
section
variable {X:Cx} {Ab:List (Addr × Obj)} {σ:St} {H:Hp} {s:Shared}
structure LmScope (X:Cx) (scope:Scope) (p:Str) (fv:List Nat):Prop where
 kind:scope.kind=.function
 co:scope.isCoroutine=false
 gen:scope.isGenerator=false
 nocell:∀ y ∈ scope.names,y.2 ≠ .cell
 par:scope.names.lookup p=some .local
 free:∀ y ∈ scope.names,y.2=.free->X.env.kindOf y.1=some .cell\/X.env.kindOf y.1=some .free
 fvs:∀ i ∈ fv,i<X.N.length/\scope.names.lookup (X.N.getD i Q3)=some .free
structure LmZ where
 A:Around
 f:Addr
 cd:Value
 s₀:Shared
 H₀:Hp
 rm:Room 0 A
def qZJ (fv:List Nat) (σ:St) (x:V):St:=some x::fv.map fun i=>(σ[i]?).join
end
abbrev Sm0 (H H':Hp):Prop:=∀ b o,H b=some o->H' b=some o
section
variable {X:Cx}
structure KCmp (X:Cx) (KR:Hp->V->List Int->Prop):Prop where
 mono:∀ H H' y k,Sm0 H H'->KR H y k->KR H' y k
 cmp:∀ (Ab:List (Addr × Obj)) (σ:St) (s:Shared) (H:Hp) (y y':V) (u u':Value) (k k':List Int) (Q:Value->Shared->Prop) (E:Value->Shared->Prop),Inv X Ab σ H s->RelV y u->RelV y' u'->KR H y k->KR H y' k'->Q (.bool (HT.lexLt k k')) s->
  wpAny (model X.prog X.w) X.A.in1 (richCompare .Lt u u') Q E s
structure KeyAt (X:Cx) (σ:St) (fv:List Nat) (te:TE) (KR:Hp->V->List Int->Prop) (H0:Hp) (xs:List V) (ks:List (List Int)):Prop where
 len:ks.length=xs.length
 key:∀ (i:Nat) (x:V) (k:List Int),xs[i]?=some x->ks[i]?=some k->∀ Hc,Sm0 H0 Hc->te (qZJ fv σ x) Hc fun y H'=>Sm0 Hc H'/\KR H' y k
section
variable {Ab:List (Addr × Obj)} {σ:St} {params:Arguments} {body:Expr} {scope:Scope} {p:Str} {fv:List Nat} {q:Str} {te:TE} {KR:Hp->V->List Int->Prop} {l f cc:Addr} {ctv:Value} {H0:Hp} {xs:List V} {ks:List (List Int)} {Q:VK}
end
end
def qTG (scope:Scope) (p:Str) (fv:List Nat) (osc:Scope) (N:List Str):Bool:=
 decide (scope.kind=.function) && decide (scope.isCoroutine=false) && decide (scope.isGenerator=false) && scope.names.all (fun y=>decide (y.2 ≠ .cell)) && decide (scope.names.lookup p=some .local) &&
 scope.names.all (fun y=>decide (y.2 ≠ .free) || (decide (osc.names.lookup y.1=some .cell) || decide (osc.names.lookup y.1=some .free))) && fv.all fun i=>decide (i<N.length) && decide (scope.names.lookup (N.getD i Q3)=some .free)
theorem lms {X:Cx} {scope:Scope} {p:Str} {fv:List Nat} (h:qTG scope p fv X.env.scope X.N=true):LmScope X scope p fv:=by
 unfold qTG at h;simp only [E1,decide_eq_true_eq,G9,M8] at h;obtain ⟨⟨⟨⟨⟨⟨h1,h2⟩,h3⟩,h4⟩,h5⟩,h6⟩,h7⟩:=h;refine ⟨h1,h2,h3,h4,h5,fun y hy hf=>?_,h7⟩;rcases h6 y hy with z | z
 ·exact absurd hf z
 ·exact z
structure LTab where
 x:Str
 c:Addr
 P:Addr
 q:Str
section
variable {prog:Program} {w:World} {A:Around} {E:Value->Shared->Prop} {s:Shared}
end
section
variable {X:Cx}
end
section
open PySem.SeqAt
open PySem.AutoSeq1 (wpAny_loadPart')
open PySem.MeetsSeq PySem.MeetsSeq2 PySem.MeetsSeq3
end
section
variable {X:Cx}
end
end L2
namespace L2.GS
open PySem PySem.Spec PyProof.Rows
section
variable [NM]
variable {prog:Program} {w:World} {A:Around} {E:Value->Shared->Prop} {s:Shared}
theorem qHR {vs:List Value}:∀ p ∈ (pairsOf vs).toList,p.1=p.2:=by
 intro p hp;unfold pairsOf at hp;rw [A46] at hp
 induction vs with
 | nil=>cases hp
 | cons v vs ih=>
  rcases B7.mp hp with h | h
  ·rw [h]
  ·exact ih h
theorem qNB (vs:List Value):(pairsOf vs).toList.map (·.2)=vs:=by
 unfold pairsOf;rw [A46,List.map_snd_zip (by simp)]
theorem qSY {vs:List Value} {xs:Array Keyed} (px:xs.Perm (pairsOf vs)) (sx:qH6 xs (pairsOf vs).size):(xs.map (·.2)).toList.Perm vs/\(xs.map (·.2)).toList.Pairwise (fun u v=>NM.nm u<=NM.nm v):=by
 have p2:=j4.mp px
 constructor
 ·have:=p2.map (·.2);rw [qNB] at this;rw [A47];exact this
 ·rw [A47,V7,J6];intro i j hi hj hij;have hs:=px.size_eq;have hi2:i<xs.size:=by simpa using hi
  have hj2:j<xs.size:=by simpa using hj
  have a:=sx i j (R4 hij) (by omega)
  rw [qbZ hi2,qbZ hj2] at a;have ei:=qHR _ (p2.mem_iff.mp (show xs[i] ∈ xs.toList by simp))
  have ej:=qHR _ (p2.mem_iff.mp (show xs[j] ∈ xs.toList by simp))
  rw [ei,ej] at a;simpa using a
theorem qPU {κ0:SortKind} {a:Addr} {vs:List Value} {n:Nat} {P:Fin->Shared->Prop} (e0:s.heap.get? a=some (seqObj "list" vs.toArray n)) (hs:vs.length<64) (hz:vs.length<=sizeLine) (gd:∀ v ∈ vs,NM.good v)
  (hk:∀ h':Heap,(∀ (b:Addr) (o:Obj),b ≠ a->s.heap.get? b=some o->h'.get? b=some o)->2<=vs.length->(∀ {Q:SortKind->Shared->Prop},Q κ0 { s with heap:=h' }->wpAny (model prog w) A (keyKind' vs.toArray) Q E { s with heap:=h' })/\LtOk prog w A { s with heap:=h' } κ0)
  (h:∀ (out:Array Value),out.toList.Perm vs->out.toList.Pairwise (fun u v=>NM.nm u<=NM.nm v)->P (.done (.ret .none)) { s with heap:=sortedHeap s.heap a vs out }):wpAny (model prog w) A (Builtin.«list.sort» ⟨[.ref a],[]⟩) P E s:=by
 have la:=B6 e0;have z0:vs.toArray.size<=sizeLine:=by simpa using hz
 rw [list_sort_plain];refine wpAny_bind (listItems_at e0 rfl (wpAny_bind (listUpdate_at e0 rfl ?_ z0 (E8 _))));have e1:∃ k,(s.heap.update a (Y4 fun _=>#[])).get? a=some (seqObj "list" #[] k):=⟨_,get?_update_seq e0 fun _=>#[]⟩;obtain ⟨k,e1⟩:=e1;refine wpAny_bind (seqEpoch_at e1 rfl (wpAny_bind (wpAny_newTuple ?_ (by simpa using hz))))
 refine wpAny_bind (wpAny_newList (wpAny_holding ?_));have e2:(((s.heap.update a (Y4 fun _=>#[])).push (seqObj "tuple" vs.toArray 0)).push (seqObj "list" #[] 0)).get? a=some (seqObj "list" #[] k):=by
  rw [A34,A34]
  ·exact e1
  ·rw [A48];exact E6 la
  ·rw [size_push',A48];exact E6 (P8 la)
 have kept:∀ (b:Addr) (o:Obj),b ≠ a->s.heap.get? b=some o->(((s.heap.update a (Y4 fun _=>#[])).push (seqObj "tuple" vs.toArray 0)).push (seqObj "list" #[] 0)).get? b=some o:=fun b o hb q=>
  A2 _ (A2 _ ((Heap.get?_update_ne _ _ _ _ hb).trans q))
 have last:∀ xs:Array Keyed,xs.Perm (pairsOf vs)->qH6 xs (pairsOf vs).size->P (.done (.ret .none)) { s with heap:=sortedHeap s.heap a vs (xs.map (·.2)) }:=by
  intro xs px sx;obtain ⟨q1,q2⟩:=qSY px sx;exact h _ q1 q2
 have sz:∀ xs:Array Keyed,xs.Perm (pairsOf vs)->(xs.map (·.2)).size<=sizeLine+1:=by
  intro xs px;rw [Array.size_map,px.size_eq,pairsOf_size];omega
 show wpAny _ A _ P E { s with heap:=((s.heap.update a (Y4 fun _=>#[])).push (seqObj "tuple" vs.toArray 0)).push (seqObj "list" #[] 0) };dsimp only;by_cases few:vs.toArray.size<2
 ·simp only [if_pos few];refine wpAny_bind (wpAny_pure ?_);rw [StateT.run_pure];refine wpAny_bind (wpAny_pure (wpAny_bind (seqEpoch_at e2 rfl (wpAny_bind (listUpdate_at e2 rfl ?_ (E8 _) (sz (pairsOf vs) (.refl _)))))));simp only [bne_self_eq_false,L5,if_false];refine wpAny_pure (last (pairsOf vs) (.refl _) fun i j hij hj=>?_);rw [pairsOf_size] at hj;rw [C6] at few;rw [show i=j by omega]
  exact U1 _
 ·simp only [if_neg few];rw [C6] at few;obtain ⟨hk1,hk2⟩:=hk _ kept (by omega)
  have ik:qCX (pairsOf vs):=fun p hp=>by
   have m:=List.mem_map_of_mem (f:=(·.2)) hp;rw [qNB] at m;rw [qHR p hp];exact gd _ m
  refine wpAny_bind (hk1 (wpAny_bind (wpAny_mono (qTV (κ0:=κ0) (a₀:=pairsOf vs) (Q:=fun _ st2=>gSG κ0 (pairsOf vs) st2/\qH6 (arrOf st2) (pairsOf vs).size) (by simpa [pairsOf] using hs) ik ⟨.refl _,rfl,rfl⟩ rfl fun st2 g u=>⟨g,u⟩) ?_ fun _ _ x=>x)))
  rintro ⟨_,st2⟩ s2 ⟨es,g,u⟩;cases (show s2=_ from es);refine wpAny_bind (seqEpoch_at e2 rfl (wpAny_bind (listUpdate_at e2 rfl ?_ (E8 _) (sz _ g.perm))));dsimp only;rw [g.failed];simp only [bne_self_eq_false,L5,if_false];exact wpAny_pure (last _ g.perm u)
end
theorem qKW:∀ a:List Int,HT.lexLt a a=false
 | []=>rfl
 | x::a=>by rw [HT.lexLt_cons,if_pos rfl];exact qKW a
theorem qJU:∀ a b c:List Int,HT.lexLt a b=true->HT.lexLt b c=true->HT.lexLt a c=true
 | [],[],_,h,_=>by cases h
 | [],_::_,[],_,h=>by cases h
 | [],_::_,_::_,_,_=>rfl
 | _::_,[],_,h,_=>by cases h
 | _::_,_::_,[],_,h=>by cases h
 | x::a,y::b,z::c,h1,h2=>by
  rw [HT.lexLt_cons] at h1 h2 ⊢;by_cases e1:x=y
  ·subst e1;rw [if_pos rfl] at h1;by_cases e2:x=z
   ·rw [if_pos e2] at h2 ⊢;exact qJU a b c h1 h2
   ·rw [if_neg e2] at h2 ⊢;exact h2
  ·rw [if_neg e1] at h1;have h1:=of_decide_eq_true h1;by_cases e2:y=z
   ·subst e2;rw [if_neg e1];exact decide_eq_true h1
   ·rw [if_neg e2] at h2;have h2:=of_decide_eq_true h2;rw [if_neg (by omega)]
    exact decide_eq_true (by omega)
theorem qNK:∀ a b:List Int,HT.lexLt a b=false->HT.lexLt b a=false->a=b
 | [],[],_,_=>rfl
 | [],_::_,h,_=>by cases h
 | _::_,[],_,h=>by cases h
 | x::a,y::b,h1,h2=>by
  rw [HT.lexLt_cons] at h1 h2;by_cases e:x=y
  ·subst e;rw [if_pos rfl] at h1 h2;rw [qNK a b h1 h2]
  ·rw [if_neg e] at h1;rw [if_neg (fun z=>e z.symm)] at h2;have:=of_decide_eq_false h1;have:=of_decide_eq_false h2;omega
def qIG (L:List (List Int)) (a:List Int):Int:=(((L.filter fun x=>HT.lexLt x a).length:Nat):Int)
theorem qH0 {α:Type} {p q:α->Bool}:∀ {L:List α},(∀ x ∈ L,p x=true->q x=true)->(∃ x ∈ L,p x=false/\q x=true)->(L.filter p).length<(L.filter q).length
 | [],_,⟨x,hx,_⟩=>nomatch hx
 | y::L,h,⟨x,hx,h1,h2⟩=>by
  have le:∀ {M:List α},(∀ x ∈ M,p x=true->q x=true)->(M.filter p).length<=(M.filter q).length:=by
   intro M hM
   induction M with
   | nil=>exact A5 _
   | cons z M ih=>
    have i:=ih fun x hx=>hM x (A7 _ hx);rw [L0,L0];cases ep:p z
    ·cases q z
     ·simpa using i
     ·simp;omega
    ·rw [hM z (by simp) ep]
     simpa using i
  rw [L0,L0];rcases B7.mp hx with e | e
  ·subst e;have:=le fun x hx=>h x (A7 _ hx);rw [h1,h2];simp;omega
  ·have i:=qH0 (fun x hx=>h x (A7 _ hx)) ⟨x,e,h1,h2⟩;cases ep:p y
   ·cases q y
    ·simpa using i
    ·simp;omega
   ·rw [h y (by simp) ep]
    simpa using i
theorem qSK {L:List (List Int)} {a b:List Int} (ha:a ∈ L) (h:HT.lexLt a b=true):qIG L a<qIG L b:=by
 unfold qIG;have:=qH0 (p:=fun x=>HT.lexLt x a) (q:=fun x=>HT.lexLt x b) (L:=L) (fun x _ hx=>qJU _ _ _ hx h) ⟨a,ha,qKW a,h⟩;omega
theorem qPY {L:List (List Int)} {a b:List Int} (ha:a ∈ L) (hb:b ∈ L):decide (qIG L a<qIG L b)=HT.lexLt a b:=by
 cases h:HT.lexLt a b with
 | true=>exact decide_eq_true (qSK ha h)
 | false=>
  refine decide_eq_false fun z=>?_;cases h2:HT.lexLt b a with
  | true=>have:=qSK hb h2;omega
  | false=>rw [qNK a b h h2] at z;omega
def qWK (xs:List V):List Int:=xs.map fun | .int i=>i | _=>0
theorem qTT (t:List Int):qWK (t.map V.int)=t:=by
 unfold qWK;rw [k7];exact (i6 fun x _=>rfl).trans (List.map_id _)
def keyH (H:Hp):Value->List Int
 | .ref r=>match H r with
  | some (.tup xs)=>qWK xs
  | _=>[]
 | _=>[]
@[reducible] def tupNM (H:Hp) (L:List (List Int)):NM:=⟨fun v=>qIG L (keyH H v),fun v=>∃ r t,v=.ref r/\H r=some (.tup (t.map V.int))/\t ∈ L⟩
theorem qLW {H:Hp} {r:Addr} {t:List Int} (h:H r=some (.tup (t.map V.int))):keyH H (.ref r)=t:=by
 show (match H r with | some (.tup xs)=>qWK xs | _=>[])=t
 rw [h];exact qTT t
section
variable {prog:Program} {w:World} {A:Around} {E:Value->Shared->Prop} {s:Shared}
theorem qT2 {x y:Addr} {xs ys:Array Value} {ns ms:List Int} {Q:Bool->Shared->Prop} (hu:A.units<cLine) (hx:IsTup s.heap x xs) (hy:IsTup s.heap y ys) (ix:IntsAre xs.toList ns) (iy:IntsAre ys.toList ms) (h:Q (HT.lexLt ns ms) s):wpAny (model prog w) A (oneLt' true (.ref x) (.ref y)) Q E s:=by
 rw [oneLt'_eq];simp only [if_true];obtain ⟨⟨cls,dd,data,sl⟩,ho,hc,n,hd⟩:=id hx;obtain ⟨⟨cls2,dd2,data2,sl2⟩,ho2,hc2,n2,hd2⟩:=id hy;simp only at hc hd hc2 hd2;subst hc hd hc2 hd2;refine wpAny_bind (wpAny_cRoomFor hu ?_);refine wpAny_bind (wpAny_callSpecialIfBound?_slot ⟨_,ho,rfl⟩ z8 (call_meets z8 ⟨_,ho,rfl⟩ PySem.F.entry_tuple_lt (PySem.F.args_tuple_lt_2 _ _) (HT.tuple_lt_ints x y xs ys n n2 dd dd2 sl sl2 ns ms ix iy) ⟨ho,ho2,?_⟩));exact wpAny_truthy_bool h
theorem qJV {b:Bool} {Q:Bool->Shared->Prop}:∀ {vs ws:List Value} {ns ms:List Int} {i:Nat} {fin:Bool},IntsAre vs ns->IntsAre ws ms->
  (fin=decide (vs.length<ws.length))->Q (HT.lexLt ns ms) s->PySem.W.KatLex prog w A b fin Q (vs.zip ws) i s
 | _,_,_,_,i,fin,.nil,.nil,ef,h=>by
  rw [ef];exact z9 h
 | _,_,_,_,i,fin,.nil,.cons _ _ _,ef,h=>by
  rw [ef];exact z9 h
 | _,_,_,_,i,fin,.cons _ _ _,.nil,ef,h=>by
  rw [ef];exact z9 h
 | _,_,_,_,i,fin,.cons (vs:=vs) (ns:=ns) x t hv,.cons (vs:=ws) (ns:=ms) y u hw,ef,h=>by
  rw [j7];refine PySem.W.kat_cons (wpAny_eqBool_int ?_);rw [HT.lexLt_cons] at h;by_cases e:x=y
  ·rw [if_pos e] at h;rw [beq_iff_eq.mpr e];refine PySem.W.kat_yes (qJV hv hw ?_ h);rw [ef];simp
  ·rw [if_neg e] at h;rw [beq_eq_false_iff_ne.mpr e];refine PySem.W.kat_no ?_;cases eb:(b && i == 0) with
   | true=>exact oneLt_int h
   | false=>exact PySem.W.kat_one _ _ (lt_int h)
theorem qRC {x y:Addr} {xs ys:Array Value} {ns ms:List Int} {b:Bool} {Q:Bool->Shared->Prop} (hx:IsTup s.heap x xs) (hy:IsTup s.heap y ys) (ix:IntsAre xs.toList ns) (iy:IntsAre ys.toList ms) (h:Q (HT.lexLt ns ms) s):wpAny (model prog w) A (keyLt' (tuples' b) (.ref x) (.ref y)) Q E s:=by
 obtain ⟨o,ho,hc,n,hd⟩:=id hx;obtain ⟨o2,ho2,hc2,n2,hd2⟩:=id hy;refine PySem.W.kat_lt ho hd ho2 hd2 (qJV ix iy ?_ h);simp
theorem qTK {rs:List Addr} {ts:List (List Int)} {Q:SortKind->Shared->Prop} (h:Paired (fun (r:Addr) (t:List Int)=>∃ xs:Array Value,IsTup s.heap r xs/\IntsAre xs.toList t) rs ts) (hne:∀ t ∈ ts,t ≠ []) (h2:2<=rs.length)
  (q:Q (tuples' true) s):wpAny (model prog w) A (keyKind' (rs.map D8).toArray) Q E s:=by
 have tu:∃ fs,PySem.W.KatTups s.heap (rs.map D8) fs/\fs.length=rs.length/\∀ v ∈ fs,∃ n t,v=.int n t:=by
  clear h2
  induction h with
  | nil=>exact ⟨[],trivial,rfl,fun _ z=>nomatch z⟩
  | @cons r t l1 l2 a _ ih=>
   obtain ⟨fs,k1,k2,k3⟩:=ih fun t ht=>hne t (A7 _ ht);obtain ⟨xs,⟨o,ho,hc,n,hd⟩,ia⟩:=a;have ht:t ≠ []:=hne t (by simp)
   obtain ⟨xs⟩:=xs;cases ia with
   | nil=>exact absurd rfl ht
   | cons x tk rest=>
    refine ⟨.int x tk::fs,.cons ho hc hd rfl k1,by simp [k2],fun v hv=>?_⟩
    rcases B7.mp hv with e | e
    ·exact ⟨x,tk,e⟩
    ·exact k3 v e
 obtain ⟨fs,k1,k2,k3⟩:=tu;refine PySem.W.kat_kind (T:=.type "int") k1 (by omega) (fun v hv=>?_) rfl ?_
 ·obtain ⟨n,t,rfl⟩:=k3 v hv;exact .now
 ·exact q
theorem qKZ:∀ (rs:List Addr) {Q:List (Option Value)->Shared->Prop},(∀ r ∈ rs,∃ xs:Array Value,IsTup s.heap r xs)->(∀ L,Q L s)->wpAny (model prog w) A ((rs.map D8).mapM firstOfTuple') Q E s
 | [],_,_,h=>by rw [j8,List.mapM_nil];exact wpAny_pure (h _)
 | r::rs,Q,t,h=>by
  obtain ⟨xs,o,ho,hc,n,hd⟩:=t r (by simp)
  rw [D7,A60];refine wpAny_bind ?_;rw [A00];refine wpAny_bind (k8 (show PySem.W.Looks (model prog w) s.heap (typeOf (.ref r)) o.cls from (u9 ho).andThen .now) ?_);rw [hc,if_neg (by first | decide | simp)]
  refine wpAny_bind (listItems_at ho hd (wpAny_pure ?_));exact wpAny_bind (qKZ rs (Q:=fun bs s'=>wpAny (model prog w) A (pure (xs[0]?::bs)) Q E s') (fun r hr=>t r (A7 _ hr)) fun L=>wpAny_pure (h _))
theorem qRB {r0:Addr} {rs:List Addr} {Q:SortKind->Shared->Prop} (h0:IsTup s.heap r0 #[]) (h:∀ r ∈ rs,∃ xs:Array Value,IsTup s.heap r xs)
  (q:Q oneType' s):wpAny (model prog w) A (keyKind' ((r0::rs).map D8).toArray) Q E s:=by
 rw [kat_kind_eq,A35,map_eq_pure_bind,D7,A60];obtain ⟨o,ho,hc,n,hd⟩:=id h0;refine wpAny_bind (wpAny_bind (wpAny_bind ?_));rw [A00];refine wpAny_bind (k8 (show PySem.W.Looks (model prog w) s.heap (typeOf (.ref r0)) o.cls from (u9 ho).andThen .now) ?_);rw [hc,if_neg (by first | decide | simp)]
 refine wpAny_bind (listItems_at ho hd (wpAny_pure ?_));refine wpAny_bind (qKZ rs h fun L=>wpAny_pure (wpAny_pure ?_));have e1:((((#[]:Array Value)[0]?)::L).toArray.all fun x=>x.isSome)=false:=by simp
 have e2:((((((#[]:Array Value)[0]?)::L).toArray)[0]?).bind id).isSome=false:=by simp
 rw [if_neg (by rw [e1];exact C2),if_neg (by rw [e2];exact C2)]
 rw [oneTypeOnly'_eq,A35,map_eq_pure_bind];refine wpAny_bind (wpAny_bind (wpAny_bind (PySem.W.kas_mapM (r:=V3 "tuple") _ (fun v hv Q' hq=>?_) (wpAny_pure ?_))))
 ·rw [<- D7] at hv;obtain ⟨r,hr,rfl⟩:=F4.mp hv;have:∃ xs:Array Value,IsTup s.heap r xs:=by
   rcases B7.mp hr with e | e
   ·rw [e];exact ⟨_,h0⟩
   ·exact h r e
  obtain ⟨xs,o2,ho2,hc2,n2,hd2⟩:=this;refine k8 (show PySem.W.Looks (model prog w) s.heap (typeOf (.ref r)) o2.cls from (u9 ho2).andThen .now) ?_;rw [hc2];exact hq
 ·have h0':(A51 (fun _=>V3 "tuple") (D8 r0::A51 D8 rs)).toArray[0]?=some (V3 "tuple"):=by simp
  have hall2:((A51 (fun _=>V3 "tuple") (D8 r0::A51 D8 rs)).toArray.all fun x=>x == V3 "tuple")=true:=by
   simp only [List.all_toArray,List.all_map,G9];intro _ _
   rfl
  rw [h0'];simp only [hall2,if_true];exact wpAny_pure (wpAny_pure q)
end
section
variable {X:Cx}
abbrev TupsAt (H:Hp) (rs:List Addr) (ts:List (List Int)):Prop:=Paired (fun (r:Addr) (t:List Int)=>H r=some (.tup (t.map V.int))) rs ts
theorem qER:∀ {rs:List Addr} {its:List Value},Vals (rs.map V.ref) its->its=rs.map D8
 | [],_,.nil=>rfl
 | r::rs,_,.cons h t=>by
  rw [D7,<- qER t];have:_=D8 r:=h;rw [this]
def qIE:Value->Addr
 | .ref a=>a
 | _=>0
theorem qN9:∀ {vs:List Value},(∀ v ∈ vs,∃ a,v=.ref a)->(vs.map qIE).map D8=vs
 | [],_=>rfl
 | v::vs,h=>by
  obtain ⟨a,rfl⟩:=h v (by simp)
  rw [D7,D7,qN9 fun v hv=>h v (A7 _ hv)]
  rfl
theorem qPM {H:Hp}:∀ {rs:List Addr} {ts:List (List Int)},TupsAt H rs ts->ts=rs.map fun r=>keyH H (.ref r)
 | _,_,.nil=>rfl
 | _,_,.cons h t=>by rw [D7,qLW h,<- qPM t]
theorem qS2 {H:Hp}:∀ {rs:List Addr},(∀ r ∈ rs,∃ t:List Int,H r=some (.tup (t.map V.int)))->TupsAt H rs (rs.map fun r=>keyH H (.ref r))
 | [],_=>.nil
 | r::rs,h=>by
  obtain ⟨t,e⟩:=h r (by simp)
  exact .cons (by dsimp only;rw [qLW e];exact e) (qS2 fun r hr=>h r (A7 _ hr))
theorem tups_mem {H:Hp}:∀ {rs:List Addr} {ts:List (List Int)},TupsAt H rs ts->∀ {r:Addr},r ∈ rs->∃ t,t ∈ ts/\H r=some (.tup (t.map V.int))
 | _,_,.nil,_,h=>nomatch h
 | _,_,.cons (b:=t) g T,r,h=>by
  rcases B7.mp h with e | e
  ·exact ⟨t,by simp,by rw [e];exact g⟩
  ·obtain ⟨t,h1,h2⟩:=tups_mem T e;exact ⟨t,A7 _ h1,h2⟩
theorem qSE {Ab:List (Addr × Obj)} {s:Shared} {σ:St} {H:Hp} {Q:VK} {A:Around} {E:Value->Shared->Prop} {rs:List Addr} {ts:List (List Int)} {D:Addr} (I:Inv X Ab σ (Ai H D (.lst (rs.map V.ref))) s) (hD:H D=none) (T:TupsAt H rs ts)
  (hk:(∀ t ∈ ts,t ≠ [])\/∃ ts',ts=[]::ts') (hs:rs.length<64) (hu:A.units+8<cLine)
  (q:∀ rs' ts',rs'.Perm rs->TupsAt H rs' ts'->ts'.Perm ts->ts'.Pairwise (fun a b=>HT.lexLt b a=false)->Q (.ref D) (Ai H D (.lst (rs'.map V.ref)))) :
  wpAny (model X.prog X.w) A (call (.builtin "list.sort") [.ref D]) (fun _ s'=>EP X Ab σ Q (.ref D) s') E s:=by
 obtain ⟨z,its,n,rv,hl,e⟩:=I.lstM qA1;have ei:=qER rv;subst ei;have hz:(rs.map D8).length<=sizeLine:=by simpa using z
 letI:NM:=tupNM H ts
 have gd:∀ v ∈ rs.map D8,NM.good v:=fun v hv=>by
  obtain ⟨r,hr,rfl⟩:=F4.mp hv;obtain ⟨t,ht,g⟩:=tups_mem T hr;exact ⟨r,t,rfl,g,ht⟩
 have tat:∀ (h':Heap),(∀ (b:Addr) (o:Obj),b ≠ D->s.heap.get? b=some o->h'.get? b=some o)->∀ (r:Addr) (t:List Int),H r=some (.tup (t.map V.int))->∃ xs:Array Value,IsTup h' r xs/\IntsAre xs.toList t:=by
  intro h' kept r t g;have nr:r ≠ D:=qA5 g hD;obtain ⟨its,r1,⟨o,ho,hc,n,hd⟩,_⟩:=I.tuple (SqT.of (show (Ai H D (.lst (rs.map V.ref))) r=some (.tup (t.map V.int)) by rw [qA8 nr];exact g))
  exact ⟨its.toArray,⟨o,kept r o nr ho,hc,n,hd⟩,qRE r1⟩
 have lt_ok:∀ (A':Around) (h':Heap) (κ:SortKind),(∀ (x y:Addr) (xs ys:Array Value) (ns ms:List Int) (Q:Bool->Shared->Prop) (E:Value->Shared->Prop),IsTup h' x xs->IsTup h' y ys->IntsAre xs.toList ns->IntsAre ys.toList ms->Q (HT.lexLt ns ms) { s with heap:=h' }->wpAny (model X.prog X.w) A' (keyLt' κ (.ref x) (.ref y)) Q E { s with heap:=h' })->
   (∀ (b:Addr) (o:Obj),b ≠ D->s.heap.get? b=some o->h'.get? b=some o)->LtOk X.prog X.w A' { s with heap:=h' } κ:=by
  intro A' h' κ rule kept;refine ⟨fun {x y Q E} hx hy h=>?_⟩;obtain ⟨r1,t1,rfl,g1,m1⟩:=hx;obtain ⟨r2,t2,rfl,g2,m2⟩:=hy;obtain ⟨xs,i1,j1⟩:=tat h' kept r1 t1 g1;obtain ⟨ys,i2,j2⟩:=tat h' kept r2 t2 g2;refine rule r1 r2 xs ys t1 t2 Q E i1 i2 j1 j2 ?_;have e1:NM.nm (D8 r1)=qIG ts t1:=by show qIG ts (keyH H (.ref r1))=_;rw [qLW g1]
  have e2:NM.nm (D8 r2)=qIG ts t2:=by show qIG ts (keyH H (.ref r2))=_;rw [qLW g2]
  rw [e1,e2,qPY m1 m2] at h;exact h
 have fin:∀ out:Array Value,out.toList.Perm (rs.map D8)->out.toList.Pairwise (fun u v=>NM.nm u<=NM.nm v)->EP X Ab σ Q (.ref D) { s with heap:=sortedHeap s.heap D (rs.map D8) out }:=by
  intro out p1 p2;have refs:∀ v ∈ out.toList,∃ a,v=D8 a:=fun v hv=>by
   obtain ⟨r,_,er⟩:=F4.mp (p1.mem_iff.mp hv);exact ⟨r,er.symm⟩
  have back:=qN9 refs;have p3:(out.toList.map qIE).Perm rs:=by
   have:=p1.map qIE;rw [k7] at this;have e:rs.map (qIE ∘ D8)=rs:=(i6 fun x _=>rfl).trans (List.map_id _)
   rwa [e] at this
  obtain ⟨e2,hat⟩:=sortedHeap_at (vs:=rs.map D8) (out:=out) e;have T':TupsAt H (out.toList.map qIE) ((out.toList.map qIE).map fun r=>keyH H (.ref r)):=qS2 fun r hr=>by
   obtain ⟨t,_,g⟩:=tups_mem T (p3.mem_iff.mp hr);exact ⟨t,g⟩
  have p4:((out.toList.map qIE).map fun r=>keyH H (.ref r)).Perm ts:=by
   have:=p3.map fun r=>keyH H (.ref r);rw [<- qPM T] at this;exact this
  have p5:((out.toList.map qIE).map fun r=>keyH H (.ref r)).Pairwise (fun a b=>HT.lexLt b a=false):=by
   rw [<- back,V7] at p2;rw [V7];refine p2.imp_of_mem fun {a b} ha hb le=>?_;have ma:keyH H (.ref a) ∈ ts:=p4.mem_iff.mp (F4.mpr ⟨a,ha,rfl⟩);have mb:keyH H (.ref b) ∈ ts:=p4.mem_iff.mp (F4.mpr ⟨b,hb,rfl⟩);have le:qIG ts (keyH H (.ref a))<=qIG ts (keyH H (.ref b)):=le;rw [<- qPY mb ma];exact decide_eq_false (by omega)
  refine ⟨.ref D,Ai H D (.lst ((out.toList.map qIE).map V.ref)),?_,rfl,q _ _ p3 T' p4 p5⟩;have hu:Ai (Ai H D (.lst (rs.map V.ref))) D (.lst ((out.toList.map qIE).map V.ref))=Ai H D (.lst ((out.toList.map qIE).map V.ref)):=qL9;rw [<- hu];refine I.write (x:=D) (e:=D) (t':=s.toks) (by rw [qA1];exact trivial) (.inl rfl) (fun b u hb hbu=>?_) ⟨_,hat⟩ ?_
  ·rw [sortedHeap_old hb (B6 hbu)];exact hbu
  ·refine ⟨?_,out.toList,e2,?_,by simpa using hat⟩
   ·rw [A0,p3.length_eq];simpa using z
   ·have:=qJ8 (out.toList.map qIE);rw [back] at this;exact this
 rcases hk with hk | ⟨ts',hk⟩
 ·refine wpAny_call_entry slot_list_sort ⟨_,e,rfl⟩ entry_list_sort (qPU (κ0:=tuples' true) (n:=n) e (by simpa using hs) hz gd (fun h' kept h2=>⟨fun {Q} hq=>?_,lt_ok _ h' _ (fun x y xs ys ns ms Q E i1 i2 j1 j2 hq=>qRC i1 i2 j1 j2 hq) kept⟩) fun out p1 p2=>⟨_,rfl,fin out p1 p2⟩) (args_list_sort _)
  refine qTK (s:={ s with heap:=h' }) (ts:=ts) ?_ hk (by simpa using h2) hq
  exact Paired.mapP T fun r t g=>tat h' kept r t g
 ·refine wpAny_call_entry slot_list_sort ⟨_,e,rfl⟩ entry_list_sort (qPU (κ0:=oneType') (n:=n) e (by simpa using hs) hz gd (fun h' kept h2=>⟨fun {Q} hq=>?_,lt_ok _ h' _ (fun x y xs ys ns ms Q E i1 i2 j1 j2 hq=>?_) kept⟩) fun out p1 p2=>⟨_,rfl,fin out p1 p2⟩) (args_list_sort _)
  ·cases T with
   | nil=>cases hk
   | @cons r t l1 l2 g T=>
    have et:t=[]:=by cases hk;rfl
    subst et;obtain ⟨xs,i1,j1⟩:=tat h' kept r [] g;obtain ⟨xs⟩:=xs;cases j1;refine qRB (s:={ s with heap:=h' }) i1 (fun r hr=>?_) hq;obtain ⟨t,_,g⟩:=tups_mem T hr;obtain ⟨xs,i,_⟩:=tat h' kept r t g;exact ⟨xs,i⟩
  ·rw [keyLt'_oneType];exact qT2 (s:={ s with heap:=h' }) (by first | exact W4 (by show _<=A.units+8;simp [Around.in1]) hu | (show A.units+1<cLine;omega) | (show A.units<cLine;omega)) i1 i2 j1 j2 hq
theorem qON {Ab:List (Addr × Obj)} {σ:St} {H:Hp} {Q:VK} {rs:List Addr} {ts:List (List Int)} (hu:X.A.units+64<cLine) {s1:Shared} (I1:Inv X Ab σ H s1) (T:TupsAt H rs ts) (hk:(∀ t ∈ ts,t ≠ [])\/∃ ts',ts=[]::ts') (hs:rs.length<64) (hz:rs.length<=sizeLine)
  (q:∀ a rs' ts',H a=none->rs'.Perm rs->TupsAt H rs' ts'->ts'.Perm ts->ts'.Pairwise (fun a b=>HT.lexLt b a=false)->Q (.ref a) (Ai H a (.lst (rs'.map V.ref)))):wpAny (model X.prog X.w) X.A.in1 (do
   let l <- newList (rs.map D8)
   let _ <- holding [l] (call (.builtin "list.sort") [l] [])
   ret l) (fun fin s'=>∃ r,fin=.done (.ret r)/\EP X Ab σ Q r s') X.xe s1:=by
 refine wpAny_bind (wpAny_newList ?_ (by rw [A0];exact hz))
 have hf:=I1.hok.fresh (A5 s1.heap.objs.size);have I2:=I1.laid (a:=s1.heap.objs.size) (t':=s1.toks) (o:=.lst (rs.map V.ref)) (h':=s1.heap.push { cls:=.type "list",data:=.seq (rs.map D8).toArray }) (fun b u e=>A2 _ e) (A5 _) ⟨by rw [A0];exact hz,_,0,qJ8 rs,B9 _ rfl⟩
 refine wpAny_bind (wpAny_holding (wpAny_mono (qSE (E:=X.xe) I2 hf T hk hs (by show X.A.units+1+8<cLine;omega) fun rs' ts' a b c d=>q _ rs' ts' hf a b c d) (fun _ s' x=>?_) fun _ _ e=>e))
 exact wpAny_pure ⟨_,rfl,x⟩
theorem call_sortedTL (hc:X.calm=true) (hu:X.A.units+64<cLine):qDD X (.builtin "sorted") (fun xs H Q=>∃ p rs ts,xs=[.ref p]/\SqL X.K H p (rs.map V.ref)/\TupsAt H rs ts/\(∀ t ∈ ts,t ≠ [])/\rs.length<64/\
  ∀ a rs' ts',H a=none->rs'.Perm rs->TupsAt H rs' ts'->ts'.Perm ts->ts'.Pairwise (fun a b=>HT.lexLt b a=false)->Q (.ref a) (Ai H a (.lst (rs'.map V.ref)))):=by
 intro Ab s σ H xs us Q I r h;obtain ⟨p,rs,ts,rfl,hq,T,hne,hs64,q⟩:=h;obtain ⟨u,rfl,rx⟩:=qGH r;cases rx;refine m6 kind_sorted plain_sorted entry_sorted (args_sorted1 _) ?_;unfold Builtin.«sorted»;refine wpAny_bind (m:=checkCount "sorted" 1 1 _) (wpAny_pure ?_);obtain ⟨its,rv,pl,hz⟩:=I.list hq;obtain ⟨o,ho,hc',n,hd⟩:=pl.isList;have hlen:=rv.length;have ei:=qER rv;subst ei;refine wpAny_bind (wpAny_collect_seq p (.inl rfl) ho hc' hd (fun h' hk=>?_) (by rw [C6,<- hlen];exact hz))
 have:=qON (s1:={ s with heap:=h' }) hu (I.kept (t':=s.toks) hk) T (.inl hne) hs64 (by rw [A0] at hz;exact hz) q
 exact this
end
end L2.GS
namespace L2
open PySem PySem.Spec PyProof.Rows
section
variable {prog:Program} {w:World} {A:Around} {R:Result->Shared->Prop} {I:Addr} {fp wr:List Addr} {n:Nat} {P:Nat->Value->Prop} {St:Nat->Heap->Prop}
end
section
variable {X:Cx}
end
structure Clb (P:Program) (w:World) (K:PySem.W.Frag) (mg:Str->Option Value) (base:Heap) (n:Nat) (f:Addr) (fd:FuncData) (x:Str) (ps:List Str) (sp:Sp):Prop where
 G:FnOk P w K mg base CX0 n f fd ps sp
 b:Binds K fd ps []
 k:O5 K (.ref f)=true
 m:mg x=some (.ref f)
theorem qAR {X:Cx} {n k:Nat} {f:Addr} {fd:FuncData} {x:Str} {ps:List Str} {sp:Sp} {e:Expr} {es:List Expr} {t:TA} {p pos:Pos} (C:Clb X.prog X.w X.K X.mg X.base n f fd x ps sp) (hr:Room k X.A) (hg:Gl X x)
  (ha:PA X (e::es) t) (hnk:n<=k:=by decide) (hdb:(x == ("__debug__" : Str))=false:=by decide) (he:starEach (e::es) X.env=(false,eval e X.env)::starEach es X.env:=by rfl) (hpl:(backTo pos (starEach es X.env)).any (·.1)=false:=by rfl) :
  PE X (.Call (.Name x p) (e::es) [] pos) (qVB sp [] E0 t):=qSV C.G (hr.mono hnk) hg C.m C.k C.b .nil qZ0 ha hdb he hpl
theorem nmD {i:Nat} {t u:TS} {D:Ends} {x:V} {σ:St} {H:Hp} (h:∀ D':Ends,(∀ σ H,D.nx σ H->D'.nx σ H)->(∀ v H,D.rt v H->D'.rt v H)->tSeq t u D' (σ.set i (some x)) H):qWV i x σ H fun σ2 H2=>tSeq t u D σ2 H2:=h D (fun _ _ z=>z) fun _ _ z=>z
theorem nmT {t u:TS} {D:Ends} {σ:St} {H:Hp} (h:∀ D':Ends,(∀ σ H,D.nx σ H->D'.nx σ H)->(∀ v H,D.rt v H->D'.rt v H)->tSeq t u D' σ H):tSeq t u D σ H:=h D (fun _ _ z=>z) fun _ _ z=>z
theorem nmI {g:TG} {c:TT} {t u:TS} {D:Ends} {x:V} {σ:St} {H:Hp} (h:∀ D':Ends,(∀ σ H,D.nx σ H->D'.nx σ H)->(∀ v H,D.rt v H->D'.rt v H)->g x σ H fun σ2 H2=>tIfS c t u D' σ2 H2):g x σ H fun σ2 H2=>tIfS c t u D σ2 H2:=h D (fun _ _ z=>z) fun _ _ z=>z
section
variable {prog:Program} {w:World} {A:Around} {E:Value->Shared->Prop} {s:Shared}
end
section
variable {X:Cx}
end
def ItB (K:PySem.W.Frag) (a:Addr) (n:Nat):It:=
 ⟨fun i H=>i<n/\∃ xs x,SqL K H a xs/\xs[n - 1 - i]?=some x,fun i H x H'=>H'=H/\∀ xs,SqL K H a xs->xs[n - 1 - i]?=some x,fun i H=>i=n⟩
theorem qVA {P:Program} {w:World} {K:PySem.W.Frag} {tg:Expr} (a it:Addr) (n:Nat):Turn P w K tg (ItB K a n) [it] it (fun i h=>h.IsRevIter it a ((n:Int) - 1 - (i:Int))) where
 mem:=by simp
 obj:=fun i h st b hb=>by
  have e:b=it:=by simpa using hb
  subst e;obtain ⟨o,e,c,d⟩:=st;exact ⟨o,e,fun v z=>by rw [d] at z;cases z⟩
 keep:=fun i h h' st k=>st.at fun o e=>k it (by simp) o e
 item:=by
  intro X hP hw hK hc i Ab s σ H E I hf st hg;subst hP hw hK;obtain ⟨hi,xs,x,hq,hx⟩:=hg;obtain ⟨its,rv,p,hz⟩:=I.list hq;obtain ⟨u,hu,ru⟩:=rv.get hx;obtain ⟨f0,f1,f2,f3,f4,f5⟩:=hf it (by simp)
  rw [show (n:Int) - 1 - (i:Int)=((n - 1 - i:Nat):Int) by omega] at st
  refine wpAny_pyNext_rev_item st p.isList (x:=u) (by simpa using hu) fun h' st' sb=>?_
  have I1:Inv X Ab σ H { s with heap:=h' }:=I.turned (t':=s.toks) (fun b o hb e=>(sb.2 b hb).trans e) f0 f1 f3 f4 f5;obtain ⟨o,e,c,d⟩:=id st';rw [show ((n - 1 - i:Nat):Int) - 1=(n:Int) - 1 - ((i+1:Nat):Int) by omega] at st'
  exact ⟨u,rfl,qRF (s:={ s with heap:=h' }) e c d (by decide) ⟨x,H,I1,ru,⟨rfl,fun ys hy=>by rw [I.list_inj hy hq];exact hx⟩,st',fun b hb=>(hf b hb).1⟩⟩
 done:=by
  intro X hP hw hK hc i Ab s σ H E I hf st hg;subst hP hw hK;have e:i=n:=hg;subst e;obtain ⟨f0,f1,f2,f3,f4,f5⟩:=hf it (by simp)
  rw [show (i:Int) - 1 - (i:Int) = -1 by omega] at st
  exact wpAny_pyNext_rev_end (I.ok.hd hc) st fun h' eb=>⟨rfl,I.turned (t':=s.toks) (fun b o hb e=>eb b o hb e) f0 f1 f3 f4 f5⟩
 self:=fun _ _ _ _ _ st h=>wpAny_pyIter_revIter st h
section
variable {X:Cx} {tg:Expr}
def iRev (K:PySem.W.Frag) (ta:TA):TI:=fun σ H R=>ta σ H fun vs H1=>∃ l xs,vs=[.ref l]/\SqL K H1 l xs/\R (ItB K l xs.length) H1
theorem qO4:bootBuiltins "reversed" = some (.type "reversed"):=by decide +kernel
theorem qb4 {a:Expr} {ta:TA} {p pos:Pos} (hg:Gl X "reversed") (hm:X.mg "reversed" = none) (ha:PA X [a] ta) (hs:starEach [a] X.env=[(false,eval a X.env)]:=by rfl) :
  PI X tg (.Call (.Name "reversed" p) [a] [] pos) (iRev X.K ta):=by
 intro Ab s σ H R I h;refine Call_ (qH1 I hg hm qO4 (J3 (thn (ha pos Ab s σ H _ I h) fun us s1 ⟨vs,H1,I1,r1,q1⟩=>?_) hs rfl));obtain ⟨l,xs,e,hq,q⟩:=q1;subst e;obtain ⟨u,rfl,rx⟩:=qGH r1;cases rx;obtain ⟨its,rv,pl,hz⟩:=I1.list hq;refine call_reversed_list pl.isList ?_;have st:(s1.heap.push (revObj l ((its.toArray.size:Int) - 1))).IsRevIter s1.heap.objs.size l ((xs.length:Int) - 1 - ((0:Nat):Int)):=⟨_,B9 _ rfl,rfl,by rw [C6,<- rv.length];simp [revObj]⟩
 refine wpAny_pyIter_revIter st ?_;refine ⟨s1.heap.objs.size,[s1.heap.objs.size],_,_,H1,rfl,I1.kept (t':=s1.toks) fun b o e=>A2 _ e,qVA l _ xs.length,st,fun b hb=>?_,q⟩;have e:b=s1.heap.objs.size:=by simpa using hb
 subst e;exact I1.fpOk (A5 _) (I1.hok.fresh (A5 _))
end
theorem qZS {K:PySem.W.Frag} {a:Addr} {xs:List V} {g:TG} {tb:TS} {D:Ends} {σ:St} {H:Hp} (Pv:Nat->St->Hp->Prop) (h0:Pv 0 σ H) (hl:∀ i σ H,i<=xs.length->Pv i σ H->SqL K H a xs)
  (hs:∀ i x σ H,i<xs.length->xs[xs.length - 1 - i]?=some x->Pv i σ H->g x σ H fun σ2 H2=>tb { D with nx:=Pv (i+1),ct:=Pv (i+1),bk:=D.nx } σ2 H2) (hd:∀ σ H,Pv xs.length σ H->D.nx σ H) :
  ∃ W:Nat->Nat->St->Hp->Prop,(∃ m,W 0 m σ H)/\∀ i m σ H,W i m σ H->
   ((ItB K a xs.length).stop i H/\D.nx σ H)\/((ItB K a xs.length).go i H/\∃ N:St->Hp->Prop,(∀ σ' H',N σ' H'->∃ m',m'<m/\W (i+1) m' σ' H')/\∀ x H',(ItB K a xs.length).yld i H x H'->g x σ H' fun σ2 H2=>tb { D with nx:=N,ct:=N,bk:=D.nx } σ2 H2):=by
 refine ⟨fun i m σ H=>m=xs.length - i/\i<=xs.length/\Pv i σ H,⟨xs.length,by simp,E8 _,h0⟩,?_⟩
 rintro i m σ H ⟨rfl,hi,p⟩;have q:=hl i σ H hi p;by_cases hlt:i<xs.length
 ·have hj:xs.length - 1 - i<xs.length:=by omega
  refine .inr ⟨⟨hlt,xs,xs[xs.length - 1 - i],q,by simp [hj]⟩,Pv (i+1),fun σ' H' p'=>⟨xs.length - (i+1),by omega,rfl,hlt,p'⟩,fun x H' y=>?_⟩
  obtain ⟨e,y⟩:=y;subst e;exact hs i x σ _ hlt (y xs q) p
 ·have e:i=xs.length:=by omega
  subst e;exact .inl ⟨rfl,hd σ H p⟩
section
variable {X:Cx}
theorem qW4 (hu:X.A.units+64<cLine):OpR X (compareOp .Eq) (fun x y H Q=>∃ (p l:Addr) (z z':Str) (n n':Int),x=.ref p/\y=.ref l/\SqT X.K H p [.str z,.int n]/\SqT X.K H l [.str z',.int n']/\Q (.bl (decide ((z,n)=(z',n')))) H):=by
 intro Ab s σ H x y v u Q I rx ry h;obtain ⟨p,l,z,z',n,n',rfl,rfl,h1,h2,q⟩:=h;cases rx;cases ry;obtain ⟨a1,a2,r1,r2,p1⟩:=qT4 I h1;obtain ⟨b1,b2,t1,t2,p2⟩:=qT4 I h2;obtain ⟨k1,rfl⟩:=r1;obtain ⟨k2,rfl⟩:=t1;obtain ⟨k3,rfl⟩:=r2;obtain ⟨k4,rfl⟩:=t2;refine PySem.SeqAt.eq_tupleAt (e:=fun j=>match j with | 0=>z == z' | _=>n == n') p1 p2 (by omega) (fun j j1 j2=>?_) ⟨.bl (decide ((z,n)=(z',n'))),H,I,?_,q⟩
 ·rcases j with _ | _ | j
  ·exact A17 (A:=X.A.in1) (s:=s) z k1 z' k2
  ·exact j6 (A:=X.A.in1) (s:=s) n k3 n' k4
  ·exfalso;simp at j1;omega
 ·show R5 _=R5 _;congr 1;by_cases c1:z=z' <;> by_cases c2:n=n' <;> simp [c1,c2,C8,C8.loop]
theorem qc1 {Ab:List (Addr × Obj)} {s:Shared} {σ:St} {H:Hp} {a:Addr} {Ah:List (Key × V)} {k:Key} {u r:Value} {d:V} {A:Around} {E:Value->Shared->Prop} {Q:Value->Shared->Prop} (I:Inv X Ab σ H s) (e:H a=some (.dK Ah)) (ry:RelV (kV k) u) (rd:RelV d r) (hz:Ah.length<sizeLine)
  (h1:∀ v,valV Ah k=some v->∀ w' s',Inv X Ab σ H s'->RelV v w'->Q w' s') (h2:valV Ah k=none->∀ s',Inv X Ab σ (Ai H a (.dK (putK Ah k d))) s'->Q r s') :
  wpAny (model X.prog X.w) A (call (.builtin "dict.setdefault") [.ref a,u,r]) Q E s:=by
 obtain ⟨z,hd,vs,rel,dd⟩:=qRI I.hok e;refine call_meetsIn d9 dd.typeIs PySem.F.entry_dict_setdefault (PySem.F.args_dict_setdefault_3 _ _ _) (kt_meets_setdefault (qBP X.prog X.w) a (qM0 ry) hd r) ⟨_,dd,by rw [<- rel.length];exact z,fun v hv=>?_,fun hn h' dd' hs=>?_⟩
 ·cases l:valV Ah k with
  | none=>
   have:=RelO.none_of (o:=valueAt vs k) (by rw [<- l];exact rel.val k)
   rw [this] at hv;cases hv
  | some v'=>
   obtain ⟨w',hw,rw'⟩:=RelO.some_of (v:=v') (o:=valueAt vs k) (by rw [<- l];exact rel.val k)
   rw [hw] at hv;cases hv;exact h1 v' l _ _ (I.tok _) rw'
 ·have l:valV Ah k=none:=by
   cases l:valV Ah k with
   | none=>rfl
   | some v'=>
    obtain ⟨w',hw,rw'⟩:=RelO.some_of (v:=v') (o:=valueAt vs k) (by rw [<- l];exact rel.val k)
    rw [hw] at hn;cases hn
  have hl:(putK Ah k d).length<=sizeLine:=by have:=qBE Ah k d;omega
  refine h2 l _ ?_;have he:∃ q,h'.get? a=some q:=let ⟨q,_,_,hq,_⟩:=dd';⟨q,hq⟩
  exact qHV I (by rw [e];exact R6) hs he (qNX hl hd (rel.put k rd) dd')
def qXI (td ty tx:TE):TE:=fun σ H Q=>td σ H fun x H1=>∃ a,x=.ref a/\IsD H1 a/\ty σ H1 fun y H2=>tx σ H2 fun z H3=>∃ Ah k,H3 a=some (.dK Ah)/\y=kV k/\Ah.length<sizeLine/\
 (∀ v,valV Ah k=some v->Q v H3)/\(valV Ah k=none->Q z (Ai H3 a (.dK (putK Ah k z))))
theorem qVY {o e f:Expr} {td ty tx:TE} {apos cpos:Pos} (ho:PE X o td) (he:PE X e ty) (hf:PE X f tx) (m:M2 X o "setdefault" apos e f cpos):PE X (.Call (.Attribute o "setdefault" apos) [e,f] [] cpos) (qXI td ty tx):=by
 intro Ab s σ H Q I h;refine wpAny_Call_method m.base m.few m.line Z1 d9 PySem.F.type_dict_setdefault (thn (ho Ab s σ H _ I h) fun u s1 ⟨x,H1,I1,rx,a,ex,d,q1⟩=>?_);subst ex;obtain rfl:u=D8 a:=rx;obtain ⟨t1,t2,_⟩:=qTQ I1 d;refine ⟨t1,t2,?_⟩;rw [m.trees];refine U2 rfl (X5 (U7 (thn (he Ab s1 σ H1 _ I1 q1) fun iv s2 ⟨y,H2,I2,ry,q2⟩=>
  U7 (thn (hf Ab s2 σ H2 _ I2 q2) fun fv s3 ⟨z,H3,I3,rz,Ah,k,ea,ey,hz,q3,q4⟩=>a8 ?_))))
 subst ey;exact qc1 I3 ea ry rz hz (fun v l w' s4 I4 rw'=>⟨v,H3,I4,rw',q3 v l⟩) fun l s4 I4=>⟨z,_,I4,rz,q4 l⟩
theorem qND {K:PySem.W.Frag} (hK:X.K=K) (hu:X.A.units+64<cLine):OpR X (compareOp .Eq) (fun x y H Q=>∃ (p l:Addr) (z z':Str) (n n':Int),x=.ref p/\y=.ref l/\SqT K H p [.str z,.int n]/\SqT K H l [.str z',.int n']/\Q (.bl (decide ((z,n)=(z',n')))) H):=by subst hK;exact qW4 hu
theorem qYO {K:PySem.W.Frag} (hK:X.K=K):SlR X (rSlT K):=by subst hK;exact qaS
end
end L2
namespace Fw
open PySem L2
theorem qBA:bootBuiltins "len" = some (.builtin "len"):=by decide +kernel
theorem qUR:bootBuiltins "min" = some (.builtin "min"):=by decide +kernel
theorem qYC:bootBuiltins "max" = some (.builtin "max"):=by decide +kernel
theorem qEN:bootBuiltins "sorted" = some (.builtin "sorted"):=by decide +kernel
theorem qUS:bootBuiltins "divmod" = some (.builtin "divmod"):=by decide +kernel
theorem qO5:bootBuiltins "all" = some (.builtin "all"):=by decide +kernel
theorem qAT:bootBuiltins "isinstance" = some (.builtin "isinstance"):=by decide +kernel
theorem qQK:bootBuiltins "int" = some (.type "int"):=by decide +kernel
theorem qUT:bootBuiltins "bool" = some (.type "bool"):=by decide +kernel
theorem qYB:bootBuiltins "str" = some (.type "str"):=by decide +kernel
theorem qFN:bootBuiltins "list" = some (.type "list"):=by decide +kernel
theorem qBF:bootBuiltins "tuple" = some (.type "tuple"):=by decide +kernel
theorem qUQ:bootBuiltins "set" = some (.type "set"):=by decide +kernel
theorem qX3:bootBuiltins "range" = some (.type "range"):=by decide +kernel
theorem qBD:bootBuiltins "enumerate" = some (.type "enumerate"):=by decide +kernel
structure StAt (H:Hp) (d c:Addr) (t:Int) (ns:List Int):Prop where
 dict:H d=some (.dK [(L1 "cells",.ref c),(L1 "turn",.int t)])
 list:H c=some (.lst (ns.map V.int))
 ne:0<ns.length
 len:ns.length<=63
 pos:0<=t
def Keep (d c:Addr) (H H':Hp):Prop:=∀ b o,H b=some o->b ≠ d->b ≠ c->H' b=some o
theorem Keep.refl {d c:Addr} {H:Hp}:Keep d c H H:=fun _ _ h _ _=>h
theorem Keep.trans {d c:Addr} {H H1 H2:Hp} (a:Keep d c H H1) (b:Keep d c H1 H2):Keep d c H H2:=fun x o h n m=>b x o (a x o h n m) n m
theorem Keep.of_same {d c:Addr} {H H':Hp} (h:Same H H'):Keep d c H H':=fun b o e _ _=>h b o e
theorem qA2 {H:Hp} {p:Addr} (h:H p=none) (o:HO):Same H (Ai H p o):=fun b u q=>by rw [qA8 (qA5 q h)];exact q
theorem qDX {d c:Addr} {H:Hp} {p:Addr} (h:H p=none) (o:HO):Keep d c H (Ai H p o):=.of_same (qA2 h o)
theorem StAt.ndc {H:Hp} {d c:Addr} {t:Int} {ns:List Int} (S:StAt H d c t ns):d ≠ c:=qBT S.dict S.list (by intro z;cases z)
theorem StAt.same {H H':Hp} {d c:Addr} {t:Int} {ns:List Int} (S:StAt H d c t ns) (h:Same H H'):StAt H' d c t ns:=⟨h _ _ S.dict,h _ _ S.list,S.ne,S.len,S.pos⟩
theorem StAt.new {H:Hp} {d c p:Addr} {t:Int} {ns:List Int} (S:StAt H d c t ns) (h:H p=none) (o:HO):StAt (Ai H p o) d c t ns:=S.same (qA2 h o)
theorem s_cs:¬ (C4 "cells" = C4 "turn"):=by decide +kernel
theorem s_ct:¬ ((L1 (C4 "cells"):Key)=L1 (C4 "turn")):=fun h=>s_cs (A81 h)
theorem qZW {H:Hp} {d c:Addr} {t:Int} {ns:List Int} (S:StAt H d c t ns):DGet H d (.str "turn") (some (.int t)):=by
 have h:=DGet.k (k:=L1 "turn") S.dict;rw [qBJ s_ct,qBU rfl] at h;exact h
theorem qMG {H:Hp} {d c:Addr} {t:Int} {ns:List Int} (S:StAt H d c t ns):DGet H d (.str "cells") (some (.ref c)):=by
 have h:=DGet.k (k:=L1 "cells") S.dict;rw [qBU rfl] at h;exact h
theorem qVQ (c:Addr) (t u:Int):putK [((L1 "cells" : Key),V.ref c),(L1 "turn",V.int t)] (L1 "turn") (V.int u)=[((L1 "cells" : Key),V.ref c),(L1 "turn",V.int u)]:=by
 unfold putK;simp [s_cs]
theorem qZU {H:Hp} {d c:Addr} {t u:Int} {ns:List Int} (S:StAt H d c t ns):DPut H d (.str "turn") (.int u) (Ai H d (.dK [(L1 "cells",.ref c),(L1 "turn",.int u)])):=by
 have h:=DPut.k (k:=L1 "turn") (v:=.int u) S.dict (by rw [sizeLine_eq];exact (by decide:2<16777216))
 rw [qVQ] at h;exact h
theorem StAt.turn {H:Hp} {d c:Addr} {t u:Int} {ns:List Int} (S:StAt H d c t ns) (h:0<=u):StAt (Ai H d (.dK [(L1 "cells",.ref c),(L1 "turn",.int u)])) d c u ns:=
 ⟨qA1,by rw [qA8 (J2 S.ndc)];exact S.list,S.ne,S.len,h⟩
theorem StAt.put {H:Hp} {d c:Addr} {t:Int} {ns ms:List Int} (S:StAt H d c t ns) (h:ms.length=ns.length):StAt (Ai H c (.lst (ms.map V.int))) d c t ms:=
 ⟨by rw [qA8 S.ndc];exact S.dict,qA1,by rw [h];exact S.ne,by rw [h];exact S.len,S.pos⟩
abbrev TB:Int:=1000000000
def qGD:Sp:=fun vs H Q _=>∃ d c t ns m,vs=[.ref d,.int m]/\StAt H d c t ns/\t<=TB/\1<=m/\m<=1000000/\∀ k ns' H',0<=k->k<m->StAt H' d c (t+1) ns'->Keep d c H H'->Q (.int k) H'
def qSD (K:PySem.W.Frag):Sp:=fun vs H Q _=>∃ (a:Addr) (ns:List Int),vs=[.ref a]/\SqL K H a (ns.map V.int)/\ns.length<=63/\∀ d c ms H',StAt H' d c 0 ms->Same H H'->H d=none->H c=none->Q (.ref d) H'
def cutI {α:Type} (xs:List α) (lo hi:Option Int):List α:=(xs.drop (HT.sIx xs.length 0 lo)).take (HT.sIx xs.length xs.length hi - HT.sIx xs.length 0 lo)
theorem qIZ {α:Type} (f:α->V) (xs:List α) (lo hi:Option Int):cutV (xs.map f) lo hi=(cutI xs lo hi).map f:=by
 unfold cutV cutI;rw [A0,<- A73,<- A74]
theorem qX1 {α:Type} (xs:List α) (lo hi:Option Int):(cutI xs lo hi).length<=xs.length:=by
 unfold cutI;rw [C1,F5];omega
theorem qXT (c:Addr) (t:Int):qJS [] [((L1 (C4 "cells"):Key),V.ref c),(L1 (C4 "turn"),V.int t)]=[((L1 (C4 "cells"):Key),V.ref c),(L1 (C4 "turn"),V.int t)]:=by
 unfold qJS;simp only [Y9,A58];unfold putK;simp [s_cs]
theorem qTO {xs:List V} {j:Nat} (h:j<xs.length):ixN xs.length (j:Int)=some j:=by
 unfold ixN;rw [if_pos (by omega),if_pos (by omega),G3]
def qVD (K:PySem.W.Frag):Sp:=fun vs H Q _=>∃ (a:Addr) (ns:List Int),vs=[.ref a]/\SqL K H a (ns.map V.int)/\ns.length<=63/\∀ H',Q (.bl true) H'
theorem cut {t u:TS} {D:Ends} {σ:St} {H:Hp} (h:∀ N:St->Hp->Prop,(∀ σ H,u D σ H->N σ H)->t { D with nx:=N } σ H):tSeq t u D σ H:=h _ fun _ _ z=>z
theorem opq {A:Prop} (h:∀ G:Prop,(A->G)->G):A:=h A id
structure Rise (k:Int) (zs:List Int):Prop where
 up:zs.Pairwise (·<·)
 in_:∀ x ∈ zs,0<=x/\x<k
theorem Rise.nil {k:Int}:Rise k []:=⟨.nil,fun _ h=>nomatch h⟩
theorem Rise.mono {j k:Int} {zs:List Int} (h:Rise j zs) (l:j<=k):Rise k zs:=⟨h.up,fun x hx=>⟨(h.in_ x hx).1,by have:=(h.in_ x hx).2;omega⟩⟩
theorem Rise.sub {k:Int} {zs ys:List Int} (h:Rise k zs) (s:ys.Sublist zs):Rise k ys:=⟨h.up.sublist s,fun x hx=>h.in_ x (s.subset hx)⟩
theorem Rise.snoc {k:Int} {zs:List Int} (h:Rise k zs) (h0:0<=k):Rise (k+1) (zs++[k]):=by
 refine ⟨d5.mpr ⟨h.up,List.pairwise_singleton _ _,fun a ha b hb=>?_⟩,fun x hx=>?_⟩
 ·rw [A6.mp hb];exact (h.in_ a ha).2
 ·rcases B8.mp hx with hx | hx
  ·have:=h.in_ x hx;omega
  ·rw [A6.mp hx];omega
theorem Rise.shift {k j:Int} {zs:List Int} (h:Rise k zs) (hj:0<=j):Rise (k+j) (zs.map (·+j)):=by
 refine ⟨V7.mpr (h.up.imp fun {a b} hab=>by omega),fun x hx=>?_⟩
 obtain ⟨y,hy,e⟩:=F4.mp hx;have:=h.in_ y hy;omega
theorem Rise.nodup {k:Int} {zs:List Int} (h:Rise k zs):zs.Nodup:=h.up.imp fun {a b} hab=>by omega
theorem Rise.len {zs:List Int} {k:Nat} (h:Rise (k:Int) zs):zs.length<=k:=by
 have sub:zs ⊆ (C8 k).map fun (i:Nat)=>(i:Int):=fun x hx=>by
  have:=h.in_ x hx;exact F4.mpr ⟨x.toNat,J1.mpr (by omega),by omega⟩
 have:=J4 h.nodup sub;simpa using this
theorem mem_addI {zs:List Int} {k x:Int}:x ∈ addI zs k ↔ x ∈ zs\/x=k:=by
 unfold addI
 split
 ·rename_i h
  constructor
  ·exact .inl
  ·rintro (z | rfl)
   ·exact z
   ·exact h
 ·simp
theorem qZ6 {zs:List Int} {k:Int} (h:zs.Nodup):(addI zs k).Nodup:=by
 unfold addI
 split
 ·exact h
 ·rename_i hk
  exact qJQ h hk
theorem qU8:∀ (l zs:List Int),zs.Nodup->(l.foldl addI zs).Nodup/\∀ x,x ∈ l.foldl addI zs ↔ x ∈ zs\/x ∈ l
 | [],zs,h=>⟨h,fun x=>by simp⟩
 | k::r,zs,h=>by
  obtain ⟨a,b⟩:=qU8 r (addI zs k) (qZ6 h);refine ⟨a,fun x=>?_⟩;rw [Y9,b x,mem_addI,B7,or_assoc]
theorem qRJ (l:List Int):(dedI l).Nodup:=(qU8 l [] .nil).1
theorem mem_dedI {l:List Int} {x:Int}:x ∈ dedI l ↔ x ∈ l:=by
 have:=(qU8 l [] .nil).2 x;unfold dedI;rw [this];simp
theorem qMH (l:List Int):(dedI l).length<=l.length:=by
 have:=qE9 l [];simpa [dedI] using this
theorem qFI {zs:List Int} (h1:zs.Pairwise (·<=·)) (h2:zs.Nodup):zs.Pairwise (·<·):=by
 have h3:zs.Pairwise (fun a b=>a<=b/\a ≠ b):=List.pairwise_and_iff.mpr ⟨h1,h2⟩;exact h3.imp fun {a b} ⟨x,y⟩=>by omega
theorem qLN {k:Int} {fs zs:List Int} (hp:zs.Perm (dedI fs)) (hs:zs.Pairwise (·<=·)) (h:∀ x ∈ fs,0<=x/\x<k):Rise k zs:=
 ⟨qFI hs (hp.nodup_iff.mpr (qRJ fs)),fun x hx=>h x (mem_dedI.mp (hp.mem_iff.mp hx))⟩
def qD1 (lo hi:Int):List Int:=(C8 (hi - lo).toNat).map fun (i:Nat)=>lo+i
theorem qOQ (lo hi:Int):qI5 lo hi=(qD1 lo hi).map V.int:=by
 unfold qI5 qD1;rw [k7]
 rfl
theorem mem_rangeI {lo hi x:Int}:x ∈ qD1 lo hi ↔ lo<=x/\x<hi:=by
 unfold qD1;rw [F4]
 constructor
 ·rintro ⟨i,hi',e⟩;have:=J1.mp hi';omega
 ·intro h;exact ⟨(x - lo).toNat,J1.mpr (by omega),by omega⟩
theorem qHP (lo hi:Int):(qD1 lo hi).length=(hi - lo).toNat:=by unfold qD1;simp
theorem qJI (lo hi:Int):(qD1 lo hi).Pairwise (·<·):=by
 unfold qD1;exact V7.mpr (w6.imp fun {a b} h=>by omega)
theorem qOR {lo hi:Int} (h:0<=lo):Rise hi (qD1 lo hi):=⟨qJI _ _,fun x hx=>by have:=mem_rangeI.mp hx;omega⟩
theorem qNZ {α:Type} (xs:List α) (k:Nat) (h:k<=xs.length):cutI xs (some (k:Int)) none=xs.drop k:=by
 unfold cutI;rw [HT.sIx_nat,HT.sIx_none,Z4 h];exact J8 (by rw [F5];exact A5 _)
theorem qZX {α:Type} (xs:List α) (k:Nat):cutI xs none (some (k:Int))=xs.take k:=by
 unfold cutI;rw [HT.sIx_nat,HT.sIx_none,m7,Nat.sub_zero];rcases Nat.le_total k xs.length with h | h
 ·rw [Z4 h]
 ·rw [Nat.min_eq_right h,J8 h,J8 (A5 _)]
abbrev NetL (H:Hp):List Addr->List (List Int)->Prop:=Paired fun r zs=>H r=some (.tup (zs.map V.int))
theorem NetL.keep {d c:Addr} {H H':Hp} {rs:List Addr} {Af:List (List Int)} (h:NetL H rs Af) (hd:∀ r zs,H r=some (.tup zs)->r ≠ d/\r ≠ c) (k:Keep d c H H'):NetL H' rs Af:=by
 induction h with
 | nil=>exact .nil
 | cons r t ih=>exact .cons (k _ _ r (hd _ _ r).1 (hd _ _ r).2) ih
theorem NetL.same {H H':Hp} {rs:List Addr} {Af:List (List Int)} (h:NetL H rs Af) (k:∀ r zs,H r=some (.tup zs)->H' r=some (.tup zs)):NetL H' rs Af:=by
 induction h with
 | nil=>exact .nil
 | cons r t ih=>exact .cons (k _ _ r) ih
theorem NetL.get {H:Hp}:∀ {rs:List Addr} {Af:List (List Int)} {i:Nat} {zs:List Int},NetL H rs Af->Af[i]?=some zs->∃ r,rs[i]?=some r/\H r=some (.tup (zs.map V.int))
 | _,_,_,_,.nil,e=>by simp at e
 | _,_,0,_,.cons r _,e=>by simp at e;subst e;exact ⟨_,rfl,r⟩
 | _,_,i+1,zs,.cons _ t,e=>by
  obtain ⟨r,h1,h2⟩:=NetL.get (i:=i) (zs:=zs) t (by simpa using e)
  exact ⟨r,by simpa using h1,h2⟩
def NetAt (H:Hp) (a:Addr) (Af:List (List Int)):Prop:=∃ rs:List Addr,H a=some (.tup (rs.map V.ref))/\NetL H rs Af
theorem StAt.tup {H:Hp} {d c:Addr} {t:Int} {ns:List Int} (S:StAt H d c t ns) {r:Addr} {zs:List V} (h:H r=some (.tup zs)):r ≠ d/\r ≠ c:=
 ⟨qBT h S.dict (by intro z;cases z),qBT h S.list (by intro z;cases z)⟩
theorem NetAt.keep {H H':Hp} {d c:Addr} {t:Int} {ns:List Int} (S:StAt H d c t ns) {a:Addr} {Af:List (List Int)} (h:NetAt H a Af) (k:Keep d c H H'):NetAt H' a Af:=by
 obtain ⟨rs,h1,h2⟩:=h;exact ⟨rs,k _ _ h1 (S.tup h1).1 (S.tup h1).2,h2.keep (fun r zs e=>S.tup e) k⟩
theorem NetAt.same {H H':Hp} {a:Addr} {Af:List (List Int)} (h:NetAt H a Af) (k:Same H H'):NetAt H' a Af:=by
 obtain ⟨rs,h1,h2⟩:=h;exact ⟨rs,k _ _ h1,h2.same fun r zs e=>k _ _ e⟩
theorem NetAt.len {H:Hp} {rs:List Addr} {Af:List (List Int)} (h:NetL H rs Af):rs.length=Af.length:=B2 h
def WFn (Af:List (List Int)):Prop:=∀ (i:Nat) zs,Af[i]?=some zs->Rise (i:Int) zs
theorem WFn.snoc {Af:List (List Int)} {zs:List Int} (h:WFn Af) (hz:Rise (Af.length:Int) zs):WFn (Af++[zs]):=by
 intro i ys e;rcases R8 i Af.length with l | l | l
 ·rw [Q0 l] at e;exact h i ys e
 ·subst l;simp at e;subst e;exact hz
 ·rw [c5 (by rw [A4,A9];omega)] at e
  cases e
theorem WFn.nil:WFn []:=fun i zs e=>by simp at e
theorem qBV {α β:Type} {F:α->β->Prop} {a:α} {b:β} {l₁:List α} {l₂:List β} (h:Paired F l₁ l₂) (r:F a b):Paired F (l₁++[a]) (l₂++[b]):=a9 h r
def qOM:Sp:=fun vs H Q _=>∃ d c t ns k,vs=[.ref d,.int k]/\StAt H d c t ns/\t<=TB - 20/\0<=k/\k<=1000/\
 ∀ r zs t' ns' H',StAt H' d c t' ns'->t<=t'->t'<=t+9->Keep d c H H'->H' r=some (.tup (zs.map V.int))->Rise k zs->Q (.ref r) H'
def qaR:Sp:=fun vs H Q _=>∃ d c t ns m,vs=[.ref d,.int m]/\StAt H d c t ns/\t<=TB - 10000/\1<=m/\m<=400/\
 ∀ a Af t' ns' H',StAt H' d c t' ns'->t<=t'->t'<=t+10 * m+10->Keep d c H H'->NetAt H' a Af->WFn Af->(Af.length:Int)=m->Q (.ref a) H'
def qXJ:Sp:=fun vs H Q _=>∃ d c t ns m,vs=[.ref d,.int m]/\StAt H d c t ns/\t<=TB - 1000/\1<=m/\m<=400/\
 ∀ a Af t' ns' H',StAt H' d c t' ns'->t<=t'->t'<=t+m->Keep d c H H'->NetAt H' a Af->WFn Af->(Af.length:Int)=m->Q (.ref a) H'
theorem qcU {a b k:Int} (h0:0<=k) (h1:k<4):∃ v,atI [V.int a,V.int b] (k / 3)=some (.int v)/\(v=a\/v=b):=by
 rcases (by omega:k=0\/k=1\/k=2\/k=3) with rfl | rfl | rfl | rfl
 ·exact ⟨a,rfl,.inl rfl⟩
 ·exact ⟨a,rfl,.inl rfl⟩
 ·exact ⟨a,rfl,.inl rfl⟩
 ·exact ⟨b,rfl,.inr rfl⟩
theorem qcT {k:Int} (h0:0<=k) (h1:k<6):∃ v,atI [V.int 0,V.int 0,V.int 1,V.int 2,V.int 2,V.int 3] k=some (.int v)/\0<=v/\v<=3:=by
 rcases (by omega:k=0\/k=1\/k=2\/k=3\/k=4\/k=5) with rfl | rfl | rfl | rfl | rfl | rfl
 all_goals exact ⟨_,rfl,by decide,by decide⟩
theorem qAG {H Hc:Hp} {p:Addr} {o:HO} (h:Same H Hc) (hp:H p=none):Same H (Ai Hc p o):=fun b u e=>by rw [qA8 (qA5 e hp)];exact h b u e
theorem qH4 {d c:Addr} {H Hc:Hp} {p:Addr} {o:HO} (h:Keep d c H Hc) (hp:H p=none):Keep d c H (Ai Hc p o):=fun b u e n1 n2=>by rw [qA8 (qA5 e hp)];exact h b u e n1 n2
theorem qG4 {H:Hp} {p:Addr} {xs:List V} {o:HO} {rs:List Addr} {Af:List (List Int)} (h:NetL H rs Af) (hp:H p=some (.lst xs)):NetL (Ai H p o) rs Af:=
 h.same fun r zs e=>by rw [qA8 (qBT e hp (by intro z;cases z))];exact e
theorem qBB (rs:List Addr) (r:Addr):rs.map V.ref++[V.ref r]=(rs++[r]).map V.ref:=by rw [B1];rfl
theorem qaY (b:Bool) (x:Int):(E9 (if b=true then (1:Int) else 0).toNat [V.int x]).flatten=(if b=true then [x] else []).map V.int:=by cases b <;> rfl
theorem qAO {α β:Type} {F:α->β->Prop}:∀ {l₁:List α} {l₂:List β} {i:Nat} {a:α},Paired F l₁ l₂->l₁[i]?=some a->∃ b,l₂[i]?=some b/\F a b
 | _,_,_,_,.nil,e=>by simp at e
 | _,_,0,_,.cons r _,e=>by simp at e;subst e;exact ⟨_,rfl,r⟩
 | _,_,i+1,a,.cons _ t,e=>by
  obtain ⟨b,h1,h2⟩:=qAO (i:=i) (a:=a) t (by simpa using e)
  exact ⟨b,by simpa using h1,h2⟩
theorem qB3 {α β:Type} {F G:α->β->Prop} {l₁:List α} {l₂:List β} (h:Paired F l₁ l₂) (k:∀ a b,F a b->G a b):Paired G l₁ l₂:=by
 induction h with
 | nil=>exact .nil
 | cons r t ih=>exact .cons (k _ _ r) ih
theorem qBX {rs:List Addr} {i:Nat} {x:V} (h:(rs.map V.ref)[i]?=some x):∃ r,rs[i]?=some r/\x=.ref r:=by
 rw [B5] at h;cases e:rs[i]? with
 | none=>rw [e] at h;cases h
 | some r=>rw [e] at h;exact ⟨r,rfl,(A8 h).symm⟩
theorem qBI {zs:List Int} {i:Nat} {x:V} (h:(zs.map V.int)[i]?=some x):∃ z,zs[i]?=some z/\x=.int z:=by
 rw [B5] at h;cases e:zs[i]? with
 | none=>rw [e] at h;cases h
 | some r=>rw [e] at h;exact ⟨r,rfl,(A8 h).symm⟩
theorem qPV {α:Type} {l:List α} {a b:α} {j:Nat} (h:(l++[a])[j]?=some b):l[j]?=some b\/(j=l.length/\b=a):=by
 rcases R8 j l.length with z | z | z
 ·rw [Q0 z] at h;exact .inl h
 ·subst z;simp at h;exact .inr ⟨rfl,h.symm⟩
 ·rw [c5 (by rw [A4,A9];omega)] at h
  cases h
theorem qC8 (a:Int) (zs:List Int):inV (.int a) (zs.map V.int)=decide (a ∈ zs):=by
 unfold inV
 induction zs with
 | nil=>simp
 | cons z r ih=>
  rw [D7,Y8,ih];have e:eqV (.int z) (.int a)=decide (a=z):=by
   by_cases h:z=a
   ·subst h;simp [eqV]
   ·have h':¬ a=z:=fun q=>h q.symm;simp [eqV,h,h']
  rw [e];simp [B7]
theorem qB8 (zs:List Int):(zs.map V.int).all qM3=true:=by
 rw [G9];intro x hx;obtain ⟨z,_,rfl⟩:=F4.mp hx
 rfl
def qI2 (ns st:List Int) (Aa wk:Int):V:=if wk ∈ st then .str "there" else if ∀ x ∈ ns,x ∈ st then (if Aa<=(st.length:Int) then .str "full" else .non) else .str "needs"
def qEH (st:List Int) (wk:Int):V:=if wk ∈ st then .non else .str "empty"
def qF3 (ns st:List Int) (Aa:Int) (Ac:Str) (wk:Int):V:=if Ac = "do" then qI2 ns st Aa wk else qEH st wk
def qS9:Sp:=fun vs H Q _=>∃ (a s mv:Addr) (Af:List (List Int)) (st ns:List Int) (Aa wk:Int) (Ac:Str),vs=[.ref a,.int Aa,.ref s,.ref mv]/\NetAt H a Af/\H s=some (.tup (st.map V.int))/\st.length<=1000/\H mv=some (.tup [.str Ac,.int wk])/\(Ac = "do"\/Ac = "clear")/\0<=wk/\Af[wk.toNat]?=some ns/\ns.length<=1000/\
 ∀ H',Same H H'->Q (qF3 ns st Aa Ac wk) H'
theorem qOH (ns st:List Int) (Aa:Int) (Ac:Str) (wk:Int):qF3 ns st Aa Ac wk=.non\/∃ y,qF3 ns st Aa Ac wk=.str y:=by
 unfold qF3 qI2 qEH
 split
 ·split
  ·exact .inr ⟨_,rfl⟩
  ·split
   ·split
    ·exact .inr ⟨_,rfl⟩
    ·exact .inl rfl
   ·exact .inr ⟨_,rfl⟩
 ·split
  ·exact .inl rfl
  ·exact .inr ⟨_,rfl⟩
theorem qAC:¬ (C4 "clear" = C4 "do"):=by decide +kernel
theorem qCG {xs:List V} {i:Int} {x:V} (h0:0<=i) (h:xs[i.toNat]?=some x):atI xs i=some x:=by
 have e:i=((i.toNat:Nat):Int):=by omega
 rw [e];exact qV1 (by simpa using h)
theorem NetAt.get {H:Hp} {a:Addr} {Af:List (List Int)} {ns:List Int} {i:Nat} (h:NetAt H a Af) (e:Af[i]?=some ns):∃ (rs:List Addr) (r:Addr),H a=some (.tup (rs.map V.ref))/\rs.length=Af.length/\(rs.map V.ref)[i]?=some (.ref r)/\H r=some (.tup (ns.map V.int)):=by
 obtain ⟨rs,h1,h2⟩:=h;obtain ⟨r,h3,h4⟩:=h2.get e;exact ⟨rs,r,h1,B2 h2,by rw [B5,h3];rfl,h4⟩
def qcJ (t:TS):TS:=fun D σ H=>∃ Pm:St->Hp->Prop,t { D with nx:=Pm } σ H/\∀ σ' H',Pm σ' H'->D.nx σ' H'
theorem qSM {X:Cx} {st:Stmt} {t:TS} (h:PS X st t):PS X st (qcJ t):=by
 intro Ab s σ H D I hq;obtain ⟨Pm,h1,h2⟩:=hq;refine thn (h Ab s σ H _ I h1) fun f s' q=>?_;cases f with
 | next=>obtain ⟨σ',H',I',q⟩:=q;exact ⟨σ',H',I',h2 _ _ q⟩
 | brk=>exact q
 | cont=>exact q
 | ret u=>exact q
theorem qLB {ns st:List Int} {i:Nat} {z:Int} (ez:ns[i]?=some z):((ns.take i).map fun x=>decide (x ∈ st)).map V.bl++[V.bl (decide (z ∈ st))]=((ns.take (i+1)).map fun x=>decide (x ∈ st)).map V.bl:=by
 rw [D5,ez,D4,B1,B1]
 rfl
theorem all_in {ns st:List Int}:(((ns.map fun x=>decide (x ∈ st)).all id)=true) ↔ ∀ x ∈ ns,x ∈ st:=by
 rw [G9]
 constructor
 ·intro h x hx;have:=h _ (F4.mpr ⟨x,hx,rfl⟩);exact of_decide_eq_true this
 ·intro h b hb;obtain ⟨x,hx,rfl⟩:=F4.mp hb;exact decide_eq_true (h x hx)
theorem qc5:bootBuiltins "zip" = some (.type "zip"):=by decide +kernel
def seqO (b:Bool) (xs:List V):HO:=match b with | true=>.tup xs | false=>.lst xs
def Leaf (x:V):Prop:=x=.non\/(∃ i,x=.int i)\/∃ y,x=.str y
def Alike (H:Hp):Nat->V->V->Prop
 | 0,x,y=>x=y/\Leaf x
 | n+1,x,y=>(x=y/\Leaf x)\/∃ (b:Bool) (a c:Addr) (xs ys:List V),x=.ref a/\y=.ref c/\H a=some (seqO b xs)/\H c=some (seqO b ys)/\xs.length=ys.length/\xs.length<=100000/\∀ (i:Nat) (x' y':V),xs[i]?=some x'->ys[i]?=some y'->Alike H n x' y'
theorem Alike.same {H H':Hp} (s:Same H H'):∀ {n:Nat} {x y:V},Alike H n x y->Alike H' n x y:=by
 intro n
 induction n with
 | zero=>exact fun {x y} h=>show x=y/\Leaf x from h
 | succ n ih=>
  rintro x y (h | ⟨b,a,c,xs,ys,e1,e2,h1,h2,hl,hb,h⟩)
  ·exact .inl h
  ·exact .inr ⟨b,a,c,xs,ys,e1,e2,s _ _ h1,s _ _ h2,hl,hb,fun i x' y' q1 q2=>ih (h i x' y' q1 q2)⟩
def qaP (n:Nat):Sp:=fun vs H Q _=>∃ x y:V,vs=[x,y]/\Alike H n x y/\∀ H',Same H H'->Q (.bl true) H'
theorem SqB.of {b:Bool} {K:PySem.W.Frag} {H:Hp} {a:Addr} {xs:List V} (h:H a=some (seqO b xs)):SqB b K H a xs:=by
 cases b
 ·exact SqL.of h
 ·exact SqT.of h
def tyOf (b:Bool):Value:=match b with | true=>.type "tuple" | false=>.type "list"
theorem qJB {b:Bool} {K:PySem.W.Frag} {H:Hp} {a:Addr} {xs:List V} (h:H a=some (seqO b xs)):TyOf K H (.ref a) (tyOf b):=by
 cases b
 ·exact TyOf.lst h
 ·exact TyOf.tup h
section
variable {K:PySem.W.Frag}
theorem qKY (b:Bool):L8 K (tyOf b) (.type "list")=some (!b):=by cases b <;> rfl
theorem qNN (b:Bool):L8 K (tyOf b) (.type "tuple")=some b:=by cases b <;> rfl
theorem qbN:L8 K (.type "str") (.type "list")=some false:=by rfl
theorem qbM:L8 K (.type "str") (.type "tuple")=some false:=by rfl
theorem qXX:L8 K (.type "str") (.type "str")=some true:=by rfl
theorem qbQ:L8 K (.type "int") (.type "list")=some false:=by rfl
theorem qbO:L8 K (.type "int") (.type "tuple")=some false:=by rfl
theorem qbP:L8 K (.type "int") (.type "str")=some false:=by rfl
theorem qXY:L8 K (.type "int") (.type "int")=some true:=by rfl
theorem qXZ:L8 K (.type "int") (.type "bool")=some false:=by rfl
end
theorem qP8 {i:Nat}:((E9 i true).map V.bl)++[V.bl true]=(E9 (i+1) true).map V.bl:=by
 rw [List.replicate_succ',B1];rfl
theorem qPB {n:Nat}:(E9 n true).all id=true:=by simp
theorem qDM {α:Type} {p:α->Bool} {l:List α} {i:Nat} {x:α} (h:l[i]?=some x):(l.take (i+1)).filter p=(l.take i).filter p++(if p x then [x] else []):=by
 rw [D5,h,D4,L6];by_cases hp:p x=true
 ·simp [hp]
 ·simp [hp]
abbrev MovL (H:Hp):List Addr->List (Str × Int)->Prop:=Paired fun r m=>H r=some (.tup [.str m.1,.int m.2])
theorem MovL.same {H H':Hp} {rs:List Addr} {ms:List (Str × Int)} (h:MovL H rs ms) (k:Same H H'):MovL H' rs ms:=by
 induction h with
 | nil=>exact .nil
 | cons r t ih=>exact .cons (k _ _ r) ih
theorem MovL.put {H:Hp} {p:Addr} {xs:List V} {o:HO} {rs:List Addr} {ms:List (Str × Int)} (h:MovL H rs ms) (hp:H p=some (.lst xs)):MovL (Ai H p o) rs ms:=by
 induction h with
 | nil=>exact .nil
 | cons r t ih=>exact .cons (by rw [qA8 (qBT r hp (by intro z;cases z))];exact r) ih
theorem qKS {α β:Type} {F:α->β->Prop} {a c:List α} {b d:List β} (h:Paired F a b) (k:Paired F c d):Paired F (a++c) (b++d):=by
 induction h with
 | nil=>exact k
 | cons r t ih=>exact .cons r ih
theorem qDF {α β:Type} {F:α->β->Prop}:∀ {l₁:List α} {l₂:List β} {i:Nat} {b:β},Paired F l₁ l₂->l₂[i]?=some b->∃ a,l₁[i]?=some a/\F a b
 | _,_,_,_,.nil,e=>by simp at e
 | _,_,0,_,.cons r _,e=>by simp at e;subst e;exact ⟨_,rfl,r⟩
 | _,_,i+1,b,.cons _ t,e=>by
  obtain ⟨a,h1,h2⟩:=qDF (i:=i) (b:=b) t (by simpa using e)
  exact ⟨a,by simpa using h1,h2⟩
theorem MovL.snoc {H:Hp} {rs:List Addr} {ms:List (Str × Int)} {r:Addr} {wo:Str} {x:Int} (h:MovL H rs ms) (e:H r=some (.tup [.str wo,.int x])):MovL H (rs++[r]) (ms++[(wo,x)]):=a9 h e
theorem MovL.app {H:Hp} {rs rs':List Addr} {ms ms':List (Str × Int)} (h:MovL H rs ms) (h':MovL H rs' ms'):MovL H (rs++rs') (ms++ms'):=qKS h h'
theorem MovL.alike {H:Hp} {l l':Addr} {rs rs':List Addr} {ms:List (Str × Int)} (h:MovL H rs ms) (h':MovL H rs' ms) (e:H l=some (.lst (rs.map V.ref))) (e':H l'=some (.lst (rs'.map V.ref))) (hl:ms.length<=100000):Alike H 2 (.ref l) (.ref l'):=by
 have l1:=B2 h;have l2:=B2 h';refine .inr ⟨false,l,l',_,_,rfl,rfl,e,e',by simp [l1,l2],by simp [l1];exact hl,fun i x y hx hy=>?_⟩
 obtain ⟨r,hr,rfl⟩:=qBX hx;obtain ⟨r',hr',rfl⟩:=qBX hy;obtain ⟨m,hm,e1⟩:=qAO h hr;obtain ⟨m',hm',e2⟩:=qAO h' hr';rw [hm] at hm';cases hm';refine .inr ⟨true,r,r',_,_,rfl,rfl,e1,e2,rfl,(by show 2<=100000;decide),fun i x y hx hy=>?_⟩
 rw [hx] at hy;cases hy;refine ⟨rfl,?_⟩;rcases i with _ | _ | i
 ·cases hx;exact .inr (.inr ⟨_,rfl⟩)
 ·cases hx;exact .inr (.inl ⟨_,rfl⟩)
 ·simp at hx
def wd (Af:List (List Int)) (st:List Int) (Aa:Int) (m:Str × Int):V:=qF3 ((Af[m.2.toNat]?).getD []) st Aa m.1 m.2
theorem qOS {n:Int} {i:Nat} (h:(i:Int)<n):(qD1 0 n)[i]?=some (i:Int):=by
 unfold qD1;rw [B5,A09 (by omega)]
 simp
theorem qCJ {α:Type} {l:List α} {n:Nat} (h:l.length=n):l.take n=l:=J8 (by omega)
theorem qFK {p:Int->Bool} {l:List Int} {i:Nat}:((l.take i).filter p).length<=i:=by
 have:=C7 p (l.take i);rw [C1] at this;omega
structure Cnt (n:Nat) (cs:List Int) (seen:List Int):Prop where
 len:cs.length=n
 at_:∀ x:Nat,x<n->∃ c,cs[x]?=some c/\0<=c/\(c=0 ↔ (x:Int) ∉ seen)
theorem qQ8:∀ {Af:List (List Int)} {B:Nat},(∀ zs ∈ Af,zs.length<=B)->Af.flatten.length<=Af.length * B
 | [],B,_=>by simp
 | zs::Af,B,h=>by
  have h1:=h zs (by simp)
  have h2:=qQ8 (Af:=Af) (B:=B) fun ys hy=>h ys (by simp [hy])
  rw [O3,A4,B3,Nat.add_mul];omega
theorem qAX {n:Nat} (h:n<=1000000):n<sizeLine:=by rw [sizeLine_eq];omega
inductive Nd (Af:List (List Int)) (Ad:List Int):Int->Prop
 | ask {x:Int}:x ∈ Ad->Nd Af Ad x
 | need {w y:Int} {zs:List Int}:Nd Af Ad w->Af[w.toNat]?=some zs->y ∈ zs->Nd Af Ad y
structure KeysI (Ah:List (Key × V)) (ks:List Int):Prop where
 keys:Ah.map (·.1)=ks.map F2
 nd:ks.Nodup
theorem qbF {ks:List Int} {n:Nat} (h:ks.Nodup) (b:∀ x ∈ ks,0<=x/\x<(n:Int)):ks.length<=n:=by
 have sub:ks ⊆ (C8 n).map fun (i:Nat)=>(i:Int):=fun x hx=>by
  have:=b x hx;exact F4.mpr ⟨x.toNat,J1.mpr (by omega),by omega⟩
 have:=J4 h sub;simpa using this
structure Fnd (Af:List (List Int)) (Ad ks:List Int) (j:Int):Prop where
 in_:∀ x ∈ ks,(0<=x/\x<(Af.length:Int))/\Nd Af Ad x
 ask:∀ x ∈ Ad,x ∈ ks
 clo:∀ (w:Nat) zs,j<=(w:Int)->(w:Int) ∈ ks->Af[w]?=some zs->∀ y ∈ zs,y ∈ ks
theorem Fnd.all {Af:List (List Int)} {Ad ks:List Int} (wf:WFn Af) (h:Fnd Af Ad ks 0) (x:Int):x ∈ ks ↔ Nd Af Ad x:=by
 refine ⟨fun hx=>(h.in_ x hx).2,fun hx=>?_⟩
 induction hx with
 | ask m=>exact h.ask _ m
 | @need w y zs _ e m ih=>
  have b:=(h.in_ w ih).1;exact h.clo w.toNat zs (by omega) (by rw [show ((w.toNat:Nat):Int)=w by omega];exact ih) e y m
def qJ3 (Af:List (List Int)) (Ad zs:List Int):Prop:=Rise (Af.length:Int) zs/\∀ x,x ∈ zs ↔ Nd Af Ad x
theorem qOJ:∀ {l m:List Int},l.Pairwise (·<·)->m.Pairwise (·<·)->(∀ x,x ∈ l ↔ x ∈ m)->l=m
 | [],[],_,_,_=>rfl
 | [],y::m,_,_,h=>absurd ((h y).mpr (by simp)) (by simp)
 | x::l,[],_,_,h=>absurd ((h x).mp (by simp)) (by simp)
 | x::l,y::m,hl,hm,h=>by
  have l1:=G0.mp hl;have m1:=G0.mp hm;have exy:x=y:=by
   rcases B7.mp ((h x).mp (by simp)) with e | e
   ·exact e
   ·rcases B7.mp ((h y).mpr (by simp)) with e2 | e2
    ·exact e2.symm
    ·have:=m1.1 x e;have:=l1.1 y e2;omega
  subst exy;rw [qOJ l1.2 m1.2 fun z=>?_]
  constructor
  ·intro hz;rcases B7.mp ((h z).mp (by simp [hz])) with e | e
   ·have:=l1.1 z hz;omega
   ·exact e
  ·intro hz;rcases B7.mp ((h z).mpr (by simp [hz])) with e | e
   ·have:=m1.1 z hz;omega
   ·exact e
theorem qaH {ws:List Int} (up:ws.Pairwise (·<·)) {i j:Nat} {x y:Int} (hx:ws[i]?=some x) (hy:ws[j]?=some y):i<j ↔ x<y:=by
 obtain ⟨hi,ex⟩:=A1.mp hx;obtain ⟨hj,ey⟩:=A1.mp hy;have key:∀ a b (ha:a<ws.length) (hb:b<ws.length),a<b->ws[a]<ws[b]:=fun a b ha hb hab=>J6.mp up a b ha hb hab
 constructor
 ·intro h;have:=key i j hi hj h;omega
 ·intro h;rcases R8 i j with z | z | z
  ·exact z
  ·subst z;omega
  ·have:=key j i hj hi z;omega
theorem qT5 {Af:List (List Int)} (wf:WFn Af) (w:Nat):Rise (w:Int) ((Af[w]?).getD []):=by
 cases e:Af[w]? with
 | none=>exact Rise.nil
 | some zs=>exact wf w zs e
abbrev Mv:=Str × Int
def nd (Af:List (List Int)) (w:Int):List Int:=(Af[w.toNat]?).getD []
theorem qD3 {Af:List (List Int)} {w:Int} {zs:List Int} (h:Af[w.toNat]?=some zs):nd Af w=zs:=by unfold nd;rw [h];rfl
def qXW (Af:List (List Int)):List Int->Int->Option Int
 | [],_=>none
 | w::r,y=>match qXW Af r y with
  | some v=>some v
  | none=>if y ∈ nd Af w then some w else none
def qLT (Af:List (List Int)) (zs:List Int) (j:Nat) (x:Int):Prop:=∃ v ∈ zs.drop j,x ∈ nd Af v
instance (Af:List (List Int)) (zs:List Int) (j:Nat) (x:Int):Decidable (qLT Af zs j x):=by unfold qLT;infer_instance
def clrs (Af:List (List Int)) (Ad zs:List Int) (w:Int):List Int:=(nd Af w).filter fun y=>decide (qXW Af zs y=some w/\y ∉ Ad)
def qcW (Af:List (List Int)) (Ad zs:List Int) (w:Int):List Mv:=("do",w)::(clrs Af Ad zs w).map fun y=>("clear",y)
def qb2 (Af:List (List Int)) (Ad zs:List Int):List Mv:=zs.flatMap (qcW Af Ad zs)
inductive Run (Af:List (List Int)) (Aa:Int):List Int->List Mv->List Int->Prop
 | nil {s:List Int}:Run Af Aa s [] s
 | do_ {s s' t:List Int} {w:Int} {ms:List Mv}:w ∉ s->(∀ y ∈ nd Af w,y ∈ s)->(s.length:Int)<Aa->s'.Perm (s++[w])->s'.Pairwise (·<·)->Run Af Aa s' ms t->Run Af Aa s (("do",w)::ms) t
 | clear {s t:List Int} {w:Int} {ms:List Mv}:w ∈ s->Run Af Aa (s.filter fun x=>decide (x ≠ w)) ms t->Run Af Aa s (("clear",w)::ms) t
def qB2 (ms:List Mv):List Int:=ms.filterMap fun (m:Mv)=>if m.1=C4 "do" then some m.2 else none
theorem qD6 (a b:List Mv):qB2 (a++b)=qB2 a++qB2 b:=List.filterMap_append
theorem qI4:∀ {s:List Int} {w:Int},s.Nodup->w ∈ s->(s.filter fun x=>decide (x ≠ w)).length+1=s.length
 | [],w,_,h=>by cases h
 | x::s,w,n,h=>by
  have n2:=Q4.mp n;by_cases e:x=w
  ·subst e;have:s.filter (fun y=>decide (y ≠ x))=s:=i7.mpr fun y hy=>decide_eq_true fun z=>n2.1 (z ▸ hy);rw [L0,if_neg (by simp),this,B3]
  ·rw [L0,if_pos (by simpa using e),B3,B3,qI4 n2.2 ((B7.mp h).resolve_left fun z=>e z.symm)]
theorem Run.len {Af:List (List Int)} {Aa:Int} {s t:List Int} {ms:List Mv} (h:Run Af Aa s ms t):s.Nodup->ms.length+t.length=s.length+2 * (qB2 ms).length:=by
 induction h with
 | nil=>intro _;simp [qB2]
 | @do_ s s' t w ms h1 h2 h3 h4 h5 h6 ih=>
  intro _;have e:=ih (h5.imp fun {a b} hab=>by omega)
  have l:=h4.length_eq;rw [A4,A9] at l;have d:(qB2 (("do",w)::ms)).length=(qB2 ms).length+1:=by simp [qB2]
  rw [d,B3];omega
 | @clear s t w ms h1 h2 ih=>
  intro n;have e:=ih (n.filter _);have l:=qI4 n h1;have d:qB2 (("clear",w)::ms)=qB2 ms:=by unfold qB2;rw [O0,if_neg qAC]
  rw [d,B3];omega
section
variable {Af:List (List Int)} {Ad zs:List Int}
theorem qR3 (wf:WFn Af) (N:qJ3 Af Ad zs) {i:Nat} {w y:Int} (h:zs[i]?=some w) (hy:y ∈ nd Af w):y ∈ zs.take i/\y<w:=by
 have mw:=B4 h;have wb:=N.1.in_ w mw;have hw:w.toNat<Af.length:=by omega
 have e:=A3 hw;rw [qD3 e] at hy;have yb:=(wf w.toNat _ e).in_ y hy;have my:y ∈ zs:=(N.2 y).mpr (.need ((N.2 w).mp mw) e hy);obtain ⟨k,hk⟩:=List.getElem?_of_mem my;have lt:k<i:=(qaH N.1.up hk h).mpr (by omega)
 refine ⟨B4 (i:=k) (by rw [Q7 lt];exact hk),by omega⟩
theorem qKX {i:Nat} {w x:Int} (h:zs[i]?=some w):qLT Af zs i x ↔ x ∈ nd Af w\/qLT Af zs (i+1) x:=by
 obtain ⟨hi,e⟩:=A1.mp h;unfold qLT;rw [D6 hi,e];simp only [B7,exists_eq_or_imp]
theorem qbE (wf:WFn Af) (w:Int):(nd Af w).Pairwise (·<·):=(qT5 wf w.toNat).up
end
def PlanAt (H:Hp) (l:Addr) (ms:List Mv):Prop:=∃ rs:List Addr,H l=some (.lst (rs.map V.ref))/\MovL H rs ms
theorem PlanAt.same {H H':Hp} {l:Addr} {ms:List Mv} (h:PlanAt H l ms) (k:Same H H'):PlanAt H' l ms:=by
 obtain ⟨rs,h1,h2⟩:=h;exact ⟨rs,k _ _ h1,h2.same k⟩
def qV3 (H:Hp) (t:Addr) (Af:List (List Int)) (Ad:List Int):Prop:=H t=some (.tup (Ad.map V.int))/\Rise (Af.length:Int) Ad
def qPQ:Sp:=fun vs H Q _=>∃ (a t:Addr) (Af:List (List Int)) (Ad:List Int),vs=[.ref a,.ref t]/\NetAt H a Af/\WFn Af/\Af.length<=1000/\qV3 H t Af Ad/\
 ∀ l zs H',Same H H'->H l=none->H' l=some (.lst (zs.map V.int))->qJ3 Af Ad zs->Q (.ref l) H'
def qPR:Sp:=fun vs H Q _=>∃ (a mv:Addr) (Af:List (List Int)) (Ac:Str) (wk:Int),vs=[.ref a,.ref mv]/\NetAt H a Af/\H mv=some (.tup [.str Ac,.int wk])/\(Ac = "do"\/Ac = "clear")/\0<=wk/\wk<(Af.length:Int)/\∀ H',Same H H'->Q (.bl true) H'
def lv (L:List Int) (x:Int):Int:=(L[x.toNat]?).getD 0
structure Lev (Af:List (List Int)) (L:List Int):Prop where
 len:L.length=Af.length
 at_:∀ (i:Nat) zs,Af[i]?=some zs->∃ l,L[i]?=some l/\0<=l/\l<=(i:Int)/\(∀ y ∈ zs,lv L y+1<=l)/\(l=0\/∃ y ∈ zs,lv L y+1=l)
structure Fd (n:Nat) (L:List Int) (S:Int->Prop) (fs:List Int):Prop where
 len:fs.length=n
 at_:∀ w:Nat,w<n->(S w->fs[w]?=some (lv L w))/\(¬ S w->fs[w]?=some 0)
def nds (Af:List (List Int)) (ws:List Int):List Int:=(ws.map (nd Af)).flatten
structure CntX (n:Nat) (cs:List Int) (seen:List Int):Prop where
 len:cs.length=n
 at_:∀ x:Nat,x<n->cs[x]?=some ((seen.count (x:Int):Nat):Int)
def Beh (st st':List Int) (Ac:Str) (wk:Int):Prop:=(Ac = "do"->st'.Perm (st++[wk])/\st'.Pairwise (·<=·))/\(Ac = "clear"->st'=st.filter fun x=>decide (x ≠ wk))
theorem qQU:∀ {l m:List Int},l.Perm m->l.Pairwise (·<=·)->m.Pairwise (·<=·)->l=m:=by
 intro l m hp h1 h2;exact hp.eq_of_pairwise (fun a b _ _ h3 h4=>Int.le_antisymm h3 h4) h1 h2
theorem Beh.one {st a b:List Int} {Ac:Str} {wk:Int} (hw:Ac = "do"\/Ac = "clear") (h1:Beh st a Ac wk) (h2:Beh st b Ac wk):a=b:=by
 rcases hw with e | e
 ·obtain ⟨p1,s1⟩:=h1.1 e;obtain ⟨p2,s2⟩:=h2.1 e;exact qQU (p1.trans p2.symm) s1 s2
 ·rw [h1.2 e,h2.2 e]
def qGS:Sp:=fun vs H Q _=>∃ (s mv:Addr) (st:List Int) (Ac:Str) (wk:Int),vs=[.ref s,.ref mv]/\H s=some (.tup (st.map V.int))/\st.length<=62/\H mv=some (.tup [.str Ac,.int wk])/\(Ac = "do"\/Ac = "clear")/\
 ∀ r st' H',Same H H'->H' r=some (.tup (st'.map V.int))->Beh st st' Ac wk->Q (.ref r) H'
inductive Play (Af:List (List Int)) (Aa:Int):List Int->List Mv->List (List Int)->V->Prop
 | nil {st}:Play Af Aa st [] [] .non
 | stop {st m ms w0}:wd Af st Aa m=.str w0->Play Af Aa st (m::ms) [] (.str w0)
 | go {st st' m ms sts v}:wd Af st Aa m=.non->Beh st st' m.1 m.2->Play Af Aa st' ms sts v->Play Af Aa st (m::ms) (st'::sts) v
def MvOk (Af:List (List Int)) (ms:List Mv):Prop:=∀ m ∈ ms,(m.1 = "do"\/m.1 = "clear")/\0<=m.2/\m.2<(Af.length:Int)
theorem Play.one {Af:List (List Int)} {Aa:Int} {st:List Int} {ms:List Mv} {a b:List (List Int)} {v u:V} (hm:MvOk Af ms) (h1:Play Af Aa st ms a v) (h2:Play Af Aa st ms b u):a=b/\v=u:=by
 induction h1 generalizing b u with
 | nil=>cases h2;exact ⟨rfl,rfl⟩
 | stop e=>
  cases h2 with
  | stop e2=>rw [e] at e2;exact ⟨rfl,e2⟩
  | go e2 _ _=>rw [e] at e2;cases e2
 | go e bh p ih=>
  cases h2 with
  | stop e2=>rw [e] at e2;cases e2
  | go e2 bh2 p2=>
   have:=bh.one (hm _ (by simp)).1 bh2
   subst this;obtain ⟨x,y⟩:=ih (fun m hm'=>hm m (A7 _ hm')) p2;exact ⟨by rw [x],y⟩
def StandsAt (H:Hp) (l:Addr) (sts:List (List Int)):Prop:=∃ rs:List Addr,H l=some (.lst (rs.map V.ref))/\NetL H rs sts
theorem NetL.sm {H H':Hp} {rs:List Addr} {sts:List (List Int)} (h:NetL H rs sts) (s:Same H H'):NetL H' rs sts:=h.same fun r zs e=>s _ _ e
theorem StandsAt.same {H H':Hp} {l:Addr} {sts:List (List Int)} (h:StandsAt H l sts) (s:Same H H'):StandsAt H' l sts:=by
 obtain ⟨rs,a,b⟩:=h;exact ⟨rs,s _ _ a,NetL.sm b s⟩
theorem NetL.put {H:Hp} {p:Addr} {xs:List V} {o:HO} {rs:List Addr} {sts:List (List Int)} (h:NetL H rs sts) (hp:H p=some (.lst xs)):NetL (Ai H p o) rs sts:=h.same fun r zs e=>by
 rw [qA8 (qBT e hp (by intro z;cases z))]
 exact e
theorem MovL.keep {d c:Addr} {H H':Hp} {t:Int} {ns:List Int} {rs:List Addr} {ms:List Mv} (h:MovL H rs ms) (S:StAt H d c t ns) (k:Keep d c H H'):MovL H' rs ms:=
 qB3 h fun r m e=>k _ _ e (S.tup e).1 (S.tup e).2
theorem PlanAt.keep {d c:Addr} {H H':Hp} {t:Int} {ns:List Int} {l:Addr} {ms:List Mv} (h:PlanAt H l ms) (S:StAt H d c t ns) (k:Keep d c H H') (nd:l ≠ d) (nc:l ≠ c):PlanAt H' l ms:=by
 obtain ⟨rs,a,b⟩:=h;exact ⟨rs,k _ _ a nd nc,MovL.keep b S k⟩
theorem MvOk.app {Af:List (List Int)} {a b:List Mv} (h:MvOk Af a) (k:MvOk Af b):MvOk Af (a++b):=fun m hm=>by
 rcases B8.mp hm with x | x
 ·exact h m x
 ·exact k m x
theorem MvOk.one {Af:List (List Int)} {Ac:Str} {wk:Int} (h:Ac = "do"\/Ac = "clear") (h0:0<=wk) (h1:wk<(Af.length:Int)):MvOk Af [(Ac,wk)]:=fun m hm=>by
 rw [A6.mp hm];exact ⟨h,h0,h1⟩
theorem StAt.put' {H:Hp} {d c l:Addr} {t:Int} {ns:List Int} {o:HO} (S:StAt H d c t ns) (h1:l ≠ d) (h2:l ≠ c):StAt (Ai H l o) d c t ns:=⟨by rw [qA8 (J2 h1)];exact S.dict,by rw [qA8 (J2 h2)];exact S.list,S.ne,S.len,S.pos⟩
theorem qN0 {α:Type} {l:List α} {i:Nat} {x:α} (h:l[i]?=some x):l.take (i+1)=l.take i++[x]:=by
 rw [List.take_succ,h]
 rfl
def lens (sts:List (List Int)):List Int:=sts.map fun z=>(z.length:Int)
theorem Play.kind {Af:List (List Int)} {Aa:Int} {st:List Int} {ms:List Mv} {a:List (List Int)} {v:V} (h:Play Af Aa st ms a v):v=.non\/∃ w0,v=.str w0:=by
 induction h with
 | nil=>exact .inl rfl
 | stop _=>exact .inr ⟨_,rfl⟩
 | go _ _ _ ih=>exact ih
structure YNa (K:PySem.W.Frag) (C:Addr):Prop where
 Af:qQO K C "net"
 Aa:qQO K C "rooms"
 made:qQO K C "made"
 stands:qQO K C "stands"
def yfs (a:Addr) (Aa:Int) (lm ls:Addr):List (Str × V):=putF "stands" (.ref ls) (putF "made" (.ref lm) (putF "rooms" (.int Aa) (putF "net" (.ref a) [])))
def qH3 (st:List Int):List (List Int)->List Int
 | []=>st
 | s::r=>qH3 s r
structure YardAt (C:Addr) (H:Hp) (y a lm ls:Addr) (Af:List (List Int)) (Aa:Int) (ms:List Mv) (sts:List (List Int)):Prop where
 obj:∃ dx,H y=some (.ins C dx (yfs a Aa lm ls))
 nat:NetAt H a Af
 wf:WFn Af
 n400:Af.length<=400
 r0:0<=Aa
 r62:Aa<=62
 made:PlanAt H lm ms
 ok:MvOk Af ms
 len:ms.length<=10000
 stands:StandsAt H ls ([]::sts)
 play:Play Af Aa [] ms sts .non
 ne:lm ≠ ls
def off (n:Nat):Nat->Nat
 | 0=>0
 | r+1=>off n r+(n - r)
abbrev qbV (s:Nat × Nat):List Key:=[F2 (s.1:Int),F2 (s.2:Int)]
theorem Paired.app {α β:Type} {F:α->β->Prop} {l₁ m₁:List α} {l₂ m₂:List β} (h:Paired F l₁ l₂) (h2:Paired F m₁ m₂):Paired F (l₁++m₁) (l₂++m₂):=by
 induction h with
 | nil=>exact h2
 | cons r t ih=>exact .cons r ih
theorem none_of {H H':Hp} {p:Addr} (s:Same H H') (h:H' p=none):H p=none:=by
 cases e:H p with
 | none=>rfl
 | some o=>rw [s _ _ e] at h;cases h
structure NumP (rs:List Addr) (ss:List (Nat × Nat)) (j:Nat) (ps:List (List Key × Addr × V)):Prop where
 keys:ps.map (·.1)=(ss.take j).map qbV
 at_:∀ (k:Nat) (s:Nat × Nat),k<j->ss[k]?=some s->∃ a,ps[k]?=some (qbV s,a,.int (k:Int))
def qZR (ins:List (Int × Int)) (x:Int):Option Int:=(ins.find? fun q=>decide (q.1=x)).map (·.2)
def qcP (ins:List (Int × Int)) (i:Nat):Nat:=((C8 i).filter fun (x:Nat)=>(qZR ins (x:Int)).isNone).length
def numO (m:Nat) (ins:List (Int × Int)) (x:Nat):Int:=match qZR ins (x:Int) with | some v=>v | none=>((m+qcP ins x:Nat):Int)
structure InsAt (H:Hp) (i:Addr) (ins:List (Int × Int)):Prop where
 at_:∃ rs:List Addr,qdC H i (rs.map V.ref)/\Paired (fun r (q:Int × Int)=>H r=some (.tup [.int q.1,.int q.2])) rs ins
 nodup:(ins.map (·.1)).Nodup
structure InsOk (m:Nat) (other:List (List Int)) (k:Nat) (ins:List (Int × Int)) (fs:List Int):Prop where
 st:∀ q ∈ ins,(0<=q.1/\q.1<(k:Int))/\other[q.1.toNat]?=some []/\0<=q.2/\q.2<(m:Int)
 nd1:(ins.map (·.1)).Nodup
 nd2:(ins.map (·.2)).Nodup
 fr:fs.Nodup
 fin:∀ x ∈ fs,(0<=x/\x<(m:Int))/\x ∉ ins.map (·.2)
 len:ins.length<=k
def pm (m:Mv):Int:=if m.1 = "do" then 1 else -1
def peak:Int->List Mv->Int
 | n,[]=>n
 | n,m::ms=>max n (peak (n+pm m) ms)
def qDA (ms:List Mv):Int:=(ms.map pm).sum
theorem qCB (m:Mv) (ms:List Mv):qDA (m::ms)=pm m+qDA ms:=by unfold qDA;rw [D7,List.sum_cons]
theorem qQZ (w:Int):pm ("do",w)=1:=rfl
theorem qG0 (w:Int):pm ("clear",w) = -1:=if_neg (qAC)
theorem qLO:∀ (n:Int) (ms:List Mv),n<=peak n ms
 | n,[]=>U1 _
 | n,m::ms=>by show n<=max n _;omega
theorem Run.app {Af:List (List Int)} {Aa:Int} {s t u:List Int} {a b:List Mv} (h:Run Af Aa s a t) (k:Run Af Aa t b u):Run Af Aa s (a++b) u:=by
 induction h with
 | nil=>exact k
 | do_ h1 h2 h3 h4 h5 _ ih=>exact .do_ h1 h2 h3 h4 h5 (ih k)
 | clear h1 _ ih=>exact .clear h1 (ih k)
theorem Run.up {Af:List (List Int)} {Aa:Int} {s t:List Int} {a:List Mv} (h:Run Af Aa s a t):s.Pairwise (·<·)->t.Pairwise (·<·):=by
 induction h with
 | nil=>exact id
 | do_ h1 h2 h3 h4 h5 _ ih=>exact fun _=>ih h5
 | clear h1 _ ih=>exact fun h=>ih (h.filter _)
theorem qBK {s:List Int} (h:s.Pairwise (·<·)):s.Nodup:=h.imp fun {a b} hab=>by omega
def less (th s:List Int):List Int:=s.filter fun x=>decide (x ∉ th)
def qcZ (th:List Int) (ms:List Mv):List Mv:=ms.filter fun m=>decide (m.2 ∉ th)
theorem Run.play {Af:List (List Int)} {Aa:Int} {s t:List Int} {ms:List Mv} (h:Run Af Aa s ms t):s.Pairwise (·<·)->∃ sts,Play Af Aa s ms sts .non/\qH3 s sts=t/\topD none (lens (s::sts))=some (peak (s.length:Int) ms)/\∀ z ∈ sts,(z.length:Int)<=peak (s.length:Int) ms:=by
 induction h with
 | nil=>intro _;exact ⟨[],.nil,rfl,rfl,fun _ z=>nomatch z⟩
 | @do_ s s' t w ms h1 h2 h3 h4 h5 h6 ih=>
  intro n;obtain ⟨sts,p,l,tp,al⟩:=ih h5;have ln:=h4.length_eq;rw [A4,A9] at ln;have pk:peak (s.length:Int) (("do",w)::ms)=max (s.length:Int) (peak (s'.length:Int) ms):=by
   show max _ (peak ((s.length:Int)+pm ("do",w)) ms)=_
   rw [qQZ,show ((s.length:Int)+1)=(s'.length:Int) by omega]
  have pg:=qLO (s'.length:Int) ms;refine ⟨s'::sts,.go ?_ ⟨fun _=>⟨h4,h5.imp fun {a b} hab=>by omega⟩,fun z=>absurd z.symm qAC⟩ p,l,?_,fun z hz=>?_⟩
  ·unfold wd qF3 qI2;rw [if_pos rfl,if_neg h1,if_pos (show ∀ x ∈ (Af[w.toNat]?).getD [],x ∈ s from h2),if_neg (by omega)]
  ·unfold lens at tp ⊢;rw [D7] at tp;rw [D7,D7,pk];show some (topI _ _)=_;have e:topI (s'.length:Int) (sts.map fun z=>(z.length:Int))=peak (s'.length:Int) ms:=A8 tp;have g1:=qJC ((s'.length:Int)::sts.map fun z=>(z.length:Int)) (s.length:Int);have g2:=qJC (sts.map fun z=>(z.length:Int)) (s'.length:Int);rw [e] at g2;congr 1;have b1:∀ x ∈ (s'.length:Int)::sts.map (fun z=>(z.length:Int)),x<=peak (s'.length:Int) ms:=fun x hx=>by
    rcases B7.mp hx with q | q
    ·omega
    ·exact g2.2.1 x q
   have b2:peak (s'.length:Int) ms ∈ (s'.length:Int)::sts.map (fun z=>(z.length:Int)):=by
    rcases g2.2.2 with q | q
    ·rw [q];exact C0
    ·exact A7 _ q
   have b3:=g1.2.1 _ b2;rcases g1.2.2 with q | q
   ·omega
   ·have:=b1 _ q;omega
  ·rw [pk];rcases B7.mp hz with q | q
   ·rw [q];omega
   ·have:=al z q;omega
 | @clear s t w ms h1 h2 ih=>
  intro n;obtain ⟨sts,p,l,tp,al⟩:=ih (n.filter _);have ln:=qI4 (qBK n) h1;generalize hs':(s.filter fun x=>decide (x ≠ w))=s' at p l tp al ln;have pk:peak (s.length:Int) (("clear",w)::ms)=max (s.length:Int) (peak (s'.length:Int) ms):=by
   show max _ (peak ((s.length:Int)+pm ("clear",w)) ms)=_;rw [qG0,show ((s.length:Int) + -1)=(s'.length:Int) by omega]
  have pg:=qLO (s'.length:Int) ms;refine ⟨s'::sts,.go ?_ ⟨fun z=>absurd z qAC,fun _=>hs'.symm⟩ p,l,?_,fun z hz=>?_⟩
  ·unfold wd qF3 qEH;rw [if_neg (show ¬ (("clear",w):Mv).1 = "do" from fun z=>qAC z),if_pos h1]
  ·unfold lens at tp ⊢;rw [D7] at tp;rw [D7,D7,pk];show some (topI _ _)=_;have e:topI (s'.length:Int) (sts.map fun z=>(z.length:Int))=peak (s'.length:Int) ms:=A8 tp;have g1:=qJC ((s'.length:Int)::sts.map fun z=>(z.length:Int)) (s.length:Int);have g2:=qJC (sts.map fun z=>(z.length:Int)) (s'.length:Int);rw [e] at g2;congr 1;have b1:∀ x ∈ (s'.length:Int)::sts.map (fun z=>(z.length:Int)),x<=peak (s'.length:Int) ms:=fun x hx=>by
    rcases B7.mp hx with q | q
    ·omega
    ·exact g2.2.1 x q
   have b2:peak (s'.length:Int) ms ∈ (s'.length:Int)::sts.map (fun z=>(z.length:Int)):=by
    rcases g2.2.2 with q | q
    ·rw [q];exact C0
    ·exact A7 _ q
   have b3:=g1.2.1 _ b2;rcases g1.2.2 with q | q
   ·omega
   ·have:=b1 _ q;omega
  ·rw [pk];rcases B7.mp hz with q | q
   ·rw [q];omega
   ·have:=al z q;omega
def pbGo (num:Int->Int) (jn:Int->Bool) (pl:Int->List Mv):List Int->List Mv->List Mv
 | _,[]=>[]
 | th,m::ms=>if m.1 = "clear" then ("clear",num m.2)::pbGo num jn pl (th.filter fun x=>decide (x ≠ num m.2)) ms else (if jn m.2 then qcZ th (pl (num m.2)) else [("do",num m.2)])++pbGo num jn pl (th++[num m.2]) ms
structure ThOk (n:Nat) (num:Int->Int) (th s:List Int):Prop where
 perm:th.Perm (s.map num)
 rise:Rise (n:Int) s
theorem Run.inv {Af:List (List Int)} {Aa:Int} {s t:List Int} {m:Mv} {ms:List Mv} (h:Run Af Aa s (m::ms) t):(m.1 = "do"/\∃ s',m.2 ∉ s/\(∀ y ∈ nd Af m.2,y ∈ s)/\(s.length:Int)<Aa/\s'.Perm (s++[m.2])/\s'.Pairwise (·<·)/\Run Af Aa s' ms t)\/(m.1 = "clear"/\m.2 ∈ s/\Run Af Aa (s.filter fun x=>decide (x ≠ m.2)) ms t):=by
 cases h with
 | do_ h1 h2 h3 h4 h5 h6=>exact .inl ⟨rfl,_,h1,h2,h3,h4,h5,h6⟩
 | clear h1 h2=>exact .inr ⟨rfl,h1,h2⟩
theorem qWY {α:Type} {l:List α} {k:Nat} {x:α} (h:l[k]?=some x):l.drop k=x::l.drop (k+1):=by
 obtain ⟨hi,e⟩:=A1.mp h;rw [D6 hi,e]
structure TopO (Af:List (List Int)) (zs:List Int):Prop where
 nodup:zs.Nodup
 in_:∀ x ∈ zs,0<=x/\x<(Af.length:Int)
 bef:∀ (p:Nat) (o:Int),zs[p]?=some o->∀ x ∈ nd Af o,x ∈ zs.take p
 aft:∀ (p:Nat) (o:Int),zs[p]?=some o->p+1<zs.length->qLT Af zs (p+1) o
theorem qJA (k j:Key):∀ Ah:List (Key × V),valV (qEB Ah k) j=if j=k then none else valV Ah j
 | []=>by simp [qEB,valV]
 | p::r=>by
  by_cases e:p.1=k
  ·rw [qU4 e,qJA k j r];by_cases ej:j=k
   ·rw [if_pos ej,if_pos ej]
   ·rw [if_neg ej,if_neg ej,qBJ (fun z=>ej (z.symm.trans e))]
  ·rw [qU5 e];by_cases ep:p.1=j
   ·rw [qBU ep,qBU ep,if_neg (fun z=>e (ep.trans z))]
   ·rw [qBJ ep,qBJ ep,qJA k j r]
structure Begun (Af:List (List Int)) (some_ ord:List Int):Prop where
 nodup:ord.Nodup
 sub:∀ x ∈ ord,x ∈ some_
 bef:∀ (p:Nat) (o:Int),ord[p]?=some o->∀ x ∈ nd Af o,x ∈ ord.take p
noncomputable def ndOf (Af:List (List Int)) (Ad:List Int):List Int:=by
 classical
 exact if h:∃ zs,qJ3 Af Ad zs then Classical.choose h else []
noncomputable def qXP (Af:List (List Int)) (w:Int):List Mv:=qb2 Af [w] (ndOf Af [w])
def numF (m:Nat) (ins:List (Int × Int)) (x:Int):Int:=numO m ins x.toNat
def qd0 (ins:List (Int × Int)) (x:Int):Bool:=(qZR ins x).isSome
noncomputable def qdE (one:List (List Int)) (ins:List (Int × Int)) (ms:List Mv):List Mv:=pbGo (numF one.length ins) (qd0 ins) (qXP one) [] ms
noncomputable def qcY (one:List (List Int)) (ins:List (Int × Int)):Int:=(topD (some 1) (ins.map fun q=>peak 0 (qXP one q.2))).getD 0
noncomputable def qdD (one:List (List Int)) (ins:List (Int × Int)) (ms:List Mv):Int:=match ins with | []=>peak 0 ms | _::_=>qcY one ins+peak 0 ms - 1
structure BehIn (H:Hp) (a b i l:Addr) (one other:List (List Int)) (ins:List (Int × Int)) (ms:List Mv) (st:List Int):Prop where
 gA:NetAt H a one
 wf1:WFn one
 gB:NetAt H b other
 wf2:WFn other
 gI:InsAt H i ins
 ok:∃ fs,InsOk one.length other other.length ins fs
 plan:PlanAt H l ms
 mv:MvOk other ms
 len:ms.length<=400
 run:Run other (other.length:Int) [] ms st
 o1:1<=one.length
 o2:one.length<=60
 o3:1<=other.length
 o4:other.length<=60
theorem qPX {Af:List (List Int)} {Aa:Int} {ms:List Mv} {st:List Int} (mv:MvOk Af ms) (R:Run Af Aa [] ms st):(∀ sts m,Play Af Aa [] ms sts .non->topD none (lens ([]::sts))=some m->m=peak 0 ms)/\∀ sts w0,¬ Play Af Aa [] ms sts (.str w0):=by
 obtain ⟨sts0,p0,l0,t0,_⟩:=R.play .nil;refine ⟨fun sts m p h=>?_,fun sts w0 p=>?_⟩
 ·rw [(Play.one mv p p0).1,t0] at h;exact (A8 h).symm
 ·have:=(Play.one mv p p0).2;cases this
theorem qR5 {n:Nat} {st:List Int} {w:Int} (h:Rise (n:Int) st) (hn:w ∉ st) (w0:0<=w) (w1:w<(n:Int)):st.length<n:=by
 have:=qbF (ks:=st++[w]) (n:=n) (qJQ h.nodup hn) (fun x hx=>by
  rcases B8.mp hx with q | q
  ·exact h.in_ x q
  ·rw [A6.mp q];exact ⟨w0,w1⟩)
 rw [A4,A9] at this;omega
structure TwoIn (H:Hp) (a b i:Addr) (one other:List (List Int)) (ins:List (Int × Int)):Prop where
 gA:NetAt H a one
 wf1:WFn one
 gB:NetAt H b other
 wf2:WFn other
 gI:InsAt H i ins
 ok:∃ fs,InsOk one.length other other.length ins fs
 o1:1<=one.length
 o2:one.length<=40
 o3:1<=other.length
 o4:other.length<=7
theorem qXF {Af:List (List Int)} {st:List Int} {Aa:Int} {Ac:Str} {wk:Int} (hw:Ac = "do"\/Ac = "clear") (e:wd Af st Aa (Ac,wk)=.non):(Ac = "do"->wk ∉ st/\(∀ y ∈ nd Af wk,y ∈ st)/\(st.length:Int)<Aa)/\(Ac = "clear"->wk ∈ st):=by
 rcases hw with d | d
 ·subst d;refine ⟨fun _=>?_,fun z=>absurd z.symm qAC⟩;have e':qI2 ((Af[wk.toNat]?).getD []) st Aa wk=.non:=by
   have:=e;unfold wd qF3 at this;rw [if_pos rfl] at this;exact this
  unfold qI2 at e'
  split at e'
  ·cases e'
  rename_i hn
  split at e'
  ·rename_i hall
   split at e'
   ·cases e'
   ·exact ⟨hn,hall,by omega⟩
  ·cases e'
 ·subst d;refine ⟨fun z=>absurd z qAC,fun _=>?_⟩;have e':qEH st wk=.non:=by
   have:=e;unfold wd qF3 at this;rw [if_neg (show ¬ C4 "clear" = C4 "do" from qAC)] at this
   exact this
  unfold qEH at e'
  split at e'
  ·rename_i hin;exact hin
  ·cases e'
theorem qHK {n:Nat} {st st':List Int} {Ac:Str} {wk:Int} (r:Rise (n:Int) st) (hw:Ac = "do"\/Ac = "clear") (w0:0<=wk) (w1:wk<(n:Int)) (hd:Ac = "do"->wk ∉ st) (b:Beh st st' Ac wk):Rise (n:Int) st':=by
 rcases hw with d | d
 ·obtain ⟨p1,s1⟩:=b.1 d;refine ⟨qFI s1 (p1.nodup_iff.mpr (qJQ r.nodup (hd d))),fun x hx=>?_⟩;rcases B8.mp (p1.mem_iff.mp hx) with q | q
  ·exact r.in_ x q
  ·rw [A6.mp q];exact ⟨w0,w1⟩
 ·rw [b.2 d];exact ⟨r.up.filter _,fun x hx=>r.in_ x (B0.mp hx).1⟩
theorem qLM {Af:List (List Int)} {ms:List Mv} {st st':List Int} {Ac:Str} {wk:Int} (R:Run Af (Af.length:Int) [] ms st) (r:Rise (Af.length:Int) st) (hw:Ac = "do"\/Ac = "clear") (w0:0<=wk) (w1:wk<(Af.length:Int)) (hd:Ac = "do"->wk ∉ st/\∀ y ∈ nd Af wk,y ∈ st) (hc:Ac = "clear"->wk ∈ st) (b:Beh st st' Ac wk):Run Af (Af.length:Int) [] (ms++[(Ac,wk)]) st':=by
 have r':=qHK r hw w0 w1 (fun e=>(hd e).1) b;rcases hw with d | d
 ·subst d;obtain ⟨p1,s1⟩:=b.1 rfl;obtain ⟨hn,hall⟩:=hd rfl;exact R.app (.do_ hn hall (by have:=qR5 r hn w0 w1;omega) p1 r'.up .nil)
 ·subst d;rw [b.2 rfl];exact R.app (.clear (hc rfl) .nil)
def PlayIn2 (H:Hp) (a l:Addr) (Af:List (List Int)) (ms:List Mv) (Aa:Int):Prop:=NetAt H a Af/\WFn Af/\Af.length<=60/\PlanAt H l ms/\ms.length<=10000/\MvOk Af ms/\0<=Aa/\Aa<=100000
theorem PlayIn2.same {H H':Hp} {a l:Addr} {Af:List (List Int)} {ms:List Mv} {Aa:Int} (h:PlayIn2 H a l Af ms Aa) (s:Same H H'):PlayIn2 H' a l Af ms Aa:=by
 obtain ⟨h1,h2,h3,h4,h5,h6,h7⟩:=h;exact ⟨h1.same s,h2,h3,h4.same s,h5,h6,h7⟩
def qIL:Sp:=fun vs H Q _=>∃ (a l:Addr) (Af:List (List Int)) (ms:List Mv) (Aa:Int),vs=[.ref a,.int Aa,.ref l]/\PlayIn2 H a l Af ms Aa/\
 ∀ T ls sts v H',Same H H'->Play Af Aa [] ms sts v->H' T=some (.tup [.ref ls,v])->H ls=none->StandsAt H' ls ([]::sts)->sts.length<=ms.length->Q (.ref T) H'
def qPP:Sp:=fun vs H Q _=>∃ (d c:Addr) (t:Int) (ns:List Int) (a so:Addr) (Af:List (List Int)) (st:List Int),vs=[.ref d,.ref a,.ref so]/\StAt H d c t ns/\t<=TB - 1000/\NetAt H a Af/\WFn Af/\1<=Af.length/\Af.length<=400/\H so=some (.tup (st.map V.int))/\
 ∀ wk t' ns' H',StAt H' d c t' ns'->t<=t'->t'<=t+1+Af.length->Keep d c H H'->0<=wk->wk<(Af.length:Int)->(∀ y ∈ nd Af wk,y ∈ st)->Q (.int wk) H'
def qS5:Sp:=fun vs H Q _=>∃ (d c:Addr) (t:Int) (ns:List Int) (a:Addr) (Af:List (List Int)) (Aa many:Int),vs=[.ref d,.ref a,.int Aa,.int many]/\StAt H d c t ns/\t<=TB - 200000/\NetAt H a Af/\WFn Af/\1<=Af.length/\Af.length<=60/\1<=Aa/\0<=many/\many<=250/\
 ∀ T l so ms st t' ns' H',StAt H' d c t' ns'->t<=t'->t'<=t+70 * many->Keep d c H H'->H' T=some (.tup [.ref l,.ref so])->H l=none->PlanAt H' l ms->MvOk Af ms->(ms.length:Int)<=many->H' so=some (.tup (st.map V.int))->Rise (Af.length:Int) st->Run Af (Af.length:Int) [] ms st->Q (.ref T) H'
def qS6:Sp:=fun vs H Q _=>∃ (a t lw so:Addr) (Af:List (List Int)) (Ad ws st:List Int),vs=[.ref a,.ref t,.ref lw,.ref so]/\NetAt H a Af/\WFn Af/\Af.length<=60/\H t=some (.tup (Ad.map V.int))/\H lw=some (.lst (ws.map V.int))/\(∀ x ∈ ws,0<=x/\x<(Af.length:Int))/\ws.length<=60/\H so=some (.tup (st.map V.int))/\st.length<=60/\
 ∀ (l:Addr) (fs:List Int) H',Same H H'->H l=none->H' l=some (.lst (fs.map V.int))->(∀ x ∈ fs,x ∈ st/\x ∉ Ad/\∀ v ∈ ws,x ∉ nd Af v)->fs.length<=st.length->Q (.ref l) H'
def qSA:Sp:=fun vs H Q _=>∃ (d c:Addr) (t:Int) (ns:List Int) (a ta:Addr) (Af:List (List Int)) (Ad:List Int) (many:Int),vs=[.ref d,.ref a,.ref ta,.int many]/\StAt H d c t ns/\t<=TB - 400000/\NetAt H a Af/\WFn Af/\1<=Af.length/\Af.length<=60/\qV3 H ta Af Ad/\0<=many/\many<=250/\
 ∀ l ms st t' ns' H',StAt H' d c t' ns'->t<=t'->t'<=t+70 * many+200->Keep d c H H'->H l=none->PlanAt H' l ms->MvOk Af ms->(ms.length:Int)<=many+2 * Af.length->Rise (Af.length:Int) st->Run Af (Af.length:Int) [] ms st->(∀ x ∈ Ad,x ∈ st)->Q (.ref l) H'
def qS7:Sp:=fun vs H Q _=>∃ (a l:Addr) (Af:List (List Int)) (ms:List Mv) (st:List Int),vs=[.ref a,.ref l]/\PlayIn2 H a l Af ms (Af.length:Int)/\Run Af (Af.length:Int) [] ms st/\∀ H',Same H H'->Q (.int (peak 0 ms)) H'
theorem qXM {Af:List (List Int)} {R R':Int} {s t:List Int} {ms:List Mv} (h:Run Af R s ms t):s.Pairwise (·<·)->peak (s.length:Int) ms<=R'->Run Af R' s ms t:=by
 induction h with
 | nil=>intro _ _;exact .nil
 | @do_ s s' t w ms h1 h2 h3 h4 h5 h6 ih=>
  intro up hp;have ln:=h4.length_eq;rw [A4,A9] at ln;have pk:peak (s.length:Int) (("do",w)::ms)=max (s.length:Int) (peak (s'.length:Int) ms):=by
   show max _ (peak ((s.length:Int)+pm ("do",w)) ms)=_
   rw [qQZ,show ((s.length:Int)+1)=(s'.length:Int) by omega]
  rw [pk] at hp;have pg:=qLO (s'.length:Int) ms;exact .do_ h1 h2 (by omega) h4 h5 (ih h5 (by omega))
 | @clear s t w ms h1 h2 ih=>
  intro up hp;have ln:=qI4 (qBK up) h1;have pk:peak (s.length:Int) (("clear",w)::ms)=max (s.length:Int) (peak ((s.filter fun x=>decide (x ≠ w)).length:Int) ms):=by
   show max _ (peak ((s.length:Int)+pm ("clear",w)) ms)=_;rw [qG0,show ((s.length:Int) + -1)=((s.filter fun x=>decide (x ≠ w)).length:Int) by omega]
  rw [pk] at hp;exact .clear h1 (ih (up.filter _) (by omega))
def OrdR (f:Int->Int) (a b:Int):Prop:=f b<f a\/(f a=f b/\a<b)
def mx (a b:Int):Int:=if b > a then b else a
inductive TRun (Af:List (List Int)):List Int->Int->List Mv->List Int->Int->Prop
 | nil {S:List Int} {m:Int}:TRun Af S m [] S m
 | do_ {S:List Int} {m:Int} {x:Int} {r:List Mv} {t:List Int} {n:Int}:x ∉ S->(∀ y ∈ nd Af x,y ∈ S)->TRun Af (S++[x]) (mx m ((S.length:Int)+1)) r t n->TRun Af S m ((("do",x):Mv)::r) t n
 | clr {S:List Int} {m:Int} {x:Int} {r:List Mv} {t:List Int} {n:Int}:x ∈ S->TRun Af (S.erase x) m r t n->TRun Af S m ((("clear",x):Mv)::r) t n
def tk:Nat->List Int->List Int
 | _,[]=>[]
 | j,x::l=>(x+(j:Int))::tk (j+1) l
structure TIn (Af:List (List Int)) (zs:List Int) (work:Int):Prop where
 wf:WFn Af
 N:qJ3 Af [work] zs
 len:Af.length<=400
 user:∀ {u v x:Int},u ∈ zs->v ∈ zs->x ∈ nd Af u->x ∈ nd Af v->u=v
section
variable {Af:List (List Int)} {zs:List Int} {work:Int}
end
def kvsV (l:List Int) (g:Int->V):List (Key × V):=l.map fun z=>(F2 z,g z)
theorem qLV {g:Int->V} {y:Int}:∀ {l:List Int},y ∈ l->valV (kvsV l g) (F2 y)=some (g y)
 | [],h=>by cases h
 | x::l,h=>by
  by_cases e:x=y
  ·subst e;exact qBU rfl
  ·exact (qBJ (fun z=>e (T6 z))).trans (qLV ((B7.mp h).resolve_left fun z=>e z.symm))
theorem qNM {g:Int->V} {y:Int}:∀ {l:List Int},y ∉ l->valV (kvsV l g) (F2 y)=none
 | [],_=>rfl
 | x::l,h=>(qBJ (fun z=>h (by rw [<- T6 z];exact C0))).trans (qNM fun z=>h (A7 _ z))
theorem qWJ {l:List Int} {g:Int->V} {z:Int} {v:V} (h:z ∉ l):putK (kvsV l g) (F2 z) v=kvsV (l++[z]) (fun y=>if y=z then v else g y):=by
 rw [qVR _ (qNM h)];unfold kvsV;rw [B1];congr 1
 ·exact i6 fun y hy=>by
   show _=(F2 y,if y=z then v else g y)
   rw [if_neg fun (e:y=z)=>h (e ▸ hy)]
 ·simp
section
variable {Af:List (List Int)} {zs:List Int} {work:Int}
end
section
variable {dp p:Addr} {H Hc Hd:Hp}
theorem qLY {o:HO} (k:Keep dp dp Hc Hd):Keep dp dp Hc (Ai Hd dp o):=fun b u e n1 n2=>by rw [qA8 n1];exact k b u e n1 n2
end
structure Pck (f:Int->Int) (ys pk lf:List Int):Prop where
 perm:(pk++lf).Perm ys
 up:lf.Pairwise (·<·)
 ord:pk.Pairwise (OrdR f)
 ahead:∀ a ∈ pk,∀ b ∈ lf,OrdR f a b
section
variable {Af:List (List Int)} {p:List Mv}
abbrev dO (w:Int):Mv:=(C4 "do",w)
abbrev cL (w:Int):Mv:=(C4 "clear",w)
def bk1 (Af:List (List Int)) (m:Mv) (r:List Mv × (Int->Bool)):List Mv × (Int->Bool):=
 if m.1=C4 "do"/\r.2 m.2=true then (m::((nd Af m.2).filter fun n=>!r.2 n).map cL++r.1,fun x=>(r.2 x && decide (x ≠ m.2)) || decide (x ∈ nd Af m.2)) else r
def bk (Af:List (List Int)) (A:Int->Bool):List Mv->List Mv × (Int->Bool)
 | []=>([],A)
 | m::p=>bk1 Af m (bk Af A p)
abbrev inA (Ad:List Int):Int->Bool:=fun x=>decide (x ∈ Ad)
def tdy (Af:List (List Int)) (Ad:List Int) (p:List Mv):List Mv:=(bk Af (inA Ad) p).1
def wn (Af:List (List Int)) (Ad:List Int) (p:List Mv) (b:Nat):Int->Bool:=(bk Af (inA Ad) (p.drop b)).2
theorem qUU {A:Int->Bool} {b:Nat} {m:Mv} (h:p[b]?=some m):bk Af A (p.drop b)=bk1 Af m (bk Af A (p.drop (b+1))):=by
 obtain ⟨hb,e⟩:=A1.mp h;rw [D6 hb,e]
 rfl
theorem qL5 {w:Int} {r:List Mv × (Int->Bool)} (h:r.2 w=true):bk1 Af (dO w) r=(dO w::((nd Af w).filter fun n=>!r.2 n).map cL++r.1,fun x=>(r.2 x && decide (x ≠ w)) || decide (x ∈ nd Af w)):=if_pos ⟨rfl,h⟩
theorem qQM {w:Int} {r:List Mv × (Int->Bool)} (h:r.2 w=false):bk1 Af (dO w) r=r:=if_neg fun z=>by rw [show (r.2 w=true) from z.2] at h;cases h
theorem qHJ {w:Int} {r:List Mv × (Int->Bool)}:bk1 Af (cL w) r=r:=if_neg fun z=>qAC z.1
theorem qQL {A:Int->Bool}:∀ p:List Mv,bk Af A (bk Af A p).1=bk Af A p
 | []=>rfl
 | m::p=>by
  have ih:=qQL (A:=A) p;show bk Af A (bk1 Af m (bk Af A p)).1=bk1 Af m (bk Af A p);obtain ⟨wd,w⟩:=m;by_cases c:wd=C4 "do"/\(bk Af A p).2 w=true
  ·obtain ⟨rfl,c2⟩:=c;rw [qL5 c2];show bk1 Af (dO w) (bk Af A (((nd Af w).filter fun n=>!(bk Af A p).2 n).map cL++(bk Af A p).1))=_;have sk:∀ (l:List Int) (q:List Mv),bk Af A (l.map cL++q)=bk Af A q:=by
    intro l q
    induction l with
    | nil=>rfl
    | cons x l ihl=>
     show bk1 Af (cL x) (bk Af A (l.map cL++q))=_;rw [qHJ,ihl]
   rw [sk,ih,qL5 c2]
  ·have e:bk1 Af (wd,w) (bk Af A p)=bk Af A p:=if_neg c;rw [e];exact ih
def lat (p:List Mv):Nat->Int->Option Nat
 | 0,_=>none
 | b+1,n=>if p[b]?=some (dO n) then some b else lat p b n
theorem qD4:∀ {b i:Nat} {n:Int},lat p b n=some i->i<b/\p[i]?=some (dO n)
 | 0,i,n,h=>by cases h
 | b+1,i,n,h=>by
  unfold lat at h;by_cases c:p[b]?=some (dO n)
  ·rw [if_pos c] at h;cases h;exact ⟨by omega,c⟩
  ·rw [if_neg c] at h;have:=qD4 h;exact ⟨by omega,this.2⟩
theorem qF6 {v w:Int} (h:dO v=dO w):v=w:=congrArg u0 h
def NdF (Af:List (List Int)) (p:List Mv):Prop:=∀ (j:Nat) (w:Int),p[j]?=some (dO w)->∀ n ∈ nd Af w,∃ i,lat p j n=some i
def Wt (Af:List (List Int)) (Ad:List Int) (p:List Mv) (b i:Nat):Prop:=(∃ n ∈ Ad,lat p p.length n=some i)\/∃ k w,b<=k/\p[k]?=some (dO w)/\wn Af Ad p (k+1) w=true/\∃ n ∈ nd Af w,lat p k n=some i
theorem qRY {Ad:List Int} {i:Nat} {w:Int} (hi:p[i]?=some (dO w)):∀ (d b:Nat),b+d=p.length->i<b->(Wt Af Ad p b i ↔ lat p b w=some i/\wn Af Ad p b w=true)
 | 0,b,e,ib=>by
  have eb:b=p.length:=by omega
  subst eb;have ew:wn Af Ad p p.length w=decide (w ∈ Ad):=by unfold wn;rw [c9];rfl
  rw [ew,decide_eq_true_eq]
  constructor
  ·rintro (⟨n,hn,h⟩ | ⟨k,v,h1,h2,_⟩)
   ·have:=qF6 (A8 ((qD4 h).2.symm.trans hi));subst this;exact ⟨h,hn⟩
   ·have:=(A1.mp h2).1;omega
  ·rintro ⟨h1,h2⟩;exact .inl ⟨w,h2,h1⟩
 | d+1,b,e,ib=>by
  have ih:=qRY (Ad:=Ad) hi d (b+1) (by omega) (by omega)
  have hb:b<p.length:=by omega
  have gb:=A3 hb;have step:Wt Af Ad p b i ↔ Wt Af Ad p (b+1) i\/∃ v,p[b]?=some (dO v)/\wn Af Ad p (b+1) v=true/\∃ n ∈ nd Af v,lat p b n=some i:=by
   constructor
   ·rintro (h | ⟨k,v,h1,h2,h3,h4⟩)
    ·exact .inl (.inl h)
    ·by_cases c:k=b
     ·subst c;exact .inr ⟨v,h2,h3,h4⟩
     ·exact .inl (.inr ⟨k,v,by omega,h2,h3,h4⟩)
   ·rintro ((h | ⟨k,v,h1,h2,h3,h4⟩) | ⟨v,h2,h3,h4⟩)
    ·exact .inl h
    ·exact .inr ⟨k,v,by omega,h2,h3,h4⟩
    ·exact .inr ⟨b,v,A5 _,h2,h3,h4⟩
  rw [step,ih];have ew:wn Af Ad p b=(bk1 Af p[b] (bk Af (inA Ad) (p.drop (b+1)))).2:=by unfold wn;rw [qUU gb]
  have one:∀ {v n:Int},lat p b n=some i->n=w:=fun h=>qF6 (A8 ((qD4 h).2.symm.trans hi));generalize p[b]=m at gb ew;obtain ⟨wd,v⟩:=m;by_cases cd:wd=C4 "do"
  ·subst cd;have lt:lat p (b+1) w=if dO v=dO w then some b else lat p b w:=by
    show (if p[b]?=some (dO w) then some b else lat p b w)=_
    rw [gb];by_cases c:dO v=dO w
    ·rw [if_pos c,if_pos (congrArg some c)]
    ·rw [if_neg c,if_neg fun z=>c (A8 z)]
   rw [lt];by_cases ck:wn Af Ad p (b+1) v=true
   ·have ew':wn Af Ad p b w=((wn Af Ad p (b+1) w && decide (w ≠ v)) || decide (w ∈ nd Af v)):=by
     rw [ew,show bk1 Af (C4 "do",v) (bk Af (inA Ad) (p.drop (b+1)))=_ from qL5 ck]
     rfl
    rw [ew',M8,E1,decide_eq_true_eq,decide_eq_true_eq]
    constructor
    ·rintro (⟨h1,h2⟩ | ⟨v',h1,_,n,hn,h4⟩)
     ·by_cases c:dO v=dO w
      ·rw [if_pos c] at h1;have:=A8 h1;omega
      ·rw [if_neg c] at h1;exact ⟨h1,.inl ⟨h2,fun z=>c (by rw [z])⟩⟩
     ·have ev:=qF6 (A8 (gb.symm.trans h1));subst ev;have en:=one (v:=v) h4;subst en;exact ⟨h4,.inr hn⟩
    ·rintro ⟨h1,h2 | h2⟩
     ·left
      rw [if_neg fun z=>h2.2 (qF6 z).symm];exact ⟨h1,h2.1⟩
     ·exact .inr ⟨v,gb,ck,w,h2,h1⟩
   ·have ck':=F9.mpr ck;have ew':wn Af Ad p b w=wn Af Ad p (b+1) w:=by
     rw [ew,show bk1 Af (C4 "do",v) (bk Af (inA Ad) (p.drop (b+1)))=_ from qQM ck']
     rfl
    rw [ew']
    constructor
    ·rintro (⟨h1,h2⟩ | ⟨v',h1,h3,_⟩)
     ·by_cases c:dO v=dO w
      ·rw [if_pos c] at h1;have:=A8 h1;omega
      ·rw [if_neg c] at h1;exact ⟨h1,h2⟩
     ·have ev:=qF6 (A8 (gb.symm.trans h1));subst ev;exact absurd h3 ck
    ·rintro ⟨h1,h2⟩
     left
     rw [if_neg fun z=>ck (by rw [qF6 z];exact h2)]
     exact ⟨h1,h2⟩
  ·have lt:lat p (b+1) w=lat p b w:=by
    show (if p[b]?=some (dO w) then some b else lat p b w)=_
    rw [gb,if_neg fun z=>cd (congrArg b8 (A8 z))]
   have ew':wn Af Ad p b w=wn Af Ad p (b+1) w:=by
    rw [ew,show bk1 Af (wd,v) (bk Af (inA Ad) (p.drop (b+1)))=_ from if_neg fun z=>cd z.1]
    rfl
   rw [lt,ew']
   constructor
   ·rintro (h | ⟨v',h1,_⟩)
    ·exact h
    ·rw [gb] at h1;exact absurd (congrArg b8 (A8 h1)) cd
   ·exact .inl
end
section
variable {Af:List (List Int)} {p:List Mv} {Ad:List Int}
def dpB (p:List Mv) (j:Nat):Bool:=match p[j]? with | some m=>decide (m.1=C4 "do") | none=>false
def wkO (p:List Mv) (j:Nat):Int:=match p[j]? with | some m=>m.2 | none=>0
def kB (Af:List (List Int)) (Ad:List Int) (p:List Mv) (j:Nat):Bool:=dpB p j && wn Af Ad p (j+1) (wkO p j)
def pc (Af:List (List Int)) (Ad:List Int) (p:List Mv) (j:Nat):List Mv:=dO (wkO p j)::((nd Af (wkO p j)).filter fun n=>!wn Af Ad p (j+1) n).map cL
theorem dB_iff {j:Nat}:dpB p j=true ↔ p[j]?=some (dO (wkO p j)):=by
 unfold dpB wkO;cases p[j]? with
 | none=>simp
 | some m=>
  obtain ⟨a,b⟩:=m
  constructor
  ·intro h;have:a=C4 "do":=of_decide_eq_true h
   rw [this]
  ·intro h;exact decide_eq_true (congrArg b8 (A8 h))
theorem qD0 {j:Nat} {w:Int} (h:p[j]?=some (dO w)):wkO p j=w:=by unfold wkO;rw [h]
theorem qNY {j:Nat} {w:Int} (h:p[j]?=some (dO w)):dpB p j=true:=dB_iff.mpr (by rw [qD0 h];exact h)
theorem qPN:∀ (d b:Nat),b+d=p.length->(bk Af (inA Ad) (p.drop b)).1=(((J9 b d).filter (kB Af Ad p)).map (pc Af Ad p)).flatten
 | 0,b,e=>by
  rw [P0 (by omega)]
  rfl
 | d+1,b,e=>by
  have hb:b<p.length:=by omega
  have gb:=A3 hb;rw [qUU gb,List.range'_succ,L0];have ih:=qPN d (b+1) (by omega)
  by_cases c:kB Af Ad p b=true
  ·rw [if_pos c,D7,O3,<- ih];unfold kB at c;rw [E1] at c;have gd:=dB_iff.mp c.1;rw [gb] at gd;rw [A8 gd,qL5 (show (bk Af (inA Ad) (p.drop (b+1))).2 (wkO p b)=true from c.2)]
   rfl
  ·rw [if_neg c,<- ih];have:bk1 Af p[b] (bk Af (inA Ad) (p.drop (b+1)))=bk Af (inA Ad) (p.drop (b+1)):=if_neg fun z=>c (by
    have gd:p[b]?=some (dO p[b].2):=by rw [gb];exact congrArg some (A84 z.1 rfl)
    unfold kB;rw [E1];exact ⟨qNY gd,by rw [qD0 gd];exact z.2⟩)
   rw [this]
theorem qaI:tdy Af Ad p=(((C8 p.length).filter (kB Af Ad p)).map (pc Af Ad p)).flatten:=by
 have:=qPN (Af:=Af) (Ad:=Ad) (p:=p) p.length 0 (by omega)
 rw [m7,<- List.range_eq_range'] at this;exact this
def dps (p:List Mv):List Nat:=(C8 p.length).filter (dpB p)
theorem qWZ:(dps p).filter (kB Af Ad p)=(C8 p.length).filter (kB Af Ad p):=by
 unfold dps;rw [k9];congr 1
 funext j
 unfold kB;cases dpB p j <;> simp
theorem mem_dps {j:Nat}:j ∈ dps p ↔ p[j]?=some (dO (wkO p j)):=by
 unfold dps;rw [B0,J1,dB_iff];exact ⟨fun h=>h.2,fun h=>⟨(A1.mp h).1,h⟩⟩
theorem dps_up:(dps p).Pairwise (·<·):=w6.filter _
theorem qG9 {j:Nat} (h:j<p.length):(C8 (j+1)).filter (dpB p)=(C8 j).filter (dpB p)++(if dpB p j then [j] else []):=by
 rw [A55,L6];congr 1;cases e:dpB p j <;> simp [e]
theorem qYJ {ks:List Nat} (u:ks.Pairwise (·<·)) {t k:Nat} (h:ks[t]?=some k):ks.drop t=k::ks.drop (t+1)/\∀ j ∈ ks,j ∈ ks.drop (t+1) ↔ k<j:=by
 obtain ⟨ht,e⟩:=A1.mp h;have e1:ks.drop t=k::ks.drop (t+1):=by rw [D6 ht,e]
 refine ⟨e1,fun j hj=>⟨fun m=>?_,fun m=>?_⟩⟩
 ·have:=u.sublist (o7 t ks);rw [e1] at this;exact (G0.mp this).1 j m
 ·obtain ⟨q,hq,eq⟩:=Y0 hj;have:t<q:=by
   rcases R8 q t with c | c | c
   ·have:=J6.mp u q t hq ht c;omega
   ·subst c;omega
   ·exact c
  rw [V2];exact ⟨q - (t+1),by rw [F5];omega,by rw [b5,<- eq];congr 1;omega⟩
theorem qLX {j:Nat} {w:Int} (h:p[j]?=some (dO w)):Wt Af Ad p (j+1) j ↔ wn Af Ad p (j+1) w=true:=by
 have hj:=(A1.mp h).1;rw [qRY h (p.length - (j+1)) (j+1) (by omega) (by omega)]
 have:lat p (j+1) w=some j:=by unfold lat;exact if_pos h
 rw [this];exact ⟨fun q=>q.2,fun q=>⟨rfl,q⟩⟩
theorem Wt.of0 {i b:Nat} (h:Wt Af Ad p b i) (hb:i+1<=b\/True):Wt Af Ad p (i+1) i:=by
 rcases h with h | ⟨k,w,h1,h2,h3,n,hn,h4⟩
 ·exact .inl h
 ·exact .inr ⟨k,w,(qD4 h4).1,h2,h3,n,hn,h4⟩
theorem qJR (wf:WFn Af) (h:Af.length<=400) (w:Int):(nd Af w).length<=400:=by
 unfold nd;cases e:Af[w.toNat]? with
 | none=>simp
 | some z=>
  have:=(wf _ _ e).len;have:=(A1.mp e).1;simp;omega
def usB (Af:List (List Int)) (p:List Mv) (y k:Nat):Bool:=decide (∃ n ∈ nd Af (wkO p k),lat p k n=some y)
def luF (Af:List (List Int)) (p:List Mv) (L:List Nat) (y:Nat):Option Nat:=(L.filter (usB Af p y)).getLast?
theorem qWD {L:List Nat} {k y:Nat}:luF Af p (L++[k]) y=if usB Af p y k then some k else luF Af p L y:=by
 unfold luF;rw [L6];cases e:usB Af p y k <;> simp [e]
def kps (Af:List (List Int)) (Ad:List Int) (p:List Mv):List Nat:=(dps p).filter (kB Af Ad p)
theorem mem_kps {k:Nat}:k ∈ kps Af Ad p ↔ p[k]?=some (dO (wkO p k))/\wn Af Ad p (k+1) (wkO p k)=true:=by
 unfold kps;rw [B0,mem_dps];unfold kB;rw [E1,dB_iff];exact ⟨fun h=>⟨h.1,h.2.2⟩,fun h=>⟨h.1,h.1,h.2⟩⟩
theorem qbL:(kps Af Ad p).Pairwise (·<·):=dps_up.filter _
theorem qaG {b i:Nat}:Wt Af Ad p b i ↔ (∃ n ∈ Ad,lat p p.length n=some i)\/∃ k ∈ kps Af Ad p,b<=k/\usB Af p i k=true:=by
 constructor
 ·rintro (h | ⟨k,w,h1,h2,h3,h4⟩)
  ·exact .inl h
  ·have:=qD0 h2;subst this;exact .inr ⟨k,mem_kps.mpr ⟨h2,h3⟩,h1,decide_eq_true h4⟩
 ·rintro (h | ⟨k,h1,h2,h3⟩)
  ·exact .inl h
  ·exact .inr ⟨k,_,h2,(mem_kps.mp h1).1,(mem_kps.mp h1).2,of_decide_eq_true h3⟩
theorem qYH {i:Nat} {w:Int} (h:p[i]?=some (dO w)):Wt Af Ad p 0 i ↔ wn Af Ad p (i+1) w=true:=by
 rw [<- qLX h];refine ⟨fun q=>q.of0 (.inr trivial),fun q=>?_⟩;rcases q with q | ⟨k,v,_,q⟩
 ·exact .inl q
 ·exact .inr ⟨k,v,E8 _,q⟩
theorem qLA (wf:WFn Af) (mo:MvOk Af p) {k i:Nat} {n:Int} (hk:k ∈ kps Af Ad p) (hn:n ∈ nd Af (wkO p k)) (hi:lat p k n=some i) :
  (wn Af Ad p (k+1) n=false ↔ (¬ ∃ m ∈ Ad,lat p p.length m=some i)/\luF Af p (kps Af Ad p) i=some k)/\∃ k',luF Af p (kps Af Ad p) i=some k':=by
 have gk:=(mem_kps.mp hk).1;have hkl:=(A1.mp gk).1;obtain ⟨i1,gi⟩:=qD4 hi;have us:usB Af p i k=true:=decide_eq_true ⟨n,hn,hi⟩;have ne:n ≠ wkO p k:=fun e=>by
  have b:=(mo _ (B4 gk)).2;dsimp only at b;have hz:=A3 (show (wkO p k).toNat<Af.length by omega)
  have:=(wf _ _ hz).in_ n (by rw [<- qD3 hz];exact hn)
  omega
 have lk:lat p (k+1) n=some i:=by
  show (if p[k]?=some (dO n) then some k else lat p k n)=some i
  rw [gk,if_neg fun z=>ne (qF6 (A8 z)).symm,hi]
 have wi:=qRY (Af:=Af) (Ad:=Ad) gi (p.length - (k+1)) (k+1) (by omega) (by omega)
 have w2:wn Af Ad p (k+1) n=true ↔ Wt Af Ad p (k+1) i:=by rw [wi,lk];exact ⟨fun q=>⟨rfl,q⟩,fun q=>q.2⟩
 have mem:k ∈ (kps Af Ad p).filter (usB Af p i):=B0.mpr ⟨hk,us⟩;have up:=(qbL (Af:=Af) (Ad:=Ad) (p:=p)).filter (usB Af p i);obtain ⟨k',ek'⟩:∃ k',luF Af p (kps Af Ad p) i=some k':=by
  unfold luF;cases e:(kps Af Ad p).filter (usB Af p i) with
  | nil=>rw [e] at mem;cases mem
  | cons x r=>exact ⟨_,d0 (by simp)⟩
 refine ⟨?_,k',ek'⟩;have hk':k' ∈ (kps Af Ad p).filter (usB Af p i):=A01 ek';have top:∀ j ∈ (kps Af Ad p).filter (usB Af p i),j<=k':=by
  intro j hj;unfold luF at ek';generalize (kps Af Ad p).filter (usB Af p i)=L at up hj ek';obtain ⟨ys,rfl⟩:=m8.mp ek';rcases B8.mp hj with h | h
  ·exact R4 ((d5.mp up).2.2 j h k' (by simp))
  ·rw [A6.mp h];exact A5 _
 rw [<- Bool.not_eq_true,w2,qaG,ek']
 constructor
 ·intro h;refine ⟨fun z=>h (.inl z),?_⟩;congr 1;have:=top k mem;rcases Y6 k k' with c | c
  ·exact absurd (.inr ⟨k',(B0.mp hk').1,c,(B0.mp hk').2⟩) h
  ·omega
 ·rintro ⟨h1,h2⟩ (h | ⟨j,hj,h3,h4⟩)
  ·exact h1 h
  ·have:=top j (B0.mpr ⟨hj,h4⟩);have:=A8 h2;omega
theorem qS3:tdy Af Ad p=((kps Af Ad p).map (pc Af Ad p)).flatten:=by
 rw [qaI];unfold kps;rw [qWZ]
end
theorem qbK {l:List Nat} {g:Int->V} {i:Nat} {k:Key} {v:V} (h:(kvsV (l.map fun (j:Nat)=>(j:Int)) g)[i]?=some (k,v)):∃ j,l[i]?=some j/\k=F2 (j:Int)/\v=g (j:Int):=by
 unfold kvsV at h;rw [B5,B5] at h;cases e:l[i]? with
 | none=>rw [e] at h;cases h
 | some j=>
  rw [e] at h;have h:=A8 h;exact ⟨j,rfl,(congrArg b8 h).symm,(congrArg u0 h).symm⟩
def ndI (Af:List (List Int)) (p:List Mv) (j:Nat):List Int:=(nd Af (wkO p j)).map fun n=>(((lat p j n).getD 0:Nat):Int)
def intL (l:List Nat):List Int:=l.map fun (j:Nat)=>(j:Int)
def qYG (H:Hp) (dn:Addr) (Af:List (List Int)) (p:List Mv) (ad:Int->Addr):Prop:=∀ j ∈ dps p,H (ad (j:Int))=some (.lst ((ndI Af p j).map V.int))
def qc9 (H:Hp) (dl:Addr) (p:List Mv) (b:Nat):Prop:=∃ Ah,H dl=some (.dK Ah)/\Ah.length<=b/\∀ n,valV Ah (F2 n)=(lat p b n).map fun (i:Nat)=>V.int (i:Int)
def qYF (H:Hp) (a l:Addr) (Af:List (List Int)) (p:List Mv):Prop:=NetAt H a Af/\WFn Af/\Af.length<=400/\PlanAt H l p/\p.length<=1000/\MvOk Af p/\NdF Af p
def qEW (p:List Mv) (Ad:List Int):List Int:=Ad.map fun n=>(((lat p p.length n).getD 0:Nat):Int)
theorem qT7 {Af:List (List Int)} {p:List Mv} {k y:Nat} (nf:NdF Af p) (gk:p[k]?=some (dO (wkO p k))):((y:Nat):Int) ∈ ndI Af p k ↔ usB Af p y k=true:=by
 unfold ndI usB;rw [F4,decide_eq_true_eq]
 constructor
 ·rintro ⟨n,hn,e⟩;obtain ⟨j,ej⟩:=nf k _ gk n hn;rw [ej,U5] at e;exact ⟨n,hn,by rw [ej];congr 1;omega⟩
 ·rintro ⟨n,hn,e⟩;exact ⟨n,hn,by rw [e];rfl⟩
theorem qT8 {p:List Mv} {Ad:List Int} {y:Nat} (h:∀ n ∈ Ad,∃ i,lat p p.length n=some i):((y:Nat):Int) ∈ qEW p Ad ↔ ∃ n ∈ Ad,lat p p.length n=some y:=by
 unfold qEW;rw [F4]
 constructor
 ·rintro ⟨n,hn,e⟩;obtain ⟨j,ej⟩:=h n hn;rw [ej,U5] at e;exact ⟨n,hn,by rw [ej];congr 1;omega⟩
 ·rintro ⟨n,hn,e⟩;exact ⟨n,hn,by rw [e];rfl⟩
def qN2:Sp:=fun vs H Q _=>∃ (a l:Addr) (Af:List (List Int)) (p:List Mv),vs=[.ref a,.ref l]/\qYF H a l Af p/\
 ∀ (T dn dl:Addr) (ad:Int->Addr) (H':Hp),Same H H'->H' T=some (.tup [.ref dn,.ref dl])->H dn=none->H' dn=some (.dK (kvsV (intL (dps p)) fun z=>.ref (ad z)))->qYG H' dn Af p ad->qc9 H' dl p p.length->Q (.ref T) H'
def qJF:Sp:=fun vs H Q _=>∃ (dn ll:Addr) (Af:List (List Int)) (p:List Mv) (Ad:List Int) (ad:Int->Addr),vs=[.ref dn,.ref ll]/\H dn=some (.dK (kvsV (intL (dps p)) fun z=>.ref (ad z)))/\qYG H dn Af p ad/\NdF Af p/\p.length<=1000/\(∀ j,(ndI Af p j).length<=400)/\Ad.length<=400/\(∀ n ∈ Ad,∃ i,lat p p.length n=some i)/\H ll=some (.lst ((qEW p Ad).map V.int))/\
 ∀ (d:Addr) (Ah:List (Key × V)) (H':Hp),Same H H'->H d=none->H' d=some (.dK Ah)->(∀ i:Nat,(valV Ah (F2 (i:Int))).isSome=true ↔ Wt Af Ad p 0 i)->Q (.ref d) H'
def qPO:Sp:=fun vs H Q _=>∃ (a l t:Addr) (Af:List (List Int)) (p:List Mv) (Ad:List Int),vs=[.ref a,.ref l,.ref t]/\qYF H a l Af p/\H t=some (.tup (Ad.map V.int))/\Ad.length<=400/\(∀ n ∈ Ad,∃ i,lat p p.length n=some i)/\
 ∀ (l':Addr) (H':Hp),Same H H'->H l'=none->PlanAt H' l' (tdy Af Ad p)->Q (.ref l') H'
section
variable {Af:List (List Int)} {p:List Mv} {Ad:List Int} {R:Int}
def prs (p:List Mv) (b:Nat) (x:Int):Prop:=∃ i,lat p b x=some i/\∀ k,i<k->k<b->p[k]? ≠ some (cL x)
theorem qP6 {x y:Int}:dO x ≠ cL y:=fun e=>qAC (congrArg b8 e).symm
theorem qb1 {b:Nat} {w x:Int} (h:p[b]?=some (dO w)):prs p (b+1) x ↔ x=w\/prs p b x:=by
 have lt:lat p (b+1) x=if x=w then some b else lat p b x:=by
  show (if p[b]?=some (dO x) then some b else lat p b x)=_
  rw [h];by_cases c:x=w
  ·rw [if_pos c,if_pos (by rw [c])]
  ·rw [if_neg c,if_neg fun z=>c (qF6 (A8 z)).symm]
 by_cases c:x=w
 ·refine ⟨fun _=>.inl c,fun _=>⟨b,by rw [lt,if_pos c],fun k h1 h2=>by omega⟩⟩
 ·rw [if_neg c] at lt
  constructor
  ·rintro ⟨i,e,q⟩;exact .inr ⟨i,by rw [<- lt];exact e,fun k h1 h2=>q k h1 (by omega)⟩
  ·rintro (e | ⟨i,e,q⟩)
   ·exact absurd e c
   ·refine ⟨i,by rw [lt];exact e,fun k h1 h2=>?_⟩
    by_cases ck:k=b
    ·subst ck;rw [h];exact fun z=>qP6 (A8 z)
    ·exact q k h1 (by omega)
theorem qSN {b:Nat} {w x:Int} (h:p[b]?=some (cL w)):prs p (b+1) x ↔ prs p b x/\x ≠ w:=by
 have lt:lat p (b+1) x=lat p b x:=by
  show (if p[b]?=some (dO x) then some b else lat p b x)=_
  rw [h,if_neg fun z=>qP6 (A8 z).symm]
 constructor
 ·rintro ⟨i,e,q⟩;rw [lt] at e;refine ⟨⟨i,e,fun k h1 h2=>q k h1 (by omega)⟩,fun z=>?_⟩
  subst z;exact q b (qD4 e).1 (by omega) h
 ·rintro ⟨⟨i,e,q⟩,ne⟩;refine ⟨i,by rw [lt];exact e,fun k h1 h2=>?_⟩
  by_cases ck:k=b
  ·subst ck;rw [h];exact fun z=>ne (congrArg u0 (A8 z)).symm
  ·exact q k h1 (by omega)
theorem qYT {s q t:List Int} {ms:List Mv} (h:Run Af R s ms t):∀ b,p.drop b=ms->b<=p.length->(∀ x,x ∈ s ↔ prs p b x)->(∀ x,x ∈ t ↔ prs p p.length x)/\∀ k w,b<=k->p[k]?=some (dO w)->¬ prs p k w/\∀ n ∈ nd Af w,prs p k n:=by
 induction h with
 | @nil s=>
  intro b e hb S;have:p.length<=b:=List.drop_eq_nil_iff.mp e;have eb:b=p.length:=by omega
  subst eb;exact ⟨S,fun k w hk g=>by have:=(A1.mp g).1;omega⟩
 | @do_ s s' t w ms h1 h2 h3 h4 h5 h6 ih=>
  intro b e hb S;have hb':b<p.length:=by
   rcases Y6 b p.length with c | c
   ·exact c
   ·rw [P0 c] at e;cases e
  rw [D6 hb'] at e
  injection e with e1 e2
  have g:p[b]?=some (dO w):=by rw [A3 hb',e1]
  obtain ⟨a1,a2⟩:=ih (b+1) e2 hb' fun x=>by
   rw [h4.mem_iff,B8,A6,S x,qb1 g];exact ⟨fun z=>z.elim .inr .inl,fun z=>z.elim .inr .inl⟩
  refine ⟨a1,fun k v hk gk=>?_⟩;by_cases c:k=b
  ·subst c;have:=qF6 (A8 (g.symm.trans gk));subst this;exact ⟨fun z=>h1 ((S w).mpr z),fun n hn=>(S n).mp (h2 n hn)⟩
  ·exact a2 k v (by omega) gk
 | @clear s t w ms h1 h2 ih=>
  intro b e hb S;have hb':b<p.length:=by
   rcases Y6 b p.length with c | c
   ·exact c
   ·rw [P0 c] at e;cases e
  rw [D6 hb'] at e
  injection e with e1 e2
  have g:p[b]?=some (cL w):=by rw [A3 hb',e1]
  obtain ⟨a1,a2⟩:=ih (b+1) e2 hb' fun x=>by
   rw [B0,decide_eq_true_eq,S x,qSN g]
  refine ⟨a1,fun k v hk gk=>?_⟩;by_cases c:k=b
  ·subst c;exact absurd (A8 (gk.symm.trans g)) qP6
  ·exact a2 k v (by omega) gk
structure RunP (Af:List (List Int)) (p:List Mv) (t:List Int):Prop where
 end_:∀ x,x ∈ t ↔ prs p p.length x
 new:∀ k w,p[k]?=some (dO w)->¬ prs p k w
 nds:∀ k w,p[k]?=some (dO w)->∀ n ∈ nd Af w,prs p k n
theorem runP {t:List Int} (h:Run Af R [] p t):RunP Af p t:=by
 obtain ⟨a,b⟩:=qYT (q:=[]) h 0 (m7) (E8 _) fun x=>⟨fun z=>(nomatch z),fun ⟨i,e,_⟩=>by cases e⟩
 exact ⟨a,fun k w g=>(b k w (E8 _) g).1,fun k w g=>(b k w (E8 _) g).2⟩
theorem RunP.ndf {t:List Int} (h:RunP Af p t):NdF Af p:=fun j w g n hn=>by
 obtain ⟨i,e,_⟩:=h.nds j w g n hn;exact ⟨i,e⟩
theorem RunP.last {t:List Int} (h:RunP Af p t) (ha:∀ x ∈ Ad,x ∈ t):∀ n ∈ Ad,∃ i,lat p p.length n=some i:=fun n hn=>by
 obtain ⟨i,e,_⟩:=(h.end_ n).mp (ha n hn);exact ⟨i,e⟩
def enL (p:List Mv) (i:Nat) (w:Int):List Nat:=(J9 (i+1) (p.length - (i+1))).filter fun k=>decide (p[k]?=some (cL w))
def eN (p:List Mv) (i:Nat) (w:Int):Nat:=(enL p i w++[p.length]).headD 0
theorem qP4 {i:Nat} {w:Int} (hi:i<p.length):i<eN p i w/\eN p i w<=p.length/\(∀ k,i<k->k<eN p i w->p[k]? ≠ some (cL w))/\(eN p i w<p.length->p[eN p i w]?=some (cL w)):=by
 unfold eN;have mem:∀ k,k ∈ enL p i w ↔ i<k/\k<p.length/\p[k]?=some (cL w):=fun k=>by
  unfold enL;rw [B0,V8,decide_eq_true_eq];exact ⟨fun h=>⟨by omega,by omega,h.2⟩,fun h=>⟨by omega,h.2.2⟩⟩
 have up:(enL p i w).Pairwise (·<·):=A02 _ (by
  rw [J6];intro a b ha hb hab;rw [Y1,Y1];omega)
 generalize enL p i w=L at mem up;cases L with
 | nil=>
  refine ⟨hi,A5 _,fun k h1 h2 z=>?_,fun z=>absurd z (O6 _)⟩;have:=(mem k).mpr ⟨h1,h2,z⟩;cases this
 | cons x r=>
  obtain ⟨m1,m2,m3⟩:=(mem x).mp C0;refine ⟨m1,R4 m2,fun k h1 h2 z=>?_,fun _=>m3⟩;have h2':k<x:=h2;rcases B7.mp ((mem k).mpr ⟨h1,by omega,z⟩) with e | e
  ·omega
  ·have:=(G0.mp up).1 k e;omega
theorem qLU {t:List Int} (h:RunP Af p t) {i:Nat} {w:Int} (g:p[i]?=some (dO w)):∀ d,i+1+d<=eN p i w->lat p (i+1+d) w=some i
 | 0,_=>if_pos g
 | d+1,hd=>by
  have ih:=qLU h g d (by omega)
  have hi:=(A1.mp g).1;obtain ⟨_,e2,e3,_⟩:=qP4 (w:=w) hi;show (if p[i+1+d]?=some (dO w) then some (i+1+d) else lat p (i+1+d) w)=some i
  rw [if_neg fun z=>h.new _ _ z ⟨i,ih,fun k h1 h2=>e3 k h1 (by omega)⟩]
  exact ih
def ndgL (Af:List (List Int)) (p:List Mv) (i e:Nat) (w:Int):List Nat:=(J9 (i+1) (e - (i+1))).filter fun k=>dpB p k && decide (w ∈ nd Af (wkO p k))
theorem qXG:∀ {l m:List Nat},l.Pairwise (·<·)->m.Pairwise (·<·)->(∀ x,x ∈ l ↔ x ∈ m)->l=m
 | [],[],_,_,_=>rfl
 | [],y::m,_,_,h=>by have:=(h y).mpr C0;cases this
 | x::l,[],_,_,h=>by have:=(h x).mp C0;cases this
 | x::l,y::m,ul,um,h=>by
  have e:x=y:=by
   have a:=(h x).mp C0;have b:=(h y).mpr C0;rcases B7.mp a with a | a
   ·exact a
   ·rcases B7.mp b with b | b
    ·exact b.symm
    ·have:=(G0.mp um).1 x a;have:=(G0.mp ul).1 y b;omega
  subst e;congr 1;refine qXG (G0.mp ul).2 (G0.mp um).2 fun z=>?_
  constructor
  ·intro hz;rcases B7.mp ((h z).mp (A7 _ hz)) with e | e
   ·subst e;have:=(G0.mp ul).1 z hz;omega
   ·exact e
  ·intro hz;rcases B7.mp ((h z).mpr (A7 _ hz)) with e | e
   ·subst e;have:=(G0.mp um).1 z hz;omega
   ·exact e
theorem qT6 {t:List Int} (h:RunP Af p t) {i:Nat} {w:Int} (g:p[i]?=some (dO w)):ndgL Af p i (eN p i w) w=(dps p).filter (usB Af p i):=by
 have hi:=(A1.mp g).1;obtain ⟨e1,e2,e3,e4⟩:=qP4 (w:=w) hi;refine qXG ?_ (dps_up.filter _) fun k=>?_
 ·refine A02 _ ?_;rw [J6];intro a b ha hb hab;rw [Y1,Y1];omega
 ·unfold ndgL;rw [B0,B0,V8,E1,dB_iff,decide_eq_true_eq,mem_dps];unfold usB;rw [decide_eq_true_eq]
  constructor
  ·rintro ⟨h1,h2,h3⟩;refine ⟨h2,w,h3,?_⟩;have:=qLU h g (k - (i+1)) (by omega)
   rw [show i+1+(k - (i+1))=k by omega] at this
   exact this
  ·rintro ⟨h2,n,hn,h3⟩;have en:n=w:=qF6 (A8 ((qD4 h3).2.symm.trans g));subst en;obtain ⟨i',h4,h5⟩:=h.nds k _ h2 n hn;rw [h3] at h4;have:=A8 h4;subst this;have hk:=(A1.mp h2).1;have ik:=(qD4 h3).1;refine ⟨⟨by omega,?_⟩,h2,hn⟩
   have:k<eN p i n:=by
    rcases R8 k (eN p i n) with c | c | c
    ·exact c
    ·have:=e4 (by omega)
     rw [<- c,h2] at this;exact absurd (A8 this) qP6
    ·exact absurd (e4 (by omega)) (h5 _ e1 c)
   omega
def lsB (p:List Mv) (Ad:List Int) (i:Nat):Bool:=decide (∃ n ∈ Ad,lat p p.length n=some i)
theorem qZG {t:List Int} (h:RunP Af p t) (ha:∀ x ∈ Ad,x ∈ t) {i:Nat} {w:Int} (g:p[i]?=some (dO w)):(decide (eN p i w=p.length) && decide (w ∈ Ad))=lsB p Ad i:=by
 have hi:=(A1.mp g).1;obtain ⟨e1,e2,e3,e4⟩:=qP4 (w:=w) hi;rw [L7,E1,decide_eq_true_eq,decide_eq_true_eq];unfold lsB;rw [decide_eq_true_eq]
 constructor
 ·rintro ⟨h1,h2⟩;have:=qLU h g (p.length - (i+1)) (by omega)
  rw [show i+1+(p.length - (i+1))=p.length by omega] at this
  exact ⟨w,h2,this⟩
 ·rintro ⟨n,hn,h3⟩;have en:n=w:=qF6 (A8 ((qD4 h3).2.symm.trans g));subst en;obtain ⟨i',h4,h5⟩:=(h.end_ n).mp (ha n hn);rw [h3] at h4;have:=A8 h4;subst this;refine ⟨?_,hn⟩;rcases Y6 (eN p i n) p.length with c | c
  ·exact absurd (e4 c) (h5 _ e1 c)
  ·omega
def idB (Af:List (List Int)) (Ad:List Int) (p:List Mv) (i:Nat):Bool:=!lsB p Ad i && ((dps p).filter (usB Af p i)).isEmpty
theorem qNE (hn:∀ i ∈ dps p,idB Af Ad p i=false):kps Af Ad p=dps p:=by
 have key:∀ d k,p.length - k<=d->k ∈ dps p->wn Af Ad p (k+1) (wkO p k)=true:=by
  intro d
  induction d with
  | zero=>
   intro k hd hk;have:=(A1.mp (mem_dps.mp hk)).1;omega
  | succ d ih=>
   intro k hd hk;have gk:=mem_dps.mp hk;have hkl:=(A1.mp gk).1;rw [<- qLX gk];have:=hn k hk;unfold idB at this;rw [Bool.and_eq_false_iff] at this;rcases this with h | h
   ·have:lsB p Ad k=true:=by simpa using h
    exact .inl (of_decide_eq_true this)
   ·cases e:(dps p).filter (usB Af p k) with
    | nil=>rw [e] at h;cases h
    | cons j r=>
     have hj:j ∈ (dps p).filter (usB Af p k):=by rw [e];exact C0
     obtain ⟨hj1,hj2⟩:=B0.mp hj;obtain ⟨n,hn',hl⟩:=of_decide_eq_true hj2;have lt:=(qD4 hl).1;exact .inr ⟨j,_,lt,mem_dps.mp hj1,ih j (by omega) hj1,n,hn',hl⟩
 unfold kps;rw [i7];intro k hk;unfold kB;rw [E1,dB_iff];exact ⟨mem_dps.mp hk,key p.length k (by omega) hk⟩
def bhL (Af:List (List Int)) (Ad:List Int) (p:List Mv) (L:List Nat) (k:Nat):List Int:=(L.filter fun i=>!lsB p Ad i && decide (luF Af p (dps p) i=some k)).map (wkO p)
theorem qOA {t:List Int} (wf:WFn Af) (mo:MvOk Af p) (h:RunP Af p t) (hn:∀ i ∈ dps p,idB Af Ad p i=false) {k:Nat} (hk:k ∈ dps p) {zs:List Int} (pm:zs.Perm (bhL Af Ad p (dps p) k)) (st:zs.Pairwise (·<=·)):zs=(nd Af (wkO p k)).filter fun n=>!wn Af Ad p (k+1) n:=by
 have ek:=qNE hn;have hk':k ∈ kps Af Ad p:=by rw [ek];exact hk
 have gk:=mem_dps.mp hk;have lu:∀ i,luF Af p (dps p) i=some k->∃ n ∈ nd Af (wkO p k),lat p k n=some i:=fun i e=>by
  have:=(B0.mp (A01 e)).2;exact of_decide_eq_true this
 have mem:∀ x,x ∈ bhL Af Ad p (dps p) k ↔ x ∈ (nd Af (wkO p k)).filter fun n=>!wn Af Ad p (k+1) n:=by
  intro x;unfold bhL;rw [F4,B0,R9]
  constructor
  ·rintro ⟨i,hi,rfl⟩;obtain ⟨h1,h2⟩:=B0.mp hi;rw [E1,R9,decide_eq_true_eq] at h2;obtain ⟨n,hn',hl⟩:=lu i h2.2;have en:wkO p i=n:=qD0 (qD4 hl).2;rw [en];refine ⟨hn',((qLA wf mo hk' hn' hl).1).mpr ⟨fun z=>?_,by rw [ek];exact h2.2⟩⟩
   have:=h2.1;unfold lsB at this;rw [decide_eq_false_iff_not] at this;exact this z
  ·rintro ⟨h1,h2⟩;obtain ⟨i,hi⟩:=h.ndf k _ gk x h1;obtain ⟨c1,c2⟩:=((qLA (Ad:=Ad) wf mo hk' h1 hi).1).mp h2;rw [ek] at c2;refine ⟨i,B0.mpr ⟨mem_dps.mpr (by rw [qD0 (qD4 hi).2];exact (qD4 hi).2),?_⟩,qD0 (qD4 hi).2⟩
   rw [E1,R9,decide_eq_true_eq];exact ⟨decide_eq_false c1,c2⟩
 have nodup:(bhL Af Ad p (dps p) k).Nodup:=by
  unfold bhL;refine V7.mpr ((dps_up.filter _).imp_of_mem fun {i j} hi hj lt e=>?_);have h1:=(B0.mp hi).2;have h2:=(B0.mp hj).2;rw [E1,decide_eq_true_eq] at h1 h2;obtain ⟨n,_,hl⟩:=lu i h1.2;obtain ⟨m,_,hm⟩:=lu j h2.2;rw [qD0 (qD4 hl).2,qD0 (qD4 hm).2] at e;subst e;have:=A8 (hl.symm.trans hm);omega
 refine qOJ (qFI st (pm.nodup_iff.mpr nodup)) ((qbE wf _).filter _) fun x=>?_;rw [pm.mem_iff,mem x]
def fil (i e:Nat):Nat->List Mv->List Mv
 | _,[]=>[]
 | s,m::q=>if s=i\/s=e then fil i e (s+1) q else m::fil i e (s+1) q
theorem qM6 {i e:Nat}:∀ (a:List Mv) (s:Nat) (b:List Mv),fil i e s (a++b)=fil i e s a++fil i e (s+a.length) b
 | [],s,b=>by simp [fil]
 | m::a,s,b=>by
  show (if s=i\/s=e then fil i e (s+1) (a++b) else m::fil i e (s+1) (a++b))=(if s=i\/s=e then fil i e (s+1) a else m::fil i e (s+1) a)++_
  rw [qM6 a,B3,show s+(a.length+1)=s+1+a.length by omega]
  split <;> rfl
theorem qM7 {i e:Nat}:∀ (a:List Mv) (s:Nat),(∀ k,s<=k->k<s+a.length->k ≠ i/\k ≠ e)->fil i e s a=a
 | [],s,_=>rfl
 | m::a,s,h=>by
  show (if s=i\/s=e then _ else m::fil i e (s+1) a)=_
  have:=h s (A5 _) (by rw [B3];omega)
  rw [if_neg fun z=>z.elim this.1 this.2,qM7 a (s+1) fun k h1 h2=>h k (by omega) (by rw [B3];omega)]
theorem qP3 {i e:Nat} (ie:i<e) (he:e<=p.length):fil i e 0 p=p.take i++(p.drop (i+1)).take (e - (i+1))++p.drop (e+1):=by
 have hi:i<p.length:=by omega
 have e1:p=p.take i++(p[i]::((p.drop (i+1)).take (e - (i+1))++p.drop e)):=by
  conv=>lhs;rw [<- J5 i p,D6 hi,<- J5 (e - (i+1)) (p.drop (i+1)),m9,show i+1+(e - (i+1))=e by omega]
 have l1:(p.take i).length=i:=by rw [C1];omega
 have l2:((p.drop (i+1)).take (e - (i+1))).length=e - (i+1):=by rw [C1,F5];omega
 conv=>lhs;rw [e1]
 rw [qM6,qM7 _ 0 (fun k h1 h2=>by omega),l1,A37]
 show p.take i++(if i=i\/i=e then _ else _)=_
 rw [if_pos (.inl rfl),qM6,qM7 _ (i+1) (fun k h1 h2=>by omega),l2,G8,show i+1+(e - (i+1))=e by omega]
 congr 2;rcases Y6 e p.length with c | c
 ·rw [D6 c];show (if e=i\/e=e then fil i e (e+1) (p.drop (e+1)) else _)=_
  rw [if_pos (.inr rfl),qM7 _ _ (fun k h1 h2=>by omega)]
 ·rw [P0 c,P0 (by omega)]
  rfl
theorem qHW {A:Int->Bool}:∀ (a q:List Mv),bk Af A (a++q)=a.foldr (bk1 Af) (bk Af A q)
 | [],_=>rfl
 | m::a,q=>by
  show bk1 Af m (bk Af A (a++q))=bk1 Af m (a.foldr (bk1 Af) (bk Af A q));rw [qHW a q]
theorem qIS {A:Int->Bool} {s t:List Int} {ms:List Mv} (h:Run Af R s ms t):(∀ x,A x=true->x ∈ t)->∀ x,(bk Af A ms).2 x=true->x ∈ s:=by
 induction h with
 | nil=>exact fun ha x hx=>ha x hx
 | @do_ s s' t w ms h1 h2 h3 h4 h5 h6 ih=>
  intro ha x hx;have ih:=ih ha;by_cases c:(bk Af A ms).2 w=true
  ·have e:bk Af A (("do",w)::ms)=_:=qL5 (Af:=Af) (w:=w) (r:=bk Af A ms) c
   rw [e] at hx;dsimp only at hx;rw [M8,E1,decide_eq_true_eq,decide_eq_true_eq] at hx;rcases hx with ⟨q1,q2⟩ | q
   ·rcases B8.mp (h4.mem_iff.mp (ih x q1)) with z | z
    ·exact z
    ·exact absurd (A6.mp z) q2
   ·exact h2 x q
  ·have e:bk Af A (("do",w)::ms)=bk Af A ms:=qQM (Af:=Af) (w:=w) (r:=bk Af A ms) (F9.mpr c)
   rw [e] at hx;rcases B8.mp (h4.mem_iff.mp (ih x hx)) with z | z
   ·exact z
   ·rw [A6.mp z] at hx;exact absurd hx c
 | @clear s t w ms h1 h2 ih=>
  intro ha x hx;have e:bk Af A (("clear",w)::ms)=bk Af A ms:=qHJ (Af:=Af) (w:=w) (r:=bk Af A ms);rw [e] at hx;exact (B0.mp (ih ha x hx)).1
theorem qFE {s u:List Int}:∀ {a b:List Mv},Run Af R s (a++b) u->∃ t,Run Af R s a t/\Run Af R t b u
 | [],b,h=>⟨s,.nil,h⟩
 | m::a,b,h=>by
  rcases Run.inv h with ⟨e,s',h1,h2,h3,h4,h5,h6⟩ | ⟨e,h1,h2⟩
  ·obtain ⟨t,k1,k2⟩:=qFE h6;obtain ⟨m1,m2⟩:=m;cases (show m1 = "do" from e)
   exact ⟨t,.do_ h1 h2 h3 h4 h5 k1,k2⟩
  ·obtain ⟨t,k1,k2⟩:=qFE h2;obtain ⟨m1,m2⟩:=m;cases (show m1 = "clear" from e);exact ⟨t,.clear h1 k1,k2⟩
theorem qM5 {s s':List Int} {v w:Int} (h:s'.Perm (s++[v])) (ne:v ≠ w):(s'.filter fun x=>decide (x ≠ w)).Perm ((s.filter fun x=>decide (x ≠ w))++[v]):=by
 have:=h.filter fun x=>decide (x ≠ w);rw [L6] at this;simpa [ne] using this
theorem qVJ {w:Int} {s t:List Int} {ms:List Mv} (h:Run Af R s ms t):w ∈ s->(∀ m ∈ ms,m ≠ cL w/\(m.1=C4 "do"->w ∉ nd Af m.2))->Run Af R (s.filter fun x=>decide (x ≠ w)) ms (t.filter fun x=>decide (x ≠ w))/\w ∈ t:=by
 induction h with
 | nil=>exact fun hw _=>⟨.nil,hw⟩
 | @do_ s s' t v ms h1 h2 h3 h4 h5 h6 ih=>
  intro hw ho;have vw:v ≠ w:=fun z=>h1 (z ▸ hw);obtain ⟨k1,k2⟩:=ih (h4.mem_iff.mpr (O8 _ hw)) fun m hm=>ho m (A7 _ hm);have nw:=(ho ("do",v) C0).2 rfl
  refine ⟨.do_ (fun z=>h1 (B0.mp z).1) (fun y hy=>B0.mpr ⟨h2 y hy,decide_eq_true fun z=>nw (z ▸ hy)⟩) ?_ (qM5 h4 vw) (h5.filter _) k1,k2⟩;have:=C7 (fun x=>decide (x ≠ w)) s;omega
 | @clear s t v ms h1 h2 ih=>
  intro hw ho;have vw:v ≠ w:=fun z=>(ho ("clear",v) C0).1 (by rw [z])
  obtain ⟨k1,k2⟩:=ih (B0.mpr ⟨hw,decide_eq_true vw.symm⟩) fun m hm=>ho m (A7 _ hm);refine ⟨.clear (B0.mpr ⟨h1,decide_eq_true vw⟩) ?_,k2⟩;rw [k9] at k1 ⊢;have e:(fun x=>decide (x ≠ v) && decide (x ≠ w))=fun x=>decide (x ≠ w) && decide (x ≠ v):=funext fun x=>Bool.and_comm _ _;rw [e];exact k1
theorem qWM {t:List Int} (h:Run Af R [] p t) (ha:∀ x ∈ Ad,x ∈ t) {i:Nat} {w:Int} (g:p[i]?=some (dO w)) (hid:idB Af Ad p i=true) :
  (∃ t',Run Af R [] (fil i (eN p i w) 0 p) t'/\∀ x ∈ Ad,x ∈ t')/\tdy Af Ad (fil i (eN p i w) 0 p)=tdy Af Ad p/\(fil i (eN p i w) 0 p).length<p.length:=by
 have RP:=runP h;obtain ⟨hi,ei⟩:=A1.mp g;obtain ⟨e1,e2,e3,e4⟩:=qP4 (w:=w) hi;have ng:=qT6 RP g;have le:=qZG RP ha g;unfold idB at hid;rw [E1,R9,List.isEmpty_iff,<- ng,<- le] at hid;obtain ⟨nl,ne⟩:=hid;rw [qP3 e1 e2];have split:p=p.take i++(dO w::((p.drop (i+1)).take (eN p i w - (i+1))++p.drop (eN p i w))):=by
  conv=>lhs;rw [<- J5 i p,D6 hi,ei,<- J5 (eN p i w - (i+1)) (p.drop (i+1)),m9,show i+1+(eN p i w - (i+1))=eN p i w by omega]
 have mid:∀ m ∈ (p.drop (i+1)).take (eN p i w - (i+1)),m ≠ cL w/\(m.1=C4 "do"->w ∉ nd Af m.2):=by
  intro m hm;obtain ⟨q,hq,eq⟩:=Y0 hm;rw [C1,F5] at hq;rw [o6,b5] at eq;have gm:p[i+1+q]?=some m:=by rw [A3 (by omega),eq]
  refine ⟨fun z=>e3 (i+1+q) (by omega) (by omega) (by rw [gm,z]),fun z hw=>?_⟩
  have gd:p[i+1+q]?=some (dO m.2):=by rw [gm];exact congrArg some (A84 z rfl)
  have:i+1+q ∈ ndgL Af p i (eN p i w) w:=by
   unfold ndgL;rw [B0,V8,E1,decide_eq_true_eq,qD0 gd];exact ⟨by omega,qNY gd,hw⟩
  rw [ne] at this;cases this
 have len:(p.take i++(p.drop (i+1)).take (eN p i w - (i+1))++p.drop (eN p i w+1)).length<p.length:=by
  rw [A4,A4,C1,C1,F5,F5];omega
 have h':=h;rw [split] at h';obtain ⟨s1,r1,r2⟩:=qFE h';rcases Run.inv r2 with ⟨_,s2,q1,q2,q3,q4,q5,q6⟩ | ⟨z,_⟩
 ·obtain ⟨s3,r3,r4⟩:=qFE q6;dsimp only at q1 q4;obtain ⟨k1,k2⟩:=qVJ (w:=w) r3 (q4.mem_iff.mpr (by simp)) mid
  have es:(s2.filter fun x=>decide (x ≠ w))=s1:=by
   refine qOJ (q5.filter _) (Run.up r1 .nil) fun x=>?_;rw [B0,q4.mem_iff,B8,A6,decide_eq_true_eq]
   constructor
   ·rintro ⟨a | a,b⟩
    ·exact a
    ·exact absurd a b
   ·exact fun a=>⟨.inl a,fun z=>q1 (z ▸ a)⟩
  rw [es] at k1
  -- what follows
  have tail:∃ t',Run Af R (s3.filter fun x=>decide (x ≠ w)) (p.drop (eN p i w+1)) t'/\(∀ x ∈ Ad,x ∈ t')/\bk Af (inA Ad) (p.drop (eN p i w))=bk Af (inA Ad) (p.drop (eN p i w+1))/\(bk Af (inA Ad) (p.drop (eN p i w+1))).2 w=false:=by
   rcases Y6 (eN p i w) p.length with c | c
   ·have gc:=e4 c;have ed:p.drop (eN p i w)=cL w::p.drop (eN p i w+1):=qWY gc;rw [ed] at r4;rcases Run.inv r4 with ⟨z,_⟩ | ⟨_,_,r5⟩
    ·exact absurd z fun z=>qAC z
    ·refine ⟨t,r5,ha,by rw [ed];exact qHJ,F9.mpr fun z=>?_⟩
     have:=qIS r5 (A:=inA Ad) (fun x hx=>ha x (of_decide_eq_true hx)) w z;exact absurd rfl (of_decide_eq_true (B0.mp this).2)
   ·have ec:eN p i w=p.length:=by omega
    rw [ec] at r4 nl ⊢;rw [c9] at r4 ⊢;rw [P0 (t8 _)];cases r4;have wna:w ∉ Ad:=by
     rw [decide_eq_true rfl,t6,decide_eq_false_iff_not] at nl;exact nl
    exact ⟨_,.nil,fun x hx=>B0.mpr ⟨ha x hx,decide_eq_true fun z=>wna (z ▸ hx)⟩,rfl,decide_eq_false wna⟩
  obtain ⟨t',k3,k4,k5,k6⟩:=tail;refine ⟨⟨t',(r1.app k1).app k3,k4⟩,?_,len⟩;unfold tdy
  conv=>rhs;rw [split]
  rw [G8,qHW (p.take i),qHW (p.take i)];congr 2;show bk Af (inA Ad) _=bk1 Af (dO w) (bk Af (inA Ad) ((p.drop (i+1)).take (eN p i w - (i+1))++p.drop (eN p i w)));have same:bk Af (inA Ad) ((p.drop (i+1)).take (eN p i w - (i+1))++p.drop (eN p i w))=bk Af (inA Ad) ((p.drop (i+1)).take (eN p i w - (i+1))++p.drop (eN p i w+1)):=by rw [qHW,qHW,k5]
  rw [same];refine (qQM ?_).symm;rw [qHW];generalize bk Af (inA Ad) (p.drop (eN p i w+1))=r at k6;generalize (p.drop (i+1)).take (eN p i w - (i+1))=q at mid
  induction q with
  | nil=>exact k6
  | cons m q ih=>
   have ih:=ih fun m' hm'=>mid m' (A7 _ hm');show (bk1 Af m (q.foldr (bk1 Af) r)).2 w=false;generalize q.foldr (bk1 Af) r=r2 at ih;unfold bk1
   split
   ·rename_i c
    dsimp only;rw [ih,W3,A70];exact decide_eq_false ((mid m C0).2 c.1)
   ·exact ih
 ·exact absurd z.symm qAC
end
theorem qM4 {p:List Mv} {i e k:Nat} {m:Mv} (h:p[k]?=some m):fil i e 0 (p.take (k+1))=fil i e 0 (p.take k)++(if k=i\/k=e then [] else [m]):=by
 have hk:=(A1.mp h).1;rw [D5,h,D4,qM6,C1,Z4 (by omega),A37]
 rfl
theorem qV0 {xs:List V} {x:V} (h:xs.getLast?=some x):atI xs (-1)=some x:=by
 obtain ⟨ys,rfl⟩:=m8.mp h;unfold atI ixN;rw [A4,A9,if_neg (by decide),if_pos (by omega)]
 show (ys++[x])[((((ys.length+1:Nat):Int) + -1)).toNat]?=some x;rw [show (((ys.length+1:Nat):Int) + -1).toNat=ys.length by omega,L4 (A5 _)]
 simp
theorem qUV {Af:List (List Int)} {Ad:List Int} {p:List Mv} {L:List Nat} {i k:Nat}:bhL Af Ad p (L++[i]) k=bhL Af Ad p L k++(if (!lsB p Ad i && decide (luF Af p (dps p) i=some k))=true then [wkO p i] else []):=by
 unfold bhL;rw [L6,B1];congr 1;cases e:(!lsB p Ad i && decide (luF Af p (dps p) i=some k)) <;> simp [e]
def qL6 (H:Hp) (p:List Mv) (T:Addr) (i:Nat):Prop:=H T=some (.tup [.int (i:Int),.int (eN p i (wkO p i):Nat),.int (wkO p i)])
def qOL:Sp:=fun vs H Q _=>∃ (l:Addr) (p:List Mv),vs=[.ref l]/\PlanAt H l p/\p.length<=1000/\
 ∀ (l':Addr) (ts:List Addr) (H':Hp),Same H H'->H l'=none->H' l'=some (.lst (ts.map V.ref))->Paired (qL6 H' p) ts (dps p)->Q (.ref l') H'
def qXD (H:Hp) (a l:Addr) (Af:List (List Int)) (p:List Mv):Prop:=NetAt H a Af/\WFn Af/\Af.length<=400/\PlanAt H l p/\p.length<=1000/\MvOk Af p
def qGR:Sp:=fun vs H Q _=>∃ (a l T:Addr) (Af:List (List Int)) (p:List Mv) (i e:Nat) (w:Int),vs=[.ref a,.ref l,.ref T]/\qXD H a l Af p/\H T=some (.tup [.int (i:Int),.int (e:Int),.int w])/\i<e/\e<=p.length/\
 ∀ (l':Addr) (H':Hp),Same H H'->H l'=none->H' l'=some (.lst ((intL (ndgL Af p i e w)).map V.int))->Q (.ref l') H'
def qXK:Sp:=fun vs H Q _=>∃ (a l t:Addr) (Af:List (List Int)) (p:List Mv) (Ad tt:List Int),vs=[.ref a,.ref l,.ref t]/\qXD H a l Af p/\RunP Af p tt/\(∀ x ∈ Ad,x ∈ tt)/\H t=some (.tup (Ad.map V.int))/\
 ((∀ i ∈ dps p,idB Af Ad p i=false)->∀ H',Same H H'->Q .non H')/\(∀ (i:Nat) (T:Addr) (H':Hp),i ∈ dps p->idB Af Ad p i=true->Same H H'->qL6 H' p T i->Q (.ref T) H')
section
variable {Af:List (List Int)} {p:List Mv} {Ad:List Int} {R:Int}
def lstB (Af:List (List Int)) (B:Int->Bool):List Int:=(qD1 0 Af.length).filter B
theorem qNJ (B:Int->Bool):(lstB Af B).Pairwise (·<·):=(qJI _ _).filter _
theorem mem_lst {B:Int->Bool} {x:Int}:x ∈ lstB Af B ↔ (0<=x/\x<(Af.length:Int))/\B x=true:=by
 unfold lstB;rw [B0,mem_rangeI]
theorem qN8:∀ (cs s:List Int),cs.Nodup->(∀ x ∈ cs,x ∈ s)->Run Af R s (cs.map cL) (s.filter fun x=>decide (x ∉ cs))
 | [],s,_,_=>by
  have:(s.filter fun x=>decide (x ∉ ([]:List Int)))=s:=by rw [i7];intro x _;simp
  rw [this];exact .nil
 | c::cs,s,n,h=>by
  have n':=Q4.mp n;have ih:=qN8 cs (s.filter fun x=>decide (x ≠ c)) n'.2 fun x hx=>B0.mpr ⟨h x (A7 _ hx),decide_eq_true fun z=>n'.1 (z ▸ hx)⟩;refine .clear (h c C0) ?_;have:(s.filter fun x=>decide (x ∉ c::cs))=(s.filter fun x=>decide (x ≠ c)).filter fun x=>decide (x ∉ cs):=by
   rw [k9];refine List.filter_congr fun x _=>?_;rw [L7,E1,decide_eq_true_eq,decide_eq_true_eq,decide_eq_true_eq,B7];exact ⟨fun z=>⟨fun y=>z (.inr y),fun y=>z (.inl y)⟩,fun z y=>y.elim z.2 z.1⟩
  rw [this];exact ih
theorem qYK {A:Int->Bool} (wf:WFn Af) {s t:List Int} {ms:List Mv} (h:Run Af R s ms t):(∀ x,A x=true->x ∈ t)->(∀ x ∈ s,0<=x/\x<(Af.length:Int))->MvOk Af ms->s.Pairwise (·<·)->Run Af R (lstB Af (bk Af A ms).2) (bk Af A ms).1 (lstB Af A)/\MvOk Af (bk Af A ms).1:=by
 induction h with
 | nil=>intro _ _ _ _;exact ⟨.nil,fun _ z=>nomatch z⟩
 | @do_ s s' t w ms h1 h2 h3 h4 h5 h6 ih=>
  intro ha hs mo up;obtain ⟨_,w0,w1⟩:=mo ("do",w) C0
  dsimp only at w0 w1;obtain ⟨k1,k2⟩:=ih ha (fun x hx=>by
   rcases B8.mp (h4.mem_iff.mp hx) with z | z
   ·exact hs x z
   ·rw [A6.mp z];exact ⟨w0,w1⟩) (fun m hm=>mo m (A7 _ hm)) h5
  have want:=qIS h6 (A:=A) ha;by_cases c:(bk Af A ms).2 w=true
  ·have e:bk Af A (("do",w)::ms)=_:=qL5 (Af:=Af) (w:=w) (r:=bk Af A ms) c
   have wB:=qIS (Run.do_ h1 h2 h3 h4 h5 h6) (A:=A) ha;rw [e] at wB ⊢;dsimp only at wB ⊢;generalize bk Af A ms=r at c k1 k2 want wB;have hz:=A3 (show w.toNat<Af.length by omega)
   have nin:∀ x ∈ nd Af w,0<=x/\x<w:=fun x hx=>by
    have:=(wf _ _ hz).in_ x (by rw [<- qD3 hz];exact hx)
    omega
   -- the stand behind
   have s2up:(lstB Af fun x=>((r.2 x && decide (x ≠ w)) || decide (x ∈ nd Af w)) || decide (x=w)).Pairwise (·<·):=qNJ _;have pm:(lstB Af fun x=>((r.2 x && decide (x ≠ w)) || decide (x ∈ nd Af w)) || decide (x=w)).Perm ((lstB Af fun x=>(r.2 x && decide (x ≠ w)) || decide (x ∈ nd Af w))++[w]):=by
    refine (X4 (qBK s2up) ?_).mpr fun x=>?_
    ·rw [b6];refine ⟨qBK (qNJ _),by simp,fun a ha' b hb z=>?_⟩
     rw [A6.mp hb] at z;subst z;have:=(mem_lst.mp ha').2;simp at this;exact absurd (nin a this).2 (by omega)
    ·rw [B8,A6,mem_lst,mem_lst,M8,decide_eq_true_eq]
     constructor
     ·rintro ⟨b,z | z⟩
      ·exact .inl ⟨b,z⟩
      ·exact .inr z
     ·rintro (⟨b,z⟩ | z)
      ·exact ⟨b,.inl z⟩
      ·rw [z];exact ⟨⟨w0,w1⟩,.inr rfl⟩
   have cl:=qN8 (Af:=Af) (R:=R) ((nd Af w).filter fun n=>!r.2 n) (lstB Af fun x=>((r.2 x && decide (x ≠ w)) || decide (x ∈ nd Af w)) || decide (x=w)) ((qBK (qbE wf w)).filter _) (fun x hx=>by
    obtain ⟨hx1,_⟩:=B0.mp hx;have:=nin x hx1;exact mem_lst.mpr ⟨by omega,by rw [decide_eq_true hx1];simp⟩)
   have ee:((lstB Af fun x=>((r.2 x && decide (x ≠ w)) || decide (x ∈ nd Af w)) || decide (x=w)).filter fun x=>decide (x ∉ (nd Af w).filter fun n=>!r.2 n))=lstB Af r.2:=by
    refine qOJ (s2up.filter _) (qNJ _) fun x=>?_;rw [B0,mem_lst,mem_lst,decide_eq_true_eq,B0,M8,M8,E1,decide_eq_true_eq,decide_eq_true_eq,decide_eq_true_eq,R9]
    constructor
    ·rintro ⟨⟨b,(⟨z,_⟩ | z) | z⟩,y⟩
     ·exact ⟨b,z⟩
     ·refine ⟨b,?_⟩;cases e:r.2 x with
      | true=>rfl
      | false=>exact absurd ⟨z,e⟩ y
     ·rw [z];exact ⟨⟨w0,w1⟩,c⟩
    ·rintro ⟨b,z⟩;refine ⟨⟨b,?_⟩,fun y=>by rw [z] at y;cases y.2⟩
     by_cases cw:x=w
     ·exact .inr cw
     ·exact .inl (.inl ⟨z,cw⟩)
   rw [ee] at cl;refine ⟨.do_ (fun z=>?_) (fun y hy=>?_) ?_ pm s2up (cl.app k1),fun m hm=>?_⟩
   ·have:=(mem_lst.mp z).2;simp at this;exact absurd (nin w this).2 (by omega)
   ·have:=nin y hy;exact mem_lst.mpr ⟨by omega,by rw [decide_eq_true hy];simp⟩
   ·have sub:(lstB Af fun x=>(r.2 x && decide (x ≠ w)) || decide (x ∈ nd Af w)).length<=s.length:=J4 (qBK (qNJ _)) fun x hx=>wB x (mem_lst.mp hx).2;omega
   ·rcases B7.mp hm with z | z
    ·rw [z];exact ⟨.inl rfl,w0,w1⟩
    ·rcases B8.mp z with z | z
     ·obtain ⟨n,hn,rfl⟩:=F4.mp z;have:=nin n (B0.mp hn).1;exact ⟨.inr rfl,this.1,by show n<_;omega⟩
     ·exact k2 m z
  ·have e:bk Af A (("do",w)::ms)=bk Af A ms:=qQM (Af:=Af) (w:=w) (r:=bk Af A ms) (F9.mpr c)
   rw [e];exact ⟨k1,k2⟩
 | @clear s t w ms h1 h2 ih=>
  intro ha hs mo up;have e:bk Af A (("clear",w)::ms)=bk Af A ms:=qHJ (Af:=Af) (w:=w) (r:=bk Af A ms);rw [e];exact ih ha (fun x hx=>hs x (B0.mp hx).1) (fun m hm=>mo m (A7 _ hm)) (up.filter _)
theorem qQG {A:Int->Bool}:∀ ms:List Mv,(qB2 (bk Af A ms).1).length<=(qB2 ms).length
 | []=>A5 _
 | m::ms=>by
  have ih:=qQG (A:=A) ms;have e1:(qB2 (m::ms)).length=(if m.1=C4 "do" then 1 else 0)+(qB2 ms).length:=by
   unfold qB2;rw [O0];by_cases c:m.1=C4 "do"
   ·rw [if_pos c,if_pos c];simp;omega
   ·rw [if_neg c,if_neg c];simp
  rw [e1];show (qB2 (bk1 Af m (bk Af A ms)).1).length<=_;unfold bk1
  split
  ·rename_i c
   rw [if_pos c.1];dsimp only;rw [c8,show m::(((nd Af m.2).filter fun n=>!(bk Af A ms).2 n).map cL++(bk Af A ms).1)=[m]++(((nd Af m.2).filter fun n=>!(bk Af A ms).2 n).map cL++(bk Af A ms).1) from rfl,qD6,qD6];have z1:∀ l:List Int,qB2 (l.map cL)=[]:=fun l=>by
    induction l with
    | nil=>rfl
    | cons x l ih=>
     unfold qB2 at ih ⊢;rw [D7,O0,if_neg (show ¬ (cL x).1=C4 "do" from fun z=>qAC z)]
     exact ih
   rw [z1,A4,A4];have z2:(qB2 [m]).length<=1:=by unfold qB2;exact F6 (p9 _ _) (A5 _)
   simp;omega
  ·omega
theorem qQ4 (a b:List Mv):qDA (a++b)=qDA a+qDA b:=by unfold qDA;rw [B1,List.sum_append]
theorem qY1:∀ (s:List Int) (w:Int),s.Pairwise (·<·)->w ∉ s->∃ s':List Int,s'.Perm (s++[w])/\s'.Pairwise (·<·)
 | [],w,_,_=>⟨[w],.refl _,by simp⟩
 | x::s,w,u,h=>by
  obtain ⟨u1,u2⟩:=G0.mp u;have xw:w ≠ x:=fun z=>h (z ▸ C0);by_cases c:w<x
  ·refine ⟨w::x::s,(c6 (l₁:=[w]) (l₂:=x::s)),G0.mpr ⟨fun y hy=>?_,u⟩⟩;rcases B7.mp hy with z | z
   ·rw [z];exact c
   ·have:=u1 y z;omega
  ·obtain ⟨s',q1,q2⟩:=qY1 s w u2 fun z=>h (A7 _ z);refine ⟨x::s',q1.cons x,G0.mpr ⟨fun y hy=>?_,q2⟩⟩;rcases B8.mp (q1.mem_iff.mp hy) with z | z
   ·exact u1 y z
   ·rw [A6.mp z];omega
theorem qVI {w:Int} {s t:List Int} {ms:List Mv} (h:Run Af R s ms t):w ∉ s->s.Pairwise (·<·)->(∀ m ∈ ms,m ≠ dO w)->(∀ j,j<ms.length->(s.length:Int)+qDA (ms.take (j+1))<R)->∀ s':List Int,s'.Perm (s++[w])->s'.Pairwise (·<·)->∃ t':List Int,Run Af R s' ms t'/\t'.Perm (t++[w])/\t'.Pairwise (·<·):=by
 induction h with
 | nil=>intro _ _ _ _ s' p u;exact ⟨s',.nil,p,u⟩
 | @do_ s s1 t v ms h1 h2 h3 h4 h5 h6 ih=>
  intro hw up hm hc s' ps us;have vw:v ≠ w:=fun z=>hm _ C0 (by rw [z])
  have l1:=h4.length_eq;have l2:=ps.length_eq;rw [A4,A9] at l1 l2;have ws:w ∉ s1:=fun z=>by
   rcases B8.mp (h4.mem_iff.mp z) with z | z
   ·exact hw z
   ·exact vw (A6.mp z).symm
  obtain ⟨s2,q1,q2⟩:=qY1 s1 w h5 ws;have hc0:=hc 0 (by rw [B3];omega)
  rw [V9,qCB,qQZ,List.take_zero] at hc0;have e0:qDA ([]:List Mv)=0:=rfl;obtain ⟨t',r,e1,e2⟩:=ih ws h5 (fun m hm'=>hm m (A7 _ hm')) (fun j hj=>by
   have:=hc (j+1) (by rw [B3];omega)
   rw [V9,qCB,qQZ] at this;omega) s2 q1 q2
  refine ⟨t',.do_ (fun z=>?_) (fun y hy=>ps.mem_iff.mpr (O8 _ (h2 y hy))) (by omega) ?_ q2 r,e1,e2⟩
  ·rcases B8.mp (ps.mem_iff.mp z) with z | z
   ·exact h1 z
   ·exact vw (A6.mp z)
  ·refine (q1.trans (h4.append_right [w])).trans ?_;refine .trans ?_ (ps.append_right [v]).symm;rw [G8,G8];exact W9 s (c6 (l₁:=[v]) (l₂:=[w]))
 | @clear s t v ms h1 h2 ih=>
  intro hw up hm hc s' ps us;have vw:v ≠ w:=fun z=>hw (z ▸ h1);have l1:=qI4 (qBK up) h1;obtain ⟨t',r,e1,e2⟩:=ih (fun z=>hw (B0.mp z).1) (up.filter _) (fun m hm'=>hm m (A7 _ hm')) (fun j hj=>by
   have:=hc (j+1) (by rw [B3];omega)
   rw [V9,qCB,qG0] at this;omega) (s'.filter fun x=>decide (x ≠ v)) (qM5 ps vw.symm) (us.filter _)
  exact ⟨t',.clear (ps.mem_iff.mpr (O8 _ h1)) r,e1,e2⟩
theorem qVL {w:Int} {s t:List Int} {ms:List Mv} (h:Run Af R s ms t):w ∉ s->s.Pairwise (·<·)->(∀ m ∈ ms,m ≠ dO w)->∀ s' t':List Int,s'.Perm (s++[w])->(s'.length:Int)<=R->Run Af R s' ms t'->∀ j,j<ms.length->(s.length:Int)+qDA (ms.take (j+1))<R:=by
 induction h with
 | nil=>intro _ _ _ _ _ _ _ _ j hj;exact absurd hj (Nat.not_lt_zero _)
 | @do_ s s1 t v ms h1 h2 h3 h4 h5 h6 ih=>
  intro hw up hm s' t' ps ls r j hj;have vw:v ≠ w:=fun z=>hm _ C0 (by rw [z])
  have l1:=h4.length_eq;have l2:=ps.length_eq;rw [A4,A9] at l1 l2;have ws:w ∉ s1:=fun z=>by
   rcases B8.mp (h4.mem_iff.mp z) with z | z
   ·exact hw z
   ·exact vw (A6.mp z).symm
  rcases Run.inv r with ⟨_,s2,k1,k2,k3,k4,k5,k6⟩ | ⟨e,_⟩
  ·have l3:=k4.length_eq;rw [A4,A9] at l3;rw [V9,qCB,qQZ];cases j with
   | zero=>
    have e0:qDA (ms.take 0)=0:=rfl;omega
   | succ j=>
    have:=ih ws h5 (fun m hm'=>hm m (A7 _ hm')) s2 t' (by
     refine (k4.trans (ps.append_right [v])).trans ?_;refine .trans ?_ (h4.append_right [w]).symm;rw [G8,G8];exact W9 s (c6 (l₁:=[w]) (l₂:=[v]))) (by omega) k6 j (by rw [B3] at hj;omega)
    omega
  ·exact absurd e.symm qAC
 | @clear s t v ms h1 h2 ih=>
  intro hw up hm s' t' ps ls r j hj;have vw:v ≠ w:=fun z=>hw (z ▸ h1);have l1:=qI4 (qBK up) h1;have l2:=ps.length_eq;rw [A4,A9] at l2;rcases Run.inv r with ⟨e,_⟩ | ⟨_,k1,k2⟩
  ·exact absurd e qAC
  ·rw [V9,qCB,qG0];cases j with
   | zero=>
    have e0:qDA (ms.take 0)=0:=rfl;omega
   | succ j=>
    have lf:=C7 (fun x=>decide (x ≠ v)) s';have:=ih (fun z=>hw (B0.mp z).1) (up.filter _) (fun m hm'=>hm m (A7 _ hm')) _ t' (qM5 ps vw.symm) (by omega) k2 j (by rw [B3] at hj;omega)
    omega
def Ag (p:List Mv) (c g:Nat) (w:Int):Prop:=p[c]?=some (cL w)/\p[g]?=some (dO w)/\c<g/\∀ k,c<k->k<g->p[k]? ≠ some (dO w)
def Spr (R:Int) (p:List Mv) (c g:Nat):Prop:=∀ k,c<k->k<g->qDA (p.take (k+1))<R
theorem qYS {s t:List Int} {ms:List Mv} (h:Run Af R s ms t):s.Pairwise (·<·)->(t.length:Int)=(s.length:Int)+qDA ms:=by
 induction h with
 | nil=>intro _;show _=_+(0:Int);omega
 | @do_ s s1 t v ms h1 h2 h3 h4 h5 h6 ih=>
  intro _;have:=ih h5;have l1:=h4.length_eq;rw [A4,A9] at l1;rw [qCB,qQZ];omega
 | @clear s t v ms h1 h2 ih=>
  intro up;have:=ih (up.filter _);have l1:=qI4 (qBK up) h1;rw [qCB,qG0];omega
theorem qVK {s t:List Int} {ms:List Mv} (h:Run Af R s ms t):(s.length:Int)<=R->(t.length:Int)<=R:=by
 induction h with
 | nil=>exact id
 | @do_ s s1 t v ms h1 h2 h3 h4 h5 h6 ih=>
  intro _;have l1:=h4.length_eq;rw [A4,A9] at l1;exact ih (by omega)
 | @clear s t v ms h1 h2 ih=>
  intro h;have lf:=C7 (fun x=>decide (x ≠ v)) s;exact ih (by omega)
theorem qSI {s t:List Int} {ms:List Mv} (h:Run Af R s ms t):∀ {u:List Int},Run Af R s ms u->t=u:=by
 induction h with
 | nil=>intro u k;cases k;rfl
 | @do_ s s1 t v ms h1 h2 h3 h4 h5 h6 ih=>
  intro u k;rcases Run.inv k with ⟨_,s2,k1,k2,k3,k4,k5,k6⟩ | ⟨e,_⟩
  ·have:s1=s2:=qOJ h5 k5 fun x=>by rw [h4.mem_iff,k4.mem_iff]
   subst this;exact ih k6
  ·exact absurd e.symm qAC
 | @clear s t v ms h1 h2 ih=>
  intro u k;rcases Run.inv k with ⟨e,_⟩ | ⟨_,k1,k2⟩
  ·exact absurd e qAC
  ·exact ih k2
theorem qMI {t:List Int} (h:Run Af R [] p t) {c g:Nat} {w:Int} (A:Ag p c g w):∃ s1 s2 s3:List Int,Run Af R [] (p.take c) s1/\w ∈ s1/\s1.Pairwise (·<·)/\Run Af R (s1.filter fun x=>decide (x ≠ w)) ((p.drop (c+1)).take (g - (c+1))) s2/\w ∉ s2/\s3.Perm (s2++[w])/\s3.Pairwise (·<·)/\Run Af R s3 (p.drop (g+1)) t/\(∀ m ∈ (p.drop (c+1)).take (g - (c+1)),m ≠ dO w)/\fil c g 0 p=p.take c++((p.drop (c+1)).take (g - (c+1))++p.drop (g+1))/\∀ j,qDA (p.take (c+1+j))=((s1.filter fun x=>decide (x ≠ w)).length:Int)+qDA ((p.drop (c+1)).take j):=by
 obtain ⟨gc,gg,cg,no⟩:=A;obtain ⟨hc,ec⟩:=A1.mp gc;obtain ⟨hg,eg⟩:=A1.mp gg;have split:p=p.take c++(cL w::((p.drop (c+1)).take (g - (c+1))++(dO w::p.drop (g+1)))):=by
  conv=>lhs;rw [<- J5 c p,D6 hc,ec,<- J5 (g - (c+1)) (p.drop (c+1)),m9,show c+1+(g - (c+1))=g by omega,D6 hg,eg]
 have h':=h;rw [split] at h';obtain ⟨s1,r1,r2⟩:=qFE h';have u1:=Run.up r1 .nil;rcases Run.inv r2 with ⟨z,_⟩ | ⟨_,k1,k2⟩
 ·exact absurd z qAC
 obtain ⟨s2,r3,r4⟩:=qFE k2;rcases Run.inv r4 with ⟨_,s3,q1,q2,q3,q4,q5,q6⟩ | ⟨z,_⟩
 ·refine ⟨s1,s2,s3,r1,k1,u1,r3,q1,q4,q5,q6,fun m hm z=>?_,by rw [qP3 cg (by omega),G8],fun j=>?_⟩
  ·obtain ⟨q,hq,eq⟩:=Y0 hm;rw [C1,F5] at hq;rw [o6,b5] at eq;exact no (c+1+q) (by omega) (by omega) (by rw [A3 (by omega),eq,z])
  ·have l1:=qI4 (qBK u1) k1;have e1:=qYS r1 .nil;have e2:p.take (c+1+j)=p.take c++(cL w::(p.drop (c+1)).take j):=by
    rw [A75,A75,G8,D6 hc,ec]
    rfl
   rw [e2,qQ4,qCB,show pm (cL w) = -1 from qG0 w];simp only [Q2] at e1;dsimp only at l1;omega
 ·exact absurd z.symm qAC
theorem qJE {t:List Int} (h:Run Af R [] p t) {c g:Nat} {w:Int} (A:Ag p c g w) (sp:Spr R p c g):Run Af R [] (fil c g 0 p) t:=by
 obtain ⟨s1,s2,s3,r1,k1,u1,r3,q1,q4,q5,q6,no,ef,es⟩:=qMI h A;have l2:((p.drop (c+1)).take (g - (c+1))).length<=g - (c+1):=by rw [C1];omega
 have pm1:s1.Perm ((s1.filter fun x=>decide (x ≠ w))++[w]):=by
  refine (X4 (qBK u1) ?_).mpr fun x=>?_
  ·rw [b6];refine ⟨(qBK u1).filter _,by simp,fun a ha b hb z=>?_⟩
   rw [A6.mp hb] at z;exact (of_decide_eq_true (B0.mp ha).2) z
  ·rw [B8,A6,B0,decide_eq_true_eq]
   constructor
   ·intro hx;by_cases z:x=w
    ·exact .inr z
    ·exact .inl ⟨hx,z⟩
   ·rintro (z | z)
    ·exact z.1
    ·rw [z];exact k1
 obtain ⟨t',r,e1,e2⟩:=qVI r3 (fun z=>of_decide_eq_true (B0.mp z).2 rfl) (u1.filter _) no (fun j hj=>by
  have:=sp (c+1+j) (by omega) (by omega)
  rw [show c+1+j+1=c+1+(j+1) by omega,es] at this
  rw [A61,show min (j+1) (g - (c+1))=j+1 by omega]
  exact this) s1 pm1 u1
 have et:t'=s3:=qOJ e2 q5 fun x=>by rw [e1.mem_iff,q4.mem_iff]
 subst et;rw [ef];exact r1.app (r.app q6)
theorem qVC {t t':List Int} (R0:0<=R) (h:Run Af R [] p t) {c g:Nat} {w:Int} (A:Ag p c g w) (h':Run Af R [] (fil c g 0 p) t'):Spr R p c g:=by
 obtain ⟨s1,s2,s3,r1,k1,u1,r3,q1,q4,q5,q6,no,ef,es⟩:=qMI h A;have lg:g<p.length:=(A1.mp A.2.1).1;have l2:((p.drop (c+1)).take (g - (c+1))).length=g - (c+1):=by rw [C1,F5];omega
 rw [ef] at h';obtain ⟨x1,y1,y2⟩:=qFE h';have ex:x1=s1:=qSI y1 r1;subst ex;obtain ⟨x2,y3,_⟩:=qFE y2;have pm1:x1.Perm ((x1.filter fun x=>decide (x ≠ w))++[w]):=by
  refine (X4 (qBK u1) ?_).mpr fun x=>?_
  ·rw [b6];refine ⟨(qBK u1).filter _,by simp,fun a ha b hb z=>?_⟩
   rw [A6.mp hb] at z;exact (of_decide_eq_true (B0.mp ha).2) z
  ·rw [B8,A6,B0,decide_eq_true_eq]
   constructor
   ·intro hx;by_cases z:x=w
    ·exact .inr z
    ·exact .inl ⟨hx,z⟩
   ·rintro (z | z)
    ·exact z.1
    ·rw [z];exact k1
 have fit:=qVK r1 (by simpa using R0)
 intro k k1' k2';have:=qVL r3 (fun z=>of_decide_eq_true (B0.mp z).2 rfl) (u1.filter _) no x1 x2 pm1 fit y3 (k - (c+1)) (by rw [l2];omega)
 rw [A61,show min (k - (c+1)+1) (g - (c+1))=k - (c+1)+1 by omega,<- es,show c+1+(k - (c+1)+1)=k+1 by omega] at this
 exact this
theorem qYU {w:Int} {s t:List Int} {ms:List Mv} (h:Run Af R s ms t):w ∉ s->(∀ m ∈ ms,m ≠ dO w)->w ∉ t/\∀ m ∈ ms,m ≠ cL w:=by
 induction h with
 | nil=>intro h _;exact ⟨h,fun m hm=>nomatch hm⟩
 | @do_ s s1 t v ms h1 h2 h3 h4 h5 h6 ih=>
  intro hw hm;have vw:v ≠ w:=fun z=>hm _ C0 (by rw [z])
  obtain ⟨a,b⟩:=ih (fun z=>by
   rcases B8.mp (h4.mem_iff.mp z) with z | z
   ·exact hw z
   ·exact vw (A6.mp z).symm) fun m h=>hm m (A7 _ h)
  refine ⟨a,fun m h=>?_⟩;rcases B7.mp h with z | z
  ·rw [z];exact qP6
  ·exact b m z
 | @clear s t v ms h1 h2 ih=>
  intro hw hm;have vw:v ≠ w:=fun z=>hw (z ▸ h1);obtain ⟨a,b⟩:=ih (fun z=>hw (B0.mp z).1) fun m h=>hm m (A7 _ h);refine ⟨a,fun m h=>?_⟩;rcases B7.mp h with z | z
  ·rw [z];exact fun e=>vw (congrArg u0 e)
  ·exact b m z
def qED (p:List Mv):Nat->Int->Option Nat
 | 0,_=>none
 | b+1,w=>if p[b]?=some (cL w) then some b else if p[b]?=some (dO w) then none else qED p b w
theorem qYA {w:Int}:∀ {b c:Nat},qED p b w=some c->c<b/\p[c]?=some (cL w)/\∀ k,c<k->k<b->p[k]? ≠ some (dO w)
 | 0,c,h=>by cases h
 | b+1,c,h=>by
  unfold qED at h;by_cases c1:p[b]?=some (cL w)
  ·rw [if_pos c1] at h;cases h;exact ⟨by omega,c1,fun k _ _=>by omega⟩
  ·rw [if_neg c1] at h;by_cases c2:p[b]?=some (dO w)
   ·rw [if_pos c2] at h;cases h
   ·rw [if_neg c2] at h;obtain ⟨a1,a2,a3⟩:=qYA h;refine ⟨by omega,a2,fun k h1 h2=>?_⟩
    by_cases e:k=b
    ·rw [e];exact c2
    ·exact a3 k h1 (by omega)
theorem qc4 {w:Int} {c g:Nat} (h:qED p g w=some c) (e:p[g]?=some (dO w)):Ag p c g w:=by
 obtain ⟨a,b,d⟩:=qYA h;exact ⟨b,e,a,d⟩
theorem qV4 {t:List Int} (h:Run Af R [] p t) {c g:Nat} {w:Int} (A:Ag p c g w):qED p g w=some c:=by
 obtain ⟨s1,s2,s3,r1,k1,u1,r3,q1,q4,q5,q6,no,ef,es⟩:=qMI h A;obtain ⟨_,nc⟩:=qYU r3 (fun z=>of_decide_eq_true (B0.mp z).2 rfl) no;have lg:g<p.length:=(A1.mp A.2.1).1;have key:∀ d,c+1+d<=g->qED p (c+1+d) w=some c:=by
  intro d
  induction d with
  | zero=>intro _;exact if_pos A.1
  | succ d ih=>
   intro hd;show (if p[c+1+d]?=some (cL w) then _ else if p[c+1+d]?=some (dO w) then _ else qED p (c+1+d) w)=_
   have n1:p[c+1+d]? ≠ some (cL w):=fun z=>by
    refine nc (cL w) ?_ rfl;have:((p.drop (c+1)).take (g - (c+1)))[d]?=some (cL w):=by
     rw [Q7 (by omega),l7]
     exact z
    exact B4 this
   rw [if_neg n1,if_neg (A.2.2.2 _ (by omega) (by omega))]
   exact ih (by omega)
 have:=A.2.2.1;have:=key (g - (c+1)) (by omega)
 rwa [show c+1+(g - (c+1))=g by omega] at this
theorem qZV (l:List Int):qB2 (l.map cL)=[]:=by
 induction l with
 | nil=>rfl
 | cons x l ih=>
  unfold qB2 at ih ⊢;rw [D7,O0,if_neg (show ¬ (cL x).1=C4 "do" from fun z=>qAC z)]
  exact ih
theorem qY6 (w:Int) (l:List Mv):qB2 (dO w::l)=w::qB2 l:=by
 unfold qB2;rw [O0,if_pos rfl]
theorem qU7 {t:List Int} (h:Run Af R [] p t) {c g:Nat} {w:Int} (A:Ag p c g w):(qB2 (fil c g 0 p)).length+1=(qB2 p).length/\(fil c g 0 p).length+2=p.length/\(MvOk Af p->MvOk Af (fil c g 0 p)):=by
 obtain ⟨gc,gg,cg,no⟩:=A;obtain ⟨hc,ec⟩:=A1.mp gc;obtain ⟨hg,eg⟩:=A1.mp gg;have split:p=p.take c++(cL w::((p.drop (c+1)).take (g - (c+1))++(dO w::p.drop (g+1)))):=by
  conv=>lhs;rw [<- J5 c p,D6 hc,ec,<- J5 (g - (c+1)) (p.drop (c+1)),m9,show c+1+(g - (c+1))=g by omega,D6 hg,eg]
 have e2:qB2 (cL w::((p.drop (c+1)).take (g - (c+1))++(dO w::p.drop (g+1))))=qB2 ((p.drop (c+1)).take (g - (c+1))++(dO w::p.drop (g+1))):=by
  refine (qD6 [cL w] _).trans ?_;rw [show qB2 [cL w]=[] from qZV [w],Z0]
  rfl
 rw [qP3 cg (by omega)]
 refine ⟨?_,?_,fun mo m hm=>?_⟩
 ·conv=>rhs;rw [split]
  rw [qD6,qD6,qD6,e2,qD6,qY6];simp only [A4,B3];omega
 ·simp only [A4,C1,F5];omega
 ·rcases B8.mp hm with z | z
  ·rcases B8.mp z with z | z
   ·exact mo m (d6 z)
   ·exact mo m (Q8 (d6 z))
  ·exact mo m (Q8 z)
def cntB (p:List Mv) (n:Nat):List Int:=(C8 n).map fun j=>qDA (p.take (j+1))
theorem qJ0 (p:List Mv) (n:Nat):(cntB p n).length=n:=by unfold cntB;rw [A0,T5]
theorem qUE (p:List Mv) (n:Nat):cntB p (n+1)=cntB p n++[qDA (p.take (n+1))]:=by unfold cntB;rw [A55,B1];rfl
theorem qQI {n k:Nat} (h:k<n):(cntB p n)[k]?=some (qDA (p.take (k+1))):=by
 unfold cntB;rw [B5,A09 h]
 rfl
theorem qYN {c g:Nat} (hg:g<=p.length):Spr R p c g ↔ ∀ x ∈ ((cntB p p.length).drop (c+1)).take (g - (c+1)),x<R:=by
 constructor
 ·intro h x hx;obtain ⟨j,hj⟩:=c7.mp hx;have hl:=(A1.mp hj).1;rw [C1,F5,qJ0] at hl;rw [Q7 (by omega),l7,qQI (by omega)] at hj
  rw [<- A8 hj];exact h _ (by omega) (by omega)
 ·intro h k h1 h2;refine h _ (B4 (i:=k - (c+1)) ?_);rw [Q7 (by omega),l7,qQI (by omega),show c+1+(k - (c+1))=k by omega]
theorem qX0 {α:Type} (xs:List α) {a b:Nat} (h:b<=xs.length) (ab:a<=b):cutI xs (some (a:Int)) (some (b:Int))=(xs.drop a).take (b - a):=by
 unfold cutI;rw [HT.sIx_nat,HT.sIx_nat,Z4 h,Z4 (by omega)]
theorem qNA:∀ (ms:List Mv) (n:Int),peak n ms<=n+(ms.length:Int)
 | [],n=>by show n<=n+0;omega
 | m::ms,n=>by
  have:=qNA ms (n+pm m);have p:pm m<=1:=by unfold pm;split <;> omega
  show max n _<=_;rw [B3];omega
def prB (p:List Mv):Nat->List (List Int)
 | 0=>[]
 | b+1=>prB p b++(if dpB p b then match qED p b (wkO p b) with | some c=>[[(c:Int),(b:Int)]] | none=>[] else [])
theorem qSO:∀ b:Nat,(prB p b).length<=b
 | 0=>A5 _
 | b+1=>by
  have:=qSO b;unfold prB;rw [A4]
  split
  ·split
   ·simp;omega
   ·simp;omega
  ·simp;omega
theorem mem_prB {t:List Int}:∀ {b:Nat},t ∈ prB p b ↔ ∃ (g c:Nat) (w:Int),g<b/\p[g]?=some (dO w)/\qED p g w=some c/\t=[(c:Int),(g:Int)]
 | 0=>⟨fun h=>(nomatch h),fun ⟨g,_,_,h,_⟩=>by omega⟩
 | b+1=>by
  unfold prB;rw [B8,mem_prB (b:=b)]
  constructor
  ·rintro (⟨g,c,w,h1,h2⟩ | h)
   ·exact ⟨g,c,w,by omega,h2⟩
   ·split at h
    ·rename_i hd
     split at h
     ·rename_i c hc
      exact ⟨b,c,wkO p b,by omega,dB_iff.mp hd,hc,A6.mp h⟩
     ·cases h
    ·cases h
  ·rintro ⟨g,c,w,h1,h2,h3,h4⟩;by_cases e:g=b
   ·subst e
    right
    rw [if_pos (qNY h2),qD0 h2,h3,h4];exact A6.mpr rfl
   ·exact .inl ⟨g,c,w,by omega,h2,h3,h4⟩
theorem qSP:∀ b:Nat,(prB p b).length<=(qB2 (p.take b)).length
 | 0=>E8 _
 | b+1=>by
  have ih:=qSP b;unfold prB;rw [A4,D5,qD6,A4];by_cases c:dpB p b=true
  ·have g:=dB_iff.mp c;rw [if_pos c,g,D4,qY6]
   split
   ·simp;omega
   ·simp;omega
  ·rw [if_neg c];simp;omega
theorem qVT {s:List Int} {ms:List Mv} {sts:List (List Int)} {v:V} (h:Play Af R s ms sts v):v=.non->MvOk Af ms->s.Pairwise (·<·)->Run Af R s ms (qH3 s sts):=by
 induction h with
 | nil=>intro _ _ _;exact .nil
 | stop _=>intro h;cases h
 | @go st st' m ms sts v e bh _ ih=>
  intro hv mo up;obtain ⟨wd',w⟩:=m;obtain ⟨hw,w0,w1⟩:=mo (wd',w) C0;dsimp only at hw w0 w1 bh;have inv:=qXF hw e;have mo':MvOk Af ms:=fun m hm=>mo m (A7 _ hm);rcases hw with rfl | rfl
  ·obtain ⟨i1,i2,i3⟩:=inv.1 rfl;obtain ⟨b1,b2⟩:=bh.1 rfl;have nd':st'.Nodup:=b1.nodup_iff.mpr (by
    rw [b6];refine ⟨qBK up,by simp,fun a ha b hb z=>?_⟩
    rw [A6.mp hb] at z;exact i1 (z ▸ ha))
   have up':st'.Pairwise (·<·):=(b2.and nd').imp fun {a b} hab=>by have:=hab.1;have:=hab.2;omega
   exact .do_ i1 i2 i3 b1 up' (ih hv mo' up')
  ·have b1:=bh.2 rfl;subst b1;exact .clear (inv.2 rfl) (ih hv mo' (up.filter _))
theorem qVS {s:List Int} {ms:List Mv} {sts:List (List Int)} {v:V} (h:Play Af R s ms sts v):v=.non\/∃ w0,v=.str w0:=by
 induction h with
 | nil=>exact .inl rfl
 | @stop _ _ _ w0 _=>exact .inr ⟨w0,rfl⟩
 | go _ _ _ ih=>exact ih
theorem qNL:∀ (sts:List (List Int)) (s:List Int),(s::sts)[sts.length]?=some (qH3 s sts)
 | [],s=>rfl
 | x::sts,s=>qNL sts x
def agn (p:List Mv) (c:Nat) (w:Int):List Nat:=(J9 (c+1) (p.length - (c+1))).filter fun k=>decide (p[k]?=some (dO w))
theorem qXA {c g:Nat} {w:Int} {r:List Nat} (hc:p[c]?=some (cL w)) (h:agn p c w=g::r):Ag p c g w:=by
 have hm:g ∈ agn p c w:=by rw [h];exact C0
 unfold agn at hm h;rw [B0,V8,decide_eq_true_eq] at hm;refine ⟨hc,hm.2,by omega,fun k k1 k2 e=>?_⟩
 have hk:k ∈ g::r:=by
  rw [<- h,B0,V8,decide_eq_true_eq];exact ⟨by omega,e⟩
 have up:(g::r).Pairwise (·<·):=by rw [<- h];exact (List.pairwise_lt_range' (s:=c+1) (n:=p.length - (c+1)) (pos:=Nat.one_pos)).filter _
 rcases B7.mp hk with z | z
 ·omega
 ·have:=(G0.mp up).1 k z;omega
structure Sho (Af:List (List Int)) (R:Int) (Ad:List Int) (n d:Nat) (q:List Mv):Prop where
 run:Run Af R [] q Ad
 ok:MvOk Af q
 len:q.length<=n
 tid:tdy Af Ad q=q
 dos:(qB2 q).length<=d
theorem qHO (wf:WFn Af) {t:List Int} (h:Run Af R [] p t) (mo:MvOk Af p) (ha:∀ x ∈ Ad,x ∈ t) (r:Rise (Af.length:Int) Ad):Sho Af R Ad (2 * (qB2 p).length) (qB2 p).length (tdy Af Ad p):=by
 have ha':∀ x,inA Ad x=true->x ∈ t:=fun x hx=>ha x (of_decide_eq_true hx);obtain ⟨k1,k2⟩:=qYK (A:=inA Ad) wf h ha' (fun x hx=>nomatch hx) mo .nil;have want:=qIS h (A:=inA Ad) ha';have e0:lstB Af (bk Af (inA Ad) p).2=[]:=List.eq_nil_iff_forall_not_mem.mpr fun x hx=>by
  have:=want x (mem_lst.mp hx).2;cases this
 have e1:lstB Af (inA Ad)=Ad:=qOJ (qNJ _) r.up fun x=>by
  rw [mem_lst,decide_eq_true_eq];exact ⟨fun z=>z.2,fun z=>⟨r.in_ x z,z⟩⟩
 rw [e0,e1] at k1;have l2:=qQG (Af:=Af) (A:=inA Ad) p;refine ⟨k1,k2,?_,?_,l2⟩
 ·have l1:=Run.len k1 V6;unfold tdy;simp at l1;omega
 ·unfold tdy;rw [qQL]
theorem qU6 (p:List Mv):(qB2 p).length<=p.length:=by unfold qB2;exact p9 _ _
theorem Sho.more {n d n' d':Nat} {q:List Mv} (h:Sho Af R Ad n d q) (hn:n<=n') (hd:d<=d'):Sho Af R Ad n' d' q:=⟨h.run,h.ok,F6 h.len hn,h.tid,F6 h.dos hd⟩
theorem Sho.self {n d:Nat} {q:List Mv} (h:Sho Af R Ad n d q):Sho Af R Ad (2 * (qB2 q).length) (qB2 q).length q:=⟨h.run,h.ok,by
 have l1:=Run.len h.run V6;simp at l1;omega,h.tid,A5 _⟩
theorem qU2 {i e:Nat}:∀ (q:List Mv) (s:Nat),(fil i e s q).length<=q.length
 | [],s=>A5 _
 | m::q,s=>by
  show (if s=i\/s=e then fil i e (s+1) q else m::fil i e (s+1) q).length<=_
  have:=qU2 (i:=i) (e:=e) q (s+1)
  split
  ·rw [B3];omega
  ·rw [B3,B3];omega
theorem Sho.next (wf:WFn Af) (r:Rise (Af.length:Int) Ad) {n d:Nat} {q:List Mv} (h:Sho Af R Ad n d q) {c g:Nat} {w:Int} (A:Ag q c g w) (sp:Spr R q c g):Run Af R [] (fil c g 0 q) Ad/\MvOk Af (fil c g 0 q)/\(fil c g 0 q).length<=n/\(qB2 (tdy Af Ad (fil c g 0 q))).length<(qB2 q).length/\Sho Af R Ad (2 * d) d (tdy Af Ad (fil c g 0 q)):=by
 have k:=qJE h.run A sp;obtain ⟨d1,d2,d3⟩:=qU7 h.run A;have s:=qHO (Ad:=Ad) wf k (d3 h.ok) (fun x hx=>hx) r;have hl:=h.len;have hd:=h.dos;have sd:=s.dos;exact ⟨k,d3 h.ok,by omega,by omega,s.more (by omega) (by omega)⟩
end
def qSC:Sp:=fun vs H Q _=>∃ (d c:Addr) (t:Int) (ns:List Int),vs=[.ref d]/\StAt H d c t ns/\t<=TB - 200000/\
 ∀ T a ta Af Ad t' ns' H',StAt H' d c t' ns'->t<=t'->t'<=t+10000->Keep d c H H'->H' T=some (.tup [.ref a,.ref ta])->NetAt H' a Af->WFn Af->1<=Af.length->Af.length<=20->H' ta=some (.tup (Ad.map V.int))->Rise (Af.length:Int) Ad->1<=Ad.length->Ad.length<=4->Q (.ref T) H'
def qN4:Sp:=fun vs H Q _=>∃ (l:Addr) (p:List Mv),vs=[.ref l]/\PlanAt H l p/\p.length<=1000/\∀ a H',Same H H'->H' a=some (.lst ((cntB p p.length).map V.int))->Q (.ref a) H'
def qXC (H:Hp) (a l t:Addr) (Af:List (List Int)) (p:List Mv) (R:Int) (Ad tt:List Int):Prop:=NetAt H a Af/\WFn Af/\1<=Af.length/\Af.length<=60/\PlanAt H l p/\p.length<=400/\MvOk Af p/\0<=R/\R<=1000/\Run Af R [] p tt/\(∀ x ∈ Ad,x ∈ tt)/\H t=some (.tup (Ad.map V.int))/\Rise (Af.length:Int) Ad/\Ad.length<=400/\(qB2 p).length<64
def qSB:Sp:=fun vs H Q _=>∃ (a l t:Addr) (Af:List (List Int)) (ms:List Mv) (Aa:Int) (Ad:List Int),vs=[.ref a,.int Aa,.ref l,.ref t]/\PlayIn2 H a l Af ms Aa/\H t=some (.tup (Ad.map V.int))/\Ad.length<=1000/\
 (∀ last H',Same H H'->Run Af Aa [] ms last->Q (.bl (decide (∀ x ∈ Ad,x ∈ last))) H')/\(∀ H',Same H H'->(∀ last,¬ Run Af Aa [] ms last)->Q (.bl false) H')
section
variable {Af:List (List Int)} {p:List Mv} {Ad:List Int} {R:Int}
def Lst (R:Int) (p:List Mv) (c g:Nat) (w:Int):Prop:=Ag p c g w/\Spr R p c g/\∀ c' g' w',Ag p c' g' w'->Spr R p c' g'->c<=c'
theorem qYE {c g g':Nat} {w w':Int} (A:Ag p c g w) (B:Ag p c g' w'):g=g'/\w=w':=by
 have ew:w=w':=congrArg u0 (A8 (A.1.symm.trans B.1));subst ew;refine ⟨?_,rfl⟩;rcases R8 g g' with h | h | h
 ·exact absurd A.2.1 (B.2.2.2 g A.2.2.1 h)
 ·exact h
 ·exact absurd B.2.1 (A.2.2.2 g' B.2.2.1 h)
theorem Lst.one {c g c' g':Nat} {w w':Int} (A:Lst R p c g w) (B:Lst R p c' g' w'):c=c'/\g=g'/\w=w':=by
 have h1:=A.2.2 c' g' w' B.1 B.2.1;have h2:=B.2.2 c g w A.1 A.2.1;have e:c=c':=by omega
 subst e;exact ⟨rfl,qYE A.1 B.1⟩
inductive ShTo (Af:List (List Int)) (R:Int) (Ad:List Int):List Mv->List Mv->Prop
 | stop {p:List Mv}:(∀ c g w,Ag p c g w->¬ Spr R p c g)->ShTo Af R Ad p p
 | go {p q:List Mv} {c g:Nat} {w:Int}:Lst R p c g w->ShTo Af R Ad (tdy Af Ad (fil c g 0 p)) q->ShTo Af R Ad p q
theorem ShTo.one {q q':List Mv} (h:ShTo Af R Ad p q):ShTo Af R Ad p q'->q=q':=by
 induction h with
 | stop no=>
  intro k;cases k with
  | stop _=>rfl
  | go L _=>exact absurd L.2.1 (no _ _ _ L.1)
 | go L _ ih=>
  intro k;cases k with
  | stop no=>exact absurd L.2.1 (no _ _ _ L.1)
  | go L' k'=>
   obtain ⟨rfl,rfl,rfl⟩:=L.one L';exact ih k'
inductive ShUp (Af:List (List Int)) (R:Int) (Ad:List Int) (p:List Mv):List Mv->Prop
 | nil:ShUp Af R Ad p p
 | snoc {q:List Mv} {c g:Nat} {w:Int}:ShUp Af R Ad p q->Lst R q c g w->ShUp Af R Ad p (tdy Af Ad (fil c g 0 q))
theorem ShUp.fin {q q':List Mv} (h:ShUp Af R Ad p q):ShTo Af R Ad q q'->ShTo Af R Ad p q':=by
 induction h with
 | nil=>exact id
 | snoc _ L ih=>exact fun k=>ih (.go L k)
theorem qSJ {s t:List Int} {ms:List Mv} (h:Run Af R s ms t):MvOk Af ms->s.Pairwise (·<·)->(∀ x ∈ s,0<=x/\x<(Af.length:Int))->Run Af (Af.length:Int) s ms t:=by
 induction h with
 | nil=>intro _ _ _;exact .nil
 | @do_ s s1 t v ms h1 h2 h3 h4 h5 h6 ih=>
  intro mo up hs;obtain ⟨_,w0,w1⟩:=mo ("do",v) C0
  dsimp only at w0 w1;have:=J4 (l₁:=v::s) (l₂:=qD1 0 (Af.length:Int)) (Q4.mpr ⟨h1,qBK up⟩) fun x hx=>by
   rw [mem_rangeI];rcases B7.mp hx with z | z
   ·rw [z];exact ⟨w0,w1⟩
   ·exact hs x z
  rw [B3,qHP] at this;refine .do_ h1 h2 (by omega) h4 h5 (ih (fun m hm=>mo m (A7 _ hm)) h5 fun x hx=>?_)
  rcases B8.mp (h4.mem_iff.mp hx) with z | z
  ·exact hs x z
  ·rw [A6.mp z];exact ⟨w0,w1⟩
 | @clear s t v ms h1 h2 ih=>
  intro mo up hs;exact .clear h1 (ih (fun m hm=>mo m (A7 _ hm)) (up.filter _) fun x hx=>hs x (B0.mp hx).1)
theorem qbI {c c' g g':Int} (h:HT.lexLt [c',g'] [c,g]=false):c<=c':=by
 refine Int.not_lt.mp fun z=>?_;simp [HT.lexLt,z] at h;omega
end
def qN3:Sp:=fun vs H Q _=>∃ (l:Addr) (p:List Mv),vs=[.ref l]/\PlanAt H l p/\p.length<=1000/\(∀ m ∈ p,m.1 = "do"\/m.1 = "clear")/\(qB2 p).length<64/\∀ a rs ts H',Same H H'->H' a=some (.lst (rs.map V.ref))->L2.GS.TupsAt H' rs ts->ts.Perm (prB p p.length)->ts.Pairwise (fun a b=>HT.lexLt b a=false)->Q (.ref a) H'
def qPS:Sp:=fun vs H Q _=>∃ (l:Addr) (p:List Mv) (R:Int),vs=[.int R,.ref l]/\PlanAt H l p/\p.length<=1000/\(∀ m ∈ p,m.1 = "do"\/m.1 = "clear")/\(qB2 p).length<64/\
 (∀ T H' c g w,Same H H'->H' T=some (.tup [.int ((c:Nat):Int),.int ((g:Nat):Int)])->Ag p c g w->Spr R p c g->(∀ c' g' w',p[g']?=some (dO w')->qED p g' w'=some c'->Spr R p c' g'->c<=c')->Q (.ref T) H')/\(∀ H',Same H H'->(∀ c g w,p[g]?=some (dO w)->qED p g w=some c->¬ Spr R p c g)->Q .non H')
def qFV:Sp:=fun vs H Q _=>∃ (a l t:Addr) (Af:List (List Int)) (p:List Mv) (R:Int) (Ad tt:List Int),vs=[.ref a,.int R,.ref l,.ref t]/\qXC H a l t Af p R Ad tt/\
 ∀ l' q H',Same H H'->H l'=none->PlanAt H' l' q->Sho Af R Ad (2 * (qB2 (tdy Af Ad p)).length) (qB2 (tdy Af Ad p)).length q->ShTo Af R Ad (tdy Af Ad p) q->Q (.ref l') H'
def qKL:Sp:=fun vs H Q _=>∃ (a l t:Addr) (Af:List (List Int)) (p:List Mv) (R:Int) (Ad:List Int),vs=[.ref a,.int R,.ref l,.ref t]/\PlayIn2 H a l Af p R/\p.length<=1000/\H t=some (.tup (Ad.map V.int))/\Ad.length<=1000/\Run Af R [] p Ad/\
 (∀ H',Same H H'->(∀ c g w,Ag p c g w->¬ Spr R p c g)->Q .non H')/\(∀ l' c g w H',Same H H'->H l'=none->Lst R p c g w->PlanAt H' l' (fil c g 0 p)->Q (.ref l') H')
section
variable {Af:List (List Int)} {R:Int} {Ad:List Int} {p:List Mv} {c g n:Nat} {w:Int}
def agB (p:List Mv) (c g:Nat):Bool:=decide (p[c]?=some (cL (wkO p c))) && decide (p[g]?=some (dO (wkO p c))) && decide (c<g) && (C8 g).all fun k=>decide (k<=c) || !decide (p[k]?=some (dO (wkO p c)))
theorem agB_is:agB p c g=true ↔ Ag p c g (wkO p c):=by
 unfold agB Ag;simp only [E1,decide_eq_true_eq,G9,J1,M8,R9,decide_eq_false_iff_not,and_assoc];refine and_congr_right fun _=>and_congr_right fun _=>and_congr_right fun _=>⟨fun h k a b=>(h k b).resolve_left (by omega),fun h k b=>?_⟩
 by_cases z:k<=c
 ·exact .inl z
 ·exact .inr (h k (by omega) b)
theorem qdA (h:Ag p c g w):wkO p c=w:=by unfold wkO;rw [h.1]
def sprB (R:Int) (p:List Mv) (c g:Nat):Bool:=(C8 g).all fun k=>decide (k<=c) || decide (qDA (p.take (k+1))<R)
theorem sprB_is:sprB R p c g=true ↔ Spr R p c g:=by
 unfold sprB Spr;simp only [decide_eq_true_eq,G9,J1,M8];refine ⟨fun h k a b=>(h k b).resolve_left (by omega),fun h k b=>?_⟩
 by_cases z:k<=c
 ·exact .inl z
 ·exact .inr (h k (by omega) b)
def noB (R:Int) (p:List Mv) (n:Nat):Bool:=(C8 n).all fun c=>(C8 p.length).all fun g=>!(agB p c g && sprB R p c g)
theorem qXS (h:noB R p n=true) (hc:c<n) (A:Ag p c g w):¬ Spr R p c g:=by
 intro S;unfold noB at h;have:=G9.mp (G9.mp h c (J1.mpr hc)) g (J1.mpr (A1.mp A.2.1).1);have e:=qdA A;subst e;rw [agB_is.mpr A,sprB_is.mpr S] at this;cases this
def shC (Af:List (List Int)) (R:Int) (Ad:List Int):List (Nat × Nat)->List Mv->List Mv->Bool
 | [],p,q=>noB R p p.length && decide (p=q)
 | (c,g)::r,p,q=>agB p c g && sprB R p c g && noB R p c && shC Af R Ad r (tdy Af Ad (fil c g 0 p)) q
theorem qXL:∀ (r:List (Nat × Nat)) (p q:List Mv),shC Af R Ad r p q=true->ShTo Af R Ad p q
 | [],p,q,h=>by
  unfold shC at h;rw [E1,decide_eq_true_eq] at h;obtain ⟨h,rfl⟩:=h;exact .stop fun c g w A=>qXS h (by have:=(A1.mp A.1).1;exact this) A
 | (c,g)::r,p,q,h=>by
  unfold shC at h;simp only [E1] at h;obtain ⟨⟨⟨h1,h2⟩,h3⟩,h4⟩:=h;exact .go (w:=wkO p c) ⟨agB_is.mp h1,sprB_is.mp h2,fun c' g' w' A S=>Nat.not_lt.mp fun z=>qXS h3 z A S⟩ (qXL r _ q h4)
end
abbrev IntE (e:Expr) (z:Int):Prop:=∃ k p,e=.Constant (.int z) k p
abbrev qa9 (e:Expr) (zs:List Int):Prop:=∃ es k p,e=.Tuple es k p/\Paired IntE es zs
abbrev MovE (e:Expr) (m:Mv):Prop:=∃ k p k1 p1 k2 p2,e=.Tuple [.Constant (.str m.1) k p,.Constant (.int m.2) k1 p1] k2 p2
theorem qZ2 {es:List Expr} {zs:List Int} (h:Paired IntE es zs):∃ t:TA,(∀ X,PA X es t)/\∀ {σ:St} {H:Hp} {Q:List V->Hp->Prop},Q (zs.map V.int) H->t σ H Q:=by
 induction h with
 | nil=>exact ⟨tNil,fun X=>qA3,fun q=>q⟩
 | cons h _ ih=>
  obtain ⟨k,p,rfl⟩:=h;obtain ⟨t,h1,h2⟩:=ih;exact ⟨qKB (tC (.int _)) t,fun X=>qA0 qA7 (h1 X) qM1,fun q=>h2 q⟩
theorem qb9 {es:List Expr} {Af:List (List Int)} (h:Paired qa9 es Af) (hl:∀ zs ∈ Af,zs.length<=1000):∃ t:TA,(∀ X,PA X es t)/\∀ {σ:St} {H:Hp} {Q:List V->Hp->Prop},(∀ (rs:List Addr) H',Same H H'->NetL H' rs Af->Q (rs.map V.ref) H')->t σ H Q:=by
 induction h with
 | nil=>exact ⟨tNil,fun X=>qA3,fun q=>q [] _ (.refl _) .nil⟩
 | @cons e zs _ Af h _ ih=>
  obtain ⟨es,k,p,rfl,h⟩:=h;obtain ⟨t,h1,h2⟩:=ih fun z hz=>hl z (A7 _ hz);obtain ⟨u,g1,g2⟩:=qZ2 h;refine ⟨qKB (tTup u) t,fun X=>qA0 (qBC (g1 X)) (h1 X) qY2,fun q=>g2 ⟨by rw [sizeLine_eq,A0];have:=hl zs C0;omega,fun a ha=>h2 fun rs H' s N=>?_⟩⟩
  exact q (a::rs) H' ((qA2 ha _).trans s) (.cons (s _ _ qA1) N)
theorem qZ1 {es:List Expr} {ms:List Mv} (h:Paired MovE es ms):∃ t:TA,(∀ X,PA X es t)/\∀ {σ:St} {H:Hp} {Q:List V->Hp->Prop},(∀ (rs:List Addr) H',Same H H'->MovL H' rs ms->Q (rs.map V.ref) H')->t σ H Q:=by
 induction h with
 | nil=>exact ⟨tNil,fun X=>qA3,fun q=>q [] _ (.refl _) .nil⟩
 | @cons e m _ ms h _ ih=>
  obtain ⟨k,p,k1,p1,k2,p2,rfl⟩:=h;obtain ⟨t,h1,h2⟩:=ih;refine ⟨qKB (tTup (qKB (tC (.str m.1)) (qKB (tC (.int m.2)) tNil))) t,fun X=>qA0 (qBC (qA0 qB9 (qA0 qA7 qA3 qM1) qM1)) (h1 X) qY2,fun q=>⟨by show 2<=sizeLine;decide,fun a ha=>h2 fun rs H' s N=>?_⟩⟩
  exact q (a::rs) H' ((qA2 ha _).trans s) (.cons (s _ _ qA1) N)
theorem qb6 {es:List Expr} {Af:List (List Int)} (h:Paired qa9 es Af) (h1:Af.length<=1000) (hl:∀ zs ∈ Af,zs.length<=1000) (k:Nat) (p:Pos):∃ t:TE,(∀ X,PE X (.Tuple es k p) t)/\∀ {σ:St} {H:Hp} {Q:VK},(∀ a H',Same H H'->NetAt H' a Af->Q (.ref a) H')->t σ H Q:=by
 obtain ⟨t,g1,g2⟩:=qb9 h hl;refine ⟨tTup t,fun X=>qBC (g1 X),fun q=>g2 fun rs H' s N=>⟨by rw [sizeLine_eq,A0,B2 N];omega,fun a ha=>?_⟩⟩
 exact q a _ (s.trans (qA2 ha _)) ⟨rs,qA1,NetL.same N fun r zs e=>qA2 ha _ _ _ e⟩
theorem qSU {es:List Expr} {ms:List Mv} (h:Paired MovE es ms) (h1:ms.length<=1000) (p:Pos):∃ t:TE,(∀ X,PE X (.List es p) t)/\∀ {σ:St} {H:Hp} {Q:VK},(∀ a rs H',Same H H'->H a=none->H' a=some (.lst (rs.map V.ref))->MovL H' rs ms->Q (.ref a) H')->t σ H Q:=by
 obtain ⟨t,g1,g2⟩:=qZ1 h;refine ⟨tLst t,fun X=>qBG (g1 X),fun q=>g2 fun rs H' s N=>⟨by rw [sizeLine_eq,A0,B2 N];omega,fun a ha=>?_⟩⟩
 exact q a rs _ (s.trans (qA2 ha _)) (s.free ha) qA1 (MovL.same N (qA2 ha _))
def qaQ:Sp:=fun vs H Q _=>vs=[]/\∀ H',Same H H'->Q (.bl true) H'
def net6:List (List Int):=[[],[0],[],[2],[1,3],[1,2,4]]
def plnA6:List Mv:=[dO 0,dO 1,dO 2,dO 3,cL 2,dO 4,cL 1,cL 3]
def plnB6:List Mv:=[dO 1,cL 0,dO 2,dO 5,cL 1,cL 2,cL 4]
theorem run6:Run net6 4 [] (plnA6++plnB6) [5]:=by
 refine .do_ (s':=[0]) (by decide) (by decide) (by decide) (by decide) (by decide) ?_
 refine .do_ (s':=[0,1]) (by decide) (by decide) (by decide) (by decide) (by decide) ?_
 refine .do_ (s':=[0,1,2]) (by decide) (by decide) (by decide) (by decide) (by decide) ?_
 refine .do_ (s':=[0,1,2,3]) (by decide) (by decide) (by decide) (by decide) (by decide) ?_
 refine .clear (by decide) ?_
 refine .do_ (s':=[0,1,3,4]) (by decide) (by decide) (by decide) (by decide) (by decide) ?_
 refine .clear (by decide) ?_
 refine .clear (by decide) ?_
 refine .do_ (s':=[0,1,4]) (by decide) (by decide) (by decide) (by decide) (by decide) ?_
 refine .clear (by decide) ?_
 refine .do_ (s':=[1,2,4]) (by decide) (by decide) (by decide) (by decide) (by decide) ?_
 refine .do_ (s':=[1,2,4,5]) (by decide) (by decide) (by decide) (by decide) (by decide) ?_
 refine .clear (by decide) ?_
 refine .clear (by decide) ?_
 refine .clear (by decide) ?_
 exact .nil
def q6:List Mv:=[dO 0,dO 1,cL 0,dO 2,dO 3,dO 4,cL 3,dO 5,cL 1,cL 2,cL 4]
theorem sh6:ShTo net6 4 [5] (tdy net6 [5] (plnA6++plnB6)) q6:=qXL [(6,8),(5,8)] _ _ (by decide +kernel)
theorem wf6:WFn net6:=by
 have all:∀ i:Fin 6,∀ zs,net6[i.val]?=some zs->zs.Pairwise (·<·)/\∀ x ∈ zs,0<=x/\x<(i.val:Int):=by
  intro i zs e
  match i with
  | 0=>cases e;decide
  | 1=>cases e;decide
  | 2=>cases e;decide
  | 3=>cases e;decide
  | 4=>cases e;decide
  | 5=>cases e;decide
 intro i zs e;have hi:i<6:=(A1.mp e).1;obtain ⟨a,b⟩:=all ⟨i,hi⟩ zs e;exact ⟨a,b⟩
theorem in6 {H:Hp} {a l t:Addr} (hN:NetAt H a net6) (hP:PlanAt H l (plnA6++plnB6)) (hT:H t=some (.tup (([5]:List Int).map V.int))):qXC H a l t net6 (plnA6++plnB6) 4 [5] [5]:=
 ⟨hN,wf6,by decide,by decide,hP,by decide,by unfold MvOk;decide,by decide,by decide,run6,by decide,hT,⟨by decide,by decide⟩,by decide,by decide⟩
section
variable {P:Program} {w:World} {K:PySem.W.Frag} {mg:Str->Option Value} {base:Heap} {f:Addr} {fd:FuncData}
theorem sc_Lbegin:FnScope ["_law_script","_law_cells"] ["_law_script"] (qAH qIQ):=⟨rfl,rfl,rfl,by decide +kernel,rfl,by decide +kernel,by decide +kernel⟩
theorem ok_Lbegin (F:Fun K "_law_begin" "_law_begin" qIQ f fd) (qC1:mg "list" = none):FnOk P w K mg base CX0 1 f fd ["_law_script"] (qSD K):=by
 refine F.ok sc_Lbegin (fun vs H Q E h=>?_) (fun cdv A outer s H vs Q E hr h=>?_)
 ·obtain ⟨a,ns,rfl,_⟩:=h
  rfl
 obtain ⟨a,ns,rfl,hS,h63,q⟩:=h;have hu:=qP1 hr;have hu0:=hr.units0;refine ⟨_,(qA4 (qAE (i:=1) sc_Lbegin.nd rfl (C5 rfl) (qAS qFM rfl qC1 qFN (qA0 (qG1 qJG (pv 0) qJK (qGI qA7)) qA3))) (qA4 (qBW (qAI (qNC hu0) (pv 1) (qBG qA3) (qAY _)) (qA6 (qAE (i:=1) sc_Lbegin.nd rfl (C5 rfl) (qBG (qA0 qA7 qA3)))) qAM) (qA6 (qAL (qYZ (qPZ qB9 (pv 1) (qPZ qB9 qA7 qYW)) rfl rfl (by simp) (by decide)))))),?_⟩
 try dsimp only [Cx.nox,Cx.wish,cxOf]
 refine ⟨_,rfl,_,rfl,a,_,rfl,hS,fun p hp=>?_⟩;rw [qIZ];have hl:(cutI ns none (some 63)).length<=63:=F6 (qX1 _ _ _) h63;refine ⟨p,_,rfl,.inl (SqL.of qA1),fun c hc=>?_⟩;have s1:Same H (Ai (Ai H p (.lst ((cutI ns none (some 63)).map V.int))) c (.lst ((cutI ns none (some 63)).map V.int))):=(qA2 hp _).trans (qA2 hc _);refine ⟨_,rfl,(by show 0<=sizeLine;decide),fun e he=>?_⟩
 have hce:c ≠ e:=qA5 qA1 he;refine ⟨c,e,_,rfl,rfl,SqL.of (by rw [qA8 hce];exact qA1),SqL.of qA1,_,rfl,?_⟩
 have s2:=s1.trans (qA2 he (.lst []));cases hm:cutI ns none (some 63) with
 | nil=>
  rw [hm] at s2 he;refine iteT ?_;refine ⟨(by show 1<=sizeLine;decide),fun c2 hc2=>?_⟩
  have s3:=s2.trans (qA2 hc2 (.lst [.int 7]));intro d hd;refine ⟨_,rfl,?_⟩;have s4:=s3.trans (qA2 hd (.dK []));refine ⟨qA1,[(L1 (C4 "cells"),.ref c2),(L1 (C4 "turn"),.int 0)],rfl,(by show 2<=15;decide),?_⟩
  have ncd:c2 ≠ d:=qA5 qA1 hd;refine q d c2 [7] _ ⟨?_,?_,by decide,by decide,by decide⟩ ?_ ?_ ?_
  ·rw [qA1,qXT]
  ·rw [qA8 ncd,qA8 ncd];exact qA1
  ·rw [qL9];exact s3.trans (qA2 hd _)
  ·exact s3.free hd
  ·exact s2.free hc2
 | cons x r=>
  rw [hm] at s2 he hl;refine iteF ?_;intro d hd;refine ⟨_,rfl,?_⟩;refine ⟨qA1,[(L1 (C4 "cells"),.ref c),(L1 (C4 "turn"),.int 0)],rfl,(by show 2<=15;decide),?_⟩
  have gc:(Ai (Ai (Ai H p (.lst ((x::r).map V.int))) c (.lst ((x::r).map V.int))) e (.lst [])) c=some (.lst ((x::r).map V.int)):=by rw [qA8 hce];exact qA1
  have ncd:c ≠ d:=qA5 gc hd;refine q d c (x::r) _ ⟨?_,?_,by simp,hl,by decide⟩ ?_ ?_ ?_
  ·rw [qA1,qXT]
  ·rw [qA8 ncd,qA8 ncd];exact gc
  ·rw [qL9];exact s2.trans (qA2 hd _)
  ·exact s2.free hd
  ·rw [hm] at hc;exact (qA2 hp _).free hc
theorem sc_Ltake:FnScope ["_law_state","_law_many","_law_turn","_law_place","_law_cell","_law_digit","_law_mixed"] ["_law_state","_law_many"] (qAH qLH):=⟨rfl,rfl,rfl,by decide +kernel,rfl,by decide +kernel,by decide +kernel⟩
theorem ok_Ltake (F:Fun K "_law_take" "_law_take" qLH f fd) (qAU:mg "len" = none) (qFU:mg "divmod" = none):FnOk P w K mg base CX0 1 f fd ["_law_state","_law_many"] qGD:=by
 refine F.ok sc_Ltake (fun vs H Q E h=>?_) (fun cdv A outer s H vs Q E hr h=>?_)
 ·obtain ⟨d,c,t,ns,m,rfl,_⟩:=h
  rfl
 obtain ⟨d,c,t,ns,m,rfl,S,ht,hm1,hm2,q⟩:=h;have hu:=qP1 hr;refine ⟨_,(qA4 (qAE (i:=2) sc_Ltake.nd rfl (C5 rfl) (qB5 qDK (qE7 hu (pv 0) qB9 (fun _ _=>rfl)) qA7)) (qA4 (qFF hu (pv 0) qB9 (pv 2) rfl) (qA4 (qAE (i:=3) sc_Ltake.nd rfl (C5 rfl) (qB5 qJP (pv 2) (qA9 qAB rfl qAU qBA (qA0 (qE7 hu (pv 0) qB9 (fun _ _=>rfl)) qA3)))) (qA4 (qAE (i:=4) sc_Ltake.nd rfl (C5 rfl) (qAV qC5 (qE7 hu (pv 0) qB9 (fun _ _=>rfl)) (pv 3) (fun _ _=>rfl))) (qA4 (qBW (qAI qW3 (pv 4) (qB5 qbA qA7 qA7) (qAY _)) (qA4 (qI7 (qA9 qP7 rfl qFU qUS (qA0 (pv 4) (qA0 (pv 1) qA3))) (qDU rfl (qAK (qST (qE7 hu (pv 0) qB9 (fun _ _=>rfl)) (pv 3) qLE) (qAK (qAA (i:=5) sc_Ltake.nd rfl (C5 rfl)) qC4)))) (qA6 (qAL (pv 5)))) qAM) (qA4 (qAE (i:=6) sc_Ltake.nd rfl (C5 rfl) (qB5 qJP (qB5 qKT (qB5 qDK (qB5 qDK (qB5 qJP (pv 4) qA7) (qB5 qKT (qB5 qKT (pv 2) (pv 2)) qA7)) qA7) qA7) qA7)) (qA4 (qAE (i:=6) sc_Ltake.nd rfl (C5 rfl) (qB5 qJP (qB5 qKT (pv 6) (pv 6)) qA7)) (qA6 (qAL (qB5 qJP (qB5 qOV (qB5 qJP (qB5 qKT (qB5 qDK (pv 6) (qB5 qKT (pv 2) qA7)) qA7) qA7) qA7) (pv 1))))))))))),?_⟩
 try dsimp only [Cx.nox,Cx.wish,cxOf]
 have hpos:=S.pos;have hne:=S.ne;have ht':t<=1000000000:=ht;refine ⟨_,rfl,d,_,rfl,qZW S,_,_,rfl,rfl,?_⟩;refine ⟨_,rfl,_,rfl,d,_,rfl,qZU S,?_⟩;have S1:=S.turn (u:=t+1) (by omega)
 have k1:Keep d c H (Ai H d (.dK [(L1 (C4 "cells"),.ref c),(L1 (C4 "turn"),.int (t+1))])):=fun b o e n _=>by rw [qA8 n];exact e
 generalize Ai H d (.dK [(L1 (C4 "cells"),.ref c),(L1 (C4 "turn"),.int (t+1))])=H1 at S1 k1;have hlen:(((ns.map V.int).length:Nat):Int)=(ns.length:Int):=by rw [A0]
 refine ⟨_,rfl,_,rfl,d,_,rfl,qMG S1,c,_,rfl,.inl (SqL.of S1.list),_,_,rfl,rfl,(by rw [hlen];omega),?_⟩
 have p0:0<=(t+1) % (((ns.map V.int).length:Nat):Int):=W8 _ (by rw [hlen];omega)
 have p1:(t+1) % (((ns.map V.int).length:Nat):Int)<(ns.length:Int):=by
  have:=U8 (t+1) (b:=(((ns.map V.int).length:Nat):Int)) (by rw [hlen];omega)
  rw [hlen] at this ⊢;exact this
 dsimp only;generalize (t+1) % (((ns.map V.int).length:Nat):Int)=pl at p0 p1;obtain ⟨j,rfl⟩:∃ j:Nat,pl=(j:Int):=⟨pl.toNat,by omega⟩
 have hj:j<ns.length:=by omega
 have hat:atI (ns.map V.int) (j:Int)=some (.int ns[j]):=qV1 (by rw [B5,A3 hj];rfl)
 refine ⟨_,rfl,d,_,rfl,qMG S1,_,rfl,c,_,_,_,rfl,rfl,SqL.of S1.list,hat,?_⟩;generalize hx:ns[j]=x at hat ⊢;refine ⟨_,rfl,_,_,rfl,rfl,⟨by decide,by decide,by decide⟩,_,_,rfl,rfl,_,rfl,?_⟩
 refine ite2 (fun _=>?_) (fun _=>?_)
 ·-- a great cell
  refine ⟨_,rfl,_,rfl,x,m,rfl,⟨by omega,by omega⟩,fun p hp=>?_⟩
  have S2:=S1.new hp (.tup [.int (x / m),.int (x % m)]);have npc:p ≠ c:=(qA5 S1.list hp).symm;refine ⟨p,_,rfl,SqT.of qA1,rfl,_,_,rfl,?_⟩;refine ⟨_,rfl,d,_,rfl,qMG S2,_,rfl,c,_,_,j,rfl,rfl,S2.list,qTO (by rw [A0];exact hj),?_⟩
  refine ⟨_,_,rfl,rfl,?_⟩;refine ⟨_,rfl,?_⟩;have e1:(ns.map V.int).set j (.int (x / m))=(ns.set j (x / m)).map V.int:=by rw [A40]
  rw [e1];refine q (x % m) (ns.set j (x / m)) _ (W8 _ (by omega)) (U8 _ (by omega)) (S2.put (by rw [y8])) ?_
  have k2:=k1.trans (qDX (d:=d) (c:=c) hp (.tup [.int (x / m),.int (x % m)]));exact fun b o e n1 n2=>by rw [qA8 n2];exact k2 b o e n1 n2
 ·have b1:0<=x % 2147483629:=W8 _ (by decide)
  have b2:x % 2147483629<2147483629:=U8 _ (by decide)
  refine ⟨_,rfl,_,_,rfl,rfl,(by show (0:Int)<2147483629;decide),_,rfl,_,rfl,_,_,rfl,rfl,.inl ⟨by omega,by omega⟩,_,_,rfl,rfl,.inr ⟨by decide,by decide⟩,_,_,rfl,rfl,_,_,rfl,rfl,_,_,rfl,rfl,.inr ⟨by decide,by decide⟩,_,_,rfl,rfl,(by show (0:Int)<2147483647;decide),?_⟩
  have c1:=W8 ((x % 2147483629+(t+1) * (t+1) * 7919+11) * 48271) (b:=2147483647) (by decide)
  have c2:=U8 ((x % 2147483629+(t+1) * (t+1) * 7919+11) * 48271) (b:=2147483647) (by decide)
  dsimp only;generalize ((x % 2147483629+(t+1) * (t+1) * 7919+11) * 48271) % 2147483647=y at c1 c2;refine ⟨_,rfl,_,rfl,_,_,rfl,rfl,.inl ⟨by omega,by omega⟩,_,_,rfl,rfl,(by show (0:Int)<2147483587;decide),?_⟩
  dsimp only;generalize y * y % 2147483587=z;refine ⟨_,rfl,_,rfl,_,_,rfl,rfl,.inr ⟨by decide,by decide⟩,_,_,rfl,rfl,_,_,rfl,rfl,.inr ⟨by decide,by decide⟩,_,_,rfl,rfl,(by show (0:Int)<2147483629;decide),_,_,rfl,rfl,⟨by decide,by decide⟩,_,rfl,_,_,rfl,rfl,(by omega),?_⟩
  exact q _ ns _ (W8 _ (by omega)) (U8 _ (by omega)) S1 k1
end
section
variable {P:Program} {w:World} {K:PySem.W.Frag} {mg:Str->Option Value} {base:Heap} {f:Addr} {fd:FuncData} {qC0:Addr} {qBM:FuncData}
theorem sc_Lsome_needs:FnScope ["_law_state","_law_k","_law_found","_law_turn","_law_far"] ["_law_state","_law_k"] (qAH qD9):=⟨rfl,rfl,rfl,by decide +kernel,rfl,by decide +kernel,by decide +kernel⟩
theorem ok_Lsome_needs (F:Fun K "_law_some_needs" "_law_some_needs" qD9 f fd) (qAJ:Clb P w K mg base 1 qC0 qBM "_law_take" ["_law_state","_law_many"] qGD)
  (qAN:mg "range" = none) (qID:mg "min" = none) (qAP:mg "tuple" = none) (qB4:mg "sorted" = none) (qIC:mg "set" = none):FnOk P w K mg base CX0 2 f fd ["_law_state","_law_k"] qOM:=by
 refine F.ok sc_Lsome_needs (fun vs H Q E h=>?_) (fun cdv A outer s H vs Q E hr h=>?_)
 ·obtain ⟨d,c,t,ns,k,rfl,_⟩:=h
  rfl
 obtain ⟨d,c,t,ns,k,rfl,S,ht,hk0,hk1,q⟩:=h;have ht':t<=1000000000 - 20:=ht;have qM2:Room 1 _:=hr;refine ⟨_,(qA4 (qAE (i:=2) sc_Lsome_needs.nd rfl (C5 rfl) (qBG qA3)) (qA4 (qBS C9 rfl (qC7 rfl qAN (qA0 (qAR qAJ hr rfl (qA0 (pv 0) (qA0 qA7 qA3))) qA3)) (qAA (i:=3) sc_Lsome_needs.nd rfl (C5 rfl)) (qA4 (qAE (i:=4) sc_Lsome_needs.nd rfl (C5 rfl) (qAV qC5 (qBG (qA0 (qA9 (qK3 rfl) rfl qID qUR (qA0 (pv 1) (qA0 qA7 qA3))) (qA0 (pv 1) qA3))) (qB5 qOV (qAR qAJ hr rfl (qA0 (pv 0) (qA0 qA7 qA3))) qA7) (fun _ _=>rfl))) (qA6 (qBW (qAI qbB (pv 1) qA7 (qAY _)) (qA6 (qCC (qGJ E2 E3 E4 qB6 (pv 2) (qA0 (qB5 qF4 (qB5 qF4 (pv 1) qA7) (qAR qAJ hr rfl (qA0 (pv 0) (qA0 (pv 4) qA3)))) qA3)))) qAM)))) (qA6 (qAL (qAS qAZ rfl qAP qBF (qA0 (qA9 (qDN rfl) rfl qB4 qEN (qA0 (qAS (qMK rfl) rfl qIC qUQ (qA0 (pv 2) qA3)) qA3)) qA3)))))),?_⟩
 try dsimp only [Cx.nox,Cx.wish,cxOf]
 refine ⟨(by show 0<=sizeLine;decide),fun fo hfo=>?_⟩
 have S1:=S.new hfo (.lst []);have nd:fo ≠ d:=(qA5 S.dict hfo).symm;have nc:fo ≠ c:=(qA5 S.list hfo).symm;refine ⟨_,rfl,d,c,t,ns,5,rfl,S1,(by show t<=1000000000;omega),by decide,by decide,fun j ns1 H1 j0 j5 S2 K2=>?_⟩
 refine ⟨j,rfl,by omega,by omega,qEL (lo:=0) (n:=j.toNat) (fun i σ Hc=>∃ (t':Int) (ms fs:List Int) (v1 v2:Option V),σ=[some (.ref d),some (.int k),some (.ref fo),v1,v2]/\StAt Hc d c t' ms/\t<=t'/\t'<=t+1+2 * i/\Keep d c H Hc/\
  Hc fo=some (.lst (fs.map V.int))/\fs.length<=i/\∀ x ∈ fs,0<=x/\x<k)
  ⟨t+1,ns1,[],none,none,rfl,S2,by omega,by omega,(qDX hfo _).trans K2,K2 _ _ qA1 nd nc,A5 _,fun _ z=>nomatch z⟩ ?_ ?_⟩
 ·refine fun i σ Hc hi hI_1=>opq fun G_1 hG_1=>?_;obtain ⟨t',ms,fs,v1,v2,rfl,S3,a1,a2,K3,h3,l3,m3⟩:=hI_1;refine hG_1 ?_;have hi5:(i:Int)<5:=by omega
  -- far
  refine ⟨_,rfl,k,4,rfl,_,rfl,(by show 2<=sizeLine;decide),fun p hp=>?_⟩
  have S4:=S3.new hp (.lst [.int (if (4:Int)<k then 4 else k),.int k])
  have npd:p ≠ d:=(qA5 S3.dict hp).symm;have npc:p ≠ c:=(qA5 S3.list hp).symm;refine ⟨_,rfl,d,c,t',ms,4,rfl,S4,(by show t'<=1000000000;omega),by decide,by decide,fun k2 ms2 H2 g0 g4 S5 K5=>?_⟩
  obtain ⟨far,hfar,ef⟩:=qcU (a:=if (4:Int)<k then 4 else k) (b:=k) g0 g4
  have far1:far<=k:=by rcases ef with e | e <;> (subst e;first | omega | (split <;> omega))
  have far2:0<k->1<=far:=fun hk=>by rcases ef with e | e <;> (subst e;first | omega | (split <;> omega))
  refine ⟨_,_,rfl,rfl,⟨by decide,by decide⟩,p,_,_,_,rfl,rfl,SqL.of (K5 _ _ qA1 npd npc),hfar,?_⟩
  have K6:=K3.trans ((qDX (d:=d) (c:=c) hp (.lst [.int (if (4:Int)<k then 4 else k),.int k])).trans K5)
  have h6:H2 fo=some (.lst (fs.map V.int)):=K5 _ _ (by rw [qA8 (qA5 h3 hp)];exact h3) nd nc
  refine ⟨_,rfl,_,_,rfl,rfl,_,rfl,?_⟩;refine ite2 (fun ck=>?_) (fun ck=>?_)
  ·have hk:0<k:=of_decide_eq_true ck;refine ⟨_,rfl,.inl ⟨rfl,_,SqL.of h6⟩,_,rfl,_,_,rfl,rfl,_,rfl,_,rfl,d,c,t'+1,ms2,far,rfl,S5,(by show t'+1<=1000000000;omega),far2 hk,by omega,fun k3 ms3 H3 c0 c1 S6 K7=>?_⟩
   have h7:=K7 _ _ h6 nd nc;refine ⟨_,_,rfl,rfl,fo,_,_,rfl,rfl,h7,qAQ (by rw [A0];omega),?_⟩
   have S8:StAt (Ai H3 fo (.lst (fs.map V.int++[.int (k - 1 - k3)]))) d c (t'+1+1) ms3:=⟨by rw [qA8 (J2 nd)];exact S6.dict,by rw [qA8 (J2 nc)];exact S6.list,S6.ne,S6.len,S6.pos⟩
   have hH:H fo=none:=hfo;refine ⟨t'+1+1,ms3,fs++[k - 1 - k3],_,_,rfl,S8,by omega,by omega,fun b o e n1 n2=>?_,?_,?_,fun x hx=>?_⟩
   ·rw [qA8 (qA5 e hH)];exact (K6.trans K7) b o e n1 n2
   ·rw [qA1,B1];rfl
   ·rw [A4,A9];omega
   ·rcases B8.mp hx with hx | hx
    ·exact m3 x hx
    ·rw [A6.mp hx];omega
  ·exact ⟨t'+1,ms2,fs,_,_,rfl,S5,by omega,by omega,K6,h6,by omega,m3⟩
 ·refine fun σ Hc hI_2=>opq fun G_2 hG_2=>?_;obtain ⟨t',ms,fs,v1,v2,rfl,S3,a1,a2,K3,h3,l3,m3⟩:=hI_2;refine hG_2 ?_;refine ⟨_,rfl,fo,fs,rfl,SqL.of h3,by omega,fun a ha=>?_⟩
  have sm1:=qA2 ha (SetO w a (dedI fs));refine ⟨a,dedI fs,rfl,.inr (.inr qA1),W4 (qMH fs) (by omega),fun b zs hb hp hs=>?_⟩
  have sm2:=sm1.trans (qA2 hb (.lst (zs.map V.int)));refine ⟨b,_,rfl,.inl ⟨SqL.of qA1,fun r hr'=>?_⟩⟩;have sm3:=sm2.trans (qA2 hr' (.tup (zs.map V.int)));exact q r zs t' ms _ (S3.same sm3) (by omega) (by omega) (K3.trans (.of_same sm3)) qA1 (qLN hp hs m3)
theorem sc_Ltree_net:FnScope ["_law_state","_law_many","_law_open_ones","_law_found","_law_k","_law_so_many"] ["_law_state","_law_many"] (qAH qET):=⟨rfl,rfl,rfl,by decide +kernel,rfl,by decide +kernel,by decide +kernel⟩
theorem ok_Ltree_net (F:Fun K "_law_tree_net" "_law_tree_net" qET f fd) (qAJ:Clb P w K mg base 1 qC0 qBM "_law_take" ["_law_state","_law_many"] qGD)
  (qAN:mg "range" = none) (qID:mg "min" = none) (qAP:mg "tuple" = none) (qAU:mg "len" = none):FnOk P w K mg base CX0 2 f fd ["_law_state","_law_many"] qXJ:=by
 refine F.ok sc_Ltree_net (fun vs H Q E h=>?_) (fun cdv A outer s H vs Q E hr h=>?_)
 ·obtain ⟨d,c,t,ns,m,rfl,_⟩:=h
  rfl
 obtain ⟨d,c,t,ns,m,rfl,S,ht,hm0,hm1,q⟩:=h;have ht':t<=1000000000 - 1000:=ht;have qM2:Room 1 _:=hr;refine ⟨_,(qA4 (qAE (i:=2) sc_Ltree_net.nd rfl (C5 rfl) (qBG qA3)) (qA4 (qAE (i:=3) sc_Ltree_net.nd rfl (C5 rfl) (qBG qA3)) (qA4 (qBS C9 rfl (qC7 rfl qAN (qA0 (qB5 qF4 (pv 1) qA7) qA3)) (qAA (i:=4) sc_Ltree_net.nd rfl (C5 rfl)) (qA4 (qAE (i:=5) sc_Ltree_net.nd rfl (C5 rfl) (qA9 (qK3 rfl) rfl qID qUR (qA0 (qA9 qAB rfl qAU qBA (qA0 (pv 2) qA3)) (qA0 (qAV qC5 (qBG (qA0 qA7 (qA0 qA7 (qA0 qA7 (qA0 qA7 (qA0 qA7 (qA0 qA7 qA3))))))) (qAR qAJ hr rfl (qA0 (pv 0) (qA0 qA7 qA3))) (fun _ _=>rfl)) qA3)))) (qA4 (qCC (qGJ E2 E3 E4 qB6 (pv 3) (qA0 (qAS qAZ rfl qAP qBF (qA0 (qG1 qJG (pv 2) (qGI (qB5 qF4 (qA9 qAB rfl qAU qBA (qA0 (pv 2) qA3)) (pv 5))) qJK) qA3)) qA3))) (qA6 (qAE (i:=2) sc_Ltree_net.nd rfl (C5 rfl) (qB5 qKU (qG1 qJG (pv 2) qJK (qGI (qB5 qF4 (qA9 qAB rfl qAU qBA (qA0 (pv 2) qA3)) (pv 5)))) (qBG (qA0 (pv 4) qA3)))))))) (qA6 (qAL (qAS qAZ rfl qAP qBF (qA0 (qB5 qKU (pv 3) (qBG (qA0 (qAS qAZ rfl qAP qBF (qA0 (pv 2) qA3)) qA3))) qA3))))))),?_⟩
 try dsimp only [Cx.nox,Cx.wish,cxOf]
 refine ⟨(by show 0<=sizeLine;decide),fun o0 ho0=>?_⟩
 have S1:=S.new ho0 (.lst []);refine ⟨(by show 0<=sizeLine;decide),fun fo hfo=>?_⟩
 have S2:=S1.new hfo (.lst []);have nd:fo ≠ d:=(qA5 S1.dict hfo).symm;have nc:fo ≠ c:=(qA5 S1.list hfo).symm;have no0:o0 ≠ fo:=qA5 qA1 hfo;have hF:H fo=none:=(qA2 ho0 _).free hfo;refine ⟨_,rfl,_,_,rfl,rfl,m - 1,rfl,by omega,by omega,qEL (lo:=0) (n:=(m - 1).toNat) (fun i σ Hc=>∃ (t':Int) (ms os:List Int) (o:Addr) (rs:List Addr) (Af:List (List Int)) (v1 v2:Option V),σ=[some (.ref d),some (.int m),some (.ref o),some (.ref fo),v1,v2]/\StAt Hc d c t' ms/\t<=t'/\t'<=t+i/\Keep d c H Hc/\
  Hc o=some (.lst (os.map V.int))/\(o ≠ fo/\o ≠ c)/\Hc fo=some (.lst (rs.map V.ref))/\NetL Hc rs Af/\Af.length=i/\WFn Af/\Rise (i:Int) os)
  ⟨t,ns,[],o0,[],[],none,none,rfl,S2,by omega,by omega,(qDX ho0 _).trans (qDX hfo _),by rw [qA8 no0];exact qA1,⟨no0,(qA5 S.list ho0).symm⟩,qA1,.nil,rfl,WFn.nil,Rise.nil⟩ ?_ ?_⟩
 ·refine fun i σ Hc hi hI_3=>opq fun G_3 hG_3=>?_;obtain ⟨t',ms,os,o,rs,Af,v1,v2,rfl,S3,a1,a2,K3,h3,⟨n3,n3c⟩,f3,N3,l3,w3,r3⟩:=hI_3;refine hG_3 ?_;have hlo:os.length<=i:=r3.len;refine ⟨_,rfl,o,_,rfl,.inl (SqL.of h3),(by show 6<=sizeLine;decide),fun p hp=>?_⟩
  have S4:=S3.new hp (.lst [.int 0,.int 0,.int 1,.int 2,.int 2,.int 3]);have npd:p ≠ d:=(qA5 S3.dict hp).symm;have npc:p ≠ c:=(qA5 S3.list hp).symm;refine ⟨_,rfl,d,c,t',ms,6,rfl,S4,(by show t'<=1000000000;omega),by decide,by decide,fun k2 ms2 H2 g0 g6 S5 K5=>?_⟩
  obtain ⟨v,hv,v0,v3⟩:=qcT g0 g6;refine ⟨p,_,_,_,rfl,rfl,SqL.of (K5 _ _ qA1 npd npc),hv,?_⟩;have sm:Same Hc (Ai Hc p (.lst [.int 0,.int 0,.int 1,.int 2,.int 2,.int 3])):=qA2 hp _;have K6:=(Keep.of_same (d:=d) (c:=c) sm).trans K5;have nod:o ≠ d:=qBT h3 S3.dict (by intro z;cases z)
  have h6:H2 o=some (.lst (os.map V.int)):=K6 _ _ h3 nod n3c;have f6:H2 fo=some (.lst (rs.map V.ref)):=K6 _ _ f3 nd nc;have N6:NetL H2 rs Af:=N3.keep (fun r zs e=>S3.tup e) K6;refine ⟨_,_,rfl,?_⟩;dsimp only;have so0:0<=(if v<(((os.map V.int).length:Nat):Int) then v else (((os.map V.int).length:Nat):Int)):=by split <;> omega
  have so1:(if v<(((os.map V.int).length:Nat):Int) then v else (((os.map V.int).length:Nat):Int))<=(os.length:Int):=by rw [A0];split <;> omega
  generalize (if v<(((os.map V.int).length:Nat):Int) then v else (((os.map V.int).length:Nat):Int))=so at so0 so1
  obtain ⟨kk,ek⟩:∃ kk:Nat,(os.length:Int) - so=(kk:Int):=⟨((os.length:Int) - so).toNat,by omega⟩
  have ek':(((os.map V.int).length:Nat):Int) - so=(kk:Int):=by rw [A0];exact ek
  have hkk:kk<=os.length:=by omega
  -- found.append(tuple(open_ones[len(open_ones) - so_many:]))
  refine ⟨_,rfl,.inl ⟨rfl,_,SqL.of f6⟩,_,rfl,_,rfl,o,_,rfl,.inl (SqL.of h6),_,rfl,_,_,rfl,rfl,_,rfl,o,_,rfl,SqL.of h6,fun p1 hp1=>?_⟩;refine ⟨p1,_,rfl,.inl ⟨SqL.of qA1,fun r hr1=>?_⟩⟩;rw [ek',qIZ,qNZ _ _ hkk] at hr1 ⊢;have sm1:=(qA2 hp1 (.lst ((os.drop kk).map V.int))).trans (qA2 hr1 (.tup ((os.drop kk).map V.int)));have f7:=sm1 _ _ f6;have h7:=sm1 _ _ h6;have N7:NetL _ (rs++[r]) (Af++[os.drop kk]):=qBV (N6.same fun r zs e=>sm1 _ _ e) (show (Ai (Ai H2 p1 (.lst ((os.drop kk).map V.int))) r (.tup ((os.drop kk).map V.int))) r=some (.tup ((os.drop kk).map V.int)) from qA1);have S7:=S5.same sm1;have K7:=K6.trans (.of_same sm1);generalize (Ai (Ai H2 p1 (.lst ((os.drop kk).map V.int))) r (.tup ((os.drop kk).map V.int)))=H7 at f7 h7 N7 S7 K7 ⊢;refine ⟨fo,_,_,rfl,rfl,f7,qAQ (by rw [A0,NetAt.len N3];omega),?_⟩
  have e8:rs.map V.ref++[V.ref r]=(rs++[r]).map V.ref:=by rw [B1];rfl
  rw [e8];have S8:StAt (Ai H7 fo (.lst ((rs++[r]).map V.ref))) d c (t'+1) ms2:=⟨by rw [qA8 (J2 nd)];exact S7.dict,by rw [qA8 (J2 nc)];exact S7.list,S7.ne,S7.len,S7.pos⟩
  have h8:(Ai H7 fo (.lst ((rs++[r]).map V.ref))) o=some (.lst (os.map V.int)):=by rw [qA8 n3];exact h7
  have N8:NetL (Ai H7 fo (.lst ((rs++[r]).map V.ref))) (rs++[r]) (Af++[os.drop kk]):=N7.same fun r' zs e=>by rw [qA8 (qBT e f7 (by intro z;cases z))];exact e
  have K8:Keep d c H (Ai H7 fo (.lst ((rs++[r]).map V.ref))):=fun b u e n1 n2=>by rw [qA8 (qA5 e hF)];exact (K3.trans K7) b u e n1 n2
  have f8:(Ai H7 fo (.lst ((rs++[r]).map V.ref))) fo=some (.lst ((rs++[r]).map V.ref)):=qA1;generalize Ai H7 fo (.lst ((rs++[r]).map V.ref))=H8 at S8 h8 N8 K8 f8 ⊢
  -- open_ones=open_ones[:len(open_ones) - so_many]+[k]
  refine ⟨_,rfl,_,rfl,o,_,rfl,.inl (SqL.of h8),_,rfl,_,_,rfl,rfl,_,rfl,o,_,rfl,SqL.of h8,fun p2 hp2=>?_⟩;rw [ek',qIZ,qZX];refine ⟨_,rfl,(by show 1<=sizeLine;decide),fun p3 hp3=>?_⟩
  have n23:p2 ≠ p3:=qA5 qA1 hp3;refine ⟨p2,p3,_,_,rfl,rfl,by rw [qA8 n23];exact qA1,qA1,R4 (qAQ (by rw [A0,C1,A9];omega)),fun p4 hp4=>?_⟩
  have sm2:=((qA2 hp2 (.lst ((os.take kk).map V.int))).trans (qA2 hp3 (.lst [.int (0+(i:Int))]))).trans (qA2 hp4 (.lst ((os.take kk).map V.int++[.int (0+(i:Int))])));have e9:(os.take kk).map V.int++[V.int (0+(i:Int))]=(os.take kk++[(i:Int)]).map V.int:=by rw [B1,Int.zero_add];rfl
  have nf4:p4 ≠ fo:=(qA5 ((qA2 hp3 _) _ _ ((qA2 hp2 _) _ _ f8)) hp4).symm;have nc4:p4 ≠ c:=(qA5 ((qA2 hp3 _) _ _ ((qA2 hp2 _) _ _ S8.list)) hp4).symm;refine ⟨t'+1,ms2,os.take kk++[(i:Int)],p4,rs++[r],Af++[os.drop kk],_,_,rfl,S8.same sm2,by omega,by omega,K8.trans (.of_same sm2),by rw [<- e9];exact qA1,⟨nf4,nc4⟩,sm2 _ _ f8,N8.same fun r' zs e=>sm2 _ _ e,by rw [A4,A9,l3],w3.snoc ?_,?_⟩
  ·rw [l3];exact r3.sub (o7 _ _)
  ·have:=(r3.sub (n9 kk os)).snoc (by omega)
   rw [show ((i+1:Nat):Int)=(i:Int)+1 by omega]
   exact this
 ·refine fun σ Hc hI_4=>opq fun G_4 hG_4=>?_;obtain ⟨t',ms,os,o,rs,Af,v1,v2,rfl,S3,a1,a2,K3,h3,⟨n3,n3c⟩,f3,N3,l3,w3,r3⟩:=hI_4;refine hG_4 ?_;refine ⟨_,rfl,_,rfl,o,_,rfl,.inl ⟨SqL.of h3,fun r hr1=>?_⟩⟩;refine ⟨(by show 1<=sizeLine;decide),fun p hp=>?_⟩
  have sm1:=(qA2 hr1 (.tup (os.map V.int))).trans (qA2 hp (.lst [.ref r]));refine ⟨fo,p,_,_,rfl,rfl,sm1 _ _ f3,qA1,R4 (qAQ (by rw [A0,NetAt.len N3,A9];omega)),fun p2 hp2=>?_⟩
  refine ⟨p2,_,rfl,.inl ⟨SqL.of qA1,fun a ha=>?_⟩⟩;have sm2:=(sm1.trans (qA2 hp2 (.lst (rs.map V.ref++[.ref r])))).trans (qA2 ha (.tup (rs.map V.ref++[.ref r])));have gr:=(qA2 ha (.tup (rs.map V.ref++[.ref r]))) _ _ ((qA2 hp2 (.lst (rs.map V.ref++[.ref r]))) _ _ ((qA2 hp (.lst [.ref r])) r _ (qA1 (H:=Hc) (o:=.tup (os.map V.int)))));have e8:rs.map V.ref++[V.ref r]=(rs++[r]).map V.ref:=by rw [B1];rfl
  refine q a (Af++[os]) t' ms _ (S3.same sm2) (by omega) (by omega) (K3.trans (.of_same sm2)) ⟨rs++[r],by rw [<- e8];exact qA1,qBV (N3.same fun r' zs e=>sm2 _ _ e) gr⟩ (w3.snoc (by rw [l3];exact r3)) ?_
  rw [A4,A9,l3];omega
end
section
variable {P:Program} {w:World} {K:PySem.W.Frag} {mg:Str->Option Value} {base:Heap} {f:Addr} {fd:FuncData} {qC0:Addr} {qBM:FuncData} {qDC:Addr} {qGF:FuncData} {qF0:Addr} {qI9:FuncData}
theorem sc_Lnet:FnScope ["_law_state","_law_many","_law_way","_law_wide","_law_some","_law_half"] ["_law_state","_law_many"] (qAH qPW):=⟨rfl,rfl,rfl,by decide +kernel,rfl,by decide +kernel,by decide +kernel⟩
theorem ok_Lnet (F:Fun K "_law_net" "_law_net" qPW f fd) (qAJ:Clb P w K mg base 1 qC0 qBM "_law_take" ["_law_state","_law_many"] qGD)
  (qCR:Clb P w K mg base 2 qDC qGF "_law_some_needs" ["_law_state","_law_k"] qOM)
  (qF2:Clb P w K mg base 2 qF0 qI9 "_law_tree_net" ["_law_state","_law_many"] qXJ)
  (qAN:mg "range" = none) (qL8:mg "max" = none) (qGG:mg "int" = none) (qAD:mg "enumerate" = none) (qAP:mg "tuple" = none) (qB4:mg "sorted" = none) (qIC:mg "set" = none):FnOk P w K mg base CX0 3 f fd ["_law_state","_law_many"] qaR:=by
 refine F.ok sc_Lnet (fun vs H Q E h=>?_) (fun cdv A outer s H vs Q E hr h=>?_)
 ·obtain ⟨d,c,t,ns,m,rfl,_⟩:=h
  rfl
 obtain ⟨d,c,t,ns,m,rfl,S,ht,hm0,hm1,q⟩:=h;have ht':t<=1000000000 - 10000:=ht;have qV6:Room 2 _:=hr;have qY3:Room 2 _:=hr;refine ⟨_,(qA4 (qAE (i:=2) sc_Lnet.nd rfl (C5 rfl) (qAR qAJ hr rfl (qA0 (pv 0) (qA0 qA7 qA3)))) (qA4 (qAE (i:=3) sc_Lnet.nd rfl (X7 rfl) (qB5 qDK qA7 (qAR qAJ hr rfl (qA0 (pv 0) (qA0 qA7 qA3))))) (qA4 (qBW (qAI qE8 (pv 2) qA7 (qAY _)) (qA6 (qAL (qAS qAZ rfl qAP qBF (qA0 (qF8 rfl (lcs (own:=["_law_k"]) (fv:=[3]) (by kernel_rfl)) (qC7 rfl qAN (qA0 (pv 1) qA3)) (fun z1=>qAA (i:=0) (qCA (by kernel_rfl)) rfl (C5 rfl)) (fun z1=>qC6) (fun z1=>(qAS (qKJ rfl) rfl qAP qBF (qA0 (qAS qUL rfl qAN qX3 (qA0 (qA9 (qUN rfl) rfl qL8 qYC (qA0 qA7 (qA0 (qB5 qF4 (pv 0) (pv 1)) qA3))) (qA0 (pv 0) qA3))) qA3)))) qA3)))) qAM) (qA4 (qBW (qAI qE8 (pv 2) qA7 (qAY _)) (qA4 (qKD (i:=4) sc_Lnet.nd rfl rfl rfl (lcs (own:=["_law_k"]) (fv:=[3]) (by kernel_rfl)) (qC7 rfl qAN (qA0 (pv 1) qA3)) (fun z2=>qAA (i:=0) (qCA (by kernel_rfl)) rfl (C5 rfl)) (fun z2=>qC6) (fun z2=>(qB5 qKU (qB5 qSZ (qBG (qA0 (qB5 qF4 (pv 0) (pv 1)) qA3)) (qAS qO3 rfl qGG qQK (qA0 (qDJ qW3 (pv 0) (pv 1) (qAY _)) qA3))) (qB5 qSZ (qBG (qA0 (qB5 qF4 (pv 0) qA7) qA3)) (qAS qO3 rfl qGG qQK (qA0 (qDJ qbB (qB5 qJP (pv 0) (pv 1)) qA7 (qAY _)) qA3))))) (by kernel_rfl)) (qA6 (qAL (qAS qAZ rfl qAP qBF (qA0 (qF8 rfl (lcs (own:=["_law_needs"]) (fv:=[]) (by kernel_rfl)) (qC3 (pv 4)) (fun z3=>qAA (i:=0) (qCA (by kernel_rfl)) rfl (C5 rfl)) (fun z3=>qC6) (fun z3=>(qAS (qK2 (K:=K) rfl) rfl qAP qBF (qA0 (qA9 (qO2 (K:=K) (w:=w) rfl rfl rfl) rfl qB4 qEN (qA0 (qAS (qUK (K:=K) (w:=w) rfl rfl rfl) rfl qIC qUQ (qA0 (pv 0) qA3)) qA3)) qA3)))) qA3))))) qAM) (qA4 (qBW (qAI qE8 (pv 2) qA7 (qAY _)) (qA6 (qAL (qAR qF2 hr rfl (qA0 (pv 0) (qA0 (pv 1) qA3))))) qAM) (qA4 (qBW (qAI qE8 (pv 2) qA7 (qAY _)) (qA4 (qAE (i:=5) sc_Lnet.nd rfl (X7 rfl) (qB5 qOV (pv 1) qA7)) (qA4 (qKD (i:=4) sc_Lnet.nd rfl rfl rfl (lcs (own:=["_law_k"]) (fv:=[0,5]) (by kernel_rfl)) (qC7 rfl qAN (qA0 (pv 1) qA3)) (fun z4=>qAA (i:=0) (qCA (by kernel_rfl)) rfl (C5 rfl)) (fun z4=>qC6) (fun z4=>(qAR qCR hr rfl (qA0 (pv 1) (qA0 (qG2 (qAI qT1 (pv 0) (pv 2) (qAY _)) (pv 0) (qB5 qF4 (pv 0) (pv 2))) qA3)))) (by kernel_rfl)) (qA6 (qAL (qAS qAZ rfl qAP qBF (qA0 (qF8 rfl (lcs (own:=["_law_k","_law_needs"]) (fv:=[5]) (by kernel_rfl)) (qE6 rfl qAD qBD (qA0 (pv 4) qA3)) (fun z5=>qJM (K:=K) (n:=2) rfl rfl (qAK (qAA (i:=0) (qCA (by kernel_rfl)) rfl (C5 rfl)) (qAK (qAA (i:=1) (qCA (by kernel_rfl)) rfl (C5 rfl)) qC4)) rfl rfl) (fun z5=>qC6) (fun z5=>(qG2 (qAI qT1 (pv 0) (pv 2) (qAY _)) (pv 1) (qAS (qK2 (K:=K) rfl) rfl qAP qBF (qA0 (qF8 (X:=lcCx _ _ _ _ z5) rfl (lcs (own:=["_law_n"]) (fv:=[2]) (by kernel_rfl)) (qYX (K:=K) rfl (pv 1)) (fun z6=>qAA (i:=0) (qCA (by kernel_rfl)) rfl (C5 rfl)) (fun z6=>qC6) (fun z6=>(qB5 qDK (pv 0) (pv 1)))) qA3))))) qA3)))))) qAM) (qA6 (qAL (qAS qAZ rfl qAP qBF (qA0 (qF8 rfl (lcs (own:=["_law_k"]) (fv:=[0]) (by kernel_rfl)) (qC7 rfl qAN (qA0 (pv 1) qA3)) (fun z7=>qAA (i:=0) (qCA (by kernel_rfl)) rfl (C5 rfl)) (fun z7=>qC6) (fun z7=>(qAR qCR hr rfl (qA0 (pv 1) (qA0 (pv 0) qA3))))) qA3)))))))))),?_⟩
 try dsimp only [Cx.nox,Cx.wish,cxOf]
 refine cut fun N1 hN1=>?_;refine ⟨_,rfl,d,c,t,ns,8,rfl,S,(by show t<=1000000000;omega),by decide,by decide,fun way ns1 H1 w0 w8 S1 K1=>?_⟩
 refine hN1 _ _ (cut fun N2 hN2=>?_);refine ⟨_,rfl,d,c,t+1,ns1,4,rfl,S1,(by show t+1<=1000000000;omega),by decide,by decide,fun wd ns2 H2 wd0 wd4 S2 K2=>⟨_,_,rfl,rfl,?_⟩⟩
 dsimp only;have K12:=K1.trans K2;generalize hwide:(1:Int)+wd=wide;have wi0:1<=wide:=by omega
 have wi4:wide<=4:=by omega
 refine hN2 _ _ (cut fun N3 hN3=>?_);refine ⟨_,rfl,rfl,_,rfl,?_⟩;refine ite2 (fun _=>?_) (fun _=>?_)
 ·refine ⟨_,rfl,m,rfl,by omega,by omega,fun p hp=>?_⟩
  refine qDW (p:=p) (lo:=0) (n:=m.toNat) (fun i σ Hc=>∃ (v:Option V) (rs:List Addr) (Af:List (List Int)),σ=[v,some (.int wide)]/\Same H2 Hc/\Hc p=some (.lst (rs.map V.ref))/\NetL Hc rs Af/\Af.length=i/\WFn Af) ?_ ?_ ?_
  ·exact ⟨none,[],[],rfl,qA2 hp _,qA1,.nil,rfl,WFn.nil⟩
  ·refine fun i σ Hc hi hI_1=>opq fun G_1 hG_1=>?_;obtain ⟨v,rs,Af,rfl,sm,hpc,N,hl,wf⟩:=hI_1;refine hG_1 ?_;refine ⟨_,rfl,_,rfl,_,_,rfl,rfl,0,_,rfl,_,rfl,_,_,rfl,fun p1 hp1=>?_⟩;refine ⟨p1,_,_,rfl,qA1,by split <;> omega,by split <;> omega,by omega,by omega,fun r hr1=>?_⟩
   have lo0:0<=(if (0+(i:Int)) - wide > 0 then (0+(i:Int)) - wide else 0):=by split <;> omega
   have hri:=qOR (hi:=0+(i:Int)) lo0;dsimp only;rw [qOQ];generalize qD1 (if (0+(i:Int)) - wide > 0 then (0+(i:Int)) - wide else 0) (0+(i:Int))=zs at hri ⊢
   generalize HO.rng (if (0+(i:Int)) - wide > 0 then (0+(i:Int)) - wide else 0) (0+(i:Int))=ho at hp1 hr1 ⊢
   have s1:=(qA2 hp1 ho).trans (qA2 hr1 (.tup (zs.map V.int)));have g1:=s1 _ _ hpc;refine ⟨_,g1,qAQ (by rw [A0,NetAt.len N];omega),?_⟩
   rw [qBB];refine ⟨_,rs++[r],Af++[zs],rfl,qAG (sm.trans s1) hp,qA1,qG4 (qBV (N.same fun r' ys e=>s1 _ _ e) qA1) g1,by rw [A4,A9,hl],wf.snoc ?_⟩
   rw [hl];exact hri.mono (by omega)
  ·refine fun σ Hc hI_2=>opq fun G_2 hG_2=>?_;obtain ⟨v,rs,Af,rfl,sm,hpc,N,hl,wf⟩:=hI_2;refine hG_2 ?_;refine ⟨p,_,rfl,.inl ⟨SqL.of hpc,fun a ha=>?_⟩⟩;have s1:=qA2 ha (.tup (rs.map V.ref));exact q a Af (t+1+1) ns2 _ (S2.same (sm.trans s1)) (by omega) (by omega) (K12.trans (.of_same (sm.trans s1))) ⟨rs,qA1,N.same fun r ys e=>s1 _ _ e⟩ wf (by rw [hl];omega)
 refine hN3 _ _ (cut fun N4 hN4=>?_);refine ⟨_,rfl,rfl,_,rfl,?_⟩;refine ite2 (fun _=>?_) (fun _=>?_)
 ·refine ⟨_,rfl,m,rfl,by omega,by omega,fun p hp=>?_⟩
  refine qDW (p:=p) (lo:=0) (n:=m.toNat) (fun i σ Hc=>∃ (v:Option V) (rs:List Addr) (ls:List (List Int)),σ=[v,some (.int wide)]/\Same H2 Hc/\Hc p=some (.lst (rs.map V.ref))/\Paired (fun r zs=>r ≠ p/\Hc r=some (.lst (zs.map V.int))) rs ls/\ls.length=i/\
   ∀ (j:Nat) zs,ls[j]?=some zs->zs.length<=2/\∀ x ∈ zs,0<=x/\x<(j:Int)) ?_ ?_ ?_
  ·exact ⟨none,[],[],rfl,qA2 hp _,qA1,.nil,rfl,fun j zs e=>by simp at e⟩
  ·refine fun i σ Hc hi hI_3=>opq fun G_3 hG_3=>?_;obtain ⟨v,rs,ls,rfl,sm,hpc,N,hl,wf⟩:=hI_3;refine hG_3 ?_;refine ⟨_,rfl,_,rfl,_,_,rfl,rfl,(by show 1<=sizeLine;decide),fun a1 ha1=>?_⟩
   refine ⟨_,rfl,_,rfl,_,_,rfl,rfl,.inr ⟨_,rfl,?_⟩⟩;refine ⟨a1,_,_,rfl,rfl,qA1,by split <;> decide,by split <;> decide,?_,fun a2 ha2=>?_⟩
   ·have:∀ b:Bool,[V.int (0+(i:Int) - wide)].length * (if b=true then (1:Int) else 0).toNat<=sizeLine:=by intro b;cases b <;> simp [sizeLine_eq]
    exact this _
   dsimp only;rw [qaY];refine ⟨_,rfl,_,_,rfl,rfl,(by show 1<=sizeLine;decide),fun a3 ha3=>?_⟩
   refine ⟨_,rfl,_,rfl,_,_,rfl,rfl,(by show 0<wide;omega),_,_,rfl,rfl,.inr ⟨_,rfl,?_⟩⟩
   refine ⟨a3,_,_,rfl,rfl,qA1,by split <;> decide,by split <;> decide,?_,fun a4 ha4=>?_⟩
   ·have:∀ b:Bool,[V.int (0+(i:Int) - 1)].length * (if b=true then (1:Int) else 0).toNat<=sizeLine:=by intro b;cases b <;> simp [sizeLine_eq]
    exact this _
   dsimp only;rw [qaY];have b1:∀ x ∈ (if decide (wide<=0+(i:Int))=true then [0+(i:Int) - wide] else []),0<=x/\x<(i:Int):=by
    intro x hx
    split at hx
    ·rename_i hd
     have:=of_decide_eq_true hd;rw [A6.mp hx];omega
    ·cases hx
   have b2:∀ x ∈ (if decide (0<(0+(i:Int)) % wide)=true then [0+(i:Int) - 1] else []),0<=x/\x<(i:Int):=by
    intro x hx
    split at hx
    ·rename_i hd
     have hd':=of_decide_eq_true hd;have:(i:Int) ≠ 0:=by
      intro e;rw [e] at hd';simp at hd'
     rw [A6.mp hx];omega
    ·cases hx
   have c1:(if decide (wide<=0+(i:Int))=true then [0+(i:Int) - wide] else []).length<=1:=by split <;> simp
   have c2:(if decide (0<(0+(i:Int)) % wide)=true then [0+(i:Int) - 1] else []).length<=1:=by split <;> simp
   generalize (if decide (wide<=0+(i:Int))=true then [0+(i:Int) - wide] else [])=z1 at b1 c1 ha3 ha4 ⊢
   generalize (if decide (0<(0+(i:Int)) % wide)=true then [0+(i:Int) - 1] else [])=z2 at b2 c2 ⊢
   have s2:=(qA2 ha3 (.lst [.int (0+(i:Int) - 1)])).trans (qA2 ha4 (.lst (z2.map V.int)));refine ⟨a2,a4,_,_,rfl,rfl,s2 _ _ qA1,qA1,R4 (qAQ (by rw [A0,A0];omega)),fun a5 ha5=>?_⟩
   have s1:=(qA2 ha1 (.lst [.int (0+(i:Int) - wide)])).trans (qA2 ha2 (.lst (z1.map V.int)));have s3:=(s1.trans s2).trans (qA2 ha5 (.lst (z1.map V.int++z2.map V.int)));have e5:z1.map V.int++z2.map V.int=(z1++z2).map V.int:=by rw [B1]
   rw [e5] at s3 ⊢;have g1:=s3 _ _ hpc;have n5:a5 ≠ p:=(qA5 ((s1.trans s2) _ _ hpc) ha5).symm;refine ⟨_,g1,qAQ (by rw [A0,B2 N];omega),?_⟩
   rw [qBB];refine ⟨_,rs++[a5],ls++[z1++z2],rfl,qAG (sm.trans s3) hp,qA1,a9 (qB3 N fun r zs e=>⟨e.1,by rw [qA8 e.1];exact s3 _ _ e.2⟩) ⟨n5,by rw [qA8 n5];exact qA1⟩,by rw [A4,A9,hl],fun j zs e=>?_⟩
   rcases qPV e with e | ⟨rfl,rfl⟩
   ·exact wf j zs e
   ·rw [hl];refine ⟨by rw [A4];omega,fun x hx=>?_⟩
    rcases B8.mp hx with hx | hx
    ·exact b1 x hx
    ·exact b2 x hx
  ·refine fun σ Hc hI_4=>opq fun G_4 hG_4=>?_;obtain ⟨v,rs,ls,rfl,sm,hpc,N,hl,wf⟩:=hI_4;refine hG_4 ?_;refine ⟨_,rfl,p,rfl,⟨_,SqL.of hpc⟩,fun p' hp'=>?_⟩;refine qHT (p:=p') (a:=p) (xs:=rs.map V.ref) (fun i σ Hd=>∃ (v:Option V) (rs':List Addr) (Af:List (List Int)),σ=[v]/\Same Hc Hd/\Hd p'=some (.lst (rs'.map V.ref))/\NetL Hd rs' Af/\Af.length=i/\WFn Af) ?_ ?_ ?_ ?_
   ·exact ⟨none,[],[],rfl,qA2 hp' _,qA1,.nil,rfl,WFn.nil⟩
   ·rintro i σ Hd hi ⟨v,rs',Af,rfl,sm2,_⟩;exact SqL.of (sm2 _ _ hpc)
   ·refine fun i x σ Hd hx hI_6=>opq fun G_6 hG_6=>?_;obtain ⟨v,rs',Af,rfl,sm2,hpd,N2,hl2,wf2⟩:=hI_6;obtain ⟨r,hr1,rfl⟩:=qBX hx;obtain ⟨zs,hz,_,hr2⟩:=qAO N hr1;obtain ⟨l2,m2⟩:=wf i zs hz;refine hG_6 ?_;refine ⟨_,rfl,r,zs,rfl,SqL.of (sm2 _ _ hr2),by omega,fun a ha=>?_⟩
    refine ⟨a,dedI zs,rfl,.inr (.inr qA1),W4 (qMH zs) (by omega),fun b ys hb hpm hs=>?_⟩
    refine ⟨b,_,rfl,.inl ⟨SqL.of qA1,fun r2 hr3=>?_⟩⟩;have s1:=((qA2 ha (SetO w a (dedI zs))).trans (qA2 hb (.lst (ys.map V.int)))).trans (qA2 hr3 (.tup (ys.map V.int)));have g1:=s1 _ _ hpd;have lrs:rs.length=m.toNat:=by rw [B2 N,hl]
    have hi:i<rs.length:=(A1.mp hr1).1;refine ⟨_,g1,qAQ (by rw [A0,NetAt.len N2];omega),?_⟩
    rw [qBB];refine ⟨_,rs'++[r2],Af++[ys],rfl,qAG (sm2.trans s1) hp',qA1,qG4 (qBV (N2.same fun r' zs' e=>s1 _ _ e) qA1) g1,by rw [A4,A9,hl2],wf2.snoc ?_⟩
    rw [hl2];exact qLN hpm hs m2
   ·refine fun σ Hd hI_7=>opq fun G_7 hG_7=>?_;obtain ⟨v,rs',Af,rfl,sm2,hpd,N2,hl2,wf2⟩:=hI_7;refine hG_7 ?_;refine ⟨p',_,rfl,.inl ⟨SqL.of hpd,fun a ha=>?_⟩⟩;have s1:=qA2 ha (.tup (rs'.map V.ref));refine q a Af (t+1+1) ns2 _ (S2.same ((sm.trans sm2).trans s1)) (by omega) (by omega) (K12.trans (.of_same ((sm.trans sm2).trans s1))) ⟨rs',qA1,N2.same fun r ys e=>s1 _ _ e⟩ wf2 ?_
    rw [hl2,A0,B2 N,hl];omega
 refine hN4 _ _ (cut fun N5 hN5=>?_);refine ⟨_,rfl,rfl,_,rfl,?_⟩;refine ite2 (fun _=>?_) (fun _=>?_)
 ·refine ⟨_,rfl,_,rfl,d,c,t+1+1,ns2,m,rfl,S2,?_,hm0,hm1,fun a Af t' ms H' a1 a2 a3 a4 a5 a6 a7=>?_⟩
  ·show t+1+1<=1000000000 - 1000;omega
  ·exact q a Af t' ms H' a1 (by omega) (by omega) (K12.trans a4) a5 a6 a7
 refine hN5 _ _ (cut fun N6 hN6=>?_);refine ⟨_,rfl,rfl,_,rfl,?_⟩;refine ite2 (fun _=>?_) (fun _=>?_)
 ·refine ⟨_,rfl,_,_,rfl,rfl,⟨by decide,by decide⟩,?_⟩
  dsimp only;have hf0:0<=m / 2:=by omega
  have hf1:m / 2<=m:=by omega
  generalize m / 2=half at hf0 hf1;refine ⟨_,rfl,m,rfl,by omega,by omega,fun p hp=>?_⟩
  refine qDW (p:=p) (lo:=0) (n:=m.toNat) (fun i σ Hc=>∃ (v:Option V) (t':Int) (ms:List Int) (rs:List Addr) (Af:List (List Int)),σ=[v,some (.ref d),some (.int half)]/\StAt Hc d c t' ms/\t+2<=t'/\t'<=t+2+9 * i/\Keep d c H2 Hc/\Hc p=some (.lst (rs.map V.ref))/\NetL Hc rs Af/\Af.length=i/\
   ∀ (j:Nat) zs,Af[j]?=some zs->Rise (if (j:Int)<half then (j:Int) else (j:Int) - half) zs) ?_ ?_ ?_
  ·exact ⟨none,t+1+1,ns2,[],[],rfl,S2.new hp _,by omega,by omega,qDX hp _,qA1,.nil,rfl,fun j zs e=>by simp at e⟩
  ·refine fun i σ Hc hi hI_8=>opq fun G_8 hG_8=>?_;obtain ⟨v,t',ms,rs,Af,rfl,S3,b1,b2,k3,hpc,N,hl,wf⟩:=hI_8;refine hG_8 ?_;have npd:p ≠ d:=(qA5 S2.dict hp).symm;have npc:p ≠ c:=(qA5 S2.list hp).symm;have nx:∀ (kk:Int),kk=(if (i:Int)<half then (i:Int) else (i:Int) - half)->qOM [.ref d,.int kk] Hc (fun y H4=>∃ ys,H4 p=some (.lst ys)/\ys.length<sizeLine/\∃ (v:Option V) (t':Int) (ms:List Int) (rs:List Addr) (Af:List (List Int)),[some (V.int (0+(i:Int))),some (.ref d),some (.int half)]=[v,some (.ref d),some (.int half)]/\StAt (Ai H4 p (.lst (ys++[y]))) d c t' ms/\t+2<=t'/\t'<=t+2+9 * (i+1:Nat)/\Keep d c H2 (Ai H4 p (.lst (ys++[y])))/\(Ai H4 p (.lst (ys++[y]))) p=some (.lst (rs.map V.ref))/\NetL (Ai H4 p (.lst (ys++[y]))) rs Af/\Af.length=i+1/\
     ∀ (j:Nat) zs,Af[j]?=some zs->Rise (if (j:Int)<half then (j:Int) else (j:Int) - half) zs) E0:=by
    intro kk ek;refine ⟨d,c,t',ms,kk,rfl,S3,(by show t'<=1000000000 - 20;omega),by rw [ek];split <;> omega,by rw [ek];split <;> omega,fun r zs t'' ms2 H3 e1 e2 e3 e4 e5 e6=>?_⟩
    have g1:=e4 _ _ hpc npd npc;refine ⟨_,g1,qAQ (by rw [A0,NetAt.len N];omega),?_⟩
    rw [qBB];refine ⟨_,t'',ms2,rs++[r],Af++[zs],rfl,⟨by rw [qA8 (J2 npd)];exact e1.dict,by rw [qA8 (J2 npc)];exact e1.list,e1.ne,e1.len,e1.pos⟩,by omega,by omega,qH4 (k3.trans e4) hp,qA1,qG4 (qBV (N.keep (fun r ys e=>S3.tup e) e4) e5) g1,by rw [A4,A9,hl],fun j ys e=>?_⟩
    rcases qPV e with e | ⟨rfl,rfl⟩
    ·exact wf j ys e
    ·rw [hl,<- ek];exact e6
   refine ⟨_,rfl,_,rfl,_,rfl,_,_,rfl,rfl,_,rfl,?_⟩;refine ite2 (fun ck=>?_) (fun ck=>?_)
   ·have ck':0+(i:Int)<half:=of_decide_eq_true ck;exact ⟨_,rfl,nx _ (by rw [if_pos (by omega)];omega)⟩
   ·have ck':¬ 0+(i:Int)<half:=of_decide_eq_false (F9.mpr ck);exact ⟨_,rfl,_,rfl,_,_,rfl,rfl,nx _ (by rw [if_neg (by omega)];omega)⟩
  ·refine fun σ Hc hI_9=>opq fun G_9 hG_9=>?_;obtain ⟨v,t',ms,rs,Af,rfl,S3,b1,b2,k3,hpc,N,hl,wf⟩:=hI_9;refine hG_9 ?_;have lrs:rs.length=m.toNat:=by rw [B2 N,hl]
   refine ⟨_,rfl,p,rfl,⟨_,SqL.of hpc⟩,fun p' hp'=>?_⟩;refine qLS (p:=p') (a:=p) (xs:=rs.map V.ref) (fun i σ Hd=>∃ (v1 v2:Option V) (rs':List Addr) (net':List (List Int)),σ=[v1,v2,some (.int half)]/\Same Hc Hd/\Hd p'=some (.lst (rs'.map V.ref))/\NetL Hd rs' net'/\net'.length=i/\WFn net') ?_ ?_ ?_ ?_
   ·exact ⟨none,none,[],[],rfl,qA2 hp' _,qA1,.nil,rfl,WFn.nil⟩
   ·rintro i σ Hd hi ⟨v1,v2,rs',net',rfl,sm2,_⟩;exact SqL.of (sm2 _ _ hpc)
   ·refine fun i x σ Hd T hx hI_11 hT=>opq fun G_11 hG_11=>?_;obtain ⟨v1,v2,rs',net',rfl,sm2,hpd,N2,hl2,wf2⟩:=hI_11;obtain ⟨r,hr1,rfl⟩:=qBX hx;obtain ⟨zs,hz,hr2⟩:=qAO N hr1;refine hG_11 ?_;have hi:i<rs.length:=(A1.mp hr1).1;have rz:=wf i zs hz;have sT:=qA2 hT (.tup [.int (i:Int),.ref r]);have hrT:=sT _ _ (sm2 _ _ hr2);have hpT:=sT _ _ hpd;have NT:=N2.same fun r' zs' e=>sT _ _ e;have smT:=sm2.trans sT;have gT:SqT K (Ai Hd T (.tup [.int (i:Int),.ref r])) T [.int (i:Int),.ref r]:=SqT.of qA1;generalize Ai Hd T (.tup [.int (i:Int),.ref r])=HT' at hrT hpT NT smT gT ⊢;refine ⟨T,_,rfl,gT,rfl,_,_,rfl,_,_,rfl,rfl,?_⟩;refine ⟨_,rfl,_,rfl,_,_,rfl,rfl,_,rfl,?_⟩;refine ite2 (fun ck=>?_) (fun ck=>?_)
    ·have ck':(i:Int)<half:=of_decide_eq_true ck;rw [if_pos ck'] at rz;refine ⟨_,rfl,_,hpT,qAQ (by rw [A0,NetAt.len N2];omega),?_⟩
     rw [qBB];refine ⟨_,_,rs'++[r],net'++[zs],rfl,qAG smT hp',qA1,qG4 (qBV NT hrT) hpT,by rw [A4,A9,hl2],wf2.snoc ?_⟩
     rw [hl2];exact rz
    ·have ck':¬ (i:Int)<half:=of_decide_eq_false (F9.mpr ck);rw [if_neg ck'] at rz;have lz:zs.length<=i:=by
      have e:((i:Int) - half)=(((i:Int) - half).toNat:Nat):=by omega
      rw [e] at rz;have:=rz.len;omega
     refine ⟨_,rfl,r,rfl,⟨_,SqT.of hrT⟩,fun p2 hp2=>?_⟩;refine qH2 (p:=p2) (a:=r) (xs:=zs.map V.int) (fun j σ He=>∃ (v:Option V),σ=[v,some (.int half)]/\Same HT' He/\He p2=some (.lst (((zs.take j).map (·+half)).map V.int))) ?_ ?_ ?_ ?_
     ·exact ⟨none,rfl,qA2 hp2 _,qA1⟩
     ·rintro j σ He hj ⟨v,rfl,sm3,_⟩;exact SqT.of (sm3 _ _ hrT)
     ·refine fun j x σ He hx2 hI_13=>opq fun G_13 hG_13=>?_;obtain ⟨v,rfl,sm3,hp3⟩:=hI_13;obtain ⟨z,hz2,rfl⟩:=qBI hx2;refine hG_13 ?_;refine ⟨_,rfl,_,rfl,_,_,rfl,rfl,_,hp3,qAQ (by rw [A0,A0,C1];omega),_,rfl,qAG sm3 hp2,?_⟩
      rw [qA1,D5,hz2,D4,B1,B1]
      rfl
     ·refine fun σ He hI_14=>opq fun G_14 hG_14=>?_;obtain ⟨v,rfl,sm3,hp3⟩:=hI_14;refine hG_14 ?_;rw [A0,J8 (A5 _)] at hp3;refine ⟨p2,_,rfl,.inl ⟨SqL.of hp3,fun r2 hr3=>?_⟩⟩;have s1:=qA2 hr3 (.tup ((zs.map (·+half)).map V.int));have s2:=sm3.trans s1;have g1:=s2 _ _ hpT;refine ⟨_,g1,qAQ (by rw [A0,NetAt.len N2];omega),?_⟩
      rw [qBB];refine ⟨_,_,rs'++[r2],net'++[zs.map (·+half)],rfl,qAG (smT.trans s2) hp',qA1,qG4 (qBV (NT.same fun r' zs' e=>s2 _ _ e) qA1) g1,by rw [A4,A9,hl2],wf2.snoc ?_⟩
      rw [hl2];have:=rz.shift hf0;rw [show (i:Int) - half+half=(i:Int) by omega] at this
      exact this
   ·refine fun σ Hd hI_15=>opq fun G_15 hG_15=>?_;obtain ⟨v1,v2,rs',net',rfl,sm2,hpd,N2,hl2,wf2⟩:=hI_15;refine hG_15 ?_;refine ⟨p',_,rfl,.inl ⟨SqL.of hpd,fun a ha=>?_⟩⟩;have s1:=qA2 ha (.tup (rs'.map V.ref));refine q a net' t' ms _ (S3.same (sm2.trans s1)) (by omega) (by omega) (K12.trans (k3.trans (.of_same (sm2.trans s1)))) ⟨rs',qA1,N2.same fun r ys e=>s1 _ _ e⟩ wf2 ?_
    rw [hl2,A0,B2 N,hl];omega
 refine hN6 _ _ ?_;refine ⟨_,rfl,m,rfl,by omega,by omega,fun p hp=>?_⟩
 refine qDW (p:=p) (lo:=0) (n:=m.toNat) (fun i σ Hc=>∃ (v:Option V) (t':Int) (ms:List Int) (rs:List Addr) (Af:List (List Int)),σ=[v,some (.ref d)]/\StAt Hc d c t' ms/\t+2<=t'/\t'<=t+2+9 * i/\Keep d c H2 Hc/\Hc p=some (.lst (rs.map V.ref))/\NetL Hc rs Af/\Af.length=i/\WFn Af) ?_ ?_ ?_
 ·exact ⟨none,t+1+1,ns2,[],[],rfl,S2.new hp _,by omega,by omega,qDX hp _,qA1,.nil,rfl,WFn.nil⟩
 ·refine fun i σ Hc hi hI_16=>opq fun G_16 hG_16=>?_;obtain ⟨v,t',ms,rs,Af,rfl,S3,b1,b2,k3,hpc,N,hl,wf⟩:=hI_16;refine hG_16 ?_;have npd:p ≠ d:=(qA5 S2.dict hp).symm;have npc:p ≠ c:=(qA5 S2.list hp).symm;refine ⟨_,rfl,_,rfl,d,c,t',ms,0+(i:Int),rfl,S3,(by show t'<=1000000000 - 20;omega),by omega,by omega,fun r zs t'' ms2 H3 e1 e2 e3 e4 e5 e6=>?_⟩
  have g1:=e4 _ _ hpc npd npc;refine ⟨_,g1,qAQ (by rw [A0,NetAt.len N];omega),?_⟩
  rw [qBB];refine ⟨_,t'',ms2,rs++[r],Af++[zs],rfl,⟨by rw [qA8 (J2 npd)];exact e1.dict,by rw [qA8 (J2 npc)];exact e1.list,e1.ne,e1.len,e1.pos⟩,by omega,by omega,qH4 (k3.trans e4) hp,qA1,qG4 (qBV (N.keep (fun r ys e=>S3.tup e) e4) e5) g1,by rw [A4,A9,hl],wf.snoc ?_⟩
  rw [hl];exact e6.mono (by omega)
 ·refine fun σ Hc hI_17=>opq fun G_17 hG_17=>?_;obtain ⟨v,t',ms,rs,Af,rfl,S3,b1,b2,k3,hpc,N,hl,wf⟩:=hI_17;refine hG_17 ?_;refine ⟨p,_,rfl,.inl ⟨SqL.of hpc,fun a ha=>?_⟩⟩;have s1:=qA2 ha (.tup (rs.map V.ref));exact q a Af t' ms _ (S3.same s1) (by omega) (by omega) (K12.trans (k3.trans (.of_same s1))) ⟨rs,qA1,N.same fun r ys e=>s1 _ _ e⟩ wf (by rw [hl];omega)
end
section
variable {P:Program} {w:World} {K:PySem.W.Frag} {mg:Str->Option Value} {base:Heap} {f:Addr} {fd:FuncData}
theorem qVH:FnScope ["_law_found","_law_due"] ["_law_found","_law_due"] (qAH qJH):=⟨rfl,rfl,rfl,by decide +kernel,rfl,by decide +kernel,by decide +kernel⟩
def spS:Nat->Sp
 | 0=>fun _ _ _ _=>False
 | n+1=>qaP n
theorem ok_Lsame_step {n:Nat} {qEA:Addr} {qEY:FuncData} (F:Fun K "_law_same" "_law_same" qJH f fd) (qaA:FnOk P w K mg base CX0 n qEA qEY ["_law_found","_law_due"] (spS n)) (qGN:Binds K qEY ["_law_found","_law_due"] []) (qLZ:O5 K (.ref qEA)=true) (qGL:mg "_law_same" = some (.ref qEA))
  (qAF:mg "isinstance" = none) (qC1:mg "list" = none) (qAP:mg "tuple" = none) (qL7:mg "str" = none) (qGG:mg "int" = none) (qF9:mg "bool" = none) (qAU:mg "len" = none) (qF7:mg "all" = none) (qMY:mg "zip" = none):FnOk P w K mg base CX0 (n+1) f fd ["_law_found","_law_due"] (spS (n+1)):=by
 refine F.ok qVH (fun vs H Q E h=>?_) (fun cdv A outer s H vs Q E hr h=>?_)
 ·obtain ⟨x,y,rfl,_⟩:=h
  rfl
 obtain ⟨x,y,rfl,hal,q⟩:=h;have qWN:Room n _:=hr;refine ⟨_,(qA4 (qBW (qI6 (qSW (pv 1))) (qA6 (qAL (qXR (qSW (pv 0))))) qAM) (qA4 (qBW (PW.pt (qOT (qD2 (qA9 qB1 rfl qAF qAT (qA0 (pv 1) (qA0 (qCL (v:=.ty "list") rfl qC1 qFN rfl) qA3)))) (qKO (qD2 (qA9 qB1 rfl qAF qAT (qA0 (pv 1) (qA0 (qCL (v:=.ty "tuple") rfl qAP qBF rfl) qA3))))))) (qA4 (qBW (qAI qT0 (qA9 qB1 rfl qAF qAT (qA0 (pv 0) (qA0 (qCL (v:=.ty "list") rfl qC1 qFN rfl) qA3))) (qA9 qB1 rfl qAF qAT (qA0 (pv 1) (qA0 (qCL (v:=.ty "list") rfl qC1 qFN rfl) qA3))) (qAY _)) (qA6 (qAL qGX)) qAM) (qA4 (qBW (PW.pt (qOT (qAI qT0 (qA9 qB1 rfl qAF qAT (qA0 (pv 0) (qA0 (qCL (v:=.ty "tuple") rfl qAP qBF rfl) qA3))) (qA9 qB1 rfl qAF qAT (qA0 (pv 1) (qA0 (qCL (v:=.ty "tuple") rfl qAP qBF rfl) qA3))) (qAY _)) (qKO (qAI qT0 (qA9 qAB rfl qAU qBA (qA0 (pv 0) qA3)) (qA9 qAB rfl qAU qBA (qA0 (pv 1) qA3)) (qAY _))))) (qA6 (qAL qGX)) qAM) (qA6 (qAL (qA9 (qHI rfl) rfl qF7 qO5 (qA0 (qF8 rfl (lcs (own:=["_law_one","_law_other"]) (fv:=[]) (by kernel_rfl)) (qb3 rfl qMY qc5 (qA0 (pv 0) (qA0 (pv 1) qA3))) (fun z1=>qJM (K:=K) (n:=2) rfl rfl (qAK (qAA (i:=0) (qCA (by kernel_rfl)) rfl (C5 rfl)) (qAK (qAA (i:=1) (qCA (by kernel_rfl)) rfl (C5 rfl)) qC4)) rfl rfl) (fun z1=>qC6) (fun z1=>(qSV qaA qWN rfl qGL qLZ qGN .nil qZ0 (qA0 (pv 0) (qA0 (pv 1) qA3))))) qA3)))))) qAM) (qA4 (qBW (qD2 (qA9 qB1 rfl qAF qAT (qA0 (pv 1) (qA0 (qCL (v:=.ty "str") rfl qL7 qYB rfl) qA3)))) (qA6 (qAL (qI8 (qA9 qB1 rfl qAF qAT (qA0 (pv 0) (qA0 (qCL (v:=.ty "str") rfl qL7 qYB rfl) qA3))) (qKR (qDJ qE8 (pv 0) (pv 1) (qAY _)))))) qAM) (qA6 (qAL (qI8 (qA9 qB1 rfl qAF qAT (qA0 (pv 0) (qA0 (qCL (v:=.ty "int") rfl qGG qQK rfl) qA3))) (qI8 (qXQ (qA9 qB1 rfl qAF qAT (qA0 (pv 0) (qA0 (qCL (v:=.ty "bool") rfl qF9 qUT rfl) qA3)))) (qKR (qDJ qE8 (pv 0) (pv 1) (qAY _)))))))))),?_⟩
 try dsimp only [Cx.nox,Cx.wish,cxOf]
 have leaf:x=y/\Leaf x\/∃ (m:Nat) (b:Bool) (a c:Addr) (xs ys:List V),n=m+1/\x=.ref a/\y=.ref c/\H a=some (seqO b xs)/\H c=some (seqO b ys)/\xs.length=ys.length/\xs.length<=100000/\∀ (i:Nat) (x' y':V),xs[i]?=some x'->ys[i]?=some y'->Alike H m x' y':=by
  cases n with
  | zero=>exact .inl hal
  | succ m=>
   rcases hal with h | ⟨b,a,c,xs,ys,h⟩
   ·exact .inl h
   ·exact .inr ⟨m,b,a,c,xs,ys,rfl,h⟩
 rcases leaf with ⟨rfl,hl⟩ | ⟨m,b,a,c,xs,ys,rfl,rfl,rfl,ha,hc,hlen,hbd,hel⟩
 ·refine ⟨_,rfl,_,rfl,?_⟩;rcases hl with rfl | ⟨i,rfl⟩ | ⟨y,rfl⟩
  ·exact ⟨_,rfl,q H (Same.refl H)⟩
  ·refine ⟨_,rfl,_,"list",_,false,rfl,TyOf.int i,qbQ,_,rfl,?_⟩;refine ⟨_,rfl,_,"tuple",_,false,rfl,TyOf.int i,qbO,_,rfl,?_⟩;refine ⟨_,rfl,_,"str",_,false,rfl,TyOf.int i,qbP,_,rfl,?_⟩;refine ⟨_,rfl,_,"int",_,true,rfl,TyOf.int i,qXY,_,rfl,?_⟩;refine ⟨_,rfl,_,"bool",_,false,rfl,TyOf.int i,qXZ,_,rfl,_,rfl,?_⟩;refine ⟨_,rfl,_,rfl,rfl,?_⟩;have e:decide (V.int i=V.int i)=true:=decide_eq_true rfl;have q':Q (.bl (decide (V.int i=V.int i))) H:=by rw [e];exact q H (Same.refl H)
   exact q'
  ·refine ⟨_,rfl,_,"list",_,false,rfl,TyOf.str y,qbN,_,rfl,?_⟩;refine ⟨_,rfl,_,"tuple",_,false,rfl,TyOf.str y,qbM,_,rfl,?_⟩;refine ⟨_,rfl,_,"str",_,true,rfl,TyOf.str y,qXX,_,rfl,?_⟩;refine ⟨_,rfl,_,"str",_,true,rfl,TyOf.str y,qXX,_,rfl,?_⟩;refine ⟨_,rfl,_,rfl,rfl,?_⟩;have e:decide (V.str y=V.str y)=true:=decide_eq_true rfl;have q':Q (.bl (decide (V.str y=V.str y))) H:=by rw [e];exact q H (Same.refl H)
   exact q'
 ·have step:∀ (i:Nat) (x' y':V) (Hi:Hp) (Q':VK) (E':XK),Same H Hi->xs[i]?=some x'->ys[i]?=some y'->(∀ H',Same Hi H'->Q' (.bl true) H')->spS (m+1) [x',y'] Hi Q' E':=fun i x' y' Hi Q' E' s e1 e2 k=>⟨x',y',rfl,(hel i x' y' e1 e2).same s,k⟩;have fin:∀ (H1:Hp),Same H H1->Q (.bl true) H1:=q;have el:(!decide (V.int ((xs.length:Nat):Int)=V.int ((ys.length:Nat):Int)))=false:=by rw [hlen];simp
  cases b
  ·refine ⟨_,rfl,_,rfl,_,rfl,_,"list",_,true,rfl,qJB hc,qKY false,_,rfl,?_⟩;refine ⟨_,rfl,_,"list",_,true,rfl,qJB ha,qKY false,_,rfl,_,"list",_,true,rfl,qJB hc,qKY false,rfl,_,rfl,?_⟩;refine ⟨_,rfl,_,"tuple",_,false,rfl,qJB ha,qNN false,_,rfl,_,"tuple",_,false,rfl,qJB hc,qNN false,rfl,_,rfl,?_⟩;refine ⟨_,rfl,a,_,rfl,.inl (SqL.of ha),_,rfl,c,_,rfl,.inl (SqL.of hc),rfl,?_⟩;rw [el];refine ⟨_,rfl,_,rfl,_,rfl,false,a,c,rfl,⟨_,SqB.of ha⟩,⟨_,SqB.of hc⟩,fun p hp=>?_⟩;refine qXV (b:=false) (p:=p) (xs:=xs) (ys:=ys) hlen (fun i σ Hi=>∃ (v0 v1:Option V),σ=[v0,v1]/\Same H Hi/\Hi p=some (.lst ((E9 i true).map V.bl))) ⟨none,none,rfl,qA2 hp _,qA1⟩ (fun i σ Hi _ ⟨_,_,_,sm,_⟩=>⟨SqB.of (sm _ _ ha),SqB.of (sm _ _ hc)⟩) ?_ ?_
   ·refine fun i x' y' σ Hi T ex ey hI_1 hT=>opq fun G_1 hG_1=>?_;obtain ⟨v0,v1,rfl,sm,hpi⟩:=hI_1;refine hG_1 ?_;have li:i<xs.length:=(A1.mp ex).1;refine ⟨T,_,rfl,SqT.of qA1,rfl,_,_,rfl,_,_,rfl,rfl,?_⟩;have s1:=sm.trans (qA2 hT (.tup [x',y']));refine ⟨_,rfl,_,rfl,?_⟩;dsimp only [tNil,c8,Z0];refine step i x' y' _ _ _ s1 ex ey fun H' sm'=>?_;refine ⟨_,(sm' _ _ ((qA2 hT _) _ _ hpi)),?_,_,_,rfl,(fun b u e=>by rw [qA8 (qA5 e hp)];exact (s1.trans sm') b u e),?_⟩
    ·rw [A0,W5,sizeLine_eq];omega
    ·rw [qA1,qP8]
   ·refine fun σ Hi hI_2=>opq fun G_2 hG_2=>?_;obtain ⟨v0,v1,rfl,sm,hpi⟩:=hI_2;refine hG_2 ?_;refine ⟨p,_,rfl,SqL.of hpi,?_⟩;rw [qPB];exact q Hi sm
  ·refine ⟨_,rfl,_,rfl,_,rfl,_,"list",_,false,rfl,qJB hc,qKY true,_,rfl,?_⟩;refine ⟨_,rfl,_,"tuple",_,true,rfl,qJB hc,qNN true,_,rfl,?_⟩;refine ⟨_,rfl,_,"list",_,false,rfl,qJB ha,qKY true,_,rfl,_,"list",_,false,rfl,qJB hc,qKY true,rfl,_,rfl,?_⟩;refine ⟨_,rfl,_,"tuple",_,true,rfl,qJB ha,qNN true,_,rfl,_,"tuple",_,true,rfl,qJB hc,qNN true,rfl,_,rfl,?_⟩;refine ⟨_,rfl,a,_,rfl,.inr (SqT.of ha),_,rfl,c,_,rfl,.inr (SqT.of hc),rfl,?_⟩;rw [el];refine ⟨_,rfl,_,rfl,_,rfl,true,a,c,rfl,⟨_,SqB.of ha⟩,⟨_,SqB.of hc⟩,fun p hp=>?_⟩;refine qXV (b:=true) (p:=p) (xs:=xs) (ys:=ys) hlen (fun i σ Hi=>∃ (v0 v1:Option V),σ=[v0,v1]/\Same H Hi/\Hi p=some (.lst ((E9 i true).map V.bl))) ⟨none,none,rfl,qA2 hp _,qA1⟩ (fun i σ Hi _ ⟨_,_,_,sm,_⟩=>⟨SqB.of (sm _ _ ha),SqB.of (sm _ _ hc)⟩) ?_ ?_
   ·refine fun i x' y' σ Hi T ex ey hI_3 hT=>opq fun G_3 hG_3=>?_;obtain ⟨v0,v1,rfl,sm,hpi⟩:=hI_3;refine hG_3 ?_;have li:i<xs.length:=(A1.mp ex).1;refine ⟨T,_,rfl,SqT.of qA1,rfl,_,_,rfl,_,_,rfl,rfl,?_⟩;have s1:=sm.trans (qA2 hT (.tup [x',y']));refine ⟨_,rfl,_,rfl,?_⟩;dsimp only [tNil,c8,Z0];refine step i x' y' _ _ _ s1 ex ey fun H' sm'=>?_;refine ⟨_,(sm' _ _ ((qA2 hT _) _ _ hpi)),?_,_,_,rfl,(fun b u e=>by rw [qA8 (qA5 e hp)];exact (s1.trans sm') b u e),?_⟩
    ·rw [A0,W5,sizeLine_eq];omega
    ·rw [qA1,qP8]
   ·refine fun σ Hi hI_4=>opq fun G_4 hG_4=>?_;obtain ⟨v0,v1,rfl,sm,hpi⟩:=hI_4;refine hG_4 ?_;refine ⟨p,_,rfl,SqL.of hpi,?_⟩;rw [qPB];exact q Hi sm
theorem ok_Lsame (F:Fun K "_law_same" "_law_same" qJH f fd) (qGN:Binds K fd ["_law_found","_law_due"] []) (qLZ:O5 K (.ref f)=true) (qGL:mg "_law_same" = some (.ref f))
  (qAF:mg "isinstance" = none) (qC1:mg "list" = none) (qAP:mg "tuple" = none) (qL7:mg "str" = none) (qGG:mg "int" = none) (qF9:mg "bool" = none) (qAU:mg "len" = none) (qF7:mg "all" = none) (qMY:mg "zip" = none) (n:Nat):FnOk P w K mg base CX0 n f fd ["_law_found","_law_due"] (spS n):=by
 induction n with
 | zero=>exact ⟨fun _ _ _ _ h=>h.elim,fun _ _ _ _ _ _ _ _ _ _ _ _ _ h=>h.elim⟩
 | succ n ih=>exact ok_Lsame_step F ih qGN qLZ qGL qAF qC1 qAP qL7 qGG qF9 qAU qF7 qMY
end
def qPT:Sp:=fun vs H Q _=>∃ d c t ns a Af,vs=[.ref d,.ref a]/\StAt H d c t ns/\t<=TB - 100/\NetAt H a Af/\WFn Af/\1<=Af.length/\Af.length<=400/\
 ∀ r ws t' ns' H',StAt H' d c t' ns'->t<=t'->t'<=t+10->Keep d c H H'->H' r=some (.tup (ws.map V.int))->Rise (Af.length:Int) ws->1<=ws.length->ws.length<=4->Q (.ref r) H'
section
variable {P:Program} {w:World} {K:PySem.W.Frag} {mg:Str->Option Value} {base:Heap} {f:Addr} {fd:FuncData} {qC0:Addr} {qBM:FuncData}
theorem qVV {k:Int} (h0:0<=k) (h1:k<4):∃ v,atI [V.int 0,V.int 0,V.int 1,V.int 3] k=some (.int v)/\0<=v/\v<=3:=by
 rcases (by omega:k=0\/k=1\/k=2\/k=3) with rfl | rfl | rfl | rfl
 all_goals exact ⟨_,rfl,by decide,by decide⟩
theorem sc_Lasked:FnScope ["_law_state","_law_net_here","_law_found","_law_turn"] ["_law_state","_law_net_here"] (qAH qIR):=⟨rfl,rfl,rfl,by decide +kernel,rfl,by decide +kernel,by decide +kernel⟩
theorem ok_Lasked (F:Fun K "_law_asked" "_law_asked" qIR f fd)
  (qAJ:Clb P w K mg base 1 qC0 qBM "_law_take" ["_law_state","_law_many"] qGD)
  (qAU:mg "len" = none) (qID:mg "min" = none) (qAN:mg "range" = none) (qIC:mg "set" = none) (qB4:mg "sorted" = none) (qAP:mg "tuple" = none):FnOk P w K mg base CX0 2 f fd ["_law_state","_law_net_here"] qPT:=by
 refine F.ok sc_Lasked (fun vs H Q E h=>?_) (fun cdv A outer s H vs Q E hr h=>?_)
 ·obtain ⟨d,c,t,ns,a,Af,rfl,_⟩:=h
  rfl
 obtain ⟨d,c,t,ns,a,Af,rfl,S,ht,hN,wf,n1,n400,q⟩:=h;have ht':t<=1000000000 - 100:=ht;have qM2:Room 1 _:=hr;refine ⟨_,(qA4 (qAE (i:=2) sc_Lasked.nd rfl (C5 rfl) (qBG (qA0 (qB5 qF4 (qB5 qF4 (qA9 qAB rfl qAU qBA (qA0 (pv 1) qA3)) qA7) (qAR qAJ hr rfl (qA0 (pv 0) (qA0 (qA9 (qK3 rfl) rfl qID qUR (qA0 (qA9 qAB rfl qAU qBA (qA0 (pv 1) qA3)) (qA0 qA7 qA3))) qA3)))) qA3))) (qA4 (qBS C9 rfl (qC7 rfl qAN (qA0 (qAV qC5 (qBG (qA0 qA7 (qA0 qA7 (qA0 qA7 (qA0 qA7 qA3))))) (qAR qAJ hr rfl (qA0 (pv 0) (qA0 qA7 qA3))) (fun _ _=>rfl)) qA3)) (qAA (i:=3) sc_Lasked.nd rfl (C5 rfl)) (qA6 (qCC (qGJ E2 E3 E4 qB6 (pv 2) (qA0 (qAR qAJ hr rfl (qA0 (pv 0) (qA0 (qA9 qAB rfl qAU qBA (qA0 (pv 1) qA3)) qA3))) qA3))))) (qA6 (qAL (qAS qAZ rfl qAP qBF (qA0 (qA9 (qDN rfl) rfl qB4 qEN (qA0 (qAS (qMK rfl) rfl qIC qUQ (qA0 (pv 2) qA3)) qA3)) qA3)))))),?_⟩
 try dsimp only [Cx.nox,Cx.wish,cxOf]
 obtain ⟨rs,hA,NL⟩:=id hN;have lrv:(((rs.map V.ref).length:Nat):Int)=(Af.length:Int):=by rw [A0,B2 NL]
 refine ⟨_,rfl,a,_,rfl,.inr (SqT.of hA),_,_,rfl,rfl,?_⟩;refine ⟨_,rfl,_,rfl,a,_,rfl,.inr (SqT.of hA),_,_,rfl,?_⟩;refine ⟨d,c,t,ns,_,rfl,S,(by show t<=1000000000;omega),by split <;> omega,by split <;> omega,fun k ns1 H1 k0 k1 S1 K1=>?_⟩
 have kb:0<=(Af.length:Int) - 1 - k/\(Af.length:Int) - 1 - k<(Af.length:Int):=by
  rw [lrv] at k1
  split at k1 <;> omega
 refine ⟨_,_,rfl,rfl,(by show 1<=sizeLine;decide),fun fo hfo=>?_⟩
 dsimp only;rw [lrv];generalize (Af.length:Int) - 1 - k=x0 at kb;have npd:fo ≠ d:=(qA5 S1.dict hfo).symm;have npc:fo ≠ c:=(qA5 S1.list hfo).symm;have S2:=S1.new hfo (.lst [.int x0]);have k2:=K1.trans (qDX (d:=d) (c:=c) hfo (.lst [.int x0]));have ffo:∀ o,H fo=some o->False:=fun o z=>by
  by_cases e1:fo=d
  ·exact npd e1
  ·by_cases e2:fo=c
   ·exact npc e2
   ·have:=K1 fo o z e1 e2;rw [hfo] at this;cases this
 have gfo:(Ai H1 fo (.lst [.int x0])) fo=some (.lst ([x0].map V.int)):=qA1;generalize Ai H1 fo (.lst [.int x0])=H2 at S2 k2 gfo;refine ⟨(by show 4<=sizeLine;decide),fun p hp=>?_⟩
 have np2d:p ≠ d:=(qA5 S2.dict hp).symm;have np2c:p ≠ c:=(qA5 S2.list hp).symm;have sp:=qA2 hp (.lst [.int 0,.int 0,.int 1,.int 3]);refine ⟨_,rfl,d,c,t+1,ns1,4,rfl,S2.same sp,(by show t+1<=1000000000;omega),by decide,by decide,fun j ns3 H3 j0 j1 S3 K3=>?_⟩
 have gp:=K3 _ _ qA1 np2d np2c;have gfo3:=K3 _ _ (sp _ _ gfo) npd npc;have k3:=(k2.trans (.of_same sp)).trans K3;obtain ⟨m,hm,m0,m3⟩:=qVV j0 j1;refine ⟨p,_,_,_,rfl,rfl,SqL.of gp,hm,m,rfl,by omega,by omega,qEL (lo:=0) (n:=m.toNat) (fun i σ Hc=>∃ (t':Int) (ms fs:List Int) (v3:Option V),σ=[some (.ref d),some (.ref a),some (.ref fo),v3]/\StAt Hc d c t' ms/\t+2<=t'/\t'<=t+2+i/\Keep d c H Hc/\Hc fo=some (.lst (fs.map V.int))/\fs.length=i+1/\∀ x ∈ fs,0<=x/\x<(Af.length:Int))
  ⟨t+1+1,ns3,[x0],none,rfl,S3,by omega,by omega,k3,gfo3,rfl,fun x hx=>by rw [A6.mp hx];exact kb⟩ ?_ ?_⟩
 ·refine fun i σ Hc hi hI_1=>opq fun G_1 hG_1=>?_;obtain ⟨t',ms,fs,v3,rfl,S4,b1,b2,k4,gf,lf,fb⟩:=hI_1;refine hG_1 ?_;have hN4:=hN.keep S k4;obtain ⟨rs,hA,NL⟩:=id hN4;have lrv:(((rs.map V.ref).length:Nat):Int)=(Af.length:Int):=by rw [A0,B2 NL]
  refine ⟨_,rfl,.inl ⟨rfl,_,SqL.of gf⟩,_,rfl,_,rfl,a,_,rfl,.inr (SqT.of hA),d,c,t',ms,_,rfl,S4,(by show t'<=1000000000;omega),by rw [lrv];omega,by rw [lrv];omega,fun x ms5 H5 x0 x1 S5 K5=>?_⟩
  rw [lrv] at x1;have gf5:=K5 _ _ gf npd npc;refine ⟨fo,_,_,rfl,rfl,gf5,qAQ (by rw [A0];omega),?_⟩
  refine ⟨t'+1,ms5,fs++[x],_,rfl,⟨by rw [qA8 (J2 npd)];exact S5.dict,by rw [qA8 (J2 npc)];exact S5.list,S5.ne,S5.len,S5.pos⟩,by omega,by omega,fun b u e n1 n2=>?_,by rw [qA1,B1];rfl,by rw [A4,A9,lf],fun y hy=>?_⟩
  ·by_cases e3:b=fo
   ·subst e3;exact (ffo _ e).elim
   ·rw [qA8 e3];exact (k4.trans K5) b u e n1 n2
  ·rcases B8.mp hy with hy | hy
   ·exact fb y hy
   ·rw [A6.mp hy];exact ⟨x0,x1⟩
 ·refine fun σ Hc hI_2=>opq fun G_2 hG_2=>?_;obtain ⟨t',ms,fs,v3,rfl,S4,b1,b2,k4,gf,lf,fb⟩:=hI_2;refine hG_2 ?_;refine ⟨_,rfl,fo,fs,rfl,SqL.of gf,by omega,fun e he=>?_⟩
  have ld:=qMH fs;refine ⟨e,dedI fs,rfl,.inr (.inr qA1),by omega,fun b ys hb hpm hs=>?_⟩
  refine ⟨b,_,rfl,.inl ⟨SqL.of qA1,fun r hr3=>?_⟩⟩;have s1:=((qA2 he (SetO w e (dedI fs))).trans (qA2 hb (.lst (ys.map V.int)))).trans (qA2 hr3 (.tup (ys.map V.int)));have ne:fs ≠ []:=fun z=>by rw [z] at lf;simp at lf
  obtain ⟨y,hy⟩:=List.exists_mem_of_ne_nil fs ne;refine q r ys t' ms _ (S4.same s1) (by omega) (by omega) (k4.trans (.of_same s1)) qA1 (qLN hpm hs fb) (x5 (hpm.mem_iff.mpr (mem_dedI.mpr hy))) (by rw [hpm.length_eq];omega)
end
section
variable {P:Program} {w:World} {K:PySem.W.Frag} {mg:Str->Option Value} {base:Heap} {f:Addr} {fd:FuncData}
structure Fnd2 (Af:List (List Int)) (Ad ks:List Int) (j:Int):Prop where
 in_:∀ x ∈ ks,(0<=x/\x<(Af.length:Int))/\Nd Af Ad x
 ask:∀ x ∈ Ad,j<=x->x ∈ ks
 clo:∀ (w:Nat) zs,j<=(w:Int)->(w:Int) ∈ ks->Af[w]?=some zs->∀ y ∈ zs,y ∈ ks
theorem repF:∀ n:Nat,(E9 n [V.bl false]).flatten=(E9 n false).map V.bl
 | 0=>rfl
 | n+1=>by rw [P3,P3,O3,repF n];rfl
structure Bls (n:Nat) (ks:List Int) (bs:List Bool):Prop where
 len:bs.length=n
 at_:∀ x:Nat,x<n->bs[x]?=some (decide ((x:Int) ∈ ks))
theorem Bls.set {n:Nat} {ks:List Int} {bs:List Bool} (h:Bls n ks bs) {x:Int} (h0:0<=x) (h1:x<n):Bls n (addI ks x) (bs.set x.toNat true):=by
 refine ⟨by rw [y8];exact h.len,fun y hy=>?_⟩
 by_cases e:(y:Int)=x
 ·have e2:x.toNat=y:=by omega
  rw [e2,Z6 (by rw [h.len];exact hy),decide_eq_true (mem_addI.mpr (.inr e))]
 ·rw [d4 (by omega),h.at_ y hy]
  congr 1;exact decide_eq_decide.mpr ⟨fun z=>mem_addI.mpr (.inl z),fun z=>(mem_addI.mp z).resolve_right e⟩
theorem qY4 {bs:List Bool} {i:Nat} {b:Bool} (h:bs[i]?=some b):(bs.map V.bl)[i]?=some (.bl b):=by rw [B5,h];rfl
theorem sc_Lneeded:FnScope ["_law_net_here","_law_asked_here","_law_found","_law_work","_law_need"] ["_law_net_here","_law_asked_here"] (qAH qGV):=⟨rfl,rfl,rfl,by decide +kernel,rfl,by decide +kernel,by decide +kernel⟩
theorem ok_Lneeded (F:Fun K "_law_needed" "_law_needed" qGV f fd) (qAU:mg "len" = none) (qAN:mg "range" = none):FnOk P w K mg base CX0 1 f fd ["_law_net_here","_law_asked_here"] qPQ:=by
 refine F.ok sc_Lneeded (fun vs H Q E h=>?_) (fun cdv A outer s H vs Q E hr h=>?_)
 ·obtain ⟨a,t,Af,Ad,rfl,_⟩:=h
  rfl
 obtain ⟨a,t,Af,Ad,rfl,hN,wf,n1000,⟨hT,rA⟩,q⟩:=h;refine ⟨_,(qA4 (qAE (i:=2) sc_Lneeded.nd rfl (X7 rfl) (qB5 qSZ (qBG (qA0 qGX qA3)) (qA9 qAB rfl qAU qBA (qA0 (pv 0) qA3)))) (qA4 (qBS C9 rfl (qYY rfl qAN (qA0 (qB5 qF4 (qA9 qAB rfl qAU qBA (qA0 (pv 0) qA3)) qA7) (qA0 (qKE qGC qA7) (qA0 (qKE qGC qA7) qA3)))) (qAA (i:=3) sc_Lneeded.nd rfl (C5 rfl)) (qA4 (qSM (qBW (qAI qEJ (pv 3) (pv 1) (by with_unfolding_all rfl)) (qA6 (qI7 qGX (qST (pv 2) (pv 3) qLE))) qAM)) (qA6 (qBW (qD2 (qAV qC5 (pv 2) (pv 3) (fun _ _=>rfl))) (qA6 (qBS C9 rfl (qFG (qAV qB0 (pv 0) (pv 3) (fun _ _=>rfl))) (qAA (i:=4) sc_Lneeded.nd rfl (C5 rfl)) (qA6 (qI7 qGX (qST (pv 2) (pv 4) qLE))))) qAM)))) (qA6 (qAL (qF8 rfl (lcs (own:=["_law_work"]) (fv:=[2]) (by kernel_rfl)) (qC7 rfl qAN (qA0 (qA9 qAB rfl qAU qBA (qA0 (pv 0) qA3)) qA3)) (fun z1=>qAA (i:=0) (qCA (by kernel_rfl)) rfl (C5 rfl)) (fun z1=>(qD7 (qD2 (qAV (qEX (K:=K) rfl) (pv 1) (pv 0) (fun _ _=>rfl))))) (fun z1=>(pv 0))))))),?_⟩
 try dsimp only [Cx.nox,Cx.wish,cxOf]
 obtain ⟨rs,hA,NL⟩:=id hN;have lrv:(((rs.map V.ref).length:Nat):Int)=(Af.length:Int):=by rw [A0,B2 NL]
 refine ⟨(by show 1<=sizeLine;decide),fun p0 hp0=>?_⟩
 have s0:=qA2 hp0 (.lst [.bl false]);refine ⟨_,rfl,a,_,rfl,.inr (SqT.of (s0 _ _ hA)),p0,_,_,rfl,rfl,qA1,by rw [lrv];omega,by rw [lrv];omega,?_,fun fo hfo=>?_⟩
 ·rw [lrv,sizeLine_eq];simp;omega
 have ffo:H fo=none:=s0.free hfo;have s1:=s0.trans (qA2 hfo (.lst (E9 ((((rs.map V.ref).length:Nat):Int)).toNat [V.bl false]).flatten));have gfo:(Ai (Ai H p0 (.lst [.bl false])) fo (.lst (E9 ((((rs.map V.ref).length:Nat):Int)).toNat [V.bl false]).flatten)) fo=some (.lst ((E9 Af.length false).map V.bl)):=by
  rw [qA1,repF,lrv,G3]
 generalize Ai (Ai H p0 (.lst [.bl false])) fo (.lst (E9 ((((rs.map V.ref).length:Nat):Int)).toNat [V.bl false]).flatten)=H1 at s1 gfo;refine ⟨_,rfl,a,_,rfl,.inr (SqT.of (s1 _ _ hA)),_,_,rfl,rfl,_,rfl,_,rfl,_,_,rfl,⟨by rw [lrv];omega,by rw [lrv];omega,by decide,by decide⟩,qWW (lo:=(((rs.map V.ref).length:Nat):Int) - 1) (n:=((((rs.map V.ref).length:Nat):Int) - 1 - -1).toNat) (fun i σ Hc=>∃ (bs:List Bool) (ks:List Int) (v3 v4:Option V),σ=[some (.ref a),some (.ref t),some (.ref fo),v3,v4]/\Same H Hc/\Hc fo=some (.lst (bs.map V.bl))/\Bls Af.length ks bs/\Fnd2 Af Ad ks ((Af.length:Int) - i))
  ⟨_,[],none,none,rfl,s1,gfo,⟨by simp,fun x hx=>by simp [hx]⟩,⟨fun x hx=>(nomatch hx),fun x hx hl=>?_,fun w zs h1 h2=>(nomatch h2)⟩⟩ ?_ ?_⟩
 ·have:=(rA.in_ x hx).2;omega
 ·refine fun i σ Hc hi hI_1=>opq fun G_1 hG_1=>?_;obtain ⟨bs,ks,v3,v4,rfl,sm,hf,B,fn⟩:=hI_1;refine hG_1 ?_;rw [lrv] at hi ⊢;obtain ⟨w0,ew⟩:∃ w0:Nat,(Af.length:Int) - 1 - i=(w0:Int):=⟨Af.length - 1 - i,by omega⟩
  have hw:w0<Af.length:=by omega
  rw [ew];obtain ⟨r,h3,h4⟩:=NL.get (A3 hw);have hz:=A3 hw;have rz:=wf w0 _ hz;generalize Af[w0]=zs at h4 hz rz;have ix:∀ {bs:List Bool} {ks:List Int} {x:Int},Bls Af.length ks bs->0<=x->x<(Af.length:Int)->ixN (bs.map V.bl).length x=some x.toNat:=fun {bs ks x} B h0 h1=>by
   have:=qTO (xs:=bs.map V.bl) (j:=x.toNat) (by rw [A0,B.len];omega)
   rw [show ((x.toNat:Nat):Int)=x by omega] at this
   exact this
  -- Ad
  refine ⟨fun σ Hc=>∃ (bs:List Bool) (ks:List Int),σ=[some (.ref a),some (.ref t),some (.ref fo),some (.int (w0:Int)),v4]/\Same H Hc/\Hc fo=some (.lst (bs.map V.bl))/\Bls Af.length ks bs/\(∀ x ∈ ks,(0<=x/\x<(Af.length:Int))/\Nd Af Ad x)/\(∀ x ∈ Ad,(w0:Int)<=x->x ∈ ks)/\(∀ (w:Nat) zs,(w0:Int)+1<=(w:Int)->(w:Int) ∈ ks->Af[w]?=some zs->∀ y ∈ zs,y ∈ ks),?_,?_⟩
  ·refine ⟨_,rfl,_,rfl,t,_,rfl,.inr (SqT.of (sm _ _ hT)),rfl,qB8 Ad,_,rfl,?_⟩;rw [qC8];by_cases c:(w0:Int) ∈ Ad
   ·rw [decide_eq_true c];refine ⟨_,rfl,_,rfl,fo,_,_,w0,rfl,rfl,hf,?_,?_⟩
    ·have:=ix B (x:=(w0:Int)) (by omega) (by omega)
     rw [G3] at this;exact this
    ·have st:=B.set (x:=(w0:Int)) (by omega) (by omega)
     rw [G3] at st;refine ⟨_,addI ks (w0:Int),rfl,qAG sm ffo,by rw [qA1,A40],st,fun x hx=>?_,fun x hx hl=>?_,fun w1 ys h1 h2 h9 y hy=>?_⟩
     ·rcases mem_addI.mp hx with hx | hx
      ·exact fn.in_ x hx
      ·rw [hx];exact ⟨⟨by omega,by omega⟩,.ask c⟩
     ·by_cases e:x=(w0:Int)
      ·exact mem_addI.mpr (.inr e)
      ·exact mem_addI.mpr (.inl (fn.ask x hx (by omega)))
     ·rcases mem_addI.mp h2 with h2 | h2
      ·exact mem_addI.mpr (.inl (fn.clo w1 ys (by omega) h2 h9 y hy))
      ·omega
   ·rw [decide_eq_false c];refine ⟨bs,ks,rfl,sm,hf,B,fn.in_,fun x hx hl=>?_,fun w1 ys h1 h2 h9=>fn.clo w1 ys (by omega) h2 h9⟩
    by_cases e:x=(w0:Int)
    ·rw [e] at hx;exact absurd hx c
    ·exact fn.ask x hx (by omega)
  refine fun σ Hc hI_2=>opq fun G_2 hG_2=>?_;obtain ⟨bs,ks,rfl,sm,hf,B,f1,f2,f3⟩:=hI_2;refine hG_2 ?_;refine ⟨_,rfl,_,rfl,fo,_,_,_,rfl,rfl,SqL.of hf,qCG (by omega) (by rw [G3];exact qY4 (B.at_ w0 hw)),_,rfl,?_⟩
  by_cases c:(w0:Int) ∈ ks
  ·rw [decide_eq_true c];refine ⟨_,rfl,_,rfl,a,_,_,_,rfl,rfl,SqT.of (sm _ _ hA),qCG (by omega) (by rw [G3,B5,h3];rfl),r,rfl,⟨_,SqT.of (sm _ _ h4)⟩,qU1 (a:=r) (xs:=zs.map V.int) (fun k σ Hd=>∃ (bs:List Bool) (ks:List Int) (v4:Option V),σ=[some (.ref a),some (.ref t),some (.ref fo),some (.int (w0:Int)),v4]/\Same H Hd/\Hd fo=some (.lst (bs.map V.bl))/\Bls Af.length ks bs/\(∀ x ∈ ks,(0<=x/\x<(Af.length:Int))/\Nd Af Ad x)/\(∀ x ∈ Ad,(w0:Int)<=x->x ∈ ks)/\(∀ (w:Nat) zs,(w0:Int)+1<=(w:Int)->(w:Int) ∈ ks->Af[w]?=some zs->∀ y ∈ zs,y ∈ ks)/\(w0:Int) ∈ ks/\∀ y ∈ zs.take k,y ∈ ks)
    ⟨bs,ks,v4,rfl,sm,hf,B,f1,f2,f3,c,fun y hy=>by simp at hy⟩ (fun k σ Hd _ hP=>by obtain ⟨_,_,_,_,sd,_⟩:=hP;exact SqT.of (sd _ _ h4)) ?_ ?_⟩
   ·refine fun k x σ Hd hx hI_3=>opq fun G_3 hG_3=>?_;obtain ⟨bs,ks,v4,rfl,sd,hfd,B,f1,f2,f3,c,ty⟩:=hI_3;obtain ⟨y,ey,rfl⟩:=qBI hx;refine hG_3 ?_;have my:=B4 ey;have yb:=rz.in_ y my;refine ⟨_,rfl,_,rfl,fo,_,_,y.toNat,rfl,rfl,hfd,ix B yb.1 (by omega),?_⟩
    refine ⟨_,addI ks y,_,rfl,qAG sd ffo,by rw [qA1,A40],B.set yb.1 (by omega),fun x hx=>?_,fun x hx hl=>mem_addI.mpr (.inl (f2 x hx hl)),fun w1 ys h1 h2 h9 z hz'=>?_,mem_addI.mpr (.inl c),fun z hz'=>?_⟩
    ·rcases mem_addI.mp hx with hx | hx
     ·exact f1 x hx
     ·rw [hx];exact ⟨⟨yb.1,by omega⟩,.need (f1 _ c).2 (by rw [G3];exact hz) my⟩
    ·rcases mem_addI.mp h2 with h2 | h2
     ·exact mem_addI.mpr (.inl (f3 w1 ys h1 h2 h9 z hz'))
     ·omega
    ·rw [D5,ey,D4,B8,A6] at hz';rcases hz' with hz' | hz'
     ·exact mem_addI.mpr (.inl (ty z hz'))
     ·exact mem_addI.mpr (.inr hz')
   ·refine fun σ Hd hI_4=>opq fun G_4 hG_4=>?_;obtain ⟨bs,ks,v4,rfl,sd,hfd,B,f1,f2,f3,c,ty⟩:=hI_4;refine hG_4 ?_;rw [A0,qCJ rfl] at ty;refine ⟨bs,ks,_,_,rfl,sd,hfd,B,f1,fun x hx hl=>f2 x hx (by omega),fun w1 ys h1 h2 h9=>?_⟩
    by_cases e:w1=w0
    ·subst e;rw [hz] at h9;cases h9;exact ty
    ·exact f3 w1 ys (by omega) h2 h9
  ·rw [decide_eq_false c];refine ⟨bs,ks,_,_,rfl,sm,hf,B,f1,fun x hx hl=>f2 x hx (by omega),fun w1 ys h1 h2 h9=>?_⟩
   by_cases e:w1=w0
   ·subst e;exact absurd h2 c
   ·exact f3 w1 ys (by omega) h2 h9
 ·refine fun σ Hc hI_5=>opq fun G_5 hG_5=>?_;obtain ⟨bs,ks,v3,v4,rfl,sm,hf,B,fn⟩:=hI_5;refine hG_5 ?_;rw [lrv,show ((Af.length:Int) - (((Af.length:Int) - 1 - -1).toNat:Nat))=0 by omega] at fn
  have all:=Fnd.all wf (⟨fn.in_,fun x hx=>fn.ask x hx (rA.in_ x hx).1,fn.clo⟩:Fnd Af Ad ks 0);have lrn:((((rs.map V.ref).length:Nat):Int)).toNat=Af.length:=by rw [lrv];omega
  refine ⟨_,rfl,a,_,rfl,.inr (SqT.of (sm _ _ hA)),_,rfl,by rw [lrv];omega,by rw [lrv];omega,fun p hp=>?_⟩
  refine qDW (p:=p) (lo:=0) (n:=((((rs.map V.ref).length:Nat):Int)).toNat) (fun i σ Hd=>∃ (v:Option V),σ=[v,some (.ref fo)]/\Same Hc Hd/\Hd p=some (.lst ((((qD1 0 Af.length).take i).filter fun x=>decide (x ∈ ks)).map V.int))) ?_ ?_ ?_
  ·exact ⟨none,rfl,qA2 hp _,qA1⟩
  ·refine fun i σ Hd hi hI_6=>opq fun G_6 hG_6=>?_;obtain ⟨v,rfl,sd,hpd⟩:=hI_6;refine hG_6 ?_;rw [lrn] at hi;have lk:=qFK (p:=fun x=>decide (x ∈ ks)) (l:=qD1 0 Af.length) (i:=i);refine ⟨_,rfl,_,rfl,fo,_,_,_,rfl,rfl,SqL.of (sd _ _ hf),qCG (by omega) (by rw [show (0+(i:Int)).toNat=i by omega];exact qY4 (B.at_ i hi)),_,rfl,?_⟩
   rw [qDM (qOS (by omega)),Int.zero_add]
   by_cases c:(i:Int) ∈ ks
   ·rw [decide_eq_true c];refine ⟨_,rfl,_,hpd,qAQ (by rw [A0];omega),_,rfl,qAG sd hp,?_⟩
    rw [qA1,if_pos rfl,B1]
    rfl
   ·rw [decide_eq_false c];refine ⟨_,rfl,sd,?_⟩;simpa using hpd
  ·refine fun σ Hd hI_7=>opq fun G_7 hG_7=>?_;obtain ⟨v,rfl,sd,hpd⟩:=hI_7;refine hG_7 ?_;rw [qCJ (by rw [qHP,lrn];omega)] at hpd
   refine q p _ Hd (sm.trans sd) (sm.free hp) hpd ⟨⟨(qJI _ _).filter _,fun x hx=>mem_rangeI.mp (B0.mp hx).1⟩,fun x=>?_⟩;rw [B0,mem_rangeI,decide_eq_true_eq,<- all x];exact ⟨fun z=>z.2,fun z=>⟨(fn.in_ x z).1,z⟩⟩
theorem qVG:FnScope ["_law_net_here","_law_rooms","_law_stand","_law_move"] ["_law_net_here","_law_rooms","_law_stand","_law_move"] (qAH qLF):=⟨rfl,rfl,rfl,by decide +kernel,rfl,by decide +kernel,by decide +kernel⟩
theorem ok_Lword (F:Fun K "_law_word" "_law_word" qLF f fd) (qAU:mg "len" = none) (qF7:mg "all" = none):FnOk P w K mg base CX0 1 f fd ["_law_net_here","_law_rooms","_law_stand","_law_move"] qS9:=by
 refine F.ok qVG (fun vs H Q E h=>?_) (fun cdv A outer s H vs Q E hr h=>?_)
 ·obtain ⟨a,so,mv,Af,st,ns,Aa,wk,Ac,rfl,_⟩:=h
  rfl
 obtain ⟨a,so,mv,Af,st,ns,Aa,wk,Ac,rfl,hN,hst,lst,hmv,hword,wk0,hns,lns,q⟩:=h;refine ⟨_,(qA4 (qBW (qAI qE8 (qAV qB0 (pv 3) qA7 (fun _ _=>rfl)) qB9 (qAY _)) (qA6 (qAL (qG2 (qAI qEJ (qAV qB0 (pv 3) qA7 (fun _ _=>rfl)) (pv 2) (by with_unfolding_all rfl)) qJN qB9))) qAM) (qA4 (qBW (qAI qEJ (qAV qB0 (pv 3) qA7 (fun _ _=>rfl)) (pv 2) (by with_unfolding_all rfl)) (qA6 (qAL qB9)) qAM) (qA4 (qBW (qGE (qD2 (qA9 (qHI rfl) rfl qF7 qO5 (qA0 (qF8 rfl (lcs (own:=["_law_need"]) (fv:=[2]) (by kernel_rfl)) (qFG (qAV qB0 (pv 0) (qAV qB0 (pv 3) qA7 (fun _ _=>rfl)) (fun _ _=>rfl))) (fun z1=>qAA (i:=0) (qCA (by kernel_rfl)) rfl (C5 rfl)) (fun z1=>qC6) (fun z1=>(qDJ (qQ1 (K:=K) rfl) (pv 0) (pv 1) (by with_unfolding_all rfl)))) qA3)))) (qA6 (qAL qB9)) qAM) (qA6 (qAL (qG2 (qAI qW3 (qA9 qAB rfl qAU qBA (qA0 (pv 2) qA3)) (pv 1) (qAY _)) qB9 qJN)))))),?_⟩
 try dsimp only [Cx.nox,Cx.wish,cxOf]
 refine ⟨_,rfl,mv,_,_,_,rfl,rfl,SqT.of hmv,rfl,rfl,_,rfl,?_⟩;refine ite2 (fun ck=>?_) (fun ck=>?_)
 ·have hd:Ac = "clear":=V.str.inj (of_decide_eq_true ck);have q':=q H (Same.refl H);unfold qF3 qEH at q';rw [if_neg (by rw [hd];exact qAC)] at q'
  refine ⟨_,rfl,mv,_,_,_,rfl,rfl,SqT.of hmv,rfl,_,rfl,so,_,rfl,.inr (SqT.of hst),rfl,qB8 st,_,rfl,?_⟩;rw [qC8];refine ite2 (fun cw=>?_) (fun cw=>?_)
  ·rw [if_pos (of_decide_eq_true cw)] at q';exact q'
  ·rw [if_neg (of_decide_eq_false (F9.mpr cw))] at q';exact q'
 ·have hd:Ac = "do":=hword.resolve_right fun e=>(of_decide_eq_false (F9.mpr ck)) (congrArg V.str e)
  have q1:∀ H',Same H H'->Q (qI2 ns st Aa wk) H':=fun H' sm=>by
   have q':=q H' sm;unfold qF3 at q';rw [if_pos hd] at q';exact q'
  refine ⟨_,rfl,mv,_,_,_,rfl,rfl,SqT.of hmv,rfl,_,rfl,so,_,rfl,.inr (SqT.of hst),rfl,qB8 st,_,rfl,?_⟩;rw [qC8];refine ite2 (fun cw=>?_) (fun cw=>?_)
  ·have q':=q1 H (Same.refl H);unfold qI2 at q';rw [if_pos (of_decide_eq_true cw)] at q';exact q'
  ·have hw:¬ wk ∈ st:=of_decide_eq_false (F9.mpr cw);obtain ⟨rs,r,h1,l1,h2,h3⟩:=hN.get hns;refine ⟨_,rfl,_,rfl,mv,_,_,_,rfl,rfl,SqT.of hmv,rfl,a,_,_,_,rfl,rfl,SqT.of h1,qCG wk0 h2,r,rfl,⟨_,SqT.of h3⟩,fun p hp=>?_⟩;refine qH2 (p:=p) (a:=r) (xs:=ns.map V.int) (fun i σ Hc=>∃ (v:Option V),σ=[v,some (.ref so)]/\Same H Hc/\Hc p=some (.lst (((ns.take i).map fun x=>decide (x ∈ st)).map V.bl))) ?_ ?_ ?_ ?_
   ·exact ⟨none,rfl,qA2 hp _,qA1⟩
   ·rintro i σ Hc hi ⟨v,rfl,sm,_⟩;exact SqT.of (sm _ _ h3)
   ·refine fun i x σ Hc hx hI_2=>opq fun G_2 hG_2=>?_;obtain ⟨v,rfl,sm,hpc⟩:=hI_2;obtain ⟨z,ez,rfl⟩:=qBI hx;refine hG_2 ?_;have hi:i<ns.length:=(A1.mp ez).1;refine ⟨_,rfl,_,rfl,so,_,rfl,.inr (SqT.of (sm _ _ hst)),rfl,qB8 st,_,hpc,qAQ (by rw [A0,A0,C1];omega),_,rfl,qAG sm hp,?_⟩
    rw [qA1];refine congrArg (fun l=>some (HO.lst l)) ?_;rw [<- qLB ez];show _++[V.bl (inV (.int z) (st.map V.int))]=_;rw [qC8]
   ·refine fun σ Hc hI_3=>opq fun G_3 hG_3=>?_;obtain ⟨v,rfl,sm,hpc⟩:=hI_3;refine hG_3 ?_;rw [A0,J8 (A5 _)] at hpc;refine ⟨p,_,rfl,SqL.of hpc,_,rfl,?_⟩;have q':=q1 Hc sm;unfold qI2 at q';rw [if_neg hw] at q';cases hall:(ns.map fun x=>decide (x ∈ st)).all id with
    | false=>
     have na:¬ ∀ x ∈ ns,x ∈ st:=fun z=>by rw [all_in.mpr z] at hall;cases hall
     rw [if_neg na] at q';exact q'
    | true=>
     rw [if_pos (all_in.mp hall)] at q';refine ⟨_,rfl,so,_,rfl,.inr (SqT.of (sm _ _ hst)),_,rfl,_,_,rfl,rfl,_,rfl,?_⟩;refine ite2 (fun cf=>?_) (fun cf=>?_)
     ·have cf':Aa<=(((st.map V.int).length:Nat):Int):=of_decide_eq_true cf;rw [A0] at cf';rw [if_pos cf'] at q';exact q'
     ·have cf':¬ Aa<=(((st.map V.int).length:Nat):Int):=of_decide_eq_false (F9.mpr cf);rw [A0] at cf';rw [if_neg cf'] at q';exact q'
theorem qQV:FnScope ["_law_stand","_law_move"] ["_law_stand","_law_move"] (qAH qGW):=⟨rfl,rfl,rfl,by decide +kernel,rfl,by decide +kernel,by decide +kernel⟩
theorem ok_Lbehind (F:Fun K "_law_behind" "_law_behind" qGW f fd) (qB4:mg "sorted" = none) (qAP:mg "tuple" = none):FnOk P w K mg base CX0 1 f fd ["_law_stand","_law_move"] qGS:=by
 refine F.ok qQV (fun vs H Q E h=>?_) (fun cdv A outer s H vs Q E hr h=>?_)
 ·obtain ⟨so,mv,st,Ac,wk,rfl,_⟩:=h
  rfl
 obtain ⟨so,mv,st,Ac,wk,rfl,hst,lst,hmv,hword,q⟩:=h;refine ⟨_,(qA4 (qBW (qAI qE8 (qAV qB0 (pv 1) qA7 (fun _ _=>rfl)) qB9 (qAY _)) (qA6 (qAL (qAS qAZ rfl qAP qBF (qA0 (qA9 (qDN rfl) rfl qB4 qEN (qA0 (qB5 qZ4 (pv 0) (qBC (qA0 (qAV qB0 (pv 1) qA7 (fun _ _=>rfl)) qA3))) qA3)) qA3)))) qAM) (qA6 (qAL (qAS qAZ rfl qAP qBF (qA0 (qF8 rfl (lcs (own:=["_law_work"]) (fv:=[1]) (by kernel_rfl)) (qFG (pv 0)) (fun z1=>qAA (i:=0) (qCA (by kernel_rfl)) rfl (C5 rfl)) (fun z1=>(qD7 (qAI qT0 (pv 0) (qAV (qFJ (K:=K) rfl) (pv 1) qA7 (fun _ _=>rfl)) (qAY _)))) (fun z1=>(pv 0))) qA3))))),?_⟩
 try dsimp only [Cx.nox,Cx.wish,cxOf]
 refine ⟨_,rfl,mv,_,_,_,rfl,rfl,SqT.of hmv,rfl,rfl,_,rfl,?_⟩;refine ite2 (fun ck=>?_) (fun ck=>?_)
 ·have hd:Ac = "do":=V.str.inj (of_decide_eq_true ck)
  refine ⟨_,rfl,_,rfl,mv,_,_,_,rfl,rfl,SqT.of hmv,rfl,(by show 1<=sizeLine;decide),fun T hT=>?_⟩
  have sT:=qA2 hT (.tup [.int wk]);have fin:∀ (p:Addr) (H1:Hp),Same H H1->H1 p=some (.tup ((st++[wk]).map V.int))->∀ (b:Addr) (zs:List Int),H1 b=none->zs.Perm (st++[wk])->zs.Pairwise (·<=·)->∀ r,(Ai H1 b (.lst (zs.map V.int))) r=none->Q (.ref r) (Ai (Ai H1 b (.lst (zs.map V.int))) r (.tup (zs.map V.int))):=by
   intro p H1 s1 hp b zs hb hpm hs r hr;refine q r zs _ (s1.trans ((qA2 hb _).trans (qA2 hr _))) qA1 ⟨fun _=>⟨hpm,hs⟩,fun z=>?_⟩;rw [hd] at z;exact absurd z.symm qAC
  refine ⟨so,T,st.map V.int,[.int wk],rfl,rfl,SqT.of (sT _ _ hst),SqT.of qA1,by simp,R4 (qAX (by rw [A0,A9];omega)),fun z=>?_,fun z p hp=>?_⟩
  ·have e:st=[]:=List.map_eq_nil_iff.mp z;have g:(Ai H T (.tup [.int wk])) T=some (.tup ((st++[wk]).map V.int)):=by rw [qA1,e];rfl
   exact ⟨T,st++[wk],rfl,.inr (.inl (SqT.of g)),(by rw [A4,A9];omega),fun b zs hb hpm hs=>⟨b,_,rfl,.inl ⟨SqL.of qA1,fun r hr=>fin T _ sT g b zs hb hpm hs r hr⟩⟩⟩
  ·have g:(Ai (Ai H T (.tup [.int wk])) p (.tup (st.map V.int++[.int wk]))) p=some (.tup ((st++[wk]).map V.int)):=by rw [qA1,B1];rfl
   exact ⟨p,st++[wk],rfl,.inr (.inl (SqT.of g)),(by rw [A4,A9];omega),fun b zs hb hpm hs=>⟨b,_,rfl,.inl ⟨SqL.of qA1,fun r hr=>fin p _ (sT.trans (qA2 hp _)) g b zs hb hpm hs r hr⟩⟩⟩
 ·have hd:Ac = "clear":=hword.resolve_left fun e=>(of_decide_eq_false (F9.mpr ck)) (congrArg V.str e);refine ⟨_,rfl,so,rfl,⟨_,SqT.of hst⟩,fun p hp=>?_⟩;refine qH2 (p:=p) (a:=so) (xs:=st.map V.int) (fun i σ Hc=>∃ (v:Option V),σ=[v,some (.ref mv)]/\Same H Hc/\Hc p=some (.lst (((st.take i).filter fun x=>decide (x ≠ wk)).map V.int))) ?_ ?_ ?_ ?_
  ·exact ⟨none,rfl,qA2 hp _,qA1⟩
  ·rintro i σ Hc hi ⟨v,rfl,sm,_⟩;exact SqT.of (sm _ _ hst)
  ·refine fun i x σ Hc hx hI_2=>opq fun G_2 hG_2=>?_;obtain ⟨v,rfl,sm,hpc⟩:=hI_2;obtain ⟨y,ey,rfl⟩:=qBI hx;refine hG_2 ?_;have hi:=(A1.mp ey).1;have lk:=qFK (p:=fun x=>decide (x ≠ wk)) (l:=st) (i:=i);refine ⟨_,rfl,_,rfl,mv,_,_,_,rfl,rfl,SqT.of (sm _ _ hmv),rfl,rfl,_,rfl,?_⟩;rw [qDM ey];by_cases e:y=wk
   ·rw [decide_eq_true (show V.int y=V.int wk by rw [e]),decide_eq_false (show ¬ y ≠ wk from fun z=>z e)]
    refine ⟨_,rfl,sm,?_⟩;simpa using hpc
   ·rw [decide_eq_false (show ¬ V.int y=V.int wk from fun z=>e (V.int.inj z)),decide_eq_true (show y ≠ wk from e)];refine ⟨_,rfl,_,hpc,qAQ (by rw [A0];omega),_,rfl,qAG sm hp,?_⟩
    rw [qA1,if_pos rfl,B1]
    rfl
  ·refine fun σ Hc hI_3=>opq fun G_3 hG_3=>?_;obtain ⟨v,rfl,sm,hpc⟩:=hI_3;refine hG_3 ?_;rw [A0,qCJ rfl] at hpc;refine ⟨p,_,rfl,.inl ⟨SqL.of hpc,fun r hr=>?_⟩⟩;refine q r _ _ (sm.trans (qA2 hr _)) qA1 ⟨fun z=>?_,fun _=>rfl⟩;rw [hd] at z;exact absurd z qAC
end
section
variable {P:Program} {w:World} {K:PySem.W.Frag} {mg:Str->Option Value} {base:Heap} {f:Addr} {fd:FuncData} {qM8 qD5:Addr} {qQ9 qDH:FuncData}
theorem sc_Lplayed:FnScope ["_law_net_here","_law_rooms","_law_plan","_law_stands","_law_move","_law_word_here"] ["_law_net_here","_law_rooms","_law_plan"] (qAH qGU):=⟨rfl,rfl,rfl,by decide +kernel,rfl,by decide +kernel,by decide +kernel⟩
theorem ok_Lplayed (F:Fun K "_law_played" "_law_played" qGU f fd)
  (qMT:Clb P w K mg base 1 qM8 qQ9 "_law_word" ["_law_net_here","_law_rooms","_law_stand","_law_move"] qS9)
  (qBY:Clb P w K mg base 1 qD5 qDH "_law_behind" ["_law_stand","_law_move"] qGS):FnOk P w K mg base CX0 2 f fd ["_law_net_here","_law_rooms","_law_plan"] qIL:=by
 refine F.ok sc_Lplayed (fun vs H Q E h=>?_) (fun cdv A outer s H vs Q E hr h=>?_)
 ·obtain ⟨a,l,Af,ms,Aa,rfl,_⟩:=h
  rfl
 obtain ⟨a,l,Af,ms,Aa,rfl,⟨hN,wf,n400,⟨rs,hl,M⟩,l10,hms,r0,r500⟩,q⟩:=h;have qcC:Room 1 _:=hr;have qaC:Room 1 _:=hr;refine ⟨_,(qA4 (qAE (i:=3) sc_Lplayed.nd rfl (C5 rfl) (qBG (qA0 (qBC qA3) qA3))) (qA4 (qBS C9 rfl (qC3 (pv 2)) (qAA (i:=4) sc_Lplayed.nd rfl (C5 rfl)) (qA4 (qAE (i:=5) sc_Lplayed.nd rfl (C5 rfl) (qAR qMT hr rfl (qA0 (pv 0) (qA0 (pv 1) (qA0 (qAV qC5 (pv 3) (qKE qGC qA7) (fun _ _=>rfl)) (qA0 (pv 4) qA3)))))) (qA4 (qBW (qI6 (qLP (pv 5))) (qA6 (qAL (qBC (qA0 (pv 3) (qA0 (pv 5) qA3))))) qAM) (qA6 (qCC (qGJ E2 E3 E4 qB6 (pv 3) (qA0 (qAR qBY hr rfl (qA0 (qAV qC5 (pv 3) (qKE qGC qA7) (fun _ _=>rfl)) (qA0 (pv 4) qA3))) qA3))))))) (qA6 (qAL (qBC (qA0 (pv 3) (qA0 qJN qA3))))))),?_⟩
 try dsimp only [Cx.nox,Cx.wish,cxOf]
 have lrs:=B2 M;refine ⟨(by show 0<=sizeLine;decide),fun e he=>⟨(by show 1<=sizeLine;decide),fun ls hls=>?_⟩⟩
 have s1:=qA2 he (.tup []);have s2:=s1.trans (qA2 hls (.lst [.ref e]));have fls:H ls=none:=s1.free hls;refine ⟨_,rfl,l,rfl,⟨_,SqL.of (s2 _ _ hl)⟩,qCF (a:=l) (xs:=rs.map V.ref) (fun k σ Hc=>∃ (ss:List Addr) (r:Addr) (sts:List (List Int)) (st:List Int) (v4 v5:Option V),σ=[some (.ref a),some (.int Aa),some (.ref l),some (.ref ls),v4,v5]/\Same H Hc/\Hc ls=some (.lst ((ss++[r]).map V.ref))/\NetL Hc (ss++[r]) ([]::sts)/\Hc r=some (.tup (st.map V.int))/\Rise (Af.length:Int) st/\sts.length=k/\∀ sts' v,Play Af Aa st (ms.drop k) sts' v->Play Af Aa [] ms (sts++sts') v)
  ⟨[],e,[],[],none,none,rfl,s2,qA1,.cons ((qA2 hls (.lst [.ref e])) _ _ qA1) .nil,(qA2 hls (.lst [.ref e])) _ _ qA1,Rise.nil,rfl,fun sts' v p=>p⟩ (fun k σ Hc _ hP=>by obtain ⟨_,_,_,_,_,_,_,sm,_⟩:=hP;exact SqL.of (sm _ _ hl)) ?_ ?_⟩
 ·refine fun k x σ Hc hx hI_1=>opq fun G_1 hG_1=>?_;obtain ⟨ss,r,sts,st,v4,v5,rfl,sm,hlc,N,hrc,fit,lk,go⟩:=hI_1;refine hG_1 ?_;have lfit:=fit.len;obtain ⟨mv,hmv,rfl⟩:=qBX hx;obtain ⟨⟨Ac,wk⟩,hm,hH⟩:=qAO M hmv;have hk:=(A1.mp hm).1;obtain ⟨hw,wk0,wk1⟩:=hms _ (B4 hm);dsimp only at hw wk0 wk1 hH;have ed:ms.drop k=(Ac,wk)::ms.drop (k+1):=by
   obtain ⟨hk',e⟩:=A1.mp hm;rw [D6 hk',e]
  have hwn:wk.toNat<Af.length:=by omega
  have hns:=A3 hwn;have lns:=(wf wk.toNat _ hns).len;generalize Af[wk.toNat]=ns at hns lns;have ewd:wd Af st Aa (Ac,wk)=qF3 ns st Aa Ac wk:=by unfold wd;rw [hns];rfl
  have lss:=B2 N;rw [B3] at lss;have lastx:atI ((ss++[r]).map V.ref) (-1)=some (.ref r):=by rw [B1];exact qJ1 _ _
  refine ⟨_,rfl,_,rfl,_,rfl,_,rfl,ls,_,_,_,rfl,rfl,SqL.of hlc,lastx,_,rfl,a,r,mv,Af,st,ns,Aa,wk,Ac,rfl,hN.same sm,hrc,by omega,sm _ _ hH,hw,wk0,hns,by omega,fun H2 sm2=>?_⟩
  rcases qOH ns st Aa Ac wk with e | ⟨w0,e⟩
  ·rw [e];refine ⟨_,rfl,_,rfl,?_⟩;rw [decide_eq_true (rfl:V.non=V.non)];refine ⟨_,rfl,.inl ⟨rfl,_,SqL.of (sm2 _ _ hlc)⟩,_,rfl,_,rfl,ls,_,_,_,rfl,rfl,SqL.of (sm2 _ _ hlc),lastx,_,rfl,r,mv,st,Ac,wk,rfl,sm2 _ _ hrc,by omega,sm2 _ _ (sm _ _ hH),hw,fun r' st' H3 sm3 gr bh=>?_⟩
   have s3:=sm2.trans sm3;have hl3:=s3 _ _ hlc;have fit':=qHK fit hw wk0 wk1 (fun ew=>((qXF hw (ewd.trans e)).1 ew).1) bh;refine ⟨ls,_,_,rfl,rfl,hl3,qAX (by rw [A0];omega),?_⟩
   rw [qBB];have N3:NetL H3 (ss++[r]++[r']) ([]::(sts++[st'])):=a9 (NetL.sm N s3) gr;refine ⟨ss++[r],r',sts++[st'],st',_,_,rfl,qAG (sm.trans s3) fls,qA1,NetL.put N3 hl3,?_,fit',by rw [A4,A9,lk],fun sts' v p=>?_⟩
   ·rw [qA8 (qBT gr hl3 (by intro z;cases z))]
    exact gr
   ·rw [G8];exact go (st'::sts') v (by rw [ed];exact .go (ewd.trans e) bh p)
  ·rw [e];refine ⟨_,rfl,_,rfl,?_⟩;rw [decide_eq_false (show ¬ V.str w0=V.non from fun z=>nomatch z)];refine ⟨_,rfl,_,rfl,(by show 2<=sizeLine;decide),fun T hT=>?_⟩
   have sT:=qA2 hT (.tup [.ref ls,.str w0]);have pl:=go [] (.str w0) (by rw [ed];exact .stop (ewd.trans e))
   rw [O7] at pl;exact q T ls sts (.str w0) _ ((sm.trans sm2).trans sT) pl qA1 fls ((StandsAt.same ⟨_,hlc,N⟩ sm2).same sT) (by omega)
 ·refine fun σ Hc hI_2=>opq fun G_2 hG_2=>?_;obtain ⟨ss,r,sts,st,v4,v5,rfl,sm,hlc,N,hrc,fit,lk,go⟩:=hI_2;refine hG_2 ?_;rw [A0,lrs] at lk;have pl:=go [] .non (by rw [A0,lrs,c9];exact .nil)
  rw [O7] at pl;refine ⟨_,rfl,(by show 2<=sizeLine;decide),fun T hT=>?_⟩
  have sT:=qA2 hT (.tup [.ref ls,.non]);exact q T ls sts .non _ (sm.trans sT) pl qA1 fls (StandsAt.same ⟨_,hlc,N⟩ sT) (by omega)
end
section
variable {P:Program} {w:World} {K:PySem.W.Frag} {mg:Str->Option Value} {base:Heap} {f:Addr} {fd:FuncData} {qC0:Addr} {qBM:FuncData}
theorem sc_Lnext_work:FnScope ["_law_state","_law_net_here","_law_stand","_law_work","_law_lacking"] ["_law_state","_law_net_here","_law_stand"] (qAH qDT):=⟨rfl,rfl,rfl,by decide +kernel,rfl,by decide +kernel,by decide +kernel⟩
theorem ok_Lnext_work (F:Fun K "_law_next_work" "_law_next_work" qDT f fd)
  (qAJ:Clb P w K mg base 1 qC0 qBM "_law_take" ["_law_state","_law_many"] qGD)
  (qAU:mg "len" = none):FnOk P w K mg base CX0 2 f fd ["_law_state","_law_net_here","_law_stand"] qPP:=by
 refine F.ok sc_Lnext_work (fun vs H Q E h=>?_) (fun cdv A outer s H vs Q E hr h=>?_)
 ·obtain ⟨d,c,t,ns,a,so,Af,st,rfl,_⟩:=h
  rfl
 obtain ⟨d,c,t,ns,a,so,Af,st,rfl,S,ht,hN,wf,n1,n400,hst,q⟩:=h;have hu0:=hr.units0;have qM2:Room 1 _:=hr;refine ⟨_,(qA4 (qAE (i:=3) sc_Lnext_work.nd rfl (C5 rfl) (qAR qAJ hr rfl (qA0 (pv 0) (qA0 (qA9 qAB rfl qAU qBA (qA0 (pv 1) qA3)) qA3)))) (qA4 (qKD (i:=4) sc_Lnext_work.nd rfl rfl rfl (lcs (own:=["_law_need"]) (fv:=[2]) (by kernel_rfl)) (qFG (qAV qB0 (pv 1) (pv 3) (fun _ _=>rfl))) (fun z1=>qAA (i:=0) (qCA (by kernel_rfl)) rfl (C5 rfl)) (fun z1=>(qD7 (qAI (qEI (K:=K) rfl) (pv 0) (pv 1) (by with_unfolding_all rfl)))) (fun z1=>(pv 0)) (by kernel_rfl)) (qA4 (qIT C9 (qAI (qJO hu0) (pv 4) (qBG qA3) (qAY _)) (qA4 (qAE (i:=3) sc_Lnext_work.nd rfl (C5 rfl) (qAV qC5 (pv 4) (qAR qAJ hr rfl (qA0 (pv 0) (qA0 (qA9 qAB rfl qAU qBA (qA0 (pv 4) qA3)) qA3))) (fun _ _=>rfl))) (qA6 (qKD (i:=4) sc_Lnext_work.nd rfl rfl rfl (lcs (own:=["_law_need"]) (fv:=[2]) (by kernel_rfl)) (qFG (qAV qB0 (pv 1) (pv 3) (fun _ _=>rfl))) (fun z2=>qAA (i:=0) (qCA (by kernel_rfl)) rfl (C5 rfl)) (fun z2=>(qD7 (qAI (qEI (K:=K) rfl) (pv 0) (pv 1) (by with_unfolding_all rfl)))) (fun z2=>(pv 0)) (by kernel_rfl))))) (qA6 (qAL (pv 3)))))),?_⟩
 try dsimp only [Cx.nox,Cx.wish,cxOf]
 have ht':t<=1000000000 - 1000:=ht;obtain ⟨rs,hA,NL⟩:=id hN;have lrv:(((rs.map V.ref).length:Nat):Int)=(Af.length:Int):=by rw [A0,B2 NL]
 have na:=S.tup hA;have ns':=S.tup hst;refine ⟨_,rfl,_,rfl,a,_,rfl,.inr (SqT.of hA),d,c,t,ns,_,rfl,S,(by show t<=1000000000;omega),by rw [lrv];omega,by rw [lrv];omega,fun wk ns1 H1 w0 w1 S1 K1=>?_⟩
 rw [lrv] at w1;have hA1:=K1 _ _ hA na.1 na.2;have hs1:=K1 _ _ hst ns'.1 ns'.2;have NL1:NetL H1 rs Af:=NL.keep (fun r zs e=>S.tup e) K1;have hi':wk.toNat<Af.length:=by omega
 obtain ⟨r,h3,h4⟩:=NL1.get (A3 hi');have rz:=wf wk.toNat _ (A3 hi');have en:nd Af wk=Af[wk.toNat]:=qD3 (A3 hi');generalize Af[wk.toNat]=zs at h4 rz en;have lz:=rz.len;refine ⟨_,rfl,_,rfl,a,_,_,_,rfl,rfl,SqT.of hA1,qCG w0 (by rw [B5,h3];rfl),r,rfl,⟨_,SqT.of h4⟩,fun p hp=>?_⟩
 refine qH2 (p:=p) (a:=r) (xs:=zs.map V.int) (fun j σ Hd=>∃ (v:Option V) (fs:List Int),σ=[v,some (.ref so)]/\Same H1 Hd/\Hd p=some (.lst (fs.map V.int))/\fs.length<=j/\(∀ x ∈ fs,0<=x/\x<wk)/\∀ x ∈ zs.take j,x ∉ st->x ∈ fs) ?_ ?_ ?_ ?_
 ·exact ⟨none,[],rfl,qA2 hp _,qA1,A5 _,(fun _ z=>nomatch z),fun x hx=>by simp at hx⟩
 ·rintro j σ Hd hj ⟨v,fs,rfl,sm,_⟩;exact SqT.of (sm _ _ h4)
 ·refine fun j x σ Hd hx hI_2=>opq fun G_2 hG_2=>?_;obtain ⟨v,fs,rfl,sm,hpd,lf,inf,cpl⟩:=hI_2;obtain ⟨z,ez,rfl⟩:=qBI hx;refine hG_2 ?_;have hj:=(A1.mp ez).1;have zin:=rz.in_ z (B4 ez);refine ⟨_,rfl,_,rfl,so,_,rfl,.inr (SqT.of (sm _ _ hs1)),rfl,qB8 st,_,rfl,?_⟩;rw [qC8];by_cases cz:z ∈ st
  ·rw [decide_eq_true cz];refine ⟨_,fs,rfl,sm,hpd,by omega,inf,fun x hx hn=>?_⟩
   rw [D5,ez,D4,B8,A6] at hx;rcases hx with hx | hx
   ·exact cpl x hx hn
   ·rw [hx] at hn;exact absurd cz hn
  ·rw [decide_eq_false cz];refine ⟨_,rfl,_,hpd,qAQ (by rw [A0];omega),_,fs++[z],rfl,qAG sm hp,?_,by rw [A4,A9];omega,fun x hx=>?_,fun x hx hn=>?_⟩
   ·rw [qA1,B1];rfl
   ·rcases B8.mp hx with hx | hx
    ·exact inf x hx
    ·rw [A6.mp hx];omega
   ·rw [D5,ez,D4,B8,A6] at hx;rcases hx with hx | hx
    ·exact B8.mpr (.inl (cpl x hx hn))
    ·rw [hx];simp
 refine fun σ Hd hI_3=>opq fun G_3 hG_3=>?_;obtain ⟨v,fs,rfl,sm,hpd,lf,inf,cpl⟩:=hI_3;refine hG_3 ?_;rw [A0] at lf cpl;rw [qCJ rfl,<- en] at cpl;have np:p ≠ d/\p ≠ c:=⟨(qA5 S1.dict hp).symm,(qA5 S1.list hp).symm⟩;refine ⟨fun m σ Hc=>∃ (wk:Int) (p:Addr) (fs:List Int) (t1:Int) (ns:List Int),σ=[some (.ref d),some (.ref a),some (.ref so),some (.int wk),some (.ref p)]/\m=wk.toNat/\StAt Hc d c t1 ns/\t<=t1/\t1<=t+(Af.length:Int) - wk/\Keep d c H Hc/\Hc p=some (.lst (fs.map V.int))/\(p ≠ d/\p ≠ c)/\fs.length<=400/\(∀ x ∈ fs,0<=x/\x<wk)/\(∀ x ∈ nd Af wk,x ∉ st->x ∈ fs)/\0<=wk/\wk<(Af.length:Int),⟨_,wk,p,fs,t+1,ns1,rfl,rfl,S1.same sm,by omega,by omega,K1.trans (.of_same sm),hpd,np,by omega,inf,cpl,w0,w1⟩,?_⟩
 refine fun m σ Hc hI_4=>opq fun G_4 hG_4=>?_;obtain ⟨wk,p,fs,t1,ms,rfl,rfl,S2,g1,g2,K2,hp2,np,lf,inf,cpl,w0,w1⟩:=hI_4;refine hG_4 ?_;refine ⟨_,rfl,(by show 0<=sizeLine;decide),fun l0 hl0=>?_⟩
 have s0:=qA2 hl0 (.lst []);have g0:(Ai Hc l0 (.lst [])) l0=some (.lst []):=qA1;generalize Ai Hc l0 (.lst [])=H3 at s0 g0 ⊢;have S3:=S2.same s0;have K3:=K2.trans (.of_same s0);have hp3:=s0 _ _ hp2;refine ⟨p,l0,_,rfl,rfl,SqL.of hp3,SqL.of g0,_,rfl,?_⟩;refine ite2 (fun cn=>?_) (fun cn=>?_)
 ·have fne:fs ≠ []:=fun z=>by rw [z] at cn;cases cn
  have fpos:0<fs.length:=List.length_pos_iff.mpr fne;refine ⟨fun σ' H'=>∃ m',m'<wk.toNat/\_,fun σ' H' z=>z,?_⟩;refine ⟨_,rfl,_,rfl,_,rfl,p,_,rfl,.inl (SqL.of hp3),d,c,t1,ms,_,rfl,S3,(by show t1<=1000000000;omega),by rw [A0];omega,by rw [A0];omega,fun k ms2 H4 k0 k1 S4 K4=>?_⟩
  rw [A0] at k1;have hk:k.toNat<fs.length:=by omega
  have hz:=A3 hk;have zin:=inf _ (B4 hz);generalize fs[k.toNat]=y at hz zin;refine ⟨p,_,_,_,rfl,rfl,SqL.of (K4 _ _ hp3 np.1 np.2),qCG k0 (by rw [B5,hz];rfl),?_⟩
  have K5:=K3.trans K4;have hA1:=K5 _ _ hA na.1 na.2;have hs1:=K5 _ _ hst ns'.1 ns'.2;have NL1:NetL H4 rs Af:=NL.keep (fun r zs e=>S.tup e) K5;have hi':y.toNat<Af.length:=by omega
  obtain ⟨r,h3,h4⟩:=NL1.get (A3 hi');have rz:=wf y.toNat _ (A3 hi');have en:nd Af y=Af[y.toNat]:=qD3 (A3 hi');generalize Af[y.toNat]=zs at h4 rz en;have lz:=rz.len;refine ⟨_,rfl,_,rfl,a,_,_,_,rfl,rfl,SqT.of hA1,qCG zin.1 (by rw [B5,h3];rfl),r,rfl,⟨_,SqT.of h4⟩,fun p5 hp5=>?_⟩
  refine qH2 (p:=p5) (a:=r) (xs:=zs.map V.int) (fun j σ Hd=>∃ (v:Option V) (gs:List Int),σ=[v,some (.ref so)]/\Same H4 Hd/\Hd p5=some (.lst (gs.map V.int))/\gs.length<=j/\(∀ x ∈ gs,0<=x/\x<y)/\∀ x ∈ zs.take j,x ∉ st->x ∈ gs) ?_ ?_ ?_ ?_
  ·exact ⟨none,[],rfl,qA2 hp5 _,qA1,A5 _,(fun _ z=>nomatch z),fun x hx=>by simp at hx⟩
  ·rintro j σ Hd hj ⟨v,gs,rfl,sm,_⟩;exact SqT.of (sm _ _ h4)
  ·refine fun j x σ Hd hx hI_6=>opq fun G_6 hG_6=>?_;obtain ⟨v,gs,rfl,sm,hpd,lg,ing,cpg⟩:=hI_6;obtain ⟨z,ez,rfl⟩:=qBI hx;refine hG_6 ?_;have hj:=(A1.mp ez).1;have zin2:=rz.in_ z (B4 ez);refine ⟨_,rfl,_,rfl,so,_,rfl,.inr (SqT.of (sm _ _ hs1)),rfl,qB8 st,_,rfl,?_⟩;rw [qC8];by_cases cz:z ∈ st
   ·rw [decide_eq_true cz];refine ⟨_,gs,rfl,sm,hpd,by omega,ing,fun x hx hn=>?_⟩
    rw [D5,ez,D4,B8,A6] at hx;rcases hx with hx | hx
    ·exact cpg x hx hn
    ·rw [hx] at hn;exact absurd cz hn
   ·rw [decide_eq_false cz];refine ⟨_,rfl,_,hpd,qAQ (by rw [A0];omega),_,gs++[z],rfl,qAG sm hp5,?_,by rw [A4,A9];omega,fun x hx=>?_,fun x hx hn=>?_⟩
    ·rw [qA1,B1];rfl
    ·rcases B8.mp hx with hx | hx
     ·exact ing x hx
     ·rw [A6.mp hx];omega
    ·rw [D5,ez,D4,B8,A6] at hx;rcases hx with hx | hx
     ·exact B8.mpr (.inl (cpg x hx hn))
     ·rw [hx];simp
  refine fun σ Hd hI_7=>opq fun G_7 hG_7=>?_;obtain ⟨v,gs,rfl,sm,hpd,lg,ing,cpg⟩:=hI_7;refine hG_7 ?_;rw [A0] at lg cpg;rw [qCJ rfl,<- en] at cpg;have np5:p5 ≠ d/\p5 ≠ c:=⟨(qA5 S4.dict hp5).symm,(qA5 S4.list hp5).symm⟩;exact ⟨y.toNat,by omega,y,p5,gs,t1+1,ms2,rfl,rfl,S4.same sm,by omega,by omega,K5.trans (.of_same sm),hpd,np5,by omega,ing,cpg,zin.1,by omega⟩
 ·have fe:fs=[]:=by
   cases fs with
   | nil=>rfl
   | cons x xs=>exact absurd rfl cn
  refine ⟨_,rfl,q wk t1 ms H3 S3 (by omega) (by omega) K3 w0 w1 fun y hy=>?_⟩
  rcases A41 (y ∈ st) with h | h
  ·exact h
  ·have:=cpl y hy h;rw [fe] at this;cases this
end
section
variable {P:Program} {w:World} {K:PySem.W.Frag} {mg:Str->Option Value} {base:Heap} {f:Addr} {fd:FuncData} {qC0 qE1 qD5:Addr} {qBM qHC qDH:FuncData}
theorem sc_Lwalk:FnScope ["_law_state","_law_net_here","_law_rooms","_law_many","_law_plan","_law_stand","_law_turn","_law_work","_law_move"] ["_law_state","_law_net_here","_law_rooms","_law_many"] (qAH qLG):=⟨rfl,rfl,rfl,by decide +kernel,rfl,by decide +kernel,by decide +kernel⟩
theorem ok_Lwalk (F:Fun K "_law_walk" "_law_walk" qLG f fd) (qAJ:Clb P w K mg base 1 qC0 qBM "_law_take" ["_law_state","_law_many"] qGD) (qE5:Clb P w K mg base 2 qE1 qHC "_law_next_work" ["_law_state","_law_net_here","_law_stand"] qPP) (qBY:Clb P w K mg base 1 qD5 qDH "_law_behind" ["_law_stand","_law_move"] qGS) (qAN:mg "range" = none) (qAU:mg "len" = none):FnOk P w K mg base CX0 3 f fd ["_law_state","_law_net_here","_law_rooms","_law_many"] qS5:=by
 refine F.ok sc_Lwalk (fun vs H Q E h=>?_) (fun cdv A outer s H vs Q E hr h=>?_)
 ·obtain ⟨d,c,t,ns,a,Af,Aa,many,rfl,_⟩:=h
  rfl
 obtain ⟨d,c,t,ns,a,Af,Aa,many,rfl,S,ht,hN,wf,n1,n60,r1,m0,m250,q⟩:=h;refine ⟨_,(qA4 (qAE (i:=4) sc_Lwalk.nd rfl (C5 rfl) (qBG qA3)) (qA4 (qAE (i:=5) sc_Lwalk.nd rfl (C5 rfl) (qBC qA3)) (qA4 (qBS C9 rfl (qC7 rfl qAN (qA0 (pv 3) qA3)) (qAA (i:=6) sc_Lwalk.nd rfl (C5 rfl)) (qA4 (qAE (i:=7) sc_Lwalk.nd rfl (C5 rfl) (qAR qE5 hr rfl (qA0 (pv 0) (qA0 (pv 1) (qA0 (pv 5) qA3))))) (qA4 (qAE (i:=8) sc_Lwalk.nd rfl (C5 rfl) (qG2 (qAI qEJ (pv 7) (pv 5) (by with_unfolding_all rfl)) (qBC (qA0 qB9 (qA0 (pv 7) qA3))) (qBC (qA0 qB9 (qA0 (pv 7) qA3))))) (qA4 (qBW (PW.pt (qKP (qAI qW3 (qA9 qAB rfl qAU qBA (qA0 (pv 5) qA3)) (pv 2) (qAY _)) (qHQ (qAI qE8 (qAV qB0 (pv 8) qA7 (fun _ _=>rfl)) qB9 (qAY _))))) (qA6 (qAE (i:=8) sc_Lwalk.nd rfl (C5 rfl) (qBC (qA0 qB9 (qA0 (qAV qB0 (pv 5) (qAR qAJ hr rfl (qA0 (pv 0) (qA0 (qA9 qAB rfl qAU qBA (qA0 (pv 5) qA3)) qA3))) (fun _ _=>rfl)) qA3))))) qAM) (qA4 (qCC (qGJ E2 E3 E4 qB6 (pv 4) (qA0 (pv 8) qA3))) (qA6 (qAE (i:=5) sc_Lwalk.nd rfl (C5 rfl) (qAR qBY hr rfl (qA0 (pv 5) (qA0 (pv 8) qA3)))))))))) (qA6 (qAL (qBC (qA0 (pv 4) (qA0 (pv 5) qA3)))))))),?_⟩
 try dsimp only [Cx.nox,Cx.wish,cxOf]
 have ht':t<=1000000000 - 200000:=ht;refine cut fun N1 hN1=>?_;refine ⟨(by show 0<=sizeLine;decide),fun l hl=>?_⟩
 refine hN1 _ _ (cut fun N2 hN2=>?_);refine ⟨(by show 0<=sizeLine;decide),fun e he=>?_⟩
 have nl:l ≠ d/\l ≠ c:=⟨(qA5 S.dict hl).symm,(qA5 S.list hl).symm⟩;have s1:=(qA2 hl (.lst [])).trans (qA2 he (.tup []));have gl0:=(qA2 he (.tup [])) _ _ (show (Ai H l (.lst [])) l=some (.lst (([]:List Addr).map V.ref)) from qA1);have ge0:(Ai (Ai H l (.lst [])) e (.tup [])) e=some (.tup (([]:List Int).map V.int)):=qA1;generalize Ai (Ai H l (.lst [])) e (.tup [])=H1 at s1 gl0 ge0 ⊢;refine hN2 _ _ (cut fun N3 hN3=>?_);refine ⟨_,rfl,many,rfl,by omega,by omega,qEL (lo:=0) (n:=many.toNat) (fun i σ Hc=>∃ (rs:List Addr) (ms:List Mv) (so:Addr) (st:List Int) (t1:Int) (ns:List Int) (v6 v7 v8:Option V),σ=[some (.ref d),some (.ref a),some (.int Aa),some (.int many),some (.ref l),some (.ref so),v6,v7,v8]/\StAt Hc d c t1 ns/\t<=t1/\t1<=t+70 * i/\Keep d c H Hc/\Hc l=some (.lst (rs.map V.ref))/\MovL Hc rs ms/\MvOk Af ms/\ms.length<=i/\Hc so=some (.tup (st.map V.int))/\Rise (Af.length:Int) st/\Run Af (Af.length:Int) [] ms st)
  ⟨[],[],e,[],t,ns,none,none,none,rfl,S.same s1,by omega,by omega,.of_same s1,gl0,.nil,(fun _ z=>nomatch z),A5 _,ge0,Rise.nil,.nil⟩ ?_ ?_⟩
 ·refine fun i σ Hc hi hI_1=>opq fun G_1 hG_1=>?_;obtain ⟨rs,ms,so,st,t1,ns1,v6,v7,v8,rfl,S1,g1,g2,K1,hl1,M1,ok1,lms,hs1,rst,R⟩:=hI_1;refine hG_1 ?_;have lst:=rst.len;refine nmD fun D1 d1 _=>?_;refine cut fun N4 hN4=>?_;refine ⟨_,rfl,_,rfl,_,rfl,d,c,t1,ns1,a,so,Af,st,rfl,S1,(by show t1<=1000000000 - 1000;omega),hN.keep S K1,wf,n1,by omega,hs1,fun wk t2 ns2 H2 S2 g3 g4 K12 w0 w1 hneed=>?_⟩
  have K2:=K1.trans K12;have hl2:=K12 _ _ hl1 nl.1 nl.2;have M2:=MovL.keep M1 S1 K12;have hs2:=K12 _ _ hs1 (S1.tup hs1).1 (S1.tup hs1).2;refine hN4 _ _ (cut fun N5 hN5=>?_)
  -- the move is known
  have rest:∀ (mv:Addr) (Ac:Str) (Hx:Hp),Same H2 Hx->Hx mv=some (.tup [.str Ac,.int wk])->(Ac = "do"\/Ac = "clear")->(Ac = "do"->wk ∉ st)->(Ac = "clear"->wk ∈ st)->N5 [some (.ref d),some (.ref a),some (.int Aa),some (.int many),some (.ref l),some (.ref so),some (.int (0+(i:Int))),some (.int wk),some (.ref mv)] Hx:=by
   intro mv Ac Hx sx gmv hword hd hc;refine hN5 _ _ (cut fun N6 hN6=>?_);have Sx:=S2.same sx;have Kx:=K2.trans (.of_same sx);have hlx:=sx _ _ hl2;have Mx:=M2.same sx;have hsx:=sx _ _ hs2;have fin:∀ (mv:Addr) (Ac:Str) (wk' t3:Int) (ns3:List Int) (Hy:Hp),StAt Hy d c t3 ns3->t1<=t3->t3<=t1+70->Keep d c H Hy->Hy l=some (.lst (rs.map V.ref))->MovL Hy rs ms->Hy so=some (.tup (st.map V.int))->Hy mv=some (.tup [.str Ac,.int wk'])->(Ac = "do"\/Ac = "clear")->0<=wk'->wk'<(Af.length:Int)->(Ac = "do"->wk' ∉ st/\∀ y ∈ nd Af wk',y ∈ st)->(Ac = "clear"->wk' ∈ st)->N6 [some (.ref d),some (.ref a),some (.int Aa),some (.int many),some (.ref l),some (.ref so),some (.int (0+(i:Int))),some (.int wk),some (.ref mv)] Hy:=by
    intro mv Ac wk' t3 ns3 Hy S3 g5 g6 K3 hl3 M3 hs3 gmv hword w0' w1' hd hc;refine hN6 _ _ (cut fun N7 hN7=>?_);have lrs:=B2 M3;refine ⟨_,rfl,.inl ⟨rfl,_,SqL.of hl3⟩,_,rfl,l,_,_,rfl,rfl,hl3,qAX (by rw [A0];omega),?_⟩
    rw [qBB];have S4:=S3.put' (o:=.lst ((rs++[mv]).map V.ref)) nl.1 nl.2;have K4:=qH4 (o:=.lst ((rs++[mv]).map V.ref)) K3 hl;have gl4:(Ai Hy l (.lst ((rs++[mv]).map V.ref))) l=some (.lst ((rs++[mv]).map V.ref)):=qA1;have M4:=MovL.put (o:=.lst ((rs++[mv]).map V.ref)) (M3.snoc gmv) hl3;have hs4:(Ai Hy l (.lst ((rs++[mv]).map V.ref))) so=some (.tup (st.map V.int)):=by rw [qA8 (qBT hs3 hl3 (by intro z;cases z))];exact hs3
    have gm4:(Ai Hy l (.lst ((rs++[mv]).map V.ref))) mv=some (.tup [.str Ac,.int wk']):=by rw [qA8 (qBT gmv hl3 (by intro z;cases z))];exact gmv
    generalize Ai Hy l (.lst ((rs++[mv]).map V.ref))=H4 at S4 K4 gl4 M4 hs4 gm4 ⊢;refine hN7 _ _ ?_;refine ⟨_,rfl,_,rfl,so,mv,st,Ac,wk',rfl,hs4,by omega,gm4,hword,fun r st' H5 sm5 gr bh=>?_⟩
    exact d1 _ _ ⟨rs++[mv],ms++[(Ac,wk')],r,st',t3,ns3,_,_,_,rfl,S4.same sm5,by omega,by omega,K4.trans (.of_same sm5),sm5 _ _ gl4,M4.same sm5,ok1.app (MvOk.one hword w0' w1'),by rw [A4,A9];omega,gr,qHK rst hword w0' w1' (fun e=>(hd e).1) bh,qLM R rst hword w0' w1' hd hc bh⟩
   have asis:N6 [some (.ref d),some (.ref a),some (.int Aa),some (.int many),some (.ref l),some (.ref so),some (.int (0+(i:Int))),some (.int wk),some (.ref mv)] Hx:=fin mv Ac wk t2 ns2 Hx Sx (by omega) (by omega) Kx hlx Mx hsx gmv hword w0 w1 (fun e=>⟨hd e,hneed⟩) hc
   refine ⟨_,rfl,so,_,rfl,.inr (SqT.of hsx),_,rfl,_,_,rfl,rfl,_,rfl,?_⟩;refine ite2 (fun cg=>?_) (fun cg=>asis);have cg':Aa<=(((st.map V.int).length:Nat):Int):=of_decide_eq_true cg;rw [A0] at cg';refine ⟨_,rfl,mv,_,_,_,rfl,rfl,SqT.of gmv,rfl,rfl,_,rfl,?_⟩;refine ite2 (fun ck=>?_) (fun ck=>asis);refine ⟨_,rfl,_,rfl,_,rfl,so,_,rfl,.inr (SqT.of hsx),d,c,t2,ns2,_,rfl,Sx,(by show t2<=1000000000;omega),by rw [A0];omega,by rw [A0];omega,fun j ns3 H3 j0 j1 S3 K3=>?_⟩
   rw [A0] at j1;have hj:j.toNat<st.length:=by omega
   have ey:st[j.toNat]?=some st[j.toNat]:=A3 hj;generalize st[j.toNat]=y at ey;have yin:=B4 ey;have yb:=rst.in_ y yin;have hs3:=K3 _ _ hsx (Sx.tup hsx).1 (Sx.tup hsx).2;refine ⟨so,_,_,_,rfl,rfl,SqT.of hs3,qCG j0 (by rw [B5,ey];rfl),(by show 2<=sizeLine;decide),fun mv2 hmv2=>?_⟩
   have sm2:=qA2 hmv2 (.tup [.str "clear",.int y]);exact fin mv2 "clear" y (t2+1) ns3 _ (S3.same sm2) (by omega) (by omega) ((Kx.trans K3).trans (.of_same sm2)) (sm2 _ _ (K3 _ _ hlx nl.1 nl.2)) ((MovL.keep Mx Sx K3).same sm2) (sm2 _ _ hs3) qA1 (.inr rfl) yb.1 yb.2 (fun z=>absurd z qAC) (fun _=>yin)
  refine ⟨_,rfl,_,rfl,so,_,rfl,.inr (SqT.of hs2),rfl,qB8 st,_,rfl,?_⟩;rw [qC8];by_cases cw:wk ∈ st
  ·rw [decide_eq_true cw];refine ⟨_,rfl,(by show 2<=sizeLine;decide),fun mv hmv=>?_⟩
   exact rest mv "clear" _ (qA2 hmv _) qA1 (.inr rfl) (fun z=>absurd z qAC) (fun _=>cw)
  ·rw [decide_eq_false cw];refine ⟨_,rfl,(by show 2<=sizeLine;decide),fun mv hmv=>?_⟩
   exact rest mv "do" _ (qA2 hmv _) qA1 (.inl rfl) (fun _=>cw) (fun z=>absurd z.symm qAC)
 ·refine fun σ Hc hI_2=>opq fun G_2 hG_2=>?_;obtain ⟨rs,ms,so,st,t1,ns1,v6,v7,v8,rfl,S1,g1,g2,K1,hl1,M1,ok1,lms,hs1,rst,R⟩:=hI_2;refine hG_2 ?_;refine hN3 _ _ ?_;refine ⟨_,rfl,_,rfl,(by show 2<=sizeLine;decide),fun T hT=>?_⟩
  have sT:=qA2 hT (.tup [.ref l,.ref so]);exact q T l so ms st t1 ns1 _ (S1.same sT) g1 (by omega) (K1.trans (.of_same sT)) qA1 hl ⟨rs,sT _ _ hl1,M1.same sT⟩ ok1 (by omega) (sT _ _ hs1) rst R
end
section
variable {P:Program} {w:World} {K:PySem.W.Frag} {mg:Str->Option Value} {base:Heap} {f:Addr} {fd:FuncData} {qC0 qQF qIY:Addr} {qBM qU3 qNW:FuncData}
theorem sc_Lcase:FnScope ["_law_state","_law_many","_law_net_here"] ["_law_state"] (qAH qLL):=⟨rfl,rfl,rfl,by decide +kernel,rfl,by decide +kernel,by decide +kernel⟩
theorem ok_Lcase (F:Fun K "_law_case" "_law_case" qLL f fd)
  (qAJ:Clb P w K mg base 1 qC0 qBM "_law_take" ["_law_state","_law_many"] qGD)
  (qQP:Clb P w K mg base 3 qQF qU3 "_law_net" ["_law_state","_law_many"] qaR)
  (qJ7:Clb P w K mg base 2 qIY qNW "_law_asked" ["_law_state","_law_net_here"] qPT):FnOk P w K mg base CX0 4 f fd ["_law_state"] qSC:=by
 refine F.ok sc_Lcase (fun vs H Q E h=>?_) (fun cdv A outer s H vs Q E hr h=>?_)
 ·obtain ⟨d,c,t,ns,rfl,_⟩:=h
  rfl
 obtain ⟨d,c,t,ns,rfl,S,ht,q⟩:=h;have qd5:Room 3 _:=hr;refine ⟨_,(qA4 (qAE (i:=1) sc_Lcase.nd rfl (C5 rfl) (qB5 qDK qA7 (qAR qAJ hr rfl (qA0 (pv 0) (qA0 qA7 qA3))))) (qA4 (qSM (qBW (qAI qE8 (qAR qAJ hr rfl (qA0 (pv 0) (qA0 qA7 qA3))) qA7 (qAY _)) (qA6 (qAE (i:=1) sc_Lcase.nd rfl (C5 rfl) (qB5 qDK qA7 (qAR qAJ hr rfl (qA0 (pv 0) (qA0 qA7 qA3)))))) qAM)) (qA4 (qAE (i:=2) sc_Lcase.nd rfl (C5 rfl) (qAR qQP hr rfl (qA0 (pv 0) (qA0 (pv 1) qA3)))) (qA6 (qAL (qBC (qA0 (pv 2) (qA0 (qAR qJ7 hr rfl (qA0 (pv 0) (qA0 (pv 2) qA3))) qA3)))))))),?_⟩
 try dsimp only [Cx.nox,Cx.wish,cxOf]
 have ht':t<=1000000000 - 200000:=ht;refine ⟨_,rfl,d,c,t,ns,8,rfl,S,(by show t<=1000000000;omega),by decide,by decide,fun k1 ns1 H1 a0 a1 S1 K1=>⟨_,_,rfl,rfl,?_⟩⟩
 refine ⟨fun σ Hc=>∃ (m t2:Int) (ms:List Int),σ=[some (.ref d),some (.int m),none]/\StAt Hc d c t2 ms/\t<=t2/\t2<=t+3/\Keep d c H Hc/\1<=m/\m<=20,?_,?_⟩
 ·refine ⟨_,rfl,d,c,t+1,ns1,8,rfl,S1,(by show t+1<=1000000000;omega),by decide,by decide,fun k2 ns2 H2 b0 b1 S2 K2=>⟨rfl,_,rfl,?_⟩⟩
  refine ite2 (fun _=>?_) (fun _=>?_)
  ·refine ⟨_,rfl,d,c,t+1+1,ns2,8,rfl,S2,(by show t+1+1<=1000000000;omega),by decide,by decide,fun k3 ns3 H3 c0 c1 S3 K3=>⟨_,_,rfl,rfl,?_⟩⟩
   exact ⟨9+k3,t+1+1+1,ns3,rfl,S3,by omega,by omega,(K1.trans K2).trans K3,by omega,by omega⟩
  ·exact ⟨1+k1,t+1+1,ns2,rfl,S2,by omega,by omega,K1.trans K2,by omega,by omega⟩
 refine fun σ Hc hI_1=>opq fun G_1 hG_1=>?_;obtain ⟨m,t2,ms,rfl,S2,g1,g2,K2,m1,m30⟩:=hI_1;refine hG_1 ?_;refine ⟨_,rfl,_,rfl,d,c,t2,ms,m,rfl,S2,(by show t2<=1000000000 - 10000;omega),m1,by omega,fun a Af t3 ms3 H3 S3 g3 g4 K3 hN wf nk=>?_⟩
 refine ⟨_,rfl,_,rfl,_,rfl,d,c,t3,ms3,a,Af,rfl,S3,(by show t3<=1000000000 - 100;omega),hN,wf,by omega,by omega,fun r ws t4 ms4 H4 S4 g5 g6 K4 gr rW l1 l4=>?_⟩
 refine ⟨(by show 2<=sizeLine;decide),fun T hT=>?_⟩
 have sT:=qA2 hT (.tup [.ref a,.ref r]);exact q T a r Af ws t4 ms4 _ (S4.same sT) (by omega) (by omega) (((K2.trans K3).trans K4).trans (.of_same sT)) qA1 ((hN.keep S3 K4).same sT) wf (by omega) (by omega) (sT _ _ gr) rW l1 l4
end
section
variable {P:Program} {w:World} {K:PySem.W.Frag} {mg:Str->Option Value} {base:Heap} {f:Addr} {fd:FuncData}
theorem qSH:FnScope ["_law_net_here","_law_asked_here","_law_wanted","_law_stand"] ["_law_net_here","_law_asked_here","_law_wanted","_law_stand"] (qAH qIO):=⟨rfl,rfl,rfl,by decide +kernel,rfl,by decide +kernel,by decide +kernel⟩
theorem ok_Lspare (F:Fun K "_law_spare" "_law_spare" qIO f fd) (qQQ:mg "any" = none):FnOk P w K mg base CX0 1 f fd ["_law_net_here","_law_asked_here","_law_wanted","_law_stand"] qS6:=by
 refine F.ok qSH (fun vs H Q E h=>?_) (fun cdv A outer s H vs Q E hr h=>?_)
 ·obtain ⟨a,t,lw,so,Af,Ad,ws,st,rfl,_⟩:=h
  rfl
 obtain ⟨a,t,lw,so,Af,Ad,ws,st,rfl,hN,wf,n60,hT,hW,wb,lw60,hS,ls60,q⟩:=h;refine ⟨_,(qA6 (qAL (qcV rfl (los (own:=["_law_work"]) (fv:=[1,2,0]) (by kernel_rfl)) (qFG (pv 3)) (fun z1=>qAA (i:=0) (qCA (by kernel_rfl)) rfl (X7 rfl)) (fun z1=>(qD7 (PW.pt (qKP (qAI (qEI (K:=K) rfl) (pv 0) (pv 1) (by with_unfolding_all rfl)) (qHQ (qGE (qD2 (qA9 (qUP (K:=K) rfl rfl) rfl qQQ qc6 (qA0 (qF8 (X:=qEK _ _ _ _ z1) rfl (lcs (own:=["_law_other"]) (fv:=[0,3]) (by kernel_rfl)) (qVW (K:=K) rfl (pv 2)) (fun z2=>qAA (i:=0) (qCA (by kernel_rfl)) rfl (C5 rfl)) (fun z2=>qC6) (fun z2=>(qDJ (qQ1 (K:=K) rfl) (pv 1) (qAV (qFJ (K:=K) rfl) (pv 2) (pv 0) (fun _ _=>rfl)) (by with_unfolding_all rfl)))) qA3))))))))) (fun z1=>(pv 0))))),?_⟩
 try dsimp only [Cx.nox,Cx.wish,cxOf]
 refine ⟨_,rfl,so,rfl,⟨_,SqT.of hS⟩,fun p hp=>?_⟩;refine qH2 (p:=p) (a:=so) (xs:=st.map V.int) (fun i σ Hc=>∃ (v:Option V) (fs:List Int),σ=[v,some (.ref t),some (.ref lw),some (.ref a)]/\Same H Hc/\Hc p=some (.lst (fs.map V.int))/\(∀ x ∈ fs,x ∈ st/\x ∉ Ad/\∀ v ∈ ws,x ∉ nd Af v)/\fs.length<=i) ?_ ?_ ?_ ?_
 ·exact ⟨none,[],rfl,qA2 hp _,qA1,(fun _ z=>nomatch z),A5 _⟩
 ·rintro i σ Hc hi ⟨v,fs,rfl,sm,_⟩;exact SqT.of (sm _ _ hS)
 ·refine fun i x σ Hc hx hI_2=>opq fun G_2 hG_2=>?_;obtain ⟨v,fs,rfl,sm,hpc,inf,lf⟩:=hI_2;obtain ⟨z,ez,rfl⟩:=qBI hx;refine hG_2 ?_;have hi:=(A1.mp ez).1;refine ⟨_,rfl,_,rfl,t,_,rfl,.inr (SqT.of (sm _ _ hT)),rfl,qB8 Ad,_,rfl,?_⟩;rw [qC8];by_cases c1:z ∈ Ad
  ·rw [decide_eq_true c1];exact ⟨_,fs,rfl,sm,hpc,inf,by omega⟩
  ·rw [decide_eq_false c1];refine ⟨_,rfl,lw,rfl,⟨_,SqL.of (sm _ _ hW)⟩,fun p2 hp2=>?_⟩;refine qHT (p:=p2) (a:=lw) (xs:=ws.map V.int) (fun j σ Hd=>∃ (v:Option V),σ=[v,some (.int z),some (.ref a)]/\Same Hc Hd/\Hd p2=some (.lst (((ws.take j).map fun v=>decide (z ∈ nd Af v)).map V.bl))) ?_ ?_ ?_ ?_
   ·exact ⟨none,rfl,qA2 hp2 _,qA1⟩
   ·rintro j σ Hd hj ⟨v,rfl,sd,_⟩;exact SqL.of (sd _ _ (sm _ _ hW))
   ·refine fun j x σ Hd hx hI_4=>opq fun G_4 hG_4=>?_;obtain ⟨v,rfl,sd,hpd⟩:=hI_4;obtain ⟨u,eu,rfl⟩:=qBI hx;refine hG_4 ?_;have hj:=(A1.mp eu).1;have ub:=wb u (B4 eu);have hu':u.toNat<Af.length:=by omega
    obtain ⟨rs',r,h1,l1,h2,h3⟩:=hN.get (A3 hu');have en:=qD3 (A3 hu');generalize Af[u.toNat]=ns at h3 en;have smd:=sm.trans sd;refine ⟨_,rfl,_,rfl,_,rfl,a,_,_,_,rfl,rfl,SqT.of (smd _ _ h1),qCG ub.1 h2,r,_,rfl,.inr (SqT.of (smd _ _ h3)),rfl,qB8 ns,_,hpd,qAQ (by rw [A0,A0,C1];omega),_,rfl,qAG sd hp2,?_⟩
    rw [qA1];refine congrArg (fun l=>some (HO.lst l)) ?_;rw [D5,eu,D4,B1,B1];show _++[V.bl (inV (.int z) (ns.map V.int))]=_;rw [qC8,<- en]
    rfl
   refine fun σ Hd hI_5=>opq fun G_5 hG_5=>?_;obtain ⟨v,rfl,sd,hpd⟩:=hI_5;refine hG_5 ?_;rw [A0,G5] at hpd;refine ⟨p2,_,rfl,SqL.of hpd,?_⟩;have hpE:=sd _ _ hpc;refine ⟨_,rfl,?_⟩;cases hany:((ws.map fun v=>decide (z ∈ nd Af v)).any id) with
   | true=>exact ⟨_,fs,rfl,sm.trans sd,hpE,inf,by omega⟩
   | false=>
    refine ⟨_,rfl,_,hpE,qAQ (by rw [A0];omega),_,fs++[z],rfl,qAG (sm.trans sd) hp,by rw [qA1,B1];rfl,fun x hx=>?_,by rw [A4,A9];omega⟩
    rcases B8.mp hx with h | h
    ·exact inf x h
    ·rw [A6.mp h];refine ⟨B4 ez,c1,fun v hv hz=>?_⟩;have:((ws.map fun v=>decide (z ∈ nd Af v)).any id)=true:=u8.mpr ⟨true,F4.mpr ⟨v,hv,decide_eq_true hz⟩,rfl⟩;rw [hany] at this;cases this
 ·refine fun σ Hc hI_6=>opq fun G_6 hG_6=>?_;obtain ⟨v,fs,rfl,sm,hpc,inf,lf⟩:=hI_6;refine hG_6 ?_;rw [A0] at lf;exact q p fs Hc sm hp hpc inf lf
end
section
variable {P:Program} {w:World} {K:PySem.W.Frag} {mg:Str->Option Value} {base:Heap} {f:Addr} {fd:FuncData} {qC0 qM9 qHE qD5 qIV:Addr} {qBM qQA qL1 qDH qNT:FuncData}
theorem sc_Ldoing:FnScope ["_law_state","_law_net_here","_law_asked_here","_law_many","_law_plan","_law_stand","_law_needed_here","_law_place","_law_work","_law_spare_here"] ["_law_state","_law_net_here","_law_asked_here","_law_many"] (qAH qIP):=⟨rfl,rfl,rfl,by decide +kernel,rfl,by decide +kernel,by decide +kernel⟩
theorem ok_Ldoing (F:Fun K "_law_doing" "_law_doing" qIP f fd) (qAJ:Clb P w K mg base 1 qC0 qBM "_law_take" ["_law_state","_law_many"] qGD) (qMU:Clb P w K mg base 3 qM9 qQA "_law_walk" ["_law_state","_law_net_here","_law_rooms","_law_many"] qS5) (qHM:Clb P w K mg base 1 qHE qL1 "_law_needed" ["_law_net_here","_law_asked_here"] qPQ) (qBY:Clb P w K mg base 1 qD5 qDH "_law_behind" ["_law_stand","_law_move"] qGS) (qJ4:Clb P w K mg base 1 qIV qNT "_law_spare" ["_law_net_here","_law_asked_here","_law_wanted","_law_stand"] qS6) (qAU:mg "len" = none) (qAD:mg "enumerate" = none):FnOk P w K mg base CX0 4 f fd ["_law_state","_law_net_here","_law_asked_here","_law_many"] qSA:=by
 refine F.ok sc_Ldoing (fun vs H Q E h=>?_) (fun cdv A outer s H vs Q E hr h=>?_)
 ·obtain ⟨d,c,t,ns,a,ta,Af,Ad,many,rfl,_⟩:=h
  rfl
 obtain ⟨d,c,t,ns,a,ta,Af,Ad,many,rfl,S,ht,hN,wf,n1,n60,⟨hTa,rA⟩,m0,m250,q⟩:=h;have hu0:=hr.units0;have ht':t<=1000000000 - 400000:=ht;refine ⟨_,(qA4 (qI7 (qAR qMU hr rfl (qA0 (pv 0) (qA0 (pv 1) (qA0 (qA9 qAB rfl qAU qBA (qA0 (pv 1) qA3)) (qA0 (pv 3) qA3))))) (qDU rfl (qAK (qAA (i:=4) sc_Ldoing.nd rfl (C5 rfl)) (qAK (qAA (i:=5) sc_Ldoing.nd rfl (C5 rfl)) qC4)))) (qA4 (qAE (i:=6) sc_Ldoing.nd rfl (C5 rfl) (qAR qHM hr rfl (qA0 (pv 1) (qA0 (pv 2) qA3)))) (qA4 (qBS C9 rfl (qE6 rfl qAD qBD (qA0 (pv 6) qA3)) (qDU rfl (qAK (qAA (i:=7) sc_Ldoing.nd rfl (C5 rfl)) (qAK (qAA (i:=8) sc_Ldoing.nd rfl (C5 rfl)) qC4))) (qA4 (qBW (qAI qDV (pv 8) (pv 5) (by with_unfolding_all rfl)) (qA4 (qCC (qGJ E2 E3 E4 qB6 (pv 4) (qA0 (qBC (qA0 qB9 (qA0 (pv 8) qA3))) qA3))) (qA6 (qAE (i:=5) sc_Ldoing.nd rfl (C5 rfl) (qAR qBY hr rfl (qA0 (pv 5) (qA0 (qAV qC5 (pv 4) (qKE qGC qA7) (fun _ _=>rfl)) qA3)))))) qAM) (qA4 (qAE (i:=9) sc_Ldoing.nd rfl (C5 rfl) (qAR qJ4 hr rfl (qA0 (pv 1) (qA0 (pv 2) (qA0 (qG1 qJG (pv 6) (qGI (qB5 qDK (pv 7) qA7)) qJK) (qA0 (pv 5) qA3)))))) (qA6 (qBW (PW.pt (qKP (qAI (qJO hu0) (pv 9) (qBG qA3) (qAY _)) (qHQ (qAI qE8 (qAR qAJ hr rfl (qA0 (pv 0) (qA0 qA7 qA3))) qA7 (qAY _))))) (qA4 (qCC (qGJ E2 E3 E4 qB6 (pv 4) (qA0 (qBC (qA0 qB9 (qA0 (qAV qC5 (pv 9) (qAR qAJ hr rfl (qA0 (pv 0) (qA0 (qA9 qAB rfl qAU qBA (qA0 (pv 9) qA3)) qA3))) (fun _ _=>rfl)) qA3))) qA3))) (qA6 (qAE (i:=5) sc_Ldoing.nd rfl (C5 rfl) (qAR qBY hr rfl (qA0 (pv 5) (qA0 (qAV qC5 (pv 4) (qKE qGC qA7) (fun _ _=>rfl)) qA3)))))) qAM))))) (qA6 (qAL (pv 4)))))),?_⟩
 try dsimp only [Cx.nox,Cx.wish,cxOf]
 obtain ⟨rsN,gN,NN⟩:=id hN;have lrv:(((rsN.map V.ref).length:Nat):Int)=(Af.length:Int):=by rw [A0,B2 NN]
 refine cut fun N1 hN1=>?_;refine ⟨_,rfl,_,rfl,_,rfl,a,_,rfl,.inr (SqT.of gN),_,rfl,d,c,t,ns,a,Af,(Af.length:Int),many,by rw [lrv];rfl,S,(by show t<=1000000000 - 200000;omega),hN,wf,n1,n60,by omega,m0,m250,fun T l so ms st t1 ns1 H1 S1 g1 g2 K1 gT fl PL mvl lml hso rst R=>?_⟩
 have nl:l ≠ d/\l ≠ c:=⟨(qA5 S.dict fl).symm,(qA5 S.list fl).symm⟩;refine ⟨T,_,rfl,SqT.of gT,rfl,_,_,rfl,_,_,rfl,rfl,?_⟩;have hN1':=hN.keep S K1;have hTa1:=K1 _ _ hTa (S.tup hTa).1 (S.tup hTa).2;refine hN1 _ _ (cut fun N2 hN2=>?_);refine ⟨_,rfl,_,rfl,a,ta,Af,Ad,rfl,hN1',wf,by omega,⟨hTa1,rA⟩,fun ln zs H2 s2 f2 gln ND=>?_⟩
 have lz:=ND.1.len;have S2:=S1.same s2;have K2:Keep d c H H2:=K1.trans (.of_same s2);have nln:ln ≠ d/\ln ≠ c:=⟨(qA5 S1.dict f2).symm,(qA5 S1.list f2).symm⟩;obtain ⟨rs0,gl0,M0⟩:=PL.same s2;have nll:ln ≠ l:=fun z=>by rw [z] at f2;obtain ⟨rs',g',_⟩:=id PL;rw [f2] at g';cases g'
 refine hN2 _ _ (cut fun N3 hN3=>?_);refine ⟨_,rfl,ln,rfl,⟨_,SqL.of gln⟩,qG5 (a:=ln) (xs:=zs.map V.int) (fun i σ Hc=>∃ (rs:List Addr) (ms:List Mv) (so:Addr) (st:List Int) (t3:Int) (ns:List Int) (v7 v8 v9:Option V),σ=[some (.ref d),some (.ref a),some (.ref ta),some (.int many),some (.ref l),some (.ref so),some (.ref ln),v7,v8,v9]/\StAt Hc d c t3 ns/\t1<=t3/\t3<=t1+2 * i/\Keep d c H Hc/\Hc ln=some (.lst (zs.map V.int))/\Hc l=some (.lst (rs.map V.ref))/\MovL Hc rs ms/\MvOk Af ms/\(ms.length:Int)<=many+2 * i/\Hc so=some (.tup (st.map V.int))/\Rise (Af.length:Int) st/\Run Af (Af.length:Int) [] ms st/\∀ x ∈ zs.take i,(x ∈ Ad\/qLT Af zs i x)->x ∈ st)
  ⟨rs0,ms,so,st,t1,ns1,none,none,none,rfl,S2,by omega,by omega,K2,gln,gl0,M0,mvl,by omega,s2 _ _ hso,rst,R,fun x hx=>by simp at hx⟩ (fun i σ Hc _ hP=>by obtain ⟨_,_,_,_,_,_,_,_,_,_,_,_,_,_,g,_⟩:=hP;exact SqL.of g) ?_ ?_⟩
 ·refine fun i x σ Hc T2 hx hI_1 hT2=>opq fun G_1 hG_1=>?_;obtain ⟨rs,ms,so,st,t3,ns3,v7,v8,v9,rfl,S3,g3,g4,K3,gln3,gl3,M3,ok3,lm3,hs3,rst3,R3,inv⟩:=hI_1;obtain ⟨w0,ew,rfl⟩:=qBI hx;refine hG_1 ?_;have hi:=(A1.mp ew).1;have wb:=ND.1.in_ w0 (B4 ew);have lst:=rst3.len;have sT2:=qA2 hT2 (.tup [.int (i:Int),.int w0]);have gT2:SqT K (Ai Hc T2 (.tup [.int (i:Int),.int w0])) T2 [.int (i:Int),.int w0]:=SqT.of qA1;have S4:=S3.same sT2;have K4:=K3.trans (.of_same sT2);have gln4:=sT2 _ _ gln3;have gl4:=sT2 _ _ gl3;have M4:=M3.same sT2;have hs4:=sT2 _ _ hs3;generalize Ai Hc T2 (.tup [.int (i:Int),.int w0])=H4 at gT2 S4 K4 gln4 gl4 M4 hs4 ⊢;refine ⟨T2,_,rfl,gT2,rfl,_,_,rfl,_,_,rfl,rfl,?_⟩;have hneed:∀ y ∈ nd Af w0,y ∈ st:=fun y hy=>inv y (qR3 wf ND ew hy).1 (.inr ((qKX ew).mpr (.inl hy)));refine nmT fun D1 d1 _=>?_;refine cut fun N4 hN4=>?_
  -- behind the do
  have rest:∀ (rs:List Addr) (ms:List Mv) (so:Addr) (st:List Int) (Hx:Hp),StAt Hx d c t3 ns3->Keep d c H Hx->Hx ln=some (.lst (zs.map V.int))->Hx l=some (.lst (rs.map V.ref))->MovL Hx rs ms->MvOk Af ms->(ms.length:Int)<=many+2 * i+1->Hx so=some (.tup (st.map V.int))->Rise (Af.length:Int) st->Run Af (Af.length:Int) [] ms st->(∀ x ∈ zs.take (i+1),(x ∈ Ad\/qLT Af zs (i+1) x)->x ∈ st)->N4 [some (.ref d),some (.ref a),some (.ref ta),some (.int many),some (.ref l),some (.ref so),some (.ref ln),some (.int (i:Int)),some (.int w0),v9] Hx:=by
   intro rs ms so st Hx Sx Kx glnx glx Mx okx lmx hsx rstx Rx invx;have lstx:=rstx.len;refine hN4 _ _ (cut fun N5 hN5=>?_);refine ⟨_,rfl,_,rfl,_,rfl,_,rfl,_,_,rfl,rfl,_,rfl,ln,_,rfl,SqL.of glnx,fun p hp=>?_⟩;have ecut:cutV (zs.map V.int) (some ((i:Int)+1)) none=(zs.drop (i+1)).map V.int:=by
    rw [qIZ,show ((i:Int)+1)=((i+1:Nat):Int) by omega,qNZ _ _ (by omega)]
   rw [ecut];have sp:=qA2 hp (.lst ((zs.drop (i+1)).map V.int));have gp:(Ai Hx p (.lst ((zs.drop (i+1)).map V.int))) p=some (.lst ((zs.drop (i+1)).map V.int)):=qA1;generalize Ai Hx p (.lst ((zs.drop (i+1)).map V.int))=Hy at sp gp ⊢;have Ky:=Kx.trans (.of_same sp);refine ⟨_,rfl,a,ta,p,so,Af,Ad,zs.drop (i+1),st,rfl,hN.keep S Ky,wf,n60,Ky _ _ hTa (S.tup hTa).1 (S.tup hTa).2,gp,(fun x hx=>ND.1.in_ x (Q8 hx)),by rw [F5];omega,sp _ _ hsx,by omega,fun lf fs H6 s6 f6 glf inf lf6=>?_⟩
   have sx6:=sp.trans s6;have S6:=Sx.same sx6;have K6:=Kx.trans (.of_same sx6);have gln6:=sx6 _ _ glnx;have gl6:=sx6 _ _ glx;have M6:=Mx.same sx6;have hs6:=sx6 _ _ hsx;refine hN5 _ _ ?_;refine ⟨_,rfl,(by show 0<=sizeLine;decide),fun e3 he3=>?_⟩
   have se3:=qA2 he3 (.lst []);refine ⟨lf,e3,_,rfl,rfl,SqL.of (se3 _ _ glf),SqL.of qA1,_,rfl,?_⟩;have S7:=S6.same se3;have K7:=K6.trans (.of_same se3);have gln7:=se3 _ _ gln6;have gl7:=se3 _ _ gl6;have M7:=M6.same se3;have hs7:=se3 _ _ hs6;have glf7:=se3 _ _ glf;generalize Ai H6 e3 (.lst [])=H7 at S7 K7 gln7 gl7 M7 hs7 glf7 ⊢;have skip:∀ (t':Int) (ns':List Int) (Hz:Hp),StAt Hz d c t' ns'->t3<=t'->t'<=t3+1->Keep d c H7 Hz->D1.nx [some (V.ref d),some (.ref a),some (.ref ta),some (.int many),some (.ref l),some (.ref so),some (.ref ln),some (.int (i:Int)),some (.int w0),some (.ref lf)] Hz:=by
    intro t' ns' Hz Sz a1 a2 Kz;exact d1 _ _ ⟨rs,ms,so,st,t',ns',_,_,_,rfl,Sz,by omega,by omega,K7.trans Kz,Kz _ _ gln7 nln.1 nln.2,Kz _ _ gl7 nl.1 nl.2,MovL.keep M7 S7 Kz,okx,by omega,Kz _ _ hs7 (S7.tup hs7).1 (S7.tup hs7).2,rstx,Rx,invx⟩
   cases fs with
   | nil=>exact skip t3 ns3 H7 S7 (by omega) (by omega) Keep.refl
   | cons f0 fs0=>
    generalize hfs:f0::fs0=fs at *;have lfs:1<=fs.length:=by rw [<- hfs];simp
    have hne:(!(fs.map V.int).isEmpty)=true:=by rw [<- hfs];rfl
    rw [hne];refine ⟨_,rfl,d,c,t3,ns3,3,rfl,S7,(by show t3<=1000000000;omega),by decide,by decide,fun x8 ns8 H8 x80 x81 S8 K8=>⟨rfl,_,rfl,?_⟩⟩
    refine ite2 (fun _=>?_) (fun _=>skip (t3+1) ns8 H8 S8 (by omega) (by omega) K8)
    have nlf:lf ≠ d/\lf ≠ c:=⟨(qA5 (Sx.same sp).dict f6).symm,(qA5 (Sx.same sp).list f6).symm⟩;have glf8:=K8 _ _ glf7 nlf.1 nlf.2;have gl8:=K8 _ _ gl7 nl.1 nl.2;refine cut fun N6 hN6=>?_;refine ⟨_,rfl,.inl ⟨rfl,_,SqL.of gl8⟩,_,rfl,_,rfl,_,rfl,lf,_,rfl,.inl (SqL.of glf8),d,c,t3+1,ns8,_,rfl,S8,(by show t3+1<=1000000000;omega),by rw [A0];omega,by rw [A0];omega,fun j ns9 H9 j0 j1 S9 K9=>?_⟩
    rw [A0] at j1;have hj:j.toNat<fs.length:=by omega
    have ey:fs[j.toNat]?=some fs[j.toNat]:=A3 hj;generalize fs[j.toNat]=y at ey;obtain ⟨yin,yas,ynd⟩:=inf y (B4 ey);have yb:=rstx.in_ y yin;have K79:=K8.trans K9;have gl9:=K79 _ _ gl7 nl.1 nl.2;have gln9:=K79 _ _ gln7 nln.1 nln.2;have M9:=MovL.keep M7 S7 K79;have hs9:=K79 _ _ hs7 (S7.tup hs7).1 (S7.tup hs7).2;refine ⟨lf,_,_,_,rfl,rfl,SqL.of (K9 _ _ glf8 nlf.1 nlf.2),qCG j0 (by rw [B5,ey];rfl),(by show 2<=sizeLine;decide),fun T3 hT3=>?_⟩
    have sT3:=qA2 hT3 (.tup [.str "clear",.int y]);have gT3:(Ai H9 T3 (.tup [.str "clear",.int y])) T3=some (.tup [.str "clear",.int y]):=qA1;have S10:=S9.same sT3;have K10:=(K7.trans K79).trans (.of_same sT3);have gl10:=sT3 _ _ gl9;have gln10:=sT3 _ _ gln9;have M10:=M9.same sT3;have hs10:=sT3 _ _ hs9;generalize Ai H9 T3 (.tup [.str "clear",.int y])=H10 at gT3 S10 K10 gl10 gln10 M10 hs10 ⊢;have lrs:=B2 M10;refine ⟨l,_,_,rfl,rfl,gl10,qAX (by rw [A0];omega),?_⟩
    rw [qBB];have S11:=S10.put' (o:=.lst ((rs++[T3]).map V.ref)) nl.1 nl.2;have K11:=qH4 (o:=.lst ((rs++[T3]).map V.ref)) K10 fl;have gl11:(Ai H10 l (.lst ((rs++[T3]).map V.ref))) l=some (.lst ((rs++[T3]).map V.ref)):=qA1;have gln11:(Ai H10 l (.lst ((rs++[T3]).map V.ref))) ln=some (.lst (zs.map V.int)):=by rw [qA8 nll];exact gln10
    have M11:=MovL.put (o:=.lst ((rs++[T3]).map V.ref)) (M10.snoc gT3) gl10;have hs11:(Ai H10 l (.lst ((rs++[T3]).map V.ref))) so=some (.tup (st.map V.int)):=by rw [qA8 (qBT hs10 gl10 (by intro z;cases z))];exact hs10
    have gm11:(Ai H10 l (.lst ((rs++[T3]).map V.ref))) T3=some (.tup [.str "clear",.int y]):=by rw [qA8 (qBT gT3 gl10 (by intro z;cases z))];exact gT3
    generalize Ai H10 l (.lst ((rs++[T3]).map V.ref))=H11 at S11 K11 gl11 gln11 M11 hs11 gm11 ⊢;refine hN6 _ _ ?_;refine ⟨_,rfl,_,rfl,_,rfl,l,_,_,_,rfl,rfl,SqL.of gl11,by rw [B1];exact qJ1 _ _,?_⟩
    refine ⟨so,T3,st,"clear",y,rfl,hs11,by omega,gm11,.inr rfl,fun r st' H12 s12 gr bh=>?_⟩
    refine d1 _ _ ⟨rs++[T3],ms++[(("clear",y):Mv)],r,st',t3+1+1,ns9,_,_,_,rfl,S11.same s12,by omega,by omega,K11.trans (.of_same s12),s12 _ _ gln11,s12 _ _ gl11,M11.same s12,okx.app (MvOk.one (.inr rfl) yb.1 yb.2),by rw [A4,A9];omega,gr,qHK rstx (.inr rfl) yb.1 yb.2 (fun z=>absurd z qAC) bh,qLM Rx rstx (.inr rfl) yb.1 yb.2 (fun z=>absurd z qAC) (fun _=>yin) bh,fun x hx hl=>?_⟩
    rw [bh.2 rfl,B0];refine ⟨invx x hx hl,decide_eq_true fun z=>?_⟩;rw [z] at hl;rcases hl with h | ⟨v,hv,hyv⟩
    ·exact yas h
    ·exact ynd v hv hyv
  have next:∀ st':List Int,(∀ x ∈ st,x ∈ st')->w0 ∈ st'->∀ x ∈ zs.take (i+1),(x ∈ Ad\/qLT Af zs (i+1) x)->x ∈ st':=by
   intro st' hsub hw x hx hl;rw [D5,ew,D4,B8,A6] at hx;rcases hx with hx | hx
   ·exact hsub x (inv x hx (hl.imp id fun h=>(qKX ew).mpr (.inr h)))
   ·rw [hx];exact hw
  refine ⟨_,rfl,_,rfl,so,_,rfl,.inr (SqT.of hs4),rfl,qB8 st,_,rfl,?_⟩;rw [qC8];by_cases cw:w0 ∈ st
  ·rw [decide_eq_true cw];exact rest rs ms so st H4 S4 K4 gln4 gl4 M4 ok3 (by omega) hs4 rst3 R3 (next st (fun x hx=>hx) cw)
  ·rw [decide_eq_false cw];dsimp only;rw [if_pos (show (if true=true then !false else false)=true from rfl)]
   refine cut fun N6 hN6=>?_;refine ⟨_,rfl,.inl ⟨rfl,_,SqL.of gl4⟩,_,rfl,(by show 2<=sizeLine;decide),fun T3 hT3=>?_⟩
   have sT3:=qA2 hT3 (.tup [.str "do",.int w0])
   have gT3:(Ai H4 T3 (.tup [.str "do",.int w0])) T3=some (.tup [.str "do",.int w0]):=qA1
   have S10:=S4.same sT3;have K10:=K4.trans (.of_same sT3);have gl10:=sT3 _ _ gl4;have gln10:=sT3 _ _ gln4;have M10:=M4.same sT3;have hs10:=sT3 _ _ hs4;generalize Ai H4 T3 (.tup [.str "do",.int w0])=H10 at gT3 S10 K10 gl10 gln10 M10 hs10 ⊢
   have lrs:=B2 M10;refine ⟨l,_,_,rfl,rfl,gl10,qAX (by rw [A0];omega),?_⟩
   rw [qBB];have S11:=S10.put' (o:=.lst ((rs++[T3]).map V.ref)) nl.1 nl.2;have K11:=qH4 (o:=.lst ((rs++[T3]).map V.ref)) K10 fl;have gl11:(Ai H10 l (.lst ((rs++[T3]).map V.ref))) l=some (.lst ((rs++[T3]).map V.ref)):=qA1;have gln11:(Ai H10 l (.lst ((rs++[T3]).map V.ref))) ln=some (.lst (zs.map V.int)):=by rw [qA8 nll];exact gln10
   have M11:=MovL.put (o:=.lst ((rs++[T3]).map V.ref)) (M10.snoc gT3) gl10;have hs11:(Ai H10 l (.lst ((rs++[T3]).map V.ref))) so=some (.tup (st.map V.int)):=by rw [qA8 (qBT hs10 gl10 (by intro z;cases z))];exact hs10
   have gm11:(Ai H10 l (.lst ((rs++[T3]).map V.ref))) T3=some (.tup [.str "do",.int w0]):=by rw [qA8 (qBT gT3 gl10 (by intro z;cases z))];exact gT3
   generalize Ai H10 l (.lst ((rs++[T3]).map V.ref))=H11 at S11 K11 gl11 gln11 M11 hs11 gm11 ⊢;refine hN6 _ _ ?_;refine ⟨_,rfl,_,rfl,_,rfl,l,_,_,_,rfl,rfl,SqL.of gl11,by rw [B1];exact qJ1 _ _,?_⟩
   refine ⟨so,T3,st,"do",w0,rfl,hs11,by omega,gm11,.inl rfl,fun r st' H12 s12 gr bh=>?_⟩
   have hp':=(bh.1 rfl).1;exact rest (rs++[T3]) (ms++[(("do",w0):Mv)]) r st' H12 (S11.same s12) (K11.trans (.of_same s12)) (s12 _ _ gln11) (s12 _ _ gl11) (M11.same s12) (ok3.app (MvOk.one (.inl rfl) wb.1 wb.2)) (by rw [A4,A9];omega) gr (qHK rst3 (.inl rfl) wb.1 wb.2 (fun _=>cw) bh) (qLM R3 rst3 (.inl rfl) wb.1 wb.2 (fun _=>⟨cw,hneed⟩) (fun z=>absurd z.symm qAC) bh) (next st' (fun x hx=>hp'.mem_iff.mpr (B8.mpr (.inl hx))) (hp'.mem_iff.mpr (by simp)))
 ·refine fun σ Hc hI_2=>opq fun G_2 hG_2=>?_;obtain ⟨rs,ms,so,st,t3,ns3,v7,v8,v9,rfl,S3,g3,g4,K3,gln3,gl3,M3,ok3,lm3,hs3,rst3,R3,inv⟩:=hI_2;refine hG_2 ?_;rw [A0] at g4 lm3 inv;rw [qCJ rfl] at inv;refine hN3 _ _ ⟨_,rfl,?_⟩;exact q l ms st t3 ns3 Hc S3 (by omega) (by omega) K3 fl ⟨rs,gl3,M3⟩ ok3 (by omega) rst3 R3 (fun x hx=>inv x ((ND.2 x).mpr (.ask hx)) (.inl hx))
end
section
variable {P:Program} {w:World} {K:PySem.W.Frag} {mg:Str->Option Value} {base:Heap} {f:Addr} {fd:FuncData} {qCP:Addr} {qCT:FuncData}
theorem sc_Lmost:FnScope ["_law_net_here","_law_plan","_law_stands","_law_word_here"] ["_law_net_here","_law_plan"] (qAH qLI):=⟨rfl,rfl,rfl,by decide +kernel,rfl,by decide +kernel,by decide +kernel⟩
theorem ok_Lmost (F:Fun K "_law_most" "_law_most" qLI f fd) (qC2:Clb P w K mg base 2 qCP qCT "_law_played" ["_law_net_here","_law_rooms","_law_plan"] qIL) (qAU:mg "len" = none) (qL8:mg "max" = none):FnOk P w K mg base CX0 3 f fd ["_law_net_here","_law_plan"] qS7:=by
 refine F.ok sc_Lmost (fun vs H Q E h=>?_) (fun cdv A outer s H vs Q E hr h=>?_)
 ·obtain ⟨a,l,Af,ms,st,rfl,_⟩:=h
  rfl
 obtain ⟨a,l,Af,ms,st,rfl,PI,R,q⟩:=h;refine ⟨_,(qA4 (qI7 (qAR qC2 hr rfl (qA0 (pv 0) (qA0 (qA9 qAB rfl qAU qBA (qA0 (pv 0) qA3)) (qA0 (pv 1) qA3)))) (qDU rfl (qAK (qAA (i:=2) sc_Lmost.nd rfl (C5 rfl)) (qAK (qAA (i:=3) sc_Lmost.nd rfl (C5 rfl)) qC4)))) (qA6 (qAL (qA9 (qUM rfl) rfl qL8 qYC (qA0 (qF8 rfl (lcs (own:=["_law_stand"]) (fv:=[]) (by kernel_rfl)) (qC3 (pv 2)) (fun z1=>qAA (i:=0) (qCA (by kernel_rfl)) rfl (C5 rfl)) (fun z1=>qC6) (fun z1=>(qA9 (qUO (K:=K) rfl) rfl qAU qBA (qA0 (pv 0) qA3)))) qA3))))),?_⟩
 try dsimp only [Cx.nox,Cx.wish,cxOf]
 obtain ⟨rs,hA,NL⟩:=id PI.1;have lrv:(((rs.map V.ref).length:Nat):Int)=(Af.length:Int):=by rw [A0,B2 NL]
 have mv:=PI.2.2.2.2.2.1;have l10:=PI.2.2.2.2.1;have rm:=qPX mv R;refine cut fun N1 hN1=>?_;refine ⟨_,rfl,_,rfl,a,_,rfl,.inr (SqT.of hA),_,rfl,a,l,Af,ms,(Af.length:Int),by rw [lrv];rfl,PI,fun T ls sts v H1 sm1 pl gT fls SA lsts=>?_⟩
 refine ⟨T,_,rfl,SqT.of gT,rfl,_,_,rfl,_,_,rfl,rfl,?_⟩;refine hN1 _ _ ?_;obtain ⟨ks,hks,NK⟩:=id SA;have lks:=B2 NK;rw [B3] at lks;have ev:v=.non:=by
  rcases pl.kind with h | ⟨w0,h⟩
  ·exact h
  ·rw [h] at pl;exact absurd pl (rm.2 sts w0)
 subst ev;refine ⟨_,rfl,ls,rfl,⟨_,SqL.of hks⟩,fun p hp=>?_⟩;refine qHT (p:=p) (a:=ls) (xs:=ks.map V.ref) (fun i σ Hc=>∃ (v:Option V),σ=[v]/\Same H1 Hc/\Hc p=some (.lst ((lens (([]::sts).take i)).map V.int))) ?_ ?_ ?_ ?_
 ·exact ⟨none,rfl,qA2 hp _,qA1⟩
 ·rintro i σ Hc hi ⟨v,rfl,sm,_⟩;exact SqL.of (sm _ _ hks)
 ·refine fun i x σ Hc hx hI_2=>opq fun G_2 hG_2=>?_;obtain ⟨v,rfl,sm,hpc⟩:=hI_2;obtain ⟨r,hr',rfl⟩:=qBX hx;obtain ⟨z,ez,g⟩:=qAO NK hr';refine hG_2 ?_;have hi:=(A1.mp ez).1;rw [B3] at hi;refine ⟨_,rfl,r,_,rfl,.inr (SqT.of (sm _ _ g)),_,hpc,qAX (by unfold lens;rw [A0,A0,C1];omega),_,rfl,qAG sm hp,?_⟩
  rw [qA1];refine congrArg (fun l=>some (HO.lst l)) ?_;rw [qN0 ez];unfold lens;rw [B1,B1,A0]
  rfl
 ·refine fun σ Hc hI_3=>opq fun G_3 hG_3=>?_;obtain ⟨v,rfl,sm,hpc⟩:=hI_3;refine hG_3 ?_;rw [A0,lks,qCJ (by rw [B3])] at hpc
  obtain ⟨sts0,p0,l0,t0,_⟩:=R.play .nil;obtain ⟨e1,_⟩:=Play.one mv pl p0;subst e1;exact ⟨p,_,_,rfl,SqL.of hpc,t0,q Hc (sm1.trans sm)⟩
end
section
variable {P:Program} {w:World} {K:PySem.W.Frag} {mg:Str->Option Value} {base:Heap} {f:Addr} {fd:FuncData} {qCP qEM:Addr} {qCT qGM:FuncData}
theorem qWL {Ac:Str} (h:Ac = "do"\/Ac = "clear"):inV (.str Ac) [.str "do",.str "clear"]=true:=by
 rcases h with rfl | rfl
 ·decide +kernel
 ·decide +kernel
theorem qOO:FnScope ["_law_net_here","_law_move"] ["_law_net_here","_law_move"] (qAH qFZ):=⟨rfl,rfl,rfl,by decide +kernel,rfl,by decide +kernel,by decide +kernel⟩
theorem ok_Lis_move (F:Fun K "_law_is_move" "_law_is_move" qFZ f fd) (qAF:mg "isinstance" = none) (qAP:mg "tuple" = none) (qAU:mg "len" = none) (qGG:mg "int" = none) (qF9:mg "bool" = none):FnOk P w K mg base CX0 1 f fd ["_law_net_here","_law_move"] qPR:=by
 refine F.ok qOO (fun vs H Q E h=>?_) (fun cdv A outer s H vs Q E hr h=>?_)
 ·obtain ⟨a,mv,Af,Ac,wk,rfl,_⟩:=h
  rfl
 obtain ⟨a,mv,Af,Ac,wk,rfl,hN,hmv,hword,wk0,wk1,q⟩:=h;refine ⟨_,(qA4 (qBW (PW.pt (qOT (qGE (qD2 (qA9 qB1 rfl qAF qAT (qA0 (pv 1) (qA0 (qCL (v:=.ty "tuple") rfl qAP qBF rfl) qA3))))) (qOT (qAI qT0 (qA9 qAB rfl qAU qBA (qA0 (pv 1) qA3)) qA7 (qAY _)) (qKO (qAI qDV (qAV qB0 (pv 1) qA7 (fun _ _=>rfl)) (qBC (qA0 qB9 (qA0 qB9 qA3))) (by with_unfolding_all rfl)))))) (qA6 (qAL qGX)) qAM) (qA6 (qAL (qI8 (qA9 qB1 rfl qAF qAT (qA0 (qAV qB0 (pv 1) qA7 (fun _ _=>rfl)) (qA0 (qCL (v:=.ty "int") rfl qGG qQK rfl) qA3))) (qI8 (qXQ (qA9 qB1 rfl qAF qAT (qA0 (qAV qB0 (pv 1) qA7 (fun _ _=>rfl)) (qA0 (qCL (v:=.ty "bool") rfl qF9 qUT rfl) qA3)))) (qKR (qW1 qcX qT1 qA7 (qAV qB0 (pv 1) qA7 (fun _ _=>rfl)) (qA9 qAB rfl qAU qBA (qA0 (pv 0) qA3))))))))),?_⟩
 try dsimp only [Cx.nox,Cx.wish,cxOf]
 obtain ⟨rs,hA,NL⟩:=id hN;have lrv:(((rs.map V.ref).length:Nat):Int)=(Af.length:Int):=by rw [A0,B2 NL]
 refine ⟨_,rfl,_,"tuple",_,true,rfl,TyOf.tup hmv,rfl,_,rfl,?_⟩;refine ⟨_,rfl,mv,_,rfl,.inr (SqT.of hmv),rfl,_,rfl,?_⟩;rw [decide_eq_true (show V.int ((([V.str Ac,V.int wk].length:Nat)):Int)=V.int 2 from rfl)];refine ⟨_,rfl,mv,_,_,_,rfl,rfl,SqT.of hmv,rfl,(by show 2<=sizeLine;decide),fun T hT=>?_⟩
 have sT:=qA2 hT (.tup [.str "do",.str "clear"])
 refine ⟨T,_,rfl,.inr (SqT.of qA1),rfl,rfl,_,rfl,?_⟩;rw [qWL hword];have hmv2:=sT _ _ hmv;have hA2:=sT _ _ hA;refine ⟨_,rfl,mv,_,_,_,rfl,rfl,SqT.of hmv2,rfl,_,"int",_,true,rfl,TyOf.int wk,qXY,_,rfl,?_⟩;refine ⟨_,rfl,mv,_,_,_,rfl,rfl,SqT.of hmv2,rfl,_,"bool",_,false,rfl,TyOf.int wk,qXZ,_,rfl,_,rfl,?_⟩;refine ⟨_,rfl,mv,_,_,_,rfl,rfl,SqT.of hmv2,rfl,_,_,rfl,rfl,_,rfl,?_⟩;rw [decide_eq_true (show (0:Int)<=wk from wk0)];refine ⟨_,rfl,a,_,rfl,.inr (SqT.of hA2),_,_,rfl,rfl,?_⟩;have q':=q _ sT;rw [<- decide_eq_true (show wk<(((rs.map V.ref).length:Nat):Int) by rw [lrv];exact wk1)] at q'
 exact q'
end
section
variable {P:Program} {w:World} {K:PySem.W.Frag} {mg:Str->Option Value} {base:Heap} {f:Addr} {fd:FuncData}
theorem sc_stays_of:FnScope ["net","plan","needed","latest","place","move"] ["net","plan"] (qAH qFW):=⟨rfl,rfl,rfl,by decide +kernel,rfl,by decide +kernel,by decide +kernel⟩
theorem ok_stays_of (F:Fun K "stays_of" "stays_of" qFW f fd) (qAD:mg "enumerate" = none):FnOk P w K mg base CX0 1 f fd ["net","plan"] qN2:=by
 refine F.ok sc_stays_of (fun vs H Q E h=>?_) (fun cdv A outer s H vs Q E hr h=>?_)
 ·obtain ⟨a,l,Af,p,rfl,_⟩:=h
  rfl
 obtain ⟨a,l,Af,p,rfl,⟨hN,wf,n400,⟨rs,hL,ML⟩,lp,mo,nf⟩,q⟩:=h;have hu:=qP1 hr;refine ⟨_,(qA4 (qAE (i:=2) sc_stays_of.nd rfl (C5 rfl) qG3) (qA4 (qAE (i:=3) sc_stays_of.nd rfl (X7 rfl) qG3) (qA4 (qBS C9 rfl (qE6 rfl qAD qBD (qA0 (pv 1) qA3)) (qDU rfl (qAK (qAA (i:=4) sc_stays_of.nd rfl (C5 rfl)) (qAK (qAA (i:=5) sc_stays_of.nd rfl (C5 rfl)) qC4))) (qA6 (qBW (qAI qE8 (qAV qB0 (pv 5) qA7 (fun _ _=>rfl)) qB9 (qAY _)) (qA4 (qFF hu (pv 2) (pv 4) (qF8 rfl (lcs (own:=["need"]) (fv:=[3]) (by kernel_rfl)) (qFG (qAV qB0 (pv 0) (qAV qB0 (pv 5) qA7 (fun _ _=>rfl)) (fun _ _=>rfl))) (fun z1=>qAA (i:=0) (qCA (by kernel_rfl)) rfl (C5 rfl)) (fun z1=>qC6) (fun z1=>(qE7 hu (pv 1) (pv 0) (fun _ _=>rfl)))) rfl) (qA6 (qFF hu (pv 3) (qAV qB0 (pv 5) qA7 (fun _ _=>rfl)) (pv 4) rfl))) qAM))) (qA6 (qAL (qBC (qA0 (pv 2) (qA0 (pv 3) qA3)))))))),?_⟩
 try dsimp only [Cx.nox,Cx.wish,cxOf]
 obtain ⟨ns0,hA,NL⟩:=id hN;have lrs:=B2 ML;refine cut fun N0 hN0=>?_;refine fun dn hdn=>?_;have s1:=qA2 hdn (.dK []);have g1:(Ai H dn (.dK [])) dn=some (.dK (kvsV [] fun _=>V.non)):=qA1;generalize Ai H dn (.dK [])=H1 at s1 g1 ⊢;refine hN0 _ _ (cut fun N1 hN1=>?_);refine fun dl hdl=>?_;have s2':=qA2 hdl (.dK []);have s2:=s1.trans s2';have g2:=s2' _ _ g1;have gl2:(Ai H1 dl (.dK [])) dl=some (.dK []):=qA1;have ndl:dn ≠ dl:=qA5 g1 hdl;have fdl:H dl=none:=s1.free hdl;generalize Ai H1 dl (.dK [])=H2 at s2 g2 gl2 ⊢;refine hN1 _ _ (cut fun N2 hN2=>?_);refine ⟨_,rfl,l,rfl,⟨_,SqL.of (s2 _ _ hL)⟩,qG5 (a:=l) (xs:=rs.map V.ref) (fun i σ Hc=>∃ (ad:Int->Addr) (v4 v5:Option V),σ=[some (.ref a),some (.ref l),some (.ref dn),some (.ref dl),v4,v5]/\Same H Hc/\Hc dn=some (.dK (kvsV (intL ((C8 i).filter (dpB p))) fun z=>.ref (ad z)))/\(∀ j ∈ (C8 i).filter (dpB p),Hc (ad (j:Int))=some (.lst ((ndI Af p j).map V.int)))/\qc9 Hc dl p i)
  ⟨fun _=>a,none,none,rfl,s2,g2,fun j hj=>by simp at hj,[],gl2,E8 _,fun n=>rfl⟩ (fun i σ Hc _ hP=>by obtain ⟨_,_,_,_,sc,_⟩:=hP;exact SqL.of (sc _ _ hL)) ?_ ?_⟩
 ·refine fun i x σ Hc T hx hI_1 hT=>opq fun G_1 hG_1=>?_;obtain ⟨ad,v4,v5,rfl,sc,gd,PA,Ah,gl,lk,hv⟩:=hI_1;obtain ⟨r,er,rfl⟩:=qBX hx;obtain ⟨m,em,hm⟩:=qAO ML er;refine hG_1 ?_;have hi:=(A1.mp em).1;have sT:=qA2 hT (.tup [.int (i:Int),.ref r]);have sc1:=sc.trans sT;have gd1:=sT _ _ gd;have gl1:=sT _ _ gl;have gT:SqT K (Ai Hc T (.tup [.int (i:Int),.ref r])) T [.int (i:Int),.ref r]:=SqT.of qA1;have PA1:∀ j ∈ (C8 i).filter (dpB p),(Ai Hc T (.tup [.int (i:Int),.ref r])) (ad (j:Int))=some (.lst ((ndI Af p j).map V.int)):=fun j hj=>sT _ _ (PA j hj);generalize Ai Hc T (.tup [.int (i:Int),.ref r])=H3 at sc1 gd1 gl1 gT PA1 ⊢;refine ⟨T,_,rfl,gT,rfl,_,_,rfl,_,_,rfl,rfl,?_⟩;obtain ⟨wd,w⟩:=m;obtain ⟨mw,w0,w1⟩:=mo (wd,w) (B4 em);refine ⟨_,rfl,r,_,_,_,rfl,rfl,SqT.of (sc1 _ _ hm),rfl,rfl,_,rfl,?_⟩;refine ite2 (fun ck=>?_) (fun ck=>?_)
  ·have hd:wd = "do":=V.str.inj (of_decide_eq_true ck)
   subst hd;have em':p[i]?=some (dO w):=em;have ewk:=qD0 em';have hw:w.toNat<Af.length:=by omega
   have hz:=A3 hw;obtain ⟨rt,h3,h4⟩:=NL.get hz;have en:=qD3 hz;have ln:=(wf w.toNat _ hz).len;have nfi:=nf i w em';rw [en] at nfi;generalize Af[w.toNat]=ys at h4 hz en ln nfi;refine nmT fun D1 d1 _=>?_;refine cut fun M1 hM1=>?_;refine ⟨_,rfl,_,rfl,r,_,_,_,rfl,rfl,SqT.of (sc1 _ _ hm),rfl,a,_,_,_,rfl,rfl,SqT.of (sc1 _ _ hA),qCG w0 (by rw [B5,h3];rfl),rt,rfl,⟨_,SqT.of (sc1 _ _ h4)⟩,fun lq hlq=>?_⟩
   refine qH2 (p:=lq) (a:=rt) (xs:=ys.map V.int) (fun k σ Hd=>∃ v:Option V,σ=[v,some (.ref dl)]/\Same H3 Hd/\Hd lq=some (.lst (((ys.take k).map fun n=>(((lat p i n).getD 0:Nat):Int)).map V.int))) ?_ ?_ ?_ ?_
   ·exact ⟨none,rfl,qA2 hlq _,qA1⟩
   ·rintro k σ Hd hk ⟨v,rfl,sd,_⟩;exact SqT.of (sd _ _ (sc1 _ _ h4))
   ·refine fun k x σ Hd hx hI_3=>opq fun G_3 hG_3=>?_;obtain ⟨v,rfl,sd,hpd⟩:=hI_3;obtain ⟨n,ey,rfl⟩:=qBI hx;refine hG_3 ?_;have hk:=(A1.mp ey).1;obtain ⟨j,ej⟩:=nfi n (B4 ey);have hg:=DGet.k (k:=F2 n) (sd _ _ gl1);rw [hv n,ej] at hg;refine ⟨_,rfl,_,rfl,dl,_,rfl,hg,_,hpd,qAQ (by rw [A0,A0,C1];omega),_,rfl,qAG sd hlq,?_⟩
    rw [qA1,D5,ey,D4,B1,B1,A23,ej]
    rfl
   refine fun σ Hd hI_4=>opq fun G_4 hG_4=>?_;obtain ⟨v,rfl,sd,hpd⟩:=hI_4;refine hG_4 ?_;rw [A0,qCJ rfl] at hpd;have eN:ndI Af p i=ys.map fun n=>(((lat p i n).getD 0:Nat):Int):=by unfold ndI;rw [ewk,en]
   rw [<- eN] at hpd;have gdd:=sd _ _ gd1;have ino:(i:Int) ∉ intL ((C8 i).filter (dpB p)):=fun z=>by
    obtain ⟨j,hj,e⟩:=F4.mp z;have:=J1.mp (B0.mp hj).1;omega
   have put:=DPut.k (k:=F2 (i:Int)) (v:=.ref lq) gdd (qAX (by unfold kvsV intL;rw [A0,A0];have:=C7 (dpB p) (C8 i);rw [T5] at this;omega))
   rw [qWJ ino] at put;refine ⟨_,rfl,_,rfl,dn,_,rfl,put,?_⟩;have nq:lq ≠ dn:=(qA5 gd1 hlq).symm;have nld:dl ≠ dn:=ndl.symm;have gl4:(Ai Hd dn (.dK (kvsV (intL ((C8 i).filter (dpB p))++[(i:Int)]) fun y=>if y=(i:Int) then .ref lq else .ref (ad y)))) dl=some (.dK Ah):=by rw [qA8 nld];exact sd _ _ gl1
   have sm4:Same H (Ai Hd dn (.dK (kvsV (intL ((C8 i).filter (dpB p))++[(i:Int)]) fun y=>if y=(i:Int) then .ref lq else .ref (ad y)))):=qAG (sc1.trans sd) hdn
   have gd4:(Ai Hd dn (.dK (kvsV (intL ((C8 i).filter (dpB p))++[(i:Int)]) fun y=>if y=(i:Int) then .ref lq else .ref (ad y)))) dn=some (.dK (kvsV (intL ((C8 i).filter (dpB p))++[(i:Int)]) fun y=>if y=(i:Int) then .ref lq else .ref (ad y))):=qA1
   have PA4:∀ j ∈ (C8 i).filter (dpB p)++[i],(Ai Hd dn (.dK (kvsV (intL ((C8 i).filter (dpB p))++[(i:Int)]) fun y=>if y=(i:Int) then .ref lq else .ref (ad y)))) (if (j:Int)=(i:Int) then lq else ad (j:Int))=some (.lst ((ndI Af p j).map V.int)):=by
    intro j hj;rcases B8.mp hj with h | h
    ·have hl:=J1.mp (B0.mp h).1;rw [if_neg (by omega)]
     have g:=sd _ _ (PA1 j h);rw [qA8 (qBT g gdd (by intro z;cases z))]
     exact g
    ·rw [A6.mp h,if_pos rfl,qA8 nq];exact hpd
   generalize Ai Hd dn (.dK (kvsV (intL ((C8 i).filter (dpB p))++[(i:Int)]) fun y=>if y=(i:Int) then .ref lq else .ref (ad y)))=H5 at gl4 sm4 gd4 PA4 ⊢
   refine hM1 _ _ ?_;refine ⟨_,rfl,_,rfl,_,rfl,r,_,_,_,rfl,rfl,SqT.of (sm4 _ _ hm),rfl,dl,_,rfl,DPut.k (k:=F2 w) gl4 (qAX (by omega)),?_⟩
   have ef:(C8 (i+1)).filter (dpB p)=(C8 i).filter (dpB p)++[i]:=by rw [qG9 hi,if_pos (qNY em')]
   refine d1 _ _ ⟨fun z=>if z=(i:Int) then lq else ad z,_,_,rfl,qAG sm4 fdl,?_,?_,putK Ah (F2 w) (.int (i:Int)),qA1,F6 (qBE _ _ _) (by omega),fun n=>?_⟩
   ·rw [qA8 ndl,gd4,ef];congr 2;unfold intL;rw [B1];congr 1
    funext y
    dsimp only;by_cases c:y=(i:Int)
    ·rw [if_pos c,if_pos c]
    ·rw [if_neg c,if_neg c]
   ·rw [ef];intro j hj;have g:=PA4 j hj;rw [qA8 (qBT g gl4 (by intro z;cases z))]
    exact g
   ·rw [qD8,hv n];show _=(if p[i]?=some (dO n) then some i else lat p i n).map _
    rw [em'];by_cases c:n=w
    ·rw [c,if_pos rfl,if_pos rfl];rfl
    ·rw [if_neg fun z=>c (T6 z),if_neg fun z=>c (qF6 (A8 z)).symm]
  ·have hd:¬ wd = "do":=fun e=>ck (decide_eq_true (congrArg V.str e))
   have nb:dpB p i=false:=F9.mpr fun z=>hd (by
    have:=dB_iff.mp z;rw [em] at this;exact congrArg b8 (A8 this))
   have ef:(C8 (i+1)).filter (dpB p)=(C8 i).filter (dpB p):=by rw [qG9 hi,nb];simp
   refine ⟨ad,_,_,rfl,sc1,by rw [ef];exact gd1,by rw [ef];exact PA1,Ah,gl1,by omega,fun n=>?_⟩
   rw [hv n];show _=(if p[i]?=some (dO n) then some i else lat p i n).map _
   rw [em,if_neg fun z=>hd (congrArg b8 (A8 z))]
 ·refine fun σ Hc hI_5=>opq fun G_5 hG_5=>?_;obtain ⟨ad,v4,v5,rfl,sc,gd,PA,LA⟩:=hI_5;refine hG_5 ?_;rw [A0,lrs] at gd PA LA;refine hN2 _ _ ?_;refine ⟨_,rfl,_,rfl,(by show 2<=sizeLine;decide),fun T hT=>?_⟩
  have sT:=qA2 hT (.tup [.ref dn,.ref dl]);obtain ⟨Ah,h1,h2,h3⟩:=LA;exact q T dn dl ad _ (sc.trans sT) qA1 hdn (sT _ _ gd) (fun j hj=>sT _ _ (PA j hj)) ⟨Ah,sT _ _ h1,h2,h3⟩
theorem sc_stays_left:FnScope ["needed","last","left","stay","other"] ["needed","last"] (qAH qDQ):=⟨rfl,rfl,rfl,by decide +kernel,rfl,by decide +kernel,by decide +kernel⟩
theorem ok_stays_left (F:Fun K "stays_left" "stays_left" qDQ f fd) (qDE:mg "reversed" = none) (qC1:mg "list" = none):FnOk P w K mg base CX0 1 f fd ["needed","last"] qJF:=by
 refine F.ok sc_stays_left (fun vs H Q E h=>?_) (fun cdv A outer s H vs Q E hr h=>?_)
 ·obtain ⟨dn,ll,Af,p,Ad,ad,rfl,_⟩:=h
  rfl
 obtain ⟨dn,ll,Af,p,Ad,ad,rfl,gdn,PA,nf,lp,l400,la,hla,gll,q⟩:=h;have hu:=qP1 hr;refine ⟨_,(qA4 (qAE (i:=2) sc_stays_left.nd rfl (C5 rfl) qG3) (qA4 (qBS C9 rfl (qC3 (pv 1)) (qAA (i:=3) sc_stays_left.nd rfl (C5 rfl)) (qA6 (qFF hu (pv 2) (pv 3) qGX rfl))) (qA4 (qBS C9 rfl (qb4 rfl qDE (qA0 (qAS (qRL rfl) rfl qC1 qFN (qA0 (pv 0) qA3)) qA3)) (qAA (i:=3) sc_stays_left.nd rfl (C5 rfl)) (qA6 (qBW (qI6 (qSX hu (pv 3) (pv 2))) (qA6 (qBS C9 rfl (qC3 (qE7 hu (pv 0) (pv 3) (fun _ _=>rfl))) (qAA (i:=4) sc_stays_left.nd rfl (C5 rfl)) (qA6 (qFF hu (pv 2) (pv 4) qGX rfl)))) qAM))) (qA6 (qAL (pv 2)))))),?_⟩
 try dsimp only [Cx.nox,Cx.wish,cxOf]
 have ldp:(dps p).length<=p.length:=by unfold dps;have:=C7 (dpB p) (C8 p.length);rw [T5] at this;exact this
 refine cut fun N0 hN0=>?_;refine fun d hd=>?_;have s1:=qA2 hd (.dK []);have g1:(Ai H d (.dK [])) d=some (.dK []):=qA1;generalize Ai H d (.dK [])=H1 at s1 g1 ⊢;refine hN0 _ _ (cut fun N1 hN1=>?_);have gll1:=s1 _ _ gll;refine ⟨_,rfl,ll,rfl,⟨_,SqL.of gll1⟩,qCF (a:=ll) (xs:=(qEW p Ad).map V.int) (fun i σ Hc=>∃ (Ah:List (Key × V)) (v3:Option V),σ=[some (.ref dn),some (.ref ll),some (.ref d),v3,none]/\Same H Hc/\Hc d=some (.dK Ah)/\Ah.length<=i/\∀ y:Int,(valV Ah (F2 y)).isSome=decide (y ∈ (qEW p Ad).take i))
  ⟨[],none,rfl,s1,g1,E8 _,fun y=>by simp [valV]⟩ (fun i σ Hc _ hP=>by obtain ⟨_,_,_,sc,_⟩:=hP;exact SqL.of (sc _ _ gll)) ?_ ?_⟩
 ·refine fun i x σ Hc hx hI_1=>opq fun G_1 hG_1=>?_;obtain ⟨Ah,v3,rfl,sc,gd,lk,hv⟩:=hI_1;obtain ⟨y,ey,rfl⟩:=qBI hx;refine hG_1 ?_;have hi:=(A1.mp ey).1;have hi2:i<400:=by unfold qEW at hi;rw [A0] at hi;omega
  refine ⟨_,rfl,_,rfl,d,_,rfl,DPut.k (k:=F2 y) gd (qAX (by omega)),?_⟩
  refine ⟨_,_,rfl,qAG sc hd,qA1,F6 (qBE _ _ _) (by omega),fun z=>?_⟩
  rw [qD8,D5,ey,D4];by_cases c:z=y
  ·rw [c,if_pos rfl];simp
  ·rw [if_neg fun e=>c (T6 e),hv z];simp [c]
 refine fun σ Hc hI_2=>opq fun G_2 hG_2=>?_;obtain ⟨Ah,v3,rfl,sc,gd,lk,hv⟩:=hI_2;refine hG_2 ?_;rw [A0] at lk hv;rw [G5] at hv;have ll4:(qEW p Ad).length<=400:=by unfold qEW;rw [A0];exact la
 refine hN1 _ _ (cut fun N2 hN2=>?_);have gdn1:=sc _ _ gdn;refine ⟨_,rfl,dn,_,intL (dps p),rfl,gdn1,(by unfold kvsV;rw [k7];rfl),fun lk2 hlk2=>?_⟩
 have s2:=qA2 hlk2 (.lst ((intL (dps p)).map V.int));have gk:(Ai Hc lk2 (.lst ((intL (dps p)).map V.int))) lk2=some (.lst ((intL (dps p)).map V.int)):=qA1;have gd2:=s2 _ _ gd;have sc2:=sc.trans s2;have nkd:lk2 ≠ d:=(qA5 gd hlk2).symm;generalize Ai Hc lk2 (.lst ((intL (dps p)).map V.int))=H2 at s2 gk gd2 sc2 ⊢;have lks:((intL (dps p)).map V.int).length=(dps p).length:=by unfold intL;rw [A0,A0]
 refine ⟨lk2,_,rfl,SqL.of gk,?_⟩;refine qZS (a:=lk2) (xs:=(intL (dps p)).map V.int) (fun i σ Hx=>∃ (Ah:List (Key × V)) (v3 v4:Option V),σ=[some (.ref dn),some (.ref ll),some (.ref d),v3,v4]/\Same H Hx/\Hx lk2=some (.lst ((intL (dps p)).map V.int))/\Hx d=some (.dK Ah)/\Ah.length<=400+400 * i/\∀ y:Nat,(valV Ah (F2 (y:Int))).isSome=true ↔ ((∃ n ∈ Ad,lat p p.length n=some y)\/∃ k ∈ (dps p).drop ((dps p).length - i),wn Af Ad p (k+1) (wkO p k)=true/\∃ n ∈ nd Af (wkO p k),lat p k n=some y))
  ⟨Ah,v3,none,rfl,sc2,gk,gd2,by omega,fun y=>?_⟩ (fun i σ Hx _ hP=>by obtain ⟨_,_,_,_,_,g,_⟩:=hP;exact SqL.of g) ?_ ?_
 ·rw [hv,decide_eq_true_eq,Nat.sub_zero,c9]
  constructor
  ·intro h;obtain ⟨n,hn,e⟩:=F4.mp h;obtain ⟨j,ej⟩:=hla n hn;rw [ej] at e;exact .inl ⟨n,hn,by rw [ej];congr 1;simp at e;omega⟩
  ·rintro (⟨n,hn,e⟩ | ⟨k,hk,_⟩)
   ·exact F4.mpr ⟨n,hn,by rw [e];rfl⟩
   ·cases hk
 ·refine fun i x σ Hx hi hx hI_3=>opq fun G_3 hG_3=>?_;obtain ⟨Ah,v3,v4,rfl,sx,gkx,gdx,lkx,hvx⟩:=hI_3;refine hG_3 ?_;rw [lks] at hi hx;obtain ⟨yk,ek,rfl⟩:=qBI hx;unfold intL at ek;rw [B5] at ek;obtain ⟨k,ek',e1⟩:=U3.mp ek;subst e1;have hkm:=B4 ek';have gk':=mem_dps.mp hkm;obtain ⟨ud,um⟩:=qYJ dps_up ek';rw [show (dps p).length - 1 - i+1=(dps p).length - i by omega] at ud um
  have ud':(dps p).drop ((dps p).length - (i+1))=k::(dps p).drop ((dps p).length - i):=by rw [show (dps p).length - (i+1)=(dps p).length - 1 - i by omega];exact ud
  have kin:(valV Ah (F2 (k:Int))).isSome=true ↔ wn Af Ad p (k+1) (wkO p k)=true:=by
   rw [hvx k,<- qLX gk']
   constructor
   ·rintro (h | ⟨j,hj,h1,h2⟩)
    ·exact .inl h
    ·have hjm:=Q8 hj;exact .inr ⟨j,_,(um j hjm).mp hj,mem_dps.mp hjm,h1,h2⟩
   ·rintro (h | ⟨j,w,h0,h1,h2,h3⟩)
    ·exact .inl h
    ·have:=qD0 h1;subst this;have hjm:=mem_dps.mpr h1;exact .inr ⟨j,(um j hjm).mpr h0,h2,h3⟩
  refine ⟨_,rfl,_,rfl,d,_,rfl,DGet.k (k:=F2 (k:Int)) gdx,_,rfl,?_⟩;rw [ud'];by_cases c:wn Af Ad p (k+1) (wkO p k)=true
  ·rw [kin.mpr c];refine iteT ?_;have gdnx:=sx _ _ gdn;have hg:=DGet.k (k:=F2 (k:Int)) gdnx;have mi:((k:Nat):Int) ∈ intL (dps p):=F4.mpr ⟨k,hkm,rfl⟩;rw [qLV (g:=fun z=>V.ref (ad z)) mi] at hg;have gA:=sx _ _ (PA k hkm);have l4:=l400 k;refine ⟨_,rfl,_,rfl,dn,_,rfl,hg,ad (k:Int),rfl,⟨_,SqL.of gA⟩,qCF (a:=ad (k:Int)) (xs:=(ndI Af p k).map V.int) (fun j σ Hy=>∃ (kv2:List (Key × V)) (v4:Option V),σ=[some (.ref dn),some (.ref ll),some (.ref d),some (.int (k:Int)),v4]/\Same H Hy/\Hy lk2=some (.lst ((intL (dps p)).map V.int))/\Hy d=some (.dK kv2)/\kv2.length<=Ah.length+j/\∀ y:Int,(valV kv2 (F2 y)).isSome=((valV Ah (F2 y)).isSome || decide (y ∈ (ndI Af p k).take j)))
    ⟨Ah,v4,rfl,sx,gkx,gdx,by omega,fun y=>by simp⟩ (fun j σ Hy _ hP=>by obtain ⟨_,_,_,sy,_⟩:=hP;exact SqL.of (sy _ _ (PA k hkm))) ?_ ?_⟩
   ·refine fun j x σ Hy hx hI_4=>opq fun G_4 hG_4=>?_;obtain ⟨kv2,v4,rfl,sy,gky,gdy,lky,hvy⟩:=hI_4;obtain ⟨y,ey,rfl⟩:=qBI hx;refine hG_4 ?_;have hj:=(A1.mp ey).1;refine ⟨_,rfl,_,rfl,d,_,rfl,DPut.k (k:=F2 y) gdy (qAX (by omega)),?_⟩
    refine ⟨_,_,rfl,qAG sy hd,by rw [qA8 nkd];exact gky,qA1,F6 (qBE _ _ _) (by omega),fun z=>?_⟩
    rw [qD8,D5,ey,D4];by_cases c:z=y
    ·rw [c,if_pos rfl];simp
    ·rw [if_neg fun e=>c (T6 e),hvy z];simp [c]
   ·refine fun σ Hy hI_5=>opq fun G_5 hG_5=>?_;obtain ⟨kv2,v4,rfl,sy,gky,gdy,lky,hvy⟩:=hI_5;refine hG_5 ?_;rw [A0] at lky hvy;rw [G5] at hvy;refine ⟨kv2,_,_,rfl,sy,gky,gdy,by omega,fun y=>?_⟩
    rw [hvy,M8,hvx y,decide_eq_true_eq]
    constructor
    ·rintro ((h | ⟨j,hj,h1⟩) | h)
     ·exact .inl h
     ·exact .inr ⟨j,A7 _ hj,h1⟩
     ·obtain ⟨n,hn,e⟩:=F4.mp h;obtain ⟨j,ej⟩:=nf k _ gk' n hn;rw [ej,U5] at e;exact .inr ⟨k,C0,c,n,hn,by rw [ej];congr 1;omega⟩
    ·rintro (h | ⟨j,hj,h1,n,hn,h3⟩)
     ·exact .inl (.inl h)
     ·rcases B7.mp hj with e | hj
      ·subst e;exact .inr (F4.mpr ⟨n,hn,by rw [h3];rfl⟩)
      ·exact .inl (.inr ⟨j,hj,h1,n,hn,h3⟩)
  ·rw [F9.mpr fun z=>c (kin.mp z)];refine iteF ?_;refine ⟨Ah,_,_,rfl,sx,gkx,gdx,by omega,fun y=>?_⟩
   rw [hvx y]
   constructor
   ·rintro (h | ⟨j,hj,h1⟩)
    ·exact .inl h
    ·exact .inr ⟨j,A7 _ hj,h1⟩
   ·rintro (h | ⟨j,hj,h1,h2⟩)
    ·exact .inl h
    ·rcases B7.mp hj with e | hj
     ·subst e;exact absurd h1 c
     ·exact .inr ⟨j,hj,h1,h2⟩
 ·refine fun σ Hx hI_6=>opq fun G_6 hG_6=>?_;obtain ⟨Ah,v3,v4,rfl,sx,gkx,gdx,lkx,hvx⟩:=hI_6;refine hG_6 ?_;rw [lks] at hvx;refine hN2 _ _ ⟨_,rfl,q d Ah Hx sx hd gdx fun y=>?_⟩;rw [hvx y,A36,m7]
  constructor
  ·rintro (h | ⟨k,hk,h1,h2⟩)
   ·exact .inl h
   ·exact .inr ⟨k,_,E8 _,mem_dps.mp hk,h1,h2⟩
  ·rintro (h | ⟨k,w,_,h1,h2,h3⟩)
   ·exact .inl h
   ·have:=qD0 h1;subst this;exact .inr ⟨k,mem_dps.mpr h1,h2,h3⟩
end
section
variable {P:Program} {w:World} {K:PySem.W.Frag} {mg:Str->Option Value} {base:Heap} {f:Addr} {fd:FuncData} {qG6 qDZ:Addr} {qJY qH9:FuncData}
theorem sc_tidied:FnScope ["net","plan","asked","told","needed","last","left","dos","last_user","stay","other","tidy"] ["net","plan","asked"] (qAH qIM):=⟨rfl,rfl,rfl,by decide +kernel,rfl,by decide +kernel,by decide +kernel⟩
theorem ok_tidied (F:Fun K "tidied" "tidied" qIM f fd) (qGA:Clb P w K mg base 1 qG6 qJY "stays_of" ["net","plan"] qN2) (qE2:Clb P w K mg base 1 qDZ qH9 "stays_left" ["needed","last"] qJF):FnOk P w K mg base CX0 2 f fd ["net","plan","asked"] qPO:=by
 refine F.ok sc_tidied (fun vs H Q E h=>?_) (fun cdv A outer s H vs Q E hr h=>?_)
 ·obtain ⟨a,l,t,Af,p,Ad,rfl,_⟩:=h
  rfl
 obtain ⟨a,l,t,Af,p,Ad,rfl,PI,hT,la,hla,q⟩:=h;have hu:=qP1 hr;refine ⟨_,(qA4 (qAE (i:=3) sc_tidied.nd rfl (X7 rfl) (qAR qGA hr rfl (qA0 (pv 0) (qA0 (pv 1) qA3)))) (qA4 (qAE (i:=4) sc_tidied.nd rfl (C5 rfl) (qAV qB0 (pv 3) qA7 (fun _ _=>rfl))) (qA4 (qKD (i:=5) sc_tidied.nd rfl rfl rfl (lcs (own:=["work"]) (fv:=[3]) (by kernel_rfl)) (qFG (pv 2)) (fun z1=>qAA (i:=0) (qCA (by kernel_rfl)) rfl (C5 rfl)) (fun z1=>qC6) (fun z1=>(qE7 hu (qAV (qFJ (K:=K) rfl) (pv 1) qA7 (fun _ _=>rfl)) (pv 0) (fun _ _=>rfl))) (by kernel_rfl)) (qA4 (qAE (i:=6) sc_tidied.nd rfl (X7 rfl) (qAR qE2 hr rfl (qA0 (pv 4) (qA0 (pv 5) qA3)))) (qA4 (qKD (i:=7) sc_tidied.nd rfl rfl rfl (lcs (own:=["stay"]) (fv:=[6]) (by kernel_rfl)) (qVX (qb7 (pv 4))) (fun z2=>qAA (i:=0) (qCA (by kernel_rfl)) rfl (C5 rfl)) (fun z2=>(qD7 (qI6 (qSX hu (pv 0) (pv 1))))) (fun z2=>(pv 0)) (by kernel_rfl)) (qA4 (qAE (i:=8) sc_tidied.nd rfl (C5 rfl) qG3) (qA4 (qBS C9 rfl (qC3 (pv 7)) (qAA (i:=9) sc_tidied.nd rfl (C5 rfl)) (qA6 (qBS C9 rfl (qC3 (qE7 hu (pv 4) (pv 9) (fun _ _=>rfl))) (qAA (i:=10) sc_tidied.nd rfl (C5 rfl)) (qA6 (qFF hu (pv 8) (pv 10) (pv 9) rfl))))) (qA4 (qBS C9 rfl (qC3 (pv 5)) (qAA (i:=9) sc_tidied.nd rfl (C5 rfl)) (qA6 (qFF hu (pv 8) (pv 9) qJN rfl))) (qA4 (qAE (i:=11) sc_tidied.nd rfl (C5 rfl) (qBG qA3)) (qA4 (qBS C9 rfl (qC3 (pv 7)) (qAA (i:=9) sc_tidied.nd rfl (C5 rfl)) (qA4 (qCC (qGJ E2 E3 E4 qB6 (pv 11) (qA0 (qAV qC5 (pv 1) (pv 9) (fun _ _=>rfl)) qA3))) (qA6 (qBS C9 rfl (qC3 (qE7 hu (pv 4) (pv 9) (fun _ _=>rfl))) (qAA (i:=10) sc_tidied.nd rfl (C5 rfl)) (qA6 (qBW (qAI qE8 (qE7 hu (pv 8) (pv 10) (fun _ _=>rfl)) (pv 9) (qAY _)) (qA6 (qCC (qGJ E2 E3 E4 qB6 (pv 11) (qA0 (qBC (qA0 qB9 (qA0 (qAV qB0 (qAV qC5 (pv 1) (pv 10) (fun _ _=>rfl)) qA7 (fun _ _=>rfl)) qA3))) qA3)))) qAM)))))) (qA6 (qAL (pv 11))))))))))))),?_⟩
 try dsimp only [Cx.nox,Cx.wish,cxOf]
 obtain ⟨hN,wf,n400,⟨rs,hL,ML⟩,lp,mo,nf⟩:=id PI;have ldp:(dps p).length<=p.length:=by unfold dps;have:=C7 (dpB p) (C8 p.length);rw [T5] at this;exact this
 refine cut fun N0 hN0=>?_;refine ⟨_,rfl,_,rfl,a,l,Af,p,rfl,PI,fun T dn dl ad H1 s1 gT fdn gdn PA LA=>?_⟩;refine hN0 _ _ (cut fun N1 hN1=>?_);refine ⟨_,rfl,T,_,_,_,rfl,rfl,SqT.of gT,rfl,?_⟩;refine hN1 _ _ (cut fun N2 hN2=>?_);obtain ⟨kvL,gdl,lkl,hvl⟩:=LA;refine ⟨_,rfl,t,rfl,⟨_,SqT.of (s1 _ _ hT)⟩,fun p5 hp5=>?_⟩;refine qH2 (p:=p5) (a:=t) (xs:=Ad.map V.int) (fun i σ Hc=>∃ v:Option V,σ=[v,some (.ref T)]/\Same H1 Hc/\Hc p5=some (.lst (((Ad.take i).map fun n=>(((lat p p.length n).getD 0:Nat):Int)).map V.int))) ?_ ?_ ?_ ?_
 ·exact ⟨none,rfl,qA2 hp5 _,qA1⟩
 ·rintro i σ Hc hi ⟨v,rfl,sc,_⟩;exact SqT.of (sc _ _ (s1 _ _ hT))
 ·refine fun i x σ Hc hx hI_2=>opq fun G_2 hG_2=>?_;obtain ⟨v,rfl,sc,hpc⟩:=hI_2;obtain ⟨n,ey,rfl⟩:=qBI hx;refine hG_2 ?_;have hi:=(A1.mp ey).1;obtain ⟨j,ej⟩:=hla n (B4 ey);have hg:=DGet.k (k:=F2 n) (sc _ _ gdl);rw [hvl n,ej] at hg;refine ⟨_,rfl,T,_,_,_,rfl,rfl,SqT.of (sc _ _ gT),rfl,_,rfl,dl,_,rfl,hg,_,hpc,qAQ (by rw [A0,A0,C1];omega),_,rfl,qAG sc hp5,?_⟩
  rw [qA1,D5,ey,D4,B1,B1,A23,ej]
  rfl
 refine fun σ Hc hI_3=>opq fun G_3 hG_3=>?_;obtain ⟨v,rfl,sc,hpc⟩:=hI_3;refine hG_3 ?_;rw [A0,qCJ rfl] at hpc;have gll:Hc p5=some (.lst ((qEW p Ad).map V.int)):=hpc;have s2:=s1.trans sc;refine hN2 _ _ (cut fun N3 hN3=>?_);refine ⟨_,rfl,_,rfl,dn,p5,Af,p,Ad,ad,rfl,sc _ _ gdn,fun j hj=>sc _ _ (PA j hj),nf,lp,fun j=>?_,la,hla,gll,fun dd Ah H3 s3 fdd gdd hdd=>?_⟩
 ·unfold ndI;rw [A0];exact qJR wf n400 _
 have s13:=sc.trans s3;have s03:=s1.trans s13;have gdn3:=s13 _ _ gdn;have gll3:=s3 _ _ gll;have PA3:∀ j ∈ dps p,H3 (ad (j:Int))=some (.lst ((ndI Af p j).map V.int)):=fun j hj=>s13 _ _ (PA j hj);refine hN3 _ _ (cut fun N4 hN4=>?_);refine ⟨_,rfl,dn,_,rfl,gdn3,fun o=>⟨dn,o,_,rfl,qA1,fun p7 hp7=>?_⟩⟩;have nd5:p5 ≠ dn:=qBT gll3 gdn3 (by intro z;cases z)
 have ndd:dd ≠ dn:=(qA5 (sc _ _ gdn) fdd).symm;have s04:Same H (Ai H3 dn (.frz o (.dK (kvsV (intL (dps p)) fun z=>.ref (ad z))))):=qAG s03 fdn;have gdn4:(Ai H3 dn (.frz o (.dK (kvsV (intL (dps p)) fun z=>.ref (ad z))))) dn=some (.frz o (.dK (kvsV (intL (dps p)) fun z=>.ref (ad z)))):=qA1;have gll4:(Ai H3 dn (.frz o (.dK (kvsV (intL (dps p)) fun z=>.ref (ad z))))) p5=some (.lst ((qEW p Ad).map V.int)):=by rw [qA8 nd5];exact gll3
 have gdd4:(Ai H3 dn (.frz o (.dK (kvsV (intL (dps p)) fun z=>.ref (ad z))))) dd=some (.dK Ah):=by rw [qA8 ndd];exact gdd
 have PA4:∀ j ∈ dps p,(Ai H3 dn (.frz o (.dK (kvsV (intL (dps p)) fun z=>.ref (ad z))))) (ad (j:Int))=some (.lst ((ndI Af p j).map V.int)):=fun j hj=>by rw [qA8 (qBT (PA3 j hj) gdn3 (by intro z;cases z))];exact PA3 j hj
 generalize Ai H3 dn (.frz o (.dK (kvsV (intL (dps p)) fun z=>.ref (ad z))))=H4 at hp7 s04 gdn4 gll4 gdd4 PA4 ⊢;have lkv:(kvsV (intL (dps p)) fun z=>V.ref (ad z)).length=(dps p).length:=by unfold kvsV intL;rw [A0,A0]
 refine qWH (p:=p7) (a:=dn) (o:=o) (Ah:=kvsV (intL (dps p)) fun z=>.ref (ad z)) (fun i σ Hx=>∃ v:Option V,σ=[v,some (.ref dd)]/\Same H4 Hx/\Hx p7=some (.lst ((intL (((dps p).take i).filter (kB Af Ad p))).map V.int))) ?_ ?_ ?_ ?_
 ·exact ⟨none,rfl,qA2 hp7 _,qA1⟩
 ·refine fun i σ Hx hi hI_4=>opq fun G_4 hG_4=>?_;obtain ⟨v,rfl,sx,_⟩:=hI_4;refine hG_4 ?_;exact sx _ _ gdn4
 ·refine fun i k v σ Hx hk hI_5=>opq fun G_5 hG_5=>?_;obtain ⟨v0,rfl,sx,hpx⟩:=hI_5;obtain ⟨j,ej,rfl,_⟩:=qbK hk;refine hG_5 ?_;have hjm:=B4 ej;have gj:=mem_dps.mp hjm;have hi:=(A1.mp ej).1;refine ⟨_,rfl,_,rfl,dd,_,rfl,DGet.k (k:=F2 (j:Int)) (sx _ _ gdd4),_,rfl,?_⟩;rw [qDM ej];have kk:(valV Ah (F2 (j:Int))).isSome=kB Af Ad p j:=by
   rw [L7,hdd j,qYH gj];unfold kB;rw [E1,dB_iff];exact ⟨fun h=>⟨gj,h⟩,fun h=>h.2⟩
  rw [kk];by_cases c:kB Af Ad p j=true
  ·rw [c,if_pos rfl];refine iteT ?_;have lf:=C7 (kB Af Ad p) ((dps p).take i);rw [C1] at lf;refine ⟨_,rfl,_,hpx,qAX (by unfold intL;rw [A0,A0];omega),_,rfl,qAG sx hp7,?_⟩
   rw [qA1];unfold intL;rw [B1,B1]
   rfl
  ·rw [F9.mpr c];refine iteF ?_;refine ⟨_,rfl,sx,?_⟩;simpa using hpx
 refine fun σ Hx hI_6=>opq fun G_6 hG_6=>?_;obtain ⟨v0,rfl,sx,hpx⟩:=hI_6;refine hG_6 ?_;rw [lkv,G5] at hpx;have gk7:Hx p7=some (.lst ((intL (kps Af Ad p)).map V.int)):=hpx;have s05:=s04.trans sx;have gdn5:=sx _ _ gdn4;have gll5:=sx _ _ gll4;have PA5:∀ j ∈ kps Af Ad p,Hx (ad (j:Int))=some (.lst ((ndI Af p j).map V.int)):=fun j hj=>sx _ _ (PA4 j (B0.mp hj).1);clear hdd gdd4 PA4 gll4 gdn4;have f7:H p7=none:=s04.free hp7;have lkp:(kps Af Ad p).length<=1000:=F6 (C7 _ _) (by omega)
 have lik:∀ xs:List Nat,((intL xs).map V.int).length=xs.length:=fun xs=>by unfold intL;rw [A0,A0]
 have gget:∀ {Hy:Hp} {k:Nat},k ∈ kps Af Ad p->Hy dn=some (.frz o (.dK (kvsV (intL (dps p)) fun z=>.ref (ad z))))->DGet Hy dn (.int (k:Int)) (some (.ref (ad (k:Int)))):=fun {Hy k} hk g=>.inl ⟨_,F2 (k:Int),.inr ⟨o,g⟩,rfl,by
  have mi:((k:Nat):Int) ∈ intL (dps p):=F4.mpr ⟨k,(B0.mp hk).1,rfl⟩;rw [qLV (g:=fun z=>V.ref (ad z)) mi]⟩
 refine hN4 _ _ (cut fun N5 hN5=>?_);refine fun du hdu=>?_;have s6:=qA2 hdu (.dK []);have gu6:(Ai Hx du (.dK [])) du=some (.dK []):=qA1;have fdu:H du=none:=s05.free hdu;have s06:=s05.trans s6;have gk6:=s6 _ _ gk7;have gll6:=s6 _ _ gll5;have gdn6:=s6 _ _ gdn5;have PA6:∀ j ∈ kps Af Ad p,(Ai Hx du (.dK [])) (ad (j:Int))=some (.lst ((ndI Af p j).map V.int)):=fun j hj=>s6 _ _ (PA5 j hj);have ndu:dn ≠ du:=qA5 gdn5 hdu;have n7u:p7 ≠ du:=qA5 gk7 hdu;have n5u:p5 ≠ du:=qA5 gll5 hdu;generalize Ai Hx du (.dK [])=H6 at gu6 s06 gk6 gll6 gdn6 PA6 ⊢;refine hN5 _ _ (cut fun N6 hN6=>?_);refine ⟨_,rfl,p7,rfl,⟨_,SqL.of gk6⟩,qCF (a:=p7) (xs:=(intL (kps Af Ad p)).map V.int) (fun i σ Hy=>∃ (kv:List (Key × V)) (v9 v10:Option V),σ=[some (.ref a),some (.ref l),some (.ref t),some (.ref T),some (.ref dn),some (.ref p5),some (.ref dd),some (.ref p7),some (.ref du),v9,v10,none]/\Keep du du H6 Hy/\Hy du=some (.dK kv)/\kv.length<=400 * i/\∀ y:Nat,valV kv (F2 (y:Int))=(luF Af p ((kps Af Ad p).take i) y).map fun (k:Nat)=>V.int (k:Int))
  ⟨[],none,none,rfl,.refl,gu6,E8 _,fun y=>rfl⟩ (fun i σ Hy _ hP=>by obtain ⟨_,_,_,_,ky,_⟩:=hP;exact SqL.of (ky _ _ gk6 n7u n7u)) ?_ ?_⟩
 ·refine fun i x σ Hy hx hI_7=>opq fun G_7 hG_7=>?_;obtain ⟨kv,v9,v10,rfl,ky,gu,lk,hv⟩:=hI_7;obtain ⟨yk,ek,rfl⟩:=qBI hx;refine hG_7 ?_;unfold intL at ek;rw [B5] at ek;obtain ⟨k,ek',e1⟩:=U3.mp ek;subst e1;have hi:=(A1.mp ek').1;have hkm:=B4 ek';have gk':=(mem_kps.mp hkm).1;have gA:=PA6 k hkm;have nAu:ad (k:Int) ≠ du:=qBT gA gu6 (by intro z;cases z)
  have l4:(ndI Af p k).length<=400:=by unfold ndI;rw [A0];exact qJR wf n400 _
  refine ⟨_,rfl,_,rfl,dn,_,rfl,gget hkm (ky _ _ gdn6 ndu ndu),ad (k:Int),rfl,⟨_,SqL.of (ky _ _ gA nAu nAu)⟩,qCF (a:=ad (k:Int)) (xs:=(ndI Af p k).map V.int) (fun j σ Hz=>∃ (kv2:List (Key × V)) (v10:Option V),σ=[some (.ref a),some (.ref l),some (.ref t),some (.ref T),some (.ref dn),some (.ref p5),some (.ref dd),some (.ref p7),some (.ref du),some (.int (k:Int)),v10,none]/\Keep du du H6 Hz/\Hz du=some (.dK kv2)/\kv2.length<=400 * i+j/\∀ y:Nat,valV kv2 (F2 (y:Int))=if ((y:Nat):Int) ∈ (ndI Af p k).take j then some (.int (k:Int)) else (luF Af p ((kps Af Ad p).take i) y).map fun (k:Nat)=>V.int (k:Int))
   ⟨kv,v10,rfl,ky,gu,by omega,fun y=>by rw [if_neg (by simp)];exact hv y⟩ (fun j σ Hz _ hP=>by obtain ⟨_,_,_,kz,_⟩:=hP;exact SqL.of (kz _ _ gA nAu nAu)) ?_ ?_⟩
  ·refine fun j x σ Hz hx hI_8=>opq fun G_8 hG_8=>?_;obtain ⟨kv2,v10,rfl,kz,gz,lz,hz⟩:=hI_8;obtain ⟨y,ey,rfl⟩:=qBI hx;refine hG_8 ?_;have hj:=(A1.mp ey).1;refine ⟨_,rfl,_,rfl,_,rfl,du,_,rfl,DPut.k (k:=F2 y) gz (qAX (by omega)),?_⟩
   refine ⟨_,_,rfl,qLY kz,qA1,F6 (qBE _ _ _) (by omega),fun z=>?_⟩
   rw [qD8,D5,ey,D4];by_cases c:((z:Nat):Int)=y
   ·rw [if_pos (by rw [c]),if_pos (by rw [c];simp)]
   ·rw [if_neg fun e=>c (T6 e),hz z];by_cases c2:((z:Nat):Int) ∈ (ndI Af p k).take j
    ·rw [if_pos c2,if_pos (O8 _ c2)]
    ·rw [if_neg c2,if_neg (by simp [c2,c])]
  ·refine fun σ Hz hI_9=>opq fun G_9 hG_9=>?_;obtain ⟨kv2,v10,rfl,kz,gz,lz,hz⟩:=hI_9;refine hG_9 ?_;rw [A0] at lz hz;rw [G5] at hz;refine ⟨kv2,_,_,rfl,kz,gz,by omega,fun y=>?_⟩
   rw [hz y,D5,ek',D4,qWD];by_cases c:usB Af p y k=true
   ·rw [if_pos c,if_pos ((qT7 nf gk').mpr c)]
    rfl
   ·rw [if_neg c,if_neg fun z=>c ((qT7 nf gk').mp z)]
 refine fun σ Hy hI_10=>opq fun G_10 hG_10=>?_;obtain ⟨kv,v9,v10,rfl,ky,gu,lk,hv⟩:=hI_10;refine hG_10 ?_;rw [lik] at lk hv;rw [G5] at hv;refine hN6 _ _ (cut fun N7 hN7=>?_);have ll4:(qEW p Ad).length<=400:=by unfold qEW;rw [A0];exact la
 refine ⟨_,rfl,p5,rfl,⟨_,SqL.of (ky _ _ gll6 n5u n5u)⟩,qCF (a:=p5) (xs:=(qEW p Ad).map V.int) (fun i σ Hz=>∃ (kv2:List (Key × V)) (v9:Option V),σ=[some (.ref a),some (.ref l),some (.ref t),some (.ref T),some (.ref dn),some (.ref p5),some (.ref dd),some (.ref p7),some (.ref du),v9,v10,none]/\Keep du du H6 Hz/\Hz du=some (.dK kv2)/\kv2.length<=kv.length+i/\∀ y:Nat,valV kv2 (F2 (y:Int))=if ((y:Nat):Int) ∈ (qEW p Ad).take i then some .non else (luF Af p (kps Af Ad p) y).map fun (k:Nat)=>V.int (k:Int))
  ⟨kv,v9,rfl,ky,gu,by omega,fun y=>by rw [if_neg (by simp)];exact hv y⟩ (fun i σ Hz _ hP=>by obtain ⟨_,_,_,kz,_⟩:=hP;exact SqL.of (kz _ _ gll6 n5u n5u)) ?_ ?_⟩
 ·refine fun i x σ Hz hx hI_11=>opq fun G_11 hG_11=>?_;obtain ⟨kv2,v9,rfl,kz,gz,lz,hz⟩:=hI_11;obtain ⟨y,ey,rfl⟩:=qBI hx;refine hG_11 ?_;have hi:=(A1.mp ey).1;refine ⟨_,rfl,_,rfl,du,_,rfl,DPut.k (k:=F2 y) gz (qAX (by omega)),?_⟩
  refine ⟨_,_,rfl,qLY kz,qA1,F6 (qBE _ _ _) (by omega),fun z=>?_⟩
  rw [qD8,D5,ey,D4];by_cases c:((z:Nat):Int)=y
  ·rw [if_pos (by rw [c]),if_pos (by rw [c];simp)]
  ·rw [if_neg fun e=>c (T6 e),hz z];by_cases c2:((z:Nat):Int) ∈ (qEW p Ad).take i
   ·rw [if_pos c2,if_pos (O8 _ c2)]
   ·rw [if_neg c2,if_neg (by simp [c2,c])]
 refine fun σ Hz hI_12=>opq fun G_12 hG_12=>?_;obtain ⟨kv2,v9,rfl,kz,gz,lz,hz⟩:=hI_12;refine hG_12 ?_;rw [A0] at lz hz;rw [G5] at hz;have s0z:Same H Hz:=fun b u e=>kz b u (s06 b u e) (qA5 e fdu) (qA5 e fdu);refine hN7 _ _ (cut fun N8 hN8=>?_);refine ⟨(by show 0<=sizeLine;decide),fun lt hlt=>?_⟩
 have s8:=qA2 hlt (.lst []);have g8:(Ai Hz lt (.lst [])) lt=some (.lst (([]:List Addr).map V.ref)):=qA1;have gu8:=s8 _ _ gz;have gk8:=s8 _ _ (kz _ _ gk6 n7u n7u);have gdn8:=s8 _ _ (kz _ _ gdn6 ndu ndu);have PA8:∀ j ∈ kps Af Ad p,(Ai Hz lt (.lst [])) (ad (j:Int))=some (.lst ((ndI Af p j).map V.int)):=fun j hj=>by
  have nAu:ad (j:Int) ≠ du:=qBT (PA6 j hj) gu6 (by intro z;cases z)
  exact s8 _ _ (kz _ _ (PA6 j hj) nAu nAu)
 have s08:=s0z.trans s8;have flt:H lt=none:=s0z.free hlt;have nlu:lt ≠ du:=(qA5 gz hlt).symm;have n7t:p7 ≠ lt:=qA5 (kz _ _ gk6 n7u n7u) hlt;have nnt:dn ≠ lt:=qA5 (kz _ _ gdn6 ndu ndu) hlt;have nut:du ≠ lt:=qA5 gz hlt;have nAt:∀ j ∈ kps Af Ad p,ad (j:Int) ≠ lt:=fun j hj=>by
  have nAu:ad (j:Int) ≠ du:=qBT (PA6 j hj) gu6 (by intro z;cases z)
  exact qA5 (kz _ _ (PA6 j hj) nAu nAu) hlt
 generalize Ai Hz lt (.lst [])=H8 at g8 gu8 gk8 gdn8 PA8 s08 ⊢;refine hN8 _ _ (cut fun N9 hN9=>?_);have big:∀ i,(((kps Af Ad p).take i).map (pc Af Ad p)).flatten.length<=401000:=by
  intro i;have one:∀ k,(pc Af Ad p k).length<=401:=fun k=>by
   unfold pc;rw [B3,A0];have:=C7 (fun n=>!wn Af Ad p (k+1) n) (nd Af (wkO p k));have:=qJR wf n400 (wkO p k);omega
  have h:=qQ8 (Af:=[]) (B:=0) (fun _ z=>nomatch z);have gen:∀ L:List Nat,((L.map (pc Af Ad p)).flatten).length<=401 * L.length:=by
   intro L
   induction L with
   | nil=>simp
   | cons x L ih=>
    rw [D7,O3,A4,B3];have:=one x;omega
  have:=gen ((kps Af Ad p).take i);rw [C1] at this;have:401 * min i (kps Af Ad p).length<=401 * 1000:=A10 _ (by omega)
  omega
 refine ⟨_,rfl,p7,rfl,⟨_,SqL.of gk8⟩,qCF (a:=p7) (xs:=(intL (kps Af Ad p)).map V.int) (fun i σ Hw=>∃ (ts:List Addr) (v9 v10:Option V),σ=[some (.ref a),some (.ref l),some (.ref t),some (.ref T),some (.ref dn),some (.ref p5),some (.ref dd),some (.ref p7),some (.ref du),v9,v10,some (.ref lt)]/\Keep lt lt H8 Hw/\Hw lt=some (.lst (ts.map V.ref))/\MovL Hw ts (((kps Af Ad p).take i).map (pc Af Ad p)).flatten)
  ⟨[],v9,v10,rfl,.refl,g8,.nil⟩ (fun i σ Hw _ hP=>by obtain ⟨_,_,_,_,kw,_⟩:=hP;exact SqL.of (kw _ _ gk8 n7t n7t)) ?_ ?_⟩
 ·refine fun i x σ Hw hx hI_13=>opq fun G_13 hG_13=>?_;obtain ⟨ts,v9,v10,rfl,kw,gt,MT⟩:=hI_13;obtain ⟨yk,ek,rfl⟩:=qBI hx;refine hG_13 ?_;unfold intL at ek;rw [B5] at ek;obtain ⟨k,ek',e1⟩:=U3.mp ek;subst e1;have hkm:=B4 ek';have gk':=(mem_kps.mp hkm).1;have lts:=B2 MT;have bi:=big i;have same8:∀ {Hq:Hp},Keep lt lt H8 Hq->Same H Hq:=fun kq b u e=>kq b u (s08 b u e) (qA5 e flt) (qA5 e flt);obtain ⟨r,er,hr1⟩:=qDF ML gk';refine nmD fun D1 d1 _=>?_;refine cut fun M1 hM1=>?_;have hLw:=same8 kw _ _ hL;refine ⟨_,rfl,.inl ⟨rfl,_,SqL.of gt⟩,_,rfl,_,rfl,l,_,_,_,rfl,rfl,SqL.of hLw,qCG (by omega) (by rw [G3,B5,er];rfl),lt,_,_,rfl,rfl,gt,qAX (by rw [A0];omega),?_⟩
  rw [qBB];have kw1:=qLY (o:=.lst ((ts++[r]).map V.ref)) kw;have gt1:(Ai Hw lt (.lst ((ts++[r]).map V.ref))) lt=some (.lst ((ts++[r]).map V.ref)):=qA1;have MT1:MovL (Ai Hw lt (.lst ((ts++[r]).map V.ref))) (ts++[r]) ((((kps Af Ad p).take i).map (pc Af Ad p)).flatten++[dO (wkO p k)]):=by
   refine qBV (qB3 MT fun b m e=>?_) ?_
   ·rw [qA8 (qBT e gt (by intro z;cases z))];exact e
   ·rw [qA8 (qBT (same8 kw _ _ hr1) gt (by intro z;cases z))]
    exact same8 kw _ _ hr1
  generalize Ai Hw lt (.lst ((ts++[r]).map V.ref))=H9 at kw1 gt1 MT1 ⊢;refine hM1 _ _ ?_;have gA:=PA8 k hkm;have l4:(ndI Af p k).length<=400:=by unfold ndI;rw [A0];exact qJR wf n400 _
  refine ⟨_,rfl,_,rfl,dn,_,rfl,gget hkm (kw1 _ _ gdn8 nnt nnt),ad (k:Int),rfl,⟨_,SqL.of (kw1 _ _ gA (nAt k hkm) (nAt k hkm))⟩,qCF (a:=ad (k:Int)) (xs:=(ndI Af p k).map V.int) (fun j σ Hv=>∃ (ts:List Addr) (v10:Option V),σ=[some (.ref a),some (.ref l),some (.ref t),some (.ref T),some (.ref dn),some (.ref p5),some (.ref dd),some (.ref p7),some (.ref du),some (.int (k:Int)),v10,some (.ref lt)]/\Keep lt lt H8 Hv/\Hv lt=some (.lst (ts.map V.ref))/\MovL Hv ts ((((kps Af Ad p).take i).map (pc Af Ad p)).flatten++([dO (wkO p k)]++((((nd Af (wkO p k)).take j).filter fun n=>!wn Af Ad p (k+1) n).map cL))))
   ⟨ts++[r],v10,rfl,kw1,gt1,by simpa using MT1⟩ (fun j σ Hv _ hP=>by obtain ⟨_,_,_,kv,_⟩:=hP;exact SqL.of (kv _ _ gA (nAt k hkm) (nAt k hkm))) ?_ ?_⟩
  ·refine fun j x σ Hv hx hI_14=>opq fun G_14 hG_14=>?_;obtain ⟨ts,v10,rfl,kv,gtv,MTv⟩:=hI_14;obtain ⟨y,ey,rfl⟩:=qBI hx;refine hG_14 ?_;have hj:=(A1.mp ey).1;unfold ndI at ey;rw [B5] at ey;obtain ⟨n,en,e2⟩:=U3.mp ey;have hn:=B4 en;obtain ⟨i',ei⟩:=nf k _ gk' n hn;rw [ei,U5] at e2;subst e2;obtain ⟨tc,k',ekk⟩:=qLA (Ad:=Ad) wf mo hkm hn ei;have guv:=kv _ _ gu8 nut nut;have hg:=DGet.k (k:=F2 (i':Int)) guv;obtain ⟨i1,gi'⟩:=qD4 ei;have val:valV kv2 (F2 (i':Int))=some (if ((i':Nat):Int) ∈ qEW p Ad then V.non else V.int (k':Int)):=by
    rw [hz i',ekk];by_cases c:((i':Nat):Int) ∈ qEW p Ad
    ·rw [if_pos c,if_pos c]
    ·rw [if_neg c,if_neg c];rfl
   rw [val] at hg;have flatE:decide ((if ((i':Nat):Int) ∈ qEW p Ad then V.non else V.int (k':Int))=V.int (k:Int))=!wn Af Ad p (k+1) n:=by
    rw [L7,decide_eq_true_eq,R9,tc,ekk,<- qT8 hla];by_cases c:((i':Nat):Int) ∈ qEW p Ad
    ·rw [if_pos c];exact ⟨fun z=>(nomatch z),fun z=>absurd c z.1⟩
    ·rw [if_neg c]
     constructor
     ·intro z;have:(k':Int)=(k:Int):=V.int.inj z;exact ⟨c,by congr 1;omega⟩
     ·refine fun hI_15=>opq fun G_15 hG_15=>?_;obtain ⟨_,z⟩:=hI_15;refine hG_15 ?_;rw [A8 z]
   have lts:=B2 MTv;have bi2:ts.length<=402000:=by
    rw [lts,A4,A4,A0];have:=C7 (fun n=>!wn Af Ad p (k+1) n) ((nd Af (wkO p k)).take j);rw [C1] at this;have:=qJR wf n400 (wkO p k);show _+(1+_)<=_;omega
   refine nmI fun D2 d2 _=>?_;refine ⟨_,rfl,_,rfl,du,_,rfl,hg,_,rfl,(by split <;> rfl),_,rfl,?_⟩
   rw [flatE];cases b:wn Af Ad p (k+1) n with
   | true=>
    refine iteF ?_;exact d2 _ _ ⟨ts,_,rfl,kv,gtv,by rw [qDM en,b];simpa using MTv⟩
   | false=>
    refine iteT ?_;obtain ⟨r2,er2,hr2⟩:=qDF ML gi';have hLv:=same8 kv _ _ hL;have hr2v:=same8 kv _ _ hr2;refine ⟨_,rfl,.inl ⟨rfl,_,SqL.of gtv⟩,_,rfl,_,rfl,l,_,_,_,rfl,rfl,SqL.of hLv,qCG (by omega) (by rw [G3,B5,er2];rfl),r2,_,_,_,rfl,rfl,SqT.of hr2v,rfl,(by show 2<=sizeLine;decide),fun Tc hTc=>?_⟩
    have sTc:=qA2 hTc (.tup [.str (C4 "clear"),.int n]);have gtc:=sTc _ _ gtv;refine ⟨lt,_,_,rfl,rfl,gtc,qAX (by rw [A0];omega),?_⟩
    rw [qBB];refine d2 _ _ ⟨ts++[Tc],_,rfl,qLY (kv.trans (.of_same sTc)),qA1,?_⟩;rw [qDM en,b];have e9:∀ (F:List Mv) (X:List Int),F++([dO (wkO p k)]++(X++[n]).map cL)=(F++([dO (wkO p k)]++X.map cL))++[cL n]:=fun F X=>by simp
    rw [if_pos (by rfl),e9]
    refine qBV (qB3 MTv fun b m e=>?_) ?_
    ·rw [qA8 (qBT (sTc _ _ e) gtc (by intro z;cases z))];exact sTc _ _ e
    ·rw [qA8 (qA5 gtv hTc).symm];exact qA1
  ·refine fun σ Hv hI_16=>opq fun G_16 hG_16=>?_;obtain ⟨ts,v10,rfl,kv,gtv,MTv⟩:=hI_16;refine hG_16 ?_;refine d1 _ _ ⟨ts,_,_,rfl,kv,gtv,?_⟩;have ln:((ndI Af p k).map V.int).length=(nd Af (wkO p k)).length:=by unfold ndI;rw [A0,A0]
   rw [ln,G5] at MTv;rw [D5,ek',D4,B1,A11];simpa [pc] using MTv
 ·refine fun σ Hw hI_17=>opq fun G_17 hG_17=>?_;obtain ⟨ts,v9,v10,rfl,kw,gt,MT⟩:=hI_17;refine hG_17 ?_;rw [lik,G5,<- qS3] at MT;have s0w:Same H Hw:=fun b u e=>kw b u (s08 b u e) (qA5 e flt) (qA5 e flt);exact hN9 _ _ ⟨_,rfl,q lt Hw s0w flt ⟨ts,gt,MT⟩⟩
end
section
variable {P:Program} {w:World} {K:PySem.W.Frag} {mg:Str->Option Value} {base:Heap} {f:Addr} {fd:FuncData}
theorem sc_Lstays:FnScope ["_law_plan","_law_found","_law_place","_law_move","_law_ends"] ["_law_plan"] (qAH qIN):=⟨rfl,rfl,rfl,by decide +kernel,rfl,by decide +kernel,by decide +kernel⟩
theorem ok_Lstays (F:Fun K "_law_stays" "_law_stays" qIN f fd) (qAD:mg "enumerate" = none) (qAN:mg "range" = none) (qAU:mg "len" = none):FnOk P w K mg base CX0 1 f fd ["_law_plan"] qOL:=by
 refine F.ok sc_Lstays (fun vs H Q E h=>?_) (fun cdv A outer s H vs Q E hr h=>?_)
 ·obtain ⟨l,p,rfl,_⟩:=h
  rfl
 obtain ⟨l,p,rfl,⟨rs,hL,ML⟩,lp,q⟩:=h;have hu64:=hr.units;refine ⟨_,(qA4 (qAE (i:=1) sc_Lstays.nd rfl (C5 rfl) (qBG qA3)) (qA4 (qBS C9 rfl (qE6 rfl qAD qBD (qA0 (pv 0) qA3)) (qDU rfl (qAK (qAA (i:=2) sc_Lstays.nd rfl (C5 rfl)) (qAK (qAA (i:=3) sc_Lstays.nd rfl (X7 rfl)) qC4))) (qA6 (qBW (qAI qE8 (qAV qB0 (pv 3) qA7 (fun _ _=>rfl)) qB9 (qAY _)) (qA4 (qKD (i:=4) sc_Lstays.nd rfl rfl rfl (lcs (own:=["_law_k"]) (fv:=[0,3]) (by kernel_rfl)) (qJL rfl qAN (qA0 (qB5 qDK (pv 2) qA7) (qA0 (qA9 qAB rfl qAU qBA (qA0 (pv 0) qA3)) qA3))) (fun z1=>qAA (i:=0) (qCA (by kernel_rfl)) rfl (C5 rfl)) (fun z1=>(qD7 (qAI (qND (K:=K) rfl hu64) (qAV (qEX (K:=K) rfl) (pv 1) (pv 0) (fun _ _=>rfl)) (qBC (qA0 qB9 (qA0 (qAV (qFJ (K:=K) rfl) (pv 2) qA7 (fun _ _=>rfl)) qA3))) (qAY _)))) (fun z1=>(pv 0)) (by kernel_rfl)) (qA6 (qCC (qGJ E2 E3 E4 qB6 (pv 1) (qA0 (qBC (qA0 (pv 2) (qA0 (qAV qC5 (qB5 qKU (pv 4) (qBG (qA0 (qA9 qAB rfl qAU qBA (qA0 (pv 0) qA3)) qA3))) qA7 (fun _ _=>rfl)) (qA0 (qAV qB0 (pv 3) qA7 (fun _ _=>rfl)) qA3)))) qA3))))) qAM))) (qA6 (qAL (pv 1))))),?_⟩
 try dsimp only [Cx.nox,Cx.wish,cxOf]
 have lrs:=B2 ML;refine cut fun N0 hN0=>?_;refine ⟨(by show 0<=sizeLine;decide),fun lf hlf=>?_⟩
 have s1:=qA2 hlf (.lst []);have g1:(Ai H lf (.lst [])) lf=some (.lst (([]:List Addr).map V.ref)):=qA1;generalize Ai H lf (.lst [])=H1 at s1 g1 ⊢;refine hN0 _ _ (cut fun N1 hN1=>?_);refine ⟨_,rfl,l,rfl,⟨_,SqL.of (s1 _ _ hL)⟩,qG5 (a:=l) (xs:=rs.map V.ref) (fun i σ Hc=>∃ (ts:List Addr) (v2 v3 v4:Option V),σ=[some (.ref l),some (.ref lf),v2,v3,v4]/\Same H Hc/\Hc lf=some (.lst (ts.map V.ref))/\Paired (qL6 Hc p) ts ((C8 i).filter (dpB p)))
  ⟨[],none,none,none,rfl,s1,g1,.nil⟩ (fun i σ Hc _ hP=>by obtain ⟨_,_,_,_,_,sc,_⟩:=hP;exact SqL.of (sc _ _ hL)) ?_ ?_⟩
 ·refine fun i x σ Hc T hx hI_1 hT=>opq fun G_1 hG_1=>?_;obtain ⟨ts,v2,v3,v4,rfl,sc,gf,PT⟩:=hI_1;obtain ⟨r,er,rfl⟩:=qBX hx;obtain ⟨⟨wd,w⟩,em,hm⟩:=qAO ML er;refine hG_1 ?_;dsimp only at hm;have hi:=(A1.mp em).1;have sT:=qA2 hT (.tup [.int (i:Int),.ref r]);have sc1:=sc.trans sT;have gf1:=sT _ _ gf;have gT:SqT K (Ai Hc T (.tup [.int (i:Int),.ref r])) T [.int (i:Int),.ref r]:=SqT.of qA1;have PT1:Paired (qL6 (Ai Hc T (.tup [.int (i:Int),.ref r])) p) ts ((C8 i).filter (dpB p)):=qB3 PT fun b j e=>sT _ _ e;generalize Ai Hc T (.tup [.int (i:Int),.ref r])=H3 at sc1 gf1 gT PT1 ⊢;refine ⟨T,_,rfl,gT,rfl,_,_,rfl,_,_,rfl,rfl,?_⟩;refine ⟨_,rfl,r,_,_,_,rfl,rfl,SqT.of (sc1 _ _ hm),rfl,rfl,_,rfl,?_⟩;refine ite2 (fun ck=>?_) (fun ck=>?_)
  ·have hd:wd = "do":=V.str.inj (of_decide_eq_true ck)
   subst hd;have em':p[i]?=some (dO w):=em;have ewk:=qD0 em';refine nmT fun D1 d1 _=>?_;refine cut fun M1 hM1=>?_;have hL3:=sc1 _ _ hL;refine ⟨_,rfl,_,_,rfl,rfl,_,rfl,l,_,rfl,.inl (SqL.of hL3),?_⟩;rw [A0,lrs];refine ⟨_,_,rfl,⟨by omega,by omega,by omega,by omega⟩,fun p4 hp4=>?_⟩
   have n4f:p4 ≠ lf:=(qA5 gf1 hp4).symm;refine qDW (p:=p4) (lo:=(i:Int)+1) (n:=((p.length:Int) - ((i:Int)+1)).toNat) (fun j σ Hd=>∃ v:Option V,σ=[v,some (.ref l),some (.ref r)]/\Same H3 Hd/\Hd p4=some (.lst ((intL ((J9 (i+1) j).filter fun k=>decide (p[k]?=some (cL w)))).map V.int))) ?_ ?_ ?_
   ·exact ⟨none,rfl,qA2 hp4 _,qA1⟩
   ·refine fun j σ Hd hj hI_2=>opq fun G_2 hG_2=>?_;obtain ⟨v,rfl,sd,hpd⟩:=hI_2;refine hG_2 ?_;have hkl:i+1+j<p.length:=by omega
    have gk:=A3 hkl;obtain ⟨⟨z,n⟩,ez⟩:∃ m,p[i+1+j]?=some m:=⟨_,gk⟩;obtain ⟨rk,erk,hrk⟩:=qDF ML ez;dsimp only at hrk;have ek:(i:Int)+1+(j:Int)=((i+1+j:Nat):Int):=by omega
    refine ⟨_,rfl,_,rfl,l,_,_,_,rfl,rfl,SqL.of (sd _ _ hL3),qCG (by omega) (by rw [ek,G3,B5,erk];rfl),?_⟩
    refine ⟨_,rfl,r,_,_,_,rfl,rfl,SqT.of (sd _ _ (sc1 _ _ hm)),rfl,(by show 2<=sizeLine;decide),fun Tc hTc=>?_⟩
    have sTc:=qA2 hTc (.tup [.str (C4 "clear"),.int w]);refine ⟨rk,Tc,z,_,n,w,rfl,rfl,SqT.of (sTc _ _ (sd _ _ (sc1 _ _ hrk))),SqT.of qA1,_,rfl,?_⟩;have sd2:=sd.trans sTc;have hpd2:=sTc _ _ hpd;generalize Ai Hd Tc (.tup [.str (C4 "clear"),.int w])=H5 at sd2 hpd2 ⊢;have ed:decide (((z,n):Str × Int)=(C4 "clear",w))=decide (p[i+1+j]?=some (cL w)):=by
     rw [ez];exact decide_eq_decide.mpr ⟨fun e=>congrArg some e,fun e=>A8 e⟩
    rw [ed];have er:J9 (i+1) (j+1)=J9 (i+1) j++[i+1+j]:=by rw [l8];simp
    rw [er,L6];by_cases c:p[i+1+j]?=some (cL w)
    ·rw [decide_eq_true c];refine iteT ?_;have lf2:=C7 (fun k=>decide (p[k]?=some (cL w))) (J9 (i+1) j);rw [Z5] at lf2;refine ⟨_,rfl,_,hpd2,qAX (by unfold intL;rw [A0,A0];omega),_,rfl,qAG sd2 hp4,?_⟩
     rw [qA1,show ([i+1+j].filter fun k=>decide (p[k]?=some (cL w)))=[i+1+j] by simp [c],ek]
     unfold intL;rw [B1,B1]
     rfl
    ·rw [decide_eq_false c];refine iteF ?_;refine ⟨_,rfl,sd2,?_⟩;rw [show ([i+1+j].filter fun k=>decide (p[k]?=some (cL w)))=[] by simp [c],O7]
     exact hpd2
   refine fun σ Hd hI_3=>opq fun G_3 hG_3=>?_;obtain ⟨v,rfl,sd,hpd⟩:=hI_3;refine hG_3 ?_;rw [show ((p.length:Int) - ((i:Int)+1)).toNat=p.length - (i+1) by omega] at hpd
   have gen:Hd p4=some (.lst ((intL (enL p i w)).map V.int)):=hpd;have gf4:=sd _ _ gf1;have sc4:=sc1.trans sd;refine hM1 _ _ ?_;have lel:(enL p i w).length<=1000:=by
    unfold enL;have:=C7 (fun k=>decide (p[k]?=some (cL w))) (J9 (i+1) (p.length - (i+1)));rw [Z5] at this;omega
   refine ⟨_,rfl,.inl ⟨rfl,_,SqL.of gf4⟩,_,rfl,_,rfl,_,rfl,l,_,rfl,.inl (SqL.of (sc4 _ _ hL)),?_⟩;rw [A0,lrs];refine ⟨(by show 1<=sizeLine;decide),fun b1 hb1=>?_⟩
   have sb:=qA2 hb1 (.lst [.int (p.length:Int)]);refine ⟨p4,b1,_,_,rfl,rfl,sb _ _ gen,qA1,(by unfold intL;rw [A0,A0,sizeLine_eq];show _+1<=_;omega),fun c1 hc1=>?_⟩
   have sc2:=sb.trans (qA2 hc1 (.lst ((intL (enL p i w)).map V.int++[.int (p.length:Int)])));have e5:(intL (enL p i w)).map V.int++[V.int (p.length:Int)]=(intL (enL p i w++[p.length])).map V.int:=by unfold intL;rw [B1,B1];rfl
   have e6:atI ((intL (enL p i w)).map V.int++[V.int (p.length:Int)]) 0=some (.int (eN p i w:Nat)):=by
    rw [e5];refine qCG (by decide) ?_
    unfold intL eN;cases enL p i w <;> rfl
   refine ⟨c1,_,_,_,rfl,rfl,SqL.of qA1,e6,_,rfl,r,_,_,_,rfl,rfl,SqT.of (sc2 _ _ (sc4 _ _ hm)),rfl,(by show 3<=sizeLine;decide),fun T3 hT3=>?_⟩
   have s3:=sc2.trans (qA2 hT3 (.tup [.int (i:Int),.int (eN p i w:Nat),.int w]));have gf5:=s3 _ _ gf4;have lts:=B2 PT1;have lf3:=C7 (dpB p) (C8 i);rw [T5] at lf3;refine ⟨lf,_,_,rfl,rfl,gf5,qAX (by rw [A0];omega),?_⟩
   rw [qBB];refine d1 _ _ ⟨ts++[T3],_,_,_,rfl,qAG (sc4.trans s3) hlf,qA1,?_⟩;rw [qG9 hi,if_pos (qNY em')];refine qBV (qB3 PT1 fun b j e=>?_) ?_
   ·have e2:=s3 _ _ (sd _ _ e);show (Ai _ lf _) b=_;rw [qA8 (qBT e2 gf5 (by intro z;cases z))]
    exact e2
   ·show (Ai _ lf _) T3=_;rw [qA8 (qA5 (sc2 _ _ gf4) hT3).symm,qA1,ewk]
  ·have hd:¬ wd = "do":=fun e=>ck (decide_eq_true (congrArg V.str e))
   have nb:dpB p i=false:=F9.mpr fun z=>hd (by
    have:=dB_iff.mp z;rw [em] at this;exact congrArg b8 (A8 this))
   refine ⟨ts,_,_,_,rfl,sc1,gf1,?_⟩;rw [qG9 hi,nb];simpa using PT1
 ·refine fun σ Hc hI_4=>opq fun G_4 hG_4=>?_;obtain ⟨ts,v2,v3,v4,rfl,sc,gf,PT⟩:=hI_4;refine hG_4 ?_;rw [A0,lrs] at PT;exact hN1 _ _ ⟨_,rfl,q lf ts Hc sc hlf gf PT⟩
theorem sc_Lneeding:FnScope ["_law_net_here","_law_plan","_law_stay","_law_begin_here","_law_end","_law_work"] ["_law_net_here","_law_plan","_law_stay"] (qAH qFY):=⟨rfl,rfl,rfl,by decide +kernel,rfl,by decide +kernel,by decide +kernel⟩
theorem ok_Lneeding (F:Fun K "_law_needing" "_law_needing" qFY f fd) (qAN:mg "range" = none):FnOk P w K mg base CX0 1 f fd ["_law_net_here","_law_plan","_law_stay"] qGR:=by
 refine F.ok sc_Lneeding (fun vs H Q E h=>?_) (fun cdv A outer s H vs Q E hr h=>?_)
 ·obtain ⟨a,l,T,Af,p,i,e,w,rfl,_⟩:=h
  rfl
 obtain ⟨a,l,T,Af,p,i,e,w,rfl,⟨hN,wf,n400,⟨rs,hL,ML⟩,lp,mo⟩,hT,ie,el,q⟩:=h;refine ⟨_,(qA4 (qI7 (pv 2) (qDU rfl (qAK (qAA (i:=3) sc_Lneeding.nd rfl (C5 rfl)) (qAK (qAA (i:=4) sc_Lneeding.nd rfl (C5 rfl)) (qAK (qAA (i:=5) sc_Lneeding.nd rfl (X7 rfl)) qC4))))) (qA6 (qAL (qF8 rfl (lcs (own:=["_law_k"]) (fv:=[1,5,0]) (by kernel_rfl)) (qJL rfl qAN (qA0 (qB5 qDK (pv 3) qA7) (qA0 (pv 4) qA3))) (fun z1=>qAA (i:=0) (qCA (by kernel_rfl)) rfl (C5 rfl)) (fun z1=>(qD7 (PW.pt (qKP (qAI qE8 (qAV (qFJ (K:=K) rfl) (qAV (qEX (K:=K) rfl) (pv 1) (pv 0) (fun _ _=>rfl)) qA7 (fun _ _=>rfl)) qB9 (qAY _)) (qHQ (qAI (qQ1 (K:=K) rfl) (pv 2) (qAV (qFJ (K:=K) rfl) (pv 3) (qAV (qFJ (K:=K) rfl) (qAV (qEX (K:=K) rfl) (pv 1) (pv 0) (fun _ _=>rfl)) qA7 (fun _ _=>rfl)) (fun _ _=>rfl)) (by with_unfolding_all rfl))))))) (fun z1=>(pv 0)))))),?_⟩
 try dsimp only [Cx.nox,Cx.wish,cxOf]
 obtain ⟨ns0,hA,NL⟩:=id hN;refine cut fun N0 hN0=>?_;refine ⟨_,rfl,T,_,rfl,SqT.of hT,rfl,_,_,rfl,_,_,rfl,_,_,rfl,rfl,?_⟩;refine hN0 _ _ ?_;refine ⟨_,rfl,_,_,rfl,rfl,_,rfl,_,_,rfl,⟨by omega,by omega,by omega,by omega⟩,fun p4 hp4=>?_⟩
 refine qDW (p:=p4) (lo:=(i:Int)+1) (n:=((e:Int) - ((i:Int)+1)).toNat) (fun j σ Hd=>∃ v:Option V,σ=[v,some (.ref l),some (.int w),some (.ref a)]/\Same H Hd/\Hd p4=some (.lst ((intL ((J9 (i+1) j).filter fun k=>dpB p k && decide (w ∈ nd Af (wkO p k)))).map V.int))) ?_ ?_ ?_
 ·exact ⟨none,rfl,qA2 hp4 _,qA1⟩
 ·refine fun j σ Hd hj hI_1=>opq fun G_1 hG_1=>?_;obtain ⟨v,rfl,sd,hpd⟩:=hI_1;refine hG_1 ?_;have hkl:i+1+j<p.length:=by omega
  obtain ⟨⟨z,n⟩,ez⟩:∃ m,p[i+1+j]?=some m:=⟨_,A3 hkl⟩;obtain ⟨rk,erk,hrk⟩:=qDF ML ez;dsimp only at hrk;have ek:(i:Int)+1+(j:Int)=((i+1+j:Nat):Int):=by omega
  have gat:atI (rs.map V.ref) ((i:Int)+1+(j:Int))=some (.ref rk):=qCG (by omega) (by rw [ek,G3,B5,erk];rfl)
  have er:J9 (i+1) (j+1)=J9 (i+1) j++[i+1+j]:=by rw [l8];simp
  have off:(dpB p (i+1+j) && decide (w ∈ nd Af (wkO p (i+1+j))))=false->∃ v':Option V,[some (.int ((i:Int)+1+(j:Int))),some (.ref l),some (.int w),some (.ref a)]=[v',some (.ref l),some (.int w),some (.ref a)]/\Same H Hd/\Hd p4=some (.lst ((intL ((J9 (i+1) (j+1)).filter fun k=>dpB p k && decide (w ∈ nd Af (wkO p k)))).map V.int)):=by
   intro c;refine ⟨_,rfl,sd,?_⟩;rw [er,L6,show ([i+1+j].filter fun k=>dpB p k && decide (w ∈ nd Af (wkO p k)))=[] by simp [c],O7]
   exact hpd
  refine ⟨_,rfl,_,rfl,l,_,_,_,rfl,rfl,SqL.of (sd _ _ hL),gat,rk,_,_,_,rfl,rfl,SqT.of (sd _ _ hrk),rfl,rfl,_,rfl,?_⟩;refine ite2 (fun ck=>?_) (fun ck=>?_)
  ·have hd:z = "do":=V.str.inj (of_decide_eq_true ck)
   subst hd;have em':p[i+1+j]?=some (dO n):=ez;have ewk:=qD0 em';have db:=qNY em';obtain ⟨_,n0,n1⟩:=mo _ (B4 ez);dsimp only at n0 n1;have hw:n.toNat<Af.length:=by omega
   have hz:=A3 hw;obtain ⟨rt,h3,h4⟩:=NL.get hz;have en:=qD3 hz;generalize Af[n.toNat]=ys at h4 hz en;refine ⟨_,rfl,_,rfl,_,rfl,_,rfl,l,_,_,_,rfl,rfl,SqL.of (sd _ _ hL),gat,rk,_,_,_,rfl,rfl,SqT.of (sd _ _ hrk),rfl,a,_,_,_,rfl,rfl,SqT.of (sd _ _ hA),qCG n0 (by rw [B5,h3];rfl),rt,_,rfl,.inr (SqT.of (sd _ _ h4)),rfl,qB8 ys,_,rfl,?_⟩
   show (if (inV (.int w) (ys.map V.int))=true then _ else _)
   rw [qC8];by_cases c:w ∈ ys
   ·rw [decide_eq_true c];refine iteT ?_;have on:(dpB p (i+1+j) && decide (w ∈ nd Af (wkO p (i+1+j))))=true:=by rw [db,ewk,en,decide_eq_true c];rfl
    have lf2:=C7 (fun k=>dpB p k && decide (w ∈ nd Af (wkO p k))) (J9 (i+1) j);rw [Z5] at lf2;refine ⟨_,rfl,_,hpd,qAX (by unfold intL;rw [A0,A0];omega),_,rfl,qAG sd hp4,?_⟩
    rw [qA1,er,L6,show ([i+1+j].filter fun k=>dpB p k && decide (w ∈ nd Af (wkO p k)))=[i+1+j] by simp [on],ek]
    unfold intL;rw [B1,B1]
    rfl
   ·rw [decide_eq_false c];refine iteF ?_;exact off (by rw [ewk,en,decide_eq_false c,m5])
  ·have hd:¬ z = "do":=fun e=>ck (decide_eq_true (congrArg V.str e))
   refine iteF ?_;have nb:dpB p (i+1+j)=false:=F9.mpr fun y=>hd (by
    have:=dB_iff.mp y;rw [ez] at this;exact congrArg b8 (A8 this))
   exact off (by rw [nb];rfl)
 refine fun σ Hd hI_2=>opq fun G_2 hG_2=>?_;obtain ⟨v,rfl,sd,hpd⟩:=hI_2;refine hG_2 ?_;rw [show ((e:Int) - ((i:Int)+1)).toNat=e - (i+1) by omega] at hpd
 exact q p4 Hd sd hp4 hpd
end
section
variable {P:Program} {w:World} {K:PySem.W.Frag} {mg:Str->Option Value} {base:Heap} {f:Addr} {fd:FuncData} {qG7 qDI:Addr} {qHB qEZ:FuncData}
theorem sc_Lidle:FnScope ["_law_net_here","_law_plan","_law_asked_here","_law_stay","_law_lasting"] ["_law_net_here","_law_plan","_law_asked_here"] (qAH qLJ):=⟨rfl,rfl,rfl,by decide +kernel,rfl,by decide +kernel,by decide +kernel⟩
theorem ok_Lidle (F:Fun K "_law_idle" "_law_idle" qLJ f fd) (qE4:Clb P w K mg base 1 qG7 qHB "_law_stays" ["_law_plan"] qOL) (qCI:Clb P w K mg base 1 qDI qEZ "_law_needing" ["_law_net_here","_law_plan","_law_stay"] qGR) (qAU:mg "len" = none):FnOk P w K mg base CX0 2 f fd ["_law_net_here","_law_plan","_law_asked_here"] qXK:=by
 refine F.ok sc_Lidle (fun vs H Q E h=>?_) (fun cdv A outer s H vs Q E hr h=>?_)
 ·obtain ⟨a,l,t,Af,p,Ad,tt,rfl,_⟩:=h
  rfl
 obtain ⟨a,l,t,Af,p,Ad,tt,rfl,PLW,RP,ha,hT,q1,q2⟩:=h;have hu0:=hr.units0;refine ⟨_,(qA4 (qBS C9 rfl (qC3 (qAR qE4 hr rfl (qA0 (pv 1) qA3))) (qAA (i:=3) sc_Lidle.nd rfl (C5 rfl)) (qA4 (qAE (i:=4) sc_Lidle.nd rfl (C5 rfl) (qI8 (qDJ qE8 (qAV qB0 (pv 3) qA7 (fun _ _=>rfl)) (qA9 qAB rfl qAU qBA (qA0 (pv 1) qA3)) (qAY _)) (qKR (qDJ qEJ (qAV qB0 (pv 3) qA7 (fun _ _=>rfl)) (pv 2) (by with_unfolding_all rfl))))) (qA6 (qBW (PW.pt (qKP (qGE (qD2 (pv 4))) (qHQ (qAI (qNC hu0) (qAR qCI hr rfl (qA0 (pv 0) (qA0 (pv 1) (qA0 (pv 3) qA3)))) (qBG qA3) (qAY _))))) (qA6 (qAL (pv 3))) qAM)))) (qA6 (qAL qJN))),?_⟩
 try dsimp only [Cx.nox,Cx.wish,cxOf]
 obtain ⟨hN,wf,n400,⟨rs,hL,ML⟩,lp,mo⟩:=id PLW;have lrs:=B2 ML;have PLs:∀ {H':Hp},Same H H'->qXD H' a l Af p:=fun k=>⟨hN.same k,wf,n400,⟨rs,k _ _ hL,MovL.same ML k⟩,lp,mo⟩;refine cut fun N0 hN0=>?_;refine ⟨_,rfl,l,p,rfl,⟨rs,hL,ML⟩,lp,fun ls ts H1 s1 f1 g1 PT=>?_⟩;have lts:=B2 PT;refine ⟨ls,rfl,⟨_,SqL.of g1⟩,qCF (a:=ls) (xs:=ts.map V.ref) (fun i σ Hc=>∃ (v3 v4:Option V),σ=[some (.ref a),some (.ref l),some (.ref t),v3,v4]/\Same H1 Hc/\∀ j ∈ (dps p).take i,idB Af Ad p j=false)
  ⟨none,none,rfl,.refl _,fun j hj=>by simp at hj⟩ (fun i σ Hc _ hP=>by obtain ⟨_,_,_,sc,_⟩:=hP;exact SqL.of (sc _ _ g1)) ?_ ?_⟩
 ·refine fun i x σ Hc hx hI_1=>opq fun G_1 hG_1=>?_;obtain ⟨v3,v4,rfl,sc,no⟩:=hI_1;obtain ⟨T,eT,rfl⟩:=qBX hx;obtain ⟨k,ek,hk⟩:=qAO PT eT;refine hG_1 ?_;have hkm:=B4 ek;have gk:=mem_dps.mp hkm;have hkl:=(A1.mp gk).1;obtain ⟨e1,e2,_,_⟩:=qP4 (w:=wkO p k) hkl;have s2:=s1.trans sc;have gTc:Hc T=some (.tup [.int (k:Int),.int (eN p k (wkO p k):Nat),.int (wkO p k)]):=sc _ _ hk;refine cut fun M1 hM1=>?_;refine ⟨_,rfl,T,_,_,_,rfl,rfl,SqT.of gTc,rfl,_,rfl,l,_,rfl,.inl (SqL.of (s2 _ _ hL)),rfl,_,rfl,?_⟩;rw [A0,lrs];have le:=qZG RP ha gk;have after:M1 [some (.ref a),some (.ref l),some (.ref t),some (.ref T),some (.bl (lsB p Ad k))] Hc:=by
   refine hM1 _ _ ?_;refine ⟨_,rfl,_,rfl,?_⟩;have idf:idB Af Ad p k=false->∀ Hd,Same H1 Hd->∃ (v3 v4:Option V),[some (V.ref a),some (.ref l),some (.ref t),some (.ref T),some (.bl (lsB p Ad k))]=[some (.ref a),some (.ref l),some (.ref t),v3,v4]/\Same H1 Hd/\∀ j ∈ (dps p).take (i+1),idB Af Ad p j=false:=by
    intro c Hd sd;refine ⟨_,_,rfl,sd,fun j hj=>?_⟩;rw [D5,ek,D4] at hj;rcases B8.mp hj with z | z
    ·exact no j z
    ·rw [A6.mp z];exact c
   cases b:lsB p Ad k with
   | true=>
    refine iteF ?_;refine iteF ?_;have:=idf (by unfold idB;rw [b];rfl) Hc sc
    rw [b] at this;exact this
   | false=>
    refine iteT ?_;refine ⟨_,rfl,_,rfl,_,rfl,a,l,T,Af,p,k,eN p k (wkO p k),wkO p k,rfl,PLs s2,gTc,e1,e2,fun ln H3 s3 f3 g3=>?_⟩;refine ⟨(by show 0<=sizeLine;decide),fun le hle=>?_⟩
    have s4:=qA2 hle (.lst []);refine ⟨ln,le,_,rfl,rfl,SqL.of (s4 _ _ g3),SqL.of qA1,_,rfl,?_⟩;generalize Ai H3 le (.lst [])=H4 at s4 ⊢;rw [qT6 RP gk];have ee:(A51 V.int (intL ((dps p).filter (usB Af p k)))).isEmpty=((dps p).filter (usB Af p k)).isEmpty:=by unfold intL;cases (dps p).filter (usB Af p k) <;> rfl
    rw [ee];cases b2:((dps p).filter (usB Af p k)).isEmpty with
    | true=>
     refine iteT ?_;refine ⟨_,rfl,q2 k T H4 hkm (by unfold idB;rw [b,b2];rfl) (s2.trans (s3.trans s4)) (s4 _ _ (s3 _ _ gTc))⟩
    | false=>
     refine iteF ?_;have:=idf (by unfold idB;rw [b,b2];rfl) H4 (sc.trans (s3.trans s4))
     rw [b] at this;exact this
  by_cases c:eN p k (wkO p k)=p.length
  ·rw [decide_eq_true (show V.int ((eN p k (wkO p k):Nat):Int)=V.int (p.length:Int) by rw [c])]
   refine iteT ?_;refine ⟨_,rfl,T,_,_,_,rfl,rfl,SqT.of gTc,rfl,_,rfl,t,_,rfl,.inr (SqT.of (s2 _ _ hT)),rfl,qB8 Ad,?_⟩;have e9:inV (.int (wkO p k)) (Ad.map V.int)=lsB p Ad k:=by rw [qC8,<- le,decide_eq_true c,t6]
   show M1 [some (.ref a),some (.ref l),some (.ref t),some (.ref T),some (.bl (inV (.int (wkO p k)) (Ad.map V.int)))] Hc;rw [e9];exact after
  ·rw [decide_eq_false (show ¬ V.int ((eN p k (wkO p k):Nat):Int)=V.int (p.length:Int) from fun z=>c (by have:=V.int.inj z;omega))]
   refine iteF ?_;have e9:lsB p Ad k=false:=by rw [<- le,decide_eq_false c,W3]
   rw [e9] at after;exact after
 ·refine fun σ Hc hI_2=>opq fun G_2 hG_2=>?_;obtain ⟨v3,v4,rfl,sc,no⟩:=hI_2;refine hG_2 ?_;rw [A0,lts,G5] at no;exact hN0 _ _ (q1 no Hc (s1.trans sc))
end
def qS8:Sp:=fun vs H Q _=>∃ (a l t:Addr) (Af:List (List Int)) (p:List Mv) (Ad tt:List Int),vs=[.ref a,.ref l,.ref t]/\(qXD H a l Af p/\Af.length<=60)/\Run Af (Af.length:Int) [] p tt/\(∀ x ∈ Ad,x ∈ tt)/\H t=some (.tup (Ad.map V.int))/\
 ∀ (l':Addr) (H':Hp),Same H H'->H l'=none->PlanAt H' l' (tdy Af Ad p)->Q (.ref l') H'
theorem qW6 {Af:List (List Int)} (wf:WFn Af) (h:Af.length<=60) (w:Int):(nd Af w).length<=60:=by
 unfold nd;cases e:Af[w.toNat]? with
 | none=>simp
 | some z=>
  have:=(wf _ _ e).len;have:=(A1.mp e).1;simp;omega
theorem qc7 {Af:List (List Int)} {Ad:List Int} {p:List Mv} {t:List Int} (wf:WFn Af) (mo:MvOk Af p) (h:RunP Af p t) (hn:∀ i ∈ dps p,idB Af Ad p i=false) {k:Nat} (hk:k ∈ dps p) (n60:Af.length<=60):(bhL Af Ad p (dps p) k).length<64:=by
 have pm:=List.mergeSort_perm (bhL Af Ad p (dps p) k) (fun a b=>decide (a<=b));have st:=List.pairwise_mergeSort (le:=fun (a b:Int)=>decide (a<=b)) (fun a b c h1 h2=>by simp at h1 h2 ⊢;omega) (fun a b=>by simp;omega) (bhL Af Ad p (dps p) k)
 have e:=qOA wf mo h hn hk pm (st.imp fun {a b} z=>of_decide_eq_true z);have l1:=pm.length_eq;rw [e] at l1;have l2:=C7 (fun n=>!wn Af Ad p (k+1) n) (nd Af (wkO p k));have l3:=qW6 wf n60 (wkO p k);omega
section
variable {P:Program} {w:World} {K:PySem.W.Frag} {mg:Str->Option Value} {base:Heap} {f:Addr} {fd:FuncData} {qMB qG7 qDI:Addr} {qQC qHB qEZ:FuncData}
theorem sc_Ltidied:FnScope ["_law_net_here","_law_plan","_law_asked_here","_law_stay","_law_behind_here","_law_found","_law_k","_law_move"] ["_law_net_here","_law_plan","_law_asked_here"] (qAH qGT):=⟨rfl,rfl,rfl,by decide +kernel,rfl,by decide +kernel,by decide +kernel⟩
theorem ok_Ltidied (F:Fun K "_law_tidied" "_law_tidied" qGT f fd) (qKA:Clb P w K mg base 2 qMB qQC "_law_idle" ["_law_net_here","_law_plan","_law_asked_here"] qXK) (qE4:Clb P w K mg base 1 qG7 qHB "_law_stays" ["_law_plan"] qOL) (qCI:Clb P w K mg base 1 qDI qEZ "_law_needing" ["_law_net_here","_law_plan","_law_stay"] qGR) (qC1:mg "list" = none) (qAD:mg "enumerate" = none) (qAU:mg "len" = none) (qB4:mg "sorted" = none):FnOk P w K mg base CX0 3 f fd ["_law_net_here","_law_plan","_law_asked_here"] qS8:=by
 refine F.ok sc_Ltidied (fun vs H Q E h=>?_) (fun cdv A outer s H vs Q E hr h=>?_)
 ·obtain ⟨a,l,t,Af,p,Ad,tt,rfl,_⟩:=h
  rfl
 obtain ⟨a,l,t,Af,p,Ad,tt,rfl,⟨⟨hN,wf,n400,⟨rs,hL,ML⟩,lp,mo⟩,n60⟩,RU,ha,hT,q⟩:=h;have hu:=qP1 hr;refine ⟨_,(qA4 (qAE (i:=1) sc_Ltidied.nd rfl (C5 rfl) (qAS qFM rfl qC1 qFN (qA0 (pv 1) qA3))) (qA4 (qAE (i:=3) sc_Ltidied.nd rfl (X7 rfl) (qAR qKA hr rfl (qA0 (pv 0) (qA0 (pv 1) (qA0 (pv 2) qA3))))) (qA4 (qIT C9 (qI6 (qLP (pv 3))) (qA4 (qKD (i:=1) sc_Ltidied.nd rfl rfl rfl (lcs (own:=["_law_k","_law_move"]) (fv:=[3]) (by kernel_rfl)) (qE6 rfl qAD qBD (qA0 (pv 1) qA3)) (fun z1=>qJM (K:=K) (n:=2) rfl rfl (qAK (qAA (i:=0) (qCA (by kernel_rfl)) rfl (C5 rfl)) (qAK (qAA (i:=1) (qCA (by kernel_rfl)) rfl (C5 rfl)) qC4)) rfl rfl) (fun z1=>(qD7 (qAI (qEI (K:=K) rfl) (pv 0) (qG1 (qYO (K:=K) rfl) (pv 2) qJK (qGI qA7)) (by with_unfolding_all rfl)))) (fun z1=>(pv 1)) (by kernel_rfl)) (qA6 (qAE (i:=3) sc_Ltidied.nd rfl (X7 rfl) (qAR qKA hr rfl (qA0 (pv 0) (qA0 (pv 1) (qA0 (pv 2) qA3)))))))) (qA4 (qAE (i:=4) sc_Ltidied.nd rfl (C5 rfl) qG3) (qA4 (qBS C9 rfl (qC3 (qAR qE4 hr rfl (qA0 (pv 1) qA3))) (qAA (i:=3) sc_Ltidied.nd rfl (X7 rfl)) (qA6 (qBW (PW.pt (qOT (qAI qT1 (qAV qB0 (pv 3) qA7 (fun _ _=>rfl)) (qA9 qAB rfl qAU qBA (qA0 (pv 1) qA3)) (qAY _)) (qKO (qAI qDV (qAV qB0 (pv 3) qA7 (fun _ _=>rfl)) (pv 2) (by with_unfolding_all rfl))))) (qA6 (qCC (qGJ E2 E3 E4 qB6 (qVY (pv 4) (qAV qC5 (qAR qCI hr rfl (qA0 (pv 0) (qA0 (pv 1) (qA0 (pv 3) qA3)))) (qKE qGC qA7) (fun _ _=>rfl)) (qBG qA3) ⟨rfl,rfl,rfl,rfl⟩) (qA0 (qAV qB0 (pv 3) qA7 (fun _ _=>rfl)) qA3)))) qAM))) (qA4 (qAE (i:=5) sc_Ltidied.nd rfl (C5 rfl) (qBG qA3)) (qA4 (qBS C9 rfl (qE6 rfl qAD qBD (qA0 (pv 1) qA3)) (qDU rfl (qAK (qAA (i:=6) sc_Ltidied.nd rfl (C5 rfl)) (qAK (qAA (i:=7) sc_Ltidied.nd rfl (C5 rfl)) qC4))) (qA6 (qBW (qAI qE8 (qAV qB0 (pv 7) qA7 (fun _ _=>rfl)) qB9 (qAY _)) (qA4 (qCC (qGJ E2 E3 E4 qB6 (pv 5) (qA0 (pv 7) qA3))) (qA6 (qAE (i:=5) sc_Ltidied.nd rfl (C5 rfl) (qB5 qKU (pv 5) (qF8 rfl (lcs (own:=["_law_work"]) (fv:=[]) (by kernel_rfl)) (qC3 (qA9 (qDN rfl) rfl qB4 qEN (qA0 (qW0 hu (pv 4) (pv 6) (qBG qA3) ⟨rfl,rfl,rfl,rfl⟩) qA3))) (fun z2=>qAA (i:=0) (qCA (by kernel_rfl)) rfl (C5 rfl)) (fun z2=>qC6) (fun z2=>(qBC (qA0 qB9 (qA0 (pv 0) qA3))))))))) qAM))) (qA6 (qAL (pv 5)))))))))),?_⟩
 try dsimp only [Cx.nox,Cx.wish,cxOf]
 refine cut fun N0 hN0=>?_;refine ⟨_,rfl,l,_,rfl,.inl (SqL.of hL),fun lq hlq=>?_⟩;have s1:=qA2 hlq (.lst (rs.map V.ref));have g1:(Ai H lq (.lst (rs.map V.ref))) lq=some (.lst (rs.map V.ref)):=qA1;generalize Ai H lq (.lst (rs.map V.ref))=H1 at s1 g1 ⊢;refine hN0 _ _ (cut fun N1 hN1=>?_);have qJD:∀ (sv:V) (H2:Hp),Same H H2->H2 lq=some (.lst (rs.map V.ref))->(sv=.non/\(∀ i ∈ dps p,idB Af Ad p i=false)\/∃ i T,sv=.ref T/\i ∈ dps p/\idB Af Ad p i=true/\qL6 H2 p T i)->N1 [some (.ref a),some (.ref lq),some (.ref t),some sv,none,none,none,none] H2:=by
  intro sv0 H2 s2 g2 d2;refine hN1 _ _ (cut fun N2 hN2=>?_);refine ⟨fun m σ Hc=>∃ (lq:Addr) (p':List Mv) (rs tt:List _) (sv:V),m=p'.length/\σ=[some (.ref a),some (.ref lq),some (.ref t),some sv,none,none,none,none]/\Same H Hc/\Hc lq=some (.lst (rs.map V.ref))/\MovL Hc rs p'/\p'.length<=1000/\MvOk Af p'/\Run Af (Af.length:Int) [] p' tt/\(∀ x ∈ Ad,x ∈ tt)/\tdy Af Ad p'=tdy Af Ad p/\(sv=.non/\(∀ i ∈ dps p',idB Af Ad p' i=false)\/∃ i T,sv=.ref T/\i ∈ dps p'/\idB Af Ad p' i=true/\qL6 Hc p' T i),⟨_,lq,p,rs,tt,sv0,rfl,rfl,s2,g2,MovL.same ML s2,lp,mo,RU,ha,rfl,d2⟩,?_⟩;refine fun m σ Hc hI_1=>opq fun G_1 hG_1=>?_;obtain ⟨lq,p',rs,tt,sv,rfl,rfl,sc,gq,MQ,lq',moq,RUq,haq,etd,dq⟩:=hI_1;refine hG_1 ?_;rcases dq with ⟨rfl,no⟩ | ⟨i,T,rfl,him,hid,hST⟩
  ·refine ⟨_,rfl,_,rfl,?_⟩;refine iteF ?_;refine hN2 _ _ (cut fun N3 hN3=>?_);refine fun db hdb=>?_;have s3:=qA2 hdb (.dK []);have gb:(Ai Hc db (.dK [])) db=some (.dK []):=qA1;have sc3:=sc.trans s3;have gq3:=s3 _ _ gq;have MQ3:=MovL.same MQ s3;have fdb:H db=none:=sc.free hdb;generalize Ai Hc db (.dK [])=H3 at s3 gb sc3 gq3 MQ3 ⊢;refine hN3 _ _ (cut fun N4 hN4=>?_);have RP:=runP RUq;have lrs:=B2 MQ;refine ⟨_,rfl,lq,p',rfl,⟨rs,gq3,MQ3⟩,lq',fun ls ts H4 s4 f4 g4 PT=>?_⟩;have lts:=B2 PT;have nlb:ls ≠ db:=(qA5 gb f4).symm;have gb4:=s4 _ _ gb;have gq4:=s4 _ _ gq3;have nqb:lq ≠ db:=qBT gq3 gb (by intro z;cases z)
   have sc4:=sc3.trans s4;have MQ4:=MovL.same MQ3 s4;have ldp:(dps p').length<=1000:=by unfold dps;have:=C7 (dpB p') (C8 p'.length);rw [T5] at this;omega
   have sameK:∀ {Hd:Hp},Keep db db H4 Hd->Same H Hd:=fun kd b u e=>kd b u (sc4 b u e) (qA5 e fdb) (qA5 e fdb);have movK:∀ {Hd:Hp},Keep db db H4 Hd->MovL Hd rs p':=fun kd=>qB3 MQ4 fun b m e=>kd b _ e (qBT e gb4 (by intro z;cases z)) (qBT e gb4 (by intro z;cases z))
   refine ⟨ls,rfl,⟨_,SqL.of g4⟩,qCF (a:=ls) (xs:=ts.map V.ref) (fun i σ Hd=>∃ (ad:Nat->Addr) (kv:List (Key × V)) (v3:Option V),σ=[some (.ref a),some (.ref lq),some (.ref t),v3,some (.ref db),none,none,none]/\Keep db db H4 Hd/\Hd db=some (.dK kv)/\kv.length<=i/\(∀ k:Nat,bhL Af Ad p' ((dps p').take i) k=[]->valV kv (F2 (k:Int))=none)/\(∀ k:Nat,bhL Af Ad p' ((dps p').take i) k ≠ []->valV kv (F2 (k:Int))=some (.ref (ad k))/\H4 (ad k)=none/\Hd (ad k)=some (.lst ((bhL Af Ad p' ((dps p').take i) k).map V.int)))/\∀ k k':Nat,bhL Af Ad p' ((dps p').take i) k ≠ []->bhL Af Ad p' ((dps p').take i) k' ≠ []->ad k=ad k'->k=k')
    ⟨fun _=>a,[],some .non,rfl,.refl,gb4,E8 _,fun _ _=>rfl,fun k h=>absurd rfl h,fun k k' h=>absurd rfl h⟩ (fun i σ Hd _ hP=>by obtain ⟨_,_,_,_,kd,_⟩:=hP;exact SqL.of (kd _ _ g4 nlb nlb)) ?_ ?_⟩
   ·refine fun i x σ Hd hx hI_2=>opq fun G_2 hG_2=>?_;obtain ⟨ad,kv,v3,rfl,kd,gd,lk,hv0,hv1,inj⟩:=hI_2;obtain ⟨T,eT,rfl⟩:=qBX hx;obtain ⟨i0,ei,hS⟩:=qAO PT eT;refine hG_2 ?_;have him:=B4 ei;have hil:=(A1.mp ei).1;have gi:=mem_dps.mp him;have hi0:=(A1.mp gi).1;obtain ⟨e1,e2,_,_⟩:=qP4 (w:=wkO p' i0) hi0;have le:=qZG RP haq gi;have hS':H4 T=some (.tup [.int (i0:Int),.int (eN p' i0 (wkO p' i0):Nat),.int (wkO p' i0)]):=hS;have nTb:T ≠ db:=qBT hS' gb4 (by intro z;cases z)
    have gT:=kd _ _ hS' nTb nTb;have gqd:=kd _ _ gq4 nqb nqb;have etk:(dps p').take (i+1)=(dps p').take i++[i0]:=by rw [D5,ei];rfl
    have nid:=no i0 him;refine nmI fun D0 fin _=>?_;have body:lsB p' Ad i0=false->
      qaK (tBM K "list" qSL (qXI (tVar 4) (tOp (rIxL K) (qVB qGR [] E0 (qKB (tVar 0) (qKB (tVar 1) (qKB (tVar 3) tNil)))) (tUn (rU fun i=>V.int (-i)) (tC (V.int 1)))) (tLst tNil)) (qKB (tOp (rIxT K) (tVar 3) (tC (V.int 2))) tNil)) D0 [some (.ref a),some (.ref lq),some (.ref t),some (.ref T),some (.ref db),none,none,none] Hd:=by
     intro nl;refine ⟨_,rfl,db,rfl,.inl ⟨_,.inl gd⟩,_,rfl,_,rfl,_,rfl,a,lq,T,Af,p',i0,eN p' i0 (wkO p' i0),wkO p' i0,rfl,⟨hN.same (sameK kd),wf,n400,⟨rs,gqd,movK kd⟩,lq',moq⟩,gT,e1,e2,fun ln H5 s5 f5 g5=>?_⟩;rw [qT6 RP gi] at g5;obtain ⟨kk,ekk⟩:∃ kk,luF Af p' (dps p') i0=some kk:=by
      unfold idB at nid;rw [nl] at nid;unfold luF;cases e:(dps p').filter (usB Af p' i0) with
      | nil=>rw [e] at nid;cases nid
      | cons y r=>exact ⟨_,d0 (by simp)⟩
     have hlast:atI ((intL ((dps p').filter (usB Af p' i0))).map V.int) (-1)=some (.int (kk:Int)):=qV0 (by
      unfold intL;rw [q0,q0];rw [show ((dps p').filter (usB Af p' i0)).getLast?=some kk from ekk]
      rfl)
     have snoc:∀ k,bhL Af Ad p' ((dps p').take (i+1)) k=bhL Af Ad p' ((dps p').take i) k++(if k=kk then [wkO p' i0] else []):=by
      intro k;rw [etk,qUV,nl,ekk];congr 1;by_cases c:k=kk
      ·rw [if_pos c,c];simp
      ·rw [if_neg c,if_neg (by simp;exact fun z=>c z.symm)]
     refine ⟨_,rfl,ln,_,_,_,rfl,rfl,SqL.of g5,hlast,?_⟩;refine ⟨(by show 0<=sizeLine;decide),fun e0 he0=>?_⟩
     have s6:=qA2 he0 (.lst []);have g6:(Ai H5 e0 (.lst [])) e0=some (.lst (([]:List Int).map V.int)):=qA1;have gd5:=s5 _ _ gd;have gd6:=s6 _ _ gd5;have ne0b:e0 ≠ db:=(qA5 gd5 he0).symm;have s56:=s5.trans s6;have f4e:H4 e0=none:=by
      cases z:H4 e0 with
      | none=>rfl
      | some u=>
       have:=s5 _ _ (kd _ _ z ne0b ne0b);rw [he0] at this;cases this
     have kd6:Keep db db H4 (Ai H5 e0 (.lst [])):=kd.trans (.of_same s56);have hv6:∀ k:Nat,bhL Af Ad p' ((dps p').take i) k ≠ []->valV kv (F2 (k:Int))=some (.ref (ad k))/\H4 (ad k)=none/\(Ai H5 e0 (.lst [])) (ad k)=some (.lst ((bhL Af Ad p' ((dps p').take i) k).map V.int))/\ad k ≠ e0:=fun k hk=>by
      obtain ⟨z1,z2,z3⟩:=hv1 k hk;exact ⟨z1,z2,s56 _ _ z3,qA5 (s5 _ _ z3) he0⟩
     generalize Ai H5 e0 (.lst [])=H6 at s6 g6 gd6 s56 kd6 hv6 ⊢;have lbh:∀ k,(bhL Af Ad p' ((dps p').take i) k).length<=1000:=fun k=>by
      unfold bhL;rw [A0];have:=C7 (fun i=>!lsB p' Ad i && decide (luF Af p' (dps p') i=some k)) ((dps p').take i);rw [C1] at this;omega
     refine ⟨kv,F2 (kk:Int),gd6,rfl,qAX (by omega),fun v hv=>?_,fun hn=>?_⟩
     ·have ne:bhL Af Ad p' ((dps p').take i) kk ≠ []:=fun z=>by rw [hv0 kk z] at hv;cases hv
      obtain ⟨z1,z2,z3,z4⟩:=hv6 kk ne;rw [z1] at hv;cases hv;refine ⟨.inl ⟨rfl,_,SqL.of z3⟩,_,rfl,T,_,_,_,rfl,rfl,SqT.of (s56 _ _ gT),rfl,ad kk,_,_,rfl,rfl,z3,qAX (by rw [A0];have:=lbh kk;omega),?_⟩
      have nkb:ad kk ≠ db:=qBT z3 gd6 (by intro z;cases z)
      refine fin _ _ ⟨ad,kv,_,rfl,fun b u e n1 n2=>?_,by rw [qA8 nkb.symm];exact gd6,by omega,fun k hk=>?_,fun k hk=>?_,fun k k' hk hk' e=>?_⟩
      ·rw [qA8 (qA5 e z2)];exact kd6 b u e n1 n2
      ·rw [snoc] at hk;exact hv0 k (x6.mp hk).1
      ·by_cases c:k=kk
       ·subst c;refine ⟨z1,z2,?_⟩;rw [qA1,snoc,if_pos rfl,B1]
        rfl
       ·rw [snoc,if_neg c,O7] at hk ⊢;obtain ⟨y1,y2,y3,y4⟩:=hv6 k hk;refine ⟨y1,y2,?_⟩;rw [qA8 fun z=>c (inj k kk hk ne z)];exact y3
      ·have old:∀ k,bhL Af Ad p' ((dps p').take (i+1)) k ≠ []->bhL Af Ad p' ((dps p').take i) k ≠ []:=fun k hk z=>by
        by_cases c:k=kk
        ·rw [c] at z;exact ne z
        ·rw [snoc,z,if_neg c] at hk;exact hk rfl
       exact inj k k' (old k hk) (old k' hk') e
     ·have em:bhL Af Ad p' ((dps p').take i) kk=[]:=by
       rcases A41 (bhL Af Ad p' ((dps p').take i) kk=[]) with z | z
       ·exact z
       ·rw [(hv6 kk z).1] at hn;cases hn
      have g7:(Ai H6 db (.dK (putK kv (F2 (kk:Int)) (.ref e0)))) e0=some (.lst (([]:List Int).map V.int)):=by rw [qA8 ne0b];exact g6
      have gT7:(Ai H6 db (.dK (putK kv (F2 (kk:Int)) (.ref e0)))) T=some (.tup [.int (i0:Int),.int (eN p' i0 (wkO p' i0):Nat),.int (wkO p' i0)]):=by rw [qA8 nTb];exact s56 _ _ gT
      refine ⟨.inl ⟨rfl,_,SqL.of g7⟩,_,rfl,T,_,_,_,rfl,rfl,SqT.of gT7,rfl,e0,_,_,rfl,rfl,g7,qAX (by simp),?_⟩
      refine fin _ _ ⟨fun k=>if k=kk then e0 else ad k,putK kv (F2 (kk:Int)) (.ref e0),_,rfl,fun b u e n1 n2=>?_,by rw [qA8 ne0b.symm,qA1],F6 (qBE _ _ _) (by omega),fun k hk=>?_,fun k hk=>?_,fun k k' hk hk' e=>?_⟩
      ·rw [qA8 (qA5 e f4e),qA8 n1];exact kd6 b u e n1 n2
      ·rw [snoc] at hk;obtain ⟨h1,h2⟩:=x6.mp hk;have c:k ≠ kk:=fun z=>by rw [if_pos z] at h2;cases h2
       rw [qD8,if_neg fun z=>c (by have:=T6 z;omega)]
       exact hv0 k h1
      ·dsimp only;by_cases c:k=kk
       ·subst c;rw [if_pos rfl,qD8,if_pos rfl];refine ⟨rfl,f4e,?_⟩;rw [qA1,snoc,em,if_pos rfl]
        rfl
       ·have sk:bhL Af Ad p' ((dps p').take (i+1)) k=bhL Af Ad p' ((dps p').take i) k:=by rw [snoc,if_neg c,O7]
        rw [sk] at hk ⊢;obtain ⟨y1,y2,y3,y4⟩:=hv6 k hk;rw [if_neg c,qD8,if_neg fun z=>c (by have:=T6 z;omega)]
        refine ⟨y1,y2,?_⟩;rw [qA8 y4,qA8 (qBT y3 gd6 (by intro z;cases z))]
        exact y3
      ·dsimp only at e;have old:∀ k,k ≠ kk->bhL Af Ad p' ((dps p').take (i+1)) k ≠ []->bhL Af Ad p' ((dps p').take i) k ≠ []:=fun k c hk z=>by
        rw [snoc,z,if_neg c] at hk;exact hk rfl
       by_cases c:k=kk <;> by_cases c':k'=kk
       ·omega
       ·rw [if_pos c,if_neg c'] at e;exact absurd e.symm (hv6 k' (old k' c' hk')).2.2.2
       ·rw [if_neg c,if_pos c'] at e;exact absurd e (hv6 k (old k c hk)).2.2.2
       ·rw [if_neg c,if_neg c'] at e;exact inj k k' (old k c hk) (old k' c' hk') e
    have skip:lsB p' Ad i0=true->D0.nx [some (.ref a),some (.ref lq),some (.ref t),some (.ref T),some (.ref db),none,none,none] Hd:=by
     intro l1;have snoc:∀ k,bhL Af Ad p' ((dps p').take (i+1)) k=bhL Af Ad p' ((dps p').take i) k:=fun k=>by rw [etk,qUV,l1];simp
     refine fin _ _ ⟨ad,kv,_,rfl,kd,gd,by omega,fun k hk=>hv0 k (by rw [<- snoc];exact hk),fun k hk=>by rw [snoc] at hk ⊢;exact hv1 k hk,fun k k' hk hk'=>inj k k' (by rw [<- snoc];exact hk) (by rw [<- snoc];exact hk')⟩
    refine ⟨_,rfl,T,_,_,_,rfl,rfl,SqT.of gT,rfl,_,rfl,lq,_,rfl,.inl (SqL.of gqd),_,_,rfl,rfl,_,rfl,?_⟩;dsimp only;rw [A0,lrs];by_cases c1:((eN p' i0 (wkO p' i0):Nat):Int)<(p'.length:Int)
    ·rw [decide_eq_true c1];refine iteT ?_;refine iteT ?_;exact body (by rw [<- le,decide_eq_false (by omega),W3])
    ·rw [decide_eq_false c1];refine iteF ?_;refine ⟨_,rfl,T,_,_,_,rfl,rfl,SqT.of gT,rfl,_,rfl,t,_,rfl,.inr (SqT.of (sameK kd _ _ hT)),rfl,qB8 Ad,_,rfl,?_⟩;dsimp only;rw [qC8];by_cases c2:wkO p' i0 ∈ Ad
     ·rw [decide_eq_true c2];refine iteF ?_;exact skip (by rw [<- le,decide_eq_true (by omega),decide_eq_true c2];rfl)
     ·rw [decide_eq_false c2];refine iteT ?_;exact body (by rw [<- le,decide_eq_false c2,m5])
   refine fun σ Hd hI_3=>opq fun G_3 hG_3=>?_;obtain ⟨ad,kv,v3,rfl,kd,gd,lk,hv0,hv1,inj⟩:=hI_3;refine hG_3 ?_;rw [A0,lts] at hv0 hv1 lk;rw [G5] at hv0 hv1;refine hN4 _ _ (cut fun N5 hN5=>?_);have s0d:=sameK kd;have gqd:=kd _ _ gq4 nqb nqb;have MQd:=movK kd;have ek:=qNE no;refine ⟨(by show 0<=sizeLine;decide),fun lf0 hlf0=>?_⟩
   have s7:=qA2 hlf0 (.lst []);have g7:(Ai Hd lf0 (.lst [])) lf0=some (.lst (([]:List Addr).map V.ref)):=qA1;generalize Ai Hd lf0 (.lst [])=H7 at s7 g7 ⊢;refine hN5 _ _ (cut fun N6 hN6=>?_);have bigF:∀ i,(((C8 i).filter (dpB p')).map (pc Af Ad p')).flatten.length<=401 * i:=by
    intro i;have one:∀ k,(pc Af Ad p' k).length<=401:=fun k=>by
     unfold pc;rw [B3,A0];have:=C7 (fun n=>!wn Af Ad p' (k+1) n) (nd Af (wkO p' k));have:=qJR wf n400 (wkO p' k);omega
    have gen:∀ L:List Nat,((L.map (pc Af Ad p')).flatten).length<=401 * L.length:=by
     intro L
     induction L with
     | nil=>simp
     | cons x L ih=>
      rw [D7,O3,A4,B3];have:=one x;omega
    have h1:=gen ((C8 i).filter (dpB p'));have h2:=C7 (dpB p') (C8 i);rw [T5] at h2;exact F6 h1 (A10 _ h2)
   refine ⟨_,rfl,lq,rfl,⟨_,SqL.of (s7 _ _ gqd)⟩,qG5 (a:=lq) (xs:=rs.map V.ref) (fun i σ Hx=>∃ (lf:Addr) (us:List Addr) (v6 v7:Option V),σ=[some (.ref a),some (.ref lq),some (.ref t),v3,some (.ref db),some (.ref lf),v6,v7]/\Same Hd Hx/\Hd lf=none/\Hx lf=some (.lst (us.map V.ref))/\MovL Hx us (((C8 i).filter (dpB p')).map (pc Af Ad p')).flatten)
    ⟨lf0,[],none,none,rfl,s7,hlf0,g7,.nil⟩ (fun i σ Hx _ hP=>by obtain ⟨_,_,_,_,_,sx,_⟩:=hP;exact SqL.of (sx _ _ gqd)) ?_ ?_⟩
   ·refine fun i x σ Hx T hx hI_4 hT0=>opq fun G_4 hG_4=>?_;obtain ⟨lf,us,v6,v7,rfl,sx,flf,gx,MX⟩:=hI_4;obtain ⟨r,er,rfl⟩:=qBX hx;obtain ⟨⟨wd,w⟩,em,hm⟩:=qAO MQd er;refine hG_4 ?_;dsimp only at hm;have hi:=(A1.mp em).1;have sT:=qA2 hT0 (.tup [.int (i:Int),.ref r]);have sx1:=sx.trans sT;have gx1:=sT _ _ gx;have MX1:=MovL.same MX sT;have gT:SqT K (Ai Hx T (.tup [.int (i:Int),.ref r])) T [.int (i:Int),.ref r]:=SqT.of qA1;generalize Ai Hx T (.tup [.int (i:Int),.ref r])=H8 at sx1 gx1 MX1 gT ⊢;refine nmI fun D1 d1 _=>?_;refine ⟨T,_,rfl,gT,rfl,_,_,rfl,_,_,rfl,rfl,?_⟩;have hm8:=sx1 _ _ hm;refine ⟨_,rfl,r,_,_,_,rfl,rfl,SqT.of hm8,rfl,rfl,_,rfl,?_⟩;have lus:=B2 MX1;have bi:=bigF i;refine ite2 (fun ck=>?_) (fun ck=>?_)
    ·have hd:wd = "do":=V.str.inj (of_decide_eq_true ck)
     subst hd;have em':p'[i]?=some (dO w):=em;have ewk:=qD0 em';have hidp:i ∈ dps p':=mem_dps.mpr (by rw [ewk];exact em')
     refine cut fun M1 hM1=>?_;refine ⟨_,rfl,.inl ⟨rfl,_,SqL.of gx1⟩,_,rfl,lf,_,_,rfl,rfl,gx1,qAX (by rw [A0];omega),?_⟩
     rw [qBB];have sx2:Same Hd (Ai H8 lf (.lst ((us++[r]).map V.ref))):=qAG sx1 flf;have gx2:(Ai H8 lf (.lst ((us++[r]).map V.ref))) lf=some (.lst ((us++[r]).map V.ref)):=qA1;have MX2:MovL (Ai H8 lf (.lst ((us++[r]).map V.ref))) (us++[r]) ((((C8 i).filter (dpB p')).map (pc Af Ad p')).flatten++[dO w]):=by
      refine qBV (qB3 MX1 fun b m z=>?_) ?_
      ·rw [qA8 (qBT z gx1 (by intro z;cases z))];exact z
      ·rw [qA8 (qBT hm8 gx1 (by intro z;cases z))];exact hm8
     generalize Ai H8 lf (.lst ((us++[r]).map V.ref))=H9 at sx2 gx2 MX2 ⊢;refine hM1 _ _ ?_;refine ⟨_,rfl,_,rfl,db,rfl,.inl ⟨_,.inl (sx2 _ _ gd)⟩,_,rfl,(by show 0<=sizeLine;decide),fun e0 he0=>?_⟩
     have s10:=qA2 he0 (.lst []);have g10:(Ai H9 e0 (.lst [])) e0=some (.lst (([]:List Int).map V.int)):=qA1;have sx3:=sx2.trans s10;have gx3:=s10 _ _ gx2;have MX3:=MovL.same MX2 s10;generalize Ai H9 e0 (.lst [])=H10 at s10 g10 sx3 gx3 MX3 ⊢;have hg:=DGet.k (k:=F2 (i:Int)) (sx3 _ _ gd);obtain ⟨r0,er0,gr0⟩:∃ r0,(valV kv (F2 (i:Int))).getD (.ref e0)=.ref r0/\H10 r0=some (.lst ((bhL Af Ad p' (dps p') i).map V.int)):=by
      rcases A41 (bhL Af Ad p' (dps p') i=[]) with z | z
      ·exact ⟨e0,by rw [hv0 i z];rfl,by rw [z];exact g10⟩
      ·obtain ⟨y1,_,y3⟩:=hv1 i z;exact ⟨ad i,by rw [y1];rfl,sx3 _ _ y3⟩
     refine ⟨_,hg,?_⟩;have er0':Option.getD (valV kv (F2 (i:Int))) (V.ref e0)=V.ref r0:=er0;rw [er0'];refine ⟨r0,_,rfl,.inl (SqL.of gr0),qc7 wf moq RP no hidp n60,fun l6 zs hl6 pm st=>?_⟩;have ez:=qOA wf moq RP no hidp pm st;have s11:=qA2 hl6 (.lst (zs.map V.int));have g11:(Ai H10 l6 (.lst (zs.map V.int))) l6=some (.lst (zs.map V.int)):=qA1;have sx4:=sx3.trans s11;have gx4:=s11 _ _ gx3;have MX4:=MovL.same MX3 s11;generalize Ai H10 l6 (.lst (zs.map V.int))=H11 at s11 g11 sx4 gx4 MX4 ⊢;have lzs:zs.length<=400:=by
      rw [ez];exact F6 (C7 _ _) (qJR wf n400 _)
     refine ⟨l6,rfl,⟨_,SqL.of g11⟩,fun p8 hp8=>?_⟩;refine qHT (p:=p8) (a:=l6) (xs:=zs.map V.int) (fun j σ Hy=>∃ (v:Option V) (ws:List Addr),σ=[v]/\Same H11 Hy/\Hy p8=some (.lst (ws.map V.ref))/\MovL Hy ws ((zs.take j).map cL)) ?_ ?_ ?_ ?_
     ·exact ⟨none,[],rfl,qA2 hp8 _,qA1,.nil⟩
     ·rintro j σ Hy hj ⟨v,ws,rfl,sy,_⟩;exact SqL.of (sy _ _ g11)
     ·refine fun j x σ Hy hx hI_6=>opq fun G_6 hG_6=>?_;obtain ⟨v,ws,rfl,sy,gy,MY⟩:=hI_6;obtain ⟨n,en,rfl⟩:=qBI hx;refine hG_6 ?_;have hj:=(A1.mp en).1;refine ⟨_,rfl,(by show 2<=sizeLine;decide),fun Tc hTc=>?_⟩
      have sTc:=qA2 hTc (.tup [.str (C4 "clear"),.int n]);have gy2:=sTc _ _ gy;have lws:=B2 MY;rw [A0,C1] at lws;refine ⟨_,gy2,qAX (by rw [A0];omega),?_⟩
      rw [qBB];refine ⟨_,ws++[Tc],rfl,qAG (sy.trans sTc) hp8,qA1,?_⟩;rw [show (zs.take (j+1)).map cL=(zs.take j).map cL++[cL n] by rw [D5,en,D4,B1];rfl]
      refine qBV (qB3 MY fun b m z=>?_) ?_
      ·rw [qA8 (qBT (sTc _ _ z) gy2 (by intro z;cases z))];exact sTc _ _ z
      ·rw [qA8 (qA5 gy hTc).symm];exact qA1
     refine fun σ Hy hI_7=>opq fun G_7 hG_7=>?_;obtain ⟨v,ws,rfl,sy,gy,MY⟩:=hI_7;refine hG_7 ?_;rw [A0,G5] at MY;have lws:=B2 MY;rw [A0] at lws;refine ⟨lf,p8,_,_,rfl,rfl,sy _ _ gx4,gy,(by rw [A0,A0,A4,A9,sizeLine_eq];omega),fun c1 hc1=>?_⟩
     rw [<- B1];have s12:=qA2 hc1 (.lst ((us++[r]++ws).map V.ref));refine d1 _ _ ⟨c1,us++[r]++ws,_,_,rfl,(sx4.trans sy).trans s12,(sx4.trans sy).free hc1,qA1,?_⟩;have ep:((([i].map (pc Af Ad p')).flatten):List Mv)=[dO w]++zs.map cL:=by
      rw [ez];simp [pc,ewk]
     have eq:(((C8 (i+1)).filter (dpB p')).map (pc Af Ad p')).flatten=(((C8 i).filter (dpB p')).map (pc Af Ad p')).flatten++[dO w]++zs.map cL:=by rw [qG9 hi,if_pos (qNY em'),B1,A11,ep,<- G8]
     rw [eq];exact qKS (MovL.same MX4 (sy.trans s12)) (MovL.same MY s12)
    ·have hd:¬ wd = "do":=fun e=>ck (decide_eq_true (congrArg V.str e))
     have nb:dpB p' i=false:=F9.mpr fun z=>hd (by
      have:=dB_iff.mp z;rw [em] at this;exact congrArg b8 (A8 this))
     refine d1 _ _ ⟨lf,us,_,_,rfl,sx1,flf,gx1,?_⟩;rw [qG9 hi,nb];simpa using MX1
   ·refine fun σ Hx hI_8=>opq fun G_8 hG_8=>?_;obtain ⟨lf,us,v6,v7,rfl,sx,flf,gx,MX⟩:=hI_8;refine hG_8 ?_;rw [A0,lrs] at MX;have et:tdy Af Ad p=(((C8 p'.length).filter (dpB p')).map (pc Af Ad p')).flatten:=by
     rw [<- etd,qS3,ek]
     rfl
    rw [<- et] at MX;exact hN6 _ _ ⟨_,rfl,q lf Hx (s0d.trans sx) (s0d.free flf) ⟨us,gx,MX⟩⟩
  ·refine ⟨_,rfl,_,rfl,?_⟩;refine iteT ?_;have gi:=mem_dps.mp him;obtain ⟨⟨tt',RU',ha'⟩,etd',len'⟩:=qWM RUq haq gi hid;refine ⟨_,fun σ' H' h=>⟨(fil i (eN p' i (wkO p' i)) 0 p').length,len',h⟩,?_⟩;have hi:=(A1.mp gi).1;obtain ⟨e1,e2,_,_⟩:=qP4 (w:=wkO p' i) hi;have hST':Hc T=some (.tup [.int (i:Int),.int (eN p' i (wkO p' i):Nat),.int (wkO p' i)]):=hST;generalize eN p' i (wkO p' i)=e at hST' RU' etd' len' e1 e2 ⊢;have lrs:=B2 MQ;refine cut fun M1 hM1=>?_;refine ⟨_,rfl,lq,rfl,⟨_,SqL.of gq⟩,fun p5 hp5=>?_⟩;refine qLS (p:=p5) (a:=lq) (xs:=rs.map V.ref) (fun k σ Hd=>∃ (v0 v1:Option V) (ts:List Addr),σ=[v0,v1,some (.ref T)]/\Same Hc Hd/\Hd p5=some (.lst (ts.map V.ref))/\MovL Hd ts (fil i e 0 (p'.take k))) ?_ ?_ ?_ ?_
   ·exact ⟨none,none,[],rfl,qA2 hp5 _,qA1,.nil⟩
   ·rintro k σ Hd hk ⟨v0,v1,ts,rfl,sd,_⟩;exact SqL.of (sd _ _ gq)
   ·refine fun k x σ Hd T0 hx hI_10 hT0=>opq fun G_10 hG_10=>?_;obtain ⟨v0,v1,ts,rfl,sd,gd,MT⟩:=hI_10;obtain ⟨r,er,rfl⟩:=qBX hx;obtain ⟨m,em,hm⟩:=qAO MQ er;refine hG_10 ?_;have hk:=(A1.mp em).1;have sT:=qA2 hT0 (.tup [.int (k:Int),.ref r]);refine ⟨T0,_,rfl,SqT.of qA1,rfl,_,_,rfl,_,_,rfl,rfl,?_⟩;have sd1:=sd.trans sT;have gd1:=sT _ _ gd;have MT1:MovL (Ai Hd T0 (.tup [.int (k:Int),.ref r])) ts (fil i e 0 (p'.take k)):=MovL.same MT sT;generalize Ai Hd T0 (.tup [.int (k:Int),.ref r])=H5 at sd1 gd1 MT1 ⊢;refine ⟨_,rfl,_,rfl,_,rfl,T,_,rfl,SqT.of (sd1 _ _ hST'),(fun z=>absurd (show HT.sIx 3 3 (some 2)=3 from z.2) (by decide)),fun Ts hTs=>?_⟩
    have ec:cutV [V.int (i:Int),.int (e:Int),.int (wkO p' i)] none (some 2)=[(i:Int),(e:Int)].map V.int:=rfl;rw [ec];have s6:=qA2 hTs (.tup ([(i:Int),(e:Int)].map V.int));refine ⟨Ts,_,rfl,.inr (SqT.of qA1),rfl,qB8 _,_,rfl,?_⟩;have sd2:=sd1.trans s6;have gd2:=s6 _ _ gd1;have MT2:=MovL.same MT1 s6;generalize Ai H5 Ts (.tup ([(i:Int),(e:Int)].map V.int))=H6 at sd2 gd2 MT2 ⊢;have lts:=B2 MT2;have lfl:ts.length<=1000:=by
     rw [lts];have:∀ (q:List Mv) (s:Nat),(fil i e s q).length<=q.length:=by
      intro q
      induction q with
      | nil=>intro s;exact A5 _
      | cons m q ih=>
       intro s;show (if s=i\/s=e then fil i e (s+1) q else m::fil i e (s+1) q).length<=_
       have:=ih (s+1)
       split
       ·rw [B3];omega
       ·rw [B3,B3];omega
     have:=this (p'.take k) 0;rw [C1] at this;omega
    rw [qM4 em];dsimp only;rw [qC8];by_cases c:k=i\/k=e
    ·rw [if_pos c,decide_eq_true (show ((k:Nat):Int) ∈ [(i:Int),(e:Int)] by rcases c with z | z <;> rw [z] <;> simp)]
     refine iteF ?_;exact ⟨_,_,ts,rfl,sd2,gd2,by simpa using MT2⟩
    ·rw [if_neg c,decide_eq_false (show ¬ ((k:Nat):Int) ∈ [(i:Int),(e:Int)] by
      intro z;simp at z;omega)]
     refine iteT ?_;refine ⟨_,rfl,_,gd2,qAX (by rw [A0];omega),?_⟩
     rw [qBB];refine ⟨_,_,ts++[r],rfl,qAG sd2 hp5,qA1,qBV (qB3 MT2 fun b m' z=>?_) ?_⟩
     ·rw [qA8 (qBT z gd2 (by intro z;cases z))];exact z
     ·have hr:=sd2 _ _ hm;rw [qA8 (qBT hr gd2 (by intro z;cases z))];exact hr
   refine fun σ Hd hI_11=>opq fun G_11 hG_11=>?_;obtain ⟨v0,v1,ts,rfl,sd,gd,MT⟩:=hI_11;refine hG_11 ?_;rw [A0,lrs,G5] at MT;refine hM1 _ _ ?_;have sA:=sc.trans sd;have moF:MvOk Af (fil i e 0 p'):=by
    have:∀ (q:List Mv) (s:Nat),(∀ m ∈ q,m ∈ p')->∀ m ∈ fil i e s q,m ∈ p':=by
     intro q
     induction q with
     | nil=>intro s _ m hm;cases hm
     | cons m0 q ih=>
      intro s hs m hm;have hm':m ∈ (if s=i\/s=e then fil i e (s+1) q else m0::fil i e (s+1) q):=hm
      split at hm'
      ·exact ih (s+1) (fun y hy=>hs y (A7 _ hy)) m hm'
      ·rcases B7.mp hm' with z | z
       ·rw [z];exact hs m0 C0
       ·exact ih (s+1) (fun y hy=>hs y (A7 _ hy)) m z
    exact fun m hm=>moq m (this p' 0 (fun _ h=>h) m hm)
   refine ⟨_,rfl,_,rfl,_,rfl,a,p5,t,Af,fil i e 0 p',Ad,tt',rfl,⟨hN.same sA,wf,n400,⟨ts,gd,MT⟩,by omega,moF⟩,runP RU',ha',sA _ _ hT,fun no H2 s2=>?_,fun j T2 H2 hj hjd s2 hS2=>?_⟩
   ·exact ⟨p5,fil i e 0 p',ts,tt',_,rfl,rfl,sA.trans s2,s2 _ _ gd,MovL.same MT s2,by omega,moF,RU',ha',etd'.trans etd,.inl ⟨rfl,no⟩⟩
   ·exact ⟨p5,fil i e 0 p',ts,tt',_,rfl,rfl,sA.trans s2,s2 _ _ gd,MovL.same MT s2,by omega,moF,RU',ha',etd'.trans etd,.inr ⟨j,T2,rfl,hj,hjd,hS2⟩⟩
 refine ⟨_,rfl,_,rfl,_,rfl,a,lq,t,Af,p,Ad,tt,rfl,⟨hN.same s1,wf,n400,⟨rs,g1,MovL.same ML s1⟩,lp,mo⟩,runP RU,ha,s1 _ _ hT,fun no H2 s2=>qJD _ H2 (s1.trans s2) (s2 _ _ g1) (.inl ⟨rfl,no⟩),fun i T H2 hi hid s2 hST=>qJD _ H2 (s1.trans s2) (s2 _ _ g1) (.inr ⟨i,T,rfl,hi,hid,hST⟩)⟩
end
section
variable {P:Program} {w:World} {K:PySem.W.Frag} {mg:Str->Option Value} {base:Heap} {f:Addr} {fd:FuncData}
theorem sc_counts_behind:FnScope ["plan","counts","count","move"] ["plan"] (qAH qCK):=⟨rfl,rfl,rfl,by decide +kernel,rfl,by decide +kernel,by decide +kernel⟩
theorem ok_counts_behind (F:Fun K "counts_behind" "counts_behind" qCK f fd):FnOk P w K mg base CX0 1 f fd ["plan"] qN4:=by
 refine F.ok sc_counts_behind (fun vs H Q E h=>?_) (fun cdv A outer s H vs Q E hr h=>?_)
 ·obtain ⟨l,p,rfl,_⟩:=h
  rfl
 obtain ⟨l,ms,rfl,⟨rs,hl,M⟩,l10,q⟩:=h;refine ⟨_,(qA4 (qAE (i:=1) sc_counts_behind.nd rfl (C5 rfl) (qBG qA3)) (qA4 (qAE (i:=2) sc_counts_behind.nd rfl (C5 rfl) qA7) (qA4 (qBS C9 rfl (qC3 (pv 0)) (qAA (i:=3) sc_counts_behind.nd rfl (C5 rfl)) (qA4 (qb0 (i:=2) sc_counts_behind.nd rfl (C5 rfl) (qG2 (qAI qE8 (qAV qB0 (pv 3) qA7 (fun _ _=>rfl)) qB9 (qAY _)) qA7 (qKE qGC qA7)) qbW) (qA6 (qCC (qGJ E2 E3 E4 qB6 (pv 1) (qA0 (pv 2) qA3)))))) (qA6 (qAL (pv 1)))))),?_⟩
 try dsimp only [Cx.nox,Cx.wish,cxOf]
 have lrs:=B2 M;refine ⟨(by show 0<=sizeLine;decide),fun p hp=>?_⟩
 have s1:=qA2 hp (.lst []);have g1:(Ai H p (.lst [])) p=some (.lst ((cntB ms 0).map V.int)):=qA1;generalize Ai H p (.lst [])=H1 at s1 g1 ⊢;refine ⟨_,rfl,l,rfl,⟨_,SqL.of (s1 _ _ hl)⟩,qCF (a:=l) (xs:=rs.map V.ref) (fun i σ Hc=>∃ (v3:Option V),σ=[some (.ref l),some (.ref p),some (.int (qDA (ms.take i))),v3]/\Same H Hc/\Hc p=some (.lst ((cntB ms i).map V.int)))
  ⟨none,rfl,s1,g1⟩ (fun i σ Hc _ hP=>by obtain ⟨_,_,sm,_⟩:=hP;exact SqL.of (sm _ _ hl)) ?_ ?_⟩
 ·refine fun i x σ Hc hx hI_1=>opq fun G_1 hG_1=>?_;obtain ⟨v3,rfl,sm,hpc⟩:=hI_1;obtain ⟨mv,hmv,rfl⟩:=qBX hx;obtain ⟨⟨Ac,wk⟩,hm,hH⟩:=qAO M hmv;refine hG_1 ?_;have hi:=(A1.mp hm).1;refine ⟨_,rfl,_,rfl,mv,_,_,_,rfl,rfl,SqT.of (sm _ _ hH),rfl,rfl,_,rfl,?_⟩;have es:qDA (ms.take (i+1))=qDA (ms.take i)+pm (Ac,wk):=by rw [qN0 hm,qQ4,qCB];exact congrArg _ (Int.add_zero _)
  have fin:∀ Hd,Hd=Ai Hc p (.lst ((cntB ms i).map V.int++[.int (qDA (ms.take (i+1)))]))->Same H Hd/\Hd p=some (.lst ((cntB ms (i+1)).map V.int)):=fun Hd e=>by
   subst e;exact ⟨qAG sm hp,by rw [qA1,qUE,B1];rfl⟩
  have lc:=qAX (n:=((cntB ms i).map V.int).length) (by rw [A0,qJ0];omega)
  refine ite2 (fun ck=>?_) (fun ck=>?_)
  ·have e1:pm (Ac,wk)=1:=if_pos (V.str.inj (of_decide_eq_true ck));rw [e1] at es;refine ⟨_,_,rfl,rfl,?_⟩;exact ⟨_,rfl,.inl ⟨rfl,_,SqL.of hpc⟩,_,rfl,p,_,_,rfl,rfl,hpc,lc,some (.ref mv),by rw [es];rfl,fin _ (by rw [es])⟩
  ·have e1:pm (Ac,wk) = -1:=if_neg fun z=>by rw [show Ac=C4 "do" from z] at ck;exact ck (decide_eq_true rfl)
   rw [e1] at es;refine ⟨_,rfl,_,_,rfl,rfl,?_⟩;exact ⟨_,rfl,.inl ⟨rfl,_,SqL.of hpc⟩,_,rfl,p,_,_,rfl,rfl,hpc,lc,some (.ref mv),by rw [es];rfl,fin _ (by rw [es])⟩
 ·refine fun σ Hc hI_2=>opq fun G_2 hG_2=>?_;obtain ⟨v3,rfl,sm,hpc⟩:=hI_2;refine hG_2 ?_;rw [A0,lrs] at hpc;exact ⟨_,rfl,q p Hc sm hpc⟩
end
theorem qIK {H:Hp} {a:Addr} {o:HO}:∀ {rs:List Addr} {ts:List (List Int)},L2.GS.TupsAt H rs ts->(∀ x ∈ rs,x ≠ a)->L2.GS.TupsAt (Ai H a o) rs ts
 | _,_,.nil,_=>.nil
 | _,_,.cons e r,h=>.cons (by rw [qA8 (h _ C0)];exact e) (qIK r fun x hx=>h x (A7 _ hx))
section
variable {P:Program} {w:World} {K:PySem.W.Frag} {mg:Str->Option Value} {base:Heap} {f:Addr} {fd:FuncData}
theorem sc_done_again:FnScope ["plan","cleared","pairs","place","move"] ["plan"] (qAH qDR):=⟨rfl,rfl,rfl,by decide +kernel,rfl,by decide +kernel,by decide +kernel⟩
theorem ok_done_again (F:Fun K "done_again" "done_again" qDR f fd) (qAD:mg "enumerate" = none) (qB4:mg "sorted" = none):FnOk P w K mg base CX0 1 f fd ["plan"] qN3:=by
 refine F.ok sc_done_again (fun vs H Q E h=>?_) (fun cdv A outer s H vs Q E hr h=>?_)
 ·obtain ⟨l,p,rfl,_⟩:=h
  rfl
 obtain ⟨l,ms,rfl,⟨rs,hl,M⟩,l10,mo,d64,q⟩:=h;have hu:=qP1 hr;have hu64:=hr.units;refine ⟨_,(qA4 (qAE (i:=1) sc_done_again.nd rfl (C5 rfl) qG3) (qA4 (qAE (i:=2) sc_done_again.nd rfl (C5 rfl) (qBG qA3)) (qA4 (qBS C9 rfl (qE6 rfl qAD qBD (qA0 (pv 0) qA3)) (qDU rfl (qAK (qAA (i:=3) sc_done_again.nd rfl (C5 rfl)) (qAK (qAA (i:=4) sc_done_again.nd rfl (C5 rfl)) qC4))) (qA6 (qBW (qAI qE8 (qAV qB0 (pv 4) qA7 (fun _ _=>rfl)) qB9 (qAY _)) (qA6 (qFF hu (pv 1) (qAV qB0 (pv 4) qA7 (fun _ _=>rfl)) (pv 3) rfl)) (qA6 (qBW (qI6 (qSX hu (qAV qB0 (pv 4) qA7 (fun _ _=>rfl)) (pv 1))) (qA6 (qCC (qGJ E2 E3 E4 qB6 (pv 2) (qA0 (qBC (qA0 (qVZ (pv 1) (qAV qB0 (pv 4) qA7 (fun _ _=>rfl)) ⟨rfl,rfl,rfl,rfl⟩) (qA0 (pv 3) qA3))) qA3)))) qAM))))) (qA6 (qAL (qA9 (L2.GS.call_sortedTL rfl hu64) rfl qB4 qEN (qA0 (pv 2) qA3))))))),?_⟩
 try dsimp only [Cx.nox,Cx.wish,cxOf]
 have lrs:=B2 M;refine cut fun N0 hN0=>?_;refine fun dc hdc=>?_;have s1:=qA2 hdc (.dK []);have g1:(Ai H dc (.dK [])) dc=some (.dK []):=qA1;generalize Ai H dc (.dK [])=H1 at s1 g1 ⊢;refine hN0 _ _ (cut fun N1 hN1=>?_);refine ⟨(by show 0<=sizeLine;decide),fun pl hpl=>?_⟩
 have s2:=s1.trans (qA2 hpl (.lst []));have fpl:H pl=none:=s1.free hpl;have g2:(Ai H1 pl (.lst [])) dc=some (.dK []):=qA2 hpl (.lst []) _ _ g1;have gp:(Ai H1 pl (.lst [])) pl=some (.lst (([]:List Addr).map V.ref)):=qA1;have ndp:dc ≠ pl:=qA5 g1 hpl;generalize Ai H1 pl (.lst [])=H2 at s2 g2 gp ⊢;refine hN1 _ _ (cut fun N2 hN2=>?_);refine ⟨_,rfl,l,rfl,⟨_,SqL.of (s2 _ _ hl)⟩,qG5 (a:=l) (xs:=rs.map V.ref) (fun i σ Hc=>∃ (ps:List Addr) (Ah:List (Key × V)) (v4 v5:Option V),σ=[some (.ref l),some (.ref dc),some (.ref pl),v4,v5]/\Same H Hc/\Hc pl=some (.lst (ps.map V.ref))/\L2.GS.TupsAt Hc ps (prB ms i)/\Hc dc=some (.dK Ah)/\Ah.length<=i/\∀ n,valV Ah (F2 n)=(qED ms i n).map fun (c:Nat)=>V.int (c:Int))
  ⟨[],[],none,none,rfl,s2,gp,.nil,g2,E8 _,fun n=>rfl⟩ (fun i σ Hc _ hP=>by obtain ⟨_,_,_,_,_,sc,_⟩:=hP;exact SqL.of (sc _ _ hl)) ?_ ?_⟩
 ·refine fun i x σ Hc T hx hI_3 hT=>opq fun G_3 hG_3=>?_;obtain ⟨ps,Ah,v4,v5,rfl,sc,gpl,TA,gd,lk,hv⟩:=hI_3;obtain ⟨r,er,rfl⟩:=qBX hx;obtain ⟨m,em,hm⟩:=qAO M er;refine hG_3 ?_;have hi:=(A1.mp em).1;have sT:=qA2 hT (.tup [.int (i:Int),.ref r]);have sc1:=sc.trans sT;have gd1:=sT _ _ gd;have gpl1:=sT _ _ gpl;have TA1:L2.GS.TupsAt _ ps (prB ms i):=qB3 TA fun r t e=>sT _ _ e;have gT:SqT K (Ai Hc T (.tup [.int (i:Int),.ref r])) T [.int (i:Int),.ref r]:=SqT.of qA1;generalize Ai Hc T (.tup [.int (i:Int),.ref r])=H3 at sc1 gd1 gpl1 gT TA1 ⊢;refine ⟨T,_,rfl,gT,rfl,_,_,rfl,_,_,rfl,rfl,?_⟩;obtain ⟨wd,w⟩:=m;have hw:=mo (wd,w) (B4 em);dsimp only at hw;refine ⟨_,rfl,r,_,_,_,rfl,rfl,SqT.of (sc1 _ _ hm),rfl,rfl,_,rfl,?_⟩;refine ite2 (fun ck=>?_) (fun ck=>?_)
  ·have hc:wd = "clear":=V.str.inj (of_decide_eq_true ck);subst hc;have em':ms[i]?=some (cL w):=em;have ed:dpB ms i=false:=by unfold dpB;rw [em'];exact decide_eq_false fun z=>qAC z
   refine ⟨_,rfl,_,rfl,_,rfl,r,_,_,_,rfl,rfl,SqT.of (sc1 _ _ hm),rfl,dc,_,rfl,DPut.k (k:=F2 w) gd1 (qAX (by omega)),?_⟩
   have nr:∀ x ∈ ps,x ≠ dc:=fun x hx z=>by
    obtain ⟨t,_,e⟩:=L2.GS.tups_mem TA1 hx;rw [z,gd1] at e;cases e
   refine ⟨ps,putK Ah (F2 w) (.int (i:Int)),_,_,rfl,qAG sc1 hdc,?_,?_,qA1,F6 (qBE _ _ _) (by omega),fun n=>?_⟩
   ·rw [qA8 ndp.symm];exact gpl1
   ·have e:prB ms (i+1)=prB ms i:=by show prB ms i++(if dpB ms i then _ else _)=_;rw [ed];exact O7 _
    rw [e];exact qIK TA1 nr
   ·rw [qD8,hv n];show _=(if ms[i]?=some (cL n) then some i else if ms[i]?=some (dO n) then none else qED ms i n).map _
    rw [em'];by_cases c:n=w
    ·rw [c,if_pos rfl,if_pos rfl]
     rfl
    ·rw [if_neg fun z=>c (T6 z),if_neg fun z=>c (congrArg u0 (A8 z)).symm,if_neg fun z=>qP6 (A8 z).symm]
  ·have hd:wd = "do":=hw.resolve_right fun z=>by rw [z] at ck;exact ck (decide_eq_true rfl)
   subst hd;have em':ms[i]?=some (dO w):=em;have ewk:=qD0 em';have ed:=qNY em';refine ⟨_,rfl,r,_,_,_,rfl,rfl,SqT.of (sc1 _ _ hm),rfl,_,rfl,dc,_,rfl,DGet.k (k:=F2 w) gd1,?_⟩;have es:∀ n,qED ms (i+1) n=if n=w then none else qED ms i n:=fun n=>by
    show (if ms[i]?=some (cL n) then some i else if ms[i]?=some (dO n) then none else qED ms i n)=_
    rw [em',if_neg fun z=>qP6 (A8 z)];by_cases c:n=w
    ·rw [c,if_pos rfl,if_pos rfl]
    ·rw [if_neg fun z=>c (congrArg u0 (A8 z)).symm,if_neg c]
   have ep:prB ms (i+1)=prB ms i++(match qED ms i w with | some c=>[[(c:Int),(i:Int)]] | none=>[]):=by
    show prB ms i++(if dpB ms i then match qED ms i (wkO ms i) with | some c=>[[(c:Int),(i:Int)]] | none=>[] else [])=_
    rw [if_pos ed,ewk]
   have hvw:=hv w;cases ew:qED ms i w with
   | none=>
    rw [ew] at hvw ep;rw [show valV Ah (F2 w)=none from hvw];refine ⟨_,rfl,?_⟩;refine ⟨ps,Ah,_,_,rfl,sc1,gpl1,by rw [ep,O7];exact TA1,gd1,by omega,fun n=>?_⟩
    rw [hv n,es n];by_cases c:n=w
    ·rw [if_pos c,c,ew]
    ·rw [if_neg c]
   | some c0=>
    rw [ew] at hvw ep;rw [show valV Ah (F2 w)=some (.int (c0:Int)) from hvw];refine ⟨_,rfl,?_⟩;refine ⟨_,rfl,.inl ⟨rfl,_,SqL.of gpl1⟩,_,rfl,dc,rfl,(.inl ⟨_,.inl gd1⟩),_,rfl,r,_,_,_,rfl,rfl,SqT.of (sc1 _ _ hm),rfl,Ah,F2 w,_,gd1,rfl,hvw,_,rfl,(by show 2<=sizeLine;decide),fun T2 hT2=>?_⟩
    have s4:Same H (Ai H3 dc (.dK (qEB Ah (F2 w)))):=qAG sc1 hdc;have gpl4:(Ai H3 dc (.dK (qEB Ah (F2 w)))) pl=some (.lst (ps.map V.ref)):=by rw [qA8 ndp.symm];exact gpl1
    have gd4:(Ai H3 dc (.dK (qEB Ah (F2 w)))) dc=some (.dK (qEB Ah (F2 w))):=qA1;have TA4:L2.GS.TupsAt (Ai H3 dc (.dK (qEB Ah (F2 w)))) ps (prB ms i):=qIK TA1 fun x hx z=>by
     obtain ⟨t,_,e⟩:=L2.GS.tups_mem TA1 hx;rw [z,gd1] at e;cases e
    generalize Ai H3 dc (.dK (qEB Ah (F2 w)))=H4 at s4 gpl4 gd4 TA4 hT2 ⊢;have sT2:=qA2 hT2 (.tup [.int (c0:Int),.int (i:Int)]);have s5:=s4.trans sT2;have gpl5:=sT2 _ _ gpl4;have gd5:=sT2 _ _ gd4;have TA5:L2.GS.TupsAt (Ai H4 T2 (.tup [.int (c0:Int),.int (i:Int)])) (ps++[T2]) (prB ms (i+1)):=by
     rw [ep];exact Paired.app (qB3 TA4 fun r t e=>sT2 _ _ e) (.cons qA1 .nil)
    generalize Ai H4 T2 (.tup [.int (c0:Int),.int (i:Int)])=H5 at s5 gpl5 gd5 TA5 ⊢;have lps:=B2 TA;have lpr:=qSO (p:=ms) i;refine ⟨pl,_,_,rfl,rfl,gpl5,qAX (by rw [A0];omega),?_⟩
    refine ⟨ps++[T2],qEB Ah (F2 w),_,_,rfl,qAG s5 fpl,?_,?_,?_,F6 (qMF _ _) (by omega),fun n=>?_⟩
    ·rw [qA1,B1]
     rfl
    ·exact qIK TA5 fun x hx z=>by
      obtain ⟨t,_,e⟩:=L2.GS.tups_mem TA5 hx;rw [z,gpl5] at e;cases e
    ·rw [qA8 ndp];exact gd5
    ·rw [qJA,hv n,es n];by_cases c:n=w
     ·rw [if_pos c,if_pos (by rw [c])]
      rfl
     ·rw [if_neg c,if_neg fun z=>c (T6 z)]
 ·refine fun σ Hc hI_4=>opq fun G_4 hG_4=>?_;obtain ⟨ps,Ah,v4,v5,rfl,sc,gpl,TA,gd,lk,hv⟩:=hI_4;refine hG_4 ?_;rw [A0,lrs] at TA;refine hN2 _ _ ⟨_,rfl,pl,ps,_,rfl,SqL.of gpl,TA,fun t ht z=>?_,?_,fun a rs' ts' ha pr TA' pt srt=>?_⟩
  ·obtain ⟨_,_,_,_,_,_,e⟩:=mem_prB.mp ht;rw [e] at z;cases z
  ·have l1:=B2 TA;have l2:=qSP (p:=ms) ms.length;rw [G5] at l2;omega
  ·have sa:=qA2 ha (.lst (rs'.map V.ref));exact q a rs' ts' _ (sc.trans sa) qA1 (qB3 TA' fun r t e=>sa _ _ e) pt srt
end
section
variable {P:Program} {w:World} {K:PySem.W.Frag} {mg:Str->Option Value} {base:Heap} {f:Addr} {fd:FuncData} {qCO qE0:Addr} {qF5 qHA:FuncData}
theorem sc_first_spared:FnScope ["rooms","plan","counts","pair"] ["rooms","plan"] (qAH qCW):=⟨rfl,rfl,rfl,by decide +kernel,rfl,by decide +kernel,by decide +kernel⟩
theorem ok_first_spared (F:Fun K "first_spared" "first_spared" qCW f fd) (qCQ:Clb P w K mg base 1 qCO qF5 "counts_behind" ["plan"] qN4) (qE3:Clb P w K mg base 1 qE0 qHA "done_again" ["plan"] qN3) (qF7:mg "all" = none):FnOk P w K mg base CX0 2 f fd ["rooms","plan"] qPS:=by
 refine F.ok sc_first_spared (fun vs H Q E h=>?_) (fun cdv A outer s H vs Q E hr h=>?_)
 ·obtain ⟨l,p,R,rfl,_⟩:=h
  rfl
 obtain ⟨l,p,R,rfl,hP,l10,mo,d64,q1,q2⟩:=h;refine ⟨_,(qA4 (qAE (i:=2) sc_first_spared.nd rfl (C5 rfl) (qAR qCQ hr rfl (qA0 (pv 1) qA3))) (qA4 (qBS C9 rfl (qC3 (qAR qE3 hr rfl (qA0 (pv 1) qA3))) (qAA (i:=3) sc_first_spared.nd rfl (C5 rfl)) (qA6 (qBW (qD2 (qA9 (qHI rfl) rfl qF7 qO5 (qA0 (qF8 rfl (lcs (own:=["count"]) (fv:=[0]) (by kernel_rfl)) (qC3 (qG1 qJG (pv 2) (qGI (qB5 qDK (qAV qB0 (pv 3) qA7 (fun _ _=>rfl)) qA7)) (qGI (qAV qB0 (pv 3) qA7 (fun _ _=>rfl))))) (fun z1=>qAA (i:=0) (qCA (by kernel_rfl)) rfl (C5 rfl)) (fun z1=>qC6) (fun z1=>(qDJ qT1 (pv 0) (pv 1) (qAY _)))) qA3))) (qA6 (qAL (pv 3))) qAM))) (qA6 (qAL qJN)))),?_⟩
 try dsimp only [Cx.nox,Cx.wish,cxOf]
 refine ⟨_,rfl,l,p,rfl,hP,l10,fun lc H1 s1 g1=>?_⟩;refine ⟨_,rfl,l,p,rfl,hP.same s1,l10,mo,d64,fun a rs ts H2 s2 g2 TA pt srt=>?_⟩;have s12:=s1.trans s2;have lrs:=B2 TA;refine ⟨a,rfl,⟨_,SqL.of g2⟩,qCF (a:=a) (xs:=rs.map V.ref) (fun i σ Hc=>∃ (v3:Option V),σ=[some (.int R),some (.ref l),some (.ref lc),v3]/\Same H2 Hc/\∀ j (c g:Nat),j<i->ts[j]?=some [(c:Int),(g:Int)]->¬ Spr R p c g)
  ⟨none,rfl,.refl _,fun j c g hj _=>by omega⟩ (fun i σ Hc _ hP=>by obtain ⟨_,_,sm,_⟩:=hP;exact SqL.of (sm _ _ g2)) ?_ ?_⟩
 ·refine fun i x σ Hc hx hI_5=>opq fun G_5 hG_5=>?_;obtain ⟨v3,rfl,sm,hno⟩:=hI_5;obtain ⟨r,er,rfl⟩:=qBX hx;obtain ⟨t,et,ht⟩:=qAO TA er;obtain ⟨g,c,w,hg,gw,hc,rfl⟩:=mem_prB.mp (pt.mem_iff.mp (B4 et));refine hG_5 ?_;have A:=qc4 hc gw;have hcg:=A.2.2.1;have hr':=sm _ _ ht;have hlc:=sm _ _ (s2 _ _ g1);have ec:cutI ((cntB p p.length).map V.int) (some ((c:Int)+1)) (some (g:Int))=((((cntB p p.length).drop (c+1)).take (g - (c+1))).map V.int):=by
   rw [show (c:Int)+1=((c+1:Nat):Int) by omega,qX0 _ (by rw [A0,qJ0];omega) (by omega),A74,A73]
  refine ⟨_,rfl,_,rfl,r,_,_,_,rfl,rfl,SqT.of hr',rfl,_,_,rfl,rfl,?_⟩;refine ⟨_,rfl,_,rfl,r,_,_,_,rfl,rfl,SqT.of hr',rfl,_,rfl,lc,_,rfl,SqL.of hlc,fun b hb=>?_⟩;have sb:=qA2 hb (.lst (cutV ((cntB p p.length).map V.int) (some ((c:Int)+1)) (some (g:Int))));have gb:(Ai Hc b (.lst (cutV ((cntB p p.length).map V.int) (some ((c:Int)+1)) (some (g:Int))))) b=some (.lst ((((cntB p p.length).drop (c+1)).take (g - (c+1))).map V.int)):=by rw [qA1];exact congrArg (fun z=>some (HO.lst z)) ec
  have smb:=sm.trans sb;have hrb:=sb _ _ hr';generalize Ai Hc b (.lst (cutV ((cntB p p.length).map V.int) (some ((c:Int)+1)) (some (g:Int))))=Hb at gb smb hrb ⊢;have sprI:=qYN (R:=R) (p:=p) (c:=c) (g:=g) (by omega)
  have lzs:(((cntB p p.length).drop (c+1)).take (g - (c+1))).length<=1000:=by rw [C1,F5,qJ0];omega
  generalize ((cntB p p.length).drop (c+1)).take (g - (c+1))=zs at gb sprI lzs;refine ⟨b,rfl,⟨_,SqL.of gb⟩,fun u hu'=>?_⟩;refine qHT (p:=u) (a:=b) (xs:=zs.map V.int) (fun k σ Hd=>∃ (v0:Option V),σ=[v0,some (.int R)]/\Same Hb Hd/\Hd u=some (.lst (((zs.take k).map fun z=>decide (z<R)).map V.bl))) ?_ ?_ ?_ ?_
  ·exact ⟨none,rfl,qA2 hu' _,qA1⟩
  ·rintro k σ Hd hk ⟨v0,rfl,sd,_⟩;exact SqL.of (sd _ _ gb)
  ·refine fun k x σ Hd hx hI_7=>opq fun G_7 hG_7=>?_;obtain ⟨v0,rfl,sd,hud⟩:=hI_7;obtain ⟨z,ez,rfl⟩:=qBI hx;refine hG_7 ?_;refine ⟨_,rfl,_,rfl,_,_,rfl,rfl,_,hud,qAQ (by rw [A0,A0,C1];omega),_,rfl,qAG sd hu',?_⟩
   rw [qA1,D5,ez,D4,B1,B1]
   rfl
  refine fun σ Hd hI_8=>opq fun G_8 hG_8=>?_;obtain ⟨v0,rfl,sd,hud⟩:=hI_8;refine hG_8 ?_;rw [A0,qCJ rfl] at hud;have eall:((zs.map fun z=>decide (z<R)).all id=true) ↔ Spr R p c g:=by
   rw [sprI,G9]
   constructor
   ·intro h x hx;exact of_decide_eq_true (h _ (F4.mpr ⟨x,hx,rfl⟩))
   ·intro h y hy;obtain ⟨x,hx,rfl⟩:=F4.mp hy;exact decide_eq_true (h x hx)
  refine ⟨u,_,rfl,SqL.of hud,_,rfl,?_⟩;refine ite2 (fun ck=>?_) (fun ck=>?_)
  ·refine ⟨_,rfl,q1 r Hd c g w (s12.trans (smb.trans sd)) (sd _ _ hrb) A (eall.mp ck) fun c' g' w' gw' hc' sp'=>?_⟩;have hm:[(c':Int),(g':Int)] ∈ ts:=pt.mem_iff.mpr (mem_prB.mpr ⟨g',c',w',(A1.mp gw').1,gw',hc',rfl⟩);obtain ⟨j,hj⟩:=c7.mp hm;rcases R8 j i with h | h | h
   ·exact absurd sp' (hno j c' g' h hj)
   ·rw [h,et] at hj;have e1:=A8 hj;have e2:(c:Int)=c':=by injection e1
    omega
   ·obtain ⟨li,vi⟩:=A1.mp et;obtain ⟨lj,vj⟩:=A1.mp hj;have:=J6.mp srt i j li lj h;rw [vi,vj] at this;have:=qbI this;omega
  ·refine ⟨_,rfl,smb.trans sd,fun j c' g' hj ej=>?_⟩;by_cases e:j=i
   ·rw [e,et] at ej;have e1:=A8 ej;have e2:(c:Int)=c':=by injection e1
    have e3:(g:Int)=g':=by injection e1 with _ e1;injection e1
    have e4:c=c':=by omega
    have e5:g=g':=by omega
    subst e4 e5;exact fun z=>ck (eall.mpr z)
   ·exact hno j c' g' (by omega) ej
 ·refine fun σ Hc hI_9=>opq fun G_9 hG_9=>?_;obtain ⟨v3,rfl,sm,hno⟩:=hI_9;refine hG_9 ?_;rw [A0,lrs] at hno;refine q2 Hc (s12.trans sm) fun c g w hg hc=>?_;have hm:[(c:Int),(g:Int)] ∈ ts:=pt.mem_iff.mpr (mem_prB.mpr ⟨g,c,w,(A1.mp hg).1,hg,hc,rfl⟩);obtain ⟨j,hj⟩:=c7.mp hm;exact hno j c g (A1.mp hj).1 hj
end
section
variable {P:Program} {w:World} {K:PySem.W.Frag} {mg:Str->Option Value} {base:Heap} {f:Addr} {fd:FuncData} {qIU qCY:Addr} {qNS qFL:FuncData}
theorem sc_shortened:FnScope ["net","rooms","plan","asked","tidy","pair","less"] ["net","rooms","plan","asked"] (qAH qES):=⟨rfl,rfl,rfl,by decide +kernel,rfl,by decide +kernel,by decide +kernel⟩
theorem ok_shortened (F:Fun K "shortened" "shortened" qES f fd) (qHL:Clb P w K mg base 2 qIU qNS "tidied" ["net","plan","asked"] qPO) (qCE:Clb P w K mg base 2 qCY qFL "first_spared" ["rooms","plan"] qPS) (qAD:mg "enumerate" = none):FnOk P w K mg base CX0 3 f fd ["net","rooms","plan","asked"] qFV:=by
 refine F.ok sc_shortened (fun vs H Q E h=>?_) (fun cdv A outer s H vs Q E hr h=>?_)
 ·obtain ⟨a,l,t,Af,p,R,Ad,tt,rfl,_⟩:=h
  rfl
 obtain ⟨a,l,t,Af,p,R,Ad,tt,rfl,⟨hN,wf,n1,n60,hP,lp,mo,R0,R1,RU,ha,hT,rA,lA,d64⟩,q⟩:=h;refine ⟨_,(qA4 (qAE (i:=4) sc_shortened.nd rfl (C5 rfl) (qAR qHL hr rfl (qA0 (pv 0) (qA0 (pv 2) (qA0 (pv 3) qA3))))) (qA4 (qAE (i:=5) sc_shortened.nd rfl (X7 rfl) (qAR qCE hr rfl (qA0 (pv 1) (qA0 (pv 4) qA3)))) (qA4 (qIT C9 (qI6 (qLP (pv 5))) (qA4 (qKD (i:=6) sc_shortened.nd rfl rfl rfl (lcs (own:=["place","move"]) (fv:=[5]) (by kernel_rfl)) (qE6 rfl qAD qBD (qA0 (pv 4) qA3)) (fun z1=>qJM (K:=K) (n:=2) rfl rfl (qAK (qAA (i:=0) (qCA (by kernel_rfl)) rfl (C5 rfl)) (qAK (qAA (i:=1) (qCA (by kernel_rfl)) rfl (C5 rfl)) qC4)) rfl rfl) (fun z1=>(qD7 (qAI (qEI (K:=K) rfl) (pv 0) (pv 2) (by with_unfolding_all rfl)))) (fun z1=>(pv 1)) (by kernel_rfl)) (qA4 (qAE (i:=4) sc_shortened.nd rfl (C5 rfl) (qAR qHL hr rfl (qA0 (pv 0) (qA0 (pv 6) (qA0 (pv 3) qA3))))) (qA6 (qAE (i:=5) sc_shortened.nd rfl (X7 rfl) (qAR qCE hr rfl (qA0 (pv 1) (qA0 (pv 4) qA3)))))))) (qA6 (qAL (pv 4)))))),?_⟩
 try dsimp only [Cx.nox,Cx.wish,cxOf]
 have RP:=runP RU;have S0:=(qHO (Ad:=Ad) wf RU mo ha rA);have ld:=S0.dos;have lp':=qU6 p;have S1:=S0.self;generalize hD:(qB2 (tdy Af Ad p)).length=D at S1 q ld;refine cut fun N0 hN0=>?_;refine ⟨_,rfl,_,rfl,_,rfl,a,l,t,Af,p,Ad,rfl,⟨hN,wf,by omega,hP,by omega,mo,RP.ndf⟩,hT,lA,RP.last ha,fun l1 H1 s1 f1 P1=>?_⟩
 refine hN0 _ _ (cut fun N1 hN1=>?_);have mo1:∀ (q:List Mv),MvOk Af q->∀ m ∈ q,m.1 = "do"\/m.1 = "clear":=fun q h m hm=>(h m hm).1
 have l1':=S1.len;have goon:∀ (m:Nat) (σ:St) (Hc:Hp),(∃ (lq:Addr) (qq:List Mv) (v6:Option V) (pv:V),σ=[some (.ref a),some (.int R),some (.ref l),some (.ref t),some (.ref lq),some pv,v6]/\m=(qB2 qq).length/\Same H Hc/\PlanAt Hc lq qq/\Sho Af R Ad (2 * D) D qq/\ShUp Af R Ad (tdy Af Ad p) qq/\H lq=none/\((pv=.non/\∀ c g w,qq[g]?=some (dO w)->qED qq g w=some c->¬ Spr R qq c g)\/∃ (T:Addr) (c g:Nat) (w:Int),pv=.ref T/\Hc T=some (.tup [.int (c:Int),.int (g:Int)])/\Lst R qq c g w))->N1 σ Hc:=by
  intro m σ Hc h;refine hN1 _ _ ?_;refine ⟨fun m σ Hc=>∃ (lq:Addr) (qq:List Mv) (v6:Option V) (pv:V),σ=[some (.ref a),some (.int R),some (.ref l),some (.ref t),some (.ref lq),some pv,v6]/\m=(qB2 qq).length/\Same H Hc/\PlanAt Hc lq qq/\Sho Af R Ad (2 * D) D qq/\ShUp Af R Ad (tdy Af Ad p) qq/\H lq=none/\((pv=.non/\∀ c g w,qq[g]?=some (dO w)->qED qq g w=some c->¬ Spr R qq c g)\/∃ (T:Addr) (c g:Nat) (w:Int),pv=.ref T/\Hc T=some (.tup [.int (c:Int),.int (g:Int)])/\Lst R qq c g w),⟨m,h⟩,?_⟩;clear h;refine fun m σ Hc hI_1=>opq fun G_1 hG_1=>?_;obtain ⟨lq,qq,v6,pv,rfl,rfl,sc,hQ,SQ,UP,flq,hh⟩:=hI_1;refine hG_1 ?_;have lq':=SQ.len;refine ⟨_,rfl,_,rfl,?_⟩;rcases hh with ⟨rfl,no⟩ | ⟨T,c,g,w,rfl,gT,LS⟩
  ·refine iteF ?_;exact ⟨_,rfl,q lq qq Hc sc flq hQ SQ (UP.fin (.stop fun c g w A=>no c g w A.2.1 (qV4 SQ.run A)))⟩
  ·refine iteT ?_;obtain ⟨Ag0,Sp0,_⟩:=id LS;obtain ⟨k1,k2,k3,k4,k5⟩:=Sho.next wf rA SQ Ag0 Sp0;refine ⟨_,fun σ' H' h=>⟨(qB2 (tdy Af Ad (fil c g 0 qq))).length,k4,h⟩,?_⟩;obtain ⟨rs,gq,MQ⟩:=id hQ;have lrs:=B2 MQ;refine cut fun M1 hM1=>?_;refine ⟨_,rfl,lq,rfl,⟨_,SqL.of gq⟩,fun p5 hp5=>?_⟩;refine qLS (p:=p5) (a:=lq) (xs:=rs.map V.ref) (fun k σ Hd=>∃ (v0 v1:Option V) (ts:List Addr),σ=[v0,v1,some (.ref T)]/\Same Hc Hd/\Hd p5=some (.lst (ts.map V.ref))/\MovL Hd ts (fil c g 0 (qq.take k))) ?_ ?_ ?_ ?_
   ·exact ⟨none,none,[],rfl,qA2 hp5 _,qA1,.nil⟩
   ·rintro k σ Hd hk ⟨v0,v1,ts,rfl,sd,_⟩;exact SqL.of (sd _ _ gq)
   ·refine fun k x σ Hd T0 hx hI_3 hT0=>opq fun G_3 hG_3=>?_;obtain ⟨v0,v1,ts,rfl,sd,gd,MT⟩:=hI_3;obtain ⟨r,er,rfl⟩:=qBX hx;obtain ⟨m,em,hm⟩:=qAO MQ er;refine hG_3 ?_;have hk:=(A1.mp em).1;have sT:=qA2 hT0 (.tup [.int (k:Int),.ref r]);refine ⟨T0,_,rfl,SqT.of qA1,rfl,_,_,rfl,_,_,rfl,rfl,?_⟩;have sd2:=sd.trans sT;have gd2:=sT _ _ gd;have MT2:MovL (Ai Hd T0 (.tup [.int (k:Int),.ref r])) ts (fil c g 0 (qq.take k)):=MovL.same MT sT;generalize Ai Hd T0 (.tup [.int (k:Int),.ref r])=H5 at sd2 gd2 MT2 ⊢;have gT':H5 T=some (.tup ([(c:Int),(g:Int)].map V.int)):=sd2 _ _ gT;refine ⟨_,rfl,_,rfl,T,_,rfl,.inr (SqT.of gT'),rfl,qB8 _,_,rfl,?_⟩;have lts:=B2 MT2;have lfl:ts.length<=1000:=by
     rw [lts];have:=qU2 (i:=c) (e:=g) (qq.take k) 0;rw [C1] at this;omega
    rw [qM4 em];dsimp only;rw [qC8];by_cases cc:k=c\/k=g
    ·rw [if_pos cc,decide_eq_true (show ((k:Nat):Int) ∈ [(c:Int),(g:Int)] by rcases cc with z | z <;> rw [z] <;> simp)]
     refine iteF ?_;exact ⟨_,_,ts,rfl,sd2,gd2,by simpa using MT2⟩
    ·rw [if_neg cc,decide_eq_false (show ¬ ((k:Nat):Int) ∈ [(c:Int),(g:Int)] by
      intro z;simp at z;omega)]
     refine iteT ?_;refine ⟨_,rfl,_,gd2,qAX (by rw [A0];omega),?_⟩
     rw [qBB];refine ⟨_,_,ts++[r],rfl,qAG sd2 hp5,qA1,qBV (qB3 MT2 fun b m' z=>?_) ?_⟩
     ·rw [qA8 (qBT z gd2 (by intro z;cases z))];exact z
     ·have hr:=sd2 _ _ hm;rw [qA8 (qBT hr gd2 (by intro z;cases z))];exact hr
   refine fun σ Hd hI_4=>opq fun G_4 hG_4=>?_;obtain ⟨v0,v1,ts,rfl,sd,gd,MT⟩:=hI_4;refine hG_4 ?_;rw [A0,lrs,G5] at MT;refine hM1 _ _ (cut fun M2 hM2=>?_);have sA:=sc.trans sd;have RP':=runP k1;refine ⟨_,rfl,_,rfl,_,rfl,a,p5,t,Af,fil c g 0 qq,Ad,rfl,⟨hN.same sA,wf,by omega,⟨ts,gd,MT⟩,by omega,k2,RP'.ndf⟩,sA _ _ hT,lA,RP'.last (fun x hx=>hx),fun l2 H2 s2 f2 P2=>?_⟩
   refine hM2 _ _ ?_;have k5l:=k5.len;refine ⟨_,rfl,_,rfl,l2,tdy Af Ad (fil c g 0 qq),R,rfl,P2,by omega,mo1 _ k5.ok,(by have:=k5.dos;omega),fun T3 H3 c' g' w' s3 gT3 Ag3 Sp3 Le3=>?_,fun H3 s3 no=>?_⟩
   ·exact ⟨l2,_,_,.ref T3,rfl,rfl,sA.trans (s2.trans s3),P2.same s3,k5,.snoc UP LS,sA.free f2,.inr ⟨T3,c',g',w',rfl,gT3,Ag3,Sp3,fun a b d h1 h2=>Le3 a b d h1.2.1 (qV4 k5.run h1) h2⟩⟩
   ·exact ⟨l2,_,_,.non,rfl,rfl,sA.trans (s2.trans s3),P2.same s3,k5,.snoc UP LS,sA.free f2,.inl ⟨rfl,no⟩⟩
 refine ⟨_,rfl,_,rfl,l1,tdy Af Ad p,R,rfl,P1,by omega,mo1 _ S1.ok,(by have:=S0.dos;omega),fun T H2 c g w s2 gT Ag0 Sp0 Le0=>?_,fun H2 s2 no=>?_⟩
 ·exact goon _ _ _ ⟨l1,_,none,.ref T,rfl,rfl,s1.trans s2,P1.same s2,S1,.nil,f1,.inr ⟨T,c,g,w,rfl,gT,Ag0,Sp0,fun a b d h1 h2=>Le0 a b d h1.2.1 (qV4 S1.run h1) h2⟩⟩
 ·exact goon _ _ _ ⟨l1,_,none,.non,rfl,rfl,s1.trans s2,P1.same s2,S1,.nil,f1,.inl ⟨rfl,no⟩⟩
end
section
variable {P:Program} {w:World} {K:PySem.W.Frag} {mg:Str->Option Value} {base:Heap} {f:Addr} {fd:FuncData} {qCP qEM:Addr} {qCT qGM:FuncData}
theorem sc_Ldoes:FnScope ["_law_net_here","_law_rooms","_law_plan","_law_asked_here","_law_stands","_law_word_here"] ["_law_net_here","_law_rooms","_law_plan","_law_asked_here"] (qAH qLK):=⟨rfl,rfl,rfl,by decide +kernel,rfl,by decide +kernel,by decide +kernel⟩
theorem ok_Ldoes (F:Fun K "_law_does" "_law_does" qLK f fd)
  (qC2:Clb P w K mg base 2 qCP qCT "_law_played" ["_law_net_here","_law_rooms","_law_plan"] qIL)
  (qGB:Clb P w K mg base 1 qEM qGM "_law_is_move" ["_law_net_here","_law_move"] qPR)
  (qAF:mg "isinstance" = none) (qC1:mg "list" = none) (qF7:mg "all" = none):FnOk P w K mg base CX0 3 f fd ["_law_net_here","_law_rooms","_law_plan","_law_asked_here"] qSB:=by
 refine F.ok sc_Ldoes (fun vs H Q E h=>?_) (fun cdv A outer s H vs Q E hr h=>?_)
 ·obtain ⟨a,l,t,Af,ms,Aa,Ad,rfl,_⟩:=h
  rfl
 obtain ⟨a,l,t,Af,ms,Aa,Ad,rfl,PI,hT,la,q1,q2⟩:=h;obtain ⟨hN,wf,n400,hP,l10,hms,r0,r1⟩:=id PI;have qaB:Room 2 _:=hr;refine ⟨_,(qA4 (qBW (PW.pt (qOT (qGE (qD2 (qA9 qB1 rfl qAF qAT (qA0 (pv 2) (qA0 (qCL (v:=.ty "list") rfl qC1 qFN rfl) qA3))))) (qKO (qGE (qD2 (qA9 (qHI rfl) rfl qF7 qO5 (qA0 (qF8 rfl (lcs (own:=["_law_move"]) (fv:=[0]) (by kernel_rfl)) (qC3 (pv 2)) (fun z1=>qAA (i:=0) (qCA (by kernel_rfl)) rfl (C5 rfl)) (fun z1=>qC6) (fun z1=>(qAR qGB hr rfl (qA0 (pv 1) (qA0 (pv 0) qA3))))) qA3))))))) (qA6 (qAL qGX)) qAM) (qA4 (qI7 (qAR qC2 hr rfl (qA0 (pv 0) (qA0 (pv 1) (qA0 (pv 2) qA3)))) (qDU rfl (qAK (qAA (i:=4) sc_Ldoes.nd rfl (X7 rfl)) (qAK (qAA (i:=5) sc_Ldoes.nd rfl (C5 rfl)) qC4)))) (qA6 (qAL (qI8 (qXR (qSW (pv 5))) (qKR (qA9 (qHI rfl) rfl qF7 qO5 (qA0 (qF8 rfl (lcs (own:=["_law_work"]) (fv:=[4]) (by kernel_rfl)) (qFG (pv 3)) (fun z2=>qAA (i:=0) (qCA (by kernel_rfl)) rfl (C5 rfl)) (fun z2=>qC6) (fun z2=>(qDJ (qQ1 (K:=K) rfl) (pv 0) (qAV (qEX (K:=K) rfl) (pv 1) (qKE qGC qA7) (fun _ _=>rfl)) (by with_unfolding_all rfl)))) qA3)))))))),?_⟩
 try dsimp only [Cx.nox,Cx.wish,cxOf]
 obtain ⟨rs,hl,M⟩:=id hP;have lrs:=B2 M;refine ⟨_,rfl,_,"list",_,true,rfl,TyOf.lst hl,rfl,_,rfl,?_⟩;refine ⟨_,rfl,l,rfl,⟨_,SqL.of hl⟩,fun p hp=>?_⟩;refine qHT (p:=p) (a:=l) (xs:=rs.map V.ref) (fun k σ Hc=>∃ (v0:Option V),σ=[v0,some (.ref a)]/\Same H Hc/\Hc p=some (.lst ((E9 k true).map V.bl))) ?_ ?_ ?_ ?_
 ·exact ⟨none,rfl,qA2 hp _,qA1⟩
 ·rintro k σ Hc hk ⟨v0,rfl,sm,_⟩;exact SqL.of (sm _ _ hl)
 ·refine fun k x σ Hc hx hI_2=>opq fun G_2 hG_2=>?_;obtain ⟨v0,rfl,sm,hpc⟩:=hI_2;obtain ⟨mv,hmv,rfl⟩:=qBX hx;obtain ⟨⟨Ac,wk⟩,hm,hH⟩:=qAO M hmv;refine hG_2 ?_;have hk:=(A1.mp hm).1;obtain ⟨hw,wk0,wk1⟩:=hms _ (B4 hm);refine ⟨_,rfl,_,rfl,a,mv,Af,Ac,wk,rfl,hN.same sm,sm _ _ hH,hw,wk0,wk1,fun H2 sm2=>?_⟩;refine ⟨_,sm2 _ _ hpc,qAX (by rw [A0,W5];omega),_,rfl,qAG (sm.trans sm2) hp,?_⟩
  rw [qA1,qP8]
 refine fun σ Hc hI_3=>opq fun G_3 hG_3=>?_;obtain ⟨v0,rfl,sm,hpc⟩:=hI_3;refine hG_3 ?_;refine ⟨p,_,rfl,SqL.of hpc,_,rfl,?_⟩;rw [qPB];refine ⟨_,rfl,_,rfl,_,rfl,a,l,Af,ms,Aa,rfl,PI.same sm,fun T ls sts v H3 sm3 pl gT fls SA lst=>?_⟩;have s3:=sm.trans sm3;rcases qVS pl with rfl | ⟨w0,rfl⟩
 case inr=>
  refine ⟨T,_,rfl,SqT.of gT,rfl,_,_,rfl,_,_,rfl,rfl,?_⟩;refine ⟨_,rfl,_,rfl,?_⟩;rw [decide_eq_false (show ¬ V.str w0=V.non from fun z=>by cases z)]
  refine q2 H3 s3 fun last run=>?_;obtain ⟨sts',pl',_⟩:=run.play .nil;obtain ⟨_,e2⟩:=Play.one hms pl pl';cases e2
 have run:=qVT pl rfl hms .nil;have el:qH3 [] sts=qH3 [] sts:=rfl
 revert run el
 generalize hlast:qH3 [] sts=last;intro run _;obtain ⟨ks,gls,NK⟩:=SA;obtain ⟨ss,r,eks,gr⟩:∃ ss r,ks=ss++[r]/\H3 r=some (.tup (last.map V.int)):=by
  have ne:ks ≠ []:=fun z=>by rw [z] at NK;cases NK
  refine ⟨ks.dropLast,ks.getLast ne,(List.dropLast_concat_getLast ne).symm,?_⟩;have lk:=B2 NK;have hk:ks.length - 1<ks.length:=by rw [lk,B3];omega
  obtain ⟨z,hz,gz⟩:=qAO NK (A3 hk);have ez:z=last:=by
   rw [<- hlast];have:([]::sts)[ks.length - 1]?=some (qH3 [] sts):=by
    rw [lk,B3,A22];exact qNL sts []
   rw [this] at hz;exact (A8 hz).symm
  rw [List.getLast_eq_getElem ne,<- ez];exact gz
 subst eks;refine ⟨T,_,rfl,SqT.of gT,rfl,_,_,rfl,_,_,rfl,rfl,?_⟩;refine ⟨_,rfl,_,rfl,?_⟩;rw [decide_eq_true (rfl:V.non=V.non)];have lastx:atI ((ss++[r]).map V.ref) (-1)=some (.ref r):=by rw [B1];exact qJ1 _ _
 refine ⟨_,rfl,t,rfl,⟨_,SqT.of (s3 _ _ hT)⟩,fun p2 hp2=>?_⟩;refine qH2 (p:=p2) (a:=t) (xs:=Ad.map V.int) (fun k σ Hd=>∃ (v0:Option V),σ=[v0,some (.ref ls)]/\Same H3 Hd/\Hd p2=some (.lst (((Ad.take k).map fun y=>decide (y ∈ last)).map V.bl))) ?_ ?_ ?_ ?_
 ·exact ⟨none,rfl,qA2 hp2 _,qA1⟩
 ·rintro k σ Hd hk ⟨v0,rfl,sd,_⟩;exact SqT.of (sd _ _ (s3 _ _ hT))
 ·refine fun k x σ Hd hx hI_5=>opq fun G_5 hG_5=>?_;obtain ⟨v0,rfl,sd,hpd⟩:=hI_5;obtain ⟨y,ey,rfl⟩:=qBI hx;refine hG_5 ?_;have hk:=(A1.mp ey).1;refine ⟨_,rfl,_,rfl,_,rfl,ls,_,_,_,rfl,rfl,SqL.of (sd _ _ gls),lastx,r,_,rfl,.inr (SqT.of (sd _ _ gr)),rfl,qB8 last,_,hpd,qAX (by rw [A0,A0,C1];omega),_,rfl,qAG sd hp2,?_⟩
  rw [qA1,qC8,D5,ey,D4,B1,B1]
  rfl
 ·refine fun σ Hd hI_6=>opq fun G_6 hG_6=>?_;obtain ⟨v0,rfl,sd,hpd⟩:=hI_6;refine hG_6 ?_;rw [A0,qCJ rfl] at hpd;refine ⟨p2,_,rfl,SqL.of hpd,?_⟩;have:=q1 last Hd (s3.trans sd) run;have ea:((Ad.map fun y=>decide (y ∈ last)).all id)=decide (∀ x ∈ Ad,x ∈ last):=by
   rw [L7,G9,decide_eq_true_eq]
   constructor
   ·intro h x hx;exact of_decide_eq_true (h _ (F4.mpr ⟨x,hx,rfl⟩))
   ·intro h y hy;obtain ⟨x,hx,rfl⟩:=F4.mp hy;exact decide_eq_true (h x hx)
  rw [ea];exact this
end
section
variable {P:Program} {w:World} {K:PySem.W.Frag} {mg:Str->Option Value} {base:Heap} {f:Addr} {fd:FuncData} {qMC:Addr} {qQD:FuncData}
theorem sc_Lshorter:FnScope ["_law_net_here","_law_rooms","_law_plan","_law_asked_here","_law_place","_law_move","_law_again","_law_less"] ["_law_net_here","_law_rooms","_law_plan","_law_asked_here"] (qAH qFX):=⟨rfl,rfl,rfl,by decide +kernel,rfl,by decide +kernel,by decide +kernel⟩
theorem ok_Lshorter (F:Fun K "_law_shorter" "_law_shorter" qFX f fd) (qMW:Clb P w K mg base 3 qMC qQD "_law_does" ["_law_net_here","_law_rooms","_law_plan","_law_asked_here"] qSB) (qAD:mg "enumerate" = none) (qAN:mg "range" = none) (qAU:mg "len" = none):FnOk P w K mg base CX0 4 f fd ["_law_net_here","_law_rooms","_law_plan","_law_asked_here"] qKL:=by
 refine F.ok sc_Lshorter (fun vs H Q E h=>?_) (fun cdv A outer s H vs Q E hr h=>?_)
 ·obtain ⟨a,l,t,Af,p,R,Ad,rfl,_⟩:=h
  rfl
 obtain ⟨a,l,t,Af,p,R,Ad,rfl,PI,lp,hT,lA,RU,q1,q2⟩:=h;have hu64:=hr.units;have hu0:=hr.units0;refine ⟨_,(qA4 (qBS C9 rfl (qE6 rfl qAD qBD (qA0 (pv 2) qA3)) (qDU rfl (qAK (qAA (i:=4) sc_Lshorter.nd rfl (X7 rfl)) (qAK (qAA (i:=5) sc_Lshorter.nd rfl (X7 rfl)) qC4))) (qA4 (qAE (i:=6) sc_Lshorter.nd rfl (X7 rfl) (qF8 rfl (lcs (own:=["_law_k"]) (fv:=[2,5]) (by kernel_rfl)) (qJL rfl qAN (qA0 (qB5 qDK (pv 4) qA7) (qA0 (qA9 qAB rfl qAU qBA (qA0 (pv 2) qA3)) qA3))) (fun z1=>qAA (i:=0) (qCA (by kernel_rfl)) rfl (C5 rfl)) (fun z1=>(qD7 (qAI (qND (K:=K) rfl hu64) (qAV (qEX (K:=K) rfl) (pv 1) (pv 0) (fun _ _=>rfl)) (qBC (qA0 qB9 (qA0 (qAV (qFJ (K:=K) rfl) (pv 2) qA7 (fun _ _=>rfl)) qA3))) (qAY _)))) (fun z1=>(pv 0)))) (qA6 (qBW (PW.pt (qKP (qAI qE8 (qAV qB0 (pv 5) qA7 (fun _ _=>rfl)) qB9 (qAY _)) (qHQ (qAI (qJO hu0) (pv 6) (qBG qA3) (qAY _))))) (qA4 (qKD (i:=7) sc_Lshorter.nd rfl rfl rfl (lcs (own:=["_law_k","_law_one"]) (fv:=[4,6]) (by kernel_rfl)) (qE6 rfl qAD qBD (qA0 (pv 2) qA3)) (fun z2=>qJM (K:=K) (n:=2) rfl rfl (qAK (qAA (i:=0) (qCA (by kernel_rfl)) rfl (C5 rfl)) (qAK (qAA (i:=1) (qCA (by kernel_rfl)) rfl (C5 rfl)) qC4)) rfl rfl) (fun z2=>(qD7 (qAI (qEI (K:=K) rfl) (pv 0) (qBC (qA0 (pv 2) (qA0 (qAV (qEX (K:=K) rfl) (pv 3) qA7 (fun _ _=>rfl)) qA3))) (by with_unfolding_all rfl)))) (fun z2=>(pv 1)) (by kernel_rfl)) (qA6 (qBW (qD2 (qAR qMW hr rfl (qA0 (pv 0) (qA0 (pv 1) (qA0 (pv 7) (qA0 (pv 3) qA3)))))) (qA6 (qAL (pv 7))) qAM))) qAM)))) (qA6 (qAL qJN))),?_⟩
 try dsimp only [Cx.nox,Cx.wish,cxOf]
 obtain ⟨hN,wf,n60,⟨rs,hL,ML⟩,l10,mo,R0,R1⟩:=id PI;have lrs:=B2 ML;refine ⟨_,rfl,l,rfl,⟨_,SqL.of hL⟩,qG5 (a:=l) (xs:=rs.map V.ref) (fun i σ Hc=>∃ (v4 v5 v6 v7:Option V),σ=[some (.ref a),some (.int R),some (.ref l),some (.ref t),v4,v5,v6,v7]/\Same H Hc/\∀ c g w,c<i->Ag p c g w->¬ Spr R p c g)
  ⟨none,none,none,none,rfl,.refl _,fun c g w h=>by omega⟩ (fun i σ Hc _ hP=>by obtain ⟨_,_,_,_,_,sc,_⟩:=hP;exact SqL.of (sc _ _ hL)) ?_ ?_⟩
 ·refine fun i x σ Hc T hx hI_1 hT0=>opq fun G_1 hG_1=>?_;obtain ⟨v4,v5,v6,v7,rfl,sc,no⟩:=hI_1;obtain ⟨r,er,rfl⟩:=qBX hx;obtain ⟨⟨wd,w⟩,em,hm⟩:=qAO ML er;refine hG_1 ?_;have hi:=(A1.mp em).1;have sT:=qA2 hT0 (.tup [.int (i:Int),.ref r]);have sc1:=sc.trans sT;have gT:SqT K (Ai Hc T (.tup [.int (i:Int),.ref r])) T [.int (i:Int),.ref r]:=SqT.of qA1;generalize Ai Hc T (.tup [.int (i:Int),.ref r])=H3 at sc1 gT ⊢;refine ⟨T,_,rfl,gT,rfl,_,_,rfl,_,_,rfl,rfl,?_⟩;refine nmT fun D1 d1 dr=>?_;refine cut fun N1 hN1=>?_;have hL3:=sc1 _ _ hL;have hm3:=sc1 _ _ hm;refine ⟨_,rfl,_,_,rfl,rfl,_,rfl,l,_,rfl,.inl (SqL.of hL3),?_⟩;rw [A0,lrs];refine ⟨_,_,rfl,⟨by omega,by omega,by omega,by omega⟩,fun p4 hp4=>?_⟩
  refine qDW (p:=p4) (lo:=(i:Int)+1) (n:=((p.length:Int) - ((i:Int)+1)).toNat) (fun j σ Hd=>∃ v:Option V,σ=[v,some (.ref l),some (.ref r)]/\Same H3 Hd/\Hd p4=some (.lst ((intL ((J9 (i+1) j).filter fun k=>decide (p[k]?=some (dO w)))).map V.int))) ?_ ?_ ?_
  ·exact ⟨none,rfl,qA2 hp4 _,qA1⟩
  ·refine fun j σ Hd hj hI_2=>opq fun G_2 hG_2=>?_;obtain ⟨v,rfl,sd,hpd⟩:=hI_2;refine hG_2 ?_;have hkl:i+1+j<p.length:=by omega
   have gk:=A3 hkl;obtain ⟨⟨z,n⟩,ez⟩:∃ m,p[i+1+j]?=some m:=⟨_,gk⟩;obtain ⟨rk,erk,hrk⟩:=qDF ML ez;dsimp only at hrk;have ek:(i:Int)+1+(j:Int)=((i+1+j:Nat):Int):=by omega
   refine ⟨_,rfl,_,rfl,l,_,_,_,rfl,rfl,SqL.of (sd _ _ hL3),qCG (by omega) (by rw [ek,G3,B5,erk];rfl),?_⟩
   refine ⟨_,rfl,r,_,_,_,rfl,rfl,SqT.of (sd _ _ hm3),rfl,(by show 2<=sizeLine;decide),fun Tc hTc=>?_⟩
   have sTc:=qA2 hTc (.tup [.str (C4 "do"),.int w])
   refine ⟨rk,Tc,z,_,n,w,rfl,rfl,SqT.of (sTc _ _ (sd _ _ (sc1 _ _ hrk))),SqT.of qA1,_,rfl,?_⟩;have sd2:=sd.trans sTc;have hpd2:=sTc _ _ hpd;generalize Ai Hd Tc (.tup [.str (C4 "do"),.int w])=H5 at sd2 hpd2 ⊢
   have ed:decide (((z,n):Str × Int)=(C4 "do",w))=decide (p[i+1+j]?=some (dO w)):=by
    rw [ez];exact decide_eq_decide.mpr ⟨fun e=>congrArg some e,fun e=>A8 e⟩
   rw [ed];have er:J9 (i+1) (j+1)=J9 (i+1) j++[i+1+j]:=by rw [l8];simp
   rw [er,L6];by_cases c:p[i+1+j]?=some (dO w)
   ·rw [decide_eq_true c];refine iteT ?_;have lf2:=C7 (fun k=>decide (p[k]?=some (dO w))) (J9 (i+1) j);rw [Z5] at lf2;refine ⟨_,rfl,_,hpd2,qAX (by unfold intL;rw [A0,A0];omega),_,rfl,qAG sd2 hp4,?_⟩
    rw [qA1,show ([i+1+j].filter fun k=>decide (p[k]?=some (dO w)))=[i+1+j] by simp [c],ek]
    unfold intL;rw [B1,B1]
    rfl
   ·rw [decide_eq_false c];refine iteF ?_;refine ⟨_,rfl,sd2,?_⟩;rw [show ([i+1+j].filter fun k=>decide (p[k]?=some (dO w)))=[] by simp [c],O7]
    exact hpd2
  refine fun σ Hd hI_3=>opq fun G_3 hG_3=>?_;obtain ⟨v,rfl,sd,hpd⟩:=hI_3;refine hG_3 ?_;rw [show ((p.length:Int) - ((i:Int)+1)).toNat=p.length - (i+1) by omega] at hpd
  have gen:Hd p4=some (.lst ((intL (agn p i w)).map V.int)):=hpd;have sc4:=sc1.trans sd;have hm4:=sc4 _ _ hm;have hL4:=sc4 _ _ hL;clear gT hpd hL3 hm3;generalize hag:agn p i w=ag at gen;refine hN1 _ _ ?_;refine ⟨_,rfl,r,_,_,_,rfl,rfl,SqT.of hm4,rfl,rfl,_,rfl,?_⟩;refine ite2 (fun ck=>?_) (fun ck=>?_)
  ·have hc:wd = "clear":=V.str.inj (of_decide_eq_true ck);subst hc;refine ⟨_,rfl,(by show 0<=sizeLine;decide),fun b hb=>?_⟩
   have sb:=qA2 hb (.lst []);have gb:(Ai Hd b (.lst [])) b=some (.lst []):=qA1;have sc5:=sc4.trans sb;have gen5:=sb _ _ gen;generalize Ai Hd b (.lst [])=H6 at gb sc5 gen5 ⊢;refine ⟨p4,b,_,rfl,rfl,SqL.of gen5,SqL.of gb,_,rfl,?_⟩;cases ag with
   | nil=>
    refine iteF ?_;refine d1 _ _ ⟨_,_,_,_,rfl,sc5,fun c g w' hc A=>?_⟩;by_cases e:c=i
    ·subst e;have ew:w=w':=congrArg u0 (A8 (em.symm.trans A.1));subst ew;have hg:g ∈ agn p c w:=by
      unfold agn;rw [B0,V8,decide_eq_true_eq];have:=(A1.mp A.2.1).1;have:=A.2.2.1;exact ⟨by omega,A.2.1⟩
     rw [hag] at hg;cases hg
    ·exact no c g w' (by omega) A
   | cons g rest=>
    refine iteT ?_;have A:=qXA em hag;have nxt:¬ Spr R p i g->∀ c g' w',c<i+1->Ag p c g' w'->¬ Spr R p c g':=by
     intro ns c g' w' hc B;by_cases e:c=i
     ·subst e;obtain ⟨rfl,rfl⟩:=qYE A B;exact ns
     ·exact no c g' w' (by omega) B
    obtain ⟨_,ll,mof⟩:=qU7 RU A;have MQ:=MovL.same ML sc5;have gq:=sc5 _ _ hL;refine cut fun M1 hM1=>?_;refine ⟨_,rfl,l,rfl,⟨_,SqL.of gq⟩,fun p5 hp5=>?_⟩;refine qLS (p:=p5) (a:=l) (xs:=rs.map V.ref) (fun k σ Hd=>∃ (v0 v1:Option V) (ts:List Addr),σ=[v0,v1,some (.int (i:Int)),some (.ref p4)]/\Same H6 Hd/\Hd p5=some (.lst (ts.map V.ref))/\MovL Hd ts (fil i g 0 (p.take k))) ?_ ?_ ?_ ?_
    ·exact ⟨none,none,[],rfl,qA2 hp5 _,qA1,.nil⟩
    ·rintro k σ Hd hk ⟨v0,v1,ts,rfl,sd,_⟩;exact SqL.of (sd _ _ gq)
    ·refine fun k x σ Hd T0 hx hI_5 hT0=>opq fun G_5 hG_5=>?_;obtain ⟨v0,v1,ts,rfl,sd,gd,MT⟩:=hI_5;obtain ⟨r,er,rfl⟩:=qBX hx;obtain ⟨m,em,hm⟩:=qAO MQ er;refine hG_5 ?_;have hk:=(A1.mp em).1;have sT:=qA2 hT0 (.tup [.int (k:Int),.ref r]);refine ⟨T0,_,rfl,SqT.of qA1,rfl,_,_,rfl,_,_,rfl,rfl,?_⟩;have sd1:=sd.trans sT;have gd1:=sT _ _ gd;have MT1:MovL (Ai Hd T0 (.tup [.int (k:Int),.ref r])) ts (fil i g 0 (p.take k)):=MovL.same MT sT;generalize Ai Hd T0 (.tup [.int (k:Int),.ref r])=H7 at sd1 gd1 MT1 ⊢;refine ⟨_,rfl,_,rfl,_,rfl,p4,_,_,_,rfl,rfl,SqL.of (sd1 _ _ gen5),(show atI ((intL (g::rest)).map V.int) 0=some (.int (g:Int)) from qCG (by decide) rfl),(by show 2<=sizeLine;decide),fun Ts hTs=>?_⟩
     have s6:=qA2 hTs (.tup ([(i:Int),(g:Int)].map V.int));refine ⟨Ts,_,rfl,.inr (SqT.of (qA1 (o:=.tup ([(i:Int),(g:Int)].map V.int)))),rfl,qB8 _,_,rfl,?_⟩;have sd2:=sd1.trans s6;have gd2:=s6 _ _ gd1;have MT2:=MovL.same MT1 s6;have eU:Ai H7 Ts (.tup ([(i:Int),(g:Int)].map V.int))=Ai H7 Ts (.tup [.int (i:Int),.int (g:Int)]):=rfl;rw [<- eU];generalize Ai H7 Ts (.tup ([(i:Int),(g:Int)].map V.int))=H9 at sd2 gd2 MT2 ⊢;have lts:=B2 MT2;have lfl:ts.length<=1000:=by
      rw [lts];have:=qU2 (i:=i) (e:=g) (p.take k) 0;rw [C1] at this;omega
     rw [qM4 em];dsimp only;rw [qC8];by_cases cc:k=i\/k=g
     ·rw [if_pos cc,decide_eq_true (show ((k:Nat):Int) ∈ [(i:Int),(g:Int)] by rcases cc with z | z <;> rw [z] <;> simp)]
      refine iteF ?_;exact ⟨_,_,ts,rfl,sd2,gd2,by simpa using MT2⟩
     ·rw [if_neg cc,decide_eq_false (show ¬ ((k:Nat):Int) ∈ [(i:Int),(g:Int)] by
       intro z;simp at z;omega)]
      refine iteT ?_;refine ⟨_,rfl,_,gd2,qAX (by rw [A0];omega),?_⟩
      rw [qBB];refine ⟨_,_,ts++[r],rfl,qAG sd2 hp5,qA1,qBV (qB3 MT2 fun b m' z=>?_) ?_⟩
      ·rw [qA8 (qBT z gd2 (by intro z;cases z))];exact z
      ·have hr:=sd2 _ _ hm;rw [qA8 (qBT hr gd2 (by intro z;cases z))];exact hr
    refine fun σ He hI_6=>opq fun G_6 hG_6=>?_;obtain ⟨v0,v1,ts,rfl,se,ge,ME⟩:=hI_6;refine hG_6 ?_;rw [A0,lrs,G5] at ME;refine hM1 _ _ ?_;have sc6:=sc5.trans se;refine ⟨_,rfl,_,rfl,_,rfl,_,rfl,a,p5,t,Af,fil i g 0 p,R,Ad,rfl,⟨hN.same sc6,wf,n60,⟨ts,ge,ME⟩,by omega,mof mo,R0,R1⟩,sc6 _ _ hT,lA,fun last H8 s8 h=>?_,fun H8 s8 nr=>?_⟩
    ·have sp:=qVC R0 RU A h;have el:=qSI (qJE RU A sp) h;subst el;refine ⟨_,rfl,?_⟩;rw [decide_eq_true (show ∀ x ∈ Ad,x ∈ Ad from fun x hx=>hx)];refine iteT ?_;refine ⟨_,rfl,dr _ _ (q2 p5 i g w H8 (sc6.trans s8) (sc5.free hp5) ⟨A,sp,fun c' g' w' B sp'=>?_⟩ (PlanAt.same ⟨ts,ge,ME⟩ s8))⟩;exact W0 fun z=>no c' g' w' z B sp'
    ·refine ⟨_,rfl,?_⟩;refine iteF ?_;exact d1 _ _ ⟨_,_,_,_,rfl,sc6.trans s8,nxt fun sp=>nr _ (qJE RU A sp)⟩
  ·refine d1 _ _ ⟨_,_,_,_,rfl,sc4,fun c g w' hc A=>?_⟩;by_cases e:c=i
   ·subst e;have:wd = "clear":=congrArg b8 (A8 (em.symm.trans A.1));exact absurd (decide_eq_true (congrArg V.str this)) ck
   ·exact no c g w' (by omega) A
 ·refine fun σ Hc hI_7=>opq fun G_7 hG_7=>?_;obtain ⟨v4,v5,v6,v7,rfl,sc,no⟩:=hI_7;refine hG_7 ?_;rw [A0,lrs] at no;exact q1 Hc sc fun c g w A=>no c g w (A1.mp A.1).1 A
end
section
variable {P:Program} {w:World} {K:PySem.W.Frag} {mg:Str->Option Value} {base:Heap} {f:Addr} {fd:FuncData} {qHD qG8:Addr} {qL0 qJZ:FuncData}
theorem sc_Lshortened:FnScope ["_law_net_here","_law_rooms","_law_plan","_law_asked_here","_law_found","_law_less"] ["_law_net_here","_law_rooms","_law_plan","_law_asked_here"] (qAH qDS):=⟨rfl,rfl,rfl,by decide +kernel,rfl,by decide +kernel,by decide +kernel⟩
theorem ok_Lshortened (F:Fun K "_law_shortened" "_law_shortened" qDS f fd) (qFT:Clb P w K mg base 3 qHD qL0 "_law_tidied" ["_law_net_here","_law_plan","_law_asked_here"] qS8) (qEO:Clb P w K mg base 4 qG8 qJZ "_law_shorter" ["_law_net_here","_law_rooms","_law_plan","_law_asked_here"] qKL):FnOk P w K mg base CX0 5 f fd ["_law_net_here","_law_rooms","_law_plan","_law_asked_here"] qFV:=by
 refine F.ok sc_Lshortened (fun vs H Q E h=>?_) (fun cdv A outer s H vs Q E hr h=>?_)
 ·obtain ⟨a,l,t,Af,p,R,Ad,tt,rfl,_⟩:=h
  rfl
 obtain ⟨a,l,t,Af,p,R,Ad,tt,rfl,⟨hN,wf,n1,n60,hP,lp,mo,R0,R1,RU,ha,hT,rA,lA,d64⟩,q⟩:=h;refine ⟨_,(qA4 (qAE (i:=4) sc_Lshortened.nd rfl (C5 rfl) (qAR qFT hr rfl (qA0 (pv 0) (qA0 (pv 2) (qA0 (pv 3) qA3))))) (qA4 (qAE (i:=5) sc_Lshortened.nd rfl (C5 rfl) (qAR qEO hr rfl (qA0 (pv 0) (qA0 (pv 1) (qA0 (pv 4) (qA0 (pv 3) qA3)))))) (qA4 (qIT C9 (qI6 (qLP (pv 5))) (qA4 (qAE (i:=4) sc_Lshortened.nd rfl (C5 rfl) (qAR qFT hr rfl (qA0 (pv 0) (qA0 (pv 5) (qA0 (pv 3) qA3))))) (qA6 (qAE (i:=5) sc_Lshortened.nd rfl (C5 rfl) (qAR qEO hr rfl (qA0 (pv 0) (qA0 (pv 1) (qA0 (pv 4) (qA0 (pv 3) qA3))))))))) (qA6 (qAL (pv 4)))))),?_⟩
 try dsimp only [Cx.nox,Cx.wish,cxOf]
 have S0:=(qHO (Ad:=Ad) wf RU mo ha rA);have ld:=S0.dos;have lp':=qU6 p;have S1:=S0.self;generalize hD:(qB2 (tdy Af Ad p)).length=D at S1 q ld;have RN:=qSJ RU mo .nil (fun x hx=>nomatch hx);refine cut fun N0 hN0=>?_;refine ⟨_,rfl,_,rfl,_,rfl,a,l,t,Af,p,Ad,tt,rfl,⟨⟨hN,wf,by omega,hP,by omega,mo⟩,n60⟩,RN,ha,hT,fun l1 H1 s1 f1 P1=>?_⟩
 refine hN0 _ _ (cut fun N1 hN1=>?_);have l1':=S1.len;have goon:∀ (m:Nat) (σ:St) (Hc:Hp),(∃ (lq:Addr) (qq:List Mv) (pv:V),σ=[some (.ref a),some (.int R),some (.ref l),some (.ref t),some (.ref lq),some pv]/\m=(qB2 qq).length/\Same H Hc/\PlanAt Hc lq qq/\Sho Af R Ad (2 * D) D qq/\ShUp Af R Ad (tdy Af Ad p) qq/\H lq=none/\((pv=.non/\∀ c g w,Ag qq c g w->¬ Spr R qq c g)\/∃ (l5:Addr) (c g:Nat) (w:Int),pv=.ref l5/\PlanAt Hc l5 (fil c g 0 qq)/\Lst R qq c g w))->N1 σ Hc:=by
  intro m σ Hc h;refine hN1 _ _ ?_;refine ⟨fun m σ Hc=>∃ (lq:Addr) (qq:List Mv) (pv:V),σ=[some (.ref a),some (.int R),some (.ref l),some (.ref t),some (.ref lq),some pv]/\m=(qB2 qq).length/\Same H Hc/\PlanAt Hc lq qq/\Sho Af R Ad (2 * D) D qq/\ShUp Af R Ad (tdy Af Ad p) qq/\H lq=none/\((pv=.non/\∀ c g w,Ag qq c g w->¬ Spr R qq c g)\/∃ (l5:Addr) (c g:Nat) (w:Int),pv=.ref l5/\PlanAt Hc l5 (fil c g 0 qq)/\Lst R qq c g w),⟨m,h⟩,?_⟩;clear h;refine fun m σ Hc hI_1=>opq fun G_1 hG_1=>?_;obtain ⟨lq,qq,pv,rfl,rfl,sc,hQ,SQ,UP,flq,hh⟩:=hI_1;refine hG_1 ?_;have lq':=SQ.len;refine ⟨_,rfl,_,rfl,?_⟩;rcases hh with ⟨rfl,no⟩ | ⟨l5,c,g,w,rfl,P5,LS⟩
  ·refine iteF ?_;exact ⟨_,rfl,q lq qq Hc sc flq hQ SQ (UP.fin (.stop no))⟩
  ·refine iteT ?_;obtain ⟨Ag0,Sp0,_⟩:=id LS;obtain ⟨k1,k2,k3,k4,k5⟩:=Sho.next wf rA SQ Ag0 Sp0;have k5l:=k5.len;refine ⟨_,fun σ' H' h=>⟨(qB2 (tdy Af Ad (fil c g 0 qq))).length,k4,h⟩,?_⟩;refine cut fun M2 hM2=>?_;refine ⟨_,rfl,_,rfl,_,rfl,a,l5,t,Af,fil c g 0 qq,Ad,Ad,rfl,⟨⟨hN.same sc,wf,by omega,P5,by omega,k2⟩,n60⟩,qSJ k1 k2 .nil (fun x hx=>nomatch hx),(fun x hx=>hx),sc _ _ hT,fun l2 H2 s2 f2 P2=>?_⟩
   refine hM2 _ _ ?_;have s02:=sc.trans s2;refine ⟨_,rfl,_,rfl,_,rfl,_,rfl,a,l2,t,Af,tdy Af Ad (fil c g 0 qq),R,Ad,rfl,⟨hN.same s02,wf,n60,P2,by omega,k5.ok,R0,by omega⟩,by omega,s02 _ _ hT,by omega,k5.run,fun H3 s3 no=>?_,fun l6 c' g' w' H3 s3 f6 L3 P6=>?_⟩
   ·exact ⟨l2,_,.non,rfl,rfl,s02.trans s3,P2.same s3,k5,.snoc UP LS,sc.free f2,.inl ⟨rfl,no⟩⟩
   ·exact ⟨l2,_,.ref l6,rfl,rfl,s02.trans s3,P2.same s3,k5,.snoc UP LS,sc.free f2,.inr ⟨l6,c',g',w',rfl,P6,L3⟩⟩
 refine ⟨_,rfl,_,rfl,_,rfl,_,rfl,a,l1,t,Af,tdy Af Ad p,R,Ad,rfl,⟨hN.same s1,wf,n60,P1,by omega,S1.ok,R0,by omega⟩,by omega,s1 _ _ hT,by omega,S1.run,fun H2 s2 no=>?_,fun l6 c g w H2 s2 f6 L2 P6=>?_⟩
 ·exact goon _ _ _ ⟨l1,_,.non,rfl,rfl,s1.trans s2,P1.same s2,S1,.nil,f1,.inl ⟨rfl,no⟩⟩
 ·exact goon _ _ _ ⟨l1,_,.ref l6,rfl,rfl,s1.trans s2,P1.same s2,S1,.nil,f1,.inr ⟨l6,c,g,w,rfl,P6,L2⟩⟩
end
section
variable {P:Program} {w:World} {K:PySem.W.Frag} {mg:Str->Option Value} {base:Heap} {f:Addr} {fd:FuncData} {qCH qCU qEA:Addr} {qDB qDY qEY:FuncData}
theorem qJ2 {H:Hp} {l l':Addr} {ms:List Mv} (h:PlanAt H l ms) (h':PlanAt H l' ms) (hl:ms.length<=100000):Alike H 2 (.ref l) (.ref l'):=by
 obtain ⟨rs,e,M⟩:=h;obtain ⟨rs',e',M'⟩:=h';exact MovL.alike M M' e e' hl
theorem sc_Lone_behind_another:FnScope ["_law_net_here","_law_plan","_law_due"] [] (qAH qAW):=⟨rfl,rfl,rfl,by decide +kernel,rfl,by decide +kernel,by decide +kernel⟩
theorem ok_Lone_behind_another (F:Fun K "_law_one_behind_another" "_law_one_behind_another" qAW f fd) (qBO:Clb P w K mg base 5 qCH qDB "_law_shortened" ["_law_net_here","_law_rooms","_law_plan","_law_asked_here"] qFV) (qBR:Clb P w K mg base 3 qCU qDY "shortened" ["net","rooms","plan","asked"] qFV) (qEF:Clb P w K mg base 3 qEA qEY "_law_same" ["_law_found","_law_due"] (spS 3)) (qAU:mg "len" = none):FnOk P w K mg base CX0 6 f fd [] qaQ:=by
 refine F.ok sc_Lone_behind_another (fun vs H Q E h=>?_) (fun cdv A outer s H vs Q E hr h=>?_)
 ·obtain ⟨rfl,_⟩:=h
  rfl
 obtain ⟨rfl,q⟩:=h;obtain ⟨e_0,e_1,e_2,key,ha,hb,hc⟩:∃ e_0 e_1 e_2,qEC qAW=[(.Assign [(.Name "_law_net_here" ⟨259,4,259,17⟩)] (.Tuple e_0 0 ⟨259,20,259,59⟩) ⟨259,4,259,59⟩),(.Assign [(.Name "_law_plan" ⟨260,4,260,13⟩)] (.List e_1 ⟨260,16,260,113⟩) ⟨260,4,260,113⟩),(.Assign [(.Name "_law_plan" ⟨261,4,261,13⟩)] (.BinOp (.Name "_law_plan" ⟨261,16,261,25⟩) .Add (.List e_2 ⟨261,28,261,117⟩) ⟨261,16,261,117⟩) ⟨261,4,261,117⟩),(qEC qAW).getD 3 (.Pass ⟨0,0,0,0⟩),(qEC qAW).getD 4 (.Pass ⟨0,0,0,0⟩)]/\Paired qa9 e_0 net6/\Paired MovE e_1 plnA6/\Paired MovE e_2 plnB6:=by
  refine ⟨_,_,_,rfl,?_,?_,?_⟩
  ·repeat' first | exact A66 | apply A56 | exact ⟨_,_,rfl⟩ | refine ⟨_,_,_,rfl,?_⟩
  ·repeat' first | exact A66 | apply A56 | exact ⟨_,_,_,_,_,_,rfl⟩
  ·repeat' first | exact A66 | apply A56 | exact ⟨_,_,_,_,_,_,rfl⟩
 rw [key];clear key;obtain ⟨ta,h3a,ra⟩:=qb6 ha (by decide) (by decide) _ _
 obtain ⟨tb,h3b,rb⟩:=qSU hb (by decide) _
 obtain ⟨tc,h3c,rc⟩:=qSU hc (by decide) _
 refine ⟨_,(qA4 (qAE (i:=0) sc_Lone_behind_another.nd rfl (C5 rfl) (h3a _)) (qA4 (qAE (i:=1) sc_Lone_behind_another.nd rfl (C5 rfl) (h3b _)) (qA4 (qAE (i:=1) sc_Lone_behind_another.nd rfl (C5 rfl) (qB5 qKU (pv 1) (h3c _))) (qA4 (qAE (i:=2) sc_Lone_behind_another.nd rfl (C5 rfl) (qAR qBO hr rfl (qA0 (pv 0) (qA0 qA7 (qA0 (pv 1) (qA0 (qBC (qA0 qA7 qA3)) qA3)))))) (qA6 (qAL (qI8 (qDJ qE8 (qA9 qAB rfl qAU qBA (qA0 (pv 2) qA3)) qA7 (qAY _)) (qKR (qAR qEF hr rfl (qA0 (qAR qBR hr rfl (qA0 (pv 0) (qA0 qA7 (qA0 (pv 1) (qA0 (qBC (qA0 qA7 qA3)) qA3))))) (qA0 (pv 2) qA3))))))))))),?_⟩
 try dsimp only [Cx.nox,Cx.wish,cxOf]
 refine cut fun N0 hN0=>?_;refine ra fun a H1 s1 hN1=>?_;refine hN0 _ _ (cut fun N1 hN1'=>?_);refine rb fun l1 rs1 H2 s2 f1 g1 M1=>?_;refine hN1' _ _ (cut fun N2 hN2=>?_);refine ⟨_,rfl,rc fun l2 rs2 H3 s3 f2 g2 M2=>?_⟩;have ln1:=B2 M1;have ln2:=B2 M2;have e1:plnA6.length=8:=by decide
 have e2:plnB6.length=7:=by decide
 refine ⟨l1,l2,_,_,rfl,rfl,s3 _ _ g1,g2,by rw [sizeLine_eq,A0,A0];omega,fun l3 hl3=>?_⟩
 have s4:=qA2 hl3 (.lst (rs1.map V.ref++rs2.map V.ref));have PL:PlanAt (Ai H3 l3 (.lst (rs1.map V.ref++rs2.map V.ref))) l3 (plnA6++plnB6):=⟨rs1++rs2,by rw [qA1,B1],(MovL.app (M1.same s3) M2).same s4⟩
 have hN4:=hN1.same ((s2.trans s3).trans s4);have s04:Same H _:=s1.trans ((s2.trans s3).trans s4);generalize Ai H3 l3 (.lst (rs1.map V.ref++rs2.map V.ref))=H4 at s4 PL hN4 s04 ⊢;refine hN2 _ _ (cut fun N3 hN3=>?_);have wf:WFn net6:=wf6;refine ⟨_,rfl,_,rfl,(by show 1<=sizeLine;decide),fun t ht=>?_⟩
 have s5:=qA2 ht (.tup [.int 5]);have gt:(Ai H4 t (.tup [.int 5])) t=some (.tup (([5]:List Int).map V.int)):=qA1;generalize Ai H4 t (.tup [.int 5])=H5 at s5 gt ⊢;refine ⟨a,l3,t,net6,plnA6++plnB6,4,[5],[5],rfl,in6 (hN4.same s5) (PL.same s5) gt,fun l4 q4 H6 s6 f4 P4 _ ST=>?_⟩;have e4:q4=q6:=ST.one sh6;subst e4;refine hN3 _ _ ?_;obtain ⟨rs4,g4,M4⟩:=id P4;refine ⟨_,rfl,l4,_,rfl,.inl (SqL.of g4),rfl,_,rfl,?_⟩;have e11:(rs4.map V.ref).length=11:=by rw [A0,B2 M4];rfl
 rw [e11];refine iteT ?_;have s46:=s5.trans s6;refine ⟨_,rfl,_,rfl,(by show 1<=sizeLine;decide),fun t2 ht2=>?_⟩
 have s7:=qA2 ht2 (.tup [.int 5]);have gt2:(Ai H6 t2 (.tup [.int 5])) t2=some (.tup (([5]:List Int).map V.int)):=qA1;have P7:=P4.same s7;generalize Ai H6 t2 (.tup [.int 5])=H7 at s7 gt2 P7 ⊢;have s47:=s46.trans s7;refine ⟨a,l3,t2,net6,plnA6++plnB6,4,[5],[5],rfl,in6 (hN4.same s47) (PL.same s47) gt2,fun l5 q5 H8 s8 f5 P5 _ ST5=>?_⟩;have e5:q5=q6:=ST5.one sh6;subst e5;refine ⟨_,rfl,_,_,rfl,qJ2 P5 (P7.same s8) (by decide),fun H9 s9=>?_⟩
 exact q _ (s04.trans (s47.trans (s8.trans s9)))
end
theorem ShTo.end_ {Af:List (List Int)} {R:Int} {Ad:List Int} {p q:List Mv} (h:ShTo Af R Ad p q):∀ c g w,Ag q c g w->¬ Spr R q c g:=by
 induction h with
 | stop no=>exact no
 | go _ _ ih=>exact ih
section
variable {P:Program} {w:World} {K:PySem.W.Frag} {mg:Str->Option Value} {base:Heap} {f:Addr} {fd:FuncData} {qIX qC0 qMD qIW qMA qCH qCU qEA qCP qBN:Addr} {qNV qBM qQE qNU qQB qDB qDY qEY qCT qCS:FuncData}
theorem sc_law:FnScope ["_law_script","_law_state","_law_turn","_law_net_here","_law_asked_here","_law_plan","_law_most_here","_law_rooms","_law_due","_law_handed","_law_again","_law_found","_law_ends","_law_others","_law_many","_law_goals"] ["_law_script"] (qAH qKC):=⟨rfl,rfl,rfl,by decide +kernel,rfl,by decide +kernel,by decide +kernel⟩
theorem ok_law (F:Fun K "law" "law" qKC f fd) (qJ6:Clb P w K mg base 1 qIX qNV "_law_begin" ["_law_script"] (qSD K)) (qAJ:Clb P w K mg base 1 qC0 qBM "_law_take" ["_law_state","_law_many"] qGD) (qMX:Clb P w K mg base 4 qMD qQE "_law_case" ["_law_state"] qSC) (qJ5:Clb P w K mg base 4 qIW qNU "_law_doing" ["_law_state","_law_net_here","_law_asked_here","_law_many"] qSA) (qMV:Clb P w K mg base 3 qMA qQB "_law_most" ["_law_net_here","_law_plan"] qS7) (qBO:Clb P w K mg base 5 qCH qDB "_law_shortened" ["_law_net_here","_law_rooms","_law_plan","_law_asked_here"] qFV) (qBR:Clb P w K mg base 3 qCU qDY "shortened" ["net","rooms","plan","asked"] qFV) (qEF:Clb P w K mg base 3 qEA qEY "_law_same" ["_law_found","_law_due"] (spS 3)) (qC2:Clb P w K mg base 2 qCP qCT "_law_played" ["_law_net_here","_law_rooms","_law_plan"] qIL) (C_Lone_behind_another:Clb P w K mg base 6 qBN qCS "_law_one_behind_another" [] qaQ)
  (qAN:mg "range" = none) (qAU:mg "len" = none) (qC1:mg "list" = none):FnOk P w K mg base CX0 7 f fd ["_law_script"] (qVD K):=by
 refine F.ok sc_law (fun vs H Q E h=>?_) (fun cdv A outer s H vs Q E hr h=>?_)
 ·obtain ⟨a,ns,rfl,_⟩:=h
  rfl
 obtain ⟨sc,ns,rfl,hS,h63,q⟩:=h;have hu0:=hr.units0;refine ⟨_,(qA4 (qAE (i:=1) sc_law.nd rfl (C5 rfl) (qAR qJ6 hr rfl (qA0 (pv 0) qA3))) (qA4 (qBW (qGE (qD2 (qW2 C_Lone_behind_another.G (hr.mono (by decide)) rfl C_Lone_behind_another.m C_Lone_behind_another.k C_Lone_behind_another.b .nil qZ0))) (qA6 (qAL qGX)) qAM) (qA4 (qBS C9 rfl (qC7 rfl qAN (qA0 (qB5 qDK qA7 (qAR qAJ hr rfl (qA0 (pv 1) (qA0 qA7 qA3)))) qA3)) (qAA (i:=2) sc_law.nd rfl (C5 rfl)) (qA4 (qI7 (qAR qMX hr rfl (qA0 (pv 1) qA3)) (qDU rfl (qAK (qAA (i:=3) sc_law.nd rfl (C5 rfl)) (qAK (qAA (i:=4) sc_law.nd rfl (C5 rfl)) qC4)))) (qA4 (qAE (i:=5) sc_law.nd rfl (C5 rfl) (qAR qJ5 hr rfl (qA0 (pv 1) (qA0 (pv 3) (qA0 (pv 4) (qA0 (qAR qAJ hr rfl (qA0 (pv 1) (qA0 qA7 qA3))) qA3)))))) (qA4 (qAE (i:=6) sc_law.nd rfl (C5 rfl) (qAR qMV hr rfl (qA0 (pv 3) (qA0 (pv 5) qA3)))) (qA4 (qAE (i:=7) sc_law.nd rfl (C5 rfl) (qAV qC5 (qBG (qA0 (pv 6) (qA0 (qB5 qDK (pv 6) (qAR qAJ hr rfl (qA0 (pv 1) (qA0 qA7 qA3)))) (qA0 (qA9 qAB rfl qAU qBA (qA0 (pv 3) qA3)) qA3)))) (qAR qAJ hr rfl (qA0 (pv 1) (qA0 qA7 qA3))) (fun _ _=>rfl))) (qA4 (qAE (i:=8) sc_law.nd rfl (C5 rfl) (qAR qBO hr rfl (qA0 (pv 3) (qA0 (pv 7) (qA0 (pv 5) (qA0 (pv 4) qA3)))))) (qA4 (qAE (i:=9) sc_law.nd rfl (C5 rfl) (qAS qFM rfl qC1 qFN (qA0 (pv 5) qA3))) (qA4 (qBS C9 rfl (qC7 rfl qAN (qA0 qA7 qA3)) (qAA (i:=10) sc_law.nd rfl (C5 rfl)) (qA4 (qAE (i:=11) sc_law.nd rfl (C5 rfl) (qAR qBR hr rfl (qA0 (pv 3) (qA0 (pv 7) (qA0 (pv 9) (qA0 (pv 4) qA3)))))) (qA4 (qBW (PW.pt (qOT (qGE (qD2 (qAR qEF hr rfl (qA0 (pv 11) (qA0 (pv 8) qA3))))) (qKO (qAI (qOU hu0) (pv 9) (pv 5) (qAY _))))) (qA6 (qAL qGX)) qAM) (qA4 (qCC (qb8 E2 PySem.F.slot_list_reverse PySem.F.type_list_reverse qR4 (pv 11))) (qA6 (qCC (qGJ E2 E3 E4 qB6 (pv 11) (qA0 (qBC (qA0 qB9 (qA0 qA7 qA3))) qA3)))))))) (qA4 (qBW (qGE (qD2 (qAR qEF hr rfl (qA0 (qAR qBR hr rfl (qA0 (pv 3) (qA0 (pv 7) (qA0 (pv 8) (qA0 (pv 4) qA3))))) (qA0 (pv 8) qA3))))) (qA6 (qAL qGX)) qAM) (qA4 (qAE (i:=12) sc_law.nd rfl (C5 rfl) (qAV qC5 (qAV qB0 (qAR qC2 hr rfl (qA0 (pv 3) (qA0 (qA9 qAB rfl qAU qBA (qA0 (pv 3) qA3)) (qA0 (pv 5) qA3)))) qA7 (fun _ _=>rfl)) (qKE qGC qA7) (fun _ _=>rfl))) (qA4 (qAE (i:=13) sc_law.nd rfl (C5 rfl) (qBC (qA0 (qAV qB0 (pv 12) (qAR qAJ hr rfl (qA0 (pv 1) (qA0 (qA9 qAB rfl qAU qBA (qA0 (pv 12) qA3)) qA3))) (fun _ _=>rfl)) qA3))) (qA6 (qBS C9 rfl (qFG (qBC (qA0 (qBC (qA0 (qA9 qAB rfl qAU qBA (qA0 (pv 3) qA3)) (qA0 (pv 4) qA3))) (qA0 (qBC (qA0 (pv 7) (qA0 (pv 13) qA3))) (qA0 (qBC (qA0 (pv 7) (qA0 (pv 4) qA3))) qA3))))) (qDU rfl (qAK (qAA (i:=14) sc_law.nd rfl (C5 rfl)) (qAK (qAA (i:=15) sc_law.nd rfl (C5 rfl)) qC4))) (qA6 (qBW (qGE (qD2 (qAR qEF hr rfl (qA0 (qAR qBR hr rfl (qA0 (pv 3) (qA0 (pv 14) (qA0 (pv 9) (qA0 (pv 15) qA3))))) (qA0 (qAR qBO hr rfl (qA0 (pv 3) (qA0 (pv 14) (qA0 (pv 5) (qA0 (pv 15) qA3))))) qA3))))) (qA6 (qAL qGX)) qAM))))))))))))))) (qA6 (qAL qGX))))),?_⟩
 try dsimp only [Cx.nox,Cx.wish,cxOf]
 refine cut fun N0 hN0=>?_;refine ⟨_,rfl,sc,ns,rfl,hS,h63,fun d c ms0 H1 S1 sm0 hd0 hc0=>?_⟩;refine hN0 _ _ (cut fun NM hNM=>?_);refine ⟨rfl,fun Hob sob=>⟨_,rfl,?_⟩⟩;refine iteF ?_;have Sob:=S1.same sob;refine hNM _ _ (cut fun NL hNL=>?_);refine ⟨_,rfl,d,c,0,ms0,3,rfl,Sob,(by show (0:Int)<=1000000000;decide),by decide,by decide,fun k0 ns0 H0 k00 k01 S0 K0=>⟨_,_,rfl,rfl,_,rfl,by omega,by omega,qEL (lo:=0) (n:=(3+k0).toNat) (fun i σ Hc=>∃ (t:Int) (ns:List Int) (v2 v3 v4 v5 v6 v7 v8 v9 v10 v11 v12 v13 v14 v15:Option V),σ=[some (.ref sc),some (.ref d),v2,v3,v4,v5,v6,v7,v8,v9,v10,v11,v12,v13,v14,v15]/\StAt Hc d c t ns/\0<=t/\t<=10+30000 * (i:Int))
  ⟨_,ns0,none,none,none,none,none,none,none,none,none,none,none,none,none,none,rfl,S0,by omega,by omega⟩ ?_ ?_⟩⟩
 ·refine fun i σ Hc hi hI_1=>opq fun G_1 hG_1=>?_;obtain ⟨t,ns,v2,v3,v4,v5,v6,v7,v8,v9,v10,v11,v12,v13,v14,v15,rfl,S2,t0,tb⟩:=hI_1;refine hG_1 ?_;have hi5:i<=5:=by omega
  refine nmD fun D1 d1 _=>?_;refine cut fun N1 hN1=>?_;refine ⟨_,rfl,d,c,t,ns,rfl,S2,(by show t<=1000000000 - 200000;omega),fun T a ta Af Ad t3 ns3 H3 S3 g1 g2 K3 gT hA wf n1 n30 gTa rA lA1 lA=>?_⟩
  refine ⟨T,_,rfl,SqT.of gT,rfl,_,_,rfl,_,_,rfl,rfl,?_⟩;refine hN1 _ _ (cut fun N2 hN2=>?_);refine ⟨_,rfl,_,rfl,_,rfl,_,rfl,d,c,t3,ns3,21,rfl,S3,(by show t3<=1000000000;omega),by decide,by decide,fun x1 ns4 H6 x10 x11 S6 K6=>?_⟩
  have hA6:=hA.keep S3 K6;have gT6:=K6 _ _ gTa (S3.tup gTa).1 (S3.tup gTa).2;refine ⟨d,c,t3+1,ns4,a,ta,Af,Ad,x1,rfl,S6,(by show t3+1<=1000000000 - 400000;omega),hA6,wf,n1,by omega,⟨gT6,rA⟩,x10,by omega,fun l ms st t7 ns7 H7 S7 g3 g4 K7 fl PL mv lm rst R sub=>?_⟩
  have hA7:=hA6.keep S6 K7;have gT7:=K7 _ _ gT6 (S6.tup gT6).1 (S6.tup gT6).2;have lms:ms.length<=130:=by omega
  have lst:st.length<=Af.length:=by
   have:=J4 (l₁:=st) (l₂:=qD1 0 (Af.length:Int)) (qBK rst.up) fun x hx=>mem_rangeI.mpr (rst.in_ x hx);rw [qHP] at this;omega
  have d64:(qB2 ms).length<64:=by
   have:=Run.len R V6;simp at this;omega
  have ld:=qU6 ms;have pk0:=qLO 0 ms;have pk1:=qNA ms 0;have nl:l ≠ d/\l ≠ c:=⟨(qA5 S6.dict fl).symm,(qA5 S6.list fl).symm⟩;refine hN2 _ _ (cut fun N3 hN3=>?_);refine ⟨_,rfl,_,rfl,a,l,Af,ms,st,rfl,⟨hA7,wf,by omega,PL,by omega,mv,by omega,by omega⟩,R,fun H8 s8=>?_⟩
  refine hN3 _ _ (cut fun N4 hN4=>?_);have S8:=S7.same s8;refine ⟨_,rfl,_,rfl,_,rfl,d,c,t7,ns7,3,rfl,S8,(by show t7<=1000000000;omega),by decide,by decide,fun y1 ns8 H9 y10 y11 S9 K9=>?_⟩
  have hA9:=(hA7.same s8).keep S8 K9;obtain ⟨nsA,hAA,NLA⟩:=id hA9;have lnA:=B2 NLA;refine ⟨_,_,rfl,rfl,_,rfl,a,_,rfl,.inr (SqT.of hAA),?_⟩;rw [A0,lnA];refine ⟨(by show 3<=sizeLine;decide),fun pL hpL=>?_⟩
  have sL:=qA2 hpL (.lst [.int (peak 0 ms),.int (peak 0 ms+y1),.int (Af.length:Int)]);have nL:pL ≠ d/\pL ≠ c:=⟨(qA5 S9.dict hpL).symm,(qA5 S9.list hpL).symm⟩;refine ⟨_,rfl,d,c,t7+1,ns8,3,rfl,S9.same sL,(by show t7+1<=1000000000;omega),by decide,by decide,fun x4 ns9 Hx x40 x41 Sx Kx=>?_⟩
  have gLx:=Kx _ _ qA1 nL.1 nL.2;have K7x:Keep d c H7 Hx:=(((Keep.of_same s8).trans K9).trans (Keep.of_same sL)).trans Kx;obtain ⟨rr,er,r0,r1,rp⟩:∃ rr:Int,atI [V.int (peak 0 ms),.int (peak 0 ms+y1),.int (Af.length:Int)] x4=some (.int rr)/\0<=rr/\rr<=1000/\Run Af rr [] ms st:=by
   rcases (by omega:x4=0\/x4=1\/x4=2) with rfl | rfl | rfl
   ·exact ⟨_,rfl,by omega,by omega,qXM R .nil (by simp)⟩
   ·exact ⟨_,rfl,by omega,by omega,qXM R .nil (by show peak 0 ms<=_;omega)⟩
   ·exact ⟨_,rfl,by omega,by omega,R⟩
  have hAx:=hA7.keep S7 K7x;have gTx:=K7x _ _ gT7 (S7.tup gT7).1 (S7.tup gT7).2;have PLx:=PL.keep S7 K7x nl.1 nl.2;refine ⟨pL,_,_,_,rfl,rfl,SqL.of gLx,er,?_⟩;refine hN4 _ _ (cut fun N5 hN5=>?_);have SH:∀ {Hz:Hp} {l0:Addr} {rz:Int} {tg:Addr} {gs:List Int},Same Hx Hz->PlanAt Hz l0 ms->0<=rz->rz<=1000->Run Af rz [] ms st->Hz tg=some (.tup (gs.map V.int))->(∀ x ∈ gs,x ∈ st)->Rise (Af.length:Int) gs->gs.length<=400->qXC Hz a l0 tg Af ms rz gs st:=fun sz Pz h0 h1 hr hg hs hri hl=>⟨hAx.same sz,wf,n1,by omega,Pz,by omega,mv,h0,h1,hr,hs,hg,hri,hl,d64⟩
  refine ⟨_,rfl,_,rfl,_,rfl,_,rfl,a,l,ta,Af,ms,rr,Ad,st,rfl,SH (.refl _) PLx r0 r1 rp gTx sub rA (by omega),fun lq qd Ha sa flq PD SHO STO=>?_⟩
  have lqd:qd.length<=400:=by
   have:=SHO.len;have:=(qHO (Ad:=Ad) wf R mv sub rA).dos;omega
  have dqd:(qB2 qd).length<64:=by
   have:=SHO.dos;have:=(qHO (Ad:=Ad) wf R mv sub rA).dos;omega
  refine hN5 _ _ (cut fun N6 hN6=>?_);obtain ⟨rs,gl,ML⟩:=id (PLx.same sa);refine ⟨_,rfl,l,_,rfl,.inl (SqL.of gl),fun lh hlh=>?_⟩;have s9:=qA2 hlh (.lst (rs.map V.ref));have g9:(Ai Ha lh (.lst (rs.map V.ref))) lh=some (.lst (rs.map V.ref)):=qA1;have sxb:=sa.trans s9;have PD9:=PD.same s9;have gl9:=s9 _ _ gl;have ML9:=ML.same s9;have nlh:lh ≠ d/\lh ≠ c:=⟨(qA5 (Sx.same sa).dict hlh).symm,(qA5 (Sx.same sa).list hlh).symm⟩;generalize Ai Ha lh (.lst (rs.map V.ref))=Hb at s9 g9 sxb PD9 gl9 ML9 ⊢;have PH:∀ {Hz:Hp},Same Hb Hz->PlanAt Hz lh ms:=fun sz=>⟨rs,sz _ _ g9,ML9.same sz⟩;have PP:∀ {Hz:Hp},Same Hb Hz->PlanAt Hz l ms:=fun sz=>⟨rs,sz _ _ gl9,ML9.same sz⟩;refine hN6 _ _ (cut fun N7 hN7=>?_);refine ⟨2,rfl,by decide,by decide,qEL (lo:=0) (n:=2) (fun j σ Hd=>∃ (v10 v11:Option V),σ=[some (.ref sc),some (.ref d),some (.int (0+(i:Int))),some (.ref a),some (.ref ta),some (.ref l),some (.int (peak 0 ms)),some (.int rr),some (.ref lq),some (.ref lh),v10,v11,v12,v13,v14,v15]/\Same Hb Hd)
   ⟨v10,v11,rfl,.refl _⟩ ?_ ?_⟩
  ·refine fun j σ Hd hj hI_2=>opq fun G_2 hG_2=>?_;obtain ⟨v10,v11,rfl,sd⟩:=hI_2;refine hG_2 ?_;refine nmD fun D2 d2 _=>?_;have sxd:=sxb.trans sd;refine cut fun M1 hM1=>?_;refine ⟨_,rfl,_,rfl,_,rfl,_,rfl,a,lh,ta,Af,ms,rr,Ad,st,rfl,SH sxd (PH sd) r0 r1 rp (sxd _ _ gTx) sub rA (by omega),fun lf qf He se flf PF _ STF=>?_⟩
   have ef:qf=qd:=STF.one STO;subst ef;refine hM1 _ _ (cut fun M2 hM2=>?_);have sE:=sd.trans se;refine ⟨_,rfl,_,rfl,_,_,rfl,qJ2 PF (PD9.same sE) (by omega),fun Hf sf=>⟨_,rfl,?_⟩⟩
   refine iteF ?_;have sF:=sE.trans sf;refine ⟨_,rfl,_,rfl,lh,l,rs,rfl,rfl,SqL.of (sF _ _ g9),SqL.of (sF _ _ gl9),_,rfl,?_⟩;refine iteF ?_;obtain ⟨us,gf0,MF⟩:=PF.same sf;have flb:Hb lf=none:=sd.free flf;refine hM2 _ _ (cut fun M3 hM3=>?_);refine ⟨_,rfl,.inl ⟨rfl,_,SqL.of gf0⟩,lf,_,rfl,rfl,gf0,?_⟩;refine hM3 _ _ ?_;refine ⟨_,rfl,.inl ⟨rfl,_,SqL.of qA1⟩,(by show 2<=sizeLine;decide),fun Tc hTc=>?_⟩
   have sTc:=qA2 hTc (.tup [.str (C4 "clear"),.int 0]);have lus:=B2 MF;refine ⟨lf,_,_,rfl,rfl,sTc _ _ qA1,qAX (by rw [A07,A0];omega),?_⟩
   exact d2 _ _ ⟨_,_,rfl,qAG ((qAG sF flb).trans sTc) flb⟩
  ·refine fun σ Hd hI_3=>opq fun G_3 hG_3=>?_;obtain ⟨v10,v11,rfl,sd⟩:=hI_3;refine hG_3 ?_;have sxd:=sxb.trans sd;refine hN7 _ _ (cut fun N8 hN8=>?_);refine ⟨_,rfl,_,rfl,_,rfl,_,rfl,a,lq,ta,Af,qd,rr,Ad,Ad,rfl,⟨hAx.same sxd,wf,n1,by omega,PD9.same sd,lqd,SHO.ok,r0,r1,SHO.run,fun x hx=>hx,sxd _ _ gTx,rA,by omega,dqd⟩,fun lf qf He se flf PF _ STF=>?_⟩
   rw [SHO.tid] at STF;have ef:qf=qd:=STF.one (.stop STO.end_);subst ef;refine ⟨_,rfl,_,_,rfl,qJ2 PF (PD9.same (sd.trans se)) (by omega),fun Hf sf=>⟨_,rfl,?_⟩⟩
   refine iteF ?_;have sF:=sd.trans (se.trans sf);have sxF:=sxb.trans sF;refine hN8 _ _ (cut fun N9 hN9=>?_);obtain ⟨rsN,gN,NN⟩:=id (hAx.same sxF);have lrv:(((rsN.map V.ref).length:Nat):Int)=(Af.length:Int):=by rw [A0,B2 NN]
   refine ⟨_,rfl,_,rfl,a,_,rfl,.inr (SqT.of gN),_,rfl,a,l,Af,ms,(Af.length:Int),by rw [lrv];rfl,⟨hAx.same sxF,wf,by omega,PP sF,by omega,mv,by omega,by omega⟩,fun T2 ls sts v Hg sg pl gT2 fls SA lsts=>?_⟩
   obtain ⟨ks,hks,NK⟩:=id SA;obtain ⟨sts0,p0,l0,_⟩:=R.play .nil;have ev:v=.non:=by
    rcases pl.kind with h | ⟨w0,h⟩
    ·exact h
    ·rw [h] at pl;exact absurd pl ((qPX mv R).2 sts w0)
   subst ev;obtain ⟨e1,_⟩:=Play.one mv pl p0;subst e1;obtain ⟨rl,erl,grl⟩:∃ rl,(ks.map V.ref).getLast?=some (.ref rl)/\Hg rl=some (.tup (st.map V.int)):=by
    have lastP:∀ {F:Addr->List Int->Prop} {ks:List Addr} {s:List Int} {zs:List (List Int)},Paired F ks (s::zs)->∃ k,ks.getLast?=some k/\F k (qH3 s zs):=by
     intro F ks s zs
     induction zs generalizing ks s with
     | nil=>
      intro h;cases h with
      | cons h t=>cases t;exact ⟨_,rfl,h⟩
     | cons z zs ih=>
      intro h;cases h with
      | @cons k _ ks' _ h t=>
       obtain ⟨k',e1,e2⟩:=ih t;refine ⟨k',?_,e2⟩;cases ks' with
       | nil=>cases t
       | cons y r=>rw [List.getLast?_cons_cons];exact e1
    obtain ⟨k,e1,e2⟩:=lastP NK;exact ⟨k,by rw [q0,e1];rfl,by rw [l0] at e2;exact e2⟩
   refine ⟨T2,_,_,_,rfl,rfl,SqT.of gT2,rfl,_,rfl,ls,_,_,_,rfl,rfl,SqL.of hks,qV0 erl,?_⟩;have sxg:=sxF.trans sg;have sbg:=sF.trans sg;have Sg:=Sx.same sxg;refine hN9 _ _ (cut fun N10 hN10=>?_);have st1:1<=st.length:=by
    cases e:Ad with
    | nil=>rw [e] at lA1;simp at lA1
    | cons x r=>exact x5 (sub x (by rw [e];exact C0))
   refine ⟨_,rfl,_,rfl,_,rfl,rl,_,rfl,.inr (SqT.of grl),?_⟩;rw [A0];refine ⟨d,c,_,ns9,_,rfl,Sg,(by show t7+1+1<=1000000000;omega),by omega,by omega,fun k nsy Hy k0 k1 Sy Ky=>?_⟩
   obtain ⟨u,eu⟩:∃ u,st[k.toNat]?=some u:=⟨_,A3 (by omega)⟩
   have nrl:rl ≠ d/\rl ≠ c:=Sg.tup grl;have gry:=Ky _ _ grl nrl.1 nrl.2;refine ⟨rl,_,k,_,rfl,rfl,SqT.of gry,qCG k0 (by rw [B5,eu];rfl),?_⟩
   refine ⟨(by show 1<=sizeLine;decide),fun r hr3=>?_⟩
   have s5:=qA2 hr3 (.tup [.int u]);have gr:(Ai Hy r (.tup [.int u])) r=some (.tup (([u]:List Int).map V.int)):=qA1;have Sz:=Sy.same s5;have Kgz:Keep d c Hg (Ai Hy r (.tup [.int u])):=Ky.trans (.of_same s5);generalize Ai Hy r (.tup [.int u])=Hz at s5 gr Sz Kgz ⊢;have Kxz:Keep d c Hx Hz:=(Keep.of_same sxg).trans Kgz;have Kbz:Keep d c Hb Hz:=(Keep.of_same sbg).trans Kgz;have Sb:=Sx.same sxb;have hAz:=hAx.keep Sx Kxz;have gTz:=Kxz _ _ gTx (Sx.tup gTx).1 (Sx.tup gTx).2;have PPz:=(PP (.refl _)).keep Sb Kbz nl.1 nl.2;have PHz:=(PH (.refl _)).keep Sb Kbz nlh.1 nlh.2;have uin:u ∈ st:=B4 eu;refine hN10 _ _ ?_;obtain ⟨nsZ,gNz,NLz⟩:=id hAz;have lnz:=B2 NLz;refine ⟨_,rfl,a,_,rfl,.inr (SqT.of gNz),?_⟩;rw [A0,lnz];refine ⟨_,rfl,(by show 2<=sizeLine;decide),fun T1 hT1=>⟨_,rfl,_,rfl,(by show 2<=sizeLine;decide),fun T4 hT4=>⟨_,rfl,_,rfl,(by show 2<=sizeLine;decide),fun T3 hT3=>⟨(by show 3<=sizeLine;decide),fun T9 hT9=>?_⟩⟩⟩⟩
   have z1:=qA2 hT1 (.tup [.int (Af.length:Int),.ref ta]);have z2:=qA2 hT4 (.tup [.int rr,.ref r]);have z3:=qA2 hT3 (.tup [.int rr,.ref ta]);have z4:=qA2 hT9 (.tup [.ref T1,.ref T4,.ref T3]);have z:=z1.trans (z2.trans (z3.trans z4));have q1:=(z2.trans (z3.trans z4)) _ _ qA1;have q2:=(z3.trans z4) _ _ qA1;have q3:=z4 _ _ qA1;have q9:(Ai (Ai (Ai (Ai Hz T1 (.tup [.int (Af.length:Int),.ref ta])) T4 (.tup [.int rr,.ref r])) T3 (.tup [.int rr,.ref ta])) T9 (.tup [.ref T1,.ref T4,.ref T3])) T9=some (.tup ([T1,T4,T3].map V.ref)):=qA1;generalize Ai (Ai (Ai (Ai Hz T1 (.tup [.int (Af.length:Int),.ref ta])) T4 (.tup [.int rr,.ref r])) T3 (.tup [.int rr,.ref ta])) T9 (.tup [.ref T1,.ref T4,.ref T3])=Hw at z q1 q2 q3 q9 ⊢;clear z1 z2 z3 z4;refine ⟨T9,rfl,⟨_,SqT.of q9⟩,qU1 (a:=T9) (xs:=[T1,T4,T3].map V.ref) (fun j σ Hv=>∃ (v14 v15:Option V),σ=[some (.ref sc),some (.ref d),some (.int (0+(i:Int))),some (.ref a),some (.ref ta),some (.ref l),some (.int (peak 0 ms)),some (.int rr),some (.ref lq),some (.ref lh),v10,v11,some (.ref rl),some (.ref r),v14,v15]/\Same Hw Hv)
    ⟨v14,v15,rfl,.refl _⟩ (fun j σ Hv _ hP=>by obtain ⟨_,_,_,sv⟩:=hP;exact SqT.of (sv _ _ q9)) ?_ ?_⟩
   ·refine fun j x σ Hv hx hI_4=>opq fun G_4 hG_4=>?_;obtain ⟨v14,v15,rfl,sv⟩:=hI_4;obtain ⟨tg,et,rfl⟩:=qBX hx;refine hG_4 ?_;refine nmI fun D3 d3 _=>?_;have hgs:∃ (many:Int) (gA:Addr) (gs:List Int),Hw tg=some (.tup [.int many,.ref gA])/\Hw gA=some (.tup (gs.map V.int))/\0<=many/\many<=1000/\Run Af many [] ms st/\(∀ x ∈ gs,x ∈ st)/\Rise (Af.length:Int) gs/\gs.length<=400:=by
     have:=B4 et;simp at this;rcases this with e | e | e
     ·subst e;exact ⟨_,_,Ad,q1,z _ _ gTz,by omega,by omega,R,sub,rA,by omega⟩
     ·subst e;exact ⟨_,_,[u],q2,z _ _ gr,r0,r1,rp,fun x hx=>by rw [A6.mp hx];exact uin,⟨by simp,fun x hx=>by rw [A6.mp hx];exact rst.in_ u uin⟩,by simp⟩
     ·subst e;exact ⟨_,_,Ad,q3,z _ _ gTz,r0,r1,rp,sub,rA,by omega⟩
    obtain ⟨many,gA,gs,g1',g2',m0,m1,mr,ms1,ms2,ms3⟩:=hgs;have zv:=z.trans sv;refine ⟨tg,_,rfl,SqT.of (sv _ _ g1'),rfl,_,_,rfl,_,_,rfl,rfl,?_⟩;have SHv:∀ {Hu:Hp} {l0:Addr},Same Hv Hu->PlanAt Hu l0 ms->qXC Hu a l0 gA Af ms many gs st:=fun su Pu=>⟨hAz.same (zv.trans su),wf,n1,by omega,Pu,by omega,mv,m0,m1,mr,ms1,(sv.trans su) _ _ g2',ms2,ms3,d64⟩
    refine ⟨_,rfl,_,rfl,_,rfl,_,rfl,a,lh,gA,Af,ms,many,gs,st,rfl,SHv (.refl _) (PHz.same zv),fun l1 qa Hk sk fl1 P1 SA1 ST1=>?_⟩;refine ⟨_,rfl,_,rfl,_,rfl,_,rfl,a,l,gA,Af,ms,many,gs,st,rfl,SHv sk (PPz.same (zv.trans sk)),fun l2 qb Hm sm fl2 P2 _ ST2=>?_⟩;have eab:qb=qa:=ST2.one ST1;subst eab;have lqa:qb.length<=100000:=by
     have:=SA1.len;have:=(qHO (Ad:=gs) wf mr mv ms1 ms2).dos;omega
    refine ⟨_,_,rfl,qJ2 (P1.same sm) P2 lqa,fun Hn sn=>⟨_,rfl,?_⟩⟩;refine iteF ?_;exact d3 _ _ ⟨_,_,rfl,sv.trans (sk.trans (sm.trans sn))⟩
   ·refine fun σ Hv hI_5=>opq fun G_5 hG_5=>?_;obtain ⟨v14,v15,rfl,sv⟩:=hI_5;refine hG_5 ?_;exact d1 _ _ ⟨_,nsy,_,_,_,_,_,_,_,_,_,_,_,_,_,_,rfl,Sz.same (z.trans sv),by omega,by omega⟩
 ·refine fun σ Hc hI_6=>opq fun G_6 hG_6=>?_;obtain ⟨t,ns,v2,v3,v4,v5,v6,v7,v8,v9,v10,v11,v12,v13,v14,v15,rfl,S2,t0,tb⟩:=hI_6;refine hG_6 ?_;exact hNL _ _ (q _)
end
theorem all_mk {l:PySem.W.OpenLaw} {w:World} {K:PySem.W.Frag} {h:Heap} {mg:Str->Option Value} {fa qG6 qDZ qIU qCO qE0 qCY qCU qIX qC0 qEA qDC qF0 qQF qIY qHE qM8 qD5 qCP qMC qEM qE1 qM9 qIV qIW qMA qG7 qDI qMB qHD qG8 qMD qCH qBN qZT:Addr} (X:K.In h) (G:h.Ns mainGlobals mg) (hfa:mg "law" = some (.ref fa))
  {qbC qYD:Option Addr} {qaT:Array (Option Value)} {qbD qY0 qY8 qXO qUI qY9:Value}
  (qHY:C3 K mainGlobals "stays_of" = some (some (.ref qG6))) (F_stays_of:∃ fd,Fun K "stays_of" "stays_of" qFW qG6 fd)
  (qFP:C3 K mainGlobals "stays_left" = some (some (.ref qDZ))) (F_stays_left:∃ fd,Fun K "stays_left" "stays_left" qDQ qDZ fd)
  (qMN:C3 K mainGlobals "tidied" = some (some (.ref qIU))) (F_tidied:∃ fd,Fun K "tidied" "tidied" qIM qIU fd)
  (qDO:C3 K mainGlobals "counts_behind" = some (some (.ref qCO))) (F_counts_behind:∃ fd,Fun K "counts_behind" "counts_behind" qCK qCO fd)
  (qFQ:C3 K mainGlobals "done_again" = some (some (.ref qE0))) (F_done_again:∃ fd,Fun K "done_again" "done_again" qDR qE0 fd)
  (qEE:C3 K mainGlobals "first_spared" = some (some (.ref qCY))) (F_first_spared:∃ fd,Fun K "first_spared" "first_spared" qCW qCY fd)
  (qGO:C3 K mainGlobals "shortened" = some (some (.ref qCU))) (F_shortened:∃ fd,Fun K "shortened" "shortened" qES qCU fd)
  (qMR:C3 K mainGlobals "_law_begin" = some (some (.ref qIX))) (F_Lbegin:∃ fd,Fun K "_law_begin" "_law_begin" qIQ qIX fd)
  (qPE:C3 K mainGlobals "_law_take" = some (some (.ref qC0))) (F_Ltake:∃ fd,Fun K "_law_take" "_law_take" qLH qC0 fd)
  (qPF:C3 K mainGlobals "_law_same" = some (some (.ref qEA))) (F_Lsame:∃ fd,Fun K "_law_same" "_law_same" qJH qEA fd)
  (qF1:C3 K mainGlobals "_law_some_needs" = some (some (.ref qDC))) (F_Lsome_needs:∃ fd,Fun K "_law_some_needs" "_law_some_needs" qD9 qDC fd)
  (qGP:C3 K mainGlobals "_law_tree_net" = some (some (.ref qF0))) (F_Ltree_net:∃ fd,Fun K "_law_tree_net" "_law_tree_net" qET qF0 fd)
  (qV5:C3 K mainGlobals "_law_net" = some (some (.ref qQF))) (F_Lnet:∃ fd,Fun K "_law_net" "_law_net" qPW qQF fd)
  (qMS:C3 K mainGlobals "_law_asked" = some (some (.ref qIY))) (F_Lasked:∃ fd,Fun K "_law_asked" "_law_asked" qIR qIY fd)
  (qK8:C3 K mainGlobals "_law_needed" = some (some (.ref qHE))) (F_Lneeded:∃ fd,Fun K "_law_needed" "_law_needed" qGV qHE fd)
  (qPC:C3 K mainGlobals "_law_word" = some (some (.ref qM8))) (F_Lword:∃ fd,Fun K "_law_word" "_law_word" qLF qM8 fd)
  (qK9:C3 K mainGlobals "_law_behind" = some (some (.ref qD5))) (F_Lbehind:∃ fd,Fun K "_law_behind" "_law_behind" qGW qD5 fd)
  (qK7:C3 K mainGlobals "_law_played" = some (some (.ref qCP))) (F_Lplayed:∃ fd,Fun K "_law_played" "_law_played" qGU qCP fd)
  (qPI:C3 K mainGlobals "_law_does" = some (some (.ref qMC))) (F_Ldoes:∃ fd,Fun K "_law_does" "_law_does" qLK qMC fd)
  (qI1:C3 K mainGlobals "_law_is_move" = some (some (.ref qEM))) (F_Lis_move:∃ fd,Fun K "_law_is_move" "_law_is_move" qFZ qEM fd)
  (qFS:C3 K mainGlobals "_law_next_work" = some (some (.ref qE1))) (F_Lnext_work:∃ fd,Fun K "_law_next_work" "_law_next_work" qDT qE1 fd)
  (qPD:C3 K mainGlobals "_law_walk" = some (some (.ref qM9))) (F_Lwalk:∃ fd,Fun K "_law_walk" "_law_walk" qLG qM9 fd)
  (qMP:C3 K mainGlobals "_law_spare" = some (some (.ref qIV))) (F_Lspare:∃ fd,Fun K "_law_spare" "_law_spare" qIO qIV fd)
  (qMQ:C3 K mainGlobals "_law_doing" = some (some (.ref qIW))) (F_Ldoing:∃ fd,Fun K "_law_doing" "_law_doing" qIP qIW fd)
  (qPG:C3 K mainGlobals "_law_most" = some (some (.ref qMA))) (F_Lmost:∃ fd,Fun K "_law_most" "_law_most" qLI qMA fd)
  (qMO:C3 K mainGlobals "_law_stays" = some (some (.ref qG7))) (F_Lstays:∃ fd,Fun K "_law_stays" "_law_stays" qIN qG7 fd)
  (qI0:C3 K mainGlobals "_law_needing" = some (some (.ref qDI))) (F_Lneeding:∃ fd,Fun K "_law_needing" "_law_needing" qFY qDI fd)
  (qPH:C3 K mainGlobals "_law_idle" = some (some (.ref qMB))) (F_Lidle:∃ fd,Fun K "_law_idle" "_law_idle" qLJ qMB fd)
  (qK6:C3 K mainGlobals "_law_tidied" = some (some (.ref qHD))) (F_Ltidied:∃ fd,Fun K "_law_tidied" "_law_tidied" qGT qHD fd)
  (qHZ:C3 K mainGlobals "_law_shorter" = some (some (.ref qG8))) (F_Lshorter:∃ fd,Fun K "_law_shorter" "_law_shorter" qFX qG8 fd)
  (qPJ:C3 K mainGlobals "_law_case" = some (some (.ref qMD))) (F_Lcase:∃ fd,Fun K "_law_case" "_law_case" qLL qMD fd)
  (qFR:C3 K mainGlobals "_law_shortened" = some (some (.ref qCH))) (F_Lshortened:∃ fd,Fun K "_law_shortened" "_law_shortened" qDS qCH fd)
  (qC9:C3 K mainGlobals "_law_one_behind_another" = some (some (.ref qBN))) (F_Lone_behind_another:∃ fd,Fun K "_law_one_behind_another" "_law_one_behind_another" qAW qBN fd)
  (qa7:C3 K mainGlobals "law" = some (some (.ref qZT))) (qZN:K.lookup qZT=some ⟨qbD,qbC,.func (W6 "law" "law" (qHU qKC) (qEC qKC) (qAH qKC) .none qY0 qY8 qXO qYD qUI qY9),qaT⟩) (qZY:l9 K qUI "law" = true) (qZP:O5 K (.ref qZT)=true)
  (qF7:C3 K mainGlobals "all" = some none)
  (qQQ:C3 K mainGlobals "any" = some none)
  (qF9:C3 K mainGlobals "bool" = some none)
  (qFU:C3 K mainGlobals "divmod" = some none)
  (qAD:C3 K mainGlobals "enumerate" = some none)
  (qGG:C3 K mainGlobals "int" = some none)
  (qAF:C3 K mainGlobals "isinstance" = some none)
  (qAU:C3 K mainGlobals "len" = some none)
  (qC1:C3 K mainGlobals "list" = some none)
  (qL8:C3 K mainGlobals "max" = some none)
  (qID:C3 K mainGlobals "min" = some none)
  (qAN:C3 K mainGlobals "range" = some none)
  (qDE:C3 K mainGlobals "reversed" = some none)
  (qIC:C3 K mainGlobals "set" = some none)
  (qB4:C3 K mainGlobals "sorted" = some none)
  (qL7:C3 K mainGlobals "str" = some none)
  (qAP:C3 K mainGlobals "tuple" = some none)
  (qMY:C3 K mainGlobals "zip" = some none)
  : ∃ fd:FuncData,(∀ (s:Shared) (v:Value),BindsTo s fd ⟨[v],[]⟩ [("_law_script",v)])/\∀ base:Heap,K.In base->base.Ns mainGlobals mg->FnOk l.prog w K mg base CX0 7 fa fd ["_law_script"] (qVD K):=by
 have e:=hfa.symm.trans (D9 X G qa7);cases e;obtain ⟨qJY,F_stays_of⟩:=F_stays_of;have qRM:=F_stays_of.binds (ps:=["net","plan"]) fun _ _ _ _ _ _ us hl=>us2 us hl (fun _ _=>rfl);have qR7:=D9 X G qHY;obtain ⟨qH9,F_stays_left⟩:=F_stays_left;have qOB:=F_stays_left.binds (ps:=["needed","last"]) fun _ _ _ _ _ _ us hl=>us2 us hl (fun _ _=>rfl);have qNF:=D9 X G qFP;obtain ⟨qNS,F_tidied⟩:=F_tidied;have qX4:=F_tidied.binds (ps:=["net","plan","asked"]) fun _ _ _ _ _ _ us hl=>us3 us hl (fun _ _ _=>rfl);have qW7:=D9 X G qMN;obtain ⟨qF5,F_counts_behind⟩:=F_counts_behind;have qK4:=F_counts_behind.binds (ps:=["plan"]) fun _ _ _ _ _ _ us hl=>us1 us hl (fun _=>rfl);have qJT:=D9 X G qDO;obtain ⟨qHA,F_done_again⟩:=F_done_again;have qOC:=F_done_again.binds (ps:=["plan"]) fun _ _ _ _ _ _ us hl=>us1 us hl (fun _=>rfl);have qNG:=D9 X G qFQ;obtain ⟨qFL,F_first_spared⟩:=F_first_spared;have qKK:=F_first_spared.binds (ps:=["rooms","plan"]) fun _ _ _ _ _ _ us hl=>us2 us hl (fun _ _=>rfl);have qKF:=D9 X G qEE;obtain ⟨qDY,F_shortened⟩:=F_shortened;have qP9:=F_shortened.binds (ps:=["net","rooms","plan","asked"]) fun _ _ _ _ _ _ us hl=>us4 us hl (fun _ _ _ _=>rfl);have qOY:=D9 X G qGO;obtain ⟨qNV,F_Lbegin⟩:=F_Lbegin;have qX8:=F_Lbegin.binds (ps:=["_law_script"]) fun _ _ _ _ _ _ us hl=>us1 us hl (fun _=>rfl);have qWB:=D9 X G qMR;obtain ⟨qBM,F_Ltake⟩:=F_Ltake;have qa1:=F_Ltake.binds (ps:=["_law_state","_law_many"]) fun _ _ _ _ _ _ us hl=>us2 us hl (fun _ _=>rfl);have qZB:=D9 X G qPE;obtain ⟨qEY,F_Lsame⟩:=F_Lsame;have qGN:=F_Lsame.binds (ps:=["_law_found","_law_due"]) fun _ _ _ _ _ _ us hl=>us2 us hl (fun _ _=>rfl);have qGL:=D9 X G qPF;obtain ⟨qGF,F_Lsome_needs⟩:=F_Lsome_needs;have qMM:=F_Lsome_needs.binds (ps:=["_law_state","_law_k"]) fun _ _ _ _ _ _ us hl=>us2 us hl (fun _ _=>rfl);have qLQ:=D9 X G qF1;obtain ⟨qI9,F_Ltree_net⟩:=F_Ltree_net;have qPA:=F_Ltree_net.binds (ps:=["_law_state","_law_many"]) fun _ _ _ _ _ _ us hl=>us2 us hl (fun _ _=>rfl);have qOZ:=D9 X G qGP;obtain ⟨qU3,F_Lnet⟩:=F_Lnet;have qc8:=F_Lnet.binds (ps:=["_law_state","_law_many"]) fun _ _ _ _ _ _ us hl=>us2 us hl (fun _ _=>rfl);have qbG:=D9 X G qV5;obtain ⟨qNW,F_Lasked⟩:=F_Lasked;have qX9:=F_Lasked.binds (ps:=["_law_state","_law_net_here"]) fun _ _ _ _ _ _ us hl=>us2 us hl (fun _ _=>rfl);have qWC:=D9 X G qMS;obtain ⟨qL1,F_Lneeded⟩:=F_Lneeded;have qUY:=F_Lneeded.binds (ps:=["_law_net_here","_law_asked_here"]) fun _ _ _ _ _ _ us hl=>us2 us hl (fun _ _=>rfl);have qTC:=D9 X G qK8;obtain ⟨qQ9,F_Lword⟩:=F_Lword;have qZZ:=F_Lword.binds (ps:=["_law_net_here","_law_rooms","_law_stand","_law_move"]) fun _ _ _ _ _ _ us hl=>us4 us hl (fun _ _ _ _=>rfl);have qZ9:=D9 X G qPC;obtain ⟨qDH,F_Lbehind⟩:=F_Lbehind;have qUZ:=F_Lbehind.binds (ps:=["_law_stand","_law_move"]) fun _ _ _ _ _ _ us hl=>us2 us hl (fun _ _=>rfl);have qTD:=D9 X G qK9;obtain ⟨qCT,F_Lplayed⟩:=F_Lplayed;have qUX:=F_Lplayed.binds (ps:=["_law_net_here","_law_rooms","_law_plan"]) fun _ _ _ _ _ _ us hl=>us3 us hl (fun _ _ _=>rfl);have qTB:=D9 X G qK7;obtain ⟨qQD,F_Ldoes⟩:=F_Ldoes;have qa4:=F_Ldoes.binds (ps:=["_law_net_here","_law_rooms","_law_plan","_law_asked_here"]) fun _ _ _ _ _ _ us hl=>us4 us hl (fun _ _ _ _=>rfl);have qZE:=D9 X G qPI;obtain ⟨qGM,F_Lis_move⟩:=F_Lis_move;have qRP:=F_Lis_move.binds (ps:=["_law_net_here","_law_move"]) fun _ _ _ _ _ _ us hl=>us2 us hl (fun _ _=>rfl);have qRA:=D9 X G qI1;obtain ⟨qHC,F_Lnext_work⟩:=F_Lnext_work;have qOE:=F_Lnext_work.binds (ps:=["_law_state","_law_net_here","_law_stand"]) fun _ _ _ _ _ _ us hl=>us3 us hl (fun _ _ _=>rfl);have qNI:=D9 X G qFS;obtain ⟨qQA,F_Lwalk⟩:=F_Lwalk;have qa0:=F_Lwalk.binds (ps:=["_law_state","_law_net_here","_law_rooms","_law_many"]) fun _ _ _ _ _ _ us hl=>us4 us hl (fun _ _ _ _=>rfl);have qZA:=D9 X G qPD;obtain ⟨qNT,F_Lspare⟩:=F_Lspare;have qX6:=F_Lspare.binds (ps:=["_law_net_here","_law_asked_here","_law_wanted","_law_stand"]) fun _ _ _ _ _ _ us hl=>us4 us hl (fun _ _ _ _=>rfl);have qW9:=D9 X G qMP;obtain ⟨qNU,F_Ldoing⟩:=F_Ldoing;have qX7:=F_Ldoing.binds (ps:=["_law_state","_law_net_here","_law_asked_here","_law_many"]) fun _ _ _ _ _ _ us hl=>us4 us hl (fun _ _ _ _=>rfl);have qWA:=D9 X G qMQ;obtain ⟨qQB,F_Lmost⟩:=F_Lmost;have qa2:=F_Lmost.binds (ps:=["_law_net_here","_law_plan"]) fun _ _ _ _ _ _ us hl=>us2 us hl (fun _ _=>rfl);have qZC:=D9 X G qPG;obtain ⟨qHB,F_Lstays⟩:=F_Lstays;have qX5:=F_Lstays.binds (ps:=["_law_plan"]) fun _ _ _ _ _ _ us hl=>us1 us hl (fun _=>rfl);have qW8:=D9 X G qMO;obtain ⟨qEZ,F_Lneeding⟩:=F_Lneeding;have qRO:=F_Lneeding.binds (ps:=["_law_net_here","_law_plan","_law_stay"]) fun _ _ _ _ _ _ us hl=>us3 us hl (fun _ _ _=>rfl);have qR9:=D9 X G qI0;obtain ⟨qQC,F_Lidle⟩:=F_Lidle;have qa3:=F_Lidle.binds (ps:=["_law_net_here","_law_plan","_law_asked_here"]) fun _ _ _ _ _ _ us hl=>us3 us hl (fun _ _ _=>rfl);have qZD:=D9 X G qPH;obtain ⟨qL0,F_Ltidied⟩:=F_Ltidied;have qUW:=F_Ltidied.binds (ps:=["_law_net_here","_law_plan","_law_asked_here"]) fun _ _ _ _ _ _ us hl=>us3 us hl (fun _ _ _=>rfl);have qTA:=D9 X G qK6;obtain ⟨qJZ,F_Lshorter⟩:=F_Lshorter;have qRN:=F_Lshorter.binds (ps:=["_law_net_here","_law_rooms","_law_plan","_law_asked_here"]) fun _ _ _ _ _ _ us hl=>us4 us hl (fun _ _ _ _=>rfl);have qR8:=D9 X G qHZ;obtain ⟨qQE,F_Lcase⟩:=F_Lcase;have qa5:=F_Lcase.binds (ps:=["_law_state"]) fun _ _ _ _ _ _ us hl=>us1 us hl (fun _=>rfl);have qZF:=D9 X G qPJ;obtain ⟨qDB,F_Lshortened⟩:=F_Lshortened;have qOD:=F_Lshortened.binds (ps:=["_law_net_here","_law_rooms","_law_plan","_law_asked_here"]) fun _ _ _ _ _ _ us hl=>us4 us hl (fun _ _ _ _=>rfl);have qNH:=D9 X G qFR;obtain ⟨qCS,F_Lone_behind_another⟩:=F_Lone_behind_another;have qFO:=F_Lone_behind_another.binds (ps:=[]) fun _ _ _ _ _ _ us hl=>us0 us hl (rfl);have qFH:=D9 X G qC9;have qdB:=fun_mk (st:=qKC) qZN qZY qZP;have qPK:=F1 X G qF7;have qaF:=F1 X G qQQ;have qRV:=F1 X G qF9;have qRU:=F1 X G qFU;have qBZ:=F1 X G qAD;have qRT:=F1 X G qGG;have qEQ:=F1 X G qAF;have qCZ:=F1 X G qAU;have qHN:=F1 X G qC1;have qXE:=F1 X G qL8;have qRS:=F1 X G qID;have qCV:=F1 X G qAN;have qOG:=F1 X G qDE;have qRR:=F1 X G qIC;have qEG:=F1 X G qB4;have qaE:=F1 X G qL7;have qEP:=F1 X G qAP;have qaD:=F1 X G qMY;refine ⟨W6 "law" "law" (qHU qKC) (qEC qKC) (qAH qKC) .none qY0 qY8 qXO qYD qUI qY9,fun s v=>.of_eq rfl,fun base _ _=>?_⟩;have qGA:=Clb.mk (ok_stays_of (P:=l.prog) (w:=w) (mg:=mg) (base:=base) (F:=F_stays_of) (qAD:=qBZ)) qRM F_stays_of.kp qR7;have qE2:=Clb.mk (ok_stays_left (P:=l.prog) (w:=w) (mg:=mg) (base:=base) (F:=F_stays_left) (qC1:=qHN) (qDE:=qOG)) qOB F_stays_left.kp qNF;have qHL:=Clb.mk (ok_tidied (P:=l.prog) (w:=w) (mg:=mg) (base:=base) (F:=F_tidied) (qGA:=qGA) (qE2:=qE2)) qX4 F_tidied.kp qW7;have qCQ:=Clb.mk (ok_counts_behind (P:=l.prog) (w:=w) (mg:=mg) (base:=base) (F:=F_counts_behind)) qK4 F_counts_behind.kp qJT;have qE3:=Clb.mk (ok_done_again (P:=l.prog) (w:=w) (mg:=mg) (base:=base) (F:=F_done_again) (qAD:=qBZ) (qB4:=qEG)) qOC F_done_again.kp qNG;have qCE:=Clb.mk (ok_first_spared (P:=l.prog) (w:=w) (mg:=mg) (base:=base) (F:=F_first_spared) (qCQ:=qCQ) (qE3:=qE3) (qF7:=qPK)) qKK F_first_spared.kp qKF;have qBR:=Clb.mk (ok_shortened (P:=l.prog) (w:=w) (mg:=mg) (base:=base) (F:=F_shortened) (qHL:=qHL) (qCE:=qCE) (qAD:=qBZ)) qP9 F_shortened.kp qOY;have qJ6:=Clb.mk (ok_Lbegin (P:=l.prog) (w:=w) (mg:=mg) (base:=base) (F:=F_Lbegin) (qC1:=qHN)) qX8 F_Lbegin.kp qWB;have qAJ:=Clb.mk (ok_Ltake (P:=l.prog) (w:=w) (mg:=mg) (base:=base) (F:=F_Ltake) (qFU:=qRU) (qAU:=qCZ)) qa1 F_Ltake.kp qZB;have qEF:=Clb.mk (ok_Lsame (P:=l.prog) (w:=w) (mg:=mg) (base:=base) (F:=F_Lsame) (qGN:=qGN) (qLZ:=F_Lsame.kp) (qGL:=qGL) (n:=3) (qF7:=qPK) (qF9:=qRV) (qGG:=qRT) (qAF:=qEQ) (qAU:=qCZ) (qC1:=qHN) (qL7:=qaE) (qAP:=qEP) (qMY:=qaD)) qGN F_Lsame.kp qGL;have qCR:=Clb.mk (ok_Lsome_needs (P:=l.prog) (w:=w) (mg:=mg) (base:=base) (F:=F_Lsome_needs) (qAJ:=qAJ) (qID:=qRS) (qAN:=qCV) (qIC:=qRR) (qB4:=qEG) (qAP:=qEP)) qMM F_Lsome_needs.kp qLQ;have qF2:=Clb.mk (ok_Ltree_net (P:=l.prog) (w:=w) (mg:=mg) (base:=base) (F:=F_Ltree_net) (qAJ:=qAJ) (qAU:=qCZ) (qID:=qRS) (qAN:=qCV) (qAP:=qEP)) qPA F_Ltree_net.kp qOZ;have qQP:=Clb.mk (ok_Lnet (P:=l.prog) (w:=w) (mg:=mg) (base:=base) (F:=F_Lnet) (qAJ:=qAJ) (qF2:=qF2) (qCR:=qCR) (qAD:=qBZ) (qGG:=qRT) (qL8:=qXE) (qAN:=qCV) (qIC:=qRR) (qB4:=qEG) (qAP:=qEP)) qc8 F_Lnet.kp qbG;have qJ7:=Clb.mk (ok_Lasked (P:=l.prog) (w:=w) (mg:=mg) (base:=base) (F:=F_Lasked) (qAJ:=qAJ) (qAU:=qCZ) (qID:=qRS) (qAN:=qCV) (qIC:=qRR) (qB4:=qEG) (qAP:=qEP)) qX9 F_Lasked.kp qWC;have qHM:=Clb.mk (ok_Lneeded (P:=l.prog) (w:=w) (mg:=mg) (base:=base) (F:=F_Lneeded) (qAU:=qCZ) (qAN:=qCV)) qUY F_Lneeded.kp qTC;have qMT:=Clb.mk (ok_Lword (P:=l.prog) (w:=w) (mg:=mg) (base:=base) (F:=F_Lword) (qF7:=qPK) (qAU:=qCZ)) qZZ F_Lword.kp qZ9;have qBY:=Clb.mk (ok_Lbehind (P:=l.prog) (w:=w) (mg:=mg) (base:=base) (F:=F_Lbehind) (qB4:=qEG) (qAP:=qEP)) qUZ F_Lbehind.kp qTD;have qC2:=Clb.mk (ok_Lplayed (P:=l.prog) (w:=w) (mg:=mg) (base:=base) (F:=F_Lplayed) (qMT:=qMT) (qBY:=qBY)) qUX F_Lplayed.kp qTB;have qGB:=Clb.mk (ok_Lis_move (P:=l.prog) (w:=w) (mg:=mg) (base:=base) (F:=F_Lis_move) (qF9:=qRV) (qGG:=qRT) (qAF:=qEQ) (qAU:=qCZ) (qAP:=qEP)) qRP F_Lis_move.kp qRA;have qMW:=Clb.mk (ok_Ldoes (P:=l.prog) (w:=w) (mg:=mg) (base:=base) (F:=F_Ldoes) (qGB:=qGB) (qC2:=qC2) (qF7:=qPK) (qAF:=qEQ) (qC1:=qHN)) qa4 F_Ldoes.kp qZE;have qE5:=Clb.mk (ok_Lnext_work (P:=l.prog) (w:=w) (mg:=mg) (base:=base) (F:=F_Lnext_work) (qAJ:=qAJ) (qAU:=qCZ)) qOE F_Lnext_work.kp qNI;have qMU:=Clb.mk (ok_Lwalk (P:=l.prog) (w:=w) (mg:=mg) (base:=base) (F:=F_Lwalk) (qE5:=qE5) (qAJ:=qAJ) (qBY:=qBY) (qAU:=qCZ) (qAN:=qCV)) qa0 F_Lwalk.kp qZA;have qJ4:=Clb.mk (ok_Lspare (P:=l.prog) (w:=w) (mg:=mg) (base:=base) (F:=F_Lspare) (qQQ:=qaF)) qX6 F_Lspare.kp qW9;have qJ5:=Clb.mk (ok_Ldoing (P:=l.prog) (w:=w) (mg:=mg) (base:=base) (F:=F_Ldoing) (qMU:=qMU) (qHM:=qHM) (qBY:=qBY) (qJ4:=qJ4) (qAJ:=qAJ) (qAD:=qBZ) (qAU:=qCZ)) qX7 F_Ldoing.kp qWA;have qMV:=Clb.mk (ok_Lmost (P:=l.prog) (w:=w) (mg:=mg) (base:=base) (F:=F_Lmost) (qC2:=qC2) (qAU:=qCZ) (qL8:=qXE)) qa2 F_Lmost.kp qZC;have qE4:=Clb.mk (ok_Lstays (P:=l.prog) (w:=w) (mg:=mg) (base:=base) (F:=F_Lstays) (qAD:=qBZ) (qAU:=qCZ) (qAN:=qCV)) qX5 F_Lstays.kp qW8;have qCI:=Clb.mk (ok_Lneeding (P:=l.prog) (w:=w) (mg:=mg) (base:=base) (F:=F_Lneeding) (qAN:=qCV)) qRO F_Lneeding.kp qR9;have qKA:=Clb.mk (ok_Lidle (P:=l.prog) (w:=w) (mg:=mg) (base:=base) (F:=F_Lidle) (qE4:=qE4) (qCI:=qCI) (qAU:=qCZ)) qa3 F_Lidle.kp qZD;have qFT:=Clb.mk (ok_Ltidied (P:=l.prog) (w:=w) (mg:=mg) (base:=base) (F:=F_Ltidied) (qKA:=qKA) (qE4:=qE4) (qCI:=qCI) (qAD:=qBZ) (qAU:=qCZ) (qC1:=qHN) (qB4:=qEG)) qUW F_Ltidied.kp qTA;have qEO:=Clb.mk (ok_Lshorter (P:=l.prog) (w:=w) (mg:=mg) (base:=base) (F:=F_Lshorter) (qMW:=qMW) (qAD:=qBZ) (qAU:=qCZ) (qAN:=qCV)) qRN F_Lshorter.kp qR8;have qMX:=Clb.mk (ok_Lcase (P:=l.prog) (w:=w) (mg:=mg) (base:=base) (F:=F_Lcase) (qAJ:=qAJ) (qQP:=qQP) (qJ7:=qJ7)) qa5 F_Lcase.kp qZF;have qBO:=Clb.mk (ok_Lshortened (P:=l.prog) (w:=w) (mg:=mg) (base:=base) (F:=F_Lshortened) (qFT:=qFT) (qEO:=qEO)) qOD F_Lshortened.kp qNH;have C_Lone_behind_another:=Clb.mk (ok_Lone_behind_another (P:=l.prog) (w:=w) (mg:=mg) (base:=base) (F:=F_Lone_behind_another) (qBO:=qBO) (qEF:=qEF) (qBR:=qBR) (qAU:=qCZ)) qFO F_Lone_behind_another.kp qFH;exact ok_law (P:=l.prog) (w:=w) (mg:=mg) (base:=base) (F:=qdB) (qJ6:=qJ6) (C_Lone_behind_another:=C_Lone_behind_another) (qAJ:=qAJ) (qMX:=qMX) (qJ5:=qJ5) (qMV:=qMV) (qBO:=qBO) (qBR:=qBR) (qEF:=qEF) (qC2:=qC2) (qAU:=qCZ) (qC1:=qHN) (qAN:=qCV)
theorem walk {l:PySem.W.OpenLaw} {q:Program} {loose:List Str} {XP:(Str->Option Value)->Heap->Prop} {YP:World->Heap->Prop} {d:DefRec} {K:Params->PySem.W.Frag} (hn:l.most=some 63) (hdf:d.params.defaults=[])
  (hY:∀ (w:World) (h:Heap),YP w h->(K w.params).In h)
  (F:∀ (w:World) (mg:Str->Option Value) (fa:Addr) (h:Heap),(K w.params).In h->h.Ns mainGlobals mg->mg d.name=some (.ref fa)->
   ∃ fd:FuncData,(∀ (s:Shared) (u:Value),BindsTo s fd ⟨[u],[]⟩ [("_law_script",u)])/\∀ base:Heap,(K w.params).In base->base.Ns mainGlobals mg->FnOk l.prog w (K w.params) mg base CX0 7 fa fd ["_law_script"] (qVD (K w.params))) :
  PySem.W.WalkO q loose XP YP l.row.toRowW d [] (fun f vs=>A64 f vs):=
 L2.walk_of (n:=63) (k:=7) (x:="_law_script") (CX:=fun _=>CX0) (sp:=fun w=>qVD (K w.params)) hn (by decide) hdf ⟨rfl,by decide,by decide,rfl⟩ hY F (fun _ _ a ns hl _ hS=>⟨a,ns,rfl,hS,hl,fun _=>rfl⟩) fun _ _ _ _ _ z=>z
end Fw
open PySem PySem.W PyProof.Rows
set_option maxRecDepth 100000 in
set_option maxHeartbeats 0 in
theorem PySem.Challenge.cw_fewrooms_k19_shortened_holds : PySem.Challenge.rw_fewrooms_k19_shortened.Holds := by
 w_on;refine holds_law Fw.hpSaid fun said=>?_
 refine holds_open (q:=Fw.hpQ) (Xt:=Fw.hpX) (XP:=XL Fw.hpQ []) (YP:=(kHook Fw.hpK Fw.hpA Fw.hpE).says)
  Fw.hpLeft (kHook Fw.hpK Fw.hpA Fw.hpE).of (kHook Fw.hpK Fw.hpA Fw.hpE).keeps (fun s e=>xl_of s (A03.mp e).1) XL.keeps
  (by rfl) (by rfl) (by rfl) (fun s e=>recFacts_of (A03.mp e).2) (by rfl)
  (by first | assumption | decide +kernel) (by decide +kernel) ⟨rfl,rfl,rfl,rfl,rfl,by decide +kernel⟩ ?hw ?hc
 case hw=>w_witness2
 k_fill
 refine Fw.walk (l:=PySem.Challenge.rw_fewrooms_k19_shortened) rfl rfl (fun w h Y=>PySem.W.kIn_of Y) ?F
 case F=>
  intro w mg fa h KX G hmg;refine' Fw.all_mk KX G hmg ?qHY ?F_stays_of ?qFP ?F_stays_left ?qMN ?F_tidied ?qDO ?F_counts_behind ?qFQ ?F_done_again ?qEE ?F_first_spared ?qGO ?F_shortened ?qMR ?F_Lbegin ?qPE ?F_Ltake ?qPF ?F_Lsame ?qF1 ?F_Lsome_needs ?qGP ?F_Ltree_net ?qV5 ?F_Lnet ?qMS ?F_Lasked ?qK8 ?F_Lneeded ?qPC ?F_Lword ?qK9 ?F_Lbehind ?qK7 ?F_Lplayed ?qPI ?F_Ldoes ?qI1 ?F_Lis_move ?qFS ?F_Lnext_work ?qPD ?F_Lwalk ?qMP ?F_Lspare ?qMQ ?F_Ldoing ?qPG ?F_Lmost ?qMO ?F_Lstays ?qI0 ?F_Lneeding ?qPH ?F_Lidle ?qK6 ?F_Ltidied ?qHZ ?F_Lshorter ?qPJ ?F_Lcase ?qFR ?F_Lshortened ?qC9 ?F_Lone_behind_another ?qa7 ?qZN ?qZY ?qZP ?qF7 ?qQQ ?qF9 ?qFU ?qAD ?qGG ?qAF ?qAU ?qC1 ?qL8 ?qID ?qAN ?qDE ?qIC ?qB4 ?qL7 ?qAP ?qMY
  (case qHY=>k_is)
  (case F_stays_of=>exact ⟨_,L2.fun_mk (by k_is) (by k_is) (by k_is)⟩)
  (case qFP=>k_is)
  (case F_stays_left=>exact ⟨_,L2.fun_mk (by k_is) (by k_is) (by k_is)⟩)
  (case qMN=>k_is)
  (case F_tidied=>exact ⟨_,L2.fun_mk (by k_is) (by k_is) (by k_is)⟩)
  (case qDO=>k_is)
  (case F_counts_behind=>exact ⟨_,L2.fun_mk (by k_is) (by k_is) (by k_is)⟩)
  (case qFQ=>k_is)
  (case F_done_again=>exact ⟨_,L2.fun_mk (by k_is) (by k_is) (by k_is)⟩)
  (case qEE=>k_is)
  (case F_first_spared=>exact ⟨_,L2.fun_mk (by k_is) (by k_is) (by k_is)⟩)
  (case qGO=>k_is)
  (case F_shortened=>exact ⟨_,L2.fun_mk (by k_is) (by k_is) (by k_is)⟩)
  (case qMR=>k_is)
  (case F_Lbegin=>exact ⟨_,L2.fun_mk (by k_is) (by k_is) (by k_is)⟩)
  (case qPE=>k_is)
  (case F_Ltake=>exact ⟨_,L2.fun_mk (by k_is) (by k_is) (by k_is)⟩)
  (case qPF=>k_is)
  (case F_Lsame=>exact ⟨_,L2.fun_mk (by k_is) (by k_is) (by k_is)⟩)
  (case qF1=>k_is)
  (case F_Lsome_needs=>exact ⟨_,L2.fun_mk (by k_is) (by k_is) (by k_is)⟩)
  (case qGP=>k_is)
  (case F_Ltree_net=>exact ⟨_,L2.fun_mk (by k_is) (by k_is) (by k_is)⟩)
  (case qV5=>k_is)
  (case F_Lnet=>exact ⟨_,L2.fun_mk (by k_is) (by k_is) (by k_is)⟩)
  (case qMS=>k_is)
  (case F_Lasked=>exact ⟨_,L2.fun_mk (by k_is) (by k_is) (by k_is)⟩)
  (case qK8=>k_is)
  (case F_Lneeded=>exact ⟨_,L2.fun_mk (by k_is) (by k_is) (by k_is)⟩)
  (case qPC=>k_is)
  (case F_Lword=>exact ⟨_,L2.fun_mk (by k_is) (by k_is) (by k_is)⟩)
  (case qK9=>k_is)
  (case F_Lbehind=>exact ⟨_,L2.fun_mk (by k_is) (by k_is) (by k_is)⟩)
  (case qK7=>k_is)
  (case F_Lplayed=>exact ⟨_,L2.fun_mk (by k_is) (by k_is) (by k_is)⟩)
  (case qPI=>k_is)
  (case F_Ldoes=>exact ⟨_,L2.fun_mk (by k_is) (by k_is) (by k_is)⟩)
  (case qI1=>k_is)
  (case F_Lis_move=>exact ⟨_,L2.fun_mk (by k_is) (by k_is) (by k_is)⟩)
  (case qFS=>k_is)
  (case F_Lnext_work=>exact ⟨_,L2.fun_mk (by k_is) (by k_is) (by k_is)⟩)
  (case qPD=>k_is)
  (case F_Lwalk=>exact ⟨_,L2.fun_mk (by k_is) (by k_is) (by k_is)⟩)
  (case qMP=>k_is)
  (case F_Lspare=>exact ⟨_,L2.fun_mk (by k_is) (by k_is) (by k_is)⟩)
  (case qMQ=>k_is)
  (case F_Ldoing=>exact ⟨_,L2.fun_mk (by k_is) (by k_is) (by k_is)⟩)
  (case qPG=>k_is)
  (case F_Lmost=>exact ⟨_,L2.fun_mk (by k_is) (by k_is) (by k_is)⟩)
  (case qMO=>k_is)
  (case F_Lstays=>exact ⟨_,L2.fun_mk (by k_is) (by k_is) (by k_is)⟩)
  (case qI0=>k_is)
  (case F_Lneeding=>exact ⟨_,L2.fun_mk (by k_is) (by k_is) (by k_is)⟩)
  (case qPH=>k_is)
  (case F_Lidle=>exact ⟨_,L2.fun_mk (by k_is) (by k_is) (by k_is)⟩)
  (case qK6=>k_is)
  (case F_Ltidied=>exact ⟨_,L2.fun_mk (by k_is) (by k_is) (by k_is)⟩)
  (case qHZ=>k_is)
  (case F_Lshorter=>exact ⟨_,L2.fun_mk (by k_is) (by k_is) (by k_is)⟩)
  (case qPJ=>k_is)
  (case F_Lcase=>exact ⟨_,L2.fun_mk (by k_is) (by k_is) (by k_is)⟩)
  (case qFR=>k_is)
  (case F_Lshortened=>exact ⟨_,L2.fun_mk (by k_is) (by k_is) (by k_is)⟩)
  (case qC9=>k_is)
  (case F_Lone_behind_another=>exact ⟨_,L2.fun_mk (by k_is) (by k_is) (by k_is)⟩)
  (case qa7=>k_is)
  (case qZN=>k_is)
  (case qZY=>k_is)
  (case qZP=>k_is)
  (case qF7=>k_is)
  (case qQQ=>k_is)
  (case qF9=>k_is)
  (case qFU=>k_is)
  (case qAD=>k_is)
  (case qGG=>k_is)
  (case qAF=>k_is)
  (case qAU=>k_is)
  (case qC1=>k_is)
  (case qL8=>k_is)
  (case qID=>k_is)
  (case qAN=>k_is)
  (case qDE=>k_is)
  (case qIC=>k_is)
  (case qB4=>k_is)
  (case qL7=>k_is)
  (case qAP=>k_is)
  (case qMY=>k_is)

