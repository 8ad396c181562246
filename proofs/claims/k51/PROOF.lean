import PyProof.Rows.All
import Wide.All
import OpenK.AllK
import Wide.FinOn
import Lean
import PyProof.EqAt
import PyProof.EqKinds
import PyProof.TupleCall
import PySem.Challenge.RW_fewrooms_k51_least_in_unlike_rooms
noncomputable section
set_option compiler.extract_closed false
set_option Elab.async false
set_option linter.all false
set_option maxRecDepth 100000
set_option maxHeartbeats 0
namespace Fw
open PySem
noncomputable def top (i:Nat):Stmt:=PySem.Challenge.pw_fewrooms_k51_least_in_unlike_rooms.main.body.getD i (.Pass ⟨0,0,0,0⟩)
noncomputable abbrev qF6:Stmt:=top 1
abbrev qEB:Stmt:=top 3
noncomputable abbrev qF5:Stmt:=top 5
noncomputable abbrev qCC:Stmt:=top 7
abbrev qCB:Stmt:=top 8
abbrev qBR:Stmt:=top 9
abbrev qCA:Stmt:=top 10
abbrev qBH:Stmt:=top 11
abbrev qF4:Stmt:=top 12
abbrev qBC:Stmt:=top 13
noncomputable abbrev qGR:Stmt:=top 15
noncomputable abbrev qJE:Stmt:=top 16
abbrev qH8:Stmt:=top 17
noncomputable abbrev qCD:Stmt:=top 18
noncomputable abbrev qDF:Stmt:=top 19
noncomputable abbrev qMX:Stmt:=top 20
noncomputable abbrev qGS:Stmt:=top 21
abbrev qGO:Stmt:=top 22
abbrev qGQ:Stmt:=top 23
abbrev qMW:Stmt:=top 24
abbrev qCY:Stmt:=top 25
abbrev qCE:Stmt:=top 26
abbrev qEC:Stmt:=top 27
abbrev qMY:Stmt:=top 28
abbrev qGP:Stmt:=top 29
noncomputable abbrev qI6:Stmt:=top 30
end Fw
namespace Fw
open PySem
noncomputable def dA (s:Stmt):Arguments:=match s with
 | .FunctionDef _ a _ _ _ _ _ _ _ _=>a
 | _=>{ posonlyargs:=[],args:=[],vararg:=none,kwonlyargs:=[],kw_defaults:=[],kwarg:=none,defaults:=[] }
noncomputable def dB (s:Stmt):List Stmt:=match s with
 | .FunctionDef _ _ b _ _ _ _ _ _ _=>b
 | _=>[]
noncomputable def dS (s:Stmt):Scope:=match s with
 | .FunctionDef _ _ _ _ _ _ sc _ _ _=>sc
 | _=>{ kind:=.function,names:=[],isGenerator:=false,isCoroutine:=false }
noncomputable abbrev so (s:String):Str:=PySem.Str.ofString s
noncomputable abbrev kh (P:Params) (s:Str):Int:=PySem.PyData.keyHash P s
noncomputable abbrev hde (P:Params) (s:String) (n:Nat) (v:Value):DictEntry:=⟨kh P (so s),.str (so s) n,v⟩
noncomputable abbrev hvs (s:String) (n:Nat):Value:=.str (so s) n
noncomputable abbrev hcut (n:Nat):Value:=hvs "/claim/cut.py" n
noncomputable abbrev hfd (x q:String) (s:Stmt) (a b c d:Value) (e:Option Addr) (f g:Value) (i:Addr):FuncData:=⟨so x,so q,dA s,.stmts (dB s),dS s,3,[],a,b,c,d,e,f,g,i⟩
noncomputable abbrev htp (d:Data) (s:Array (Option Value)):Obj:=⟨.type "tuple",none,d,s⟩
noncomputable abbrev hcd (d:Data) (s:Array (Option Value)):Obj:=⟨.type "code",none,d,s⟩
noncomputable abbrev hfn (d:Data) (s:Array (Option Value)):Obj:=⟨.type "function",none,d,s⟩
noncomputable abbrev ht0:Obj:=htp (.seq #[]) #[]
noncomputable def hvl:List String->Nat->List Value
 | [],_=>[]
 | x::r,n=>hvs x n::hvl r (n+1)
noncomputable abbrev hts (l:List String) (n:Nat):Obj:=htp (.seq (hvl l n).toArray) #[]
noncomputable abbrev hco (x:String) (t:Nat) (ln ac fl:Int) (b:Nat) (md e:Int) (n:Nat):Obj:=hcd (.fields #[hvs x t,hvs x (t+1),hcut (t+2),.int ln 0,.int ac 0,.int 0 0,.int 0 0,.int fl 0,.ref b,.bool .true,.int md 0,.ref (b+1),.none,.ref (b+2),.ref (b+3),.ref (b+4),.int e 0,.int ln 0,hcut n]) #[]
noncomputable abbrev hcp (x:String) (t:Nat) (ln ac:Int) (b:Nat) (md e:Int):Obj:=hcd (.fields #[hvs x t,hvs x (t+1),hcut (t+2),.int ln 0,.int ac 0,.int 0 0,.int 0 0,.int 3 0,.ref b,.bool .true,.int md 0,.ref (b+1),.none,.none,.none,.ref (b+2),.int e 0,.int ln 0,hcut (t+4)]) #[]
noncomputable abbrev hfo (x:String) (s:Stmt) (m:String) (t c:Nat):Obj:=hfn (.func (hfd x x s .none .none .none (hvs m t) .none (.ref c) .none 0)) #[]
noncomputable def hpK:Params->PySem.W.Frag:=fun P=>
 (nat_lit 2,Obj.mk .none .none (.dict #[]) #[]) ::
 (nat_lit 3,Obj.mk (.type "dict") .none (.dict #[hde P "__name__" 165 (hvs "law_fewrooms_k51_least_in_unlike_rooms" 284),hde P "__doc__" 166 .none,hde P "__package__" 167 .none,hde P "__loader__" 168 (.builtin "__main__.__loader__#opaque"),hde P "__spec__" 169 .none,hde P "__annotations__" 170 (.ref 6),hde P "__builtins__" 171 (.ref 4),hde P "__file__" 173 (hcut 172),hde P "__cached__" 174 .none,hde P "has_all" 194 (.ref 19),hde P "steps_of" 202 (.ref 24),hde P "plan_to" 213 (.ref 31),hde P "fault_of_do" 228 (.ref 38),hde P "fault_there" 239 (.ref 45),hde P "layout_behind" 249 (.ref 52),hde P "moves_there" 255 (.ref 57),hde P "layouts_reached" 271 (.ref 64),hde P "rank_of" 277 (.ref 69),hde P "least_there" 283 (.ref 74),hde P "_law_begin" 293 (.ref 81),hde P "_law_take" 306 (.ref 88),hde P "_law_same" 312 (.ref 93),hde P "_law_some_needs" 323 (.ref 100),hde P "_law_tree_net" 335 (.ref 107),hde P "_law_net" 341 (.ref 112),hde P "_law_asked" 351 (.ref 119),hde P "_law_there" 357 (.ref 124),hde P "_law_fault" 363 (.ref 129),hde P "_law_put" 373 (.ref 136),hde P "_law_all_moves" 379 (.ref 141),hde P "_law_come_there" 399 (.ref 148),hde P "_law_has_all" 405 (.ref 153),hde P "_law_led" 411 (.ref 158),hde P "_law_right" 417 (.ref 163),hde P "law" 434 (.ref 170)] 35) #[]) ::
 (nat_lit 15,ht0) ::
 (nat_lit 18,hcp "has_all" 189 2 2 15 181 192) ::
 (nat_lit 19,hfo "has_all" qF6 "fewrooms.moves" 187 18) ::
 (nat_lit 20,ht0) ::
 (nat_lit 23,hcp "steps_of" 197 5 1 20 181 200) ::
 (nat_lit 24,hfo "steps_of" qEB "fewrooms.plans" 195 23) ::
 (nat_lit 25,ht0) ::
 (nat_lit 27,hts ["reached","stand","plan"] 208) ::
 (nat_lit 28,ht0) ::
 (nat_lit 30,hco "plan_to" 205 8 2 3 25 181 211 212) ::
 (nat_lit 31,hfo "plan_to" qF5 "fewrooms.stairs" 203 30) ::
 (nat_lit 32,ht0) ::
 (nat_lit 34,hts ["net","wides","sizes","layout","move","work","room"] 219) ::
 (nat_lit 35,ht0) ::
 (nat_lit 37,hco "fault_of_do" 216 16 5 3 32 181 226 227) ::
 (nat_lit 38,hfo "fault_of_do" qCC "fewrooms.unlike" 214 37) ::
 (nat_lit 39,ht0) ::
 (nat_lit 41,hts ["net","wides","sizes","layout","move"] 232) ::
 (nat_lit 42,ht0) ::
 (nat_lit 44,hco "fault_there" 229 28 5 3 39 181 237 238) ::
 (nat_lit 45,hfo "fault_there" qCB "fewrooms.unlike" 214 44) ::
 (nat_lit 46,ht0) ::
 (nat_lit 48,hts ["layout","move","room","result"] 243) ::
 (nat_lit 49,ht0) ::
 (nat_lit 51,hco "layout_behind" 240 34 2 3 46 181 247 248) ::
 (nat_lit 52,hfo "layout_behind" qBR "fewrooms.unlike" 214 51) ::
 (nat_lit 53,ht0) ::
 (nat_lit 56,hcp "moves_there" 250 38 4 53 181 253) ::
 (nat_lit 57,hfo "moves_there" qCA "fewrooms.unlike" 214 56) ::
 (nat_lit 58,ht0) ::
 (nat_lit 60,hts ["net","wides","sizes","start","reached","due","later","layout","move","further"] 259) ::
 (nat_lit 61,ht0) ::
 (nat_lit 63,hco "layouts_reached" 256 43 3 3 58 181 269 270) ::
 (nat_lit 64,hfo "layouts_reached" qBH "fewrooms.unlike" 214 63) ::
 (nat_lit 65,ht0) ::
 (nat_lit 68,hcp "rank_of" 272 57 1 65 181 275) ::
 (nat_lit 69,hfo "rank_of" qF4 "fewrooms.unlike" 214 68) ::
 (nat_lit 70,ht0) ::
 (nat_lit 73,hcp "least_there" 278 59 4 70 181 281) ::
 (nat_lit 74,hfo "least_there" qBC "fewrooms.unlike" 214 73) ::
 (nat_lit 75,ht0) ::
 (nat_lit 77,hts ["_law_script","_law_cells"] 289) ::
 (nat_lit 78,ht0) ::
 (nat_lit 80,hco "_law_begin" 286 67 1 3 75 181 291 292) ::
 (nat_lit 81,hfo "_law_begin" qGR "law_fewrooms_k51_least_in_unlike_rooms" 284 80) ::
 (nat_lit 82,ht0) ::
 (nat_lit 84,hts ["_law_state","_law_many","_law_turn","_law_place","_law_cell","_law_digit","_law_mixed"] 297) ::
 (nat_lit 85,ht0) ::
 (nat_lit 87,hco "_law_take" 294 72 2 3 82 181 304 305) ::
 (nat_lit 88,hfo "_law_take" qJE "law_fewrooms_k51_least_in_unlike_rooms" 284 87) ::
 (nat_lit 89,ht0) ::
 (nat_lit 92,hcp "_law_same" 307 83 2 89 181 310) ::
 (nat_lit 93,hfo "_law_same" qH8 "law_fewrooms_k51_least_in_unlike_rooms" 284 92) ::
 (nat_lit 94,ht0) ::
 (nat_lit 96,hts ["_law_state","_law_k","_law_found","_law_turn","_law_far"] 316) ::
 (nat_lit 97,ht0) ::
 (nat_lit 99,hco "_law_some_needs" 313 95 2 3 94 181 321 322) ::
 (nat_lit 100,hfo "_law_some_needs" qCD "law_fewrooms_k51_least_in_unlike_rooms" 284 99) ::
 (nat_lit 101,ht0) ::
 (nat_lit 103,hts ["_law_state","_law_many","_law_open_ones","_law_found","_law_k","_law_so_many"] 327) ::
 (nat_lit 104,ht0) ::
 (nat_lit 106,hco "_law_tree_net" 324 102 2 3 101 181 333 334) ::
 (nat_lit 107,hfo "_law_tree_net" qDF "law_fewrooms_k51_least_in_unlike_rooms" 284 106) ::
 (nat_lit 108,ht0) ::
 (nat_lit 111,hcp "_law_net" 336 110 2 108 181 339) ::
 (nat_lit 112,hfo "_law_net" qMX "law_fewrooms_k51_least_in_unlike_rooms" 284 111) ::
 (nat_lit 113,ht0) ::
 (nat_lit 115,hts ["_law_state","_law_net_here","_law_found","_law_turn"] 345) ::
 (nat_lit 116,ht0) ::
 (nat_lit 118,hco "_law_asked" 342 125 2 3 113 181 349 350) ::
 (nat_lit 119,hfo "_law_asked" qGS "law_fewrooms_k51_least_in_unlike_rooms" 284 118) ::
 (nat_lit 120,ht0) ::
 (nat_lit 123,hcp "_law_there" 352 130 1 120 181 355) ::
 (nat_lit 124,hfo "_law_there" qGO "law_fewrooms_k51_least_in_unlike_rooms" 284 123) ::
 (nat_lit 125,ht0) ::
 (nat_lit 128,hcp "_law_fault" 358 142 5 125 181 361) ::
 (nat_lit 129,hfo "_law_fault" qGQ "law_fewrooms_k51_least_in_unlike_rooms" 284 128) ::
 (nat_lit 130,ht0) ::
 (nat_lit 132,hts ["_law_layout","_law_move","_law_room","_law_work"] 367) ::
 (nat_lit 133,ht0) ::
 (nat_lit 135,hco "_law_put" 364 153 2 3 130 181 371 372) ::
 (nat_lit 136,hfo "_law_put" qMW "law_fewrooms_k51_least_in_unlike_rooms" 284 135) ::
 (nat_lit 137,ht0) ::
 (nat_lit 140,hcp "_law_all_moves" 374 157 2 137 181 377) ::
 (nat_lit 141,hfo "_law_all_moves" qCY "law_fewrooms_k51_least_in_unlike_rooms" 284 140) ::
 (nat_lit 142,ht0) ::
 (nat_lit 144,hts ["_law_net_here","_law_wides","_law_sizes","_law_found","_law_moves","_law_here","_law_many","_law_at","_law_room","_law_less","_law_further","_law_layout","_law_move","_law_more"] 383) ::
 (nat_lit 145,ht0) ::
 (nat_lit 147,hco "_law_come_there" 380 162 3 3 142 181 397 398) ::
 (nat_lit 148,hfo "_law_come_there" qCE "law_fewrooms_k51_least_in_unlike_rooms" 284 147) ::
 (nat_lit 149,ht0) ::
 (nat_lit 152,hcp "_law_has_all" 400 187 2 149 181 403) ::
 (nat_lit 153,hfo "_law_has_all" qEC "law_fewrooms_k51_least_in_unlike_rooms" 284 152) ::
 (nat_lit 154,ht0) ::
 (nat_lit 157,hcp "_law_led" 406 189 4 154 181 409) ::
 (nat_lit 158,hfo "_law_led" qMY "law_fewrooms_k51_least_in_unlike_rooms" 284 157) ::
 (nat_lit 159,ht0) ::
 (nat_lit 162,hcp "_law_right" 412 199 6 159 181 415) ::
 (nat_lit 163,hfo "_law_right" qGP "law_fewrooms_k51_least_in_unlike_rooms" 284 162) ::
 (nat_lit 164,ht0) ::
 (nat_lit 166,hts ["_law_script","_law_state","_law_net_here","_law_wides","_law_sizes","_law_come","_law_turn","_law_asked_here","_law_held","_law_again","_law_found"] 421) ::
 (nat_lit 167,ht0) ::
 (nat_lit 169,hco "law" 418 211 1 3 164 181 432 433) ::
 (nat_lit 170,hfo "law" qI6 "law_fewrooms_k51_least_in_unlike_rooms" 284 169) ::
 []
noncomputable def hpA:List Addr:=[2,3,15,18,19,20,23,24,25,27,28,30,31,32,34,35,37,38,39,41,42,44,45,46,48,49,51,52,53,56,57,58,60,61,63,64,65,68,69,70,73,74,75,77,78,80,81,82,84,85,87,88,89,92,93,94,96,97,99,100,101,103,104,106,107,108,111,112,113,115,116,118,119,120,123,124,125,128,129,130,132,133,135,136,137,140,141,142,144,145,147,148,149,152,153,154,157,158,159,162,163,164,166,167,169,170]
noncomputable def hpQ:Program:=PySem.W.view PySem.Challenge.pw_fewrooms_k51_least_in_unlike_rooms [1,3,5,7,8,9,10,11,12,13,15,16,17,18,19,20,21,22,23,24,25,26,27,28,29,30]
def hpN:Nat:=1784
theorem hpE (P:Params):hpA=(hpK P).map (·.1):=by kernel_rfl
noncomputable def hpX (s:Shared):Bool:=PySem.W.xlAt hpQ [] s && PySem.W.recOk (PySem.W.RowW.records (PySem.W.OpenRow.toRowW (PySem.W.OpenLaw.row PySem.Challenge.rw_fewrooms_k51_least_in_unlike_rooms))) s
theorem hpLeft:PySem.W.LeftO PySem.Challenge.pw_fewrooms_k51_least_in_unlike_rooms hpQ [] hpX (PySem.W.kHook hpK hpA hpE).obs (PySem.W.kHook hpK hpA hpE).val hpN:=fun w=>by kernel_rfl
theorem hpSaid:PySem.W.OpenLaw.wellSaid PySem.Challenge.rw_fewrooms_k51_least_in_unlike_rooms=true:=by kernel_rfl
end Fw
namespace L2
open PySem PySem.Spec PyProof.Rows
abbrev Key:=Sum Int Str
noncomputable def qL3:Key->Value->Bool
 | .inl k,v=>Value.isInt k v
 | .inr x,v=>Value.isStrOf x v
noncomputable def keyH (w:World):Key->Int
 | .inl k=>hashInt k
 | .inr x=>hashStr w x
theorem qAL:∀ {k:Key} {v:Value},qL3 k v=true->(∃ i t,k=Sum.inl i/\v=Value.int i t)\/(∃ x t,k=Sum.inr x/\v=Value.str x t)
 | .inl i,v,h=>by
  obtain ⟨t,e⟩:=Value.isInt_shape (k:=i) (v:=v) h;exact .inl ⟨i,t,rfl,e⟩
 | .inr x,v,h=>by
  obtain ⟨t,e⟩:=Value.isStrOf_shape (x:=x) (v:=v) h;exact .inr ⟨x,t,rfl,e⟩
theorem qL2 (i:Int) (t:Tok):qL3 (.inl i) (.int i t)=true:=by simp [qL3,Value.isInt]
theorem qL1 (x:Str) (t:Tok):qL3 (.inr x) (.str x t)=true:=by simp [qL3,Value.isStrOf]
theorem qWJ (a b:Int):decide ((Sum.inl a:Key)=Sum.inl b)=(a == b):=by
 by_cases e:a=b
 ·subst e;simp
 ·have h:¬ (Sum.inl a:Key)=Sum.inl b:=fun q=>e (Sum.inl.inj q);rw [decide_eq_false h];exact (beq_eq_false_iff_ne.mpr e).symm
theorem qWG (a b:Str):decide ((Sum.inr a:Key)=Sum.inr b)=decide (a=b):=by
 by_cases e:a=b
 ·subst e;simp
 ·have h:¬ (Sum.inr a:Key)=Sum.inr b:=fun q=>e (Sum.inr.inj q);rw [decide_eq_false h,decide_eq_false e]
theorem qWI (a:Int) (b:Str):decide ((Sum.inl a:Key)=Sum.inr b)=false:=decide_eq_false (fun q=>nomatch q)
theorem qWH (a:Str) (b:Int):decide ((Sum.inr a:Key)=Sum.inl b)=false:=decide_eq_false (fun q=>nomatch q)
noncomputable def qC6 (prog:Program) (w:World):PySem.KeyKind prog w Key where
 is:=qL3
 hash:=keyH w
 inj:=fun v a b ha hb=>by
  rcases qAL ha with ⟨i,t,rfl,rfl⟩ | ⟨x,t,rfl,rfl⟩
  ·rcases qAL hb with ⟨j,u,rfl,e⟩ | ⟨y,u,rfl,e⟩
   ·injection e with e1 _;rw [e1]
   ·exact nomatch e
  ·rcases qAL hb with ⟨j,u,rfl,e⟩ | ⟨y,u,rfl,e⟩
   ·exact nomatch e
   ·injection e with e1 _;rw [e1]
 byValue:=fun k v h=>by
  rcases qAL h with ⟨i,t,rfl,rfl⟩ | ⟨x,t,rfl,rfl⟩ <;> rfl
 pyHash:=fun hv h=>by
  rcases qAL hv with ⟨i,t,rfl,rfl⟩ | ⟨x,t,rfl,rfl⟩
  ·exact wpAny_pyHash_int h
  ·exact wpAny_pyHash_str h
 eqBool:=fun hu hv h=>by
  rcases qAL hu with ⟨i,t,rfl,rfl⟩ | ⟨x,t,rfl,rfl⟩
  ·rcases qAL hv with ⟨j,u,rfl,rfl⟩ | ⟨y,u,rfl,rfl⟩
   ·rw [qWJ] at h;exact wpAny_eqBool_int h
   ·rw [qWI] at h;exact SeqAt.EqAt.int_str i t y u _ _ _ _ h
  ·rcases qAL hv with ⟨j,u,rfl,rfl⟩ | ⟨y,u,rfl,rfl⟩
   ·rw [qWH] at h;exact SeqAt.EqAt.str_int x t j u _ _ _ _ h
   ·rw [qWG] at h;exact wpAny_eqBool_str h
 «strs»:=fun k x t v h=>by
  rcases qAL h with ⟨i,u,rfl,e⟩ | ⟨y,u,rfl,e⟩
  ·exact nomatch e
  ·injection e with e1 _
   subst e1;cases v <;> rfl
theorem qMB (prog:Program) (w:World) (i:Int) (t:Tok):(qC6 prog w).is (.inl i) (.int i t)=true:=qL2 i t
theorem qMA (prog:Program) (w:World) (x:Str) (t:Tok):(qC6 prog w).is (.inr x) (.str x t)=true:=qL1 x t
abbrev KI:=Option Key
def kiIs:KI->Value->Bool
 | some k,v=>qL3 k v
 | none,.none=>true
 | none,_=>false
def kiH (w:World):KI->Int
 | some k=>keyH w k
 | none=>0xFCA86420
theorem qCM:∀ {k:KI} {v:Value},kiIs k v=true->(∃ i,k=some i/\qL3 i v=true)\/(k=none/\v=.none)
 | some i,v,h=>.inl ⟨i,rfl,h⟩
 | none,v,h=>by
  cases v with
  | none=>exact .inr ⟨rfl,rfl⟩
  | _=>exact nomatch h
theorem qWF {a b:KI} {v:Value} (ha:kiIs a v=true) (hb:kiIs b v=true):a=b:=by
 rcases qCM ha with ⟨i,rfl,x⟩ | ⟨rfl,rfl⟩ <;> rcases qCM hb with ⟨j,rfl,y⟩ | ⟨rfl,e⟩
 ·rcases qAL x with ⟨k,t,rfl,rfl⟩ | ⟨k,t,rfl,rfl⟩ <;> rcases qAL y with ⟨m,u,rfl,e⟩ | ⟨m,u,rfl,e⟩ <;> first | (injection e with e _;rw [e]) | exact nomatch e
 ·subst e;rcases qAL x with ⟨_,_,_,z⟩ | ⟨_,_,_,z⟩ <;> exact nomatch z
 ·rcases qAL y with ⟨_,_,_,z⟩ | ⟨_,_,_,z⟩ <;> exact nomatch z
 ·rfl
section
variable {prog:Program} {w:World} {A:Around} {E:Value->Shared->Prop} {s:Shared}
theorem qUH {k:KI} {v:Value} {Q:Int->Shared->Prop} (hu:A.units<cLine) (h:kiIs k v=true) (q:Q (kiH w k) { s with toks:=s.toks+1 }):wpAny (model prog w) A (pyHash v) Q E s:=by
 rcases qCM h with ⟨i,rfl,x⟩ | ⟨rfl,rfl⟩
 ·exact (qC6 prog w).pyHash x q
 ·exact W.pyHash_slot (T:="NoneType") rfl F.slot_NoneType_hash F.entry_NoneType_hash (F.args_NoneType_hash_1 _) (beq_builtin_none _) (.inr hu) (wpAny_bind (wpAny_pure (wpAny_bind (wpAny_mkInt (wpAny_pure ⟨_,_,rfl,q⟩)))))
theorem qXV {a b:KI} {u v:Value} {Q:Bool->Shared->Prop} (ha:kiIs a u=true) (hb:kiIs b v=true) (q:Q (decide (a=b)) s):wpAny (model prog w) A (PySem.eqBool u v) Q E s:=by
 have ne:∀ {c:Bool},c=decide (a=b)->SeqAt.EqAt A s u v c->wpAny (model prog w) A (PySem.eqBool u v) Q E s:=fun e z=>z _ _ _ _ (e ▸ q);rcases qCM ha with ⟨i,rfl,x⟩ | ⟨rfl,rfl⟩ <;> rcases qCM hb with ⟨j,rfl,y⟩ | ⟨rfl,rfl⟩
 ·refine (qC6 prog w).eqBool x y ?_;have e:decide (i=j)=decide ((some i:KI)=some j):=decide_eq_decide.mpr ⟨congrArg some,fun z=>Option.some.inj z⟩;rw [e];exact q
 ·rcases qAL x with ⟨k,t,rfl,rfl⟩ | ⟨k,t,rfl,rfl⟩
  ·exact ne rfl (SeqAt.EqAt.int_none k t)
  ·exact ne rfl (SeqAt.EqAt.str_none k t)
 ·rcases qAL y with ⟨k,t,rfl,rfl⟩ | ⟨k,t,rfl,rfl⟩
  ·exact ne rfl (SeqAt.EqAt.none_int k t)
  ·exact ne rfl (SeqAt.EqAt.none_str k t)
 ·exact ne rfl (SeqAt.EqAt.same _)
def IsNK (h:Heap) (ks:List KI) (a:Addr):Prop:=∃ o Ae n,h.get? a=some o/\o.cls=.type "tuple"/\o.data=.seq Ae n/\Paired (fun k v=>kiIs k v=true) ks Ae.toList
theorem qQ2:∀ {x y:List KI} {vs:List Value},Paired (fun k v=>kiIs k v=true) x vs->Paired (fun k v=>kiIs k v=true) y vs->x=y
 | [],_,_,.nil,h=>by cases h;rfl
 | _::_,_,_,.cons a r,h=>by
  cases h with
  | cons b t=>rw [qWF a b,qQ2 r t]
theorem qQ1:∀ {x:List KI} {vs:List Value},Paired (fun k v=>kiIs k v=true) x vs->∀ v ∈ vs,carriedByValue v=true
 | _,_,.nil,v,hv=>by simp at hv
 | _,_,.cons a r,v,hv=>by
  rcases List.mem_cons.mp hv with e | hv
  ·subst e;rcases qCM a with ⟨i,_,x⟩ | ⟨_,e⟩
   ·rcases qAL x with ⟨_,_,_,rfl⟩ | ⟨_,_,_,rfl⟩ <;> rfl
   ·rw [e];rfl
  ·exact qQ1 r v hv
theorem IsNK.typeIs {ks:List KI} {a:Addr} (x:IsNK s.heap ks a):s.TypeIs (.ref a) "tuple":=let ⟨o,_,_,ho,hc,_⟩:=x;⟨o,ho,hc⟩
theorem IsNK.inj {h:Heap} {a:Addr} {x y:List KI} (hx:IsNK h x a) (hy:IsNK h y a):x=y:=by
 obtain ⟨o,Ae,n,ho,_,hd,hi⟩:=hx;obtain ⟨o',items',n',ho',_,hd',hi'⟩:=hy;obtain rfl:o=o':=Option.some.inj (ho.symm.trans ho');rw [hd] at hd'
 injection hd' with h1 _
 subst h1;exact qQ2 hi hi'
def qPP (w:World) (ks:List KI):Int:=reduceHash (Builtin.Tuple.tupleHashOf (ks.map (kiH w)))
theorem qU8 {ks:List KI} {a:Addr} {Q:Int->Shared->Prop} (hu:A.units+1<cLine) (hk:IsNK s.heap ks a) (h:Q (qPP w ks) { s with toks:=s.toks+(ks.length+1) }):wpAny (model prog w) A (pyHash (.ref a)) Q E s:=by
 have hT:=hk.typeIs;obtain ⟨o,Ae,n,ho,_,hd,hi⟩:=hk;refine W.pyHash_slot (T:="tuple") hT F.slot_tuple_hash F.entry_tuple_hash (F.args_tuple_hash_1 _) (beq_builtin_none _) (.inr (Nat.lt_of_succ_lt hu)) ?_;show wpAny _ _ (Builtin.Tuple.tupleItemsOf (.ref a) >>= _) _ _ s;refine wpAny_bind (wpAny_tupleItemsOf ho hd ?_);refine wpAny_bind ?_;rw [<- Array.forIn_toList];refine wpAny_forIn_list _
  (fun rest (b:Array Int) s'=>∃ done left,ks=done++left/\Paired (fun k v=>kiIs k v=true) left rest/\b.toList=done.map (kiH w)/\s'={ s with toks:=s.toks+done.length })
  _ ?_ ?_ _ _ ⟨[],ks,rfl,hi,rfl,rfl⟩
 ·rintro x rest b s' ⟨done,left,rfl,hl,hb,rfl⟩;cases hl with
  | @cons k _ ks' _ h1 hl'=>
   refine wpAny_bind (qUH hu h1 ?_)
   first
    | exact wpAny_pure ⟨done++[k],ks',by simp,hl',by simp [hb],by simp [Nat.add_assoc]⟩
    | exact wpAny_bind (wpAny_pure (wpAny_pure ⟨done++[k],ks',by simp,hl',by simp [hb],by simp [Nat.add_assoc]⟩))
 ·rintro b s' ⟨done,left,rfl,hl,hb,rfl⟩;cases hl;rw [List.append_nil] at h;show wpAny _ _ (retInt (Builtin.Tuple.tupleHashOf b.toList)) _ _ _;rw [hb];exact wpAny_bind (wpAny_mkInt (wpAny_pure ⟨_,_,rfl,by simpa [qPP,Nat.add_assoc] using h⟩))
theorem qU7 {x y:List KI} {a b:Addr} {P:Fin->Shared->Prop} (hx:IsNK s.heap x a) (hy:IsNK s.heap y b) (h:P (.done (.ret (.bool (decide (x=y))))) s) :
  wpAny (model prog w) A (Builtin.«tuple.__eq__» ⟨[.ref a,.ref b],[]⟩) P E s:=by
 have hTb:=hy.typeIs;obtain ⟨oa,xs,na,hoa,_,hda,hia⟩:=hx;obtain ⟨ob,ys,nb,hob,_,hdb,hib⟩:=hy;show wpAny _ _ (isInstance (.ref b) (.type "tuple") >>= _) _ _ s;refine wpAny_bind (wpAny_isInstance hTb isSubtype_tuple_tuple ?_);simp only [Bool.not_true,Bool.false_eq_true,if_false];refine wpAny_bind (wpAny_tupleItemsOf hoa hda ?_);refine wpAny_bind (wpAny_tupleItemsOf hob hdb ?_);refine wpAny_bind ?_;refine wpAny_forIn_list _
  (fun rest r s'=>r.1=none/\s'=s/\∃ x' y' xs' ys',rest=List.zip xs' ys'/\Paired (fun k v=>kiIs k v=true) x' xs'/\Paired (fun k v=>kiIs k v=true) y' ys'/\decide (x'=y')=decide (x=y)/\(xs'.length == ys'.length)=(xs.size == ys.size))
  _ ?_ ?_ _ _ ⟨rfl,rfl,x,y,xs.toList,ys.toList,rfl,hia,hib,rfl,by simp⟩
 ·rintro ⟨u,v⟩ rest r s' ⟨hr,rfl,x',y',xs',ys',hz,hx',hy',hdec,hlen⟩;cases hx' with
  | nil=>simp at hz
  | @cons k1 u' x'' xs'' h1 hx''=>
   cases hy' with
   | nil=>simp at hz
   | @cons k2 v' y'' ys'' h2 hy''=>
    simp only [List.zip_cons_cons,List.cons.injEq,Prod.mk.injEq] at hz;obtain ⟨⟨rfl,rfl⟩,rfl⟩:=hz;refine wpAny_bind (qXV (a:=k1) (b:=k2) h1 h2 ?_);by_cases hk:k1=k2
    ·subst hk;rw [decide_eq_true rfl];simp only [Bool.not_true,Bool.false_eq_true,if_false];refine wpAny_pure ⟨rfl,rfl,x'',y'',xs'',ys'',rfl,hx'',hy'',?_,by simpa using hlen⟩
     rw [<- hdec];by_cases hxy:x''=y''
     ·simp [hxy]
     ·simp [hxy]
    ·rw [decide_eq_false hk];simp only [Bool.not_false,if_true];have hf:decide (x=y)=false:=by rw [<- hdec];simp [hk]
     rw [hf] at h;exact wpAny_bind (wpAny_pure (wpAny_pure (wpAny_pure h)))
 ·rintro ⟨r1,r2⟩ s' ⟨hr,rfl,x',y',xs',ys',hz,hx',hy',hdec,hlen⟩;simp only at hr;subst hr;refine wpAny_pure ?_;have hfin:(xs.size == ys.size)=decide (x=y):=by
   rw [<- hdec,<- hlen];cases hx' with
   | nil=>
    cases hy' with
    | nil=>simp
    | cons _ _=>simp
   | cons _ _=>
    cases hy' with
    | nil=>simp
    | cons _ _=>simp at hz
  show P (.done (.ret (.bool (xs.size == ys.size)))) s';rw [hfin];exact h
theorem qXQ {x y:List KI} {a b:Addr} {Q:Bool->Shared->Prop} (hu:A.units<cLine) (hx:IsNK s.heap x a) (hy:IsNK s.heap y b) (h:Q (decide (x=y)) s):wpAny (model prog w) A (eqBool (.ref a) (.ref b)) Q E s:=by
 unfold eqBool
 try with_reducible refine wpAny_holding ?_
 show wpAny _ _ (if (Value.ref a == Value.ref b)=true then _ else _) Q E s
 by_cases hab:(Value.ref a == Value.ref b)=true
 ·rw [if_pos hab];have e:a=b:=by have:=eq_of_beq hab;injection this
  subst e;obtain rfl:=hx.inj hy;exact wpAny_bind (wpAny_rule (wpAny_pure (by simpa using h)))
 ·rw [if_neg hab];exact wpAny_bind (wpAny_richCompare_same_room (op:=.Eq) hx.typeIs hy.typeIs F.slot_tuple_eq
   (wpAny_call_entry F.slot_tuple_eq hx.typeIs F.entry_tuple_eq (qU7 hx hy ⟨_,rfl,(fun e=>nomatch e),wpAny_truthy_bool h⟩) (F.args_tuple_eq_2 _ _)) hu)
theorem qRY {ks:List KI} {a:Addr} {Q:Bool->Shared->Prop} (hk:IsNK s.heap ks a) (h:Q true s):wpAny (model prog w) A (eqIsQuiet 8 (.ref a)) Q E s:=by
 have hT:=hk.typeIs;obtain ⟨o,Ae,n,ho,_,hd,hi⟩:=hk;unfold eqIsQuiet;refine wpAny_bind (wpAny_specialOf hT F.slot_tuple_eq.lookup ?_);show wpAny _ _ (isInstance (.ref a) (.type "tuple") >>= _) _ _ s;refine wpAny_bind (wpAny_isInstance hT isSubtype_tuple_tuple ?_);simp only [Bool.not_true,Bool.false_eq_true,if_false];refine wpAny_bind (wpAny_seqItems ho hd ?_);refine wpAny_bind ?_;show wpAny _ _ (forIn Ae _ _) _ _ s;rw [<- Array.forIn_toList];refine wpAny_forIn_list _ (fun rest r s'=>r.1=none/\s'=s/\∀ v ∈ rest,carriedByValue v=true) _ ?_ ?_ _ _ ⟨rfl,rfl,qQ1 hi⟩
 ·rintro v rest r s' ⟨hr,rfl,hall⟩;rw [eqIsQuiet_byValue _ (hall v List.mem_cons_self)];refine wpAny_bind (wpAny_pure ?_);simp only [Bool.not_true,Bool.false_eq_true,if_false];exact wpAny_pure ⟨rfl,rfl,fun u hu'=>hall u (List.mem_cons_of_mem _ hu')⟩
 ·rintro ⟨r1,r2⟩ s' ⟨hr,rfl,_⟩;simp only at hr;subst hr;exact wpAny_pure h
end
def qKU (prog:Program) (w:World):HeapKind prog w (List KI) where
 is:=IsNK
 hash:=qPP w
 draws:=fun ks=>ks.length+1
 room:=fun A=>A.units+1<cLine
 inj:=fun hx hy=>hx.inj hy
 keeps:=fun x ho hd hs=>by
  obtain ⟨o',Ae,n,ho',hc,hd',hi⟩:=x;refine ⟨o',Ae,n,(hs.2 _ ?_).trans ho',hc,hd',hi⟩;rintro rfl;obtain rfl:=Option.some.inj (ho'.symm.trans ho);rw [hd] at hd';exact nomatch hd'
 pyHash:=fun hu hk h=>qU8 hu hk h
 eqBool:=fun hu hx hy h=>qXQ (Nat.lt_of_succ_lt hu) hx hy h
 quiet:=fun hk h=>qRY hk h
end L2
namespace L2
open PySem PySem.Spec PyProof.Rows
inductive V where
 | non | bl (b:Bool) | int (i:Int) | str (x:Str) | byt (b:Array UInt8) | flt (b:UInt64) | ref (a:Addr) | ty (n:String)
 deriving DecidableEq
def RelV:V->Value->Prop
 | .non,u=>u=Value.none
 | .bl b,u=>u=Value.bool b
 | .int i,u=>∃ t,u=Value.int i t
 | .str x,u=>∃ t,u=Value.str x t
 | .byt b,u=>∃ t,u=Value.bytes b t
 | .flt b,u=>∃ t,u=Value.float b t
 | .ref a,u=>u=Value.ref a
 | .ty n,u=>u=Value.type n
abbrev Vals:List V->List Value->Prop:=Paired RelV
theorem Vals.length {xs:List V} {us:List Value} (r:Vals xs us):xs.length=us.length:=Paired.length r
theorem Vals.get:∀ {xs:List V} {us:List Value} {i:Nat} {x:V},Vals xs us->xs[i]?=some x->∃ u,us[i]?=some u/\RelV x u
 | _,_,_,_,.nil,e=>by simp at e
 | _,_,0,_,.cons r _,e=>by simp at e;subst e;exact ⟨_,rfl,r⟩
 | _,_,i+1,x,.cons _ t,e=>by
  obtain ⟨u,h1,h2⟩:=Vals.get (i:=i) (x:=x) t (by simpa using e)
  exact ⟨u,by simpa using h1,h2⟩
theorem Vals.set {x:V} {u:Value} (r:RelV x u):∀ {xs:List V} {us:List Value} (i:Nat),Vals xs us->Vals (xs.set i x) (us.set i u)
 | _,_,_,.nil=>.nil
 | _,_,0,.cons _ t=>.cons r t
 | _,_,i+1,.cons q t=>.cons q (Vals.set r i t)
theorem Vals.append:∀ {xs ys:List V} {us ws:List Value},Vals xs us->Vals ys ws->Vals (xs++ys) (us++ws)
 | _,_,_,_,.nil,s=>s
 | _,_,_,_,.cons r t,s=>.cons r (Vals.append t s)
theorem Vals.take:∀ {xs:List V} {us:List Value} (n:Nat),Vals xs us->Vals (xs.take n) (us.take n)
 | _,_,0,_=>.nil
 | _,_,_+1,.nil=>.nil
 | _,_,n+1,.cons r t=>.cons r (Vals.take n t)
theorem Vals.drop:∀ {xs:List V} {us:List Value} (n:Nat),Vals xs us->Vals (xs.drop n) (us.drop n)
 | _,_,0,r=>r
 | _,_,_+1,.nil=>.nil
 | _,_,n+1,.cons _ t=>Vals.drop n t
def RelO:Option V->Option Value->Prop
 | some v,some u=>RelV v u
 | none,none=>True
 | _,_=>False
def KV {κ:Type}:List (κ × V)->List (κ × Value)->Prop:=Paired fun (p:κ × V) (q:κ × Value)=>p.1=q.1/\RelV p.2 q.2
inductive CTb where
 | tab (q:Str)
 | cod (q:Str)
noncomputable def kV:Key->V
 | .inl i=>.int i
 | .inr x=>.str x
def kI:KI->V
 | some k=>kV k
 | none=>.non
theorem qM8 {prog:Program} {w:World} {A:Around} (hu:A.units+2<cLine):(qKU prog w).room A.in1:=by
 show A.in1.units+1<cLine;rw [Around.in1_units];exact hu
inductive HO where
 | lst (xs:List V)
 | tup (xs:List V)
 | dK (Ag:List (Key × V)) | dT (Ag:List (List KI × V))
 | set (S:Int->Bool) (n:Nat)
 | ins (C dx:Addr) (fs:List (Str × V))
 | own (x:Addr)
 | xd (fs:List (Str × V))
 | met (f x:Addr)
 | rng (lo hi:Int)
 | frz (o:Obj) (u:HO)
 | tbl (t:CTb)
 | ext (φ:Heap->Prop)
abbrev Hp:=Addr->Option HO
noncomputable def Ah (H:Hp) (a:Addr) (o:HO):Hp:=fun b=>if b=a then some o else H b
theorem qA1 {H:Hp} {a:Addr} {o:HO}:Ah H a o a=some o:=by unfold Ah;rw [if_pos rfl]
theorem qA8 {H:Hp} {a b:Addr} {o:HO} (h:b ≠ a):Ah H a o b=H b:=by unfold Ah;rw [if_neg h]
theorem qH6 {H:Hp} {a:Addr} {o u:HO}:Ah (Ah H a o) a u=Ah H a u:=by
 funext b;unfold Ah;split <;> rfl
theorem qCR {H:Hp} {a b:Addr} {o u:HO} (h:H a=some o) (h':H b=some u) (d:o ≠ u):a ≠ b:=by
 intro e;subst e;rw [h] at h';exact d (Option.some.inj h')
theorem qA5 {H:Hp} {a b:Addr} {o:HO} (h:H a=some o) (h':H b=none):a ≠ b:=by
 intro e;subst e;rw [h] at h';cases h'
section
variable (P:Program) (w:World)
def ObjOk (H:Hp) (h:Heap) (a:Addr):HO->Prop
 | .lst xs=>xs.length<=sizeLine/\∃ (its:List Value) (n:Nat),Vals xs its/\h.get? a=some { cls:=.type "list",data:=.seq its.toArray n }
 | .tup xs=>xs.length<=sizeLine/\∃ its:List Value,Vals xs its/\IsTup h a its.toArray
 | .dK Ag=>Ag.length<=sizeLine/\(a == sysModules)=false/\∃ vs,KV Ag vs/\h.DictOf (qC6 P w) a vs
 | .dT Ag=>Ag.length<=sizeLine/\(a == sysModules)=false/\∃ xs:List (List KI × Addr × Value),
   Paired (fun (p:List KI × V) (q:List KI × Addr × Value)=>p.1=q.1/\H q.2.1=some (.tup (p.1.map kI))/\RelV p.2 q.2.2) Ag xs/\
   ∃ o es ep,h.get? a=some o/\o.ExactDict/\o.data=.dict es ep/\es.toList=xs.map (entryOfKey (qKU P w))/\(xs.map (·.1)).Nodup
 | .set S n=>h.SetOf (intKind P w) a S n
 | .ins C dx fs=>H dx=some (.own a)/\fs.length<=1000/\dx ≠ a/\h.get? a=some (PySem.W.instObj C dx)/\
   ∃ mA,h.Ns1 dx mA/\(∀ f,RelO (fs.lookup f) (mA f))/\PySem.Within mA (fs.map (·.1))
 | .own _=>∃ o,h.get? a=some o
 | .xd fs=>∃ mA,h.Ns1 a mA/\∀ f,RelO (fs.lookup f) (mA f)
 | .rng lo hi=>∃ t u v,h.get? a=some { cls:=.type "range",data:=.fields #[.int lo t,.int hi u,.int 1 v] }
 | .frz o u=>h.get? a=some o/\ObjOk H h a u
 | .tbl (.tab q)=>∃ more:Array Value,h.get? a=some { cls:=.none,data:=.fields more }/\TriplesOk more.toList/\∀ pos cv,codeAmong pos more.toList=some cv->∃ c,cv=.ref c/\H c=some (.tbl (.cod q))
 | .tbl (.cod q)=>h.CodeRec (.ref a) q
 | .met f x=>h.get? a=some (PySem.W.methodObj (.ref f) (.ref x))
 | .ext φ=>φ h/\(∃ o,h.get? a=some o)/\∀ h1 h2:Heap,φ h1->(∀ o,h1.get? a=some o->h2.get? a=some o)->φ h2
def HOk (H:Hp) (h:Heap):Prop:=∀ a o,H a=some o->ObjOk P w H h a o
end
section
variable {P:Program} {w:World} {H H':Hp} {h h':Heap} {a:Addr} {o:HO}
theorem ObjOk.lt (x:ObjOk P w H h a o):a<h.objs.size:=by
 cases o with
 | lst xs=>obtain ⟨_,_,_,_,e⟩:=x;exact Heap.lt_size e
 | tup xs=>obtain ⟨_,_,_,p⟩:=x;exact p.lt
 | dK Ag=>obtain ⟨_,_,_,_,o,_,_,e,_⟩:=x;exact Heap.lt_size e
 | dT Ag=>obtain ⟨_,_,_,_,o,_,_,e,_⟩:=x;exact Heap.lt_size e
 | set S n=>obtain ⟨o,_,_,_,e,_⟩:=x;exact Heap.lt_size e
 | ins C dx fs=>obtain ⟨_,_,_,e,_⟩:=x;exact Heap.lt_size e
 | own y=>obtain ⟨_,e⟩:=x;exact Heap.lt_size e
 | xd fs=>obtain ⟨_,⟨_,_,_,e,_⟩,_⟩:=x;exact Heap.lt_size e
 | rng lo hi=>obtain ⟨_,_,_,e⟩:=x;exact Heap.lt_size e
 | frz ob u=>obtain ⟨e,_⟩:=x;exact Heap.lt_size e
 | tbl t=>
  cases t with
  | tab q=>obtain ⟨_,e,_⟩:=x;exact Heap.lt_size e
  | cod q=>obtain ⟨c,o,_,_,e,g,_⟩:=x;cases e;exact Heap.lt_size g
 | met f y=>exact Heap.lt_size (show h.get? a=some _ from x)
 | ext φ=>obtain ⟨_,⟨_,e⟩,_⟩:=x;exact Heap.lt_size e
theorem Paired.mapP {α β:Type} {F G:α->β->Prop}:∀ {l₁:List α} {l₂:List β},Paired F l₁ l₂->(∀ a b,F a b->G a b)->Paired G l₁ l₂
 | _,_,.nil,_=>.nil
 | _,_,.cons r t,f=>.cons (f _ _ r) (Paired.mapP t f)
theorem ObjOk.stay (x:ObjOk P w H h a o) (k:∀ b u,(b=a\/H b=some (.own a))->h.get? b=some u->h'.get? b=some u)
  (ho:∀ b,H b=some (.own a)->H' b=some (.own a)) (ht:∀ b xs,H b=some (.tup xs)->H' b=some (.tup xs)) (hb:∀ b t,H b=some (.tbl t)->H' b=some (.tbl t):=by exact fun _ _ q=>q):ObjOk P w H' h' a o:=by
 induction o with
 | lst xs=>obtain ⟨z,its,n,r,e⟩:=x;exact ⟨z,its,n,r,k _ _ (.inl rfl) e⟩
 | tup xs=>obtain ⟨z,its,r,ob,e,c⟩:=x;exact ⟨z,its,r,ob,k _ _ (.inl rfl) e,c⟩
 | dK Ag=>obtain ⟨z,y,vs,r,ob,es,ep,e,c⟩:=x;exact ⟨z,y,vs,r,ob,es,ep,k _ _ (.inl rfl) e,c⟩
 | dT Ag=>
  obtain ⟨z,y,xs,r,ob,es,ep,e,c⟩:=x;exact ⟨z,y,xs,Paired.mapP r fun p q z=>⟨z.1,ht _ _ z.2.1,z.2.2⟩,ob,es,ep,k _ _ (.inl rfl) e,c⟩
 | set S n=>obtain ⟨ob,es,ep,t,e,c⟩:=x;exact ⟨ob,es,ep,t,k _ _ (.inl rfl) e,c⟩
 | ins C dx fs=>
  obtain ⟨d,z,ne,e,mA,⟨od,es,ep,e2,c⟩,r⟩:=x;exact ⟨ho _ d,z,ne,k _ _ (.inl rfl) e,mA,⟨od,es,ep,k _ _ (.inr d) e2,c⟩,r⟩
 | own y=>obtain ⟨ob,e⟩:=x;exact ⟨ob,k _ _ (.inl rfl) e⟩
 | xd fs=>obtain ⟨mA,⟨od,es,ep,e,c⟩,r⟩:=x;exact ⟨mA,⟨od,es,ep,k _ _ (.inl rfl) e,c⟩,r⟩
 | rng lo hi=>obtain ⟨t,u,v,e⟩:=x;exact ⟨t,u,v,k _ _ (.inl rfl) e⟩
 | frz ob u ih=>obtain ⟨e,q⟩:=x;exact ⟨k _ _ (.inl rfl) e,ih q⟩
 | tbl t=>
  cases t with
  | tab q=>obtain ⟨m,e,tr,c⟩:=x;exact ⟨m,k a _ (.inl rfl) e,tr,fun pos cv z=>let ⟨c',e1,e2⟩:=c pos cv z;⟨c',e1,hb _ _ e2⟩⟩
  | cod q=>obtain ⟨c,o,vs,t,e,g,r⟩:=x;cases e;exact ⟨a,o,vs,t,rfl,k a _ (.inl rfl) g,r⟩
 | met f y=>
  have e:h.get? a=some (PySem.W.methodObj (.ref f) (.ref y)):=x;show h'.get? a=some (PySem.W.methodObj (.ref f) (.ref y));exact k a _ (.inl rfl) e
 | ext φ=>obtain ⟨p,⟨o,e⟩,st⟩:=x;exact ⟨st _ _ p fun o q=>k _ _ (.inl rfl) q,⟨o,k _ _ (.inl rfl) e⟩,st⟩
theorem HOk.lt (x:HOk P w H h) (e:H a=some o):a<h.objs.size:=(x a o e).lt
theorem HOk.fresh (x:HOk P w H h) (e:h.objs.size<=a):H a=none:=by
 cases q:H a with
 | none=>rfl
 | some u=>exact absurd (Nat.lt_of_lt_of_le (x.lt q) e) (Nat.lt_irrefl _)
theorem HOk.kept (x:HOk P w H h) (k:∀ b u,h.get? b=some u->h'.get? b=some u):HOk P w H h':=fun a o e=>
 (x a o e).stay (fun b u _ q=>k b u q) (fun _ q=>q) fun _ _ q=>q
theorem HOk.laid (x:HOk P w H h) (k:∀ b u,h.get? b=some u->h'.get? b=some u) (hp:h.objs.size<=a) (new:ObjOk P w (Ah H a o) h' a o):HOk P w (Ah H a o) h':=fun b u e=>by
 have hn:=x.fresh hp;by_cases hb:b=a
 ·subst hb;rw [qA1] at e;cases e;exact new
 ·rw [qA8 hb] at e;exact (x b u e).stay (fun c v _ q=>k c v q) (fun c q=>by rw [qA8 (qA5 q hn)];exact q) (fun c xs q=>by rw [qA8 (qA5 q hn)];exact q) fun c t q=>by rw [qA8 (qA5 q hn)];exact q
end
def Rd (H:Hp) (a:Addr) (u:HO):Prop:=H a=some u\/∃ o,H a=some (.frz o u)
theorem Rd.ok {P:Program} {w:World} {H:Hp} {h:Heap} {a:Addr} {u:HO} (r:Rd H a u) (x:HOk P w H h):ObjOk P w H h a u:=by
 rcases r with r | ⟨o,r⟩
 ·exact x a u r
 ·obtain ⟨_,q⟩:=x a _ r;exact q
def Mut:Option HO->Prop
 | some (.lst _)=>True
 | some (.dK _)=>True
 | some (.dT _)=>True
 | some (.set _ _)=>True
 | some (.ins _ _ _)=>True
 | some (.ext _)=>True
 | _=>False
section
variable {P:Program} {w:World} {H:Hp} {h h':Heap} {x e:Addr} {o':HO}
theorem HOk.write (ok:HOk P w H h) (mu:Mut (H x)) (he:e=x\/H e=some (.own x)) (k:∀ b u,b ≠ e->h.get? b=some u->h'.get? b=some u) (heo:∃ u,h'.get? e=some u)
  (new:ObjOk P w (Ah H x o') h' x o'):HOk P w (Ah H x o') h':=fun b u q=>by
 have nown:∀ c y,H c=some (.own y)->c ≠ x:=fun c y r z=>by subst z;rw [r] at mu;exact mu
 have ntup:∀ c xs,H c=some (.tup xs)->c ≠ x:=fun c xs r z=>by subst z;rw [r] at mu;exact mu
 by_cases hb:b=x
 ·subst hb;rw [qA1] at q;cases q;exact new
 ·rw [qA8 hb] at q;by_cases hbe:b=e
  ·have q':H b=some (.own x):=by
    rcases he with z | z
    ·exact absurd (hbe.trans z) hb
    ·rw [hbe];exact z
   rw [q] at q';cases q';obtain ⟨v,hv⟩:=heo;exact ⟨v,by rw [hbe];exact hv⟩
  ·refine (ok b u q).stay (fun c v hc r=>k c v ?_ r) (fun c r=>by rw [qA8 (nown c b r)];exact r) (fun c xs r=>by rw [qA8 (ntup c xs r)];exact r) fun c t r=>by rw [qA8 (fun z=>by subst z;rw [r] at mu;exact mu)];exact r
   rcases hc with rfl | hc
   ·exact hbe
   ·rintro rfl;rcases he with z | z
    ·exact nown c b hc z
    ·rw [hc] at z;cases z;exact hb rfl
end
structure Un (fs ex:List Addr) (H H':Hp) (h h':Heap):Prop where
 keep:∀ b o,h.get? b=some o->H b=none->b ∉ fs->b ∉ ex->h'.get? b=some o
 slot:∀ b o,h.get? b=some o->H b=none->b ∈ fs->b ∉ ex->∃ sl,h'.get? b=some { o with slots:=sl }
 free:∀ b o,h.get? b=some o->H b=none->b ∉ ex->H' b=none
 there:∀ b o,h.get? b=some o->b ∉ ex->∃ o',h'.get? b=some o'
 tups:∀ b xs,H b=some (.tup xs)->H' b=some (.tup xs)
 frzs:∀ b o u,H b=some (.frz o u)->H' b=some (.frz o u)
 tbls:∀ b ps,H b=some (.tbl ps)->H' b=some (.tbl ps)
section
variable {fs fs' ex ex':List Addr} {H H1 H2:Hp} {h h1 h2 h':Heap} {a x e:Addr} {o:HO}
theorem Un.any (u:Un fs ex H H1 h h1) {b:Addr} {ob:Obj} (q:h.get? b=some ob) (n:H b=none) (hx:b ∉ ex):∃ sl,h1.get? b=some { ob with slots:=sl }:=by
 by_cases hb:b ∈ fs
 ·exact u.slot b ob q n hb hx
 ·exact ⟨ob.slots,u.keep b ob q n hb hx⟩
theorem Un.kept (k:∀ b u,h.get? b=some u->h'.get? b=some u):Un fs ex H H h h':=
 ⟨fun b ob q _ _ _=>k b ob q,fun b ob q _ _ _=>⟨ob.slots,k b ob q⟩,fun _ _ _ n _=>n,fun b ob q _=>⟨ob,k b ob q⟩,fun _ _ q=>q,fun _ _ _ q=>q,fun _ _ q=>q⟩
theorem Un.refl:Un fs ex H H h h:=Un.kept fun _ _ q=>q
theorem Un.laid (k:∀ b u,h.get? b=some u->h'.get? b=some u) (hp:h.objs.size<=a) (hn:H a=none):Un fs ex H (Ah H a o) h h' where
 keep:=fun b u q _ _ _=>k b u q
 slot:=fun b u q _ _ _=>⟨u.slots,k b u q⟩
 free:=fun b u q n _=>by rw [qA8 (Nat.ne_of_lt (Nat.lt_of_lt_of_le (Heap.lt_size q) hp))];exact n
 there:=fun b u q _=>⟨u,k b u q⟩
 tups:=fun b xs q=>by rw [qA8 (qA5 q hn)];exact q
 frzs:=fun b u xs q=>by rw [qA8 (qA5 q hn)];exact q
 tbls:=fun b ps q=>by rw [qA8 (qA5 q hn)];exact q
theorem Un.write (mu:Mut (H x)) (he:e=x\/H e=some (.own x)) (k:∀ b u,b ≠ e->h.get? b=some u->h'.get? b=some u) (heo:∃ u,h'.get? e=some u):Un fs ex H (Ah H x o) h h':=by
 have hx:∀ b,H b=none->b ≠ x:=fun b n z=>by subst z;rw [n] at mu;exact mu
 have hb:∀ b,H b=none->b ≠ e:=fun b n z=>by
  subst z;rcases he with r | r
  ·exact hx b n r
  ·rw [n] at r;cases r
 have hm:∀ b u,H b=some u->¬ Mut (some u)->b ≠ x:=fun b u q nm z=>by subst z;rw [q] at mu;exact nm mu
 refine ⟨fun b u q n _ _=>k b u (hb b n) q,fun b u q n _ _=>⟨u.slots,k b u (hb b n) q⟩,fun b u q n _=>by rw [qA8 (hx b n)];exact n,fun b u q _=>?_,
  fun b xs q=>by rw [qA8 (hm b _ q fun z=>z)];exact q,fun b u xs q=>by rw [qA8 (hm b _ q fun z=>z)];exact q,fun b ps q=>by rw [qA8 (hm b _ q fun z=>z)];exact q⟩
 by_cases hbe:b=e
 ·subst hbe;exact heo
 ·exact ⟨u,k b u hbe q⟩
end
noncomputable def trk (h:Heap) (H:Hp):List Addr:=(List.range h.objs.size).filter fun a=>(H a).isSome
noncomputable def hidT (h:Heap) (H:Hp):Heap:=PySem.W.hideAll h (trk h H)
theorem qQ9 (h:Heap) (H:Hp):(hidT h H).objs.size=h.objs.size:=PySem.W.hideAll_size _ _
theorem qS8 {h:Heap} {H:Hp} {b:Addr} {o:Obj} (e:h.get? b=some o) (n:H b=none):(hidT h H).get? b=some o:=
 PySem.W.hideAll_get _ e fun hm=>by
  have q:(H b).isSome=true:=(List.mem_filter.mp hm).2;rw [n] at q;simp at q
theorem qU6 {h:Heap} {H:Hp} {b:Addr} {o:Obj} (e:(hidT h H).get? b=some o):h.get? b=some o/\H b=none:=by
 have e':h.get? b=some o:=PySem.W.of_hideAll (trk h H) e;refine ⟨e',?_⟩;cases q:H b with
 | none=>rfl
 | some x=>
  have hm:b ∈ trk h H:=List.mem_filter.mpr ⟨List.mem_range.mpr (Heap.lt_size e'),by simp [q]⟩
  have z:(hidT h H).get? b=none:=PySem.W.hideAll_none (trk h H) hm;rw [z] at e;cases e
noncomputable def qUY (g h:Heap) (L:Addr):List (Addr × Obj):=(List.range h.objs.size).filterMap fun a=>if a=L\/(g.get? a).isSome=true then none else (h.get? a).map fun o=>(a,o)
noncomputable def rest (g h:Heap) (L d:Addr):List (Addr × Obj):=(qUY g h L).filter fun p=>decide (p.1 ≠ d)
end L2
namespace L2
open PySem PySem.Spec PyProof.Rows
structure Mod (K:PySem.W.Frag) (mg:Str->Option Value) (base:Heap):Prop where
 kin:K.In base
 glob:base.Ns mainGlobals mg
 blt:∃ mb,base.Ns builtinsNs mb/\∀ x:Str,x ≠ "__name__"->mb x=bootBuiltins x
 nolimit:base.NoLimit
structure Cx where
 prog:Program
 w:World
 K:PySem.W.Frag
 mg:Str->Option Value
 base:Heap
 A:Around
 N:List Str
 s₀:Shared
 H₀:Hp
 env:Env
 outer:List Env
 stack:List Env
 ex:List Addr
 fn:Str->Bool
 calm:Bool
 pn:List (Addr × Obj)
 xe:Value->Shared->Prop
noncomputable def frs (l:List Env):List Addr:=l.filterMap (·.frame)
noncomputable abbrev Cx.fs (X:Cx):List Addr:=frs X.outer
def Vis (sc:Scope) (x:Str):Prop:=sc.names.lookup x=some .local\/sc.names.lookup x=some .cell\/sc.names.lookup x=some .free
def Loc (sc:Scope) (x:Str):Prop:=sc.names.lookup x=some .local\/sc.names.lookup x=some .cell
def Look (env:Env) (h:Heap) (m:Str->Option Value) (x:Str) (u:Value):Prop:=
 (env.kindOf x=some .local/\m x=some u)\/((env.kindOf x=some .cell\/env.kindOf x=some .free)/\∃ c,env.cells.lookup x=some c/\h.IsCell c (some u))
structure Cx.Ok (X:Cx):Prop where
 mod:Mod X.K X.mg X.base
 kind:X.env.scope.kind=.function
 glob:X.env.globals=mainGlobals
 blt:X.env.builtins=builtinsNs
 above:X.s₀.heap.objs.size<=X.env.locals
 inj:∀ x y c,X.env.cells.lookup x=some c->X.env.cells.lookup y=some c->x=y
 has:∀ x,(X.env.kindOf x=some .cell\/X.env.kindOf x=some .free)->∃ c,X.env.cells.lookup x=some c
 cab:∀ x c,X.fn x=true->X.env.cells.lookup x=some c->X.s₀.heap.objs.size<=c
 hd:X.calm=true->X.A.handled=none
 frames:X.A.frames=some X.stack
 stk:X.stack=X.outer\/(X.stack=X.env::X.outer/\X.env.frame=some X.env.locals)
 exf:∀ b ∈ X.ex,b ≠ X.env.locals/\∀ x c,X.env.cells.lookup x=some c->c ≠ b
 bs:∀ b o,X.base.get? b=some o->X.s₀.heap.get? b=some o/\X.H₀ b=none
 bsz:X.base.objs.size<=X.s₀.heap.objs.size
 noex:∀ b o,X.base.get? b=some o->b ∉ X.ex
 exfs:∀ b ∈ X.ex,b ∉ X.fs
 funs:X.s₀.heap.FunFrames X.base X.outer
 frf:∀ b ∈ X.fs,X.H₀ b=none
structure Inv (X:Cx) (Ab:List (Addr × Obj)) (σ:List (Option V)) (H:Hp) (s:Shared):Prop where
 ok:X.Ok
 os:s.os=X.s₀.os
 bare:AllBare s.gens
 base:Un X.fs X.ex X.H₀ H X.s₀.heap s.heap
 loc:∃ m,s.heap.Ns X.env.locals m/\∀ (i:Nat) (x:Str) (v:V),X.N[i]?=some x->σ[i]?=some (some v)->Vis X.env.scope x->∃ u,RelV v u/\Look X.env s.heap m x u
 cell:∀ x c,X.env.cells.lookup x=some c->∃ v,s.heap.IsCell c v
 free:H X.env.locals=none
 freeC:∀ x c,X.env.cells.lookup x=some c->H c=none
 pin:∀ p ∈ X.pn++Ab,s.heap.get? p.1=some p.2/\H p.1=none/\p.1 ≠ X.env.locals/\p.1 ∉ X.fs/\∀ v,p.2.data ≠ .cell v
 hok:HOk X.prog X.w H s.heap
 len:σ.length=X.N.length
section
variable {X:Cx} {Ab:List (Addr × Obj)} {σ:List (Option V)} {H H':Hp} {s:Shared} {h':Heap}
theorem Cx.Ok.nofr (ok:X.Ok) {b:Addr} {o:Obj} (e:X.base.get? b=some o):b ∉ X.fs:=fun hb=>by
 have:=(ok.funs.mem hb).1;rw [e] at this;cases this
theorem Inv.bs (I:Inv X Ab σ H s):∀ b o,X.base.get? b=some o->s.heap.get? b=some o/\H b=none:=fun b o e=>
 ⟨I.base.keep b o (I.ok.bs b o e).1 (I.ok.bs b o e).2 (I.ok.nofr e) (I.ok.noex b o e),I.base.free b o (I.ok.bs b o e).1 (I.ok.bs b o e).2 (I.ok.noex b o e)⟩
theorem Inv.bk (I:Inv X Ab σ H s):∀ b o,X.base.get? b=some o->s.heap.get? b=some o:=fun b o e=>(I.bs b o e).1
theorem Inv.mod (I:Inv X Ab σ H s):Mod X.K X.mg X.base:=I.ok.mod
theorem Inv.kIn (I:Inv X Ab σ H s):X.K.In s.heap:=I.ok.mod.kin.keeps I.bk
theorem Inv.nolimit (I:Inv X Ab σ H s):s.heap.NoLimit:=I.ok.mod.nolimit.keeps I.bk
theorem Inv.lt (I:Inv X Ab σ H s):X.env.locals<s.heap.objs.size:=let ⟨_,hn,_⟩:=I.loc;hn.lt
theorem Inv.sz (I:Inv X Ab σ H s):X.s₀.heap.objs.size<=s.heap.objs.size:=Nat.le_trans I.ok.above (Nat.le_of_lt I.lt)
theorem Inv.nofs (I:Inv X Ab σ H s) {a:Addr} (h:s.heap.objs.size<=a):a ∉ X.fs:=fun hb=>by
 obtain ⟨_,o,ho,_⟩:=I.ok.funs.mem hb;exact absurd (Nat.lt_of_lt_of_le (Heap.lt_size ho) (Nat.le_trans I.sz h)) (Nat.lt_irrefl _)
theorem Inv.cne (I:Inv X Ab σ H s):∀ x c,X.env.cells.lookup x=some c->c ≠ X.env.locals:=fun x c e z=>by
 obtain ⟨v,o,ho,hd⟩:=I.cell x c e;obtain ⟨m,⟨o',es,ep,ho',hd',_⟩,_⟩:=I.loc;rw [z,ho'] at ho;cases ho;rw [hd'] at hd;cases hd
theorem Inv.funs (I:Inv X Ab σ H s):s.heap.FunFrames X.base X.outer:=by
 have all:∀ (l:List Env),(∀ b ∈ frs l,b ∈ X.fs)->X.s₀.heap.FunFrames X.base l->s.heap.FunFrames X.base l:=by
  intro l
  induction l with
  | nil=>intro _ _;trivial
  | cons env r ih=>
   intro hs hl;obtain ⟨hk,⟨L,o,hf,hn,ho,hd⟩,hr⟩:=hl;have hL:L ∈ X.fs:=hs L (by unfold frs;rw [List.filterMap_cons,hf];exact List.mem_cons_self)
   obtain ⟨sl,e⟩:=I.base.slot L o ho (I.ok.frf L hL) hL fun z=>I.ok.exfs L z hL;exact ⟨hk,⟨L,_,hf,hn,e,hd⟩,ih (fun b hb=>hs b (by unfold frs;rw [List.filterMap_cons,hf];exact List.mem_cons_of_mem _ hb)) hr⟩
 exact all X.outer (fun _ hb=>hb) I.ok.funs
theorem Inv.stack (I:Inv X Ab σ H s):s.heap.FunFrames X.base X.stack:=by
 rcases I.ok.stk with e | ⟨e,hf⟩
 ·rw [e];exact I.funs
 ·rw [e];obtain ⟨m,hn,_⟩:=I.loc;refine .cons (by rw [I.ok.kind];decide) hf hn ?_ I.funs
  exact Heap.get?_none_of_le (Nat.le_trans I.ok.bsz I.ok.above)
theorem Inv.stkSub (I:Inv X Ab σ H s):∀ b ∈ frs X.stack,b ∈ X.env.locals::X.fs:=fun b hb=>by
 rcases I.ok.stk with e | ⟨e,hf⟩
 ·rw [e] at hb;exact List.mem_cons_of_mem _ hb
 ·rw [e] at hb;unfold frs at hb;rw [List.filterMap_cons,hf] at hb;exact hb
theorem Inv.stkFree (I:Inv X Ab σ H s):∀ b ∈ frs X.stack,H b=none:=fun b hb=>by
 rcases List.mem_cons.mp (I.stkSub b hb) with e | hb
 ·rw [e];exact I.free
 ·obtain ⟨_,o,ho,_⟩:=I.ok.funs.mem hb;exact I.base.free b o ho (I.ok.frf b hb) fun z=>I.ok.exfs b z hb
theorem Inv.step {g':Array GenState} {t':Nat} {d':Drawn} {ch:List Addr} (I:Inv X Ab σ H s)
  (hch:∀ b ∈ ch,(b ∈ X.ex\/X.s₀.heap.objs.size<=b)/\b ≠ X.env.locals/\(∀ x c,X.env.cells.lookup x=some c->c ≠ b)/\∀ p ∈ X.pn++Ab,p.1 ≠ b)
  (keep:∀ b o,b ≠ X.env.locals->b ∉ X.fs->b ∉ ch->s.heap.get? b=some o->H b=none->h'.get? b=some o)
  (slot:∀ b o,b ≠ X.env.locals->b ∈ X.fs->b ∉ ch->s.heap.get? b=some o->H b=none->∃ sl,h'.get? b=some { o with slots:=sl }) (free:∀ b o,b ∉ ch->s.heap.get? b=some o->H b=none->H' b=none)
  (there:∀ b o,b ∉ ch->s.heap.get? b=some o->∃ o',h'.get? b=some o')
  (tups:∀ b xs,H b=some (.tup xs)->H' b=some (.tup xs)) (frzs:∀ b o u,H b=some (.frz o u)->H' b=some (.frz o u)) (tbls:∀ b ps,H b=some (.tbl ps)->H' b=some (.tbl ps))
  (ns:∀ m,s.heap.Ns X.env.locals m->h'.Ns X.env.locals m) (hok:HOk X.prog X.w H' h') (hg:AllBare g') :
  Inv X Ab σ H' { s with heap:=h',gens:=g',drawn:=d',toks:=t' }:=by
 have neL:∀ b o,X.s₀.heap.get? b=some o->b ≠ X.env.locals:=fun b o e=>Nat.ne_of_lt (Nat.lt_of_lt_of_le (Heap.lt_size e) I.ok.above);have neC:∀ b o,X.s₀.heap.get? b=some o->b ∉ X.ex->b ∉ ch:=fun b o e hx hb=>by
  rcases (hch b hb).1 with z | z
  ·exact hx z
  ·exact absurd (Nat.lt_of_lt_of_le (Heap.lt_size e) z) (Nat.lt_irrefl _)
 have cellK:∀ x c,X.env.cells.lookup x=some c->∀ v,s.heap.IsCell c v->h'.IsCell c v:=fun x c e v ⟨o,ho,hd⟩=>by
  have nch:c ∉ ch:=fun z=>(hch c z).2.2.1 x c e rfl;by_cases hc:c ∈ X.fs
  ·obtain ⟨sl,q⟩:=slot c o (I.cne x c e) hc nch ho (I.freeC x c e);exact ⟨_,q,hd⟩
  ·exact ⟨o,keep c o (I.cne x c e) hc nch ho (I.freeC x c e),hd⟩
 refine ⟨I.ok,I.os,hg,⟨fun b o e n hb hx=>?_,fun b o e n hb hx=>?_,fun b o e n hx=>?_,fun b o e hx=>?_,fun b xs e=>tups b xs (I.base.tups b xs e),fun b o xs e=>frzs b o xs (I.base.frzs b o xs e),fun b ps e=>?_⟩,?_,fun x c e=>?_,?_,fun x c e=>?_,fun p hp=>?_,hok,I.len⟩
 ·exact keep b o (neL b o e) hb (neC b o e hx) (I.base.keep b o e n hb hx) (I.base.free b o e n hx)
 ·obtain ⟨sl,e1⟩:=I.base.slot b o e n hb hx;obtain ⟨sl',e2⟩:=slot b _ (neL b o e) hb (neC b o e hx) e1 (I.base.free b o e n hx);exact ⟨sl',e2⟩
 ·obtain ⟨o',e1⟩:=I.base.there b o e hx;exact free b o' (neC b o e hx) e1 (I.base.free b o e n hx)
 ·obtain ⟨o',e1⟩:=I.base.there b o e hx;exact there b o' (neC b o e hx) e1
 ·exact tbls b ps (I.base.tbls b ps e)
 ·obtain ⟨m,hn,hl⟩:=I.loc;refine ⟨m,ns m hn,fun i x v e1 e2 e3=>?_⟩;obtain ⟨u,r,l⟩:=hl i x v e1 e2 e3;refine ⟨u,r,?_⟩;rcases l with l | ⟨k,c,e,z⟩
  ·exact .inl l
  ·exact .inr ⟨k,c,e,cellK x c e _ z⟩
 ·obtain ⟨v,z⟩:=I.cell x c e;exact ⟨v,cellK x c e v z⟩
 ·obtain ⟨m,⟨o,_,_,ho,_⟩,_⟩:=I.loc;exact free _ o (fun z=>(hch _ z).2.1 rfl) ho I.free
 ·obtain ⟨v,o,ho,hd⟩:=I.cell x c e;exact free c o (fun z=>(hch c z).2.2.1 x c e rfl) ho (I.freeC x c e)
 ·obtain ⟨e,n,ne,nf,d⟩:=I.pin p hp;have nch:p.1 ∉ ch:=fun z=>(hch p.1 z).2.2.2 p hp rfl;exact ⟨keep p.1 p.2 ne nf nch e n,free p.1 p.2 nch e n,ne,nf,d⟩
theorem Inv.un {t':Nat} (I:Inv X Ab σ H s) (u:Un X.fs [] H H' s.heap h') (hok:HOk X.prog X.w H' h'):Inv X Ab σ H' { s with heap:=h',toks:=t' }:=by
 obtain ⟨m,⟨o,es,ep,ho,r⟩,_⟩:=id I.loc;obtain ⟨sl,hL⟩:=u.any ho I.free (by simp)
 exact I.step (g':=s.gens) (d':=s.drawn) (ch:=[]) (fun _ z=>nomatch z) (fun b o _ hb _ e n=>u.keep b o e n hb (by simp)) (fun b o _ hb _ e n=>u.slot b o e n hb (by simp)) (fun b o _ e n=>u.free b o e n (by simp)) (fun b o _ e=>u.there b o e (by simp)) u.tups u.frzs u.tbls (fun m' hm=>by
  obtain ⟨o',es',ep',ho',r'⟩:=hm;rw [ho] at ho';cases ho';exact ⟨_,es',ep',hL,r'⟩) hok I.bare
theorem Inv.call {g':Array GenState} {t':Nat} {d':Drawn} {ch:List Addr} (I:Inv X Ab σ H s) (u:Un (frs X.stack) ch H H' s.heap h') (hok:HOk X.prog X.w H' h') (hg:AllBare g')
  (hch:∀ b ∈ ch,(b ∈ X.ex\/X.s₀.heap.objs.size<=b)/\b ≠ X.env.locals/\(∀ x c,X.env.cells.lookup x=some c->c ≠ b)/\∀ p ∈ X.pn++Ab,p.1 ≠ b) :
  Inv X Ab σ H' { s with heap:=h',gens:=g',drawn:=d',toks:=t' }:=by
 obtain ⟨m,⟨o,es,ep,ho,r⟩,_⟩:=id I.loc;obtain ⟨sl,hL⟩:=u.any ho I.free fun z=>(hch _ z).2.1 rfl;exact I.step (ch:=ch) hch (fun b o hL hb hc e n=>u.keep b o e n (fun z=>(List.mem_cons.mp (I.stkSub b z)).elim hL hb) hc) (fun b o _ _ hc e n=>u.any e n hc) (fun b o hc e n=>u.free b o e n hc) (fun b o hc e=>u.there b o e hc) u.tups u.frzs u.tbls (fun m' hm=>by
  obtain ⟨o',es',ep',ho',r'⟩:=hm;rw [ho] at ho';cases ho';exact ⟨_,es',ep',hL,r'⟩) hok hg
theorem Inv.turned {t':Nat} {it:Addr} (I:Inv X Ab σ H s) (k:∀ b o,b ≠ it->s.heap.get? b=some o->h'.get? b=some o) (hn:H it=none) (hL:it ≠ X.env.locals)
  (h1:it ∈ X.ex\/X.s₀.heap.objs.size<=it) (h2:∀ x c,X.env.cells.lookup x=some c->c ≠ it) (h3:∀ p ∈ X.pn++Ab,p.1 ≠ it):Inv X Ab σ H { s with heap:=h',toks:=t' }:=by
 have nit:∀ b u,H b=some u->b ≠ it:=fun b u e z=>by rw [z,hn] at e;cases e
 refine I.step (g':=s.gens) (d':=s.drawn) (ch:=[it]) (fun b hb=>?_) (fun b o _ _ hc e _=>k b o (fun z=>hc (by simp [z])) e) (fun b o _ _ hc e _=>⟨o.slots,k b o (fun z=>hc (by simp [z])) e⟩) (fun _ _ _ _ n=>n)
  (fun b o hc e=>⟨o,k b o (fun z=>hc (by simp [z])) e⟩) (fun _ _ e=>e) (fun _ _ _ e=>e) (fun _ _ e=>e) (fun m hm=>?_) (fun b u e=>?_) I.bare
 ·have e:b=it:=by simpa using hb
  subst e;exact ⟨h1,hL,h2,h3⟩
 ·obtain ⟨o,es,ep,ho,r⟩:=hm;exact ⟨o,es,ep,k _ o (Ne.symm hL) ho,r⟩
 ·refine (I.hok b u e).stay (fun c v hc q=>k c v ?_ q) (fun _ q=>q) fun _ _ q=>q;rcases hc with z | z
  ·rw [z];exact nit b u e
  ·exact nit c _ z
theorem Inv.tok (I:Inv X Ab σ H s) (t:Nat):Inv X Ab σ H { s with toks:=t }:=I.un (h':=s.heap) (t':=t) Un.refl I.hok
theorem Inv.kept {t':Nat} (I:Inv X Ab σ H s) (k:∀ b u,s.heap.get? b=some u->h'.get? b=some u):Inv X Ab σ H { s with heap:=h',toks:=t' }:=I.un (Un.kept k) (I.hok.kept k)
theorem Inv.laid {a:Addr} {o:HO} {t':Nat} (I:Inv X Ab σ H s) (k:∀ b u,s.heap.get? b=some u->h'.get? b=some u) (hp:s.heap.objs.size<=a) (new:ObjOk X.prog X.w (Ah H a o) h' a o) :
  Inv X Ab σ (Ah H a o) { s with heap:=h',toks:=t' }:=I.un (Un.laid k hp (I.hok.fresh hp)) (I.hok.laid k hp new)
theorem Inv.write {x e:Addr} {o:HO} {t':Nat} (I:Inv X Ab σ H s) (mu:Mut (H x)) (he:e=x\/H e=some (.own x)) (k:∀ b u,b ≠ e->s.heap.get? b=some u->h'.get? b=some u) (heo:∃ u,h'.get? e=some u)
  (new:ObjOk X.prog X.w (Ah H x o) h' x o):Inv X Ab σ (Ah H x o) { s with heap:=h',toks:=t' }:=I.un (Un.write mu he k heo) (I.hok.write mu he k heo new)
theorem Inv.pins_of {pins':List (Addr × Obj)} (I:Inv X Ab σ H s) (h:∀ p ∈ pins',s.heap.get? p.1=some p.2/\H p.1=none/\p.1 ≠ X.env.locals/\p.1 ∉ X.fs/\∀ v,p.2.data ≠ .cell v):Inv X pins' σ H s:=
 ⟨I.ok,I.os,I.bare,I.base,I.loc,I.cell,I.free,I.freeC,fun p hp=>(List.mem_append.mp hp).elim (fun z=>I.pin p (List.mem_append_left _ z)) (h p),I.hok,I.len⟩
theorem qNA {N:List Str} (hN:N.Nodup) {i j:Nat} {x:Str} (a:N[i]?=some x) (b:N[j]?=some x):i=j:=by
 obtain ⟨h1,e1⟩:=List.getElem?_eq_some_iff.mp a;obtain ⟨h2,e2⟩:=List.getElem?_eq_some_iff.mp b;exact (List.getElem_inj hN).mp (e1.trans e2.symm)
theorem qKB {M:Model} {A:Around} {E:Value->Shared->Prop} {i:Nat} {x:Str} {v:V} {u:Value} {Q:Unit->Shared->Prop} (I:Inv X Ab σ H s) (hN:X.N.Nodup) (hi:X.N[i]?=some x) (hx:Loc X.env.scope x) (r:RelV v u)
  (h:∀ s',Inv X Ab (σ.set i (some v)) H s'->(∃ a,Heap.SameBut a s.heap s'.heap/\(a=X.env.locals\/X.env.cells.lookup x=some a))->Q () s') (hf:X.fn x=true\/X.env.scope.names.lookup x=some .local:=by first | exact .inl rfl | exact .inr rfl | assumption):wpAny M A (storeName X.env x u) Q E s:=by
 obtain ⟨m,hn,hl⟩:=id I.loc;have hcls:(X.env.scope.kind == .class || (X.env.scope.kind == .module && X.env.locals != X.env.globals))=false:=by rw [I.ok.kind];rfl
 have hiσ:i<σ.length:=by rw [I.len];exact (List.getElem?_eq_some_iff.mp hi).1
 have cne:=I.cne;have tracked:∀ {a:Addr} {h':Heap},(∃ o,s.heap.get? a=some o/\H a=none)->Heap.SameBut a s.heap h'->HOk X.prog X.w H h':=fun {a h'} ha hs b ob e=>by
  obtain ⟨_,_,hfree⟩:=ha;refine (I.hok b ob e).stay (fun c w' hc q=>(hs.2 c ?_).trans q) (fun _ q=>q) fun _ _ q=>q;rintro rfl;rcases hc with rfl | hc
  ·rw [hfree] at e;cases e
  ·rw [hfree] at hc;cases hc
 rcases hx with hk | hk
 ·refine wpAny_storeName_local hk hn (fun h' hn' hs=>?_) hcls;obtain ⟨oL,_,_,hoL,_⟩:=id hn;refine h _ ⟨I.ok,I.os,I.bare,⟨fun b o e n hb hx=>?_,fun b o e n hb hx=>?_,I.base.free,fun b o e hx=>?_,I.base.tups,I.base.frzs,I.base.tbls⟩,⟨_,hn',fun j y v' e1 e2 e3=>?_⟩,fun y c e=>?_,I.free,I.freeC,fun p hp=>?_,tracked ⟨oL,hoL,I.free⟩ hs,by simpa using I.len⟩ ⟨_,hs,.inl rfl⟩
  ·exact (hs.2 b (Nat.ne_of_lt (Nat.lt_of_lt_of_le (Heap.lt_size e) I.ok.above))).trans (I.base.keep b o e n hb hx)
  ·obtain ⟨sl,e1⟩:=I.base.slot b o e n hb hx;exact ⟨sl,(hs.2 b (Nat.ne_of_lt (Nat.lt_of_lt_of_le (Heap.lt_size e) I.ok.above))).trans e1⟩
  ·obtain ⟨o',e1⟩:=I.base.there b o e hx;exact ⟨o',(hs.2 b (Nat.ne_of_lt (Nat.lt_of_lt_of_le (Heap.lt_size e) I.ok.above))).trans e1⟩
  ·by_cases hj:j=i
   ·subst hj;rw [hi] at e1;cases e1;rw [List.getElem?_set_self hiσ] at e2;cases e2;exact ⟨u,r,.inl ⟨hk,by simp⟩⟩
   ·rw [List.getElem?_set_ne (Ne.symm hj)] at e2;obtain ⟨u',r',q⟩:=hl j y v' e1 e2 e3;refine ⟨u',r',?_⟩;rcases q with ⟨k,e⟩ | ⟨k,c,e,z⟩
    ·refine .inl ⟨k,?_⟩;have:y ≠ x:=fun e=>hj (qNA hN e1 (e ▸ hi));simp [this,e]
    ·exact .inr ⟨k,c,e,z.sameBut hs (cne y c e)⟩
  ·obtain ⟨w',z⟩:=I.cell y c e;exact ⟨w',z.sameBut hs (cne y c e)⟩
  ·obtain ⟨e,n,ne,nf,d⟩:=I.pin p hp;exact ⟨(hs.2 p.1 ne).trans e,n,ne,nf,d⟩
 ·have hfn:X.fn x=true:=by
   rcases hf with z | z
   ·exact z
   ·rw [z] at hk;cases hk
  obtain ⟨c,hc⟩:=I.ok.has x (.inl hk);obtain ⟨w',z⟩:=I.cell x c hc;refine wpAny_storeName_cell I.ok.kind hk hc z (fun h' hc' hs=>?_);obtain ⟨oc,hoc,hocd⟩:=id z;refine h { s with heap:=h' } ⟨I.ok,I.os,I.bare,⟨fun b o e n hb hx=>?_,fun b o e n hb hx=>?_,I.base.free,fun b o e hx=>?_,I.base.tups,I.base.frzs,I.base.tbls⟩,⟨m,hn.sameBut hs (Ne.symm (cne x c hc)),fun j y v' e1 e2 e3=>?_⟩,fun y c' e=>?_,I.free,I.freeC,fun p hp=>?_,tracked ⟨oc,hoc,I.freeC x c hc⟩ hs,by simpa using I.len⟩ ⟨c,hs,.inr hc⟩
  ·exact (hs.2 b (Nat.ne_of_lt (Nat.lt_of_lt_of_le (Heap.lt_size e) (I.ok.cab x c hfn hc)))).trans (I.base.keep b o e n hb hx)
  ·obtain ⟨sl,e1⟩:=I.base.slot b o e n hb hx;exact ⟨sl,(hs.2 b (Nat.ne_of_lt (Nat.lt_of_lt_of_le (Heap.lt_size e) (I.ok.cab x c hfn hc)))).trans e1⟩
  ·obtain ⟨o',e1⟩:=I.base.there b o e hx;exact ⟨o',(hs.2 b (Nat.ne_of_lt (Nat.lt_of_lt_of_le (Heap.lt_size e) (I.ok.cab x c hfn hc)))).trans e1⟩
  ·by_cases hj:j=i
   ·subst hj;rw [hi] at e1;cases e1;rw [List.getElem?_set_self hiσ] at e2;cases e2;exact ⟨u,r,.inr ⟨.inl hk,c,hc,hc'⟩⟩
   ·rw [List.getElem?_set_ne (Ne.symm hj)] at e2;obtain ⟨u',r',q⟩:=hl j y v' e1 e2 e3;refine ⟨u',r',?_⟩;rcases q with q | ⟨k,c',e,z'⟩
    ·exact .inl q
    ·refine .inr ⟨k,c',e,z'.sameBut hs ?_⟩;rintro rfl;exact hj (qNA hN e1 (I.ok.inj _ _ _ e hc ▸ hi))
  ·by_cases hcc:c'=c
   ·subst hcc;exact ⟨_,hc'⟩
   ·obtain ⟨w2,z2⟩:=I.cell y c' e;exact ⟨w2,z2.sameBut hs hcc⟩
  ·obtain ⟨e,n,ne,nf,d⟩:=I.pin p hp;refine ⟨(hs.2 p.1 ?_).trans e,n,ne,nf,d⟩;intro q;rw [q,hoc] at e;have q':oc=p.2:=Option.some.inj e;exact d w' (by rw [<- q'];exact hocd)
theorem qMM {M:Model} {A:Around} {E:Value->Shared->Prop} {i:Nat} {x:Str} {v:V} {u:Value} {Q:Unit->Shared->Prop} (I:Inv X Ab σ H s) (hN:X.N.Nodup) (hi:X.N[i]?=some x) (hx:Loc X.env.scope x) (r:RelV v u)
  (h:∀ s',Inv X Ab (σ.set i (some v)) H s'->Q () s') (hf:X.fn x=true\/X.env.scope.names.lookup x=some .local:=by first | exact .inl rfl | exact .inr rfl | assumption):wpAny M A (storeName X.env x u) Q E s:=
 qKB I hN hi hx r (fun s' I' _=>h s' I') hf
theorem Inv.call' {s':Shared} {ch:List Addr} (I:Inv X Ab σ H s) (ho:s'.os=s.os) (u:Un (frs X.stack) ch H H' s.heap s'.heap) (hok:HOk X.prog X.w H' s'.heap) (hg:AllBare s'.gens)
  (hch:∀ b ∈ ch,(b ∈ X.ex\/X.s₀.heap.objs.size<=b)/\b ≠ X.env.locals/\(∀ x c,X.env.cells.lookup x=some c->c ≠ b)/\∀ p ∈ X.pn++Ab,p.1 ≠ b):Inv X Ab σ H' s':=by
 obtain ⟨h',g',d',t',o'⟩:=s';have e:o'=s.os:=ho;subst e;exact I.call (g':=g') (t':=t') (d':=d') u hok hg hch
end
abbrev XK:=Value->Option Addr->Hp->Prop
abbrev St:=List (Option V)
abbrev VK:=V->Hp->Prop
abbrev TE:=St->Hp->VK->Prop
abbrev TT:=St->Hp->(Bool->Hp->Prop)->Prop
abbrev TA:=St->Hp->(List V->Hp->Prop)->Prop
structure Ends where
 nx:St->Hp->Prop
 rt:VK
 bk:St->Hp->Prop:=fun _ _=>False
 ct:St->Hp->Prop:=fun _ _=>False
abbrev TS:=Ends->St->Hp->Prop
def EP (X:Cx) (Ab:List (Addr × Obj)) (σ:St) (Q:VK) (u:Value) (s':Shared):Prop:=∃ v H',Inv X Ab σ H' s'/\RelV v u/\Q v H'
def TP (X:Cx) (Ab:List (Addr × Obj)) (σ:St) (Q:Bool->Hp->Prop) (b:Bool) (s':Shared):Prop:=∃ H',Inv X Ab σ H' s'/\Q b H'
def AP (X:Cx) (Ab:List (Addr × Obj)) (σ:St) (Q:List V->Hp->Prop) (us:List Value) (s':Shared):Prop:=∃ vs H',Inv X Ab σ H' s'/\Vals vs us/\Q vs H'
def SP (X:Cx) (Ab:List (Addr × Obj)) (D:Ends) (f:Flow) (s':Shared):Prop:=
 match f with
 | .next=>∃ σ' H',Inv X Ab σ' H' s'/\D.nx σ' H'
 | .brk=>∃ σ' H',Inv X Ab σ' H' s'/\D.bk σ' H'
 | .cont=>∃ σ' H',Inv X Ab σ' H' s'/\D.ct σ' H'
 | .ret u=>∃ v σ' H',Inv X Ab σ' H' s'/\RelV v u/\D.rt v H'
def PE (X:Cx) (e:Expr) (t:TE):Prop:=
 ∀ (Ab:List (Addr × Obj)) (s:Shared) (σ:St) (H:Hp) (Q:VK),Inv X Ab σ H s->t σ H Q->wpAny (model X.prog X.w) X.A (eval e X.env) (EP X Ab σ Q) X.xe s
def PT (X:Cx) (e:Expr) (t:TT):Prop:=
 ∀ (Ab:List (Addr × Obj)) (s:Shared) (σ:St) (H:Hp) (Q:Bool->Hp->Prop),Inv X Ab σ H s->t σ H Q->wpAny (model X.prog X.w) X.A (isTrue e X.env (eval e X.env)) (TP X Ab σ Q) X.xe s
def PW (X:Cx) (e:Expr) (t:TT):Prop:=
 ∀ (whole:Sem Value) (Ab:List (Addr × Obj)) (s:Shared) (σ:St) (H:Hp) (Q:Bool->Hp->Prop),Inv X Ab σ H s->t σ H Q->wpAny (model X.prog X.w) X.A (isTrue e X.env whole) (TP X Ab σ Q) X.xe s
theorem PW.pt {X:Cx} {e:Expr} {t:TT} (h:PW X e t):PT X e t:=h _
def PA (X:Cx) (es:List Expr) (t:TA):Prop:=
 ∀ (pos:Pos) (Ab:List (Addr × Obj)) (s:Shared) (σ:St) (H:Hp) (Q:List V->Hp->Prop),Inv X Ab σ H s->t σ H Q->wpAny (model X.prog X.w) X.A (spliced (backTo pos (starEach es X.env))) (AP X Ab σ Q) X.xe s
def PS (X:Cx) (st:Stmt) (t:TS):Prop:=
 ∀ (Ab:List (Addr × Obj)) (s:Shared) (σ:St) (H:Hp) (D:Ends),Inv X Ab σ H s->t D σ H->wpAny (model X.prog X.w) X.A (exec st X.env) (SP X Ab D) X.xe s
def PSs (X:Cx) (st:List Stmt) (t:TS):Prop:=
 ∀ (Ab:List (Addr × Obj)) (s:Shared) (σ:St) (H:Hp) (D:Ends),Inv X Ab σ H s->t D σ H->wpAny (model X.prog X.w) X.A (execs st X.env) (SP X Ab D) X.xe s
theorem thn {α:Type} {t:Sem α} {Q Q':α->Shared->Prop} {M:Model} {A:Around} {E:Value->Shared->Prop} {s:Shared} (h:wpAny M A t Q E s) (hQ:∀ a s,Q a s->Q' a s):wpAny M A t Q' E s:=wpAny_mono h hQ fun _ _ x=>x
end L2
namespace L2
open PySem PySem.Spec PyProof.Rows
section
variable {X:Cx}
theorem bin {a b:Expr} {ta tb:TE} (ha:PE X a ta) (hb:PE X b tb) {Ab:List (Addr × Obj)} {s:Shared} {σ:St} {H:Hp} {R:V->V->Hp->Prop} (I:Inv X Ab σ H s) (h:ta σ H fun x H1=>tb σ H1 fun y H2=>R x y H2)
  {α:Type} {Q:α->Shared->Prop} {f:Value->Value->Sem α}
  (hf:∀ v u s2 x y H2,Inv X Ab σ H2 s2->RelV x v->RelV y u->R x y H2->wpAny (model X.prog X.w) X.A (f v u) Q X.xe s2) :
  wpAny (model X.prog X.w) X.A (eval a X.env) (fun v s₁=>wpAny (model X.prog X.w) X.A (eval b X.env) (fun u s₂=>wpAny (model X.prog X.w) X.A (f v u) Q X.xe s₂) X.xe s₁) X.xe s:=by
 refine thn (ha Ab s σ H _ I h) fun v s1 ⟨x,H1,I1,r1,q1⟩=>?_;refine thn (hb Ab s1 σ H1 _ I1 q1) fun u s2 ⟨y,H2,I2,r2,q2⟩=>?_;exact hf v u s2 x y H2 I2 r1 r2 q2
def tVar (i:Nat):TE:=fun σ H Q=>∃ v,σ[i]?=some (some v)/\Q v H
def tC (v:V):TE:=fun _ H Q=>Q v H
theorem qVV {i:Nat} {x:Str} {pos:Pos} (hN:X.N[i]?=some x) (hv:Vis X.env.scope x) (hd:(x == ("__debug__" : Str))=false:=by decide) (hcd:(x == ("__classdict__" : Str))=false:=by decide):PE X (.Name x pos) (tVar i):=by
 intro Ab s σ H Q I h;obtain ⟨v,e,h⟩:=h;obtain ⟨m,hn,hl⟩:=I.loc;obtain ⟨u,r,l⟩:=hl i x v hN e hv;have fin:EP X Ab σ Q u s:=⟨v,H,I,r,h⟩;rcases l with ⟨hk,hm⟩ | ⟨hk,c,hc,hcell⟩
 ·exact wpAny_Name (wpAny_loadName_local I.ok.kind hk hn hm fin) hd
 ·rcases hk with hk | hk
  ·exact wpAny_Name (wpAny_loadName_cell I.ok.kind hk hc hcell fin) hd
  ·exact wpAny_Name (wpAny_loadName_free I.ok.kind hk hc hcell fin hcd) hd
theorem qA6 {i j pos}:PE X (.Constant (.int i) j pos) (tC (.int i)):=fun _ _ _ H _ I h=>wpAny_Constant_int ⟨.int i,H,I.tok _,⟨_,rfl⟩,h⟩
theorem qM5 {b j pos}:PE X (.Constant (.bool b) j pos) (tC (.bl b)):=fun _ _ _ H _ I h=>Constant_bool ⟨.bl b,H,I,rfl,h⟩
theorem qCZ {j pos}:PE X (.Constant .none j pos) (tC .non):=fun _ _ _ H _ I h=>Constant_none ⟨.non,H,I,rfl,h⟩
theorem qB0 {x j pos}:PE X (.Constant (.str x) j pos) (tC (.str x)):=fun _ _ _ H _ I h=>Calls.Constant_str ⟨.str x,H,I.tok _,⟨_,rfl⟩,h⟩
def Gl (X:Cx) (x:Str):Prop:=X.env.kindOf x=some .globalImplicit
theorem qPW {E:Value->Shared->Prop} {Ab:List (Addr × Obj)} {s:Shared} {σ:St} {H:Hp} {x:Str} {u:Value} {pos:Pos} {Q:Value->Shared->Prop} (I:Inv X Ab σ H s) (hg:Gl X x) (hm:X.mg x=some u) (h:Q u s)
  (hd:(x == ("__debug__" : Str))=false:=by decide):wpAny (model X.prog X.w) X.A (eval (.Name x pos) X.env) Q E s:=
 Calls.Name_function_global I.ok.kind hg (Calls.loadGlobal_global (by rw [I.ok.glob];exact I.mod.glob.keeps I.bk) hm h) hd
theorem qGC {E:Value->Shared->Prop} {Ab:List (Addr × Obj)} {s:Shared} {σ:St} {H:Hp} {x:Str} {u:Value} {pos:Pos} {Q:Value->Shared->Prop} (I:Inv X Ab σ H s) (hg:Gl X x) (hm:X.mg x=none) (hv:bootBuiltins x=some u) (h:Q u s)
  (hn:x ≠ "__name__":=by decide) (hd:(x == ("__debug__" : Str))=false:=by decide):wpAny (model X.prog X.w) X.A (eval (.Name x pos) X.env) Q E s:=by
 obtain ⟨mb,h1,h2⟩:=I.mod.blt;exact Calls.Name_function_global I.ok.kind hg (Calls.loadGlobal_builtin (by rw [I.ok.glob];exact I.mod.glob.keeps I.bk) hm (by rw [I.ok.blt];exact h1.keeps I.bk) ((h2 x hn).trans hv) h) hd
theorem qU3 {x:Str} {v:V} {u:Value} {pos:Pos} (hg:Gl X x) (hm:X.mg x=some u) (r:RelV v u) (hd:(x == ("__debug__" : Str))=false:=by decide):PE X (.Name x pos) (tC v):=
 fun _ _ _ H _ I h=>qPW I hg hm ⟨v,H,I,r,h⟩ hd
theorem qC5 {x:Str} {v:V} {u:Value} {pos:Pos} (hg:Gl X x) (hm:X.mg x=none) (hv:bootBuiltins x=some u) (r:RelV v u) (hn:x ≠ "__name__":=by decide) (hd:(x == ("__debug__" : Str))=false:=by decide):PE X (.Name x pos) (tC v):=
 fun _ _ _ H _ I h=>qGC I hg hm hv ⟨v,H,I,r,h⟩ hn hd
variable {a b:Expr} {ta tb:TE} {pos:Pos}
def PC (X:Cx) (op:CmpOp) (a b:Expr) (t:TE):Prop:=
 ∀ (Ab:List (Addr × Obj)) (s:Shared) (σ:St) (H:Hp) (Q:VK),Inv X Ab σ H s->t σ H Q->
  wpAny (model X.prog X.w) X.A (eval a X.env) (fun v s₁=>wpAny (model X.prog X.w) X.A (eval b X.env) (fun u s₂=>wpAny (model X.prog X.w) X.A (compareOp op v u) (EP X Ab σ Q) X.xe s₂) X.xe s₁) X.xe s
theorem qNB (b:Expr) {op:CmpOp} (h:op ≠ .In) (h2:op ≠ .NotIn):behindInMarks op b=false:=by
 have e1:(op == CmpOp.In)=false:=by cases op <;> first | rfl | exact absurd rfl h
 have e2:(op == CmpOp.NotIn)=false:=by cases op <;> first | rfl | exact absurd rfl h2
 cases b <;> simp [behindInMarks,e1,e2]
def tIsN (ta:TE):TE:=fun σ H Q=>ta σ H fun x H1=>Q (.bl (decide (x=.non))) H1
def qX7 (ta:TE):TE:=fun σ H Q=>ta σ H fun x H1=>Q (.bl (!decide (x=.non))) H1
theorem RelV.none_iff {x:V} {v:Value} (r:RelV x v):(v == Value.none)=decide (x=.non):=by
 cases x with
 | non=>cases r;rfl
 | bl _=>cases r;rfl
 | int _=>obtain ⟨t,rfl⟩:=r;rfl
 | str _=>obtain ⟨t,rfl⟩:=r;rfl
 | byt _=>obtain ⟨t,rfl⟩:=r;rfl
 | flt _=>obtain ⟨t,rfl⟩:=r;rfl
 | ref _=>cases r;rfl
 | ty _=>cases r;rfl
theorem qF7 {j pos'} (ha:PE X a ta):PC X .Is a (.Constant .none j pos') (tIsN ta):=by
 intro Ab s σ H Q I h;refine thn (ha Ab s σ H _ I h) fun v s1 ⟨x,H1,I1,r1,q1⟩=>?_;exact Constant_none (is_none_gen ⟨.bl _,H1,I1,by rw [r1.none_iff];rfl,q1⟩)
theorem qJJ {j pos'} (ha:PE X a ta):PC X .IsNot a (.Constant .none j pos') (qX7 ta):=by
 intro Ab s σ H Q I h;refine thn (ha Ab s σ H _ I h) fun v s1 ⟨x,H1,I1,r1,q1⟩=>?_;exact Constant_none (isnot_none_gen ⟨.bl _,H1,I1,by rw [r1.none_iff];rfl,q1⟩)
def tB (t:TE):TT:=fun σ H Q=>t σ H fun x H1=>∃ c,x=.bl c/\Q c H1
theorem qVY {op:CmpOp} {t:TE} (h:PC X op a b t) (h1:behindInMarks op b=false:=by first | exact qNB _ (by decide) (by decide) | rfl):PE X (.Compare a [op] [b] pos) t:=fun Ab s σ H Q I hw=>wpAny_Compare1 (h Ab s σ H Q I hw) h1
theorem qCP {op:CmpOp} {t:TE} (h:PC X op a b t) (h1:behindInMarks op b=false:=by first | exact qNB _ (by decide) (by decide) | rfl):PT X (.Compare a [op] [b] pos) (tB t):=by
 intro Ab s σ H Q I hw;refine wpAny_isTrue_Compare1 (thn (h Ab s σ H _ I hw) fun v s1 h1=>thn h1 fun u s2 h2=>thn h2 fun c s3 ⟨x,H1,I1,r1,q1⟩=>?_) h1;obtain ⟨d,rfl,q⟩:=q1;cases r1;exact wpAny_truthy_bool ⟨H1,I1,q⟩
theorem qDT {e:Expr} {t:TE} (h:PE X e t) (he:∀ whole,isTrue e X.env whole=(do let v <- whole;standAt e.pos;holding [v] (truthy v)):=by intro _;rfl):PT X e (tB t):=by
 intro Ab s σ H Q I hw;refine isTrue_plain (thn (h Ab s σ H _ I hw) fun v s1 ⟨x,H1,I1,r1,q1⟩=>?_) (he _);obtain ⟨d,rfl,q⟩:=q1;cases r1;exact wpAny_truthy_bool ⟨H1,I1,q⟩
variable {tA tB':TT} {rest:List Expr}
def tAnd (t u:TT):TT:=fun σ H Q=>t σ H fun c H1=>if c=true then u σ H1 Q else Q false H1
def tOr (t u:TT):TT:=fun σ H Q=>t σ H fun c H1=>if c=true then Q true H1 else u σ H1 Q
def tNot (t:TT):TT:=fun σ H Q=>t σ H fun c H1=>Q (!c) H1
theorem qP7 (ha:PT X a tA):PW X (.BoolOp .And [a] pos) tA:=by
 intro wh Ab s σ H Q I h;refine isTrue_and (thn (ha Ab s σ H Q I h) fun c s1 e=>?_);cases c with
 | true=>exact isTrue_and_nil e
 | false=>exact e
theorem qMZ (ha:PT X a tA):PW X (.BoolOp .Or [a] pos) tA:=by
 intro wh Ab s σ H Q I h;refine isTrue_or (thn (ha Ab s σ H Q I h) fun c s1 e=>?_);cases c with
 | false=>exact isTrue_or_nil e
 | true=>exact e
theorem qT0 (ha:PT X a tA) (hb:PW X (.BoolOp .And (b::rest) pos) tB'):PW X (.BoolOp .And (a::b::rest) pos) (tAnd tA tB'):=by
 intro wh Ab s σ H Q I h;refine isTrue_and (thn (ha Ab s σ H _ I h) fun c s1 ⟨H1,I1,q1⟩=>?_);cases c with
 | true=>exact hb wh Ab s1 σ H1 Q I1 q1
 | false=>exact ⟨H1,I1,q1⟩
theorem qM4 (ha:PT X a tA) (hb:PW X (.BoolOp .Or (b::rest) pos) tB'):PW X (.BoolOp .Or (a::b::rest) pos) (tOr tA tB'):=by
 intro wh Ab s σ H Q I h;refine isTrue_or (thn (ha Ab s σ H _ I h) fun c s1 ⟨H1,I1,q1⟩=>?_);cases c with
 | true=>exact ⟨H1,I1,q1⟩
 | false=>exact hb wh Ab s1 σ H1 Q I1 q1
theorem qGA (ha:PT X a tA):PT X (.UnaryOp .Not a pos) (tNot tA):=by
 intro Ab s σ H Q I h;exact isTrue_not (ha Ab s σ H (fun c H1=>Q (!c) H1) I h)
def qXF (ta tb:TE):TE:=fun σ H Q=>ta σ H fun x H1=>∃ c,x=.bl c/\if c=true then tb σ H1 Q else Q (.bl false) H1
def qX6 (ta:TE):TE:=fun σ H Q=>ta σ H fun x H1=>∃ c,x=.bl c/\Q (.bl (!c)) H1
theorem qT3 {op} {t:TE} (h:PE X a t):PE X (.BoolOp op [a] pos) t:=fun Ab s σ H Q I hw=>BoolOp_one (h Ab s σ H Q I hw)
theorem qPJ (ha:PE X a ta) (hb:PE X (.BoolOp .And (b::rest) pos) tb):PE X (.BoolOp .And (a::b::rest) pos) (qXF ta tb):=by
 intro Ab s σ H Q I h;refine BoolOp_and (thn (ha Ab s σ H _ I h) fun v s1 ⟨x,H1,I1,r1,q1⟩=>?_);obtain ⟨c,rfl,q1⟩:=q1;cases r1;refine wpAny_truthy_bool ?_;cases c with
 | true=>exact hb Ab s1 σ H1 Q I1 q1
 | false=>exact ⟨.bl false,H1,I1,rfl,q1⟩
theorem qVW (ha:PE X a ta):PE X (.UnaryOp .Not a pos) (qX6 ta):=by
 intro Ab s σ H Q I h;refine UnaryOp_ (thn (ha Ab s σ H _ I h) fun v s1 ⟨x,H1,I1,r1,q1⟩=>?_);obtain ⟨c,rfl,q1⟩:=q1;cases r1;exact not_of (wpAny_truthy_bool ⟨.bl (!c),H1,I1,rfl,q1⟩)
def tIf (t:TT) (ta tb:TE):TE:=fun σ H Q=>t σ H fun c H1=>if c=true then ta σ H1 Q else tb σ H1 Q
theorem qCF {c:Expr} (hc:PT X c tA) (ha:PE X a ta) (hb:PE X b tb):PE X (.IfExp c a b pos) (tIf tA ta tb):=by
 intro Ab s σ H Q I h;refine wpAny_IfExp (thn (hc Ab s σ H _ I h) fun d s1 ⟨H1,I1,q1⟩=>?_);cases d with
 | true=>exact ha Ab s1 σ H1 Q I1 q1
 | false=>exact hb Ab s1 σ H1 Q I1 q1
end
end L2
namespace L2
open PySem PySem.Spec PyProof.Rows
def SqL (K:PySem.W.Frag) (H:Hp) (a:Addr) (xs:List V):Prop:=
 Rd H a (.lst xs)\/
  ∃ (o:Obj) (its:Array Value) (n:Nat),K.lookup a=some o/\o.cls=.type "list"/\o.dict=none/\o.data=.seq its n/\its.size<=sizeLine/\Vals xs its.toList
def SqT (K:PySem.W.Frag) (H:Hp) (a:Addr) (xs:List V):Prop:=
 Rd H a (.tup xs)\/
  ∃ (o:Obj) (its:Array Value) (n:Nat),K.lookup a=some o/\o.cls=.type "tuple"/\o.data=.seq its n/\its.size<=sizeLine/\Vals xs its.toList
noncomputable def absV:Value->Option V
 | .none=>some .non
 | .bool b=>some (.bl b)
 | .int i _=>some (.int i)
 | .str x _=>some (.str x)
 | .bytes b _=>some (.byt b)
 | .float b _=>some (.flt b)
 | .ref a=>some (.ref a)
 | .type n=>some (.ty n)
 | _=>none
theorem RelV.abs {x:V} {u:Value} (r:RelV x u):absV u=some x:=by
 cases x with
 | non=>cases r;rfl
 | bl _=>cases r;rfl
 | int _=>obtain ⟨t,rfl⟩:=r;rfl
 | str _=>obtain ⟨t,rfl⟩:=r;rfl
 | byt _=>obtain ⟨t,rfl⟩:=r;rfl
 | flt _=>obtain ⟨t,rfl⟩:=r;rfl
 | ref _=>cases r;rfl
 | ty _=>cases r;rfl
theorem RelV.inj {x y:V} {u:Value} (r:RelV x u) (q:RelV y u):x=y:=Option.some.inj (r.abs.symm.trans q.abs)
theorem Vals.inj:∀ {xs ys:List V} {us:List Value},Vals xs us->Vals ys us->xs=ys
 | _,_,_,.nil,.nil=>rfl
 | _,_,_,.cons r t,.cons r' t'=>by rw [r.inj r',Vals.inj t t']
section
variable {X:Cx} {Ab:List (Addr × Obj)} {σ:St} {H:Hp} {s:Shared} {a:Addr} {xs ys:List V}
theorem SqL.of {K:PySem.W.Frag} (h:H a=some (.lst xs)):SqL K H a xs:=.inl (.inl h)
theorem SqT.of {K:PySem.W.Frag} (h:H a=some (.tup xs)):SqT K H a xs:=.inl (.inl h)
theorem Inv.list (I:Inv X Ab σ H s) (h:SqL X.K H a xs):∃ its:List Value,Vals xs its/\PlainL s.heap a its.toArray/\xs.length<=sizeLine:=by
 rcases h with h | ⟨o,its,n,hk,hc,hd,hs,hz,r⟩
 ·obtain ⟨z,its,n,r,e⟩:=h.ok I.hok;exact ⟨its,r,⟨_,n,e,rfl,rfl,rfl⟩,z⟩
 ·refine ⟨its.toList,r,⟨o,n,I.kIn a o hk,hc,hd,by simpa using hs⟩,?_⟩
  have e:=r.length;simp only [Array.length_toList] at e
  lia
theorem Inv.tuple (I:Inv X Ab σ H s) (h:SqT X.K H a xs):∃ its:List Value,Vals xs its/\IsTup s.heap a its.toArray/\xs.length<=sizeLine:=by
 rcases h with h | ⟨o,its,n,hk,hc,hs,hz,r⟩
 ·obtain ⟨z,its,r,p⟩:=h.ok I.hok;exact ⟨its,r,p,z⟩
 ·refine ⟨its.toList,r,⟨o,I.kIn a o hk,hc,n,by simpa using hs⟩,?_⟩
  have e:=r.length;simp only [Array.length_toList] at e
  lia
theorem Inv.list_inj (I:Inv X Ab σ H s) (h:SqL X.K H a xs) (h':SqL X.K H a ys):xs=ys:=by
 obtain ⟨its,r,⟨o,n,e,_,_,d⟩,_⟩:=I.list h;obtain ⟨its',r',⟨o',n',e',_,_,d'⟩,_⟩:=I.list h';rw [e] at e';cases e';rw [d] at d'
 injection d' with d1 _
 have:its=its':=by simpa using congrArg Array.toList d1
 subst this;exact r.inj r'
theorem Inv.tuple_inj (I:Inv X Ab σ H s) (h:SqT X.K H a xs) (h':SqT X.K H a ys):xs=ys:=by
 obtain ⟨its,r,⟨o,e,_,n,d⟩,_⟩:=I.tuple h;obtain ⟨its',r',⟨o',e',_,n',d'⟩,_⟩:=I.tuple h';rw [e] at e';cases e';rw [d] at d'
 injection d' with d1 _
 have:its=its':=by simpa using congrArg Array.toList d1
 subst this;exact r.inj r'
end
noncomputable abbrev Cx.wish (X:Cx) (E:Value->Shared->Prop):Cx:={ X with xe:=E }
noncomputable abbrev Cx.nox (X:Cx):Cx:=X.wish fun _ _=>False
theorem Cx.Ok.wish {X:Cx} (ok:X.Ok) (E:Value->Shared->Prop):(X.wish E).Ok:=
 ⟨ok.mod,ok.kind,ok.glob,ok.blt,ok.above,ok.inj,ok.has,ok.cab,ok.hd,ok.frames,ok.stk,ok.exf,ok.bs,ok.bsz,ok.noex,ok.exfs,ok.funs,ok.frf⟩
theorem Cx.Ok.unwish {X:Cx} {E:Value->Shared->Prop} (ok:(X.wish E).Ok):X.Ok:=
 ⟨ok.mod,ok.kind,ok.glob,ok.blt,ok.above,ok.inj,ok.has,ok.cab,ok.hd,ok.frames,ok.stk,ok.exf,ok.bs,ok.bsz,ok.noex,ok.exfs,ok.funs,ok.frf⟩
section
variable {X:Cx} {Ab:List (Addr × Obj)} {σ:St} {H:Hp} {s:Shared} {E:Value->Shared->Prop}
theorem Inv.wish (I:Inv X Ab σ H s) (E:Value->Shared->Prop):Inv (X.wish E) Ab σ H s:=⟨I.ok.wish E,I.os,I.bare,I.base,I.loc,I.cell,I.free,I.freeC,I.pin,I.hok,I.len⟩
theorem Inv.unwish (I:Inv (X.wish E) Ab σ H s):Inv X Ab σ H s:=⟨I.ok.unwish,I.os,I.bare,I.base,I.loc,I.cell,I.free,I.freeC,I.pin,I.hok,I.len⟩
theorem SP.unwish {D:Ends} {f:Flow} {s':Shared} (h:SP (X.wish E) Ab D f s'):SP X Ab D f s':=by
 cases f with
 | next=>obtain ⟨σ',H',I,q⟩:=h;exact ⟨σ',H',I.unwish,q⟩
 | brk=>obtain ⟨σ',H',I,q⟩:=h;exact ⟨σ',H',I.unwish,q⟩
 | cont=>obtain ⟨σ',H',I,q⟩:=h;exact ⟨σ',H',I.unwish,q⟩
 | ret u=>obtain ⟨v,σ',H',I,r,q⟩:=h;exact ⟨v,σ',H',I.unwish,r,q⟩
theorem PSs.nox {st:List Stmt} {t:TS} (h:PSs X.nox st t):PSs X st t:=fun Ab s σ H D I hw=>
 wpAny_mono (h Ab s σ H D (I.wish _) hw) (fun _ _ q=>q.unwish) fun _ _ z=>False.elim z
end
section
variable {X:Cx} {st:Stmt} {rest:List Stmt} {t u:TS} {e:Expr} {te:TE} {pos:Pos}
def qX8:TS:=fun D σ H=>D.nx σ H
def tSeq (t u:TS):TS:=fun D σ H=>t { D with nx:=u D } σ H
theorem qAJ:PSs X [] qX8:=fun _ _ σ H _ I h=>wpAny_execs_nil ⟨σ,H,I,h⟩
theorem qA4 (h1:PS X st t) (h2:PSs X rest u):PSs X (st::rest) (tSeq t u):=by
 intro Ab s σ H D I h;refine wpAny_execs_cons (thn (h1 Ab s σ H { D with nx:=u D } I h) fun f s1 q=>?_);cases f with
 | next=>
  obtain ⟨σ',H',I',q⟩:=q;exact h2 Ab s1 σ' H' D I' q
 | ret v=>exact q
 | brk=>exact q
 | cont=>exact q
theorem qA7 (h1:PS X st t):PSs X [st] t:=by
 intro Ab s σ H D I h;refine wpAny_execs_cons (thn (h1 Ab s σ H D I h) fun f s1 q=>?_);cases f with
 | next=>exact wpAny_execs_nil q
 | ret v=>exact q
 | brk=>exact q
 | cont=>exact q
theorem Inv.quiet {Ab:List (Addr × Obj)} {σ:St} {H:Hp} {s:Shared} (I:Inv X Ab σ H s):interactive X.env=false:=by simp [interactive,I.ok.kind]
def qXC (te:TE):TS:=fun D σ H=>te σ H fun _ H1=>D.nx σ H1
theorem qC4 (he:PE X e te) (hs:swapsWith e none pos.line X.env=pure false:=by rfl):PS X (.Expr e pos) (qXC te):=by
 intro Ab s σ H D I h;exact wpAny_Expr_any (thn (he Ab s σ H _ I h) fun v s1 ⟨x,H1,I1,r1,q1⟩=>⟨σ,H1,I1,q1⟩) I.quiet hs
def tRet (te:TE):TS:=fun D σ H=>te σ H D.rt
theorem qAE (he:PE X e te):PS X (.Return (some e) pos) (tRet te):=by
 intro Ab s σ H D I h;exact wpAny_Return_some (thn (he Ab s σ H _ I h) fun v s1 ⟨x,H1,I1,r1,q1⟩=>⟨x,σ,H1,I1,r1,q1⟩)
def tIfS (c:TT) (t u:TS):TS:=fun D σ H=>c σ H fun b H1=>if b=true then t D σ H1 else u D σ H1
theorem qBE {c:Expr} {a b:List Stmt} {tc:TT} (hc:PT X c tc) (ha:PSs X a t) (hb:PSs X b u):PS X (.If c a b pos) (tIfS tc t u):=by
 intro Ab s σ H D I h;refine wpAny_If (thn (hc Ab s σ H _ I h) fun d s1 ⟨H1,I1,q1⟩=>?_);cases d with
 | true=>exact ha Ab s1 σ H1 D I1 q1
 | false=>exact hb Ab s1 σ H1 D I1 q1
end
abbrev TG:=V->St->Hp->(St->Hp->Prop)->Prop
abbrev TGs:=List V->St->Hp->(St->Hp->Prop)->Prop
def PG (X:Cx) (target:Expr) (t:TG):Prop:=
 ∀ (Ab:List (Addr × Obj)) (s:Shared) (σ:St) (H:Hp) (v:V) (u:Value) (Q:St->Hp->Prop),Inv X Ab σ H s->RelV v u->t v σ H Q->
  wpAny (model X.prog X.w) X.A (assign target X.env u) (fun _ s'=>∃ σ' H',Inv X Ab σ' H' s'/\Q σ' H') X.xe s
def PGs (X:Cx) (ts:List Expr) (t:TGs):Prop:=
 ∀ (Ab:List (Addr × Obj)) (s:Shared) (σ:St) (H:Hp) (vs:List V) (us:List Value) (Q:St->Hp->Prop),Inv X Ab σ H s->Vals vs us->t vs σ H Q->
  wpAny (model X.prog X.w) X.A (assignInOrder ((assignEach ts X.env).map (·.2)) us) (fun _ s'=>∃ σ' H',Inv X Ab σ' H' s'/\Q σ' H') X.xe s
abbrev TSet:=V->V->V->Hp->(Hp->Prop)->Prop
def PSet (X:Cx) (t:TSet):Prop:=
 ∀ (Ab:List (Addr × Obj)) (s:Shared) (σ:St) (H:Hp) (o i v:V) (ov iv u:Value) (Q:Hp->Prop),Inv X Ab σ H s->RelV o ov->RelV i iv->RelV v u->t o i v H Q->
  wpAny (model X.prog X.w) X.A (setItem ov iv u) (fun _ s'=>∃ H',Inv X Ab σ H' s'/\Q H') X.xe s
section
variable {X:Cx} {pos:Pos}
def qQE (i:Nat):TG:=fun v σ H Q=>Q (σ.set i (some v)) H
theorem qB9 {i:Nat} {x:Str} (hN:X.N.Nodup) (hi:X.N[i]?=some x) (hx:Loc X.env.scope x) (hf:X.fn x=true\/X.env.scope.names.lookup x=some .local:=by first | exact .inl rfl | exact .inr rfl | assumption):PG X (.Name x pos) (qQE i):=by
 intro Ab s σ H v u Q I r h;exact wpAny_assign_Name (qMM I hN hi hx r (fun s' I'=>⟨_,H,I',h⟩) hf)
def gNil:TGs:=fun vs σ H Q=>vs=[]/\Q σ H
def qY2 (t:TG) (u:TGs):TGs:=fun vs σ H Q=>∃ v r,vs=v::r/\t v σ H fun σ' H'=>u r σ' H' Q
theorem qHB:PGs X [] gNil:=by
 intro Ab s σ H vs us Q I r h;obtain ⟨e,h⟩:=h;subst e;cases r;exact assignInOrder_nil ⟨σ,H,I,h⟩
theorem qBO {e:Expr} {es:List Expr} {t:TG} {u:TGs} (h1:PG X e t) (h2:PGs X es u)
  (hs:(assignEach (e::es) X.env).map (·.2)=assign e X.env::(assignEach es X.env).map (·.2):=by rfl):PGs X (e::es) (qY2 t u):=by
 intro Ab s σ H vs us Q I r h;obtain ⟨v,vr,e1,h⟩:=h;subst e1;cases r with
 | cons r rr=>
  rw [hs];refine assignInOrder_cons (thn (h1 Ab s σ H _ _ _ I r h) fun _ s1 ⟨σ1,H1,I1,q1⟩=>?_);exact h2 Ab s1 σ1 H1 _ _ Q I1 rr q1
def gTup (K:PySem.W.Frag) (n:Nat) (t:TGs):TG:=fun v σ H Q=>∃ a xs,v=.ref a/\SqT K H a xs/\xs.length=n/\t xs σ H Q
theorem qN5 {es:List Expr} {k:Nat} {t:TGs} {n:Nat} (hc:X.calm=true) (h:PGs X es t)
  (hn:(assignEach es X.env).length=n:=by rfl) (hst:(assignEach es X.env).findIdx? (·.1)=none:=by rfl):PG X (.Tuple es k pos) (gTup X.K n t):=by
 intro Ab s σ H v u Q I r hw;obtain ⟨a,xs,e1,hq,hl,hw⟩:=hw;subst e1;cases r;obtain ⟨its,rv,ht,hz⟩:=I.tuple hq;refine assign_Tuple_tuple (I.ok.hd hc) ht (by simp [hn,<- hl,rv.length]) hst fun h' hx=>?_
 have I1:Inv X Ab σ H { s with heap:=h' }:=I.kept (t':=s.toks) fun b o e=>hx b o (Nat.ne_of_lt (Heap.lt_size e)) e;exact h Ab _ σ H xs _ Q I1 (by simpa using rv) hw
def gSub (to ti:TE) (t:TSet):TG:=fun v σ H Q=>to σ H fun o H1=>ti σ H1 fun i H2=>t o i v H2 fun H3=>Q σ H3
theorem qVU {o i:Expr} {to ti:TE} {t:TSet} (ho:PE X o to) (hi:PE X i ti) (hs:PSet X t)
  (ha:∀ v,assign (.Subscript o i pos) X.env v=(do
   let ov <- holding [v] (eval o X.env)
   let iv <- holding [v,ov] (eval i X.env)
   standAt pos
   holding [v,ov,iv] (setItem ov iv v)
   release [v,ov,iv] []):=by intro _;rfl):PG X (.Subscript o i pos) (gSub to ti t):=by
 intro Ab s σ H v u Q I r h;rw [ha];refine wpAny_bind (wpAny_holding (thn (ho Ab s σ H _ I h) fun ov s1 ⟨x,H1,I1,r1,q1⟩=>?_));refine wpAny_bind (wpAny_holding (thn (hi Ab s1 σ H1 _ I1 q1) fun iv s2 ⟨y,H2,I2,r2,q2⟩=>?_));refine wpAny_bind (wpAny_standAt (wpAny_bind (wpAny_holding (thn (hs Ab s2 σ H2 x y v ov iv u _ I2 r1 r2 r q2) fun _ s3 ⟨H3,I3,q3⟩=>?_))));exact wpAny_release ⟨σ,H3,I3,q3⟩
def tAsg (te:TE) (g:TG):TS:=fun D σ H=>te σ H fun x H1=>g x σ H1 D.nx
theorem qP9 {tg e:Expr} {te:TE} {g:TG} (he:PE X e te) (hg:PG X tg g) (hs:swapsWithSole [tg] e pos.line X.env=pure false:=by rfl) (hw:swappedStores [tg] e X.env=pure none:=by rfl)
  (h1:(assignEach [tg] X.env).map (·.2)=[assign tg X.env]:=by rfl):PS X (.Assign [tg] e pos) (tAsg te g):=by
 intro Ab s σ H D I h;refine wpAny_Assign_stores (thn (he Ab s σ H _ I h) fun v s1 ⟨x,H1,I1,r1,q1⟩=>?_) hs hw;rw [h1];exact thn (hg Ab s1 σ H1 x v _ I1 r1 q1) fun _ s2 q=>q
theorem qAD {i:Nat} {x:Str} {e:Expr} {te:TE} {pos':Pos} (hN:X.N.Nodup) (hi:X.N[i]?=some x) (hx:Loc X.env.scope x) (he:PE X e te) (hs:swapsWith e (some (.Name x pos')) pos.line X.env=pure false:=by rfl) (hf:X.fn x=true\/X.env.scope.names.lookup x=some .local:=by first | exact .inl rfl | exact .inr rfl | assumption) :
  PS X (.Assign [.Name x pos'] e pos) (tAsg te (qQE i)):=by
 intro Ab s σ H D I h;refine wpAny_Assign_Name (thn (he Ab s σ H _ I h) fun v s1 ⟨y,H1,I1,r1,q1⟩=>?_) hs;exact qMM I1 hN hi hx r1 (fun s2 I2=>⟨_,H1,I2,q1⟩) hf
end
section
variable {X:Cx} {pos:Pos}
def qVD (c:TT) (tb:TS):TS:=fun D σ H=>∃ W:Nat->St->Hp->Prop,(∃ m,W m σ H)/\∀ m σ H,W m σ H->
 c σ H fun b H1=>if b=true then ∃ N:St->Hp->Prop,(∀ σ' H',N σ' H'->∃ m',m'<m/\W m' σ' H')/\tb { D with nx:=N,ct:=N,bk:=D.nx } σ H1 else D.nx σ H1
theorem qGU {c:Expr} {body:List Stmt} {tc:TT} {tb:TS} (hp:PassesOwn (model X.prog X.w) X.A X.env X.xe) (hc:PT X c tc) (hb:PSs X body tb):PS X (.While c body [] pos) (qVD tc tb):=by
 intro Ab s σ H D I h;obtain ⟨W,⟨m0,w0⟩,turn⟩:=h;refine wpAny_While (codeAny_whileLoop (fun n s'=>∃ σ' H',Inv X Ab σ' H' s'/\W n σ' H') ?_ m0 ⟨σ,H,I,w0⟩);rintro n s1 ⟨σ1,H1,I1,w1⟩;refine wpAny_passesOwn hp (thn (hc Ab s1 σ1 H1 _ I1 (turn n σ1 H1 w1)) fun b s2 ⟨H2,I2,q2⟩=>?_);cases b with
 | true=>
  obtain ⟨N,hN,q2⟩:=q2;rw [if_pos rfl];refine wpAny_passesOwn hp (thn (hb Ab s2 σ1 H2 _ I2 q2) fun f s3 q3=>?_);cases f with
  | next=>
   obtain ⟨σ3,H3,I3,n3⟩:=q3;obtain ⟨m',hm,w3⟩:=hN σ3 H3 n3;exact ⟨m',hm,σ3,H3,I3,w3⟩
  | cont=>
   obtain ⟨σ3,H3,I3,n3⟩:=q3;obtain ⟨m',hm,w3⟩:=hN σ3 H3 n3;exact ⟨m',hm,σ3,H3,I3,w3⟩
  | brk=>exact q3
  | ret v=>exact q3
 | false=>
  rw [if_neg Bool.false_ne_true];exact wpAny_execs_nil ⟨σ1,H2,I2,q2⟩
end
structure It where
 go:Nat->Hp->Prop
 yld:Nat->Hp->V->Hp->Prop
 stop:Nat->Hp->Prop
def FpOk (X:Cx) (Ab:List (Addr × Obj)) (H:Hp) (b:Addr):Prop:=
 H b=none/\b ≠ X.env.locals/\b ∉ X.fs/\(b ∈ X.ex\/X.s₀.heap.objs.size<=b)/\(∀ x c,X.env.cells.lookup x=some c->c ≠ b)/\∀ p ∈ X.pn++Ab,p.1 ≠ b
theorem Inv.fpOk {X:Cx} {Ab:List (Addr × Obj)} {σ:St} {H H':Hp} {s:Shared} {b:Addr} (I:Inv X Ab σ H s) (hb:s.heap.objs.size<=b) (hn:H' b=none):FpOk X Ab H' b:=by
 refine ⟨hn,Nat.ne_of_gt (Nat.lt_of_lt_of_le I.lt hb),I.nofs hb,.inr (Nat.le_trans I.sz hb),fun x c e z=>?_,fun p hp z=>?_⟩
 ·obtain ⟨v,q⟩:=I.cell x c e;exact absurd (Nat.lt_of_lt_of_le q.lt (by rw [z];exact hb)) (Nat.lt_irrefl _)
 ·exact absurd (Nat.lt_of_lt_of_le (Heap.lt_size (I.pin p hp).1) (by rw [z];exact hb)) (Nat.lt_irrefl _)
structure Turn (P:Program) (w:World) (K:PySem.W.Frag) (tg:Expr) (J:It) (fp:List Addr) (it:Addr) (tn:Nat->Heap->Prop):Prop where
 mem:it ∈ fp
 obj:∀ i h,tn i h->∀ b ∈ fp,∃ o,h.get? b=some o/\∀ v,o.data ≠ .cell v
 keep:∀ i h h',tn i h->(∀ b ∈ fp,∀ o,h.get? b=some o->h'.get? b=some o)->tn i h'
 item:∀ (X:Cx),X.prog=P->X.w=w->X.K=K->X.calm=true->∀ (i:Nat) (Ab:List (Addr × Obj)) (s:Shared) (σ:St) (H:Hp) (E:Value->Shared->Prop),Inv X Ab σ H s->(∀ b ∈ fp,FpOk X Ab H b)->tn i s.heap->J.go i H->
  wpAny (model P w) X.A (pyNext (.ref it)) (fun r s1=>∃ u,r=some u/\
   wpAny (model P w) X.A (letOwnedTupleGo tg (.ref it) u) (fun _ s2=>∃ x H',Inv X Ab σ H' s2/\RelV x u/\J.yld i H x H'/\tn (i+1) s2.heap/\∀ b ∈ fp,H' b=none) E s1) E s
 done:∀ (X:Cx),X.prog=P->X.w=w->X.K=K->X.calm=true->∀ (i:Nat) (Ab:List (Addr × Obj)) (s:Shared) (σ:St) (H:Hp) (E:Value->Shared->Prop),Inv X Ab σ H s->(∀ b ∈ fp,FpOk X Ab H b)->tn i s.heap->J.stop i H->
  wpAny (model P w) X.A (pyNext (.ref it)) (fun r s1=>r=none/\Inv X Ab σ H s1) E s
 self:∀ (A:Around) (i:Nat) (s:Shared) (Q:Value->Shared->Prop) (E:Value->Shared->Prop),tn i s.heap->Q (.ref it) s->wpAny (model P w) A (pyIter (.ref it)) Q E s
abbrev TI:=St->Hp->(It->Hp->Prop)->Prop
def PIE (X:Cx) (Ab:List (Addr × Obj)) (σ:St) (tg:Expr) (R:It->Hp->Prop) (itv:Value) (s2:Shared):Prop:=
 ∃ (it:Addr) (fp:List Addr) (tn:Nat->Heap->Prop) (J:It) (H':Hp),itv=.ref it/\Inv X Ab σ H' s2/\Turn X.prog X.w X.K tg J fp it tn/\tn 0 s2.heap/\(∀ b ∈ fp,FpOk X Ab H' b)/\R J H'
def PI (X:Cx) (tg iter:Expr) (wi:TI):Prop:=
 ∀ (Ab:List (Addr × Obj)) (s:Shared) (σ:St) (H:Hp) (R:It->Hp->Prop),Inv X Ab σ H s->wi σ H R->
  wpAny (model X.prog X.w) X.A (eval iter X.env) (fun v s1=>wpAny (model X.prog X.w) X.A (pyIter v) (PIE X Ab σ tg R) X.xe s1) X.xe s
theorem qSG {M:Model} {A:Around} {E:Value->Shared->Prop} {s:Shared} {tg:Expr} {it:Addr} {u:Value} {o:Obj} {n:String} {vs:Array Value} {Q:Unit->Shared->Prop} (ho:s.heap.get? it=some o) (hc:o.cls=.type n) (hd:o.data=.fields vs)
  (hn:["enumerate","zip","dict_itemiterator","dict_reverseitemiterator","odict_iterator","itertools.zip_longest","itertools.pairwise"].contains n=false) (hQ:Q () s):wpAny M A (letOwnedTupleGo tg (.ref it) u) Q E s:=by
 unfold letOwnedTupleGo;cases tg <;> first
  | exact wpAny_pure hQ
  | (cases u <;> first
    | exact wpAny_pure hQ
    | (refine wpAny_bind (wpAny_load ho ?_)
       rw [hc,hd];show wpAny M A (if (["enumerate","zip","dict_itemiterator","dict_reverseitemiterator","odict_iterator","itertools.zip_longest","itertools.pairwise"].contains n && vs[0]? == some (rawInt _))=true then _ else _) Q E s
       rw [if_neg (by intro h;rw [hn,Bool.false_and] at h;cases h)]
       exact wpAny_pure hQ))
def Itl (K:PySem.W.Frag) (a:Addr):It:=
 ⟨fun i H=>∃ xs x,SqL K H a xs/\xs[i]?=some x,fun i H x H'=>H'=H/\∀ xs,SqL K H a xs->xs[i]?=some x,fun i H=>∃ xs,SqL K H a xs/\xs.length<=i⟩
def Itt (K:PySem.W.Frag) (a:Addr):It:=
 ⟨fun i H=>∃ xs x,SqT K H a xs/\xs[i]?=some x,fun i H x H'=>H'=H/\∀ xs,SqT K H a xs->xs[i]?=some x,fun i H=>∃ xs,SqT K H a xs/\xs.length<=i⟩
def Itr (lo:Int) (n:Nat):It:=⟨fun i _=>i<n,fun i H x H'=>H'=H/\x=.int (lo+i),fun i _=>n<=i⟩
theorem qOU {P:Program} {w:World} {K:PySem.W.Frag} {tg:Expr} (a it:Addr):Turn P w K tg (Itl K a) [it] it (fun i h=>h.IsListIter it a i) where
 mem:=by simp
 obj:=fun i h st b hb=>by
  have e:b=it:=by simpa using hb
  subst e;obtain ⟨o,e,c,d⟩:=st;exact ⟨o,e,fun v z=>by rw [d] at z;cases z⟩
 keep:=fun i h h' st k=>st.at fun o e=>k it (by simp) o e
 item:=by
  intro X hP hw hK hc i Ab s σ H E I hf st hg;subst hP hw hK;obtain ⟨xs,x,hq,hx⟩:=hg;obtain ⟨its,rv,p,hz⟩:=I.list hq;obtain ⟨u,hu,ru⟩:=rv.get hx;obtain ⟨f0,f1,f2,f3,f4,f5⟩:=hf it (by simp)
  refine wpAny_pyNext_list_item st p.isList (x:=u) (by simpa using hu) fun h' st' sb=>?_
  have I1:Inv X Ab σ H { s with heap:=h' }:=I.turned (t':=s.toks) (fun b o hb e=>(sb.2 b hb).trans e) f0 f1 f3 f4 f5;obtain ⟨o,e,c,d⟩:=id st';exact ⟨u,rfl,qSG (s:={ s with heap:=h' }) e c d (by decide) ⟨x,H,I1,ru,⟨rfl,fun ys hy=>by rw [I.list_inj hy hq];exact hx⟩,st',fun b hb=>(hf b hb).1⟩⟩
 done:=by
  intro X hP hw hK hc i Ab s σ H E I hf st hg;subst hP hw hK;obtain ⟨xs,hq,hx⟩:=hg;obtain ⟨its,rv,p,hz⟩:=I.list hq;obtain ⟨f0,f1,f2,f3,f4,f5⟩:=hf it (by simp)
  have hl:=rv.length;exact wpAny_pyNext_list_end (I.ok.hd hc) st p.isList (by simp;lia) fun h' eb=>⟨rfl,I.turned (t':=s.toks) (fun b o hb e=>eb b o hb e) f0 f1 f3 f4 f5⟩
 self:=fun _ _ _ _ _ st h=>wpAny_pyIter_listiter st h
theorem qNU {P:Program} {w:World} {K:PySem.W.Frag} {tg:Expr} (a it:Addr):Turn P w K tg (Itt K a) [it] it (fun i h=>h.IsTupleIter it a i) where
 mem:=by simp
 obj:=fun i h st b hb=>by
  have e:b=it:=by simpa using hb
  subst e;obtain ⟨o,e,c,d⟩:=st;exact ⟨o,e,fun v z=>by rw [d] at z;cases z⟩
 keep:=fun i h h' st k=>st.at fun o e=>k it (by simp) o e
 item:=by
  intro X hP hw hK hc i Ab s σ H E I hf st hg;subst hP hw hK;obtain ⟨xs,x,hq,hx⟩:=hg;obtain ⟨its,rv,p,hz⟩:=I.tuple hq;obtain ⟨u,hu,ru⟩:=rv.get hx;obtain ⟨f0,f1,f2,f3,f4,f5⟩:=hf it (by simp)
  refine wpAny_pyNext_tuple_item st (show s.heap.IsTuple a its.toArray from p) (x:=u) (by simpa using hu) fun h' st' sb=>?_
  have I1:Inv X Ab σ H { s with heap:=h' }:=I.turned (t':=s.toks) (fun b o hb e=>(sb.2 b hb).trans e) f0 f1 f3 f4 f5;obtain ⟨o,e,c,d⟩:=id st';exact ⟨u,rfl,qSG (s:={ s with heap:=h' }) e c d (by decide) ⟨x,H,I1,ru,⟨rfl,fun ys hy=>by rw [I.tuple_inj hy hq];exact hx⟩,st',fun b hb=>(hf b hb).1⟩⟩
 done:=by
  intro X hP hw hK hc i Ab s σ H E I hf st hg;subst hP hw hK;obtain ⟨xs,hq,hx⟩:=hg;obtain ⟨its,rv,p,hz⟩:=I.tuple hq;obtain ⟨f0,f1,f2,f3,f4,f5⟩:=hf it (by simp)
  have hl:=rv.length;exact wpAny_pyNext_tuple_end (I.ok.hd hc) st (show s.heap.IsTuple a its.toArray from p) (by simp;lia) fun h' eb=>⟨rfl,I.turned (t':=s.toks) (fun b o hb e=>eb b o hb e) f0 f1 f3 f4 f5⟩
 self:=fun _ _ _ _ _ st h=>wpAny_pyIter_tupleiter st h
theorem qNV {P:Program} {w:World} {K:PySem.W.Frag} {tg:Expr} (it:Addr) (lo:Int) (n:Nat):Turn P w K tg (Itr lo n) [it] it (fun i h=>IsRangeIter h it (lo+(i:Nat) * 1) ((n:Int) - (i:Nat)) 1) where
 mem:=by simp
 obj:=fun i h st b hb=>by
  have e:b=it:=by simpa using hb
  subst e;exact ⟨_,st,fun v z=>by
   have z':Data.fields _=Data.cell v:=z;cases z'⟩
 keep:=fun i h h' st k=>k it (by simp) _ st
 item:=by
  intro X hP hw hK hc i Ab s σ H E I hf st hg;subst hP hw hK;obtain ⟨f0,f1,f2,f3,f4,f5⟩:=hf it (by simp)
  have W:=Walks.range (prog:=X.prog) (w:=X.w) (I.ok.hd hc) it lo 1 n;refine W.item i s _ _ hg st fun v h' tk hv st' kk=>?_;obtain ⟨t,rfl⟩:=hv;have I1:Inv X Ab σ H { s with heap:=h',toks:=tk }:=I.turned (fun b o hb e=>kk b o (by simpa using hb) e) f0 f1 f3 f4 f5
  refine ⟨_,rfl,qSG (s:={ s with heap:=h',toks:=tk }) (n:="range_iterator") st' rfl rfl (by decide) ⟨.int (lo+i),H,I1,⟨t,?_⟩,⟨rfl,rfl⟩,st',fun b hb=>(hf b hb).1⟩⟩
  rw [Int.mul_one]
 done:=by
  intro X hP hw hK hc i Ab s σ H E I hf st hg;subst hP hw hK;obtain ⟨f0,f1,f2,f3,f4,f5⟩:=hf it (by simp)
  exact wpAny_pyNext_range_end (I.ok.hd hc) st (by have:n<=i:=hg;lia) fun h' eb=>⟨rfl,I.turned (t':=s.toks) (fun b o hb e=>eb b o hb e) f0 f1 f3 f4 f5⟩
 self:=fun _ _ _ _ _ st h=>wpAny_pyIter_rangeiter st h
end L2
namespace L2
open PySem PySem.Spec PyProof.Rows
section
variable {X:Cx} {tg:Expr}
def qWL (K:PySem.W.Frag) (tl:TE):TI:=fun σ H R=>tl σ H fun x H1=>∃ a,x=.ref a/\(∃ xs,SqL K H1 a xs)/\R (Itl K a) H1
def iTup (K:PySem.W.Frag) (tl:TE):TI:=fun σ H R=>tl σ H fun x H1=>∃ a,x=.ref a/\(∃ xs,SqT K H1 a xs)/\R (Itt K a) H1
theorem qBV {l:Expr} {tl:TE} (hl:PE X l tl):PI X tg l (qWL X.K tl):=by
 intro Ab s σ H R I h;refine thn (hl Ab s σ H _ I h) fun v s1 ⟨x,H1,I1,r1,q1⟩=>?_;obtain ⟨a,e,⟨xs,hq⟩,q⟩:=q1;subst e;cases r1;obtain ⟨its,rv,p,hz⟩:=I1.list hq;refine wpAny_pyIter_list p.isList ?_;refine ⟨s1.heap.objs.size,[s1.heap.objs.size],_,_,H1,rfl,I1.kept (t':=s1.toks) fun b o e=>Heap.get?_push_of_some _ e,qOU a _,⟨_,Heap.get?_push_size _ rfl,rfl,rfl⟩,fun b hb=>?_,q⟩;have e:b=s1.heap.objs.size:=by simpa using hb
 subst e;exact I1.fpOk (Nat.le_refl _) (I1.hok.fresh (Nat.le_refl _))
theorem qKM {l:Expr} {tl:TE} (hl:PE X l tl):PI X tg l (iTup X.K tl):=by
 intro Ab s σ H R I h;refine thn (hl Ab s σ H _ I h) fun v s1 ⟨x,H1,I1,r1,q1⟩=>?_;obtain ⟨a,e,⟨xs,hq⟩,q⟩:=q1;subst e;cases r1;obtain ⟨its,rv,p,hz⟩:=I1.tuple hq;refine wpAny_pyIter_tuple (show s1.heap.IsTuple a its.toArray from p) ?_;refine ⟨s1.heap.objs.size,[s1.heap.objs.size],_,_,H1,rfl,I1.kept (t':=s1.toks) fun b o e=>Heap.get?_push_of_some _ e,qNU a _,⟨_,Heap.get?_push_size _ rfl,rfl,rfl⟩,fun b hb=>?_,q⟩;have e:b=s1.heap.objs.size:=by simpa using hb
 subst e;exact I1.fpOk (Nat.le_refl _) (I1.hok.fresh (Nat.le_refl _))
theorem range_it {Ab:List (Addr × Obj)} {σ:St} {H:Hp} {s:Shared} {R:It->Hp->Prop} {E:Value->Shared->Prop} {lo hi:Int} {t u v:Tok} {tk:Nat} (I:Inv X Ab σ H s) (h1 : -(2 ^ 62)<=lo) (h2:lo<2 ^ 62) (h3 : -(2 ^ 62)<=hi) (h4:hi<2 ^ 62)
  (q:R (Itr lo (hi - lo).toNat) H):wpAny (model X.prog X.w) X.A (pyIter (.ref s.heap.objs.size)) (PIE X Ab σ tg R) E { s with heap:=s.heap.push { cls:=.type "range",data:=.fields #[.int lo t,.int hi u,.int 1 v] },toks:=tk }:=by
 refine wpAny_pyIter_range (IsRange.new ..) (small_one h1 h2 h3 h4) ?_;have I1:Inv X Ab σ H { s with heap:=s.heap.push { cls:=.type "range",data:=.fields #[.int lo t,.int hi u,.int 1 v] },toks:=tk }:=I.kept fun b o e=>Heap.get?_push_of_some _ e;refine ⟨(s.heap.push { cls:=.type "range",data:=.fields #[.int lo t,.int hi u,.int 1 v] }).objs.size,[(s.heap.push { cls:=.type "range",data:=.fields #[.int lo t,.int hi u,.int 1 v] }).objs.size],_,_,H,rfl,
  I1.kept (t':=tk) fun b o e=>Heap.get?_push_of_some _ e,qNV _ lo (hi - lo).toNat,?_,fun b hb=>?_,q⟩
 ·have e1:lo+((0:Nat):Int) * 1=lo:=by simp
  have e2:(((hi - lo).toNat:Nat):Int) - ((0:Nat):Int)=Builtin.Range.rangeSize lo hi 1:=by rw [rangeSize_one];split <;> lia
  show IsRangeIter _ _ (lo+((0:Nat):Int) * 1) ((((hi - lo).toNat:Nat):Int) - ((0:Nat):Int)) 1;rw [e1,e2];exact Heap.get?_push_size _ rfl
 ·have e:b=(s.heap.push { cls:=.type "range",data:=.fields #[.int lo t,.int hi u,.int 1 v] }).objs.size:=by simpa using hb
  subst e;exact I1.fpOk (Nat.le_refl _) (I1.hok.fresh (Nat.le_refl _))
def qY0 (ta:TA):TI:=fun σ H R=>ta σ H fun vs H1=>∃ j:Int,vs=[.int j]/\-(2 ^ 62)<=j/\j<2 ^ 62/\R (Itr 0 j.toNat) H1
theorem qAY {a:Expr} {ta:TA} {p pos:Pos} (hg:Gl X "range") (hm:X.mg "range" = none) (ha:PA X [a] ta) (hs:starEach [a] X.env=[(false,eval a X.env)]:=by rfl):PI X tg (.Call (.Name "range" p) [a] [] pos) (qY0 ta):=by
 intro Ab s σ H R I h;refine Call_ (qGC I hg hm boot_range (PyProof.Rows.callWith_type1 (thn (ha pos Ab s σ H _ I h) fun us s1 ⟨vs,H1,I1,r1,q1⟩=>?_) hs rfl));obtain ⟨j,e,q1,q2,q⟩:=q1;subst e;cases r1 with
 | cons r rr=>
  cases rr;obtain ⟨t,rfl⟩:=r;exact call_range_1 (range_it I1 (by lia) (by lia) q1 q2 (by simpa using q))
def tFor (wi:TI) (g:TG) (tb:TS):TS:=fun D σ H=>wi σ H fun J H1=>∃ W:Nat->Nat->St->Hp->Prop,(∃ m,W 0 m σ H1)/\∀ i m σ H,W i m σ H->
 (J.stop i H/\D.nx σ H)\/(J.go i H/\∃ N:St->Hp->Prop,(∀ σ' H',N σ' H'->∃ m',m'<m/\W (i+1) m' σ' H')/\∀ x H',J.yld i H x H'->g x σ H' fun σ2 H2=>tb { D with nx:=N,ct:=N,bk:=D.nx } σ2 H2)
noncomputable def qKL (fp:List Addr) (h:Heap):List (Addr × Obj):=fp.filterMap fun b=>(h.get? b).map fun o=>(b,o)
theorem qEE {fp:List Addr} {h:Heap} {b:Addr} {o:Obj} (hb:b ∈ fp) (e:h.get? b=some o):(b,o) ∈ qKL fp h:=List.mem_filterMap.mpr ⟨b,hb,by rw [e];rfl⟩
theorem qPO {fp:List Addr} {h:Heap} {p:Addr × Obj} (hp:p ∈ qKL fp h):p.1 ∈ fp/\h.get? p.1=some p.2:=by
 obtain ⟨b,hb,e⟩:=List.mem_filterMap.mp hp;cases q:h.get? b with
 | none=>rw [q] at e;cases e
 | some o=>
  rw [q] at e;have e':(b,o)=p:=Option.some.inj e;subst e';exact ⟨hb,q⟩
theorem Inv.pinned {Ab:List (Addr × Obj)} {σ:St} {H:Hp} {s:Shared} {fp:List Addr} (I:Inv X Ab σ H s) (hf:∀ b ∈ fp,FpOk X Ab H b) (ho:∀ b ∈ fp,∃ o,s.heap.get? b=some o/\∀ v,o.data ≠ .cell v):Inv X (Ab++qKL fp s.heap) σ H s:=
 I.pins_of fun p hp=>(List.mem_append.mp hp).elim (fun z=>I.pin p (List.mem_append_right _ z)) fun z=>by
  obtain ⟨hb,e⟩:=qPO z;obtain ⟨f0,f1,f2,_⟩:=hf p.1 hb;obtain ⟨o,e',d⟩:=ho p.1 hb;rw [e] at e';cases e';exact ⟨e,f0,f1,f2,d⟩
theorem Inv.unpinned {Ab pl:List (Addr × Obj)} {σ:St} {H:Hp} {s:Shared} (I:Inv X (Ab++pl) σ H s):Inv X Ab σ H s:=I.pins_of fun p hp=>I.pin p (List.mem_append_right _ (List.mem_append_left _ hp))
theorem qD6 {iter:Expr} {body:List Stmt} {wi:TI} {g:TG} {tb:TS} {pos:Pos} (hp:PassesOwn (model X.prog X.w) X.A X.env X.xe) (hc:X.calm=true) (hi:PI X tg iter wi) (hg:PG X tg g) (hb:PSs X body tb)
  (hs:∀ x,foldedSetIterable iter X.env x=pure x:=by intro _;rfl):PS X (.For tg iter body [] pos) (tFor wi g tb):=by
 intro Ab s σ H D I h;refine wpAny_For (thn (hi Ab s σ H _ I h) fun v s1 h1=>thn h1 fun itv s2 h2=>?_) hs;obtain ⟨it,fp,tn,J,H2,e,I2,T,st2,f2,W,⟨m0,w0⟩,turn⟩:=h2;subst e
 -- what stays true of the iterator's objects through the loop
 have stat:∀ {H':Hp},(∀ b ∈ fp,H' b=none)->∀ b ∈ fp,FpOk X Ab H' b:=fun hn b hb=>⟨hn b hb,(f2 b hb).2⟩;refine codeAny_forLoop_any (fun n s'=>∃ i σ' H',Inv X Ab σ' H' s'/\tn i s'.heap/\(∀ b ∈ fp,H' b=none)/\W i n σ' H') ?_ m0 ⟨0,σ,H2,I2,st2,fun b hb=>(f2 b hb).1,w0⟩;rintro n s3 ⟨i,σ3,H3,I3,st3,fr3,w3⟩;rcases turn i n σ3 H3 w3 with ⟨stop,qn⟩ | ⟨go,N,hN,step⟩
 ·refine wpAny_passesOwn hp (thn (T.done X rfl rfl rfl hc i Ab s3 σ3 H3 X.xe I3 (stat fr3) st3 stop) fun r s4 ⟨hr,I4⟩=>?_);subst hr;exact wpAny_execs_nil ⟨σ3,H3,I4,qn⟩
 ·refine wpAny_passesOwn hp (thn (T.item X rfl rfl rfl hc i Ab s3 σ3 H3 X.xe I3 (stat fr3) st3 go) fun r s4 ⟨u,hr,h4⟩=>?_);subst hr;refine wpAny_passesOwn hp (thn h4 fun _ s5 ⟨x,H5,I5,r5,y5,st5,fr5⟩=>?_);have I5':=I5.pinned (stat fr5) (T.obj _ _ st5);refine wpAny_passesOwn hp (thn (hg _ s5 σ3 H5 x u _ I5' r5 (step x H5 y5)) fun _ s6 ⟨σ6,H6,I6,q6⟩=>?_);refine wpAny_passesOwn hp (thn (hb _ s6 σ6 H6 _ I6 q6) fun f s7 q7=>?_);have again:∀ {σ7:St} {H7:Hp},Inv X (Ab++qKL fp s5.heap) σ7 H7 s7->N σ7 H7->∃ m,m<n/\∃ i σ' H',Inv X Ab σ' H' s7/\tn i s7.heap/\(∀ b ∈ fp,H' b=none)/\W i m σ' H':=fun {σ7 H7} I7 n7=>by
   obtain ⟨m',hm,w7⟩:=hN σ7 H7 n7;refine ⟨m',hm,i+1,σ7,H7,I7.unpinned,T.keep _ _ _ st5 fun b hb o e=>(I7.pin (b,o) (List.mem_append_right _ (List.mem_append_right _ (qEE hb e)))).1,fun b hb=>?_,w7⟩;obtain ⟨o,e,d⟩:=T.obj _ _ st5 b hb;exact (I7.pin (b,o) (List.mem_append_right _ (List.mem_append_right _ (qEE hb e)))).2.1
  cases f with
  | next=>obtain ⟨σ7,H7,I7,n7⟩:=q7;exact again I7 n7
  | cont=>obtain ⟨σ7,H7,I7,n7⟩:=q7;exact again I7 n7
  | brk=>obtain ⟨σ7,H7,I7,q7⟩:=q7;exact ⟨σ7,H7,I7.unpinned,q7⟩
  | ret v=>obtain ⟨x7,σ7,H7,I7,r7,q7⟩:=q7;exact ⟨x7,σ7,H7,I7.unpinned,r7,q7⟩
end
abbrev ForG (I:It) (g:TG) (tb:TS) (D:Ends) (σ:St) (H:Hp):Prop:=∃ W:Nat->Nat->St->Hp->Prop,(∃ m,W 0 m σ H)/\∀ i m σ H,W i m σ H->(I.stop i H/\D.nx σ H)\/(I.go i H/\∃ N:St->Hp->Prop,(∀ σ' H',N σ' H'->∃ m',m'<m/\W (i+1) m' σ' H')/\∀ x H',I.yld i H x H'->g x σ H' fun σ2 H2=>tb { D with nx:=N,ct:=N,bk:=D.nx } σ2 H2)
theorem qNI {K:PySem.W.Frag} {a:Addr} {xs:List V} {g:TG} {tb:TS} {D:Ends} {σ:St} {H:Hp} (Pv:Nat->St->Hp->Prop) (h0:Pv 0 σ H) (hl:∀ i σ H,i<=xs.length->Pv i σ H->SqL K H a xs)
  (hs:∀ i x σ H,xs[i]?=some x->Pv i σ H->g x σ H fun σ2 H2=>tb { D with nx:=Pv (i+1),ct:=Pv (i+1),bk:=D.nx } σ2 H2) (hd:∀ σ H,Pv xs.length σ H->D.nx σ H) :
  ForG (Itl K a) g tb D σ H:=by
 refine ⟨fun i m σ H=>m=xs.length - i/\i<=xs.length/\Pv i σ H,⟨xs.length,by simp,Nat.zero_le _,h0⟩,?_⟩
 rintro i m σ H ⟨rfl,hi,p⟩;have q:=hl i σ H hi p;by_cases hlt:i<xs.length
 ·refine .inr ⟨⟨xs,xs[i],q,by simp [hlt]⟩,Pv (i+1),fun σ' H' p'=>⟨xs.length - (i+1),by lia,rfl,hlt,p'⟩,fun x H' y=>?_⟩
  obtain ⟨e,y⟩:=y;subst e;exact hs i x σ _ (y xs q) p
 ·have e:i=xs.length:=by lia
  subst e;exact .inl ⟨⟨xs,q,Nat.le_refl _⟩,hd σ H p⟩
theorem qC3 {lo:Int} {n:Nat} {g:TG} {tb:TS} {D:Ends} {σ:St} {H:Hp} (Pv:Nat->St->Hp->Prop) (h0:Pv 0 σ H)
  (hs:∀ i σ H,i<n->Pv i σ H->g (.int (lo+i)) σ H fun σ2 H2=>tb { D with nx:=Pv (i+1),ct:=Pv (i+1),bk:=D.nx } σ2 H2) (hd:∀ σ H,Pv n σ H->D.nx σ H) :
  ForG (Itr lo n) g tb D σ H:=by
 refine ⟨fun i m σ H=>m=n - i/\i<=n/\Pv i σ H,⟨n,by simp,Nat.zero_le _,h0⟩,?_⟩
 rintro i m σ H ⟨rfl,hi,p⟩;by_cases hlt:i<n
 ·refine .inr ⟨hlt,Pv (i+1),fun σ' H' p'=>⟨n - (i+1),by lia,rfl,hlt,p'⟩,fun x H' y=>?_⟩
  obtain ⟨e,y⟩:=y;subst e y;exact hs i σ _ hlt p
 ·have e:i=n:=by lia
  subst e;exact .inl ⟨Nat.le_refl _,hd σ H p⟩
end L2
namespace L2
open PySem PySem.Spec PyProof.Rows
abbrev R2:=V->V->Hp->VK->Prop
def OpR (X:Cx) (f:Value->Value->Sem Value) (r:R2):Prop:=
 ∀ (Ab:List (Addr × Obj)) (s:Shared) (σ:St) (H:Hp) (x y:V) (v u:Value) (Q:VK),Inv X Ab σ H s->RelV x v->RelV y u->r x y H Q->
  wpAny (model X.prog X.w) X.A (f v u) (EP X Ab σ Q) X.xe s
def UnR (X:Cx) (f:Value->Sem Value) (r:V->Hp->VK->Prop):Prop:=
 ∀ (Ab:List (Addr × Obj)) (s:Shared) (σ:St) (H:Hp) (x:V) (v:Value) (Q:VK),Inv X Ab σ H s->RelV x v->r x H Q->
  wpAny (model X.prog X.w) X.A (f v) (EP X Ab σ Q) X.xe s
def qCV (X:Cx) (f:Value) (r:List V->Hp->VK->Prop):Prop:=
 ∀ (Ab:List (Addr × Obj)) (s:Shared) (σ:St) (H:Hp) (xs:List V) (us:List Value) (Q:VK),Inv X Ab σ H s->Vals xs us->r xs H Q->
  wpAny (model X.prog X.w) X.A (call f us) (EP X Ab σ Q) X.xe s
def TruR (X:Cx) (r:V->Hp->(Bool->Hp->Prop)->Prop):Prop:=
 ∀ (Ab:List (Addr × Obj)) (s:Shared) (σ:St) (H:Hp) (x:V) (v:Value) (Q:Bool->Hp->Prop),Inv X Ab σ H s->RelV x v->r x H Q->
  wpAny (model X.prog X.w) X.A (truthy v) (TP X Ab σ Q) X.xe s
def tOp (r:R2) (ta tb:TE):TE:=fun σ H Q=>ta σ H fun x H1=>tb σ H1 fun y H2=>r x y H2 Q
def tUn (r:V->Hp->VK->Prop) (ta:TE):TE:=fun σ H Q=>ta σ H fun x H1=>r x H1 Q
def rI (C:Int->Int->Prop) (g:Int->Int->V):R2:=fun x y H Q=>∃ i j,x=.int i/\y=.int j/\C i j/\Q (g i j) H
def rI0 (g:Int->Int->V):R2:=fun x y H Q=>∃ i j,x=.int i/\y=.int j/\Q (g i j) H
def rU (g:Int->V):V->Hp->VK->Prop:=fun x H Q=>∃ i,x=.int i/\Q (g i) H
section
variable {X:Cx} {a b c:Expr} {ta tb tc:TE} {pos:Pos}
theorem binT (ha:PE X a ta) (hb:PE X b tb) {Ab:List (Addr × Obj)} {s:Shared} {σ:St} {H:Hp} {R:V->V->Hp->Prop} (I:Inv X Ab σ H s)
  (h:ta σ H fun x H1=>tb σ H1 fun y H2=>R x y H2) {Q:Value->Shared->Prop} {f:Value->Value->Sem Value}
  (hf:∀ v u s2 x y H2,Inv X Ab σ H2 s2->RelV x v->RelV y u->R x y H2->wpAny (model X.prog X.w) X.A (f v u) Q X.xe s2) :
  wpAny (model X.prog X.w) X.A (eval a X.env) (fun v s₁=>wpAny (model X.prog X.w) X.A (eval b X.env) (fun u s₂=>wpAny (model X.prog X.w) X.A (f v u) Q X.xe s₂) X.xe s₁) X.xe s:=by
 refine thn (ha Ab s σ H _ I h) fun v s1 ⟨x,H1,I1,r1,q1⟩=>?_;refine thn (hb Ab s1 σ H1 _ I1 q1) fun u s2 ⟨y,H2,I2,r2,q2⟩=>?_;exact hf v u s2 x y H2 I2 r1 r2 q2
theorem qAR {op:Operator} {r:R2} (ho:OpR X (binaryOp op) r) (ha:PE X a ta) (hb:PE X b tb):PE X (.BinOp a op b pos) (tOp r ta tb):=by
 intro Ab s σ H Q I h;exact wpAny_BinOp (binT ha hb I h fun v u s2 x y H2 I2 rx ry q=>ho Ab s2 σ H2 x y v u Q I2 rx ry q)
theorem qRW {op:UnaryOp} {r:V->Hp->VK->Prop} (ho:UnR X (unaryOp op) r) (ha:PE X a ta):PE X (.UnaryOp op a pos) (tUn r ta):=by
 intro Ab s σ H Q I h;exact UnaryOp_ (thn (ha Ab s σ H _ I h) fun v s1 ⟨x,H1,I1,r1,q1⟩=>ho Ab s1 σ H1 x v Q I1 r1 q1)
theorem opI {f:Value->Value->Sem Value} {C:Int->Int->Prop} {g:Int->Int->Int}
  (rule:∀ (i j:Int) (t u:Tok) (s:Shared) (Q:Value->Shared->Prop) (E:Value->Shared->Prop),C i j->Q (.int (g i j) s.toks) { s with toks:=s.toks+1 }->wpAny (model X.prog X.w) X.A (f (.int i t) (.int j u)) Q E s) :
  OpR X f (rI C fun i j=>.int (g i j)):=by
 intro Ab s σ H x y v u Q I rx ry h;obtain ⟨i,j,rfl,rfl,hc,q⟩:=h;obtain ⟨t,rfl⟩:=rx;obtain ⟨t',rfl⟩:=ry;exact rule i j t t' s _ _ hc ⟨.int (g i j),H,I.tok _,⟨_,rfl⟩,q⟩
theorem opI0 {f:Value->Value->Sem Value} {g:Int->Int->Int}
  (rule:∀ (i j:Int) (t u:Tok) (s:Shared) (Q:Value->Shared->Prop) (E:Value->Shared->Prop),Q (.int (g i j) s.toks) { s with toks:=s.toks+1 }->wpAny (model X.prog X.w) X.A (f (.int i t) (.int j u)) Q E s) :
  OpR X f (rI0 fun i j=>.int (g i j)):=by
 intro Ab s σ H x y v u Q I rx ry h;obtain ⟨i,j,rfl,rfl,q⟩:=h;obtain ⟨t,rfl⟩:=rx;obtain ⟨t',rfl⟩:=ry;exact rule i j t t' s _ _ ⟨.int (g i j),H,I.tok _,⟨_,rfl⟩,q⟩
theorem opB0 {f:Value->Value->Sem Value} {g:Int->Int->Bool}
  (rule:∀ (i j:Int) (t u:Tok) (s:Shared) (Q:Value->Shared->Prop) (E:Value->Shared->Prop),Q (.bool (g i j)) s->wpAny (model X.prog X.w) X.A (f (.int i t) (.int j u)) Q E s) :
  OpR X f (rI0 fun i j=>.bl (g i j)):=by
 intro Ab s σ H x y v u Q I rx ry h;obtain ⟨i,j,rfl,rfl,q⟩:=h;obtain ⟨t,rfl⟩:=rx;obtain ⟨t',rfl⟩:=ry;exact rule i j t t' s _ _ ⟨.bl (g i j),H,I,rfl,q⟩
def CDiv (i j:Int):Prop:=0<j/\j<1073741824
def CPow (i j:Int):Prop:=0<=j/\j<=1000000/\i.natAbs<2 ^ 64
def CMul (i j:Int):Prop:=(-(2 ^ 64)<i/\i<2 ^ 64)\/(-(2 ^ 64)<j/\j<2 ^ 64)
theorem CMul.ok {i j:Int} (h:CMul i j):IntMulOk i j:=by
 rcases h with ⟨h1,h2⟩ | ⟨h1,h2⟩
 ·exact .of_left (intBits_le_64 h1 h2)
 ·exact .of_right (intBits_le_64 h1 h2)
theorem qC9:OpR X (binaryOp .Add) (rI0 fun i j=>.int (i+j)):=opI0 fun _ _ _ _ _ _ _ q=>add_int q
theorem qE3:OpR X (binaryOp .Sub) (rI0 fun i j=>.int (i - j)):=opI0 fun _ _ _ _ _ _ _ q=>sub_int q
theorem qIT:OpR X (binaryOp .Mult) (rI CMul fun i j=>.int (i * j)):=opI fun _ _ _ _ _ _ _ hc q=>mul_int q hc.ok
theorem qJK:OpR X (binaryOp .FloorDiv) (rI CDiv fun i j=>.int (i / j)):=opI fun i j _ _ _ _ _ hc q=>by
 have h1:(0:Int)<j:=hc.1;have h2:j<1073741824:=hc.2;exact floordiv_int (by lia) (by rw [Int.fdiv_eq_ediv_of_nonneg i (by lia)];exact q) (.inl (PyProof.noPylong_small (by lia)))
theorem qHE:OpR X (binaryOp .Mod) (rI (fun _ j=>0<j) fun i j=>.int (i % j)):=opI fun i j _ _ _ _ _ hc q=>by
 have h1:(0:Int)<j:=hc;exact mod_int' (by lia) (by rw [Int.fmod_eq_emod_of_nonneg i (by lia)];exact q)
theorem qW0:OpR X (binaryOp .Pow) (rI CPow fun i j=>.int (i ^ j.toNat)):=opI fun _ _ _ _ _ _ _ hc q=>pow_int_small hc.1 hc.2.1 hc.2.2 q
theorem unI {f:Value->Sem Value} {g:Int->Int}
  (rule:∀ (i:Int) (t:Tok) (s:Shared) (Q:Value->Shared->Prop) (E:Value->Shared->Prop),Q (.int (g i) s.toks) { s with toks:=s.toks+1 }->wpAny (model X.prog X.w) X.A (f (.int i t)) Q E s) :
  UnR X f (rU fun i=>.int (g i)):=by
 intro Ab s σ H x v Q I rx h;obtain ⟨i,rfl,q⟩:=h;obtain ⟨t,rfl⟩:=rx;exact rule i t s _ _ ⟨.int (g i),H,I.tok _,⟨_,rfl⟩,q⟩
theorem qML:UnR X (unaryOp .USub) (rU fun i=>.int (-i)):=unI fun _ _ _ _ _ q=>neg_int q
end
noncomputable def scal:V->V->Bool
 | .non,.non=>true | .non,.int _=>true | .int _,.non=>true | .non,.bl _=>true | .bl _,.non=>true | .non,.str _=>true | .str _,.non=>true
 | .int _,.int _=>true | .bl _,.bl _=>true | .str _,.str _=>true | .byt _,.byt _=>true
 | .int _,.str _=>true | .str _,.int _=>true | .bl _,.str _=>true | .str _,.bl _=>true
 | _,_=>false
def rEq:R2:=fun x y H Q=>scal x y=true/\Q (.bl (decide (x=y))) H
def rNe:R2:=fun x y H Q=>scal x y=true/\Q (.bl (!decide (x=y))) H
theorem qK2 {i j:Int}:decide (V.int i=V.int j)=(i == j):=by
 rw [Bool.eq_iff_iff];simp
theorem qTE {i j:Bool}:decide (V.bl i=V.bl j)=(i == j):=by
 rw [Bool.eq_iff_iff];simp
theorem qK1 {i j:Str}:decide (V.str i=V.str j)=(i == j):=by
 rw [Bool.eq_iff_iff];simp
theorem qQQ {i j:Array UInt8}:decide (V.byt i=V.byt j)=(i.toList == j.toList):=by
 rw [Bool.eq_iff_iff];cases i;cases j;simp
section
variable {X:Cx} {a b c:Expr} {ta tb tc:TE} {pos:Pos}
theorem qB5 {Ab:List (Addr × Obj)} {σ:St} {H:Hp} {s:Shared} {Q:VK} {k k':Bool} (I:Inv X Ab σ H s) (q:Q (.bl k) H) (e:k=k'):EP X Ab σ Q (.bool k') s:=by
 subst e;exact ⟨.bl k,H,I,rfl,q⟩
theorem qEL:OpR X (compareOp .Eq) rEq:=by
 intro Ab s σ H x y v u Q I rx ry h;obtain ⟨hs,q⟩:=h;cases x with
 | non=>
  cases rx;cases y with
  | non=>cases ry;exact PySem.EqNone.eq_none_none (qB5 I q (by simp))
  | bl j=>cases ry;exact PySem.EqNone.eq_none_bool (qB5 I q (by simp))
  | int j=>obtain ⟨t',rfl⟩:=ry;exact PySem.EqNone.eq_none_int (qB5 I q (by simp))
  | str j=>obtain ⟨t',rfl⟩:=ry;exact PySem.EqNone.eq_none_str (qB5 I q (by simp))
  | _=>exact absurd (show false=true from hs) Bool.false_ne_true
 | bl i=>
  cases rx;cases y with
  | non=>cases ry;exact PySem.EqNone.eq_bool_none (qB5 I q (by simp))
  | bl j=>cases ry;exact eq_bool (qB5 I q qTE)
  | str j=>obtain ⟨t',rfl⟩:=ry;exact PySem.EqMixed.eq_bool_str (qB5 I q (by simp))
  | _=>exact absurd (show false=true from hs) Bool.false_ne_true
 | int i=>
  obtain ⟨t,rfl⟩:=rx;cases y with
  | non=>cases ry;exact PySem.EqNone.eq_int_none (qB5 I q (by simp))
  | int j=>obtain ⟨t',rfl⟩:=ry;exact eq_int (qB5 I q qK2)
  | str j=>obtain ⟨t',rfl⟩:=ry;exact PySem.EqMixed.eq_int_str (qB5 I q (by simp))
  | _=>exact absurd (show false=true from hs) Bool.false_ne_true
 | str i=>
  obtain ⟨t,rfl⟩:=rx;cases y with
  | non=>cases ry;exact PySem.EqNone.eq_str_none (qB5 I q (by simp))
  | bl j=>cases ry;exact PySem.EqMixed.eq_str_bool (qB5 I q (by simp))
  | int j=>obtain ⟨t',rfl⟩:=ry;exact PySem.EqMixed.eq_str_int (qB5 I q (by simp))
  | str j=>obtain ⟨t',rfl⟩:=ry;exact eq_str (qB5 I q qK1)
  | _=>exact absurd (show false=true from hs) Bool.false_ne_true
 | byt i=>
  obtain ⟨t,rfl⟩:=rx;cases y with
  | byt j=>obtain ⟨t',rfl⟩:=ry;exact PySem.W.eq_bytes (qB5 I q qQQ)
  | _=>exact absurd (show false=true from hs) Bool.false_ne_true
 | _=>cases y <;> exact absurd (show false=true from hs) Bool.false_ne_true
theorem qO5:OpR X (compareOp .NotEq) rNe:=by
 intro Ab s σ H x y v u Q I rx ry h;obtain ⟨hs,q⟩:=h;cases x with
 | non=>
  cases rx;cases y with
  | non=>cases ry;exact PySem.EqNone.ne_none_none (qB5 I q (by simp))
  | bl j=>cases ry;exact PySem.EqNone.ne_none_bool (qB5 I q (by simp))
  | int j=>obtain ⟨t',rfl⟩:=ry;exact PySem.EqNone.ne_none_int (qB5 I q (by simp))
  | str j=>obtain ⟨t',rfl⟩:=ry;exact PySem.EqNone.ne_none_str (qB5 I q (by simp))
  | _=>exact absurd (show false=true from hs) Bool.false_ne_true
 | bl i=>
  cases rx;cases y with
  | non=>cases ry;exact PySem.EqNone.ne_bool_none (qB5 I q (by simp))
  | bl j=>cases ry;exact ne_bool (qB5 I q (congrArg not qTE))
  | str j=>obtain ⟨t',rfl⟩:=ry;exact PySem.EqMixed.ne_bool_str (qB5 I q (by simp))
  | _=>exact absurd (show false=true from hs) Bool.false_ne_true
 | int i=>
  obtain ⟨t,rfl⟩:=rx;cases y with
  | non=>cases ry;exact PySem.EqNone.ne_int_none (qB5 I q (by simp))
  | int j=>obtain ⟨t',rfl⟩:=ry;exact ne_int (qB5 I q (congrArg not qK2))
  | str j=>obtain ⟨t',rfl⟩:=ry;exact PySem.EqMixed.ne_int_str (qB5 I q (by simp))
  | _=>exact absurd (show false=true from hs) Bool.false_ne_true
 | str i=>
  obtain ⟨t,rfl⟩:=rx;cases y with
  | non=>cases ry;exact PySem.EqNone.ne_str_none (qB5 I q (by simp))
  | bl j=>cases ry;exact PySem.EqMixed.ne_str_bool (qB5 I q (by simp))
  | int j=>obtain ⟨t',rfl⟩:=ry;exact PySem.EqMixed.ne_str_int (qB5 I q (by simp))
  | str j=>obtain ⟨t',rfl⟩:=ry;exact ne_str (qB5 I q (congrArg not qK1))
  | _=>exact absurd (show false=true from hs) Bool.false_ne_true
 | byt i=>
  obtain ⟨t,rfl⟩:=rx;cases y with
  | byt j=>obtain ⟨t',rfl⟩:=ry;exact PySem.W.ne_bytes (qB5 I q (congrArg not qQQ))
  | _=>exact absurd (show false=true from hs) Bool.false_ne_true
 | _=>cases y <;> exact absurd (show false=true from hs) Bool.false_ne_true
theorem qPL:OpR X (compareOp .Lt) (rI0 fun i j=>.bl (decide (i<j))):=opB0 fun _ _ _ _ _ _ _ q=>lt_int q
theorem qPM:OpR X (compareOp .Gt) (rI0 fun i j=>.bl (decide (j<i))):=opB0 fun _ _ _ _ _ _ _ q=>gt_int q
theorem qW2:OpR X (compareOp .GtE) (rI0 fun i j=>.bl (decide (j<=i))):=opB0 fun _ _ _ _ _ _ _ q=>ge_int q
theorem qAQ (b:Expr) {op:CmpOp} (h:op ≠ .In:=by decide) (h2:op ≠ .NotIn:=by decide):behindInMarks op b=false:=by
 have e1:(op == CmpOp.In)=false:=by cases op <;> first | rfl | exact absurd rfl h
 have e2:(op == CmpOp.NotIn)=false:=by cases op <;> first | rfl | exact absurd rfl h2
 cases b <;> simp [behindInMarks,e1,e2]
theorem qE2 {op:CmpOp} {r:R2} (ho:OpR X (compareOp op) r) (ha:PE X a ta) (hb:PE X b tb) (hm:behindInMarks op b=false):PE X (.Compare a [op] [b] pos) (tOp r ta tb):=by
 intro Ab s σ H Q I h;exact wpAny_Compare1 (binT ha hb I h fun v u s2 x y H2 I2 rx ry q=>ho Ab s2 σ H2 x y v u Q I2 rx ry q) hm
def qX4 (t:TE):TT:=fun σ H Q=>t σ H fun x H'=>∃ k,x=.bl k/\Q k H'
theorem qAI {op:CmpOp} {r:R2} (ho:OpR X (compareOp op) r) (ha:PE X a ta) (hb:PE X b tb) (hm:behindInMarks op b=false):PT X (.Compare a [op] [b] pos) (qX4 (tOp r ta tb)):=by
 intro Ab s σ H Q I h;refine wpAny_isTrue_Compare1 (thn (ha Ab s σ H _ I h) fun v s1 ⟨x,H1,I1,r1,q1⟩=>thn (hb Ab s1 σ H1 _ I1 q1) fun u s2 ⟨y,H2,I2,r2,q2⟩=>
  thn (ho Ab s2 σ H2 x y v u _ I2 r1 r2 q2) fun c s3 ⟨z,H3,I3,r3,k,e,q3⟩=>?_) hm
 subst e;cases r3;exact wpAny_truthy_bool ⟨H3,I3,q3⟩
def TruV (K:PySem.W.Frag) (x:V) (H:Hp) (k:Bool):Prop:=
 match x with
 | .non=>k=false
 | .bl b=>k=b
 | .int i=>k=(i != 0)
 | .str y=>y.length<=sizeLine/\k=((y.length:Int) != 0)
 | .byt y=>y.size<=sizeLine/\k=((y.size:Int) != 0)
 | .ref p=>(∃ xs,SqL K H p xs/\k=!xs.isEmpty)\/(∃ xs,SqT K H p xs/\k=!xs.isEmpty)\/∃ Ag,H p=some (.dK Ag)/\k=!Ag.isEmpty
 | _=>False
theorem qOE {κ:Type} {Ag:List (κ × V)} {vs:List (κ × Value)} (r:KV Ag vs):(!vs.isEmpty)=!Ag.isEmpty:=by
 cases r <;> rfl
theorem qIZ {xs:List V} {its:List Value} (r:Vals xs its):(!its.toArray.isEmpty)=!xs.isEmpty:=by
 cases r <;> simp
theorem qKY:(sizeLine:Nat)<2 ^ 63:=by rw [sizeLine_eq];decide
theorem qVC:TruR X (fun x H Q=>∃ k,TruV X.K x H k/\Q k H):=by
 intro Ab s σ H x v Q I rx h;obtain ⟨k,e,q⟩:=h;have hl:=qKY;have hs:sizeLine=16777216:=sizeLine_eq;cases x with
 | non=>
  cases rx;have e':k=false:=e;subst e';exact truthy_none ⟨H,I,q⟩
 | bl b=>
  cases rx;have e':k=b:=e;subst e';exact wpAny_truthy_bool ⟨H,I,q⟩
 | int i=>
  obtain ⟨t,rfl⟩:=rx;have e':k=(i != 0):=e;subst e';exact PySem.P.truthy_int ⟨H,I,q⟩
 | str y=>
  obtain ⟨t,rfl⟩:=rx;obtain ⟨hy,e'⟩:y.length<=sizeLine/\k=((y.length:Int) != 0):=e;subst e';exact PySem.P.truthy_str (by lia) ⟨H,I.tok _,q⟩
 | byt y=>
  obtain ⟨t,rfl⟩:=rx;obtain ⟨hy,e'⟩:y.size<=sizeLine/\k=((y.size:Int) != 0):=e;subst e';exact PySem.W.truthy_bytes (by lia) ⟨H,I.tok _,q⟩
 | ref p=>
  cases rx;have e':(∃ xs,SqL X.K H p xs/\k=!xs.isEmpty)\/(∃ xs,SqT X.K H p xs/\k=!xs.isEmpty)\/∃ Ag,H p=some (.dK Ag)/\k=!Ag.isEmpty:=e;rcases e' with ⟨xs,hx,e'⟩ | ⟨xs,hx,e'⟩ | ⟨Ag,hx,e'⟩
  ·subst e';obtain ⟨its,r,pl,hz⟩:=I.list hx;have hlen:=r.length;exact wpAny_truthy_list pl.isList (by simp only [List.size_toArray];lia) ⟨H,I.tok _,by rw [qIZ r];exact q⟩
  ·subst e';obtain ⟨its,r,pl,hz⟩:=I.tuple hx;have hlen:=r.length;exact truthy_tuple pl (by simp only [List.size_toArray];lia) ⟨H,I.tok _,by rw [qIZ r];exact q⟩
  ·subst e';obtain ⟨hz,hS,vs,r,m⟩:Ag.length<=sizeLine/\(p == sysModules)=false/\∃ vs,KV Ag vs/\s.heap.DictOf (qC6 X.prog X.w) p vs:=I.hok p _ hx;have hlen:Ag.length=vs.length:=Paired.length r;exact wpAny_truthy_dict hS m (by lia) ⟨H,I.tok _,by rw [qOE r];exact q⟩
 | _=>exact (show False from e).elim
theorem qN2 (ha:PE X a ta) (he:∀ whole,isTrue a X.env whole=(do let v <- whole;standAt a.pos;holding [v] (truthy v))) :
  PT X a (fun σ H Q=>ta σ H fun x H'=>∃ k,TruV X.K x H' k/\Q k H'):=by
 intro Ab s σ H Q I h;exact isTrue_plain (thn (ha Ab s σ H _ I h) fun v s1 ⟨x,H1,I1,r1,q1⟩=>qVC Ab s1 σ H1 x v Q I1 r1 q1) (he _)
theorem qDB {x:V} {us:List Value} (r:Vals [x] us):∃ u,us=[u]/\RelV x u:=by
 cases r with
 | cons r1 r2=>cases r2;exact ⟨_,rfl,r1⟩
theorem qNT {x y:V} {us:List Value} (r:Vals [x,y] us):∃ u w',us=[u,w']/\RelV x u/\RelV y w':=by
 cases r with
 | cons r1 r2=>
  cases r2 with
  | cons r3 r4=>cases r4;exact ⟨_,_,rfl,r1,r3⟩
theorem qQZ (hc:X.calm=true):qCV X (.builtin "max") (fun xs H Q=>∃ i j,xs=[.int i,.int j]/\Q (.int (if j > i then j else i)) H):=by
 intro Ab s σ H xs us Q I r h;obtain ⟨i,j,rfl,q⟩:=h;obtain ⟨u,w',rfl,⟨t,rfl⟩,⟨t',rfl⟩⟩:=qNT r;refine max_two_ints (I.ok.hd hc) fun h' tk k=>⟨_,H,I.kept k,?_,q⟩;by_cases hj:j > i
 ·rw [if_pos hj,if_pos hj];exact ⟨_,rfl⟩
 ·rw [if_neg hj,if_neg hj];exact ⟨_,rfl⟩
theorem qFP (hc:X.calm=true):qCV X (.builtin "min") (fun xs H Q=>∃ i j,xs=[.int i,.int j]/\Q (.int (if j<i then j else i)) H):=by
 intro Ab s σ H xs us Q I r h;obtain ⟨i,j,rfl,q⟩:=h;obtain ⟨u,w',rfl,⟨t,rfl⟩,⟨t',rfl⟩⟩:=qNT r;refine min_two_ints (I.ok.hd hc) fun h' tk k=>⟨_,H,I.kept k,?_,q⟩;by_cases hj:j<i
 ·rw [if_pos hj,if_pos hj];exact ⟨_,rfl⟩
 ·rw [if_neg hj,if_neg hj];exact ⟨_,rfl⟩
theorem qHY:qCV X (.type "int") (fun xs H Q=>(∃ i,xs=[.int i]/\Q (.int i) H)\/∃ k,xs=[.bl k]/\Q (.int (if k then 1 else 0)) H):=by
 intro Ab s σ H xs us Q I r h;rcases h with ⟨i,rfl,q⟩ | ⟨k,rfl,q⟩
 ·obtain ⟨u,rfl,t,rfl⟩:=qDB r;exact call_int_int ⟨.int i,H,I,⟨_,rfl⟩,q⟩
 ·obtain ⟨u,rfl,r1⟩:=qDB r;cases r1;exact call_int_bool ⟨.int (if k then 1 else 0),H,I.tok _,⟨_,rfl⟩,q⟩
theorem qMJ:qCV X (.builtin "divmod") (fun xs H Q=>∃ i j,xs=[.int i,.int j]/\CDiv i j/\∀ p,H p=none->Q (.ref p) (Ah H p (.tup [.int (i / j),.int (i % j)]))):=by
 intro Ab s σ H xs us Q I r h;obtain ⟨i,j,rfl,⟨h1,h2⟩,q⟩:=h;obtain ⟨u,w',rfl,⟨t,rfl⟩,⟨t',rfl⟩⟩:=qNT r;refine divmod_int (by lia) ?_ (.inl (PyProof.noPylong_small (by lia)))
 rw [Int.fdiv_eq_ediv_of_nonneg i (by lia),Int.fmod_eq_emod_of_nonneg i (by lia)]
 have hn:H s.heap.objs.size=none:=I.hok.fresh (Nat.le_refl _);refine ⟨.ref s.heap.objs.size,_,?_,rfl,q _ hn⟩;refine I.laid (fun b o e=>Heap.get?_push_of_some _ e) (Nat.le_refl _) ⟨by simp only [List.length_cons,List.length_nil];rw [sizeLine_eq];decide,[.int (i / j) s.toks,.int (i % j) (s.toks+1)],.cons ⟨_,rfl⟩ (.cons ⟨_,rfl⟩ .nil),?_⟩
 exact ⟨_,Heap.get?_push_size s.heap rfl,rfl,0,rfl⟩
end
end L2
namespace L2
open PySem PySem.Spec PyProof.Rows
structure ObjM (h:Heap) (x dx C:Addr) (mA:Str->Option Value):Prop where
 obj:h.get? x=some (PySem.W.instObj C dx)
 ns:h.Ns1 dx mA
 ne:dx ≠ x
theorem qPT {h:Heap} {dx:Addr} {mA:Str->Option Value} (n:h.Ns1 dx mA):∃ od,h.get? dx=some od/\∀ name,PySem.W.lookIn name od=some (mA name):=by
 obtain ⟨o,es,ep,ho,hd,hk,_,hm⟩:=n;refine ⟨o,ho,fun name=>?_⟩;have e:=hm name;unfold nsFind findBy at e;rw [<- Array.find?_toList] at e;unfold PySem.W.lookIn;rw [hd];dsimp only
 split
 ·rename_i y q
  rw [q] at e;exact congrArg some e
 ·rename_i q
  rw [q] at e;have a:es.toList.any (·.refKey)=false:=by
   rw [List.any_eq_false];intro y hy;obtain ⟨z,t,hkey⟩:=hk y (Array.mem_toList_iff.mp hy);simp [DictEntry.refKey,hkey]
  have a':¬ es.toList.any (·.refKey)=true:=by rw [a];exact Bool.false_ne_true
  rw [if_neg a'];exact congrArg some e
theorem ObjM.look {h:Heap} {x dx C:Addr} {mA:Str->Option Value} (I:ObjM h x dx C mA):∃ od,PySem.W.InstAt h x (PySem.W.instObj C dx) C (some od)/\∀ name,PySem.W.lookIn name od=some (mA name):=
 let ⟨od,ho,hl⟩:=qPT I.ns
 ⟨od,⟨I.obj,rfl,rfl,ho⟩,hl⟩
section
variable {prog:Program} {w:World} {A:Around} {E:Value->Shared->Prop} {s:Shared} {K:PySem.W.Frag} {x dx C f:Addr} {mA:Str->Option Value} {name:Str} {v:Value}
end
theorem RelO.some_of {v:V} {o:Option Value} (r:RelO (some v) o):∃ u,o=some u/\RelV v u:=by
 cases o with
 | none=>exact (show False from r).elim
 | some u=>exact ⟨u,rfl,r⟩
section
variable {P:Program} {w:World} {H H':Hp} {h h':Heap} {a C dx:Addr} {fs fs':List (Str × V)}
theorem qUJ (hok:HOk P w H h) (e:H a=some (.ins C dx fs)):∃ mA,ObjM h a dx C mA/\(∀ f,RelO (fs.lookup f) (mA f))/\PySem.Within mA (fs.map (·.1))/\fs.length<=1000/\H dx=some (.own a):=by
 obtain ⟨d,z,ne,ob,mA,n,r,q⟩:=(show ObjOk P w H h a (.ins C dx fs) from hok a _ e);exact ⟨mA,⟨ob,n,ne⟩,r,q,z,d⟩
end
structure Cls (K:PySem.W.Frag) (C:Addr):Prop where
 pg:PySem.W.plainGet K C Str.empty=true
 hd:PySem.W.hasDictIn K C=true
 po:PySem.W.plainOver K C=true
 sa:PySem.W.findIn K (.ref C) "__setattr__" = some (some (.builtin "object.__setattr__"))
theorem Cls.get {K:PySem.W.Frag} {C:Addr} (c:Cls K C) (f:Str):PySem.W.plainGet K C f=true:=c.pg
structure Con (K:PySem.W.Frag) (C:Addr) (f:Str) (v:V) (u:Value):Prop where
 at_:PySem.W.findIn K (.ref C) f=some (some u)
 rel:RelV v u
 get:PySem.W.specialIn K u "__get__" = some none
 cp:PySem.W.copiedNames.contains f=false
structure Meth (K:PySem.W.Frag) (C:Addr) (m:Str) (f:Addr):Prop where
 at_:PySem.W.findIn K (.ref C) m=some (some (.ref f))
 fn:PySem.W.isFn K (.ref f)=true
 kp:PySem.W.keepIn K (.ref f)=true
section
variable {X:Cx} {Ab:List (Addr × Obj)} {σ:St} {H:Hp} {s:Shared} {a C dx:Addr} {fs:List (Str × V)} {f:Str} {v:V} {A:Around} {E:Value->Shared->Prop}
end
section
variable {X:Cx} {o e value:Expr} {f:Str} {pos pos' tpos:Pos} {ta tv:TE}
end
section
variable {X:Cx} {Ab:List (Addr × Obj)} {σ:St} {H:Hp} {s:Shared} {A:Around} {E:Value->Shared->Prop} {Q:Value->Shared->Prop} {c:Value} {b:Bool}
inductive TyOf (K:PySem.W.Frag) (H:Hp):V->Value->Prop where
 | non:TyOf K H .non (.type "NoneType")
 | bl (x:Bool):TyOf K H (.bl x) (.type "bool")
 | int (i:Int):TyOf K H (.int i) (.type "int")
 | str (x:Str):TyOf K H (.str x) (.type "str")
 | flt (x:UInt64):TyOf K H (.flt x) (.type "float")
 | lst {a:Addr} {xs:List V} (e:H a=some (.lst xs)):TyOf K H (.ref a) (.type "list")
 | frz {a:Addr} {o:Obj} {xs:List V} (e:H a=some (.frz o (.lst xs))):TyOf K H (.ref a) (.type "list")
 | tup {a:Addr} {xs:List V} (e:H a=some (.tup xs)):TyOf K H (.ref a) (.type "tuple")
 | dK {a:Addr} {Ag:List (Key × V)} (e:H a=some (.dK Ag)):TyOf K H (.ref a) (.type "dict")
 | dT {a:Addr} {Ag:List (List KI × V)} (e:H a=some (.dT Ag)):TyOf K H (.ref a) (.type "dict")
 | ins {a C dx:Addr} {fs:List (Str × V)} (e:H a=some (.ins C dx fs)) (cl:Cls K C) (ha:PySem.W.findIn K (.ref C) "__class__" = some (some (.builtin "object.__class__")))
   (hn:PySem.W.specialIn K (.builtin "object.__class__") "__get__" = some (some (.builtin "getset_descriptor.__get__"))) (htk:PySem.W.takesIn K (.builtin "object.__class__")=some true)
   (hm:PySem.W.mroIn K C (.type "object")=some true):TyOf K H (.ref a) (.ref C)
theorem qQ5 {x:V} {u t:Value} (I:Inv X Ab σ H s) (rx:RelV x u) (ty:TyOf X.K H x t) (e:PySem.W.kitOne X.K t c=some b) (h:∀ tk,Q (.bool b) { s with toks:=tk }) :
  wpAny (model X.prog X.w) A (call (.builtin "isinstance") [u,c]) Q E s:=by
 cases ty with
 | non=>cases (show u=Value.none from rx);exact PySem.W.kia_one PySem.W.kitx_none I.kIn True.intro e (fun z=>nomatch z) h
 | bl y=>cases (show u=Value.bool y from rx);exact PySem.W.kia_one PySem.W.kitx_bool I.kIn True.intro e (fun z=>nomatch z) h
 | int i=>obtain ⟨t,q⟩:=(show ∃ t,u=Value.int i t from rx);cases q;exact PySem.W.kia_one PySem.W.kitx_int I.kIn True.intro e (fun z=>nomatch z) h
 | str y=>obtain ⟨t,q⟩:=(show ∃ t,u=Value.str y t from rx);cases q;exact PySem.W.kia_one PySem.W.kitx_str I.kIn True.intro e (fun z=>nomatch z) h
 | flt y=>obtain ⟨t,q⟩:=(show ∃ t,u=Value.float y t from rx);cases q;exact PySem.W.kia_one PySem.W.kitx_float I.kIn True.intro e (fun z=>nomatch z) h
 | @lst a xs ea=>
  cases (show u=Value.ref a from rx);obtain ⟨_,_,n,_,h1⟩:=(show ObjOk X.prog X.w H s.heap a (.lst xs) from I.hok a _ ea);exact PySem.W.kia_one PySem.W.kitx_list I.kIn ⟨_,h1,rfl⟩ e (fun z=>nomatch z) h
 | @frz a ob xs ea=>
  cases (show u=Value.ref a from rx);obtain ⟨_,_,_,n,_,h1⟩:=(show ObjOk X.prog X.w H s.heap a (.frz ob (.lst xs)) from I.hok a _ ea);exact PySem.W.kia_one PySem.W.kitx_list I.kIn ⟨_,h1,rfl⟩ e (fun z=>nomatch z) h
 | @tup a xs ea=>
  cases (show u=Value.ref a from rx);obtain ⟨_,_,_,p⟩:=(show ObjOk X.prog X.w H s.heap a (.tup xs) from I.hok a _ ea);obtain ⟨o,h1,h2,_⟩:=p;exact PySem.W.kia_one PySem.W.kitx_tuple I.kIn ⟨o,h1,h2⟩ e (fun z=>nomatch z) h
 | @dK a Ag ea=>
  cases (show u=Value.ref a from rx);obtain ⟨_,_,vs,_,p⟩:=(show ObjOk X.prog X.w H s.heap a (.dK Ag) from I.hok a _ ea);obtain ⟨o,es,ep,h1,h2,_⟩:=p;exact PySem.W.kia_one PySem.W.kitx_dict I.kIn ⟨o,h1,h2.1⟩ e (fun z=>nomatch z) h
 | @dT a Ag ea=>
  cases (show u=Value.ref a from rx);obtain ⟨_,_,xs,_,o,es,ep,h1,h2,_⟩:=(show ObjOk X.prog X.w H s.heap a (.dT Ag) from I.hok a _ ea);exact PySem.W.kia_one PySem.W.kitx_dict I.kIn ⟨o,h1,h2.1⟩ e (fun z=>nomatch z) h
 | @ins a C dx fs ea cl ha hn htk hm=>
  cases (show u=Value.ref a from rx);obtain ⟨mA,O,_⟩:=qUJ I.hok ea;obtain ⟨od,J,_⟩:=O.look;exact PySem.W.kia_one (PySem.W.kitx_own (cl.get _) cl.hd ha hn htk hm) I.kIn J e (fun z=>nomatch z) h
end
end L2
namespace L2
open PySem PySem.Spec PyProof.Rows
structure Room (k:Nat) (A:Around):Prop where
 hd:A.handled=none
 dp:A.depth+3 * k+5<recursionLimit
 un:A.units+16 * k+200<cLine
 gd:A.guards=some []
theorem Room.mono {j k:Nat} {A:Around} (r:Room k A) (h:j<=k):Room j A:=⟨r.hd,by have:=r.dp;lia,by have:=r.un;lia,r.gd⟩
theorem Room.deeper {k:Nat} {A:Around} (r:Room (k+1) A) (env:Env):Room k (A.deeper env):=
 ⟨r.hd,by have:=r.dp;show A.depth+1+3 * k+5<_;lia,by have:=r.un;show A.units+3+16 * k+200<_;lia,r.gd⟩
theorem Room.in1 {k:Nat} {A:Around} (r:Room (k+1) A):Room k A.in1:=
 ⟨r.hd,by have:=r.dp;show A.depth+3 * k+5<_;lia,by have:=r.un;show A.units+1+16 * k+200<_;lia,r.gd⟩
theorem Room.depth {k:Nat} {A:Around} (r:Room k A):A.depth<recursionLimit:=by have:=r.dp;lia
theorem Room.units {k:Nat} {A:Around} (r:Room k A):A.units+64<cLine:=by have:=r.un;lia
theorem Room.units0 {k:Nat} {A:Around} (r:Room k A):A.units<cLine:=by have:=r.un;lia
def tNil:TA:=fun _ H Q=>Q [] H
def qVF (ta:TE) (tr:TA):TA:=fun σ H Q=>ta σ H fun x H1=>tr σ H1 fun xs H2=>Q (x::xs) H2
section
variable {X:Cx} {e:Expr} {es:List Expr} {te:TE} {t:TA} {pos:Pos}
theorem qA3:PA X [] tNil:=fun _ _ _ _ H Q I h=>Calls.spliced_nil ⟨[],H,I,.nil,h⟩
theorem qA0 (ha:PE X e te) (hr:PA X es t) (hs:starEach (e::es) X.env=(false,eval e X.env)::starEach es X.env:=by rfl):PA X (e::es) (qVF te t):=by
 intro pos Ab s σ H Q I h;rw [hs];show wpAny _ _ (spliced ((false,eval e X.env)::backTo pos (starEach es X.env))) _ _ s;refine Calls.spliced_cons (thn (ha Ab s σ H _ I h) fun u s1 ⟨x,H1,I1,r1,q1⟩=>?_);exact thn (hr pos Ab s1 σ H1 _ I1 q1) fun us s2 ⟨xs,H2,I2,r2,q2⟩=>⟨x::xs,H2,I2,.cons r1 r2,q2⟩
def tTup (t:TA):TE:=fun σ H Q=>t σ H fun xs H1=>xs.length<=sizeLine/\∀ p,H1 p=none->Q (.ref p) (Ah H1 p (.tup xs))
def tLst (t:TA):TE:=fun σ H Q=>t σ H fun xs H1=>xs.length<=sizeLine/\∀ p,H1 p=none->Q (.ref p) (Ah H1 p (.lst xs))
theorem qC8 {x1} (h:PA X es t):PE X (.Tuple es x1 pos) (tTup t):=by
 intro Ab s σ H Q I hq;refine wpAny_Tuple_spliced (thn (h pos Ab s σ H _ I hq) fun us s1 ⟨xs,H1,I1,r,z,q⟩=>⟨by rw [<- r.length];exact z,?_⟩)
 have hf:H1 s1.heap.objs.size=none:=I1.hok.fresh (Nat.le_refl _);refine ⟨.ref s1.heap.objs.size,Ah H1 s1.heap.objs.size (.tup xs),I1.laid (t':=s1.toks) (fun b u e=>Heap.get?_push_of_some _ e) (Nat.le_refl _) ?_,rfl,q _ hf⟩;exact ⟨z,us,r,⟨_,Heap.get?_push_size _ rfl,rfl,_,rfl⟩⟩
theorem qBB (h:PA X es t):PE X (.List es pos) (tLst t):=by
 intro Ab s σ H Q I hq;refine wpAny_List_spliced (thn (h pos Ab s σ H _ I hq) fun us s1 ⟨xs,H1,I1,r,z,q⟩=>⟨by rw [<- r.length];exact z,?_⟩)
 have hf:H1 s1.heap.objs.size=none:=I1.hok.fresh (Nat.le_refl _);refine ⟨.ref s1.heap.objs.size,Ah H1 s1.heap.objs.size (.lst xs),I1.laid (t':=s1.toks) (fun b u e=>Heap.get?_push_of_some _ e) (Nat.le_refl _) ?_,rfl,q _ hf⟩;exact ⟨z,us,0,r,Heap.get?_push_size _ rfl⟩
end
abbrev Sp:=List V->Hp->VK->XK->Prop
abbrev CXT:=List Env->Hp->Shared->XK->Value->Shared->Prop
structure Env0 (P:Program) (w:World) (K:PySem.W.Frag) (mg:Str->Option Value) (base:Heap) (A:Around) (outer:List Env) (s:Shared) (H:Hp):Prop where
 frames:A.frames=some outer
 mod:Mod K mg base
 bs:∀ b o,base.get? b=some o->s.heap.get? b=some o/\H b=none
 bsz:base.objs.size<=s.heap.objs.size
 funs:s.heap.FunFrames base outer
 frf:∀ b ∈ frs outer,H b=none
 hok:HOk P w H s.heap
 bare:AllBare s.gens
def CE (outer:List Env) (P:Program) (w:World) (H:Hp) (s:Shared) (Q:VK) (u:Value) (s':Shared):Prop:=
 ∃ v H',s'.os=s.os/\AllBare s'.gens/\Un (frs outer) [] H H' s.heap s'.heap/\HOk P w H' s'.heap/\RelV v u/\Q v H'
def CR (CX:CXT) (outer:List Env) (P:Program) (w:World) (H:Hp) (s:Shared) (Q:VK) (E:XK) (r:Result) (s':Shared):Prop:=
 match r with
 | .ok (.ret u)=>CE outer P w H s Q u s'
 | .ok _=>False
 | .error e=>CX outer H s E e s'
structure FnOk (P:Program) (w:World) (K:PySem.W.Frag) (mg:Str->Option Value) (base:Heap) (CX:CXT) (k:Nat) (f:Addr) (fd:FuncData) (ps:List Str) (sp:Sp):Prop where
 len:∀ vs H Q E,sp vs H Q E->vs.length=ps.length
 run:∀ (A:Around) (outer:List Env) (s:Shared) (H:Hp) (args:Args) (us:List Value) (vs:List V) (Q:VK) (E:XK),Room k A->Env0 P w K mg base A outer s H->BindsTo s fd args (ps.zip us)->Vals vs us->sp vs H Q E->
  codeAny (model P w) A (.call (.ref f) args) (CR CX outer P w H s Q E) s
section
variable {X:Cx} {Ab:List (Addr × Obj)} {σ:St} {H:Hp} {s s':Shared}
theorem Inv.env0 (I:Inv X Ab σ H s):Env0 X.prog X.w X.K X.mg X.base X.A X.stack s H:=
 ⟨I.ok.frames,I.ok.mod,I.bs,Nat.le_trans I.ok.bsz I.sz,I.stack,I.stkFree,I.hok,I.bare⟩
theorem Inv.after {Q:VK} {u:Value} (I:Inv X Ab σ H s) (h:CE X.stack X.prog X.w H s Q u s'):EP X Ab σ Q u s':=by
 obtain ⟨v,H',os,bare,un,hok,r,q⟩:=h;obtain ⟨hh,g,d,t,os'⟩:=s';obtain rfl:os'=s.os:=os;exact ⟨v,H',I.call (h':=hh) (g':=g) (d':=d) (t':=t) (ch:=[]) un hok bare (fun b z=>absurd z (by simp)),r,q⟩
end
def qVG (sp:Sp) (dvs:List V) (E:XK) (t:TA):TE:=fun σ H Q=>t σ H fun vs H1=>sp (vs++dvs) H1 Q E
def Binds (K:PySem.W.Frag) (fd:FuncData) (ps:List Str) (ds:List Value):Prop:=
 ∀ (s:Shared) (us:List Value),K.In s.heap->(us++ds).length=ps.length->BindsTo s fd ⟨us,[]⟩ (ps.zip (us++ds))
theorem Binds.all {K:PySem.W.Frag} {fd:FuncData} {ps:List Str} (h:∀ us:List Value,us.length=ps.length->bindArgs fd ⟨us,[]⟩=pure (ps.zip us)):Binds K fd ps []:=fun s us _ hl=>by
 rw [List.append_nil] at hl ⊢;exact .of_eq (h us hl)
def qR6 (CX:CXT) (X:Cx) (E:XK):Prop:=∀ (Ab:List (Addr × Obj)) (σ:St) (H:Hp) (s:Shared) (e:Value) (s':Shared),Inv X Ab σ H s->CX X.stack H s E e s'->X.xe e s'
section
variable {X:Cx} {CX:CXT} {k:Nat} {f C:Addr} {fd:FuncData} {ps:List Str} {sp:Sp} {dvs:List V} {ds:List Value} {E:XK} {x m:Str} {p pos apos:Pos} {e o:Expr} {es:List Expr} {ta:TE} {t:TA}
theorem qVN {Ab:List (Addr × Obj)} {σ:St} {H:Hp} {s:Shared} {Q:VK} {us:List Value} {vs:List V} (F:FnOk X.prog X.w X.K X.mg X.base CX k f fd ps sp) (hr:Room k X.A) (hb:Binds X.K fd ps ds) (hd:Vals dvs ds) (hx:qR6 CX X E)
  (I:Inv X Ab σ H s) (r:Vals vs us) (h:sp (vs++dvs) H Q E):wpAny (model X.prog X.w) X.A (call (.ref f) us) (EP X Ab σ Q) X.xe s:=by
 have r2:Vals (vs++dvs) (us++ds):=r.append hd;have hl:(us++ds).length=ps.length:=by rw [<- r2.length];exact F.len _ _ _ _ h
 refine wpAny_call (codeAny_mono (F.run X.A X.stack s H ⟨us,[]⟩ (us++ds) (vs++dvs) Q E hr I.env0 (hb s us I.kIn hl) r2 h) fun r s' hq=>?_);cases r with
 | error e=>exact hx Ab σ H s e s' I hq
 | ok fl=>
  cases fl with
  | ret u=>exact I.after hq
  | next=>exact False.elim hq
  | brk=>exact False.elim hq
  | cont=>exact False.elim hq
theorem qPI (F:FnOk X.prog X.w X.K X.mg X.base CX k f fd ps sp) (hr:Room k X.A) (hg:Gl X x) (hm:X.mg x=some (.ref f)) (hk:PySem.W.keepIn X.K (.ref f)=true) (hb:Binds X.K fd ps ds) (hd:Vals dvs ds) (hx:qR6 CX X E)
  (ha:PA X (e::es) t) (hdb:(x == ("__debug__" : Str))=false:=by decide) (he:starEach (e::es) X.env=(false,eval e X.env)::starEach es X.env:=by rfl) (hpl:(backTo pos (starEach es X.env)).any (·.1)=false:=by rfl) :
  PE X (.Call (.Name x p) (e::es) [] pos) (qVG sp dvs E t):=by
 intro Ab s σ H Q I h;refine wpAny_Call_Name_kw (qPW I hg hm ?_ hdb);refine PySem.W.callWith_K (h₀:=X.base) I.ok.mod.kin hk (thn (ha pos Ab s σ H _ I h) fun us s1 ⟨vs,H1,I1,r,q⟩=>⟨I1.kIn,?_⟩) he hpl;exact qVN F hr hb hd hx I1 r q
structure Mk (K:PySem.W.Frag) (C f:Addr):Prop where
 makes:PySem.W.makesIn K C=true
 init:PySem.W.findIn K (.ref C) "__init__" = some (some (.ref f))
 fn:PySem.W.isFn K (.ref f)=true
 kp:PySem.W.keepIn K (.ref C)=true
end
def PK (X:Cx) (kws:List Keyword) (t:TA):Prop:=
 ∀ (pos:Pos) (Ab:List (Addr × Obj)) (s:Shared) (σ:St) (H:Hp) (Q:List V->Hp->Prop),Inv X Ab σ H s->t σ H Q->wpAny (model X.prog X.w) X.A (evalAll ((backToKw pos (keywordEach kws X.env)).map (·.2))) (AP X Ab σ Q) X.xe s
section
variable {X:Cx} {CX:CXT} {k:Nat} {f C:Addr} {fd:FuncData} {ps ks:List Str} {sp:Sp} {E:XK} {x m:Str} {p pos apos kpos:Pos} {e o:Expr} {es:List Expr} {kws:List Keyword} {te ta:TE} {t tk:TA} {nm:Option Str}
theorem qT2:PK X [] tNil:=fun _ _ _ _ H Q I h=>wpAny_evalAll_nil ⟨[],H,I,.nil,h⟩
theorem qPC (ha:PE X e te) (hr:PK X kws t):PK X (⟨nm,e,kpos⟩::kws) (qVF te t):=by
 intro pos Ab s σ H Q I h;show wpAny _ _ (evalAll ((do let v <- eval e X.env;standAt pos;pure v)::(backToKw pos (keywordEach kws X.env)).map (·.2))) _ _ s
 refine wpAny_evalAll_cons (wpAny_bind (thn (ha Ab s σ H _ I h) fun u s1 ⟨x,H1,I1,r1,q1⟩=>wpAny_bind (wpAny_standAt (wpAny_pure ?_))));exact thn (hr pos Ab s1 σ H1 _ I1 q1) fun us s2 ⟨xs,H2,I2,r2,q2⟩=>⟨x::xs,H2,I2,.cons r1 r2,q2⟩
structure KBinds (K:PySem.W.Frag) (fd:FuncData) (ps ks:List Str) (g:List Value->List Value->List Value) (gV:List V->List V->List V):Prop where
 to:∀ (s:Shared) (us ws:List Value),K.In s.heap->(g us ws).length=ps.length->BindsTo s fd ⟨us,ks.zip ws⟩ (ps.zip (g us ws))
 rel:∀ {vs:List V} {us:List Value} {zs:List V} {ws:List Value},Vals vs us->Vals zs ws->Vals (gV vs zs) (g us ws)
variable {g:List Value->List Value->List Value} {gV:List V->List V->List V}
end
structure FnScope (N P:List Str) (sc:Scope):Prop where
 kind:sc.kind=.function
 co:sc.isCoroutine=false
 gen:sc.isGenerator=false
 nd:N.Nodup
 pre:N.take P.length=P
 par:∀ x ∈ P,sc.names.lookup x=some .local\/sc.names.lookup x=some .cell
 nofree:∀ y ∈ sc.names,y.2 ≠ .free
theorem qLN {kindOf:Str->Option NameKind} {x:Str}:∀ {binds:List (Str × Value)} {m:Str->Option Value},(∀ v,(x,v) ∉ binds)->bindL kindOf binds m x=m x
 | [],_,_=>rfl
 | (n,v)::r,m,h=>by
  unfold bindL;rw [qLN fun w hw=>h w (List.mem_cons_of_mem _ hw)]
  split
  ·have:x ≠ n:=by rintro rfl;exact h v List.mem_cons_self
   simp [this]
  ·rfl
theorem qLP {kindOf:Str->Option NameKind} {x:Str}:∀ {binds:List (Str × Value)} {m:Str->Option Value},(∀ v,(x,v) ∉ binds)->bindC kindOf binds m x=m x
 | [],_,_=>rfl
 | (n,v)::r,m,h=>by
  unfold bindC;rw [qLP fun w hw=>h w (List.mem_cons_of_mem _ hw)]
  split
  ·rfl
  ·have:x ≠ n:=by rintro rfl;exact h v List.mem_cons_self
   simp [this]
theorem qLO {kindOf:Str->Option NameKind} {x:Str} {v:Value}:∀ {P:List Str} {vs:List Value} {i:Nat} {m:Str->Option Value},P.Nodup->P[i]?=some x->vs[i]?=some v->kindOf x=some .local->
  bindL kindOf (P.zip vs) m x=some v
 | [],_,_,_,_,h,_,_=>by simp at h
 | _::_,[],_,_,_,_,h,_=>by simp at h
 | p::P,w::vs,0,m,nd,h1,h2,hk=>by
  simp at h1 h2;subst h1;subst h2;show bindL kindOf ((p,w)::P.zip vs) m p=_;unfold bindL;rw [qLN fun v hv=>(List.nodup_cons.mp nd).1 (List.of_mem_zip hv).1,if_pos hk];simp
 | p::P,w::vs,i+1,m,nd,h1,h2,hk=>by
  show bindL kindOf ((p,w)::P.zip vs) m x=_;unfold bindL;exact qLO (i:=i) (List.nodup_cons.mp nd).2 (by simpa using h1) (by simpa using h2) hk
theorem qLQ {kindOf:Str->Option NameKind} {x:Str} {v:Value}:∀ {P:List Str} {vs:List Value} {i:Nat} {m:Str->Option Value},P.Nodup->P[i]?=some x->vs[i]?=some v->kindOf x ≠ some .local->
  bindC kindOf (P.zip vs) m x=some v
 | [],_,_,_,_,h,_,_=>by simp at h
 | _::_,[],_,_,_,_,h,_=>by simp at h
 | p::P,w::vs,0,m,nd,h1,h2,hk=>by
  simp at h1 h2;subst h1;subst h2;show bindC kindOf ((p,w)::P.zip vs) m p=_;unfold bindC;rw [qLP fun v hv=>(List.nodup_cons.mp nd).1 (List.of_mem_zip hv).1,if_neg hk];simp
 | p::P,w::vs,i+1,m,nd,h1,h2,hk=>by
  show bindC kindOf ((p,w)::P.zip vs) m x=_;unfold bindC;exact qLQ (i:=i) (List.nodup_cons.mp nd).2 (by simpa using h1) (by simpa using h2) hk
noncomputable def start (N:List Str) (vs:List V):St:=vs.map some++List.replicate (N.length - vs.length) none
noncomputable def cxOf (CX:CXT) (P:Program) (w:World) (K:PySem.W.Frag) (mg:Str->Option Value) (base:Heap) (N:List Str) (qual:Str) (scope:Scope) (f:Addr) (cd:Value) (A:Around) (outer:List Env) (s:Shared) (H:Hp) (E:XK):Cx where
 prog:=P
 w:=w
 K:=K
 mg:=mg
 base:=base
 A:=A.deeper (envOfC qual scope s.heap.objs.size f cd)
 N:=N
 s₀:=s
 H₀:=H
 env:=envOfC qual scope s.heap.objs.size f cd
 outer:=outer
 stack:=envOfC qual scope s.heap.objs.size f cd::outer
 ex:=[]
 calm:=true
 fn:=fun _=>true
 pn:=[]
 xe:=fun e s'=>wpAny (model P w) (A.deeper (envOfC qual scope s.heap.objs.size f cd)) (leaving (envOfC qual scope s.heap.objs.size f cd) e) (fun _ s''=>CX outer H s E e s'') (fun e' s''=>CX outer H s E e' s'') s'
theorem qNO {sc:Scope} {n:Nat} {x:Str} (h:sc.names.lookup x=some .cell):∃ c,(cellsFrom n sc.names []).lookup x=some c:=by
 have q:=PySem.W.cellsFrom_some sc.names n [] (.inl h);exact Option.isSome_iff_exists.mp q
theorem qQ6 {CX:CXT} {P:Program} {w:World} {K:PySem.W.Frag} {mg:Str->Option Value} {base:Heap} {N ps:List Str} {qual:Str} {scope:Scope} {f:Addr} {cd:Value} {A:Around} {outer:List Env} {s s1:Shared} {H:Hp} {E:XK} {us:List Value} {vs:List V}
  (S:FnScope N ps scope) (hd:A.handled=none) (e0:Env0 P w K mg base A outer s H) (hl:vs.length=ps.length) (r:Vals vs us)
  (x:InCallC s s.heap.objs.size (bindL (envOfC qual scope s.heap.objs.size f cd).kindOf (ps.zip us) fun _=>none) (cellsFrom (s.heap.objs.size+1) scope.names []) (bindC (envOfC qual scope s.heap.objs.size f cd).kindOf (ps.zip us) fun _=>none) s1) :
  Inv (cxOf CX P w K mg base N qual scope f cd A outer s H E) [] (start N vs) H s1:=by
 have hpl:ps.length<=N.length:=by have:=congrArg List.length S.pre;rw [List.length_take] at this;lia
 obtain ⟨h1,tk,rfl,hk⟩:=x.done;have noA:∀ b:Addr,b ∉ (cxOf CX P w K mg base N qual scope f cd A outer s H E).ex:=fun b z=>absurd (show b ∈ ([]:List Addr) from z) (by simp)
 refine ⟨⟨e0.mod,S.kind,rfl,rfl,Nat.le_refl _,fun y z c h1 h2=>?_,fun y hy=>?_,fun y c _ h=>?_,fun _=>hd,Around.frames_deeper e0.frames,.inr ⟨rfl,rfl⟩,fun b z=>absurd z (noA b),e0.bs,e0.bsz,fun b _ _=>noA b,fun b z=>absurd z (noA b),e0.funs,e0.frf⟩,
  rfl,e0.bare,Un.kept hk,⟨_,x.toInCall.ns,fun i y v h1 h2 h3=>?_⟩,fun y c h=>⟨_,x.cell y c h⟩,e0.hok.fresh (Nat.le_refl _),fun y c h=>?_,fun p hp=>absurd (show p ∈ ([]:List (Addr × Obj)) from hp) (by simp),e0.hok.kept hk,?_⟩
 ·exact name_of_addr x.apart (PySem.mem_of_lookup h1) (PySem.mem_of_lookup h2)
 ·have hy:scope.names.lookup y=some .cell\/scope.names.lookup y=some .free:=hy;rcases hy with hy | hy
  ·exact qNO hy
  ·exact absurd rfl (S.nofree _ (PySem.mem_of_lookup hy))
 ·exact Nat.le_of_lt (x.above y c (PySem.mem_of_lookup h))
 ·have hi:i<vs.length:=by
   unfold start at h2;by_cases hi:i<vs.length
   ·exact hi
   ·rw [List.getElem?_append_right (by simpa using hi)] at h2
    rw [List.getElem?_replicate] at h2
    split at h2 <;> cases h2
  have ha:vs[i]?=some v:=by
   unfold start at h2;rw [List.getElem?_append_left (by simpa using hi),List.getElem?_map] at h2
   cases e:vs[i]? with
   | none=>rw [e] at h2;cases h2
   | some a=>rw [e] at h2;cases h2;rfl
  obtain ⟨u,hu,rv⟩:=r.get ha;have hp:ps[i]?=some y:=by
   rw [<- S.pre,List.getElem?_take_of_lt (by lia)];exact h1
  have ndP:ps.Nodup:=by rw [<- S.pre];exact S.nd.sublist (List.take_sublist _ _)
  refine ⟨u,rv,?_⟩;rcases S.par y (List.mem_of_getElem? hp) with k | k
  ·exact .inl ⟨k,qLO ndP hp hu k⟩
  ·obtain ⟨c,e⟩:=qNO (n:=s.heap.objs.size+1) k;refine .inr ⟨.inl k,c,e,?_⟩;have q:=x.cell y c e;rw [qLQ ndP hp hu (by show scope.names.lookup y ≠ _;rw [k];decide)] at q
   exact q
 ·exact e0.hok.fresh (Nat.le_of_lt (x.above y c (PySem.mem_of_lookup h)))
 ·unfold start;show _=N.length;rw [List.length_append,List.length_map,List.length_replicate]
  lia
theorem qWP {CX:CXT} {P:Program} {w:World} {K:PySem.W.Frag} {mg:Str->Option Value} {base:Heap} {k:Nat} {f:Addr} {name qual:Str} {params:Arguments} {body:List Stmt} {scope:Scope} {dV kV doc pm cdv ct oc:Value} {an od:Option Addr}
  {osl:Array (Option Value)} {N ps:List Str} {sp:Sp} (lk:K.lookup f=some ⟨oc,od,.func (PySem.W.fnOf name qual params body scope dV kV doc pm an cdv ct),osl⟩) (hcd:PySem.W.codeIn K cdv qual=true) (S:FnScope N ps scope)
  (len:∀ vs H Q E,sp vs H Q E->vs.length=ps.length)
  (hbody:∀ (A:Around) (outer:List Env) (s:Shared) (H:Hp) (vs:List V) (Q:VK) (E:XK),Room k (A.deeper (envOfC qual scope s.heap.objs.size f cdv))->sp vs H Q E->
   ∃ t,PSs (cxOf CX P w K mg base N qual scope f cdv A outer s H E) body t/\t { nx:=fun _ H'=>Q .non H',rt:=Q } (start N vs) H) :
  FnOk P w K mg base CX (k+1) f (PySem.W.fnOf name qual params body scope dV kV doc pm an cdv ct) ps sp:=by
 refine ⟨len,fun A outer s H args us vs Q E hr e0 hb r hsp=>?_⟩;have hl:=len _ _ _ _ hsp;have KX:K.In s.heap:=e0.mod.kin.keeps fun b o e=>(e0.bs b o e).1;have lim:s.heap.NoLimit:=e0.mod.nolimit.keeps fun b o e=>(e0.bs b o e).1;have hkind:∀ y ∈ ps.zip us,scope.names.lookup y.1=some .local\/(scope.names.lookup y.1=some .cell/\((cellsFrom (s.heap.objs.size+1) scope.names []).lookup y.1).isSome=true):=fun ⟨n,v⟩ hy=>by
  rcases S.par n (List.of_mem_zip hy).1 with q | q
  ·exact .inl q
  ·exact .inr ⟨q,PySem.W.cellsFrom_some _ _ _ (.inl q)⟩
 refine codeAny_call_function hr.depth (KX _ _ lk) rfl S.co S.gen rfl (PySem.W.codeRec_of KX hcd) (hb _ _ _ _ ?_);refine wpAny_newFunctionEnv_cells S.kind hkind fun env he s1 x=>?_;subst he;refine ⟨lim.keeps x.toInCall.keep,codeAny_func ?_⟩;obtain ⟨t,ht,hq⟩:=hbody A outer s H vs Q E (hr.deeper _) hsp;have I:Inv (cxOf CX P w K mg base N qual scope f cdv A outer s H E) [] (start N vs) H s1:=qQ6 S hr.hd e0 hl r x;refine wpAny_mono (ht [] s1 (start N vs) H _ I hq) (fun fl s' hs=>?_) fun e s' hs=>hs;have fin:∀ {σ':St} {H':Hp} {v:V} {u:Value},Inv (cxOf CX P w K mg base N qual scope f cdv A outer s H E) [] σ' H' s'->RelV v u->Q v H'->CE outer P w H s Q u s':=
  fun {σ' H' v u} J rv q=>⟨v,H',J.os,J.bare,J.base,J.hok,rv,q⟩
 cases fl with
 | ret u=>
  obtain ⟨v,σ',H',J,rv,q⟩:=hs;exact fin J rv q
 | next=>
  obtain ⟨σ',H',J,q⟩:=hs;exact fin (v:=V.non) (u:=Value.none) J rfl q
 | brk=>
  obtain ⟨_,_,_,q⟩:=hs;exact False.elim q
 | cont=>
  obtain ⟨_,_,_,q⟩:=hs;exact False.elim q
end L2
namespace L2
open PySem PySem.Spec PyProof.Rows
section
variable {X:Cx} {x:Str} {p pos:Pos} {e:Expr} {es:List Expr} {t:TA} {id T:String} {r:List V->Hp->VK->Prop}
def tCB (r:List V->Hp->VK->Prop) (t:TA):TE:=fun σ H Q=>t σ H fun vs H1=>r vs H1 Q
theorem qA9 (hc:qCV X (.builtin id) r) (hg:Gl X x) (hm:X.mg x=none) (hv:bootBuiltins x=some (.builtin id)) (ha:PA X (e::es) t) (hn:x ≠ "__name__":=by decide) (hdb:(x == ("__debug__" : Str))=false:=by decide)
  (he:starEach (e::es) X.env=(false,eval e X.env)::starEach es X.env:=by rfl) (hpl:(backTo pos (starEach es X.env)).any (·.1)=false:=by rfl):PE X (.Call (.Name x p) (e::es) [] pos) (tCB r t):=by
 intro Ab s σ H Q I h;refine wpAny_Call_Name_kw (qGC I hg hm hv ?_ hn hdb);exact PyProof.Rows.callWith_builtin1 (thn (ha pos Ab s σ H _ I h) fun us s1 ⟨vs,H1,I1,r1,q1⟩=>hc Ab s1 σ H1 vs us Q I1 r1 q1) he hpl
theorem qAF (hc:qCV X (.type T) r) (hg:Gl X x) (hm:X.mg x=none) (hv:bootBuiltins x=some (.type T)) (ha:PA X (e::es) t) (hn:x ≠ "__name__":=by decide) (hdb:(x == ("__debug__" : Str))=false:=by decide)
  (he:starEach (e::es) X.env=(false,eval e X.env)::starEach es X.env:=by rfl) (hpl:(backTo pos (starEach es X.env)).any (·.1)=false:=by rfl):PE X (.Call (.Name x p) (e::es) [] pos) (tCB r t):=by
 intro Ab s σ H Q I h;refine wpAny_Call_Name_kw (qGC I hg hm hv ?_ hn hdb);exact PyProof.Rows.callWith_type1 (thn (ha pos Ab s σ H _ I h) fun us s1 ⟨vs,H1,I1,r1,q1⟩=>hc Ab s1 σ H1 vs us Q I1 r1 q1) he hpl
end
end L2
namespace HT
open PySem PyProof.Rows
noncomputable def lexLt:List Int->List Int->Bool
 | [],[]=>false
 | [],_::_=>true
 | _::_,[]=>false
 | x::xs,y::ys=>if x=y then lexLt xs ys else decide (x<y)
theorem lexLt_cons (x y:Int) (xs ys:List Int):lexLt (x::xs) (y::ys)=if x=y then lexLt xs ys else decide (x<y):=rfl
theorem lexLt_nil_nil:lexLt [] []=false:=rfl
theorem qIB (y:Int) (ys:List Int):lexLt [] (y::ys)=true:=rfl
theorem qIC (x:Int) (xs:List Int):lexLt (x::xs) []=false:=rfl
theorem qSJ (A:Around) (s:Shared) (a:Int) (t:Tok) (c:Int) (u:Tok):∃ e,SeqAt.EqAt A s (.int a t) (.int c u) e/\(e=true ↔ a=c):=
 ⟨(a == c),SeqAt.EqAt.int_int a t c u,by simp⟩
theorem rcLt_int (A:Around) (s:Shared) (a:Int) (t:Tok) (c:Int) (u:Tok) (prog:Program) (w:World) (E:Value->Shared->Prop) (Q:Value->Shared->Prop) (h:Q (.bool (decide (a<c))) s) :
  wpAny (model prog w) A (richCompare .Lt (.int a t) (.int c u)) Q E s:=
 (PyProof.Rows.lt_int h:wpAny (model prog w) A (compareOp .Lt (.int a t) (.int c u)) Q E s)
section
open PySem.SeqAt
open PySem.AutoSeq1 (wpAny_loadPart')
open PySem.MeetsSeq PySem.MeetsSeq2 PySem.MeetsSeq3
end
section
variable {prog:Program} {w:World} {A:Around} {E:Value->Shared->Prop} {s:Shared}
theorem cat_tup {t b:Addr} {vs ws:List Value} {Q:Value->Shared->Prop} (ht:IsTup s.heap t vs.toArray) (hb:IsTup s.heap b ws.toArray) (hv:vs ≠ [])
  (h1:ws=[]->Q (.ref t) s) (h2:ws ≠ []->Q (.ref s.heap.objs.size) { s with heap:=s.heap.push { cls:=.type "tuple",data:=.seq (vs++ws).toArray } })
  (hsz:vs.length+ws.length<=sizeLine):wpAny (model prog w) A (binaryOp .Add (.ref t) (.ref b)) Q E s:=by
 obtain ⟨⟨cls,dd,data,sl⟩,ho,hc,n,hd⟩:=id ht;obtain ⟨⟨cls2,dd2,data2,sl2⟩,ho2,hc2,n2,hd2⟩:=id hb;simp only at hc hd hc2 hd2;subst hc hd hc2 hd2;have e:vs.toArray++ws.toArray=(vs++ws).toArray:=by simp
 by_cases hw:ws=[]
 ·exact concat_meets ⟨_,ho,rfl⟩ ⟨_,ho2,rfl⟩ noFill_tuple_add seq_tuple_add PySem.F.slot_tuple_add PySem.F.entry_tuple_add (PySem.F.args_tuple_add_2 _ _)
   (tuple_addW1 t b vs.toArray ws.toArray n n2 dd dd2 sl sl2 (by simpa using hv) (by simp [hw])) ⟨ho,ho2,h1 hw⟩
 ·refine concat_meets ⟨_,ho,rfl⟩ ⟨_,ho2,rfl⟩ noFill_tuple_add seq_tuple_add PySem.F.slot_tuple_add PySem.F.entry_tuple_add (PySem.F.args_tuple_add_2 _ _)
   (tuple_addW2 t b vs.toArray ws.toArray n n2 dd dd2 sl sl2 (by simpa using hv) (by simpa using hw) (by rw [List.size_toArray,List.size_toArray];exact hsz)) ⟨ho,ho2,?_⟩
  rw [e];exact h2 hw
noncomputable def sIx (n d:Nat):Option Int->Nat
 | none=>d
 | some v=>if v<0 then (v+(n:Int)).toNat else min v.toNat n
theorem sIx_none (n d:Nat):sIx n d none=d:=rfl
theorem sIx_nat (n d k:Nat):sIx n d (some (k:Int))=min k n:=by
 show (if (k:Int)<0 then ((k:Int)+(n:Int)).toNat else min (k:Int).toNat n)=min k n
 rw [if_neg (by lia),Int.toNat_natCast]
theorem qVM (n d:Nat) (hd:d<=n) (o:Option Int):sIx n d o<=n:=by
 cases o with
 | none=>exact hd
 | some v=>
  show (if v<0 then (v+(n:Int)).toNat else min v.toNat n)<=n
  by_cases hv:v<0
  ·rw [if_pos hv];lia
  ·rw [if_neg hv];exact Nat.min_le_right _ _
theorem qQU (v:Int) (n d:Nat):(if v<0 then max (v+(n:Int)) 0 else min v (n:Int))=((sIx n d (some v):Nat):Int):=by
 show (if v<0 then max (v+(n:Int)) 0 else min v (n:Int))=(((if v<0 then (v+(n:Int)).toNat else min v.toNat n):Nat):Int)
 by_cases hv:v<0
 ·simp only [if_pos hv];lia
 ·simp only [if_neg hv];lia
theorem qON (lo hi:Option Int) (n:Nat):Builtin.Slice.sliceAdjust lo hi 1 (n:Int)=(((sIx n 0 lo:Nat):Int),((sIx n n hi:Nat):Int)):=by
 have h1:¬ ((1:Int)<0):=by lia
 unfold Builtin.Slice.sliceAdjust;simp only [h1,if_false];refine Prod.ext ?_ ?_
 ·cases lo with
  | none=>rfl
  | some v=>exact qQU v n 0
 ·cases hi with
  | none=>rfl
  | some v=>exact qQU v n n
theorem qO4 (i j:Nat):Builtin.Slice.slicePlaces (i:Int) (j:Int) 1=j - i:=by
 unfold Builtin.Slice.slicePlaces;have h1:(1:Int) > 0:=by lia
 simp only [h1,if_true,Int.ediv_one]
 split <;> lia
theorem qIQ {v:Value} {o:Option Int} {Q:Option Int->Shared->Prop} (p:IsPart v o) (h:Q o s):wpAny (model prog w) A (Builtin.Slice.slicePartIndex v) Q E s:=by
 cases p with
 | none=>exact slicePart_none h
 | int i t=>exact slicePart_int h
theorem qGH {sl:Addr} {vl vu:Value} {lo hi:Option Int} {n:Nat} {Q:Int × Int × Nat->Shared->Prop} (hs:s.heap.IsSliceOf sl vl vu .none) (pl:IsPart vl lo) (pu:IsPart vu hi)
  (h:Q (((sIx n 0 lo:Nat):Int),1,sIx n n hi - sIx n 0 lo) s):wpAny (model prog w) A (Builtin.Slice.sliceApplied (.ref sl) (pure (n:Int))) Q E s:=by
 obtain ⟨os,hos,hcs,hds⟩:=id hs;unfold Builtin.Slice.sliceApplied Builtin.Slice.sliceFields;refine wpAny_bind (wpAny_bind (wpAny_field hos hds (x:=vl) rfl (wpAny_bind (wpAny_field hos hds (x:=vu) rfl (wpAny_bind (wpAny_field hos hds (x:=.none) rfl (wpAny_pure ?_)))))));refine wpAny_bind (slicePart_none ?_);show wpAny _ _ (if ((1:Int) == 0)=true then _ else _) _ _ s
 rw [if_neg (by decide)]
 refine wpAny_bind (qIQ pl (wpAny_bind (qIQ pu (wpAny_bind (wpAny_pure ?_)))));show wpAny _ _ (match Builtin.Slice.sliceAdjust lo hi 1 (n:Int) with | (lo,hi)=>pure (lo,(1:Int),Builtin.Slice.slicePlaces lo hi 1)) _ _ s
 rw [qON lo hi n];show wpAny _ _ (pure (((sIx n 0 lo:Nat):Int),(1:Int),Builtin.Slice.slicePlaces ((sIx n 0 lo:Nat):Int) ((sIx n n hi:Nat):Int) 1)) _ _ s;rw [qO4];exact wpAny_pure h
theorem qRS (xs:Array Value) (i k:Nat):((List.range k).filterMap fun (m:Nat)=>xs[((i:Int)+(m:Int) * 1).toNat]?).toArray=((xs.toList.drop i).take k).toArray:=by
 have e:(fun (m:Nat)=>xs[((i:Int)+(m:Int) * 1).toNat]?)=fun m=>xs[i+m]?:=by
  funext m
  have:((i:Int)+(m:Int) * 1).toNat=i+m:=by lia
  rw [this]
 rw [e];have:=pick_run xs i k;rw [List.filterMap_map] at this;have e2:((fun x=>xs[x]?) ∘ fun x=>i+x)=fun m=>xs[i+m]?:=rfl;rw [e2] at this;rw [this]
theorem getItem_tuple_cut {t sl:Addr} {Ae:Array Value} {vl vu:Value} {lo hi:Option Int} {Q:Value->Shared->Prop} (ht:IsTup s.heap t Ae) (hs:s.heap.IsSliceOf sl vl vu .none) (pl:IsPart vl lo) (pu:IsPart vu hi)
  (hw:¬ (sIx Ae.size 0 lo=0/\sIx Ae.size Ae.size hi=Ae.size))
  (h:Q (.ref s.heap.objs.size) { s with heap:=s.heap.push { cls:=.type "tuple",data:=.seq ((Ae.toList.drop (sIx Ae.size 0 lo)).take (sIx Ae.size Ae.size hi - sIx Ae.size 0 lo)).toArray } })
  (hsz:Ae.size<=sizeLine):wpAny (model prog w) A (getItem (.ref t) (.ref sl)) Q E s:=by
 have htake:sizeOk (.seq ((Ae.toList.drop (sIx Ae.size 0 lo)).take (sIx Ae.size Ae.size hi - sIx Ae.size 0 lo)).toArray):=by
  show ((Ae.toList.drop (sIx Ae.size 0 lo)).take (sIx Ae.size Ae.size hi - sIx Ae.size 0 lo)).toArray.size<=sizeLine;rw [List.size_toArray,List.length_take,List.length_drop,Array.length_toList]
  lia
 have hj:sIx Ae.size Ae.size hi<=Ae.size:=qVM _ _ (Nat.le_refl _) hi;obtain ⟨os,hos,hcs,hds⟩:=id hs;have hTs:s.TypeIs (.ref sl) "slice":=⟨os,hos,hcs⟩;unfold getItem
 try with_reducible refine wpAny_holding ?_
 first | refine wpAny_bind (wpAny_pure ?_) | skip
 refine wpAny_bind (wpAny_sequenceKey ht.typeIs (by decide) ?_)
 refine wpAny_bind (wpAny_callSpecial?_slot (name:=Str.ofString "__getitem__") ht.typeIs PyProof.Rows.slot_tuple_getitem
  (wpAny_call_entry PyProof.Rows.slot_tuple_getitem ht.typeIs entry_tuple_getitem ?_ (args_tuple_getitem _ _)))
 show wpAny _ _ (Builtin.Tuple.tupleItemsOf (.ref t) >>= _) _ _ s;refine wpAny_bind (tupleItemsOf_ ht ?_);refine wpAny_bind (wpAny_typeOf hTs ?_);rw [if_pos (by decide)]
 refine wpAny_bind (qGH hs pl pu ?_);have hno:¬ ((((sIx Ae.size 0 lo:Nat):Int) == 0 && (1:Int) == 1 && (sIx Ae.size Ae.size hi - sIx Ae.size 0 lo) == Ae.size)=true):=by
  intro q;rw [Bool.and_eq_true,Bool.and_eq_true] at q;have q1:((sIx Ae.size 0 lo:Nat):Int)=0:=eq_of_beq q.1.1;have q2:sIx Ae.size Ae.size hi - sIx Ae.size 0 lo=Ae.size:=eq_of_beq q.2;exact hw ⟨by lia,by lia⟩
 show wpAny _ _ (if (((sIx Ae.size 0 lo:Nat):Int) == 0 && (1:Int) == 1 && (sIx Ae.size Ae.size hi - sIx Ae.size 0 lo) == Ae.size)=true then _ else _) _ _ s
 rw [if_neg hno,qRS]
 first
  | exact wpAny_bind (m:=Builtin.Tuple.tupleExact _) (wpAny_newObj_type (wpAny_pure ⟨_,rfl,wpAny_pure h⟩) htake)
  | exact wpAny_bind (m:=Builtin.Tuple.tupleExact _) (wpAny_newObj_type (wpAny_bind (wpAny_pure (wpAny_pure ⟨_,rfl,wpAny_pure h⟩))) htake)
  | exact wpAny_bind (wpAny_bind (m:=Builtin.Tuple.tupleExact _) (wpAny_newObj_type (wpAny_pure (wpAny_pure ⟨_,rfl,wpAny_pure h⟩)) htake))
  | exact wpAny_bind (wpAny_bind (m:=Builtin.Tuple.tupleExact _) (wpAny_newObj_type (wpAny_pure ⟨_,rfl,wpAny_pure h⟩) htake))
end
end HT
namespace L2
open PySem PySem.Spec PyProof.Rows
abbrev TO:=St->Hp->(Option Int->Hp->Prop)->Prop
def PO (X:Cx) (e:Option Expr) (t:TO):Prop:=
 ∀ (Ab:List (Addr × Obj)) (s:Shared) (σ:St) (H:Hp) (Q:Option Int->Hp->Prop),Inv X Ab σ H s->t σ H Q->
  wpAny (model X.prog X.w) X.A (evalPart e X.env) (fun u s'=>∃ o H',Inv X Ab σ H' s'/\IsPart u o/\Q o H') X.xe s
def qTQ:TO:=fun _ H Q=>Q none H
def qX5 (t:TE):TO:=fun σ H Q=>t σ H fun x H1=>∃ i,x=.int i/\Q (some i) H1
theorem qJ0 {ns:List Int}:∀ {us:List Value},Vals (ns.map V.int) us->IntsAre us ns:=by
 induction ns with
 | nil=>intro us r;rw [List.map_nil] at r;cases r;exact .nil
 | cons n ns ih=>
  intro us r;rw [List.map_cons] at r;cases r with
  | cons r1 r2=>
   obtain ⟨t,e⟩:=r1;subst e;exact .cons n t (ih r2)
section
variable {X:Cx} {e:Expr} {te:TE} {lo hi:Option Expr} {tl th:TO} {pos p2:Pos}
theorem qEP:PO X none qTQ:=by
 intro Ab s σ H Q I h;rw [evalPart_none];exact wpAny_pure ⟨none,H,I,.none,h⟩
theorem qEO (h:PE X e te):PO X (some e) (qX5 te):=by
 intro Ab s σ H Q I hw;rw [evalPart_some];refine thn (h Ab s σ H _ I hw) fun u s1 ⟨x,H1,I1,r1,q1⟩=>?_;obtain ⟨i,rfl,q⟩:=q1;obtain ⟨t,rfl⟩:=r1;exact ⟨some i,H1,I1,.int i t,q⟩
def SlR (X:Cx) (r:V->Option Int->Option Int->Hp->VK->Prop):Prop:=
 ∀ (Ab:List (Addr × Obj)) (s:Shared) (σ:St) (H:Hp) (x:V) (v vl vu:Value) (lo hi:Option Int) (sl:Addr) (Q:VK),Inv X Ab σ H s->RelV x v->s.heap.IsSliceOf sl vl vu .none->IsPart vl lo->IsPart vu hi->r x lo hi H Q->
  ∃ T id,typeLookup (.type T) "__getitem__" = pure (some (.builtin id))/\s.TypeIs v T/\wpAny (model X.prog X.w) X.A (getItem v (.ref sl)) (EP X Ab σ Q) X.xe s
def tSl (r:V->Option Int->Option Int->Hp->VK->Prop) (te:TE) (tl th:TO):TE:=fun σ H Q=>te σ H fun x H1=>tl σ H1 fun l H2=>th σ H2 fun u H3=>r x l u H3 Q
theorem qDH {r:V->Option Int->Option Int->Hp->VK->Prop} (hr:SlR X r) (he:PE X e te) (hl:PO X lo tl) (hu:PO X hi th):PE X (.Subscript e (.Slice lo hi none p2) pos) (tSl r te tl th):=by
 intro Ab s σ H Q I h;refine Subscript_ (thn (he Ab s σ H _ I h) fun v s1 ⟨x,H1,I1,r1,q1⟩=>?_);refine wpAny_Slice (thn (hl Ab s1 σ H1 _ I1 q1) fun vl s2 ⟨l,H2,I2,pl,q2⟩=>thn (hu Ab s2 σ H2 _ I2 q2) fun vu s3 ⟨u,H3,I3,pu,q3⟩=>?_);rw [evalPart_none];refine wpAny_pure ?_;have I4:Inv X Ab σ H3 { s3 with heap:=s3.heap.push { cls:=.type "slice",data:=.fields #[vl,vu,.none] } }:=I3.kept (t':=s3.toks) fun b ob q=>Heap.get?_push_of_some _ q;obtain ⟨T,id,hT,ht,hg⟩:=hr Ab { s3 with heap:=s3.heap.push { cls:=.type "slice",data:=.fields #[vl,vu,.none] } } σ H3 x v vl vu l u s3.heap.objs.size Q I4 r1 (Heap.IsSliceOf.new ..) pl pu q3;show wpAny (model X.prog X.w) X.A (subscriptTail e (.Slice lo hi none p2) v (.ref s3.heap.objs.size)) (EP X Ab σ Q) X.xe { s3 with heap:=s3.heap.push { cls:=.type "slice",data:=.fields #[vl,vu,.none] } };exact tail_any (ops:=[.ref s3.heap.objs.size,v]) ht hT hg (by with_unfolding_all rfl)
noncomputable def cutV (xs:List V) (lo hi:Option Int):List V:=(xs.drop (HT.sIx xs.length 0 lo)).take (HT.sIx xs.length xs.length hi - HT.sIx xs.length 0 lo)
theorem qHV (xs:List V) (lo hi:Option Int):(cutV xs lo hi).length<=xs.length:=by
 unfold cutV;rw [List.length_take,List.length_drop]
 lia
def rSlT (K:PySem.W.Frag):V->Option Int->Option Int->Hp->VK->Prop:=fun x lo hi H Q=>∃ a xs,x=.ref a/\SqT K H a xs/\
 ¬ (HT.sIx xs.length 0 lo=0/\HT.sIx xs.length xs.length hi=xs.length)/\∀ p,H p=none->Q (.ref p) (Ah H p (.tup (cutV xs lo hi)))
theorem qMV:SlR X (rSlT X.K):=by
 intro Ab s σ H x v vl vu lo hi sl Q I rx hs pl pu h;obtain ⟨a,xs,rfl,hx,hw,q⟩:=h;cases rx;obtain ⟨its,r,ht,hz⟩:=I.tuple hx;have hlen:its.toArray.size=xs.length:=by rw [List.size_toArray];exact r.length.symm
 refine ⟨"tuple",_,PyProof.Rows.slot_tuple_getitem.lookup,ht.typeIs,?_⟩;refine HT.getItem_tuple_cut ht hs pl pu (by rw [hlen];exact hw) ?_ (by rw [hlen];exact hz)
 rw [hlen];refine ⟨.ref s.heap.objs.size,_,I.laid (t':=s.toks) (o:=.tup (cutV xs lo hi)) (fun b ob q=>Heap.get?_push_of_some _ q) (Nat.le_refl _) ?_,rfl,q _ (I.hok.fresh (Nat.le_refl _))⟩;exact ⟨Nat.le_trans (qHV xs lo hi) hz,_,(r.drop (HT.sIx xs.length 0 lo)).take (HT.sIx xs.length xs.length hi - HT.sIx xs.length 0 lo),IsTup.new _ _⟩
def qXM (K:PySem.W.Frag):R2:=fun x y H Q=>∃ a b xs ys,x=.ref a/\y=.ref b/\SqT K H a xs/\SqT K H b ys/\xs ≠ []/\xs.length+ys.length<=sizeLine/\
 (ys=[]->Q (.ref a) H)/\(ys ≠ []->∀ p,H p=none->Q (.ref p) (Ah H p (.tup (xs++ys))))
theorem Vals.nil_iff {xs:List V} {us:List Value} (r:Vals xs us):us=[] ↔ xs=[]:=by
 cases r with
 | nil=>simp
 | cons _ _=>simp
theorem qPN:OpR X (binaryOp .Add) (qXM X.K):=by
 intro Ab s σ H x y v u Q I rx ry h;obtain ⟨a,b,xs,ys,rfl,rfl,ha,hb,hx,hz,q1,q2⟩:=h;cases rx;cases ry;obtain ⟨its,r1,p1,_⟩:=I.tuple ha;obtain ⟨its2,r2,p2,_⟩:=I.tuple hb;refine HT.cat_tup p1 p2 (fun z=>hx (r1.nil_iff.mp z)) (fun z=>⟨.ref a,H,I,rfl,q1 (r2.nil_iff.mp z)⟩) (fun z=>?_) (by rw [<- r1.length,<- r2.length];exact hz)
 refine ⟨.ref s.heap.objs.size,_,I.laid (t':=s.toks) (o:=.tup (xs++ys)) (fun b ob q=>Heap.get?_push_of_some _ q) (Nat.le_refl _) ?_,rfl,q2 (fun w=>z (r2.nil_iff.mpr w)) _ (I.hok.fresh (Nat.le_refl _))⟩;exact ⟨by rw [List.length_append];exact hz,_,r1.append r2,IsTup.new _ _⟩
end
end L2
namespace L2
open PySem PySem.Spec PyProof.Rows
noncomputable def ixN (n:Nat) (i:Int):Option Nat:=if 0<=i then (if i<n then some i.toNat else none) else if -(n:Int)<=i then some (i+n).toNat else none
noncomputable def atI {α:Type} (xs:List α) (i:Int):Option α:=(ixN xs.length i).bind fun j=>xs[j]?
theorem qQ4 {n:Nat} {i:Int} {j:Nat} (h:ixN n i=some j):seqIndex? i n=some j/\j<n/\-(n:Int)<=i/\i<n:=by
 unfold ixN at h;by_cases h0:0<=i
 ·rw [if_pos h0] at h;by_cases h1:i<n
  ·rw [if_pos h1] at h;have e:i.toNat=j:=Option.some.inj h;exact ⟨by rw [seqIndex_of h0 h1,e],by lia,by lia,h1⟩
  ·rw [if_neg h1] at h;cases h
 ·rw [if_neg h0] at h;by_cases h1 : -(n:Int)<=i
  ·rw [if_pos h1] at h;have e:(i+n).toNat=j:=Option.some.inj h;exact ⟨by rw [seqIndex_neg (by lia) h1,e],by lia,h1,by lia⟩
  ·rw [if_neg h1] at h;cases h
theorem qR3 {α:Type} {xs:List α} {i:Int} {v:α} (h:atI xs i=some v):∃ j,seqIndex? i xs.length=some j/\xs[j]?=some v/\j<xs.length/\-(xs.length:Int)<=i/\i<xs.length:=by
 unfold atI at h;cases e:ixN xs.length i with
 | none=>rw [e] at h;cases h
 | some j=>
  rw [e] at h;obtain ⟨h1,h2,h3,h4⟩:=qQ4 e;exact ⟨j,h1,h,h2,h3,h4⟩
theorem qR2 {α:Type} {xs:List α} {j:Nat} {v:α} (h:xs[j]?=some v):atI xs (j:Int)=some v:=by
 have hj:j<xs.length:=(List.getElem?_eq_some_iff.mp h).1;have e:ixN xs.length (j:Int)=some j:=by
  unfold ixN;rw [if_pos (by lia),if_pos (by lia)];simp
 unfold atI;rw [e];exact h
def qUZ (b:Expr):Prop:=∀ o i,subscripted b false o i=operate [o,i] (getItem o i)
def IxR (X:Cx) (r:R2):Prop:=
 ∀ (value slice:Expr) (Ab:List (Addr × Obj)) (s:Shared) (σ:St) (H:Hp) (x y:V) (v u:Value) (Q:VK),Inv X Ab σ H s->RelV x v->RelV y u->r x y H Q->
  subscripted slice false v u=operate [v,u] (getItem v u)->wpAny (model X.prog X.w) X.A (subscriptTail value slice v u) (EP X Ab σ Q) X.xe s
def MtR (X:Cx) (id:String) (r:V->List V->Hp->VK->Prop):Prop:=
 ∀ (Ab:List (Addr × Obj)) (s:Shared) (σ:St) (H:Hp) (x:V) (xs:List V) (v:Value) (us:List Value) (Q:VK),Inv X Ab σ H s->RelV x v->Vals xs us->r x xs H Q->
  wpAny (model X.prog X.w) X.A (call (.builtin id) (v::us)) (EP X Ab σ Q) X.xe s
section
variable {X:Cx} {a b:Expr} {ta tb:TE} {pos:Pos}
theorem qB6 {r:R2} (hr:IxR X r) (ha:PE X a ta) (hb:PE X b tb) (hs:qUZ b):PE X (.Subscript a b pos) (tOp r ta tb):=by
 intro Ab s σ H Q I h;exact Subscript_ (binT ha hb I h fun v u s2 x y H2 I2 rx ry q=>hr a b Ab s2 σ H2 x y v u Q I2 rx ry q (hs _ _))
def rIxL (K:PySem.W.Frag):R2:=fun x y H Q=>∃ p xs i v,x=.ref p/\y=.int i/\SqL K H p xs/\atI xs i=some v/\Q v H
def rIxT (K:PySem.W.Frag):R2:=fun x y H Q=>∃ p xs i v,x=.ref p/\y=.int i/\SqT K H p xs/\atI xs i=some v/\Q v H
theorem qEU:IxR X (rIxL X.K):=by
 intro value slice Ab s σ H x y v u Q I rx ry h hs;obtain ⟨p,xs,i,z,rfl,rfl,hq,he,q⟩:=h;cases rx;obtain ⟨t,rfl⟩:=ry;obtain ⟨its,r,pl,hz⟩:=I.list hq;obtain ⟨j,h1,h2,h3,h4,h5⟩:=qR3 he;obtain ⟨w,ew,rw'⟩:=r.get h2;have hl:=r.length;have hn:=qKY;have fin:EP X Ab σ Q w s:=⟨z,H,I,rw',q⟩;by_cases h0:0<=i
 ·have hj:i.toNat=j:=by
   rw [seqIndex_of h0 h5] at h1;exact Option.some.inj h1
  exact item_listR pl.isList h0 (by lia) (by rw [hj];simpa using ew) fin hs
 ·have hj:(i+(its.toArray.size:Int)).toNat=j:=by
   rw [seqIndex_neg (by lia) h4] at h1
   rw [List.size_toArray,<- hl];exact Option.some.inj h1
  exact subscriptTail_builtinR (x:=w) pl.isList.typeIs slot_list_getitem.lookup
   (wpAny_getItem_list_neg (Q:=fun r s'=>r=w/\EP X Ab σ Q r s') pl.isList (by lia) (by rw [List.size_toArray] <;> lia) (by lia) (by rw [hj];simpa using ew) ⟨rfl,fin⟩) hs
theorem qAW:IxR X (rIxT X.K):=by
 intro value slice Ab s σ H x y v u Q I rx ry h hs;obtain ⟨p,xs,i,z,rfl,rfl,hq,he,q⟩:=h;cases rx;obtain ⟨t,rfl⟩:=ry;obtain ⟨its,r,pl,hz⟩:=I.tuple hq;obtain ⟨j,h1,h2,h3,h4,h5⟩:=qR3 he;obtain ⟨w,ew,rw'⟩:=r.get h2;have hl:=r.length;have hn:=qKY;have fin:EP X Ab σ Q w s:=⟨z,H,I,rw',q⟩;exact subscriptTail_builtinR (x:=w) pl.typeIs slot_tuple_getitem.lookup
  (getItem_tuple (j:=j) (Q:=fun r s'=>r=w/\EP X Ab σ Q r s') pl (by lia) (by lia) (by rw [List.size_toArray,<- hl];exact h1) (by simpa using ew) ⟨rfl,fin⟩) hs
theorem qOD (its:List Value) (n j:Nat) (u:Value):Obj.mapSeq (·.setIfInBounds j u) { cls:=.type "list",data:=.seq its.toArray n }={ cls:=.type "list",data:=.seq (its.set j u).toArray n }:=by
 simp [Obj.mapSeq]
theorem Inv.lst {Ab:List (Addr × Obj)} {σ:St} {H:Hp} {s:Shared} {p:Addr} {xs:List V} (I:Inv X Ab σ H s) (h:H p=some (.lst xs)) :
  ∃ (its:List Value) (n:Nat),Vals xs its/\s.heap.get? p=some { cls:=.type "list",data:=.seq its.toArray n }/\xs.length<=sizeLine:=by
 obtain ⟨z,its,n,r,e⟩:=I.hok p _ h;exact ⟨its,n,r,e,z⟩
theorem Inv.lstUpd {Ab:List (Addr × Obj)} {σ:St} {H:Hp} {s:Shared} {p:Addr} {xs ys:List V} {its its':List Value} {n n':Nat} {f:Obj->Obj} (I:Inv X Ab σ H s) (h:H p=some (.lst xs))
  (ho:s.heap.get? p=some { cls:=.type "list",data:=.seq its.toArray n }) (hf:f { cls:=.type "list",data:=.seq its.toArray n }={ cls:=.type "list",data:=.seq its'.toArray n' }) (r:Vals ys its') (hz:ys.length<=sizeLine) (t:Nat) :
  Inv X Ab σ (Ah H p (.lst ys)) { s with heap:=s.heap.update p f,toks:=t }:=by
 have e:(s.heap.update p f).get? p=some { cls:=.type "list",data:=.seq its'.toArray n' }:=by
  rw [Heap.get?_update_self f ho (by rw [hf] <;> rfl),hf]
 refine I.write (x:=p) (e:=p) (by rw [h];trivial) (.inl rfl) (fun b u hb q=>(Heap.get?_update_other _ _ (Ne.symm hb)).trans q) ⟨_,e⟩ ?_
 exact ⟨hz,its',n',r,e⟩
def qXK:V->V->V->Hp->(Hp->Prop)->Prop:=fun o i v H Q=>∃ p xs k j,o=.ref p/\i=.int k/\H p=some (.lst xs)/\ixN xs.length k=some j/\Q (Ah H p (.lst (xs.set j v)))
theorem qRK:PSet X qXK:=by
 intro Ab s σ H o i v ov iv u Q I ro ri rv h;obtain ⟨p,xs,k,j,rfl,rfl,hp,hj,q⟩:=h;cases ro;obtain ⟨t,rfl⟩:=ri;obtain ⟨its,n,r,ho,hz⟩:=I.lst hp;obtain ⟨h1,h2,h3,h4⟩:=qQ4 hj;have hl:=r.length;have hn:=qKY;have I':Inv X Ab σ (Ah H p (.lst (xs.set j v))) { s with heap:=s.heap.update p (Obj.mapSeq (·.setIfInBounds j u)) }:=
  I.lstUpd hp ho (qOD its n j u) (r.set rv j) (by rw [List.length_set];exact hz) s.toks
 by_cases h0:0<=k
 ·have hk:k.toNat=j:=by
   rw [seqIndex_of h0 h4] at h1;exact Option.some.inj h1
  exact PySem.W.ki_setAt ho h0 (by lia) (by rw [List.size_toArray,<- hl];exact h4) (by rw [hk];exact ⟨_,I',q⟩)
 ·have hk:(k+(its.toArray.size:Int)).toNat=j:=by
   rw [seqIndex_neg (by lia) h3] at h1
   rw [List.size_toArray,<- hl];exact Option.some.inj h1
  exact PySem.W.ki_setBack ho (by lia) (by rw [List.size_toArray,<- hl];exact h3) (by lia) (by rw [hk];exact ⟨_,I',q⟩)
theorem qKF (lo hi:Option Int) (n:Nat):(sliceBounds lo hi none n).1=((HT.sIx n 0 lo:Nat):Int)/\(sliceBounds lo hi none n).2.1=((HT.sIx n n hi:Nat):Int)/\(sliceBounds lo hi none n).2.2=1:=by
 refine ⟨?_,?_,rfl⟩
 ·cases lo with
  | none=>simp [sliceBounds,HT.sIx]
  | some i=>
   simp only [sliceBounds,HT.sIx,Option.getD_none,show (1:Int) > 0 by decide,if_true]
   by_cases h:i<0
   ·simp only [h,if_true] <;> lia
   ·simp only [h,if_false] <;> lia
 ·cases hi with
  | none=>simp [sliceBounds,HT.sIx]
  | some i=>
   simp only [sliceBounds,HT.sIx,Option.getD_none,show (1:Int) > 0 by decide,if_true]
   by_cases h:i<0
   ·simp only [h,if_true] <;> lia
   ·simp only [h,if_false] <;> lia
theorem qJD (its:List Value) (lo hi:Option Int):slicePick its.toArray lo hi none=((its.drop (HT.sIx its.length 0 lo)).take (HT.sIx its.length its.length hi - HT.sIx its.length 0 lo)).toArray:=by
 obtain ⟨h1,h2,h3⟩:=qKF lo hi its.toArray.size;unfold slicePick;rw [h1,h2,h3];simp only [sliceRange_one,pick_run,List.size_toArray] <;> rfl
def rSlL (K:PySem.W.Frag):V->Option Int->Option Int->Hp->VK->Prop:=fun x lo hi H Q=>∃ a xs,x=.ref a/\SqL K H a xs/\∀ p,H p=none->Q (.ref p) (Ah H p (.lst (cutV xs lo hi)))
theorem qLZ:SlR X (rSlL X.K):=by
 intro Ab s σ H x v vl vu lo hi sl Q I rx hs pl pu h;obtain ⟨a,xs,rfl,hx,q⟩:=h;cases rx;obtain ⟨its,r,ht,hz⟩:=I.list hx;have hlen:=r.length;refine ⟨"list",_,slot_list_getitem.lookup,ht.isList.typeIs,?_⟩;refine wpAny_getItem_list_slice ht.isList hs pl pu .none (by simp) ?_ (by rw [List.size_toArray] <;> lia)
 rw [qJD,<- hlen];refine ⟨.ref s.heap.objs.size,_,I.laid (t':=s.toks) (o:=.lst (cutV xs lo hi)) (fun b ob q=>Heap.get?_push_of_some _ q) (Nat.le_refl _) ?_,rfl,q _ (I.hok.fresh (Nat.le_refl _))⟩;exact ⟨Nat.le_trans (qHV xs lo hi) hz,_,0,(r.drop (HT.sIx xs.length 0 lo)).take (HT.sIx xs.length xs.length hi - HT.sIx xs.length 0 lo),Heap.get?_push_size _ rfl⟩
noncomputable def qJS:V->Bool
 | .non=>true
 | .bl _=>true
 | .int _=>true
 | .str _=>true
 | _=>false
noncomputable def eqV:V->V->Bool
 | .non,.non=>true
 | .bl a,.bl b=>a == b
 | .bl a,.int b=>(if a then 1 else 0) == b
 | .int a,.bl b=>a == (if b then 1 else 0)
 | .int a,.int b=>a == b
 | .str a,.str b=>a == b
 | _,_=>false
theorem qWR {A:Around} {s:Shared} {y x:V} {u v:Value} (ry:RelV y u) (rx:RelV x v) (fy:qJS y=true) (fx:qJS x=true):SeqAt.EqAt A s u v (eqV y x):=by
 cases y with
 | non=>
  cases ry;cases x with
  | non=>cases rx;exact SeqAt.EqAt.same _
  | bl b=>cases rx;exact SeqAt.EqAt.none_bool b
  | int b=>obtain ⟨t,rfl⟩:=rx;exact SeqAt.EqAt.none_int b t
  | str b=>obtain ⟨t,rfl⟩:=rx;exact SeqAt.EqAt.none_str b t
  | _=>exact absurd (show false=true from fx) Bool.false_ne_true
 | bl a=>
  cases ry;cases x with
  | non=>cases rx;exact SeqAt.EqAt.bool_none a
  | bl b=>cases rx;exact SeqAt.EqAt.bool_bool a b
  | int b=>obtain ⟨t,rfl⟩:=rx;exact SeqAt.EqAt.bool_int a b t
  | str b=>obtain ⟨t,rfl⟩:=rx;exact SeqAt.EqAt.bool_str a b t
  | _=>exact absurd (show false=true from fx) Bool.false_ne_true
 | int a=>
  obtain ⟨t',rfl⟩:=ry;cases x with
  | non=>cases rx;exact SeqAt.EqAt.int_none a t'
  | bl b=>cases rx;exact SeqAt.EqAt.int_bool a t' b
  | int b=>obtain ⟨t,rfl⟩:=rx;exact SeqAt.EqAt.int_int a t' b t
  | str b=>obtain ⟨t,rfl⟩:=rx;exact SeqAt.EqAt.int_str a t' b t
  | _=>exact absurd (show false=true from fx) Bool.false_ne_true
 | str a=>
  obtain ⟨t',rfl⟩:=ry;cases x with
  | non=>cases rx;exact SeqAt.EqAt.str_none a t'
  | bl b=>cases rx;exact SeqAt.EqAt.str_bool a t' b
  | int b=>obtain ⟨t,rfl⟩:=rx;exact SeqAt.EqAt.str_int a t' b t
  | str b=>obtain ⟨t,rfl⟩:=rx;exact SeqAt.EqAt.str_str a t' b t
  | _=>exact absurd (show false=true from fx) Bool.false_ne_true
 | _=>exact absurd (show false=true from fy) Bool.false_ne_true
noncomputable def eqU (x:V) (u:Value):Bool:=match u with
 | .none=>eqV .non x
 | .bool b=>eqV (.bl b) x
 | .int i _=>eqV (.int i) x
 | .str z _=>eqV (.str z) x
 | _=>false
theorem qTB {x y:V} {u:Value} (r:RelV y u) (f:qJS y=true):eqU x u=eqV y x:=by
 cases y with
 | non=>cases r;rfl
 | bl b=>cases r;rfl
 | int i=>obtain ⟨t,rfl⟩:=r;rfl
 | str z=>obtain ⟨t,rfl⟩:=r;rfl
 | _=>exact absurd (show false=true from f) Bool.false_ne_true
theorem qI1 {x:V}:∀ {xs:List V} {us:List Value},Vals xs us->xs.all qJS=true->us.any (eqU x)=xs.any fun y=>eqV y x
 | _,_,.nil,_=>rfl
 | y::xs,u::us,.cons r t,f=>by
  rw [List.all_cons,Bool.and_eq_true] at f;rw [List.any_cons,List.any_cons,qTB r f.1,qI1 t f.2]
theorem qF8 {A:Around} {s:Shared} {x:V} {v:Value} (rx:RelV x v) (fx:qJS x=true):∀ {xs:List V} {us:List Value},Vals xs us->xs.all qJS=true->∀ u ∈ us,SeqAt.EqAt A s u v (eqU x u)
 | _,_,.nil,_=>fun u hu=>by cases hu
 | y::xs,u::us,.cons r t,f=>fun u' hu=>by
  rw [List.all_cons,Bool.and_eq_true] at f;rcases List.mem_cons.mp hu with rfl | hu
  ·rw [qTB r f.1];exact qWR r rx f.1 fx
  ·exact qF8 rx fx t f.2 u' hu
noncomputable def inV (x:V) (xs:List V):Bool:=xs.any fun y=>eqV y x
def rIn (K:PySem.W.Frag) (neg:Bool):R2:=fun x y H Q=>∃ p xs,y=.ref p/\(SqL K H p xs\/SqT K H p xs)/\qJS x=true/\xs.all qJS=true/\Q (.bl (if neg then !inV x xs else inV x xs)) H
theorem qHF:OpR X (compareOp .In) (rIn X.K false):=by
 intro Ab s σ H x y v u Q I rx ry h;obtain ⟨p,xs,rfl,hq,fx,fs,q⟩:=h;cases ry;rcases hq with hq | hq
 ·obtain ⟨its,r,pl,hz⟩:=I.list hq;refine SeqAt.in_listAt (eqU x) pl.isList (fun w hw=>qF8 rx fx r fs w (by simpa using hw)) ⟨.bl _,H,I,rfl,?_⟩
  rw [show its.toArray.any (eqU x)=its.any (eqU x) by simp,qI1 r fs]
  exact q
 ·obtain ⟨its,r,pl,hz⟩:=I.tuple hq;refine SeqAt.in_tupleAt (eqU x) pl (fun w hw=>qF8 rx fx r fs w (by simpa using hw)) ⟨.bl _,H,I,rfl,?_⟩
  rw [show its.toArray.any (eqU x)=its.any (eqU x) by simp,qI1 r fs]
  exact q
theorem qKQ:OpR X (compareOp .NotIn) (rIn X.K true):=by
 intro Ab s σ H x y v u Q I rx ry h;obtain ⟨p,xs,rfl,hq,fx,fs,q⟩:=h;cases ry;rcases hq with hq | hq
 ·obtain ⟨its,r,pl,hz⟩:=I.list hq;refine SeqAt.notIn_listAt (eqU x) pl.isList (fun w hw=>qF8 rx fx r fs w (by simpa using hw)) ⟨.bl _,H,I,rfl,?_⟩
  rw [show its.toArray.any (eqU x)=its.any (eqU x) by simp,qI1 r fs]
  exact q
 ·obtain ⟨its,r,pl,hz⟩:=I.tuple hq;refine SeqAt.notIn_tupleAt (eqU x) pl (fun w hw=>qF8 rx fx r fs w (by simpa using hw)) ⟨.bl _,H,I,rfl,?_⟩
  rw [show its.toArray.any (eqU x)=its.any (eqU x) by simp,qI1 r fs]
  exact q
theorem qAC:qCV X (.builtin "len") (fun xs H Q=>∃ p ys,xs=[.ref p]/\(SqL X.K H p ys\/SqT X.K H p ys)/\Q (.int ys.length) H):=by
 intro Ab s σ H xs us Q I r h;obtain ⟨p,ys,rfl,hq,q⟩:=h;obtain ⟨u,rfl,rx⟩:=qDB r;cases rx;have hn:=qKY;rcases hq with hq | hq
 ·obtain ⟨its,r',pl,hz⟩:=I.list hq;have hlen:=r'.length;exact Calls.call_len_list pl.isList (by simp only [List.size_toArray] <;> lia) ⟨.int ys.length,H,I.tok _,⟨s.toks+1,by rw [List.size_toArray,hlen]⟩,q⟩
 ·obtain ⟨its,r',pl,hz⟩:=I.tuple hq;have hlen:=r'.length;exact len_tuple pl (by simp only [List.size_toArray] <;> lia) ⟨.int ys.length,H,I.tok _,⟨s.toks+1,by rw [List.size_toArray,hlen]⟩,q⟩
theorem qLL:qCV X (.type "list") (fun xs H Q=>∃ p ys,xs=[.ref p]/\(SqL X.K H p ys\/SqT X.K H p ys)/\∀ l,H l=none->Q (.ref l) (Ah H l (.lst ys))):=by
 intro Ab s σ H xs us Q I r h;obtain ⟨p,ys,rfl,hq,q⟩:=h;obtain ⟨u,rfl,rx⟩:=qDB r;cases rx;have fin:∀ (its:List Value),Vals ys its->ys.length<=sizeLine->∀ (h':Heap) (c':Nat),(∀ b o',s.heap.get? b=some o'->h'.get? b=some o')->
   h'.get? s.heap.objs.size=some { cls:=.type "list",dict:=none,data:=.seq its.toArray c',slots:=#[] }->EP X Ab σ Q (.ref s.heap.objs.size) { s with heap:=h' }:=fun its r' hz h' c' kp e=>
  ⟨.ref s.heap.objs.size,_,I.laid (t':=s.toks) kp (Nat.le_refl _) (show ObjOk X.prog X.w _ h' _ (.lst ys) from ⟨hz,its,c',r',e⟩),rfl,q _ (I.hok.fresh (Nat.le_refl _))⟩
 rcases hq with hq | hq
 ·obtain ⟨its,r',pl,hz⟩:=I.list hq;have hlen:=r'.length;obtain ⟨o,ho,hc,n,hd⟩:=pl.isList;exact call_list_seq p (.inl rfl) ho hc hd (fun h' c' kp e=>fin its r' hz h' c' kp e) (by simp only [List.size_toArray] <;> lia)
 ·obtain ⟨its,r',pl,hz⟩:=I.tuple hq;have hlen:=r'.length;obtain ⟨o,ho,hc,n,hd⟩:=pl;exact call_list_seq p (.inr rfl) ho hc hd (fun h' c' kp e=>fin its r' hz h' c' kp e) (by simp only [List.size_toArray] <;> lia)
theorem qAN:qCV X (.type "tuple") (fun xs H Q=>∃ p ys,xs=[.ref p]/\((SqL X.K H p ys/\∀ l,H l=none->Q (.ref l) (Ah H l (.tup ys)))\/(SqT X.K H p ys/\Q (.ref p) H))):=by
 intro Ab s σ H xs us Q I r h;obtain ⟨p,ys,rfl,h⟩:=h;obtain ⟨u,rfl,rx⟩:=qDB r;cases rx;rcases h with ⟨hq,q⟩ | ⟨hq,q⟩
 ·obtain ⟨its,r',pl,hz⟩:=I.list hq;have hlen:=r'.length;refine call_tuple_list pl.isList (fun h' kp=>?_) (by simp only [List.size_toArray] <;> lia)
  have I1:Inv X Ab σ H { s with heap:=h' }:=I.kept (t':=s.toks) kp;have I2:Inv X Ab σ (Ah H h'.objs.size (.tup ys)) { s with heap:=h'.push { cls:=.type "tuple",data:=.seq its.toArray } }:=
   I1.laid (t':=s.toks) (fun b o e=>Heap.get?_push_of_some _ e) (Nat.le_refl _) (show ObjOk X.prog X.w _ _ _ (.tup ys) from ⟨hz,its,r',IsTup.new _ _⟩)
  exact ⟨.ref h'.objs.size,_,I2,rfl,q _ (I1.hok.fresh (Nat.le_refl _))⟩
 ·obtain ⟨its,r',pl,hz⟩:=I.tuple hq;exact call_tuple_same pl ⟨.ref p,H,I,rfl,q⟩
def tyV (K:PySem.W.Frag) (T:String) (x:V) (H:Hp):Prop:=match x with
 | .str _=>T = "str"
 | .int _=>T = "int"
 | .ref p=>(T = "list"/\∃ xs,SqL K H p xs)\/(T = "tuple"/\∃ o,K.lookup p=some o/\o.cls=.type "tuple"/\o.dict=none)\/
   (T = "dict"/\((∃ Ag,H p=some (.dK Ag))\/∃ Ag,H p=some (.dT Ag)))\/(T = "set"/\∃ S n,H p=some (.set S n))
 | _=>False
theorem qSW {Ab:List (Addr × Obj)} {σ:St} {H:Hp} {s:Shared} {T:String} {x:V} {v:Value} (I:Inv X Ab σ H s) (r:RelV x v) (ty:tyV X.K T x H) :
  s.TypeIs v T/\∀ a,v=.ref a->∃ ob,s.heap.get? a=some ob/\ob.dict=none:=by
 cases x with
 | str z=>
  obtain ⟨t,rfl⟩:=r;cases (show T = "str" from ty);exact ⟨typeIs_str s z t,fun _ e=>nomatch e⟩
 | int i=>
  obtain ⟨t,rfl⟩:=r;cases (show T = "int" from ty);exact ⟨typeIs_int s i t,fun _ e=>nomatch e⟩
 | ref p=>
  cases r;rcases ty with ⟨rfl,xs,hq⟩ | ⟨rfl,o,hk,hc,hd⟩ | ⟨rfl,hk⟩ | ⟨rfl,S,n,hk⟩
  ·obtain ⟨its,_,pl,_⟩:=I.list hq;refine ⟨pl.isList.typeIs,fun a e=>?_⟩;cases e;obtain ⟨o,n,e,c,hd,_⟩:=pl;exact ⟨o,e,hd⟩
  ·refine ⟨⟨o,I.kIn p o hk,hc⟩,fun a e=>?_⟩;cases e;exact ⟨o,I.kIn _ o hk,hd⟩
  ·have z:∃ o,s.heap.get? p=some o/\o.ExactDict:=by
    rcases hk with ⟨Ag,hk⟩ | ⟨Ag,hk⟩
    ·obtain ⟨_,_,_,_,o,_,_,e,ex,_⟩:=I.hok p _ hk;exact ⟨o,e,ex⟩
    ·obtain ⟨_,_,_,_,o,_,_,e,ex,_⟩:=I.hok p _ hk;exact ⟨o,e,ex⟩
   obtain ⟨o,e,ex⟩:=z;refine ⟨⟨o,e,ex.1⟩,fun a e2=>?_⟩;cases e2;exact ⟨o,e,ex.2.1⟩
  ·obtain ⟨o,_,_,_,e,ex,_⟩:=I.hok p _ hk;refine ⟨⟨o,e,ex.1⟩,fun a e2=>?_⟩;cases e2;exact ⟨o,e,ex.2.1⟩
 | _=>exact False.elim ty
def tBM0 (K:PySem.W.Frag) (T:String) (r:V->List V->Hp->VK->Prop) (to:TE):TE:=fun σ H Q=>to σ H fun x H1=>tyV K T x H1/\r x [] H1 Q
def tBM (K:PySem.W.Frag) (T:String) (r:V->List V->Hp->VK->Prop) (to:TE) (t:TA):TE:=fun σ H Q=>to σ H fun x H1=>tyV K T x H1/\t σ H1 fun xs H2=>r x xs H2 Q
variable {o e:Expr} {es:List Expr} {to:TE} {t:TA} {name:Str} {apos cpos:Pos} {T id:String} {r:V->List V->Hp->VK->Prop}
theorem qT4 (pa:PlainAttrs T) (slot:Slot T name id) (hty:typeOf (.builtin id)=pure (.type "method_descriptor")) (hm:MtR X id r) (ho:PE X o to)
  (hbase:attributeBase o name X.env (eval o X.env)=eval o X.env:=by rfl) (hline:(apos.endLine == cpos.line)=true:=by rfl):PE X (.Call (.Attribute o name apos) [] [] cpos) (tBM0 X.K T r to):=by
 intro Ab s σ H Q I h;refine wpAny_Call_method0_late hbase hline (thn (ho Ab s σ H _ I h) fun v s1 ⟨x,H1,I1,r1,ty,q1⟩=>?_);obtain ⟨h1,h2⟩:=qSW I1 r1 ty;exact ⟨T,id,pa,slot,hty,h1,h2,Calls.callWith_builtin rfl (PySem.evalArgs_none (hm Ab s1 σ H1 x [] v [] Q I1 r1 .nil q1))⟩
theorem qI8 (pa:PlainAttrs T) (slot:Slot T name id) (hty:typeOf (.builtin id)=pure (.type "method_descriptor")) (hm:MtR X id r) (ho:PE X o to) (ha:PA X (e::es) t)
  (hbase:attributeBase o name X.env (eval o X.env)=eval o X.env:=by rfl)
  (hfew:((backTo cpos (starEach (e::es) X.env)).all (fun x=>!x.1) && (backToKw cpos (keywordEach [] X.env)).all (fun x=>x.1.isSome)
   && decide ((e::es).length+([]:List Keyword).length+(if ([]:List Keyword).isEmpty then 0 else 1)<30))=true:=by rfl)
  (hline:(apos.endLine == cpos.line)=true:=by rfl) (hs:starEach (e::es) X.env=(false,eval e X.env)::starEach es X.env:=by rfl) (hplain:(backTo cpos (starEach es X.env)).any (·.1)=false:=by rfl) :
  PE X (.Call (.Attribute o name apos) (e::es) [] cpos) (tBM X.K T r to t):=by
 intro Ab s σ H Q I h;refine wpAny_Call_method_late hbase hfew hline rfl (thn (ho Ab s σ H _ I h) fun v s1 ⟨x,H1,I1,r1,ty,q1⟩=>?_);obtain ⟨h1,h2⟩:=qSW I1 r1 ty;refine ⟨T,id,pa,slot,hty,h1,h2,?_⟩;have hA:=ha cpos Ab s1 σ H1 _ I1 q1;rw [hs] at hA ⊢;refine Calls.callWith_builtin (by show (false || (backTo cpos (starEach es X.env)).any (·.1))=false;rw [hplain] <;> rfl) (Calls.evalArgs_plain ?_)
 exact thn hA fun us s2 ⟨vs,H2,I2,r2,q2⟩=>hm Ab s2 σ H2 x vs v us Q I2 r1 r2 q2
end
end L2
namespace L2
open PySem PySem.Spec PyProof.Rows
def MtM (X:Cx) (id:String) (r:V->List V->Hp->VK->Prop):Prop:=
 ∀ (Ab:List (Addr × Obj)) (s:Shared) (σ:St) (H:Hp) (x:V) (xs:List V) (v:Value) (us:List Value) (Q:VK),Inv X Ab σ H s->RelV x v->Vals xs us->r x xs H Q->
  wpAny (model X.prog X.w) X.A (call (.builtin id) (v::us)) (EP X Ab σ Q) X.xe s
theorem Vals.one:∀ {x:V} {us:List Value},Vals [x] us->∃ u,us=[u]/\RelV x u
 | _,_,.cons r .nil=>⟨_,rfl,r⟩
theorem Vals.zero:∀ {us:List Value},Vals [] us->us=[]
 | _,.nil=>rfl
theorem Vals.reverse {xs:List V} {us:List Value} (h:Vals xs us):Vals xs.reverse us.reverse:=by
 induction h with
 | nil=>exact .nil
 | cons r t ih=>rw [List.reverse_cons,List.reverse_cons];exact Vals.append ih (.cons r .nil)
theorem Vals.rep {xs:List V} {us:List Value} (h:Vals xs us):∀ k:Nat,Vals (List.replicate k xs).flatten (List.replicate k us).flatten
 | 0=>.nil
 | k+1=>by
  rw [List.replicate_succ,List.replicate_succ,List.flatten_cons,List.flatten_cons];exact Vals.append h (Vals.rep h k)
theorem qHS (its:List Value):∀ (k:Nat) (acc:List Value),
  List.foldl (fun x1 x2=>x1++x2) acc.toArray (List.replicate k its.toArray)=(acc++(List.replicate k its).flatten).toArray
 | 0,acc=>by simp
 | k+1,acc=>by
  have e:acc.toArray++its.toArray=(acc++its).toArray:=by simp
  have e2:(acc++its)++(List.replicate k its).flatten=acc++(List.replicate (k+1) its).flatten:=by
   rw [List.replicate_succ,List.flatten_cons,List.append_assoc]
  rw [<- e2,<- qHS its k (acc++its),<- e,List.replicate_succ,List.foldl_cons]
section
variable {X:Cx} {Ab:List (Addr × Obj)} {σ:St} {H:Hp} {s:Shared} {l b:Addr} {xs ys zs:List V}
theorem Inv.lset {its its':List Value} {n:Nat} {f:Array Value->Array Value} {t':Nat} (I:Inv X Ab σ H s) (hH:H l=some (.lst xs))
  (e:s.heap.get? l=some { cls:=.type "list",data:=.seq its.toArray n }) (hf:f its.toArray=its'.toArray) (hv:Vals ys its') (hz:ys.length<=sizeLine) :
  Inv X Ab σ (Ah H l (.lst ys)) { s with heap:=s.heap.update l (Obj.mapSeq f),toks:=t' }:=by
 have q:=PySem.IsL.update e f;rw [hf] at q;refine I.write (x:=l) (e:=l) (by rw [hH];exact trivial) (.inl rfl) (fun b' u hb hu=>(Heap.get?_update_other s.heap (Obj.mapSeq f) (Ne.symm hb)).trans hu) ⟨_,q⟩ ?_
 exact ⟨hz,its',_,hv,q⟩
theorem Inv.lnew {its:List Value} {t':Nat} (I:Inv X Ab σ H s) (hv:Vals ys its) (hz:ys.length<=sizeLine) :
  Inv X Ab σ (Ah H s.heap.objs.size (.lst ys)) { s with heap:=s.heap.push { cls:=.type "list",data:=.seq its.toArray },toks:=t' }:=
 I.laid (fun _ _ q=>Heap.get?_push_of_some _ q) (Nat.le_refl _) ⟨hz,its,0,hv,Heap.get?_push_size _ rfl⟩
theorem Inv.fresh (I:Inv X Ab σ H s):H s.heap.objs.size=none:=I.hok.fresh (Nat.le_refl _)
theorem Inv.lstM (I:Inv X Ab σ H s) (hH:H l=some (.lst xs)):xs.length<=sizeLine/\∃ (its:List Value) (n:Nat),Vals xs its/\xs.length=its.length/\s.heap.get? l=some { cls:=.type "list",data:=.seq its.toArray n }:=by
 obtain ⟨z,its,n,r,e⟩:=I.hok l _ hH;exact ⟨z,its,n,r,r.length,e⟩
theorem qN9 {n:Nat} (h:n<=sizeLine):Builtin.List.listTooLong n=false:=by
 unfold Builtin.List.listTooLong;exact decide_eq_false (by lia)
end
section
variable {X:Cx}
def qTZ:V->List V->Hp->VK->Prop:=fun x vs H Q=>∃ l xs y,x=.ref l/\vs=[y]/\H l=some (.lst xs)/\xs.length<sizeLine/\Q .non (Ah H l (.lst (xs++[y])))
theorem qBS:MtM X "list.append" qTZ:=by
 intro Ab s σ H x vs v us Q I rx rv h;obtain ⟨l,xs,y,rfl,rfl,hH,hz,q⟩:=h;cases rx;obtain ⟨u,rfl,ru⟩:=rv.one;obtain ⟨z,its,n,r,hl,e⟩:=I.lstM hH;refine call_meets F.slot_list_append ⟨_,e,rfl⟩ F.entry_list_append (F.args_list_append_2 _ _) (PySem.list_append l its.toArray n u (by rw [List.size_toArray];lia)) ⟨e,?_⟩
 refine ⟨.non,_,I.lset (its':=its++[u]) hH e (by simp) (r.append (.cons ru .nil)) ?_,rfl,q⟩
 rw [List.length_append,List.length_singleton]
 lia
def qTY:V->List V->Hp->VK->Prop:=fun x vs H Q=>∃ l b xs zs,x=.ref l/\vs=[.ref b]/\H l=some (.lst xs)/\H b=some (.lst zs)/\xs.length+zs.length<=sizeLine/\Q .non (Ah H l (.lst (xs++zs)))
theorem qKV:MtM X "list.extend" qTY:=by
 intro Ab s σ H x vs v us Q I rx rv h;obtain ⟨l,b,xs,zs,rfl,rfl,hH,hB,hz,q⟩:=h;cases rx;obtain ⟨u,rfl,ru⟩:=rv.one;cases ru;obtain ⟨z,its,n,r,hl,e⟩:=I.lstM hH;obtain ⟨z2,its2,n2,r2,hl2,e2⟩:=I.lstM hB;have hsz:its.toArray.size+its2.toArray.size<=sizeLine:=by rw [List.size_toArray,List.size_toArray];lia
 have hlong:¬ (!its.toArray.isEmpty && Builtin.List.listTooLong (its.toArray.size+its2.toArray.size))=true:=by
  rw [qN9 hsz,Bool.and_false];exact Bool.false_ne_true
 refine call_meets F.slot_list_extend ⟨_,e,rfl⟩ F.entry_list_extend (F.args_list_extend_2 _ _)
  (AutoSeq1.list_extend_list_list_0 l its.toArray n b its2.toArray n2 hlong (by rw [List.size_toArray];lia) (by lia)) ⟨e,e2,?_⟩
 refine ⟨.non,_,I.lset (its':=its++its2) hH e (by simp) (r.append r2) ?_,rfl,q⟩
 rw [List.length_append]
 lia
def qRQ:V->List V->Hp->VK->Prop:=fun x vs H Q=>∃ l xs,x=.ref l/\vs=[]/\H l=some (.lst xs)/\Q .non (Ah H l (.lst xs.reverse))
theorem qIV:MtM X "list.reverse" qRQ:=by
 intro Ab s σ H x vs v us Q I rx rv h;obtain ⟨l,xs,rfl,rfl,hH,q⟩:=h;cases rx;have hus:=rv.zero;subst hus;obtain ⟨z,its,n,r,hl,e⟩:=I.lstM hH;refine call_meets F.slot_list_reverse ⟨_,e,rfl⟩ F.entry_list_reverse (F.args_list_reverse_1 _) (AutoSeq1.list_reverse_list_0 l its.toArray n (by rw [List.size_toArray];lia)) ⟨e,?_⟩
 refine ⟨.non,_,I.lset (its':=its.reverse) hH e (by simp) r.reverse ?_,rfl,q⟩
 rw [List.length_reverse]
 lia
def rCat:R2:=fun x y H Q=>∃ l b xs zs,x=.ref l/\y=.ref b/\H l=some (.lst xs)/\H b=some (.lst zs)/\xs.length+zs.length<=sizeLine/\∀ p,H p=none->Q (.ref p) (Ah H p (.lst (xs++zs)))
theorem qN8:OpR X (binaryOp .Add) rCat:=by
 intro Ab s σ H x y v u Q I rx ry h;obtain ⟨l,b,xs,zs,rfl,rfl,hH,hB,hz,q⟩:=h;cases rx;cases ry;obtain ⟨z,its,n,r,hl,e⟩:=I.lstM hH;obtain ⟨z2,its2,n2,r2,hl2,e2⟩:=I.lstM hB;refine PySem.P.add_list e e2 ?_ (by rw [List.size_toArray,List.size_toArray];lia)
 have ea:its.toArray++its2.toArray=(its++its2).toArray:=by simp
 rw [ea];exact ⟨.ref _,_,I.lnew (t':=s.toks) (r.append r2) (by rw [List.length_append];lia),rfl,q _ I.fresh⟩
def rRep:R2:=fun x y H Q=>∃ l k xs,x=.ref l/\y=.int k/\H l=some (.lst xs)/\-(2 ^ 63)<=k/\k<2 ^ 63/\xs.length * k.toNat<=sizeLine/\
 ∀ p,H p=none->Q (.ref p) (Ah H p (.lst (List.replicate k.toNat xs).flatten))
theorem qUD {α:Type} (xs:List α) (k:Nat):(List.replicate k xs).flatten.length=k * xs.length:=by
 induction k with
 | zero=>simp
 | succ k ih=>rw [List.replicate_succ,List.flatten_cons,List.length_append,ih,Nat.succ_mul,Nat.add_comm]
theorem qT5:OpR X (binaryOp .Mult) rRep:=by
 intro Ab s σ H x y v u Q I rx ry h;obtain ⟨l,k,xs,rfl,rfl,hH,h1,h2,hz,q⟩:=h;cases rx;obtain ⟨t,rfl⟩:=ry;obtain ⟨z,its,n,r,hl,e⟩:=I.lstM hH;have hlen:its.toArray.size * k.toNat<=sizeLine:=by rw [List.size_toArray,<- hl];exact hz
 have hcap:¬ its.toArray.size * k.toNat > (2 ^ 63 - 1) / 8:=by
  have:(sizeLine:Nat)<=(2 ^ 63 - 1) / 8:=by decide
  lia
 have hfit:¬ (!Builtin.List.listFitsIndex k)=true:=by
  rw [fitsIndex_both h1 h2];exact Bool.false_ne_true
 have hlong:¬ Builtin.List.listTooLong (its.toArray.size * k.toNat)=true:=by
  rw [qN9 hlen];exact Bool.false_ne_true
 have hnew:List.foldl (fun x1 x2=>x1++x2) #[] (List.replicate (if its.toArray.isEmpty=true then 0 else k.toNat) its.toArray)=(List.replicate k.toNat its).flatten.toArray:=by
  have f0:∀ m:Nat,List.foldl (fun x1 x2=>x1++x2) #[] (List.replicate m its.toArray)=(List.replicate m its).flatten.toArray:=fun m=>by
   have:=qHS its m [];rw [List.nil_append] at this;exact this
  rw [f0];cases its with
  | nil=>simp
  | cons a r'=>rw [if_neg (by simp)]
 refine wpAny_binaryOp_repeat_ref (T:="list") (U:="int") (by decide) ⟨_,e,rfl⟩ (fun s'=>typeIs_int s' k t) noFill_list_mul F.fills_int_mul F.slot_int_rmul repeat_list F.slot_int_index.lookup
  (call_meets F.slot_int_rmul (typeIs_int s k t) F.entry_int_rmul (F.args_int_rmul_2 _ _) (int___rmul___int_list k t l its.toArray n)
   ⟨e,rfl,⟨_,e,rfl⟩,call_meets F.slot_list_mul ⟨_,e,rfl⟩ F.entry_list_mul (F.args_list_mul_2 _ _) (AutoListH.list___mul___list_int_3 l its.toArray n k t hfit hcap hlong) ⟨e,?_⟩⟩)
 rw [hnew];exact ⟨.ref _,_,I.lnew (t':=s.toks) (r.rep k.toNat) (by rw [qUD,Nat.mul_comm];exact hz),rfl,q _ I.fresh⟩
end
section
variable {prog:Program} {w:World} {A:Around} {E:Value->Shared->Prop} {s:Shared}
set_option maxRecDepth 100000 in
end
section
variable {X:Cx}
end
end L2
namespace Att
open PySem PySem.W PySem.Calls PyProof.Rows
theorem qHM {P:Params} {h:Heap}:∀ (ns:List Int) (vs:List Value),WellAll P h vs (ns.map WData.int)->IntsAre vs ns:=by
 intro ns
 induction ns with
 | nil=>
  intro vs w;rw [List.map_nil] at w;cases w;exact .nil
 | cons n ns ih=>
  intro vs w;rw [List.map_cons] at w;cases w with
  | cons a b=>
   cases a;exact .cons _ _ (ih _ b)
theorem qP4 {l:OpenLaw} {n:Nat} (hn:l.most=some n) {P:Params} {h:Heap} {args:List WData} {vals:List Value}
  (hpre:l.row.toRowW.claim.pre args=true) (hwl:WellAll P h vals args) :
  ∃ a vs ns,vals=[Value.ref a]/\args=[WData.list (ns.map WData.int)]/\h.get? a=some { cls:=.type "list",data:=.seq vs.toArray }/\IntsAre vs ns/\ns.length<=n:=by
 have hsh:WShape.hasAll [] args [.list .int]=true:=(pre_splitW hpre).1;have hc:l.pre.holds [] { args:=args }=true:=(pre_splitW hpre).2;obtain ⟨d,r,rfl,h1,h2⟩:=hasAllW_cons hsh;obtain rfl:=hasAllW_nil h2;obtain ⟨xs,rfl,h3⟩:=hasW_list h1;obtain ⟨ns,rfl⟩:=items_int h3;have hlen:ns.length<=n:=by
  unfold OpenLaw.pre at hc;have h4:(WTm.not (.lt (.lit (.int (n:Int))) (.len (.arg 0)))).holds [] { args:=[.list (ns.map .int)] }=true:=by
   have h4:=(holds_andW hc).1;rw [hn] at h4;exact h4
  have h5:=condW_of h4 (w_not (w_lt w_lit (w_len_list (w_arg rfl))));rw [List.length_map] at h5;refine Nat.le_of_not_lt fun q=>?_;have q':(n:Int)<((ns.length:Nat):Int):=by lia
  first
   | (rw [decide_eq_true q'] at h5;exact absurd h5 (by decide))
   | (simp at h5;lia)
 cases hwl with
 | cons w1 w2=>
  cases w2;cases w1 with
  | list ho hall=>exact ⟨_,_,ns,rfl,rfl,ho,qHM ns _ hall,hlen⟩
theorem qPB (l:OpenLaw) (args:List WData):l.row.toRowW.claim.post args (.bool true) args=true:=
 postW_of (r:=l.row.toRowW) (X:=(true == true))
  (show WShape.has [] (.bool true) .bool=true by first | rfl | decide | simp [WShape.has,WShape.arms,WShape.armsAll])
  (show (WTm.eq .res (.lit (.bool true))).value [] { args:=args,res:=some (.bool true),after:=args }=some (.bool (true == true)) from w_eq_bool (w_res rfl) w_lit) rfl
theorem attach_call {l:OpenLaw} {n:Nat} {q:Program} {loose:List Str} {XP:(Str->Option Value)->Heap->Prop} {YP:World->Heap->Prop} {d:DefRec}
  (hn:l.most=some n) (hdf:d.params.defaults=[])
  (call:∀ (w:World) (s₀ s₁:Shared) (mg mb:Str->Option Value) (fa:Addr) (o:Obj) (pm cd doc:Value) (a:Addr) (vs:List Value) (ns:List Int),
   Ground q loose [] XP w s₀ mg mb s₁.heap->YP w s₁.heap->
   s₁.heap.get? fa=some o->o.data=.func (docDef d.name d.params d.body d.scope pm cd doc)->s₁.heap.CodeRec cd d.name->mg d.name=some (.ref fa)->
   s₁.heap.get? a=some { cls:=.type "list",data:=.seq vs.toArray }->IntsAre vs ns->ns.length<=n->s₁.gens=#[]->
   codeAny (model l.prog w) callerA (.call (.ref fa) ⟨[.ref a],[]⟩) (fun r s'=>r=.ok (.ret (.bool true))/\OldK s₁.heap s'.heap/\s'.os=s₁.os/\AllBare s'.gens) s₁) :
  WalkO q loose XP YP l.row.toRowW d [] (fun f vs=>PySem.call f vs):=by
 intro w s₀ s₁ mg mb G Y fa o pm cd doc dV kV ho hd hcd hD hmg hg args vals as hpre hlay hrd hwl hlo;obtain rfl:dV=.none:=Dflts.none hD hdf;obtain rfl:kV=.none:=Dflts.noKw hD;obtain ⟨a,vs,ns,rfl,rfl,hobj,hints,hlen⟩:=qP4 hn hpre hwl;refine enter_call (codeAny_mono (call w s₀ s₁ mg mb fa o pm cd doc a vs ns G Y ho (fd_plain hd) hcd hmg hobj hints hlen hg) fun r s' hq=>?_);obtain ⟨rfl,h2,h3,h4⟩:=hq;exact ⟨.inl ⟨.bool true,.bool true,[],rfl,fun _=>rfl,.bool true,qPB l _,fun _=>⟨List.Pairwise.nil,fun _ hm=>(nomatch hm)⟩⟩,h2,h3,h4⟩
section
variable {prog:Program} {w:World} {A:Around} {E:Value->Shared->Prop} {s:Shared} {K:Frag}
end
end Att
namespace L2
open PySem PySem.Spec PyProof.Rows
theorem qH5:∀ {vs:List Value} {ns:List Int},IntsAre vs ns->Vals (ns.map V.int) vs
 | _,_,.nil=>.nil
 | _,_,.cons n t h=>.cons ⟨t,rfl⟩ (qH5 h)
end L2
namespace L2
open PySem PySem.Spec PyProof.Rows
end L2
namespace L2
open PySem PySem.Spec PyProof.Rows
noncomputable def qDP (s:Stmt):Arguments:=match s with
 | .FunctionDef _ a _ _ _ _ _ _ _ _=>a
 | _=>{ posonlyargs:=[],args:=[],vararg:=none,kwonlyargs:=[],kw_defaults:=[],kwarg:=none,defaults:=[] }
noncomputable def qC7 (s:Stmt):List Stmt:=match s with
 | .FunctionDef _ _ b _ _ _ _ _ _ _=>b
 | _=>[]
noncomputable def qAA (s:Stmt):Scope:=match s with
 | .FunctionDef _ _ _ _ _ _ sc _ _ _=>sc
 | _=>{ kind:=.function,names:=[],isGenerator:=false,isCoroutine:=false }
abbrev CX0:CXT:=fun _ _ _ _ _ _=>False
abbrev E0:XK:=fun _ _ _=>False
theorem qVZ {X:Cx}:qR6 CX0 X E0:=fun _ _ _ _ _ _ _ h=>h.elim
structure Fun (K:PySem.W.Frag) (x qual:Str) (st:Stmt) (f:Addr) (fd:FuncData):Prop where
 ex:∃ (oc:Value) (od:Option Addr) (kV doc pm:Value) (an:Option Addr) (cdv ct:Value) (osl:Array (Option Value)),
  fd=PySem.W.fnOf x qual (qDP st) (qC7 st) (qAA st) .none kV doc pm an cdv ct/\K.lookup f=some ⟨oc,od,.func fd,osl⟩/\PySem.W.codeIn K cdv qual=true
 kp:PySem.W.keepIn K (.ref f)=true
section
variable {P:Program} {w:World} {K:PySem.W.Frag} {mg:Str->Option Value} {base:Heap}
theorem Fun.ok {x qual:Str} {st:Stmt} {f:Addr} {fd:FuncData} {N ps:List Str} {k:Nat} {sp:Sp} (F:Fun K x qual st f fd) (S:FnScope N ps (qAA st)) (len:∀ vs H Q E,sp vs H Q E->vs.length=ps.length)
  (hbody:∀ (cdv:Value) (A:Around) (outer:List Env) (s:Shared) (H:Hp) (vs:List V) (Q:VK) (E:XK),Room k (A.deeper (envOfC qual (qAA st) s.heap.objs.size f cdv))->sp vs H Q E->
   ∃ t,PSs (cxOf CX0 P w K mg base N qual (qAA st) f cdv A outer s H E).nox (qC7 st) t/\t { nx:=fun _ H'=>Q .non H',rt:=Q } (start N vs) H):FnOk P w K mg base CX0 (k+1) f fd ps sp:=by
 obtain ⟨oc,od,kV,doc,pm,an,cdv,ct,osl,rfl,lk,hcd⟩:=F.ex;refine qWP lk hcd S len fun A outer s H vs Q E hr hsp=>?_;obtain ⟨t,h,q⟩:=hbody cdv A outer s H vs Q E hr hsp;exact ⟨t,h.nox,q⟩
theorem Fun.binds {x qual:Str} {st:Stmt} {f:Addr} {fd:FuncData} {ps:List Str} (F:Fun K x qual st f fd)
  (h:∀ (kV doc pm:Value) (an:Option Addr) (cdv ct:Value) (us:List Value),us.length=ps.length->bindArgs (PySem.W.fnOf x qual (qDP st) (qC7 st) (qAA st) .none kV doc pm an cdv ct) ⟨us,[]⟩=pure (ps.zip us)):Binds K fd ps []:=by
 obtain ⟨oc,od,kV,doc,pm,an,cdv,ct,osl,rfl,lk,hcd⟩:=F.ex;exact .all (h kV doc pm an cdv ct)
theorem fun_mk {x qual:Str} {st:Stmt} {f:Addr} {oc:Value} {od an:Option Addr} {osl:Array (Option Value)} {kV doc pm cdv ct:Value} (l:K.lookup f=some ⟨oc,od,.func (PySem.W.fnOf x qual (qDP st) (qC7 st) (qAA st) .none kV doc pm an cdv ct),osl⟩)
  (c:PySem.W.codeIn K cdv qual=true) (k:PySem.W.keepIn K (.ref f)=true):Fun K x qual st f (PySem.W.fnOf x qual (qDP st) (qC7 st) (qAA st) .none kV doc pm an cdv ct):=⟨⟨oc,od,kV,doc,pm,an,cdv,ct,osl,rfl,l,c⟩,k⟩
end
theorem qME {A:Around} {k:Nat} (hr:Room k A):A.units+2<cLine:=Nat.lt_of_le_of_lt (Nat.add_le_add_left (by decide:2<=64) _) hr.units
theorem qAM {n:Nat} (h:n<=1000):n<sizeLine:=Nat.lt_of_le_of_lt h (by decide)
section
variable {X:Cx}
theorem pv (i:Nat) {x:Str} {pos:Pos} (hN:X.N[i]?=some x:=by rfl) (hv:Vis X.env.scope x:=by first | exact Or.inl rfl | exact Or.inr (Or.inl rfl) | exact Or.inr (Or.inr rfl)) (hd:(x == ("__debug__" : Str))=false:=by decide)
  (hcd:(x == ("__classdict__" : Str))=false:=by decide):PE X (.Name x pos) (tVar i):=qVV hN hv hd hcd
end
theorem iteF {A B:Prop} (h:B):if false=true then A else B:=by
 rw [if_neg Bool.false_ne_true];exact h
theorem iteT {A B:Prop} (h:A):if true=true then A else B:=by
 rw [if_pos rfl];exact h
theorem ite2 {c A B:Prop} [Decidable c] (h1:c->A) (h2:¬ c->B):if c then A else B:=by
 by_cases h:c
 ·rw [if_pos h];exact h1 h
 ·rw [if_neg h];exact h2 h
def Same (H H':Hp):Prop:=∀ b o,H b=some o->H' b=some o
theorem Same.refl (H:Hp):Same H H:=fun _ _ h=>h
theorem Same.trans {H H1 H2:Hp} (a:Same H H1) (b:Same H1 H2):Same H H2:=fun c o h=>b c o (a c o h)
theorem Same.free {H H':Hp} (e:Same H H') {l:Addr} (h:H' l=Option.none):H l=Option.none:=by
 cases q:H l with
 | none=>rfl
 | some o=>
  rw [e l o q] at h;cases h
end L2
namespace L2
open PySem PySem.Spec PyProof.Rows
section
variable {κ:Type} [DecidableEq κ]
noncomputable def valV (Ag:List (κ × V)) (k:κ):Option V:=(Ag.find? fun kv=>decide (kv.1=k)).map (·.2)
noncomputable def putK (Ag:List (κ × V)) (k:κ) (v:V):List (κ × V):=
 if (Ag.any fun kv=>decide (kv.1=k))=true then Ag.map (fun kv=>if kv.1=k then (kv.1,v) else kv) else Ag++[(k,v)]
theorem qDC {p:κ × V} {r:List (κ × V)} {k:κ} (e:p.1=k):valV (p::r) k=some p.2:=by simp [valV,List.find?_cons,e]
theorem qDD {p:κ × V} {r:List (κ × V)} {k:κ} (e:¬ p.1=k):valV (p::r) k=valV r k:=by simp [valV,List.find?_cons,e]
theorem qJC (k:κ):∀ Ag:List (κ × V),(Ag.any fun kv=>decide (kv.1=k))=(valV Ag k).isSome
 | []=>rfl
 | p::r=>by
  rw [List.any_cons];by_cases e:p.1=k
  ·simp only [qDC e,decide_eq_true e,Bool.true_or,Option.isSome_some]
  ·rw [qDD e,decide_eq_false e,Bool.false_or];exact qJC k r
theorem qET (Ag:List (κ × V)) (k:κ) (v:V):(putK Ag k v).length<=Ag.length+1:=by
 unfold putK
 split
 ·rw [List.length_map];lia
 ·rw [List.length_append,List.length_cons,List.length_nil];lia
theorem qN0 {Ag:List (κ × V)} {k:κ} (v:V) (h:valV Ag k=none):putK Ag k v=Ag++[(k,v)]:=by
 unfold putK;rw [qJC,h];exact if_neg (by decide)
theorem RelO.isSome_eq {o:Option V} {u:Option Value} (r:RelO o u):o.isSome=u.isSome:=by
 cases o with
 | none=>cases u with
  | none=>rfl
  | some _=>exact (show False from r).elim
 | some _=>cases u with
  | none=>exact (show False from r).elim
  | some _=>rfl
theorem KV.val {Ag:List (κ × V)} {vs:List (κ × Value)} (r:KV Ag vs) (k:κ):RelO (valV Ag k) (valueAt vs k):=by
 unfold KV at r
 induction r with
 | nil=>exact True.intro
 | @cons p q ps qs h t ih=>
  obtain ⟨h1,h2⟩:=h;by_cases e:p.1=k
  ·have e':q.1=k:=h1.symm.trans e;have b:valueAt (q::qs) k=some q.2:=by simp [valueAt,List.find?_cons,e']
   rw [qDC e,b];exact h2
  ·have e':¬ q.1=k:=fun z=>e (h1.trans z);have b:valueAt (q::qs) k=valueAt qs k:=by simp [valueAt,List.find?_cons,e']
   rw [qDD e,b];exact ih
theorem KV.any {Ag:List (κ × V)} {vs:List (κ × Value)} (r:KV Ag vs) (k:κ):(Ag.any fun kv=>decide (kv.1=k))=vs.any fun kv=>decide (kv.1=k):=by
 unfold KV at r
 induction r with
 | nil=>rfl
 | cons h t ih=>rw [List.any_cons,List.any_cons,ih,h.1]
theorem KV.repl {Ag:List (κ × V)} {vs:List (κ × Value)} (r:KV Ag vs) (k:κ) {y:V} {u:Value} (ry:RelV y u) :
  KV (Ag.map fun kv=>if kv.1=k then (kv.1,y) else kv) (vs.map fun kv=>if kv.1=k then (kv.1,u) else kv):=by
 unfold KV at r ⊢
 induction r with
 | nil=>exact .nil
 | @cons p q ps qs h t ih=>
  rw [List.map_cons,List.map_cons];refine .cons ?_ ih;obtain ⟨h1,h2⟩:=h;by_cases e:p.1=k
  ·rw [if_pos e,if_pos (h1.symm.trans e)];exact ⟨h1,ry⟩
  ·rw [if_neg e,if_neg (fun z=>e (h1.trans z))];exact ⟨h1,h2⟩
theorem KV.put {Ag:List (κ × V)} {vs:List (κ × Value)} (r:KV Ag vs) (k:κ) {y:V} {u:Value} (ry:RelV y u):KV (putK Ag k y) (stored vs k u):=by
 unfold putK stored;rw [r.any k];by_cases e:(vs.any fun kv=>decide (kv.1=k))=true
 ·rw [if_pos e,if_pos e];exact r.repl k ry
 ·rw [if_neg e,if_neg e];exact Paired.snoc r ⟨rfl,ry⟩
theorem KV.length {Ag:List (κ × V)} {vs:List (κ × Value)} (r:KV Ag vs):Ag.length=vs.length:=Paired.length r
end
theorem qS6 {P:Program} {w:World} {k:Key} {u:Value} (r:RelV (kV k) u):(qC6 P w).is k u=true:=by
 cases k with
 | inl i=>obtain ⟨t,e⟩:=(show ∃ t,u=Value.int i t from r);subst e;exact qMB P w i t
 | inr x=>obtain ⟨t,e⟩:=(show ∃ t,u=Value.str x t from r);subst e;exact qMA P w x t
theorem qXZ {k:KI} {u:Value} (r:RelV (kI k) u):kiIs k u=true:=by
 cases k with
 | some k=>cases k with
  | inl i=>obtain ⟨t,e⟩:=(show ∃ t,u=Value.int i t from r);subst e;exact qL2 i t
  | inr x=>obtain ⟨t,e⟩:=(show ∃ t,u=Value.str x t from r);subst e;exact qL1 x t
 | none=>have e:u=Value.none:=r;subst e;rfl
theorem qL4:∀ {ks:List KI} {us:List Value},Vals (ks.map kI) us->Paired (fun k v=>kiIs k v=true) ks us
 | [],_,r=>by rw [List.map_nil] at r;cases r;exact .nil
 | k::ks,_,r=>by
  rw [List.map_cons] at r;cases r with
  | cons h t=>exact .cons (qXZ h) (qL4 t)
abbrev KT (H:Hp):List (List KI × V)->List (List KI × Addr × Value)->Prop:=Paired fun p q=>p.1=q.1/\H q.2.1=some (.tup (p.1.map kI))/\RelV p.2 q.2.2
theorem KT.val {H:Hp} {Ag:List (List KI × V)} {xs:List (List KI × Addr × Value)} (r:KT H Ag xs) (k:List KI):RelO (valV Ag k) ((atKey xs k).map (·.2)):=by
 induction r with
 | nil=>exact True.intro
 | @cons p q ps qs h t ih=>
  obtain ⟨h1,_,h2⟩:=h;by_cases e:p.1=k
  ·have e':q.1=k:=h1.symm.trans e;have b:atKey (q::qs) k=some q.2:=by simp [atKey,List.find?_cons,e']
   rw [qDC e,b];exact h2
  ·have e':¬ q.1=k:=fun z=>e (h1.trans z);have b:atKey (q::qs) k=atKey qs k:=by simp [atKey,List.find?_cons,e']
   rw [qDD e,b];exact ih
theorem KT.repl {H:Hp} {Ag:List (List KI × V)} {xs:List (List KI × Addr × Value)} (r:KT H Ag xs) (k:List KI) {y:V} {u:Value} (ry:RelV y u) :
  KT H (Ag.map fun kv=>if kv.1=k then (kv.1,y) else kv) (xs.map (putAt k u)):=by
 induction r with
 | nil=>exact .nil
 | @cons p q ps qs h t ih=>
  rw [List.map_cons,List.map_cons];refine .cons ?_ ih;obtain ⟨h1,h2,h3⟩:=h;unfold putAt;by_cases e:p.1=k
  ·rw [if_pos e,if_pos (h1.symm.trans e)];exact ⟨h1,h2,ry⟩
  ·rw [if_neg e,if_neg (fun z=>e (h1.trans z))];exact ⟨h1,h2,h3⟩
theorem KT.put {H:Hp} {Ag:List (List KI × V)} {xs:List (List KI × Addr × Value)} (r:KT H Ag xs) (k:List KI) {b:Addr} {y:V} {u:Value} (hb:H b=some (.tup (k.map kI))) (ry:RelV y u) :
  KT H (putK Ag k y) (storedH xs k b u):=by
 have e:(Ag.any fun kv=>decide (kv.1=k))=(atKey xs k).isSome:=by
  rw [qJC,(r.val k).isSome_eq,Option.isSome_map]
 unfold putK storedH;rw [e];by_cases q:(atKey xs k).isSome=true
 ·rw [if_pos q,if_pos q];exact r.repl k ry
 ·rw [if_neg q,if_neg q];exact Paired.snoc r ⟨rfl,hb,ry⟩
theorem KT.keeps {H H':Hp} {Ag:List (List KI × V)} {xs:List (List KI × Addr × Value)} (r:KT H Ag xs) (ht:∀ b ys,H b=some (.tup ys)->H' b=some (.tup ys)):KT H' Ag xs:=
 Paired.mapP r fun _ _ z=>⟨z.1,ht _ _ z.2.1,z.2.2⟩
section
variable {P:Program} {w:World} {H:Hp} {h:Heap} {a:Addr}
theorem qVP {u:HO} (ok:HOk P w H h) (e:Rd H a u):ObjOk P w H h a u:=e.ok ok
theorem qSN {Ag:List (Key × V)} (ok:HOk P w H h) (e:Rd H a (.dK Ag)):Ag.length<=sizeLine/\(a == sysModules)=false/\∃ vs,KV Ag vs/\h.DictOf (qC6 P w) a vs:=
 show ObjOk P w H h a (.dK Ag) from qVP ok e
theorem qWT {Ag:List (Key × V)} (ok:HOk P w H h) (e:H a=some (.dK Ag)):Ag.length<=sizeLine/\(a == sysModules)=false/\∃ vs,KV Ag vs/\h.DictOf (qC6 P w) a vs:=qSN ok (.inl e)
theorem qL0 {ks:List KI} (ok:HOk P w H h) (e:H a=some (.tup (ks.map kI))):(qKU P w).is h ks a:=by
 obtain ⟨_,its,r,o,h1,h2,n,h3⟩:=(show ObjOk P w H h a (.tup (ks.map kI)) from ok a _ e);exact ⟨o,its.toArray,n,h1,h2,h3,by simpa using qL4 r⟩
theorem qSK {Ag:List (List KI × V)} (ok:HOk P w H h) (e:Rd H a (.dT Ag)):Ag.length<=sizeLine/\(a == sysModules)=false/\
  ∃ xs,KT H Ag xs/\h.DictOfH (qKU P w) a xs:=by
 obtain ⟨z,y,xs,r,o,es,ep,h1,h2,h3,h4,h5⟩:=(show ObjOk P w H h a (.dT Ag) from qVP ok e);refine ⟨z,y,xs,r,o,es,ep,h1,h2,h3,h4,fun x hx=>?_,h5⟩;have all:∀ {l:List (List KI × V)} {m:List (List KI × Addr × Value)},KT H l m->∀ x ∈ m,(qKU P w).is h x.1 x.2.1:=by
  intro l m q
  induction q with
  | nil=>intro x hx;exact nomatch hx
  | @cons p q ps qs hq t ih=>
   intro x hx;rcases List.mem_cons.mp hx with e | hx
   ·subst e;exact qL0 ok (by rw [<- hq.1];exact hq.2.1)
   ·exact ih x hx
 exact all r x hx
theorem qWS {Ag:List (List KI × V)} (ok:HOk P w H h) (e:H a=some (.dT Ag)):Ag.length<=sizeLine/\(a == sysModules)=false/\
  ∃ xs,KT H Ag xs/\h.DictOfH (qKU P w) a xs:=qSK ok (.inl e)
end
def DGet (H:Hp) (a:Addr) (y:V) (r:Option V):Prop:=
 (∃ Ag k,Rd H a (.dK Ag)/\y=kV k/\r=valV Ag k)\/∃ Ag k b,Rd H a (.dT Ag)/\y=.ref b/\H b=some (.tup (k.map kI))/\r=valV Ag k
def DPut (H:Hp) (a:Addr) (y v:V) (H':Hp):Prop:=
 (∃ Ag k,H a=some (.dK Ag)/\y=kV k/\Ag.length<sizeLine/\H'=Ah H a (.dK (putK Ag k v)))\/
 ∃ Ag k b,H a=some (.dT Ag)/\y=.ref b/\H b=some (.tup (k.map kI))/\Ag.length<sizeLine/\H'=Ah H a (.dT (putK Ag k v))
theorem DGet.k {H:Hp} {a:Addr} {Ag:List (Key × V)} {k:Key} (e:H a=some (.dK Ag)):DGet H a (kV k) (valV Ag k):=.inl ⟨Ag,k,.inl e,rfl,rfl⟩
theorem DPut.k {H:Hp} {a:Addr} {Ag:List (Key × V)} {k:Key} {v:V} (e:H a=some (.dK Ag)) (hl:Ag.length<sizeLine):DPut H a (kV k) v (Ah H a (.dK (putK Ag k v))):=.inl ⟨Ag,k,e,rfl,hl,rfl⟩
section
variable {X:Cx} {Ab:List (Addr × Obj)} {σ:St} {H:Hp} {s:Shared} {a:Addr} {y v:V} {u r:Value} {o:Option V} {A:Around} {E:Value->Shared->Prop}
theorem Inv.big (I:Inv X Ab σ H s):sysModules<s.heap.objs.size:=by
 have h:mainGlobals<s.heap.objs.size:=(I.mod.glob.keeps I.bk).lt;exact Nat.lt_trans (by decide) h
theorem qQS {Q:Value->Shared->Prop} (hu:A.units+2<cLine) (I:Inv X Ab σ H s) (g:DGet H a y (some v)) (ry:RelV y u) (h:∀ w' s',Inv X Ab σ H s'->RelV v w'->Q w' s') :
  wpAny (model X.prog X.w) A (getItem (.ref a) u) Q E s:=by
 rcases g with ⟨Ag,k,e,ey,l⟩ | ⟨Ag,k,b,e,ey,eb,l⟩
 ·subst ey;obtain ⟨z,hd,vs,rel,dd⟩:=qSN I.hok e;obtain ⟨w',hw,rw'⟩:=RelO.some_of (v:=v) (o:=valueAt vs k) (by rw [l];exact rel.val k)
  exact wpAny_getItem_of (qS6 ry) dd.mapOf hw (h w' _ (I.tok _) rw')
 ·subst ey;cases (show u=Value.ref b from ry);obtain ⟨z,hd,xs,rel,dd⟩:=qSK I.hok e;obtain ⟨w',hw,rw'⟩:=RelO.some_of (v:=v) (o:=(atKey xs k).map (·.2)) (by rw [l];exact rel.val k)
  obtain ⟨p,hp,hp2⟩:=Option.map_eq_some_iff.mp hw;refine wpAny_getItem_heap (qM8 hu) (qL0 I.hok eb) dd hp ?_;rw [hp2];exact h w' _ (I.tok _) rw'
theorem qUR {Q:Value->Shared->Prop} (hu:A.units+2<cLine) (I:Inv X Ab σ H s) (g:DGet H a y o) (ry:RelV y u) (h:∀ s',Inv X Ab σ H s'->Q (.bool (!o.isSome)) s') :
  wpAny (model X.prog X.w) A (compareOp .NotIn u (.ref a)) Q E s:=by
 rcases g with ⟨Ag,k,e,ey,l⟩ | ⟨Ag,k,b,e,ey,eb,l⟩
 ·subst ey;obtain ⟨z,hd,vs,rel,dd⟩:=qSN I.hok e;refine wpAny_notIn_of (qS6 ry) hd dd.mapOf ?_;rw [<- (rel.val k).isSome_eq,<- l];exact h _ (I.tok _)
 ·subst ey;cases (show u=Value.ref b from ry);obtain ⟨z,hd,xs,rel,dd⟩:=qSK I.hok e;refine wpAny_notIn_heap (qM8 hu) (qL0 I.hok eb) hd dd ?_;have q:=(rel.val k).isSome_eq;rw [Option.isSome_map] at q;rw [<- q,<- l];exact h _ (I.tok _)
theorem qK4 {h':Heap} {t':Nat} {ob:HO} (I:Inv X Ab σ H s) (mu:Mut (H a)) (hs:Heap.SameBut a s.heap h') (he:∃ q,h'.get? a=some q) (new:ObjOk X.prog X.w (Ah H a ob) h' a ob) :
  Inv X Ab σ (Ah H a ob) { s with heap:=h',toks:=t' }:=
 I.write (x:=a) (e:=a) mu (.inl rfl) (fun b q hb z=>(hs.2 b hb).trans z) he new
theorem qTD {P:Program} {w:World} {H':Hp} {h':Heap} {Ag:List (Key × V)} {vs:List (Key × Value)} (z:Ag.length<=sizeLine) (hd:(a == sysModules)=false) (rel:KV Ag vs) (dd:h'.DictOf (qC6 P w) a vs) :
  ObjOk P w H' h' a (.dK Ag):=⟨z,hd,vs,rel,dd⟩
theorem qQR {H':Hp} {Q:Unit->Shared->Prop} (hu:A.units+2<cLine) (I:Inv X Ab σ H s) (g:DPut H a y v H') (ry:RelV y u) (rv:RelV v r) (h:∀ s',Inv X Ab σ H' s'->Q () s') :
  wpAny (model X.prog X.w) A (setItem (.ref a) u r) Q E s:=by
 rcases g with ⟨Ag,k,e,ey,l,eH⟩ | ⟨Ag,k,b,e,ey,eb,l,eH⟩
 ·subst ey eH;obtain ⟨z,hd,vs,rel,dd⟩:=qWT I.hok e;have hz:vs.length<=sizeLine:=by rw [<- rel.length];exact z
  have hl:(putK Ag k v).length<=sizeLine:=by have:=qET Ag k v;lia
  refine wpAny_setItem_pairs (hsz:=hz) (qS6 ry) dd fun h' dd' hs=>h _ ?_;have he:∃ q,h'.get? a=some q:=let ⟨q,_,_,hq,_⟩:=dd';⟨q,hq⟩
  exact qK4 I (by rw [e];exact True.intro) hs he (qTD hl hd (rel.put k rv) dd')
 ·subst ey eH;cases (show u=Value.ref b from ry);obtain ⟨z,hd,xs,rel,dd⟩:=qWS I.hok e;have hz:xs.length<=sizeLine:=by rw [<- Paired.length rel];exact z
  have hl:(putK Ag k v).length<=sizeLine:=by have:=qET Ag k v;lia
  refine wpAny_setItem_heap (hsz:=hz) (qM8 hu) (qL0 I.hok eb) dd fun h' dd' hs=>h _ ?_;obtain ⟨q,es,ep,hq,h2,h3,h4,_,h5⟩:=dd';refine qK4 I (by rw [e];exact True.intro) hs ⟨q,hq⟩ ⟨hl,hd,_,(rel.put k eb rv).keeps fun c ys ec=>?_,q,es,ep,hq,h2,h3,h4,h5⟩
  rw [qA8 (qCR ec e (fun z=>nomatch z))];exact ec
end
section
variable {X:Cx} {Ab:List (Addr × Obj)} {σ:St} {H:Hp} {s:Shared} {a:Addr} {Ag:List (Key × V)} {k:Key} {u:Value} {A:Around} {E:Value->Shared->Prop}
end
def NoSl (i:Expr):Prop:=∀ ov iv,subscripted i false ov iv=operate [ov,iv] (getItem ov iv)
theorem qTT {prog:Program} {w:World} {A:Around} {E:Value->Shared->Prop} {s:Shared} {env:Env} {value slice:Expr} {pos:Pos} {T id:String} {Q:Value->Shared->Prop}
  (hl:typeLookup (.type T) "__getitem__" = pure (some (.builtin id))) (hs:NoSl slice)
  (h:wpAny (model prog w) A (eval value env) (fun o s₁=>wpAny (model prog w) A (eval slice env) (fun i s₂=>s₂.TypeIs o T/\wpAny (model prog w) A (getItem o i) Q E s₂) E s₁) E s) :
  wpAny (model prog w) A (eval (.Subscript value slice pos) env) Q E s:=by
 refine Subscript_ (wpAny_mono h (fun o s₁ h₁=>wpAny_mono h₁ (fun i s₂ h₂=>?_) fun _ _ x=>x) fun _ _ x=>x);obtain ⟨hT,h₂⟩:=h₂;unfold subscriptTail;refine wpAny_bind ?_;rw [getitemInPython_of_ne hT.not_modules];refine wpAny_bind (wpAny_specialOf hT hl ?_);have fin:wpAny (model prog w) A (subscripted slice false o i) (fun r s₃=>wpAny (model prog w) A (letTemporaryGo value o r >>= fun _=>pure r) Q E s₃) E s₂:=by
  rw [hs o i];exact wpAny_operating (wpAny_mono h₂ (fun r s₃ h₃=>wpAny_bind (wpAny_letTemporaryGo (wpAny_pure h₃))) fun _ _ x=>x)
 first
  | exact wpAny_pure (wpAny_bind fin)
  | exact wpAny_bind (wpAny_pure (wpAny_bind fin))
  | exact wpAny_bind fin
theorem qMI {X:Cx} {Ab:List (Addr × Obj)} {σ:St} {H:Hp} {s:Shared} {a:Addr} {y:V} {o:Option V} (I:Inv X Ab σ H s) (g:DGet H a y o):s.TypeIs (.ref a) "dict":=by
 rcases g with ⟨Ag,k,e,_,_⟩ | ⟨Ag,k,b,e,_,_,_⟩
 ·obtain ⟨_,_,vs,_,dd⟩:=qSN I.hok e;exact dd.typeIs
 ·obtain ⟨_,_,xs,_,dd⟩:=qSK I.hok e;exact dd.typeIs
def qXE (td ty:TE):TE:=fun σ H Q=>td σ H fun x H1=>ty σ H1 fun y H2=>∃ a v,x=.ref a/\DGet H2 a y (some v)/\Q v H2
def qTS (ty td:TE):TE:=fun σ H Q=>ty σ H fun y H1=>td σ H1 fun x H2=>∃ a o,x=.ref a/\DGet H2 a y o/\Q (.bl (!o.isSome)) H2
def qXI (td ty tv:TE):TS:=fun D σ H=>tv σ H fun v H1=>td σ H1 fun x H2=>ty σ H2 fun y H3=>∃ a H4,x=.ref a/\DPut H3 a y v H4/\D.nx σ H4
section
variable {X:Cx} {o i e value:Expr} {pos pos' tpos:Pos} {td ty tv:TE}
theorem qCQ (hu:X.A.units+2<cLine) (ho:PE X o td) (hi:PE X i ty) (hs:NoSl i):PE X (.Subscript o i pos) (qXE td ty):=by
 intro Ab s σ H Q I h;refine qTT PySem.F.slot_dict_getitem.lookup hs (thn (ho Ab s σ H _ I h) fun u s1 ⟨x,H1,I1,rx,q1⟩=>thn (hi Ab s1 σ H1 _ I1 q1) fun iv s2 ⟨y,H2,I2,ry,a,v,ex,g,q2⟩=>?_);subst ex;obtain rfl:u=Value.ref a:=rx;exact ⟨qMI I2 g,qQS hu I2 g ry fun w' s3 I3 rw'=>⟨v,H2,I3,rw',q2⟩⟩
theorem qHC (hu:X.A.units+2<cLine) (hi:PE X i ty) (ho:PE X o td):PC X .NotIn i o (qTS ty td):=by
 intro Ab s σ H Q I h;refine thn (hi Ab s σ H _ I h) fun iv s1 ⟨y,H1,I1,ry,q1⟩=>thn (ho Ab s1 σ H1 _ I1 q1) fun u s2 ⟨x,H2,I2,rx,a,ov,ex,g,q2⟩=>?_;subst ex;obtain rfl:u=Value.ref a:=rx;exact qUR hu I2 g ry fun s3 I3=>⟨.bl (!ov.isSome),H2,I3,rfl,q2⟩
theorem qJH (hu:X.A.units+2<cLine) (ho:PE X o td) (hi:PE X i ty) (hv:PE X value tv) (hs:swapsWith value (some (.Subscript o i pos')) pos.line X.env=pure false) :
  PS X (.Assign [.Subscript o i pos'] value pos) (qXI td ty tv):=by
 intro Ab s σ H D I h;refine wpAny_Assign_Subscript (thn (hv Ab s σ H _ I h) fun r s1 ⟨v,H1,I1,rv,q1⟩=>thn (ho Ab s1 σ H1 _ I1 q1) fun u s2 ⟨x,H2,I2,rx,q2⟩=>thn (hi Ab s2 σ H2 _ I2 q2) fun iv s3 ⟨y,H3,I3,ry,a,H4,ex,g,q3⟩=>?_) hs;subst ex;obtain rfl:u=Value.ref a:=rx;exact qQR hu I3 g ry rv fun s4 I4=>⟨σ,H4,I4,q3⟩
end
theorem qSO {P:Program} {w:World} {H:Hp} (h:Heap) (hb:sysModules<h.objs.size):ObjOk P w H (h.push { cls:=.type "dict",data:=.dict #[] }) h.objs.size (.dK []):=
 ⟨Nat.zero_le _,beq_eq_false_iff_ne.mpr (Ne.symm (Nat.ne_of_lt hb)),[],.nil,Heap.DictOf.new h⟩
theorem qSL {P:Program} {w:World} {H:Hp} (h:Heap) (hb:sysModules<h.objs.size):ObjOk P w H (h.push { cls:=.type "dict",data:=.dict #[] }) h.objs.size (.dT []):=
 ⟨Nat.zero_le _,beq_eq_false_iff_ne.mpr (Ne.symm (Nat.ne_of_lt hb)),[],.nil,_,#[],0,Heap.get?_push_size _ rfl,⟨rfl,rfl,rfl⟩,rfl,rfl,List.nodup_nil⟩
section
variable {X:Cx} {pos:Pos}
end
def qOW:List (TE × TE)->St->Hp->(List (V × V)->Hp->Prop)->Prop
 | [],_,H,Q=>Q [] H
 | (tk,tv)::r,σ,H,Q=>tk σ H fun x H1=>tv σ H1 fun y H2=>qOW r σ H2 fun ps H3=>Q ((x,y)::ps) H3
abbrev VV:List (V × V)->List (Value × Value)->Prop:=Paired fun p q=>RelV p.1 q.1/\RelV p.2 q.2
def PPs (X:Cx) (pos:Pos) (keys:List (Option Expr)) (values:List Expr) (trs:List (TE × TE)):Prop:=
 ∀ (Ab:List (Addr × Obj)) (s:Shared) (σ:St) (H:Hp) (Q:List (V × V)->Hp->Prop),Inv X Ab σ H s->qOW trs σ H Q->
  wpAny (model X.prog X.w) X.A (evalPairs (pairTrees keys values X.env pos)) (fun vs s'=>∃ ps H',Inv X Ab σ H' s'/\VV ps vs/\Q ps H') X.xe s
theorem qU0 {X:Cx} {pos:Pos}:PPs X pos [] [] []:=fun Ab s σ H Q I h=>pairTrees_nil_walk ⟨[],H,I,.nil,h⟩
theorem qN4 {X:Cx} {pos:Pos} {k v:Expr} {ks:List (Option Expr)} {vs:List Expr} {tk tv:TE} {trs:List (TE × TE)} (hk:PE X k tk) (hv:PE X v tv) (hr:PPs X pos ks vs trs) :
  PPs X pos (some k::ks) (v::vs) ((tk,tv)::trs):=fun Ab s σ H Q I h=>
 pairTrees_cons_walk (thn (hk Ab s σ H _ I h) fun u s1 ⟨x,H1,I1,rx,q1⟩=>thn (hv Ab s1 σ H1 _ I1 q1) fun w2 s2 ⟨y,H2,I2,ry,q2⟩=>
  thn (hr Ab s2 σ H2 _ I2 q2) fun ws s3 ⟨ps,H3,I3,rel,q3⟩=>⟨(x,y)::ps,H3,I3,.cons ⟨rx,ry⟩ rel,q3⟩)
noncomputable def qHH (Ag more:List (Key × V)):List (Key × V):=more.foldl (fun acc kv=>putK acc kv.1 kv.2) Ag
theorem KV.merge:∀ {more:List (Key × V)} {rs:List (Key × Value)} {Ag:List (Key × V)} {vs:List (Key × Value)},KV more rs->KV Ag vs->KV (qHH Ag more) (merged vs rs):=by
 intro more rs Ag vs r;unfold KV at r
 induction r generalizing Ag vs with
 | nil=>intro q;exact q
 | @cons p q ps qs h t ih=>
  intro r0;have e:KV (putK Ag p.1 p.2) (stored vs q.1 q.2):=by
   have:=r0.put p.1 h.2;rw [<- h.1];exact this
  exact ih e
theorem qF9:∀ (more Ag:List (Key × V)),(qHH Ag more).length<=Ag.length+more.length
 | [],Ag=>by show Ag.length<=Ag.length+0;lia
 | p::r,Ag=>by
  have h1:=qF9 r (putK Ag p.1 p.2);have h2:=qET Ag p.1 p.2;show (qHH (putK Ag p.1 p.2) r).length<=_;rw [List.length_cons];lia
theorem qJ5 {P:Program} {w:World}:∀ {Ag:List (Key × V)} {ws:List (Value × Value)},VV (Ag.map fun kv=>(kV kv.1,kv.2)) ws->∃ rs,Carries (qC6 P w) ws rs/\KV Ag rs
 | [],_,r=>by rw [List.map_nil] at r;cases r;exact ⟨[],True.intro,.nil⟩
 | p::Ag,_,r=>by
  rw [List.map_cons] at r;cases r with
  | @cons a b as bs h t=>
   obtain ⟨rs,c,q⟩:=qJ5 (P:=P) (w:=w) t;obtain ⟨b1,b2⟩:=b;exact ⟨(p.1,b2)::rs,⟨qS6 h.1,rfl,c⟩,.cons ⟨rfl,h.2⟩ q⟩
def qXD (trs:List (TE × TE)):TE:=fun σ H Q=>∀ p,H p=none->qOW trs σ (Ah H p (.dK [])) fun ps H2=>H2 p=some (.dK [])/\∃ Ag:List (Key × V),ps=Ag.map (fun kv=>(kV kv.1,kv.2))/\Ag.length<=15/\Q (.ref p) (Ah H2 p (.dK (qHH [] Ag)))
theorem qU4 {X:Cx} {pos:Pos} {keys:List (Option Expr)} {values:List Expr} {trs:List (TE × TE)} (h:PPs X pos keys values trs) (hall:keys.all (·.isSome)=true) (hl:keys.length=values.length) (h0:keys ≠ [])
  (h15:keys.length<=15):PE X (.Dict keys values pos) (qXD trs):=by
 intro Ab s σ H Q I q;have hn:=I.hok.fresh (Nat.le_refl s.heap.objs.size);have I1:=I.laid (a:=s.heap.objs.size) (o:=.dK []) (h':=s.heap.push { cls:=.type "dict",data:=.dict #[] }) (t':=s.toks) (fun _ _ q=>Heap.get?_push_of_some _ q) (Nat.le_refl _) (qSO s.heap I.big);refine wpAny_Dict_walk (knd:=qC6 X.prog X.w) hall hl h0 h15 (thn (h Ab _ σ _ _ I1 (q _ hn)) fun ws s2 ⟨ps,H2,I2,rel,e,Ag,ep,lk,q2⟩=>?_);subst ep;obtain ⟨rs,c,rk⟩:=qJ5 (P:=X.prog) (w:=X.w) rel;obtain ⟨z,hd,vs0,r0,dd⟩:=qWT I2.hok e;cases r0;refine ⟨rs,c,dd,fun h' dd' hs=>⟨.ref s.heap.objs.size,_,?_,rfl,q2⟩⟩;have hz:(qHH [] Ag).length<=sizeLine:=by
  have h1:=qF9 Ag [];rw [List.length_nil] at h1;rw [sizeLine_eq];lia
 have he:∃ q,h'.get? s.heap.objs.size=some q:=let ⟨q,_,_,hq,_⟩:=dd';⟨q,hq⟩
 exact qK4 I2 (by rw [e];exact True.intro) hs he (qTD hz hd (rk.merge .nil) dd')
structure M1 (X:Cx) (o:Expr) (m:Str) (apos:Pos) (e:Expr) (cpos:Pos):Prop where
 base:attributeBase o m X.env (eval o X.env)=eval o X.env
 few:((backTo cpos (starEach [e] X.env)).all (fun x=>!x.1) && (backToKw cpos (keywordEach [] X.env)).all (fun x=>x.1.isSome)
  && decide (([e]:List Expr).length+([]:List Keyword).length+(if ([]:List Keyword).isEmpty then 0 else 1)<30))=true
 line:(apos.endLine == cpos.line)=true
 trees:backTo cpos (starEach [e] X.env)=[(false,eval e X.env)]
structure M2 (X:Cx) (o:Expr) (m:Str) (apos:Pos) (e f:Expr) (cpos:Pos):Prop where
 base:attributeBase o m X.env (eval o X.env)=eval o X.env
 few:((backTo cpos (starEach [e,f] X.env)).all (fun x=>!x.1) && (backToKw cpos (keywordEach [] X.env)).all (fun x=>x.1.isSome)
  && decide (([e,f]:List Expr).length+([]:List Keyword).length+(if ([]:List Keyword).isEmpty then 0 else 1)<30))=true
 line:(apos.endLine == cpos.line)=true
 trees:backTo cpos (starEach [e,f] X.env)=[(false,eval e X.env),(false,eval f X.env)]
section
variable {X:Cx} {Ab:List (Addr × Obj)} {σ:St} {H:Hp} {s:Shared} {a:Addr} {y d:V} {u r:Value} {o:Option V} {A:Around} {E:Value->Shared->Prop}
end
section
variable {X:Cx} {o e f:Expr} {apos cpos:Pos} {td ty tx:TE}
end
section
variable {X:Cx} {Ab:List (Addr × Obj)} {σ:St} {H:Hp} {s:Shared} {a:Addr} {Ag:List (Key × V)} {A:Around} {E:Value->Shared->Prop}
end
section
variable {X:Cx} {Ab:List (Addr × Obj)} {σ:St} {H:Hp} {s:Shared} {a:Addr} {y:V} {u:Value} {A:Around} {E:Value->Shared->Prop}
end
end L2
namespace L2
open PySem PySem.Spec PyProof.Rows
section
variable {X:Cx}
end
section
variable {κ:Type} [DecidableEq κ]
theorem qM9:∀ {l:List κ} {k:κ},l.Nodup->¬ k ∈ l->(l++[k]).Nodup
 | [],k,_,_=>by simp
 | a::r,k,h,hk=>by
  obtain ⟨h1,h2⟩:=List.nodup_cons.mp h;show (a::(r++[k])).Nodup;refine List.nodup_cons.mpr ⟨fun m=>?_,qM9 h2 fun m=>hk (List.mem_cons.mpr (Or.inr m))⟩;rcases List.mem_append.mp m with q | q
  ·exact h1 q
  ·exact hk (List.mem_cons.mpr (Or.inl (List.mem_singleton.mp q).symm))
end
end L2
namespace L2
open PySem PySem.Spec PyProof.Rows
def noX:Value->Shared->Prop:=fun _ _=>False
noncomputable def qFO (env:Env):List (Str × NameKind)->List (Str × Addr)->List (Str × Addr)
 | [],acc=>acc
 | (n,k)::r,acc=>qFO env r (if (k == NameKind.free)=true then (n,(env.cells.lookup n).getD 0)::acc else acc)
theorem qE7 {env:Env}:∀ {names:List (Str × NameKind)} {acc:List (Str × Addr)},(∀ x,(x,NameKind.free) ∈ names->∃ c,env.cells.lookup x=some c)->(∀ x c,acc.lookup x=some c->env.cells.lookup x=some c)->
  ∀ x c,(qFO env names acc).lookup x=some c->env.cells.lookup x=some c
 | [],acc,_,ha,x,c,h=>ha x c h
 | (n,k)::r,acc,hf,ha,x,c,h=>by
  refine qE7 (names:=r) (fun y hy=>hf y (List.mem_cons_of_mem _ hy)) (fun y d hd=>?_) x c h
  split at hd
  ·rename_i hk
   have hk':k=NameKind.free:=by simpa using hk
   subst hk';obtain ⟨e,he⟩:=hf n List.mem_cons_self;by_cases hyn:y=n
   ·subst hyn;rw [List.lookup_cons_self,he] at hd;rw [he];exact hd
   ·rw [List.lookup_cons,beq_eq_false_iff_ne.mpr hyn] at hd;exact ha y d hd
  ·exact ha y d hd
theorem qE8 {env:Env}:∀ {names:List (Str × NameKind)} {acc:List (Str × Addr)} {x:Str},((x,NameKind.free) ∈ names\/∃ c,acc.lookup x=some c)->∃ c,(qFO env names acc).lookup x=some c
 | [],acc,x,h=>by
  rcases h with h | h
  ·exact absurd h (by simp)
  ·exact h
 | (n,k)::r,acc,x,h=>by
  refine qE8 (names:=r) ?_;rcases h with h | ⟨c,h⟩
  ·rcases List.mem_cons.mp h with e | h
   ·cases e;refine .inr ⟨(env.cells.lookup n).getD 0,?_⟩;rw [if_pos (by rfl),List.lookup_cons_self]
   ·exact .inl h
  ·refine .inr ?_
   split
   ·by_cases hyn:x=n
    ·subst hyn;exact ⟨_,List.lookup_cons_self⟩
    ·refine ⟨c,?_⟩;rw [List.lookup_cons,beq_eq_false_iff_ne.mpr hyn];exact h
   ·exact ⟨c,h⟩
theorem qHX {env:Env} (f:Str × NameKind->List (Str × Addr)->Sem (ForInStep (List (Str × Addr))))
  (hf:∀ n k c,f (n,k) c=(if (k == NameKind.free)=true then (do let a <- cellOf env n;pure (ForInStep.yield ((n,a)::c))) else pure (ForInStep.yield c))) :
  ∀ (names:List (Str × NameKind)) (acc:List (Str × Addr)),(∀ x,(x,NameKind.free) ∈ names->∃ c,env.cells.lookup x=some c)->forIn names acc f=(pure (qFO env names acc):Sem _)
 | [],acc,_=>rfl
 | (n,k)::r,acc,h=>by
  have ih:=fun acc=>qHX f hf r acc fun x hx=>h x (List.mem_cons_of_mem _ hx);rw [List.forIn_cons,hf];by_cases hk:(k == NameKind.free)=true
  ·have hk':k=NameKind.free:=by simpa using hk
   subst hk';obtain ⟨c,hc⟩:=h n List.mem_cons_self;rw [if_pos hk];unfold cellOf qFO;rw [hc,if_pos hk];exact ih _
  ·rw [if_neg hk];unfold qFO;rw [if_neg hk];exact ih _
theorem qG4 {scope:Scope} {env:Env} (h:∀ x,(x,NameKind.free) ∈ scope.names->∃ c,env.cells.lookup x=some c):closureFor scope env=pure (qFO env scope.names []):=by
 unfold closureFor;dsimp only;rw [qHX (env:=env) _ (fun n k c=>?_) scope.names [] h]
 ·rfl
 ·rfl
theorem qD3 {env:Env} {x:Str}:∀ {names:List (Str × NameKind)},
  (names.map fun (n,k)=>if (k == NameKind.free && env.scope.kind == .function && env.kindOf n == some .cell)=true then (n,NameKind.cell) else (n,k)).lookup x =
   (names.lookup x).map fun k=>if (k == NameKind.free && env.scope.kind == .function && env.kindOf x == some .cell)=true then NameKind.cell else k
 | []=>rfl
 | (n,k)::r=>by
  have ih:=@qD3 env x r;rw [List.map_cons];by_cases hx:x=n
  ·subst hx;dsimp only;rw [List.lookup_cons_self (b:=k),Option.map_some]
   split
   ·rw [List.lookup_cons_self]
   ·rw [List.lookup_cons_self]
  ·have hb:(x == n)=false:=beq_eq_false_iff_ne.mpr hx;dsimp only;rw [List.lookup_cons (k:=n) (b:=k),hb];dsimp only;rw [<- ih]
   split
   ·rw [List.lookup_cons,hb]
   ·rw [List.lookup_cons,hb]
structure LcZ where
 L:Addr
 cl:List (Str × Addr)
 ex:List Addr
 s₀:Shared
 H₀:Hp
noncomputable def lcCx (X:Cx) (scope:Scope) (own:List Str) (fv:List Nat) (z:LcZ):Cx where
 prog:=X.prog
 w:=X.w
 K:=X.K
 mg:=X.mg
 base:=X.base
 A:=X.A
 N:=own++fv.map fun i=>X.N.getD i Str.empty
 s₀:=z.s₀
 H₀:=z.H₀
 env:=compEnvC scope z.cl z.L X.env
 outer:=X.stack
 stack:=X.stack
 ex:=z.ex
 fn:=fun _=>false
 calm:=X.calm
 pn:=[]
 xe:=noX
structure LcScope (X:Cx) (scope:Scope) (own:List Str) (fv:List Nat):Prop where
 kind:scope.kind=.function
 nocell:∀ y ∈ scope.names,y.2 ≠ .cell
 names:∀ y ∈ scope.names,y.2=.local->scope.names.lookup y.1=some .local
 free:∀ y ∈ scope.names,y.2=.free->X.env.kindOf y.1=some .cell\/X.env.kindOf y.1=some .free
 nd:(own++fv.map fun i=>X.N.getD i Str.empty).Nodup
 fvs:∀ i ∈ fv,i<X.N.length/\scope.names.lookup (X.N.getD i Str.empty)=some .free
noncomputable def qHK (own:List Str) (fv:List Nat) (σ:St):St:=(own.map fun _=>none)++fv.map fun i=>(σ[i]?).join
theorem qLH {prog:Program} {w:World} {A:Around} {R:Result->Shared->Prop} {s:Shared} {elt target iter:Expr} {ifs:List Expr} {scope:Scope} {pos:Pos} {it acc:Value} {env:Env} (I:Nat->Shared->Prop)
  (turn:∀ n s,I n s->wpAny (model prog w) A (pyNext it) (fun r s₁=>match r with
   | none=>R (.ok .next) s₁
   | some v=>wpAny (model prog w) A (letOwnedTupleGo target it v) (fun _ s₁=>wpAny (model prog w) A (assign target env v) (fun _ s₂=>
     wpAny (model prog w) A (forIn ifs true fun c r=>if r=true then do let ok <- isTrue c env (eval c env);pure (ForInStep.yield ok) else pure (ForInStep.yield r)) (fun ok s₃=>
      if ok=true then wpAny (model prog w) A (eval elt env) (fun x s₄=>
       wpAny (model prog w) A (call (.builtin "list.append") [acc,x]) (fun _ s₅=>∃ m,m<n/\I m s₅) noX s₄) noX s₃
      else ∃ m,m<n/\I m s₃) noX s₂) noX s₁) noX s₁) noX s)
  (n:Nat) (h:I n s) :
  codeAny (model prog w) A (.compLoop (.ListComp elt [⟨target,iter,ifs,0⟩] scope pos) 0 it acc env) R s:=by
 refine codeAny_loop rfl I (fun n s hI=>?_) n h;show wpAny _ A ((compTurn (.ListComp elt [⟨target,iter,ifs,0⟩] scope pos) 0 it acc env).onRaise (fun x=>do noteFrame x env;theTreesLotGoes x)) _ _ s
 refine wpAny_noted ?_;rw [compTurn_list];refine wpAny_bind (wpAny_standAt (wpAny_bind (wpAny_mono (turn n s hI) (fun r s₁ h₁=>?_) fun _ _ h'=>h'.elim)));cases r with
 | none=>exact wpAny_pure h₁
 | some v=>
  refine wpAny_bind (wpAny_mono h₁ (fun _ s₁ h₁=>?_) fun _ _ h'=>h'.elim);refine wpAny_bind (wpAny_mono h₁ (fun _ s₂ h₂=>wpAny_bind (wpAny_mono h₂ (fun ok s₃ h₃=>?_) fun _ _ h'=>h'.elim)) fun _ _ h'=>h'.elim);cases ok with
  | false=>exact wpAny_pure ⟨rfl,h₃⟩
  | true=>
   exact wpAny_bind (wpAny_bind (wpAny_mono h₃ (fun x s₄ h₄=>wpAny_bind (wpAny_mono h₄ (fun _ s₅ h₅=>wpAny_pure (wpAny_pure ⟨rfl,h₅⟩)) fun _ _ h'=>h'.elim)) fun _ _ h'=>h'.elim))
section
variable {X:Cx} {Ab:List (Addr × Obj)} {σ:St} {H:Hp} {s:Shared}
theorem Inv.other {h':Heap} {L:Addr} {n:Nat} (I:Inv X Ab σ H s) (hb:X.s₀.heap.objs.size<=L) (h0:H L=none) (h1:L ≠ X.env.locals) (h2:∀ x c,X.env.cells.lookup x=some c->c ≠ L) (h3:∀ p ∈ X.pn++Ab,p.1 ≠ L)
  (k:Heap.SameBut L s.heap h'):Inv X Ab σ H { s with heap:=h' }:=
 I.turned (t':=s.toks) (fun b o hb e=>(k.2 b hb).trans e) h0 h1 (.inr hb) h2 h3
theorem qW6 {scope:Scope} {own:List Str} {fv:List Nat} {fp:List Addr} (I:Inv X Ab σ H s) (S:LcScope X scope own fv) (hf:∀ b ∈ fp,FpOk X Ab H b) (hsz:∀ b ∈ fp,b<s.heap.objs.size) :
  (lcCx X scope own fv ⟨s.heap.objs.size,qFO X.env scope.names [],fp,s,H⟩).Ok:=by
 have hfr:∀ x,(x,NameKind.free) ∈ scope.names->∃ c,X.env.cells.lookup x=some c:=fun x hx=>I.ok.has x (S.free _ hx rfl);have sub:=qE7 (env:=X.env) (names:=scope.names) (acc:=[]) hfr (fun x c z=>by simp at z)
 refine ⟨I.ok.mod,S.kind,I.ok.glob,I.ok.blt,Nat.le_refl _,fun x y c h1 h2=>I.ok.inj x y c (sub _ _ h1) (sub _ _ h2),fun x hx=>?_,fun x c hx=>?_,I.ok.hd,I.ok.frames,.inl rfl,fun b hb=>⟨?_,fun x c e=>?_⟩,I.bs,Nat.le_trans I.ok.bsz I.sz,fun b o e hb=>?_,fun b hb hb'=>?_,I.stack,I.stkFree⟩
 ·refine qE8 (.inl ?_);have hx':(relabel scope X.env).names.lookup x=some .cell\/(relabel scope X.env).names.lookup x=some .free:=hx;unfold relabel at hx';rw [qD3] at hx';cases e:scope.names.lookup x with
  | none=>rw [e] at hx';simp at hx'
  | some k=>
   have hm:=PySem.mem_of_lookup e;have nc:=S.nocell _ hm;rw [e] at hx';simp only [Option.map_some,Option.some.injEq] at hx';cases k with
   | free=>exact hm
   | cell=>exact absurd rfl nc
   | _=>simp at hx'
 ·cases hx
 ·exact Nat.ne_of_lt (hsz b hb)
 ·exact (hf b hb).2.2.2.2.1 x c (sub _ _ e)
 ·rcases (hf b hb).2.2.2.1 with z | z
  ·exact I.ok.noex b o e z
  ·exact absurd (Nat.lt_of_lt_of_le (Heap.lt_size (I.ok.bs b o e).1) z) (Nat.lt_irrefl _)
 ·rcases List.mem_cons.mp (I.stkSub b hb') with z | z
  ·exact (hf b hb).2.1 z
  ·exact (hf b hb).2.2.1 z
theorem qS3 {scope:Scope} {own:List Str} {fv:List Nat} {fp:List Addr} {h₁:Heap} {tk:Nat} (I:Inv X Ab σ H s) (S:LcScope X scope own fv) (hf:∀ b ∈ fp,FpOk X Ab H b) (hsz:∀ b ∈ fp,b<s.heap.objs.size)
  (hns:h₁.Ns s.heap.objs.size (fun _=>none)) (hk:∀ b o,s.heap.get? b=some o->h₁.get? b=some o) :
  Inv (lcCx X scope own fv ⟨s.heap.objs.size,qFO X.env scope.names [],fp,s,H⟩) [] (qHK own fv σ) H { s with heap:=h₁,toks:=tk }:=by
 have hfr:∀ x,(x,NameKind.free) ∈ scope.names->∃ c,X.env.cells.lookup x=some c:=fun x hx=>I.ok.has x (S.free _ hx rfl);have sub:=qE7 (env:=X.env) (names:=scope.names) (acc:=[]) hfr (fun x c z=>by simp at z)
 refine ⟨qW6 I S hf hsz,rfl,I.bare,Un.kept hk,⟨_,hns,fun i x v h1 h2 h3=>?_⟩,fun x c e=>?_,I.hok.fresh (Nat.le_refl _),fun x c e=>I.freeC x c (sub _ _ e),fun p hp=>absurd (show p ∈ ([]:List (Addr × Obj)) from hp) (by simp),I.hok.kept hk,?_⟩
 ·have h1:(own++fv.map fun i=>X.N.getD i Str.empty)[i]?=some x:=h1;unfold qHK at h2;have hi:own.length<=i:=by
   apply Nat.le_of_not_lt;intro hi;rw [List.getElem?_append_left (by simpa using hi),List.getElem?_map] at h2
   cases e:own[i]? with
   | none=>rw [e] at h2;cases h2
   | some z=>rw [e] at h2;cases h2
  rw [List.getElem?_append_right (by simpa using hi),List.length_map,List.getElem?_map] at h2
  rw [List.getElem?_append_right hi,List.getElem?_map] at h1;cases e:fv[i - own.length]? with
  | none=>rw [e] at h1;cases h1
  | some j=>
   rw [e] at h1 h2;have hj:=S.fvs j (List.mem_of_getElem? e);have h1:X.N.getD j Str.empty=x:=Option.some.inj h1;have h2:(σ[j]?).join=some v:=Option.some.inj h2;have h2':σ[j]?=some (some v):=by
    cases q:σ[j]? with
    | none=>rw [q] at h2;cases h2
    | some y=>rw [q] at h2;exact congrArg some h2
   have hx:X.N[j]?=some x:=by
    rw [List.getD_eq_getElem?_getD] at h1;rw [List.getElem?_eq_getElem hj.1] at h1 ⊢;exact congrArg some h1
   have hlk:scope.names.lookup x=some .free:=h1 ▸ hj.2;have hmem:=PySem.mem_of_lookup hlk;obtain ⟨m,hn,hl⟩:=id I.loc;have hkd:=S.free _ hmem rfl;obtain ⟨u,ru,lk⟩:=hl j x v hx h2' (by
    rcases hkd with z | z
    ·exact .inr (.inl z)
    ·exact .inr (.inr z))
   refine ⟨u,ru,?_⟩;rcases lk with ⟨z,_⟩ | ⟨_,c,e1,z⟩
   ·rcases hkd with y | y
    ·have y':X.env.kindOf x=some .cell:=y;rw [z] at y';cases y'
    ·have y':X.env.kindOf x=some .free:=y;rw [z] at y';cases y'
   ·obtain ⟨c',e2⟩:=qE8 (env:=X.env) (names:=scope.names) (acc:=[]) (x:=x) (.inl hmem);have e3:=sub _ _ e2;rw [e1] at e3;cases e3;obtain ⟨o,ho,hd⟩:=z;refine .inr ⟨?_,c,e2,o,hk _ _ ho,hd⟩;show (relabel scope X.env).names.lookup x=some .cell\/(relabel scope X.env).names.lookup x=some .free;unfold relabel;rw [qD3,hlk,Option.map_some]
    split
    ·exact .inl rfl
    ·exact .inr rfl
 ·obtain ⟨v,o,ho,hd⟩:=I.cell x c (sub _ _ e);exact ⟨v,o,hk _ _ ho,hd⟩
 ·unfold qHK;show _=(own++fv.map fun i=>X.N.getD i Str.empty).length;rw [List.length_append,List.length_append,List.length_map,List.length_map,List.length_map]
theorem qUF {scope:Scope} {own:List Str} {fv:List Nat} {fp:List Addr} {pins':List (Addr × Obj)} {σ':St} {H':Hp} {s':Shared} {cl:List (Str × Addr)} (I:Inv X Ab σ H s) (hf:∀ b ∈ fp,FpOk X Ab H b)
  (J:Inv (lcCx X scope own fv ⟨s.heap.objs.size,cl,fp,s,H⟩) pins' σ' H' s'):Inv X Ab σ H' s':=
 I.call' (ch:=fp) J.os J.base J.hok J.bare fun b hb=>⟨(hf b hb).2.2.2.1,(hf b hb).2.1,(hf b hb).2.2.2.2.1,(hf b hb).2.2.2.2.2⟩
end
def PTs (X:Cx) (ifs:List Expr) (t:TT):Prop:=
 ∀ (Ab:List (Addr × Obj)) (s:Shared) (σ:St) (H:Hp) (Q:Bool->Hp->Prop),Inv X Ab σ H s->t σ H Q->
  wpAny (model X.prog X.w) X.A (forIn ifs true fun c r=>if r=true then do let ok <- isTrue c X.env (eval c X.env);pure (ForInStep.yield ok) else pure (ForInStep.yield r)) (TP X Ab σ Q) X.xe s
def qX3:TT:=fun _ H Q=>Q true H
theorem qB8 {X:Cx}:PTs X [] qX3:=fun Ab s σ H Q I h=>wpAny_tests_nil ⟨H,I,h⟩
theorem qEN {X:Cx} {c:Expr} {t:TT} (h:PT X c t):PTs X [c] t:=fun Ab s σ H Q I hq=>wpAny_tests_one (h Ab s σ H Q I hq)
def qW7 (own:List Str) (fv:List Nat) (wi:TI) (g:TG) (tc:TT) (te:TE) (K:Addr->Hp->Prop):St->Hp->Prop:=fun σ H=>wi σ H fun J H1=>∀ p,H1 p=none->
 ∃ W:Nat->Nat->St->Hp->Prop,(∃ m,W 0 m (qHK own fv σ) (Ah H1 p (.lst [])))/\∀ i m σ H,W i m σ H->
  (J.stop i H/\K p H)\/(J.go i H/\∃ N:St->Hp->Prop,(∀ σ' H',N σ' H'->∃ m',m'<m/\W (i+1) m' σ' H')/\∀ x H',J.yld i H x H'->g x σ H' fun σ2 H2=>tc σ2 H2 fun b H3=>
   if b=true then te σ2 H3 fun y H4=>∃ ys,H4 p=some (.lst ys)/\ys.length<sizeLine/\N σ2 (Ah H4 p (.lst (ys++[y])))
   else N σ2 H3)
def tLc (own:List Str) (fv:List Nat) (wi:TI) (g:TG) (tc:TT) (te:TE):TE:=fun σ H Q=>qW7 own fv wi g tc te (fun p H'=>Q (.ref p) H') σ H
section
variable {X:Cx} {tg iter elt:Expr} {ifs:List Expr} {scope:Scope} {pos:Pos} {own:List Str} {fv:List Nat} {wi:TI} {g:TG} {tc:TT} {te:TE}
theorem qPX {Ab:List (Addr × Obj)} {s:Shared} {σ:St} {H:Hp} {K:Addr->Hp->Prop} {use:Option (Value->Sem Unit)} {Q:Value->Shared->Prop} {E:Value->Shared->Prop} (hc:X.calm=true) (S:LcScope X scope own fv) (hi:PI X tg iter wi)
  (hg:∀ z,PG (lcCx X scope own fv z) tg g) (ht:∀ z,PTs (lcCx X scope own fv z) ifs tc) (he:∀ z,PE (lcCx X scope own fv z) elt te)
  (I:Inv X Ab σ H s) (h:qW7 own fv wi g tc te K σ H) (hxe:∀ e s,X.xe e s->E e s)
  (fin:∀ (p:Addr) (L:Addr) (H':Hp) (s':Shared) (m:Str->Option Value),Inv X Ab σ H' s'->K p H'->s'.heap.Ns L m->X.s₀.heap.objs.size<=L->H' L=none->L ≠ X.env.locals->(∀ x c,X.env.cells.lookup x=some c->c ≠ L)->(∀ q ∈ X.pn++Ab,q.1 ≠ L)->
   compPost (model X.prog X.w) X.A E use Q (.ref p) L (.ok .next) s') (hs:∀ x,foldedSetIterable iter X.env x=pure x:=by intro _;rfl) :
  wpAny (model X.prog X.w) X.A (comprehension (.ListComp elt [⟨tg,iter,ifs,0⟩] scope pos) scope X.env (firstIterPos [⟨tg,iter,ifs,0⟩] pos) (newList []) false (eval iter X.env) use) Q E s:=by
 have hfr:∀ x,(x,NameKind.free) ∈ scope.names->∃ c,X.env.cells.lookup x=some c:=fun x hx=>I.ok.has x (S.free _ hx rfl);refine wpAny_comprehension_free rfl hs (qG4 hfr) S.kind S.names (wpAny_mono (hi Ab s σ H _ I h) (fun v s1 h1=>wpAny_mono h1 (fun itv s2 h2=>?_) hxe) hxe);obtain ⟨it,fp,tn,J,H2,e,I2,T,st2,f2,q2⟩:=h2;subst e
 -- the list
 refine wpAny_newObj_type ?_;have fresh2:H2 s2.heap.objs.size=none:=I2.hok.fresh (Nat.le_refl _);have I3:Inv X Ab σ (Ah H2 s2.heap.objs.size (.lst [])) { s2 with heap:=s2.heap.push { cls:=.type "list",dict:=none,data:=.seq ([]:List Value).toArray } }:=
  I2.laid (t':=s2.toks) (fun b u e=>Heap.get?_push_of_some _ e) (Nat.le_refl _) ⟨Nat.zero_le _,[],0,.nil,Heap.get?_push_size _ rfl⟩
 obtain ⟨W,⟨m0,w0⟩,turn⟩:=q2 s2.heap.objs.size fresh2;have lt2:∀ b ∈ fp,b<s2.heap.objs.size:=fun b hb=>by
  obtain ⟨o,e,_⟩:=T.obj 0 _ st2 b hb;exact Heap.lt_size e
 have f3:∀ b ∈ fp,FpOk X Ab (Ah H2 s2.heap.objs.size (.lst [])) b:=fun b hb=>⟨by rw [qA8 (Nat.ne_of_lt (lt2 b hb))];exact (f2 b hb).1,(f2 b hb).2⟩
 generalize hp:s2.heap.objs.size=p at *;generalize hH3:Ah H2 p (.lst [])=H3 at *;have st3:tn 0 (s2.heap.push { cls:=.type "list",dict:=none,data:=.seq ([]:List Value).toArray }):=T.keep _ _ _ st2 fun b _ o e=>Heap.get?_push_of_some _ e;have lt3:∀ b ∈ fp,b<(s2.heap.push { cls:=.type "list",dict:=none,data:=.seq ([]:List Value).toArray }).objs.size:=fun b hb=>by
  rw [Heap.size_push];have:=lt2 b hb;rw [hp];exact Nat.lt_succ_of_lt this
 generalize hs3:({ s2 with heap:=s2.heap.push { cls:=.type "list",dict:=none,data:=.seq ([]:List Value).toArray } }:Shared)=s3 at *;have st3':tn 0 s3.heap:=by rw [<- hs3];exact st3
 have lt3':∀ b ∈ fp,b<s3.heap.objs.size:=by rw [<- hs3];exact lt3
 -- the block's frame
 refine wpAny_newFunctionEnv S.nocell (by intro y hy;simp at hy) (fun h₁ hns₁ hsb₁=>?_) S.kind
 have keep1:∀ b o,s3.heap.get? b=some o->h₁.get? b=some o:=fun b o e=>hsb₁.extBut b o (Nat.ne_of_lt (Heap.lt_size e)) (Heap.get?_push_of_some _ e);have J0:Inv (lcCx X scope own fv ⟨s3.heap.objs.size,qFO X.env scope.names [],fp,s3,H3⟩) [] (qHK own fv σ) H3 { s3 with heap:=h₁,toks:=s3.toks+([]:List (Str × Value)).length }:=qS3 I3 S f3 lt3' hns₁ keep1;have cOk:=qW6 I3 S f3 lt3';generalize hz:(⟨s3.heap.objs.size,qFO X.env scope.names [],fp,s3,H3⟩:LcZ)=z at *;have st4:tn 0 h₁:=T.keep _ _ _ st3' fun b _ o e=>keep1 b o e;have fr4:∀ b ∈ fp,H3 b=none:=fun b hb=>(f3 b hb).1;have stat:∀ {H':Hp},(∀ b ∈ fp,H' b=none)->∀ b ∈ fp,FpOk (lcCx X scope own fv z) [] H' b:=fun hn b hb=>by
  subst hz;refine ⟨hn b hb,(cOk.exf b hb).1,cOk.exfs b hb,.inl hb,(cOk.exf b hb).2,fun q hq=>absurd (show q ∈ ([]:List (Addr × Obj)) from hq) (by simp)⟩
 have envE:({ newEnv scope s3.heap.objs.size X.env.globals (qFO X.env scope.names []) X.env.qual none .none (some X.env) builtinsNs with scope:=relabel scope X.env }:Env)=(lcCx X scope own fv z).env:=by
  subst hz
  rfl
 have loop:∀ sA:Shared,sA={ s3 with heap:=h₁,toks:=s3.toks+([]:List (Str × Value)).length }->codeAny (model X.prog X.w) X.A (.compLoop (.ListComp elt [⟨tg,iter,ifs,0⟩] scope pos) 0 (.ref it) (.ref p) (lcCx X scope own fv z).env)
   (compPost (model X.prog X.w) X.A E use Q (.ref p) s3.heap.objs.size) sA:=by
  rintro sA rfl;refine qLH (fun n s'=>∃ i σ' H',Inv (lcCx X scope own fv z) [] σ' H' s'/\tn i s'.heap/\(∀ b ∈ fp,H' b=none)/\W i n σ' H') ?_ m0 ⟨0,_,H3,J0,st4,fr4,w0⟩;rintro n s4 ⟨i,σ4,H4,I4,st4,fr4,w4⟩;rcases turn i n σ4 H4 w4 with ⟨stop,qn⟩ | ⟨go,Nx,hNx,step⟩
  ·refine thn (T.done (lcCx X scope own fv z) rfl rfl rfl hc i [] s4 σ4 H4 noX I4 (stat fr4) st4 stop) fun r s5 ⟨hr,I5⟩=>?_;subst hr;subst hz;have I6:Inv X Ab σ H4 s5:=qUF I3 f3 I5;obtain ⟨m,hn,_⟩:=id I5.loc;have fpL:=I3.fpOk (H':=H4) (b:=s3.heap.objs.size) (Nat.le_refl _) I5.free;refine fin p s3.heap.objs.size H4 s5 m I6 qn hn I3.sz fpL.1 fpL.2.1 fpL.2.2.2.2.1 fpL.2.2.2.2.2
  ·refine thn (T.item (lcCx X scope own fv z) rfl rfl rfl hc i [] s4 σ4 H4 noX I4 (stat fr4) st4 go) fun r s5 ⟨u,hr,h5⟩=>?_;subst hr;refine thn h5 fun _ s6 ⟨x,H6,I6,r6,y6,st6,fr6⟩=>?_;have I6':=I6.pinned (stat fr6) (T.obj _ _ st6);have again:∀ {σ7:St} {H7:Hp} {s7:Shared} {m':Nat},m'<n->Inv (lcCx X scope own fv z) ([]++qKL fp s6.heap) σ7 H7 s7->W (i+1) m' σ7 H7->
     ∃ m,m<n/\∃ i σ' H',Inv (lcCx X scope own fv z) [] σ' H' s7/\tn i s7.heap/\(∀ b ∈ fp,H' b=none)/\W i m σ' H':=fun {σ7 H7 s7 m'} hm I7 w7=>by
    refine ⟨m',hm,i+1,σ7,H7,I7.unpinned,T.keep _ _ _ st6 fun b hb o e=>(I7.pin (b,o) (List.mem_append_right _ (List.mem_append_right _ (qEE hb e)))).1,fun b hb=>?_,w7⟩;obtain ⟨o,e,d⟩:=T.obj _ _ st6 b hb;exact (I7.pin (b,o) (List.mem_append_right _ (List.mem_append_right _ (qEE hb e)))).2.1
   refine thn (hg z _ s6 σ4 H6 x u _ I6' r6 (step x H6 y6)) fun _ s7 ⟨σ7,H7,I7,q7⟩=>?_;refine thn (ht z _ s7 σ7 H7 _ I7 q7) fun b s8 ⟨H8,I8,q8⟩=>?_;cases b with
   | false=>
    obtain ⟨m',hm,w8⟩:=hNx _ _ q8;exact again hm I8 w8
   | true=>
    refine thn (he z _ s8 σ7 H8 _ I8 q8) fun v s9 ⟨y,H9,I9,r9,ys,ep,hl,w9⟩=>?_;refine thn (qBS (X:=lcCx X scope own fv z) _ s9 σ7 H9 (.ref p) [y] (.ref p) [v] (fun _ H'=>Nx σ7 H') I9 rfl (.cons r9 .nil) ⟨p,ys,y,rfl,rfl,ep,hl,w9⟩) fun _ s10 ⟨_,H10,I10,_,q10⟩=>?_;obtain ⟨m',hm,w10⟩:=hNx _ _ q10;exact again hm I10 w10
 rw [envE];exact codeAny_compStart_list (loop _ rfl) (T.self _ _ _ _ _ st4 (loop _ rfl))
theorem qD7 (hc:X.calm=true) (S:LcScope X scope own fv) (hi:PI X tg iter wi) (hg:∀ z,PG (lcCx X scope own fv z) tg g) (ht:∀ z,PTs (lcCx X scope own fv z) ifs tc) (he:∀ z,PE (lcCx X scope own fv z) elt te)
  (hs:∀ x,foldedSetIterable iter X.env x=pure x:=by intro _;rfl):PE X (.ListComp elt [⟨tg,iter,ifs,0⟩] scope pos) (tLc own fv wi g tc te):=by
 intro Ab s σ H Q I h;rw [eval_ListComp];refine qPX (use:=none) (K:=fun p H'=>Q (.ref p) H') hc S hi hg ht he I h (fun _ _ q=>q) (fun p L H' s' m I' q hn h1 h2 h3 h4 h5=>?_) hs;exact ⟨m,hn,fun h' hs'=>⟨.ref p,H',I'.other (n:=0) h1 h2 h3 h4 h5 hs',rfl,q⟩⟩
theorem qKK {i:Nat} {x:Str} {pos' spos:Pos} (hN:X.N.Nodup) (hx:X.N[i]?=some x) (hl:X.env.scope.names.lookup x=some .local) (hc:X.calm=true) (S:LcScope X scope own fv) (hi:PI X tg iter wi) (hg:∀ z,PG (lcCx X scope own fv z) tg g)
  (ht:∀ z,PTs (lcCx X scope own fv z) ifs tc) (he:∀ z,PE (lcCx X scope own fv z) elt te) (hsw:swapsWith (.ListComp elt [⟨tg,iter,ifs,0⟩] scope pos) (some (.Name x pos')) spos.line X.env=pure true)
  (hs:∀ x,foldedSetIterable iter X.env x=pure x:=by intro _;rfl):PS X (.Assign [.Name x pos'] (.ListComp elt [⟨tg,iter,ifs,0⟩] scope pos) spos) (tAsg (tLc own fv wi g tc te) (qQE i)):=by
 intro Ab s σ H D I h;rw [exec_Assign_Name_used _ _ _ _ hsw];refine wpAny_bind (wpAny_standAt (wpAny_bind ?_));show wpAny _ X.A (do let _ <- comprehension (.ListComp elt [⟨tg,iter,ifs,0⟩] scope pos) scope X.env _ (newList []) false (eval iter X.env) (some (assign (.Name x pos') X.env))) _ _ s
 refine wpAny_bind (wpAny_mono (qPX (use:=some (assign (.Name x pos') X.env)) (K:=fun p H'=>D.nx (σ.set i (some (.ref p))) H') (Q:=fun _ s'=>SP X Ab D .next s') (E:=X.xe) hc S hi hg ht he I h (fun _ _ q=>q) (fun p L H' s' m I' q hn h1 h2 h3 h4 h5=>?_) hs)
  (fun _ s' hq=>wpAny_pure (wpAny_pure hq)) fun _ _ e=>e)
 show wpAny _ X.A (assign (.Name x pos') X.env (.ref p)) _ _ _;refine wpAny_assign_Name (qKB (v:=.ref p) I' hN hx (.inl hl) rfl (fun s2 I2 ⟨a,hsb,ha⟩=>?_) (.inr hl));have hLa:L ≠ a:=by
  rcases ha with z | z
  ·rw [z];exact h3
  ·exact fun y=>h4 x a z y.symm
 exact ⟨m,hn.sameBut hsb hLa,fun h' hs'=>⟨_,H',I2.other (n:=0) h1 h2 h3 h4 h5 hs',q⟩⟩
end
abbrev LcG (I:It) (g:TG) (tc:TT) (te:TE) (Kf:Hp->Prop) (σ0:St) (H0:Hp) (p:Addr):Prop:=∃ W:Nat->Nat->St->Hp->Prop,(∃ m,W 0 m σ0 H0)/\∀ i m σ H,W i m σ H->(I.stop i H/\Kf H)\/(I.go i H/\∃ N:St->Hp->Prop,(∀ σ' H',N σ' H'->∃ m',m'<m/\W (i+1) m' σ' H')/\∀ x H',I.yld i H x H'->g x σ H' fun σ2 H2=>tc σ2 H2 fun b H3=>if b=true then te σ2 H3 fun y H4=>∃ ys,H4 p=some (.lst ys)/\ys.length<sizeLine/\N σ2 (Ah H4 p (.lst (ys++[y]))) else N σ2 H3)
theorem qCG {lo:Int} {n:Nat} {g:TG} {tc:TT} {te:TE} {Kf:Hp->Prop} {σ0:St} {H0:Hp} {p:Addr} (Pv:Nat->St->Hp->Prop) (h0:Pv 0 σ0 H0)
  (hs:∀ i σ H,i<n->Pv i σ H->g (.int (lo+i)) σ H fun σ2 H2=>tc σ2 H2 fun b H3=>if b=true then te σ2 H3 fun y H4=>∃ ys,H4 p=some (.lst ys)/\ys.length<sizeLine/\Pv (i+1) σ2 (Ah H4 p (.lst (ys++[y]))) else Pv (i+1) σ2 H3)
  (hd:∀ σ H,Pv n σ H->Kf H) :
  LcG (Itr lo n) g tc te Kf σ0 H0 p:=by
 refine ⟨fun i m σ H=>m=n - i/\i<=n/\Pv i σ H,⟨n,by simp,Nat.zero_le _,h0⟩,?_⟩
 rintro i m σ H ⟨rfl,hi,q⟩;by_cases hlt:i<n
 ·refine .inr ⟨hlt,Pv (i+1),fun σ' H' p'=>⟨n - (i+1),by omega,rfl,hlt,p'⟩,fun x H' y=>?_⟩
  obtain ⟨e,y⟩:=y;subst e y;exact hs i σ _ hlt q
 ·have e:i=n:=by omega
  subst e;exact .inl ⟨Nat.le_refl _,hd σ H q⟩
theorem qE4 {K:PySem.W.Frag} {a:Addr} {xs:List V} {g:TG} {tc:TT} {te:TE} {Kf:Hp->Prop} {σ0:St} {H0:Hp} {p:Addr} (Pv:Nat->St->Hp->Prop) (h0:Pv 0 σ0 H0) (hl:∀ i σ H,i<=xs.length->Pv i σ H->SqL K H a xs)
  (hs:∀ i x σ H,xs[i]?=some x->Pv i σ H->g x σ H fun σ2 H2=>tc σ2 H2 fun b H3=>if b=true then te σ2 H3 fun y H4=>∃ ys,H4 p=some (.lst ys)/\ys.length<sizeLine/\Pv (i+1) σ2 (Ah H4 p (.lst (ys++[y]))) else Pv (i+1) σ2 H3)
  (hd:∀ σ H,Pv xs.length σ H->Kf H) :
  LcG (Itl K a) g tc te Kf σ0 H0 p:=by
 refine ⟨fun i m σ H=>m=xs.length - i/\i<=xs.length/\Pv i σ H,⟨xs.length,by simp,Nat.zero_le _,h0⟩,?_⟩
 rintro i m σ H ⟨rfl,hi,q⟩;have hq:=hl i σ H hi q;by_cases hlt:i<xs.length
 ·refine .inr ⟨⟨xs,xs[i],hq,by simp [hlt]⟩,Pv (i+1),fun σ' H' p'=>⟨xs.length - (i+1),by omega,rfl,hlt,p'⟩,fun x H' y=>?_⟩
  obtain ⟨e,y⟩:=y;subst e;exact hs i x σ _ (y xs hq) q
 ·have e:i=xs.length:=by omega
  subst e;exact .inl ⟨⟨xs,hq,Nat.le_refl _⟩,hd σ H q⟩
theorem qIY {K:PySem.W.Frag} {a:Addr} {xs:List V} {g:TG} {tc:TT} {te:TE} {Kf:Hp->Prop} {σ0:St} {H0:Hp} {p:Addr} (Pv:Nat->St->Hp->Prop) (h0:Pv 0 σ0 H0) (hl:∀ i σ H,i<=xs.length->Pv i σ H->SqT K H a xs)
  (hs:∀ i x σ H,xs[i]?=some x->Pv i σ H->g x σ H fun σ2 H2=>tc σ2 H2 fun b H3=>if b=true then te σ2 H3 fun y H4=>∃ ys,H4 p=some (.lst ys)/\ys.length<sizeLine/\Pv (i+1) σ2 (Ah H4 p (.lst (ys++[y]))) else Pv (i+1) σ2 H3)
  (hd:∀ σ H,Pv xs.length σ H->Kf H) :
  LcG (Itt K a) g tc te Kf σ0 H0 p:=by
 refine ⟨fun i m σ H=>m=xs.length - i/\i<=xs.length/\Pv i σ H,⟨xs.length,by simp,Nat.zero_le _,h0⟩,?_⟩
 rintro i m σ H ⟨rfl,hi,q⟩;have hq:=hl i σ H hi q;by_cases hlt:i<xs.length
 ·refine .inr ⟨⟨xs,xs[i],hq,by simp [hlt]⟩,Pv (i+1),fun σ' H' p'=>⟨xs.length - (i+1),by omega,rfl,hlt,p'⟩,fun x H' y=>?_⟩
  obtain ⟨e,y⟩:=y;subst e;exact hs i x σ _ (y xs hq) q
 ·have e:i=xs.length:=by omega
  subst e;exact .inl ⟨⟨xs,hq,Nat.le_refl _⟩,hd σ H q⟩
noncomputable def qPY (scope:Scope) (own:List Str) (fv:List Nat) (osc:Scope) (N:List Str):Bool:=
 decide (scope.kind=.function) && scope.names.all (fun y=>decide (y.2 ≠ .cell)) && scope.names.all (fun y=>decide (y.2 ≠ .local) || decide (scope.names.lookup y.1=some .local)) &&
 scope.names.all (fun y=>decide (y.2 ≠ .free) || (decide (osc.names.lookup y.1=some .cell) || decide (osc.names.lookup y.1=some .free))) && decide ((own++fv.map fun i=>N.getD i Str.empty).Nodup) &&
 fv.all fun i=>decide (i<N.length) && decide (scope.names.lookup (N.getD i Str.empty)=some .free)
theorem lcs {X:Cx} {scope:Scope} {own:List Str} {fv:List Nat} (h:qPY scope own fv X.env.scope X.N=true):LcScope X scope own fv:=by
 unfold qPY at h;simp only [Bool.and_eq_true,decide_eq_true_eq,List.all_eq_true,Bool.or_eq_true] at h;obtain ⟨⟨⟨⟨⟨h1,h2⟩,h3⟩,h4⟩,h5⟩,h6⟩:=h;exact ⟨h1,h2,fun y hy e=>(h3 y hy).resolve_left fun z=>z e,fun y hy e=>(h4 y hy).resolve_left fun z=>z e,h5,h6⟩
theorem qXR {N:List Str} (h:decide N.Nodup=true):N.Nodup:=of_decide_eq_true h
theorem qPG {X:Cx} {K:PySem.W.Frag} {es:List Expr} {k n:Nat} {t:TGs} {pos:Pos} (hK:X.K=K) (hc:X.calm=true) (h:PGs X es t) (hn:(assignEach es X.env).length=n) (hst:(assignEach es X.env).findIdx? (·.1)=none):PG X (.Tuple es k pos) (gTup K n t):=by
 subst hK hn;exact qN5 hc h rfl hst
theorem qPF {X:Cx} {K:PySem.W.Frag} {tg l:Expr} {tl:TE} (hK:X.K=K) (hl:PE X l tl):PI X tg l (iTup K tl):=by subst hK;exact qKM hl
theorem qRV {X:Cx} {K:PySem.W.Frag} {tg l:Expr} {tl:TE} (hK:X.K=K) (hl:PE X l tl):PI X tg l (qWL K tl):=by subst hK;exact qBV hl
theorem qMD {X:Cx} {K:PySem.W.Frag} (hK:X.K=K):IxR X (rIxT K):=by subst hK;exact qAW
theorem qW1 {X:Cx} {K:PySem.W.Frag} (hK:X.K=K):OpR X (compareOp .In) (rIn K false):=by subst hK;exact qHF
theorem qKR {X:Cx} {K:PySem.W.Frag} (hK:X.K=K):OpR X (compareOp .NotIn) (rIn K true):=by subst hK;exact qKQ
theorem qF0 {X:Cx} {K:PySem.W.Frag} (hK:X.K=K):qCV X (.type "tuple") (fun xs H Q=>∃ p ys,xs=[.ref p]/\((SqL K H p ys/\∀ l,H l=none->Q (.ref l) (Ah H l (.tup ys)))\/(SqT K H p ys/\Q (.ref p) H))):=by subst hK;exact qAN
end L2
namespace L2
open PySem PySem.Spec PyProof.Rows
theorem qK8 {xs:Array Nat} {j:Nat} (up:∀ a b,a<b->b<xs.size->xs.getD a j<xs.getD b j):∀ (fuel lo hi:Nat),lo<=hi->hi<=xs.size->hi - lo<=fuel->(∀ i,i<lo->xs.getD i j<j)->(∀ i,hi<=i->i<xs.size->j<=xs.getD i j)->
  SetTable.below.go xs j fuel lo hi<=xs.size/\(∀ i,i<SetTable.below.go xs j fuel lo hi->xs.getD i j<j)/\(∀ i,SetTable.below.go xs j fuel lo hi<=i->i<xs.size->j<=xs.getD i j)
 | 0,lo,hi,h1,h2,h3,a,b=>by
  have e:lo=hi:=by lia
  subst e;exact ⟨h2,a,b⟩
 | fuel+1,lo,hi,h1,h2,h3,a,b=>by
  unfold SetTable.below.go;by_cases hlt:lo<hi
  ·rw [if_pos hlt];dsimp only;have hm1:lo<=(lo+hi) / 2:=by lia
   have hm2:(lo+hi) / 2<hi:=by lia
   by_cases hc:xs.getD ((lo+hi) / 2) j<j
   ·rw [if_pos hc];refine qK8 up fuel _ _ (by lia) h2 (by lia) (fun i hi'=>?_) b
    by_cases e:i=(lo+hi) / 2
    ·rw [e];exact hc
    ·exact Nat.lt_trans (up i ((lo+hi) / 2) (by lia) (by lia)) hc
   ·rw [if_neg hc];refine qK8 up fuel _ _ (by lia) (by lia) (by lia) a (fun i hi' hs=>?_)
    by_cases e:i=(lo+hi) / 2
    ·rw [e];lia
    ·have:=up ((lo+hi) / 2) i (by lia) hs
     lia
  ·rw [if_neg hlt];have e:lo=hi:=by lia
   subst e;exact ⟨h2,a,b⟩
theorem qTO {xs:Array Nat} (j:Nat) (h:xs.toList.Pairwise (·<·)):∀ a b,a<b->b<xs.size->xs.getD a j<xs.getD b j:=fun a b hab hb=>by
 have:=List.pairwise_iff_getElem.mp h a b (by simpa using Nat.lt_trans hab hb) (by simpa using hb) hab
 rw [Array.getD_eq_getD_getElem?,Array.getD_eq_getD_getElem?,Array.getElem?_eq_getElem (Nat.lt_trans hab hb),Array.getElem?_eq_getElem hb];simpa using this
theorem qG6 {xs:Array Nat} {j:Nat} (h:xs.toList.Pairwise (·<·)):SetTable.below xs j<=xs.size/\(∀ i,i<SetTable.below xs j->xs.getD i j<j)/\(∀ i,SetTable.below xs j<=i->i<xs.size->j<=xs.getD i j):=by
 unfold SetTable.below;exact qK8 (qTO j h) xs.size 0 xs.size (Nat.zero_le _) (Nat.le_refl _) (by lia) (fun i hi=>absurd hi (by lia)) (fun i hi hs=>absurd hs (by lia))
theorem qBT {α:Type} (xs:Array α) (p:Nat) (x:α):(SetTable.insertAt xs p x).toList=xs.toList.take p++x::xs.toList.drop p:=by
 unfold SetTable.insertAt;simp [Array.toList_extract,List.take_of_length_le]
structure T7 (byText:Bool) (t:SetTable) (n:Nat):Prop where
 mask:t.mask=7
 dum:t.dummies=#[]
 plain:t.plain=true
 led:t.led=!byText
 size:t.place.size=n
 up:t.place.toList.Pairwise (·<·)
 le:∀ j ∈ t.place.toList,j<=7
section
variable {byText:Bool} {t:SetTable} {n:Nat}
theorem T7.slot (T:T7 byText t n) (j:Nat):(t.slot j=.empty/\j ∉ t.place.toList)\/(∃ i,t.slot j=.live i/\j ∈ t.place.toList):=by
 unfold SetTable.slot;dsimp only;have hd:SetTable.has t.dummies j=false:=by rw [T.dum];rfl
 obtain ⟨b1,b2,b3⟩:=qG6 (j:=j) T.up;by_cases hc:t.place[SetTable.below t.place j]?=some j
 ·rw [if_pos (by rw [hc];simp)]
  exact .inr ⟨_,rfl,by rw [<- Array.mem_def];exact Array.mem_of_getElem? hc⟩
 ·rw [if_neg (by simpa using hc),hd,if_neg (by simp)]
  refine .inl ⟨rfl,fun hm=>?_⟩;obtain ⟨i,hi,he⟩:=List.mem_iff_getElem.mp hm;have hi':i<t.place.size:=by simpa using hi
  have he':t.place.getD i j=j:=by
   rw [Array.getD_eq_getD_getElem?,Array.getElem?_eq_getElem hi'];simpa using he
  have h1:¬ i<SetTable.below t.place j:=fun z=>by have:=b2 i z;lia
  have h2:SetTable.below t.place j=i:=by
   apply Nat.le_antisymm (Nat.le_of_not_lt h1);apply Nat.le_of_not_lt;intro z;have:=b3 (SetTable.below t.place j) (Nat.le_refl _) (by lia)
   have:=qTO j T.up _ _ z hi'
   lia
  apply hc;rw [h2,Array.getElem?_eq_getElem hi'];simpa using he
def pr (i pt:Nat):SetTable.Probe:={ j:=i,more:=0,i:=i,perturb:=pt,dummy:=none }
theorem T7.adv (T:T7 byText t n) (i pt:Nat):t.advance (pr i pt)=pr ((i * 5+1+pt / 32) % 8) (pt / 32):=by
 unfold SetTable.advance pr SetTable.leap SetTable.runEnd;rw [T.mask];dsimp only;rw [if_neg (by lia),if_neg (by lia),Nat.sub_self]
theorem T7.go1 (T:T7 byText t n) (h:Int) (f i pt:Nat) :
  (SetTable.probe.go t (fun _=>h+1) h (f+1) (pr i pt)=some (.empty i none)/\i ∉ t.place.toList)\/
  (SetTable.probe.go t (fun _=>h+1) h (f+1) (pr i pt)=SetTable.probe.go t (fun _=>h+1) h f (pr ((i * 5+1+pt / 32) % 8) (pt / 32))/\i ∈ t.place.toList):=by
 rcases T.slot i with ⟨e,m⟩ | ⟨k,e,m⟩
 ·left
  refine ⟨?_,m⟩;unfold SetTable.probe.go;rw [show (pr i pt).j=i from rfl,e]
  rfl
 ·right
  refine ⟨?_,m⟩;rw [SetTable.probe.go];rw [show (pr i pt).j=i from rfl,e];dsimp only;rw [if_neg (by simp;lia),T.adv]
def F8 (i:Nat):Nat:=(i * 5+1) % 8
def F8n:Nat->Nat->Nat
 | 0,i=>i
 | m+1,i=>F8n m (F8 i)
theorem T7.go0 (T:T7 byText t n) (h:Int) (f:Nat):∀ (m i:Nat),(∃ j,SetTable.probe.go t (fun _=>h+1) h (m+f) (pr i 0)=some (.empty j none)/\j ∉ t.place.toList/\∃ q,q<m/\j=F8n q i)\/(∀ q,q<m->F8n q i ∈ t.place.toList)
 | 0,i=>.inr fun q hq=>absurd hq (by lia)
 | m+1,i=>by
  rcases T.go1 h (m+f) i 0 with ⟨e,z⟩ | ⟨e,z⟩
  ·exact .inl ⟨i,by rw [show m+1+f=m+f+1 by lia];exact e,z,0,by lia,rfl⟩
  ·rw [show m+1+f=m+f+1 by lia,e]
   have e2:(i * 5+1+0 / 32) % 8=F8 i:=by unfold F8;lia
   rw [e2];rcases T.go0 h f m (F8 i) with ⟨j,e3,z3,q,hq,e4⟩ | e3
   ·exact .inl ⟨j,e3,z3,q+1,by lia,e4⟩
   ·refine .inr fun q hq=>?_;cases q with
    | zero=>exact z
    | succ q=>exact e3 q (by lia)
theorem qX0:∀ i:_root_.Fin 8,∀ j:_root_.Fin 8,∃ q:_root_.Fin 8,F8n q.1 i.1=j.1:=by decide
theorem qWZ:∀ (q i:Nat),i<8->F8n q i<8
 | 0,i,h=>h
 | q+1,i,h=>qWZ q (F8 i) (Nat.mod_lt _ (by decide))
theorem T7.goK (T:T7 byText t n) (hn:n<=7) (h:Int) (f:Nat):∀ (k i pt:Nat),i<8->pt<32 ^ k->∃ j,SetTable.probe.go t (fun _=>h+1) h (k+(8+f)) (pr i pt)=some (.empty j none)/\j ∉ t.place.toList/\j<=7
 | 0,i,pt,hi,hp=>by
  have e:pt=0:=by lia
  subst e;rw [Nat.zero_add];rcases T.go0 h f 8 i with ⟨j,e,z,q,hq,e2⟩ | e
  ·exact ⟨j,e,z,by have:=qWZ q i hi;lia⟩
  ·exfalso
   have sub:[0,1,2,3,4,5,6,7] ⊆ t.place.toList:=fun j hj=>by
    have hj8:j<8:=by
     simp at hj
     lia
    obtain ⟨q,hq⟩:=qX0 ⟨i,hi⟩ ⟨j,hj8⟩;rw [<- show F8n q.1 i=j from hq];exact e q.1 q.2
   have:=List.Nodup.length_le_of_subset (by decide:[0,1,2,3,4,5,6,7].Nodup) sub
   have hs:=T.size;simp at this
   lia
 | k+1,i,pt,hi,hp=>by
  rw [show k+1+(8+f)=k+(8+f)+1 by lia]
  rcases T.go1 h (k+(8+f)) i pt with ⟨e,z⟩ | ⟨e,z⟩
  ·exact ⟨i,e,z,by lia⟩
  ·rw [e];refine T.goK hn h f k _ _ (Nat.mod_lt _ (by decide)) ?_
   rw [Nat.pow_succ] at hp
   lia
theorem T7.free (T:T7 byText t n) (hn:n<=7) (h:Int):∃ j,t.freeSlot h=some (j,false)/\j ∉ t.place.toList/\j<=7:=by
 have hb:SetTable.bits h<32 ^ 13:=by
  unfold SetTable.bits;have h1:0<=h % (2 ^ 64:Int):=Int.emod_nonneg _ (by decide)
  have h2:h % (2 ^ 64:Int)<2 ^ 64:=Int.emod_lt_of_pos _ (by decide)
  have:((2:Int) ^ 64)=18446744073709551616:=by decide
  rw [this] at h1 h2 ⊢;have h3:(32:Nat) ^ 13=36893488147419103232:=by decide
  lia
 obtain ⟨j,e,z,l⟩:=T.goK hn h 199 13 (SetTable.bits h % 8) (SetTable.bits h) (Nat.mod_lt _ (by decide)) hb
 refine ⟨j,?_,z,l⟩;have hst:t.probeStart h=pr (SetTable.bits h % 8) (SetTable.bits h):=by
  unfold SetTable.probeStart pr SetTable.runEnd;rw [T.mask];dsimp only;rw [if_neg (by lia),Nat.sub_self]
 unfold SetTable.freeSlot SetTable.probe;rw [hst,show 10 * SetTable.turns t.mask=13+(8+199) by rw [T.mask];rfl,e]
 rfl
theorem T7.lay (T:T7 byText t n) (hn:n<=3) {es:Array (Int × Value)} (he:es.size=n) (h:Int) (x:Value) :
  ∃ p t',layNew t es h x=(SetTable.insertAt es p (h,x),t',false,false)/\T7 byText t' (n+1)/\t'.tooFull=false/\p<=es.size:=by
 obtain ⟨j,e,z,l⟩:=T.free (by lia) h
 obtain ⟨b1,b2,b3⟩:=qG6 (j:=j) T.up;have hd:SetTable.has t.dummies j=false:=by rw [T.dum];rfl
 have tl:(SetTable.insertAt t.place (SetTable.below t.place j) j).toList=t.place.toList.take (SetTable.below t.place j)++j::t.place.toList.drop (SetTable.below t.place j):=qBT _ _ _;have sz:(SetTable.insertAt t.place (SetTable.below t.place j) j).size=n+1:=by
  rw [<- Array.length_toList,tl,List.length_append,List.length_cons,List.length_take,List.length_drop,Array.length_toList,T.size];rw [T.size] at b1
  lia
 have T':T7 byText { t with place:=SetTable.insertAt t.place (SetTable.below t.place j) j,dummies:=t.dummies } (n+1):=by
  refine ⟨T.mask,T.dum,T.plain,T.led,sz,?_,?_⟩
  ·show (SetTable.insertAt t.place (SetTable.below t.place j) j).toList.Pairwise (·<·);rw [tl];have geti:∀ i,i<t.place.size->t.place.getD i j=t.place.toList.getD i j:=fun i hi=>by
    rw [Array.getD_eq_getD_getElem?,List.getD_eq_getElem?_getD,Array.getElem?_toList]
   have lo:∀ a ∈ t.place.toList.take (SetTable.below t.place j),a<j:=fun a ha=>by
    obtain ⟨i,hi,hai⟩:=List.mem_iff_getElem.mp ha;rw [List.length_take,Array.length_toList] at hi;have hi1:i<SetTable.below t.place j:=by lia
    have hi2:i<t.place.size:=by lia
    have:=b2 i hi1;rw [Array.getD_eq_getD_getElem?,Array.getElem?_eq_getElem hi2] at this;rw [List.getElem_take] at hai;rw [<- hai];simpa using this
   have hi:∀ a ∈ t.place.toList.drop (SetTable.below t.place j),j<a:=fun a ha=>by
    have hm:a ∈ t.place.toList:=List.mem_of_mem_drop ha;obtain ⟨i,hi,hai⟩:=List.mem_iff_getElem.mp ha;rw [List.length_drop,Array.length_toList] at hi;have hi2:SetTable.below t.place j+i<t.place.size:=by lia
    have:=b3 _ (Nat.le_add_right _ i) hi2;rw [Array.getD_eq_getD_getElem?,Array.getElem?_eq_getElem hi2] at this;rw [List.getElem_drop] at hai;have h3:j<=a:=by
     rw [<- hai];simpa using this
    rcases Nat.lt_or_eq_of_le h3 with h4 | h4
    ·exact h4
    ·exact absurd (h4 ▸ hm) z
   refine List.pairwise_append.mpr ⟨T.up.sublist (List.take_sublist _ _),List.pairwise_cons.mpr ⟨hi,T.up.sublist (List.drop_sublist _ _)⟩,fun a ha b hb=>?_⟩;rcases List.mem_cons.mp hb with e | hb
   ·rw [e];exact lo a ha
   ·exact Nat.lt_trans (lo a ha) (hi b hb)
  ·show ∀ i ∈ (SetTable.insertAt t.place (SetTable.below t.place j) j).toList,i<=7;rw [tl];intro i hi;rcases List.mem_append.mp hi with hi | hi
   ·exact T.le i (List.mem_of_mem_take hi)
   ·rcases List.mem_cons.mp hi with e | hi
    ·lia
    ·exact T.le i (List.mem_of_mem_drop hi)
 have fits:SetTable.fits { t with place:=SetTable.insertAt t.place (SetTable.below t.place j) j,dummies:=t.dummies } (n+1)=true:=by
  unfold SetTable.fits SetTable.fill;dsimp only;rw [sz,T.dum,T.mask];have:((#[]:Array Nat)).size=0:=rfl;simp only [this,beq_self_eq_true,Bool.true_and,decide_eq_true_eq]
  lia
 have szE:(SetTable.insertAt es (SetTable.below t.place j) (h,x)).size=n+1:=by
  rw [<- Array.length_toList,qBT,List.length_append,List.length_cons,List.length_take,List.length_drop,Array.length_toList];rw [T.size] at b1
  lia
 refine ⟨SetTable.below t.place j,{ t with place:=SetTable.insertAt t.place (SetTable.below t.place j) j,dummies:=t.dummies },?_,T',?_,by rw [he,<- T.size];exact b1⟩
 ·unfold layNew;rw [e];dsimp only;unfold SetTable.put;rw [hd];dsimp only;rw [szE];unfold SetTable.orStandIn;simp only [Bool.false_eq_true,if_false];rw [fits];simp
 ·unfold SetTable.tooFull SetTable.fill;dsimp only;rw [sz,T.dum,T.mask];have:((#[]:Array Nat)).size=0:=rfl;rw [this];exact decide_eq_false (by lia)
end
end L2
namespace L2
open PySem PySem.Spec PyProof.Rows
theorem qJ4 {α:Type}:∀ (l:List α) (i:Nat) (h:i<l.length),(l[i]::l.eraseIdx i).Perm l
 | [],i,h=>absurd h (by simp)
 | a::r,0,h=>.refl _
 | a::r,i+1,h=>by
  have hi:i<r.length:=by simpa using h
  have ih:=qJ4 r i hi;show (r[i]::a::r.eraseIdx i).Perm (a::r);exact (List.Perm.swap _ _ _).trans (ih.cons a)
theorem qPE {α:Type} (next:Nat->Nat):∀ (fuel k:Nat) (left:List α) (out:Array α),fuel=left.length->(pickOrder.go next fuel k left out).toList.Perm (out.toList++left)
 | 0,k,left,out,h=>by
  have:left=[]:=List.length_eq_zero_iff.mp h.symm;subst this;unfold pickOrder.go;simp
 | fuel+1,k,left,out,h=>by
  have hl:0<left.length:=by lia
  have hm:next k % left.length<left.length:=Nat.mod_lt _ hl;unfold pickOrder.go;rw [List.getElem?_eq_getElem hm];dsimp only;refine (qPE next fuel (k+1) _ _ (by rw [List.length_eraseIdx_of_lt hm];lia)).trans ?_
  rw [Array.toList_push,List.append_assoc];exact List.Perm.append_left _ (qJ4 left _ hm)
theorem qPD {α:Type} (next:Nat->Nat) (xs:Array α):(pickOrder next xs).toList.Perm xs.toList:=by
 unfold pickOrder;have:=qPE next xs.size 0 xs.toList #[] (by simp)
 simpa using this
abbrev Ents:List Int->List (Int × Value)->Prop:=Paired fun k e=>∃ tk,e=(hashInt k,Value.int k tk)
theorem Ents.perm:∀ {es es':List (Int × Value)} {ks:List Int},Ents ks es->es'.Perm es->∃ ks',Ents ks' es'/\ks'.Perm ks:=by
 intro es es' ks h p;have key:∀ {a b:List (Int × Value)},a.Perm b->∀ ks,Ents ks b->∃ ks',Ents ks' a/\ks'.Perm ks:=by
  intro a b p
  induction p with
  | nil=>intro ks h;exact ⟨ks,h,.refl _⟩
  | cons x p ih=>
   intro ks h;cases h with
   | cons r t=>
    obtain ⟨ks',h1,h2⟩:=ih _ t;exact ⟨_::ks',.cons r h1,h2.cons _⟩
  | swap x y l=>
   intro ks h;cases h with
   | cons r t=>
    cases t with
    | cons r' t'=>exact ⟨_,.cons r' (.cons r t'),.swap _ _ _⟩
  | trans p q ih1 ih2=>
   intro ks h;obtain ⟨k1,h1,h2⟩:=ih2 ks h;obtain ⟨k2,h3,h4⟩:=ih1 k1 h1;exact ⟨k2,h3,h4.trans h2⟩
 exact key p ks h
theorem Ents.elems {prog:Program} {w:World} {es:List (Int × Value)} {ks:List Int} (h:Ents ks es):ElemsOf (intKind prog w) es:=by
 intro e he;have key:∀ {ks:List Int} {es:List (Int × Value)},Ents ks es->∀ e ∈ es,∃ k tk,e=(hashInt k,Value.int k tk):=by
  intro ks es h
  induction h with
  | nil=>intro e he;cases he
  | cons r t ih=>
   intro e he;rcases List.mem_cons.mp he with z | z
   ·subst z;obtain ⟨tk,e⟩:=r;exact ⟨_,tk,e⟩
   ·exact ih e z
 obtain ⟨k,tk,rfl⟩:=key h e he;exact ⟨⟨k,by simp [intKind,Value.isInt],rfl⟩,rfl⟩
theorem Ents.find {prog:Program} {w:World} {k:Int}:∀ {es:List (Int × Value)} {ks:List Int},Ents ks es->((List.findIdx? (fun e=>(intKind prog w).is k e.2) es).isSome=true ↔ k ∈ ks)
 | _,_,.nil=>by simp
 | _,_,.cons r t=>by
  obtain ⟨tk,rfl⟩:=r
  rename_i k' ks' es'
  have ih:=Ents.find (prog:=prog) (w:=w) (k:=k) t;rw [List.findIdx?_cons,List.mem_cons];have hi:(intKind prog w).is k (Value.int k' tk)=decide (k=k'):=by
   by_cases e:k=k'
   ·simp [intKind,Value.isInt,e]
   ·have e':¬ k'=k:=fun z=>e z.symm;simp [intKind,Value.isInt,e,e']
  dsimp only;rw [hi];by_cases e:k=k'
  ·simp [e]
  ·simp only [e,decide_false,Bool.false_eq_true,if_false,false_or,Option.isSome_map];exact ih
noncomputable def byT (w:World):Bool:=w.params.followText "set-order"
def SetI (w:World) (a:Addr) (zs:List Int) (h:Heap):Prop:=
 ∃ (es:Array (Int × Value)) (ep:Nat) (t:SetTable) (ks:List Int),h.get? a=some { cls:=.type "set",data:=.set es ep t }/\T7 (byT w) t es.size/\Ents ks es.toList/\ks.Perm zs/\zs.Nodup/\zs.length<=4
theorem SetI.at {w:World} {a:Addr} {zs:List Int} {h h':Heap} (x:SetI w a zs h) (k:∀ o,h.get? a=some o->h'.get? a=some o):SetI w a zs h':=
 let ⟨es,ep,t,ks,h1,r⟩:=x;⟨es,ep,t,ks,k _ h1,r⟩
theorem T7.fits {b:Bool} {t:SetTable} {n:Nat} (T:T7 b t n) (hn:n<=7):t.fits n=true:=by
 unfold SetTable.fits SetTable.fill;rw [T.size,T.dum,T.mask];have:((#[]:Array Nat)).size=0:=rfl;simp only [this,beq_self_eq_true,Bool.true_and,decide_eq_true_eq]
 lia
noncomputable def addI (zs:List Int) (k:Int):List Int:=if k ∈ zs then zs else zs++[k]
section
variable {prog:Program} {w:World} {A:Around} {E:Value->Shared->Prop} {s:Shared}
theorem SetI.size {a:Addr} {zs:List Int} {h:Heap} {es:Array (Int × Value)} {ks:List Int} (he:Ents ks es.toList) (hp:ks.Perm zs):es.size=zs.length:=by
 rw [<- hp.length_eq,Paired.length he,Array.length_toList]
theorem qRL {a:Addr} {zs:List Int} {k:Int} {tk:Tok} {Q:Bool->Shared->Prop} (hS:SetI w a zs s.heap) (hroom:zs.length<=3\/k ∈ zs)
  (h:∀ h',Heap.SameBut a s.heap h'->SetI w a (addI zs k) h'->∀ b,Q b { s with heap:=h' }):wpAny (model prog w) A (setAddHashed a (.int k tk) (hashInt k)) Q E s:=by
 obtain ⟨es,ep,t,ks,ho,T,he,hp,hnd,hlen⟩:=id hS;have hsz:es.size=zs.length:=SetI.size (a:=a) (h:=s.heap) he hp;have hel:ElemsOf (intKind prog w) es.toList:=he.elems;have hb:es.size<scanBound:=by rw [hsz];unfold scanBound;lia
 have hf:t.fits es.size=true:=T.fits (by lia)
 unfold setAddHashed setAddHashedIn;refine wpAny_holding (wpAny_bind (wpAny_setState_of ho rfl hf ?_));dsimp only;rw [byScan_of (knd:=intKind prog w) (x:=.int k tk) rfl hb hel];simp only [↓reduceIte];unfold setAddByScan;refine wpAny_bind ?_;refine wpAny_bind (wpAny_rule ?_);refine wpAny_bind (wpAny_setScan_of (knd:=intKind prog w) (k:=k) (intKind_is _ _ _ _) ho rfl hf hel ?_);have hfd:=Ents.find (prog:=prog) (w:=w) (k:=k) he;cases hr:List.findIdx? (fun e=>(intKind prog w).is k e.2) es.toList with
 | some j=>
  dsimp only;rw [hr] at hfd;have hk:k ∈ zs:=hp.mem_iff.mp (hfd.mp rfl);refine wpAny_pure (wpAny_pure ?_);have e:s={ s with heap:=s.heap }:=by cases s;rfl
  rw [e];refine h s.heap (Heap.SameBut.refl a s.heap) ?_ _;unfold addI;rw [if_pos hk];exact hS
 | none=>
  dsimp only;rw [hr] at hfd;have hk:¬ k ∈ zs:=fun z=>by have:=hfd.mpr (hp.mem_iff.mpr z);cases this
  have h3:zs.length<=3:=hroom.resolve_right hk;obtain ⟨p,t',e1,T',tf,hpe⟩:=T.lay (by lia) rfl (hashInt k) (.int k tk)
  rw [e1];dsimp only;refine wpAny_bind (wpAny_pure ?_);rw [T'.plain];simp only [↓reduceIte];rw [hashByValue_scannable 8 (x:=.int k tk) rfl];refine wpAny_bind (wpAny_pure ?_);have hszE:(SetTable.insertAt es p (hashInt k,Value.int k tk)).size=es.size+1:=by
   rw [<- Array.length_toList,qBT,List.length_append,List.length_cons,List.length_take,List.length_drop,Array.length_toList]
   lia
  rw [show plainKind (Value.int k tk)=true from rfl];simp only [↓reduceIte];show wpAny _ _ (storeSet a (SetTable.insertAt es p (hashInt k,.int k tk)) t' >>= _) _ _ _;refine wpAny_bind (wpAny_storeSet_of ho rfl ?_ (by rw [hszE,hsz,sizeLine_eq];lia))
  rw [tf];simp only [Bool.and_false,Bool.false_eq_true,↓reduceIte];refine wpAny_pure (wpAny_pure ?_);refine h _ (Heap.SameBut.update s.heap a _) ?_ _;have hg:(s.heap.update a (Obj.putSet (SetTable.insertAt es p (hashInt k,.int k tk)) t')).get? a=some { cls:=.type "set",data:=.set (SetTable.insertAt es p (hashInt k,.int k tk)) (ep+1) t' }:=by
   have:=Heap.get?_update_self (Obj.putSet (SetTable.insertAt es p (hashInt k,.int k tk)) t') ho (by rw [putSet_of _ _ (ep:=ep) (es:=es) (t:=t) rfl];rfl)
   rw [putSet_of _ _ (ep:=ep) (es:=es) (t:=t) rfl] at this;exact this
  have hpm:(SetTable.insertAt es p (hashInt k,Value.int k tk)).toList.Perm (es.toList++[(hashInt k,.int k tk)]):=by
   rw [qBT];have e3:es.toList++[(hashInt k,Value.int k tk)]=es.toList.take p++(es.toList.drop p++[(hashInt k,Value.int k tk)]):=by
    rw [<- List.append_assoc,List.take_append_drop]
   rw [e3];exact List.Perm.append_left _ (List.perm_append_singleton _ _).symm
  obtain ⟨ks',h4,h5⟩:=Ents.perm (ks:=ks++[k]) (Paired.snoc he ⟨tk,rfl⟩) hpm;refine ⟨_,_,t',ks',hg,by rw [hszE];exact T',h4,?_,?_,?_⟩
  ·unfold addI;rw [if_neg hk];exact h5.trans (hp.append_right _)
  ·unfold addI;rw [if_neg hk];exact qM9 hnd hk
  ·unfold addI;rw [if_neg hk,List.length_append,List.length_singleton]
   lia
end
noncomputable def dedI:List Int->List Int:=fun l=>l.foldl addI []
theorem qST (zs:List Int) (k:Int):(addI zs k).length<=zs.length+1:=by
 unfold addI
 split <;> simp
theorem qD4:∀ (l zs:List Int),(l.foldl addI zs).length<=zs.length+l.length
 | [],zs=>by simp
 | k::r,zs=>by
  have h1:=qD4 r (addI zs k);have h2:=qST zs k;rw [List.foldl_cons,List.length_cons]
  lia
section
variable {prog:Program} {w:World} {A:Around} {R:Result->Shared->Prop} {I:Addr} {fp wr:List Addr} {G:Array GenState->Array GenState->Prop} {n:Nat} {P:Nat->Value->Prop} {St:Nat->Shared->Prop}
theorem qKG (W:WalksS prog w A.in1 I fp wr G n P St) (S:Addr) (hSf:S ∉ fp) (ns:List Int) (hnn:ns.length=n) (h4:n<=4) (hval:∀ i v,P i v->∃ t,v=.int (ns.getD i 0) t) :
  ∀ (k i:Nat) (s:Shared),n - i=k->i<=n->St i s->SetI w S (dedI (ns.take i)) s.heap->
   (∀ s',Moved (S::wr) G s s'->SetI w S (dedI ns) s'.heap->R (.ok (.ret .none)) s')->
   codeAny (model prog w) A (.builtin "set.update.loop" ⟨[.ref S,.ref I],[]⟩) R s:=by
 have hSw:S ∉ wr:=fun h=>hSf (W.sub _ h);have hsub:∀ b ∈ wr,b ∈ S::wr:=fun b hb=>List.mem_cons_of_mem _ hb;intro k
 induction k with
 | zero=>
  intro i s hk hi hst hS hR;have hin:i=n:=by lia
  subst hin;refine codeAny_builtin F.entry_set_update_loop ?_;rw [Around.under_plainId F.plain_set_update_loop _];show wpAny _ A.in1 (pyNext (.ref I) >>= _) _ _ s;refine wpAny_bind (W.done s _ _ hst fun s' hm=>?_);show wpAny _ A.in1 (ret Value.none) _ _ s';rw [List.take_of_length_le (by lia)] at hS
  exact wpAny_pure (hR s' (hm.mono hsub) (hS.at fun o e=>hm.heap S _ hSw e))
 | succ k ih=>
  intro i s hk hi hst hS hR;have hlt:i<n:=by lia
  refine codeAny_builtin F.entry_set_update_loop ?_;rw [Around.under_plainId F.plain_set_update_loop _];show wpAny _ A.in1 (pyNext (.ref I) >>= _) _ _ s;refine wpAny_bind (W.item i s _ _ hlt hst fun v s' hP hst' hm=>?_);obtain ⟨t,rfl⟩:=hval i v hP;have hS':SetI w S (dedI (ns.take i)) s'.heap:=hS.at fun o e=>hm.heap S _ hSw e;show wpAny _ A.in1 (holding [Value.int (ns.getD i 0) t] (setAdd S (.int (ns.getD i 0) t)) >>= _) _ _ s';refine wpAny_bind (wpAny_holding ?_);unfold setAdd;refine wpAny_holding ?_;refine wpAny_bind ((intKind prog w).pyHash (k:=ns.getD i 0) (intKind_is _ _ _ _) ?_);have hroom:(dedI (ns.take i)).length<=3:=by
   have:=qD4 (ns.take i) [];rw [List.length_take] at this;unfold dedI;simp at this
   lia
  refine qRL (s:={ s' with toks:=s'.toks+1 }) hS' (.inl hroom) fun h' hsb hS2 b=>?_;have e2:addI (dedI (ns.take i)) (ns.getD i 0)=dedI (ns.take (i+1)):=by
   have hi':i<ns.length:=by lia
   rw [List.take_add_one,List.getElem?_eq_getElem hi',Option.toList_some];unfold dedI;rw [List.foldl_append,List.foldl_cons,List.foldl_nil,List.getD_eq_getElem?_getD,List.getElem?_eq_getElem hi',Option.getD_some]
  rw [e2] at hS2;refine wpAny_pure ⟨plainId_quiet F.plain_set_update_loop _,ih (i+1) _ (by lia) hlt (W.frame _ s' _ _ hst' (Nat.le_succ _) fun b hb o e=>?_) hS2 fun s'' hm'' hS''=>?_⟩
  ·rw [hsb.2 b (fun h:b=S=>hSf (by rw [<- h];exact hb))];exact e
  ·refine hR s'' (Moved.trans W.gtrans ((hm.mono hsub).then_heap (Nat.le_succ _) fun b o hb e=>?_) hm'') hS'';rw [hsb.2 b (fun h:b=S=>hb (by rw [h];exact List.mem_cons_self))];exact e
end
end L2
namespace L2
open PySem PySem.Spec PyProof.Rows
noncomputable abbrev freshSet (w:World):Obj:={ cls:=.type "set",dict:=none,data:=.set #[] 0 (.fresh 0 0 (!byT w)) }
section
variable {prog:Program} {w:World} {A:Around} {E:Value->Shared->Prop} {s:Shared}
theorem qP3 (a:Value) {Q₁:Value->Shared->Prop} (h:Q₁ (.ref s.heap.objs.size) { s with heap:=s.heap.push (freshSet w) }) :
  codeAny (model prog w) A (.call (.builtin "set.__new__") ⟨[.type "set",a],[]⟩) (wants Q₁ E) s:=by
 refine codeAny_of_tree ?_;show wpAny _ A.in1 (do checkBuiltinCall "set.__new__" ⟨[.type "set",a],[]⟩;again (.builtin "set.__new__" ⟨[.type "set",a],[]⟩)) _ _ s
 refine wpAny_bind (wpAny_of_eq (F.newCall_set_1 a) (wpAny_pure ⟨plainId_quiet F.plain_set_new _,codeAny_builtin F.entry_set_new ?_⟩));rw [Around.under_plainId F.plain_set_new _];unfold Builtin.«set.__new__» Builtin.Frozenset.newClass;have hsub:=sub_set_self;obtain ⟨hp,g,d,tk,os⟩:=s;dsimp only
 wp_walk
 refine wpAny_askSetting (wpAny_pure ?_);dsimp only;simp only [newObj];refine wpAny_bind (wpAny_alloc (wpAny_pure ?_));exact wpAny_pure h
theorem SetI.fresh {a:Addr} {h:Heap} (e:h.get? a=some (freshSet w)):SetI w a [] h:=
 ⟨#[],0,_,[],e,⟨rfl,rfl,rfl,rfl,rfl,.nil,fun _ z=>nomatch z⟩,.nil,.refl _,.nil,Nat.zero_le _⟩
set_option maxHeartbeats 3200000 in
theorem qOK {l:Addr} {Ae:Array Value} {ns:List Int} {Q:Value->Shared->Prop} (hh:A.handled=none) (hl:s.heap.IsList l Ae) (hi:IntsAre Ae.toList ns) (h4:Ae.size<=4)
  (h:∀ (h':Heap) (tk:Nat),SetI w s.heap.objs.size (dedI ns) h'->(∀ b o,s.heap.get? b=some o->h'.get? b=some o)->Q (.ref s.heap.objs.size) { s with heap:=h',toks:=tk }) :
  wpAny (model prog w) A (call (.type "set") [.ref l]) Q E s:=by
 have hlen:ns.length=Ae.size:=by have:=IntsAre.length hi;simpa using this.symm
 obtain ⟨c,tl,hmro⟩:=F.called_set.mro;have hmade:=F.called_set.made;have hsub:=F.called_set.sub;refine wpAny_call (codeAny_of_tree ?_);show wpAny _ _ (callAny (.type "set") _) _ _ _;refine wpAny_pure ⟨Code.quiet_builtin _ (by decide +kernel),codeAny_builtin F.entry_type_call ?_⟩
 rw [Around.under_plain (weight_type_call_type "set" [.ref l] []) rfl];have h1:=F.called_set.notType;have h2:=F.called_set.canCreate;have hct:=F.typeCall_set_1 (.ref l)
 repeat (any_goals (first | assumption | wp_step))
 refine codeAny_mono (qP3 (.ref l) (E:=E) (Q₁:=fun obj s₁=>obj=.ref s.heap.objs.size/\s₁={ s with heap:=s.heap.push (freshSet w) }) ⟨rfl,rfl⟩) fun r s₁ hr=>?_;cases r with
 | error e=>exact hr
 | ok fl=>
  cases fl with
  | ret obj=>
   obtain ⟨rfl,rfl⟩:=hr;have hS:(s.heap.push (freshSet w)).get? s.heap.objs.size=some (freshSet w):=Heap.get?_push_size _ rfl;have hT:Shared.TypeIs { s with heap:=s.heap.push (freshSet w) } (.ref s.heap.objs.size) "set":=⟨_,hS,rfl⟩;have hli:=F.called_set.init.lookup;have hbi:=F.called_set.init.bind (.ref s.heap.objs.size)
   repeat (any_goals (first | assumption | wp_step))
   refine codeAny_mono (codeAny_call_builtin (R:=wants (fun r s₂=>r=.none/\∃ h' tk,s₂={ s with heap:=h',toks:=tk }/\SetI w s.heap.objs.size (dedI ns) h'/\
     (∀ b o,s.heap.get? b=some o->h'.get? b=some o)) E) F.called_set.init.plain F.entry_set_init (check_set_init_1 hT ?_)) fun r₂ s₂ hr₂=>?_
   ·obtain ⟨ol,hol,hcl,nl,hdl⟩:=hl;obtain ⟨ocls,odict,odata,oslots⟩:=ol;simp only at hcl hdl;subst hcl;subst hdl;have hol':(s.heap.push (freshSet w)).get? l=some { cls:=.type "list",dict:=odict,data:=.seq Ae nl,slots:=oslots }:=Heap.get?_push_of_some _ hol;have hsls:=F.sub_list_set;have hslf:=F.sub_list_frozenset;have hne:(Value.type "list" == Value.type "dict")=false:=by decide
    have hl1:(s.heap.push (freshSet w)).IsList l Ae:=⟨_,hol',rfl,nl,rfl⟩;unfold Builtin.«set.__init__» noKeywords Builtin.Frozenset.updateFrom;generalize hPI:pyIter=PI
    wp_walk
    subst hPI;refine wpAny_pyIter_list hl1 ?_;refine wpAny_bind (wpAny_runValue ?_);have hlS:l<s.heap.objs.size:=Heap.lt_size hol;have hh3:A.in1.in1.in1.handled=none:=by simp [hh]
    have hneI:l ≠ (s.heap.push (freshSet w)).objs.size:=by
     rw [Heap.size_push];exact Nat.ne_of_lt (Nat.lt_succ_of_lt hlS)
    have hSf:s.heap.objs.size ∉ [(s.heap.push (freshSet w)).objs.size,l]:=by
     rw [Heap.size_push];simp only [List.mem_cons,List.mem_singleton,List.not_mem_nil,or_false,not_or];exact ⟨Nat.ne_of_lt (Nat.lt_succ_self _),Nat.ne_of_gt hlS⟩
    have hval:∀ (i:Nat) (v:Value),Ae[i]?=some v->∃ t,v=.int (ns.getD i 0) t:=fun i v hv=>
     PyProof.Rows.IntsAre.int_at hi i v (by rw [Array.getElem?_toList];exact hv)
    refine qKG ((Walks.list hh3 _ l hneI Ae).toS) s.heap.objs.size hSf ns hlen h4 hval (Ae.size - 0) 0 _ (by lia) (Nat.zero_le _)
     ⟨⟨_,Heap.get?_push_size _ rfl,rfl,rfl⟩,(hl1.push _)⟩ ?hS0 ?hR
    case hS0=>exact SetI.fresh (Heap.get?_push_of_some _ hS)
    case hR=>
     intro s' hm hS';obtain ⟨h',g',d',tk',os'⟩:=s';have eg:g'=s.gens:=hm.gens;have ed:d'=s.drawn:=hm.drawn;have eo:os'=s.os:=hm.os;subst eg;subst ed;subst eo;show wpAny _ _ _ _ _ _;refine wpAny_pure ?_;show wpAny _ _ (ret Value.none) _ _ _;refine wpAny_pure ⟨rfl,h',tk',rfl,hS',fun b o e=>?_⟩;have hb:=Heap.lt_size e;have hb1:b ≠ s.heap.objs.size:=Nat.ne_of_lt hb;have hb2:b ≠ (s.heap.push (freshSet w)).objs.size:=by
      rw [Heap.size_push];exact Nat.ne_of_lt (Nat.lt_succ_of_lt hb)
     exact hm.heap b o (by simp only [List.mem_cons,List.mem_singleton,List.not_mem_nil,or_false,not_or];exact ⟨hb1,hb2⟩) (Heap.get?_push_of_some _ (Heap.get?_push_of_some _ e))
   ·cases r₂ with
    | error e=>exact hr₂
    | ok fl₂=>
     cases fl₂ with
     | ret r=>
      obtain ⟨rfl,h',tk,rfl,hS',hk'⟩:=hr₂
      repeat (any_goals (first | assumption | wp_step))
      exact h _ _ hS' hk'
     | next=>exact hr₂
     | brk=>exact hr₂
     | cont=>exact hr₂
  | next=>exact hr
  | brk=>exact hr
  | cont=>exact hr
end
end L2
namespace L2
open PySem PySem.Spec PyProof.Rows
theorem slot_si_next:Slot "set_iterator" "__next__" "set_iterator.__next__":=
 .of (owner:="set_iterator") (n:="__next__") (by rw [typeLookup_type,builtinLookup_eq_fast];kernel_rfl) (by decide +kernel) (by decide +kernel) (by decide +kernel)
  (by first | exact .inl (by decide +kernel) | exact .inr (by decide +kernel)) (by rw [isSubtype_type];kernel_rfl)
theorem qG8:Slot "set_iterator" "__iter__" "set_iterator.__iter__":=
 .of (owner:="set_iterator") (n:="__iter__") (by rw [typeLookup_type,builtinLookup_eq_fast];kernel_rfl) (by decide +kernel) (by decide +kernel) (by decide +kernel)
  (by first | exact .inl (by decide +kernel) | exact .inr (by decide +kernel)) (by rw [isSubtype_type];kernel_rfl)
theorem qFM:entryFor table "set_iterator.__next__" = some Builtin.«set_iterator.__next__»:=entryFor_of_tree (by kernel_rfl)
theorem qJY:entryFor table "set_iterator.__iter__" = some Builtin.«dict_keyiterator.__iter__»:=
 entryFor_alias (id':="dict_keyiterator.__iter__") (by kernel_rfl) rfl (by decide +kernel) (by kernel_rfl)
theorem qIK:entryFor table "set.__iter__" = some Builtin.«frozenset.__iter__»:=
 entryFor_alias (id':="frozenset.__iter__") (by kernel_rfl) rfl (by decide +kernel) (by kernel_rfl)
theorem qN7:Manifest.owners.lookup (String.ofList "set_iterator".toList.reverse.reverse)=some Manifest.sig_set_iterator:=by kernel_rfl
theorem qGF (a:Value):argsOk "set_iterator.__next__" ⟨[a],[]⟩:=by
 unfold argsOk;rw [signature?_of (id:="set_iterator.__next__") (n:="__next__".toList.reverse) (o:="set_iterator".toList.reverse) (by kernel_rfl) qN7];kernel_rfl
theorem qLR (a:Value):argsOk "set_iterator.__iter__" ⟨[a],[]⟩:=by
 unfold argsOk;rw [signature?_of (id:="set_iterator.__iter__") (n:="__iter__".toList.reverse) (o:="set_iterator".toList.reverse) (by kernel_rfl) qN7];kernel_rfl
noncomputable def qDZ (w:World) (a:Addr) (ep:Nat) (es:Array (Int × Value)):List (Int × Value):=if byT w=true then (pickOrder (w.params.setOrder a ep) es).toList else es.toList
noncomputable def qE1 (w:World) (t:SetTable) (i:Nat):Nat:=if byT w=true then 0 else if i=0 then 0 else t.place.getD (i - 1) 0+1
theorem qDY (w:World) (a:Addr) (ep:Nat) (es:Array (Int × Value)):(qDZ w a ep es).Perm es.toList:=by
 unfold qDZ
 split
 ·exact qPD _ _
 ·exact .refl _
theorem T7.below_at {b:Bool} {t:SetTable} {n:Nat} (T:T7 b t n) (i:Nat) (hi:i<=n):SetTable.below t.place (if i=0 then 0 else t.place.getD (i - 1) 0+1)=i:=by
 obtain ⟨b1,b2,b3⟩:=qG6 (j:=if i=0 then 0 else t.place.getD (i - 1) 0+1) T.up
 have hs:=T.size;have gd:∀ a c d,a<t.place.size->t.place.getD a c=t.place.getD a d:=fun a c d ha=>by
  rw [Array.getD_eq_getD_getElem?,Array.getD_eq_getD_getElem?,Array.getElem?_eq_getElem ha]
  rfl
 by_cases h0:i=0
 ·rw [if_pos h0] at b1 b2 b3 ⊢;subst h0;apply Nat.eq_zero_of_not_pos;intro z;have:=b2 0 z;omega
 ·rw [if_neg h0] at b1 b2 b3 ⊢;have h1:¬ SetTable.below t.place (t.place.getD (i - 1) 0+1)<i:=fun z=>by
   have:=b3 (i - 1) (by omega) (by omega)
   rw [gd (i - 1) (t.place.getD (i - 1) 0+1) 0 (by omega)] at this
   omega
  have h2:¬ i<SetTable.below t.place (t.place.getD (i - 1) 0+1):=fun z=>by
   have q:=b2 i z;have:=qTO 0 T.up (i - 1) i (by omega) (by omega)
   rw [gd i (t.place.getD (i - 1) 0+1) 0 (by omega)] at q
   omega
  omega
def SetIt (w:World) (a I:Addr) (es:Array (Int × Value)) (ep:Nat) (t:SetTable) (i:Nat) (h:Heap):Prop:=
 (∃ o,h.get? I=some o/\o.cls=.type "set_iterator"/\o.data=.fields #[.int (qE1 w t i) 0,.int i 0,.ref a,.int es.size 0,.int ep 0])/\h.get? a=some { cls:=.type "set",data:=.set es ep t }
section
variable {prog:Program} {w:World} {A:Around} {E:Value->Shared->Prop} {s:Shared} {a I:Addr} {es:Array (Int × Value)} {ep:Nat} {t:SetTable} {i:Nat}
theorem SetIt.typeIs (x:SetIt w a I es ep t i s.heap):s.TypeIs (.ref I) "set_iterator":=let ⟨⟨o,h1,h2,_⟩,_⟩:=x;⟨o,h1,h2⟩
theorem qKH {Q:Option (Value × Nat)->Shared->Prop} (T:T7 (byT w) t es.size) (h8:es.size<=7) (ho:s.heap.get? a=some { cls:=.type "set",data:=.set es ep t }) (hi:i<=es.size)
  (h:Q (match (qDZ w a ep es)[i]? with | some e=>some (e.2,qE1 w t (i+1)) | none=>none) s):wpAny (model prog w) A (setNext a (qE1 w t i) i ep) Q E s:=by
 have hf:=T.fits h8;unfold setNext;refine wpAny_bind (wpAny_setState_of ho rfl hf ?_);dsimp only;unfold setsByText;refine wpAny_bind (wpAny_bind (wpAny_askSetting (wpAny_pure ?_)));show wpAny _ _ (if byT w=true then _ else _) _ _ _
 cases hb:byT w with
 | true=>
  rw [if_pos rfl];simp only [bne_self_eq_false,Bool.false_eq_true,if_false];refine wpAny_bind ?_;unfold setWalk;refine wpAny_bind (wpAny_setState_of ho rfl hf ?_);dsimp only;unfold setsByText;refine wpAny_bind (wpAny_bind (wpAny_askSetting (wpAny_pure ?_)));show wpAny _ _ (if byT w=true then _ else _) _ _ _
  rw [hb,if_pos rfl];refine wpAny_bind (wpAny_askSetting (wpAny_pure (wpAny_pure ?_)));have e:qDZ w a ep es=(pickOrder (w.params.setOrder a ep) es).toList:=by unfold qDZ;rw [if_pos hb]
  have e2:∀ j,qE1 w t j=0:=fun j=>by unfold qE1;rw [if_pos hb]
  rw [e,Array.getElem?_toList,e2] at h;rw [e2];show Q (Option.map _ (pickOrder (w.params.setOrder a ep) es)[i]?) s;cases hx:(pickOrder (w.params.setOrder a ep) es)[i]? with
  | none=>rw [hx] at h;exact h
  | some v=>rw [hx] at h;exact h
 | false=>
  rw [if_neg (by simp)]
  show wpAny _ _ (if (!t.plain && decide (es.size > 1))=true then _ else _) _ _ _
  rw [T.plain];simp only [Bool.not_true,Bool.false_and,Bool.false_eq_true,if_false];refine wpAny_bind ?_;show wpAny _ _ (if (!t.led && !es.isEmpty)=true then _ else _) _ _ _
  rw [T.led,hb];simp only [Bool.not_false,Bool.not_true,Bool.false_and,Bool.false_eq_true,if_false];refine wpAny_pure (wpAny_pure ?_);have e:qDZ w a ep es=es.toList:=by unfold qDZ;rw [if_neg (by rw [hb];simp)]
  have e2:∀ j,qE1 w t j=if j=0 then 0 else t.place.getD (j - 1) 0+1:=fun j=>by unfold qE1;rw [if_neg (by rw [hb];simp)]
  rw [e,Array.getElem?_toList] at h;rw [e2,T.below_at i hi];cases hx:es[i]? with
  | none=>rw [hx] at h;exact h
  | some v=>
   rw [hx] at h;have hlt:i<t.place.size:=by rw [T.size];exact (Array.getElem?_eq_some_iff.mp hx).1
   rw [Array.getElem?_eq_getElem hlt];dsimp only at h ⊢;have e3:qE1 w t (i+1)=t.place[i]+1:=by
    rw [e2,if_neg (by omega),Nat.add_sub_cancel,Array.getD_eq_getD_getElem?,Array.getElem?_eq_getElem hlt]
    rfl
   rw [e3] at h;exact h
theorem qTW {Q:Option Value->Shared->Prop} (T:T7 (byT w) t es.size) (h8:es.size<=7) (hit:SetIt w a I es ep t i s.heap) (hne:a ≠ I) {e:Int × Value} (hx:(qDZ w a ep es)[i]?=some e)
  (hQ:∀ h',SetIt w a I es ep t (i+1) h'->(∀ b o,b ≠ I->s.heap.get? b=some o->h'.get? b=some o)->Q (some e.2) { s with heap:=h' }):wpAny (model prog w) A (pyNext (.ref I)) Q E s:=by
 obtain ⟨⟨o,ho,hc,hd⟩,hs⟩:=id hit;have hi:i<es.size:=by
  have:=(List.getElem?_eq_some_iff.mp hx).1;rw [(qDY w a ep es).length_eq,Array.length_toList] at this;exact this
 unfold pyNext;refine wpAny_bind (wpAny_attempt (wpAny_callSpecial?_slot (name:=Str.ofString "__next__") hit.typeIs slot_si_next (wpAny_call_entry slot_si_next hit.typeIs qFM ?_ (qGF _))));unfold Builtin.«set_iterator.__next__»;refine wpAny_bind (wpAny_pure ?_);refine wpAny_bind (wpAny_fieldsOf ho hd ?_);dsimp only;unfold setEntries;refine wpAny_bind (wpAny_bind (wpAny_setState_of hs rfl (T.fits h8) (wpAny_pure ?_)));rw [if_neg (by simp)]
 simp only [Int.toNat_natCast];refine wpAny_bind (qKH T h8 hs (Nat.le_of_lt hi) ?_);rw [hx];dsimp only;show wpAny _ _ (setField (.ref I) 0 (rawInt _) >>= _) _ _ s;refine wpAny_bind (wpAny_setField ho hd (by simp) ?_)
 have g1:=Heap.get?_update_self (Obj.mapFields (·.setIfInBounds 0 (rawInt ((qE1 w t (i+1):Nat):Int)))) ho (Obj.isFreed_of_fields (Obj.data_mapFields hd _));have d1:=Obj.data_mapFields hd (·.setIfInBounds 0 (rawInt ((qE1 w t (i+1):Nat):Int)));refine wpAny_bind (wpAny_setField g1 d1 (by simp) ?_)
 have g2:=Heap.get?_update_self (Obj.mapFields (·.setIfInBounds 1 (rawInt ((i:Int)+1)))) g1 (Obj.isFreed_of_fields (Obj.data_mapFields d1 _));have d2:=Obj.data_mapFields d1 (·.setIfInBounds 1 (rawInt ((i:Int)+1)));refine wpAny_pure ⟨_,rfl,wpAny_pure (hQ _ ⟨⟨_,g2,(Obj.cls_mapFields ..).trans ((Obj.cls_mapFields ..).trans hc),?_⟩,?_⟩ fun b o' hb e=>?_)⟩
 ·rw [d2];simp [rawInt]
 ·exact (Heap.get?_update_other _ _ (Ne.symm hne)).trans ((Heap.get?_update_other _ _ (Ne.symm hne)).trans hs)
 ·exact (Heap.get?_update_other _ _ (Ne.symm hb)).trans ((Heap.get?_update_other _ _ (Ne.symm hb)).trans e)
theorem qVL {Q:Option Value->Shared->Prop} (hh:A.handled=none) (T:T7 (byT w) t es.size) (h8:es.size<=7) (hit:SetIt w a I es ep t es.size s.heap)
  (hQ:∀ h',(∀ b o,b ≠ I->s.heap.get? b=some o->h'.get? b=some o)->Q none { s with heap:=h' }):wpAny (model prog w) A (pyNext (.ref I)) Q E s:=by
 obtain ⟨⟨o,ho,hc,hd⟩,hs⟩:=id hit;unfold pyNext;refine wpAny_bind (wpAny_attempt (wpAny_callSpecial?_slot (name:=Str.ofString "__next__") hit.typeIs slot_si_next (wpAny_call_entry slot_si_next hit.typeIs qFM ?_ (qGF _))));unfold Builtin.«set_iterator.__next__»;refine wpAny_bind (wpAny_pure ?_);refine wpAny_bind (wpAny_fieldsOf ho hd ?_);dsimp only;unfold setEntries;refine wpAny_bind (wpAny_bind (wpAny_setState_of hs rfl (T.fits h8) (wpAny_pure ?_)));rw [if_neg (by simp)]
 simp only [Int.toNat_natCast];have hx:(qDZ w a ep es)[es.size]?=none:=List.getElem?_eq_none (by rw [(qDY w a ep es).length_eq,Array.length_toList];exact Nat.le_refl _)
 refine wpAny_bind (qKH T h8 hs (Nat.le_refl _) ?_);rw [hx];dsimp only;show wpAny _ _ (setField (.ref I) 2 .none >>= _) _ _ s;refine wpAny_bind (wpAny_setField ho hd (by simp) ?_)
 show wpAny _ _ (newExc (.type "StopIteration") [] >>= _) _ _ _;refine wpAny_bind ?_;simp only [newExc,newTuple];refine wpAny_bind (wpAny_newObj_type ?_ (by size_fits))
 refine wpAny_bind (m:=firstArgMember _ _) (wpAny_of_eq (a:=Value.none) (by first | rfl | (simp only [firstArgMember];rfl)) ?_)
 refine wpAny_newObj_type ?_ (by size_fits)
 simp only [raiseNew];refine wpAny_bind (wpAny_handled ?_);rw [show A.in1.handled=none from hh];refine wpAny_bind (wpAny_pure (wpAny_throw ?_));refine wpAny_bind (wpAny_isInstance (T:="StopIteration") (b:=true) ⟨_,Heap.get?_push_size _ rfl,rfl⟩ isSubtype_stop ?_);exact wpAny_pure (hQ _ (((Heap.SameBut.update ..).extBut.push _).push _))
theorem qTV {Q:Value->Shared->Prop} (hit:SetIt w a I es ep t i s.heap) (h:Q (.ref I) s):wpAny (model prog w) A (pyIter (.ref I)) Q E s:=by
 refine wpAny_pyIter_slot hit.typeIs qG8 (wpAny_call_entry qG8 hit.typeIs qJY ?_ (qLR _));show wpAny _ _ (ret (.ref I)) _ _ s;exact wpAny_pure ⟨_,rfl,"set_iterator",_,hit.typeIs,slot_si_next.lookup,h⟩
theorem qVK {Q:Value->Shared->Prop} (T:T7 (byT w) t es.size) (h8:es.size<=7) (hs:s.heap.get? a=some { cls:=.type "set",data:=.set es ep t })
  (hQ:Q (.ref s.heap.objs.size) { s with heap:=s.heap.push { cls:=.type "set_iterator",data:=.fields #[.int 0 0,.int 0 0,.ref a,.int es.size 0,.int ep 0] } }):wpAny (model prog w) A (pyIter (.ref a)) Q E s:=by
 have hT:s.TypeIs (.ref a) "set":=⟨_,hs,rfl⟩;have hf:=T.fits h8;refine wpAny_pyIter_slot hT F.slot_set_iter (wpAny_call_entry F.slot_set_iter hT qIK ?_ (F.args_set_iter_1 _));unfold Builtin.«frozenset.__iter__» Builtin.Frozenset.slot0 Builtin.Frozenset.sizeOf setEntries;refine wpAny_bind (wpAny_bind (wpAny_pure ?_));show wpAny _ _ (pure a) _ _ s;refine wpAny_pure ?_;refine wpAny_bind (wpAny_bind (wpAny_bind (wpAny_setState_of hs rfl hf (wpAny_pure (wpAny_pure ?_)))));unfold setDrawn setsByText;refine wpAny_bind (wpAny_bind (wpAny_setState_of hs rfl hf ?_));dsimp only;refine wpAny_bind (wpAny_bind (wpAny_askSetting (wpAny_pure (wpAny_pure ?_))));show wpAny _ _ (if (!byT w && (!t.plain && decide (es.size > 1)))=true then _ else _) _ _ _
 rw [T.plain];simp only [Bool.not_true,Bool.false_and,Bool.and_false,Bool.false_eq_true,if_false];refine wpAny_bind (wpAny_pure ?_);unfold setEpoch;refine wpAny_bind (wpAny_bind (wpAny_setState_of hs rfl hf (wpAny_pure ?_)));refine wpAny_bind (wpAny_newObj_type (wpAny_pure ⟨_,rfl,"set_iterator",_,⟨_,Heap.get?_push_size _ rfl,rfl⟩,slot_si_next.lookup,?_⟩));simpa [rawInt] using hQ
theorem qTX {Q:Bool->Shared->Prop} (hT:s.TypeIs (.ref a) "set") (h:Q false s):wpAny (model prog w) A (Builtin.List.listLengthHint (.ref a)) Q E s:=by
 unfold Builtin.List.listLengthHint;refine wpAny_bind (wpAny_specialOf hT PySem.F.slot_set_len.lookup ?_);generalize hid:("set.__len__" : String)=id0
 wp_delta
 rw [show splitId id0=some ("set","__len__") from by subst hid;decide +kernel]
 subst hid;refine wpAny_bind (wpAny_isInstance (T:="set") (b:=true) hT (by rw [isSubtype_type];kernel_rfl) ?_)
 refine wpAny_ite_split (fun hab=>absurd hab (by decide)) (fun _=>?_)
 refine wpAny_ite_split (fun _=>?_) (fun hab=>absurd (by decide +kernel) hab)
 refine wpAny_bind (wpAny_typeOf hT ?_);exact wpAny_pure h
theorem qVJ (T:T7 (byT w) t es.size) (h8:es.size<=7):PySem.W.KdlSrc prog w "set" a a es.size (fun i v=>∃ e,(qDZ w a ep es)[i]?=some e/\v=e.2) (fun h=>h.get? a=some { cls:=.type "set",data:=.set es ep t }) where
 type:=fun s h=>⟨_,h,rfl⟩
 there:=fun h x=>⟨Heap.lt_size x,Heap.lt_size x⟩
 keep:=fun h h' x k=>k a (.inl rfl) _ x
 notList:=by decide
 notTuple:=by decide
 hint:=fun A E s Q x q=>qTX ⟨_,x,rfl⟩ q
 iter:=fun A s hh x=>by
  have hne:a ≠ s.heap.objs.size:=Nat.ne_of_lt (Heap.lt_size x);refine ⟨_,fun i h=>SetIt w a s.heap.objs.size es ep t i h,fun E Q q=>qVK T h8 x q,?_,⟨⟨_,Heap.get?_push_size _ rfl,rfl,?_⟩,Heap.get?_push_of_some _ x⟩⟩
  ·refine ⟨fun b hb=>?_,fun i h h' st k=>?_,fun i s' Q E hi st q=>?_,fun s' Q E st q=>?_,fun i s' Q E st q=>qTV st q⟩
   ·have e:b=s.heap.objs.size:=by simpa using hb
    simp [e]
   ·obtain ⟨⟨o,h1,h2,h3⟩,h4⟩:=st;exact ⟨⟨o,k _ (by simp) _ h1,h2,h3⟩,k _ (by simp) _ h4⟩
   ·have hl:i<(qDZ w a ep es).length:=by rw [(qDY w a ep es).length_eq,Array.length_toList];exact hi
    refine qTW T h8 st hne (List.getElem?_eq_getElem hl) fun h' st' k=>?_;exact q _ h' s'.toks ⟨_,List.getElem?_eq_getElem hl,rfl⟩ st' fun b o hb e=>k b o (fun z=>hb (by simp [z])) e
   ·refine qVL hh T h8 st fun h' k=>?_;exact q h' s'.toks fun b o hb e=>k b o (fun z=>hb (by simp [z])) e
  ·unfold qE1
   split <;> rfl
end
end L2
namespace L2
open PySem PySem.Spec PyProof.Rows
theorem qBW {ns:List Int}:∀ {us:List Value},Vals (ns.map V.int) us->IntsAre us ns:=by
 induction ns with
 | nil=>intro us h;cases h;exact .nil
 | cons n r ih=>
  intro us h;cases h with
  | cons r1 r2=>
   obtain ⟨t,rfl⟩:=r1;exact IntsAre.cons _ _ (ih r2)
theorem qE0:∀ {us:List Value} {ns:List Int},IntsAre us ns->Vals (ns.map V.int) us:=qH5
section
variable {X:Cx}
def SetO (w:World) (a:Addr) (zs:List Int):HO:=.ext (SetI w a zs)
theorem qK6 (hc:X.calm=true):qCV X (.type "set") (fun xs H Q=>∃ p ns,xs=[.ref p]/\SqL X.K H p (ns.map V.int)/\ns.length<=4/\∀ a,H a=none->Q (.ref a) (Ah H a (SetO X.w a (dedI ns)))):=by
 intro Ab s σ H xs us Q I r h;obtain ⟨p,ns,rfl,hq,h4,q⟩:=h;obtain ⟨u,rfl,rx⟩:=qDB r;cases rx;obtain ⟨its,rv,pl,hz⟩:=I.list hq;have hlen:=rv.length;rw [List.length_map] at hlen;refine qOK (ns:=ns) (I.ok.hd hc) pl.isList (by simpa using qBW rv) (by simp;lia) fun h' tk hS hk=>?_
 refine ⟨.ref s.heap.objs.size,_,I.laid (t':=tk) hk (Nat.le_refl _) ?_,rfl,q _ (I.hok.fresh (Nat.le_refl _))⟩;obtain ⟨es,ep,t,ks,e,_⟩:=id hS;exact ⟨hS,⟨_,e⟩,fun h1 h2 x k=>x.at k⟩
theorem Inv.track {Ab:List (Addr × Obj)} {s:Shared} {σ:St} {H:Hp} {T:Addr} {o:HO} (I:Inv X Ab σ H s) (h0:H T=none) (h1:X.s₀.heap.objs.size<=T) (h2:T ≠ X.env.locals) (h3:∀ x c,X.env.cells.lookup x=some c->c ≠ T) (h4:∀ p ∈ X.pn++Ab,p.1 ≠ T)
  (new:ObjOk X.prog X.w (Ah H T o) s.heap T o):Inv X Ab σ (Ah H T o) s:=by
 have old:∀ b ob,X.s₀.heap.get? b=some ob->b ≠ T:=fun b ob e=>Nat.ne_of_lt (Nat.lt_of_lt_of_le (Heap.lt_size e) h1);have some':∀ b u,H b=some u->(Ah H T o) b=some u:=fun b u e=>by rw [qA8 (qA5 e h0)];exact e
 refine ⟨I.ok,I.os,I.bare,⟨I.base.keep,I.base.slot,fun b ob e n hx=>?_,I.base.there,fun b xs e=>some' _ _ (I.base.tups b xs e),fun b ob u e=>some' _ _ (I.base.frzs b ob u e),fun b ps e=>?_⟩,I.loc,I.cell,?_,fun x c e=>?_,fun p hp=>?_,fun b u e=>?_,I.len⟩
 ·rw [qA8 (old b ob e)];exact I.base.free b ob e n hx
 ·exact some' _ _ (I.base.tbls b ps e)
 ·rw [qA8 (Ne.symm h2)];exact I.free
 ·rw [qA8 (h3 x c e)];exact I.freeC x c e
 ·obtain ⟨e1,n,r⟩:=I.pin p hp;exact ⟨e1,by rw [qA8 (h4 p hp)];exact n,r⟩
 ·by_cases hb:b=T
  ·subst hb;rw [qA1] at e;cases e;exact new
  ·rw [qA8 hb] at e;exact (I.hok b u e).stay (fun c v _ q=>q) (fun c q=>some' _ _ q) (fun c ys q=>some' _ _ q) fun c t q=>some' _ _ q
theorem qRH {Ab:List (Addr × Obj)} {s:Shared} {σ:St} {H:Hp} {Q:VK} {A:Around} {E:Value->Shared->Prop} {vs:List Value} {ns:List Int} {D:Addr} (I:Inv X Ab σ (Ah H D (.lst (ns.map V.int))) s) (hD:H D=none) (h64:ns.length<64)
  (q:∀ ns':List Int,ns'.Perm ns->ns'.Pairwise (·<=·)->Q (.ref D) (Ah H D (.lst (ns'.map V.int)))) :
  wpAny (model X.prog X.w) A (call (.builtin "list.sort") [.ref D]) (fun _ s'=>EP X Ab σ Q (.ref D) s') E s:=by
 obtain ⟨z,its,n,rv,hl,e⟩:=I.lstM qA1;have hI:=qBW rv;have hlen:=rv.length;rw [List.length_map] at hlen;refine wpAny_call_entry slot_list_sort ⟨_,e,rfl⟩ entry_list_sort (list_sort_tree (ns:=ns) (n:=n) e hI (by lia) fun out ns' a1 a2 a3=>⟨_,rfl,?_⟩) (args_list_sort _)
 have hat:=sortedHeap_at (vs:=its) (out:=out) e;obtain ⟨e2,hat⟩:=hat;refine ⟨.ref D,Ah H D (.lst (ns'.map V.int)),?_,rfl,q ns' a2 a3⟩;have hu:Ah (Ah H D (.lst (ns.map V.int))) D (.lst (ns'.map V.int))=Ah H D (.lst (ns'.map V.int)):=qH6;rw [<- hu];refine I.write (x:=D) (e:=D) (t':=s.toks) (by rw [qA1];exact trivial) (.inl rfl) (fun b u hb hbu=>?_) ⟨_,hat⟩ ?_
 ·rw [sortedHeap_old hb (Heap.lt_size hbu)];exact hbu
 ·refine ⟨?_,out.toList,e2,qE0 a1,by simpa using hat⟩
  rw [List.length_map,a2.length_eq,<- List.length_map (f:=V.int)];exact z
theorem qOA {Ab:List (Addr × Obj)} {s:Shared} {σ:St} {H:Hp} {vs:List Value} {ns:List Int} (I:Inv X Ab σ H s) (hv:IntsAre vs ns) (hz:ns.length<=sizeLine) :
  Inv X Ab σ (Ah H s.heap.objs.size (.lst (ns.map V.int))) { s with heap:=s.heap.push { cls:=.type "list",data:=.seq vs.toArray } }:=
 I.lnew (t':=s.toks) (qE0 hv) (by rw [List.length_map];exact hz)
theorem qF1 (hc:X.calm=true):qCV X (.builtin "sorted") (fun xs H Q=>∃ p ns,xs=[.ref p]/\(SqL X.K H p (ns.map V.int)\/SqT X.K H p (ns.map V.int)\/H p=some (SetO X.w p ns))/\ns.length<64/\
  ∀ (a:Addr) (ns':List Int),H a=none->ns'.Perm ns->ns'.Pairwise (·<=·)->Q (.ref a) (Ah H a (.lst (ns'.map V.int)))):=by
 intro Ab s σ H xs us Q I r h;obtain ⟨p,ns,rfl,hq,h64,q⟩:=h;obtain ⟨u,rfl,rx⟩:=qDB r;cases rx;refine Calls.call_function_entry kind_sorted plain_sorted entry_sorted (args_sorted1 _) ?_;unfold Builtin.«sorted»;refine wpAny_bind (m:=checkCount "sorted" 1 1 _) (wpAny_pure ?_);have fin:∀ (s1:Shared) (vs:List Value) (zs:List Int),Inv X Ab σ H s1->IntsAre vs zs->zs.Perm ns->wpAny (model X.prog X.w) X.A.in1 (do
   let l <- newList vs
   let _ <- holding [l] (call (.builtin "list.sort") [l] [])
   ret l) (fun fin s'=>∃ r,fin=.done (.ret r)/\EP X Ab σ Q r s') X.xe s1:=by
  intro s1 vs zs I1 hv hp;have hlen:=IntsAre.length hv;have hz:zs.length<=sizeLine:=by rw [hp.length_eq,sizeLine_eq];lia
  refine wpAny_bind (wpAny_newList ?_ (by rw [hlen];exact hz))
  have hf:=I1.hok.fresh (Nat.le_refl s1.heap.objs.size);refine wpAny_bind (wpAny_holding (wpAny_mono (qRH (E:=X.xe) (vs:=vs) (qOA I1 hv hz) hf (by rw [hp.length_eq];exact h64) fun ns' a b=>q _ ns' hf (a.trans hp) b) (fun _ s' x=>?_) fun _ _ e=>e))
  exact wpAny_pure ⟨_,rfl,x⟩
 rcases hq with hq | hq | hq
 ·obtain ⟨its,rv,pl,hz⟩:=I.list hq;obtain ⟨o,ho,hc',n,hd⟩:=pl.isList;have hlen:=rv.length;refine wpAny_bind (wpAny_collect_seq p (.inl rfl) ho hc' hd (fun h' hk=>?_) (by simp;lia))
  exact fin _ _ ns (I.kept (t':=s.toks) hk) (by simpa using qBW rv) (.refl _)
 ·obtain ⟨its,rv,pl,hz⟩:=I.tuple hq;obtain ⟨o,ho,hc',n,hd⟩:=pl;have hlen:=rv.length;refine wpAny_bind (wpAny_collect_seq p (.inr rfl) ho hc' hd (fun h' hk=>?_) (by simp;lia))
  exact fin _ _ ns (I.kept (t':=s.toks) hk) (by simpa using qBW rv) (.refl _)
 ·obtain ⟨hS,_,_⟩:=(show ObjOk X.prog X.w H s.heap p (.ext (SetI X.w p ns)) from I.hok p _ hq);obtain ⟨es,ep,t,ks,e,T,he,hp,hnd,h4⟩:=hS;have hsz:es.size=ns.length:=SetI.size (a:=p) (h:=s.heap) he hp;obtain ⟨ks',h1,h2⟩:=he.perm (qDY X.w p ep es);refine wpAny_bind (PySem.W.kdu_collect (A:=X.A.in1) (qVJ (ep:=ep) T (by lia)) (I.ok.hd hc) e (by rw [hsz,sizeLine_eq];lia) fun h' tk acc hk hacc=>?_)
  refine fin _ _ ks' (I.kept (t':=tk) hk) ?_ (h2.trans hp);obtain ⟨l1,l2⟩:=hacc;have key:∀ {ks:List Int} {l:List (Int × Value)},Ents ks l->∀ vs:List Value,vs.length=l.length->(∀ (i:Nat) (v:Value),vs[i]?=some v->∃ e:Int × Value,l[i]?=some e/\v=e.2)->IntsAre vs ks:=by
   intro ks l h
   induction h with
   | nil=>
    intro vs hl _;have:vs=[]:=List.length_eq_zero_iff.mp hl;subst this;exact .nil
   | cons r t ih=>
    intro vs hl hv;cases vs with
    | nil=>simp at hl
    | cons v vs=>
     obtain ⟨tk,rfl⟩:=r;obtain ⟨e,he,rfl⟩:=hv 0 v rfl;simp at he;subst he;exact IntsAre.cons _ _ (ih vs (by simpa using hl) fun i v hi=>by simpa using hv (i+1) v (by simpa using hi))
  refine key h1 acc.toList ?_ fun i v hi=>l2 i v (by rw [<- Array.getElem?_toList];exact hi)
  rw [Array.length_toList,l1,(qDY X.w p ep es).length_eq,Array.length_toList]
end
end L2
namespace L2
open PySem PySem.Spec PyProof.Rows
section
variable {X:Cx}
noncomputable def qG9 (lo hi:Int):List V:=(List.range (hi - lo).toNat).map fun (i:Nat)=>V.int (lo+i)
theorem qQY:qCV X (.type "range") (fun xs H Q=>∃ i j,xs=[.int i,.int j]/\∀ p,H p=none->Q (.ref p) (Ah H p (.rng i j))):=by
 intro Ab s σ H xs us Q I r h;obtain ⟨i,j,rfl,q⟩:=h;obtain ⟨u,v,rfl,⟨t,rfl⟩,⟨t',rfl⟩⟩:=qNT r;refine call_range_2 ⟨.ref s.heap.objs.size,_,I.laid (fun b o e=>Heap.get?_push_of_some _ e) (Nat.le_refl _) ?_,rfl,q _ (I.hok.fresh (Nat.le_refl _))⟩;exact ⟨_,_,_,Heap.get?_push_size _ rfl⟩
theorem qRO {lo hi:Int} {n:Nat} {acc:List Value} (hn:n=(hi - lo).toNat) (hl:acc.length=n) (h:∀ (i:Nat) (v:Value),acc[i]?=some v->∃ t,v=.int (lo+i * 1) t):Vals (qG9 lo hi) acc:=by
 have key:∀ (m:Nat) (acc:List Value),acc.length=m->∀ lo:Int,(∀ (i:Nat) (v:Value),acc[i]?=some v->∃ t,v=.int (lo+i) t)->Vals ((List.range m).map fun (i:Nat)=>V.int (lo+i)) acc:=by
  intro m
  induction m with
  | zero=>
   intro acc hl lo h;have:acc=[]:=List.length_eq_zero_iff.mp hl;subst this;exact .nil
  | succ m ih=>
   intro acc hl lo h;cases acc with
   | nil=>simp at hl
   | cons v acc=>
    rw [List.range_succ_eq_map,List.map_cons,List.map_map];have h0:=h 0 v rfl;refine .cons h0 ?_;have h1:=ih acc (by simpa using hl) (lo+1) fun i v hi=>by
     have:=h (i+1) v (by simpa using hi)
     obtain ⟨t,e⟩:=this;refine ⟨t,?_⟩;rw [e];congr 1
     push_cast
     lia
    have e:((fun (i:Nat)=>V.int (lo+i)) ∘ Nat.succ)=fun (i:Nat)=>V.int (lo+1+i):=by
     funext i
     simp only [Function.comp];congr 1
     push_cast
     lia
    rw [e];exact h1
 unfold qG9;rw [<- hn];refine key n acc hl lo fun i v hi=>?_;obtain ⟨t,e⟩:=h i v hi;exact ⟨t,by rw [e,Int.mul_one]⟩
theorem qO3 (lo hi:Int):(qG9 lo hi).length=(hi - lo).toNat:=by unfold qG9;simp
theorem qXJ {lo hi:Int}:Builtin.Range.rangeSize lo hi 1=((hi - lo).toNat:Nat):=by rw [rangeSize_one];split <;> lia
theorem qK5 {prog:Program} {w:World} {A:Around} {E:Value->Shared->Prop} {s:Shared} {R:List Value->Shared->Prop} {r:Addr} {a b:Int} {t u v:Tok} {n:Nat} (hh:A.handled=none) (hr:IsRange s.heap r a b 1 t u v) (hsmall:Builtin.Range.small a b 1=true)
  (hn:Builtin.Range.rangeSize a b 1=n) (hlen:n<=2 ^ 24)
  (h:∀ (h':Heap) (tk:Nat) (acc:Array Value),(∀ b o,s.heap.get? b=some o->h'.get? b=some o)->ItemsOf (fun i v=>∃ t,v=.int (a+i * 1) t) acc n->R acc.toList { s with heap:=h',toks:=tk }) :
  wpAny (model prog w) A (collect (.ref r)) R E s:=by
 unfold collect;refine wpAny_bind (wpAny_runValue (codeAny_builtin entry_proto_collect' ?_));rw [Around.under_plainId PySem.F.plain_proto_collect _];show wpAny _ A.in1 (newList [] >>= fun l=>again (.builtin "list.__iadd__" ⟨[l,.ref r],[]⟩)) _ _ s;refine wpAny_bind (wpAny_newObj_type ?_);refine wpAny_pure ⟨plainId_quiet PySem.F.plain_list_iadd _,codeAny_builtin entry_list_iadd' ?_⟩;rw [Around.under_plainId PySem.F.plain_list_iadd _];have hS₁:(s.heap.push { cls:=.type "list",data:=.seq ([]:List Value).toArray }).get? s.heap.objs.size=some { cls:=.type "list",data:=.seq #[] }:=Heap.get?_push_size _ rfl;show wpAny _ A.in1 (Builtin.List.listExtendWith (.ref s.heap.objs.size) (.ref r) (.ref s.heap.objs.size)) _ _ _;have key:=wpAny_extend_range (prog:=prog) (w:=w) (A:=A) (s:={ s with heap:=s.heap.push { cls:=.type "list",data:=.seq ([]:List Value).toArray } })
  (R:=fun (q:Result) (s':Shared)=>∃ (h':Heap) (tk:Nat) (acc':Array Value) (c':Nat),q=.ok (.ret (.ref s.heap.objs.size))/\s'={ s with heap:=h',toks:=tk }/\
   (∀ b o,s.heap.get? b=some o->h'.get? b=some o)/\h'.get? s.heap.objs.size=some { cls:=.type "list",dict:=none,data:=.seq acc' c',slots:=#[] }/\ItemsOf (fun i v=>∃ t,v=.int (a+i * 1) t) acc' n)
  hh (Heap.get?_push_of_some _ hr) hsmall hn hlen s.heap.objs.size (.ref s.heap.objs.size) 0 hS₁
  (fun h' tk acc' c' hk hS' hacc=>⟨h',tk,acc',c',rfl,rfl,fun b o e=>hk b o (Nat.ne_of_lt (Heap.lt_size e)) (Heap.get?_push_of_some _ e),hS',hacc⟩)
 refine wpAny_mono key (fun fin s' x=>?_) fun e s' x=>?_
 ·cases fin with
  | done f=>
   obtain ⟨h',tk,acc',c',e,rfl,hk,hS',hacc⟩:=x;cases e;show wpAny _ A (load s.heap.objs.size >>= _) _ _ _;refine wpAny_bind (wpAny_load hS' ?_);exact wpAny_pure (h h' tk acc' hk hacc)
  | again c₁=>
   refine ⟨x.1,codeAny_mono x.2 fun q s₂ y=>?_⟩;obtain ⟨h',tk,acc',c',rfl,rfl,hk,hS',hacc⟩:=y;show wpAny _ A (load s.heap.objs.size >>= _) _ _ _;refine wpAny_bind (wpAny_load hS' ?_);exact wpAny_pure (h h' tk acc' hk hacc)
 ·obtain ⟨_,_,_,_,e',_⟩:=x;cases e'
theorem qLU {prog:Program} {w:World} {A:Around} {E:Value->Shared->Prop} {s:Shared} {Q:Value->Shared->Prop} {r:Addr} {a b:Int} {t u v:Tok} {n:Nat} (hh:A.handled=none) (hr:IsRange s.heap r a b 1 t u v) (hsmall:Builtin.Range.small a b 1=true)
  (hn:Builtin.Range.rangeSize a b 1=n) (hlen:n<=2 ^ 24)
  (h:∀ (h':Heap) (tk:Nat) (acc:Array Value),(∀ b o,s.heap.get? b=some o->h'.get? b=some o)->ItemsOf (fun i v=>∃ t,v=.int (a+i * 1) t) acc n->Q (.ref h'.objs.size) { s with heap:=h'.push { cls:=.type "tuple",data:=.seq acc },toks:=tk }) :
  wpAny (model prog w) A (call (.type "tuple") [.ref r]) Q E s:=by
 have hcode:codeAny (model prog w) A.in1 (.call (.builtin "tuple.__new__") ⟨[.type "tuple",.ref r],[]⟩) (wants (fun obj s₁=>s₁.TypeIs obj "tuple"/\Q obj s₁) E) s:=by
  refine codeAny_of_tree ?_;show wpAny _ A.in1.in1 (do checkBuiltinCall "tuple.__new__" ⟨[.type "tuple",.ref r],[]⟩;again (.builtin "tuple.__new__" ⟨[.type "tuple",.ref r],[]⟩)) _ _ s
  refine wpAny_bind (wpAny_of_eq (F.newCall_tuple_1 _) (wpAny_pure ⟨plainId_quiet F.plain_tuple_new _,codeAny_builtin F.entry_tuple_new ?_⟩));rw [Around.under_plainId F.plain_tuple_new _];have hsub:=sub_tuple_self;have hinit:=init_tuple_lookup;have hmh:=madeHere_tuple;have hTI:s.TypeIs (.ref r) "range":=⟨_,hr,rfl⟩
  wp_walk using wpAny_typeOf hTI,qK5 (prog:=prog) (w:=w) (A:=A.in1.in1) hh hr hsmall hn hlen
  intro h' tk acc hk hacc;show wpAny _ _ (Builtin.Tuple.tupleExact acc.toList.toArray >>= fun v=>ret v) _ _ _;unfold Builtin.Tuple.tupleExact;refine wpAny_bind (wpAny_newObj_type ?_ (by show acc.toList.toArray.size<=sizeLine;simp only [Array.toArray_toList];rw [hacc.1,sizeLine_eq];lia))
  refine wpAny_pure ?_;have e:acc.toList.toArray=acc:=by simp
  rw [e];exact ⟨⟨_,Heap.get?_push_size _ rfl,rfl⟩,h h' tk acc hk hacc⟩
 refine callType_codes (Q₁:=fun obj s₁=>s₁.TypeIs obj "tuple"/\Q obj s₁) F.called_tuple (F.typeCall_tuple_1 _) F.entry_object_init hcode fun obj s₁ h₁=>?_;exact ⟨h₁.1,F.args_object_init_2 obj _,object_init_meets F.called_tuple.init.lookup F.called_tuple.made (by decide) prog w A.in1 _ s₁ ⟨h₁.1,rfl,h₁.2⟩⟩
theorem qIN (hc:X.calm=true):qCV X (.type "tuple") (fun xs H Q=>∃ p lo hi,xs=[.ref p]/\H p=some (.rng lo hi)/\-1000000<=lo/\lo<=1000000/\-1000000<=hi/\hi<=1000000/\∀ l,H l=none->Q (.ref l) (Ah H l (.tup (qG9 lo hi)))):=by
 intro Ab s σ H xs us Q I r h;obtain ⟨p,lo,hi,rfl,hp,l1,l2,l3,l4,q⟩:=h;obtain ⟨u,rfl,rx⟩:=qDB r;cases rx;obtain ⟨t,u,v,e⟩:=(show ∃ t u v,s.heap.get? p=some { cls:=.type "range",data:=.fields #[.int lo t,.int hi u,.int 1 v] } from I.hok p _ hp);refine qLU (n:=(hi - lo).toNat) (I.ok.hd hc) (show IsRange s.heap p lo hi 1 t u v from e) (small_one (by lia) (by lia) (by lia) (by lia)) qXJ (by lia) fun h' tk acc hk hacc=>?_
 obtain ⟨a1,a2⟩:=hacc;have I1:Inv X Ab σ H { s with heap:=h',toks:=tk }:=I.kept hk;refine ⟨.ref h'.objs.size,_,I1.laid (t':=tk) (fun b o e=>Heap.get?_push_of_some _ e) (Nat.le_refl _) (show ObjOk X.prog X.w _ _ _ (.tup (qG9 lo hi)) from ⟨?_,acc.toList,qRO rfl (by simpa using a1) fun i v hi=>a2 i v (by rw [<- Array.getElem?_toList];exact hi),?_⟩),rfl,q _ (I1.hok.fresh (Nat.le_refl _))⟩
 ·rw [qO3,sizeLine_eq]
  lia
 ·have:=IsTup.new h' acc;simpa using this
theorem qO2:∀ (bs:List Bool),((List.range bs.length).all fun i=>(bs[i]?).getD true)=bs.all id:=by
 intro bs;rw [Bool.eq_iff_iff,List.all_eq_true,List.all_eq_true]
 constructor
 ·intro h b hb;obtain ⟨i,hi,e⟩:=List.mem_iff_getElem.mp hb;have:=h i (List.mem_range.mpr hi);rw [List.getElem?_eq_getElem hi,e] at this;exact this
 ·intro h i hi;have hi':=List.mem_range.mp hi;rw [List.getElem?_eq_getElem hi'];exact h _ (List.getElem_mem hi')
theorem qNP (hc:X.calm=true):qCV X (.builtin "all") (fun xs H Q=>∃ (p:Addr) (bs:List Bool),xs=[.ref p]/\SqL X.K H p (bs.map V.bl)/\Q (.bl (bs.all id)) H):=by
 intro Ab s σ H xs us Q I r h;obtain ⟨p,bs,rfl,hq,q⟩:=h;obtain ⟨u,rfl,rx⟩:=qDB r;cases rx;obtain ⟨its,rv,pl,hz⟩:=I.list hq;have hl:=pl.isList;have hlt:p<s.heap.objs.size:=by obtain ⟨_,e,_⟩:=hl;exact Heap.lt_size e
 have hlen:=rv.length;rw [List.length_map] at hlen;refine call_all_walk (wpAny_pyIter_list hl ?_);refine ⟨s.heap.objs.size,[s.heap.objs.size,p],[s.heap.objs.size],its.toArray.size,_,_,fun i=>(bs[i]?).getD true,rfl,Walks.list (A:=X.A.in1) (I.ok.hd hc) _ p (Nat.ne_of_lt hlt) its.toArray,
  ⟨⟨_,Heap.get?_push_size _ rfl,rfl,rfl⟩,hl.push _⟩,fun i v s' Q' E' hP hQ=>?_,fun h' tk hk=>?_⟩
 ·have hP':its[i]?=some v:=by simpa using hP
  have hi:i<bs.length:=by rw [hlen];exact (List.getElem?_eq_some_iff.mp hP').1
  obtain ⟨u,hu,ru⟩:=rv.get (i:=i) (x:=.bl bs[i]) (by rw [List.getElem?_map,List.getElem?_eq_getElem hi];rfl)
  rw [hP'] at hu;cases hu;cases ru;dsimp only at hQ;rw [List.getElem?_eq_getElem hi,Option.getD_some] at hQ;exact wpAny_truthy_bool hQ
 ·have e:((List.range its.toArray.size).all fun i=>(bs[i]?).getD true)=bs.all id:=by
   rw [List.size_toArray,<- hlen];exact qO2 bs
  refine ⟨.bl (bs.all id),H,I.kept fun b x e=>hk b x (fun hm=>by rw [List.mem_singleton.mp hm] at e;exact Nat.lt_irrefl _ (Heap.lt_size e)) (Heap.get?_push_of_some _ e),?_,q⟩
  rw [e]
  rfl
theorem qB1:qCV X (.builtin "isinstance") (fun xs H Q=>∃ x T t b,xs=[x,.ty T]/\TyOf X.K H x t/\PySem.W.kitOne X.K t (.type T)=some b/\Q (.bl b) H):=by
 intro Ab s σ H xs us Q I r h;obtain ⟨x,T,t,b,rfl,ht,hk,q⟩:=h;obtain ⟨u,v,rfl,r1,r2⟩:=qNT r;cases r2;exact qQ5 I r1 ht hk fun tk=>⟨.bl b,H,I.tok _,rfl,q⟩
theorem qHG (hu:X.A.units<cLine):OpR X (compareOp .Eq) (fun x y H Q=>∃ p l xs,x=.ref p/\y=.ref l/\SqL X.K H p xs/\SqL X.K H l []/\Q (.bl xs.isEmpty) H):=by
 intro Ab s σ H x y v u Q I rx ry h;obtain ⟨p,l,xs,rfl,rfl,h1,h2,q⟩:=h;cases rx;cases ry;obtain ⟨its,r1,p1,z1⟩:=I.list h1;obtain ⟨its2,r2,p2,z2⟩:=I.list h2;cases r2;cases xs with
 | nil=>
  cases r1;exact SeqAt.eq_listAt (e:=fun _=>true) p1.isList p2.isList rfl hu (fun j h _=>absurd h (by simp)) ⟨.bl true,H,I,rfl,q⟩
 | cons a r=>
  cases r1;exact SeqAt.eq_list_lengthsAt p1.isList p2.isList (by simp) hu ⟨.bl false,H,I,rfl,q⟩
end
theorem qLJ {X:Cx} {K:PySem.W.Frag} {w:World} (hK:X.K=K) (hw:X.w=w) (hc:X.calm=true):qCV X (.builtin "sorted") (fun xs H Q=>∃ p ns,xs=[.ref p]/\(SqL K H p (ns.map V.int)\/SqT K H p (ns.map V.int)\/H p=some (SetO w p ns))/\ns.length<64/\
  ∀ (a:Addr) (ns':List Int),H a=none->ns'.Perm ns->ns'.Pairwise (·<=·)->Q (.ref a) (Ah H a (.lst (ns'.map V.int)))):=by subst hK hw;exact qF1 hc
theorem qQX {X:Cx} {K:PySem.W.Frag} {w:World} (hK:X.K=K) (hw:X.w=w) (hc:X.calm=true):qCV X (.type "set") (fun xs H Q=>∃ p ns,xs=[.ref p]/\SqL K H p (ns.map V.int)/\ns.length<=4/\∀ a,H a=none->Q (.ref a) (Ah H a (SetO w a (dedI ns)))):=by subst hK hw;exact qK6 hc
end L2
namespace L2
open PySem PySem.Spec PyProof.Rows
def Ite (K:PySem.W.Frag) (l:Addr):It:=
 ⟨fun i H=>∃ xs x,SqL K H l xs/\xs[i]?=some x,fun i H v H'=>∃ T x,H T=none/\v=.ref T/\H'=Ah H T (.tup [.int (i:Int),x])/\∀ xs,SqL K H l xs->xs[i]?=some x,fun i H=>∃ xs,SqL K H l xs/\xs.length<=i⟩
section
variable {X:Cx}
theorem Inv.turnedL {Ab:List (Addr × Obj)} {s:Shared} {σ:St} {H:Hp} {h':Heap} {t':Nat} {ch:List Addr} (I:Inv X Ab σ H s) (k:∀ b o,b ∉ ch->s.heap.get? b=some o->h'.get? b=some o) (hc:∀ b ∈ ch,FpOk X Ab H b):Inv X Ab σ H { s with heap:=h',toks:=t' }:=by
 have nit:∀ b u,H b=some u->b ∉ ch:=fun b u e z=>by rw [(hc b z).1] at e;cases e
 refine I.step (g':=s.gens) (d':=s.drawn) (ch:=ch) (fun b hb=>⟨(hc b hb).2.2.2.1,(hc b hb).2.1,(hc b hb).2.2.2.2.1,(hc b hb).2.2.2.2.2⟩) (fun b o _ _ hc' e _=>k b o hc' e) (fun b o _ _ hc' e _=>⟨o.slots,k b o hc' e⟩) (fun _ _ _ _ n=>n)
  (fun b o hc' e=>⟨o,k b o hc' e⟩) (fun _ _ e=>e) (fun _ _ _ e=>e) (fun _ _ e=>e) (fun m hm=>?_) (fun b u e=>?_) I.bare
 ·obtain ⟨o,es,ep,ho,r⟩:=hm;exact ⟨o,es,ep,k _ o (fun z=>(hc _ z).2.1 rfl) ho,r⟩
 ·refine (I.hok b u e).stay (fun c v hc' q=>k c v ?_ q) (fun _ q=>q) fun _ _ q=>q;rcases hc' with z | z
  ·rw [z];exact nit b u e
  ·exact nit c _ z
theorem qOV {P:Program} {w:World} {K:PySem.W.Frag} {elts:List Expr} {k:Nat} {pos:Pos} (l it e:Addr) (hne:e ≠ it):Turn P w K (.Tuple elts k pos) (Ite K l) [e,it] e (fun i h=>(∃ old,IsEnum h e it i old)/\h.IsListIter it l i) where
 mem:=by simp
 obj:=fun i h st b hb=>by
  obtain ⟨⟨old,h1⟩,o,h2,_,h4⟩:=st;have e':b=e\/b=it:=by simpa using hb
  rcases e' with rfl | rfl
  ·exact ⟨_,h1,fun v z=>by
    have z':Data.fields _=Data.cell v:=z;cases z'⟩
  ·exact ⟨o,h2,fun v z=>by rw [h4] at z;cases z⟩
 keep:=fun i h h' st kk=>by
  obtain ⟨⟨old,h1⟩,h2⟩:=st;exact ⟨⟨old,kk e (by simp) _ h1⟩,h2.at fun o q=>kk it (by simp) o q⟩
 item:=by
  intro X hP hw hK hc i Ab s σ H E I hf st hg;subst hP hw hK;obtain ⟨xs,x,hq,hx⟩:=hg;obtain ⟨its,rv,p,hz⟩:=I.list hq;obtain ⟨u,hu,ru⟩:=rv.get hx;obtain ⟨⟨old,h1⟩,h2⟩:=st;refine wpAny_pyNext_enum_item h1 h2 p.isList (x:=u) (by simpa using hu) hne fun h' a1 a2 a3 a4 a5=>?_
  refine ⟨_,rfl,wpAny_letOwnedTupleGo_enum a1 fun h2 b1 b2=>?_⟩;have ltE:e<s.heap.objs.size:=Heap.lt_size h1;have I1:Inv X Ab σ H { s with heap:=h2,toks:=s.toks+1 }:=I.turnedL (ch:=[e,it]) (fun b o hb q=>by
   have hb1:b ≠ e:=fun z=>hb (by simp [z])
   have hb2:b ≠ it:=fun z=>hb (by simp [z])
   exact (b2.2 b hb1).trans (a5 b o hb1 hb2 q)) hf
  have hT:H s.heap.objs.size=none:=I.hok.fresh (Nat.le_refl _);have fT:=I.fpOk (H':=H) (b:=s.heap.objs.size) (Nat.le_refl _) hT;have gT:h2.get? s.heap.objs.size=some { cls:=.type "tuple",data:=.seq #[.int i s.toks,u] }:=(b2.2 _ (Nat.ne_of_gt ltE)).trans a3;refine ⟨.ref s.heap.objs.size,Ah H s.heap.objs.size (.tup [.int (i:Int),x]),I1.track hT I.sz fT.2.1 fT.2.2.2.2.1 fT.2.2.2.2.2 ⟨by simp only [List.length_cons,List.length_nil];rw [sizeLine_eq];decide,[.int (i:Int) s.toks,u],.cons ⟨_,rfl⟩ (.cons ru .nil),⟨_,gT,rfl,_,rfl⟩⟩,rfl,
   ⟨_,x,hT,rfl,rfl,fun ys hy=>by rw [I.list_inj hy hq];exact hx⟩,⟨⟨_,b1⟩,a2.at fun o q=>(b2.2 it (Ne.symm hne)).trans q⟩,fun b hb=>?_⟩
  have ltb:b<s.heap.objs.size:=by
   have e':b=e\/b=it:=by simpa using hb
   rcases e' with rfl | rfl
   ·exact ltE
   ·obtain ⟨o,q,_⟩:=h2;exact Heap.lt_size (by assumption)
  rw [qA8 (Nat.ne_of_lt ltb)];exact (hf b hb).1
 done:=by
  intro X hP hw hK hc i Ab s σ H E I hf st hg;subst hP hw hK;obtain ⟨xs,hq,hx⟩:=hg;obtain ⟨its,rv,p,hz⟩:=I.list hq;have hl:=rv.length;obtain ⟨⟨old,h1⟩,h2⟩:=st;exact wpAny_pyNext_enum_end (I.ok.hd hc) h1 h2 p.isList (by simp;lia) fun h' eb=>⟨rfl,I.turnedL (t':=s.toks) (ch:=[e,it]) (fun b o hb q=>eb b o (fun z=>hb (by simp [z])) q) hf⟩
 self:=fun _ _ _ _ _ st h=>by
  obtain ⟨⟨old,h1⟩,h2⟩:=st;exact wpAny_pyIter_enum h1 h
def qY1 (K:PySem.W.Frag) (ta:TA):TI:=fun σ H R=>ta σ H fun vs H1=>∃ l,vs=[.ref l]/\(∃ xs,SqL K H1 l xs)/\R (Ite K l) H1
theorem qU1 {elts:List Expr} {k:Nat} {tpos:Pos} {a:Expr} {ta:TA} {p pos:Pos} (hg:Gl X "enumerate") (hm:X.mg "enumerate" = none) (hv:bootBuiltins "enumerate" = some (.type "enumerate")) (ha:PA X [a] ta) (hs:starEach [a] X.env=[(false,eval a X.env)]:=by rfl) :
  PI X (.Tuple elts k tpos) (.Call (.Name "enumerate" p) [a] [] pos) (qY1 X.K ta):=by
 intro Ab s σ H R I h;refine Call_ (qGC I hg hm hv (PyProof.Rows.callWith_type1 (thn (ha pos Ab s σ H _ I h) fun us s1 ⟨vs,H1,I1,r1,q1⟩=>?_) hs rfl));obtain ⟨l,e,⟨xs,hq⟩,q⟩:=q1;subst e;obtain ⟨u,rfl,rx⟩:=qDB r1;cases rx;obtain ⟨its,rv,pl,hz⟩:=I1.list hq;refine call_enumerate_list pl.isList fun h' he hi hsz hk=>?_;refine wpAny_pyIter_enum he ?_;have I2:Inv X Ab σ H1 { s1 with heap:=h' }:=I1.kept (t':=s1.toks) hk;refine ⟨s1.heap.objs.size+1,[s1.heap.objs.size+1,s1.heap.objs.size],_,_,H1,rfl,I2,qOV l s1.heap.objs.size (s1.heap.objs.size+1) (Nat.succ_ne_self _),⟨⟨_,he⟩,hi⟩,fun b hb=>?_,q⟩;have e':b=s1.heap.objs.size+1\/b=s1.heap.objs.size:=by simpa using hb
 rcases e' with rfl | rfl
 ·exact I1.fpOk (Nat.le_succ _) (I1.hok.fresh (Nat.le_succ _))
 ·exact I1.fpOk (Nat.le_refl _) (I1.hok.fresh (Nat.le_refl _))
end
theorem qUE {K:PySem.W.Frag} {a:Addr} {xs:List V} {g:TG} {tc:TT} {te:TE} {Kf:Hp->Prop} {σ0:St} {H0:Hp} {p:Addr} (Pv:Nat->St->Hp->Prop) (h0:Pv 0 σ0 H0) (hl:∀ i σ H,i<=xs.length->Pv i σ H->SqL K H a xs)
  (hs:∀ i x σ H T,xs[i]?=some x->Pv i σ H->H T=none->g (.ref T) σ (Ah H T (.tup [.int (i:Int),x])) fun σ2 H2=>tc σ2 H2 fun b H3=>if b=true then te σ2 H3 fun y H4=>∃ ys,H4 p=some (.lst ys)/\ys.length<sizeLine/\Pv (i+1) σ2 (Ah H4 p (.lst (ys++[y]))) else Pv (i+1) σ2 H3)
  (hd:∀ σ H,Pv xs.length σ H->Kf H) :
  LcG (Ite K a) g tc te Kf σ0 H0 p:=by
 refine ⟨fun i m σ H=>m=xs.length - i/\i<=xs.length/\Pv i σ H,⟨xs.length,by simp,Nat.zero_le _,h0⟩,?_⟩
 rintro i m σ H ⟨rfl,hi,q⟩;have hq:=hl i σ H hi q;by_cases hlt:i<xs.length
 ·refine .inr ⟨⟨xs,xs[i],hq,by simp [hlt]⟩,Pv (i+1),fun σ' H' p'=>⟨xs.length - (i+1),by lia,rfl,hlt,p'⟩,fun v H' y=>?_⟩
  obtain ⟨T,x,hT,e1,e2,y⟩:=y;subst e1 e2;exact hs i x σ H T (y xs hq) q hT
 ·have e:i=xs.length:=by lia
  subst e;exact .inl ⟨⟨xs,hq,Nat.le_refl _⟩,hd σ H q⟩
end L2
namespace L2
open PySem PySem.Spec PyProof.Rows
theorem qFZ {prog:Program} {w:World} {A:Around} {E:Value->Shared->Prop} {s:Shared} {it t:Addr} {i:Nat} {Ae:Array Value} {x:Value} {Q:Value->Shared->Prop} (hit:s.heap.IsTupleIter it t i) (ht:s.heap.IsTuple t Ae) (hx:Ae[i]?=some x)
  (hQ:∀ h':Heap,h'.IsTupleIter it t (i+1)->Heap.SameBut it s.heap h'->Q x { s with heap:=h' }):wpAny (model prog w) A (Builtin.SmallTypes.nextOf (.ref it)) Q E s:=by
 obtain ⟨o,ho,hc,hd⟩:=id hit;obtain ⟨ol,hol,_,nl,hdl⟩:=ht;refine wpAny_bind (wpAny_callSpecial?_slot hit.typeIs F.slot_tuple_iterator_next (wpAny_call_entry F.slot_tuple_iterator_next hit.typeIs F.entry_tuple_iterator_next ?_ (F.args_tuple_iterator_next_1 _)));show wpAny _ _ (field (.ref it) 0 >>= _) _ _ _;refine wpAny_bind (wpAny_field ho hd rfl ?_);refine wpAny_ite_false rfl ?_;show wpAny _ _ (field (.ref it) 1 >>= _) _ _ _;refine wpAny_bind (wpAny_field ho hd rfl ?_);show wpAny _ _ (seqItems? (.ref t) >>= _) _ _ _;refine wpAny_bind (wpAny_seqItems hol hdl ?_);show wpAny _ _ (match Ae[i]? with | some x=>_ | none=>_) _ _ _
 rw [hx];refine wpAny_bind (wpAny_setField ho hd (by simp) ?_)
 refine wpAny_pure ⟨x,rfl,wpAny_pure (hQ _ ⟨_,Heap.get?_update_self _ ho (Obj.isFreed_of_fields (Obj.data_mapFields hd _)),(Obj.cls_mapFields o _).trans hc,?_⟩ (Heap.SameBut.update _ _ _))⟩;rw [Obj.data_mapFields hd];simp
 rfl
theorem qGL {prog:Program} {w:World} {A:Around} {E:Value->Shared->Prop} {s:Shared} {it t:Addr} {i:Nat} {Ae:Array Value} {Q:Value->Shared->Prop} (hh:A.handled=none) (hit:s.heap.IsTupleIter it t i) (ht:s.heap.IsTuple t Ae) (hx:Ae[i]?=none)
  (hE:∀ (h':Heap) (e:Addr),Heap.ExtBut it s.heap h'->(∃ o,h'.get? e=some o/\o.cls=.type "StopIteration")->E (.ref e) { s with heap:=h' }):wpAny (model prog w) A (Builtin.SmallTypes.nextOf (.ref it)) Q E s:=by
 obtain ⟨o,ho,hc,hd⟩:=id hit;obtain ⟨ol,hol,_,nl,hdl⟩:=ht;refine wpAny_bind (wpAny_callSpecial?_slot hit.typeIs F.slot_tuple_iterator_next (wpAny_call_entry F.slot_tuple_iterator_next hit.typeIs F.entry_tuple_iterator_next ?_ (F.args_tuple_iterator_next_1 _)));show wpAny _ _ (field (.ref it) 0 >>= _) _ _ _;refine wpAny_bind (wpAny_field ho hd rfl ?_);refine wpAny_ite_false rfl ?_;show wpAny _ _ (field (.ref it) 1 >>= _) _ _ _;refine wpAny_bind (wpAny_field ho hd rfl ?_);show wpAny _ _ (seqItems? (.ref t) >>= _) _ _ _;refine wpAny_bind (wpAny_seqItems hol hdl ?_);show wpAny _ _ (match Ae[i]? with | some x=>_ | none=>_) _ _ _
 rw [hx];refine wpAny_bind (wpAny_rule ?_);refine wpAny_bind (wpAny_setField ho hd (by simp) ?_)
 show wpAny _ _ (newExc (.type "StopIteration") [] >>= _) _ _ _;refine wpAny_bind ?_;simp only [newExc,newTuple];refine wpAny_bind (wpAny_newObj_type ?_ (by size_fits))
 refine wpAny_bind (m:=firstArgMember _ _) (wpAny_of_eq (a:=Value.none) (by first | rfl | (simp only [firstArgMember];rfl)) ?_)
 refine wpAny_newObj_type ?_ (by size_fits)
 simp only [raiseNew];refine wpAny_bind (wpAny_handled ?_);rw [show A.in1.handled=none from hh];refine wpAny_bind (wpAny_pure (wpAny_throw ?_));exact hE _ _ (((Heap.SameBut.update ..).extBut.push _).push _) ⟨_,Heap.get?_push_size _ rfl,rfl⟩
def SIt (b:Bool) (h:Heap) (it l:Addr) (i:Nat):Prop:=match b with | true=>h.IsTupleIter it l i | false=>h.IsListIter it l i
def SSq (b:Bool) (h:Heap) (l:Addr) (xs:Array Value):Prop:=match b with | true=>h.IsTuple l xs | false=>h.IsList l xs
theorem SIt.at {b:Bool} {h h':Heap} {it l:Addr} {i:Nat} (q:SIt b h it l i) (k:∀ o,h.get? it=some o->h'.get? it=some o):SIt b h' it l i:=by
 cases b
 ·exact Heap.IsListIter.at q k
 ·exact Heap.IsTupleIter.at q k
theorem SSq.at {b:Bool} {h h':Heap} {l:Addr} {xs:Array Value} (q:SSq b h l xs) (k:∀ o,h.get? l=some o->h'.get? l=some o):SSq b h' l xs:=by
 cases b
 ·obtain ⟨o,e,r⟩:=q;exact ⟨o,k o e,r⟩
 ·obtain ⟨o,e,r⟩:=q;exact ⟨o,k o e,r⟩
theorem qEQ {b:Bool} {prog:Program} {w:World} {A:Around} {E:Value->Shared->Prop} {s:Shared} {it t:Addr} {i:Nat} {Ae:Array Value} {x:Value} {Q:Value->Shared->Prop} (hit:SIt b s.heap it t i) (ht:SSq b s.heap t Ae) (hx:Ae[i]?=some x)
  (hQ:∀ h':Heap,SIt b h' it t (i+1)->Heap.SameBut it s.heap h'->Q x { s with heap:=h' }):wpAny (model prog w) A (Builtin.SmallTypes.nextOf (.ref it)) Q E s:=by
 cases b
 ·exact wpAny_nextOf_list_item hit ht hx hQ
 ·exact qFZ hit ht hx hQ
theorem qIU {b:Bool} {prog:Program} {w:World} {A:Around} {E:Value->Shared->Prop} {s:Shared} {it t:Addr} {i:Nat} {Ae:Array Value} {Q:Value->Shared->Prop} (hh:A.handled=none) (hit:SIt b s.heap it t i) (ht:SSq b s.heap t Ae) (hx:Ae[i]?=none)
  (hE:∀ (h':Heap) (e:Addr),Heap.ExtBut it s.heap h'->(∃ o,h'.get? e=some o/\o.cls=.type "StopIteration")->E (.ref e) { s with heap:=h' }):wpAny (model prog w) A (Builtin.SmallTypes.nextOf (.ref it)) Q E s:=by
 cases b
 ·exact wpAny_nextOf_list_end hh hit ht hx hE
 ·exact qGL hh hit ht hx hE
theorem qOQ {b b':Bool} {prog:Program} {w:World} {A:Around} {E:Value->Shared->Prop} {s:Shared} {z TI TO i1 i2 l1 l2:Addr} {k1 k2:Nat} {xs ys:Array Value} {x y a c:Value} {Q:Value->Shared->Prop} (D:ZipApart z TI TO i1 i2 l1 l2) (hz:IsZip s.heap z TI TO .none) (hTI:IsPair s.heap TI (.ref i1) (.ref i2)) (hTO:IsPair s.heap TO a c)
  (h1:SIt b s.heap i1 l1 k1) (h2:SIt b' s.heap i2 l2 k2) (hl1:SSq b s.heap l1 xs) (hl2:SSq b' s.heap l2 ys) (hx:xs[k1]?=some x) (hy:ys[k2]?=some y)
  (hQ:∀ h':Heap,IsZip h' z TI TO (rawInt (s.heap.objs.size:Int))->IsPair h' TO x y->SIt b h' i1 l1 (k1+1)->SIt b' h' i2 l2 (k2+1)->IsPair h' s.heap.objs.size x y->h'.objs.size=s.heap.objs.size+1->
   (∀ (c:Addr) (o:Obj),c ≠ z->c ≠ TO->c ≠ i1->c ≠ i2->s.heap.get? c=some o->h'.get? c=some o)->Q (.ref s.heap.objs.size) { s with heap:=h' }) :
  wpAny (model prog w) A (Builtin.«zip.__next__» { pos:=[.ref z] }) (fun fin s'=>∃ v,fin=.done (.ret v)/\Q v s') E s:=by
 show wpAny _ _ (field (.ref z) 2 >>= _) _ _ _;refine wpAny_bind (wpAny_field hz rfl rfl ?_);show wpAny _ _ (field (.ref z) 3 >>= _) _ _ _;refine wpAny_bind (wpAny_field hz rfl rfl ?_);refine wpAny_bind (wpAny_seqItems hTI rfl ?_);show wpAny _ _ (Builtin.SmallTypes.ownedTupleIsFree (.ref z) >>= _) _ _ _;refine wpAny_bind ?_;show wpAny _ _ (field (.ref z) 0 >>= _) _ _ _;refine wpAny_bind (wpAny_field hz rfl rfl (wpAny_pure ?_));refine wpAny_ite_true rfl ?_;refine wpAny_bind (wpAny_rule ?_);refine wpAny_bind (wpAny_field hz rfl rfl ?_);refine wpAny_bind (wpAny_setField_rec hz (by simp) fun hA gz sb=>?_)
 refine wpAny_bind ?_;show wpAny _ _ (forIn [(Value.ref i1,0),(Value.ref i2,1)] _ _) _ _ _;rw [List.forIn_cons];refine wpAny_bind ?_;dsimp only;refine wpAny_bind (wpAny_onRaise ?_);have e:((#[Value.none,Value.bool false,Value.bool false,Value.ref TI,Value.ref TO][2] == Value.bool true)=false):=rfl;rw [e];have sA1:SIt b hA i1 l1 k1:=h1.at fun o q=>(sb.2 _ D.i1z).trans q;have sL1:SSq b hA l1 xs:=hl1.at fun o q=>(sb.2 _ D.l1z).trans q;refine wpAny_bind (qEQ (s:={ s with heap:=hA }) sA1 sL1 hx fun hB nB sB=>?_);refine wpAny_pure ?_;have tB:IsPair hB TO a c:=(sB.2 _ D.TOi1).trans ((sb.2 _ D.TOz).trans hTO);refine wpAny_bind (wpAny_seqItems tB rfl ?_);refine wpAny_bind (wpAny_updateSeq_pair tB fun hC tC sC=>?_);refine wpAny_bind (wpAny_letGo (wpAny_pure ?_));dsimp only;rw [List.forIn_cons];refine wpAny_bind ?_;refine wpAny_bind (wpAny_onRaise ?_);have sC2:SIt b' hC i2 l2 k2:=h2.at fun o q=>(sC.2 _ (Ne.symm D.TOi2)).trans ((sB.2 _ (Ne.symm D.i12)).trans ((sb.2 _ D.i2z).trans q));have sL2:SSq b' hC l2 ys:=hl2.at fun o q=>(sC.2 _ D.l2TO).trans ((sB.2 _ D.l2i1).trans ((sb.2 _ D.l2z).trans q));refine wpAny_bind (qEQ (s:={ s with heap:=hC }) sC2 sL2 hy fun hD nD sD=>?_);refine wpAny_pure ?_;have tD:IsPair hD TO x c:=(sD.2 _ D.TOi2).trans tC;refine wpAny_bind (wpAny_seqItems tD rfl ?_);refine wpAny_bind (wpAny_updateSeq_pair tD fun hF tF sF=>?_);refine wpAny_bind (wpAny_letGo (wpAny_pure ?_));dsimp only;rw [List.forIn_nil];refine wpAny_pure ?_;dsimp only;have tF':IsPair hF TO x y:=tF;refine wpAny_bind (wpAny_seqItems tF' rfl ?_);refine wpAny_bind (wpAny_newTuple ?_ (by show 2<=sizeLine;decide))
 have gzF:hF.get? z=some { cls:=.type "zip",data:=.fields #[.ellipsis,.bool false,.bool false,.ref TI,.ref TO] }:=(sF.2 _ (Ne.symm D.TOz)).trans ((sD.2 _ (Ne.symm D.i2z)).trans ((sC.2 _ (Ne.symm D.TOz)).trans ((sB.2 _ (Ne.symm D.i1z)).trans gz)));have szF:hF.objs.size=s.heap.objs.size:=sF.1.trans (sD.1.trans (sC.1.trans (sB.1.trans sb.1)));have ltz:z<hF.objs.size:=Heap.lt_size gzF;have gzG:(hF.push { cls:=.type "tuple",data:=.seq #[x,y] }).get? z=some { cls:=.type "zip",data:=.fields #[.ellipsis,.bool false,.bool false,.ref TI,.ref TO] }:=Heap.get?_push_of_some _ gzF;refine wpAny_bind ?_;show wpAny _ _ (setField (.ref z) 0 (rawInt _) >>= _) _ _ _;refine wpAny_bind (wpAny_setField_rec gzG (by simp) fun hG gG sG=>?_)
 refine wpAny_setField_rec gG (by simp) fun hI gI sI=>?_
 refine wpAny_pure ⟨_,rfl,?_⟩;have o4:∀ (c:Addr) (o:Obj),c ≠ z->c ≠ TO->c ≠ i1->c ≠ i2->s.heap.get? c=some o->hI.get? c=some o:=fun c o n1 n2 n3 n4 e=>
  (sI.2 _ n1).trans ((sG.2 _ n1).trans (Heap.get?_push_of_some _ ((sF.2 _ n2).trans ((sD.2 _ n4).trans ((sC.2 _ n2).trans ((sB.2 _ n3).trans ((sb.2 _ n1).trans e)))))))
 have nz:hF.objs.size ≠ z:=Nat.ne_of_gt ltz;have gT:hI.get? hF.objs.size=some { cls:=.type "tuple",data:=.seq #[x,y] }:=(sI.2 _ nz).trans ((sG.2 _ nz).trans (Heap.get?_push_size _ rfl));have szI:hI.objs.size=hF.objs.size+1:=sI.1.trans (sG.1.trans (Heap.size_push ..));have pz:∀ {c:Addr} {o:Obj},c ≠ z->hF.get? c=some o->hI.get? c=some o:=fun n e=>(sI.2 _ n).trans ((sG.2 _ n).trans (Heap.get?_push_of_some _ e));have q:=hQ hI;rw [<- szF] at q;refine q gI (pz D.TOz tF') (nB.at fun o e=>pz D.i1z ((sF.2 _ (Ne.symm D.TOi1)).trans ((sD.2 _ D.i12).trans ((sC.2 _ (Ne.symm D.TOi1)).trans e)))) (nD.at fun o e=>pz D.i2z ((sF.2 _ (Ne.symm D.TOi2)).trans e)) gT szI o4
theorem qRC {b:Bool} {prog:Program} {w:World} {A:Around} {E:Value->Shared->Prop} {s:Shared} {z TI TO i1 i2 l1 l2:Addr} {k1:Nat} {xs:Array Value} {Q:PySem.Fin->Shared->Prop} (hh:A.handled=none) (D:ZipApart z TI TO i1 i2 l1 l2) (hz:IsZip s.heap z TI TO .none) (hTI:IsPair s.heap TI (.ref i1) (.ref i2))
  (h1:SIt b s.heap i1 l1 k1) (hl1:SSq b s.heap l1 xs) (hx:xs[k1]?=none)
  (hE:∀ (h':Heap) (e:Addr),(∀ (c:Addr) (o:Obj),c ≠ z->c ≠ i1->s.heap.get? c=some o->h'.get? c=some o)->(∃ o,h'.get? e=some o/\o.cls=.type "StopIteration")->E (.ref e) { s with heap:=h' }) :
  wpAny (model prog w) A (Builtin.«zip.__next__» { pos:=[.ref z] }) Q E s:=by
 show wpAny _ _ (field (.ref z) 2 >>= _) _ _ _;refine wpAny_bind (wpAny_field hz rfl rfl ?_);show wpAny _ _ (field (.ref z) 3 >>= _) _ _ _;refine wpAny_bind (wpAny_field hz rfl rfl ?_);refine wpAny_bind (wpAny_seqItems hTI rfl ?_);show wpAny _ _ (Builtin.SmallTypes.ownedTupleIsFree (.ref z) >>= _) _ _ _;refine wpAny_bind ?_;show wpAny _ _ (field (.ref z) 0 >>= _) _ _ _;refine wpAny_bind (wpAny_field hz rfl rfl (wpAny_pure ?_));refine wpAny_ite_true rfl ?_;refine wpAny_bind (wpAny_rule ?_);refine wpAny_bind (wpAny_field hz rfl rfl ?_);refine wpAny_bind (wpAny_setField_rec hz (by simp) fun hA gz sb=>?_)
 refine wpAny_bind ?_;show wpAny _ _ (forIn [(Value.ref i1,0),(Value.ref i2,1)] _ _) _ _ _;rw [List.forIn_cons];refine wpAny_bind ?_;dsimp only;refine wpAny_bind (wpAny_onRaise ?_);have e:((#[Value.none,Value.bool false,Value.bool false,Value.ref TI,Value.ref TO][2] == Value.bool true)=false):=rfl;rw [e];have sA1:SIt b hA i1 l1 k1:=h1.at fun o q=>(sb.2 _ D.i1z).trans q;have sL1:SSq b hA l1 xs:=hl1.at fun o q=>(sb.2 _ D.l1z).trans q;refine wpAny_bind (qIU (s:={ s with heap:=hA }) hh sA1 sL1 hx fun hB ea xB ⟨ob,gb,cb⟩=>?_);have gzB:=xB z _ (Ne.symm D.i1z) gz;refine wpAny_setField_rec gzB (by simp) fun hC gC sC=>?_
 have nez:ea ≠ z:=fun q=>by
  rw [q,gzB] at gb;cases gb;exact absurd (show Value.type "zip" = Value.type "StopIteration" from cb) (by decide)
 exact hE hC ea (fun c o n1 n2 q=>(sC.2 _ n1).trans (xB c o n2 ((sb.2 _ n1).trans q))) ⟨ob,(sC.2 _ nez).trans gb,cb⟩
theorem qOR {b b':Bool} {prog:Program} {w:World} {A:Around} {E:Value->Shared->Prop} {s:Shared} {z TI TO i1 i2 l1 l2:Addr} {k1 k2:Nat} {xs ys:Array Value} {x a c:Value} {Q:PySem.Fin->Shared->Prop} (hh:A.handled=none) (D:ZipApart z TI TO i1 i2 l1 l2) (hz:IsZip s.heap z TI TO .none) (hTI:IsPair s.heap TI (.ref i1) (.ref i2)) (hTO:IsPair s.heap TO a c)
  (h1:SIt b s.heap i1 l1 k1) (h2:SIt b' s.heap i2 l2 k2) (hl1:SSq b s.heap l1 xs) (hl2:SSq b' s.heap l2 ys) (hx:xs[k1]?=some x) (hy:ys[k2]?=none)
  (hE:∀ (h':Heap) (e:Addr),(∀ (c:Addr) (o:Obj),c ≠ z->c ≠ TO->c ≠ i1->c ≠ i2->s.heap.get? c=some o->h'.get? c=some o)->(∃ o,h'.get? e=some o/\o.cls=.type "StopIteration")->E (.ref e) { s with heap:=h' }) :
  wpAny (model prog w) A (Builtin.«zip.__next__» { pos:=[.ref z] }) Q E s:=by
 show wpAny _ _ (field (.ref z) 2 >>= _) _ _ _;refine wpAny_bind (wpAny_field hz rfl rfl ?_);show wpAny _ _ (field (.ref z) 3 >>= _) _ _ _;refine wpAny_bind (wpAny_field hz rfl rfl ?_);refine wpAny_bind (wpAny_seqItems hTI rfl ?_);show wpAny _ _ (Builtin.SmallTypes.ownedTupleIsFree (.ref z) >>= _) _ _ _;refine wpAny_bind ?_;show wpAny _ _ (field (.ref z) 0 >>= _) _ _ _;refine wpAny_bind (wpAny_field hz rfl rfl (wpAny_pure ?_));refine wpAny_ite_true rfl ?_;refine wpAny_bind (wpAny_rule ?_);refine wpAny_bind (wpAny_field hz rfl rfl ?_);refine wpAny_bind (wpAny_setField_rec hz (by simp) fun hA gz sb=>?_)
 refine wpAny_bind ?_;show wpAny _ _ (forIn [(Value.ref i1,0),(Value.ref i2,1)] _ _) _ _ _;rw [List.forIn_cons];refine wpAny_bind ?_;dsimp only;refine wpAny_bind (wpAny_onRaise ?_);have e:((#[Value.none,Value.bool false,Value.bool false,Value.ref TI,Value.ref TO][2] == Value.bool true)=false):=rfl;rw [e];have sA1:SIt b hA i1 l1 k1:=h1.at fun o q=>(sb.2 _ D.i1z).trans q;have sL1:SSq b hA l1 xs:=hl1.at fun o q=>(sb.2 _ D.l1z).trans q;refine wpAny_bind (qEQ (s:={ s with heap:=hA }) sA1 sL1 hx fun hB nB sB=>?_);refine wpAny_pure ?_;have tB:IsPair hB TO a c:=(sB.2 _ D.TOi1).trans ((sb.2 _ D.TOz).trans hTO);refine wpAny_bind (wpAny_seqItems tB rfl ?_);refine wpAny_bind (wpAny_updateSeq_pair tB fun hC tC sC=>?_);refine wpAny_bind (wpAny_letGo (wpAny_pure ?_));dsimp only;rw [List.forIn_cons];refine wpAny_bind ?_;refine wpAny_bind (wpAny_onRaise ?_);have sC2:SIt b' hC i2 l2 k2:=h2.at fun o q=>(sC.2 _ (Ne.symm D.TOi2)).trans ((sB.2 _ (Ne.symm D.i12)).trans ((sb.2 _ D.i2z).trans q));have sL2:SSq b' hC l2 ys:=hl2.at fun o q=>(sC.2 _ D.l2TO).trans ((sB.2 _ D.l2i1).trans ((sb.2 _ D.l2z).trans q));refine wpAny_bind (qIU (s:={ s with heap:=hC }) hh sC2 sL2 hy fun hD ea xD ⟨ob,gb,cb⟩=>?_);have gzC:hC.get? z=some { cls:=.type "zip",data:=.fields #[.ellipsis,.bool false,.bool false,.ref TI,.ref TO] }:=(sC.2 _ (Ne.symm D.TOz)).trans ((sB.2 _ (Ne.symm D.i1z)).trans gz);have gzD:=xD z _ (Ne.symm D.i2z) gzC;refine wpAny_setField_rec gzD (by simp) fun hF gF sF=>?_
 have nez:ea ≠ z:=fun q=>by
  rw [q,gzD] at gb;cases gb;exact absurd (show Value.type "zip" = Value.type "StopIteration" from cb) (by decide)
 exact hE hF ea (fun c o n1 n2 n3 n4 q=>(sF.2 _ n1).trans (xD c o n4 ((sC.2 _ n2).trans ((sB.2 _ n3).trans ((sb.2 _ n1).trans q))))) ⟨ob,(sF.2 _ nez).trans gb,cb⟩
section
variable {b b':Bool} {prog:Program} {w:World} {A:Around} {E:Value->Shared->Prop} {s:Shared} {z TI TO i1 i2 l1 l2:Addr} {k1 k2:Nat} {xs ys:Array Value}
theorem qGI {x y a c:Value} {Q:Option Value->Shared->Prop} (D:ZipApart z TI TO i1 i2 l1 l2) (hz:IsZip s.heap z TI TO .none) (hTI:IsPair s.heap TI (.ref i1) (.ref i2)) (hTO:IsPair s.heap TO a c)
  (h1:SIt b s.heap i1 l1 k1) (h2:SIt b' s.heap i2 l2 k2) (hl1:SSq b s.heap l1 xs) (hl2:SSq b' s.heap l2 ys) (hx:xs[k1]?=some x) (hy:ys[k2]?=some y)
  (hQ:∀ h':Heap,IsZip h' z TI TO (rawInt (s.heap.objs.size:Int))->IsPair h' TO x y->SIt b h' i1 l1 (k1+1)->SIt b' h' i2 l2 (k2+1)->IsPair h' s.heap.objs.size x y->h'.objs.size=s.heap.objs.size+1->
   (∀ (c:Addr) (o:Obj),c ≠ z->c ≠ TO->c ≠ i1->c ≠ i2->s.heap.get? c=some o->h'.get? c=some o)->Q (some (.ref s.heap.objs.size)) { s with heap:=h' }) :
  wpAny (model prog w) A (pyNext (.ref z)) Q E s:=by
 have hT:s.TypeIs (.ref z) "zip":=⟨_,hz,rfl⟩;unfold pyNext;refine wpAny_bind (wpAny_attempt (wpAny_callSpecial?_slot (name:=Str.ofString "__next__") hT F.slot_zip_next (wpAny_call_entry F.slot_zip_next hT F.entry_zip_next ?_ (F.args_zip_next_1 _))));exact qOQ (Q:=fun v s'=>wpAny (model prog w) A (pure (some v)) Q E s') D hz hTI hTO h1 h2 hl1 hl2 hx hy fun h' q1 q2 q3 q4 q5 q6 q7=>wpAny_pure (hQ h' q1 q2 q3 q4 q5 q6 q7)
theorem qHA {Q:Option Value->Shared->Prop} (hh:A.handled=none) (D:ZipApart z TI TO i1 i2 l1 l2) (hz:IsZip s.heap z TI TO .none) (hTI:IsPair s.heap TI (.ref i1) (.ref i2))
  (h1:SIt b s.heap i1 l1 k1) (hl1:SSq b s.heap l1 xs) (hx:xs[k1]?=none)
  (hQ:∀ h':Heap,(∀ (c:Addr) (o:Obj),c ≠ z->c ≠ i1->s.heap.get? c=some o->h'.get? c=some o)->Q none { s with heap:=h' }) :
  wpAny (model prog w) A (pyNext (.ref z)) Q E s:=by
 have hT:s.TypeIs (.ref z) "zip":=⟨_,hz,rfl⟩;unfold pyNext;refine wpAny_bind (wpAny_attempt (wpAny_callSpecial?_slot (name:=Str.ofString "__next__") hT F.slot_zip_next (wpAny_call_entry F.slot_zip_next hT F.entry_zip_next ?_ (F.args_zip_next_1 _))));refine qRC hh D hz hTI h1 hl1 hx fun h' e k ⟨o,g,c⟩=>?_;refine wpAny_bind (wpAny_isInstance (T:="StopIteration") (b:=true) ⟨_,g,c⟩ isSubtype_stop ?_);exact wpAny_pure (hQ h' k)
theorem qGJ {x a c:Value} {Q:Option Value->Shared->Prop} (hh:A.handled=none) (D:ZipApart z TI TO i1 i2 l1 l2) (hz:IsZip s.heap z TI TO .none) (hTI:IsPair s.heap TI (.ref i1) (.ref i2)) (hTO:IsPair s.heap TO a c)
  (h1:SIt b s.heap i1 l1 k1) (h2:SIt b' s.heap i2 l2 k2) (hl1:SSq b s.heap l1 xs) (hl2:SSq b' s.heap l2 ys) (hx:xs[k1]?=some x) (hy:ys[k2]?=none)
  (hQ:∀ h':Heap,(∀ (c:Addr) (o:Obj),c ≠ z->c ≠ TO->c ≠ i1->c ≠ i2->s.heap.get? c=some o->h'.get? c=some o)->Q none { s with heap:=h' }) :
  wpAny (model prog w) A (pyNext (.ref z)) Q E s:=by
 have hT:s.TypeIs (.ref z) "zip":=⟨_,hz,rfl⟩;unfold pyNext;refine wpAny_bind (wpAny_attempt (wpAny_callSpecial?_slot (name:=Str.ofString "__next__") hT F.slot_zip_next (wpAny_call_entry F.slot_zip_next hT F.entry_zip_next ?_ (F.args_zip_next_1 _))));refine qOR hh D hz hTI hTO h1 h2 hl1 hl2 hx hy fun h' e k ⟨o,g,c⟩=>?_;refine wpAny_bind (wpAny_isInstance (T:="StopIteration") (b:=true) ⟨_,g,c⟩ isSubtype_stop ?_);exact wpAny_pure (hQ h' k)
end
noncomputable abbrev itObj (b:Bool) (l:Addr):Obj:={ cls:=.type (match b with | true=>"tuple_iterator" | false=>"list_iterator"),data:=.fields #[.ref l,.int 0 0] }
theorem qIS {b:Bool} {prog:Program} {w:World} {A:Around} {E:Value->Shared->Prop} {s:Shared} {l:Addr} {xs:Array Value} {Q:Value->Shared->Prop} (h:SSq b s.heap l xs) (hQ:Q (.ref s.heap.objs.size) { s with heap:=s.heap.push (itObj b l) }):wpAny (model prog w) A (pyIter (.ref l)) Q E s:=by
 cases b
 ·exact wpAny_pyIter_list h hQ
 ·exact wpAny_pyIter_tuple h hQ
noncomputable abbrev zb1 (b:Bool) (h:Heap) (l1:Addr):Heap:=h.push (itObj b l1)
noncomputable abbrev zb2 (b b':Bool) (h:Heap) (l1 l2:Addr):Heap:=(zb1 b h l1).push (itObj b' l2)
noncomputable abbrev zb3 (b b':Bool) (h:Heap) (l1 l2:Addr):Heap:=(zb2 b b' h l1 l2).push { cls:=.type "tuple",data:=.seq #[.ref h.objs.size,.ref (zb1 b h l1).objs.size] }
noncomputable abbrev zb4 (b b':Bool) (h:Heap) (l1 l2:Addr):Heap:=(zb3 b b' h l1 l2).push { cls:=.type "tuple",data:=.seq #[.none,.none] }
noncomputable abbrev zb5 (b b':Bool) (h:Heap) (l1 l2:Addr):Heap:=(zb4 b b' h l1 l2).push { cls:=.type "zip",data:=.fields #[.none,.bool false,.bool false,.ref (zb2 b b' h l1 l2).objs.size,.ref (zb3 b b' h l1 l2).objs.size] }
theorem qRB (b b':Bool) (l1 l2:Addr) (xs ys:Array Value):Meets (Builtin.«zip.__new__» { pos:=[.type "zip",.ref l1,.ref l2] }) fun _ R s=>
  SSq b s.heap l1 xs/\SSq b' s.heap l2 ys/\R (.ok (.ret (.ref (zb4 b b' s.heap l1 l2).objs.size))) { s with heap:=zb5 b b' s.heap l1 l2 }:=by
 refine Meets.of_wp fun prog w A R s h=>?_;obtain ⟨hp,g,d,tk,os⟩:=s;obtain ⟨hl1,hl2,h⟩:=h;have hL2:SSq b' (hp.push (itObj b l1)) l2 ys:=SSq.at hl2 fun o q=>Heap.get?_push_of_some _ q;refine wpAny_bind ?_;refine wpAny_bind (wpAny_pure ?_);refine wpAny_ite_false rfl ?_;refine wpAny_bind (wpAny_of_eq sub_zip ?_);refine wpAny_ite_false rfl ?_;refine wpAny_pure ?_;refine wpAny_ite_false rfl ?_;refine wpAny_bind ?_;refine wpAny_bind ?_;show wpAny _ _ (forIn [Value.ref l1,Value.ref l2] #[] _) _ _ _;rw [List.forIn_cons];refine wpAny_bind (wpAny_bind (wpAny_holding (qIS hl1 (wpAny_pure ?_))));dsimp only;rw [List.forIn_cons];refine wpAny_bind (wpAny_bind (wpAny_holding (qIS hL2 (wpAny_pure ?_))));dsimp only;rw [List.forIn_nil];refine wpAny_pure (wpAny_pure ?_);refine wpAny_bind (wpAny_newTuple ?_ (by show 2<=sizeLine;decide))
 refine wpAny_bind (wpAny_newTuple ?_ (by show 2<=sizeLine;decide))
 refine wpAny_bind ?_;unfold Builtin.SmallTypes.newRecord;dsimp only;refine wpAny_newObj_type ?_ (by first | rfl | (show (5:Nat)<=_;decide) | (show (5:Nat)<=sizeLine+2;rw [sizeLine_eq];decide))
 refine wpAny_pure ⟨_,rfl,h⟩
end L2
namespace L2
open PySem PySem.Spec PyProof.Rows
theorem qQW {b b':Bool} {prog:Program} {w:World} {A:Around} {E:Value->Shared->Prop} {s:Shared} {l1 l2:Addr} {xs ys:Array Value} {Q:Value->Shared->Prop} (hl1:SSq b s.heap l1 xs) (hl2:SSq b' s.heap l2 ys)
  (hQ:∀ (h':Heap) (z TI TO i1 i2:Addr),ZipApart z TI TO i1 i2 l1 l2->IsZip h' z TI TO .none->IsPair h' TI (.ref i1) (.ref i2)->IsPair h' TO .none .none->SIt b h' i1 l1 0->SIt b' h' i2 l2 0->(∀ c ∈ [z,TI,TO,i1,i2],s.heap.objs.size<=c)->
   (∀ (c:Addr) (o:Obj),s.heap.get? c=some o->h'.get? c=some o)->Q (.ref z) { s with heap:=h' }) :
  wpAny (model prog w) A (call (.type "zip") [.ref l1,.ref l2]) Q E s:=by
 refine callType_new F.called_zip (by decide) (F.typeCall_zip_2 _ _) (F.newCall_zip_2 _ _) (fun obj=>F.args_object_init_3 obj _ _) F.entry_zip_new (qRB b b' l1 l2 xs ys) ⟨hl1,hl2,?_⟩
 have z1:(zb1 b s.heap l1).objs.size=s.heap.objs.size+1:=Heap.size_push ..;have z2:(zb2 b b' s.heap l1 l2).objs.size=s.heap.objs.size+2:=(Heap.size_push ..).trans (by rw [z1])
 have z3:(zb3 b b' s.heap l1 l2).objs.size=s.heap.objs.size+3:=(Heap.size_push ..).trans (by rw [z2])
 have z4:(zb4 b b' s.heap l1 l2).objs.size=s.heap.objs.size+4:=(Heap.size_push ..).trans (by rw [z3])
 have g5:(zb5 b b' s.heap l1 l2).get? (zb4 b b' s.heap l1 l2).objs.size=some { cls:=.type "zip",data:=.fields #[.none,.bool false,.bool false,.ref (zb2 b b' s.heap l1 l2).objs.size,.ref (zb3 b b' s.heap l1 l2).objs.size] }:=Heap.get?_push_size _ rfl;have g4:(zb5 b b' s.heap l1 l2).get? (zb3 b b' s.heap l1 l2).objs.size=some { cls:=.type "tuple",data:=.seq #[.none,.none] }:=Heap.get?_push_of_some _ (Heap.get?_push_size _ rfl);have g3:(zb5 b b' s.heap l1 l2).get? (zb2 b b' s.heap l1 l2).objs.size=some { cls:=.type "tuple",data:=.seq #[.ref s.heap.objs.size,.ref (zb1 b s.heap l1).objs.size] }:=Heap.get?_push_of_some _ (Heap.get?_push_of_some _ (Heap.get?_push_size _ rfl));have g2:(zb5 b b' s.heap l1 l2).get? (zb1 b s.heap l1).objs.size=some (itObj b' l2):=Heap.get?_push_of_some _ (Heap.get?_push_of_some _ (Heap.get?_push_of_some _ (Heap.get?_push_size _ rfl)));have g1:(zb5 b b' s.heap l1 l2).get? s.heap.objs.size=some (itObj b l1):=Heap.get?_push_of_some _ (Heap.get?_push_of_some _ (Heap.get?_push_of_some _ (Heap.get?_push_of_some _ (Heap.get?_push_size _ rfl))));have lt:∀ {b:Bool} {l:Addr} {zs:Array Value},SSq b s.heap l zs->l<s.heap.objs.size:=fun {b l zs} q=>by
  cases b
  ·obtain ⟨o,e,_⟩:=q;exact Heap.lt_size e
  ·obtain ⟨o,e,_⟩:=q;exact Heap.lt_size e
 refine ⟨⟨_,g5,rfl⟩,?_⟩;have D:=zipApart_new (n:=s.heap.objs.size) (lt hl1) (lt hl2);rw [<- z4,<- z3,<- z2,<- z1] at D;refine hQ _ _ _ _ _ _ D g5 g3 g4 ?_ ?_ ?_ fun c o e=>Heap.get?_push_of_some _ (Heap.get?_push_of_some _ (Heap.get?_push_of_some _ (Heap.get?_push_of_some _ (Heap.get?_push_of_some _ e))))
 ·cases b
  ·exact ⟨_,g1,rfl,rfl⟩
  ·exact ⟨_,g1,rfl,rfl⟩
 ·cases b'
  ·exact ⟨_,g2,rfl,rfl⟩
  ·exact ⟨_,g2,rfl,rfl⟩
 ·intro c hc;have e':c=(zb4 b b' s.heap l1 l2).objs.size\/c=(zb2 b b' s.heap l1 l2).objs.size\/c=(zb3 b b' s.heap l1 l2).objs.size\/c=s.heap.objs.size\/c=(zb1 b s.heap l1).objs.size:=by simpa using hc
  rcases e' with rfl | rfl | rfl | rfl | rfl
  ·lia
  ·lia
  ·lia
  ·exact Nat.le_refl _
  ·lia
def SqB (b:Bool) (K:PySem.W.Frag) (H:Hp) (a:Addr) (xs:List V):Prop:=match b with | true=>SqT K H a xs | false=>SqL K H a xs
def Itz2 (K:PySem.W.Frag) (b b':Bool) (l1 l2:Addr):It:=
 ⟨fun i H=>∃ xs ys x y,SqB b K H l1 xs/\SqB b' K H l2 ys/\xs[i]?=some x/\ys[i]?=some y,fun i H v H'=>∃ T x y,H T=none/\v=.ref T/\H'=Ah H T (.tup [x,y])/\∀ xs ys,SqB b K H l1 xs->SqB b' K H l2 ys->xs[i]?=some x/\ys[i]?=some y,fun i H=>∃ xs,SqB b K H l1 xs/\(xs.length<=i\/∃ ys x,SqB b' K H l2 ys/\xs[i]?=some x/\ys.length<=i)⟩
abbrev Itz (K:PySem.W.Frag) (b:Bool) (l1 l2:Addr):It:=Itz2 K b b l1 l2
section
variable {X:Cx}
theorem Inv.seqB {b:Bool} {Ab:List (Addr × Obj)} {s:Shared} {σ:St} {H:Hp} {a:Addr} {xs:List V} (I:Inv X Ab σ H s) (h:SqB b X.K H a xs):∃ its:List Value,Vals xs its/\SSq b s.heap a its.toArray:=by
 cases b
 ·obtain ⟨its,rv,p,_⟩:=I.list h;exact ⟨its,rv,p.isList⟩
 ·obtain ⟨its,rv,p,_⟩:=I.tuple h;exact ⟨its,rv,p⟩
theorem Inv.seqB_inj {b:Bool} {Ab:List (Addr × Obj)} {s:Shared} {σ:St} {H:Hp} {a:Addr} {xs ys:List V} (I:Inv X Ab σ H s) (h:SqB b X.K H a xs) (h':SqB b X.K H a ys):xs=ys:=by
 cases b
 ·exact I.list_inj h h'
 ·exact I.tuple_inj h h'
theorem qRF {P:Program} {w:World} {K:PySem.W.Frag} {elts:List Expr} {k:Nat} {pos:Pos} {b b':Bool} {z TI TO i1 i2 l1 l2:Addr} (D:ZipApart z TI TO i1 i2 l1 l2):Turn P w K (.Tuple elts k pos) (Itz2 K b b' l1 l2) [z,TI,TO,i1,i2] z (fun i h=>IsZip h z TI TO .none/\IsPair h TI (.ref i1) (.ref i2)/\(∃ a c,IsPair h TO a c)/\SIt b h i1 l1 i/\SIt b' h i2 l2 i) where
 mem:=by simp
 obj:=fun i h ⟨h1,h2,⟨a,c,h3⟩,h4,h5⟩ d hd=>by
  have it:∀ {b:Bool} {j l:Addr},SIt b h j l i->∃ o,h.get? j=some o/\∀ v,o.data ≠ .cell v:=fun {b j l} q=>by
   cases b
   ·obtain ⟨o,e,_,q⟩:=q;exact ⟨o,e,fun v z=>by rw [q] at z;cases z⟩
   ·obtain ⟨o,e,_,q⟩:=q;exact ⟨o,e,fun v z=>by rw [q] at z;cases z⟩
  have e':d=z\/d=TI\/d=TO\/d=i1\/d=i2:=by simpa using hd
  rcases e' with rfl | rfl | rfl | rfl | rfl
  ·exact ⟨_,h1,fun v z=>by
    have z':Data.fields _=Data.cell v:=z;cases z'⟩
  ·exact ⟨_,h2,fun v z=>by
    have z':Data.seq _=Data.cell v:=z;cases z'⟩
  ·exact ⟨_,h3,fun v z=>by
    have z':Data.seq _=Data.cell v:=z;cases z'⟩
  ·exact it h4
  ·exact it h5
 keep:=fun i h h' ⟨h1,h2,⟨a,c,h3⟩,h4,h5⟩ kk=>⟨kk z (by simp) _ h1,kk TI (by simp) _ h2,⟨a,c,kk TO (by simp) _ h3⟩,h4.at fun o q=>kk i1 (by simp) o q,h5.at fun o q=>kk i2 (by simp) o q⟩
 item:=by
  intro X hP hw hK hc i Ab s σ H E I hf st hg;subst hP hw hK;obtain ⟨xs,ys,x,y,hq1,hq2,hx,hy⟩:=hg;obtain ⟨its,rv,p1⟩:=I.seqB hq1;obtain ⟨jts,rw',p2⟩:=I.seqB hq2;obtain ⟨u,hu,ru⟩:=rv.get hx;obtain ⟨v,hv,rv'⟩:=rw'.get hy;obtain ⟨h1,h2,⟨a,c,h3⟩,h4,h5⟩:=st;refine qGI D h1 h2 h3 h4 h5 p1 p2 (x:=u) (y:=v) (by simpa using hu) (by simpa using hv) fun h' a1 a2 a3 a4 a5 a6 a7=>?_
  refine ⟨_,rfl,wpAny_letOwnedTupleGo_zip a1 fun h2' b1 b2=>?_⟩;have ltz:z<s.heap.objs.size:=Heap.lt_size h1;have nz:s.heap.objs.size ≠ z:=Nat.ne_of_gt ltz;have I1:Inv X Ab σ H { s with heap:=h2',toks:=s.toks }:=I.turnedL (ch:=[z,TI,TO,i1,i2]) (fun d o hd q=>by
   have e1:d ≠ z:=fun q=>hd (by simp [q])
   exact (b2.2 d e1).trans (a7 d o e1 (fun q=>hd (by simp [q])) (fun q=>hd (by simp [q])) (fun q=>hd (by simp [q])) q)) hf
  have hT:H s.heap.objs.size=none:=I.hok.fresh (Nat.le_refl _);have fT:=I.fpOk (H':=H) (b:=s.heap.objs.size) (Nat.le_refl _) hT;have gT:h2'.get? s.heap.objs.size=some { cls:=.type "tuple",data:=.seq #[u,v] }:=(b2.2 _ nz).trans a5;refine ⟨.ref s.heap.objs.size,Ah H s.heap.objs.size (.tup [x,y]),I1.track hT I.sz fT.2.1 fT.2.2.2.2.1 fT.2.2.2.2.2 ⟨by simp only [List.length_cons,List.length_nil];rw [sizeLine_eq];decide,[u,v],.cons ru (.cons rv' .nil),⟨_,gT,rfl,_,rfl⟩⟩,rfl,
   ⟨_,x,y,hT,rfl,rfl,fun xs' ys' e1 e2=>by rw [I.seqB_inj e1 hq1,I.seqB_inj e2 hq2];exact ⟨hx,hy⟩⟩,⟨b1,(b2.2 _ D.TIz).trans (a7 _ _ D.TIz D.TITO D.TIi1 D.TIi2 h2),⟨u,v,(b2.2 _ D.TOz).trans a2⟩,a3.at fun o q=>(b2.2 _ D.i1z).trans q,a4.at fun o q=>(b2.2 _ D.i2z).trans q⟩,fun d hd=>?_⟩
  have ltb:d<s.heap.objs.size:=by
   have it:∀ {b:Bool} {j l:Addr} {n:Nat},SIt b s.heap j l n->j<s.heap.objs.size:=fun {b j l n} q=>by
    cases b
    ·obtain ⟨o,e,_,q⟩:=q;exact Heap.lt_size e
    ·obtain ⟨o,e,_,q⟩:=q;exact Heap.lt_size e
   have e':d=z\/d=TI\/d=TO\/d=i1\/d=i2:=by simpa using hd
   rcases e' with rfl | rfl | rfl | rfl | rfl
   ·exact ltz
   ·exact Heap.lt_size h2
   ·exact Heap.lt_size h3
   ·exact it h4
   ·exact it h5
  rw [qA8 (Nat.ne_of_lt ltb)];exact (hf d hd).1
 done:=by
  intro X hP hw hK hc i Ab s σ H E I hf st hg;subst hP hw hK;obtain ⟨xs,hq,hx⟩:=hg;obtain ⟨its,rv,p⟩:=I.seqB hq;have hl:=rv.length;obtain ⟨h1,h2,⟨a,c,h3⟩,h4,h5⟩:=st;rcases hx with hx | ⟨ys,x,hq2,hxx,hy⟩
  rotate_left
  ·obtain ⟨jts,rw',p2⟩:=I.seqB hq2;have hl2:=rw'.length;obtain ⟨u,hu,ru⟩:=rv.get hxx;exact qGJ (I.ok.hd hc) D h1 h2 h3 h4 h5 p p2 (x:=u) (by simpa using hu) (by simp;lia) fun h' eb=>⟨rfl,I.turnedL (t':=s.toks) (ch:=[z,TI,TO,i1,i2]) (fun d o hd q=>eb d o (fun z=>hd (by simp [z])) (fun z=>hd (by simp [z])) (fun z=>hd (by simp [z])) (fun z=>hd (by simp [z])) q) hf⟩
  exact qHA (I.ok.hd hc) D h1 h2 h4 p (by simp;lia) fun h' eb=>⟨rfl,I.turnedL (t':=s.toks) (ch:=[z,TI,TO,i1,i2]) (fun d o hd q=>eb d o (fun z=>hd (by simp [z])) (fun z=>hd (by simp [z])) q) hf⟩
 self:=fun _ _ _ _ _ ⟨h1,_⟩ h=>wpAny_pyIter_zip h1 h
theorem qV8 {elts:List Expr} {k:Nat} {tpos:Pos} {Ab:List (Addr × Obj)} {σ:St} {R:It->Hp->Prop} {s1:Shared} {H1:Hp} {b b':Bool} {l m:Addr} {xs ys:List V} (I1:Inv X Ab σ H1 s1) (hq:SqB b X.K H1 l xs) (hq2:SqB b' X.K H1 m ys) (q:R (Itz2 X.K b b' l m) H1) :
  wpAny (model X.prog X.w) X.A (call (.type "zip") [.ref l,.ref m]) (fun v s=>wpAny (model X.prog X.w) X.A (pyIter v) (PIE X Ab σ (.Tuple elts k tpos) R) X.xe s) X.xe s1:=by
 obtain ⟨its,rv,pl⟩:=I1.seqB hq;obtain ⟨jts,rw',pm⟩:=I1.seqB hq2;refine qQW pl pm fun h' z TI TO i1 i2 D hz hTI hTO hi1 hi2 hfr hk=>?_;refine wpAny_pyIter_zip hz ?_;have I2:Inv X Ab σ H1 { s1 with heap:=h' }:=I1.kept (t':=s1.toks) hk;exact ⟨z,[z,TI,TO,i1,i2],_,_,H1,rfl,I2,qRF D,⟨hz,hTI,⟨_,_,hTO⟩,hi1,hi2⟩,fun c hc=>I1.fpOk (hfr c hc) (I1.hok.fresh (hfr c hc)),q⟩
def iZip (K:PySem.W.Frag) (ta:TA):TI:=fun σ H R=>ta σ H fun vs H1=>∃ b l m,vs=[.ref l,.ref m]/\(∃ xs,SqB b K H1 l xs)/\(∃ xs,SqB b K H1 m xs)/\R (Itz K b l m) H1
theorem qVT {elts:List Expr} {k:Nat} {tpos:Pos} {a b:Expr} {ta:TA} {p pos:Pos} (hg:Gl X "zip") (hm:X.mg "zip" = none) (hv:bootBuiltins "zip" = some (.type "zip")) (ha:PA X [a,b] ta) (hs:starEach [a,b] X.env=[(false,eval a X.env),(false,eval b X.env)]:=by rfl) (hs2:starEach [b] X.env=[(false,eval b X.env)]:=by rfl) :
  PI X (.Tuple elts k tpos) (.Call (.Name "zip" p) [a,b] [] pos) (iZip X.K ta):=by
 intro Ab s σ H R I h;refine Call_ (qGC I hg hm hv (PyProof.Rows.callWith_type1 (thn (ha pos Ab s σ H _ I h) fun us s1 ⟨vs,H1,I1,r1,q1⟩=>?_) (by rw [hs,hs2]) (by rw [hs2];rfl)))
 obtain ⟨bb,l,m,e,⟨xs,hq⟩,⟨ys,hq2⟩,q⟩:=q1;subst e;obtain ⟨u,v,rfl,rx,ry⟩:=qNT r1;cases rx;cases ry;exact qV8 I1 hq hq2 q
end
theorem qT7 {K:PySem.W.Frag} {b:Bool} {l m:Addr} {xs ys:List V} {g:TG} {tc:TT} {te:TE} {Kf:Hp->Prop} {σ0:St} {H0:Hp} {p:Addr} (hlen:xs.length=ys.length) (Pv:Nat->St->Hp->Prop) (h0:Pv 0 σ0 H0) (hl:∀ i σ H,i<=xs.length->Pv i σ H->SqB b K H l xs/\SqB b K H m ys)
  (hs:∀ i x y σ H T,xs[i]?=some x->ys[i]?=some y->Pv i σ H->H T=none->g (.ref T) σ (Ah H T (.tup [x,y])) fun σ2 H2=>tc σ2 H2 fun b H3=>if b=true then te σ2 H3 fun y H4=>∃ ys,H4 p=some (.lst ys)/\ys.length<sizeLine/\Pv (i+1) σ2 (Ah H4 p (.lst (ys++[y]))) else Pv (i+1) σ2 H3)
  (hd:∀ σ H,Pv xs.length σ H->Kf H) :
  LcG (Itz K b l m) g tc te Kf σ0 H0 p:=by
 refine ⟨fun i n σ H=>n=xs.length - i/\i<=xs.length/\Pv i σ H,⟨xs.length,by simp,Nat.zero_le _,h0⟩,?_⟩
 rintro i n σ H ⟨rfl,hi,q⟩;have hq:=hl i σ H hi q;by_cases hlt:i<xs.length
 ·refine .inr ⟨⟨xs,ys,xs[i],ys[i]'(by lia),hq.1,hq.2,by simp [hlt],List.getElem?_eq_getElem _⟩,Pv (i+1),fun σ' H' p'=>⟨xs.length - (i+1),by lia,rfl,hlt,p'⟩,fun v H' y=>?_⟩
  obtain ⟨T,x,y,hT,e1,e2,yy⟩:=y;subst e1 e2;exact hs i x y σ H T (yy xs ys hq.1 hq.2).1 (yy xs ys hq.1 hq.2).2 q hT
 ·have e:i=xs.length:=by lia
  subst e;exact .inl ⟨⟨xs,hq.1,.inl (Nat.le_refl _)⟩,hd σ H q⟩
end L2
namespace L2
open PySem PySem.Spec PyProof.Rows
section
variable {X:Cx}
end
end L2
namespace L2
open PySem
section
variable {es:List Expr} {env:Env} {p:Pos}
end
end L2
namespace L2
open PySem
@[irreducible] def cst (i:Int) (p:Pos):Expr:=.Constant (.int i) 0 p
end L2
namespace L2
open PySem
theorem qRZ {P:(St->Hp->Prop)->Prop} {B:St->Hp->Prop} (h:∀ N:St->Hp->Prop,(∀ σ H,B σ H->N σ H)->P N):∃ N:St->Hp->Prop,(∀ σ' H',N σ' H'->B σ' H')/\P N:=⟨B,fun _ _ z=>z,h B fun _ _ z=>z⟩
theorem qFG {K:PySem.W.Frag} {a:Addr} {xs:List V} {g:TG} {tb:TS} {D:Ends} {σ:St} {H:Hp} (Pv:Nat->St->Hp->Prop) (h0:Pv 0 σ H) (hl:∀ i σ H,i<=xs.length->Pv i σ H->SqL K H a xs)
  (hs:∀ i x σ H,xs[i]?=some x->Pv i σ H->∀ N:St->Hp->Prop,(∀ σ H,Pv (i+1) σ H->N σ H)->g x σ H fun σ2 H2=>tb { D with nx:=N,ct:=N,bk:=D.nx } σ2 H2) (hd:∀ σ H,Pv xs.length σ H->D.nx σ H) :
  ForG (Itl K a) g tb D σ H:=
 qNI Pv h0 hl (fun i x σ H hx hp=>hs i x σ H hx hp _ fun _ _ z=>z) hd
theorem qOG {lo:Int} {n:Nat} {g:TG} {tb:TS} {D:Ends} {σ:St} {H:Hp} (Pv:Nat->St->Hp->Prop) (h0:Pv 0 σ H)
  (hs:∀ i σ H,i<n->Pv i σ H->∀ N:St->Hp->Prop,(∀ σ H,Pv (i+1) σ H->N σ H)->g (.int (lo+i)) σ H fun σ2 H2=>tb { D with nx:=N,ct:=N,bk:=D.nx } σ2 H2) (hd:∀ σ H,Pv n σ H->D.nx σ H) :
  ForG (Itr lo n) g tb D σ H:=
 qC3 Pv h0 (fun i σ H hi hp=>hs i σ H hi hp _ fun _ _ z=>z) hd
end L2
namespace L2
open PySem
@[elab_as_elim] theorem us0 {α:Type} {P:List α->Prop} (us:List α) (hl:us.length=0) (h:P []):P us:=by
 match us,hl with
 | [],_=>exact h
@[elab_as_elim] theorem us1 {α:Type} {P:List α->Prop} (us:List α) (hl:us.length=1) (h:∀ a,P [a]):P us:=by
 match us,hl with
 | [a],_=>exact h a
@[elab_as_elim] theorem us2 {α:Type} {P:List α->Prop} (us:List α) (hl:us.length=2) (h:∀ a b,P [a,b]):P us:=by
 match us,hl with
 | [a,b],_=>exact h a b
@[elab_as_elim] theorem us3 {α:Type} {P:List α->Prop} (us:List α) (hl:us.length=3) (h:∀ a b c,P [a,b,c]):P us:=by
 match us,hl with
 | [a,b,c],_=>exact h a b c
@[elab_as_elim] theorem us4 {α:Type} {P:List α->Prop} (us:List α) (hl:us.length=4) (h:∀ a b c d,P [a,b,c,d]):P us:=by
 match us,hl with
 | [a,b,c,d],_=>exact h a b c d
end L2
namespace L2.G
open PySem PyProof.Rows
abbrev gSM:=StateT SortSt Sem
class NM where
 nm:Value->Int
 good:Value->Prop
variable [NM]
def gkv (p:Keyed):Int:=NM.nm p.1
def gIK (p:Keyed):Prop:=NM.good p.1
class LtOk (prog:Program) (w:World) (A:Around) (s:Shared) (κ0:SortKind):Prop where
 lt:∀ {x y:Value} {Q:Bool->Shared->Prop} {E:Value->Shared->Prop},NM.good x->NM.good y->Q (decide (NM.nm x<NM.nm y)) s->wpAny (model prog w) A (keyLt' κ0 x y) Q E s
noncomputable def gK (xs:Array Keyed) (i:Nat):Int:=match xs[i]? with
 | some p=>NM.nm p.1
 | none=>0
def gSortedTo (xs:Array Keyed) (k:Nat):Prop:=∀ i j,i<=j->j<k->gK xs i<=gK xs j
def qBJ (xs:Array Keyed):Prop:=∀ p,p ∈ xs.toList->NM.good p.1
theorem qQG {xs:Array Keyed} {i:Nat} (hi:i<xs.size):gK xs i=NM.nm xs[i].1:=by unfold gK;rw [getElem?_pos xs i hi]
theorem qEI {xs ys:Array Keyed} {i j:Nat} (h:xs[i]?=ys[j]?):gK xs i=gK ys j:=by unfold gK;rw [h]
theorem qHR {xs:Array Keyed} {src d:Nat} (hs:src<xs.size) (hd:d<=src) (k:Nat) :
  gK (bubble xs src d) k=if k=src - d then gK xs src else if src - d<k/\k<=src then gK xs (k - 1) else gK xs k:=by
 have e:=getElem?_bubble hs d hd k;by_cases h1:k=src - d
 ·rw [if_pos h1] at e ⊢;exact qEI e
 ·rw [if_neg h1] at e ⊢;by_cases h2:src - d<k/\k<=src
  ·rw [if_pos h2] at e ⊢;exact qEI e
  ·rw [if_neg h2] at e ⊢;exact qEI e
theorem qFF {xs:Array Keyed} {i j:Nat} (hj:j<=xs.size) (k:Nat) :
  gK (mirror xs i j ((j - i) / 2)) k=if i<=k/\k<j then gK xs (i+j - 1 - k) else gK xs k:=by
 have e:=getElem?_mirror_all (i:=i) hj k;by_cases h1:i<=k/\k<j
 ·rw [if_pos h1] at e ⊢;exact qEI e
 ·rw [if_neg h1] at e ⊢;exact qEI e
theorem qAZ {xs:Array Keyed} {i j:Nat} (hj:j<=xs.size) (heq:∀ k,i<=k->k<j->gK xs k=gK xs (j - 1)) (k:Nat) :
  gK (mirror xs i j ((j - i) / 2)) k=gK xs k:=by
 rw [qFF hj]
 split
 ·rw [heq _ (by omega) (by omega),heq k (by omega) (by omega)]
 ·rfl
noncomputable def qSH:Bool->Keyed->Array Keyed->Nat->Nat->Nat->gSM (Option Nat):=sortPriv% PySem.Builtin.gallop
noncomputable def gbey (left:Bool) (key:Keyed) (arr:Array Keyed) (base i:Nat):gSM (Option Bool):=do
 let x <- elem' arr (base+i)
 if left=true then lt' x key else do
  let r <- lt' key x
  pure (r.map fun b=>!b)
section
variable {prog:Program} {w:World} {A:Around} {E:Value->Shared->Prop} {s:Shared} {κ0:SortKind} [LtOk prog w A s κ0]
theorem qFC {st:SortSt} {x y:Keyed} {Q:Option Bool->SortSt->Prop} (hk:kindOf st=κ0) (hx:gIK x) (hy:gIK y) (h:Q (some (decide (gkv x<gkv y))) st):wpS (model prog w) A E s (lt' x y) Q st:=by
 rw [lt'_eq];refine wpS_bind (wpS_get ?_);rw [hk];refine wpS_bind (wpS_lift (wpAny_attempt (LtOk.lt hx hy ⟨rfl,?_⟩)));exact wpS_pure h
theorem qB4 {st:SortSt} {arr:Array Keyed} {i:Nat} {x:Keyed} {Q:Keyed->SortSt->Prop} (h:arr[i]?=some x) (hQ:Q x st):wpS (model prog w) A E s (elem' arr i) Q st:=by
 rw [elem'_eq,h];exact wpS_pure hQ
noncomputable def qAK (left:Bool) (key:Keyed) (arr:Array Keyed) (base i:Nat):Bool:=match arr[base+i]? with
 | some x=>if left=true then decide (gkv x<gkv key) else decide (gkv x<=gkv key)
 | none=>false
theorem qFD {st:SortSt} {left:Bool} {key:Keyed} {arr:Array Keyed} {base i:Nat} {Q:Option Bool->SortSt->Prop} (hk:kindOf st=κ0) (hkey:gIK key) (ha:∀ x ∈ arr.toList,gIK x) (hi:base+i<arr.size) (h:Q (some (qAK left key arr base i)) st) :
  wpS (model prog w) A E s (gbey left key arr base i) Q st:=by
 unfold gbey;have e:arr[base+i]?=some (arr[base+i]'hi):=Array.getElem?_eq_getElem hi;have hx:gIK (arr[base+i]'hi):=ha _ (by simp)
 unfold qAK at h;rw [e] at h;refine wpS_bind (qB4 e ?_);cases left with
 | true=>exact qFC hk hx hkey h
 | false=>
  refine wpS_bind (qFC hk hkey hx ?_);refine wpS_pure ?_;have:(!decide (gkv key<gkv arr[base+i]))=decide (gkv arr[base+i]<=gkv key):=by
   by_cases q:gkv key<gkv arr[base+i]
   ·rw [decide_eq_true q,decide_eq_false (by omega)];rfl
   ·rw [decide_eq_false q,decide_eq_true (by omega)];rfl
  show Q (some (!decide (gkv key<gkv arr[base+i]))) st;rw [this];exact h
theorem qEG {st:SortSt} {left:Bool} {key:Keyed} {arr:Array Keyed} {base n hint:Nat} {Q:Option Nat->SortSt->Prop} (hk:kindOf st=κ0) (hkey:gIK key) (ha:∀ x ∈ arr.toList,gIK x) (hn:base+n<=arr.size) (hh:hint<n)
  (mono:∀ i j,i<=j->j<n->qAK left key arr base j=true->qAK left key arr base i=true)
  (h:∀ k,k<=n->(∀ i,i<k->qAK left key arr base i=true)->(∀ i,k<=i->i<n->qAK left key arr base i=false)->Q (some k) st) :
  wpS (model prog w) A E s (qSH left key arr base n hint) Q st:=by
 have mono':∀ i j,i<=j->j<n->qAK left key arr base i=false->qAK left key arr base j=false:=fun i j hij hj e=>by
  cases q:qAK left key arr base j with
  | false=>rfl
  | true=>rw [mono i j hij hj q] at e;cases e
 unfold qSH;show wpS _ _ _ _ (gbey left key arr base hint >>= _) _ _;refine wpS_bind (qFD hk hkey ha (by omega) ?_)
 dsimp only;cases e:qAK left key arr base hint with
 | true=>
  rw [if_pos rfl];refine wpS_bind (wpS_mono (wpS_forRange (I:=fun x c st'=>st'=st/\∃ l o,c=(none,l,o)/\l<o/\x+1<=o/\hint+l<n/\qAK left key arr base (hint+l)=true)
   (Q:=fun c st'=>st'=st/\∃ l o,c=(none,l,o)/\l<o/\hint+l<n/\qAK left key arr base (hint+l)=true/\(o >= n - hint\/qAK left key arr base (hint+o)=false)) ?step ?fin ⟨rfl,0,1,rfl,by omega,by omega,by omega,e⟩) ?post)
  case fin=>
   rintro c st' ⟨rfl,l,o,rfl,h1,h2,h3,h4⟩;exact ⟨rfl,l,o,rfl,h1,h3,h4,.inl (by omega)⟩
  case step=>
   rintro x c st' _ hx ⟨rfl,l,o,rfl,h1,h2,h3,h4⟩;dsimp only;by_cases hge:o >= n - hint
   ·rw [if_pos hge];exact wpS_pure ⟨rfl,l,o,rfl,h1,h3,h4,.inl hge⟩
   ·rw [if_neg hge];show wpS _ _ _ _ (gbey left key arr base (hint+o) >>= _) _ _;refine wpS_bind (qFD hk hkey ha (by omega) ?_)
    dsimp only;cases e2:qAK left key arr base (hint+o) with
    | false=>
     rw [if_pos (by rfl)]
     exact wpS_pure ⟨rfl,l,o,rfl,h1,h3,h4,.inr e2⟩
    | true=>
     rw [if_neg (by simp)]
     exact wpS_pure ⟨rfl,o,2 * o+1,rfl,by omega,by omega,by omega,e2⟩
  case post=>
   rintro c st' ⟨rfl,l,o,rfl,h1,h3,h4,h5⟩;dsimp only;have hl':∀ i,i<hint+l+1->qAK left key arr base i=true:=fun i hi=>mono i (hint+l) (by omega) h3 h4
   have hr':∀ i,hint+min o (n - hint)<=i->i<n->qAK left key arr base i=false:=fun i hi hin=>by
    rcases h5 with h5 | h5
    ·omega
    ·exact mono' (hint+o) i (by omega) hin h5
   refine wpS_bind (wpS_mono (wpS_forRange (I:=fun x c st''=>st''=st'/\∃ l r,c=(none,l,r)/\l<=r/\r<=n/\r - l<=n - x/\(∀ i,i<l->qAK left key arr base i=true)/\∀ i,r<=i->i<n->qAK left key arr base i=false)
    (Q:=fun c st''=>st''=st'/\∃ l,c=(none,l,l)/\l<=n/\(∀ i,i<l->qAK left key arr base i=true)/\∀ i,l<=i->i<n->qAK left key arr base i=false) ?bstep ?bfin ⟨rfl,hint+l+1,hint+min o (n - hint),rfl,by omega,by omega,by omega,hl',hr'⟩) ?bpost)
   case bfin=>
    rintro c st'' ⟨rfl,l,r,rfl,h1,h2,h3,h4,h5⟩;have:l=r:=by omega
    subst this;exact ⟨rfl,l,rfl,h2,h4,h5⟩
   case bpost=>
    rintro c st'' ⟨rfl,l,rfl,h1,h2,h3⟩;exact wpS_pure (h l h1 h2 h3)
   case bstep=>
    rintro x c st'' _ hx ⟨rfl,l,r,rfl,h1,h2,h3,h4,h5⟩;dsimp only;by_cases hge:l >= r
    ·rw [if_pos hge];have:l=r:=by omega
     subst this;exact wpS_pure ⟨rfl,l,rfl,h2,h4,h5⟩
    ·rw [if_neg hge];show wpS _ _ _ _ (gbey left key arr base (l+(r - l) / 2) >>= _) _ _;refine wpS_bind (qFD hk hkey ha (by omega) ?_)
     dsimp only;cases e9:qAK left key arr base (l+(r - l) / 2) with
     | true=>
      rw [if_pos rfl];exact wpS_pure ⟨rfl,_,_,rfl,by omega,h2,by omega,fun i hi=>mono i _ (by omega) (by omega) e9,h5⟩
     | false=>
      rw [if_neg Bool.false_ne_true];exact wpS_pure ⟨rfl,_,_,rfl,by omega,by omega,by omega,h4,fun i hi hin=>mono' _ i hi hin e9⟩
 | false=>
  rw [if_neg Bool.false_ne_true];refine wpS_bind (wpS_mono (wpS_forRange (I:=fun x c st'=>st'=st/\∃ l o,c=(none,l,o)/\l<o/\x+1<=o/\l<=hint/\qAK left key arr base (hint - l)=false)
   (Q:=fun c st'=>st'=st/\∃ l o,c=(none,l,o)/\l<o/\l<=hint/\qAK left key arr base (hint - l)=false/\(o >= hint+1\/qAK left key arr base (hint - o)=true)) ?step ?fin ⟨rfl,0,1,rfl,by omega,by omega,by omega,e⟩) ?post)
  case fin=>
   rintro c st' ⟨rfl,l,o,rfl,h1,h2,h3,h4⟩;exact ⟨rfl,l,o,rfl,h1,h3,h4,.inl (by omega)⟩
  case step=>
   rintro x c st' _ hx ⟨rfl,l,o,rfl,h1,h2,h3,h4⟩;dsimp only;by_cases hge:o >= hint+1
   ·rw [if_pos hge];exact wpS_pure ⟨rfl,l,o,rfl,h1,h3,h4,.inl hge⟩
   ·rw [if_neg hge];show wpS _ _ _ _ (gbey left key arr base (hint - o) >>= _) _ _;refine wpS_bind (qFD hk hkey ha (by omega) ?_)
    dsimp only;cases e2:qAK left key arr base (hint - o) with
    | true=>
     rw [if_pos rfl];exact wpS_pure ⟨rfl,l,o,rfl,h1,h3,h4,.inr e2⟩
    | false=>
     rw [if_neg Bool.false_ne_true];exact wpS_pure ⟨rfl,o,2 * o+1,rfl,by omega,by omega,by omega,e2⟩
  case post=>
   rintro c st' ⟨rfl,l,o,rfl,h1,h3,h4,h5⟩;dsimp only;have hl':∀ i,i<hint+1 - min o (hint+1)->qAK left key arr base i=true:=fun i hi=>by
    rcases h5 with h5 | h5
    ·omega
    ·exact mono i (hint - o) (by omega) (by omega) h5
   have hr':∀ i,hint - l<=i->i<n->qAK left key arr base i=false:=fun i hi hin=>mono' (hint - l) i hi hin h4;refine wpS_bind (wpS_mono (wpS_forRange (I:=fun x c st''=>st''=st'/\∃ l r,c=(none,l,r)/\l<=r/\r<=n/\r - l<=n - x/\(∀ i,i<l->qAK left key arr base i=true)/\∀ i,r<=i->i<n->qAK left key arr base i=false)
    (Q:=fun c st''=>st''=st'/\∃ l,c=(none,l,l)/\l<=n/\(∀ i,i<l->qAK left key arr base i=true)/\∀ i,l<=i->i<n->qAK left key arr base i=false) ?bstep ?bfin ⟨rfl,hint+1 - min o (hint+1),hint - l,rfl,by omega,by omega,by omega,hl',hr'⟩) ?bpost)
   case bfin=>
    rintro c st'' ⟨rfl,l,r,rfl,h1,h2,h3,h4,h5⟩;have:l=r:=by omega
    subst this;exact ⟨rfl,l,rfl,h2,h4,h5⟩
   case bpost=>
    rintro c st'' ⟨rfl,l,rfl,h1,h2,h3⟩;exact wpS_pure (h l h1 h2 h3)
   case bstep=>
    rintro x c st'' _ hx ⟨rfl,l,r,rfl,h1,h2,h3,h4,h5⟩;dsimp only;by_cases hge:l >= r
    ·rw [if_pos hge];have:l=r:=by omega
     subst this;exact wpS_pure ⟨rfl,l,rfl,h2,h4,h5⟩
    ·rw [if_neg hge];show wpS _ _ _ _ (gbey left key arr base (l+(r - l) / 2) >>= _) _ _;refine wpS_bind (qFD hk hkey ha (by omega) ?_)
     dsimp only;cases e9:qAK left key arr base (l+(r - l) / 2) with
     | true=>
      rw [if_pos rfl];exact wpS_pure ⟨rfl,_,_,rfl,by omega,h2,by omega,fun i hi=>mono i _ (by omega) (by omega) e9,h5⟩
     | false=>
      rw [if_neg Bool.false_ne_true];exact wpS_pure ⟨rfl,_,_,rfl,by omega,by omega,by omega,h4,fun i hi hin=>mono' _ i hi hin e9⟩
end
end L2.G
namespace L2.G
open PySem PyProof.Rows
variable [NM]
structure gMR (R:Keyed->Keyed->Prop) (all out ra rb:List Keyed):Prop where
 perm:(out++(ra++rb)).Perm all
 up:out.Pairwise R
 ua:ra.Pairwise R
 ub:rb.Pairwise R
 la:∀ x ∈ out,∀ y ∈ ra,R x y
 lb:∀ x ∈ out,∀ y ∈ rb,R x y
section
variable {R:Keyed->Keyed->Prop} {all out ra rb xs:List Keyed}
theorem gMR.symm (h:gMR R all out ra rb):gMR R all out rb ra:=⟨((List.Perm.refl out).append (List.perm_append_comm)).trans h.perm,h.up,h.ub,h.ua,h.lb,h.la⟩
theorem gMR.takeA (h:gMR R all out (xs++ra) rb) (c:∀ x ∈ xs,∀ y ∈ rb,R x y):gMR R all (out++xs) ra rb:=by
 have ua:=List.pairwise_append.mp h.ua;refine ⟨?_,List.pairwise_append.mpr ⟨h.up,ua.1,fun x hx y hy=>h.la x hx y (List.mem_append.mpr (.inl hy))⟩,ua.2.1,h.ub,fun x hx y hy=>?_,fun x hx y hy=>?_⟩
 ·have e:out++xs++(ra++rb)=out++((xs++ra)++rb):=by simp [List.append_assoc]
  rw [e];exact h.perm
 ·rcases List.mem_append.mp hx with hx | hx
  ·exact h.la x hx y (List.mem_append.mpr (.inr hy))
  ·exact ua.2.2 x hx y hy
 ·rcases List.mem_append.mp hx with hx | hx
  ·exact h.lb x hx y hy
  ·exact c x hx y hy
theorem gMR.takeB (h:gMR R all out ra (xs++rb)) (c:∀ x ∈ xs,∀ y ∈ ra,R x y):gMR R all (out++xs) ra rb:=(gMR.takeA h.symm c).symm
theorem gMR.allA (h:gMR R all out ra []):(out++ra).Perm all/\(out++ra).Pairwise R:=by
 have h':gMR R all out (ra++[]) []:=by rw [List.append_nil];exact h
 have q:=h'.takeA fun _ _ _ z=>nomatch z;exact ⟨by have:=q.perm;simpa using this,q.up⟩
theorem gMR.allB (h:gMR R all out [] rb):(out++rb).Perm all/\(out++rb).Pairwise R:=h.symm.allA
theorem gMR.lastA {z:Keyed} (h:gMR R all out [z] rb) (c:∀ y ∈ rb,R y z):(out++rb++[z]).Perm all/\(out++rb++[z]).Pairwise R:=by
 have h':gMR R all out [z] (rb++[]):=by rw [List.append_nil];exact h
 exact (h'.takeB fun x hx y hy=>by rw [List.mem_singleton.mp hy];exact c x hx).allA
end
abbrev grUp (x y:Keyed):Prop:=gkv x<=gkv y
abbrev grDn (x y:Keyed):Prop:=gkv y<=gkv x
def gRes (all r:List Keyed):Prop:=r.Perm all/\r.Pairwise grUp
def gSE (st st':SortSt):Prop:=kindOf st'=kindOf st/\arrOf st'=arrOf st/\pendingOf st'=pendingOf st/\failedOf st'=failedOf st
theorem gSE.refl (st:SortSt):gSE st st:=⟨rfl,rfl,rfl,rfl⟩
def gmLo:Array Keyed->Array Keyed->gSM (Array Keyed):=sortPriv% PySem.Builtin.mergeLo
def gmHi:Array Keyed->Array Keyed->gSM (Array Keyed):=sortPriv% PySem.Builtin.mergeHi
theorem qCN {l:List Keyed} {i:Nat} {x:Keyed} (h:l[i]?=some x):l.drop i=[x]++l.drop (i+1):=by
 obtain ⟨hi,e⟩:=List.getElem?_eq_some_iff.mp h;rw [List.drop_eq_getElem_cons hi,e]
 rfl
theorem qBM {a:Array Keyed} {i:Nat} (h:i<a.size):∃ x,a[i]?=some x/\a.toList[i]?=some x/\x ∈ a.toList:=⟨a[i],Array.getElem?_eq_getElem h,by simp [h],by simp⟩
theorem qAP (a:Array Keyed) (i j:Nat):(a.extract i j).toList=(a.toList.drop i).take (j - i):=by simp
theorem qEW {l:List Keyed} {i k:Nat}:l.drop i=(l.drop i).take k++l.drop (i+k):=by
 rw [<- List.drop_drop,List.take_append_drop]
theorem qDI {left:Bool} {key:Keyed} {arr:Array Keyed} {base n:Nat} (hn:base+n<=arr.size) (u:(arr.toList.drop base).Pairwise grUp):∀ i j,i<=j->j<n->qAK left key arr base j=true->qAK left key arr base i=true:=by
 intro i j hij hj e;by_cases hij':i=j
 ·subst hij';exact e
 have hj':base+j<arr.size:=by omega
 have hi':base+i<arr.size:=by omega
 have le:gkv arr[base+i]<=gkv arr[base+j]:=by
  have:=List.pairwise_iff_getElem.mp u i j (by simp;omega) (by simp;omega) (by omega)
  simpa using this
 unfold qAK at e ⊢;rw [Array.getElem?_eq_getElem hj'] at e;rw [Array.getElem?_eq_getElem hi'];cases left with
 | true=>
  have e':decide (gkv arr[base+j]<gkv key)=true:=e;show decide (gkv arr[base+i]<gkv key)=true;have:=of_decide_eq_true e';exact decide_eq_true (by omega)
 | false=>
  have e':decide (gkv arr[base+j]<=gkv key)=true:=e;show decide (gkv arr[base+i]<=gkv key)=true;have:=of_decide_eq_true e';exact decide_eq_true (by omega)
theorem qLB {key:Keyed} {arr:Array Keyed} {base n k:Nat} (hk:k<=n) (hn:base+n<=arr.size) (h:∀ i,i<k->qAK true key arr base i=true):∀ x ∈ (arr.toList.drop base).take k,gkv x<gkv key:=by
 intro x hx;obtain ⟨i,hi,rfl⟩:=List.getElem_of_mem hx;simp only [List.length_take,List.length_drop,Array.length_toList] at hi;have e:=h i (by omega)
 unfold qAK at e;rw [Array.getElem?_eq_getElem (show base+i<arr.size by omega)] at e
 have e':decide (gkv arr[base+i]<gkv key)=true:=e;simpa using of_decide_eq_true e'
theorem qLC {key:Keyed} {arr:Array Keyed} {base n k:Nat} (hk:k<=n) (hn:base+n<=arr.size) (h:∀ i,i<k->qAK false key arr base i=true):∀ x ∈ (arr.toList.drop base).take k,gkv x<=gkv key:=by
 intro x hx;obtain ⟨i,hi,rfl⟩:=List.getElem_of_mem hx;simp only [List.length_take,List.length_drop,Array.length_toList] at hi;have e:=h i (by omega)
 unfold qAK at e;rw [Array.getElem?_eq_getElem (show base+i<arr.size by omega)] at e
 have e':decide (gkv arr[base+i]<=gkv key)=true:=e;simpa using of_decide_eq_true e'
theorem qJ2 {key:Keyed} {arr:Array Keyed} {base n k:Nat} (hn:base+n<=arr.size) (h:∀ i,k<=i->i<n->qAK true key arr base i=false):∀ x ∈ ((arr.toList.drop base).take n).drop k,gkv key<=gkv x:=by
 intro x hx;obtain ⟨i,hi,rfl⟩:=List.getElem_of_mem hx;simp only [List.length_take,List.length_drop,Array.length_toList] at hi;have e:=h (k+i) (by omega) (by omega)
 unfold qAK at e;rw [Array.getElem?_eq_getElem (show base+(k+i)<arr.size by omega)] at e
 have e':decide (gkv arr[base+(k+i)]<gkv key)=false:=e;have:=of_decide_eq_false e';simp only [List.getElem_drop,List.getElem_take,Array.getElem_toList];omega
theorem qJ1 {key:Keyed} {arr:Array Keyed} {base n k:Nat} (hn:base+n<=arr.size) (h:∀ i,k<=i->i<n->qAK false key arr base i=false):∀ x ∈ ((arr.toList.drop base).take n).drop k,gkv key<gkv x:=by
 intro x hx;obtain ⟨i,hi,rfl⟩:=List.getElem_of_mem hx;simp only [List.length_take,List.length_drop,Array.length_toList] at hi;have e:=h (k+i) (by omega) (by omega)
 unfold qAK at e;rw [Array.getElem?_eq_getElem (show base+(k+i)<arr.size by omega)] at e
 have e':decide (gkv arr[base+(k+i)]<=gkv key)=false:=e;have:=of_decide_eq_false e';simp only [List.getElem_drop,List.getElem_take,Array.getElem_toList];omega
end L2.G
namespace L2.G
open PySem PyProof.Rows
variable [NM]
theorem gifT {prog:Program} {w:World} {A:Around} {E:Value->Shared->Prop} {s:Shared} {α:Type} {c:Prop} [Decidable c] {x y:gSM α} {Q:α->SortSt->Prop} {st:SortSt} (h:c) (k:wpS (model prog w) A E s x Q st):wpS (model prog w) A E s (if c then x else y) Q st:=by rw [if_pos h];exact k
theorem gifF {prog:Program} {w:World} {A:Around} {E:Value->Shared->Prop} {s:Shared} {α:Type} {c:Prop} [Decidable c] {x y:gSM α} {Q:α->SortSt->Prop} {st:SortSt} (h:¬ c) (k:wpS (model prog w) A E s y Q st):wpS (model prog w) A E s (if c then x else y) Q st:=by rw [if_neg h];exact k
theorem gtwo {α:Type} {A:Prop} {M G:α->Prop} (h1:(∀ o,M o->G o)->A) (h2:∀ o,M o->G o):A:=h1 h2
section
variable {prog:Program} {w:World} {A:Around} {E:Value->Shared->Prop} {s:Shared} {κ0:SortKind} [LtOk prog w A s κ0]
theorem gopq {A:Prop} (h:∀ G:Prop,(A->G)->G):A:=h A id
theorem gnm {prog:Program} {w:World} {A:Around} {E:Value->Shared->Prop} {s:Shared} {α:Type} {x:gSM α} {Q:α->SortSt->Prop} {st:SortSt} (h:∀ R:α->SortSt->Prop,(∀ a st,Q a st->R a st)->wpS (model prog w) A E s x R st):wpS (model prog w) A E s x Q st:=h Q fun _ _ z=>z
theorem qSA {st:SortSt} {a b:Array Keyed} {Q:Array Keyed->SortSt->Prop} (hk:kindOf st=κ0) (ka:∀ x ∈ a.toList,gIK x) (kb:∀ x ∈ b.toList,gIK x) (ua:a.toList.Pairwise grUp) (ub:b.toList.Pairwise grUp) (na:0<a.size) (nb:0<b.size)
  (first:∀ y,b.toList[0]?=some y->∀ x ∈ a.toList,gkv y<=gkv x) (last:∀ z,a.toList[a.size - 1]?=some z->∀ y ∈ b.toList,gkv y<=gkv z)
  (h:∀ r st',gSE st st'->gRes (a.toList++b.toList) r.toList->Q r st'):wpS (model prog w) A E s (gmLo a b) Q st:=by
 have tl:(a.toList++b.toList).length=a.size+b.size:=by simp
 -- ways out
 have outB:∀ (out:Array Keyed) (ia:Nat),gMR grUp (a.toList++b.toList) out.toList (a.toList.drop ia) (b.toList.drop b.size)->gRes (a.toList++b.toList) (out++a.extract ia a.size++b.extract b.size b.size).toList:=by
  intro out ia m;have e:b.toList.drop b.size=[]:=List.drop_eq_nil_of_le (by simp)
  rw [e] at m;have q:=m.allA;have e2:(out++a.extract ia a.size++b.extract b.size b.size).toList=out.toList++a.toList.drop ia:=by
   rw [Array.toList_append,Array.toList_append,qAP,qAP,e,List.take_nil,List.append_nil,List.take_of_length_le (by simp)]
  rw [e2];exact q
 have outA:∀ (out:Array Keyed) (ib:Nat),gMR grUp (a.toList++b.toList) out.toList (a.toList.drop a.size) (b.toList.drop ib)->gRes (a.toList++b.toList) (out++a.extract a.size a.size++b.extract ib b.size).toList:=by
  intro out ib m;have e:a.toList.drop a.size=[]:=List.drop_eq_nil_of_le (by simp)
  rw [e] at m;have q:=m.allB;have e2:(out++a.extract a.size a.size++b.extract ib b.size).toList=out.toList++b.toList.drop ib:=by
   rw [Array.toList_append,Array.toList_append,qAP,qAP,e,List.take_nil,List.append_nil,List.take_of_length_le (by simp)]
  rw [e2];exact q
 have outL:∀ (out:Array Keyed) (ia ib:Nat),ia+1=a.size->gMR grUp (a.toList++b.toList) out.toList (a.toList.drop ia) (b.toList.drop ib)->gRes (a.toList++b.toList) (out++b.extract ib b.size++a.extract ia a.size).toList:=by
  intro out ia ib hia m;refine gopq fun G_101 hG_101=>?_;obtain ⟨z,_,hz,_⟩:=qBM (a:=a) (i:=ia) (by lia)
  refine hG_101 ?_;have e:a.toList.drop ia=[z]:=by rw [qCN hz,List.drop_eq_nil_of_le (by simp;lia)];rfl
  rw [e] at m;have q:=m.lastA fun y hy=>last z (by rw [show a.size - 1=ia by lia];exact hz) y (List.mem_of_mem_drop hy)
  have e2:(out++b.extract ib b.size++a.extract ia a.size).toList=out.toList++b.toList.drop ib++[z]:=by
   rw [Array.toList_append,Array.toList_append,qAP,qAP,e,List.take_of_length_le (by simp),List.take_of_length_le (by simp;lia)]
  rw [e2];exact q
 -- the first of b
 refine gopq fun G_102 hG_102=>?_;obtain ⟨y0,hy0,hy0',_⟩:=qBM (a:=b) (i:=0) nb;refine hG_102 ?_;have m0:gMR grUp (a.toList++b.toList) #[y0].toList (a.toList.drop 0) (b.toList.drop 1):=by
  have m:gMR grUp (a.toList++b.toList) [] a.toList ([y0]++b.toList.drop 1):=by
   rw [<- qCN hy0'];exact ⟨.refl _,.nil,ua,ub,(fun _ z=>nomatch z),(fun _ z=>nomatch z)⟩
  exact m.takeB fun x hx y hy=>by rw [List.mem_singleton.mp hx];exact first y0 hy0' y hy
 -- a step of b,a step of a
 have stepB:∀ {out:Array Keyed} {ia ib:Nat} {y:Keyed},gMR grUp (a.toList++b.toList) out.toList (a.toList.drop ia) (b.toList.drop ib)->b.toList[ib]?=some y->(∀ x ∈ a.toList.drop ia,gkv y<=gkv x)->gMR grUp (a.toList++b.toList) (out.push y).toList (a.toList.drop ia) (b.toList.drop (ib+1)):=by
  intro out ia ib y m hy c;rw [qCN hy] at m;rw [Array.toList_push];exact m.takeB fun x hx z hz=>by rw [List.mem_singleton.mp hx];exact c z hz
 have stepA:∀ {out:Array Keyed} {ia ib:Nat} {x:Keyed},gMR grUp (a.toList++b.toList) out.toList (a.toList.drop ia) (b.toList.drop ib)->a.toList[ia]?=some x->(∀ y ∈ b.toList.drop ib,gkv x<=gkv y)->gMR grUp (a.toList++b.toList) (out.push x).toList (a.toList.drop (ia+1)) (b.toList.drop ib):=by
  intro out ia ib x m hx c;rw [qCN hx] at m;rw [Array.toList_push];exact m.takeA fun z hz y hy=>by rw [List.mem_singleton.mp hz];exact c y hy
 have least:∀ {l:List Keyed} {i:Nat} {x:Keyed},l.Pairwise grUp->l[i]?=some x->∀ y ∈ l.drop i,gkv x<=gkv y:=by
  intro l i x u hx y hy;have u':=u.sublist (List.drop_sublist i l);rw [qCN hx] at u' hy;rcases List.mem_append.mp hy with hy | hy
  ·rw [List.mem_singleton.mp hy];exact Int.le_refl _
  ·exact (List.pairwise_append.mp u').2.2 x (by simp) y hy
 have room:∀ {out:Array Keyed} {ia ib:Nat},gMR grUp (a.toList++b.toList) out.toList (a.toList.drop ia) (b.toList.drop ib)->ia<a.size->ib<b.size->ia+ib<a.size+b.size:=fun _ _ _=>by lia
 unfold gmLo;show wpS _ _ _ _ (liftM (rule "list.sort.merge-lo") >>= _) _ _;refine wpS_bind (wpS_lift (wpAny_rule ⟨rfl,?_⟩));refine wpS_bind (qB4 hy0 ?_);dsimp only;by_cases hb1:b.size=1
 ·refine gifT (by simp [hb1]) ?_
  refine wpS_pure (h _ _ (.refl st) ?_);have:=outB #[y0] 0 (by rw [hb1];exact m0)
  rw [hb1] at this ⊢;exact this
 refine gifF (by simp;lia) ?_
 by_cases ha1:a.size=1
 ·refine gifT (by simp [ha1]) ?_
  exact wpS_pure (h _ _ (.refl st) (outL #[y0] 0 1 (by lia) m0))
 refine gifF (by simp;lia) ?_
 refine wpS_bind (wpS_get ?_);refine wpS_bind (wpS_mono (wpS_forRange
  (I:=fun x c st'=>gSE st st'/\∃ (out:Array Keyed) (ia ib mg:Nat),c=(none,out,ia,ib,mg)/\gMR grUp (a.toList++b.toList) out.toList (a.toList.drop ia) (b.toList.drop ib)/\ia+1<a.size/\ib<b.size/\x+1<=ia+ib)
  (Q:=fun c st'=>gSE st st'/\∃ r rest,c=(some r,rest)/\gRes (a.toList++b.toList) r.toList) ?ostep ?ofin ⟨.refl st,_,0,1,_,rfl,m0,by lia,by lia,by lia⟩) ?opost)
 case opost=>
  refine fun c st' hI_103=>gopq fun G_103 hG_103=>?_;obtain ⟨se,r,rest,rfl,hr⟩:=hI_103;refine hG_103 ?_;exact wpS_pure (h r st' se hr)
 case ofin=>
  refine fun c st' hI_104=>gopq fun G_104 hG_104=>?_;obtain ⟨se,out,ia,ib,mg,rfl,m,h1,h2,h3⟩:=hI_104;refine hG_104 ?_
  lia
 case ostep=>
  refine fun x c st1 _ hx hI_105=>gopq fun G_105 hG_105=>?_;obtain ⟨se,out,ia,ib,mg,rfl,m,h1,h2,h3⟩:=hI_105;refine hG_105 ?_;dsimp only;refine wpS_bind (wpS_mono (wpS_forRange
   (I:=fun y c st'=>gSE st st'/\∃ (out:Array Keyed) (ia' ib' ac bc:Nat),c=(none,out,ia',ib',ac,bc)/\gMR grUp (a.toList++b.toList) out.toList (a.toList.drop ia') (b.toList.drop ib')/\ia'+1<a.size/\ib'<b.size/\ia+ib+y<=ia'+ib')
   (Q:=fun c st'=>gSE st st'/\((∃ r rest,c=(some r,rest)/\gRes (a.toList++b.toList) r.toList)\/∃ (out:Array Keyed) (ia' ib' ac bc:Nat),c=(none,out,ia',ib',ac,bc)/\gMR grUp (a.toList++b.toList) out.toList (a.toList.drop ia') (b.toList.drop ib')/\ia'+1<a.size/\ib'<b.size/\ia+ib+1<=ia'+ib')) ?istep ?ifin ⟨se,out,ia,ib,0,0,rfl,m,h1,h2,by lia⟩) ?ipost)
  case ifin=>
   refine fun c st' hI_106=>gopq fun G_106 hG_106=>?_;obtain ⟨se,out,ia',ib',ac,bc,rfl,m,g1,g2,g3⟩:=hI_106;refine hG_106 ?_
   lia
  case istep=>
   refine fun y c st' _ hy hI_107=>gopq fun G_107 hG_107=>?_;obtain ⟨se,out,ia',ib',ac,bc,rfl,m,g1,g2,g3⟩:=hI_107;refine hG_107 ?_;dsimp only;refine gnm fun R hR=>?_;refine gopq fun G_108 hG_108=>?_;obtain ⟨yb,e1,e1',mb⟩:=qBM (a:=b) (i:=ib') g2;refine hG_108 ?_;refine gopq fun G_109 hG_109=>?_;obtain ⟨xa,e2,e2',ma⟩:=qBM (a:=a) (i:=ia') (by lia)
   refine hG_109 ?_;have hk':kindOf st'=κ0:=se.1.trans hk;refine wpS_bind (qB4 e1 (wpS_bind (qB4 e2 (wpS_bind (qFC hk' (kb _ mb) (ka _ ma) ?_)))));dsimp only;by_cases hw:gkv yb<gkv xa
   ·rw [decide_eq_true hw,if_pos rfl];refine wpS_bind (qB4 e1 ?_);have m':=stepB m e1' fun x hx=>by have:=least ua e2' x hx;lia
    by_cases hbe:ib'+1=b.size
    ·refine gifT (by simp [hbe]) ?_
     refine wpS_pure (hR _ _ ⟨se,.inl ⟨_,_,rfl,?_⟩⟩);rw [hbe] at m' ⊢;exact outB _ _ m'
    ·refine gifF (by simp;exact hbe) ?_
     split
     ·exact wpS_pure (hR _ _ ⟨se,.inr ⟨_,_,_,_,_,rfl,m',g1,by lia,by lia⟩⟩)
     ·exact wpS_pure (hR _ _ ⟨se,_,_,_,_,_,rfl,m',g1,by lia,by lia⟩)
   ·rw [decide_eq_false hw,if_neg Bool.false_ne_true];refine wpS_bind (qB4 e2 ?_);have m':=stepA m e2' fun y hy=>by have:=least ub e1' y hy;lia
    by_cases hae:ia'+1+1=a.size
    ·refine gifT (by simp [hae]) ?_
     exact wpS_pure (hR _ _ ⟨se,.inl ⟨_,_,rfl,outL _ _ _ hae m'⟩⟩)
    ·refine gifF (by simp;exact hae) ?_
     split
     ·exact wpS_pure (hR _ _ ⟨se,.inr ⟨_,_,_,_,_,rfl,m',by lia,g2,by lia⟩⟩)
     ·exact wpS_pure (hR _ _ ⟨se,_,_,_,_,_,rfl,m',by lia,g2,by lia⟩)
  case ipost=>
   rintro c st2 ⟨se,⟨r,rest,rfl,hr⟩ | ⟨out,ia1,ib1,ac,bc,rfl,m,g1,g2,g3⟩⟩
   ·exact wpS_pure ⟨se,r,_,rfl,hr⟩
   dsimp only;refine wpS_bind (wpS_lift (wpAny_rule ⟨rfl,?_⟩));refine wpS_bind (wpS_mono (wpS_forRange
    (I:=fun y c st'=>gSE st st'/\∃ (out:Array Keyed) (ia' ib' mg ac bc:Nat),c=(none,out,ia',ib',mg,ac,bc)/\gMR grUp (a.toList++b.toList) out.toList (a.toList.drop ia') (b.toList.drop ib')/\ia'+1<a.size/\ib'<b.size/\ia1+ib1+y<=ia'+ib')
    (Q:=fun c st'=>gSE st st'/\((∃ r rest,c=(some r,rest)/\gRes (a.toList++b.toList) r.toList)\/∃ (out:Array Keyed) (ia' ib' mg ac bc:Nat),c=(none,out,ia',ib',mg,ac,bc)/\gMR grUp (a.toList++b.toList) out.toList (a.toList.drop ia') (b.toList.drop ib')/\ia'+1<a.size/\ib'<b.size/\ia1+ib1<=ia'+ib')) ?gstep ?gfin ⟨se,out,ia1,ib1,_,ac,bc,rfl,m,g1,g2,by lia⟩) ?gpost)
   case gfin=>
    refine fun c st' hI_110=>gopq fun G_110 hG_110=>?_;obtain ⟨se,out,ia',ib',mg,ac,bc,rfl,m,q1,q2,q3⟩:=hI_110;refine hG_110 ?_
    lia
   case gpost=>
    rintro c st3 ⟨se,⟨r,rest,rfl,hr⟩ | ⟨out,ia',ib',mg,ac,bc,rfl,m,q1,q2,q3⟩⟩
    ·exact wpS_pure ⟨se,r,_,rfl,hr⟩
    dsimp only;refine wpS_bind (wpS_modify (wpS_pure ?_));exact ⟨⟨se.1,se.2.1,se.2.2.1,se.2.2.2⟩,out,ia',ib',_,rfl,m,q1,q2,by lia⟩
   case gstep=>
    refine fun y c st0 _ hy hI_111=>gopq fun G_111 hG_111=>?_;obtain ⟨se,out,ia',ib',mg,ac,bc,rfl,m,q1,q2,q3⟩:=hI_111;refine hG_111 ?_;dsimp only;refine gnm fun R hR=>?_;refine gopq fun G_112 hG_112=>?_;obtain ⟨yb,e1,e1',mb⟩:=qBM (a:=b) (i:=ib') q2;refine hG_112 ?_;have hm:b.toList.drop ib'=[yb]++b.toList.drop (ib'+1):=qCN e1';apply gtwo (α:=Nat) (M:=fun _=>True)
    ·intro J;by_cases hmg:mg > 1
     ·refine gifT hmg ?_;refine wpS_bind (wpS_modify ?_);generalize mg - 1=n;exact J n trivial
     ·refine gifF hmg ?_;refine wpS_bind (wpS_modify ?_);generalize mg=n;exact J n trivial
    ·intro n _;have se':gSE st st0:=se;refine wpS_bind (qB4 e1 ?_);refine wpS_bind (qEG (left:=false) (n:=a.size - ia') (hint:=0) (se.1.trans hk) (kb _ mb) ka (by lia) (by lia) (qDI (by lia) (ua.sublist (List.drop_sublist _ _))) fun k k1 k2 k3=>?_)
     dsimp only;have gt1:∀ x ∈ a.toList.drop (ia'+k),gkv yb<=gkv x:=fun x hx=>by
      have q:=qJ1 (base:=ia') (n:=a.size - ia') (by lia) k3 x
      rw [List.take_of_length_le (by simp),List.drop_drop] at q
      exact Int.le_of_lt (q hx)
     apply gtwo (α:=Array Keyed) (M:=fun o=>gMR grUp (a.toList++b.toList) o.toList (a.toList.drop (ia'+k)) (b.toList.drop ib')/\ia'+k+1<a.size)
     ·intro J;by_cases k0:k > 0
      ·refine gifT k0 ?_;have mk:gMR grUp (a.toList++b.toList) (out++a.extract ia' (ia'+k)).toList (a.toList.drop (ia'+k)) (b.toList.drop ib'):=by
        rw [Array.toList_append,qAP,show ia'+k - ia'=k by lia]
        rw [qEW (l:=a.toList) (i:=ia') (k:=k)] at m;exact m.takeA fun x hx z hz=>by
         have q1:=qLC k1 (by lia) k2 x hx
         have q2:=least ub e1' z hz;show gkv x<=gkv z
         lia
       by_cases c1:ia'+k+1=a.size
       ·refine gifT (by simp [c1]) ?_
        exact wpS_pure (hR _ _ ⟨se',.inl ⟨_,_,rfl,outL _ _ _ c1 mk⟩⟩)
       refine gifF (by simp;exact c1) ?_
       by_cases c2:ia'+k=a.size
       ·refine gifT (by simp [c2]) ?_
        refine wpS_pure (hR _ _ ⟨se',.inl ⟨_,_,rfl,?_⟩⟩);rw [c2] at mk ⊢;exact outA _ _ mk
       refine gifF (by simp;exact c2) ?_
       generalize out++a.extract ia' (ia'+k)=o at mk ⊢;exact J o ⟨mk,by lia⟩
      ·refine gifF k0 ?_;have k00:k=0:=by lia
       subst k00;exact J out ⟨m,by lia⟩
     ·rintro o ⟨mk,kp⟩;refine wpS_bind (qB4 e1 ?_);have m1:=stepB mk e1' gt1;by_cases hbe:ib'+1=b.size
      ·refine gifT (by simp [hbe]) ?_
       refine wpS_pure (hR _ _ ⟨se',.inl ⟨_,_,rfl,?_⟩⟩);rw [hbe] at m1 ⊢;exact outB _ _ m1
      refine gifF (by simp;exact hbe) ?_
      refine gopq fun G_113 hG_113=>?_;obtain ⟨xa,e2,e2',ma⟩:=qBM (a:=a) (i:=ia'+k) (by lia)
      refine hG_113 ?_;refine wpS_bind (qB4 e2 ?_);refine wpS_bind (qEG (left:=true) (n:=b.size - (ib'+1)) (hint:=0) (se.1.trans hk) (ka _ ma) kb (by lia) (by lia) (qDI (by lia) (ub.sublist (List.drop_sublist _ _))) fun k' j1 j2 j3=>?_)
      dsimp only;have ge2:∀ y ∈ b.toList.drop (ib'+1+k'),gkv xa<=gkv y:=fun y hy=>by
       have q:=qJ2 (base:=ib'+1) (n:=b.size - (ib'+1)) (by lia) j3 y
       rw [List.take_of_length_le (by simp),List.drop_drop] at q
       exact q hy
      generalize o.push yb=o1 at m1 ⊢;apply gtwo (α:=Array Keyed) (M:=fun o=>gMR grUp (a.toList++b.toList) o.toList (a.toList.drop (ia'+k)) (b.toList.drop (ib'+1+k'))/\ib'+1+k'<b.size)
      ·intro J;by_cases k0':k' > 0
       ·rw [if_pos k0'];have m2:gMR grUp (a.toList++b.toList) (o1++b.extract (ib'+1) (ib'+1+k')).toList (a.toList.drop (ia'+k)) (b.toList.drop (ib'+1+k')):=by
         rw [Array.toList_append,qAP,show ib'+1+k' - (ib'+1)=k' by lia]
         rw [qEW (l:=b.toList) (i:=ib'+1) (k:=k')] at m1;exact m1.takeB fun x hx z hz=>by
          have q1:=qLB j1 (by lia) j2 x hx
          have q2:=least ua e2' z hz;show gkv x<=gkv z
          lia
        by_cases hb2:ib'+1+k'=b.size
        ·refine gifT (by simp [hb2]) ?_
         refine wpS_pure (hR _ _ ⟨se',.inl ⟨_,_,rfl,?_⟩⟩);rw [hb2] at m2 ⊢;exact outB _ _ m2
        refine gifF (by simp;exact hb2) ?_
        generalize o1++b.extract (ib'+1) (ib'+1+k')=o2 at m2 ⊢;exact J o2 ⟨m2,by lia⟩
       ·rw [if_neg k0'];have k0'':k'=0:=by lia
        subst k0'';exact J o1 ⟨m1,by lia⟩
      ·rintro o2 ⟨m2,kp'⟩;refine wpS_bind (qB4 e2 ?_);have m3:=stepA m2 e2' ge2;by_cases hae:ia'+k+1+1=a.size
       ·refine gifT (by simp [hae]) ?_
        exact wpS_pure (hR _ _ ⟨se',.inl ⟨_,_,rfl,outL _ _ _ hae m3⟩⟩)
       refine gifF (by simp;exact hae) ?_
       split
       ·exact wpS_pure (hR _ _ ⟨se',.inr ⟨_,_,_,_,_,_,rfl,m3,by lia,by lia,by lia⟩⟩)
       ·exact wpS_pure (hR _ _ ⟨se',_,_,_,_,_,_,rfl,m3,by lia,by lia,by lia⟩)
end
end L2.G
namespace L2.G
open PySem PyProof.Rows
variable [NM]
theorem qCS {l:List Keyed} {i:Nat} {x:Keyed} (h0:0<i) (h:l[i - 1]?=some x):(l.take i).reverse=[x]++(l.take (i - 1)).reverse:=by
 obtain ⟨j,rfl⟩:∃ j,i=j+1:=⟨i - 1,by lia⟩
 have h':l[j]?=some x:=h;rw [List.take_add_one,h',Option.toList_some,List.reverse_append]
 rfl
theorem qHO {l:List Keyed} {i j:Nat} (h:i<=j):(l.take j).reverse=((l.drop i).take (j - i)).reverse++(l.take i).reverse:=by
 rw [<- List.reverse_append];congr 1;have e:=List.take_add (l:=l) (i:=i) (j:=j - i);rw [show i+(j - i)=j by lia] at e
 exact e
section
variable {prog:Program} {w:World} {A:Around} {E:Value->Shared->Prop} {s:Shared} {κ0:SortKind} [LtOk prog w A s κ0]
theorem qSB {st:SortSt} {a b:Array Keyed} {Q:Array Keyed->SortSt->Prop} (hk:kindOf st=κ0) (ka:∀ x ∈ a.toList,gIK x) (kb:∀ x ∈ b.toList,gIK x) (ua:a.toList.Pairwise grUp) (ub:b.toList.Pairwise grUp) (na:0<a.size) (nb:0<b.size)
  (first:∀ y,b.toList[0]?=some y->∀ x ∈ a.toList,gkv y<=gkv x) (last:∀ z,a.toList[a.size - 1]?=some z->∀ y ∈ b.toList,gkv y<=gkv z)
  (h:∀ r st',gSE st st'->gRes (a.toList++b.toList) r.toList->Q r st'):wpS (model prog w) A E s (gmHi a b) Q st:=by
 have back:∀ {l:List Keyed},l.Perm (a.toList++b.toList)/\l.Pairwise grDn->gRes (a.toList++b.toList) l.reverse:=fun {l} q=>⟨(List.reverse_perm l).trans q.1,List.pairwise_reverse.mpr q.2⟩;have outA:∀ (out:Array Keyed) (nb':Nat),gMR grDn (a.toList++b.toList) out.toList (a.toList.take 0).reverse (b.toList.take nb').reverse->gRes (a.toList++b.toList) (a.extract 0 0++b.extract 0 nb'++out.reverse).toList:=by
  intro out nb' m;have q:=back (gMR.allB m);have e2:(a.extract 0 0++b.extract 0 nb'++out.reverse).toList=(out.toList++(b.toList.take nb').reverse).reverse:=by
   rw [Array.toList_append,Array.toList_append,qAP,qAP,Array.toList_reverse,List.reverse_append,List.reverse_reverse];simp
  rw [e2];exact q
 have outB:∀ (out:Array Keyed) (na':Nat),gMR grDn (a.toList++b.toList) out.toList (a.toList.take na').reverse (b.toList.take 0).reverse->gRes (a.toList++b.toList) (a.extract 0 na'++b.extract 0 0++out.reverse).toList:=by
  intro out na' m;have q:=back (gMR.allA m);have e2:(a.extract 0 na'++b.extract 0 0++out.reverse).toList=(out.toList++(a.toList.take na').reverse).reverse:=by
   rw [Array.toList_append,Array.toList_append,qAP,qAP,Array.toList_reverse,List.reverse_append,List.reverse_reverse];simp
  rw [e2];exact q
 refine gopq fun G_101 hG_101=>?_;obtain ⟨y0,hy0,hy0',_⟩:=qBM (a:=b) (i:=0) nb;refine hG_101 ?_;have outF:∀ (out:Array Keyed) (na':Nat),gMR grDn (a.toList++b.toList) out.toList (a.toList.take na').reverse (b.toList.take 1).reverse->gRes (a.toList++b.toList) (b.extract 0 1++a.extract 0 na'++out.reverse).toList:=by
  intro out na' m;have e:(b.toList.take 1).reverse=[y0]:=by rw [qCS (by decide) hy0'];simp
  rw [e] at m;have q:=back (m.symm.lastA fun y hy=>first y0 hy0' y (List.mem_of_mem_take (List.mem_reverse.mp hy)));have e1:b.toList.take 1=[y0]:=by have:=congrArg List.reverse e;simpa using this
  have e2:(b.extract 0 1++a.extract 0 na'++out.reverse).toList=(out.toList++(a.toList.take na').reverse++[y0]).reverse:=by
   rw [Array.toList_append,Array.toList_append,qAP,qAP,Array.toList_reverse];simp only [List.drop_zero,Nat.sub_zero,e1];simp
  rw [e2];exact q
 refine gopq fun G_102 hG_102=>?_;obtain ⟨z0,hz0,hz0',_⟩:=qBM (a:=a) (i:=a.size - 1) (by lia)
 refine hG_102 ?_;have m0:gMR grDn (a.toList++b.toList) #[z0].toList (a.toList.take (a.size - 1)).reverse (b.toList.take b.size).reverse:=by
  have m:gMR grDn (a.toList++b.toList) [] ([z0]++(a.toList.take (a.size - 1)).reverse) (b.toList.take b.size).reverse:=by
   rw [<- qCS na hz0',List.take_of_length_le (by simp),List.take_of_length_le (by simp)]
   refine ⟨?_,.nil,List.pairwise_reverse.mpr ua,List.pairwise_reverse.mpr ub,(fun _ z=>nomatch z),(fun _ z=>nomatch z)⟩;exact (List.reverse_perm _).append (List.reverse_perm _)
  exact m.takeA fun x hx y hy=>by rw [List.mem_singleton.mp hx];exact last z0 hz0' y (List.mem_of_mem_take (List.mem_reverse.mp hy))
 have stepB:∀ {out:Array Keyed} {na' nb':Nat} {y:Keyed},gMR grDn (a.toList++b.toList) out.toList (a.toList.take na').reverse (b.toList.take nb').reverse->0<nb'->b.toList[nb' - 1]?=some y->(∀ x ∈ (a.toList.take na').reverse,gkv x<=gkv y)->gMR grDn (a.toList++b.toList) (out.push y).toList (a.toList.take na').reverse (b.toList.take (nb' - 1)).reverse:=by
  intro out na' nb' y m h0 hy c;rw [qCS h0 hy] at m;rw [Array.toList_push];exact m.takeB fun x hx z hz=>by rw [List.mem_singleton.mp hx];exact c z hz
 have stepA:∀ {out:Array Keyed} {na' nb':Nat} {x:Keyed},gMR grDn (a.toList++b.toList) out.toList (a.toList.take na').reverse (b.toList.take nb').reverse->0<na'->a.toList[na' - 1]?=some x->(∀ y ∈ (b.toList.take nb').reverse,gkv y<=gkv x)->gMR grDn (a.toList++b.toList) (out.push x).toList (a.toList.take (na' - 1)).reverse (b.toList.take nb').reverse:=by
  intro out na' nb' x m h0 hx c;rw [qCS h0 hx] at m;rw [Array.toList_push];exact m.takeA fun z hz y hy=>by rw [List.mem_singleton.mp hz];exact c y hy
 have most:∀ {l:List Keyed} {i:Nat} {x:Keyed},l.Pairwise grUp->0<i->l[i - 1]?=some x->∀ y ∈ (l.take i).reverse,gkv y<=gkv x:=by
  intro l i x u h0 hx y hy;have u':((l.take i).reverse).Pairwise grDn:=List.pairwise_reverse.mpr (u.sublist (List.take_sublist i l));rw [qCS h0 hx] at u' hy;rcases List.mem_append.mp hy with hy | hy
  ·rw [List.mem_singleton.mp hy];exact Int.le_refl _
  ·exact (List.pairwise_append.mp u').2.2 x (by simp) y hy
 unfold gmHi;show wpS _ _ _ _ (liftM (rule "list.sort.merge-hi") >>= _) _ _;refine wpS_bind (wpS_lift (wpAny_rule ⟨rfl,?_⟩));refine wpS_bind (qB4 hz0 ?_);dsimp only;by_cases ha1:a.size - 1=0
 ·refine gifT (by simp [ha1]) ?_
  refine wpS_pure (h _ _ (.refl st) ?_);rw [ha1] at m0 ⊢;exact outA _ _ m0
 refine gifF (by simp;lia) ?_
 by_cases hb1:b.size=1
 ·refine gifT (by simp [hb1]) ?_
  refine wpS_pure (h _ _ (.refl st) ?_);rw [hb1] at m0 ⊢;exact outF _ _ m0
 refine gifF (by simp;lia) ?_
 refine wpS_bind (wpS_get ?_);refine wpS_bind (wpS_mono (wpS_forRange
  (I:=fun x c st'=>gSE st st'/\∃ (na' nb':Nat) (out:Array Keyed) (mg:Nat),c=(none,na',nb',out,mg)/\gMR grDn (a.toList++b.toList) out.toList (a.toList.take na').reverse (b.toList.take nb').reverse/\(0<na'/\na'<=a.size)/\(1<nb'/\nb'<=b.size)/\na'+nb'+x+1<=a.size+b.size)
  (Q:=fun c st'=>gSE st st'/\∃ r rest,c=(some r,rest)/\gRes (a.toList++b.toList) r.toList) ?ostep ?ofin ⟨.refl st,_,_,_,_,rfl,m0,by lia,by lia,by lia⟩) ?opost)
 case opost=>
  refine fun c st' hI_103=>gopq fun G_103 hG_103=>?_;obtain ⟨se,r,rest,rfl,hr⟩:=hI_103;refine hG_103 ?_;exact wpS_pure (h r st' se hr)
 case ofin=>
  refine fun c st' hI_104=>gopq fun G_104 hG_104=>?_;obtain ⟨se,na',nb',out,mg,rfl,m,h1,h2,h3⟩:=hI_104;refine hG_104 ?_
  lia
 case ostep=>
  refine fun x c st1 _ hx hI_105=>gopq fun G_105 hG_105=>?_;obtain ⟨se,na1,nb1,out,mg,rfl,m,h1,h2,h3⟩:=hI_105;refine hG_105 ?_;dsimp only;refine wpS_bind (wpS_mono (wpS_forRange
   (I:=fun y c st'=>gSE st st'/\∃ (na' nb':Nat) (out:Array Keyed) (ac bc:Nat),c=(none,na',nb',out,ac,bc)/\gMR grDn (a.toList++b.toList) out.toList (a.toList.take na').reverse (b.toList.take nb').reverse/\(0<na'/\na'<=a.size)/\(1<nb'/\nb'<=b.size)/\na'+nb'+y<=na1+nb1)
   (Q:=fun c st'=>gSE st st'/\((∃ r rest,c=(some r,rest)/\gRes (a.toList++b.toList) r.toList)\/∃ (na' nb':Nat) (out:Array Keyed) (ac bc:Nat),c=(none,na',nb',out,ac,bc)/\gMR grDn (a.toList++b.toList) out.toList (a.toList.take na').reverse (b.toList.take nb').reverse/\(0<na'/\na'<=a.size)/\(1<nb'/\nb'<=b.size)/\na'+nb'+1<=na1+nb1)) ?istep ?ifin ⟨se,na1,nb1,out,0,0,rfl,m,h1,h2,by lia⟩) ?ipost)
  case ifin=>
   refine fun c st' hI_106=>gopq fun G_106 hG_106=>?_;obtain ⟨se,na',nb',out,ac,bc,rfl,m,g1,g2,g3⟩:=hI_106;refine hG_106 ?_
   lia
  case istep=>
   refine fun y c st' _ hy hI_107=>gopq fun G_107 hG_107=>?_;obtain ⟨se,na',nb',out,ac,bc,rfl,m,g1,g2,g3⟩:=hI_107;refine hG_107 ?_;dsimp only;refine gnm fun R hR=>?_;refine gopq fun G_108 hG_108=>?_;obtain ⟨yb,e1,e1',mb⟩:=qBM (a:=b) (i:=nb' - 1) (by lia)
   refine hG_108 ?_;refine gopq fun G_109 hG_109=>?_;obtain ⟨xa,e2,e2',ma⟩:=qBM (a:=a) (i:=na' - 1) (by lia)
   refine hG_109 ?_;have hk':kindOf st'=κ0:=se.1.trans hk;refine wpS_bind (qB4 e1 (wpS_bind (qB4 e2 (wpS_bind (qFC hk' (kb _ mb) (ka _ ma) ?_)))));dsimp only;by_cases hw:gkv yb<gkv xa
   ·rw [decide_eq_true hw,if_pos rfl];refine wpS_bind (qB4 e2 ?_);have m':=stepA m (by lia) e2' fun z hz=>by have:=most ub (by lia) e1' z hz;lia
    by_cases hae:na' - 1=0
    ·refine gifT (by simp [hae]) ?_
     refine wpS_pure (hR _ _ ⟨se,.inl ⟨_,_,rfl,?_⟩⟩);rw [hae] at m' ⊢;exact outA _ _ m'
    ·refine gifF (by simp;lia) ?_
     split
     ·exact wpS_pure (hR _ _ ⟨se,.inr ⟨_,_,_,_,_,rfl,m',by lia,by lia,by lia⟩⟩)
     ·exact wpS_pure (hR _ _ ⟨se,_,_,_,_,_,rfl,m',by lia,by lia,by lia⟩)
   ·rw [decide_eq_false hw,if_neg Bool.false_ne_true];refine wpS_bind (qB4 e1 ?_);have m':=stepB m (by lia) e1' fun z hz=>by have:=most ua (by lia) e2' z hz;lia
    by_cases hbe:nb' - 1=1
    ·refine gifT (by simp [hbe]) ?_
     refine wpS_pure (hR _ _ ⟨se,.inl ⟨_,_,rfl,?_⟩⟩);rw [hbe] at m' ⊢;exact outF _ _ m'
    ·refine gifF (by simp;lia) ?_
     split
     ·exact wpS_pure (hR _ _ ⟨se,.inr ⟨_,_,_,_,_,rfl,m',by lia,by lia,by lia⟩⟩)
     ·exact wpS_pure (hR _ _ ⟨se,_,_,_,_,_,rfl,m',by lia,by lia,by lia⟩)
  case ipost=>
   rintro c st2 ⟨se,⟨r,rest,rfl,hr⟩ | ⟨na2,nb2,out,ac,bc,rfl,m,g1,g2,g3⟩⟩
   ·exact wpS_pure ⟨se,r,_,rfl,hr⟩
   dsimp only;refine wpS_bind (wpS_lift (wpAny_rule ⟨rfl,?_⟩));refine wpS_bind (wpS_mono (wpS_forRange
    (I:=fun y c st'=>gSE st st'/\∃ (na' nb':Nat) (out:Array Keyed) (mg ac bc:Nat),c=(none,na',nb',out,mg,ac,bc)/\gMR grDn (a.toList++b.toList) out.toList (a.toList.take na').reverse (b.toList.take nb').reverse/\(0<na'/\na'<=a.size)/\(1<nb'/\nb'<=b.size)/\na'+nb'+y<=na2+nb2)
    (Q:=fun c st'=>gSE st st'/\((∃ r rest,c=(some r,rest)/\gRes (a.toList++b.toList) r.toList)\/∃ (na' nb':Nat) (out:Array Keyed) (mg ac bc:Nat),c=(none,na',nb',out,mg,ac,bc)/\gMR grDn (a.toList++b.toList) out.toList (a.toList.take na').reverse (b.toList.take nb').reverse/\(0<na'/\na'<=a.size)/\(1<nb'/\nb'<=b.size)/\na'+nb'<=na2+nb2)) ?gstep ?gfin ⟨se,na2,nb2,out,_,ac,bc,rfl,m,g1,g2,by lia⟩) ?gpost)
   case gfin=>
    refine fun c st' hI_110=>gopq fun G_110 hG_110=>?_;obtain ⟨se,na',nb',out,mg,ac,bc,rfl,m,q1,q2,q3⟩:=hI_110;refine hG_110 ?_
    lia
   case gpost=>
    rintro c st3 ⟨se,⟨r,rest,rfl,hr⟩ | ⟨na',nb',out,mg,ac,bc,rfl,m,q1,q2,q3⟩⟩
    ·exact wpS_pure ⟨se,r,_,rfl,hr⟩
    dsimp only;refine wpS_bind (wpS_modify (wpS_pure ?_));exact ⟨⟨se.1,se.2.1,se.2.2.1,se.2.2.2⟩,na',nb',out,_,rfl,m,q1,q2,by lia⟩
   case gstep=>
    refine fun y c st0 _ hy hI_111=>gopq fun G_111 hG_111=>?_;obtain ⟨se,na',nb',out,mg,ac,bc,rfl,m,q1,q2,q3⟩:=hI_111;refine hG_111 ?_;dsimp only;refine gnm fun R hR=>?_;refine gopq fun G_112 hG_112=>?_;obtain ⟨yb,e1,e1',mb⟩:=qBM (a:=b) (i:=nb' - 1) (by lia)
    refine hG_112 ?_;apply gtwo (α:=Nat) (M:=fun _=>True)
    ·intro J;by_cases hmg:mg > 1
     ·refine gifT hmg ?_;refine wpS_bind (wpS_modify ?_);generalize mg - 1=n;exact J n trivial
     ·refine gifF hmg ?_;refine wpS_bind (wpS_modify ?_);generalize mg=n;exact J n trivial
    ·intro n _;have se':gSE st st0:=se;refine wpS_bind (qB4 e1 ?_);refine wpS_bind (qEG (left:=false) (base:=0) (n:=na') (hint:=na' - 1) (se.1.trans hk) (kb _ mb) ka (by lia) (by lia) (qDI (by lia) ua) fun k k1 k2 k3=>?_)
     dsimp only;have le1:∀ x ∈ (a.toList.take k).reverse,gkv x<=gkv yb:=fun x hx=>qLC (base:=0) k1 (by lia) k2 x (by simpa using hx)
     apply gtwo (α:=Array Keyed) (M:=fun o=>gMR grDn (a.toList++b.toList) o.toList (a.toList.take k).reverse (b.toList.take nb').reverse/\0<k)
     ·intro J;by_cases k0:na' - k > 0
      ·refine gifT k0 ?_;have mk:gMR grDn (a.toList++b.toList) (out++(a.extract k na').reverse).toList (a.toList.take k).reverse (b.toList.take nb').reverse:=by
        rw [Array.toList_append,Array.toList_reverse,qAP];rw [qHO (l:=a.toList) (i:=k) (j:=na') (by lia)] at m
        exact m.takeA fun x hx z hz=>by
         have q1:=qJ1 (base:=0) (n:=na') (by lia) k3 x (by rw [List.drop_zero,List.drop_take];exact List.mem_reverse.mp hx)
         have q2:=most ub (by lia) e1' z hz
         show gkv z<=gkv x
         lia
       by_cases c1:k=0
       ·refine gifT (by simp [c1]) ?_
        refine wpS_pure (hR _ _ ⟨se',.inl ⟨_,_,rfl,?_⟩⟩);subst c1;exact outA _ _ mk
       refine gifF (by simp;exact c1) ?_
       generalize out++(a.extract k na').reverse=o at mk ⊢;exact J o ⟨mk,by lia⟩
      ·refine gifF k0 ?_;have k00:k=na':=by lia
       subst k00;exact J out ⟨m,by lia⟩
     ·rintro o ⟨mk,kp⟩;refine wpS_bind (qB4 e1 ?_);have m1:=stepB mk (by lia) e1' le1
      by_cases hbe:nb' - 1=1
      ·refine gifT (by simp [hbe]) ?_
       refine wpS_pure (hR _ _ ⟨se',.inl ⟨_,_,rfl,?_⟩⟩);rw [hbe] at m1 ⊢;exact outF _ _ m1
      refine gifF (by simp;lia) ?_
      refine gopq fun G_113 hG_113=>?_;obtain ⟨xa,e2,e2',ma⟩:=qBM (a:=a) (i:=k - 1) (by lia)
      refine hG_113 ?_;refine wpS_bind (qB4 e2 ?_);refine wpS_bind (qEG (left:=true) (base:=0) (n:=nb' - 1) (hint:=nb' - 1 - 1) (se.1.trans hk) (ka _ ma) kb (by lia) (by lia) (qDI (by lia) ub) fun k' j1 j2 j3=>?_)
      dsimp only;have lt2:∀ y ∈ (b.toList.take k').reverse,gkv y<=gkv xa:=fun y hy=>by
       have q:=qLB (base:=0) j1 (by lia) j2 y (by simpa using hy)
       lia
      generalize o.push yb=o1 at m1 ⊢;apply gtwo (α:=Array Keyed) (M:=fun o=>gMR grDn (a.toList++b.toList) o.toList (a.toList.take k).reverse (b.toList.take k').reverse/\1<k')
      ·intro J;by_cases k0':nb' - 1 - k' > 0
       ·rw [if_pos k0'];have m2:gMR grDn (a.toList++b.toList) (o1++(b.extract k' (nb' - 1)).reverse).toList (a.toList.take (k)).reverse (b.toList.take k').reverse:=by
         rw [Array.toList_append,Array.toList_reverse,qAP];rw [qHO (l:=b.toList) (i:=k') (j:=nb' - 1) (by lia)] at m1
         exact m1.takeB fun x hx z hz=>by
          have q1:=qJ2 (base:=0) (n:=nb' - 1) (by lia) j3 x (by rw [List.drop_zero,List.drop_take];exact List.mem_reverse.mp hx)
          have q2:=most ua (by lia) e2' z hz
          show gkv z<=gkv x
          lia
        by_cases hb1':k'=1
        ·refine gifT (by simp [hb1']) ?_
         refine wpS_pure (hR _ _ ⟨se',.inl ⟨_,_,rfl,?_⟩⟩);subst hb1';exact outF _ _ m2
        refine gifF (by simp;exact hb1') ?_
        by_cases hb0':k'=0
        ·refine gifT (by simp [hb0']) ?_
         refine wpS_pure (hR _ _ ⟨se',.inl ⟨_,_,rfl,?_⟩⟩);subst hb0';exact outB _ _ m2
        refine gifF (by simp;exact hb0') ?_
        generalize o1++(b.extract k' (nb' - 1)).reverse=o2 at m2 ⊢;exact J o2 ⟨m2,by lia⟩
       ·rw [if_neg k0'];have k0'':k'=nb' - 1:=by lia
        subst k0'';exact J o1 ⟨m1,by lia⟩
      ·rintro o2 ⟨m2,kp'⟩;refine wpS_bind (qB4 e2 ?_);have m3:=stepA m2 (by lia) e2' lt2
       by_cases hae:k - 1=0
       ·refine gifT (by simp [hae]) ?_
        refine wpS_pure (hR _ _ ⟨se',.inl ⟨_,_,rfl,?_⟩⟩);rw [hae] at m3 ⊢;exact outA _ _ m3
       refine gifF (by simp;lia) ?_
       split
       ·exact wpS_pure (hR _ _ ⟨se',.inr ⟨_,_,_,_,_,_,rfl,m3,by lia,by lia,by lia⟩⟩)
       ·exact wpS_pure (hR _ _ ⟨se',_,_,_,_,_,_,rfl,m3,by lia,by lia,by lia⟩)
end
end L2.G
namespace L2.G
open PySem PyProof.Rows
variable [NM]
theorem qLA (b:Nat):∀ (r:List Keyed) (k:Nat) (xs:Array Keyed),b+k+r.length<=xs.size->((r.zipIdx k).foldl (fun a (p:Keyed × Nat)=>a.setIfInBounds (b+p.2) p.1) xs).toList=xs.toList.take (b+k)++r++xs.toList.drop (b+k+r.length)
 | [],k,xs,_=>by simp
 | p::r,k,xs,h=>by
  have hl:b+k<xs.toList.length:=by simp at h ⊢;lia
  rw [List.zipIdx_cons,List.foldl_cons,qLA b r (k+1) _ (by simp at h ⊢;lia)]
  simp only [Array.toList_setIfInBounds,List.length_cons];have e1:(xs.toList.set (b+k) p).take (b+(k+1))=xs.toList.take (b+k)++[p]:=by
   rw [<- Nat.add_assoc,List.take_add_one,List.take_set_of_le (Nat.le_refl _),List.getElem?_set_self hl]
   rfl
  have e2:(xs.toList.set (b+k) p).drop (b+(k+1)+r.length)=xs.toList.drop (b+k+(r.length+1)):=by
   rw [List.drop_set_of_lt (by lia)]
   congr 1
   lia
  rw [e1,e2];simp
def gSeg (xs:Array Keyed) (lo hi:Nat):Prop:=∀ i j,lo<=i->i<=j->j<hi->gK xs i<=gK xs j
theorem qQF {xs:Array Keyed} {i:Nat} (h:i<xs.size):gK xs i=gkv (xs[i]'h):=qQG h
theorem qHQ {xs:Array Keyed} {i:Nat} {x:Keyed} (h:xs[i]?=some x):gK xs i=gkv x:=by
 unfold gK;rw [h]
 rfl
theorem qFE {left:Bool} {key:Keyed} {arr:Array Keyed} {base i:Nat} (h:base+i<arr.size):qAK left key arr base i=if left=true then decide (gK arr (base+i)<gkv key) else decide (gK arr (base+i)<=gkv key):=by
 unfold qAK;rw [Array.getElem?_eq_getElem h,qQF h]
theorem qGD {left:Bool} {key:Keyed} {arr:Array Keyed} {base n:Nat} (hn:base+n<=arr.size) (u:gSeg arr base (base+n)):∀ i j,i<=j->j<n->qAK left key arr base j=true->qAK left key arr base i=true:=by
 intro i j hij hj e;have le:=u (base+i) (base+j) (by lia) (by lia) (by lia)
 rw [qFE (by lia)] at e ⊢
 cases left with
 | true=>
  have:=of_decide_eq_true e;exact decide_eq_true (by lia)
 | false=>
  have:=of_decide_eq_true e;exact decide_eq_true (by lia)
theorem qL7 {xs:Array Keyed} {lo hi:Nat} (h:hi<=xs.size) (u:gSeg xs lo hi):(xs.extract lo hi).toList.Pairwise grUp:=by
 rw [List.pairwise_iff_getElem];intro i j hi' hj' hij;have e:(xs.extract lo hi).size=hi - lo:=by simp;lia
 have hi2:i<hi - lo:=by simp at hi';lia
 have hj2:j<hi - lo:=by simp at hj';lia
 have:=u (lo+i) (lo+j) (by lia) (by lia) (by lia)
 rw [qQF (by lia),qQF (by lia)] at this
 simpa using this
theorem qEH {xs:Array Keyed} {lo hi:Nat} {x:Keyed} (m:x ∈ (xs.extract lo hi).toList):∃ j,lo<=j/\j<hi/\j<xs.size/\gK xs j=gkv x:=by
 obtain ⟨i,hi',e⟩:=List.getElem_of_mem m;have h2:i<hi - lo/\i<xs.size - lo:=by simp at hi';lia
 refine ⟨lo+i,by lia,by lia,by lia,?_⟩
 rw [qQF (by lia),<- e]
 simp
theorem qQD {xs:Array Keyed} {lo hi i:Nat} {x:Keyed} (m:(xs.extract lo hi).toList[i]?=some x):gK xs (lo+i)=gkv x:=by
 obtain ⟨hi',e⟩:=List.getElem?_eq_some_iff.mp m;have h2:i<hi - lo/\i<xs.size - lo:=by simp at hi';lia
 rw [qQF (by lia),<- e]
 simp
theorem qWN {xs ys:Array Keyed} {b:Nat} {r:List Keyed} (e:ys.toList=xs.toList.take b++r++xs.toList.drop (b+r.length)) (hb:b+r.length<=xs.size) (j:Nat) :
  (j<b\/b+r.length<=j->gK ys j=gK xs j)/\(b<=j->j<b+r.length->∃ x,r[j - b]?=some x/\gK ys j=gkv x):=by
 have lt:(xs.toList.take b).length=b:=by simp;lia
 constructor
 ·intro hj;apply qEI;rw [<- Array.getElem?_toList,<- Array.getElem?_toList,e,List.append_assoc];rcases hj with hj | hj
  ·rw [List.getElem?_append_left (by lia),List.getElem?_take_of_lt hj]
  ·rw [List.getElem?_append_right (by lia),lt,List.getElem?_append_right (by lia),List.getElem?_drop]
   congr 1
   lia
 ·intro h1 h2;refine ⟨r[j - b]'(by lia),List.getElem?_eq_getElem _,qHQ ?_⟩
  rw [<- Array.getElem?_toList,e,List.append_assoc,List.getElem?_append_right (by lia),lt,List.getElem?_append_left (by lia)]
  exact List.getElem?_eq_getElem _
section
variable {prog:Program} {w:World} {A:Around} {E:Value->Shared->Prop} {s:Shared} {κ0:SortKind} [LtOk prog w A s κ0]
theorem qS9 {st st':SortSt} {Q:PUnit->SortSt->Prop} (h:Q ⟨⟩ st'):wpS (model prog w) A E s (set st':StateT SortSt Sem PUnit) Q st:=by
 unfold wpS;rw [StateT.run_set];exact wpAny_pure ⟨rfl,h⟩
structure gSG (κ0:SortKind) (a₀:Array Keyed) (st:SortSt):Prop where
 perm:(arrOf st).Perm a₀
 kind:kindOf st=κ0
 failed:failedOf st=none
theorem gSG.size {a₀:Array Keyed} {st:SortSt} (h:gSG κ0 a₀ st):(arrOf st).size=a₀.size:=h.perm.size_eq
theorem gSG.ik {a₀:Array Keyed} {st:SortSt} (h:gSG κ0 a₀ st) (h0:qBJ a₀):∀ x ∈ (arrOf st).toList,gIK x:=fun x hx=>h0 x ((Array.perm_iff_toList_perm.mp h.perm).mem_iff.mp hx)
theorem qSC {a₀:Array Keyed} {st:SortSt} {i sa na p nb q:Nat} {pre post:List (Nat × Nat × Nat)} {Q:Bool->SortSt->Prop} (h0:qBJ a₀) (g:gSG κ0 a₀ st)
  (hp:(pendingOf st).toList=pre++(sa,na,p)::(sa+na,nb,q)::post) (hi:i=pre.length) (hna:0<na) (hnb:0<nb) (hsz:sa+na+nb<=a₀.size)
  (ua:gSeg (arrOf st) sa (sa+na)) (ub:gSeg (arrOf st) (sa+na) (sa+na+nb))
  (h:∀ st',gSG κ0 a₀ st'->(pendingOf st').toList=pre++(sa,na+nb,p)::post->gSeg (arrOf st') sa (sa+na+nb)->(∀ k,k<sa\/sa+na+nb<=k->gK (arrOf st') k=gK (arrOf st) k)->Q true st') :
  wpS (model prog w) A E s (mergeAt' i) Q st:=by
 have p1:(pendingOf st)[i]?=some (sa,na,p):=by
  rw [<- Array.getElem?_toList,hp,hi,List.getElem?_append_right (Nat.le_refl _),Nat.sub_self]
  rfl
 have p2:(pendingOf st)[i+1]?=some (sa+na,nb,q):=by
  rw [<- Array.getElem?_toList,hp,hi,List.getElem?_append_right (by lia),show pre.length+1 - pre.length=1 by lia]
  rfl
 have p3:(((pendingOf st).setIfInBounds i (sa,na+nb,p)).eraseIdxIfInBounds (i+1)).toList=pre++(sa,na+nb,p)::post:=by
  rw [Array.toList_eraseIdxIfInBounds,Array.toList_setIfInBounds,hp,hi];rw [List.set_append_right _ _ (Nat.le_refl _),Nat.sub_self,List.eraseIdx_append_of_length_le (by lia),show pre.length+1 - pre.length=1 by lia]
  rfl
 have size:=g.size;have ik:=g.ik h0;unfold mergeAt';refine wpS_bind (wpS_get ?_);dsimp only;rw [p1,p2];dsimp only;obtain ⟨kb,ekb,_,mkb⟩:=qBM (a:=arrOf st) (i:=sa+na) (by lia)
 have kkb:gK (arrOf st) (sa+na)=gkv kb:=qHQ ekb;refine wpS_bind (qS9 (wpS_bind (qB4 ekb ?_)));have g1:gSG κ0 a₀ (setPending st (((pendingOf st).setIfInBounds i (sa,na+nb,p)).eraseIdxIfInBounds (i+1))):=⟨g.perm,g.kind,g.failed⟩;show wpS _ _ _ _ (qSH false kb (arrOf st) sa na 0 >>= _) _ _;refine wpS_bind (qEG g1.kind (ik kb mkb) ik (by lia) hna (qGD (by lia) ua) fun k hk h1 h2=>?_)
 have a1:∀ j,sa<=j->j<sa+k->gK (arrOf st) j<=gkv kb:=fun j hl hj=>by
  have e:=h1 (j - sa) (by lia)
  rw [qFE (by lia),show sa+(j - sa)=j by lia] at e
  exact of_decide_eq_true e
 have a2:∀ j,sa+k<=j->j<sa+na->gkv kb<gK (arrOf st) j:=fun j hl hj=>by
  have e:=h2 (j - sa) (by lia) (by lia)
  rw [qFE (by lia),show sa+(j - sa)=j by lia] at e
  have:=of_decide_eq_false e
  lia
 dsimp only;by_cases ek:na - k=0
 ·refine gifT (by simpa using ek) ?_
  refine wpS_pure (h _ g1 p3 (fun i j hl hij hj=>?_) fun _ _=>rfl);show gK (arrOf st) i<=gK (arrOf st) j;by_cases c1:j<sa+na
  ·exact ua i j hl hij c1
  ·by_cases c2:i<sa+na
   ·have q1:=a1 i hl (by lia)
    have q2:=ub (sa+na) j (by lia) (by lia) hj
    lia
   ·exact ub i j (by lia) hij hj
 refine gifF (by simpa using ek) ?_
 rw [show sa+k+(na - k) - 1=sa+na - 1 by lia]
 obtain ⟨kz,ekz,_,mkz⟩:=qBM (a:=arrOf st) (i:=sa+na - 1) (by lia)
 have kkz:gK (arrOf st) (sa+na - 1)=gkv kz:=qHQ ekz;refine wpS_bind (qB4 ekz ?_);show wpS _ _ _ _ (qSH true kz (arrOf st) (sa+na) nb (nb - 1) >>= _) _ _;refine wpS_bind (qEG g1.kind (ik kz mkz) ik (by lia) (by lia) (qGD (by lia) ub) fun m hm h3 h4=>?_)
 have b1:∀ j,sa+na<=j->j<sa+na+m->gK (arrOf st) j<gkv kz:=fun j hl hj=>by
  have e:=h3 (j - (sa+na)) (by lia)
  rw [qFE (by lia),show sa+na+(j - (sa+na))=j by lia] at e
  exact of_decide_eq_true e
 have b2:∀ j,sa+na+m<=j->j<sa+na+nb->gkv kz<=gK (arrOf st) j:=fun j hl hj=>by
  have e:=h4 (j - (sa+na)) (by lia) (by lia)
  rw [qFE (by lia),show sa+na+(j - (sa+na))=j by lia] at e
  have:=of_decide_eq_false e
  lia
 dsimp only;by_cases em:m=0
 ·refine gifT (by simpa using em) ?_
  refine wpS_pure (h _ g1 p3 (fun i j hl hij hj=>?_) fun _ _=>rfl);show gK (arrOf st) i<=gK (arrOf st) j;by_cases c1:j<sa+na
  ·exact ua i j hl hij c1
  ·by_cases c2:i<sa+na
   ·have q1:=ua i (sa+na - 1) hl (by lia) (by lia)
    have q2:=b2 j (by lia) hj
    lia
   ·exact ub i j (by lia) hij hj
 refine gifF (by simpa using em) ?_
 have sx:((arrOf st).extract (sa+k) (sa+na)).size=na - k:=by simp;lia
 have sy:((arrOf st).extract (sa+na) (sa+na+m)).size=m:=by simp;lia
 have ux:=qL7 (xs:=arrOf st) (lo:=sa+k) (hi:=sa+na) (by lia) fun i j hl hij hj=>ua i j (by lia) hij hj
 have uy:=qL7 (xs:=arrOf st) (lo:=sa+na) (hi:=sa+na+m) (by lia) fun i j hl hij hj=>ub i j hl hij (by lia)
 have kx:∀ x ∈ ((arrOf st).extract (sa+k) (sa+na)).toList,gIK x:=fun x hx=>ik x (by rw [qAP] at hx;exact List.mem_of_mem_drop (List.mem_of_mem_take hx))
 have ky:∀ x ∈ ((arrOf st).extract (sa+na) (sa+na+m)).toList,gIK x:=fun x hx=>ik x (by rw [qAP] at hx;exact List.mem_of_mem_drop (List.mem_of_mem_take hx))
 have fst:∀ y,((arrOf st).extract (sa+na) (sa+na+m)).toList[0]?=some y->∀ x ∈ ((arrOf st).extract (sa+k) (sa+na)).toList,gkv y<=gkv x:=by
  intro y hy x hx;have e:=qQD hy;obtain ⟨j,j1,j2,_,ej⟩:=qEH hx;have:=a2 j j1 j2;rw [Nat.add_zero] at e
  lia
 have lst:∀ z,((arrOf st).extract (sa+k) (sa+na)).toList[((arrOf st).extract (sa+k) (sa+na)).size - 1]?=some z->∀ y ∈ ((arrOf st).extract (sa+na) (sa+na+m)).toList,gkv y<=gkv z:=by
  intro z hz y hy;have e:=qQD hz;obtain ⟨j,j1,j2,_,ej⟩:=qEH hy;have:=b1 j j1 j2;rw [sx,show sa+k+(na - k - 1)=sa+na - 1 by lia] at e
  lia
 have fin:∀ (r:Array Keyed) (st2:SortSt),gSE (setPending st (((pendingOf st).setIfInBounds i (sa,na+nb,p)).eraseIdxIfInBounds (i+1))) st2->gRes (((arrOf st).extract (sa+k) (sa+na)).toList++((arrOf st).extract (sa+na) (sa+na+m)).toList) r.toList->
   Q true (setArr st2 (r.toList.zipIdx.foldl (fun a (p:Keyed × Nat)=>a.setIfInBounds (sa+k+p.2) p.1) (arrOf st2))):=by
  rintro r st2 ⟨q1,q2,q3,q4⟩ ⟨rp,ru⟩;have q2':arrOf st2=arrOf st:=q2;have rl:r.toList.length=na - k+m:=by
   rw [rp.length_eq,List.length_append,Array.length_toList,Array.length_toList,sx,sy]
  have e:=qLA (sa+k) r.toList 0 (arrOf st2) (by rw [q2',rl];lia)
  rw [Nat.add_zero,q2'] at e;have LK:=qWN e (by rw [rl];lia)
  have e0:(arrOf st).toList=(arrOf st).toList.take (sa+k)++(((arrOf st).extract (sa+k) (sa+na)).toList++((arrOf st).extract (sa+na) (sa+na+m)).toList)++(arrOf st).toList.drop (sa+k+r.toList.length):=by
   rw [qAP,qAP,rl,show sa+na - (sa+k)=na - k by lia,show sa+na+m - (sa+na)=m by lia]
   have t1:(arrOf st).toList.drop (sa+na)=((arrOf st).toList.drop (sa+k)).drop (na - k):=by rw [List.drop_drop];congr 1;lia
   have t2:(arrOf st).toList.drop (sa+k)=((arrOf st).toList.drop (sa+k)).take (na - k+m)++(arrOf st).toList.drop (sa+k+(na - k+m)):=qEW;rw [t1,<- List.take_add,List.append_assoc,<- t2,List.take_append_drop]
  have gp:(r.toList.zipIdx.foldl (fun a (p:Keyed × Nat)=>a.setIfInBounds (sa+k+p.2) p.1) (arrOf st)).Perm (arrOf st):=by
   rw [Array.perm_iff_toList_perm,e]
   conv=>rhs;rw [e0]
   exact (List.Perm.append_left _ rp).append_right _
  have lowR:∀ x ∈ r.toList,∀ i,sa<=i->i<sa+k->gK (arrOf st) i<=gkv x:=by
   intro x hx i hl hi;rcases List.mem_append.mp (rp.mem_iff.mp hx) with hx | hx
   ·obtain ⟨j,j1,j2,_,ej⟩:=qEH hx;rw [<- ej];exact ua i j hl (by lia) j2
   ·obtain ⟨j,j1,j2,_,ej⟩:=qEH hx;have z1:=a1 i hl hi;have z2:=ub (sa+na) j (by lia) j1 (by lia)
    lia
  have highR:∀ x ∈ r.toList,∀ j,sa+na+m<=j->j<sa+na+nb->gkv x<=gK (arrOf st) j:=by
   intro x hx j hl hj;rcases List.mem_append.mp (rp.mem_iff.mp hx) with hx | hx
   ·obtain ⟨i,j1,j2,_,ej⟩:=qEH hx;have z1:=ua i (sa+na - 1) (by lia) (by lia) (by lia)
    have z2:=b2 j hl hj
    lia
   ·obtain ⟨i,j1,j2,_,ej⟩:=qEH hx;rw [<- ej];exact ub i j j1 (by lia) hj
  rw [q2'];refine h _ ⟨gp.trans g.perm,q1.trans g.kind,q4.trans g.failed⟩ ((congrArg Array.toList q3).trans p3) ?_ fun j hj=>(LK j).1 (by rw [rl];lia)
  intro i j hl hij hj;show gK (r.toList.zipIdx.foldl (fun a (p:Keyed × Nat)=>a.setIfInBounds (sa+k+p.2) p.1) (arrOf st)) i<=gK (r.toList.zipIdx.foldl (fun a (p:Keyed × Nat)=>a.setIfInBounds (sa+k+p.2) p.1) (arrOf st)) j;have K1:∀ j,j<sa+k\/sa+k+(na - k+m)<=j->gK (r.toList.zipIdx.foldl (fun a (p:Keyed × Nat)=>a.setIfInBounds (sa+k+p.2) p.1) (arrOf st)) j=gK (arrOf st) j:=fun j hj=>(LK j).1 (by rw [rl];exact hj)
  have K2:∀ j,sa+k<=j->j<sa+k+(na - k+m)->∃ x,r.toList[j - (sa+k)]?=some x/\gK (r.toList.zipIdx.foldl (fun a (p:Keyed × Nat)=>a.setIfInBounds (sa+k+p.2) p.1) (arrOf st)) j=gkv x:=fun j h1 h2=>(LK j).2 h1 (by rw [rl];exact h2)
  by_cases c1:i<sa+k
  ·rw [K1 i (.inl c1)];by_cases c2:j<sa+k
   ·rw [K1 j (.inl c2)];exact ua i j hl hij (by lia)
   ·by_cases c3:j<sa+k+(na - k+m)
    ·obtain ⟨x,ex,kx2⟩:=K2 j (by lia) c3
     rw [kx2];exact lowR x (List.mem_of_getElem? ex) i hl c1
    ·rw [K1 j (.inr (by lia))]
     have z1:=a1 i hl c1;have z2:=ub (sa+na) j (by lia) (by lia) hj
     lia
  ·by_cases c2:i<sa+k+(na - k+m)
   ·obtain ⟨x,ex,kx2⟩:=K2 i (by lia) c2
    rw [kx2];by_cases c3:j<sa+k+(na - k+m)
    ·obtain ⟨y,ey,ky2⟩:=K2 j (by lia) c3
     rw [ky2];by_cases c4:i=j
     ·rw [c4] at ex;rw [ex] at ey;cases ey;exact Int.le_refl _
     ·obtain ⟨x1,x2⟩:=List.getElem?_eq_some_iff.mp ex;obtain ⟨y1,y2⟩:=List.getElem?_eq_some_iff.mp ey;have:=List.pairwise_iff_getElem.mp ru (i - (sa+k)) (j - (sa+k)) x1 y1 (by lia)
      rw [x2,y2] at this;exact this
    ·rw [K1 j (.inr (by lia))]
     exact highR x (List.mem_of_getElem? ex) j (by lia) hj
   ·rw [K1 i (.inr (by lia)),K1 j (.inr (by lia))]
    exact ub i j (by lia) hij hj
 by_cases c:na - k<=m
 ·refine gifT c ?_;show wpS _ _ _ _ (gmLo ((arrOf st).extract (sa+k) (sa+na)) ((arrOf st).extract (sa+na) (sa+na+m)) >>= _) _ _;refine wpS_bind (qSA g1.kind kx ky ux uy (by rw [sx];lia) (by rw [sy];lia) fst lst fun r st2 se rs=>?_)
  refine wpS_bind (wpS_modify (wpS_bind (wpS_get (wpS_pure ?_))));have e:(failedOf st2).isNone=true:=by rw [se.2.2.2,g1.failed];rfl
  show Q (failedOf st2).isNone _;rw [e];exact fin r st2 se rs
 ·refine gifF c ?_;show wpS _ _ _ _ (gmHi ((arrOf st).extract (sa+k) (sa+na)) ((arrOf st).extract (sa+na) (sa+na+m)) >>= _) _ _;refine wpS_bind (qSB g1.kind kx ky ux uy (by rw [sx];lia) (by rw [sy];lia) fst lst fun r st2 se rs=>?_)
  refine wpS_bind (wpS_modify (wpS_bind (wpS_get (wpS_pure ?_))));have e:(failedOf st2).isNone=true:=by rw [se.2.2.2,g1.failed];rfl
  show Q (failedOf st2).isNone _;rw [e];exact fin r st2 se rs
end
end L2.G
namespace L2.G
open PySem PyProof.Rows
variable [NM]
def gOut (xs ys:Array Keyed) (lo hi:Nat):Prop:=∀ k,k<lo\/hi<=k->gK ys k=gK xs k
theorem gOut.refl (xs:Array Keyed) (lo hi:Nat):gOut xs xs lo hi:=fun _ _=>rfl
theorem gOut.trans {xs ys zs:Array Keyed} {lo hi:Nat} (h1:gOut xs ys lo hi) (h2:gOut ys zs lo hi):gOut xs zs lo hi:=fun k hk=>(h2 k hk).trans (h1 k hk)
theorem gOut.wide {xs ys:Array Keyed} {lo hi lo' hi':Nat} (h:gOut xs ys lo hi) (a:lo'<=lo) (b:hi<=hi'):gOut xs ys lo' hi':=fun k hk=>h k (by lia)
theorem gSG.lay {κ0:SortKind} {a₀:Array Keyed} {st:SortSt} (g:gSG κ0 a₀ st) {ys:Array Keyed} (p:ys.Perm (arrOf st)):gSG κ0 a₀ (setArr st ys):=⟨p.trans g.perm,g.kind,g.failed⟩
theorem qMF {xs:Array Keyed} {i j:Nat} (hj:j<=xs.size):gOut xs (mirror xs i j ((j - i) / 2)) i j:=fun k hk=>by rw [qFF hj,if_neg (by lia)]
section
variable {prog:Program} {w:World} {A:Around} {E:Value->Shared->Prop} {s:Shared} {κ0:SortKind} [LtOk prog w A s κ0] {a₀:Array Keyed}
theorem qFB {st:SortSt} {i j:Nat} {Q:Option Bool->SortSt->Prop} (h0:qBJ a₀) (g:gSG κ0 a₀ st) (hi:i<a₀.size) (hj:j<a₀.size) (h:Q (some (decide (gK (arrOf st) i<gK (arrOf st) j))) st):wpS (model prog w) A E s (ltAt' i j) Q st:=by
 have hi2:i<(arrOf st).size:=by rw [g.size];exact hi
 have hj2:j<(arrOf st).size:=by rw [g.size];exact hj
 obtain ⟨x,ex,_,mx⟩:=qBM hi2;obtain ⟨y,ey,_,my⟩:=qBM hj2;rw [qHQ ex,qHQ ey] at h;rw [ltAt'_eq];refine wpS_bind (wpS_get ?_);exact wpS_bind (qB4 ex (wpS_bind (qB4 ey (qFC g.kind (g.ik h0 x mx) (g.ik h0 y my) h))))
theorem qSF {st:SortSt} {lo n ok:Nat} {Q:Bool->SortSt->Prop} (h0:qBJ a₀) (g:gSG κ0 a₀ st) (hn:lo+n<=a₀.size) (hok:ok<=n) (u:gSeg (arrOf st) lo (lo+ok))
  (h:∀ st2,gSG κ0 a₀ st2->pendingOf st2=pendingOf st->gSeg (arrOf st2) lo (lo+n)->gOut (arrOf st) (arrOf st2) lo (lo+n)->Q true st2):wpS (model prog w) A E s (binarySort' lo n ok) Q st:=by
 rw [binarySort'_eq];refine wpS_bind (wpS_mono (wpS_forRange (I:=fun k c st2=>c=(none,())/\gSG κ0 a₀ st2/\pendingOf st2=pendingOf st/\gSeg (arrOf st2) lo (lo+min k n)/\gOut (arrOf st) (arrOf st2) lo (lo+n))
  (Q:=fun c st2=>c=(none,())/\gSG κ0 a₀ st2/\pendingOf st2=pendingOf st/\gSeg (arrOf st2) lo (lo+n)/\gOut (arrOf st) (arrOf st2) lo (lo+n)) ?step ?fin ?init) ?post)
 case post=>
  rintro c st2 ⟨rfl,g2,pe,u2,o2⟩;exact wpS_pure (h st2 g2 pe u2 o2)
 case init=>
  refine ⟨rfl,g,rfl,fun i j hl hij hj=>?_,.refl _ _ _⟩;by_cases h1:ok=0
  ·rw [show i=j by lia]
   exact Int.le_refl _
  ·exact u i j hl hij (by lia)
 case fin=>
  rintro c st2 ⟨hc,g2,pe,u2,o2⟩;rw [show min (max (max ok 1) n) n=n by lia] at u2
  exact ⟨hc,g2,pe,u2,o2⟩
 case step=>
  rintro k c st2 hak hkn ⟨rfl,g2,pe,u2,o2⟩;rw [show min k n=k by lia] at u2
  have hk:lo+k<a₀.size:=by lia
  refine wpS_bind (wpS_mono (wpS_forRange (I:=fun x c st3=>st3=st2/\∃ l r,c=(none,l,r)/\l<=r/\r<=k/\r - l<=k - x/\
    (∀ i,lo<=i->i<lo+l->gK (arrOf st2) i<=gK (arrOf st2) (lo+k))/\(∀ i,lo+r<=i->i<lo+k->gK (arrOf st2) (lo+k)<gK (arrOf st2) i))
   (Q:=fun c st3=>st3=st2/\∃ l r,c=(none,l,r)/\l<=k/\
    (∀ i,lo<=i->i<lo+l->gK (arrOf st2) i<=gK (arrOf st2) (lo+k))/\(∀ i,lo+l<=i->i<lo+k->gK (arrOf st2) (lo+k)<gK (arrOf st2) i)) ?istep ?ifin ?iinit) ?ipost)
  case iinit=>exact ⟨rfl,0,k,rfl,by lia,by lia,by lia,fun i _ hi=>by lia,fun i h1 h2=>by lia⟩
  case ifin=>
   rintro c st3 ⟨rfl,l,r,rfl,hlr,hrk,hm,ha,hb⟩;have e:l=r:=by lia
   rw [<- e] at hb hrk;exact ⟨rfl,l,r,rfl,hrk,ha,hb⟩
  case istep=>
   rintro x c st3 _ hxk ⟨rfl,l,r,rfl,hlr,hrk,hm,ha,hb⟩;dsimp only;by_cases hge:l >= r
   ·refine gifT hge ?_;have e:l=r:=by lia
    rw [<- e] at hb hrk;exact wpS_pure ⟨rfl,l,r,rfl,hrk,ha,hb⟩
   ·refine gifF hge ?_;refine wpS_bind (qFB h0 g2 hk (by lia) ?_)
    by_cases less:gK (arrOf st3) (lo+k)<gK (arrOf st3) (lo+(l+r) / 2)
    ·rw [decide_eq_true less];dsimp only;refine gifT rfl ?_;refine wpS_pure ⟨rfl,l,(l+r) / 2,rfl,by lia,by lia,by lia,ha,fun i h1 h2=>?_⟩
     have:=u2 (lo+(l+r) / 2) i (by lia) h1 h2
     lia
    ·rw [decide_eq_false less];dsimp only;rw [if_neg Bool.false_ne_true];refine wpS_pure ⟨rfl,(l+r) / 2+1,r,rfl,by lia,by lia,by lia,fun i h3 h1=>?_,hb⟩
     have:=u2 i (lo+(l+r) / 2) h3 (by lia) (by lia)
     lia
  case ipost=>
   rintro c st3 ⟨rfl,l,r,rfl,hlk,ha,hb⟩;have hks:lo+k<(arrOf st3).size:=by rw [g2.size];exact hk
   show wpS _ _ _ _ (moveDown' (lo+k) (lo+l) >>= fun _=>pure (ForInStep.yield (none,()))) _ _;rw [moveDown'_eq];refine wpS_bind (wpS_modify (wpS_pure ⟨rfl,g2.lay (bubble_perm _ _ _),pe,?_,o2.trans ?_⟩))
   ·rw [show min (k+1) n=k+1 by lia]
    intro i j hl hij hj;show gK (bubble (arrOf st3) (lo+k) (lo+k - (lo+l))) i<=gK (bubble (arrOf st3) (lo+k) (lo+k - (lo+l))) j;rw [qHR hks (by lia),qHR hks (by lia),show lo+k - (lo+k - (lo+l))=lo+l by lia]
    repeat' split
    all_goals first
     | (exfalso;lia)
     | exact Int.le_refl _
     | exact ha _ (by lia) (by lia)
     | exact Int.le_of_lt (hb _ (by lia) (by lia))
     | exact u2 _ _ (by lia) (by lia) (by lia)
   ·intro i hi;show gK (bubble (arrOf st3) (lo+k) (lo+k - (lo+l))) i=gK (arrOf st3) i;rw [qHR hks (by lia),if_neg (by lia),if_neg (by lia)]
abbrev gCUp:=Option (Option Nat) × Nat
abbrev gCDn:=Option (Option Nat) × Nat × Nat
noncomputable def gupL (lo a m:Nat):gSM gCUp:=
 forIn [a:m] ((none,a):gCUp) fun _ c=>do
  let t <- ltAt' (lo+c.snd) (lo+c.snd - 1)
  match t with
  | some less=>if less=true then pure (ForInStep.done (none,c.snd)) else pure (ForInStep.yield (none,c.snd+1))
  | _=>pure (ForInStep.done (some none,c.snd))
noncomputable def qQB (lo n m:Nat):gSM (Option Nat):=do
 reverseSlice' lo (lo+n)
 let c <- gupL lo n m
 match c.fst with
 | some r=>pure r
 | none=>pure (some c.snd)
noncomputable def gdnL (lo n m:Nat):gSM gCDn:=
 forIn [n:m] ((none,n,0):gCDn) fun _ c=>do
  let t <- ltAt' (lo+c.snd.fst) (lo+c.snd.fst - 1)
  match t with
  | some less=>
   if less=true then
    if c.snd.snd > 0 then do
     reverseSlice' (lo+c.snd.fst - (c.snd.snd+1)) (lo+c.snd.fst)
     pure (ForInStep.yield (none,c.snd.fst+1,0))
    else pure (ForInStep.yield (none,c.snd.fst+1,0))
   else do
    let t <- ltAt' (lo+c.snd.fst - 1) (lo+c.snd.fst)
    match t with
    | some more=>
     if more=true then pure (ForInStep.done (none,c.snd.fst,c.snd.snd))
     else pure (ForInStep.yield (none,c.snd.fst+1,c.snd.snd+1))
    | _=>pure (ForInStep.done (some none,c.snd.fst,c.snd.snd))
  | _=>pure (ForInStep.done (some none,c.snd.fst,c.snd.snd))
noncomputable def gdnP (lo n m:Nat):gSM (Option Nat):=do
 liftM (rule "list.sort.descending-run")
 let c <- gdnL lo (n+1) m
 match c.fst with
 | some r=>pure r
 | none=>
  if c.snd.snd > 0 then do
   reverseSlice' (lo+c.snd.fst - (c.snd.snd+1)) (lo+c.snd.fst)
   qQB lo c.snd.fst m
  else qQB lo c.snd.fst m
theorem qB7 {α β:Type} {x y:gSM α} {f g:α->gSM β} (h:x=y) (k:∀ a,f a=g a):(x >>= f)=(y >>= g):=by rw [h,show f=g from funext k]
theorem qQC (lo m:Nat):countRun' lo m=(do
  let c <- gupL lo 1 m
  match c.fst with
  | some r=>pure r
  | none=>
   if (c.snd == m)=true then pure (some c.snd)
   else if c.snd > 1 then do
    let t <- ltAt' lo (lo+c.snd - 1)
    match t with
    | some rose=>if rose=true then pure (some c.snd) else do
      reverseSlice' lo (lo+c.snd)
      gdnP lo c.snd m
    | _=>pure none
   else gdnP lo c.snd m):=by
 rw [countRun'_eq];unfold gdnP qQB gdnL gupL;refine qB7 rfl fun c=>?_;obtain ⟨r,n⟩:=c;cases r with
 | some r=>rfl
 | none=>
  have last:∀ c3:gCUp,(match c3.fst with | some r=>pure r | none=>pure (some c3.snd):gSM (Option Nat))=(match c3.fst with | some r=>pure r | none=>pure (some c3.snd)):=fun _=>rfl
  dsimp only
  split
  ·rfl
  ·split
   ·refine qB7 rfl fun x=>?_;cases x with
    | none=>rfl
    | some rose=>
     dsimp only
     split
     ·rfl
     ·refine qB7 rfl fun _=>qB7 rfl fun _=>qB7 rfl fun c2=>?_;obtain ⟨r2,n2,q2⟩:=c2;cases r2 with
      | some r2=>rfl
      | none=>
       dsimp only
       split
       ·refine qB7 rfl fun _=>qB7 rfl fun _=>qB7 rfl fun c3=>?_;obtain ⟨r3,n3⟩:=c3;cases r3 <;> rfl
       ·refine qB7 rfl fun _=>qB7 rfl fun c3=>?_;obtain ⟨r3,n3⟩:=c3;cases r3 <;> rfl
   ·refine qB7 rfl fun _=>qB7 rfl fun c2=>?_;obtain ⟨r2,n2,q2⟩:=c2;cases r2 with
    | some r2=>rfl
    | none=>
     dsimp only
     split
     ·refine qB7 rfl fun _=>qB7 rfl fun _=>qB7 rfl fun c3=>?_;obtain ⟨r3,n3⟩:=c3;cases r3 <;> rfl
     ·refine qB7 rfl fun _=>qB7 rfl fun c3=>?_;obtain ⟨r3,n3⟩:=c3;cases r3 <;> rfl
def gFal (xs:Array Keyed) (lo hi:Nat):Prop:=∀ i j,lo<=i->i<=j->j<hi->gK xs j<=gK xs i
theorem qNG {st:SortSt} {lo a m:Nat} {Q:gCUp->SortSt->Prop} (h0:qBJ a₀) (g:gSG κ0 a₀ st) (hm:lo+m<=a₀.size) (ha:1<=a) (han:a<=m) (u:gSeg (arrOf st) lo (lo+a))
  (h:∀ n,a<=n->n<=m->gSeg (arrOf st) lo (lo+n)->(n=m\/gK (arrOf st) (lo+n)<gK (arrOf st) (lo+n - 1))->Q (none,n) st):wpS (model prog w) A E s (gupL lo a m) Q st:=by
 unfold gupL;refine wpS_forRange (I:=fun x c st2=>st2=st/\c=(none,x)/\gSeg (arrOf st) lo (lo+x)) ?step ?fin ⟨rfl,rfl,u⟩
 case fin=>
  rintro c st2 ⟨rfl,rfl,u2⟩;rw [show max a m=m by lia] at u2 ⊢
  exact h m han (Nat.le_refl _) u2 (.inl rfl)
 case step=>
  rintro x c st2 hax hxn ⟨rfl,rfl,u2⟩;dsimp only;refine wpS_bind (qFB h0 g (by lia) (by lia) ?_)
  by_cases less:gK (arrOf st2) (lo+x)<gK (arrOf st2) (lo+x - 1)
  ·rw [decide_eq_true less];dsimp only;refine gifT rfl ?_;exact wpS_pure (h x hax (by lia) u2 (.inr less))
  ·rw [decide_eq_false less];dsimp only;rw [if_neg Bool.false_ne_true];refine wpS_pure ⟨rfl,rfl,fun i j hl hij hj=>?_⟩;by_cases hjx:j<lo+x
   ·exact u2 i j hl hij hjx
   ·have ej:j=lo+x:=by lia
    rw [ej];by_cases ei:i=lo+x
    ·rw [ei];exact Int.le_refl _
    ·have:=u2 i (lo+x - 1) hl (by lia) (by lia)
     lia
theorem qL6 {st:SortSt} {lo n m:Nat} {Q:Option Nat->SortSt->Prop} (h0:qBJ a₀) (g:gSG κ0 a₀ st) (hm:lo+m<=a₀.size) (h1:1<=n) (hnm:n<=m) (u:gFal (arrOf st) lo (lo+n))
  (h:∀ k st2,gSG κ0 a₀ st2->pendingOf st2=pendingOf st->1<=k->k<=m->gSeg (arrOf st2) lo (lo+k)->gOut (arrOf st) (arrOf st2) lo (lo+m)->Q (some k) st2):wpS (model prog w) A E s (qQB lo n m) Q st:=by
 unfold qQB;have hsz:lo+n<=(arrOf st).size:=by rw [g.size];lia
 rw [reverseSlice'_eq];refine wpS_bind (wpS_modify ?_);have g2:gSG κ0 a₀ (setArr st (mirror (arrOf st) lo (lo+n) ((lo+n - lo) / 2))):=g.lay (mirror_perm _ _ _ _);refine wpS_bind (qNG h0 g2 hm h1 hnm ?_ fun k hk1 hk2 uk _=>wpS_pure (h k _ g2 rfl (by lia) hk2 uk ((qMF hsz).wide (Nat.le_refl _) (by lia))))
 intro i j hl hij hj;show gK (mirror (arrOf st) lo (lo+n) ((lo+n - lo) / 2)) i<=gK (mirror (arrOf st) lo (lo+n) ((lo+n - lo) / 2)) j;rw [qFF hsz,qFF hsz,if_pos (by lia),if_pos (by lia)]
 exact u _ _ (by lia) (by lia) (by lia)
theorem qSD {st:SortSt} {lo n m:Nat} {Q:gCDn->SortSt->Prop} (h0:qBJ a₀) (g:gSG κ0 a₀ st) (hm:lo+m<=a₀.size) (h1:1<=n) (hnm:n<=m) (u:gFal (arrOf st) lo (lo+n))
  (h:∀ k e st2,gSG κ0 a₀ st2->pendingOf st2=pendingOf st->n<=k->k<=m->gFal (arrOf st2) lo (lo+k)->e+1<=k->(∀ i,lo+k - (e+1)<=i->i<lo+k->gK (arrOf st2) i=gK (arrOf st2) (lo+k - 1))->gOut (arrOf st) (arrOf st2) lo (lo+m)->Q (none,k,e) st2) :
  wpS (model prog w) A E s (gdnL lo n m) Q st:=by
 unfold gdnL;refine wpS_forRange (I:=fun x c st2=>∃ e,c=(none,x,e)/\gSG κ0 a₀ st2/\pendingOf st2=pendingOf st/\gFal (arrOf st2) lo (lo+x)/\e+1<=x/\
   (∀ i,lo+x - (e+1)<=i->i<lo+x->gK (arrOf st2) i=gK (arrOf st2) (lo+x - 1))/\gOut (arrOf st) (arrOf st2) lo (lo+m)) ?step ?fin ⟨0,rfl,g,rfl,u,by lia,fun i h1 h2=>by congr 1;lia,.refl _ _ _⟩
 case fin=>
  rintro c st2 ⟨e,rfl,g2,pe,u2,hq,he,o2⟩;rw [show max n m=m by lia] at u2 hq he ⊢
  exact h m e st2 g2 pe hnm (Nat.le_refl _) u2 hq he o2
 case step=>
  rintro x c st2 hax hxn ⟨e,rfl,g2,pe,u2,hq,he,o2⟩;dsimp only;have hsz:lo+x<=(arrOf st2).size:=by rw [g2.size];lia
  refine wpS_bind (qFB h0 g2 (by lia) (by lia) ?_)
  by_cases less:gK (arrOf st2) (lo+x)<gK (arrOf st2) (lo+x - 1)
  ·rw [decide_eq_true less];dsimp only;refine gifT rfl ?_;have more:∀ ys:Array Keyed,(∀ k,gK ys k=gK (arrOf st2) k)->gFal ys lo (lo+(x+1)):=by
    intro ys hk i j hl hij hj;rw [hk,hk];by_cases hjx:j<lo+x
    ·exact u2 i j hl hij hjx
    ·have ej:j=lo+x:=by lia
     rw [ej];by_cases ei:i=lo+x
     ·rw [ei];exact Int.le_refl _
     ·have:=u2 i (lo+x - 1) hl (by lia) (by lia)
      lia
   by_cases hpos:e > 0
   ·rw [if_pos hpos,reverseSlice'_eq];refine wpS_bind (wpS_modify (wpS_pure ⟨0,rfl,g2.lay (mirror_perm _ _ _ _),pe,more _ (qAZ hsz he),by lia,fun i h1 h2=>by congr 1;lia,o2.trans ?_⟩))
    exact fun k _=>qAZ hsz he k
   ·refine gifF hpos ?_;exact wpS_pure ⟨0,rfl,g2,pe,more _ (fun _=>rfl),by lia,fun i h1 h2=>by congr 1;lia,o2⟩
  ·rw [decide_eq_false less];dsimp only;rw [if_neg Bool.false_ne_true];refine wpS_bind (qFB h0 g2 (by lia) (by lia) ?_)
   by_cases big:gK (arrOf st2) (lo+x - 1)<gK (arrOf st2) (lo+x)
   ·rw [decide_eq_true big];dsimp only;refine gifT rfl ?_;exact wpS_pure (h x e st2 g2 pe hax (by lia) u2 hq he o2)
   ·rw [decide_eq_false big];dsimp only;rw [if_neg Bool.false_ne_true];have ex:gK (arrOf st2) (lo+x)=gK (arrOf st2) (lo+x - 1):=by lia
    refine wpS_pure ⟨e+1,rfl,g2,pe,fun i j hl hij hj=>?_,by lia,fun i h1 h2=>?_,o2⟩
    ·by_cases hjx:j<lo+x
     ·exact u2 i j hl hij hjx
     ·have ej:j=lo+x:=by lia
      rw [ej];by_cases ei:i=lo+x
      ·rw [ei];exact Int.le_refl _
      ·rw [ex];exact u2 i (lo+x - 1) hl (by lia) (by lia)
    ·rw [show lo+(x+1) - 1=lo+x by lia]
     by_cases ei:i=lo+x
     ·rw [ei]
     ·rw [ex];exact he i (by lia) (by lia)
theorem qNH {st:SortSt} {lo n m:Nat} {Q:Option Nat->SortSt->Prop} (h0:qBJ a₀) (g:gSG κ0 a₀ st) (hm:lo+m<=a₀.size) (hnm:n+1<=m) (u:gFal (arrOf st) lo (lo+(n+1)))
  (h:∀ k st2,gSG κ0 a₀ st2->pendingOf st2=pendingOf st->1<=k->k<=m->gSeg (arrOf st2) lo (lo+k)->gOut (arrOf st) (arrOf st2) lo (lo+m)->Q (some k) st2):wpS (model prog w) A E s (gdnP lo n m) Q st:=by
 unfold gdnP;refine wpS_bind (wpS_lift (wpAny_rule ⟨rfl,?_⟩));refine wpS_bind (qSD h0 g hm (by lia) hnm u fun k e st2 g2 pe hk1 hk2 u2 hq he o2=>?_)
 dsimp only;have hsz:lo+k<=(arrOf st2).size:=by rw [g2.size];lia
 by_cases hpos:e > 0
 ·rw [if_pos hpos,reverseSlice'_eq];refine wpS_bind (wpS_modify (qL6 h0 (g2.lay (mirror_perm _ _ _ _)) hm (by lia) hk2 ?_ fun k2 st3 g3 pe3 a1 a2 u3 o3=>h k2 st3 g3 (pe3.trans pe) a1 a2 u3 ?_))
  ·intro i j hl hij hj;show gK (mirror (arrOf st2) _ _ _) j<=gK (mirror (arrOf st2) _ _ _) i;rw [qAZ hsz he,qAZ hsz he];exact u2 i j hl hij hj
  ·exact o2.trans (gOut.trans (fun k _=>qAZ hsz he k) o3)
 ·refine gifF hpos ?_;exact qL6 h0 g2 hm (by lia) hk2 u2 fun k2 st3 g3 pe3 a1 a2 u3 o3=>h k2 st3 g3 (pe3.trans pe) a1 a2 u3 (o2.trans o3)
theorem qSE {st:SortSt} {lo m:Nat} {Q:Option Nat->SortSt->Prop} (h0:qBJ a₀) (g:gSG κ0 a₀ st) (hm:lo+m<=a₀.size) (h1:1<=m)
  (h:∀ k st2,gSG κ0 a₀ st2->pendingOf st2=pendingOf st->1<=k->k<=m->gSeg (arrOf st2) lo (lo+k)->gOut (arrOf st) (arrOf st2) lo (lo+m)->Q (some k) st2):wpS (model prog w) A E s (countRun' lo m) Q st:=by
 rw [qQC];refine wpS_bind (qNG h0 g hm (Nat.le_refl 1) h1 (fun i j hl hij hj=>by rw [show i=j by lia];exact Int.le_refl _) fun n hn1 hn2 un or=>?_)
 dsimp only;by_cases e:n=m
 ·refine gifT (by simpa using e) ?_
  exact wpS_pure (h n st g rfl hn1 hn2 un (.refl _ _ _))
 ·refine gifF (by simpa using e) ?_
  have hlt:gK (arrOf st) (lo+n)<gK (arrOf st) (lo+n - 1):=or.resolve_left e;by_cases hgt:n > 1
  ·refine gifT hgt ?_;refine wpS_bind (qFB h0 g (by lia) (by lia) ?_)
   by_cases rose:gK (arrOf st) lo<gK (arrOf st) (lo+n - 1)
   ·rw [decide_eq_true rose];dsimp only;refine gifT rfl ?_;exact wpS_pure (h n st g rfl hn1 hn2 un (.refl _ _ _))
   ·rw [decide_eq_false rose];dsimp only;rw [if_neg Bool.false_ne_true,reverseSlice'_eq];have hsz:lo+n<=(arrOf st).size:=by rw [g.size];lia
    have same:∀ k,lo<=k->k<lo+n->gK (arrOf st) k=gK (arrOf st) (lo+n - 1):=by
     intro k hl hk;have a1:=un lo k (by lia) hl hk
     have a2:=un k (lo+n - 1) hl (by lia) (by lia)
     lia
    refine wpS_bind (wpS_modify (qNH h0 (g.lay (mirror_perm _ _ _ _)) hm (by lia) ?_ fun k st2 g2 pe a1 a2 u2 o2=>h k st2 g2 pe a1 a2 u2 (gOut.trans (fun k _=>qAZ hsz same k) o2)))
    intro i j hl hij hj;show gK (mirror (arrOf st) _ _ _) j<=gK (mirror (arrOf st) _ _ _) i;rw [qAZ hsz same,qAZ hsz same];by_cases hjn:j<lo+n
    ·rw [same i hl (by lia),same j (by lia) hjn]
     exact Int.le_refl _
    ·have ej:j=lo+n:=by lia
     rw [ej];by_cases ei:i=lo+n
     ·rw [ei];exact Int.le_refl _
     ·rw [same i hl (by lia)]
      exact Int.le_of_lt hlt
  ·refine gifF hgt ?_;have e1:n=1:=by lia
   rw [e1] at hlt;rw [e1];refine qNH h0 g hm (by lia) ?_ h
   intro i j hl hij hj;by_cases ei:i=j
   ·rw [ei];exact Int.le_refl _
   ·have ei:i=lo:=by lia
    have ej:j=lo+1:=by lia
    rw [ei,ej];exact Int.le_of_lt hlt
end
end L2.G
namespace L2.G
open PySem PyProof.Rows
variable [NM]
def qCI (xs:Array Keyed):List (Nat × Nat × Nat)->Nat->Nat->Prop
 | [],a,b=>a=b
 | r::rs,a,b=>r.1=a/\0<r.2.1/\gSeg xs a (a+r.2.1)/\qCI xs rs (a+r.2.1) b
theorem qGX {xs:Array Keyed}:∀ {l:List (Nat × Nat × Nat)} {a b:Nat},qCI xs l a b->a+l.length<=b
 | [],a,b,h=>by
  have:a=b:=h;simp
  lia
 | r::rs,a,b,h=>by
  have:=qGX h.2.2.2;have:=h.2.1;simp
  lia
theorem gruns_app {xs:Array Keyed}:∀ {l m:List (Nat × Nat × Nat)} {a b:Nat},qCI xs (l++m) a b ↔ ∃ c,qCI xs l a c/\qCI xs m c b
 | [],m,a,b=>⟨fun h=>⟨a,rfl,h⟩,fun ⟨c,e,h⟩=>by cases (show a=c from e);exact h⟩
 | r::rs,m,a,b=>by
  constructor
  ·rintro ⟨h1,h2,h3,h4⟩;obtain ⟨c,q1,q2⟩:=gruns_app.mp h4;exact ⟨c,⟨h1,h2,h3,q1⟩,q2⟩
  ·rintro ⟨c,⟨h1,h2,h3,q1⟩,q2⟩;exact ⟨h1,h2,h3,gruns_app.mpr ⟨c,q1,q2⟩⟩
theorem qHP {xs ys:Array Keyed}:∀ {l:List (Nat × Nat × Nat)} {a b:Nat},(∀ k,a<=k->k<b->gK ys k=gK xs k)->qCI xs l a b->qCI ys l a b
 | [],a,b,_,h=>h
 | r::rs,a,b,e,h=>by
  have le:=qGX h.2.2.2;refine ⟨h.1,h.2.1,fun i j hl hij hj=>?_,qHP (fun k h1 h2=>e k (by lia) h2) h.2.2.2⟩
  rw [e i hl (by lia),e j (by lia) (by lia)]
  exact h.2.2.1 i j hl hij hj
theorem qQA {α:Type}:∀ {l:List α} {i:Nat},i+1<l.length->∃ pre x y post,l=pre++x::y::post/\pre.length=i
 | [],_,h=>by simp at h
 | [x],_,h=>by simp at h
 | x::y::r,0,_=>⟨[],x,y,r,rfl,rfl⟩
 | x::y::r,i+1,h=>by
  obtain ⟨pre,a,b,post,e,el⟩:=qQA (l:=y::r) (i:=i) (by simp at h ⊢;lia)
  exact ⟨x::pre,a,b,post,by rw [e];rfl,by simp [el]⟩
section
variable {prog:Program} {w:World} {A:Around} {E:Value->Shared->Prop} {s:Shared} {κ0:SortKind} [LtOk prog w A s κ0] {a₀:Array Keyed}
theorem qG1 {st:SortSt} {i b:Nat} {Q:Bool->SortSt->Prop} (h0:qBJ a₀) (g:gSG κ0 a₀ st) (r:qCI (arrOf st) (pendingOf st).toList 0 b) (hb:b<=a₀.size) (hi:i+1<(pendingOf st).size)
  (h:∀ st2,gSG κ0 a₀ st2->qCI (arrOf st2) (pendingOf st2).toList 0 b->(pendingOf st2).size+1=(pendingOf st).size->(∀ k,b<=k->gK (arrOf st2) k=gK (arrOf st) k)->Q true st2):wpS (model prog w) A E s (mergeAt' i) Q st:=by
 obtain ⟨pre,⟨sa,na,p⟩,⟨sb,nb,q⟩,post,e,el⟩:=qQA (l:=(pendingOf st).toList) (i:=i) (by simpa using hi)
 rw [e] at r;obtain ⟨c,r1,r2⟩:=gruns_app.mp r;obtain ⟨x1,x2,x3,y1,y2,y3,r4⟩:=r2;dsimp only at x1 x2 x3 y1 y2 y3 r4;subst x1;subst y1;have le:=qGX r4;refine qSC h0 g e el.symm x2 y2 (by lia) x3 y3 fun st2 g2 pe u o=>h st2 g2 ?_ ?_ fun k hk=>o k (.inr (by lia))
 ·rw [pe];refine gruns_app.mpr ⟨sa,qHP (fun k _ hk=>o k (.inl hk)) r1,rfl,by show 0<na+nb;lia,?_,?_⟩
  ·show gSeg _ sa (sa+(na+nb));rw [<- Nat.add_assoc];exact u
  ·show qCI _ post (sa+(na+nb)) b;rw [<- Nat.add_assoc];exact qHP (fun k hk _=>o k (.inr hk)) r4
 ·have l1:=congrArg List.length pe;have l2:=congrArg List.length e;simp at l1 l2
  lia
theorem qL9 (f:Nat × Nat × Nat->Nat × Nat × Nat) (y:Nat × Nat × Nat):∀ l:List (Nat × Nat × Nat),(l++[y]).modify l.length f=l++[f y]
 | []=>rfl
 | z::l=>by
  show z::(l++[y]).modify l.length f=z::(l++[f y]);rw [qL9 f y l]
theorem qL8 {xs:Array Keyed} {p:Array (Nat × Nat × Nat)} {b pw:Nat} {f:Nat × Nat × Nat->Nat × Nat × Nat} (hf:∀ y,(f y).1=y.1/\(f y).2.1=y.2.1) (r:qCI xs p.toList 0 b):qCI xs (p.modify (p.size - 1) f).toList 0 b:=by
 rw [Array.toList_modify,<- Array.length_toList];generalize p.toList=l at r;rcases List.eq_nil_or_concat l with e | ⟨l',y,e⟩
 ·rw [e] at r ⊢;exact r
 ·rw [e] at r ⊢;rw [List.concat_eq_append] at r ⊢;obtain ⟨c,q1,q2⟩:=gruns_app.mp r;rw [List.length_append,List.length_singleton,Nat.add_sub_cancel,qL9];refine gruns_app.mpr ⟨c,q1,?_⟩;obtain ⟨z1,z2,z3,z4⟩:=q2;have h1:=(hf y).1;have h2:=(hf y).2;refine ⟨h1.trans z1,by rw [h2];exact z2,by rw [h2];exact z3,by rw [h2];exact z4⟩
theorem gwpS_runs {st:SortSt} {Q:Unit->SortSt->Prop} (h0:qBJ a₀) (g:gSG κ0 a₀ st) (hp:pendingOf st=#[]) (h:∀ st2,gSG κ0 a₀ st2->gSortedTo (arrOf st2) a₀.size->Q () st2):wpS (model prog w) A E s sortRuns' Q st:=by
 rw [sortRuns'_eq];refine wpS_bind (wpS_get ?_);dsimp only;rw [g.size];refine wpS_bind (wpS_mono (wpS_forRange
  (I:=fun x c st2=>∃ lo,c=(none,lo)/\x<=lo/\lo<=a₀.size/\gSG κ0 a₀ st2/\qCI (arrOf st2) (pendingOf st2).toList 0 lo)
  (Q:=fun c st2=>c.1=none/\gSG κ0 a₀ st2/\qCI (arrOf st2) (pendingOf st2).toList 0 a₀.size) ?step ?fin ⟨0,rfl,Nat.le_refl _,Nat.zero_le _,g,by rw [hp];rfl⟩) ?post)
 case fin=>
  rintro c st2 ⟨lo,rfl,h1,h2,g2,r2⟩;have e:lo=a₀.size:=by lia
  rw [e] at r2;exact ⟨rfl,g2,r2⟩
 case post=>
  rintro ⟨c,lo⟩ st2 ⟨e,g2,r2⟩;cases (show c=none from e);dsimp only;have le:=qGX r2;refine wpS_bind (wpS_mono (wpS_forRange (I:=fun x c st3=>c=(none,())/\gSG κ0 a₀ st3/\qCI (arrOf st3) (pendingOf st3).toList 0 a₀.size/\(pendingOf st3).size+x<=a₀.size)
   (Q:=fun c st3=>c=(none,())/\gSG κ0 a₀ st3/\qCI (arrOf st3) (pendingOf st3).toList 0 a₀.size/\(pendingOf st3).size<=1) ?_ ?_ ⟨rfl,g2,r2,by simpa using le⟩) ?_)
  ·rintro x c st3 _ _ ⟨rfl,g3,r3,le3⟩;refine wpS_bind (wpS_get ?_);by_cases c1:(pendingOf st3).size<=1
   ·rw [if_pos c1];exact wpS_pure ⟨rfl,g3,r3,c1⟩
   ·rw [if_neg c1];refine wpS_bind (qG1 h0 g3 r3 (Nat.le_refl _) ?_ fun st4 g4 r4 l4 _=>?_)
    ·repeat' split
     all_goals lia
    ·rw [if_neg (by simp)]
     exact wpS_pure ⟨rfl,g4,r4,by lia⟩
  ·rintro c st3 ⟨e,g3,r3,le3⟩;exact ⟨e,g3,r3,by lia⟩
  ·rintro c st3 ⟨rfl,g3,r3,le3⟩;refine wpS_pure (h st3 g3 ?_);have l3:(pendingOf st3).toList.length<=1:=by simpa using le3
   generalize (pendingOf st3).toList=l at r3 l3
   match l,r3,l3 with
   | [],r3,_=>
    have e:0=a₀.size:=r3;intro i j _ hj
    lia
   | [r],r3,_=>
    have e:0+r.2.1=a₀.size:=r3.2.2.2;intro i j hij hj;exact r3.2.2.1 i j (Nat.zero_le _) hij (by lia)
   | _::_::_,_,l3=>simp at l3
 case step=>
  rintro x c st2 _ hx ⟨lo,rfl,hxl,hlo,g2,r2⟩;dsimp only;by_cases c1:lo >= a₀.size
  ·rw [if_pos c1];have e:lo=a₀.size:=by lia
   rw [e] at r2;exact wpS_pure ⟨rfl,g2,r2⟩
  rw [if_neg c1];refine wpS_bind (qSE h0 g2 (by lia) (by lia) fun k st3 g3 pe3 k1 k2 u3 o3=>?_)
  have r3:qCI (arrOf st3) (pendingOf st3).toList 0 lo:=by
   rw [pe3];exact qHP (fun j _ hj=>o3 j (.inl hj)) r2
  dsimp only;have tail:∀ (st5:SortSt) (n:Nat),gSG κ0 a₀ st5->1<=n->lo+n<=a₀.size->gSeg (arrOf st5) lo (lo+n)->qCI (arrOf st5) (pendingOf st5).toList 0 lo->
    gSG κ0 a₀ (setPending st5 ((pendingOf st5).push (lo,n,0)))/\qCI (arrOf st5) ((pendingOf st5).push (lo,n,0)).toList 0 (lo+n):=by
   intro st5 n g5 h1 h2 u5 r5;refine ⟨⟨g5.perm,g5.kind,g5.failed⟩,?_⟩;rw [Array.toList_push];exact gruns_app.mpr ⟨lo,r5,rfl,h1,u5,rfl⟩
  by_cases c2:k<minRun' a₀.size a₀.size 0
  ·rw [if_pos c2];refine wpS_bind (wpS_lift (wpAny_rule ⟨rfl,?_⟩));refine wpS_bind (qSF h0 g3 (by lia) (by lia) u3 fun st4 g4 pe4 u4 o4=>?_)
   have r4:qCI (arrOf st4) (pendingOf st4).toList 0 lo:=by
    rw [pe4];exact qHP (fun j _ hj=>o4 j (.inl hj)) r3
   rw [if_neg (by simp)]
   refine wpS_bind (wpS_get ?_);cases eb:(pendingOf st4).back? with
   | none=>
    dsimp only;refine wpS_bind (wpS_modify (wpS_pure ?_));obtain ⟨g9,r9⟩:=tail st4 (min (a₀.size - lo) (minRun' a₀.size a₀.size 0)) g4 (by lia) (by lia) u4 r4
    exact ⟨_,rfl,by lia,by lia,g9,r9⟩
   | some t=>
    obtain ⟨s1,n1,q1⟩:=t;dsimp only;refine wpS_bind (wpS_mono (wpS_forRange (I:=fun _ c st6=>c=(none,())/\gSG κ0 a₀ st6/\qCI (arrOf st6) (pendingOf st6).toList 0 lo/\gSeg (arrOf st6) lo (lo+(min (a₀.size - lo) (minRun' a₀.size a₀.size 0))))
     (Q:=fun c st6=>c=(none,())/\gSG κ0 a₀ st6/\qCI (arrOf st6) (pendingOf st6).toList 0 lo/\gSeg (arrOf st6) lo (lo+(min (a₀.size - lo) (minRun' a₀.size a₀.size 0)))) ?_ (fun _ _ q=>q) ⟨rfl,g4,r4,u4⟩) ?_)
    ·rintro x c st6 _ _ ⟨rfl,g6,r6,u6⟩;refine wpS_bind (wpS_get ?_);by_cases c7:(pendingOf st6).size > 1
     ·rw [if_pos c7];cases ep:(pendingOf st6)[(pendingOf st6).size - 2]? with
      | none=>
       dsimp only;exact wpS_pure ⟨rfl,g6,r6,u6⟩
      | some t=>
       obtain ⟨s2,n2,old⟩:=t;dsimp only
       split
       ·exact wpS_pure ⟨rfl,g6,r6,u6⟩
       ·refine wpS_bind (qG1 h0 g6 r6 (by lia) (by lia) fun st7 g7 r7 _ o7=>?_)
        rw [if_neg (by simp)]
        refine wpS_pure ⟨rfl,g7,r7,fun i j hl hij hj=>?_⟩;rw [o7 i hl,o7 j (by lia)]
        exact u6 i j hl hij hj
     ·rw [if_neg c7];exact wpS_pure ⟨rfl,g6,r6,u6⟩
    ·rintro c st6 ⟨rfl,g6,r6,u6⟩;dsimp only;refine wpS_bind (wpS_modify (wpS_bind (wpS_modify (wpS_pure ?_))));obtain ⟨g9,r9⟩:=tail (setPending st6 ((pendingOf st6).modify ((pendingOf st6).size - 1) fun x=>(x.fst,x.2.fst,power' a₀.size (2 * s1+n1) (2 * s1+n1+n1+(min (a₀.size - lo) (minRun' a₀.size a₀.size 0))) a₀.size))) (min (a₀.size - lo) (minRun' a₀.size a₀.size 0)) ⟨g6.perm,g6.kind,g6.failed⟩ (by lia) (by lia) u6 (qL8 (pw:=0) (fun _=>⟨rfl,rfl⟩) r6)
     exact ⟨_,rfl,by lia,by lia,g9,r9⟩
  ·rw [if_neg c2];refine wpS_bind (wpS_get ?_);cases eb:(pendingOf st3).back? with
   | none=>
    dsimp only;refine wpS_bind (wpS_modify (wpS_pure ?_));obtain ⟨g9,r9⟩:=tail st3 k g3 (by lia) (by lia) u3 r3
    exact ⟨_,rfl,by lia,by lia,g9,r9⟩
   | some t=>
    obtain ⟨s1,n1,q1⟩:=t;dsimp only;refine wpS_bind (wpS_mono (wpS_forRange (I:=fun _ c st6=>c=(none,())/\gSG κ0 a₀ st6/\qCI (arrOf st6) (pendingOf st6).toList 0 lo/\gSeg (arrOf st6) lo (lo+k))
     (Q:=fun c st6=>c=(none,())/\gSG κ0 a₀ st6/\qCI (arrOf st6) (pendingOf st6).toList 0 lo/\gSeg (arrOf st6) lo (lo+k)) ?_ (fun _ _ q=>q) ⟨rfl,g3,r3,u3⟩) ?_)
    ·rintro x c st6 _ _ ⟨rfl,g6,r6,u6⟩;refine wpS_bind (wpS_get ?_);by_cases c7:(pendingOf st6).size > 1
     ·rw [if_pos c7];cases ep:(pendingOf st6)[(pendingOf st6).size - 2]? with
      | none=>
       dsimp only;exact wpS_pure ⟨rfl,g6,r6,u6⟩
      | some t=>
       obtain ⟨s2,n2,old⟩:=t;dsimp only
       split
       ·exact wpS_pure ⟨rfl,g6,r6,u6⟩
       ·refine wpS_bind (qG1 h0 g6 r6 (by lia) (by lia) fun st7 g7 r7 _ o7=>?_)
        rw [if_neg (by simp)]
        refine wpS_pure ⟨rfl,g7,r7,fun i j hl hij hj=>?_⟩;rw [o7 i hl,o7 j (by lia)]
        exact u6 i j hl hij hj
     ·rw [if_neg c7];exact wpS_pure ⟨rfl,g6,r6,u6⟩
    ·rintro c st6 ⟨rfl,g6,r6,u6⟩;dsimp only;refine wpS_bind (wpS_modify (wpS_bind (wpS_modify (wpS_pure ?_))));obtain ⟨g9,r9⟩:=tail (setPending st6 ((pendingOf st6).modify ((pendingOf st6).size - 1) fun x=>(x.fst,x.2.fst,power' a₀.size (2 * s1+n1) (2 * s1+n1+n1+k) a₀.size))) k ⟨g6.perm,g6.kind,g6.failed⟩ (by lia) (by lia) u6 (qL8 (pw:=0) (fun _=>⟨rfl,rfl⟩) r6)
     exact ⟨_,rfl,by lia,by lia,g9,r9⟩
end
end L2.G
namespace L2
open PySem PySem.Spec PyProof.Rows
section
variable {prog:Program} {w:World} {A:Around} {E:Value->Shared->Prop} {s:Shared}
theorem qP2 {a:Addr} {vs:List Value} {ns:List Int} {n:Nat} {P:Fin->Shared->Prop} (e0:s.heap.get? a=some (seqObj "list" vs.toArray n)) (ia:IntsAre vs ns) (hz:vs.length<=sizeLine)
  (h:∀ (out:Array Value) (zs:List Int),IntsAre out.toList zs->zs.Perm ns->zs.Pairwise (·<=·)->P (.done (.ret .none)) { s with heap:=sortedHeap s.heap a vs out }):wpAny (model prog w) A (Builtin.«list.sort» ⟨[.ref a],[]⟩) P E s:=by
 have la:=Heap.lt_size e0;have z0:vs.toArray.size<=sizeLine:=by simpa using hz
 rw [list_sort_plain];refine wpAny_bind (listItems_at e0 rfl (wpAny_bind (listUpdate_at e0 rfl ?_ z0 (Nat.zero_le _))));have e1:∃ k,(s.heap.update a (Obj.mapSeq fun _=>#[])).get? a=some (seqObj "list" #[] k):=⟨_,get?_update_seq e0 fun _=>#[]⟩;obtain ⟨k,e1⟩:=e1;refine wpAny_bind (seqEpoch_at e1 rfl (wpAny_bind (wpAny_newTuple ?_ (by simpa using hz))))
 refine wpAny_bind (wpAny_newList (wpAny_holding ?_));have e2:(((s.heap.update a (Obj.mapSeq fun _=>#[])).push (seqObj "tuple" vs.toArray 0)).push (seqObj "list" #[] 0)).get? a=some (seqObj "list" #[] k):=by
  rw [Heap.get?_push_ne,Heap.get?_push_ne]
  ·exact e1
  ·rw [Heap.size_update];exact Nat.ne_of_lt la
  ·rw [size_push',Heap.size_update];exact Nat.ne_of_lt (Nat.lt_succ_of_lt la)
 have last:∀ xs:Array Keyed,xs.Perm (pairsOf vs)->SortedTo xs (pairsOf vs).size->P (.done (.ret .none)) { s with heap:=sortedHeap s.heap a vs (xs.map (·.2)) }:=by
  intro xs px sx;obtain ⟨zs,q1,q2,q3⟩:=sorted_out ia px sx;exact h _ zs q1 q2 q3
 have sz:∀ xs:Array Keyed,xs.Perm (pairsOf vs)->(xs.map (·.2)).size<=sizeLine+1:=by
  intro xs px;rw [Array.size_map,px.size_eq,pairsOf_size]
  lia
 show wpAny _ A _ P E { s with heap:=((s.heap.update a (Obj.mapSeq fun _=>#[])).push (seqObj "tuple" vs.toArray 0)).push (seqObj "list" #[] 0) };dsimp only;by_cases few:vs.toArray.size<2
 ·simp only [if_pos few];refine wpAny_bind (wpAny_pure ?_);rw [StateT.run_pure];refine wpAny_bind (wpAny_pure (wpAny_bind (seqEpoch_at e2 rfl (wpAny_bind (listUpdate_at e2 rfl ?_ (Nat.zero_le _) (sz (pairsOf vs) (.refl _)))))));simp only [bne_self_eq_false,Bool.false_eq_true,if_false];refine wpAny_pure (last (pairsOf vs) (.refl _) fun i j hij hj=>?_);rw [pairsOf_size] at hj;rw [List.size_toArray] at few;rw [show i=j by lia]
  exact Int.le_refl _
 ·simp only [if_neg few];have kk:keyKind' vs.toArray=pure oneType':=by
   match vs,few,ia with
   | [],few,_=>exact absurd (by simp) few
   | [_],few,_=>exact absurd (by simp) few
   | _::_::_,_,ia=>exact keyKind_ints ia
  rw [kk]
  letI:G.NM:=⟨numOf,fun v=>∃ n t,v=.int n t⟩
  haveI:G.LtOk prog w A { s with heap:=((s.heap.update a (Obj.mapSeq fun _=>#[])).push (seqObj "tuple" vs.toArray 0)).push (seqObj "list" #[] 0) } oneType':=⟨fun {x y Q E} hx hy h=>by
   obtain ⟨n,t,rfl⟩:=hx;obtain ⟨m,u,rfl⟩:=hy;rw [keyLt'_oneType];exact oneLt_int h⟩
  refine wpAny_bind (wpAny_pure (wpAny_bind (wpAny_mono (G.gwpS_runs (κ0:=oneType') (a₀:=pairsOf vs) (Q:=fun _ st2=>G.gSG oneType' (pairsOf vs) st2/\G.gSortedTo (arrOf st2) (pairsOf vs).size) ia.intKeys ⟨.refl _,rfl,rfl⟩ rfl fun st2 g u=>⟨g,u⟩) ?_ fun _ _ x=>x)));rintro ⟨_,st2⟩ s2 ⟨es,g,u⟩;cases (show s2=_ from es);refine wpAny_bind (seqEpoch_at e2 rfl (wpAny_bind (listUpdate_at e2 rfl ?_ (Nat.zero_le _) (sz _ g.perm))));dsimp only;rw [g.failed];simp only [bne_self_eq_false,Bool.false_eq_true,if_false];exact wpAny_pure (last _ g.perm u)
end
section
variable {X:Cx}
theorem qKE {Ab:List (Addr × Obj)} {s:Shared} {σ:St} {H:Hp} {Q:VK} {A:Around} {E:Value->Shared->Prop} {ns:List Int} {D:Addr} (I:Inv X Ab σ (Ah H D (.lst (ns.map V.int))) s)
  (q:∀ zs:List Int,zs.Perm ns->zs.Pairwise (·<=·)->Q (.ref D) (Ah H D (.lst (zs.map V.int)))) :
  wpAny (model X.prog X.w) A (call (.builtin "list.sort") [.ref D]) (fun _ s'=>EP X Ab σ Q (.ref D) s') E s:=by
 obtain ⟨z,its,n,rv,hl,e⟩:=I.lstM qA1;have ia:=qBW rv;have hlen:=rv.length;refine wpAny_call_entry slot_list_sort ⟨_,e,rfl⟩ entry_list_sort (qP2 (ns:=ns) (n:=n) e ia (by rw [<- hlen];exact z) fun out zs a1 a2 a3=>⟨_,rfl,?_⟩) (args_list_sort _)
 obtain ⟨e2,hat⟩:=sortedHeap_at (vs:=its) (out:=out) e;refine ⟨.ref D,Ah H D (.lst (zs.map V.int)),?_,rfl,q zs a2 a3⟩;have hu:Ah (Ah H D (.lst (ns.map V.int))) D (.lst (zs.map V.int))=Ah H D (.lst (zs.map V.int)):=qH6;rw [<- hu];refine I.write (x:=D) (e:=D) (t':=s.toks) (by rw [qA1];exact trivial) (.inl rfl) (fun b u hb hbu=>?_) ⟨_,hat⟩ ?_
 ·rw [sortedHeap_old hb (Heap.lt_size hbu)];exact hbu
 ·refine ⟨?_,out.toList,e2,qE0 a1,by simpa using hat⟩
  rw [List.length_map,a2.length_eq,<- List.length_map (f:=V.int)];exact z
theorem qKS (hu:X.A.units<cLine):OpR X (compareOp .NotEq) (fun x y H Q=>∃ p l xs,x=.ref p/\y=.ref l/\SqL X.K H p xs/\SqL X.K H l []/\Q (.bl (!xs.isEmpty)) H):=by
 intro Ab s σ H x y v u Q I rx ry h;obtain ⟨p,l,xs,rfl,rfl,h1,h2,q⟩:=h;cases rx;cases ry;obtain ⟨its,r1,p1,z1⟩:=I.list h1;obtain ⟨its2,r2,p2,z2⟩:=I.list h2;cases r2;cases r1 with
 | nil=>exact PySem.SeqAt.RcNeAt.lists (e:=fun _=>true) p1.isList p2.isList rfl hu (fun j h _=>absurd h (by simp)) _ _ _ _ ⟨.bl false,H,I,rfl,q⟩
 | cons a r=>exact PySem.SeqAt.RcNeAt.lists_lengths p1.isList p2.isList (by simp) hu _ _ _ _ ⟨.bl true,H,I,rfl,q⟩
end
end L2
namespace L2
open PySem PySem.Spec PyProof.Rows
open PySem.AutoSeq1 in
section
variable {X:Cx}
end
end L2
namespace L2
open PySem PySem.Spec PyProof.Rows
section
variable {prog:Program} {w:World} {A:Around} {R:Result->Shared->Prop} {I:Addr} {fp wr:List Addr} {n:Nat} {P:Nat->Value->Prop} {St:Nat->Heap->Prop}
end
section
variable {prog:Program} {w:World} {A:Around} {E:Value->Shared->Prop} {s:Shared}
theorem qGE {id:String} {b:Builtin} {args:List Value} {kw:List (Str × Value)} {Q:Value->Shared->Prop} (hk:builtinKind id=none) (hp:plainId id=true) (hb:entryFor table id=some b) (ha:argsOk id ⟨args,kw⟩)
  (hc:wpAny (model prog w) A.in1 (b ⟨args,kw⟩) (fun fin s'=>∃ c',fin=.again c'/\c'.quiet=true/\codeAny (model prog w) A c' (fun r s'=>∃ v,r=.ok (.ret v)/\Q v s') s') E s):wpAny (model prog w) A (call (.builtin id) args kw) Q E s:=by
 refine wpAny_call (codeAny_call_builtin hp hb ?_);have h2:=wpAny_mono hc (Q':=fun fin s'=>match fin with
   | .done f=>(match (Except.ok f:Result) with | .ok (.ret v)=>Q v s' | .ok _=>False | .error e=>E e s')
   | .again c'=>c'.quiet=true/\codeAny (model prog w) A c' (fun r s'=>match r with | .ok (.ret v)=>Q v s' | .ok _=>False | .error e=>E e s') s')
  (fun fin s' ⟨c',e,h1,h2⟩=>by subst e;exact ⟨h1,codeAny_mono h2 fun r s' ⟨v,e,q⟩=>by subst e;exact q⟩) fun _ _ h'=>h'
 simp only [checkBuiltinCall,hk];cases sg:Manifest.signature? id with
 | none=>exact wpAny_pure h2
 | some sig=>
  have ha':Bind.checkArgs id sig ⟨args,kw⟩=pure ():=by simpa only [argsOk,sg] using ha
  simp only [ha'];exact wpAny_pure h2
end
section
variable {X:Cx}
end
end L2
namespace L2
open PySem PySem.Spec PyProof.Rows
section
variable {prog:Program} {w:World} {A:Around} {E:Value->Shared->Prop} {s:Shared}
end
section
variable {prog:Program} {w:World} {A:Around} {R:Result->Shared->Prop} {I:Addr} {fp wr:List Addr} {n:Nat} {P:Nat->Value->Prop} {St:Nat->Heap->Prop}
end
section
variable {prog:Program} {w:World} {A:Around} {E:Value->Shared->Prop} {s:Shared}
end
theorem qN6 {α β:Type} {F:α->β->Prop}:∀ {l₁:List α} {l₂:List β} {i:Nat} {a:α},Paired F l₁ l₂->l₁[i]?=some a->∃ b,l₂[i]?=some b/\F a b
 | _,_,_,_,.nil,e=>by simp at e
 | _,_,0,_,.cons r _,e=>by simp at e;subst e;exact ⟨_,rfl,r⟩
 | _,_,i+1,a,.cons _ t,e=>by
  obtain ⟨b,h1,h2⟩:=qN6 (i:=i) (a:=a) t (by simpa using e)
  exact ⟨b,by simpa using h1,h2⟩
section
variable {X:Cx}
end
end L2
namespace L2
open PySem PySem.Spec PyProof.Rows
section
variable {X:Cx}
def qXN (K:PySem.W.Frag):R2:=fun x y H Q=>∃ a b xs ys,x=.ref a/\y=.ref b/\SqT K H a xs/\SqT K H b ys/\ys ≠ []/\xs.length+ys.length<=sizeLine/\(xs=[]->Q (.ref b) H)/\(xs ≠ []->∀ p,H p=none->Q (.ref p) (Ah H p (.tup (xs++ys))))
theorem qU5:OpR X (binaryOp .Add) (qXN X.K):=by
 intro Ab s σ H x y v u Q I rx ry h;obtain ⟨a,b,xs,ys,rfl,rfl,ha,hb,hy,hz,q1,q2⟩:=h;by_cases hx:xs=[]
 ·subst hx;cases rx;cases ry;obtain ⟨its,r1,p1,_⟩:=I.tuple ha;obtain ⟨its2,r2,p2,_⟩:=I.tuple hb;cases r1;obtain ⟨⟨cls,dd,data,sl⟩,ho,hc,n,hd⟩:=id p1;obtain ⟨⟨cls2,dd2,data2,sl2⟩,ho2,hc2,n2,hd2⟩:=id p2;simp only at hc hd hc2 hd2;subst hc hd hc2 hd2;exact concat_meets ⟨_,ho,rfl⟩ ⟨_,ho2,rfl⟩ noFill_tuple_add seq_tuple_add PySem.F.slot_tuple_add PySem.F.entry_tuple_add (PySem.F.args_tuple_add_2 _ _) (tuple_addW0 a b #[] its2.toArray n n2 dd dd2 sl sl2 rfl) ⟨ho,ho2,.ref b,H,I,rfl,q1 rfl⟩
 ·exact qPN Ab s σ H (.ref a) (.ref b) v u Q I rx ry ⟨a,b,xs,ys,rfl,rfl,ha,hb,hx,hz,fun z=>absurd z hy,fun _=>q2 hx⟩
end
end L2
namespace L2
open PySem
noncomputable def g5:Nat->Nat
 | 0=>0
 | n+1=>5 * g5 n+1
end L2
namespace L2
open PySem PySem.Spec PyProof.Rows
structure TabG (byText:Bool × Bool) (t:SetTable) (n:Nat):Prop where
 pow:∃ k,3<=k/\t.mask+1=2 ^ k
 dum:t.dummies=#[]
 plain:t.plain=byText.2
 led:t.led=!byText.1
 size:t.place.size=n
 up:t.place.toList.Pairwise (·<·)
 le:∀ j ∈ t.place.toList,j<=t.mask
section
variable {byText:Bool × Bool} {t:SetTable} {n:Nat}
end
end L2
namespace L2
open PySem PySem.Spec PyProof.Rows
section
variable {mask:Nat} {owner:Array (Option Nat)}
end
structure Own (N:Nat) (L:List Nat) (owner:Array (Option Nat)):Prop where
 size:owner.size=N
 nd:L.Nodup
 lt:∀ j ∈ L,j<N
 at_:∀ (m j:Nat),L[m]?=some j->owner[j]?=some (some m)
 no:∀ j,j<N->j ∉ L->owner[j]?=some none
end L2
namespace L2
open PySem PySem.Spec PyProof.Rows
section
variable {prog:Program} {w:World} {A:Around} {E:Value->Shared->Prop} {s:Shared}
end
section
variable {prog:Program} {w:World} {A:Around} {R:Result->Shared->Prop} {I:Addr} {fp wr:List Addr} {G:Array GenState->Array GenState->Prop} {n:Nat} {P:Nat->Value->Prop} {St:Nat->Shared->Prop}
end
section
variable {prog:Program} {w:World} {A:Around} {E:Value->Shared->Prop} {s:Shared}
end
section
variable {prog:Program} {w:World} {A:Around} {E:Value->Shared->Prop} {s:Shared} {a I:Addr} {es:Array (Int × Value)} {ep:Nat} {t:SetTable} {i:Nat}
end
section
variable {X:Cx}
end
end L2
namespace L2
open PySem PySem.Spec PyProof.Rows
section
variable {X:Cx}
def qXL (K:PySem.W.Frag):R2:=fun x y H Q=>∃ a b xs ys,x=.ref a/\y=.ref b/\SqT K H a xs/\SqT K H b ys/\((xs ≠ []/\H a=some (.tup xs))\/(ys ≠ []/\H b=some (.tup ys)))/\xs.length+ys.length<=sizeLine/\∀ p H',Same H H'->H' p=some (.tup (xs++ys))->Q (.ref p) H'
theorem qJL:OpR X (binaryOp .Add) (qXL X.K):=by
 intro Ab s σ H x y v u Q I rx ry h;obtain ⟨a,b,xs,ys,rfl,rfl,ha,hb,hd,hz,q⟩:=h;have nw:∀ p,H p=none->Q (.ref p) (Ah H p (.tup (xs++ys))):=fun p hp=>q p _ (fun b u e=>by rw [qA8 (qA5 e hp)];exact e) qA1
 rcases hd with ⟨hx,ga⟩ | ⟨hy,gb⟩
 ·exact qPN Ab s σ H (.ref a) (.ref b) v u Q I rx ry ⟨a,b,xs,ys,rfl,rfl,ha,hb,hx,hz,fun z=>q a H (fun _ _ e=>e) (by rw [z,List.append_nil];exact ga),fun _=>nw⟩
 ·exact qU5 Ab s σ H (.ref a) (.ref b) v u Q I rx ry ⟨a,b,xs,ys,rfl,rfl,ha,hb,hy,hz,fun z=>q b H (fun _ _ e=>e) (by rw [z];exact gb),fun _=>nw⟩
end
section
variable {prog:Program} {w:World} {A:Around} {E:Value->Shared->Prop} {s:Shared}
end
section
variable {X:Cx}
end
end L2
namespace L2
open PySem PySem.Spec PyProof.Rows
structure Ex (B:Heap) (l:List Env) (e:Addr) (cls:Value) (dd:Option Addr) (nt:Bool) (h:Heap):Prop where
 stays:B.StaysIn h
 new:B.get? e=none
 frames:h.FunFrames B l
 rec_:∃ (oe:Obj) (vs:Array Value) (x1:Value),h.get? e=some oe/\oe.cls=cls/\oe.dict=dd/\oe.data=.fields vs/\vs[1]?=some x1/\
  ((x1=.none/\nt=false)\/∃ (T:Addr) (oT:Obj) (ts:Array Value) (x3:Value),x1=.ref T/\B.get? T=none/\T ≠ e/\h.get? T=some oT/\oT.data=.fields ts/\ts[3]?=some x3)
section
variable {M:Model} {A:Around} {E:Value->Shared->Prop} {s:Shared} {B:Heap} {env:Env} {outer l:List Env} {L e:Addr} {cls:Value} {dd:Option Addr} {nt:Bool} {Q:Unit->Shared->Prop}
end
end L2
namespace L2
open PySem PySem.Spec PyProof.Rows
def Kp (outer:List Env) (H':Hp) (h0:Heap) (b:Addr):Prop:=(∃ o,H' b=some o)\/((∃ o,h0.get? b=some o)/\b ∉ frs outer)
structure XD (P:Program) (w:World) (outer l:List Env) (H:Hp) (h0:Heap) (e:Addr) (cls:Value) (dd:Option Addr) (H':Hp) (B:Heap) (nt:Bool) (h:Heap):Prop where
 un:Un (frs outer) [] H H' h0 h
 hok:HOk P w H' h
 ex:Ex B l e cls dd nt h
 kp:∀ b o,h.get? b=some o->Kp outer H' h0 b->B.get? b=some o
 ne:H' e=none
 ge:h0.objs.size<=e
def XP (X:Cx) (G:XK) (ev:Value) (s':Shared):Prop:=X.A.frames=some X.stack/\∃ (e:Addr) (cls:Value) (dd:Option Addr) (H':Hp) (B:Heap) (nt:Bool),ev=.ref e/\s'.os=X.s₀.os/\AllBare s'.gens/\XD X.prog X.w X.outer X.stack X.H₀ X.s₀.heap e cls dd H' B nt s'.heap/\G cls dd H'
section
variable {X:Cx} {E:XK} {G:XK} {Ab:List (Addr × Obj)} {σ:St} {H:Hp} {s s':Shared}
end
section
variable {P:Program} {w:World} {K:PySem.W.Frag} {mg:Str->Option Value} {base:Heap}
end
end L2
namespace L2
open PySem PySem.Spec PyProof.Rows
section
variable {X:Cx} {Ab:List (Addr × Obj)} {σ:St} {H:Hp} {s:Shared} {ev:Value}
end
section
variable {X:Cx}
def Ends.off (D:Ends):Option Nat->Ends
 | none=>D
 | some j=>{ nx:=fun σ H=>D.nx (σ.set j none) H,rt:=D.rt,bk:=fun σ H=>D.bk (σ.set j none) H,ct:=fun σ H=>D.ct (σ.set j none) H }
end
end L2
namespace L2
open PySem PySem.Spec PyProof.Rows
noncomputable def bmV:List Value:=[.type "ValueError",.type "Exception",.type "BaseException",.type "object"]
noncomputable def xcIn (K:PySem.W.Frag) (C:Addr) (init:Option Value):Bool:=match K.lookup C with
 | some ⟨.type "type",_,.cls cd,sl⟩=>(match cd.mro,sl.toList with
  | .ref C'::bm,[_,_,_,_,some (.builtin n),_]=>C' == C && n == "ValueError.__new__" && !cd.hasDel && cd.hasDict && PySem.W.tailIn K bmV bm && PySem.W.nsOkIn K cd.ns && PySem.W.nsIn K cd.ns "__init__" == some init
  | _,_=>false)
 | _=>false
structure XCls (K:PySem.W.Frag) (C:Addr) (init:Option Value):Prop where
 cls:xcIn K C init=true
 set:PySem.W.findIn K (.ref C) "__setattr__" = some (some (.builtin "object.__setattr__"))
 kp:PySem.W.keepIn K (.ref C)=true
section
variable {prog:Program} {w:World} {A:Around} {E:Value->Shared->Prop} {h:Heap} {g:Array GenState} {d:Drawn} {t:Nat} {os:OsState} {K:PySem.W.Frag} {C x:Addr} {init:Option Value} {mA:Str->Option Value} {name:Str} {v:Value} {ns:List Str}
end
end L2
namespace L2
open PySem PySem.Spec PyProof.Rows
section
variable {prog:Program} {w:World} {A:Around} {R:Result->Shared->Prop} {h:Heap} {g:Array GenState} {d:Drawn} {t:Nat} {os:OsState} {K:PySem.W.Frag} {C fI:Addr} {rest:List Value}
end
section
variable {M:Model} {A:Around} {E:Value->Shared->Prop} {env:Env} {K:PySem.W.Frag} {C:Addr} {init:Option Value}
end
section
variable {X:Cx} {Ab:List (Addr × Obj)} {σ:St} {H:Hp} {s:Shared}
end
section
variable {X:Cx}
end
end L2
namespace L2
open PySem PySem.Spec PyProof.Rows
structure XGet (K:PySem.W.Frag) (C:Addr):Prop where
 ga:PySem.W.findIn K (.ref C) "__getattribute__" = some (some (.builtin "BaseException.__getattribute__"))
 gt:PySem.W.findIn K (.ref C) "__getattr__" = some none
 be:PySem.W.mroIn K C (.type "BaseException")=some true
 hd:PySem.W.hasDictIn K C=true
section
variable {prog:Program} {w:World} {A:Around} {E:Value->Shared->Prop} {s:Shared} {K:PySem.W.Frag} {x C:Addr} {ox:Obj} {od:Option Obj} {name:Str} {tk:Tok}
end
structure XTy (K:PySem.W.Frag) (C:Addr):Prop extends XGet K C where
 ca:PySem.W.findIn K (.ref C) "__class__" = some (some (.builtin "object.__class__"))
 cn:PySem.W.specialIn K (.builtin "object.__class__") "__get__" = some (some (.builtin "getset_descriptor.__get__"))
 ct:PySem.W.takesIn K (.builtin "object.__class__")=some true
 cm:PySem.W.mroIn K C (.type "object")=some true
section
variable {K:PySem.W.Frag}
end
section
variable {X:Cx}
end
end L2
namespace L2
open PySem PySem.Spec PyProof.Rows
structure RoomH (k:Nat) (A:Around):Prop where
 dp:A.depth+3 * k+5<recursionLimit
 un:A.units+16 * k+200<cLine
structure FnOkH (P:Program) (w:World) (K:PySem.W.Frag) (mg:Str->Option Value) (base:Heap) (CX:CXT) (k:Nat) (f:Addr) (fd:FuncData) (ps:List Str) (sp:Sp):Prop where
 len:∀ vs H Q E,sp vs H Q E->vs.length=ps.length
 run:∀ (A:Around) (outer:List Env) (s:Shared) (H:Hp) (args:Args) (us:List Value) (vs:List V) (Q:VK) (E:XK),RoomH k A->Env0 P w K mg base A outer s H->BindsTo s fd args (ps.zip us)->Vals vs us->sp vs H Q E->
  codeAny (model P w) A (.call (.ref f) args) (CR CX outer P w H s Q E) s
section
variable {P:Program} {w:World} {K:PySem.W.Frag} {mg:Str->Option Value} {base:Heap}
end
section
variable {X:Cx} {CX:CXT} {k:Nat} {f C:Addr} {fd:FuncData} {ps:List Str} {sp:Sp} {dvs:List V} {ds:List Value} {E:XK} {x m:Str} {p pos apos:Pos} {e o:Expr} {es:List Expr} {ta:TE} {t:TA}
end
end L2
namespace L2
open PySem PySem.Spec PyProof.Rows
section
variable {X:Cx}
end
end L2
namespace L2
open PySem PySem.Spec PyProof.Rows
section
variable {prog:Program} {w:World} {A:Around} {E:Value->Shared->Prop} {s:Shared}
end
end L2
namespace L2
open PySem PySem.Spec PyProof.Rows
section
variable {X:Cx}
end
end L2
namespace L2
open PySem PySem.Spec PyProof.Rows
section
variable {X:Cx}
end
end L2
namespace L2
open PySem PySem.Spec PyProof.Rows
structure LcScopeO (X:Cx) (scope:Scope) (own:List Str) (fv:List Nat):Prop where
 kind:scope.kind=.function
 names:∀ y ∈ scope.names,y.2=.local->scope.names.lookup y.1=some .local
 cells:∀ y ∈ scope.names,y.2=.cell->scope.names.lookup y.1=some .cell
 frees:∀ y ∈ scope.names,y.2=.free->scope.names.lookup y.1=some .free
 free:∀ y ∈ scope.names,y.2=.free->X.env.kindOf y.1=some .cell\/X.env.kindOf y.1=some .free
 nd:(own++fv.map fun i=>X.N.getD i Str.empty).Nodup
 fvs:∀ i ∈ fv,i<X.N.length/\scope.names.lookup (X.N.getD i Str.empty)=some .free
 owns:∀ x ∈ own,scope.names.lookup x=some .local\/scope.names.lookup x=some .cell
section
variable {X:Cx} {Ab:List (Addr × Obj)} {σ:St} {H:Hp} {s:Shared}
end
section
variable {X:Cx} {tg iter elt:Expr} {ifs:List Expr} {scope:Scope} {pos:Pos} {own:List Str} {fv:List Nat} {wi:TI} {g:TG} {tc:TT} {te:TE}
end
end L2
namespace L2
open PySem PySem.Spec PyProof.Rows
section
variable {prog:Program} {w:World} {A:Around} {R:Result->Shared->Prop} {I:Addr} {fp wr:List Addr} {n:Nat} {P:Nat->Value->Prop} {St:Nat->Heap->Prop}
end
section
variable {prog:Program} {w:World} {A:Around} {E:Value->Shared->Prop} {s:Shared}
end
section
variable {X:Cx}
end
end L2
namespace L2
open PySem PySem.Spec PyProof.Rows
theorem qWW:bootBuiltins "any" = some (.builtin "any"):=by decide +kernel
theorem qO1 (bs:List Bool):((List.range bs.length).any fun i=>(bs[i]?).getD false)=bs.any id:=by
 rw [Bool.eq_iff_iff,List.any_eq_true,List.any_eq_true]
 constructor
 ·rintro ⟨i,hi,h⟩;have hi':=List.mem_range.mp hi;rw [List.getElem?_eq_getElem hi'] at h;exact ⟨_,List.getElem_mem hi',h⟩
 ·rintro ⟨b,hb,h⟩;obtain ⟨i,hi,e⟩:=List.getElem_of_mem hb;exact ⟨i,List.mem_range.mpr hi,by rw [List.getElem?_eq_getElem hi,e];exact h⟩
section
variable {X:Cx}
theorem qSR (hc:X.calm=true):qCV X (.builtin "any") (fun xs H Q=>∃ (p:Addr) (bs:List Bool),xs=[.ref p]/\SqL X.K H p (bs.map V.bl)/\Q (.bl (bs.any id)) H):=by
 intro Ab s σ H xs us Q I r h;obtain ⟨p,bs,rfl,hq,q⟩:=h;obtain ⟨u,rfl,rx⟩:=qDB r;cases rx;obtain ⟨its,rv,pl,hz⟩:=I.list hq;have hl:=pl.isList;have hlt:p<s.heap.objs.size:=by obtain ⟨_,e,_⟩:=hl;exact Heap.lt_size e
 have hlen:=rv.length;rw [List.length_map] at hlen;refine call_any_walk (wpAny_pyIter_list hl ?_);refine ⟨s.heap.objs.size,[s.heap.objs.size,p],[s.heap.objs.size],its.toArray.size,_,_,fun i=>(bs[i]?).getD false,rfl,Walks.list (A:=X.A.in1) (I.ok.hd hc) _ p (Nat.ne_of_lt hlt) its.toArray,
  ⟨⟨_,Heap.get?_push_size _ rfl,rfl,rfl⟩,hl.push _⟩,fun i v s' Q' E' hP hQ=>?_,fun h' tk hk=>?_⟩
 ·have hP':its[i]?=some v:=by simpa using hP
  have hi:i<bs.length:=by rw [hlen];exact (List.getElem?_eq_some_iff.mp hP').1
  obtain ⟨u,hu,ru⟩:=rv.get (i:=i) (x:=.bl bs[i]) (by rw [List.getElem?_map,List.getElem?_eq_getElem hi];rfl)
  rw [hP'] at hu;cases hu;cases ru;dsimp only at hQ;rw [List.getElem?_eq_getElem hi,Option.getD_some] at hQ;exact wpAny_truthy_bool hQ
 ·have e:((List.range its.toArray.size).any fun i=>(bs[i]?).getD false)=bs.any id:=by
   rw [List.size_toArray,<- hlen];exact qO1 bs
  refine ⟨.bl (bs.any id),H,I.kept fun b x e=>hk b x (fun hm=>by rw [List.mem_singleton.mp hm] at e;exact Nat.lt_irrefl _ (Heap.lt_size e)) (Heap.get?_push_of_some _ e),?_,q⟩
  rw [e]
  rfl
end
end L2
namespace L2
open PySem PySem.Spec PyProof.Rows
section
variable {prog:Program} {w:World} {A:Around} {E:Value->Shared->Prop} {s:Shared}
end
section
variable {prog:Program} {w:World} {A:Around} {E:Value->Shared->Prop} {s:Shared}
end
section
variable {X:Cx}
end
end L2
namespace L2
open PySem PySem.Spec PyProof.Rows
section
variable {X:Cx}
end
end L2
namespace HT
open PySem PySem.Spec PyProof.Rows
section
variable {prog:Program} {w:World} {A:Around} {E:Value->Shared->Prop} {s:Shared}
end
end HT
namespace L2
open PySem PySem.Spec PyProof.Rows
section
variable {X:Cx}
end
section
variable {A:Around} {s:Shared}
end
section
variable {X:Cx}
end
end L2
namespace L2
open PySem PySem.Spec PyProof.Rows
section
variable {X:Cx}
end
end L2
namespace L2
open PySem PySem.Spec PyProof.Rows
section
variable {X:Cx} {e:Expr} {te:TE} {st:Option Expr} {tst:TO} {pos p2:Pos}
end
end L2
namespace L2
open PySem PySem.Spec PyProof.Rows
section
variable {X:Cx}
end
end L2
namespace L2
open PySem PySem.Spec PyProof.Rows
section
variable {prog:Program} {w:World} {A:Around} {E:Value->Shared->Prop} {s:Shared}
end
section
variable {X:Cx}
theorem qH4:∀ (as:List Addr),Vals (as.map V.ref) (as.map Value.ref)
 | []=>.nil
 | _::as=>.cons rfl (qH4 as)
end
end L2
namespace L2
open PySem PySem.Spec PyProof.Rows
end L2
namespace L2
open PySem PySem.Spec PyProof.Rows
section
variable {prog:Program} {w:World} {A:Around} {R:Result->Shared->Prop} {h:Heap} {g:Array GenState} {d:Drawn} {t:Nat} {os:OsState} {K:PySem.W.Frag} {C fI:Addr} {rest:List Value}
end
end L2
namespace L2
open PySem PySem.Spec PyProof.Rows
section
variable {X:Cx}
def TB:Type:=(St->XK)->TS
end
end L2
namespace L2
open PySem PySem.Spec PyProof.Rows
section
variable {prog:Program} {w:World} {A:Around} {E:Value->Shared->Prop} {s:Shared}
end
section
variable {X:Cx} {pos:Pos}
end
end L2
namespace L2
open PySem PySem.Spec PyProof.Rows
section
variable {X:Cx} {tg:Expr}
end
end L2
namespace L2
open PySem PySem.Spec PyProof.Rows
section
variable {prog:Program} {w:World} {A:Around} {E:Value->Shared->Prop} {s:Shared} {it d:Addr} {i n ep:Nat} {od:Obj} {es:Array DictEntry}
theorem qLF {Q:Value->Shared->Prop} (hT:s.TypeIs (.ref d) "dict") (hd:(d == sysModules)=false) (ho:s.heap.get? d=some od) (he:od.data=.dict es ep)
  (hQ:Q (.ref s.heap.objs.size) { s with heap:=s.heap.push { cls:=.type "dict_keyiterator",data:=.fields #[.ref d,rawInt 0,rawInt es.size,rawInt ep] } }):wpAny (model prog w) A (pyIter (.ref d)) Q E s:=by
 apply wpAny_pyIter_slot hT F.slot_dict_iter;refine wpAny_call_entry F.slot_dict_iter hT F.entry_dict_iter ?go (F.args_dict_iter_1 (.ref d));unfold Builtin.«dict.__iter__»;apply wpAny_bind;unfold Builtin.Dict.dictSlotNone;apply wpAny_bind;apply wpAny_notOrdered_dict hT;apply wpAny_pure;apply wpAny_bind;apply wpAny_pure;apply wpAny_bind;unfold Builtin.Dict.showsAll;rw [hd];apply wpAny_pure;apply wpAny_bind;apply wpAny_dictEntries ho he;apply wpAny_bind;apply wpAny_dictEpoch ho he;apply wpAny_bind;refine wpAny_newObj_type ?made;apply wpAny_pure;exact ⟨_,rfl,"dict_keyiterator",_,⟨_,Heap.get?_push_size _ rfl,rfl⟩,F.slot_dict_keyiterator_next.lookup,hQ⟩
def qOO (h:Heap) (it d:Addr) (i n ep:Nat):Prop:=h.get? it=some { cls:=.type "dict_keyiterator",data:=.fields #[.ref d,rawInt i,rawInt n,rawInt ep] }
theorem qLG {Q:Option Value->Shared->Prop} (hit:qOO s.heap it d i es.size ep) (ho:s.heap.get? d=some od) (he:od.data=.dict es ep) (hi:i<es.size)
  (hQ:∀ h',qOO h' it d (i+1) es.size ep->Heap.SameBut it s.heap h'->Q (some es[i].key) { s with heap:=h' }):wpAny (model prog w) A (pyNext (.ref it)) Q E s:=by
 have hT:s.TypeIs (.ref it) "dict_keyiterator":=⟨_,hit,rfl⟩;unfold pyNext;apply wpAny_bind;apply wpAny_attempt;apply wpAny_callSpecial?_slot (name:=Str.ofString "__next__") hT F.slot_dict_keyiterator_next;refine wpAny_call_entry F.slot_dict_keyiterator_next hT F.entry_dict_keyiterator_next ?go (F.args_dict_keyiterator_next_1 (.ref it));apply wpAny_bind;apply wpAny_pure;apply wpAny_bind;apply wpAny_bind;apply wpAny_bind
 first | apply wpAny_typeNameOfWhole_keyiter hT | apply wpAny_typeNameOf_keyiter hT
 apply wpAny_pure;apply wpAny_bind;refine wpAny_fieldsOf hit rfl ?fs;have own0:Builtin.Dict_items.ownsTuple "dict_keyiterator" = false:=by decide
 have nn:((Value.ref d == Value.none)=true)->False:=fun z=>by cases z
 simp only [own0,Bool.false_eq_true,if_false];show wpAny _ _ (if (Value.ref d == Value.none)=true then _ else _) _ _ s
 rw [if_neg nn];apply wpAny_bind;apply wpAny_pure;apply wpAny_bind;apply wpAny_dictEntries ho he;rw [if_neg (by simp)]
 apply wpAny_bind;apply wpAny_pure;apply wpAny_bind;apply wpAny_dictEpoch ho he;rw [if_neg (by simp)]
 apply wpAny_pure;have pos:¬ ((i:Int)<0):=Int.not_lt.mpr (Int.natCast_nonneg i);simp only [pos,if_false,Int.toNat_natCast,Array.getElem?_eq_getElem hi];apply wpAny_bind;apply wpAny_bind
 first | apply wpAny_typeNameOfWhole_keyiter hT | apply wpAny_typeNameOf_keyiter hT
 apply wpAny_pure;apply wpAny_bind;apply wpAny_isOneOf_keyiter hT;show wpAny _ _ (setField (.ref it) 1 (rawInt ((i:Int)+1)) >>= _) _ _ s;apply wpAny_bind;refine wpAny_setField hit rfl (by show 1<4;decide) ?set
 have hit':qOO (s.heap.update it (Obj.mapFields (·.setIfInBounds 1 (rawInt ((i:Int)+1))))) it d (i+1) es.size ep:=Heap.get?_update_self _ hit rfl;apply wpAny_bind;apply wpAny_holding;apply wpAny_bind;refine wpAny_isOneOf_keyiter (s:={ s with heap:=s.heap.update it (Obj.mapFields (·.setIfInBounds 1 (rawInt ((i:Int)+1)))) }) ⟨_,hit',rfl⟩ ?one;apply wpAny_pure;apply wpAny_pure;exact ⟨_,rfl,wpAny_pure (hQ _ hit' (Heap.SameBut.update ..))⟩
theorem qNK {Q:Option Value->Shared->Prop} (hh:A.handled=none) (hit:qOO s.heap it d i es.size ep) (hi:es.size<=i) (ho:s.heap.get? d=some od) (he:od.data=.dict es ep)
  (hQ:∀ h',Heap.ExtBut it s.heap h'->Q none { s with heap:=h' }):wpAny (model prog w) A (pyNext (.ref it)) Q E s:=by
 have hT:s.TypeIs (.ref it) "dict_keyiterator":=⟨_,hit,rfl⟩;unfold pyNext;apply wpAny_bind;apply wpAny_attempt;apply wpAny_callSpecial?_slot (name:=Str.ofString "__next__") hT F.slot_dict_keyiterator_next;refine wpAny_call_entry F.slot_dict_keyiterator_next hT F.entry_dict_keyiterator_next ?go (F.args_dict_keyiterator_next_1 (.ref it));apply wpAny_bind;apply wpAny_pure;apply wpAny_bind;apply wpAny_bind;apply wpAny_bind
 first | apply wpAny_typeNameOfWhole_keyiter hT | apply wpAny_typeNameOf_keyiter hT
 apply wpAny_pure;apply wpAny_bind;refine wpAny_fieldsOf hit rfl ?fs;have own0:Builtin.Dict_items.ownsTuple "dict_keyiterator" = false:=by decide
 have nn:((Value.ref d == Value.none)=true)->False:=fun z=>by cases z
 simp only [own0,Bool.false_eq_true,if_false];show wpAny _ _ (if (Value.ref d == Value.none)=true then _ else _) _ _ s
 rw [if_neg nn];apply wpAny_bind;apply wpAny_pure;apply wpAny_bind;apply wpAny_dictEntries ho he;rw [if_neg (by simp)]
 apply wpAny_bind;apply wpAny_pure;apply wpAny_bind;apply wpAny_dictEpoch ho he;rw [if_neg (by simp)]
 apply wpAny_pure;have pos:¬ ((i:Int)<0):=Int.not_lt.mpr (Int.natCast_nonneg _);simp only [pos,if_false,Int.toNat_natCast,Array.getElem?_eq_none hi];apply wpAny_bind;apply wpAny_bind
 first | apply wpAny_typeNameOfWhole_keyiter hT | apply wpAny_typeNameOf_keyiter hT
 apply wpAny_pure;show wpAny _ _ (setField (.ref it) 0 .none >>= _) _ _ s;apply wpAny_bind;refine wpAny_setField hit rfl (by show 0<4;decide) ?set
 have eb:Heap.ExtBut it s.heap (s.heap.update it (Obj.mapFields (·.setIfInBounds 0 Value.none))):=fun b o hb e=>(Heap.get?_update_other _ _ (Ne.symm hb)).trans e;show wpAny _ _ (newExc (.type "StopIteration") [] >>= _) _ _ _;apply wpAny_bind;simp only [newExc,newTuple];apply wpAny_bind;refine wpAny_newObj_type ?t1 (by size_fits)
 refine wpAny_bind (m:=firstArgMember _ _) (wpAny_of_eq (a:=Value.none) (by first | rfl | (simp only [firstArgMember];rfl)) ?t2)
 refine wpAny_newObj_type ?t3 (by size_fits)
 simp only [raiseNew];apply wpAny_bind;apply wpAny_handled;rw [show A.in1.handled=none from hh]
 first | apply wpAny_throw | (apply wpAny_bind;apply wpAny_pure;apply wpAny_throw)
 apply wpAny_bind;refine wpAny_isInstance (T:="StopIteration") (b:=true) ⟨_,Heap.get?_push_size _ rfl,rfl⟩ isSubtype_stop ?t4;exact wpAny_pure (hQ _ ((eb.push _).push _))
end
section
variable {X:Cx} {tg:Expr}
def qXB (t:TE):TE:=fun σ H Q=>t σ H fun v H1=>∃ d Ag,v=.ref d/\H1 d=some (.dT Ag)/\∀ o,Q v (Ah H1 d (.frz o (.dT Ag)))
theorem Inv.freezeT {Ab:List (Addr × Obj)} {σ:St} {H:Hp} {s:Shared} {d:Addr} {Ag:List (List KI × V)} (I:Inv X Ab σ H s) (h:H d=some (.dT Ag)):∃ o,Inv X Ab σ (Ah H d (.frz o (.dT Ag))) s:=by
 have ok:=I.hok d _ h;obtain ⟨hz,hd,xs,rel,o,es,ep,ho,r⟩:=id ok;refine ⟨o,I.write (h':=s.heap) (t':=s.toks) (x:=d) (e:=d) (o:=.frz o (.dT Ag)) (by rw [h];trivial) (.inl rfl) (fun b u _ q=>q) ⟨o,ho⟩ ⟨ho,?_⟩⟩
 refine (show ObjOk X.prog X.w H s.heap d (.dT Ag) from ok).stay (fun b u _ q=>q) (fun b q=>?_) (fun b ys q=>?_) fun b t q=>?_
 ·rw [qA8 (qCR q h (by intro z;cases z))];exact q
 ·rw [qA8 (qCR q h (by intro z;cases z))];exact q
 ·rw [qA8 (qCR q h (by intro z;cases z))];exact q
theorem qPH {e:Expr} {t:TE} (he:PE X e t):PE X e (qXB t):=by
 intro Ab s σ H Q I h;refine thn (he Ab s σ H _ I h) fun v s1 ⟨x,H1,I1,r1,d,Ag,e,hd,q⟩=>?_;obtain ⟨o,I2⟩:=I1.freezeT hd;exact ⟨x,_,I2,r1,q o⟩
def ItT (a:Addr) (o:Obj) (Ag:List (List KI × V)):It:=
 ⟨fun i H=>i<Ag.length/\H a=some (.frz o (.dT Ag)),fun i H x H'=>H'=H/\∃ k v r,Ag[i]?=some (k,v)/\x=.ref r/\H r=some (.tup (k.map kI)),fun i H=>Ag.length<=i/\H a=some (.frz o (.dT Ag))⟩
theorem Inv.heldT {Ab:List (Addr × Obj)} {σ:St} {H:Hp} {s:Shared} {d:Addr} {o:Obj} {Ag:List (List KI × V)} (I:Inv X Ab σ H s) (h:H d=some (.frz o (.dT Ag))) :
  s.heap.get? d=some o/\(d == sysModules)=false/\o.cls=.type "dict"/\∃ es ep,o.data=.dict es ep/\es.size=Ag.length/\∀ (i:Nat) (hi:i<es.size),∃ k v r,Ag[i]?=some (k,v)/\es[i].key=.ref r/\H r=some (.tup (k.map kI)):=by
 obtain ⟨ho,hz,hd,xs,rel,o',es,ep,ho',hc,hdat,eq,nd⟩:=(show ObjOk X.prog X.w H s.heap d (.frz o (.dT Ag)) from I.hok d _ h);rw [ho] at ho';cases ho';have lx:xs.length=Ag.length:=rel.length.symm;have le:es.size=xs.length:=by rw [<- Array.length_toList,eq,List.length_map]
 refine ⟨ho,hd,hc.1,es,ep,hdat,le.trans lx,fun i hi=>?_⟩;have hi2:i<xs.length:=by lia
 have hi3:i<Ag.length:=by lia
 have h1:=List.getElem?_eq_getElem hi3;obtain ⟨x,hx,e1,e2,e3⟩:=qN6 rel h1;refine ⟨Ag[i].1,Ag[i].2,x.2.1,h1,?_,e2⟩;have h3:es[i]?=some (entryOfKey (qKU X.prog X.w) x):=by rw [<- Array.getElem?_toList,eq,List.getElem?_map,hx];rfl
 rw [Array.getElem?_eq_getElem hi] at h3;rw [Option.some.inj h3]
 rfl
theorem qNW {P:Program} {w:World} {K:PySem.W.Frag} {tg:Expr} (a it:Addr) (o:Obj) (Ag:List (List KI × V)) (ep:Nat) (es:_) (ho:o.data=.dict es ep):Turn P w K tg (ItT a o Ag) [it] it (fun i h=>qOO h it a i Ag.length ep) where
 mem:=by simp
 obj:=fun i h st b hb=>by
  have e:b=it:=by simpa using hb
  subst e;exact ⟨_,st,fun v z=>by cases z⟩
 keep:=fun i h h' st k=>k it (by simp) _ st
 item:=by
  intro X hP hw hK hc i Ab s σ H E I hf st hg;subst hP hw hK;obtain ⟨hi,hq⟩:=hg;obtain ⟨e1,e2,e3,es',ep',e4,e5,get⟩:=I.heldT hq;rw [ho] at e4;cases e4;obtain ⟨f0,f1,f2,f3,f4,f5⟩:=hf it (by simp)
  rw [<- e5] at st;have hi2:i<es.size:=by lia
  obtain ⟨k,v,r,g1,g2,g3⟩:=get i hi2;refine qLG st e1 ho hi2 fun h' hit' hs'=>?_;have I1:Inv X Ab σ H { s with heap:=h' }:=I.turned (t':=s.toks) (fun b o hb e=>(hs'.2 b hb).trans e) f0 f1 f3 f4 f5;rw [e5] at hit';rw [g2];exact ⟨.ref r,rfl,qSG (s:={ s with heap:=h' }) hit' rfl rfl (by decide) ⟨.ref r,H,I1,rfl,⟨rfl,k,v,r,g1,rfl,g3⟩,hit',fun b hb=>(hf b hb).1⟩⟩
 done:=by
  intro X hP hw hK hc i Ab s σ H E I hf st hg;subst hP hw hK;obtain ⟨hi,hq⟩:=hg;obtain ⟨e1,e2,e3,es',ep',e4,e5,get⟩:=I.heldT hq;rw [ho] at e4;cases e4;obtain ⟨f0,f1,f2,f3,f4,f5⟩:=hf it (by simp)
  rw [<- e5] at st;exact qNK (I.ok.hd hc) st (by lia) e1 ho fun h' eb=>⟨rfl,I.turned (t':=s.toks) (fun b o hb e=>eb b o hb e) f0 f1 f3 f4 f5⟩
 self:=fun _ _ _ _ _ st h=>wpAny_pyIter_keyiter ⟨_,st,rfl,rfl⟩ h
def qWM (tl:TE):TI:=fun σ H R=>tl σ H fun x H1=>∃ a o Ag,x=.ref a/\H1 a=some (.frz o (.dT Ag))/\R (ItT a o Ag) H1
theorem qJI {l:Expr} {tl:TE} (hl:PE X l tl):PI X tg l (qWM tl):=by
 intro Ab s σ H R I h;refine thn (hl Ab s σ H _ I h) fun v s1 ⟨x,H1,I1,r1,q1⟩=>?_;obtain ⟨a,o,Ag,e,hq,q⟩:=q1;subst e;cases r1;obtain ⟨e1,e2,e3,es,ep,e4,e5,get⟩:=I1.heldT hq;refine qLF ⟨_,e1,e3⟩ e2 e1 e4 ?_;refine ⟨s1.heap.objs.size,[s1.heap.objs.size],_,_,H1,rfl,I1.kept (t':=s1.toks) fun b o e=>Heap.get?_push_of_some _ e,qNW a _ o Ag ep es e4,by rw [e5];exact Heap.get?_push_size _ rfl,fun b hb=>?_,q⟩
 have e:b=s1.heap.objs.size:=by simpa using hb
 subst e;exact I1.fpOk (Nat.le_refl _) (I1.hok.fresh (Nat.le_refl _))
end
theorem qJN {a:Addr} {o:Obj} {Ag:List (List KI × V)} {g:TG} {tc:TT} {te:TE} {Kf:Hp->Prop} {σ0:St} {H0:Hp} {p:Addr} (Pv:Nat->St->Hp->Prop) (h0:Pv 0 σ0 H0) (hl:∀ i σ H,i<=Ag.length->Pv i σ H->H a=some (.frz o (.dT Ag)))
  (hs:∀ i k v r σ H,Ag[i]?=some (k,v)->H r=some (.tup (k.map kI))->Pv i σ H->g (.ref r) σ H fun σ2 H2=>tc σ2 H2 fun b H3=>if b=true then te σ2 H3 fun y H4=>∃ ys,H4 p=some (.lst ys)/\ys.length<sizeLine/\Pv (i+1) σ2 (Ah H4 p (.lst (ys++[y]))) else Pv (i+1) σ2 H3)
  (hd:∀ σ H,Pv Ag.length σ H->Kf H) :
  LcG (ItT a o Ag) g tc te Kf σ0 H0 p:=by
 refine ⟨fun i m σ H=>m=Ag.length - i/\i<=Ag.length/\Pv i σ H,⟨Ag.length,by simp,Nat.zero_le _,h0⟩,?_⟩
 rintro i m σ H ⟨rfl,hi,q⟩;have hq:=hl i σ H hi q;by_cases hlt:i<Ag.length
 ·refine .inr ⟨⟨hlt,hq⟩,Pv (i+1),fun σ' H' p'=>⟨Ag.length - (i+1),by lia,rfl,hlt,p'⟩,fun x H' y=>?_⟩
  obtain ⟨e,k,v,r,e2,e3,e4⟩:=y;subst e e3;exact hs i k v r σ _ e2 e4 q
 ·have e:i=Ag.length:=by lia
  subst e;exact .inl ⟨⟨Nat.le_refl _,hq⟩,hd σ H q⟩
section
variable {X:Cx} {k v:Expr} {tk tv:TE} {pos:Pos}
def qTR (tk tv:TE):TE:=fun σ H Q=>∀ p,H p=none->tk σ (Ah H p (.dT [])) fun x H1=>tv σ H1 fun y H2=>H2 p=some (.dT [])/\∃ b ks,x=.ref b/\H2 b=some (.tup (ks.map kI))/\Q (.ref p) (Ah H2 p (.dT [(ks,y)]))
theorem qKN (hu:X.A.units+2<cLine) (hk:PE X k tk) (hv:PE X v tv):PE X (.Dict [some k] [v] pos) (qTR tk tv):=by
 intro Ab s σ H Q I q;have hn:=I.hok.fresh (Nat.le_refl s.heap.objs.size);have I1:=I.laid (a:=s.heap.objs.size) (o:=.dT []) (h':=s.heap.push { cls:=.type "dict",data:=.dict #[] }) (t':=s.toks) (fun _ _ q=>Heap.get?_push_of_some _ q) (Nat.le_refl _) (qSL s.heap I.big);rw [arm_eval_Dict,zip_pairTrees [some k] [v] X.env pos rfl rfl,dictDisplay_pairs _ (by intro z;cases z) (by show 1<17;decide)]
 apply wpAny_bind;apply wpAny_standAt;apply wpAny_bind;unfold subDict;apply wpAny_bind;refine wpAny_alloc ?_;apply wpAny_bind;apply wpAny_holding;rw [if_pos (show (pairTrees [some k] [v] X.env pos).length<=15 by show 1<=15;decide)]
 apply wpAny_bind;refine pairTrees_cons_walk (thn (hk Ab _ σ _ _ I1 (q _ hn)) fun u s1 ⟨x,H1,I2,rx,q1⟩=>thn (hv Ab _ σ _ _ I2 q1) fun r s2 ⟨y,H2,I3,ry,e,b,ks,ex,eb,q2⟩=>pairTrees_nil_walk ?_);subst ex;obtain rfl:u=Value.ref b:=rx;apply wpAny_holding;obtain ⟨z,hd,xs,rel,dd⟩:=qWS I3.hok e;have hz:xs.length<=sizeLine:=by rw [<- Paired.length rel];exact z
 apply wpAny_bind;simp only [List.forIn_cons,List.forIn_nil];apply wpAny_bind;apply wpAny_bind;refine wpAny_dictSet_heap (knd:=qKU X.prog X.w) (hsz:=hz) ?_ (qL0 I3.hok eb) dd fun h' dd' hs=>?_
 ·exact Nat.lt_of_succ_lt hu
 apply wpAny_pure;apply wpAny_pure;apply wpAny_pure;apply wpAny_pure;apply wpAny_pure;refine ⟨.ref s.heap.objs.size,_,?_,rfl,q2⟩;obtain ⟨o2,es,ep,hq,h2,h3,h4,_,h5⟩:=dd';refine qK4 I3 (by rw [e];exact True.intro) hs ⟨o2,hq⟩ ⟨Nat.le_trans (show 1<=2 by decide) (by decide),hd,_,(rel.put ks eb ry).keeps fun c ys ec=>?_,o2,es,ep,hq,h2,h3,h4,h5⟩
 rw [qA8 (qCR ec e (fun z=>nomatch z))];exact ec
end
end L2
namespace L2
open PySem PySem.Spec PyProof.Rows
theorem qR4 {p:Pos} {a b:Int} {c cv:Value}:∀ {l:List Value},TriplesOk l->codeAmong p (l++[rawInt a,rawInt b,c])=some cv->codeAmong p l=some cv\/cv=c:=by
 intro l h e
 fun_induction TriplesOk l with
 | case1=>
  simp only [List.nil_append,rawInt,codeAmong] at e
  split at e
  ·exact .inr (Option.some.inj e).symm
  ·cases e
 | case2 a' t b' u x rest ih=>
  simp only [List.cons_append,codeAmong] at e ⊢
  split at e
  ·rename_i hc
   rw [if_pos hc];exact .inl e
  ·rename_i hc
   rw [if_neg hc];exact ih h e
 | case3 l h1 h2=>exact h.elim
def BM (mg:Str->Option Value) (h:Heap):Prop:=∃ bm ob,mg "__builtins__" = some (.ref bm)/\bm ≠ builtinsNs/\h.get? bm=some ob/\ob.cls=.type "module"/\ob.dict=some builtinsNs/\ob.data=.plain
section
variable {X:Cx} {Ab:List (Addr × Obj)} {σ:St} {H:Hp} {s:Shared}
noncomputable abbrev lamO (X:Cx) (q:Str) (params:Arguments) (body:Expr) (scope:Scope) (cc:Addr) (ctv:Value):Obj:=
 { cls:=.type "function",data:=.func (PySem.W.kla_fn "<lambda>" q params body scope (qFO X.env scope.names []) ((X.mg "__name__").getD .none) (.ref cc) ctv) }
theorem qWQ {params:Arguments} {body:Expr} {scope:Scope} {pos:Pos} {c P:Addr} {q:Str} {Q:Value->Shared->Prop} {E:Value->Shared->Prop}
  (I:Inv X Ab σ H s) (hb:BM X.mg X.base) (hcode:X.env.code=.ref c) (C:PySem.W.CodeHd X.base c P) (hP:H P=some (.tbl (.tab q))) (hq:X.env.qual ++ "<lambda>" = q)
  (hfr:∀ x,(x,NameKind.free) ∈ scope.names->∃ c,X.env.cells.lookup x=some c) (hdef:defaultsOf params X.env=([],[]))
  (h:∀ (f cc:Addr) (ctv:Value) (s':Shared) (H':Hp),Inv X Ab σ H' s'->(∀ b o,H b=some o->H' b=some o)->H' cc=some (.tbl (.cod q))->
   s'.heap.get? f=some (lamO X q params body scope cc ctv)->s.heap.objs.size<=f->H' f=none->Q (.ref f) s') :
  wpAny (model X.prog X.w) X.A (eval (.Lambda params body scope pos) X.env) Q E s:=by
 obtain ⟨more,hPo,tr,ent⟩:=(show ObjOk X.prog X.w H s.heap P (.tbl (.tab q)) from I.hok P _ hP);have hg:s.heap.Ns mainGlobals X.mg:=I.ok.mod.glob.keeps I.bk;have nP:∀ b o,X.base.get? b=some o->b ≠ P:=fun b o e z=>by
  have:=(I.bs b o e).2;rw [z,hP] at this;cases this
 have hgP:mainGlobals ≠ P:=by
  obtain ⟨o,es,ep,e,_⟩:=I.ok.mod.glob;exact nP _ _ e
 have hbP:s.heap.BuiltinsAt X.mg P:=by
  obtain ⟨bm,ob,b1,b2,b3,b4,b5,b6⟩:=hb;refine ⟨bm,ob,b1,b2,?_,nP _ _ b3,I.bk _ _ b3,b4,b5,b6⟩;rintro rfl;obtain ⟨o,es,ep,e,hd,_⟩:=I.ok.mod.glob;rw [e] at b3;cases b3;rw [hd] at b6;cases b6
 refine PySem.W.kla_eval hdef ?_;rw [hq];cases hca:codeAmong pos more.toList with
 | some cv=>
  obtain ⟨cc,rfl,hcc⟩:=ent pos cv hca;refine PySem.W.kla_makeFunctionHit (qG4 hfr) I.ok.glob hg hcode (C.keeps I.bk) hPo tr hca hbP fun ctv h' tk hk hsz=>?_;exact h h'.objs.size cc ctv _ H (I.kept (t':=tk) fun b u e=>Heap.get?_push_of_some _ (hk b u e)) (fun _ _ z=>z) hcc (Heap.get?_push_size _ rfl) hsz (I.hok.fresh hsz)
 | none=>
  refine PySem.W.kla_makeFunction (qG4 hfr) I.ok.glob hg hcode (C.keeps I.bk) hPo tr hca hgP hbP fun c' ctv h' tk hx hge hlt hrec htb=>?_;have hc0:H c'=none:=I.hok.fresh hge;have up:∀ b o,H b=some o->(Ah H c' (.tbl (.cod q))) b=some o:=fun b o e=>by rw [qA8 (qA5 e hc0)];exact e
  have neP:∀ b,H b=none->b ≠ P:=fun b n z=>by rw [z,hP] at n;cases n
  have I':Inv X Ab σ (Ah H c' (.tbl (.cod q))) { s with heap:=h'.push (lamO X q params body scope c' ctv),toks:=tk }:=by
   refine I.step (g':=s.gens) (d':=s.drawn) (ch:=[]) (fun _ z=>nomatch z) (fun b o _ _ _ e n=>Heap.get?_push_of_some _ (hx b o (neP b n) e)) (fun b o _ _ _ e n=>⟨o.slots,Heap.get?_push_of_some _ (hx b o (neP b n) e)⟩)
    (fun b o _ e n=>by rw [qA8 (Nat.ne_of_lt (Nat.lt_of_lt_of_le (Heap.lt_size e) hge))];exact n) (fun b o _ e=>?_) (fun b xs e=>up _ _ e) (fun b o u e=>up _ _ e) (fun b t e=>up _ _ e) (fun m hm=>(hm.extBut hx (neP _ I.free)).push _) (fun b u e=>?_) I.bare
   ·by_cases hb':b=P
    ·exact ⟨_,Heap.get?_push_of_some _ (hb' ▸ htb)⟩
    ·exact ⟨o,Heap.get?_push_of_some _ (hx b o hb' e)⟩
   ·by_cases hbc:b=c'
    ·subst hbc;rw [qA1] at e;cases e;obtain ⟨c₂,oc,vs,t,e2,hoc,r⟩:=hrec;cases e2;exact ⟨b,oc,vs,t,rfl,Heap.get?_push_of_some _ hoc,r⟩
    ·rw [qA8 hbc] at e;by_cases hb':b=P
     ·subst hb';rw [hP] at e;cases e;refine ⟨_,Heap.get?_push_of_some _ htb,?_,fun pos' cv z=>?_⟩
      ·rw [Array.toList_append];exact TriplesOk_snoc _ _ _ _ tr
      ·rw [Array.toList_append] at z;rcases qR4 tr z with z | z
       ·obtain ⟨c2,e1,e2⟩:=ent pos' cv z;exact ⟨c2,e1,up _ _ e2⟩
       ·exact ⟨c',z,qA1⟩
     ·refine (I.hok b u e).stay (fun c2 v hc2 z=>Heap.get?_push_of_some _ (hx c2 v ?_ z)) (fun c2 z=>up _ _ z) (fun c2 xs z=>up _ _ z) fun c2 t z=>up _ _ z;rcases hc2 with z | z
      ·rw [z];exact hb'
      ·intro z2;rw [z2,hP] at z;cases z
  exact h h'.objs.size c' ctv _ _ I' up qA1 (Heap.get?_push_size _ rfl) (by lia) (by rw [qA8 (Nat.ne_of_gt hlt)];exact I.hok.fresh (by lia))
structure LmScope (X:Cx) (scope:Scope) (p:Str) (fv:List Nat):Prop where
 kind:scope.kind=.function
 co:scope.isCoroutine=false
 gen:scope.isGenerator=false
 nocell:∀ y ∈ scope.names,y.2 ≠ .cell
 par:scope.names.lookup p=some .local
 free:∀ y ∈ scope.names,y.2=.free->X.env.kindOf y.1=some .cell\/X.env.kindOf y.1=some .free
 fvs:∀ i ∈ fv,i<X.N.length/\scope.names.lookup (X.N.getD i Str.empty)=some .free
structure LmZ where
 A:Around
 f:Addr
 cd:Value
 s₀:Shared
 H₀:Hp
 rm:Room 0 A
noncomputable abbrev lmEnv (X:Cx) (scope:Scope) (q:Str) (z:LmZ):Env:=PySem.W.envX q scope z.s₀.heap.objs.size z.f z.cd (qFO X.env scope.names [])
noncomputable def lmCx (X:Cx) (scope:Scope) (p:Str) (fv:List Nat) (q:Str) (z:LmZ):Cx where
 prog:=X.prog
 w:=X.w
 K:=X.K
 mg:=X.mg
 base:=X.base
 A:=z.A.deeper (lmEnv X scope q z)
 N:=p::fv.map fun i=>X.N.getD i Str.empty
 s₀:=z.s₀
 H₀:=z.H₀
 env:=lmEnv X scope q z
 outer:=X.stack
 stack:=lmEnv X scope q z::X.stack
 ex:=[]
 fn:=fun _=>false
 calm:=true
 pn:=[]
 xe:=noX
theorem LmScope.fr {scope:Scope} {p:Str} {fv:List Nat} (S:LmScope X scope p fv) (I:Inv X Ab σ H s):∀ x,(x,NameKind.free) ∈ scope.names->∃ c,X.env.cells.lookup x=some c:=fun x hx=>I.ok.has x (S.free _ hx rfl)
theorem qXS {scope:Scope} {p:Str} {fv:List Nat} {q:Str} {A:Around} {f:Addr} {cd:Value} (rm:Room 0 A) (I:Inv X Ab σ H s) (S:LmScope X scope p fv) (hA:A.frames=some X.stack) :
  (lmCx X scope p fv q ⟨A,f,cd,s,H,rm⟩).Ok:=by
 have hfr:=S.fr I;have sub:=qE7 (env:=X.env) (names:=scope.names) (acc:=[]) hfr (fun x c z=>by simp at z)
 have noA:∀ b:Addr,b ∉ (lmCx X scope p fv q ⟨A,f,cd,s,H,rm⟩).ex:=fun b z=>absurd (show b ∈ ([]:List Addr) from z) (by simp)
 refine ⟨I.ok.mod,S.kind,rfl,rfl,Nat.le_refl _,fun x y c h1 h2=>I.ok.inj x y c (sub _ _ h1) (sub _ _ h2),fun x hx=>?_,fun x c hx=>(nomatch hx),fun _=>rm.hd,Around.frames_deeper hA,.inr ⟨rfl,rfl⟩,fun b z=>absurd z (noA b),I.bs,Nat.le_trans I.ok.bsz I.sz,fun b _ _=>noA b,fun b z=>absurd z (noA b),I.stack,I.stkFree⟩;have hx':scope.names.lookup x=some .cell\/scope.names.lookup x=some .free:=hx;rcases hx' with z | z
 ·exact absurd rfl (S.nocell _ (PySem.mem_of_lookup z))
 ·exact qE8 (.inl (PySem.mem_of_lookup z))
noncomputable def qG0 (fv:List Nat) (σ:St) (x:V):St:=some x::fv.map fun i=>(σ[i]?).join
theorem qS2 {scope:Scope} {p:Str} {fv:List Nat} {q:Str} {A:Around} {f:Addr} {cd:Value} {x:V} {u:Value} {h₁:Heap} {tk:Nat} (rm:Room 0 A) (I:Inv X Ab σ H s) (S:LmScope X scope p fv) (hA:A.frames=some X.stack) (hx:RelV x u)
  (hns:h₁.Ns s.heap.objs.size (fun y=>[(p,u)].reverse.lookup y)) (hk:∀ b o,s.heap.get? b=some o->h₁.get? b=some o) :
  Inv (lmCx X scope p fv q ⟨A,f,cd,s,H,rm⟩) [] (qG0 fv σ x) H { s with heap:=h₁,toks:=tk }:=by
 have hfr:=S.fr I;have sub:=qE7 (env:=X.env) (names:=scope.names) (acc:=[]) hfr (fun x c z=>by simp at z)
 refine ⟨qXS rm I S hA,rfl,I.bare,Un.kept hk,⟨_,hns,fun i y v h1 h2 h3=>?_⟩,fun y c e=>?_,I.hok.fresh (Nat.le_refl _),fun y c e=>I.freeC y c (sub _ _ e),fun p hp=>absurd (show p ∈ ([]:List (Addr × Obj)) from hp) (by simp),I.hok.kept hk,?_⟩
 ·have h1:(p::fv.map fun i=>X.N.getD i Str.empty)[i]?=some y:=h1;unfold qG0 at h2;cases i with
  | zero=>
   cases h1;cases h2;refine ⟨u,hx,.inl ⟨S.par,?_⟩⟩;simp
  | succ i=>
   rw [List.getElem?_cons_succ,List.getElem?_map] at h1 h2;cases e:fv[i]? with
   | none=>rw [e] at h1;cases h1
   | some j=>
    rw [e] at h1 h2;have hj:=S.fvs j (List.mem_of_getElem? e);have h1:X.N.getD j Str.empty=y:=Option.some.inj h1;have h2:(σ[j]?).join=some v:=Option.some.inj h2;have h2':σ[j]?=some (some v):=by
     cases q:σ[j]? with
     | none=>rw [q] at h2;cases h2
     | some y=>rw [q] at h2;exact congrArg some h2
    have hxn:X.N[j]?=some y:=by
     rw [List.getD_eq_getElem?_getD] at h1;rw [List.getElem?_eq_getElem hj.1] at h1 ⊢;exact congrArg some h1
    have hlk:scope.names.lookup y=some .free:=h1 ▸ hj.2;have hmem:=PySem.mem_of_lookup hlk;obtain ⟨m,hn,hl⟩:=id I.loc;have hkd:=S.free _ hmem rfl;obtain ⟨u,ru,lk⟩:=hl j y v hxn h2' (by
     rcases hkd with z | z
     ·exact .inr (.inl z)
     ·exact .inr (.inr z))
    refine ⟨u,ru,?_⟩;rcases lk with ⟨z,_⟩ | ⟨_,c,e1,z⟩
    ·rcases hkd with y' | y'
     ·have y':X.env.kindOf y=some .cell:=y';rw [z] at y';cases y'
     ·have y':X.env.kindOf y=some .free:=y';rw [z] at y';cases y'
    ·obtain ⟨c',e2⟩:=qE8 (env:=X.env) (names:=scope.names) (acc:=[]) (x:=y) (.inl hmem);have e3:=sub _ _ e2;rw [e1] at e3;cases e3;obtain ⟨o,ho,hd⟩:=z;exact .inr ⟨.inr hlk,c,e2,o,hk _ _ ho,hd⟩
 ·obtain ⟨v,o,ho,hd⟩:=I.cell y c (sub _ _ e);exact ⟨v,o,hk _ _ ho,hd⟩
 ·unfold qG0;show _=(p::fv.map fun i=>X.N.getD i Str.empty).length;simp
theorem qS4 {params:Arguments} {body:Expr} {scope:Scope} {p:Str} {fv:List Nat} {q:Str} {A:Around} {f cc:Addr} {ctv u:Value} {x:V} {te:TE} {Q:VK} (rm:Room 0 A) (I:Inv X Ab σ H s) (S:LmScope X scope p fv) (hA:A.frames=some X.stack)
  (hf:s.heap.get? f=some (lamO X q params body scope cc ctv)) (hcc:H cc=some (.tbl (.cod q))) (hx:RelV x u)
  (hbind:∀ (cl:List (Str × Addr)) (pm cd ct u:Value),bindArgs (PySem.W.kla_fn "<lambda>" q params body scope cl pm cd ct) ⟨[u],[]⟩=pure [(p,u)])
  (he:∀ z,PE (lmCx X scope p fv q z) body te) (h:te (qG0 fv σ x) H Q) :
  codeAny (model X.prog X.w) A (.call (.ref f) ⟨[u],[]⟩) (fun r s'=>∃ v y H',r=.ok (.ret v)/\Inv X Ab σ H' s'/\RelV y v/\Q y H'/\Un (frs X.stack) [] H H' s.heap s'.heap) s:=by
 have hrec:s.heap.CodeRec (.ref cc) q:=(show ObjOk X.prog X.w H s.heap cc (.tbl (.cod q)) from I.hok cc _ hcc);refine PySem.W.kla_callFunE rm.depth hf rfl S.co S.gen rfl hrec ?_;rw [hbind];refine wpAny_pure (wpAny_newFunctionEnv S.nocell (fun y hy=>?_) (fun h₁ hns hsb=>⟨I.nolimit.fresh _ hsb,?_⟩) S.kind)
 ·rw [List.mem_singleton.mp hy];exact S.par
 have hk₁:∀ b o,s.heap.get? b=some o->h₁.get? b=some o:=fun b o e=>hsb.extBut b o (Nat.ne_of_lt (Heap.lt_size e)) (Heap.get?_push_of_some _ e);refine PySem.W.kla_codeExpr ?_;have J:=qS2 (q:=q) (f:=f) (cd:=.ref cc) (tk:=s.toks+[(p,u)].length) rm I S hA hx hns hk₁;refine wpAny_mono ((he ⟨A,f,.ref cc,s,H,rm⟩) [] _ _ H Q J h) (fun v s' ⟨y,H',J',ry,qy⟩=>?_) fun _ _ z=>z.elim;exact ⟨v,y,H',rfl,I.call' (ch:=[]) J'.os J'.base J'.hok J'.bare (fun b hb=>absurd hb (by simp)),ry,qy,J'.base⟩
end
end L2
namespace L2
open PySem PySem.Spec PyProof.Rows
abbrev Sm0 (H H':Hp):Prop:=∀ b o,H b=some o->H' b=some o
section
variable {X:Cx}
noncomputable def LamF (X:Cx) (q:Str) (params:Arguments) (body:Expr) (scope:Scope) (cc:Addr) (ctv:Value) (f:Addr):HO:=.ext fun h=>h.get? f=some (lamO X q params body scope cc ctv)
def tLam (X:Cx) (P:Addr) (q:Str) (params:Arguments) (body:Expr) (scope:Scope):TE:=fun σ H Q=>H P=some (.tbl (.tab q))/\
 ∀ f cc ctv H',Sm0 H H'->H f=none->H' f=some (LamF X q params body scope cc ctv f)->H' cc=some (.tbl (.cod q))->Q (.ref f) H'
theorem qVX {params:Arguments} {body:Expr} {scope:Scope} {pos:Pos} {c P:Addr} {q:Str} {p:Str} {fv:List Nat} (hb:BM X.mg X.base) (hcode:X.env.code=.ref c) (C:PySem.W.CodeHd X.base c P) (hq:X.env.qual ++ "<lambda>" = q)
  (S:LmScope X scope p fv) (hdef:defaultsOf params X.env=([],[])):PE X (.Lambda params body scope pos) (tLam X P q params body scope):=by
 intro Ab s σ H Q I ⟨hP,h⟩;refine qWQ I hb hcode C hP hq (S.fr I) hdef fun f cc ctv s' H' I' sm hcc hf hsz hn=>?_;have hf0:H f=none:=I.hok.fresh hsz;have ncf:cc ≠ f:=qA5 hcc hn
 -- f is tracked from now on
 have hF:X.s₀.heap.objs.size<=f:=Nat.le_trans I.sz hsz;have I2:Inv X Ab σ (Ah H' f (LamF X q params body scope cc ctv f)) s':=by
  refine I'.track hn hF (Nat.ne_of_gt (Nat.lt_of_lt_of_le I.lt hsz)) (fun x c e z=>?_) (fun p hp z=>?_) ⟨hf,⟨_,hf⟩,fun h1 h2 x k=>k _ x⟩
  ·obtain ⟨v,hc⟩:=I.cell x c e;exact absurd (Nat.lt_of_lt_of_le hc.lt (by rw [z];exact hsz)) (Nat.lt_irrefl _)
  ·exact absurd (Nat.lt_of_lt_of_le (Heap.lt_size (I.pin p hp).1) (by rw [z];exact hsz)) (Nat.lt_irrefl _)
 refine ⟨.ref f,_,I2,rfl,h f cc ctv _ (fun b o e=>?_) hf0 qA1 (by rw [qA8 ncf];exact hcc)⟩
 rw [qA8 (qA5 e hf0)];exact sm b o e
noncomputable def qDX {α:Type}:α × List Int->List (α × List Int)->α
 | b,[]=>b.1
 | b,x::r=>if HT.lexLt x.2 b.2=true then qDX x r else qDX b r
structure KCmp (X:Cx) (KR:Hp->V->List Int->Prop):Prop where
 mono:∀ H H' y k,Sm0 H H'->KR H y k->KR H' y k
 cmp:∀ (Ab:List (Addr × Obj)) (σ:St) (s:Shared) (H:Hp) (y y':V) (u u':Value) (k k':List Int) (Q:Value->Shared->Prop) (E:Value->Shared->Prop),Inv X Ab σ H s->RelV y u->RelV y' u'->KR H y k->KR H y' k'->Q (.bool (HT.lexLt k k')) s->
  wpAny (model X.prog X.w) X.A.in1 (richCompare .Lt u u') Q E s
theorem Inv.fpStk {Ab:List (Addr × Obj)} {σ:St} {H:Hp} {s:Shared} {b:Addr} (I:Inv X Ab σ H s) (f:FpOk X Ab H b):b ∉ frs X.stack:=fun z=>by
 rcases List.mem_cons.mp (I.stkSub b z) with e | e
 ·exact f.2.1 e
 ·exact f.2.2.1 e
theorem FpOk.to {Ab:List (Addr × Obj)} {H H':Hp} {b:Addr} (f:FpOk X Ab H b) (h:H' b=none):FpOk X Ab H' b:=⟨h,f.2⟩
structure KeyAt (X:Cx) (σ:St) (fv:List Nat) (te:TE) (KR:Hp->V->List Int->Prop) (H0:Hp) (xs:List V) (ks:List (List Int)):Prop where
 len:ks.length=xs.length
 key:∀ (i:Nat) (x:V) (k:List Int),xs[i]?=some x->ks[i]?=some k->∀ Hc,Sm0 H0 Hc->te (qG0 fv σ x) Hc fun y H'=>Sm0 Hc H'/\KR H' y k
section
variable {Ab:List (Addr × Obj)} {σ:St} {params:Arguments} {body:Expr} {scope:Scope} {p:Str} {fv:List Nat} {q:Str} {te:TE} {KR:Hp->V->List Int->Prop} {l f cc:Addr} {ctv:Value} {H0:Hp} {xs:List V} {ks:List (List Int)} {Q:VK}
theorem qQ3 {s:Shared} {H:Hp} {it S:Addr} {i:Nat} {x:V} {k:List Int} {u:Value} (rm:Room 1 X.A) (hA:X.A.in1.frames=some X.stack) (S':LmScope X scope p fv) (hbind:∀ (cl:List (Str × Addr)) (pm cd ct u:Value),bindArgs (PySem.W.kla_fn "<lambda>" q params body scope cl pm cd ct) ⟨[u],[]⟩=pure [(p,u)])
  (he:∀ z,PE (lmCx X scope p fv q z) body te) (KA:KeyAt X σ fv te KR H0 xs ks) (hf:H0 f=some (LamF X q params body scope cc ctv f)) (hcc:H0 cc=some (.tbl (.cod q)))
  (I:Inv X Ab σ H s) (sm:Sm0 H0 H) (hx:xs[i]?=some x) (hk:ks[i]?=some k) (rx:RelV x u) (fi:FpOk X Ab H it) (fS:FpOk X Ab H S) {oi oS:Obj} (gi:s.heap.get? it=some oi) (gS:s.heap.get? S=some oS) {Q':Value->Shared->Prop} {E:Value->Shared->Prop}
  (h:∀ v y H' s',Inv X Ab σ H' s'->Sm0 H H'->RelV y v->KR H' y k->FpOk X Ab H' it->FpOk X Ab H' S->s'.heap.get? it=some oi->s'.heap.get? S=some oS->Q' v s'):wpAny (model X.prog X.w) X.A.in1 (call (.ref f) [u]) Q' E s:=by
 have gf:s.heap.get? f=some (lamO X q params body scope cc ctv):=(show ObjOk X.prog X.w H s.heap f (LamF X q params body scope cc ctv f) from I.hok f _ (sm _ _ hf)).1;refine wpAny_call (codeAny_mono (qS4 rm.in1 I S' hA gf (sm _ _ hcc) rx hbind he (KA.key i x k hx hk H sm)) fun r s' ⟨v,y,H',e,I',ry,⟨sm',kr⟩,un⟩=>?_);subst e;exact h v y H' s' I' sm' ry kr (fi.to (un.free it oi gi fi.1 (by simp))) (fS.to (un.free S oS gS fS.1 (by simp))) (un.keep it oi gi fi.1 (I.fpStk fi) (by simp)) (un.keep S oS gS fS.1 (I.fpStk fS) (by simp))
theorem qOB {it S:Addr} {kw:List (Str × Value)} (hc:X.calm=true) (rm:Room 1 X.A) (hA:X.A.in1.frames=some X.stack) (S':LmScope X scope p fv) (hbind:∀ (cl:List (Str × Addr)) (pm cd ct u:Value),bindArgs (PySem.W.kla_fn "<lambda>" q params body scope cl pm cd ct) ⟨[u],[]⟩=pure [(p,u)])
  (he:∀ z,PE (lmCx X scope p fv q z) body te) (KC:KCmp X KR) (KA:KeyAt X σ fv te KR H0 xs ks) (hf:H0 f=some (LamF X q params body scope cc ctv f)) (hcc:H0 cc=some (.tbl (.cod q))) (hl:SqL X.K H0 l xs) (hiS:it ≠ S)
  (lsame:∀ H',Sm0 H0 H'->SqL X.K H' l xs) :
  ∀ (k j:Nat) (s:Shared) (H:Hp) (bx y:V) (bk:List Int) (bu bv:Value) (c:Nat),xs.length - j=k->j<=xs.length->Inv X Ab σ H s->Sm0 H0 H->FpOk X Ab H it->FpOk X Ab H S->s.heap.IsListIter it l j->
   s.heap.get? S=some { cls:=.type "list",dict:=none,data:=.seq #[bu,bv] c,slots:=#[] }->RelV bx bu->RelV y bv->KR H y bk->(∀ H',Sm0 H0 H'->Q (qDX (bx,bk) ((xs.zip ks).drop j)) H')->
   codeAny (model X.prog X.w) X.A (.builtin "min.loop" ⟨[.ref it,.ref f,.ref S],kw⟩) (fun r s'=>∃ v,r=.ok (.ret v)/\EP X Ab σ Q v s') s:=by
 have hname:(toString "min" ++ toString ".loop" : String) = "min.loop":=by decide
 intro k
 induction k with
 | zero=>
  intro j s H bx y bk bu bv c hk hj I sm fi fS hit hS rb ry kb hQ;obtain ⟨its,rv,pl,hz⟩:=I.list (lsame H sm);have hlen:=rv.length;refine codeAny_builtin PySem.F.entry_min_loop ?_;rw [Around.under_plainId PySem.F.plain_min_loop _];show wpAny _ X.A.in1 (seqItems? (.ref S) >>= _) _ _ s;refine wpAny_bind (wpAny_seqItems hS rfl ?_);show wpAny _ X.A.in1 (tryCatch (pyNext (.ref it)) _ >>= _) _ _ s;refine wpAny_bind (wpAny_tryCatch (wpAny_pyNext_list_end (rm.in1.hd) hit pl.isList (by simp;lia) fun h' eb=>?_))
  have I1:Inv X Ab σ H { s with heap:=h' }:=I.turned (t':=s.toks) (fun b o hb e=>eb b o hb e) fi.1 fi.2.1 fi.2.2.2.1 fi.2.2.2.2.1 fi.2.2.2.2.2;have hS':=eb S _ (Ne.symm hiS) hS;show wpAny _ X.A.in1 (updateSeq S (fun _=>#[]) >>= _) _ _ _;refine wpAny_bind (wpAny_updateSeq hS' rfl (wpAny_bind (wpAny_letGo (wpAny_pure ?_))));have I2:Inv X Ab σ H { s with heap:=h'.update S (Obj.mapSeq fun _=>(#[]:Array Value)) }:=I1.turned (t':=s.toks) (fun b o hb e=>(Heap.get?_update_other _ _ (Ne.symm hb)).trans e) fS.1 fS.2.1 fS.2.2.2.1 fS.2.2.2.2.1 fS.2.2.2.2.2;have hq:=hQ H sm;rw [List.drop_of_length_le (by rw [List.length_zip,KA.len];lia)] at hq
  exact ⟨_,rfl,bx,H,I2,rb,hq⟩
 | succ k ih=>
  intro j s H bx y bk bu bv c hk hj I sm fi fS hit hS rb ry kb hQ;have hlt:j<xs.length:=by lia
  obtain ⟨its,rv,pl,hz⟩:=I.list (lsame H sm);have hxj:=List.getElem?_eq_getElem hlt;have hkj:=List.getElem?_eq_getElem (show j<ks.length by rw [KA.len];exact hlt)
  have ez:(xs.zip ks).drop j=(xs[j],ks[j]'(by rw [KA.len];exact hlt))::(xs.zip ks).drop (j+1):=by
   rw [List.drop_eq_getElem_cons (by rw [List.length_zip,KA.len];lia),List.getElem_zip]
  rw [ez] at hQ;generalize xs[j]=x at hxj hQ;generalize ks[j]'(by rw [KA.len];exact hlt)=kx at hkj hQ
  obtain ⟨u,hu,ru⟩:=rv.get hxj;refine codeAny_builtin PySem.F.entry_min_loop ?_;rw [Around.under_plainId PySem.F.plain_min_loop _];show wpAny _ X.A.in1 (seqItems? (.ref S) >>= _) _ _ s;refine wpAny_bind (wpAny_seqItems hS rfl ?_);show wpAny _ X.A.in1 (tryCatch (pyNext (.ref it)) _ >>= _) _ _ s;refine wpAny_bind (wpAny_tryCatch (wpAny_pyNext_list_item hit pl.isList (x:=u) (by simpa using hu) fun h' st' sb=>?_))
  have I1:Inv X Ab σ H { s with heap:=h' }:=I.turned (t':=s.toks) (fun b o hb e=>(sb.2 b hb).trans e) fi.1 fi.2.1 fi.2.2.2.1 fi.2.2.2.2.1 fi.2.2.2.2.2;have hS1:=(sb.2 S (Ne.symm hiS)).trans hS;obtain ⟨oi,hoi,hoc,hod⟩:=id st';show wpAny _ X.A.in1 (tryCatch (holding [u] (call (.ref f) [u])) _ >>= _) _ _ _;refine wpAny_bind (wpAny_tryCatch (wpAny_holding (qQ3 rm hA S' hbind he KA hf hcc I1 sm hxj hkj ru fi fS hoi hS1 fun v y2 H2 s2 I2 sm2 r2 k2 fi2 fS2 gi2 gS2=>?_)));have hit2:s2.heap.IsListIter it l (j+1):=⟨oi,gi2,hoc,hod⟩;show wpAny _ X.A.in1 (tryCatch (holding [u,v] (richCompare .Lt v bv >>= _)) _ >>= _) _ _ _;refine wpAny_bind (wpAny_tryCatch (wpAny_holding (wpAny_bind (KC.cmp Ab σ s2 H2 y2 y v bv kx bk _ _ I2 r2 ry k2 (KC.mono _ _ _ _ sm2 kb) ?_))));refine wpAny_bind (wpAny_holding (wpAny_truthy_bool (wpAny_bind (wpAny_letGo (wpAny_pure ?_)))));have sm3:Sm0 H0 H2:=fun b o e=>sm2 b o (sm b o e);cases hb:HT.lexLt kx bk with
  | true=>
   rw [if_pos rfl];have et:qDX (bx,bk) ((x,kx)::(xs.zip ks).drop (j+1))=qDX (x,kx) ((xs.zip ks).drop (j+1)):=by show (if HT.lexLt kx bk=true then _ else _)=_;rw [hb];rfl
   rw [et] at hQ;refine wpAny_bind (wpAny_updateSeq gS2 rfl (wpAny_bind (wpAny_letGo ?_)));rw [hname];have I3:Inv X Ab σ H2 { s2 with heap:=s2.heap.update S (Obj.mapSeq fun _=>#[u,v]) }:=I2.turned (t':=s2.toks) (fun b o hb e=>(Heap.get?_update_other _ _ (Ne.symm hb)).trans e) fS2.1 fS2.2.1 fS2.2.2.2.1 fS2.2.2.2.2.1 fS2.2.2.2.2.2;exact wpAny_pure ⟨plainId_quiet PySem.F.plain_min_loop _,ih (j+1) _ H2 x y2 kx u v _ (by lia) hlt I3 sm3 fi2 fS2 ⟨oi,(Heap.get?_update_other _ _ (Ne.symm hiS)).trans gi2,hoc,hod⟩ (Heap.get?_update_self _ gS2 rfl) ru r2 k2 hQ⟩
  | false=>
   rw [if_neg Bool.false_ne_true];have et:qDX (bx,bk) ((x,kx)::(xs.zip ks).drop (j+1))=qDX (bx,bk) ((xs.zip ks).drop (j+1)):=by show (if HT.lexLt kx bk=true then _ else _)=_;rw [hb];rfl
   rw [et] at hQ;refine wpAny_bind (wpAny_letGo ?_);rw [hname];exact wpAny_pure ⟨plainId_quiet PySem.F.plain_min_loop _,ih (j+1) s2 H2 bx y bk bu bv c (by lia) hlt I2 sm3 fi2 fS2 hit2 gS2 rb ry (KC.mono _ _ _ _ sm2 kb) hQ⟩
noncomputable def qVR (dv:Option V):List (V × List Int)->Option V
 | []=>dv
 | b::r=>some (qDX b r)
theorem qMC {s:Shared} {H:Hp} {kw:List (Str × Value)} (hc:X.calm=true) (rm:Room 1 X.A) (hA:X.A.in1.frames=some X.stack) (S':LmScope X scope p fv) (hbind:∀ (cl:List (Str × Addr)) (pm cd ct u:Value),bindArgs (PySem.W.kla_fn "<lambda>" q params body scope cl pm cd ct) ⟨[u],[]⟩=pure [(p,u)])
  (he:∀ z,PE (lmCx X scope p fv q z) body te) (KC:KCmp X KR) (KA:KeyAt X σ fv te KR H xs ks) (hf:H f=some (LamF X q params body scope cc ctv f)) (hcc:H cc=some (.tbl (.cod q))) (hl:SqL X.K H l xs)
  (lsame:∀ H',Sm0 H H'->SqL X.K H' l xs) (I:Inv X Ab σ H s)
  (ok:argsOk "min" ⟨[.ref l],kw⟩) (df:Option Value) (hb:Builtin.Builtins.bindParams "min" ["key","default"] 0 ⟨[],kw⟩=pure [some (.ref f),df]) (dv:Option V) (hdf:df=none/\dv=none\/∃ d u,df=some u/\dv=some d/\RelV d u)
  (m:V) (em:qVR dv (xs.zip ks)=some m) (hQ:∀ H',Sm0 H H'->Q m H'):wpAny (model X.prog X.w) X.A (call (.builtin "min") [.ref l] kw) (EP X Ab σ Q) X.xe s:=by
 obtain ⟨its,rv,pl,hz⟩:=I.list hl;have hls:=pl.isList;have hlt:l<s.heap.objs.size:=by obtain ⟨_,e,_⟩:=hls;exact Heap.lt_size e
 have hname:(toString "min" ++ toString ".loop" : String) = "min.loop":=by decide
 refine qGE PySem.F.kind_min PySem.F.plain_min PySem.F.entry_min ok ?_;show wpAny _ _ (Builtin.Builtins.bindParams "min" ["key","default"] 0 ⟨[],kw⟩ >>= _) _ _ s;refine wpAny_bind (wpAny_of_eq hb ?_);refine wpAny_bind (wpAny_pure ?_);refine wpAny_bind (wpAny_pyIter_list hls ?_);refine wpAny_bind (wpAny_newObj_type ?_);rw [hname];refine wpAny_pure ⟨_,rfl,plainId_quiet PySem.F.plain_min_loop _,?_⟩;have hS:(s.heap.push { cls:=.type "list_iterator",data:=.fields #[.ref l,.int 0 0] }).objs.size=s.heap.objs.size+1:=Heap.size_push ..;have I0:Inv X Ab σ H { s with heap:=(s.heap.push { cls:=.type "list_iterator",data:=.fields #[.ref l,.int 0 0] }).push { cls:=.type "list",data:=.seq #[] } }:=I.kept (t':=s.toks) fun b o e=>Heap.get?_push_of_some _ (Heap.get?_push_of_some _ e);have fi:FpOk X Ab H s.heap.objs.size:=I.fpOk (Nat.le_refl _) (I.hok.fresh (Nat.le_refl _));have fS:FpOk X Ab H (s.heap.push { cls:=.type "list_iterator",data:=.fields #[.ref l,.int 0 0] }).objs.size:=by rw [hS];exact I.fpOk (Nat.le_succ _) (I.hok.fresh (Nat.le_succ _))
 have hiS:s.heap.objs.size ≠ (s.heap.push { cls:=.type "list_iterator",data:=.fields #[.ref l,.int 0 0] }).objs.size:=by rw [hS];exact (Nat.succ_ne_self _).symm
 have gi:((s.heap.push { cls:=.type "list_iterator",data:=.fields #[.ref l,.int 0 0] }).push { cls:=.type "list",data:=.seq #[] }).get? s.heap.objs.size=some { cls:=.type "list_iterator",data:=.fields #[.ref l,.int 0 0] }:=Heap.get?_push_of_some _ (Heap.get?_push_size _ rfl);have gS:((s.heap.push { cls:=.type "list_iterator",data:=.fields #[.ref l,.int 0 0] }).push { cls:=.type "list",data:=.seq #[] }).get? (s.heap.push { cls:=.type "list_iterator",data:=.fields #[.ref l,.int 0 0] }).objs.size=some { cls:=.type "list",data:=.seq #[] }:=Heap.get?_push_size _ rfl;have hls1:=(hls.push { cls:=.type "list_iterator",data:=.fields #[.ref l,.int 0 0] }).push { cls:=.type "list",data:=.seq #[] };generalize (s.heap.push { cls:=.type "list_iterator",data:=.fields #[.ref l,.int 0 0] }).push { cls:=.type "list",data:=.seq #[] }=h0 at I0 gi gS hls1;generalize (s.heap.push { cls:=.type "list_iterator",data:=.fields #[.ref l,.int 0 0] }).objs.size=S at fS hiS gS ⊢;generalize s.heap.objs.size=it at fi hiS gi ⊢;refine codeAny_builtin PySem.F.entry_min_loop ?_;rw [Around.under_plainId PySem.F.plain_min_loop _];show wpAny _ X.A.in1 (seqItems? (.ref S) >>= _) _ _ _;refine wpAny_bind (wpAny_seqItems gS rfl ?_);show wpAny _ X.A.in1 (tryCatch (pyNext (.ref it)) _ >>= _) _ _ _;have hit:h0.IsListIter it l 0:=⟨_,gi,rfl,rfl⟩;cases xs with
 | nil=>
  have ek:ks=[]:=List.length_eq_zero_iff.mp KA.len;subst ek;have em':dv=some m:=em;cases rv;refine wpAny_bind (wpAny_tryCatch (wpAny_pyNext_list_end (s:={ s with heap:=h0 }) (rm.in1.hd) hit hls1 (by simp) fun h' eb=>?_))
  rcases hdf with ⟨_,e2⟩ | ⟨d,u,rfl,e3,rd⟩
  ·rw [e2] at em';cases em'
  ·rw [e3] at em';cases em';show wpAny _ X.A.in1 (rule _ >>= fun _=>ret u) _ _ _;have I1:Inv X Ab σ H { s with heap:=h' }:=I0.turned (t':=s.toks) (fun b o hb e=>eb b o hb e) fi.1 fi.2.1 fi.2.2.2.1 fi.2.2.2.2.1 fi.2.2.2.2.2;exact wpAny_bind (wpAny_rule (wpAny_pure ⟨u,rfl,_,H,I1,rd,hQ H fun _ _ z=>z⟩))
 | cons x xs=>
  cases ks with
  | nil=>have:=KA.len;simp at this
  | cons k ks=>
   cases em;obtain ⟨u,hu,ru⟩:=rv.get (i:=0) rfl;refine wpAny_bind (wpAny_tryCatch (wpAny_pyNext_list_item (s:={ s with heap:=h0 }) hit hls1 (x:=u) (by simpa using hu) fun h' st' sb=>?_))
   have I1:Inv X Ab σ H { s with heap:=h' }:=I0.turned (t':=s.toks) (fun b o hb e=>(sb.2 b hb).trans e) fi.1 fi.2.1 fi.2.2.2.1 fi.2.2.2.2.1 fi.2.2.2.2.2;have hS1:=(sb.2 S (Ne.symm hiS)).trans gS;obtain ⟨oi,hoi,hoc,hod⟩:=id st';show wpAny _ X.A.in1 (tryCatch (holding [u] (call (.ref f) [u])) _ >>= _) _ _ _;refine wpAny_bind (wpAny_tryCatch (wpAny_holding (qQ3 rm hA S' hbind he KA hf hcc I1 (fun _ _ z=>z) (i:=0) rfl rfl ru fi fS hoi hS1 fun v y2 H2 s2 I2 sm2 r2 k2 fi2 fS2 gi2 gS2=>?_)));show wpAny _ X.A.in1 (updateSeq S (fun _=>#[u,v]) >>= _) _ _ _;refine wpAny_bind (wpAny_updateSeq gS2 rfl ?_);rw [hname];have I3:Inv X Ab σ H2 { s2 with heap:=s2.heap.update S (Obj.mapSeq fun _=>#[u,v]) }:=I2.turned (t':=s2.toks) (fun b o hb e=>(Heap.get?_update_other _ _ (Ne.symm hb)).trans e) fS2.1 fS2.2.1 fS2.2.2.2.1 fS2.2.2.2.2.1 fS2.2.2.2.2.2;exact wpAny_pure ⟨plainId_quiet PySem.F.plain_min_loop _,qOB hc rm hA S' hbind he KC KA hf hcc hl hiS lsame _ 1 _ H2 x y2 k u v _ rfl (by simp) I3 sm2 fi2 fS2 ⟨oi,(Heap.get?_update_other _ _ (Ne.symm hiS)).trans gi2,hoc,hod⟩ (Heap.get?_update_self _ gS2 rfl) ru r2 k2 hQ⟩
end
end
end L2
namespace L2
open PySem PySem.Spec PyProof.Rows
noncomputable def hdIn (K:PySem.W.Frag) (c P:Addr):Bool:=match K.lookup c with
 | some ⟨.type n,_,.fields vs,_⟩=>decide (n = "code") && decide (c ≠ P) && (match (vs[11]?:Option Value),vs.getD 11 .none with | some (.ref a),.ref b=>decide (a=P) && decide (b=P) | _,_=>false) &&
   (match vs.getD 18 .none,vs.getD 7 .none,vs.getD 9 .none,vs.getD 10 .none with | .str _ _,.int _ _,.bool _,.int _ _=>true | _,_,_,_=>false)
 | _=>false
theorem qQT {K:PySem.W.Frag} {h:Heap} {c P:Addr} (X:K.In h) (hd:hdIn K c P=true):PySem.W.CodeHd h c P:=by
 unfold hdIn at hd
 split at hd
 ·rename_i n dd vs sl hl
  rw [Bool.and_eq_true,Bool.and_eq_true,Bool.and_eq_true] at hd;obtain ⟨⟨⟨h1,h2⟩,h3⟩,h4⟩:=hd
  split at h3
  ·rename_i a b e1 e2
   rw [Bool.and_eq_true,decide_eq_true_eq,decide_eq_true_eq] at h3;obtain ⟨rfl,rfl⟩:=h3
   split at h4
   ·rename_i f t fl tg inF text tt g1 g2 g3 g4
    exact ⟨_,vs,_,_,_,_,_,_,_,X _ _ hl,by rw [of_decide_eq_true h1],rfl,e1,e2,g1,g2,g3,g4,of_decide_eq_true h2⟩
   ·cases h4
  ·cases h3
 ·cases hd
section
variable {X:Cx}
def qX9 (P:Addr) (q:Str) (fv:List Nat) (te:TE) (KR:Hp->V->List Int->Prop) (ta:TA):TE:=fun σ H Q=>ta σ H fun vs H1=>H1 P=some (.tbl (.tab q))/\
 ∃ l xs ks m,vs=[.ref l]/\H1 l=some (.lst xs)/\ks.length=xs.length/\(∀ (i:Nat) (x:V) (k:List Int),xs[i]?=some x->ks[i]?=some k->∀ Hc,Sm0 H1 Hc->te (qG0 fv σ x) Hc fun y H'=>Sm0 Hc H'/\KR H' y k)/\
  qVR none (xs.zip ks)=some m/\∀ H',Sm0 H1 H'->Q m H'
theorem qU2 {e:Expr} {ta:TA} {np pos kpos lpos:Pos} {params:Arguments} {body:Expr} {scope:Scope} {c P:Addr} {q:Str} {p:Str} {fv:List Nat} {te:TE} {KR:Hp->V->List Int->Prop}
  (rm:Room 1 X.A) (hc:X.calm=true) (hg:Gl X "min") (hm:X.mg "min" = none) (hv:bootBuiltins "min" = some (.builtin "min")) (hb:BM X.mg X.base) (hcode:X.env.code=.ref c) (hd:hdIn X.K c P=true) (hq:X.env.qual ++ "<lambda>" = q)
  (S:LmScope X scope p fv) (hdef:defaultsOf params X.env=([],[])) (hbind:∀ (cl:List (Str × Addr)) (pm cd ct u:Value),bindArgs (PySem.W.kla_fn "<lambda>" q params body scope cl pm cd ct) ⟨[u],[]⟩=pure [(p,u)])
  (KC:KCmp X KR) (ha:PA X [e] ta) (he:∀ z,PE (lmCx X scope p fv q z) body te) (hs:starEach [e] X.env=[(false,eval e X.env)]:=by rfl) :
  PE X (.Call (.Name "min" np) [e] [⟨some "key",.Lambda params body scope lpos,kpos⟩] pos) (qX9 P q fv te KR ta):=by
 intro Ab s σ H Q I h;refine wpAny_Call_Name_kw (qGC I hg hm hv ?_ (by decide) (by decide))
 refine PyProof.Rows.callWith_kw (thn (ha pos Ab s σ H _ I h) fun us s1 ⟨vs,H1,I1,r1,q1⟩=>?_) (by rw [hs];rfl) (by rw [hs];rfl)
 obtain ⟨hP,l,xs,ks,m,rfl,hl,lk,hk,em,q2⟩:=q1;obtain ⟨u,rfl,rx⟩:=qDB r1;cases rx;have C:=qQT (c:=c) (P:=P) I1.ok.mod.kin hd;have pl:=qVX (X:=X) (pos:=lpos) (body:=body) hb hcode C hq S hdef;refine thn (qPC (kpos:=kpos) (nm:=some "key") pl qT2 pos Ab s1 σ H1 (fun zs H2=>∃ f cc ctv,zs=[.ref f]/\Sm0 H1 H2/\H2 f=some (LamF X q params body scope cc ctv f)/\H2 cc=some (.tbl (.cod q))) I1 ⟨hP,fun f cc ctv H' sm h0 hf hcc=>⟨f,cc,ctv,rfl,sm,hf,hcc⟩⟩) fun ws s2 ⟨zs,H2,I2,rz,f,cc,ctv,ez,sm,hf,hcc⟩=>?_;subst ez;obtain ⟨u2,rfl,r2⟩:=qDB rz;cases r2;have hA:X.A.in1.frames=some X.stack:=I2.ok.frames;exact qMC (H:=H2) hc rm hA S hbind he KC ⟨lk,fun i x k hx hk' Hc smc=>hk i x k hx hk' Hc fun b o e=>smc b o (sm b o e)⟩ hf hcc (SqL.of (sm _ _ hl)) (fun H' smc=>SqL.of (smc _ _ (sm _ _ hl))) I2
  (by unfold argsOk;kernel_rfl) none rfl none (.inl ⟨rfl,rfl⟩) m em fun H' smc=>q2 H' fun b o e=>smc b o (sm b o e)
end
theorem Fun.okL {P:Program} {w:World} {K:PySem.W.Frag} {mg:Str->Option Value} {base:Heap} {x qual:Str} {st:Stmt} {f:Addr} {fd:FuncData} {N ps:List Str} {k:Nat} {sp:Sp} {c:Addr} (F:Fun K x qual st f fd) (hc:fd.code=.ref c) (S:FnScope N ps (qAA st)) (len:∀ vs H Q E,sp vs H Q E->vs.length=ps.length)
  (hbody:∀ (A:Around) (outer:List Env) (s:Shared) (H:Hp) (vs:List V) (Q:VK) (E:XK),Room k (A.deeper (envOfC qual (qAA st) s.heap.objs.size f (.ref c)))->sp vs H Q E->
   ∃ t,PSs (cxOf CX0 P w K mg base N qual (qAA st) f (.ref c) A outer s H E).nox (qC7 st) t/\t { nx:=fun _ H'=>Q .non H',rt:=Q } (start N vs) H):FnOk P w K mg base CX0 (k+1) f fd ps sp:=by
 obtain ⟨oc,od,kV,doc,pm,an,cdv,ct,osl,rfl,lk,hcd⟩:=F.ex;have e:cdv=.ref c:=hc;subst e;refine qWP lk hcd S len fun A outer s H vs Q E hr hsp=>?_;obtain ⟨t,h,q⟩:=hbody A outer s H vs Q E hr hsp;exact ⟨t,h.nox,q⟩
noncomputable def qPU (scope:Scope) (p:Str) (fv:List Nat) (osc:Scope) (N:List Str):Bool:=
 decide (scope.kind=.function) && decide (scope.isCoroutine=false) && decide (scope.isGenerator=false) && scope.names.all (fun y=>decide (y.2 ≠ .cell)) && decide (scope.names.lookup p=some .local) &&
 scope.names.all (fun y=>decide (y.2 ≠ .free) || (decide (osc.names.lookup y.1=some .cell) || decide (osc.names.lookup y.1=some .free))) && fv.all fun i=>decide (i<N.length) && decide (scope.names.lookup (N.getD i Str.empty)=some .free)
theorem lms {X:Cx} {scope:Scope} {p:Str} {fv:List Nat} (h:qPU scope p fv X.env.scope X.N=true):LmScope X scope p fv:=by
 unfold qPU at h;simp only [Bool.and_eq_true,decide_eq_true_eq,List.all_eq_true,Bool.or_eq_true] at h;obtain ⟨⟨⟨⟨⟨⟨h1,h2⟩,h3⟩,h4⟩,h5⟩,h6⟩,h7⟩:=h;refine ⟨h1,h2,h3,h4,h5,fun y hy hf=>?_,h7⟩;rcases h6 y hy with z | z
 ·exact absurd hf z
 ·exact z
structure LTab where
 x:Str
 c:Addr
 P:Addr
 q:Str
def qWX (tabs:List LTab) (H:Hp):Prop:=∀ t ∈ tabs,H t.P=some (.tbl (.tab t.q))
noncomputable def entH (a:Addr) (o:Obj) (xs:List V) (ina:Bool) (tabs:List LTab):Hp:=fun b=>if ina=true/\b=a then some (.frz o (.lst xs)) else (tabs.find? fun t=>decide (t.P=b)).map fun t=>.tbl (.tab t.q)
theorem qPZ {P:Program} {w:World} {K:PySem.W.Frag} {mg mb:Str->Option Value} {k:Nat} {fa a:Addr} {fd:FuncData} {x:Str} {sp:Sp} {s₁:Shared} {vs:List Value} {ns:List Int} (tabs:List LTab)
  (KX:K.In s₁.heap) (hns:s₁.heap.Ns mainGlobals mg) (hb:s₁.heap.Ns builtinsNs mb) (hbb:∀ x:Str,x ≠ "__name__"->mb x=bootBuiltins x) (hlim:s₁.heap.NoLimit) (hg:s₁.gens=#[])
  (ha:s₁.heap.get? a=some { cls:=.type "list",data:=.seq vs.toArray }) (hi:IntsAre vs ns) (hl:ns.length<=sizeLine) (hr:Room k callerA) (hbm:BM mg s₁.heap)
  (htab:∀ t ∈ tabs,PySem.W.CodeHd s₁.heap t.c t.P/\s₁.heap.get? t.P=some (PySem.W.tabObj #[])) (hK:PySem.W.noTabs K=true) (hone:∀ t ∈ tabs,∀ t' ∈ tabs,t.P=t'.P->t.q=t'.q)
  (F:∀ base:Heap,K.In base->base.Ns mainGlobals mg->BM mg base->FnOk P w K mg base CX0 k fa fd [x] sp) (hbind:∀ (s:Shared) (u:Value),BindsTo s fd ⟨[u],[]⟩ [(x,u)])
  (hsp:∀ H:Hp,qWX tabs H->SqL K H a (ns.map V.int)->sp [.ref a] H (fun v _=>v=.bl true) fun _ _ _=>False) :
  codeAny (model P w) callerA (.call (.ref fa) ⟨[.ref a],[]⟩) (fun r s'=>r=.ok (.ret (.bool true))/\OldK s₁.heap s'.heap/\s'.os=s₁.os/\AllBare s'.gens) s₁:=by
 have rv:=qH5 hi;have lenV:=hi.length;have naP:∀ t ∈ tabs,t.P ≠ a:=fun t ht z=>by
  have:=(htab t ht).2;rw [z,ha] at this;cases this
 have KnP:∀ t ∈ tabs,K.lookup t.P=none:=fun t ht=>by
  cases e:K.lookup t.P with
  | none=>rfl
  | some o=>
   have e2:=KX _ _ e;rw [(htab t ht).2] at e2;cases e2;have h2:=List.all_eq_true.mp hK _ (PySem.W.mem_of_lookupK e);exact absurd (show false=true from h2) Bool.false_ne_true
 obtain ⟨ina,hina⟩:∃ ina:Bool,(ina=true ↔ K.lookup a=none):=by
  cases e:K.lookup a with
  | none=>exact ⟨true,by simp⟩
  | some o=>exact ⟨false,by simp⟩
 -- the heap's description
 let o0:Obj:={ cls:=.type "list",data:=.seq vs.toArray }
 have hdef:∀ b u,entH a o0 (ns.map V.int) ina tabs b=some u->(ina=true/\b=a/\u=.frz o0 (.lst (ns.map V.int)))\/∃ t ∈ tabs,t.P=b/\u=.tbl (.tab t.q):=fun b u e=>by
  unfold entH at e
  split at e
  ·rename_i c
   cases e;exact .inl ⟨c.1,c.2,rfl⟩
  ·cases e2:tabs.find? (fun t=>decide (t.P=b)) with
   | none=>rw [e2] at e;cases e
   | some t=>
    rw [e2] at e;cases e;exact .inr ⟨t,List.mem_of_find?_eq_some e2,of_decide_eq_true (List.find?_some (p:=fun t:LTab=>decide (t.P=b)) e2),rfl⟩
 have htb:∀ t ∈ tabs,entH a o0 (ns.map V.int) ina tabs t.P=some (.tbl (.tab t.q)):=fun t ht=>by
  unfold entH;rw [if_neg fun z=>naP t ht z.2];cases e2:tabs.find? (fun t'=>decide (t'.P=t.P)) with
  | none=>exact absurd (decide_eq_true (rfl:t.P=t.P)) (List.find?_eq_none.mp e2 t ht)
  | some t'=>
   have h1:=List.mem_of_find?_eq_some e2;have h2:t'.P=t.P:=of_decide_eq_true (List.find?_some (p:=fun t':LTab=>decide (t'.P=t.P)) e2);rw [Option.map_some,hone t' h1 t ht h2]
 generalize hH:entH a o0 (ns.map V.int) ina tabs=H at hdef htb;have hS:SqL K H a (ns.map V.int):=by
  cases e:K.lookup a with
  | none=>
   refine .inl (.inr ⟨o0,?_⟩);rw [<- hH];unfold entH;rw [if_pos ⟨hina.mpr e,rfl⟩]
  | some o=>
   have e2:=KX a o e;rw [ha] at e2;cases e2;exact .inr ⟨_,vs.toArray,_,e,rfl,rfl,rfl,by rw [List.size_toArray,lenV];exact hl,by simpa using rv⟩
 have hok:HOk P w H s₁.heap:=fun b u e=>by
  rcases hdef b u e with ⟨_,rfl,rfl⟩ | ⟨t,ht,rfl,rfl⟩
  ·exact ⟨ha,by rw [List.length_map];exact hl,vs,_,rv,ha⟩
  ·exact ⟨#[],(htab t ht).2,trivial,fun pos cv z=>by cases z⟩
 have base_of:∀ {b:Addr} {o:Obj},s₁.heap.get? b=some o->H b=none->(hidT s₁.heap H).get? b=some o:=fun e n=>qS8 e n;have noA:∀ {b:Addr} {o:Obj},s₁.heap.get? b=some o->(∀ xs n,o.data ≠ .seq xs n)->(∀ ps,o.data ≠ .fields ps)->H b=none:=fun {b o} e d1 d2=>by
  cases q:H b with
  | none=>rfl
  | some u=>
   rcases hdef b u q with ⟨_,rfl,_⟩ | ⟨t,ht,rfl,_⟩
   ·rw [ha] at e;cases e;exact absurd rfl (d1 _ _)
   ·rw [(htab t ht).2] at e;cases e;exact absurd rfl (d2 _)
 have nsK:∀ {b:Addr} {m:Str->Option Value},s₁.heap.Ns b m->(hidT s₁.heap H).Ns b m:=fun {b m} ⟨o,es,ep,e,d,r⟩=>⟨o,es,ep,base_of e (noA e (fun _ _ z=>by rw [d] at z;cases z) fun _ z=>by rw [d] at z;cases z),d,r⟩
 have hKb:K.In (hidT s₁.heap H):=fun b o e=>base_of (KX b o e) (by
  cases q:H b with
  | none=>rfl
  | some u=>
   rcases hdef b u q with ⟨h1,rfl,_⟩ | ⟨t,ht,rfl,_⟩
   ·rw [hina.mp h1] at e;cases e
   ·rw [KnP t ht] at e;cases e)
 have hBb:BM mg (hidT s₁.heap H):=by
  obtain ⟨bm,ob,b1,b2,b3,b4,b5,b6⟩:=hbm;exact ⟨bm,ob,b1,b2,base_of b3 (noA b3 (fun _ _ z=>by rw [b6] at z;cases z) fun _ z=>by rw [b6] at z;cases z),b4,b5,b6⟩
 have hM:Mod K mg (hidT s₁.heap H):=⟨hKb,nsK hns,⟨mb,nsK hb,hbb⟩,let ⟨mc,h1,h2⟩:=hlim;⟨mc,nsK h1,h2⟩⟩
 have e0:Env0 P w K mg (hidT s₁.heap H) callerA [] s₁ H:=⟨rfl,hM,fun b o e=>qU6 e,Nat.le_of_eq (qQ9 _ _),trivial,fun b hb=>absurd (show b ∈ ([]:List Addr) from hb) (by simp),hok,.of_eq hg⟩
 refine codeAny_mono ((F _ hKb (nsK hns) hBb).run callerA [] s₁ H ⟨[.ref a],[]⟩ [.ref a] [.ref a] _ _ hr e0 (hbind s₁ (.ref a)) (.cons rfl .nil) (hsp H htb hS)) fun r s' h=>?_;cases r with
 | error e=>exact False.elim h
 | ok fl=>
  cases fl with
  | next=>exact False.elim h
  | brk=>exact False.elim h
  | cont=>exact False.elim h
  | ret u=>
   obtain ⟨v,H',os,bare,un,hok',r',q⟩:=h;have q':v=.bl true:=q;subst q';obtain rfl:u=Value.bool true:=r';have kept:∀ b o,s₁.heap.get? b=some o->s'.heap.get? b=some o\/∃ t ∈ tabs,t.P=b:=fun b o e=>by
    cases q:H b with
    | none=>exact .inl (un.keep b o e q (by intro z;exact absurd (show b ∈ ([]:List Addr) from z) (by simp)) (by simp))
    | some u=>
     rcases hdef b u q with ⟨_,rfl,rfl⟩ | ⟨t,ht,e1,_⟩
     ·have z2:=un.frzs b o0 _ q;obtain ⟨e1,_⟩:=hok b _ q;obtain ⟨e2,_⟩:=hok' b _ z2;rw [e] at e1;cases e1;exact .inl e2
     ·exact .inr ⟨t,ht,e1⟩
   have tabK:∀ t ∈ tabs,∃ more,s'.heap.get? t.P=some (PySem.W.tabObj more):=fun t ht=>by
    obtain ⟨more,e,_⟩:=(show ObjOk P w H' s'.heap t.P (.tbl (.tab t.q)) from hok' t.P _ (un.tbls t.P _ (htb t ht)));exact ⟨more,e⟩
   refine ⟨rfl,⟨fun b o e=>?_,fun b o e=>?_⟩,os,bare⟩
   ·rcases kept b o e with z | ⟨t,ht,rfl⟩
    ·exact .inl z
    ·obtain ⟨more,em⟩:=tabK t ht;have e2:=(htab t ht).2;rw [e] at e2;cases e2;exact .inr (.inl ⟨((htab t ht).1.tab (htab t ht).2).isCodeTable,rfl,#[],more,rfl,by rw [em];simp⟩)
   ·rcases kept b o e with z | ⟨t,ht,rfl⟩
    ·exact ⟨_,z⟩
    ·obtain ⟨more,em⟩:=tabK t ht;exact ⟨_,em⟩
theorem walk_ofT {l:PySem.W.OpenLaw} {n k:Nat} {q:Program} {loose:List Str} {XP:(Str->Option Value)->Heap->Prop} {YP:World->Heap->Prop} {d:DefRec} {K:Params->PySem.W.Frag} {sp:World->Sp} {x:Str} (tabs:List LTab)
  (hn:l.most=some n) (hn2:n<=sizeLine) (hdf:d.params.defaults=[]) (hr:Room k callerA)
  (hY:∀ (w:World) (h:Heap),YP w h->(K w.params).In h)
  (hrec:∀ t ∈ tabs,((recsOf q).find? fun e=>e.name == t.x).isSome=true) (htab:∀ (w:World),∀ t ∈ tabs,PySem.W.tabIn (K w.params) t.x=some (t.c,t.P)) (hK:∀ w:World,PySem.W.noTabs (K w.params)=true) (hone:∀ t ∈ tabs,∀ t' ∈ tabs,t.P=t'.P->t.q=t'.q)
  (F:∀ (w:World) (mg:Str->Option Value) (fa:Addr) (h:Heap),(K w.params).In h->h.Ns mainGlobals mg->mg d.name=some (.ref fa)->
   ∃ fd:FuncData,(∀ (s:Shared) (u:Value),BindsTo s fd ⟨[u],[]⟩ [(x,u)])/\
    ∀ base:Heap,(K w.params).In base->base.Ns mainGlobals mg->BM mg base->FnOk l.prog w (K w.params) mg base CX0 k fa fd [x] (sp w))
  (hsp:∀ (w:World) (H:Hp) (a:Addr) (ns:List Int),ns.length<=n->qWX tabs H->SqL (K w.params) H a (ns.map V.int)->sp w [.ref a] H (fun v _=>v=.bl true) fun _ _ _=>False) :
  PySem.W.WalkO q loose XP YP l.row.toRowW d [] (fun f vs=>PySem.call f vs):=by
 refine Att.attach_call hn hdf fun w s₀ s₁ mg mb fa o pm cd doc a vs ns G Y ho hd hcd hmg hobj hints hlen hg=>?_;have KX:=hY w _ Y;obtain ⟨fd,hb,hF⟩:=F w mg fa _ KX G.T.g hmg;refine qPZ tabs KX G.T.g G.T.b G.T.builtins G.T.nolimit hg hobj hints (Nat.le_trans hlen hn2) hr G.T.bmain (fun t ht=>?_) (hK w) hone hF hb fun H hO hS=>hsp w H a ns hlen hO hS;obtain ⟨dd,hdd⟩:=Option.isSome_iff_exists.mp (hrec t ht);exact PySem.W.tab_of G.T KX hdd (htab w t ht)
end L2
namespace L2
open PySem PySem.Spec PyProof.Rows
section
variable {prog:Program} {w:World} {A:Around} {E:Value->Shared->Prop} {s:Shared}
end
section
variable {X:Cx}
end
end L2
namespace L2
open PySem PySem.Spec PyProof.Rows
section
open PySem.SeqAt
open PySem.AutoSeq1 (wpAny_loadPart')
open PySem.MeetsSeq PySem.MeetsSeq2 PySem.MeetsSeq3
end
section
variable {X:Cx}
end
end L2
namespace L2.G
open PySem PySem.Spec PyProof.Rows
section
variable [NM]
variable {prog:Program} {w:World} {A:Around} {E:Value->Shared->Prop} {s:Shared}
theorem qFX {vs:List Value}:∀ p ∈ (pairsOf vs).toList,p.1=p.2:=by
 intro p hp;unfold pairsOf at hp;rw [Array.toList_zip] at hp
 induction vs with
 | nil=>cases hp
 | cons v vs ih=>
  rcases List.mem_cons.mp hp with h | h
  ·rw [h]
  ·exact ih h
theorem qKP (vs:List Value):(pairsOf vs).toList.map (·.2)=vs:=by
 unfold pairsOf;rw [Array.toList_zip,List.map_snd_zip (by simp)]
theorem qPK {vs:List Value} {xs:Array Keyed} (px:xs.Perm (pairsOf vs)) (sx:gSortedTo xs (pairsOf vs).size):(xs.map (·.2)).toList.Perm vs/\(xs.map (·.2)).toList.Pairwise (fun u v=>NM.nm u<=NM.nm v):=by
 have p2:=Array.perm_iff_toList_perm.mp px
 constructor
 ·have:=p2.map (·.2);rw [qKP] at this;rw [Array.toList_map];exact this
 ·rw [Array.toList_map,List.pairwise_map,List.pairwise_iff_getElem];intro i j hi hj hij;have hs:=px.size_eq;have hi2:i<xs.size:=by simpa using hi
  have hj2:j<xs.size:=by simpa using hj
  have a:=sx i j (Nat.le_of_lt hij) (by lia)
  rw [qQG hi2,qQG hj2] at a;have ei:=qFX _ (p2.mem_iff.mp (show xs[i] ∈ xs.toList by simp))
  have ej:=qFX _ (p2.mem_iff.mp (show xs[j] ∈ xs.toList by simp))
  rw [ei,ej] at a;simpa using a
theorem qRI {κ0:SortKind} {a:Addr} {vs:List Value} {n:Nat} {P:Fin->Shared->Prop} (e0:s.heap.get? a=some (seqObj "list" vs.toArray n)) (hz:vs.length<=sizeLine) (gd:∀ v ∈ vs,NM.good v)
  (hk:∀ h':Heap,(∀ (b:Addr) (o:Obj),b ≠ a->s.heap.get? b=some o->h'.get? b=some o)->2<=vs.length->(∀ {Q:SortKind->Shared->Prop},Q κ0 { s with heap:=h' }->wpAny (model prog w) A (keyKind' vs.toArray) Q E { s with heap:=h' })/\LtOk prog w A { s with heap:=h' } κ0)
  (h:∀ (out:Array Value),out.toList.Perm vs->out.toList.Pairwise (fun u v=>NM.nm u<=NM.nm v)->P (.done (.ret .none)) { s with heap:=sortedHeap s.heap a vs out }):wpAny (model prog w) A (Builtin.«list.sort» ⟨[.ref a],[]⟩) P E s:=by
 have la:=Heap.lt_size e0;have z0:vs.toArray.size<=sizeLine:=by simpa using hz
 rw [list_sort_plain];refine wpAny_bind (listItems_at e0 rfl (wpAny_bind (listUpdate_at e0 rfl ?_ z0 (Nat.zero_le _))));have e1:∃ k,(s.heap.update a (Obj.mapSeq fun _=>#[])).get? a=some (seqObj "list" #[] k):=⟨_,get?_update_seq e0 fun _=>#[]⟩;obtain ⟨k,e1⟩:=e1;refine wpAny_bind (seqEpoch_at e1 rfl (wpAny_bind (wpAny_newTuple ?_ (by simpa using hz))))
 refine wpAny_bind (wpAny_newList (wpAny_holding ?_));have e2:(((s.heap.update a (Obj.mapSeq fun _=>#[])).push (seqObj "tuple" vs.toArray 0)).push (seqObj "list" #[] 0)).get? a=some (seqObj "list" #[] k):=by
  rw [Heap.get?_push_ne,Heap.get?_push_ne]
  ·exact e1
  ·rw [Heap.size_update];exact Nat.ne_of_lt la
  ·rw [size_push',Heap.size_update];exact Nat.ne_of_lt (Nat.lt_succ_of_lt la)
 have kept:∀ (b:Addr) (o:Obj),b ≠ a->s.heap.get? b=some o->(((s.heap.update a (Obj.mapSeq fun _=>#[])).push (seqObj "tuple" vs.toArray 0)).push (seqObj "list" #[] 0)).get? b=some o:=fun b o hb q=>
  Heap.get?_push_of_some _ (Heap.get?_push_of_some _ ((Heap.get?_update_ne _ _ _ _ hb).trans q))
 have last:∀ xs:Array Keyed,xs.Perm (pairsOf vs)->gSortedTo xs (pairsOf vs).size->P (.done (.ret .none)) { s with heap:=sortedHeap s.heap a vs (xs.map (·.2)) }:=by
  intro xs px sx;obtain ⟨q1,q2⟩:=qPK px sx;exact h _ q1 q2
 have sz:∀ xs:Array Keyed,xs.Perm (pairsOf vs)->(xs.map (·.2)).size<=sizeLine+1:=by
  intro xs px;rw [Array.size_map,px.size_eq,pairsOf_size]
  lia
 show wpAny _ A _ P E { s with heap:=((s.heap.update a (Obj.mapSeq fun _=>#[])).push (seqObj "tuple" vs.toArray 0)).push (seqObj "list" #[] 0) };dsimp only;by_cases few:vs.toArray.size<2
 ·simp only [if_pos few];refine wpAny_bind (wpAny_pure ?_);rw [StateT.run_pure];refine wpAny_bind (wpAny_pure (wpAny_bind (seqEpoch_at e2 rfl (wpAny_bind (listUpdate_at e2 rfl ?_ (Nat.zero_le _) (sz (pairsOf vs) (.refl _)))))));simp only [bne_self_eq_false,Bool.false_eq_true,if_false];refine wpAny_pure (last (pairsOf vs) (.refl _) fun i j hij hj=>?_);rw [pairsOf_size] at hj;rw [List.size_toArray] at few;rw [show i=j by lia]
  exact Int.le_refl _
 ·simp only [if_neg few];rw [List.size_toArray] at few;obtain ⟨hk1,hk2⟩:=hk _ kept (by lia)
  have ik:qBJ (pairsOf vs):=fun p hp=>by
   have m:=List.mem_map_of_mem (f:=(·.2)) hp;rw [qKP] at m;rw [qFX p hp];exact gd _ m
  refine wpAny_bind (hk1 (wpAny_bind (wpAny_mono (gwpS_runs (κ0:=κ0) (a₀:=pairsOf vs) (Q:=fun _ st2=>gSG κ0 (pairsOf vs) st2/\gSortedTo (arrOf st2) (pairsOf vs).size) ik ⟨.refl _,rfl,rfl⟩ rfl fun st2 g u=>⟨g,u⟩) ?_ fun _ _ x=>x)));rintro ⟨_,st2⟩ s2 ⟨es,g,u⟩;cases (show s2=_ from es);refine wpAny_bind (seqEpoch_at e2 rfl (wpAny_bind (listUpdate_at e2 rfl ?_ (Nat.zero_le _) (sz _ g.perm))));dsimp only;rw [g.failed];simp only [bne_self_eq_false,Bool.false_eq_true,if_false];exact wpAny_pure (last _ g.perm u)
end
theorem qIX:∀ a:List Int,HT.lexLt a a=false
 | []=>rfl
 | x::a=>by rw [HT.lexLt_cons,if_pos rfl];exact qIX a
theorem qHJ:∀ a b c:List Int,HT.lexLt a b=true->HT.lexLt b c=true->HT.lexLt a c=true
 | [],[],_,h,_=>by cases h
 | [],_::_,[],_,h=>by cases h
 | [],_::_,_::_,_,_=>rfl
 | _::_,[],_,h,_=>by cases h
 | _::_,_::_,[],_,h=>by cases h
 | x::a,y::b,z::c,h1,h2=>by
  rw [HT.lexLt_cons] at h1 h2 ⊢;by_cases e1:x=y
  ·subst e1;rw [if_pos rfl] at h1;by_cases e2:x=z
   ·rw [if_pos e2] at h2 ⊢;exact qHJ a b c h1 h2
   ·rw [if_neg e2] at h2 ⊢;exact h2
  ·rw [if_neg e1] at h1;have h1:=of_decide_eq_true h1;by_cases e2:y=z
   ·subst e2;rw [if_neg e1];exact decide_eq_true h1
   ·rw [if_neg e2] at h2;have h2:=of_decide_eq_true h2;rw [if_neg (by lia)]
    exact decide_eq_true (by lia)
theorem lexLt_tri:∀ a b:List Int,HT.lexLt a b=false->HT.lexLt b a=false->a=b
 | [],[],_,_=>rfl
 | [],_::_,h,_=>by cases h
 | _::_,[],_,h=>by cases h
 | x::a,y::b,h1,h2=>by
  rw [HT.lexLt_cons] at h1 h2;by_cases e:x=y
  ·subst e;rw [if_pos rfl] at h1 h2;rw [lexLt_tri a b h1 h2]
  ·rw [if_neg e] at h1;rw [if_neg (fun z=>e z.symm)] at h2;have:=of_decide_eq_false h1;have:=of_decide_eq_false h2
   lia
noncomputable def qDG (L:List (List Int)) (a:List Int):Int:=(((L.filter fun x=>HT.lexLt x a).length:Nat):Int)
theorem qFA {α:Type} {p q:α->Bool}:∀ {L:List α},(∀ x ∈ L,p x=true->q x=true)->(∃ x ∈ L,p x=false/\q x=true)->(L.filter p).length<(L.filter q).length
 | [],_,⟨x,hx,_⟩=>nomatch hx
 | y::L,h,⟨x,hx,h1,h2⟩=>by
  have le:∀ {M:List α},(∀ x ∈ M,p x=true->q x=true)->(M.filter p).length<=(M.filter q).length:=by
   intro M hM
   induction M with
   | nil=>exact Nat.le_refl _
   | cons z M ih=>
    have i:=ih fun x hx=>hM x (List.mem_cons_of_mem _ hx);rw [List.filter_cons,List.filter_cons];cases ep:p z
    ·cases q z
     ·simpa using i
     ·simp;lia
    ·rw [hM z (by simp) ep]
     simpa using i
  rw [List.filter_cons,List.filter_cons];rcases List.mem_cons.mp hx with e | e
  ·subst e;have:=le fun x hx=>h x (List.mem_cons_of_mem _ hx);rw [h1,h2];simp
   lia
  ·have i:=qFA (fun x hx=>h x (List.mem_cons_of_mem _ hx)) ⟨x,e,h1,h2⟩;cases ep:p y
   ·cases q y
    ·simpa using i
    ·simp;lia
   ·rw [h y (by simp) ep]
    simpa using i
theorem qP5 {L:List (List Int)} {a b:List Int} (ha:a ∈ L) (h:HT.lexLt a b=true):qDG L a<qDG L b:=by
 unfold qDG;have:=qFA (p:=fun x=>HT.lexLt x a) (q:=fun x=>HT.lexLt x b) (L:=L) (fun x _ hx=>qHJ _ _ _ hx h) ⟨a,ha,qIX a,h⟩
 lia
theorem qGT {L:List (List Int)} {a b:List Int} (ha:a ∈ L) (hb:b ∈ L):decide (qDG L a<qDG L b)=HT.lexLt a b:=by
 cases h:HT.lexLt a b with
 | true=>exact decide_eq_true (qP5 ha h)
 | false=>
  refine decide_eq_false fun z=>?_;cases h2:HT.lexLt b a with
  | true=>have:=qP5 hb h2;lia
  | false=>rw [lexLt_tri a b h h2] at z;lia
noncomputable def qQ8 (xs:List V):List Int:=xs.map fun | .int i=>i | _=>0
theorem qQ7 (t:List Int):qQ8 (t.map V.int)=t:=by
 unfold qQ8;rw [List.map_map];exact (List.map_congr_left fun x _=>rfl).trans (List.map_id _)
noncomputable def keyH (H:Hp):Value->List Int
 | .ref r=>match H r with
  | some (.tup xs)=>qQ8 xs
  | _=>[]
 | _=>[]
@[reducible] def tupNM (H:Hp) (L:List (List Int)):NM:=⟨fun v=>qDG L (keyH H v),fun v=>∃ r t,v=.ref r/\H r=some (.tup (t.map V.int))/\t ∈ L⟩
section
variable {prog:Program} {w:World} {A:Around} {E:Value->Shared->Prop} {s:Shared}
end
end L2.G
namespace L2.G
open PySem PySem.Spec PyProof.Rows
section
variable {prog:Program} {w:World} {A:Around} {E:Value->Shared->Prop} {s:Shared}
end
end L2.G
namespace L2.G
open PySem PySem.Spec PyProof.Rows
section
variable {X:Cx}
theorem qDA:∀ {rs:List Addr} {its:List Value},Vals (rs.map V.ref) its->its=rs.map Value.ref
 | [],_,.nil=>rfl
 | r::rs,_,.cons h t=>by
  rw [List.map_cons,<- qDA t];have:_=Value.ref r:=h;rw [this]
def qGG:Value->Addr
 | .ref a=>a
 | _=>0
theorem qKJ:∀ {vs:List Value},(∀ v ∈ vs,∃ a,v=.ref a)->(vs.map qGG).map Value.ref=vs
 | [],_=>rfl
 | v::vs,h=>by
  obtain ⟨a,rfl⟩:=h v (by simp)
  rw [List.map_cons,List.map_cons,qKJ fun v hv=>h v (List.mem_cons_of_mem _ hv)]
  rfl
theorem src_dT {prog:Program} {w:World} {d:Addr} {od:Obj} {es:Array DictEntry} {ep:Nat} (hd:(d == sysModules)=false) (hc:od.cls=.type "dict") (he:od.data=.dict es ep) :
  PySem.W.KdlSrc prog w "dict" d d es.size (fun i v=>∃ h:i<es.size,v=es[i].key) (fun h=>h.get? d=some od) where
 type:=fun s h=>⟨_,h,hc⟩
 there:=fun h x=>⟨Heap.lt_size x,Heap.lt_size x⟩
 keep:=fun h h' x k=>k d (.inl rfl) _ x
 notList:=by decide
 notTuple:=by decide
 hint:=fun A E s Q x q=>PySem.W.kdl_hint_dict ⟨_,x,hc⟩ q
 iter:=fun A s hh x=>by
  have hne:d ≠ s.heap.objs.size:=Nat.ne_of_lt (Heap.lt_size x);refine ⟨_,fun i h=>qOO h s.heap.objs.size d i es.size ep/\h.get? d=some od,fun E Q q=>qLF ⟨_,x,hc⟩ hd x he q,?_,⟨Heap.get?_push_size _ rfl,Heap.get?_push_of_some _ x⟩⟩;refine ⟨fun b hb=>?_,fun i h h' st k=>⟨k _ (by simp) _ st.1,k _ (by simp) _ st.2⟩,fun i s' Q E hi st q=>?_,fun s' Q E st q=>?_,fun i s' Q E st q=>wpAny_pyIter_keyiter ⟨_,st.1,rfl,rfl⟩ q⟩
  ·have e:b=s.heap.objs.size:=by simpa using hb
   simp [e]
  ·refine qLG st.1 st.2 he hi fun h' st' k=>?_;exact q _ h' s'.toks ⟨hi,rfl⟩ ⟨st',(k.2 d hne).trans st.2⟩ fun b o hb e=>(k.2 b (fun z=>hb (by simp [z]))).trans e
  ·refine qNK hh st.1 (Nat.le_refl _) st.2 he fun h' k=>?_;exact q h' s'.toks fun b o hb e=>k b o (fun z=>hb (by simp [z])) e
end
end L2.G
namespace L2.G
open PySem PySem.Spec PyProof.Rows PySem.W
theorem perm_map_inv {α β:Type} {g:α->β} {a b:List β} (h:a.Perm b):∀ L:List α,b=L.map g->∃ L':List α,L'.Perm L/\a=L'.map g:=by
 induction h with
 | nil=>
  intro L e;exact ⟨[],by rw [List.map_eq_nil_iff.mp e.symm],rfl⟩
 | cons x _ ih=>
  intro L e;cases L with
  | nil=>cases e
  | cons y L=>
   rw [List.map_cons] at e
   injection e with e1 e2
   obtain ⟨L',p,e3⟩:=ih L e2;exact ⟨y::L',p.cons y,by rw [List.map_cons,e1,e3]⟩
 | swap x y l=>
  intro L e
  match L,e with
  | p::q::L,e=>
   rw [List.map_cons,List.map_cons] at e
   injection e with e1 e2
   injection e2 with e2 e3
   exact ⟨q::p::L,.swap p q L,by rw [List.map_cons,List.map_cons,e1,e2,e3]⟩
 | trans _ _ ih1 ih2=>
  intro L e;obtain ⟨L2,p2,e2⟩:=ih2 L e;obtain ⟨L1,p1,e1⟩:=ih1 L2 e2;exact ⟨L1,p1.trans p2,e1⟩
section
variable {X:Cx} {Ab:List (Addr × Obj)} {σ:St} {params:Arguments} {body:Expr} {scope:Scope} {p:Str} {fv:List Nat} {q:Str} {te:TE} {l f cc:Addr} {ctv:Value} {H0:Hp} {xs:List V} {ks:List (List Int)} {Q:VK}
theorem Inv.off {H:Hp} {s:Shared} {b:Addr} {h':Heap} (I:Inv X Ab σ H s) (f:FpOk X Ab H b) (hk:∀ c o,c ≠ b->s.heap.get? c=some o->h'.get? c=some o):Inv X Ab σ H { s with heap:=h' }:=
 I.turned (t':=s.toks) (fun c o hc e=>hk c o hc e) f.1 f.2.1 f.2.2.2.1 f.2.2.2.2.1 f.2.2.2.2.2
end
end L2.G
namespace L2.G
open PySem PySem.Spec PyProof.Rows PySem.W
section
variable {X:Cx} {Ab:List (Addr × Obj)} {σ:St} {params:Arguments} {body:Expr} {scope:Scope} {p:Str} {fv:List Nat} {q:Str} {te:TE} {l f cc:Addr} {ctv:Value} {H0:Hp} {xs:List V} {ks:List (List Int)} {Q:VK}
theorem qNX (l:Addr) (v:Value):argsOk "sorted" ⟨[.ref l],[(Str.ofString "key",v)]⟩:=by unfold argsOk;kernel_rfl
end
end L2.G
namespace L2
open PySem PySem.Spec PyProof.Rows
section
variable {X:Cx}
end
end L2
namespace L2
open PySem PySem.Spec PyProof.Rows
section
variable {X:Cx}
end
end L2
namespace L2
open PySem PySem.Spec PyProof.Rows
noncomputable def lowI (b:Int) (l:List Int):Int:=l.foldl (fun b x=>if x<b then x else b) b
theorem qPS:∀ (l:List Int) (b:Int),lowI b l<=b/\(∀ x ∈ l,lowI b l<=x)/\(lowI b l=b\/lowI b l ∈ l)
 | [],b=>⟨Int.le_refl _,(fun _ z=>nomatch z),.inl rfl⟩
 | y::l,b=>by
  obtain ⟨h1,h2,h3⟩:=qPS l (if y<b then y else b)
  have e:lowI b (y::l)=lowI (if y<b then y else b) l:=rfl
  rw [e];have hb:(if y<b then y else b)<=b/\(if y<b then y else b)<=y:=by split <;> lia
  refine ⟨by lia,fun x hx=>?_,?_⟩
  ·rcases List.mem_cons.mp hx with hx | hx
   ·lia
   ·exact h2 x hx
  ·rcases h3 with h3 | h3
   ·split at h3
    ·rw [if_pos (by assumption)]
     exact .inr (by rw [h3];exact List.mem_cons_self)
    ·rw [if_neg (by assumption)]
     exact .inl h3
   ·exact .inr (List.mem_cons_of_mem _ h3)
section
variable {prog:Program} {w:World} {A:Around} {R:Result->Shared->Prop} {I:Addr} {fp wr:List Addr} {n:Nat} {P:Nat->Value->Prop} {St:Nat->Heap->Prop}
theorem qUA (W:Walks prog w A.in1 I fp wr n P St) (kw:List (Str × Value)) (ns:List Int) (hn:ns.length=n) (hval:∀ i v,P i v->∃ t,v=.int (ns.getD i 0) t) (S:Addr) (hSf:S ∉ fp) :
  ∀ (k j:Nat) (s:Shared) (b:Int) (t:Tok) (c:Nat),n - j=k->j<=n->St j s.heap->s.heap.get? S=some { cls:=.type "list",dict:=none,data:=.seq #[.int b t,.int b t] c,slots:=#[] }->
  (∀ t' h' tk,(∀ x o,x ∉ wr->x ≠ S->s.heap.get? x=some o->h'.get? x=some o)->R (.ok (.ret (.int (lowI b (ns.drop j)) t'))) { s with heap:=h',toks:=tk })->
  codeAny (model prog w) A (.builtin "min.loop" ⟨[.ref I,.none,.ref S],kw⟩) R s:=by
 have hSw:S ∉ wr:=fun h=>hSf (W.sub _ h);have hname:(toString "min" ++ toString ".loop" : String) = "min.loop":=by decide
 intro k
 induction k with
 | zero=>
  intro j s b t c hk hj st hS hR;have e:j=n:=by lia
  refine codeAny_builtin F.entry_min_loop ?_;rw [Around.under_plainId F.plain_min_loop _];show wpAny _ A.in1 (seqItems? (.ref S) >>= _) _ _ s;refine wpAny_bind (wpAny_seqItems hS rfl ?_);show wpAny _ A.in1 (tryCatch (pyNext (.ref I)) _ >>= _) _ _ s;refine wpAny_bind (wpAny_tryCatch (W.done s _ _ (e ▸ st) fun h' tk hk'=>?_));show wpAny _ A.in1 (updateSeq S (fun _=>#[]) >>= _) _ _ _;refine wpAny_bind (wpAny_updateSeq (hk' S _ hSw hS) rfl (wpAny_bind (wpAny_letGo (wpAny_pure ?_))));rw [List.drop_of_length_le (by lia)] at hR
  exact hR t _ tk fun x o hx hxS ex=>(Heap.get?_update_other _ _ (Ne.symm hxS)).trans (hk' x o hx ex)
 | succ k ih=>
  intro j s b t c hk hj st hS hR;have hlt:j<n:=by lia
  refine codeAny_builtin F.entry_min_loop ?_;rw [Around.under_plainId F.plain_min_loop _];show wpAny _ A.in1 (seqItems? (.ref S) >>= _) _ _ s;refine wpAny_bind (wpAny_seqItems hS rfl ?_);show wpAny _ A.in1 (tryCatch (pyNext (.ref I)) _ >>= _) _ _ s;refine wpAny_bind (wpAny_tryCatch (W.item j s _ _ hlt st fun v h' tk hP st' hk'=>?_));have hS':=hk' S _ hSw hS;obtain ⟨u,rfl⟩:=hval j v hP;have ed:ns.drop j=ns.getD j 0::ns.drop (j+1):=by
   have hj':j<ns.length:=by lia
   rw [List.drop_eq_getElem_cons hj',List.getD_eq_getElem?_getD,List.getElem?_eq_getElem hj']
   rfl
  rw [ed] at hR;generalize ns.getD j 0=y at hR hP ⊢;show wpAny _ A.in1 (tryCatch (holding [Value.int y u,Value.int y u] (richCompare .Lt (.int y u) (.int b t) >>= _)) _ >>= _) _ _ _;refine wpAny_bind (wpAny_tryCatch (wpAny_holding (wpAny_bind (richCompare_gives (op:=.Lt) (typeIs_int _ _ u) (typeIs_int _ _ t) F.slot_int_lt F.entry_int_lt (F.args_int_lt_2 _ _) (gives_int_lt _ _ u t) (fun x=>nomatch x) ?_))));refine wpAny_bind (wpAny_holding (wpAny_truthy_bool (wpAny_bind (wpAny_letGo (wpAny_pure ?_)))));by_cases hb:y<b
  ·rw [decide_eq_true hb,if_pos rfl];have et:lowI b (y::ns.drop (j+1))=lowI y (ns.drop (j+1)):=by show lowI (if y<b then y else b) _=_;rw [if_pos hb]
   rw [et] at hR;refine wpAny_bind (wpAny_updateSeq hS' rfl (wpAny_bind (wpAny_letGo ?_)));rw [hname];refine wpAny_pure ⟨plainId_quiet F.plain_min_loop _,ih (j+1) _ y u _ (by lia) hlt (W.frame _ _ _ st' fun x hx o ex=>?_) (Heap.get?_update_self _ hS' rfl) fun t' h2 tk2 hk2=>?_⟩
   ·exact (Heap.get?_update_other _ _ (fun z:S=x=>hSf (by rw [z];exact hx))).trans ex
   ·exact hR t' h2 tk2 fun x o hx hxS ex=>hk2 x o hx hxS ((Heap.get?_update_other _ _ (Ne.symm hxS)).trans (hk' x o hx ex))
  ·rw [decide_eq_false hb,if_neg Bool.false_ne_true];have et:lowI b (y::ns.drop (j+1))=lowI b (ns.drop (j+1)):=by show lowI (if y<b then y else b) _=_;rw [if_neg hb]
   rw [et] at hR;refine wpAny_bind (wpAny_letGo ?_);rw [hname];exact wpAny_pure ⟨plainId_quiet F.plain_min_loop _,ih (j+1) _ b t c (by lia) hlt st' hS' fun t' h2 tk2 hk2=>hR t' h2 tk2 fun x o hx hxS ex=>hk2 x o hx hxS (hk' x o hx ex)⟩
theorem qPQ (W:Walks prog w A.in1 I fp wr n P St) (kw:List (Str × Value)) (ns:List Int) (hn:ns.length=n) (hval:∀ i v,P i v->∃ t,v=.int (ns.getD i 0) t) (S:Addr) (hSf:S ∉ fp) {s:Shared} {c:Nat} (st:St 0 s.heap)
  (hS:s.heap.get? S=some { cls:=.type "list",dict:=none,data:=.seq #[] c,slots:=#[] })
  (h1:∀ y r,ns=y::r->∀ t' h' tk,(∀ x o,x ∉ wr->x ≠ S->s.heap.get? x=some o->h'.get? x=some o)->R (.ok (.ret (.int (lowI y r) t'))) { s with heap:=h',toks:=tk })
  (h2:ns=[]->∃ nm dv,kw=[(nm,dv)]/\∀ h' tk,(∀ x o,x ∉ wr->x ≠ S->s.heap.get? x=some o->h'.get? x=some o)->R (.ok (.ret dv)) { s with heap:=h',toks:=tk }) :
  codeAny (model prog w) A (.builtin "min.loop" ⟨[.ref I,.none,.ref S],kw⟩) R s:=by
 have hSw:S ∉ wr:=fun h=>hSf (W.sub _ h);have hname:(toString "min" ++ toString ".loop" : String) = "min.loop":=by decide
 refine codeAny_builtin F.entry_min_loop ?_;rw [Around.under_plainId F.plain_min_loop _];show wpAny _ A.in1 (seqItems? (.ref S) >>= _) _ _ s;refine wpAny_bind (wpAny_seqItems hS rfl ?_);show wpAny _ A.in1 (tryCatch (pyNext (.ref I)) _ >>= _) _ _ s;cases ns with
 | nil=>
  obtain ⟨nm,dv,rfl,h3⟩:=h2 rfl;refine wpAny_bind (wpAny_tryCatch (W.done s _ _ (hn ▸ st) fun h' tk hk'=>?_));show wpAny _ A.in1 (rule _ >>= fun _=>ret dv) _ _ _;exact wpAny_bind (wpAny_rule (wpAny_pure (h3 _ tk fun x o hx _ ex=>hk' x o hx ex)))
 | cons y r=>
  refine wpAny_bind (wpAny_tryCatch (W.item 0 s _ _ (by rw [<- hn];simp) st fun v h' tk hP st' hk'=>?_))
  have hS':=hk' S _ hSw hS;obtain ⟨u,rfl⟩:=hval 0 v hP;show wpAny _ A.in1 (updateSeq S (fun _=>#[Value.int y u,Value.int y u]) >>= _) _ _ _;refine wpAny_bind (wpAny_updateSeq hS' rfl ?_);rw [hname];refine wpAny_pure ⟨plainId_quiet F.plain_min_loop _,qUA W kw (y::r) hn hval S hSf _ 1 _ y u _ rfl (by rw [<- hn];simp) (W.frame _ _ _ st' fun x hx o ex=>?_) (Heap.get?_update_self _ hS' rfl) fun t' h2 tk2 hk2=>?_⟩
  ·exact (Heap.get?_update_other _ _ (fun z:S=x=>hSf (by rw [z];exact hx))).trans ex
  ·exact h1 y r rfl t' h2 tk2 fun x o hx hxS ex=>hk2 x o hx hxS ((Heap.get?_update_other _ _ (Ne.symm hxS)).trans (hk' x o hx ex))
end
section
variable {X:Cx}
noncomputable def lowD (dv:Option Int):List Int->Option Int
 | []=>dv
 | y::r=>some (lowI y r)
theorem qUB {Ab:List (Addr × Obj)} {s:Shared} {σ:St} {H:Hp} {Q:VK} {p:Addr} {ns:List Int} {kw:List (Str × Value)} {dv:Option Int} (hc:X.calm=true) (I:Inv X Ab σ H s) (hq:SqL X.K H p (ns.map V.int))
  (ok:argsOk "min" ⟨[.ref p],kw⟩) (df:Option Value) (hb:Builtin.Builtins.bindParams "min" ["key","default"] 0 ⟨[],kw⟩=pure [none,df]) (hdf:df=none/\dv=none\/∃ d t,df=some (.int d t)/\dv=some d)
  (m:Int) (em:lowD dv ns=some m) (q:Q (.int m) H):wpAny (model X.prog X.w) X.A (call (.builtin "min") [.ref p] kw) (EP X Ab σ Q) X.xe s:=by
 obtain ⟨its,rv,pl,hz⟩:=I.list hq;have hl:=pl.isList;have hlt:p<s.heap.objs.size:=by obtain ⟨_,e,_⟩:=hl;exact Heap.lt_size e
 have hlen:=rv.length;rw [List.length_map] at hlen;have ia:=qBW rv;have hname:(toString "min" ++ toString ".loop" : String) = "min.loop":=by decide
 refine qGE F.kind_min F.plain_min F.entry_min ok ?_;show wpAny _ _ (Builtin.Builtins.bindParams "min" ["key","default"] 0 ⟨[],kw⟩ >>= _) _ _ s;refine wpAny_bind (wpAny_of_eq hb ?_);refine wpAny_bind (wpAny_pure ?_);refine wpAny_bind (wpAny_pyIter_list hl ?_);refine wpAny_bind (wpAny_newObj_type ?_);rw [hname];have w0:X.A.in1.handled=none:=I.ok.hd hc;refine wpAny_pure ⟨_,rfl,plainId_quiet F.plain_min_loop _,?_⟩;refine qPQ (Walks.list w0 _ p (Nat.ne_of_lt hlt) its.toArray) _ ns (by simpa using hlen) (fun i v hv=>?_) _ ?_ (c:=0) ?_ (Heap.get?_push_size _ rfl) ?_ ?_
 ·exact PyProof.Rows.IntsAre.int_at ia i v (by simpa using hv)
 ·simp only [Heap.size_push,List.mem_cons,List.not_mem_nil,or_false,not_or];exact ⟨Nat.succ_ne_self _,Nat.ne_of_gt (Nat.lt_succ_of_lt hlt)⟩
 ·exact ⟨⟨_,Heap.get?_push_of_some _ (Heap.get?_push_size _ rfl),rfl,rfl⟩,(hl.push _).push _⟩
 ·intro y r e t' h' tk hk;subst e;cases em;refine ⟨_,rfl,.int _,H,I.kept (t':=tk) fun b o eb=>hk b o ?_ ?_ (Heap.get?_push_of_some _ (Heap.get?_push_of_some _ eb)),⟨t',rfl⟩,q⟩
  ·simp only [List.mem_cons,List.not_mem_nil,or_false];exact Nat.ne_of_lt (Heap.lt_size eb)
  ·rw [Heap.size_push];exact Nat.ne_of_lt (Nat.lt_succ_of_lt (Heap.lt_size eb))
 ·intro e;subst e;rcases hdf with ⟨_,e2⟩ | ⟨d,t,rfl,rfl⟩
  ·rw [e2] at em;cases em
  ·cases em;refine ⟨_,_,rfl,fun h' tk hk=>⟨_,rfl,.int _,H,I.kept (t':=tk) fun b o eb=>hk b o ?_ ?_ (Heap.get?_push_of_some _ (Heap.get?_push_of_some _ eb)),⟨t,rfl⟩,q⟩⟩
   ·simp only [List.mem_cons,List.not_mem_nil,or_false];exact Nat.ne_of_lt (Heap.lt_size eb)
   ·rw [Heap.size_push];exact Nat.ne_of_lt (Nat.lt_succ_of_lt (Heap.lt_size eb))
theorem qLK (hc:X.calm=true):qCV X (.builtin "min") (fun xs H Q=>∃ p ns m,xs=[.ref p]/\SqL X.K H p (ns.map V.int)/\lowD none ns=some m/\Q (.int m) H):=by
 intro Ab s σ H xs us Q I r h;obtain ⟨p,ns,m,rfl,hq,em,q⟩:=h;obtain ⟨u,rfl,rx⟩:=qDB r;cases rx;exact qUB hc I hq (F.args_min1 _) none rfl (.inl ⟨rfl,rfl⟩) m em q
end
end L2
namespace L2
open PySem PySem.Spec PyProof.Rows
structure Clb (P:Program) (w:World) (K:PySem.W.Frag) (mg:Str->Option Value) (base:Heap) (n:Nat) (f:Addr) (fd:FuncData) (x:Str) (ps:List Str) (sp:Sp):Prop where
 G:FnOk P w K mg base CX0 n f fd ps sp
 b:Binds K fd ps []
 k:PySem.W.keepIn K (.ref f)=true
 m:mg x=some (.ref f)
theorem qB3 {X:Cx} {n k:Nat} {f:Addr} {fd:FuncData} {x:Str} {ps:List Str} {sp:Sp} {e:Expr} {es:List Expr} {t:TA} {p pos:Pos} (C:Clb X.prog X.w X.K X.mg X.base n f fd x ps sp) (hr:Room k X.A) (hg:Gl X x)
  (ha:PA X (e::es) t) (hnk:n<=k:=by decide) (hdb:(x == ("__debug__" : Str))=false:=by decide) (he:starEach (e::es) X.env=(false,eval e X.env)::starEach es X.env:=by rfl) (hpl:(backTo pos (starEach es X.env)).any (·.1)=false:=by rfl) :
  PE X (.Call (.Name x p) (e::es) [] pos) (qVG sp [] E0 t):=qPI C.G (hr.mono hnk) hg C.m C.k C.b .nil qVZ ha hdb he hpl
theorem nmD {i:Nat} {t u:TS} {D:Ends} {x:V} {σ:St} {H:Hp} (h:∀ D':Ends,(∀ σ H,D.nx σ H->D'.nx σ H)->(∀ v H,D.rt v H->D'.rt v H)->tSeq t u D' (σ.set i (some x)) H):qQE i x σ H fun σ2 H2=>tSeq t u D σ2 H2:=h D (fun _ _ z=>z) fun _ _ z=>z
end L2
namespace L2
open PySem PySem.Spec PyProof.Rows
def Tf (K:PySem.W.Frag) (x:Str) (s:Stmt) (f:Addr):Prop:=PySem.W.nsIn K mainGlobals x=some (some (.ref f))/\∃ fd,Fun K x x s f fd
theorem Tf.use {K:PySem.W.Frag} {h:Heap} {mg:Str->Option Value} {x:Str} {s:Stmt} {f:Addr} (X:K.In h) (G:h.Ns mainGlobals mg) (T:Tf K x s f):∃ fd,Fun K x x s f fd/\mg x=some (.ref f):=
 let ⟨a,fd,F⟩:=T
 ⟨fd,F,PySem.W.mg_of X G a⟩
theorem Tf.clb {P:Program} {w:World} {K:PySem.W.Frag} {h base:Heap} {mg:Str->Option Value} {x:Str} {s:Stmt} {f:Addr} {n:Nat} {ps:List Str} {sp:Sp} (X:K.In h) (G:h.Ns mainGlobals mg) (T:Tf K x s f) (hok:∀ fd,Fun K x x s f fd->FnOk P w K mg base CX0 n f fd ps sp)
  (hb:∀ (kV doc pm:Value) (an:Option Addr) (cdv ct:Value) (us:List Value),us.length=ps.length->bindArgs (PySem.W.fnOf x x (qDP s) (qC7 s) (qAA s) .none kV doc pm an cdv ct) ⟨us,[]⟩=pure (ps.zip us)):∃ fd,Clb P w K mg base n f fd x ps sp:=
 let ⟨fd,F,m⟩:=T.use X G
 ⟨fd,hok fd F,F.binds hb,F.kp,m⟩
def Zs (K:PySem.W.Frag):List Str->Prop
 | []=>True
 | x::r=>PySem.W.nsIn K mainGlobals x=some none/\Zs K r
def Zm (mg:Str->Option Value):List Str->Prop
 | []=>True
 | x::r=>mg x=none/\Zm mg r
theorem Zs.mg {K:PySem.W.Frag} {h:Heap} {mg:Str->Option Value} (X:K.In h) (G:h.Ns mainGlobals mg):∀ {l:List Str},Zs K l->Zm mg l
 | [],_=>trivial
 | _::_,⟨a,b⟩=>⟨PySem.W.mg_none_of X G a,Zs.mg X G b⟩
theorem qC2 {N P:List Str} {sc:Scope} (h1:sc.kind=.function:=by rfl) (h2:sc.isCoroutine=false:=by rfl) (h3:sc.isGenerator=false:=by rfl) (h4:N.Nodup:=by decide +kernel) (h5:N.take P.length=P:=by rfl) (h6:∀ x ∈ P,sc.names.lookup x=some .local\/sc.names.lookup x=some .cell:=by decide +kernel) (h7:∀ y ∈ sc.names,y.2 ≠ .free:=by decide +kernel):FnScope N P sc:=⟨h1,h2,h3,h4,h5,h6,h7⟩
section
variable {P:Program} {w:World} {K:PySem.W.Frag} {mg:Str->Option Value} {base:Heap}
theorem Fun.okA {x qual:Str} {st:Stmt} {f:Addr} {fd:FuncData} {N ps:List Str} {k:Nat} {sp:Sp} (F:Fun K x qual st f fd) (S:FnScope N ps (qAA st))
  (hbody:∀ (cdv:Value) (A:Around) (outer:List Env) (s:Shared) (H:Hp) (vs:List V) (Q:VK) (E:XK),Room k (A.deeper (envOfC qual (qAA st) s.heap.objs.size f cdv))->sp vs H Q E->
   ∃ t,PSs (cxOf CX0 P w K mg base N qual (qAA st) f cdv A outer s H E).nox (qC7 st) t/\t { nx:=fun _ H'=>Q .non H',rt:=Q } (start N vs) H)
  (len:∀ vs H Q E,sp vs H Q E->vs.length=ps.length:=by intro vs H Q E h;(repeat (obtain ⟨_,h⟩:=h));subst_vars;rfl):FnOk P w K mg base CX0 (k+1) f fd ps sp:=F.ok S len hbody
@[elab_as_elim] theorem us6 {α:Type} {P:List α->Prop} (us:List α) (hl:us.length=6) (h:∀ a b c d e f,P [a,b,c,d,e,f]):P us:=by
 match us,hl with
 | [a,b,c,d,e,f],_=>exact h a b c d e f
@[elab_as_elim] theorem us5 {α:Type} {P:List α->Prop} (us:List α) (hl:us.length=5) (h:∀ a b c d e,P [a,b,c,d,e]):P us:=by
 match us,hl with
 | [a,b,c,d,e],_=>exact h a b c d e
def Bs (P:Program) (w:World) (base:Heap):Prop:=P=P/\w=w/\base=base
theorem Tf.c {h:Heap} {x:Str} {s:Stmt} {f:Addr} {n:Nat} {ps:List Str} {sp:Sp} (X:K.In h) (G:h.Ns mainGlobals mg) (B:Bs P w base) (T:Tf K x s f) (hok:∀ fd,Fun K x x s f fd->FnOk P w K mg base CX0 n f fd ps sp)
  (hb:∀ (kV doc pm:Value) (an:Option Addr) (cdv ct:Value) (us:List Value),us.length=ps.length->bindArgs (PySem.W.fnOf x x (qDP s) (qC7 s) (qAA s) .none kV doc pm an cdv ct) ⟨us,[]⟩=pure (ps.zip us):=by
   intro _ _ _ _ _ _ us hl;first | exact us1 us hl (fun _=>rfl) | exact us2 us hl (fun _ _=>rfl) | exact us3 us hl (fun _ _ _=>rfl) | exact us4 us hl (fun _ _ _ _=>rfl) | exact us5 us hl (fun _ _ _ _ _=>rfl) | exact us6 us hl (fun _ _ _ _ _ _=>rfl) | exact us0 us hl rfl):∃ fd,Clb P w K mg base n f fd x ps sp:=T.clb X G hok hb
end
section
variable {X:Cx} {pos:Pos}
theorem qBQ {x:Str} (i:Nat) (hN:X.N.Nodup:=by exact qXR (by kernel_rfl)) (hi:X.N[i]?=some x:=by rfl) (hx:Loc X.env.scope x:=by exact Or.inl rfl) (hf:X.fn x=true\/X.env.scope.names.lookup x=some .local:=by first | exact .inl rfl | exact .inr rfl | assumption):PG X (.Name x pos) (qQE i):=qB9 hN hi hx hf
end
end L2
namespace L2
open PySem PySem.Spec PyProof.Rows
section
variable {prog:Program} {w:World} {A:Around} {E:Value->Shared->Prop} {s:Shared}
end
section
variable {X:Cx}
end
end L2
namespace L2
open PySem PySem.Spec PyProof.Rows
section
variable {X:Cx}
end
end L2
namespace Fw
open PySem L2
theorem qBL:bootBuiltins "len" = some (.builtin "len"):=by decide +kernel
theorem qHZ:bootBuiltins "min" = some (.builtin "min"):=by decide +kernel
theorem qWV:bootBuiltins "max" = some (.builtin "max"):=by decide +kernel
theorem qE9:bootBuiltins "sorted" = some (.builtin "sorted"):=by decide +kernel
theorem qR1:bootBuiltins "divmod" = some (.builtin "divmod"):=by decide +kernel
theorem qTH:bootBuiltins "all" = some (.builtin "all"):=by decide +kernel
theorem qAO:bootBuiltins "isinstance" = some (.builtin "isinstance"):=by decide +kernel
theorem qNR:bootBuiltins "int" = some (.type "int"):=by decide +kernel
theorem qUV:bootBuiltins "bool" = some (.type "bool"):=by decide +kernel
theorem qNQ:bootBuiltins "str" = some (.type "str"):=by decide +kernel
theorem qG5:bootBuiltins "list" = some (.type "list"):=by decide +kernel
theorem qB2:bootBuiltins "tuple" = some (.type "tuple"):=by decide +kernel
theorem qR0:bootBuiltins "set" = some (.type "set"):=by decide +kernel
theorem qSS:bootBuiltins "range" = some (.type "range"):=by decide +kernel
theorem qLM:bootBuiltins "enumerate" = some (.type "enumerate"):=by decide +kernel
structure StAt (H:Hp) (d c:Addr) (t:Int) (ns:List Int):Prop where
 dict:H d=some (.dK [(Sum.inr "cells",.ref c),(Sum.inr "turn",.int t)])
 list:H c=some (.lst (ns.map V.int))
 ne:0<ns.length
 len:ns.length<=63
 pos:0<=t
def Keep (d c:Addr) (H H':Hp):Prop:=∀ b o,H b=some o->b ≠ d->b ≠ c->H' b=some o
theorem Keep.trans {d c:Addr} {H H1 H2:Hp} (a:Keep d c H H1) (b:Keep d c H1 H2):Keep d c H H2:=fun x o h n m=>b x o (a x o h n m) n m
theorem Keep.of_same {d c:Addr} {H H':Hp} (h:Same H H'):Keep d c H H':=fun b o e _ _=>h b o e
theorem qA2 {H:Hp} {p:Addr} (h:H p=none) (o:HO):Same H (Ah H p o):=fun b u q=>by rw [qA8 (qA5 q h)];exact q
theorem qBZ {d c:Addr} {H:Hp} {p:Addr} (h:H p=none) (o:HO):Keep d c H (Ah H p o):=.of_same (qA2 h o)
theorem StAt.ndc {H:Hp} {d c:Addr} {t:Int} {ns:List Int} (S:StAt H d c t ns):d ≠ c:=qCR S.dict S.list (by intro z;cases z)
theorem StAt.same {H H':Hp} {d c:Addr} {t:Int} {ns:List Int} (S:StAt H d c t ns) (h:Same H H'):StAt H' d c t ns:=⟨h _ _ S.dict,h _ _ S.list,S.ne,S.len,S.pos⟩
theorem StAt.new {H:Hp} {d c p:Addr} {t:Int} {ns:List Int} (S:StAt H d c t ns) (h:H p=none) (o:HO):StAt (Ah H p o) d c t ns:=S.same (qA2 h o)
theorem s_cs:¬ (Str.ofString "cells" = Str.ofString "turn"):=by decide +kernel
theorem s_ct:¬ ((Sum.inr (Str.ofString "cells"):Key)=Sum.inr (Str.ofString "turn")):=fun h=>s_cs (Sum.inr.inj h)
theorem qUO {H:Hp} {d c:Addr} {t:Int} {ns:List Int} (S:StAt H d c t ns):DGet H d (.str "turn") (some (.int t)):=by
 have h:=DGet.k (k:=Sum.inr "turn") S.dict;rw [qDD s_ct,qDC rfl] at h;exact h
theorem qJZ {H:Hp} {d c:Addr} {t:Int} {ns:List Int} (S:StAt H d c t ns):DGet H d (.str "cells") (some (.ref c)):=by
 have h:=DGet.k (k:=Sum.inr "cells") S.dict;rw [qDC rfl] at h;exact h
theorem qRR (c:Addr) (t u:Int):putK [((Sum.inr "cells" : Key),V.ref c),(Sum.inr "turn",V.int t)] (Sum.inr "turn") (V.int u)=[((Sum.inr "cells" : Key),V.ref c),(Sum.inr "turn",V.int u)]:=by
 unfold putK;simp [s_cs]
theorem qUN {H:Hp} {d c:Addr} {t u:Int} {ns:List Int} (S:StAt H d c t ns):DPut H d (.str "turn") (.int u) (Ah H d (.dK [(Sum.inr "cells",.ref c),(Sum.inr "turn",.int u)])):=by
 have h:=DPut.k (k:=Sum.inr "turn") (v:=.int u) S.dict (by rw [sizeLine_eq];exact (by decide:2<16777216))
 rw [qRR] at h;exact h
theorem StAt.turn {H:Hp} {d c:Addr} {t u:Int} {ns:List Int} (S:StAt H d c t ns) (h:0<=u):StAt (Ah H d (.dK [(Sum.inr "cells",.ref c),(Sum.inr "turn",.int u)])) d c u ns:=
 ⟨qA1,by rw [qA8 (Ne.symm S.ndc)];exact S.list,S.ne,S.len,h⟩
theorem StAt.put {H:Hp} {d c:Addr} {t:Int} {ns ms:List Int} (S:StAt H d c t ns) (h:ms.length=ns.length):StAt (Ah H c (.lst (ms.map V.int))) d c t ms:=
 ⟨by rw [qA8 S.ndc];exact S.dict,qA1,by rw [h];exact S.ne,by rw [h];exact S.len,S.pos⟩
abbrev TB:Int:=1000000000
def qIP:Sp:=fun vs H Q _=>∃ d c t ns m,vs=[.ref d,.int m]/\StAt H d c t ns/\t<=TB/\1<=m/\m<=1000000/\∀ k ns' H',0<=k->k<m->StAt H' d c (t+1) ns'->Keep d c H H'->Q (.int k) H'
def qP0 (K:PySem.W.Frag):Sp:=fun vs H Q _=>∃ (a:Addr) (ns:List Int),vs=[.ref a]/\SqL K H a (ns.map V.int)/\ns.length<=63/\∀ d c ms H',StAt H' d c 0 ms->Same H H'->H d=none->H c=none->Q (.ref d) H'
noncomputable def cutI {α:Type} (xs:List α) (lo hi:Option Int):List α:=(xs.drop (HT.sIx xs.length 0 lo)).take (HT.sIx xs.length xs.length hi - HT.sIx xs.length 0 lo)
theorem qDQ {α:Type} (f:α->V) (xs:List α) (lo hi:Option Int):cutV (xs.map f) lo hi=(cutI xs lo hi).map f:=by
 unfold cutV cutI;rw [List.length_map,<- List.map_drop,<- List.map_take]
theorem qFN {α:Type} (xs:List α) (lo hi:Option Int):(cutI xs lo hi).length<=xs.length:=by
 unfold cutI;rw [List.length_take,List.length_drop]
 lia
theorem qT6 (c:Addr) (t:Int):qHH [] [((Sum.inr (Str.ofString "cells"):Key),V.ref c),(Sum.inr (Str.ofString "turn"),V.int t)]=[((Sum.inr (Str.ofString "cells"):Key),V.ref c),(Sum.inr (Str.ofString "turn"),V.int t)]:=by
 unfold qHH;simp only [List.foldl_cons,List.foldl_nil];unfold putK;simp [s_cs]
theorem qUI {xs:List V} {j:Nat} (h:j<xs.length):ixN xs.length (j:Int)=some j:=by
 unfold ixN;rw [if_pos (by lia),if_pos (by lia),Int.toNat_natCast]
def qXG (K:PySem.W.Frag):Sp:=fun vs H Q _=>∃ (a:Addr) (ns:List Int),vs=[.ref a]/\SqL K H a (ns.map V.int)/\ns.length<=63/\∀ H',Q (.bl true) H'
theorem cut {t u:TS} {D:Ends} {σ:St} {H:Hp} (h:∀ N:St->Hp->Prop,(∀ σ H,u D σ H->N σ H)->t { D with nx:=N } σ H):tSeq t u D σ H:=h _ fun _ _ z=>z
theorem opq {A:Prop} (h:∀ G:Prop,(A->G)->G):A:=h A id
structure Rise (k:Int) (zs:List Int):Prop where
 up:zs.Pairwise (·<·)
 in_:∀ x ∈ zs,0<=x/\x<k
theorem Rise.nil {k:Int}:Rise k []:=⟨.nil,fun _ h=>nomatch h⟩
theorem Rise.mono {j k:Int} {zs:List Int} (h:Rise j zs) (l:j<=k):Rise k zs:=⟨h.up,fun x hx=>⟨(h.in_ x hx).1,by have:=(h.in_ x hx).2;lia⟩⟩
theorem Rise.sub {k:Int} {zs ys:List Int} (h:Rise k zs) (s:ys.Sublist zs):Rise k ys:=⟨h.up.sublist s,fun x hx=>h.in_ x (s.subset hx)⟩
theorem Rise.snoc {k:Int} {zs:List Int} (h:Rise k zs) (h0:0<=k):Rise (k+1) (zs++[k]):=by
 refine ⟨List.pairwise_append.mpr ⟨h.up,List.pairwise_singleton _ _,fun a ha b hb=>?_⟩,fun x hx=>?_⟩
 ·rw [List.mem_singleton.mp hb];exact (h.in_ a ha).2
 ·rcases List.mem_append.mp hx with hx | hx
  ·have:=h.in_ x hx;lia
  ·rw [List.mem_singleton.mp hx];lia
theorem Rise.shift {k j:Int} {zs:List Int} (h:Rise k zs) (hj:0<=j):Rise (k+j) (zs.map (·+j)):=by
 refine ⟨List.pairwise_map.mpr (h.up.imp fun {a b} hab=>by lia),fun x hx=>?_⟩
 obtain ⟨y,hy,e⟩:=List.mem_map.mp hx;have:=h.in_ y hy
 lia
theorem Rise.nodup {k:Int} {zs:List Int} (h:Rise k zs):zs.Nodup:=h.up.imp fun {a b} hab=>by lia
theorem Rise.len {zs:List Int} {k:Nat} (h:Rise (k:Int) zs):zs.length<=k:=by
 have sub:zs ⊆ (List.range k).map fun (i:Nat)=>(i:Int):=fun x hx=>by
  have:=h.in_ x hx;exact List.mem_map.mpr ⟨x.toNat,List.mem_range.mpr (by lia),by lia⟩
 have:=List.Nodup.length_le_of_subset h.nodup sub;simpa using this
theorem qS0 {zs:List Int} {k x:Int}:x ∈ addI zs k ↔ x ∈ zs\/x=k:=by
 unfold addI
 split
 ·rename_i h
  constructor
  ·exact .inl
  ·rintro (z | rfl)
   ·exact z
   ·exact h
 ·simp
theorem qU9 {zs:List Int} {k:Int} (h:zs.Nodup):(addI zs k).Nodup:=by
 unfold addI
 split
 ·exact h
 ·rename_i hk
  exact qM9 h hk
theorem qQP:∀ (l zs:List Int),zs.Nodup->(l.foldl addI zs).Nodup/\∀ x,x ∈ l.foldl addI zs ↔ x ∈ zs\/x ∈ l
 | [],zs,h=>⟨h,fun x=>by simp⟩
 | k::r,zs,h=>by
  obtain ⟨a,b⟩:=qQP r (addI zs k) (qU9 h);refine ⟨a,fun x=>?_⟩;rw [List.foldl_cons,b x,qS0,List.mem_cons,or_assoc]
theorem qOJ (l:List Int):(dedI l).Nodup:=(qQP l [] .nil).1
theorem mem_dedI {l:List Int} {x:Int}:x ∈ dedI l ↔ x ∈ l:=by
 have:=(qQP l [] .nil).2 x;unfold dedI;rw [this];simp
theorem qK0 (l:List Int):(dedI l).length<=l.length:=by
 have:=qD4 l [];simpa [dedI] using this
theorem qKW {zs:List Int} (h1:zs.Pairwise (·<=·)) (h2:zs.Nodup):zs.Pairwise (·<·):=by
 have h3:zs.Pairwise (fun a b=>a<=b/\a ≠ b):=List.pairwise_and_iff.mpr ⟨h1,h2⟩;exact h3.imp fun {a b} ⟨x,y⟩=>by lia
theorem qJG {k:Int} {fs zs:List Int} (hp:zs.Perm (dedI fs)) (hs:zs.Pairwise (·<=·)) (h:∀ x ∈ fs,0<=x/\x<k):Rise k zs:=
 ⟨qKW hs (hp.nodup_iff.mpr (qOJ fs)),fun x hx=>h x (mem_dedI.mp (hp.mem_iff.mp hx))⟩
noncomputable def qAS (lo hi:Int):List Int:=(List.range (hi - lo).toNat).map fun (i:Nat)=>lo+i
theorem qM2 (lo hi:Int):qG9 lo hi=(qAS lo hi).map V.int:=by
 unfold qG9 qAS;rw [List.map_map]
 rfl
theorem mem_rangeI {lo hi x:Int}:x ∈ qAS lo hi ↔ lo<=x/\x<hi:=by
 unfold qAS;rw [List.mem_map]
 constructor
 ·rintro ⟨i,hi',e⟩;have:=List.mem_range.mp hi'
  lia
 ·intro h;exact ⟨(x - lo).toNat,List.mem_range.mpr (by lia),by lia⟩
theorem qBI (lo hi:Int):(qAS lo hi).length=(hi - lo).toNat:=by unfold qAS;simp
theorem qP6 (lo hi:Int):(qAS lo hi).Pairwise (·<·):=by
 unfold qAS;exact List.pairwise_map.mpr (List.pairwise_lt_range.imp fun {a b} h=>by lia)
theorem qM3 {lo hi:Int} (h:0<=lo):Rise hi (qAS lo hi):=⟨qP6 _ _,fun x hx=>by have:=mem_rangeI.mp hx;lia⟩
theorem qHW {α:Type} (xs:List α) (k:Nat) (h:k<=xs.length):cutI xs (some (k:Int)) none=xs.drop k:=by
 unfold cutI;rw [HT.sIx_nat,HT.sIx_none,Nat.min_eq_left h];exact List.take_of_length_le (by rw [List.length_drop];exact Nat.le_refl _)
theorem qUT {α:Type} (xs:List α) (k:Nat):cutI xs none (some (k:Int))=xs.take k:=by
 unfold cutI;rw [HT.sIx_nat,HT.sIx_none,List.drop_zero,Nat.sub_zero];rcases Nat.le_total k xs.length with h | h
 ·rw [Nat.min_eq_left h]
 ·rw [Nat.min_eq_right h,List.take_of_length_le h,List.take_of_length_le (Nat.le_refl _)]
abbrev NetL (H:Hp):List Addr->List (List Int)->Prop:=Paired fun r zs=>H r=some (.tup (zs.map V.int))
theorem NetL.keep {d c:Addr} {H H':Hp} {rs:List Addr} {Af:List (List Int)} (h:NetL H rs Af) (hd:∀ r zs,H r=some (.tup zs)->r ≠ d/\r ≠ c) (k:Keep d c H H'):NetL H' rs Af:=by
 induction h with
 | nil=>exact .nil
 | cons r t ih=>exact .cons (k _ _ r (hd _ _ r).1 (hd _ _ r).2) ih
theorem NetL.same {H H':Hp} {rs:List Addr} {Af:List (List Int)} (h:NetL H rs Af) (k:∀ r zs,H r=some (.tup zs)->H' r=some (.tup zs)):NetL H' rs Af:=by
 induction h with
 | nil=>exact .nil
 | cons r t ih=>exact .cons (k _ _ r) ih
theorem NetL.get {H:Hp}:∀ {rs:List Addr} {Af:List (List Int)} {i:Nat} {zs:List Int},NetL H rs Af->Af[i]?=some zs->∃ r,rs[i]?=some r/\H r=some (.tup (zs.map V.int))
 | _,_,_,_,.nil,e=>by simp at e
 | _,_,0,_,.cons r _,e=>by simp at e;subst e;exact ⟨_,rfl,r⟩
 | _,_,i+1,zs,.cons _ t,e=>by
  obtain ⟨r,h1,h2⟩:=NetL.get (i:=i) (zs:=zs) t (by simpa using e)
  exact ⟨r,by simpa using h1,h2⟩
def NetAt (H:Hp) (a:Addr) (Af:List (List Int)):Prop:=∃ rs:List Addr,H a=some (.tup (rs.map V.ref))/\NetL H rs Af
theorem StAt.tup {H:Hp} {d c:Addr} {t:Int} {ns:List Int} (S:StAt H d c t ns) {r:Addr} {zs:List V} (h:H r=some (.tup zs)):r ≠ d/\r ≠ c:=
 ⟨qCR h S.dict (by intro z;cases z),qCR h S.list (by intro z;cases z)⟩
theorem NetAt.keep {H H':Hp} {d c:Addr} {t:Int} {ns:List Int} (S:StAt H d c t ns) {a:Addr} {Af:List (List Int)} (h:NetAt H a Af) (k:Keep d c H H'):NetAt H' a Af:=by
 obtain ⟨rs,h1,h2⟩:=h;exact ⟨rs,k _ _ h1 (S.tup h1).1 (S.tup h1).2,h2.keep (fun r zs e=>S.tup e) k⟩
theorem NetAt.same {H H':Hp} {a:Addr} {Af:List (List Int)} (h:NetAt H a Af) (k:Same H H'):NetAt H' a Af:=by
 obtain ⟨rs,h1,h2⟩:=h;exact ⟨rs,k _ _ h1,h2.same fun r zs e=>k _ _ e⟩
theorem NetAt.len {H:Hp} {rs:List Addr} {Af:List (List Int)} (h:NetL H rs Af):rs.length=Af.length:=Paired.length h
def WFn (Af:List (List Int)):Prop:=∀ (i:Nat) zs,Af[i]?=some zs->Rise (i:Int) zs
theorem WFn.snoc {Af:List (List Int)} {zs:List Int} (h:WFn Af) (hz:Rise (Af.length:Int) zs):WFn (Af++[zs]):=by
 intro i ys e;rcases Nat.lt_trichotomy i Af.length with l | l | l
 ·rw [List.getElem?_append_left l] at e;exact h i ys e
 ·subst l;simp at e;subst e;exact hz
 ·rw [List.getElem?_eq_none (by rw [List.length_append,List.length_singleton];lia)] at e
  cases e
theorem WFn.nil:WFn []:=fun i zs e=>by simp at e
theorem qD0 {α β:Type} {F:α->β->Prop} {a:α} {b:β} {l₁:List α} {l₂:List β} (h:Paired F l₁ l₂) (r:F a b):Paired F (l₁++[a]) (l₂++[b]):=Paired.snoc h r
def qLV:Sp:=fun vs H Q _=>∃ d c t ns k,vs=[.ref d,.int k]/\StAt H d c t ns/\t<=TB - 20/\0<=k/\k<=1000/\
 ∀ r zs t' ns' H',StAt H' d c t' ns'->t<=t'->t'<=t+9->Keep d c H H'->H' r=some (.tup (zs.map V.int))->Rise k zs->Q (.ref r) H'
def qVH:Sp:=fun vs H Q _=>∃ d c t ns m,vs=[.ref d,.int m]/\StAt H d c t ns/\t<=TB - 10000/\1<=m/\m<=400/\
 ∀ a Af t' ns' H',StAt H' d c t' ns'->t<=t'->t'<=t+10 * m+10->Keep d c H H'->NetAt H' a Af->WFn Af->(Af.length:Int)=m->Q (.ref a) H'
def qSX:Sp:=fun vs H Q _=>∃ d c t ns m,vs=[.ref d,.int m]/\StAt H d c t ns/\t<=TB - 1000/\1<=m/\m<=400/\
 ∀ a Af t' ns' H',StAt H' d c t' ns'->t<=t'->t'<=t+m->Keep d c H H'->NetAt H' a Af->WFn Af->(Af.length:Int)=m->Q (.ref a) H'
theorem qXP {a b k:Int} (h0:0<=k) (h1:k<4):∃ v,atI [V.int a,V.int b] (k / 3)=some (.int v)/\(v=a\/v=b):=by
 rcases (by lia:k=0\/k=1\/k=2\/k=3) with rfl | rfl | rfl | rfl
 ·exact ⟨a,rfl,.inl rfl⟩
 ·exact ⟨a,rfl,.inl rfl⟩
 ·exact ⟨a,rfl,.inl rfl⟩
 ·exact ⟨b,rfl,.inr rfl⟩
theorem qXO {k:Int} (h0:0<=k) (h1:k<6):∃ v,atI [V.int 0,V.int 0,V.int 1,V.int 2,V.int 2,V.int 3] k=some (.int v)/\0<=v/\v<=3:=by
 rcases (by lia:k=0\/k=1\/k=2\/k=3\/k=4\/k=5) with rfl | rfl | rfl | rfl | rfl | rfl
 all_goals exact ⟨_,rfl,by decide,by decide⟩
theorem qAB {H Hc:Hp} {p:Addr} {o:HO} (h:Same H Hc) (hp:H p=none):Same H (Ah Hc p o):=fun b u e=>by rw [qA8 (qA5 e hp)];exact h b u e
theorem qGW {d c:Addr} {H Hc:Hp} {p:Addr} {o:HO} (h:Keep d c H Hc) (hp:H p=none):Keep d c H (Ah Hc p o):=fun b u e n1 n2=>by rw [qA8 (qA5 e hp)];exact h b u e n1 n2
theorem qED {H:Hp} {p:Addr} {xs:List V} {o:HO} {rs:List Addr} {Af:List (List Int)} (h:NetL H rs Af) (hp:H p=some (.lst xs)):NetL (Ah H p o) rs Af:=
 h.same fun r zs e=>by rw [qA8 (qCR e hp (by intro z;cases z))];exact e
theorem qAX (rs:List Addr) (r:Addr):rs.map V.ref++[V.ref r]=(rs++[r]).map V.ref:=by rw [List.map_append];rfl
theorem qVO (b:Bool) (x:Int):(List.replicate (if b=true then (1:Int) else 0).toNat [V.int x]).flatten=(if b=true then [x] else []).map V.int:=by cases b <;> rfl
theorem qAG {α β:Type} {F:α->β->Prop}:∀ {l₁:List α} {l₂:List β} {i:Nat} {a:α},Paired F l₁ l₂->l₁[i]?=some a->∃ b,l₂[i]?=some b/\F a b
 | _,_,_,_,.nil,e=>by simp at e
 | _,_,0,_,.cons r _,e=>by simp at e;subst e;exact ⟨_,rfl,r⟩
 | _,_,i+1,a,.cons _ t,e=>by
  obtain ⟨b,h1,h2⟩:=qAG (i:=i) (a:=a) t (by simpa using e)
  exact ⟨b,by simpa using h1,h2⟩
theorem qCL {α β:Type} {F G:α->β->Prop} {l₁:List α} {l₂:List β} (h:Paired F l₁ l₂) (k:∀ a b,F a b->G a b):Paired G l₁ l₂:=by
 induction h with
 | nil=>exact .nil
 | cons r t ih=>exact .cons (k _ _ r) ih
theorem qBG {rs:List Addr} {i:Nat} {x:V} (h:(rs.map V.ref)[i]?=some x):∃ r,rs[i]?=some r/\x=.ref r:=by
 rw [List.getElem?_map] at h;cases e:rs[i]? with
 | none=>rw [e] at h;cases h
 | some r=>rw [e] at h;exact ⟨r,rfl,(Option.some.inj h).symm⟩
theorem qEV {zs:List Int} {i:Nat} {x:V} (h:(zs.map V.int)[i]?=some x):∃ z,zs[i]?=some z/\x=.int z:=by
 rw [List.getElem?_map] at h;cases e:zs[i]? with
 | none=>rw [e] at h;cases h
 | some r=>rw [e] at h;exact ⟨r,rfl,(Option.some.inj h).symm⟩
theorem qMU {α:Type} {l:List α} {a b:α} {j:Nat} (h:(l++[a])[j]?=some b):l[j]?=some b\/(j=l.length/\b=a):=by
 rcases Nat.lt_trichotomy j l.length with z | z | z
 ·rw [List.getElem?_append_left z] at h;exact .inl h
 ·subst z;simp at h;exact .inr ⟨rfl,h.symm⟩
 ·rw [List.getElem?_eq_none (by rw [List.length_append,List.length_singleton];lia)] at h
  cases h
noncomputable def qVA (ns st:List Int) (Aa wk:Int):V:=if wk ∈ st then .str "there" else if ∀ x ∈ ns,x ∈ st then (if Aa<=(st.length:Int) then .str "full" else .non) else .str "needs"
noncomputable def qOT (st:List Int) (wk:Int):V:=if wk ∈ st then .non else .str "empty"
noncomputable def qV9 (ns st:List Int) (Aa:Int) (Ac:Str) (wk:Int):V:=if Ac = "do" then qVA ns st Aa wk else qOT st wk
theorem qBP:¬ (Str.ofString "clear" = Str.ofString "do"):=by decide +kernel
theorem qDV {xs:List V} {i:Int} {x:V} (h0:0<=i) (h:xs[i.toNat]?=some x):atI xs i=some x:=by
 have e:i=((i.toNat:Nat):Int):=by lia
 rw [e];exact qR2 (by simpa using h)
theorem NetAt.get {H:Hp} {a:Addr} {Af:List (List Int)} {ns:List Int} {i:Nat} (h:NetAt H a Af) (e:Af[i]?=some ns):∃ (rs:List Addr) (r:Addr),H a=some (.tup (rs.map V.ref))/\rs.length=Af.length/\(rs.map V.ref)[i]?=some (.ref r)/\H r=some (.tup (ns.map V.int)):=by
 obtain ⟨rs,h1,h2⟩:=h;obtain ⟨r,h3,h4⟩:=h2.get e;exact ⟨rs,r,h1,Paired.length h2,by rw [List.getElem?_map,h3];rfl,h4⟩
def qXA (t:TS):TS:=fun D σ H=>∃ Pm:St->Hp->Prop,t { D with nx:=Pm } σ H/\∀ σ' H',Pm σ' H'->D.nx σ' H'
theorem qP8 {X:Cx} {st:Stmt} {t:TS} (h:PS X st t):PS X st (qXA t):=by
 intro Ab s σ H D I hq;obtain ⟨Pm,h1,h2⟩:=hq;refine thn (h Ab s σ H _ I h1) fun f s' q=>?_;cases f with
 | next=>obtain ⟨σ',H',I',q⟩:=q;exact ⟨σ',H',I',h2 _ _ q⟩
 | brk=>exact q
 | cont=>exact q
 | ret u=>exact q
theorem qWU:bootBuiltins "zip" = some (.type "zip"):=by decide +kernel
def seqO (b:Bool) (xs:List V):HO:=match b with | true=>.tup xs | false=>.lst xs
def Leaf (x:V):Prop:=x=.non\/(∃ i,x=.int i)\/∃ y,x=.str y
def Alike (H:Hp):Nat->V->V->Prop
 | 0,x,y=>x=y/\Leaf x
 | n+1,x,y=>(x=y/\Leaf x)\/∃ (b:Bool) (a c:Addr) (xs ys:List V),x=.ref a/\y=.ref c/\H a=some (seqO b xs)/\H c=some (seqO b ys)/\xs.length=ys.length/\xs.length<=100000/\∀ (i:Nat) (x' y':V),xs[i]?=some x'->ys[i]?=some y'->Alike H n x' y'
theorem SqB.of {b:Bool} {K:PySem.W.Frag} {H:Hp} {a:Addr} {xs:List V} (h:H a=some (seqO b xs)):SqB b K H a xs:=by
 cases b
 ·exact SqL.of h
 ·exact SqT.of h
noncomputable def tyOf (b:Bool):Value:=match b with | true=>.type "tuple" | false=>.type "list"
theorem qCW {b:Bool} {K:PySem.W.Frag} {H:Hp} {a:Addr} {xs:List V} (h:H a=some (seqO b xs)):TyOf K H (.ref a) (tyOf b):=by
 cases b
 ·exact TyOf.lst h
 ·exact TyOf.tup h
section
variable {K:PySem.W.Frag}
theorem qDU (b:Bool):PySem.W.kitOne K (tyOf b) (.type "list")=some (!b):=by cases b <;> rfl
theorem qEM (b:Bool):PySem.W.kitOne K (tyOf b) (.type "tuple")=some b:=by cases b <;> rfl
theorem qW9:PySem.W.kitOne K (.type "str") (.type "list")=some false:=by rfl
theorem qW8:PySem.W.kitOne K (.type "str") (.type "tuple")=some false:=by rfl
theorem qT8:PySem.W.kitOne K (.type "str") (.type "str")=some true:=by rfl
theorem qWC:PySem.W.kitOne K (.type "int") (.type "list")=some false:=by rfl
theorem qWA:PySem.W.kitOne K (.type "int") (.type "tuple")=some false:=by rfl
theorem qWB:PySem.W.kitOne K (.type "int") (.type "str")=some false:=by rfl
theorem qWD:PySem.W.kitOne K (.type "int") (.type "int")=some true:=by rfl
theorem qWE:PySem.W.kitOne K (.type "int") (.type "bool")=some false:=by rfl
end
theorem all_rep {n:Nat}:(List.replicate n true).all id=true:=by simp
theorem qCT {α:Type} {p:α->Bool} {l:List α} {i:Nat} {x:α} (h:l[i]?=some x):(l.take (i+1)).filter p=(l.take i).filter p++(if p x then [x] else []):=by
 rw [List.take_add_one,h,Option.toList_some,List.filter_append];by_cases hp:p x=true
 ·simp [hp]
 ·simp [hp]
def CmpL (x y:V) (b:Bool):Prop:=(x=y/\Leaf x/\b=true)\/(∃ i j,x=.int i/\y=.int j/\b=decide (i=j))\/∃ i j,x=.str i/\y=.str j/\b=decide (i=j)
def CmpH (H:Hp):Nat->V->V->Bool->Prop
 | 0,x,y,b=>CmpL x y b
 | n+1,x,y,b=>CmpL x y b\/∃ (k:Bool) (a c:Addr) (xs ys:List V),x=.ref a/\y=.ref c/\H a=some (seqO k xs)/\H c=some (seqO k ys)/\xs.length<=100000/\
   ((xs.length ≠ ys.length/\b=false)\/xs.length=ys.length/\∃ bs:List Bool,bs.length=xs.length/\b=bs.all id/\∀ (i:Nat) (x' y':V) (b':Bool),xs[i]?=some x'->ys[i]?=some y'->bs[i]?=some b'->CmpH H n x' y' b')
theorem CmpH.same {H H':Hp} (s:Same H H'):∀ {n:Nat} {x y:V} {b:Bool},CmpH H n x y b->CmpH H' n x y b:=by
 intro n
 induction n with
 | zero=>exact fun {x y b} h=>show CmpL x y b from h
 | succ n ih=>
  rintro x y b (h | ⟨k,a,c,xs,ys,e1,e2,h1,h2,hb,h | ⟨hl,bs,l,e,h⟩⟩)
  ·exact .inl h
  ·exact .inr ⟨k,a,c,xs,ys,e1,e2,s _ _ h1,s _ _ h2,hb,.inl h⟩
  ·exact .inr ⟨k,a,c,xs,ys,e1,e2,s _ _ h1,s _ _ h2,hb,.inr ⟨hl,bs,l,e,fun i x' y' b' q1 q2 q3=>ih (h i x' y' b' q1 q2 q3)⟩⟩
theorem Alike.cmp {H:Hp}:∀ {n:Nat} {x y:V},Alike H n x y->CmpH H n x y true:=by
 intro n
 induction n with
 | zero=>exact fun {x y} h=>.inl ⟨h.1,h.2,rfl⟩
 | succ n ih=>
  rintro x y (h | ⟨k,a,c,xs,ys,e1,e2,h1,h2,hl,hb,h⟩)
  ·exact .inl (.inl ⟨h.1,h.2,rfl⟩)
  ·refine .inr ⟨k,a,c,xs,ys,e1,e2,h1,h2,hb,.inr ⟨hl,List.replicate xs.length true,List.length_replicate,all_rep.symm,fun i x' y' b' q1 q2 q3=>?_⟩⟩;rw [List.eq_of_mem_replicate (List.mem_of_getElem? q3)];exact ih (h i x' y' q1 q2)
def qXH (n:Nat):Sp:=fun vs H Q _=>∃ (x y:V) (b:Bool),vs=[x,y]/\CmpH H n x y b/\∀ H',Same H H'->Q (.bl b) H'
def qV1 (x:V) (d:PyData):Prop:=(x=.non/\d=.none)\/(∃ b,x=.bl b/\d=.bool b)\/(∃ i,x=.int i/\d=.int i)\/∃ y,x=.str y/\d=.str y
def seqD (b:Bool) (ds:List PyData):PyData:=match b with | true=>.tuple ds | false=>.list ds
def DatN (H:Hp):Nat->V->PyData->Prop
 | 0,x,d=>qV1 x d
 | n+1,x,d=>qV1 x d\/∃ (b:Bool) (a:Addr) (xs:List V) (ds:List PyData),x=.ref a/\d=seqD b ds/\H a=some (seqO b xs)/\xs.length=ds.length/\∀ (i:Nat) (x':V) (d':PyData),xs[i]?=some x'->ds[i]?=some d'->DatN H n x' d'
theorem DatN.up {H:Hp}:∀ {n:Nat} {x:V} {d:PyData},DatN H n x d->DatN H (n+1) x d:=by
 intro n
 induction n with
 | zero=>exact fun {x d} h=>.inl h
 | succ n ih=>
  rintro x d (h | ⟨b,a,xs,ds,e1,e2,h1,hl,h⟩)
  ·exact .inl h
  ·exact .inr ⟨b,a,xs,ds,e1,e2,h1,hl,fun i x' d' q1 q2=>ih (h i x' d' q1 q2)⟩
end Fw
namespace L2
open PySem PySem.Spec PyProof.Rows Fw
theorem qEZ {n:Nat}:∀ {ds:List PyData},(∀ d ∈ ds,d.depth<=n)->PyData.depthAll ds<=n
 | [],_=>Nat.zero_le _
 | d::ds,h=>by
  show max d.depth (PyData.depthAll ds)<=n;have h1:=h d (List.mem_cons_self ..);have h2:=qEZ (ds:=ds) fun d hd=>h d (List.mem_cons_of_mem _ hd)
  lia
section
variable {X:Cx} {Ab:List (Addr × Obj)} {σ:St} {H:Hp} {s:Shared}
theorem qIR {x:V} {d:PyData} {v:Value} (h:qV1 x d) (r:RelV x v):Reads s.heap v d []/\d.depth=0:=by
 rcases h with ⟨rfl,rfl⟩ | ⟨b,rfl,rfl⟩ | ⟨i,rfl,rfl⟩ | ⟨y,rfl,rfl⟩
 ·cases r;exact ⟨.none,rfl⟩
 ·cases r;exact ⟨.bool _,rfl⟩
 ·obtain ⟨t,rfl⟩:=r;exact ⟨.int _ _,rfl⟩
 ·obtain ⟨t,rfl⟩:=r;exact ⟨.str _ _,rfl⟩
theorem qO0 (I:Inv X Ab σ H s):∀ (n:Nat) {x:V} {d:PyData} {v:Value},DatN H n x d->RelV x v->∃ as,Reads s.heap v d as/\d.depth<=n:=by
 intro n
 induction n with
 | zero=>
  intro x d v h r;obtain ⟨a,b⟩:=qIR (s:=s) h r;exact ⟨[],a,by lia⟩
 | succ n ih=>
  rintro x d v (h | ⟨b,a,xs,ds,rfl,rfl,h1,hl,h⟩) r
  ·obtain ⟨a,b⟩:=qIR (s:=s) h r;exact ⟨[],a,by lia⟩
  ·cases r;have all:∀ {us:List Value} {ys:List V} {es:List PyData},Vals ys us->ys.length=es.length->(∀ (i:Nat) (x':V) (d':PyData),ys[i]?=some x'->es[i]?=some d'->DatN H n x' d')->(∃ as,ReadsAll s.heap us es as)/\∀ e ∈ es,e.depth<=n:=by
    intro us ys es hv
    induction hv generalizing es with
    | nil=>
     intro hl _;cases es with
     | nil=>exact ⟨⟨[],.nil⟩,fun _ z=>nomatch z⟩
     | cons _ _=>cases hl
    | cons r t ih2=>
     intro hl h;cases es with
     | nil=>cases hl
     | cons e es=>
      obtain ⟨as,q1,q2⟩:=ih (h 0 _ _ rfl rfl) r;obtain ⟨⟨bs,q3⟩,q4⟩:=ih2 (by simpa using hl) fun i x' d' e1 e2=>h (i+1) x' d' e1 e2
      refine ⟨⟨as++bs,.cons q1 q3⟩,fun d' hd=>?_⟩;rcases List.mem_cons.mp hd with z | z
      ·rw [z];exact q2
      ·exact q4 d' z
   cases b with
   | false=>
    obtain ⟨its,rv,⟨o,nn,e1,e2,e3,e4⟩,_⟩:=I.list (a:=a) (xs:=xs) (SqL.of h1);obtain ⟨⟨as,q1⟩,q2⟩:=all rv hl h;refine ⟨a::as,.list e1 e2 e4 (by simpa using q1),?_⟩
    show PyData.depthAll ds+1<=n+1;have:=qEZ q2
    lia
   | true=>
    obtain ⟨its,rv,⟨o,e1,e2,nn,e3⟩,_⟩:=I.tuple (a:=a) (xs:=xs) (SqT.of h1);obtain ⟨⟨as,q1⟩,q2⟩:=all rv hl h;refine ⟨as,.tuple e1 e2 e3 (by simpa using q1),?_⟩
    show PyData.depthAll ds+1<=n+1;have:=qEZ q2
    lia
theorem qLI (hg:X.A.guards=some []) (hu:X.A.units+64<cLine):qCV X (.type "str") (fun xs H Q=>∃ (a:Addr) (n:Nat) (d:PyData),xs=[.ref a]/\DatN H n (.ref a) d/\n<=40/\d.showable=true/\d.hasDict=false/\d.shown.length<=sizeLine/\Q (.str d.shown) H):=by
 intro Ab s σ H xs us Q I r h;obtain ⟨a,n,d,rfl,hd,hn,h1,h2,h3,q⟩:=h;obtain ⟨u,rfl,rx⟩:=qDB r;cases rx;obtain ⟨as,hr,dp⟩:=qO0 I n hd (show RelV (.ref a) (.ref a) from rfl);exact str_of_reads hr h1 (PyData.noDict_hsm h2) hg (by lia) (fun _ _ e=>e) (fun h' u tk hk=>⟨.str d.shown,H,I.kept hk,⟨_,rfl⟩,q⟩) h3
end
end L2
namespace L2
open PySem PySem.Spec PyProof.Rows
theorem qGK:fillsNumberSlot (.type "tuple") "mul" = pure false:=
 PySem.fillsNumberSlot_seq (id:="tuple.__mul__") (r:=some (.builtin "tuple.__rmul__")) F.slot_tuple_mul.lookup (by decide +kernel) F.slot_tuple_rmul.lookup (by decide +kernel)
theorem qKI:seqRepeat? (.type "tuple")=pure (some (.builtin "tuple.__mul__")):=by
 unfold seqRepeat?;rw [PySem.seqSlot_of (T:="tuple") (name:="__mul__") (id:="tuple.__mul__") F.slot_tuple_mul.lookup (by decide +kernel),PySem.seqSlot_of (T:="tuple") (name:="__rmul__") (id:="tuple.__rmul__") F.slot_tuple_rmul.lookup (by decide +kernel)]
 rfl
end L2
namespace L2
open PySem PySem.Spec PyProof.Rows
section
variable {X:Cx}
def qVQ (K:PySem.W.Frag):R2:=fun x y H Q=>∃ (a:Addr) (k:Int) (xs:List V),x=.ref a/\y=.int k/\SqT K H a xs/\xs ≠ []/\1<=k/\k<=1000/\xs.length<=1000/\(k=1->Q (.ref a) H)/\(k ≠ 1->∀ p,H p=none->Q (.ref p) (Ah H p (.tup (List.replicate k.toNat xs).flatten)))
theorem qM6:OpR X (binaryOp .Mult) (qVQ X.K):=by
 intro Ab s σ H x y v u Q I rx ry h;obtain ⟨a,k,xs,rfl,rfl,hq,hne,k1,k2,hl,q1,q2⟩:=h;cases rx;obtain ⟨t,rfl⟩:=ry;obtain ⟨its,rv,ht,hz⟩:=I.tuple hq;have hlen:=rv.length;obtain ⟨o,ho,hcl,n,hd⟩:=id ht;refine wpAny_binaryOp_repeat_ref (T:="tuple") (U:="int") (by decide) ht.typeIs (fun s'=>typeIs_int s' k t) qGK F.fills_int_mul F.slot_int_rmul qKI F.slot_int_index.lookup ?_
 refine wpAny_call_entry F.slot_int_rmul (typeIs_int s k t) F.entry_int_rmul ?_ (F.args_int_rmul_2 _ _);show wpAny _ _ (asInt? (.ref a) >>= _) _ _ s;unfold asInt?;refine wpAny_bind (wpAny_bind (wpAny_load ho ?_));rw [hd];refine wpAny_pure ?_;refine wpAny_bind (wpAny_rule ?_);refine wpAny_pure ⟨_,rfl,rfl,ht.typeIs,?_⟩;refine wpAny_call_entry F.slot_tuple_mul ht.typeIs F.entry_tuple_mul ?_ (F.args_tuple_mul_2 _ _);show wpAny _ _ (asIndex (.int k t) >>= _) _ _ s;refine wpAny_bind (wpAny_of_eq (a:=k) rfl ?_);rw [if_neg (by simp;lia)]
 refine wpAny_bind (tupleItemsOf_ ht ?_);have e0:its.toArray.isEmpty=false:=by
  cases its with
  | nil=>cases xs with
   | nil=>exact absurd rfl hne
   | cons _ _=>cases hlen
  | cons _ _=>rfl
 rw [e0];have nl:(its.length:Int) * k<=1000000:=by
  have h1:(its.length:Int)<=1000:=by lia
  have h0:0<=(its.length:Int):=by lia
  have:=Int.mul_le_mul h1 k2 (by lia) (by lia)
  lia
 dsimp only;by_cases hk:k=1
 ·subst hk;rw [if_pos (by rfl)]
  unfold Builtin.Tuple.tupleIsExact;refine wpAny_bind (wpAny_bind (wpAny_typeOf ht.typeIs (wpAny_pure ?_)));rw [if_pos (by rfl)]
  exact wpAny_bind (wpAny_rule (wpAny_pure ⟨_,rfl,.ref a,H,I,rfl,q1 rfl⟩))
 ·rw [if_neg (by simp [hk]),if_neg (by simp;lia),if_neg (by rw [List.size_toArray];lia),if_neg (by unfold Builtin.Tuple.tupleTooMany;rw [sizeLine_eq,List.size_toArray];simp;lia)]
  have f0:=qHS its k.toNat [];rw [List.nil_append] at f0;have ef:List.foldl (fun x1 x2=>x1++x2) #[] (List.replicate k.toNat its.toArray)=(List.replicate k.toNat its).flatten.toArray:=f0;rw [ef];unfold Builtin.Tuple.tupleExact;have hsz:(List.replicate k.toNat its).flatten.length<=1000000:=by
   rw [List.length_flatten,List.map_replicate,List.sum_replicate_nat];have e1:((k.toNat * its.length:Nat):Int)=(its.length:Int) * k:=by rw [Int.natCast_mul,Int.toNat_of_nonneg (by lia),Int.mul_comm]
   lia
  refine wpAny_bind (wpAny_newObj_type (wpAny_pure ⟨_,rfl,?_⟩) ?_)
  ·have lx:(List.replicate k.toNat xs).flatten.length<=1000000:=by
    rw [(rv.rep k.toNat).length];exact hsz
   refine ⟨.ref s.heap.objs.size,_,I.laid (t':=s.toks) (o:=.tup (List.replicate k.toNat xs).flatten) (fun b ob q=>Heap.get?_push_of_some _ q) (Nat.le_refl _) ?_,rfl,q2 hk _ (I.hok.fresh (Nat.le_refl _))⟩;exact ⟨by rw [sizeLine_eq];lia,_,rv.rep k.toNat,IsTup.new _ _⟩
  ·size_fits
end
end L2
namespace Fw
open PySem L2
theorem qFY {α β:Type} {F:α->β->Prop} {a c:List α} {b d:List β} (h:Paired F a b) (k:Paired F c d):Paired F (a++c) (b++d):=by
 induction h with
 | nil=>exact k
 | cons r t ih=>exact .cons r ih
noncomputable def wd (Af:List (List Int)) (st:List Int) (Aa:Int) (m:Str × Int):V:=qV9 ((Af[m.2.toNat]?).getD []) st Aa m.1 m.2
theorem qGN {α:Type} {l:List α} {n:Nat} (h:l.length=n):l.take n=l:=List.take_of_length_le (by lia)
theorem qE5 {p:Int->Bool} {l:List Int} {i:Nat}:((l.take i).filter p).length<=i:=by
 have:=List.length_filter_le p (l.take i);rw [List.length_take] at this
 lia
structure Cnt (n:Nat) (cs:List Int) (seen:List Int):Prop where
 len:cs.length=n
 at_:∀ x:Nat,x<n->∃ c,cs[x]?=some c/\0<=c/\(c=0 ↔ (x:Int) ∉ seen)
theorem qAU {n:Nat} (h:n<=1000000):n<sizeLine:=by rw [sizeLine_eq];lia
inductive Nd (Af:List (List Int)) (Ad:List Int):Int->Prop
 | ask {x:Int}:x ∈ Ad->Nd Af Ad x
 | need {w y:Int} {zs:List Int}:Nd Af Ad w->Af[w.toNat]?=some zs->y ∈ zs->Nd Af Ad y
structure KeysI (Ag:List (Key × V)) (ks:List Int):Prop where
 keys:Ag.map (·.1)=ks.map Sum.inl
 nd:ks.Nodup
structure Fnd (Af:List (List Int)) (Ad ks:List Int) (j:Int):Prop where
 in_:∀ x ∈ ks,(0<=x/\x<(Af.length:Int))/\Nd Af Ad x
 ask:∀ x ∈ Ad,x ∈ ks
 clo:∀ (w:Nat) zs,j<=(w:Int)->(w:Int) ∈ ks->Af[w]?=some zs->∀ y ∈ zs,y ∈ ks
abbrev Mv:=Str × Int
def nd (Af:List (List Int)) (w:Int):List Int:=(Af[w.toNat]?).getD []
def later (Af:List (List Int)) (zs:List Int) (j:Nat) (x:Int):Prop:=∃ v ∈ zs.drop j,x ∈ nd Af v
instance (Af:List (List Int)) (zs:List Int) (j:Nat) (x:Int):Decidable (later Af zs j x):=by unfold later;infer_instance
inductive Run (Af:List (List Int)) (Aa:Int):List Int->List Mv->List Int->Prop
 | nil {s:List Int}:Run Af Aa s [] s
 | do_ {s s' t:List Int} {w:Int} {ms:List Mv}:w ∉ s->(∀ y ∈ nd Af w,y ∈ s)->(s.length:Int)<Aa->s'.Perm (s++[w])->s'.Pairwise (·<·)->Run Af Aa s' ms t->Run Af Aa s (("do",w)::ms) t
 | clear {s t:List Int} {w:Int} {ms:List Mv}:w ∈ s->Run Af Aa (s.filter fun x=>decide (x ≠ w)) ms t->Run Af Aa s (("clear",w)::ms) t
section
variable {Af:List (List Int)} {Ad zs:List Int}
end
def qP1:Sp:=fun vs H Q _=>∃ d c t ns a Af,vs=[.ref d,.ref a]/\StAt H d c t ns/\t<=TB - 100/\NetAt H a Af/\WFn Af/\1<=Af.length/\Af.length<=400/\
 ∀ r ws t' ns' H',StAt H' d c t' ns'->t<=t'->t'<=t+10->Keep d c H H'->H' r=some (.tup (ws.map V.int))->Rise (Af.length:Int) ws->1<=ws.length->Q (.ref r) H'
def Beh (st st':List Int) (Ac:Str) (wk:Int):Prop:=(Ac = "do"->st'.Perm (st++[wk])/\st'.Pairwise (·<=·))/\(Ac = "clear"->st'=st.filter fun x=>decide (x ≠ wk))
inductive Play (Af:List (List Int)) (Aa:Int):List Int->List Mv->List (List Int)->V->Prop
 | nil {st}:Play Af Aa st [] [] .non
 | stop {st m ms w0}:wd Af st Aa m=.str w0->Play Af Aa st (m::ms) [] (.str w0)
 | go {st st' m ms sts v}:wd Af st Aa m=.non->Beh st st' m.1 m.2->Play Af Aa st' ms sts v->Play Af Aa st (m::ms) (st'::sts) v
theorem qJT {α:Type} {p:α->Bool} {l:List α} {i:Nat}:((l.take i).filter p).length<=i:=
 Nat.le_trans (List.length_filter_le _ _) (by rw [List.length_take];lia)
def oV:Option Int->V
 | none=>.non
 | some i=>.int i
theorem qHN (w:Int) (lay:List (Option Int)):inV (.int w) (lay.map oV)=decide (some w ∈ lay):=by
 unfold inV
 induction lay with
 | nil=>simp
 | cons z r ih=>
  rw [List.map_cons,List.any_cons,ih];cases z with
  | none=>simp [oV,eqV]
  | some z=>
   have e:eqV (oV (some z)) (.int w)=decide (w=z):=by
    show (z == w)=decide (w=z);by_cases h:z=w
    ·subst h;simp
    ·have h':¬ w=z:=fun q=>h q.symm;simp [h,h']
   rw [e];simp [List.mem_cons]
theorem qFH (lay:List (Option Int)):(lay.map oV).all qJS=true:=by
 rw [List.all_eq_true];intro x hx;obtain ⟨z,_,rfl⟩:=List.mem_map.mp hx;cases z <;> rfl
structure Mo where
 dk:Bool
 wk:Int
 rm:Int
noncomputable def Mo.vs (m:Mo):List V:=match m.dk with | true=>[.str "do",.int m.wk,.int m.rm] | false=>[.str "clear",.int m.rm]
def Mo.res (m:Mo):Option Int:=match m.dk with | true=>some m.wk | false=>none
structure TIn (H:Hp) (a wd sz la mv:Addr) (Af:List (List Int)) (wides sizes:List Int) (lay:List (Option Int)) (m:Mo) (ns:List Int) (o:Option Int) (s w:Int):Prop where
 net_:NetAt H a Af
 wides_:H wd=some (.tup (wides.map V.int))
 sizes_:H sz=some (.tup (sizes.map V.int))
 lay_:H la=some (.tup (lay.map oV))
 move:H mv=some (.tup m.vs)
 work:m.dk=true->0<=m.wk/\Af[m.wk.toNat]?=some ns/\ns.length<=1000/\wides[m.wk.toNat]?=some w
 rm0:0<=m.rm
 at_:lay[m.rm.toNat]?=some o
 size:sizes[m.rm.toNat]?=some s
 len:lay.length<=1000
theorem TIn.same {H H':Hp} {a wd sz la mv:Addr} {Af:List (List Int)} {wides sizes:List Int} {lay:List (Option Int)} {m:Mo} {ns:List Int} {o:Option Int} {s w:Int} (h:TIn H a wd sz la mv Af wides sizes lay m ns o s w) (k:Same H H'):TIn H' a wd sz la mv Af wides sizes lay m ns o s w:=
 ⟨h.net_.same k,k _ _ h.wides_,k _ _ h.sizes_,k _ _ h.lay_,k _ _ h.move,h.work,h.rm0,h.at_,h.size,h.len⟩
noncomputable def thDo (ns:List Int) (lay:List (Option Int)) (wk:Int) (o:Option Int) (s w:Int):V:=if some wk ∈ lay then .str "there" else if ∀ x ∈ ns,some x ∈ lay then (match o with | some _=>.str "taken" | none=>if s<w then .str "small" else .non) else .str "needs"
noncomputable def qRG (o:Option Int):V:=match o with | some _=>.non | none=>.str "empty"
noncomputable def thW (m:Mo) (ns:List Int) (lay:List (Option Int)) (o:Option Int) (s w:Int):V:=match m.dk with | true=>thDo ns lay m.wk o s w | false=>qRG o
noncomputable abbrev TV (a:Addr) (wd sz la mv:Addr):List V:=[.ref a,.ref wd,.ref sz,.ref la,.ref mv]
def qF3:Sp:=fun vs H Q _=>∃ (la r:Addr) (lay:List (Option Int)) (ns:List Int),vs=[.ref la,.ref r]/\H la=some (.tup (lay.map oV))/\H r=some (.tup (ns.map V.int))/\ns.length<=1000/\∀ H',Same H H'->Q (.bl (decide (∀ x ∈ ns,some x ∈ lay))) H'
def spTh (dk:Bool):Sp:=fun vs H Q _=>∃ (a wd sz la mv:Addr) (Af:List (List Int)) (wides sizes:List Int) (lay:List (Option Int)) (m:Mo) (ns:List Int) (o:Option Int) (s w:Int),vs=TV a wd sz la mv/\TIn H a wd sz la mv Af wides sizes lay m ns o s w/\(dk=true->m.dk=true)/\∀ H',Same H H'->Q (thW m ns lay o s w) H'
def qKC:Sp:=fun vs H Q _=>∃ (la mv:Addr) (lay:List (Option Int)) (m:Mo),vs=[.ref la,.ref mv]/\H la=some (.tup (lay.map oV))/\H mv=some (.tup m.vs)/\0<=m.rm/\m.rm.toNat<lay.length/\lay.length<=1000/\∀ r H',Same H H'->H' r=some (.tup ((lay.set m.rm.toNat m.res).map oV))->Q (.ref r) H'
noncomputable def qBN (n k:Int):List Mo:=(qAS 0 k).flatMap fun rm=>((qAS 0 n).map fun wk=>⟨true,wk,rm⟩)++[⟨false,0,rm⟩]
def MosL (H:Hp) (rs:List Addr) (ms:List Mo):Prop:=Paired (fun r (m:Mo)=>H r=some (.tup m.vs)) rs ms
def qWY (H:Hp) (l:Addr) (ms:List Mo):Prop:=∃ rs,H l=some (.lst (rs.map V.ref))/\MosL H rs ms
theorem MosL.same {H H':Hp} {rs:List Addr} {ms:List Mo} (h:MosL H rs ms) (k:Same H H'):MosL H' rs ms:=qCL h fun r m e=>k _ _ e
theorem MosL.put {H:Hp} {p:Addr} {xs:List V} {o:HO} {rs:List Addr} {ms:List Mo} (h:MosL H rs ms) (hp:H p=some (.lst xs)):MosL (Ah H p o) rs ms:=qCL h fun r m e=>by
 rw [qA8 (qCR e hp (by intro z;cases z))]
 exact e
theorem qHI {n k:Int} {m:Mo} (h:m ∈ qBN n k):0<=m.rm/\m.rm<k/\(m.dk=true->0<=m.wk/\m.wk<n):=by
 obtain ⟨rm,hr,hm⟩:=List.mem_flatMap.mp h;have hb:=mem_rangeI.mp hr;rcases List.mem_append.mp hm with z | z
 ·obtain ⟨wk,hw,rfl⟩:=List.mem_map.mp z;exact ⟨hb.1,hb.2,fun _=>mem_rangeI.mp hw⟩
 ·rw [List.mem_singleton.mp z];exact ⟨hb.1,hb.2,fun e=>nomatch e⟩
def LayOk (n:Int) (lay:List (Option Int)):Prop:=∀ x,some x ∈ lay->0<=x/\x<n
theorem LayOk.set {n:Int} {lay:List (Option Int)} {m:Mo} (h:LayOk n lay) (hm:m.dk=true->0<=m.wk/\m.wk<n):LayOk n (lay.set m.rm.toNat m.res):=fun x hx=>by
 rcases List.mem_or_eq_of_mem_set hx with z | z
 ·exact h x z
 ·unfold Mo.res at z;cases e:m.dk with
  | false=>rw [e] at z;cases z
  | true=>rw [e] at z;cases z;exact hm e
structure TKit (H:Hp) (a wd sz:Addr) (Af:List (List Int)) (wides sizes:List Int):Prop where
 net_:NetAt H a Af
 wf:WFn Af
 n1:1<=Af.length
 n6:Af.length<=6
 wides_:H wd=some (.tup (wides.map V.int))
 lw:wides.length=Af.length
 w9:∀ x ∈ wides,0<=x/\x<=99
 sizes_:H sz=some (.tup (sizes.map V.int))
 k1:1<=sizes.length
 k5:sizes.length<=5
 s9:∀ x ∈ sizes,0<=x/\x<=99
theorem TKit.same {H H':Hp} {a wd sz:Addr} {Af:List (List Int)} {wides sizes:List Int} (T:TKit H a wd sz Af wides sizes) (k:Same H H'):TKit H' a wd sz Af wides sizes:=
 ⟨T.net_.same k,T.wf,T.n1,T.n6,k _ _ T.wides_,T.lw,T.w9,k _ _ T.sizes_,T.k1,T.k5,T.s9⟩
theorem TKit.keep {H H':Hp} {d c a wd sz:Addr} {t:Int} {ns:List Int} {Af:List (List Int)} {wides sizes:List Int} (T:TKit H a wd sz Af wides sizes) (S:StAt H d c t ns) (k:Keep d c H H'):TKit H' a wd sz Af wides sizes:=
 ⟨T.net_.keep S k,T.wf,T.n1,T.n6,k _ _ T.wides_ (S.tup T.wides_).1 (S.tup T.wides_).2,T.lw,T.w9,k _ _ T.sizes_ (S.tup T.sizes_).1 (S.tup T.sizes_).2,T.k1,T.k5,T.s9⟩
theorem TKit.tin {H:Hp} {a wd sz la mv:Addr} {Af:List (List Int)} {wides sizes:List Int} {lay:List (Option Int)} {m:Mo} (T:TKit H a wd sz Af wides sizes) (hl:H la=some (.tup (lay.map oV))) (ll:lay.length=sizes.length) (hm:H mv=some (.tup m.vs)) (hin:m ∈ qBN (Af.length:Int) (sizes.length:Int)) :
  ∃ ns o s w,TIn H a wd sz la mv Af wides sizes lay m ns o s w:=by
 obtain ⟨r0,r1,hw⟩:=qHI hin;have k5:=T.k5;have rl:m.rm.toNat<lay.length:=by lia
 have rs:m.rm.toNat<sizes.length:=by lia
 by_cases e:m.dk=true
 ·obtain ⟨w0,w1⟩:=hw e;have wn:m.wk.toNat<Af.length:=by lia
  have ww:m.wk.toNat<wides.length:=by rw [T.lw];exact wn
  have hns:=List.getElem?_eq_getElem wn;have ln:=(T.wf _ _ hns).len;have n6:=T.n6;exact ⟨_,_,_,_,T.net_,T.wides_,T.sizes_,hl,hm,fun _=>⟨w0,hns,by lia,List.getElem?_eq_getElem ww⟩,r0,List.getElem?_eq_getElem rl,List.getElem?_eq_getElem rs,by lia⟩
 ·exact ⟨[],_,_,0,T.net_,T.wides_,T.sizes_,hl,hm,fun z=>absurd z e,r0,List.getElem?_eq_getElem rl,List.getElem?_eq_getElem rs,by lia⟩
def qLW:Sp:=fun vs H Q _=>∃ (a sz:Addr) (Af:List (List Int)) (sizes:List Int),vs=[.ref a,.ref sz]/\NetAt H a Af/\Af.length<=6/\H sz=some (.tup (sizes.map V.int))/\sizes.length<=5/\
 ∀ l H',Same H H'->H l=none->qWY H' l (qBN (Af.length:Int) (sizes.length:Int))->Q (.ref l) H'
structure Sm (W:Nat) (d:PyData):Prop where
 sh:d.showable=true
 nd:d.hasDict=false
 ls:d.leavesShort 8=true
 wt:d.weight<=W
theorem Sm.mono {V W:Nat} {d:PyData} (h:Sm V d) (l:V<=W):Sm W d:=⟨h.sh,h.nd,h.ls,Nat.le_trans h.wt l⟩
theorem qSZ {W:Nat}:∀ {ds:List PyData},(∀ d ∈ ds,Sm W d)->PyData.showableAll ds=true/\PyData.hasDictAll ds=false/\PyData.leavesShortAll 8 ds=true/\PyData.weightAll ds<=ds.length * (W+1)
 | [],_=>⟨rfl,rfl,rfl,Nat.zero_le _⟩
 | d::ds,h=>by
  have h1:=h d (List.mem_cons_self ..);obtain ⟨a,b,c,e⟩:=qSZ (ds:=ds) fun d hd=>h d (List.mem_cons_of_mem _ hd);refine ⟨?_,?_,?_,?_⟩
  ·show (d.showable && PyData.showableAll ds)=true;rw [h1.sh,a];rfl
  ·show (d.hasDict || PyData.hasDictAll ds)=false;rw [h1.nd,b];rfl
  ·show (d.leavesShort 8 && PyData.leavesShortAll 8 ds)=true;rw [h1.ls,c];rfl
  ·show d.weight+1+PyData.weightAll ds<=(ds.length+1) * (W+1);have:=h1.wt;rw [Nat.succ_mul]
   lia
theorem Sm.seq {W L:Nat} {b:Bool} {ds:List PyData} (h:∀ d ∈ ds,Sm W d) (l:ds.length<=L):Sm (L * (W+1)) (seqD b ds):=by
 obtain ⟨a1,a2,a3,a4⟩:=qSZ h;have l2:ds.length * (W+1)<=L * (W+1):=Nat.mul_le_mul_right _ l;cases b
 ·exact ⟨a1,a2,a3,Nat.le_trans a4 l2⟩
 ·exact ⟨a1,a2,a3,Nat.le_trans a4 l2⟩
theorem qTU:∀ k:_root_.Fin 100,(PyData.showable (.int (k.val:Int)) && PyData.leavesShort 8 (.int (k.val:Int)) && decide (PyData.weight (.int (k.val:Int))<=7))=true:=by decide +kernel
theorem Sm.int {x:Int} (h0:0<=x) (h1:x<=99):Sm 7 (.int x):=by
 have h:=qTU ⟨x.toNat,by lia⟩
 have e:((x.toNat:Nat):Int)=x:=by lia
 simp only [e,Bool.and_eq_true,decide_eq_true_eq] at h;exact ⟨h.1.1,rfl,h.1.2,h.2⟩
theorem Sm.none:Sm 7 .none:=⟨rfl,rfl,rfl,Nat.zero_le _⟩
theorem Sm.shown {W:Nat} {d:PyData} (h:Sm W d) (l:W<=100000):d.shown.length<=sizeLine:=by
 have:=PyData.shown_le 8 (by decide) d h.ls
 have:=h.wt;rw [sizeLine_eq]
 lia
def qL5 (xs:List Int):PyData:=.tuple (xs.map PyData.int)
noncomputable def layD (lay:List (Option Int)):PyData:=.tuple (lay.map fun o=>match o with | some x=>PyData.int x | none=>PyData.none)
noncomputable def netD (Af:List (List Int)):PyData:=.tuple (Af.map qL5)
theorem qK3 {H:Hp} {a:Addr} {xs:List Int} (h:H a=some (.tup (xs.map V.int))):DatN H 1 (.ref a) (qL5 xs):=by
 refine .inr ⟨true,a,_,_,rfl,rfl,h,by rw [List.length_map,List.length_map],fun i x' d' e1 e2=>?_⟩
 obtain ⟨z,hz,rfl⟩:=qEV e1;rw [List.getElem?_map,hz] at e2;cases e2;exact .inr (.inr (.inl ⟨z,rfl,rfl⟩))
theorem qUQ {H:Hp} {a:Addr} {lay:List (Option Int)} (h:H a=some (.tup (lay.map oV))):DatN H 1 (.ref a) (layD lay):=by
 refine .inr ⟨true,a,_,_,rfl,rfl,h,by rw [List.length_map,List.length_map],fun i x' d' e1 e2=>?_⟩
 rw [List.getElem?_map] at e1 e2;cases hz:lay[i]? with
 | none=>rw [hz] at e1;cases e1
 | some o=>
  rw [hz] at e1 e2;cases e1;cases e2;cases o with
  | none=>exact .inl ⟨rfl,rfl⟩
  | some z=>exact .inr (.inr (.inl ⟨z,rfl,rfl⟩))
theorem qUP {H:Hp} {a:Addr} {Af:List (List Int)} (h:NetAt H a Af):DatN H 2 (.ref a) (netD Af):=by
 obtain ⟨rs,h1,h2⟩:=h;refine .inr ⟨true,a,_,_,rfl,rfl,h1,by rw [List.length_map,List.length_map,Paired.length h2],fun i x' d' e1 e2=>?_⟩
 obtain ⟨r,hr,rfl⟩:=qBG e1;obtain ⟨z,hz,g⟩:=qAG h2 hr;rw [List.getElem?_map,hz] at e2;cases e2;exact qK3 g
noncomputable def qOF (Af:List (List Int)) (wides sizes:List Int) (lay:List (Option Int)):PyData:=.list [netD Af,qL5 wides,qL5 sizes,layD lay]
theorem qNM {H:Hp} {l a wd sz la:Addr} {Af:List (List Int)} {wides sizes:List Int} {lay:List (Option Int)} (hl:H l=some (.lst [.ref a,.ref wd,.ref sz,.ref la])) (T:TKit H a wd sz Af wides sizes) (hla:H la=some (.tup (lay.map oV))):DatN H 3 (.ref l) (qOF Af wides sizes lay):=by
 refine .inr ⟨false,l,_,_,rfl,rfl,hl,rfl,fun i x' d' e1 e2=>?_⟩;rcases i with _ | _ | _ | _ | i
 ·cases e1;cases e2;exact qUP T.net_
 ·cases e1;cases e2;exact (qK3 T.wides_).up
 ·cases e1;cases e2;exact (qK3 T.sizes_).up
 ·cases e1;cases e2;exact (qUQ hla).up
 ·simp at e1
end Fw
namespace HT
open PySem PyProof.Rows
section
open PySem.SeqAt
open PySem.AutoSeq1 (wpAny_loadPart')
open PySem.MeetsSeq PySem.MeetsSeq2 PySem.MeetsSeq3
theorem qKX (l b:Addr) (Ae items2:Array Value) (n n2:Nat) (dd dd2:Option Addr) (sl sl2:Array (Option Value)):∀ (vs ws:List Value) (ns ms:List Int) (i:Nat),Ae.toList.drop i=vs->items2.toList.drop i=ws->i<=Ae.size->i<=items2.size->IntsAre vs ns->IntsAre ws ms->
  Meets (Builtin.«list.__eq__.loop» ⟨[.ref l,.ref b,rawInt i,rawInt 0],[]⟩)
   (fun A R s=>s.heap.get? l=some { cls:=.type "list",dict:=dd,data:=.seq Ae n,slots:=sl }/\s.heap.get? b=some { cls:=.type "list",dict:=dd2,data:=.seq items2 n2,slots:=sl2 }/\
    R (.ok (.ret (.bool (lexLt ns ms)))) s):=by
 intro vs
 induction vs with
 | nil=>
  intro ws ns ms i e1 e2 l1 l2 ha hb prog w A R s h;obtain ⟨hp,g,d,tk,os⟩:=s;obtain ⟨hl,hb',h⟩:=h
  wp_walk using wpAny_loadPart' hl,wpAny_loadPart' hb'
  have z1:Ae.size<=i:=by have:=congrArg List.length e1;simp at this;lia
  have hi1:Ae[((i:Nat):Int).toNat]?=none:=by simp;lia
  rw [hi1]
  wp_walk using wpAny_loadPart' hl,wpAny_loadPart' hb'
  show R (.ok (.ret (.bool (decide (Ae.size<items2.size))))) _;cases ha;have e:lexLt [] ms=decide (Ae.size<items2.size):=by
   have hs:ws.length=items2.size - i:=by rw [<- e2];simp
   cases hb with
   | nil=>rw [lexLt_nil_nil];simp at hs;exact (decide_eq_false (by lia)).symm
   | cons c u t=>rw [qIB];simp at hs;exact (decide_eq_true (by lia)).symm
  rw [<- e];exact h
 | cons v vs ih=>
  intro ws ns ms i e1 e2 l1 l2 ha hb prog w A R s h;obtain ⟨hp,g,d,tk,os⟩:=s;obtain ⟨hl,hb',h⟩:=h;have z1:i<Ae.size:=by have:=congrArg List.length e1;simp at this;lia
  have hi1:Ae[((i:Nat):Int).toNat]?=some v:=by
   have:=congrArg (·[0]?) e1;simp at this;simpa using this
  have d1:Ae.toList.drop (i+1)=vs:=by rw [<- List.drop_drop,e1];rfl
  wp_walk using wpAny_loadPart' hl,wpAny_loadPart' hb'
  rw [hi1];cases ha with
  | cons a t ha'=>
  cases hb with
  | nil=>
   have z2:items2.size<=i:=by have:=congrArg List.length e2;simp at this;lia
   have hi2:items2[((i:Nat):Int).toNat]?=none:=by simp;lia
   rw [hi2]
   wp_walk using wpAny_loadPart' hl,wpAny_loadPart' hb'
   show R (.ok (.ret (.bool (decide (Ae.size<items2.size))))) _;rw [qIC] at h;rw [decide_eq_false (by lia)];exact h
  | cons c u hb2=>
   have hi2:items2[((i:Nat):Int).toNat]?=some (.int c u):=by
    have:=congrArg (·[0]?) e2;simp at this;simpa using this
   have z2:i<items2.size:=by have:=congrArg List.length e2;simp at this;lia
   rw [hi2];rw [lexLt_cons] at h;obtain ⟨e,he,hiff⟩:=qSJ A.in1 ⟨hp,g,d,tk,os⟩ a t c u;refine wpAny_bind (he prog w _ _ ?_);cases e with
   | true=>
    rw [if_pos (hiff.mp rfl)] at h
    wp_walk
    have hc:((i:Int)+1)=((i+1:Nat):Int):=by push_cast;rfl
    rw [hc];exact ⟨plainId_quiet plain_eq_loop _,codeAny_builtin entry_eq_loop (by
     rw [Around.under_plainId plain_eq_loop _];exact ih _ _ _ (i+1) d1 (by rw [<- List.drop_drop,e2];rfl) z1 z2 ha' hb2 prog w A R _ ⟨hl,hb',h⟩)⟩
   | false=>
    rw [if_neg (fun z=>by have:=hiff.mpr z;cases this)] at h
    wp_walk using wpAny_loadPart' hl,wpAny_loadPart' hb'
    rw [hi1,hi2];have hri:=rcLt_int A.in1 ⟨hp,g,d,tk,os⟩ a t c u prog w
    wp_walk using hri
    exact h
theorem list_lt_ints (l b:Addr) (Ae items2:Array Value) (n n2:Nat) (dd dd2:Option Addr) (sl sl2:Array (Option Value)) (ns ms:List Int) (hi:IntsAre Ae.toList ns) (hj:IntsAre items2.toList ms) :
  Meets (Builtin.«list.__lt__» ⟨[.ref l,.ref b],[]⟩)
   (fun _ R s=>s.heap.get? l=some { cls:=.type "list",dict:=dd,data:=.seq Ae n,slots:=sl }/\s.heap.get? b=some { cls:=.type "list",dict:=dd2,data:=.seq items2 n2,slots:=sl2 }/\
    R (.ok (.ret (.bool (lexLt ns ms)))) s):=by
 intro prog w A R s h;obtain ⟨hp,g,d,tk,os⟩:=s;obtain ⟨hl,hb,h⟩:=h;have f1:=AutoSeq1.sub_list_list
 wp_walk using wpAny_loadPart' hl,wpAny_loadPart' hb
 exact ⟨plainId_quiet plain_eq_loop _,codeAny_builtin entry_eq_loop (by
  rw [Around.under_plainId plain_eq_loop _];exact qKX l b Ae items2 n n2 dd dd2 sl sl2 _ _ ns ms 0 rfl rfl (Nat.zero_le _) (Nat.zero_le _) hi hj prog w A R _ ⟨hl,hb,h⟩)⟩
end
end HT
namespace L2.G
open PySem PySem.Spec PyProof.Rows PySem.W
def IsLs (h:Heap) (a:Addr) (Ae:Array Value):Prop:=∃ o,h.get? a=some o/\o.cls=.type "list"/\∃ n,o.data=.seq Ae n
section
variable {prog:Program} {w:World} {A:Around} {E:Value->Shared->Prop} {s:Shared}
theorem qKT {x y:Addr} {xs ys:Array Value} {ns ms:List Int} {Q:Bool->Shared->Prop} (hu:A.units<cLine) (hx:IsLs s.heap x xs) (hy:IsLs s.heap y ys) (ix:IntsAre xs.toList ns) (iy:IntsAre ys.toList ms) (h:Q (HT.lexLt ns ms) s):wpAny (model prog w) A (oneLt' true (.ref x) (.ref y)) Q E s:=by
 rw [oneLt'_eq];simp only [if_true];obtain ⟨⟨cls,dd,data,sl⟩,ho,hc,n,hd⟩:=id hx;obtain ⟨⟨cls2,dd2,data2,sl2⟩,ho2,hc2,n2,hd2⟩:=id hy;simp only at hc hd hc2 hd2;subst hc hd hc2 hd2;refine wpAny_bind (wpAny_cRoomFor hu ?_);refine wpAny_bind (wpAny_callSpecialIfBound?_slot ⟨_,ho,rfl⟩ PySem.F.slot_list_lt (call_meets PySem.F.slot_list_lt ⟨_,ho,rfl⟩ PySem.F.entry_list_lt (PySem.F.args_list_lt_2 _ _) (HT.list_lt_ints x y xs ys n n2 dd dd2 sl sl2 ns ms ix iy) ⟨ho,ho2,?_⟩));exact wpAny_truthy_bool h
theorem qNE {rs:List Addr} {Q:SortKind->Shared->Prop} (h:∀ r ∈ rs,∃ xs:Array Value,IsLs s.heap r xs) (h2:2<=rs.length) (q:Q oneType' s):wpAny (model prog w) A (keyKind' (rs.map Value.ref).toArray) Q E s:=by
 refine PySem.W.kas_kind (T:=.type "list") (by simpa using h2) (fun v hv=>?_) (by decide) (by decide) q
 obtain ⟨r,hr,rfl⟩:=List.mem_map.mp hv;obtain ⟨xs,o,ho,hc,n,hd⟩:=h r hr;rw [<- hc];exact (PySem.W.Looks.ld ho).andThen .now
end
def qCX (H:Hp):Value->List Int
 | .ref r=>match H r with
  | some (.lst xs)=>qQ8 xs
  | _=>[]
 | _=>[]
@[reducible] def lstNM (H:Hp) (L:List (List Int)):NM:=⟨fun v=>qDG L (qCX H v),fun v=>∃ r t,v=.ref r/\H r=some (.lst (t.map V.int))/\t ∈ L⟩
theorem qCH {H:Hp} {r:Addr} {t:List Int} (h:H r=some (.lst (t.map V.int))):qCX H (.ref r)=t:=by
 show (match H r with | some (.lst xs)=>qQ8 xs | _=>[])=t
 rw [h];exact qQ7 t
section
variable {X:Cx}
abbrev LstsAt (H:Hp) (rs:List Addr) (ts:List (List Int)):Prop:=Paired (fun (r:Addr) (t:List Int)=>H r=some (.lst (t.map V.int))) rs ts
theorem qNC {H:Hp}:∀ {rs:List Addr} {ts:List (List Int)},LstsAt H rs ts->ts=rs.map fun r=>qCX H (.ref r)
 | _,_,.nil=>rfl
 | _,_,.cons h t=>by rw [List.map_cons,qCH h,<- qNC t]
theorem qPR {H:Hp}:∀ {rs:List Addr},(∀ r ∈ rs,∃ t:List Int,H r=some (.lst (t.map V.int)))->LstsAt H rs (rs.map fun r=>qCX H (.ref r))
 | [],_=>.nil
 | r::rs,h=>by
  obtain ⟨t,e⟩:=h r (by simp)
  exact .cons (by dsimp only;rw [qCH e];exact e) (qPR fun r hr=>h r (List.mem_cons_of_mem _ hr))
theorem qEF {H:Hp}:∀ {rs:List Addr} {ts:List (List Int)},LstsAt H rs ts->∀ {r:Addr},r ∈ rs->∃ t,t ∈ ts/\H r=some (.lst (t.map V.int))
 | _,_,.nil,_,h=>nomatch h
 | _,_,.cons (b:=t) g T,r,h=>by
  rcases List.mem_cons.mp h with e | e
  ·exact ⟨t,by simp,by rw [e];exact g⟩
  ·obtain ⟨t,h1,h2⟩:=qEF T e;exact ⟨t,List.mem_cons_of_mem _ h1,h2⟩
theorem qKE {Ab:List (Addr × Obj)} {s:Shared} {σ:St} {H:Hp} {Q:VK} {A:Around} {E:Value->Shared->Prop} {rs:List Addr} {ts:List (List Int)} {D:Addr} (I:Inv X Ab σ (Ah H D (.lst (rs.map V.ref))) s) (hD:H D=none) (T:LstsAt H rs ts)
  (hu:A.units+8<cLine)
  (q:∀ rs' ts',rs'.Perm rs->LstsAt H rs' ts'->ts'.Perm ts->ts'.Pairwise (fun a b=>HT.lexLt b a=false)->Q (.ref D) (Ah H D (.lst (rs'.map V.ref)))) :
  wpAny (model X.prog X.w) A (call (.builtin "list.sort") [.ref D]) (fun _ s'=>EP X Ab σ Q (.ref D) s') E s:=by
 obtain ⟨z,its,n,rv,hl,e⟩:=I.lstM qA1;have ei:=qDA rv;subst ei;have hz:(rs.map Value.ref).length<=sizeLine:=by simpa using z
 letI:NM:=lstNM H ts
 have gd:∀ v ∈ rs.map Value.ref,NM.good v:=fun v hv=>by
  obtain ⟨r,hr,rfl⟩:=List.mem_map.mp hv;obtain ⟨t,ht,g⟩:=qEF T hr;exact ⟨r,t,rfl,g,ht⟩
 have tat:∀ (h':Heap),(∀ (b:Addr) (o:Obj),b ≠ D->s.heap.get? b=some o->h'.get? b=some o)->∀ (r:Addr) (t:List Int),H r=some (.lst (t.map V.int))->∃ xs:Array Value,IsLs h' r xs/\IntsAre xs.toList t:=by
  intro h' kept r t g;have nr:r ≠ D:=qA5 g hD;obtain ⟨its,r1,pl,_⟩:=I.list (SqL.of (show (Ah H D (.lst (rs.map V.ref))) r=some (.lst (t.map V.int)) by rw [qA8 nr];exact g))
  obtain ⟨o,ho,hc,n,hd⟩:=pl.isList;exact ⟨its.toArray,⟨o,kept r o nr ho,hc,n,hd⟩,qJ0 r1⟩
 have lt_ok:∀ (A':Around) (h':Heap) (κ:SortKind),(∀ (x y:Addr) (xs ys:Array Value) (ns ms:List Int) (Q:Bool->Shared->Prop) (E:Value->Shared->Prop),IsLs h' x xs->IsLs h' y ys->IntsAre xs.toList ns->IntsAre ys.toList ms->Q (HT.lexLt ns ms) { s with heap:=h' }->wpAny (model X.prog X.w) A' (keyLt' κ (.ref x) (.ref y)) Q E { s with heap:=h' })->
   (∀ (b:Addr) (o:Obj),b ≠ D->s.heap.get? b=some o->h'.get? b=some o)->LtOk X.prog X.w A' { s with heap:=h' } κ:=by
  intro A' h' κ rule kept;refine ⟨fun {x y Q E} hx hy h=>?_⟩;obtain ⟨r1,t1,rfl,g1,m1⟩:=hx;obtain ⟨r2,t2,rfl,g2,m2⟩:=hy;obtain ⟨xs,i1,j1⟩:=tat h' kept r1 t1 g1;obtain ⟨ys,i2,j2⟩:=tat h' kept r2 t2 g2;refine rule r1 r2 xs ys t1 t2 Q E i1 i2 j1 j2 ?_;have e1:NM.nm (Value.ref r1)=qDG ts t1:=by show qDG ts (qCX H (.ref r1))=_;rw [qCH g1]
  have e2:NM.nm (Value.ref r2)=qDG ts t2:=by show qDG ts (qCX H (.ref r2))=_;rw [qCH g2]
  rw [e1,e2,qGT m1 m2] at h;exact h
 have fin:∀ out:Array Value,out.toList.Perm (rs.map Value.ref)->out.toList.Pairwise (fun u v=>NM.nm u<=NM.nm v)->EP X Ab σ Q (.ref D) { s with heap:=sortedHeap s.heap D (rs.map Value.ref) out }:=by
  intro out p1 p2;have refs:∀ v ∈ out.toList,∃ a,v=Value.ref a:=fun v hv=>by
   obtain ⟨r,_,er⟩:=List.mem_map.mp (p1.mem_iff.mp hv);exact ⟨r,er.symm⟩
  have back:=qKJ refs;have p3:(out.toList.map qGG).Perm rs:=by
   have:=p1.map qGG;rw [List.map_map] at this;have e:rs.map (qGG ∘ Value.ref)=rs:=(List.map_congr_left fun x _=>rfl).trans (List.map_id _)
   rwa [e] at this
  obtain ⟨e2,hat⟩:=sortedHeap_at (vs:=rs.map Value.ref) (out:=out) e;have T':LstsAt H (out.toList.map qGG) ((out.toList.map qGG).map fun r=>qCX H (.ref r)):=qPR fun r hr=>by
   obtain ⟨t,_,g⟩:=qEF T (p3.mem_iff.mp hr);exact ⟨t,g⟩
  have p4:((out.toList.map qGG).map fun r=>qCX H (.ref r)).Perm ts:=by
   have:=p3.map fun r=>qCX H (.ref r);rw [<- qNC T] at this;exact this
  have p5:((out.toList.map qGG).map fun r=>qCX H (.ref r)).Pairwise (fun a b=>HT.lexLt b a=false):=by
   rw [<- back,List.pairwise_map] at p2;rw [List.pairwise_map];refine p2.imp_of_mem fun {a b} ha hb le=>?_;have ma:qCX H (.ref a) ∈ ts:=p4.mem_iff.mp (List.mem_map.mpr ⟨a,ha,rfl⟩);have mb:qCX H (.ref b) ∈ ts:=p4.mem_iff.mp (List.mem_map.mpr ⟨b,hb,rfl⟩);have le:qDG ts (qCX H (.ref a))<=qDG ts (qCX H (.ref b)):=le;rw [<- qGT mb ma];exact decide_eq_false (by lia)
  refine ⟨.ref D,Ah H D (.lst ((out.toList.map qGG).map V.ref)),?_,rfl,q _ _ p3 T' p4 p5⟩;have hu:Ah (Ah H D (.lst (rs.map V.ref))) D (.lst ((out.toList.map qGG).map V.ref))=Ah H D (.lst ((out.toList.map qGG).map V.ref)):=qH6;rw [<- hu];refine I.write (x:=D) (e:=D) (t':=s.toks) (by rw [qA1];exact trivial) (.inl rfl) (fun b u hb hbu=>?_) ⟨_,hat⟩ ?_
  ·rw [sortedHeap_old hb (Heap.lt_size hbu)];exact hbu
  ·refine ⟨?_,out.toList,e2,?_,by simpa using hat⟩
   ·rw [List.length_map,p3.length_eq];simpa using z
   ·have:=qH4 (out.toList.map qGG);rw [back] at this;exact this
 refine wpAny_call_entry slot_list_sort ⟨_,e,rfl⟩ entry_list_sort (qRI (κ0:=oneType') (n:=n) e hz gd (fun h' kept h2=>⟨fun {Q} hq=>?_,lt_ok _ h' _ (fun x y xs ys ns ms Q E i1 i2 j1 j2 hq=>?_) kept⟩) fun out p1 p2=>⟨_,rfl,fin out p1 p2⟩) (args_list_sort _)
 ·refine qNE (s:={ s with heap:=h' }) (fun r hr=>?_) (by simpa using h2) hq
  obtain ⟨t,_,g⟩:=qEF T hr;obtain ⟨xs,i,_⟩:=tat h' kept r t g;exact ⟨xs,i⟩
 ·rw [keyLt'_oneType];exact qKT (s:={ s with heap:=h' }) (by first | exact Nat.lt_of_le_of_lt (by show _<=A.units+8;simp [Around.in1]) hu | (show A.units+1<cLine;lia) | (show A.units<cLine;lia)) i1 i2 j1 j2 hq
theorem qKD {Ab:List (Addr × Obj)} {σ:St} {H:Hp} {Q:VK} {rs:List Addr} {ts:List (List Int)} (hu:X.A.units+64<cLine) {s1:Shared} (I1:Inv X Ab σ H s1) (T:LstsAt H rs ts) (hz:rs.length<=sizeLine)
  (q:∀ a rs' ts',H a=none->rs'.Perm rs->LstsAt H rs' ts'->ts'.Perm ts->ts'.Pairwise (fun a b=>HT.lexLt b a=false)->Q (.ref a) (Ah H a (.lst (rs'.map V.ref)))):wpAny (model X.prog X.w) X.A.in1 (do
   let l <- newList (rs.map Value.ref)
   let _ <- holding [l] (call (.builtin "list.sort") [l] [])
   ret l) (fun fin s'=>∃ r,fin=.done (.ret r)/\EP X Ab σ Q r s') X.xe s1:=by
 refine wpAny_bind (wpAny_newList ?_ (by rw [List.length_map];exact hz))
 have hf:=I1.hok.fresh (Nat.le_refl s1.heap.objs.size);have I2:=I1.laid (a:=s1.heap.objs.size) (t':=s1.toks) (o:=.lst (rs.map V.ref)) (h':=s1.heap.push { cls:=.type "list",data:=.seq (rs.map Value.ref).toArray }) (fun b u e=>Heap.get?_push_of_some _ e) (Nat.le_refl _) ⟨by rw [List.length_map];exact hz,_,0,qH4 rs,Heap.get?_push_size _ rfl⟩
 refine wpAny_bind (wpAny_holding (wpAny_mono (qKE (E:=X.xe) I2 hf T (by show X.A.units+1+8<cLine;lia) fun rs' ts' a b c d=>q _ rs' ts' hf a b c d) (fun _ s' x=>?_) fun _ _ e=>e))
 exact wpAny_pure ⟨_,rfl,x⟩
theorem call_sortedLL (hc:X.calm=true) (hu:X.A.units+64<cLine):qCV X (.builtin "sorted") (fun xs H Q=>∃ p rs ts,xs=[.ref p]/\SqL X.K H p (rs.map V.ref)/\LstsAt H rs ts/\
  ∀ a rs' ts',H a=none->rs'.Perm rs->LstsAt H rs' ts'->ts'.Perm ts->ts'.Pairwise (fun a b=>HT.lexLt b a=false)->Q (.ref a) (Ah H a (.lst (rs'.map V.ref)))):=by
 intro Ab s σ H xs us Q I r h;obtain ⟨p,rs,ts,rfl,hq,T,q⟩:=h;obtain ⟨u,rfl,rx⟩:=qDB r;cases rx;refine Calls.call_function_entry kind_sorted plain_sorted entry_sorted (args_sorted1 _) ?_;unfold Builtin.«sorted»;refine wpAny_bind (m:=checkCount "sorted" 1 1 _) (wpAny_pure ?_);obtain ⟨its,rv,pl,hz⟩:=I.list hq;obtain ⟨o,ho,hc',n,hd⟩:=pl.isList;have hlen:=rv.length;have ei:=qDA rv;subst ei;refine wpAny_bind (wpAny_collect_seq p (.inl rfl) ho hc' hd (fun h' hk=>?_) (by rw [List.size_toArray,<- hlen];exact hz))
 have:=qKD (s1:={ s with heap:=h' }) hu (I.kept (t':=s.toks) hk) T (by rw [List.length_map] at hz;exact hz) q
 exact this
end
section
variable {X:Cx} {Ab:List (Addr × Obj)} {σ:St} {k0:Nat} {f:Addr} {fd:FuncData} {p:Str} {sp:Sp} {H0:Hp} {xs:List V} {ks:List (List Int)} {Q:VK} {l:Addr}
structure KeyDf (sp:Sp) (H0:Hp) (xs:List V) (ks:List (List Int)):Prop where
 len:ks.length=xs.length
 key:∀ (i:Nat) (x:V) (k:List Int),xs[i]?=some x->ks[i]?=some k->∀ H,Sm0 H0 H->sp [x] H (fun y H'=>Sm0 H H'/\∃ r,y=.ref r/\H' r=some (.lst (k.map V.int))) E0
theorem qS5 {A:Around} {s:Shared} {H:Hp} {it S:Addr} {i:Nat} {x:V} {k:List Int} {u:Value} (F:FnOk X.prog X.w X.K X.mg X.base CX0 k0 f fd [p] sp) (rm:Room k0 A) (hA:A.frames=some X.stack) (hb:Binds X.K fd [p] [])
  (KA:KeyDf sp H0 xs ks) (I:Inv X Ab σ H s) (sm:Sm0 H0 H) (hx:xs[i]?=some x) (hk:ks[i]?=some k) (rx:RelV x u) (fi:FpOk X Ab H it) (fS:FpOk X Ab H S) {oi oS:Obj} (gi:s.heap.get? it=some oi) (gS:s.heap.get? S=some oS) {Q':Value->Shared->Prop} {E:Value->Shared->Prop}
  (h:∀ v y H' s',Inv X Ab σ H' s'->Sm0 H H'->RelV y v->(∃ r,y=.ref r/\H' r=some (.lst (k.map V.int)))->FpOk X Ab H' it->FpOk X Ab H' S->s'.heap.get? it=some oi->s'.heap.get? S=some oS->Q' v s'):wpAny (model X.prog X.w) A (call (.ref f) [u]) Q' E s:=by
 have e0:Env0 X.prog X.w X.K X.mg X.base A X.stack s H:=⟨hA,I.ok.mod,I.bs,Nat.le_trans I.ok.bsz I.sz,I.stack,I.stkFree,I.hok,I.bare⟩;refine wpAny_call (codeAny_mono (F.run A X.stack s H ⟨[u],[]⟩ [u] [x] _ _ rm e0 (hb s [u] I.kIn rfl) (.cons rx .nil) (KA.key i x k hx hk H sm)) fun r s' hq=>?_);cases r with
 | error e=>exact hq.elim
 | ok fl=>
  cases fl with
  | ret v=>
   obtain ⟨y,H',os,bare,un,hok,ry,sm',kr⟩:=hq;have I':Inv X Ab σ H' s':=I.call' (ch:=[]) os un hok bare (fun b hb=>absurd hb (by simp))
   exact h v y H' s' I' sm' ry kr (fi.to (un.free it oi gi fi.1 (by simp))) (fS.to (un.free S oS gS fS.1 (by simp))) (un.keep it oi gi fi.1 (I.fpStk fi) (by simp)) (un.keep S oS gS fS.1 (I.fpStk fS) (by simp))
  | next=>exact hq.elim
  | brk=>exact hq.elim
  | cont=>exact hq.elim
def qTJ (X:Cx) (Ab:List (Addr × Obj)) (σ:St) (H0:Hp) (ks:List (List Int)) (kS D:Addr) (oD:Obj) (j:Nat) (s:Shared):Prop:=
 ∃ (H:Hp) (rs:List Addr) (c:Nat),Inv X Ab σ H s/\Sm0 H0 H/\FpOk X Ab H kS/\FpOk X Ab H D/\s.heap.get? kS=some (seqObj "list" (rs.map Value.ref).toArray c)/\s.heap.get? D=some oD/\LstsAt H rs (ks.take j)
theorem qLX {A:Around} {s:Shared} {us:List Value} {kS D:Addr} {e1:Nat} {P:Fin->Shared->Prop} {E:Value->Shared->Prop} (F:FnOk X.prog X.w X.K X.mg X.base CX0 k0 f fd [p] sp) (rm:Room k0 A) (hA:A.frames=some X.stack) (hb:Binds X.K fd [p] []) (KA:KeyDf sp H0 xs ks) (rv:Vals xs us) (hz:us.length<=20000) (hkD:kS ≠ D)
  (h0:qTJ X Ab σ H0 ks kS D (seqObj "list" #[] e1) 0 s)
  (h:∀ (H:Hp) (s':Shared) (zs:List (List Int × V)) (out:List Value) (n:Nat),Inv X Ab σ H s'->Sm0 H0 H->FpOk X Ab H D->zs.Perm (ks.zip xs)->zs.Pairwise (fun a b=>HT.lexLt b.1 a.1=false)->Vals (zs.map (·.2)) out->s'.heap.get? D=some (seqObj "list" out.toArray n)->P (.done (.ret .none)) s') :
  wpAny (model X.prog X.w) A (ksk_rest D (.ref f) false us.toArray e1 (.ref kS)) P E s:=by
 have lu:=rv.length;have lk:=KA.len;unfold ksk_rest;refine wpAny_bind (wpAny_rule ?_)
 first
  | rw [List.forIn_toArray]
  | (rw [<- Array.forIn_toList];simp only [List.toList_toArray])
  | rw [<- Array.forIn_toList]
 refine wpAny_bind (ksk_fold (fun j s'=>qTJ X Ab σ H0 ks kS D (seqObj "list" #[] e1) j s') us 0 s h0 (fun j u s' hu hK=>?_) fun s' hK=>?_)
 ·rw [Nat.zero_add] at hK ⊢;obtain ⟨H,rs,c,I,sm,fk,fD,gk,gD,T⟩:=hK;have hj:j<us.length:=(List.getElem?_eq_some_iff.mp hu).1;have hjx:j<xs.length:=by lia
  have hjk:j<ks.length:=by lia
  have hx:=List.getElem?_eq_getElem hjx;have hk:=List.getElem?_eq_getElem hjk;obtain ⟨u',hu',ru⟩:=rv.get hx;rw [hu] at hu';cases hu';have lT:rs.length=(ks.take j).length:=Paired.length T;rw [List.length_take] at lT;refine wpAny_bind (wpAny_attempt (qS5 F rm hA hb KA I sm hx hk ru fk fD gk gD fun v y H' s2 I2 sm2 ry ⟨r,ey,gr⟩ fk2 fD2 gk2 gD2=>?_));subst ey;cases ry;have ea:((rs.map Value.ref).toArray).push (.ref r)=((rs++[r]).map Value.ref).toArray:=by simp
  obtain ⟨c2,hc2⟩:∃ c2,(s2.heap.update kS (Obj.mapSeq (·.push (.ref r)))).get? kS=some (seqObj "list" ((rs++[r]).map Value.ref).toArray c2):=⟨_,by rw [<- ea];exact get?_update_seq gk2 (·.push (.ref r))⟩
  try dsimp only
  refine wpAny_bind (listUpdate_at gk2 rfl ?_ (by rw [List.size_toArray,List.length_map,sizeLine_eq];lia) (Nat.le_trans (Nat.le_of_eq (Array.size_push ..)) (by rw [List.size_toArray,List.length_map,sizeLine_eq];lia)))
  refine wpAny_pure ⟨rfl,H',rs++[r],c2,Inv.off I2 fk2 (fun b o hb e=>(Heap.get?_update_other _ _ (Ne.symm hb)).trans e),fun b o e=>sm2 b o (sm b o e),fk2,fD2,hc2,(Heap.get?_update_other _ _ hkD).trans gD2,?_⟩;rw [List.take_add_one,hk,Option.toList_some];have T2:LstsAt H' rs (ks.take j):=Paired.mapP T fun _ _ z=>sm2 _ _ z;exact Paired.snoc T2 gr
 ·rw [Nat.zero_add] at hK;obtain ⟨H,rs,c,I,sm,fk,fD,gk,gD,T⟩:=hK;rw [List.take_of_length_le (by lia)] at T
  have lr:rs.length=ks.length:=Paired.length T
  try dsimp only
  refine wpAny_bind (listItems_at gk rfl ?_);unfold ksk_end;dsimp only;simp only [Bool.false_eq_true,if_false]
  -- the triples
  have ez:((rs.map Value.ref).toArray.zip us.toArray).toList=(rs.zip (xs.zip us)).map fun t=>((Value.ref t.1,t.2.2):Keyed):=by
   rw [Array.toList_zip];show (rs.map Value.ref).zip us=_;have:∀ (rs:List Addr) (xs:List V) (us:List Value),rs.length=xs.length->xs.length=us.length->(rs.map Value.ref).zip us=(rs.zip (xs.zip us)).map fun t=>((Value.ref t.1,t.2.2):Keyed):=by
    intro rs
    induction rs with
    | nil=>intro xs us _ _;rfl
    | cons r rs ih=>
     intro xs us h1 h2
     match xs,us,h1,h2 with
     | x::xs,u::us,h1,h2=>
      rw [List.map_cons,List.zip_cons_cons,List.zip_cons_cons,List.zip_cons_cons,List.map_cons,ih xs us (by simpa using h1) (by simpa using h2)]
     | [],_,h1,_=>simp at h1
     | _::_,[],_,h2=>simp at h2
   exact this rs xs us (by lia) (by lia)
  have tz:(rs.zip (xs.zip us)).map (fun t=>(qCX H (.ref t.1),t.2.1))=ks.zip xs:=by
   have:∀ (rs:List Addr) (ks:List (List Int)) (xs:List V) (us:List Value),LstsAt H rs ks->rs.length=xs.length->xs.length=us.length->(rs.zip (xs.zip us)).map (fun t=>(qCX H (.ref t.1),t.2.1))=ks.zip xs:=by
    intro rs ks xs us T
    induction T generalizing xs us with
    | nil=>intro _ _;rfl
    | @cons r k l1 l2 g _ ih=>
     intro h1 h2
     match xs,us,h1,h2 with
     | x::xs,u::us,h1,h2=>
      rw [List.zip_cons_cons,List.zip_cons_cons,List.zip_cons_cons,List.map_cons,qCH g,ih xs us (by simpa using h1) (by simpa using h2)]
     | [],_,h1,_=>simp at h1
     | _::_,[],_,h2=>simp at h2
   exact this rs ks xs us T (by lia) (by lia)
  have relT:∀ t ∈ rs.zip (xs.zip us),RelV t.2.1 t.2.2:=by
   intro t ht;obtain ⟨i,hi⟩:=List.getElem?_of_mem ht;rw [List.getElem?_zip_eq_some] at hi;have h2:=hi.2;rw [List.getElem?_zip_eq_some] at h2;obtain ⟨u,hu,ru⟩:=rv.get h2.1;rw [hu] at h2;have:=Option.some.inj h2.2;rw [<- this];exact ru
  have memT:∀ t ∈ rs.zip (xs.zip us),∃ k,k ∈ ks/\H t.1=some (.lst (k.map V.int)):=fun t ht=>qEF T (List.of_mem_zip ht).1
  letI:NM:=lstNM H ks
  have fin:∀ arr:Array Keyed,arr.Perm ((rs.map Value.ref).toArray.zip us.toArray)->gSortedTo arr arr.size->wpAny (model X.prog X.w) A (ksk_tail D false e1 (.ref kS) (SortSt.mk' (oneType') arr #[] 7 none)) P E s'->True:=fun _ _ _ _=>trivial;have tail:∀ (st:SortSt),(arrOf st).Perm ((rs.map Value.ref).toArray.zip us.toArray)->gSortedTo (arrOf st) (arrOf st).size->failedOf st=none->wpAny (model X.prog X.w) A (ksk_tail D false e1 (.ref kS) st) P E s':=by
   intro st pm so fl;obtain ⟨L',p1,p2⟩:=perm_map_inv (Array.perm_iff_toList_perm.mp pm) (rs.zip (xs.zip us)) ez;unfold ksk_tail;dsimp only;refine wpAny_bind (listUpdate_at gk rfl ?_ (by rw [List.size_toArray,List.length_map,sizeLine_eq];lia) (Nat.zero_le _))
   refine wpAny_bind (wpAny_letGo ?_);have gD2:(s'.heap.update kS (Obj.mapSeq fun _=>(#[]:Array Value))).get? D=some (seqObj "list" #[] e1):=(Heap.get?_update_other _ _ hkD).trans gD;have I2:=Inv.off (h':=s'.heap.update kS (Obj.mapSeq fun _=>(#[]:Array Value))) I fk (fun b o hb e=>(Heap.get?_update_other _ _ (Ne.symm hb)).trans e);refine wpAny_bind (seqEpoch_at gD2 rfl ?_);have la:(arrOf st).size=us.length:=by
    have:=pm.size_eq;rw [this];simp
    lia
   refine wpAny_bind (listUpdate_at gD2 rfl ?_ (Nat.zero_le _) (by simp only [Bool.false_eq_true,if_false];rw [Array.size_map,la,sizeLine_eq];lia))
   simp only [Bool.false_eq_true,if_false];rw [fl];simp only [bne_self_eq_false,Bool.false_eq_true,if_false];obtain ⟨n2,hn2⟩:∃ n2,((s'.heap.update kS (Obj.mapSeq fun _=>(#[]:Array Value))).update D (Obj.mapSeq fun _=>(arrOf st).map (·.2))).get? D=some (seqObj "list" ((arrOf st).map (·.2)) n2):=⟨_,get?_update_seq gD2 fun _=>(arrOf st).map (·.2)⟩;have eo:(arrOf st).map (·.2)=(L'.map (·.2.2)).toArray:=by
    apply Array.toList_inj.mp;rw [Array.toList_map,p2,List.map_map]
    rfl
   rw [show seqObj "list" ((arrOf st).map (·.2)) n2=seqObj "list" (L'.map (·.2.2)).toArray n2 by rw [eo]] at hn2
   have I3:=Inv.off (s:={ s' with heap:=s'.heap.update kS (Obj.mapSeq fun _=>(#[]:Array Value)) }) (h':=(s'.heap.update kS (Obj.mapSeq fun _=>(#[]:Array Value))).update D (Obj.mapSeq fun _=>(arrOf st).map (·.2))) I2 fD (fun b o hb e=>(Heap.get?_update_other _ _ (Ne.symm hb)).trans e);refine wpAny_pure (h H _ (L'.map fun t=>(qCX H (.ref t.1),t.2.1)) (L'.map (·.2.2)) n2 I3 sm fD ?_ ?_ ?_ hn2)
   ·rw [<- tz];exact p1.map _
   ·rw [List.pairwise_map];have so2:(arrOf st).toList.Pairwise (fun a b=>gkv a<=gkv b):=by
     rw [List.pairwise_iff_getElem];intro i j hi hj hij;have hi2:i<(arrOf st).size:=by simpa using hi
     have hj2:j<(arrOf st).size:=by simpa using hj
     have a:=so i j (Nat.le_of_lt hij) hj2;rw [qQG hi2,qQG hj2] at a;rw [Array.getElem_toList,Array.getElem_toList];exact a
    rw [p2,List.pairwise_map] at so2;refine so2.imp_of_mem fun {a b} ha hb le=>?_;obtain ⟨k1,m1,g1⟩:=memT a (p1.mem_iff.mp ha);obtain ⟨k2,m2,g2⟩:=memT b (p1.mem_iff.mp hb);have le:qDG ks (qCX H (.ref a.1))<=qDG ks (qCX H (.ref b.1)):=le;rw [qCH g1,qCH g2] at le ⊢;dsimp only;rw [<- qGT m2 m1];exact decide_eq_false (by lia)
   ·have:∀ L:List (Addr × V × Value),(∀ t ∈ L,RelV t.2.1 t.2.2)->Vals ((L.map fun t=>(qCX H (.ref t.1),t.2.1)).map (·.2)) (L.map (·.2.2)):=by
     intro L
     induction L with
     | nil=>intro _;exact .nil
     | cons t L ih=>intro hL;exact .cons (hL t (by simp)) (ih fun t ht=>hL t (List.mem_cons_of_mem _ ht))
    exact this L' fun t ht=>relT t (p1.mem_iff.mp ht)
  by_cases few:us.toArray.size<2
  ·simp only [if_pos few];refine wpAny_bind (wpAny_pure ?_);rw [StateT.run_pure];refine wpAny_bind (wpAny_pure (tail _ (.refl _) (fun i j hij hj=>?_) rfl));have sz:(arrOf (SortSt.mk' general' ((rs.map Value.ref).toArray.zip us.toArray) #[] 7 none)).size<=1:=by
    show ((rs.map Value.ref).toArray.zip us.toArray).size<=1;rw [Array.size_zip]
    lia
   have hj':j<(arrOf (SortSt.mk' general' ((rs.map Value.ref).toArray.zip us.toArray) #[] 7 none)).size:=hj;have ij:i=j:=by lia
   rw [ij];exact Int.le_refl _
  ·simp only [if_neg few];rw [List.size_toArray] at few;have tat:∀ (r:Addr) (t:List Int),H r=some (.lst (t.map V.int))->∃ ys:Array Value,IsLs s'.heap r ys/\IntsAre ys.toList t:=by
    intro r t g;obtain ⟨its,r1,pl,_⟩:=I.list (SqL.of g);obtain ⟨o,ho,hc,n,hd⟩:=pl.isList;exact ⟨its.toArray,⟨o,ho,hc,n,hd⟩,qJ0 r1⟩
   have lt_ok:LtOk X.prog X.w A s' oneType':=by
    refine ⟨fun {x y Q E} hx hy h=>?_⟩;obtain ⟨r1,t1,rfl,g1,m1⟩:=hx;obtain ⟨r2,t2,rfl,g2,m2⟩:=hy;obtain ⟨ya,i1,j1⟩:=tat r1 t1 g1;obtain ⟨yb,i2,j2⟩:=tat r2 t2 g2;rw [keyLt'_oneType];refine qKT (by have:=rm.un;lia) i1 i2 j1 j2 ?_
    have e1:NM.nm (Value.ref r1)=qDG ks t1:=by show qDG ks (qCX H (.ref r1))=_;rw [qCH g1]
    have e2:NM.nm (Value.ref r2)=qDG ks t2:=by show qDG ks (qCX H (.ref r2))=_;rw [qCH g2]
    rw [e1,e2,qGT m1 m2] at h;exact h
   have ik:qBJ ((rs.map Value.ref).toArray.zip us.toArray):=fun pq hp=>by
    rw [ez] at hp;obtain ⟨t,ht,rfl⟩:=List.mem_map.mp hp;obtain ⟨k,mk,g⟩:=memT t ht;exact ⟨t.1,k,rfl,g,mk⟩
   refine wpAny_bind (qNE (rs:=rs) (fun r hr=>let ⟨t,_,g⟩:=qEF T hr;let ⟨ys,i,_⟩:=tat r t g;⟨ys,i⟩) (by lia) ?_)
   refine wpAny_bind (wpAny_mono (gwpS_runs (κ0:=oneType') (a₀:=(rs.map Value.ref).toArray.zip us.toArray) (Q:=fun _ st2=>gSG (oneType') ((rs.map Value.ref).toArray.zip us.toArray) st2/\gSortedTo (arrOf st2) ((rs.map Value.ref).toArray.zip us.toArray).size) ik ⟨.refl _,rfl,rfl⟩ rfl fun st2 g u=>⟨g,u⟩) ?_ fun _ _ x=>x);rintro ⟨_,st2⟩ s2 ⟨es,g,u⟩;cases (show s2=_ from es);exact tail st2 g.perm (by rw [g.perm.size_eq];exact u) g.failed
theorem sortk_callD {s:Shared} {H:Hp} (F:FnOk X.prog X.w X.K X.mg X.base CX0 k0 f fd [p] sp) (rm:Room (k0+2) X.A) (hA:X.A.in1.in1.frames=some X.stack) (hb:Binds X.K fd [p] []) (KA:KeyDf sp H xs ks) (I:Inv X Ab σ H s) (hz:xs.length<=20000)
  (src:∃ (its:List Value),Vals xs its/\∀ (P:List Value->Shared->Prop),(∀ h' tk,(∀ b o,s.heap.get? b=some o->h'.get? b=some o)->P its { s with heap:=h',toks:=tk })->wpAny (model X.prog X.w) X.A.in1 (collect (.ref l)) P X.xe s)
  (hQ:∀ (H':Hp) (D:Addr) (zs:List (List Int × V)),Sm0 H H'->H' D=none->zs.Perm (ks.zip xs)->zs.Pairwise (fun a b=>HT.lexLt b.1 a.1=false)->Q (.ref D) (Ah H' D (.lst (zs.map (·.2))))) :
  wpAny (model X.prog X.w) X.A (call (.builtin "sorted") [.ref l] [(Str.ofString "key",.ref f)]) (EP X Ab σ Q) X.xe s:=by
 refine call_function_entry_kw kind_sorted plain_sorted entry_sorted (qNX _ _) ?_;unfold Builtin.«sorted»;refine wpAny_bind (m:=checkCount "sorted" 1 1 _) (wpAny_pure ?_);obtain ⟨its,rv,col⟩:=src;have li:=rv.length;refine wpAny_bind (col _ fun h1 tk1 k1=>?_);have I1:Inv X Ab σ H { s with toks:=tk1,heap:=h1 }:=I.kept (t':=tk1) k1;refine wpAny_bind (wpAny_newList ?_ (by show its.length<=_;rw [sizeLine_eq];lia))
 have fD0:FpOk X Ab H h1.objs.size:=I1.fpOk (Nat.le_refl _) (I1.hok.fresh (Nat.le_refl _));have szD:=I1.sz;have gD:(h1.push (seqObj "list" its.toArray 0)).get? h1.objs.size=some (seqObj "list" its.toArray 0):=Heap.get?_push_size _ rfl;have I2:Inv X Ab σ H { s with toks:=tk1,heap:=h1.push (seqObj "list" its.toArray 0) }:=I1.kept (t':=tk1) fun b o e=>Heap.get?_push_of_some _ e;have ltD:h1.objs.size<(h1.push (seqObj "list" its.toArray 0)).objs.size:=Heap.lt_size gD;show wpAny _ _ _ _ _ { s with toks:=tk1,heap:=h1.push (seqObj "list" its.toArray 0) };show wpAny _ _ (holding [.ref h1.objs.size] (call (.builtin "list.sort") [.ref h1.objs.size] [(Str.ofString "key",.ref f)]) >>= _) _ _ _;generalize h1.push (seqObj "list" its.toArray 0)=h2 at gD I2 ltD ⊢;have szD:X.s₀.heap.objs.size<=h1.objs.size:=szD;generalize h1.objs.size=D at fD0 szD gD ltD ⊢;refine wpAny_bind (wpAny_holding (wpAny_call_entry_kw slot_list_sort ⟨_,gD,rfl⟩ entry_list_sort ?_ (ksk_l1 _ _)));show wpAny (model X.prog X.w) X.A.in1.in1 (Builtin.«list.sort» ⟨[.ref D],[(Str.ofString "key",.ref f)]⟩) _ _ _;rw [ksk_t1];unfold ksk_tree;refine wpAny_bind (listItems_at gD rfl ?_);refine wpAny_bind (listUpdate_at gD rfl ?_ (by rw [List.size_toArray,sizeLine_eq];lia) (Nat.zero_le _))
 obtain ⟨e1,ho1⟩:∃ e1,(h2.update D (Obj.mapSeq fun _=>(#[]:Array Value))).get? D=some (seqObj "list" #[] e1):=⟨_,get?_update_seq gD fun _=>#[]⟩;have I3:=Inv.off (h':=h2.update D (Obj.mapSeq fun _=>(#[]:Array Value))) I2 fD0 (fun b o hb e=>(Heap.get?_update_other _ _ (Ne.symm hb)).trans e);have ltD3:D<(h2.update D (Obj.mapSeq fun _=>(#[]:Array Value))).objs.size:=Heap.lt_size ho1;refine wpAny_bind (seqEpoch_at ho1 rfl ?_);generalize h2.update D (Obj.mapSeq fun _=>(#[]:Array Value))=h3 at ho1 I3 ltD3 ⊢;refine wpAny_bind (wpAny_newTuple ?_ (by show its.length<=_;rw [sizeLine_eq];lia))
 refine wpAny_bind (wpAny_newList ?_ (Nat.zero_le _));refine wpAny_holding ?_;have hkS:(h3.push (seqObj "tuple" its.toArray 0)).objs.size=h3.objs.size+1:=Heap.size_push ..;have I4:Inv X Ab σ H { s with toks:=tk1,heap:=(h3.push (seqObj "tuple" its.toArray 0)).push (seqObj "list" #[] 0) }:=I3.kept (t':=tk1) fun b o e=>Heap.get?_push_of_some _ (Heap.get?_push_of_some _ e);have fk:FpOk X Ab H (h3.push (seqObj "tuple" its.toArray 0)).objs.size:=by rw [hkS];exact I3.fpOk (Nat.le_succ _) (I3.hok.fresh (Nat.le_succ _))
 refine qLX (kS:=(h3.push (seqObj "tuple" its.toArray 0)).objs.size) (D:=D) F (rm.in1.in1) hA hb KA rv (by lia) (by rw [hkS];exact Nat.ne_of_gt (Nat.lt_succ_of_lt ltD3)) ⟨H,[],0,I4,fun _ _ e=>e,fk,fD0,Heap.get?_push_size _ rfl,Heap.get?_push_of_some _ (Heap.get?_push_of_some _ ho1),?_⟩ fun H' s' zs out n I5 sm fD5 pm so rvo gD5=>⟨_,rfl,?_⟩
 ·rw [List.take_zero];exact .nil
 ·refine wpAny_pure ⟨_,rfl,.ref D,Ah H' D (.lst (zs.map (·.2))),I5.track fD5.1 szD fD5.2.1 fD5.2.2.2.2.1 fD5.2.2.2.2.2 ⟨?_,out,n,rvo,gD5⟩,rfl,hQ H' D zs sm fD5.1 pm so⟩;have:=pm.length_eq;rw [List.length_map,this,List.length_zip,sizeLine_eq]
  lia
end
end L2.G
namespace L2
open PySem PySem.Spec PyProof.Rows
abbrev qJ7 (H:Hp) (rs:List Addr) (Ag:List (List KI × V)):Prop:=Paired (fun (r:Addr) (kv:List KI × V)=>H r=some (.tup (kv.1.map kI))) rs Ag
theorem Inv.keysT {X:Cx} {Ab:List (Addr × Obj)} {σ:St} {H2:Hp} {s:Shared} {d:Addr} {o:Obj} {Ag:List (List KI × V)} (I2:Inv X Ab σ H2 s) (hd:H2 d=some (.frz o (.dT Ag))) :
  ∃ es ep rs,s.heap.get? d=some o/\(d == sysModules)=false/\o.cls=.type "dict"/\o.data=.dict es ep/\es.size=Ag.length/\qJ7 H2 rs Ag/\∀ (acc:Array Value),acc.size=es.size->(∀ (i:Nat) (v:Value),acc[i]?=some v->∃ h:i<es.size,v=es[i].key)->acc.toList=rs.map Value.ref:=by
 obtain ⟨e1,e2,e3,es,ep,e4,e5,get⟩:=I2.heldT hd;have each:∀ (n:Nat),n<=Ag.length->∃ rs:List Addr,qJ7 H2 rs (Ag.take n)/\(∀ i,i<n->∃ r,rs[i]?=some r/\∃ h:i<es.size,es[i].key=.ref r):=by
  intro n
  induction n with
  | zero=>intro _;exact ⟨[],.nil,fun i hi=>absurd hi (Nat.not_lt_zero _)⟩
  | succ n ih=>
   intro hn;obtain ⟨rs,T,g⟩:=ih (by lia)
   have hi:n<es.size:=by lia
   obtain ⟨k,v,r,g1,g2,g3⟩:=get n hi;have lr:rs.length=n:=by have:=Paired.length T;rw [List.length_take] at this;lia
   refine ⟨rs++[r],?_,fun i hi2=>?_⟩
   ·rw [List.take_add_one,g1,Option.toList_some];exact Paired.snoc T g3
   ·by_cases e:i=n
    ·subst e;exact ⟨r,by rw [List.getElem?_append_right (by lia),lr];simp,hi,g2⟩
    ·obtain ⟨r',a,b⟩:=g i (by lia)
     exact ⟨r',by rw [List.getElem?_append_left (by lia)];exact a,b⟩
 obtain ⟨rs,T,gr⟩:=each Ag.length (Nat.le_refl _);rw [List.take_of_length_le (Nat.le_refl _)] at T;have lr:rs.length=Ag.length:=Paired.length T;refine ⟨es,ep,rs,e1,e2,e3,e4,e5,T,fun acc l1 l2=>?_⟩;refine List.ext_getElem? fun i=>?_;by_cases hi:i<acc.size
 ·obtain ⟨h3,e6⟩:=l2 i acc[i] (Array.getElem?_eq_getElem hi);obtain ⟨r,a,h4,b⟩:=gr i (by lia)
  rw [Array.getElem?_toList,Array.getElem?_eq_getElem hi,e6,List.getElem?_map,a,b]
  rfl
 ·rw [Array.getElem?_toList,Array.getElem?_eq_none (by lia),List.getElem?_eq_none (by rw [List.length_map];lia)]
def qVE (sp:Sp) (ta:TA):TE:=fun σ H Q=>ta σ H fun vs H1=>∃ (d:Addr) (o:Obj) (Ag:List (List KI × V)) (ks:List (List Int)),vs=[.ref d]/\H1 d=some (.frz o (.dT Ag))/\Ag.length<=20000/\
 ∀ rs,qJ7 H1 rs Ag->G.KeyDf sp H1 (rs.map V.ref) ks/\∀ (H':Hp) (D:Addr) (zs:List (List Int × V)),Sm0 H1 H'->H' D=none->zs.Perm (ks.zip (rs.map V.ref))->zs.Pairwise (fun a b=>HT.lexLt b.1 a.1=false)->Q (.ref D) (Ah H' D (.lst (zs.map (·.2))))
section
variable {X:Cx}
theorem qRX {e:Expr} {ta:TA} {np fp pos kpos:Pos} {k0:Nat} {f:Addr} {fd:FuncData} {x p:Str} {sp:Sp} (F:FnOk X.prog X.w X.K X.mg X.base CX0 k0 f fd [p] sp) (rm:Room (k0+2) X.A) (hb:Binds X.K fd [p] []) (hgx:Gl X x) (hmx:X.mg x=some (.ref f))
  (hg:Gl X "sorted") (hm:X.mg "sorted" = none) (hv:bootBuiltins "sorted" = some (.builtin "sorted")) (ha:PA X [e] ta) (hs:starEach [e] X.env=[(false,eval e X.env)]:=by rfl) (hdx:(x == ("__debug__" : Str))=false:=by decide) :
  PE X (.Call (.Name "sorted" np) [e] [⟨some "key",.Name x fp,kpos⟩] pos) (qVE sp ta):=by
 intro Ab s σ H Q I h;refine wpAny_Call_Name_kw (qGC I hg hm hv ?_ (by decide) (by decide))
 refine PyProof.Rows.callWith_kw (thn (ha pos Ab s σ H _ I h) fun us s1 ⟨vs,H1,I1,r1,q1⟩=>?_) (by rw [hs];rfl) (by rw [hs];rfl)
 obtain ⟨d,o,Ag,ks,rfl,hd,hz,q2⟩:=q1;obtain ⟨u,rfl,rx⟩:=qDB r1;cases rx;refine thn (qPC (kpos:=kpos) (nm:=some "key") (qU3 (pos:=fp) hgx hmx (v:=.ref f) rfl hdx) qT2 pos Ab s1 σ H1 (fun zs H2=>zs=[.ref f]/\H2=H1) I1 ⟨rfl,rfl⟩) fun ws s2 ⟨zs,H2,I2,rz,ez,eh⟩=>?_;subst ez eh;obtain ⟨u2,rfl,r2⟩:=qDB rz;cases r2;have hA:X.A.in1.in1.frames=some X.stack:=I2.ok.frames;obtain ⟨es,ep,rs,e1,e2,e3,e4,e5,T,back⟩:=I2.keysT hd;have lr:rs.length=Ag.length:=Paired.length T;obtain ⟨KA,q3⟩:=q2 rs T;refine G.sortk_callD (H:=H2) (l:=d) F rm hA hb KA I2 (by rw [List.length_map,lr];exact hz) ⟨rs.map Value.ref,?_,fun P h=>?_⟩ q3
 ·have:∀ rs:List Addr,Vals (rs.map V.ref) (rs.map Value.ref):=fun rs=>by
   induction rs with
   | nil=>exact .nil
   | cons r rs ih=>exact .cons rfl ih
  exact this rs
 ·refine PySem.W.kdu_collect (A:=X.A.in1) (G.src_dT e2 e3 e4) rm.hd e1 (by rw [e5,sizeLine_eq];lia) fun h' tk acc kept Ae=>?_
  obtain ⟨l1,l2⟩:=Ae;rw [back acc l1 l2];exact h h' tk kept
end
end L2
namespace L2
open PySem PySem.Spec PyProof.Rows
def KR0 (H:Hp) (y:V) (k:List Int):Prop:=∃ n,y=.int n/\k=[n]
theorem qXW {X:Cx}:KCmp X KR0:=by
 refine ⟨fun H H' y k sm h=>h,?_⟩;intro Ab σ s H y y' u u' k k' Q E I ry ry' ⟨n,e,g⟩ ⟨n',e',g'⟩ h;subst e e' g g';obtain ⟨t,rfl⟩:=(show ∃ t,u=Value.int n t from ry);obtain ⟨t',rfl⟩:=(show ∃ t,u'=Value.int n' t from ry');refine HT.rcLt_int _ _ _ _ _ _ _ _ _ _ ?_;have e:HT.lexLt [n] [n']=decide (n<n'):=by
  rw [HT.lexLt_cons];by_cases c:n=n'
  ·rw [if_pos c,HT.lexLt_nil_nil];exact (decide_eq_false (by lia)).symm
  ·rw [if_neg c]
 rw [<- e];exact h
theorem qXT {X:Cx} {scope:Scope} {p:Str} {fv:List Nat} {q:Str} (z:LmZ):(lmCx X scope p fv q z).A.units+2<cLine:=by
 have:=z.rm.un;show z.A.units+3+2<cLine
 lia
section
variable {X:Cx}
theorem qOL (hc:X.calm=true):qCV X (.type "list") (fun xs H Q=>∃ p Ag,xs=[V.ref p]/\H p=some (.dT Ag)/\Ag.length<=20000/\∀ a rs,H a=none->qJ7 H rs Ag->Q (.ref a) (Ah H a (.lst (rs.map V.ref)))):=by
 intro Ab s σ H xs us Q I r h;obtain ⟨p,Ag,rfl,hq,hz,q⟩:=h;obtain ⟨u,rfl,rx⟩:=qDB r;cases rx;obtain ⟨o,I2⟩:=I.freezeT hq;have hq2:(Ah H p (.frz o (.dT Ag))) p=some (.frz o (.dT Ag)):=qA1;obtain ⟨es,ep,rs,e1,e2,e3,e4,e5,T,back⟩:=I2.keysT hq2;have T2:qJ7 H rs Ag:=Paired.mapP T fun r kv g=>by
  have n:r ≠ p:=fun z=>by rw [z,hq2] at g;cases g
  rwa [qA8 n] at g
 have lr:rs.length=Ag.length:=Paired.length T;refine PySem.W.kdl_call (G.src_dT e2 e3 e4) (I.ok.hd hc) e1 (by rw [e5,sizeLine_eq];lia) fun h' tk acc c' kept got Ae=>?_
 obtain ⟨l1,l2⟩:=Ae;have ea:=back acc l1 l2;have rv:∀ rs:List Addr,Vals (rs.map V.ref) (rs.map Value.ref):=fun rs=>by
  induction rs with
  | nil=>exact .nil
  | cons r rs ih=>exact .cons rfl ih
 refine ⟨.ref s.heap.objs.size,_,I.laid (a:=s.heap.objs.size) (o:=.lst (rs.map V.ref)) (t':=tk) kept (Nat.le_refl _) ⟨by rw [List.length_map,lr,sizeLine_eq];lia,acc.toList,c',by rw [ea];exact rv rs,by simpa using got⟩,rfl,q _ _ (I.hok.fresh (Nat.le_refl _)) T2⟩
end
end L2
namespace Fw
open PySem L2
abbrev La:=List (Option Int)
def cntO (l:La):Nat:=l.countP Option.isSome
def beO (l:La) (m:Mo):La:=l.set m.rm.toNat m.res
def dN (m:Mo):Nat:=match m.dk with | true=>1 | false=>0
def fwO (Af:List (List Int)) (wides sizes:List Int) (l:La) (m:Mo):V:=thW m (Af.getD m.wk.toNat []) l (l.getD m.rm.toNat none) (sizes.getD m.rm.toNat 0) (wides.getD m.wk.toNat 0)
def prMo (n k:Int):List Mo:=((qAS 0 k).map fun rm=>⟨false,0,rm⟩)++(qAS 0 n).flatMap fun wk=>(qAS 0 k).map fun rm=>⟨true,wk,rm⟩
def nxO (Af:List (List Int)) (wides sizes:List Int) (l:La):List Mo:=(prMo (Af.length:Int) (sizes.length:Int)).filter fun m=>decide (fwO Af wides sizes l m=.non)
def l0 (sizes:List Int):La:=List.replicate sizes.length none
theorem mem_prMo {n k:Int} {m:Mo}:m ∈ prMo n k ↔ (0<=m.rm/\m.rm<k)/\((m.dk=false/\m.wk=0)\/m.dk=true/\0<=m.wk/\m.wk<n):=by
 obtain ⟨b,w,r⟩:=m;unfold prMo;rw [List.mem_append,List.mem_map,List.mem_flatMap]
 constructor
 ·rintro (⟨x,hx,e⟩ | ⟨x,hx,hy⟩)
  ·cases e;exact ⟨mem_rangeI.mp hx,.inl ⟨rfl,rfl⟩⟩
  ·obtain ⟨y,hy,e⟩:=List.mem_map.mp hy;cases e;exact ⟨mem_rangeI.mp hy,.inr ⟨rfl,mem_rangeI.mp hx⟩⟩
 ·rintro ⟨h,⟨e1,e2⟩ | ⟨e1,h2⟩⟩
  ·have e1:b=false:=e1;have e2:w=0:=e2;subst e1 e2;exact .inl ⟨r,mem_rangeI.mpr h,rfl⟩
  ·have e1:b=true:=e1;subst e1;exact .inr ⟨w,mem_rangeI.mpr h2,List.mem_map.mpr ⟨r,mem_rangeI.mpr h,rfl⟩⟩
inductive Po (Af:List (List Int)) (wides sizes:List Int):Nat->La->Prop
 | zero:Po Af wides sizes 0 (l0 sizes)
 | step {t:Nat} {l:La} {m:Mo}:Po Af wides sizes t l->m ∈ nxO Af wides sizes l->Po Af wides sizes (t+1) (beO l m)
section
variable {Af:List (List Int)} {wides sizes:List Int}
theorem qM7 {l:La} {m:Mo} (h:m ∈ nxO Af wides sizes l):(0<=m.rm/\m.rm<sizes.length)/\(m.dk=true->0<=m.wk/\m.wk<Af.length)/\fwO Af wides sizes l m=.non:=by
 obtain ⟨h1,h2⟩:=List.mem_filter.mp h;obtain ⟨a,b⟩:=mem_prMo.mp h1;refine ⟨a,fun e=>?_,of_decide_eq_true h2⟩;rcases b with ⟨z,_⟩ | ⟨_,z⟩
 ·rw [z] at e;cases e
 ·exact z
theorem qY3 {l:La} {m:Mo} (hd:m.dk=true):fwO Af wides sizes l m=.non ↔ some m.wk ∉ l/\(∀ x ∈ Af.getD m.wk.toNat [],some x ∈ l)/\l.getD m.rm.toNat none=none/\¬ sizes.getD m.rm.toNat 0<wides.getD m.wk.toNat 0:=by
 unfold fwO thW;rw [hd];dsimp only;unfold thDo;by_cases c1:some m.wk ∈ l
 ·rw [if_pos c1];exact ⟨fun z=>(nomatch z),fun z=>absurd c1 z.1⟩
 rw [if_neg c1];by_cases c2:∀ x ∈ Af.getD m.wk.toNat [],some x ∈ l
 ·rw [if_pos c2];cases l.getD m.rm.toNat none with
  | some y=>exact ⟨fun z=>(nomatch z),fun z=>(nomatch z.2.2.1)⟩
  | none=>
   dsimp only;by_cases c3:sizes.getD m.rm.toNat 0<wides.getD m.wk.toNat 0
   ·rw [if_pos c3];exact ⟨fun z=>(nomatch z),fun z=>absurd c3 z.2.2.2⟩
   ·rw [if_neg c3];exact ⟨fun _=>⟨c1,c2,rfl,c3⟩,fun _=>rfl⟩
 ·rw [if_neg c2];exact ⟨fun z=>(nomatch z),fun z=>absurd z.2.1 c2⟩
theorem qWO {l:La} {m:Mo} (hd:m.dk=false):fwO Af wides sizes l m=.non ↔ ∃ x,l.getD m.rm.toNat none=some x:=by
 unfold fwO thW;rw [hd];dsimp only;unfold qRG;cases l.getD m.rm.toNat none with
 | some y=>exact ⟨fun _=>⟨y,rfl⟩,fun _=>rfl⟩
 | none=>exact ⟨fun z=>(nomatch z),fun ⟨_,z⟩=>nomatch z⟩
theorem qUU {l:La} {k:Nat} (h:k<l.length) (o:Option Int):cntO (l.set k o)+(if (l.getD k none).isSome then 1 else 0)=cntO l+if o.isSome then 1 else 0:=by
 unfold cntO
 induction l generalizing k with
 | nil=>exact absurd h (Nat.not_lt_zero _)
 | cons a l ih=>
  cases k with
  | zero=>
   rw [List.set_cons_zero,List.countP_cons,List.countP_cons];show _+(if a.isSome=true then 1 else 0)=_
   lia
  | succ k=>
   have:=ih (k:=k) (by simpa using h)
   rw [List.set_cons_succ,List.countP_cons,List.countP_cons];have e:(a::l).getD (k+1) none=l.getD k none:=by simp [List.getD]
   rw [e]
   lia
theorem Po.len {t:Nat} {l:La} (h:Po Af wides sizes t l):l.length=sizes.length:=by
 induction h with
 | zero=>exact List.length_replicate
 | step _ _ ih=>unfold beO;rw [List.length_set];exact ih
theorem Po.ok {t:Nat} {l:La} (h:Po Af wides sizes t l):LayOk (Af.length:Int) l:=by
 induction h with
 | zero=>intro x hx;exact nomatch (List.eq_of_mem_replicate hx)
 | step _ hm ih=>exact ih.set (qM7 hm).2.1
theorem qI0 {t:Nat} {l:La} {m:Mo} (h:Po Af wides sizes t l) (hm:m ∈ nxO Af wides sizes l):(m.dk=true/\cntO (beO l m)=cntO l+1)\/m.dk=false/\cntO (beO l m)+1=cntO l:=by
 obtain ⟨h1,h2,h3⟩:=qM7 hm;have k:=qUU (l:=l) (k:=m.rm.toNat) (by rw [h.len];lia) m.res
 cases hd:m.dk with
 | true=>
  have e:=((qY3 hd).mp h3).2.2.1;refine .inl ⟨rfl,?_⟩;have r:m.res=some m.wk:=by unfold Mo.res;rw [hd]
  rw [e,r] at k;unfold beO;rw [r];simpa using k
 | false=>
  obtain ⟨x,e⟩:=(qWO hd).mp h3;refine .inr ⟨rfl,?_⟩;have r:m.res=none:=by unfold Mo.res;rw [hd]
  rw [e,r] at k;unfold beO;rw [r];simpa using k
def Mto (Af:List (List Int)) (wides sizes:List Int) (t:Nat) (l:La):Prop:=Po Af wides sizes t l/\∀ u,u<t->¬ Po Af wides sizes u l
theorem Mto.one {t u:Nat} {l:La} (h:Mto Af wides sizes t l) (h':Mto Af wides sizes u l):t=u:=by
 rcases Nat.lt_trichotomy t u with c | c | c
 ·exact absurd h.1 (h'.2 t c)
 ·exact c
 ·exact absurd h'.1 (h.2 u c)
structure BFO (Af:List (List Int)) (wides sizes:List Int) (t:Nat) (ks due ly:List La) (f:La->Nat) (i k:Nat):Prop where
 nd:ks.Nodup
 snd:∀ s ∈ ks,∃ u,u<=t+1/\Mto Af wides sizes u s/\2 * f s=u+cntO s
 full:∀ u s,u<=t->Po Af wides sizes u s->s ∈ ks
 duem:∀ s,s ∈ due ↔ Mto Af wides sizes t s
 lym:∀ s,s ∈ ly ↔ s ∈ ks/\Mto Af wides sizes (t+1) s
 done:∀ j s,due[j]?=some s->j<i->∀ m ∈ nxO Af wides sizes s,beO s m ∈ ks
 dk:∀ s,due[i]?=some s->∀ m ∈ (nxO Af wides sizes s).take k,beO s m ∈ ks
theorem qNN (sizes:List Int):cntO (l0 sizes)=0:=by
 unfold cntO l0;rw [List.countP_eq_zero];intro x hx;rw [List.eq_of_mem_replicate hx];exact Bool.false_ne_true
theorem BFO.start:BFO Af wides sizes 0 [l0 sizes] [l0 sizes] [] (fun _=>0) 0 0:=by
 have z:∀ s,Po Af wides sizes 0 s->s=l0 sizes:=fun s h=>by cases h;rfl
 have m0:Mto Af wides sizes 0 (l0 sizes):=⟨.zero,fun u hu=>absurd hu (Nat.not_lt_zero _)⟩;refine ⟨by simp,fun s hs=>?_,fun u s hu p=>?_,fun s=>?_,fun s=>?_,fun j s _ hj=>absurd hj (Nat.not_lt_zero _),fun s _ m hm=>by simp at hm⟩
 ·rw [List.mem_singleton.mp hs];exact ⟨0,by lia,m0,by rw [qNN]⟩
 ·have:u=0:=by lia
  subst this;rw [z s p];simp
 ·rw [List.mem_singleton];exact ⟨fun e=>e ▸ m0,fun h=>z s h.1⟩
 ·constructor
  ·intro h;cases h
  ·rintro ⟨h,m⟩;rw [List.mem_singleton.mp h] at m;exact absurd (Mto.one m m0) (by lia)
section
variable {t:Nat} {ks due ly:List La} {f:La->Nat} {i k:Nat}
theorem BFO.hit (h:BFO Af wides sizes t ks due ly f i k) {s:La} {m:Mo} (hs:due[i]?=some s) (hm:(nxO Af wides sizes s)[k]?=some m) (hk:beO s m ∈ ks):BFO Af wides sizes t ks due ly f i (k+1):=by
 refine ⟨h.nd,h.snd,h.full,h.duem,h.lym,h.done,fun s' e m' hm'=>?_⟩;rw [hs] at e;cases e;rw [List.take_add_one,hm,Option.toList_some,List.mem_append,List.mem_singleton] at hm';rcases hm' with z | z
 ·exact h.dk s hs m' z
 ·rw [z];exact hk
def fsO (f:La->Nat) (x:La) (v:Nat):La->Nat:=fun y=>if y=x then v else f y
theorem qDJ (f:La->Nat) (x:La) (v:Nat):fsO f x v x=v:=if_pos rfl
theorem qDW {f:La->Nat} {x y:La} {v:Nat} {ks:List La} (h:y ∈ ks) (hx:x ∉ ks):fsO f x v y=f y:=if_neg fun e=>hx (by rw [<- e];exact h)
theorem qCO {ks:List La} {x:La} (nd:ks.Nodup) (h:x ∉ ks):(ks++[x]).Nodup:=by
 rw [List.nodup_append];exact ⟨nd,by simp,fun a ha b hb e=>h (by rw [List.mem_singleton.mp hb] at e;exact e ▸ ha)⟩
theorem BFO.val (h:BFO Af wides sizes t ks due ly f i k) {s:La} (hs:s ∈ due):s ∈ ks/\2 * f s=t+cntO s:=by
 have m:=(h.duem s).mp hs;have hk:=h.full t s (Nat.le_refl _) m.1;obtain ⟨u,_,mu,e⟩:=h.snd s hk;rw [Mto.one mu m] at e;exact ⟨hk,e⟩
theorem BFO.add (h:BFO Af wides sizes t ks due ly f i k) {s:La} {m:Mo} (hs:due[i]?=some s) (hm:(nxO Af wides sizes s)[k]?=some m) (hk:beO s m ∉ ks) :
  BFO Af wides sizes t (ks++[beO s m]) due (ly++[beO s m]) (fsO f (beO s m) (f s+dN m)) i (k+1):=by
 have hsd:=List.mem_of_getElem? hs;have ms:=(h.duem s).mp hsd;obtain ⟨hsk,ev⟩:=h.val hsd;have md:=List.mem_of_getElem? hm;have M1:Mto Af wides sizes (t+1) (beO s m):=⟨.step ms.1 md,fun u hu p=>hk (h.full u _ (by lia) p)⟩
 refine ⟨qCO h.nd hk,fun x hx=>?_,fun u x hu p=>List.mem_append.mpr (.inl (h.full u x hu p)),h.duem,fun x=>?_,fun j x e hj m' hm'=>List.mem_append.mpr (.inl (h.done j x e hj m' hm')),fun x e m' hm'=>?_⟩
 ·rcases List.mem_append.mp hx with z | z
  ·rw [qDW z hk];exact h.snd x z
  ·rw [List.mem_singleton.mp z,qDJ];refine ⟨t+1,Nat.le_refl _,M1,?_⟩;unfold dN;rcases qI0 ms.1 md with ⟨w,l⟩ | ⟨w,l⟩
   ·rw [w];dsimp only;lia
   ·rw [w];dsimp only;lia
 ·rw [List.mem_append,List.mem_append,List.mem_singleton,h.lym x]
  constructor
  ·rintro (z | z)
   ·exact ⟨.inl z.1,z.2⟩
   ·exact ⟨.inr z,z ▸ M1⟩
  ·rintro ⟨z | z,e⟩
   ·exact .inl ⟨z,e⟩
   ·exact .inr z
 ·rw [hs] at e;cases e;rw [List.take_add_one,hm,Option.toList_some,List.mem_append,List.mem_singleton] at hm';rcases hm' with z | z
  ·exact List.mem_append.mpr (.inl (h.dk s hs m' z))
  ·rw [z];simp
theorem BFO.next (h:BFO Af wides sizes t ks due ly f i k) {s:La} (hs:due[i]?=some s) (hk:(nxO Af wides sizes s).length<=k):BFO Af wides sizes t ks due ly f (i+1) 0:=by
 refine ⟨h.nd,h.snd,h.full,h.duem,h.lym,fun j x e hj m hm=>?_,fun s _ m hm=>by simp at hm⟩
 by_cases ej:j=i
 ·subst ej;rw [hs] at e;cases e;exact h.dk s hs m (by rw [List.take_of_length_le hk];exact hm)
 ·exact h.done j x e (by lia) m hm
theorem BFO.level (h:BFO Af wides sizes t ks due ly f i k) (hi:due.length<=i):BFO Af wides sizes (t+1) ks ly [] f 0 0:=by
 have full:∀ u s,u<=t+1->Po Af wides sizes u s->s ∈ ks:=fun u s hu p=>by
  cases p with
  | zero=>exact h.full 0 _ (by lia) .zero
  | @step u st m p hm=>
   have hst:=h.full u st (by lia) p
   obtain ⟨v,hv,mv,_⟩:=h.snd st hst;have hvu:v<=u:=by
    apply Classical.byContradiction;intro z;exact mv.2 u (by lia) p
   by_cases e:v=t
   ·subst e;obtain ⟨j,hj,ej⟩:=List.getElem_of_mem ((h.duem st).mpr mv);exact h.done j st (by rw [List.getElem?_eq_getElem hj,ej]) (by lia) m hm
   ·exact h.full (v+1) _ (by lia) (.step mv.1 hm)
 refine ⟨h.nd,fun s hs=>?_,full,fun s=>?_,fun s=>?_,fun j s _ hj=>absurd hj (Nat.not_lt_zero _),fun s _ m hm=>by simp at hm⟩
 ·obtain ⟨u,hu,r⟩:=h.snd s hs;exact ⟨u,by lia,r⟩
 ·rw [h.lym s];exact ⟨fun z=>z.2,fun z=>⟨full _ _ (Nat.le_refl _) z.1,z⟩⟩
 ·constructor
  ·intro z;cases z
  ·rintro ⟨hs,m⟩;obtain ⟨u,hu,mu,_⟩:=h.snd s hs;exact absurd (Mto.one mu m) (by lia)
structure RcO (Af:List (List Int)) (wides sizes:List Int) (ks:List La) (f:La->Nat):Prop where
 nd:ks.Nodup
 snd:∀ s ∈ ks,∃ u,Mto Af wides sizes u s/\2 * f s=u+cntO s
 all:∀ u s,Po Af wides sizes u s->s ∈ ks
theorem BFO.rch (h:BFO Af wides sizes t ks [] [] f i k):RcO Af wides sizes ks f:=by
 have lt:∀ s ∈ ks,∃ u,u<t/\Mto Af wides sizes u s:=fun s hs=>by
  obtain ⟨u,hu,mu,_⟩:=h.snd s hs;have n1:u ≠ t:=fun e=>nomatch (h.duem s).mpr (e ▸ mu);have n2:u ≠ t+1:=fun e=>nomatch (h.lym s).mpr ⟨hs,e ▸ mu⟩;exact ⟨u,by lia,mu⟩
 refine ⟨h.nd,fun s hs=>let ⟨u,_,r⟩:=h.snd s hs;⟨u,r⟩,fun u s p=>?_⟩
 induction p with
 | zero=>exact h.full 0 _ (by lia) .zero
 | step p hm ih=>
  obtain ⟨v,hv,mv⟩:=lt _ ih;exact h.full (v+1) _ (by lia) (.step mv.1 hm)
end
def encO (n:Nat):La->Nat
 | []=>0
 | none::l=>(n+1) * encO n l
 | some x::l=>(n+1) * encO n l+(x.toNat+1)
theorem qTC {n:Nat}:∀ {l:La},LayOk (n:Int) l->encO n l<(n+1) ^ l.length
 | [],_=>by show 0<1;lia
 | o::l,h=>by
  have ih:=qTC (n:=n) (l:=l) fun x hx=>h x (List.mem_cons_of_mem _ hx);rw [List.length_cons,Nat.pow_succ,Nat.mul_comm];have m:(n+1) * encO n l+(n+1)<=(n+1) * (n+1) ^ l.length:=by
   rw [<- Nat.mul_succ];exact Nat.mul_le_mul_left _ ih
  cases o with
  | none=>show (n+1) * encO n l<_;lia
  | some x=>
   have:=h x (by simp)
   show (n+1) * encO n l+(x.toNat+1)<_
   lia
theorem qQO {n:Nat}:∀ {a b:La},a.length=b.length->LayOk (n:Int) a->LayOk (n:Int) b->encO n a=encO n b->a=b
 | [],[],_,_,_,_=>rfl
 | [],_::_,e,_,_,_=>by simp at e
 | _::_,[],e,_,_,_=>by simp at e
 | x::a,y::b,e,ha,hb,h=>by
  have head:∀ (o:Option Int) (l:La),LayOk (n:Int) (o::l)->∃ r,r<n+1/\encO n (o::l)=r+(n+1) * encO n l/\r=(match o with | none=>0 | some x=>x.toNat+1):=fun o l h=>by
   cases o with
   | none=>exact ⟨0,by lia,by show (n+1) * encO n l=_;lia,rfl⟩
   | some x=>have:=h x (by simp);exact ⟨x.toNat+1,by lia,by show (n+1) * encO n l+(x.toNat+1)=_;lia,rfl⟩
  obtain ⟨r,r1,r2,r3⟩:=head x a ha;obtain ⟨u,u1,u2,u3⟩:=head y b hb;rw [r2,u2] at h;have e1:r=u:=by
   have:=congrArg (· % (n+1)) h
   rwa [Nat.add_mul_mod_self_left,Nat.add_mul_mod_self_left,Nat.mod_eq_of_lt r1,Nat.mod_eq_of_lt u1] at this
  subst e1;have e2:encO n a=encO n b:=Nat.eq_of_mul_eq_mul_left (by lia:0<n+1) (by lia)
  have ih:=qQO (by simpa using e) (fun z hz=>ha z (List.mem_cons_of_mem _ hz)) (fun z hz=>hb z (List.mem_cons_of_mem _ hz)) e2
  rw [ih];congr 1;rw [r3] at u3;cases x with
  | none=>cases y with
   | none=>rfl
   | some y=>have u3:0=y.toNat+1:=u3;lia
  | some x=>cases y with
   | none=>have u3:x.toNat+1=0:=u3;lia
   | some y=>
    have u3:x.toNat+1=y.toNat+1:=u3;have h1:=ha x (by simp)
    have h2:=hb y (by simp)
    rw [show x=y by lia]
theorem qUW {ks:List Nat} {n:Nat} (nd:ks.Nodup) (h:∀ b ∈ ks,b<n):ks.length<=n:=by
 have p:ks.Perm ((List.range n).filter fun x=>decide (x ∈ ks)):=(List.perm_ext_iff_of_nodup nd (List.nodup_range.filter _)).mpr fun x=>by
  rw [List.mem_filter,decide_eq_true_eq,List.mem_range];exact ⟨fun hx=>⟨h x hx,hx⟩,fun hx=>hx.2⟩
 rw [p.length_eq];exact Nat.le_trans (List.length_filter_le _ _) (by rw [List.length_range];exact Nat.le_refl n)
theorem qD8 {n k:Nat} {ks:List La} (nd:ks.Nodup) (h:∀ s ∈ ks,s.length=k/\LayOk (n:Int) s):ks.length<=(n+1) ^ k:=by
 have nd2:(ks.map (encO n)).Nodup:=
  List.pairwise_map.mpr (nd.imp_of_mem fun {a b} ha hb hab e=>hab (qQO ((h a ha).1.trans (h b hb).1.symm) (h a ha).2 (h b hb).2 e))
 have:=qUW (n:=(n+1) ^ k) nd2 fun b hb=>by
  obtain ⟨s,hs,rfl⟩:=List.mem_map.mp hb;have:=qTC (h s hs).2
  rwa [(h s hs).1] at this
 rwa [List.length_map] at this
theorem BFO.len {t:Nat} {ks due ly:List La} {f:La->Nat} {i k:Nat} (h:BFO Af wides sizes t ks due ly f i k):ks.length<=(Af.length+1) ^ sizes.length:=
 qD8 h.nd fun s hs=>let ⟨_,_,m,_⟩:=h.snd s hs;⟨m.1.len,m.1.ok⟩
end
def kO:Option Int->KI
 | none=>none
 | some i=>some (.inl i)
def keyO (l:La):List KI:=l.map kO
theorem qXY (o:Option Int):kI (kO o)=oV o:=by cases o <;> rfl
theorem qBD (l:La):(keyO l).map kI=l.map oV:=by
 unfold keyO;rw [List.map_map];exact List.map_congr_left fun x _=>qXY x
theorem qWK {a b:Option Int} (e:kO a=kO b):a=b:=by
 cases a <;> cases b
 ·rfl
 ·exact nomatch e
 ·exact nomatch e
 ·have:=Sum.inl.inj (Option.some.inj (show some (Sum.inl _:Key)=some (Sum.inl _) from e));rw [this]
theorem qGV:∀ {a b:La},keyO a=keyO b->a=b
 | [],[],_=>rfl
 | [],_::_,e=>by simp [keyO] at e
 | _::_,[],e=>by simp [keyO] at e
 | x::a,y::b,e=>by
  unfold keyO at e;rw [List.map_cons,List.map_cons] at e
  injection e with e1 e2
  rw [qWK e1,qGV e2]
theorem qHD {α β:Type} {F:α->β->Prop} {l₁:List α} {l₂:List β} {i:Nat} {b:β} (h:Paired F l₁ l₂) (e:l₂[i]?=some b):∃ a,l₁[i]?=some a/\F a b:=by
 have lt:i<l₁.length:=by rw [Paired.length h];exact (List.getElem?_eq_some_iff.mp e).1
 obtain ⟨b',e',f⟩:=qAG h (List.getElem?_eq_getElem lt);rw [e] at e';cases e';exact ⟨_,List.getElem?_eq_getElem lt,f⟩
abbrev PrO:=Option (La × Mo)
def ValO (H:Hp) (v:V) (n:Nat):PrO->Prop
 | none=>∃ r,v=.ref r/\H r=some (.tup [.int (n:Int),.non,.non])
 | some (p,m)=>∃ r rp rm,v=.ref r/\H r=some (.tup [.int (n:Int),.ref rp,.ref rm])/\H rp=some (.tup (p.map oV))/\H rm=some (.tup m.vs)
theorem ValO.same {H H':Hp} {v:V} {n:Nat} {o:PrO} (h:ValO H v n o) (sm:Same H H'):ValO H' v n o:=by
 cases o with
 | none=>obtain ⟨r,e,g⟩:=h;exact ⟨r,e,sm _ _ g⟩
 | some pm=>obtain ⟨r,rp,rm,e,g1,g2,g3⟩:=h;exact ⟨r,rp,rm,e,sm _ _ g1,sm _ _ g2,sm _ _ g3⟩
theorem qDE {H:Hp} {d r:Addr} {o u:HO} {xs:List V} (g:H r=some (.tup xs)) (hd:H d=some o) (ho:∀ xs,o ≠ .tup xs):(Ah H d u) r=some (.tup xs):=by
 rw [qA8 (qCR g hd fun z=>ho _ z.symm)];exact g
theorem ValO.put {H:Hp} {v:V} {n:Nat} {q:PrO} {d:Addr} {o u:HO} (h:ValO H v n q) (hd:H d=some o) (ho:∀ xs,o ≠ .tup xs):ValO (Ah H d u) v n q:=by
 cases q with
 | none=>obtain ⟨r,e,g⟩:=h;exact ⟨r,e,qDE g hd ho⟩
 | some pm=>obtain ⟨r,rp,rm,e,g1,g2,g3⟩:=h;exact ⟨r,rp,rm,e,qDE g1 hd ho,qDE g2 hd ho,qDE g3 hd ho⟩
theorem ValO.at {H:Hp} {v:V} {n:Nat} {o:PrO} (h:ValO H v n o):∃ r x y,v=.ref r/\H r=some (.tup [.int (n:Int),x,y]):=by
 cases o with
 | none=>obtain ⟨r,e,g⟩:=h;exact ⟨r,_,_,e,g⟩
 | some pm=>obtain ⟨r,rp,rm,e,g,_⟩:=h;exact ⟨r,_,_,e,g⟩
abbrev KvO:=List (List KI × V)
def EntO (H:Hp) (Ag:KvO) (ks:List La) (f:La->Nat) (g:La->PrO):Prop:=Paired (fun (kv:List KI × V) s=>kv.1=keyO s/\ValO H kv.2 (f s) (g s)) Ag ks
def gsO (g:La->PrO) (x:La) (v:PrO):La->PrO:=fun y=>if y=x then v else g y
section
variable {H H':Hp} {Ag:KvO} {ks:List La} {f:La->Nat} {g:La->PrO}
theorem EntO.same (h:EntO H Ag ks f g) (sm:Same H H'):EntO H' Ag ks f g:=Paired.mapP h fun _ _ z=>⟨z.1,z.2.same sm⟩
theorem EntO.put {d:Addr} {o u:HO} (h:EntO H Ag ks f g) (hd:H d=some o) (ho:∀ xs,o ≠ .tup xs):EntO (Ah H d u) Ag ks f g:=Paired.mapP h fun _ _ z=>⟨z.1,z.2.put hd ho⟩
theorem EntO.len (h:EntO H Ag ks f g):Ag.length=ks.length:=Paired.length h
theorem EntO.val:∀ {Ag:KvO} {ks:List La},EntO H Ag ks f g->∀ {s:La},s ∈ ks->∃ v,valV Ag (keyO s)=some v/\ValO H v (f s) (g s)
 | _,_,.nil,s,hs=>nomatch hs
 | _,_,.cons (a:=kv) (b:=s0) ⟨e,v3⟩ t,s,hs=>by
  by_cases c:s0=s
  ·subst c;exact ⟨kv.2,qDC e,v3⟩
  ·rw [qDD (fun z=>c (qGV (e.symm.trans z)))];exact EntO.val t ((List.mem_cons.mp hs).resolve_left fun z=>c z.symm)
theorem EntO.none:∀ {Ag:KvO} {ks:List La},EntO H Ag ks f g->∀ {s:La},s ∉ ks->valV Ag (keyO s)=none
 | _,_,.nil,s,hs=>rfl
 | _,_,.cons (a:=kv) (b:=s0) ⟨e,v3⟩ t,s,hs=>by
  have c:¬ s0=s:=fun z=>hs (by rw [z];simp)
  rw [qDD (fun z=>c (qGV (e.symm.trans z)))];exact EntO.none t fun z=>hs (List.mem_cons_of_mem _ z)
theorem EntO.snoc (h:EntO H Ag ks f g) {s:La} (hs:s ∉ ks) {v:V} {n:Nat} {o:PrO} (hv:ValO H v n o):EntO H (putK Ag (keyO s) v) (ks++[s]) (fsO f s n) (gsO g s o):=by
 rw [qN0 v (h.none hs)];refine Paired.snoc (?_:EntO H Ag ks (fsO f s n) (gsO g s o)) ⟨rfl,by rw [show fsO f s n s=n from if_pos rfl,show gsO g s o s=o from if_pos rfl];exact hv⟩
 clear hv
 induction h with
 | nil=>exact .nil
 | @cons kv s0 l1 l2 a t ih=>exact .cons ⟨a.1,by rw [show fsO f s n s0=f s0 from if_neg fun z=>hs (by rw [z];simp),show gsO g s o s0=g s0 from if_neg fun z=>hs (by rw [z];simp)];exact a.2⟩ (ih fun z=>hs (List.mem_cons_of_mem _ z))
end
section
variable {Af:List (List Int)} {wides sizes:List Int} {ks:List La} {f:La->Nat} {g:La->PrO}
def PvO (Af:List (List Int)) (wides sizes:List Int) (ks:List La) (f:La->Nat) (g:La->PrO):Prop:=
 ∀ s ∈ ks,(s=l0 sizes/\g s=none/\f s=0)\/∃ p m,g s=some (p,m)/\p ∈ ks/\m ∈ nxO Af wides sizes p/\s=beO p m/\f s=f p+dN m
theorem PvO.start:PvO Af wides sizes [l0 sizes] (fun _=>0) (fun _=>none):=fun s hs=>.inl ⟨List.mem_singleton.mp hs,rfl,rfl⟩
theorem PvO.snoc {s:La} {m:Mo} {z:Nat} (hs:s ∈ ks) (hm:m ∈ nxO Af wides sizes s) (c:beO s m ∉ ks) (hz:z=dN m) (h:PvO Af wides sizes ks f g):PvO Af wides sizes (ks++[beO s m]) (fsO f (beO s m) (f s+z)) (gsO g (beO s m) (some (s,m))):=by
 have gn:∀ y ∈ ks,gsO g (beO s m) (some (s,m)) y=g y:=fun y hy=>if_neg fun e=>c (by rw [<- e];exact hy)
 intro x hx;rcases List.mem_append.mp hx with w | w
 ·rw [qDW w c,gn x w];rcases h x w with a | ⟨p,mm,a1,a2,a3,a4,a5⟩
  ·exact .inl a
  ·exact .inr ⟨p,mm,a1,List.mem_append.mpr (.inl a2),a3,a4,by rw [qDW a2 c];exact a5⟩
 ·rw [List.mem_singleton.mp w];refine .inr ⟨s,m,if_pos rfl,List.mem_append.mpr (.inl hs),hm,rfl,?_⟩;rw [qDJ,qDW hs c,hz]
inductive RunO (Af:List (List Int)) (wides sizes:List Int):La->List Mo->La->Prop
 | nil {l:La}:RunO Af wides sizes l [] l
 | cons {l l':La} {m:Mo} {ms:List Mo}:m ∈ nxO Af wides sizes l->RunO Af wides sizes (beO l m) ms l'->RunO Af wides sizes l (m::ms) l'
theorem RunO.app {a b c:La} {x y:List Mo} (h:RunO Af wides sizes a x b) (k:RunO Af wides sizes b y c):RunO Af wides sizes a (x++y) c:=by
 induction h with
 | nil=>exact k
 | cons m _ ih=>exact .cons m (ih k)
def dosO (ms:List Mo):Nat:=(ms.filter fun m=>m.dk).length
theorem qNL (m:Mo):dosO [m]=dN m:=by
 unfold dosO dN;rw [List.filter_cons,List.filter_nil];cases m.dk <;> rfl
theorem qSM (a b:List Mo):dosO (a++b)=dosO a+dosO b:=by
 unfold dosO;rw [List.filter_append,List.length_append]
def qEK (g:La->PrO):Nat->La->List Mo
 | 0,_=>[]
 | n+1,s=>match g s with
  | none=>[]
  | some (p,m)=>qEK g n p++[m]
theorem qH7 (R:RcO Af wides sizes ks f) {p:La} {m:Mo} (hp:p ∈ ks) (hm:m ∈ nxO Af wides sizes p) {u:Nat} (e:2 * (f p+dN m)=u+cntO (beO p m)):∃ v,u=v+1/\2 * f p=v+cntO p:=by
 obtain ⟨v,mv,ev⟩:=R.snd p hp;refine ⟨v,?_,ev⟩;unfold dN at e;rcases qI0 mv.1 hm with ⟨w,l⟩ | ⟨w,l⟩
 ·rw [w] at e;dsimp only at e;lia
 ·rw [w] at e;dsimp only at e;lia
theorem qPV {a b:List La} (na:a.Nodup) (h:∀ x ∈ a,x ∈ b) (nb:b.Nodup):a.length<=b.length:=by
 have p:a.Perm (b.filter fun x=>decide (x ∈ a)):=(List.perm_ext_iff_of_nodup na (nb.filter _)).mpr fun x=>by
  rw [List.mem_filter,decide_eq_true_eq];exact ⟨fun hx=>⟨h x hx,hx⟩,fun hx=>hx.2⟩
 rw [p.length_eq];exact List.length_filter_le _ _
theorem qKO (R:RcO Af wides sizes ks f) (pv:PvO Af wides sizes ks f g):∀ (u:Nat) (s:La),s ∈ ks->2 * f s=u+cntO s->RunO Af wides sizes (l0 sizes) (qEK g u s) s/\dosO (qEK g u s)=f s/\(qEK g u s).length=u/\
  ∃ L:List La,L.length=u+1/\L.Nodup/\∀ x ∈ L,x ∈ ks/\∃ v,v<=u/\2 * f x=v+cntO x
 | 0,s,hs,e=>by
  rcases pv s hs with ⟨a1,a2,a3⟩ | ⟨p,m,a1,a2,a3,a4,a5⟩
  ·subst a1;exact ⟨.nil,by rw [a3];rfl,rfl,[l0 sizes],rfl,by simp,fun x hx=>by rw [List.mem_singleton.mp hx];exact ⟨hs,0,Nat.le_refl _,e⟩⟩
  ·rw [a5,a4] at e;obtain ⟨v,z,_⟩:=qH7 R a2 a3 e
   lia
 | u+1,s,hs,e=>by
  rcases pv s hs with ⟨a1,a2,a3⟩ | ⟨p,m,a1,a2,a3,a4,a5⟩
  ·rw [a3,a1,qNN] at e
   lia
  ·have e2:=e;rw [a5,a4] at e2;obtain ⟨v,z1,z2⟩:=qH7 R a2 a3 e2;have:v=u:=by lia
   subst this;obtain ⟨i1,i2,i4,L,i5,i6,i7⟩:=qKO R pv v p a2 z2;have ep:qEK g (v+1) s=qEK g v p++[m]:=by show (match g s with | none=>[] | some (p,m)=>qEK g v p++[m])=_;rw [a1]
   rw [ep];refine ⟨i1.app (.cons a3 (by rw [<- a4];exact .nil)),by rw [qSM,i2,qNL,a5],by rw [List.length_append,i4];rfl,L++[s],by rw [List.length_append,i5];rfl,qCO i6 fun hz=>?_,fun x hx=>?_⟩
   ·obtain ⟨_,w,w1,w2⟩:=i7 s hz
    lia
   ·rcases List.mem_append.mp hx with z | z
    ·obtain ⟨j1,w,w1,w2⟩:=i7 x z;exact ⟨j1,w,by lia,w2⟩
    ·rw [List.mem_singleton.mp z];exact ⟨hs,v+1,Nat.le_refl _,e⟩
def pthO (f:La->Nat) (g:La->PrO) (s:La):List Mo:=qEK g (2 * f s - cntO s) s
theorem qN1 (R:RcO Af wides sizes ks f) (pv:PvO Af wides sizes ks f g) {s:La} (hs:s ∈ ks):RunO Af wides sizes (l0 sizes) (pthO f g s) s/\dosO (pthO f g s)=f s/\(pthO f g s).length+1<=ks.length:=by
 obtain ⟨u,_,e⟩:=R.snd s hs;have eu:2 * f s - cntO s=u:=by lia
 obtain ⟨h1,h2,h4,L,h5,h6,h7⟩:=qKO R pv u s hs e;unfold pthO;rw [eu];refine ⟨h1,h2,?_⟩;have:=qPV h6 (fun x hx=>(h7 x hx).1) R.nd
 lia
end
theorem qIW {n k:Int} {m:Mo} (h:m ∈ prMo n k):m ∈ qBN n k:=by
 obtain ⟨a,b⟩:=mem_prMo.mp h;obtain ⟨d,w,r⟩:=m;refine List.mem_flatMap.mpr ⟨r,mem_rangeI.mpr a,List.mem_append.mpr ?_⟩;rcases b with ⟨e1,e2⟩ | ⟨e1,e2⟩
 ·have e1:d=false:=e1;have e2:w=0:=e2;subst e1 e2;exact .inr (by simp)
 ·have e1:d=true:=e1;subst e1;exact .inl (List.mem_map.mpr ⟨w,mem_rangeI.mpr e2,rfl⟩)
theorem TKit.tinO {H:Hp} {a wd sz la mv:Addr} {Af:List (List Int)} {wides sizes:List Int} {lay:La} {m:Mo} (T:TKit H a wd sz Af wides sizes) (hl:H la=some (.tup (lay.map oV))) (ll:lay.length=sizes.length) (hm:H mv=some (.tup m.vs)) (hin:m ∈ qBN (Af.length:Int) (sizes.length:Int)) :
  ∃ ns o s w,TIn H a wd sz la mv Af wides sizes lay m ns o s w/\fwO Af wides sizes lay m=thW m ns lay o s w:=by
 obtain ⟨ns,o,s,w,I⟩:=T.tin hl ll hm hin;refine ⟨ns,o,s,w,I,?_⟩;unfold fwO thW;have e1:lay.getD m.rm.toNat none=o:=by rw [List.getD_eq_getElem?_getD,I.at_];rfl
 have e2:sizes.getD m.rm.toNat 0=s:=by rw [List.getD_eq_getElem?_getD,I.size];rfl
 cases hd:m.dk with
 | false=>dsimp only;rw [e1]
 | true=>
  obtain ⟨_,h2,_,h3⟩:=I.work hd;have e3:Af.getD m.wk.toNat []=ns:=by rw [List.getD_eq_getElem?_getD,h2];rfl
  have e4:wides.getD m.wk.toNat 0=w:=by rw [List.getD_eq_getElem?_getD,h3];rfl
  dsimp only;rw [e1,e2,e3,e4]
theorem qRP (k:Nat):(List.replicate k [V.non]).flatten=(List.replicate k (none:Option Int)).map oV:=by
 induction k with
 | zero=>rfl
 | succ k ih=>rw [List.replicate_succ,List.flatten_cons,ih,List.replicate_succ];rfl
theorem qFV {K:PySem.W.Frag} {H:Hp} {t1:Addr} {sizes:List Int} {Q:VK} (h1:H t1=some (.tup [.non])) (k1:1<=sizes.length) (k5:sizes.length<=1000) (h:∀ r H',Same H H'->H' r=some (.tup ((l0 sizes).map oV))->Q (.ref r) H'):qVQ K (.ref t1) (.int (sizes.length:Int)) H Q:=by
 refine ⟨t1,_,[.non],rfl,rfl,SqT.of h1,by simp,by lia,by lia,by decide,fun e=>?_,fun e p hp=>?_⟩
 ·refine h t1 H (.refl _) ?_;unfold l0;rw [h1,show sizes.length=1 from by lia]
  rfl
 ·refine h p _ (qA2 hp _) ?_;unfold l0;rw [qA1,qRP,show ((sizes.length:Int)).toNat=sizes.length from by lia]
theorem qGB {H:Hp} {rs:List Addr} {ms:List Mo} {d:Addr} {o u:HO} (h:MosL H rs ms) (hd:H d=some o) (ho:∀ xs,o ≠ .tup xs):MosL (Ah H d u) rs ms:=qCL h fun r m e=>qDE e hd ho
theorem qND:∀ a:List Int,HT.lexLt a a=false
 | []=>rfl
 | x::a=>by rw [HT.lexLt_cons,if_pos rfl];exact qND a
theorem qES:∀ a b c:List Int,HT.lexLt a b=false->HT.lexLt b c=false->HT.lexLt a c=false
 | [],[],c,_,h=>h
 | [],_::_,c,h,_=>by cases h
 | x::a,[],[],_,_=>rfl
 | x::a,[],_::_,_,h=>by cases h
 | x::a,y::b,[],_,_=>rfl
 | x::a,y::b,z::c,h1,h2=>by
  rw [HT.lexLt_cons] at h1 h2 ⊢;by_cases e1:x=y
  ·subst e1;rw [if_pos rfl] at h1;by_cases e2:x=z
   ·rw [if_pos e2] at h2 ⊢;exact qES a b c h1 h2
   ·rw [if_neg e2] at h2 ⊢;exact h2
  ·rw [if_neg e1] at h1;have h1:=of_decide_eq_false h1;by_cases e2:y=z
   ·subst e2;rw [if_neg e1];exact decide_eq_false h1
   ·rw [if_neg e2] at h2;have h2:=of_decide_eq_false h2;rw [if_neg (by lia)]
    exact decide_eq_false (by lia)
theorem qKZ:∀ a b:List Int,HT.lexLt a b=true->HT.lexLt b a=false
 | [],[],_=>rfl
 | [],_::_,_=>rfl
 | _::_,[],h=>by cases h
 | x::a,y::b,h=>by
  rw [HT.lexLt_cons] at h ⊢;by_cases e:x=y
  ·subst e;rw [if_pos rfl] at h ⊢;exact qKZ a b h
  ·rw [if_neg e] at h;have h:=of_decide_eq_true h;rw [if_neg (by lia)]
   exact decide_eq_false (by lia)
theorem qFW:∀ (r:List (V × List Int)) (b:V × List Int),∃ k,(qDX b r,k) ∈ b::r/\∀ q ∈ b::r,HT.lexLt q.2 k=false
 | [],b=>⟨b.2,by simp [qDX],fun q hq=>by rw [List.mem_singleton.mp hq];exact qND _⟩
 | x::r,b=>by
  by_cases e:HT.lexLt x.2 b.2=true
  ·obtain ⟨k,h1,h2⟩:=qFW r x;have ep:qDX b (x::r)=qDX x r:=by rw [qDX,if_pos e]
   rw [ep];refine ⟨k,List.mem_cons_of_mem _ h1,fun q hq=>?_⟩;rcases List.mem_cons.mp hq with z | z
   ·rw [z];exact qES _ _ _ (qKZ _ _ e) (h2 x (by simp))
   ·exact h2 q z
  ·obtain ⟨k,h1,h2⟩:=qFW r b;have ep:qDX b (x::r)=qDX b r:=by rw [qDX,if_neg e]
   rw [ep];refine ⟨k,?_,fun q hq=>?_⟩
   ·rcases List.mem_cons.mp h1 with z | z
    ·rw [z];simp
    ·exact List.mem_cons_of_mem _ (List.mem_cons_of_mem _ z)
   ·rcases List.mem_cons.mp hq with z | z
    ·exact h2 q (by rw [z];simp)
    ·rcases List.mem_cons.mp z with z | z
     ·rw [z];exact qES _ _ _ (Bool.eq_false_iff.mpr e) (h2 b (by simp))
     ·exact h2 q (List.mem_cons_of_mem _ z)
def qMR:Sp:=fun vs H Q _=>∃ (a wd sz la:Addr) (Af:List (List Int)) (wides sizes:List Int) (lay:La),vs=[.ref a,.ref wd,.ref sz,.ref la]/\TKit H a wd sz Af wides sizes/\H la=some (.tup (lay.map oV))/\lay.length=sizes.length/\
 ∀ l rs H',Same H H'->H l=none->H' l=some (.lst (rs.map V.ref))->MosL H' rs (nxO Af wides sizes lay)->Q (.ref l) H'
def qMO:Sp:=fun vs H Q _=>∃ (l:Addr) (rs:List Addr) (ms:List Mo),vs=[.ref l]/\H l=some (.lst (rs.map V.ref))/\MosL H rs ms/\ms.length<=20000/\∀ H',Same H H'->Q (.int (dosO ms:Int)) H'
def qMQ:Sp:=fun vs H Q _=>∃ (a wd sz:Addr) (Af:List (List Int)) (wides sizes:List Int),vs=[.ref a,.ref wd,.ref sz]/\TKit H a wd sz Af wides sizes/\
 ∀ d o Ag ks f g H',Same H H'->H d=none->H' d=some (.frz o (.dT Ag))->EntO H' Ag ks f g->RcO Af wides sizes ks f->PvO Af wides sizes ks f g->Q (.ref d) H'
def qOY:Sp:=fun vs H Q _=>∃ (d t:Addr) (o:Obj) (Ag:KvO) (Af:List (List Int)) (wides sizes:List Int) (ks:List La) (f:La->Nat) (g:La->PrO) (s:La),vs=[.ref d,.ref t]/\H d=some (.frz o (.dT Ag))/\EntO H Ag ks f g/\RcO Af wides sizes ks f/\PvO Af wides sizes ks f g/\ks.length<=20000/\H t=some (.tup (s.map oV))/\s ∈ ks/\
 ∀ l rs H',Same H H'->H l=none->H' l=some (.lst (rs.map V.ref))->MosL H' rs (pthO f g s)->Q (.ref l) H'
def rk1:Option Int->Int
 | none=>-1
 | some x=>x
def rkO (l:La):List Int:=l.map rk1
def qOX:Sp:=fun vs H Q _=>∃ (la:Addr) (lay:La),vs=[.ref la]/\H la=some (.tup (lay.map oV))/\lay.length<=1000/\∀ l H',Same H H'->H l=none->H' l=some (.lst ((rkO lay).map V.int))->Q (.ref l) H'
def TabO (H:Hp) (Pt:Addr):Prop:=H Pt=some (.tbl (.tab "least_there.<locals>.<lambda>"))
def LaysAt (H:Hp) (rs:List Addr) (L:List La):Prop:=Paired (fun (r:Addr) (s:La)=>H r=some (.tup (s.map oV))) rs L
theorem LaysAt.same {H H':Hp} {rs:List Addr} {L:List La} (h:LaysAt H rs L) (k:Same H H'):LaysAt H' rs L:=qCL h fun r m e=>k _ _ e
theorem LaysAt.put {H:Hp} {rs:List Addr} {L:List La} {d:Addr} {o u:HO} (h:LaysAt H rs L) (hd:H d=some o) (ho:∀ xs,o ≠ .tup xs):LaysAt (Ah H d u) rs L:=qCL h fun r m e=>qDE e hd ho
theorem LaysAt.snoc {H:Hp} {rs:List Addr} {L:List La} (h:LaysAt H rs L) {r:Addr} {s:La} (g:H r=some (.tup (s.map oV))):LaysAt H (rs++[r]) (L++[s]):=Paired.snoc h g
def qMS (Pt:Addr):Sp:=fun vs H Q _=>∃ (a wd sz t:Addr) (Af:List (List Int)) (wides sizes Ad:List Int),vs=[.ref a,.ref wd,.ref sz,.ref t]/\TabO H Pt/\TKit H a wd sz Af wides sizes/\H t=some (.tup (Ad.map V.int))/\Ad.length<=1000/\
 ∀ ks f H',Same H H'->RcO Af wides sizes ks f->
  ((∀ s ∈ ks,¬ ∀ x ∈ Ad,some x ∈ s)->∀ T p rs L,H T=none->H' T=some (.tup [.str "none",.ref p])->H p=none->H' p=some (.lst (rs.map V.ref))->LaysAt H' rs L->L.Perm ks->L.Pairwise (fun x y=>HT.lexLt (rkO y) (rkO x)=false)->Q (.ref T) H')/\
  ∀ s,s ∈ ks->(∀ x ∈ Ad,some x ∈ s)->(∀ s' ∈ ks,(∀ x ∈ Ad,some x ∈ s')->f s<=f s')->∀ T p rs ms,H T=none->H' T=some (.tup [.str "plan",.ref p,.int (f s:Int)])->H p=none->H' p=some (.lst (rs.map V.ref))->MosL H' rs ms->RunO Af wides sizes (l0 sizes) ms s->dosO ms=f s->ms.length<=20000->Q (.ref T) H'
theorem qUX {xs ys:List V} (h:xs.length=ys.length):((xs.zip ys).map fun p=>decide (p.1=p.2)).all id=decide (xs=ys):=by
 induction xs generalizing ys with
 | nil=>cases ys with
  | nil=>rfl
  | cons _ _=>cases h
 | cons x xs ih=>cases ys with
  | nil=>cases h
  | cons y ys=>
   rw [List.zip_cons_cons,List.map_cons,List.all_cons,ih (by simpa using h)]
   by_cases e:x=y
   ·by_cases e2:xs=ys
    ·rw [e,e2];simp
    ·simp [e,e2]
   ·simp [e]
theorem qSQ {H:Hp} {a c:Addr} {xs ys:List V} (n:Nat) (ha:H a=some (.tup xs)) (hc:H c=some (.tup ys)) (l:xs.length<=100000) (k:xs.length=ys.length->∀ (i:Nat) (x y:V),xs[i]?=some x->ys[i]?=some y->CmpL x y (decide (x=y))):CmpH H (n+2) (.ref a) (.ref c) (decide (xs=ys)):=by
 refine .inr ⟨true,a,c,xs,ys,rfl,rfl,ha,hc,l,?_⟩;by_cases e:xs.length=ys.length
 ·refine .inr ⟨e,(xs.zip ys).map fun p=>decide (p.1=p.2),by rw [List.length_map,List.length_zip];lia,(qUX e).symm,fun i x y b hx hy hb=>?_⟩
  have hz:(xs.zip ys)[i]?=some (x,y):=List.getElem?_zip_eq_some.mpr ⟨hx,hy⟩;rw [List.getElem?_map,hz] at hb;cases hb;exact .inl (k e i x y hx hy)
 ·exact .inl ⟨e,decide_eq_false fun z=>e (by rw [z])⟩
theorem qK2 (i j:Int):decide (V.int i=V.int j)=decide (i=j):=decide_eq_decide.mpr ⟨fun z=>V.int.inj z,fun z=>by rw [z]⟩
theorem qK1 (i j:Str):decide (V.str i=V.str j)=decide (i=j):=decide_eq_decide.mpr ⟨fun z=>V.str.inj z,fun z=>by rw [z]⟩
theorem qW5 {H:Hp} {a c:Addr} {m m':Mo} (ha:H a=some (.tup m.vs)) (hc:H c=some (.tup m'.vs)):CmpH H 3 (.ref a) (.ref c) (decide (m.vs=m'.vs)):=by
 refine qSQ 1 ha hc (by unfold Mo.vs;cases m.dk;exact (show 2<=100000 by decide);exact (show 3<=100000 by decide)) fun e i x y hx hy=>?_
 have ci:∀ i j:Int,CmpL (.int i) (.int j) (decide (V.int i=V.int j)):=fun i j=>.inr (.inl ⟨i,j,rfl,rfl,qK2 i j⟩);have cs:∀ i j:Str,CmpL (.str i) (.str j) (decide (V.str i=V.str j)):=fun i j=>.inr (.inr ⟨i,j,rfl,rfl,qK1 i j⟩);unfold Mo.vs at hx hy e;cases h1:m.dk <;> cases h2:m'.dk <;> rw [h1] at hx e <;> rw [h2] at hy e <;> dsimp only at hx hy e
 ·match i,hx,hy with
  | 0,hx,hy=>cases hx;cases hy;exact cs _ _
  | 1,hx,hy=>cases hx;cases hy;exact ci _ _
  | i+2,hx,_=>simp at hx
 ·cases e
 ·cases e
 ·match i,hx,hy with
  | 0,hx,hy=>cases hx;cases hy;exact cs _ _
  | 1,hx,hy=>cases hx;cases hy;exact ci _ _
  | 2,hx,hy=>cases hx;cases hy;exact ci _ _
  | i+3,hx,_=>simp at hx
theorem qOM (n:Int) (j:Nat):(qBN n (j:Int)).length=j * (n.toNat+1):=by
 have s:∀ j:Nat,qAS 0 ((j+1:Nat):Int)=qAS 0 (j:Int)++[0+(j:Int)]:=fun j=>by
  unfold qAS;rw [show ((((j+1:Nat):Int) - 0).toNat)=j+1 from by lia,show (((j:Int) - 0).toNat)=j from by lia,List.range_succ,List.map_append]
  rfl
 induction j with
 | zero=>show (qBN n (0:Int)).length=0 * (n.toNat+1);simp [qBN,qAS]
 | succ j ih=>
  have e:qBN n ((j+1:Nat):Int)=qBN n (j:Int)++(((qAS 0 n).map fun wk=>⟨true,wk,0+(j:Int)⟩)++[⟨false,0,0+(j:Int)⟩]):=by
   unfold qBN;rw [s,List.flatMap_append];simp
  rw [e,List.length_append,ih,List.length_append,List.length_map,qBI,List.length_singleton,Nat.succ_mul]
  lia
def qSY:Sp:=fun vs H Q _=>∃ (a wd sz l:Addr) (Af:List (List Int)) (wides sizes:List Int) (rs:List Addr) (ms:List Mo) (s:La),vs=[.ref a,.ref wd,.ref sz,.ref l]/\TKit H a wd sz Af wides sizes/\H l=some (.lst (rs.map V.ref))/\MosL H rs ms/\RunO Af wides sizes (l0 sizes) ms s/\
 ∀ r H',Same H H'->H' r=some (.tup (s.map oV))->Q (.ref r) H'
def mvO (Af:List (List Int)) (sizes:List Int) (k:Nat):Mo:=(qBN (Af.length:Int) (sizes.length:Int)).getD k ⟨false,0,0⟩
def orO (Af:List (List Int)) (sizes:List Int) (b:La) (k:Nat):La:=beO b (mvO Af sizes k)
def canO (Af:List (List Int)) (wides sizes:List Int) (b:La) (k:Nat):Prop:=k<(qBN (Af.length:Int) (sizes.length:Int)).length/\(mvO Af sizes k).dk=true/\fwO Af wides sizes b (mvO Af sizes k)=.non
theorem canO.mem {Af:List (List Int)} {wides sizes:List Int} {b:La} {k:Nat} (h:canO Af wides sizes b k):mvO Af sizes k ∈ nxO Af wides sizes b:=by
 have m:mvO Af sizes k ∈ qBN (Af.length:Int) (sizes.length:Int):=by
  have c1:=h.1;unfold mvO;rw [List.getD_eq_getElem?_getD,List.getElem?_eq_getElem c1];exact List.getElem_mem _
 obtain ⟨a,b',c⟩:=qHI m;exact List.mem_filter.mpr ⟨mem_prMo.mpr ⟨⟨a,b'⟩,.inr ⟨h.2.1,c h.2.1⟩⟩,decide_eq_true h.2.2⟩
inductive RmO (Af:List (List Int)) (wides sizes:List Int):Nat->La->Prop
 | zero:RmO Af wides sizes 0 (l0 sizes)
 | clr {m:Nat} {b:La} {k:Nat}:RmO Af wides sizes m b->k<sizes.length->RmO Af wides sizes m (b.set k none)
 | do_ {m:Nat} {b:La} {k:Nat}:RmO Af wides sizes m b->canO Af wides sizes b k->RmO Af wides sizes (m+1) (orO Af sizes b k)
def MnO (Af:List (List Int)) (wides sizes:List Int) (m:Nat) (b:La):Prop:=RmO Af wides sizes m b/\∀ m',m'<m->¬ RmO Af wides sizes m' b
theorem RmO.lay {Af:List (List Int)} {wides sizes:List Int} {m:Nat} {b:La} (h:RmO Af wides sizes m b):b.length=sizes.length/\LayOk (Af.length:Int) b:=by
 induction h with
 | zero=>exact ⟨List.length_replicate,fun x hx=>nomatch (List.eq_of_mem_replicate hx)⟩
 | @clr m b k _ hk ih=>exact ⟨by rw [List.length_set];exact ih.1,fun x hx=>(List.mem_or_eq_of_mem_set hx).elim (fun z=>ih.2 x z) fun z=>nomatch z⟩
 | do_ _ c ih=>exact ⟨by unfold orO beO;rw [List.length_set];exact ih.1,ih.2.set (qM7 c.mem).2.1⟩
structure FdO (Af:List (List Int)) (wides sizes:List Int) (many:Nat) (ks:List La) (f:La->Nat):Prop where
 nd:ks.Nodup
 snd:∀ b ∈ ks,f b<=many/\MnO Af wides sizes (f b) b
 zero:l0 sizes ∈ ks
 full:∀ m,m<many->∀ b,RmO Af wides sizes m b->b ∈ ks
section
variable {Af:List (List Int)} {wides sizes:List Int} {many:Nat} {ks cl ly:List La} {f:La->Nat} {at_ wk:Nat}
theorem FdO.len (h:FdO Af wides sizes many ks f):ks.length<=(Af.length+1) ^ sizes.length:=qD8 h.nd fun b hb=>(h.snd b hb).2.1.lay
theorem FdO.le (h:FdO Af wides sizes many ks f) {m:Nat} {b:La} (hb:b ∈ ks) (r:RmO Af wides sizes m b):f b<=m:=by
 apply Classical.byContradiction;intro z;exact (h.snd b hb).2.2 m (by lia) r
theorem FdO.add (h:FdO Af wides sizes many ks f) {x:La} (hx:x ∉ ks) (r:RmO Af wides sizes many x):FdO Af wides sizes many (ks++[x]) (fsO f x many):=by
 refine ⟨qCO h.nd hx,fun b hb=>?_,List.mem_append.mpr (.inl h.zero),fun m hm b rb=>List.mem_append.mpr (.inl (h.full m hm b rb))⟩;rcases List.mem_append.mp hb with hb | hb
 ·rw [qDW hb hx];exact h.snd b hb
 ·rw [List.mem_singleton.mp hb,qDJ];exact ⟨Nat.le_refl _,r,fun m' hm z=>hx (h.full m' hm x z)⟩
structure A1O (Af:List (List Int)) (wides sizes:List Int) (many:Nat) (ks:List La) (f:La->Nat) (cl:List La) (at_ wk:Nat):Prop where
 fd:FdO Af wides sizes many ks f
 dos:∀ m b k,m+1=many->RmO Af wides sizes m b->canO Af wides sizes b k->(orO Af sizes b k) ∈ ks
 clm:∀ b,b ∈ cl ↔ b ∈ ks/\f b=many
 nd:cl.Nodup
 done:∀ i b,cl[i]?=some b->i<at_->∀ k,k<sizes.length->(b.set k none) ∈ ks
 dk:∀ b,cl[at_]?=some b->∀ k,k<wk->(b.set k none) ∈ ks
theorem A1O.start:A1O Af wides sizes 0 [l0 sizes] (fun _=>0) [l0 sizes] 0 0:=
 ⟨⟨by simp,fun b hb=>by rw [List.mem_singleton.mp hb];exact ⟨Nat.le_refl _,.zero,fun _ z=>absurd z (Nat.not_lt_zero _)⟩,by simp,fun m hm=>absurd hm (Nat.not_lt_zero _)⟩,fun m b k e=>by lia,fun b=>by simp,by simp,fun i b _ z=>absurd z (Nat.not_lt_zero _),fun b _ k z=>absurd z (Nat.not_lt_zero _)⟩
theorem A1O.hit (h:A1O Af wides sizes many ks f cl at_ wk) {c:La} (hc:cl[at_]?=some c) (hk:(c.set wk none) ∈ ks):A1O Af wides sizes many ks f cl at_ (wk+1):=by
 refine ⟨h.fd,h.dos,h.clm,h.nd,h.done,fun b hb k hk'=>?_⟩;by_cases e:k=wk
 ·rw [hc] at hb;cases hb;rw [e];exact hk
 ·exact h.dk b hb k (by lia)
theorem A1O.add (h:A1O Af wides sizes many ks f cl at_ wk) {c:La} (hc:cl[at_]?=some c) (hw:wk<sizes.length) (hk:(c.set wk none) ∉ ks):A1O Af wides sizes many (ks++[(c.set wk none)]) (fsO f ((c.set wk none)) many) (cl++[(c.set wk none)]) at_ (wk+1):=by
 have cin:=(h.clm c).mp (List.mem_of_getElem? hc);have rc:RmO Af wides sizes many c:=cin.2 ▸ (h.fd.snd c cin.1).2.1;have old:∀ {i b},i<=at_->(cl++[(c.set wk none)])[i]?=some b->cl[i]?=some b:=fun {i b} hi e=>by
  have:=(List.getElem?_eq_some_iff.mp hc).1
  rwa [List.getElem?_append_left (by lia)] at e
 refine ⟨h.fd.add hk (.clr rc hw),fun m b k e1 r c=>List.mem_append.mpr (.inl (h.dos m b k e1 r c)),fun b=>?_,qCO h.nd fun z=>hk ((h.clm _).mp z).1,fun i b e hi k hk'=>?_,fun b e k hk'=>?_⟩
 ·rw [List.mem_append,List.mem_append,List.mem_singleton,h.clm b]
  constructor
  ·rintro (z | z)
   ·exact ⟨.inl z.1,by rw [qDW z.1 hk];exact z.2⟩
   ·exact ⟨.inr z,by rw [z,qDJ]⟩
  ·rintro ⟨z | z,e⟩
   ·rw [qDW z hk] at e;exact .inl ⟨z,e⟩
   ·exact .inr z
 ·exact List.mem_append.mpr (.inl (h.done i b (old (by lia) e) hi k hk'))
 ·have e':=old (Nat.le_refl _) e;by_cases ek:k=wk
  ·rw [hc] at e';cases e';rw [ek];exact List.mem_append.mpr (.inr (List.mem_singleton.mpr rfl))
  ·exact List.mem_append.mpr (.inl (h.dk b e' k (by lia)))
theorem A1O.next (h:A1O Af wides sizes many ks f cl at_ sizes.length):A1O Af wides sizes many ks f cl (at_+1) 0:=by
 refine ⟨h.fd,h.dos,h.clm,h.nd,fun i b e hi k hk=>?_,fun b _ k z=>absurd z (Nat.not_lt_zero _)⟩;by_cases ei:i=at_
 ·rw [ei] at e;exact h.dk b e k hk
 ·exact h.done i b e (by lia) k hk
theorem A1O.len (h:A1O Af wides sizes many ks f cl at_ wk):cl.length<=(Af.length+1) ^ sizes.length:=qD8 h.nd fun b hb=>(h.fd.snd b ((h.clm b).mp hb).1).2.1.lay
theorem A1O.all (h:A1O Af wides sizes many ks f cl at_ wk) (he:cl.length<=at_):∀ m b,RmO Af wides sizes m b->m<=many->b ∈ ks:=by
 intro m b r
 induction r with
 | zero=>exact fun _=>h.fd.zero
 | @clr m b k r hk ih=>
  intro hm;have hb:=ih hm;by_cases e:f b=many
  ·obtain ⟨i,hi,ei⟩:=List.getElem_of_mem ((h.clm b).mpr ⟨hb,e⟩);exact h.done i b (by rw [List.getElem?_eq_getElem hi,ei]) (by lia) k hk
  ·have:=(h.fd.snd b hb);exact h.fd.full (f b) (by lia) _ (.clr this.2.1 hk)
 | @do_ m b k r c ih=>
  intro hm;by_cases e:m+1=many
  ·exact h.dos m b k e r c
  ·exact h.fd.full (m+1) (by lia) _ (.do_ r c)
structure A2O (Af:List (List Int)) (wides sizes:List Int) (many:Nat) (ks:List La) (f:La->Nat) (cl ly:List La) (at_ wk:Nat):Prop where
 fd:FdO Af wides sizes (many+1) ks f
 clm:∀ b,b ∈ cl ↔ b ∈ ks/\f b=many
 lym:∀ b,b ∈ ly ↔ b ∈ ks/\f b=many+1
 nd:ly.Nodup
 done:∀ i b,cl[i]?=some b->i<at_->∀ k,canO Af wides sizes b k->(orO Af sizes b k) ∈ ks
 dk:∀ b,cl[at_]?=some b->∀ k,k<wk->canO Af wides sizes b k->(orO Af sizes b k) ∈ ks
theorem A1O.two (h:A1O Af wides sizes many ks f cl at_ wk) (he:cl.length<=at_):A2O Af wides sizes many ks f cl [] 0 0:=by
 refine ⟨⟨h.fd.nd,fun b hb=>⟨by have:=(h.fd.snd b hb).1;lia,(h.fd.snd b hb).2⟩,h.fd.zero,fun m hm b r=>h.all he m b r (by lia)⟩,h.clm,fun b=>⟨fun z=>absurd z (by simp),fun z=>?_⟩,.nil,fun i b _ z=>absurd z (Nat.not_lt_zero _),fun b _ k z=>absurd z (Nat.not_lt_zero _)⟩
 have:=(h.fd.snd b z.1).1
 lia
theorem A2O.hit (h:A2O Af wides sizes many ks f cl ly at_ wk) {c:La} (hc:cl[at_]?=some c) (hk:canO Af wides sizes c wk->(orO Af sizes c wk) ∈ ks):A2O Af wides sizes many ks f cl ly at_ (wk+1):=by
 refine ⟨h.fd,h.clm,h.lym,h.nd,h.done,fun b hb k hk' c'=>?_⟩;by_cases e:k=wk
 ·rw [hc] at hb;cases hb;rw [e] at c' ⊢;exact hk c'
 ·exact h.dk b hb k (by lia) c'
theorem A2O.add (h:A2O Af wides sizes many ks f cl ly at_ wk) {c:La} (hc:cl[at_]?=some c) (hn:canO Af wides sizes c wk) (hk:(orO Af sizes c wk) ∉ ks):A2O Af wides sizes many (ks++[(orO Af sizes c wk)]) (fsO f ((orO Af sizes c wk)) (many+1)) cl (ly++[(orO Af sizes c wk)]) at_ (wk+1):=by
 have cin:=(h.clm c).mp (List.mem_of_getElem? hc);have rc:RmO Af wides sizes many c:=cin.2 ▸ (h.fd.snd c cin.1).2.1;refine ⟨h.fd.add hk (.do_ rc hn),fun b=>?_,fun b=>?_,qCO h.nd fun z=>hk ((h.lym _).mp z).1,fun i b e hi k c'=>List.mem_append.mpr (.inl (h.done i b e hi k c')),fun b e k hk' c'=>?_⟩
 ·rw [h.clm b,List.mem_append,List.mem_singleton]
  constructor
  ·rintro ⟨z,e⟩;exact ⟨.inl z,by rw [qDW z hk];exact e⟩
  ·rintro ⟨z | z,e⟩
   ·rw [qDW z hk] at e;exact ⟨z,e⟩
   ·rw [z,qDJ] at e
    lia
 ·rw [List.mem_append,List.mem_append,List.mem_singleton,h.lym b]
  constructor
  ·rintro (z | z)
   ·exact ⟨.inl z.1,by rw [qDW z.1 hk];exact z.2⟩
   ·exact ⟨.inr z,by rw [z,qDJ]⟩
  ·rintro ⟨z | z,e⟩
   ·rw [qDW z hk] at e;exact .inl ⟨z,e⟩
   ·exact .inr z
 ·by_cases ek:k=wk
  ·rw [hc] at e;cases e;rw [ek];exact List.mem_append.mpr (.inr (List.mem_singleton.mpr rfl))
  ·exact List.mem_append.mpr (.inl (h.dk b e k (by lia) c'))
theorem A2O.next (h:A2O Af wides sizes many ks f cl ly at_ (qBN (Af.length:Int) (sizes.length:Int)).length):A2O Af wides sizes many ks f cl ly (at_+1) 0:=by
 refine ⟨h.fd,h.clm,h.lym,h.nd,fun i b e hi k c=>?_,fun b _ k z=>absurd z (Nat.not_lt_zero _)⟩;by_cases ei:i=at_
 ·rw [ei] at e;exact h.dk b e k c.1 c
 ·exact h.done i b e (by lia) k c
theorem A2O.one (h:A2O Af wides sizes many ks f cl ly at_ wk) (he:cl.length<=at_):A1O Af wides sizes (many+1) ks f ly 0 0:=by
 refine ⟨h.fd,fun m b k e r c=>?_,h.lym,h.nd,fun i b _ z=>absurd z (Nat.not_lt_zero _),fun b _ k z=>absurd z (Nat.not_lt_zero _)⟩;have em:m=many:=by lia
 subst em;have hb:=h.fd.full m (by lia) b r
 have hle:=h.fd.le hb r;by_cases e':f b=m
 ·obtain ⟨i,hi,ei⟩:=List.getElem_of_mem ((h.clm b).mpr ⟨hb,e'⟩);exact h.done i b (by rw [List.getElem?_eq_getElem hi,ei]) (by lia) k c
 ·exact h.fd.full (f b+1) (by lia) _ (.do_ (h.fd.snd b hb).2.1 c)
structure ComeO (Af:List (List Int)) (wides sizes:List Int) (ks:List La) (f:La->Nat):Prop where
 nd:ks.Nodup
 snd:∀ b ∈ ks,MnO Af wides sizes (f b) b
 all:∀ m b,RmO Af wides sizes m b->b ∈ ks
theorem A1O.come (h:A1O Af wides sizes many ks f [] at_ wk):ComeO Af wides sizes ks f:=by
 have lt:∀ b ∈ ks,f b<many:=fun b hb=>by
  have h1:=(h.fd.snd b hb).1;have h2:f b ≠ many:=fun e=>nomatch (h.clm b).mpr ⟨hb,e⟩
  lia
 refine ⟨h.fd.nd,fun b hb=>(h.fd.snd b hb).2,fun m b r=>?_⟩
 induction r with
 | zero=>exact h.fd.zero
 | @clr m b k r hk ih=>exact h.fd.full (f b) (lt b ih) _ (.clr (h.fd.snd b ih).2.1 hk)
 | @do_ m b k r c ih=>
  have:=lt b ih;by_cases e:f b+1=many
  ·exact h.dos (f b) b k e (h.fd.snd b ih).2.1 c
  ·exact h.fd.full (f b+1) (by lia) _ (.do_ (h.fd.snd b ih).2.1 c)
end
section
variable {Af:List (List Int)} {wides sizes:List Int}
theorem RmO.path {m:Nat} {b:La} (h:RmO Af wides sizes m b):∃ t,Po Af wides sizes t b/\t+cntO b<=2 * m:=by
 induction h with
 | zero=>exact ⟨0,.zero,by rw [qNN];lia⟩
 | @clr m b k _ hk ih=>
  obtain ⟨t,p,e⟩:=ih;have lb:k<b.length:=by rw [p.len];exact hk
  cases ex:b.getD k none with
  | none=>
   have es:b.set k none=b:=by
    refine List.ext_getElem? fun i=>?_;rw [List.getElem?_set];by_cases ei:k=i
    ·subst ei;rw [if_pos rfl,if_pos lb];rw [List.getD_eq_getElem?_getD] at ex;rw [List.getElem?_eq_getElem lb] at ex ⊢;exact congrArg some ex.symm
    ·rw [if_neg ei]
   rw [es];exact ⟨t,p,e⟩
  | some x=>
   have hm:(⟨false,0,(k:Int)⟩:Mo) ∈ nxO Af wides sizes b:=List.mem_filter.mpr ⟨mem_prMo.mpr ⟨⟨by show (0:Int)<=k;lia,by show (k:Int)<_;lia⟩,.inl ⟨rfl,rfl⟩⟩,decide_eq_true ((qWO rfl).mpr ⟨x,ex⟩)⟩
   have c:=qI0 p hm;refine ⟨t+1,.step p hm,?_⟩;rcases c with ⟨z,_⟩ | ⟨_,z⟩
   ·exact nomatch z
   ·have eb:beO b ⟨false,0,(k:Int)⟩=b.set k none:=rfl;rw [eb] at z
    lia
 | @do_ m b k _ c ih=>
  obtain ⟨t,p,e⟩:=ih;refine ⟨t+1,.step p c.mem,?_⟩;rcases qI0 p c.mem with ⟨_,z⟩ | ⟨z,_⟩
  ·unfold orO;lia
  ·rw [c.2.1] at z;cases z
theorem qOC {m:Mo} {l:La} (h:m ∈ nxO Af wides sizes l) (hd:m.dk=true):∃ k,canO Af wides sizes l k/\mvO Af sizes k=m:=by
 obtain ⟨a,b,c⟩:=qM7 h;have hm:m ∈ qBN (Af.length:Int) (sizes.length:Int):=by
  unfold qBN;refine List.mem_flatMap.mpr ⟨m.rm,mem_rangeI.mpr a,List.mem_append.mpr (.inl (List.mem_map.mpr ⟨m.wk,mem_rangeI.mpr (b hd),?_⟩))⟩;obtain ⟨x,y,z⟩:=m;cases (show x=true from hd)
  rfl
 obtain ⟨k,hk,ek⟩:=List.getElem_of_mem hm;have e:mvO Af sizes k=m:=by unfold mvO;rw [List.getD_eq_getElem?_getD,List.getElem?_eq_getElem hk];exact ek
 exact ⟨k,⟨hk,by rw [e];exact hd,by rw [e];exact c⟩,e⟩
theorem Po.dos {t:Nat} {l:La} (h:Po Af wides sizes t l):∃ d,2 * d=t+cntO l/\RmO Af wides sizes d l:=by
 induction h with
 | zero=>exact ⟨0,by rw [qNN],.zero⟩
 | @step t l m p hm ih=>
  obtain ⟨d,e,r⟩:=ih;rcases qI0 p hm with ⟨w,c⟩ | ⟨w,c⟩
  ·obtain ⟨k,ck,ek⟩:=qOC hm w;refine ⟨d+1,by lia,?_⟩
   rw [<- ek];exact .do_ r ck
  ·refine ⟨d,by lia,?_⟩
   have b:=(qM7 hm).1;have er:m.res=none:=by unfold Mo.res;rw [w]
   unfold beO;rw [er];exact .clr r (by lia)
theorem ComeO.same {ks kc:List La} {f g:La->Nat} (c:ComeO Af wides sizes kc g) (h:RcO Af wides sizes ks f):(∀ s,s ∈ kc ↔ s ∈ ks)/\∀ s ∈ ks,g s=f s:=by
 have a:∀ s,s ∈ kc->s ∈ ks:=fun s hs=>let ⟨t,p,_⟩:=(c.snd s hs).1.path;h.all t s p
 have b:∀ s,s ∈ ks->s ∈ kc:=fun s hs=>by
  obtain ⟨u,mu,_⟩:=h.snd s hs;obtain ⟨d,_,r⟩:=mu.1.dos;exact c.all d s r
 refine ⟨fun s=>⟨a s,b s⟩,fun s hs=>?_⟩;obtain ⟨u,mu,eu⟩:=h.snd s hs;obtain ⟨d,ed,r⟩:=mu.1.dos;have le1:g s<=f s:=by
  apply Classical.byContradiction;intro z;exact (c.snd s (b s hs)).2 d (by lia) r
 obtain ⟨t,p,et⟩:=(c.snd s (b s hs)).1.path;have:u<=t:=by
  apply Classical.byContradiction;intro z;exact mu.2 t (by lia) p
 lia
end
def kvC (ks:List La) (f:La->Nat):KvO:=ks.map fun s=>(keyO s,V.int (f s:Int))
theorem qJP (ks:List La) (f:La->Nat):(kvC ks f).length=ks.length:=List.length_map _
theorem qHL {f:La->Nat} {s:La}:∀ ks:List La,valV (kvC ks f) (keyO s)=if s ∈ ks then some (.int (f s:Int)) else none
 | []=>rfl
 | x::ks=>by
  by_cases e:x=s
  ·subst e;rw [if_pos (by simp)]
   exact qDC rfl
  ·have h:valV (kvC (x::ks) f) (keyO s)=valV (kvC ks f) (keyO s):=qDD fun z=>e (qGV z);rw [h,qHL ks];by_cases c:s ∈ ks
   ·rw [if_pos c,if_pos (List.mem_cons_of_mem _ c)]
   ·rw [if_neg c,if_neg fun z=>(List.mem_cons.mp z).elim (fun q=>e q.symm) c]
theorem qQ0 {ks:List La} {f:La->Nat} {s:La} {n:Nat} (h:s ∉ ks):putK (kvC ks f) (keyO s) (.int (n:Int))=kvC (ks++[s]) (fsO f s n):=by
 rw [qN0 _ (by rw [qHL,if_neg h])]
 unfold kvC;rw [List.map_append,List.map_singleton,qDJ];congr 1;exact List.map_congr_left fun x hx=>by rw [qDW hx h]
def qOZ:Sp:=fun vs H Q _=>∃ (a wd sz:Addr) (Af:List (List Int)) (wides sizes:List Int),vs=[.ref a,.ref wd,.ref sz]/\TKit H a wd sz Af wides sizes/\
 ∀ d o ks f H',Same H H'->H d=none->H' d=some (.frz o (.dT (kvC ks f)))->ComeO Af wides sizes ks f->Q (.ref d) H'
theorem qS1:∀ {l:List Int} {m:Int},lowD none l=some m->m ∈ l/\∀ x ∈ l,m<=x:=by
 intro l m h;cases l with
 | nil=>cases h
 | cons x r=>
  have h:=Option.some.inj h;subst h;obtain ⟨h2,h3,h1⟩:=qPS r x;exact ⟨h1.elim (fun e=>by rw [e];exact List.mem_cons_self) (List.mem_cons_of_mem _),fun y hy=>(List.mem_cons.mp hy).elim (fun e=>by rw [e];exact h2) (h3 y)⟩
theorem qUC {l:List Int} (h:l ≠ []):∃ m,lowD none l=some m:=by
 cases l with
 | nil=>exact absurd rfl h
 | cons x r=>exact ⟨_,rfl⟩
def unR (w:Int):Option Int:=if w<0 then none else some w
theorem qVB {n:Int} {l:La} (h:LayOk n l):(rkO l).map unR=l:=by
 unfold rkO;rw [List.map_map];refine (List.map_congr_left fun o ho=>?_).trans (List.map_id _);cases o with
 | none=>rfl
 | some x=>
  have:=(h x ho).1;show unR x=some x;unfold unR;rw [if_neg (by lia)]
theorem RcO.ok {Af:List (List Int)} {wides sizes:List Int} {ks:List La} {f:La->Nat} (h:RcO Af wides sizes ks f) {s:La} (hs:s ∈ ks):s.length=sizes.length/\LayOk (Af.length:Int) s:=by
 obtain ⟨_,m,_⟩:=h.snd s hs;exact ⟨m.1.len,m.1.ok⟩
theorem qRN {ks kc L:List La} {ts:List (List Int)} (n1:ks.Nodup) (n2:kc.Nodup) (m:∀ s,s ∈ kc ↔ s ∈ ks) (p:L.Perm ks) (so:L.Pairwise (fun x y=>HT.lexLt (rkO y) (rkO x)=false)) (p2:ts.Perm (kc.map rkO)) (so2:ts.Pairwise (fun a b=>HT.lexLt b a=false)):ts=L.map rkO:=by
 have e:ts.Perm (L.map rkO):=p2.trans (((List.perm_ext_iff_of_nodup n2 n1).mpr m |>.trans p.symm).map rkO);exact e.eq_of_pairwise (fun x y _ _ h1 h2=>L2.G.lexLt_tri x y h2 h1) so2 (List.pairwise_map.mpr so)
theorem qSI {ks kc:List La} {P:La->Bool} (m:∀ s,s ∈ kc ↔ s ∈ ks) (h:∀ s ∈ ks,P s=false):kc.filter P=[]:=List.filter_eq_nil_iff.mpr fun s hs z=>by rw [h s ((m s).mp hs)] at z;cases z
def EndO (H:Hp) (Af:List (List Int)) (wides sizes Ad:List Int) (ks:List La) (f:La->Nat) (F:Addr):Prop:=
 ((∀ s ∈ ks,¬ ∀ x ∈ Ad,some x ∈ s)/\∃ p rs L,H F=some (.tup [.str "none",.ref p])/\H p=some (.lst (rs.map V.ref))/\LaysAt H rs L/\L.Perm ks/\L.Pairwise (fun x y=>HT.lexLt (rkO y) (rkO x)=false))\/
 ∃ s,s ∈ ks/\(∀ x ∈ Ad,some x ∈ s)/\(∀ s' ∈ ks,(∀ x ∈ Ad,some x ∈ s')->f s<=f s')/\∃ p rs ms,H F=some (.tup [.str "plan",.ref p,.int (f s:Int)])/\H p=some (.lst (rs.map V.ref))/\MosL H rs ms/\RunO Af wides sizes (l0 sizes) ms s/\dosO ms=f s/\ms.length<=20000
def qMP:Sp:=fun vs H Q _=>∃ (a wd sz t d F:Addr) (o:Obj) (Af:List (List Int)) (wides sizes Ad:List Int) (ks kc:List La) (f g:La->Nat),vs=[.ref a,.ref wd,.ref sz,.ref t,.ref d,.ref F]/\TKit H a wd sz Af wides sizes/\H t=some (.tup (Ad.map V.int))/\Ad.length<=1000/\
 H d=some (.frz o (.dT (kvC kc g)))/\ComeO Af wides sizes kc g/\RcO Af wides sizes ks f/\EndO H Af wides sizes Ad ks f F/\∀ H',Same H H'->Q (.bl true) H'
theorem qRJ {H:Hp} {a wd sz:Addr} {Af:List (List Int)} {wides sizes:List Int} {lay:List (Option Int)} (T:TKit H a wd sz Af wides sizes) (ll:lay.length<=6) (ok:LayOk (Af.length:Int) lay):Sm 100000 (qOF Af wides sizes lay):=by
 have n6:=T.n6;have k5:=T.k5;have lw:=T.lw;have is:∀ {xs:List Int},(∀ x ∈ xs,0<=x/\x<=99)->xs.length<=6->Sm 400 (qL5 xs):=fun {xs} h l=>by
  refine (Sm.seq (W:=7) (L:=6) (b:=true) (ds:=xs.map PyData.int) (fun d hd=>?_) (by rw [List.length_map];exact l)).mono (by decide)
  obtain ⟨x,hx,rfl⟩:=List.mem_map.mp hd;exact Sm.int (h x hx).1 (h x hx).2
 refine (Sm.seq (W:=400) (L:=4) (b:=false) (ds:=[netD Af,qL5 wides,qL5 sizes,layD lay]) (fun d hd=>?_) (by show 4<=4;decide)).mono (by decide)
 simp only [List.mem_cons,List.not_mem_nil,or_false] at hd;rcases hd with z | z | z | z
 ·rw [z];refine (Sm.seq (W:=48) (L:=6) (b:=true) (ds:=Af.map qL5) (fun d hd=>?_) (by rw [List.length_map];exact n6)).mono (by decide)
  obtain ⟨zs,hz,rfl⟩:=List.mem_map.mp hd;obtain ⟨i,hi⟩:=List.getElem?_of_mem hz;have r:=T.wf i zs hi;have hil:=(List.getElem?_eq_some_iff.mp hi).1;refine Sm.seq (W:=7) (L:=6) (b:=true) (ds:=zs.map PyData.int) (fun d hd=>?_) (by rw [List.length_map];have:=r.len;lia)
  obtain ⟨x,hx,rfl⟩:=List.mem_map.mp hd;have:=r.in_ x hx;exact Sm.int this.1 (by lia)
 ·rw [z];exact is T.w9 (by lia)
 ·rw [z];exact is T.s9 (by lia)
 ·rw [z];refine (Sm.seq (W:=7) (L:=6) (b:=true) (ds:=lay.map fun o=>match o with | some x=>PyData.int x | none=>PyData.none) (fun d hd=>?_) (by rw [List.length_map];lia)).mono (by show 48<=400;decide)
  obtain ⟨o,ho,rfl⟩:=List.mem_map.mp hd;cases o with
  | none=>exact Sm.none
  | some x=>have:=ok x ho;exact Sm.int this.1 (by lia)
def qMN:Sp:=fun vs H Q _=>∃ (d c:Addr) (t:Int) (ns:List Int),vs=[.ref d]/\StAt H d c t ns/\t<=TB - 20000/\
 ∀ T a wd sz Af wides sizes t' ns' H',StAt H' d c t' ns'->t<=t'->t'<=t+200->Keep d c H H'->H' T=some (.tup [.ref a,.ref wd,.ref sz])->TKit H' a wd sz Af wides sizes->Q (.ref T) H'
def qMT (K:PySem.W.Frag) (Pt:Addr):Sp:=fun vs H Q E=>TabO H Pt/\qXG K vs H Q E
theorem TabO.keep {H H':Hp} {Pt d c:Addr} {t:Int} {ns:List Int} (h:TabO H Pt) (S:StAt H d c t ns) (k:Keep d c H H'):TabO H' Pt:=k _ _ h (qCR h S.dict (by intro z;cases z)) (qCR h S.list (by intro z;cases z))
section
variable {P:Program} {w:World} {K:PySem.W.Frag} {mg:Str->Option Value} {base:Heap} {f:Addr} {fd:FuncData} {qEY qDN qEX qFL qDM qDL qCU qNJ qD1 qGY qQM qDK qG2 Pt cc qHT qBX qHU qE6 qG3 qQN qJW qJU qDO qJX qBU qJV:Addr} {qFJ qII qLD qJ3 qIH qIG qGM qQJ qFK qLE qUK qIE qMG qOH qFI qOI qEJ qMH qUL qQK qQH qIJ qQL qIF qQI:FuncData}
theorem sc_Lbegin:FnScope ["_law_script","_law_cells"] ["_law_script"] (qAA qGR):=qC2
theorem ok_Lbegin (F:Fun K "_law_begin" "_law_begin" qGR f fd) (qDS:mg "list" = none):FnOk P w K mg base CX0 1 f fd ["_law_script"] (qP0 K):=by
 refine F.okA sc_Lbegin fun cdv A outer s H vs Q E hr h=>?_;obtain ⟨a,ns,rfl,hS,h63,q⟩:=h;have hu:=qME hr;have hu0:=hr.units0;refine ⟨_,(qA4 (qAD (i:=1) sc_Lbegin.nd rfl (Or.inl rfl) (qAF qLL rfl qDS qG5 (qA0 (qDH qLZ (pv 0) qEP (qEO qA6)) qA3))) (qA4 (qBE (qAI (qHG hu0) (pv 1) (qBB qA3) (qAQ _)) (qA7 (qAD (i:=1) sc_Lbegin.nd rfl (Or.inl rfl) (qBB (qA0 qA6 qA3)))) qAJ) (qA7 (qAE (qU4 (qN4 qB0 (pv 1) (qN4 qB0 qA6 qU0)) rfl rfl (by simp) (by decide)))))),?_⟩
 try dsimp only [Cx.nox,Cx.wish,cxOf]
 refine ⟨_,rfl,_,rfl,a,_,rfl,hS,fun p hp=>?_⟩;rw [qDQ];have hl:(cutI ns none (some 63)).length<=63:=Nat.le_trans (qFN _ _ _) h63;refine ⟨p,_,rfl,.inl (SqL.of qA1),fun c hc=>?_⟩;have s1:Same H (Ah (Ah H p (.lst ((cutI ns none (some 63)).map V.int))) c (.lst ((cutI ns none (some 63)).map V.int))):=(qA2 hp _).trans (qA2 hc _);refine ⟨_,rfl,(by show 0<=sizeLine;decide),fun e he=>?_⟩
 have hce:c ≠ e:=qA5 qA1 he;refine ⟨c,e,_,rfl,rfl,SqL.of (by rw [qA8 hce];exact qA1),SqL.of qA1,_,rfl,?_⟩
 have s2:=s1.trans (qA2 he (.lst []));cases hm:cutI ns none (some 63) with
 | nil=>
  rw [hm] at s2 he;refine iteT ?_;refine ⟨(by show 1<=sizeLine;decide),fun c2 hc2=>?_⟩
  have s3:=s2.trans (qA2 hc2 (.lst [.int 7]));intro d hd;refine ⟨_,rfl,?_⟩;have s4:=s3.trans (qA2 hd (.dK []));refine ⟨qA1,[(Sum.inr (Str.ofString "cells"),.ref c2),(Sum.inr (Str.ofString "turn"),.int 0)],rfl,(by show 2<=15;decide),?_⟩
  have ncd:c2 ≠ d:=qA5 qA1 hd;refine q d c2 [7] _ ⟨?_,?_,by decide,by decide,by decide⟩ ?_ ?_ ?_
  ·rw [qA1,qT6]
  ·rw [qA8 ncd,qA8 ncd];exact qA1
  ·rw [qH6];exact s3.trans (qA2 hd _)
  ·exact s3.free hd
  ·exact s2.free hc2
 | cons x r=>
  rw [hm] at s2 he hl;refine iteF ?_;intro d hd;refine ⟨_,rfl,?_⟩;refine ⟨qA1,[(Sum.inr (Str.ofString "cells"),.ref c),(Sum.inr (Str.ofString "turn"),.int 0)],rfl,(by show 2<=15;decide),?_⟩
  have gc:(Ah (Ah (Ah H p (.lst ((x::r).map V.int))) c (.lst ((x::r).map V.int))) e (.lst [])) c=some (.lst ((x::r).map V.int)):=by rw [qA8 hce];exact qA1
  have ncd:c ≠ d:=qA5 gc hd;refine q d c (x::r) _ ⟨?_,?_,by simp,hl,by decide⟩ ?_ ?_ ?_
  ·rw [qA1,qT6]
  ·rw [qA8 ncd,qA8 ncd];exact gc
  ·rw [qH6];exact s2.trans (qA2 hd _)
  ·exact s2.free hd
  ·rw [hm] at hc;exact (qA2 hp _).free hc
theorem sc_Ltake:FnScope ["_law_state","_law_many","_law_turn","_law_place","_law_cell","_law_digit","_law_mixed"] ["_law_state","_law_many"] (qAA qJE):=qC2
theorem ok_Ltake (F:Fun K "_law_take" "_law_take" qJE f fd) (qBF:mg "len" = none) (qRE:mg "divmod" = none):FnOk P w K mg base CX0 1 f fd ["_law_state","_law_many"] qIP:=by
 refine F.okA sc_Ltake fun cdv A outer s H vs Q E hr h=>?_;obtain ⟨d,c,t,ns,m,rfl,S,ht,hm1,hm2,q⟩:=h;have hu:=qME hr;refine ⟨_,(qA4 (qAD (i:=2) sc_Ltake.nd rfl (Or.inl rfl) (qAR qC9 (qCQ hu (pv 0) qB0 (fun _ _=>rfl)) qA6)) (qA4 (qJH hu (pv 0) qB0 (pv 2) rfl) (qA4 (qAD (i:=3) sc_Ltake.nd rfl (Or.inl rfl) (qAR qHE (pv 2) (qA9 qAC rfl qBF qBL (qA0 (qCQ hu (pv 0) qB0 (fun _ _=>rfl)) qA3)))) (qA4 (qAD (i:=4) sc_Ltake.nd rfl (Or.inl rfl) (qB6 qEU (qCQ hu (pv 0) qB0 (fun _ _=>rfl)) (pv 3) (fun _ _=>rfl))) (qA4 (qBE (qAI qW2 (pv 4) (qAR qW0 qA6 qA6) (qAQ _)) (qA4 (qP9 (qA9 qMJ rfl qRE qR1 (qA0 (pv 4) (qA0 (pv 1) qA3))) (qN5 rfl (qBO (qVU (qCQ hu (pv 0) qB0 (fun _ _=>rfl)) (pv 3) qRK) (qBO (qB9 (i:=5) sc_Ltake.nd rfl (Or.inl rfl)) qHB)))) (qA7 (qAE (pv 5)))) qAJ) (qA4 (qAD (i:=6) sc_Ltake.nd rfl (Or.inl rfl) (qAR qHE (qAR qIT (qAR qC9 (qAR qC9 (qAR qHE (pv 4) qA6) (qAR qIT (qAR qIT (pv 2) (pv 2)) qA6)) qA6) qA6) qA6)) (qA4 (qAD (i:=6) sc_Ltake.nd rfl (Or.inl rfl) (qAR qHE (qAR qIT (pv 6) (pv 6)) qA6)) (qA7 (qAE (qAR qHE (qAR qJK (qAR qHE (qAR qIT (qAR qC9 (pv 6) (qAR qIT (pv 2) qA6)) qA6) qA6) qA6) (pv 1))))))))))),?_⟩
 try dsimp only [Cx.nox,Cx.wish,cxOf]
 have hpos:=S.pos;have hne:=S.ne;have ht':t<=1000000000:=ht;refine ⟨_,rfl,d,_,rfl,qUO S,_,_,rfl,rfl,?_⟩;refine ⟨_,rfl,_,rfl,d,_,rfl,qUN S,?_⟩;have S1:=S.turn (u:=t+1) (by lia)
 have k1:Keep d c H (Ah H d (.dK [(Sum.inr (Str.ofString "cells"),.ref c),(Sum.inr (Str.ofString "turn"),.int (t+1))])):=fun b o e n _=>by rw [qA8 n];exact e
 generalize Ah H d (.dK [(Sum.inr (Str.ofString "cells"),.ref c),(Sum.inr (Str.ofString "turn"),.int (t+1))])=H1 at S1 k1;have hlen:(((ns.map V.int).length:Nat):Int)=(ns.length:Int):=by rw [List.length_map]
 refine ⟨_,rfl,_,rfl,d,_,rfl,qJZ S1,c,_,rfl,.inl (SqL.of S1.list),_,_,rfl,rfl,(by rw [hlen];lia),?_⟩
 have p0:0<=(t+1) % (((ns.map V.int).length:Nat):Int):=Int.emod_nonneg _ (by rw [hlen];lia)
 have p1:(t+1) % (((ns.map V.int).length:Nat):Int)<(ns.length:Int):=by
  have:=Int.emod_lt_of_pos (t+1) (b:=(((ns.map V.int).length:Nat):Int)) (by rw [hlen];lia)
  rw [hlen] at this ⊢;exact this
 dsimp only;generalize (t+1) % (((ns.map V.int).length:Nat):Int)=pl at p0 p1;obtain ⟨j,rfl⟩:∃ j:Nat,pl=(j:Int):=⟨pl.toNat,by lia⟩
 have hj:j<ns.length:=by lia
 have hat:atI (ns.map V.int) (j:Int)=some (.int ns[j]):=qR2 (by rw [List.getElem?_map,List.getElem?_eq_getElem hj];rfl)
 refine ⟨_,rfl,d,_,rfl,qJZ S1,_,rfl,c,_,_,_,rfl,rfl,SqL.of S1.list,hat,?_⟩;generalize hx:ns[j]=x at hat ⊢;refine ⟨_,rfl,_,_,rfl,rfl,⟨by decide,by decide,by decide⟩,_,_,rfl,rfl,_,rfl,?_⟩
 refine ite2 (fun _=>?_) (fun _=>?_)
 ·-- a great cell
  refine ⟨_,rfl,_,rfl,x,m,rfl,⟨by lia,by lia⟩,fun p hp=>?_⟩
  have S2:=S1.new hp (.tup [.int (x / m),.int (x % m)]);have npc:p ≠ c:=(qA5 S1.list hp).symm;refine ⟨p,_,rfl,SqT.of qA1,rfl,_,_,rfl,?_⟩;refine ⟨_,rfl,d,_,rfl,qJZ S2,_,rfl,c,_,_,j,rfl,rfl,S2.list,qUI (by rw [List.length_map];exact hj),?_⟩
  refine ⟨_,_,rfl,rfl,?_⟩;refine ⟨_,rfl,?_⟩;have e1:(ns.map V.int).set j (.int (x / m))=(ns.set j (x / m)).map V.int:=by rw [List.map_set]
  rw [e1];refine q (x % m) (ns.set j (x / m)) _ (Int.emod_nonneg _ (by lia)) (Int.emod_lt_of_pos _ (by lia)) (S2.put (by rw [List.length_set])) ?_
  have k2:=k1.trans (qBZ (d:=d) (c:=c) hp (.tup [.int (x / m),.int (x % m)]));exact fun b o e n1 n2=>by rw [qA8 n2];exact k2 b o e n1 n2
 ·have b1:0<=x % 2147483629:=Int.emod_nonneg _ (by decide)
  have b2:x % 2147483629<2147483629:=Int.emod_lt_of_pos _ (by decide)
  refine ⟨_,rfl,_,_,rfl,rfl,(by show (0:Int)<2147483629;decide),_,rfl,_,rfl,_,_,rfl,rfl,.inl ⟨by lia,by lia⟩,_,_,rfl,rfl,.inr ⟨by decide,by decide⟩,_,_,rfl,rfl,_,_,rfl,rfl,_,_,rfl,rfl,.inr ⟨by decide,by decide⟩,_,_,rfl,rfl,(by show (0:Int)<2147483647;decide),?_⟩
  have c1:=Int.emod_nonneg ((x % 2147483629+(t+1) * (t+1) * 7919+11) * 48271) (b:=2147483647) (by decide)
  have c2:=Int.emod_lt_of_pos ((x % 2147483629+(t+1) * (t+1) * 7919+11) * 48271) (b:=2147483647) (by decide)
  dsimp only;generalize ((x % 2147483629+(t+1) * (t+1) * 7919+11) * 48271) % 2147483647=y at c1 c2;refine ⟨_,rfl,_,rfl,_,_,rfl,rfl,.inl ⟨by lia,by lia⟩,_,_,rfl,rfl,(by show (0:Int)<2147483587;decide),?_⟩
  dsimp only;generalize y * y % 2147483587=z;refine ⟨_,rfl,_,rfl,_,_,rfl,rfl,.inr ⟨by decide,by decide⟩,_,_,rfl,rfl,_,_,rfl,rfl,.inr ⟨by decide,by decide⟩,_,_,rfl,rfl,(by show (0:Int)<2147483629;decide),_,_,rfl,rfl,⟨by decide,by decide⟩,_,rfl,_,_,rfl,rfl,(by lia),?_⟩
  exact q _ ns _ (Int.emod_nonneg _ (by lia)) (Int.emod_lt_of_pos _ (by lia)) S1 k1
theorem sc_Lsome_needs:FnScope ["_law_state","_law_k","_law_found","_law_turn","_law_far"] ["_law_state","_law_k"] (qAA qCD):=qC2
theorem ok_Lsome_needs (F:Fun K "_law_some_needs" "_law_some_needs" qCD f fd) (qBA:Clb P w K mg base 1 qEY qFJ "_law_take" ["_law_state","_law_many"] qIP)
  (qAV:mg "range" = none) (qFU:mg "min" = none) (qAT:mg "tuple" = none) (qBY:mg "sorted" = none) (qOS:mg "set" = none):FnOk P w K mg base CX0 2 f fd ["_law_state","_law_k"] qLV:=by
 refine F.okA sc_Lsome_needs fun cdv A outer s H vs Q E hr h=>?_;obtain ⟨d,c,t,ns,k,rfl,S,ht,hk0,hk1,q⟩:=h;have ht':t<=1000000000 - 20:=ht;have qNF:Room 1 _:=hr;refine ⟨_,(qA4 (qAD (i:=2) sc_Lsome_needs.nd rfl (Or.inl rfl) (qBB qA3)) (qA4 (qD6 PassesOwn.never rfl (qAY rfl qAV (qA0 (qB3 qBA hr rfl (qA0 (pv 0) (qA0 qA6 qA3))) qA3)) (qB9 (i:=3) sc_Lsome_needs.nd rfl (Or.inl rfl)) (qA4 (qAD (i:=4) sc_Lsome_needs.nd rfl (Or.inl rfl) (qB6 qEU (qBB (qA0 (qA9 (qFP rfl) rfl qFU qHZ (qA0 (pv 1) (qA0 qA6 qA3))) (qA0 (pv 1) qA3))) (qAR qJK (qB3 qBA hr rfl (qA0 (pv 0) (qA0 qA6 qA3))) qA6) (fun _ _=>rfl))) (qA7 (qBE (qAI qPM (pv 1) qA6 (qAQ _)) (qA7 (qC4 (qI8 PySem.F.plainAttrs_list PySem.F.slot_list_append PySem.F.type_list_append qBS (pv 2) (qA0 (qAR qE3 (qAR qE3 (pv 1) qA6) (qB3 qBA hr rfl (qA0 (pv 0) (qA0 (pv 4) qA3)))) qA3)))) qAJ)))) (qA7 (qAE (qAF qAN rfl qAT qB2 (qA0 (qA9 (qF1 rfl) rfl qBY qE9 (qA0 (qAF (qK6 rfl) rfl qOS qR0 (qA0 (pv 2) qA3)) qA3)) qA3)))))),?_⟩
 try dsimp only [Cx.nox,Cx.wish,cxOf]
 refine cut fun N0 hN0=>?_;refine ⟨(by show 0<=sizeLine;decide),fun fo hfo=>?_⟩
 have S1:=S.new hfo (.lst []);have nd:fo ≠ d:=(qA5 S.dict hfo).symm;have nc:fo ≠ c:=(qA5 S.list hfo).symm;refine hN0 _ _ (cut fun N1 hN1=>?_);refine ⟨_,rfl,d,c,t,ns,5,rfl,S1,(by show t<=1000000000;lia),by decide,by decide,fun j ns1 H1 j0 j5 S2 K2=>?_⟩
 refine ⟨j,rfl,by lia,by lia,qC3 (lo:=0) (n:=j.toNat) (fun i σ Hc=>∃ (t':Int) (ms fs:List Int) (v1 v2:Option V),σ=[some (.ref d),some (.int k),some (.ref fo),v1,v2]/\StAt Hc d c t' ms/\t<=t'/\t'<=t+1+2 * i/\Keep d c H Hc/\
  Hc fo=some (.lst (fs.map V.int))/\fs.length<=i/\∀ x ∈ fs,0<=x/\x<k)
  ⟨t+1,ns1,[],none,none,rfl,S2,by lia,by lia,(qBZ hfo _).trans K2,K2 _ _ qA1 nd nc,Nat.le_refl _,fun _ z=>nomatch z⟩ ?_ ?_⟩
 ·refine fun i σ Hc hi hI_1=>opq fun G_1 hG_1=>?_;obtain ⟨t',ms,fs,v1,v2,rfl,S3,a1,a2,K3,h3,l3,m3⟩:=hI_1;refine hG_1 ?_;have hi5:(i:Int)<5:=by lia
  -- far
  refine nmD fun D1 d1 dr=>cut fun M0 hM0=>?_;refine ⟨_,rfl,k,4,rfl,_,rfl,(by show 2<=sizeLine;decide),fun p hp=>?_⟩
  have S4:=S3.new hp (.lst [.int (if (4:Int)<k then 4 else k),.int k])
  have npd:p ≠ d:=(qA5 S3.dict hp).symm;have npc:p ≠ c:=(qA5 S3.list hp).symm;refine ⟨_,rfl,d,c,t',ms,4,rfl,S4,(by show t'<=1000000000;lia),by decide,by decide,fun k2 ms2 H2 g0 g4 S5 K5=>?_⟩
  obtain ⟨far,hfar,ef⟩:=qXP (a:=if (4:Int)<k then 4 else k) (b:=k) g0 g4
  have far1:far<=k:=by rcases ef with e | e <;> (subst e;first | lia | (split <;> lia))
  have far2:0<k->1<=far:=fun hk=>by rcases ef with e | e <;> (subst e;first | lia | (split <;> lia))
  refine ⟨_,_,rfl,rfl,⟨by decide,by decide⟩,p,_,_,_,rfl,rfl,SqL.of (K5 _ _ qA1 npd npc),hfar,?_⟩
  have K6:=K3.trans ((qBZ (d:=d) (c:=c) hp (.lst [.int (if (4:Int)<k then 4 else k),.int k])).trans K5)
  have h6:H2 fo=some (.lst (fs.map V.int)):=K5 _ _ (by rw [qA8 (qA5 h3 hp)];exact h3) nd nc
  refine hM0 _ _ ?_;refine ⟨_,rfl,_,_,rfl,rfl,_,rfl,?_⟩;refine ite2 (fun ck=>?_) (fun ck=>?_)
  ·have hk:0<k:=of_decide_eq_true ck;refine ⟨_,rfl,.inl ⟨rfl,_,SqL.of h6⟩,_,rfl,_,_,rfl,rfl,_,rfl,_,rfl,d,c,t'+1,ms2,far,rfl,S5,(by show t'+1<=1000000000;lia),far2 hk,by lia,fun k3 ms3 H3 c0 c1 S6 K7=>?_⟩
   have h7:=K7 _ _ h6 nd nc;refine ⟨_,_,rfl,rfl,fo,_,_,rfl,rfl,h7,qAM (by rw [List.length_map];lia),?_⟩
   have S8:StAt (Ah H3 fo (.lst (fs.map V.int++[.int (k - 1 - k3)]))) d c (t'+1+1) ms3:=⟨by rw [qA8 (Ne.symm nd)];exact S6.dict,by rw [qA8 (Ne.symm nc)];exact S6.list,S6.ne,S6.len,S6.pos⟩
   have hH:H fo=none:=hfo;refine d1 _ _ ⟨t'+1+1,ms3,fs++[k - 1 - k3],_,_,rfl,S8,by lia,by lia,fun b o e n1 n2=>?_,?_,?_,fun x hx=>?_⟩
   ·rw [qA8 (qA5 e hH)];exact (K6.trans K7) b o e n1 n2
   ·rw [qA1,List.map_append];rfl
   ·rw [List.length_append,List.length_singleton];lia
   ·rcases List.mem_append.mp hx with hx | hx
    ·exact m3 x hx
    ·rw [List.mem_singleton.mp hx];lia
  ·exact d1 _ _ ⟨t'+1,ms2,fs,_,_,rfl,S5,by lia,by lia,K6,h6,by lia,m3⟩
 ·refine fun σ Hc hI_2=>opq fun G_2 hG_2=>?_;obtain ⟨t',ms,fs,v1,v2,rfl,S3,a1,a2,K3,h3,l3,m3⟩:=hI_2;refine hG_2 ?_;refine hN1 _ _ ?_;refine ⟨_,rfl,fo,fs,rfl,SqL.of h3,by lia,fun a ha=>?_⟩
  have sm1:=qA2 ha (SetO w a (dedI fs));refine ⟨a,dedI fs,rfl,.inr (.inr qA1),Nat.lt_of_le_of_lt (qK0 fs) (by lia),fun b zs hb hp hs=>?_⟩
  have sm2:=sm1.trans (qA2 hb (.lst (zs.map V.int)));refine ⟨b,_,rfl,.inl ⟨SqL.of qA1,fun r hr'=>?_⟩⟩;have sm3:=sm2.trans (qA2 hr' (.tup (zs.map V.int)));exact q r zs t' ms _ (S3.same sm3) (by lia) (by lia) (K3.trans (.of_same sm3)) qA1 (qJG hp hs m3)
theorem sc_Ltree_net:FnScope ["_law_state","_law_many","_law_open_ones","_law_found","_law_k","_law_so_many"] ["_law_state","_law_many"] (qAA qDF):=qC2
theorem ok_Ltree_net (F:Fun K "_law_tree_net" "_law_tree_net" qDF f fd) (qBA:Clb P w K mg base 1 qEY qFJ "_law_take" ["_law_state","_law_many"] qIP)
  (qAV:mg "range" = none) (qFU:mg "min" = none) (qAT:mg "tuple" = none) (qBF:mg "len" = none):FnOk P w K mg base CX0 2 f fd ["_law_state","_law_many"] qSX:=by
 refine F.okA sc_Ltree_net fun cdv A outer s H vs Q E hr h=>?_;obtain ⟨d,c,t,ns,m,rfl,S,ht,hm0,hm1,q⟩:=h;have ht':t<=1000000000 - 1000:=ht;have qNF:Room 1 _:=hr;refine ⟨_,(qA4 (qAD (i:=2) sc_Ltree_net.nd rfl (Or.inl rfl) (qBB qA3)) (qA4 (qAD (i:=3) sc_Ltree_net.nd rfl (Or.inl rfl) (qBB qA3)) (qA4 (qD6 PassesOwn.never rfl (qAY rfl qAV (qA0 (qAR qE3 (pv 1) qA6) qA3)) (qB9 (i:=4) sc_Ltree_net.nd rfl (Or.inl rfl)) (qA4 (qAD (i:=5) sc_Ltree_net.nd rfl (Or.inl rfl) (qA9 (qFP rfl) rfl qFU qHZ (qA0 (qA9 qAC rfl qBF qBL (qA0 (pv 2) qA3)) (qA0 (qB6 qEU (qBB (qA0 qA6 (qA0 qA6 (qA0 qA6 (qA0 qA6 (qA0 qA6 (qA0 qA6 qA3))))))) (qB3 qBA hr rfl (qA0 (pv 0) (qA0 qA6 qA3))) (fun _ _=>rfl)) qA3)))) (qA4 (qC4 (qI8 PySem.F.plainAttrs_list PySem.F.slot_list_append PySem.F.type_list_append qBS (pv 3) (qA0 (qAF qAN rfl qAT qB2 (qA0 (qDH qLZ (pv 2) (qEO (qAR qE3 (qA9 qAC rfl qBF qBL (qA0 (pv 2) qA3)) (pv 5))) qEP) qA3)) qA3))) (qA7 (qAD (i:=2) sc_Ltree_net.nd rfl (Or.inl rfl) (qAR qN8 (qDH qLZ (pv 2) qEP (qEO (qAR qE3 (qA9 qAC rfl qBF qBL (qA0 (pv 2) qA3)) (pv 5)))) (qBB (qA0 (pv 4) qA3)))))))) (qA7 (qAE (qAF qAN rfl qAT qB2 (qA0 (qAR qN8 (pv 3) (qBB (qA0 (qAF qAN rfl qAT qB2 (qA0 (pv 2) qA3)) qA3))) qA3))))))),?_⟩
 try dsimp only [Cx.nox,Cx.wish,cxOf]
 refine cut fun N0 hN0=>?_;refine ⟨(by show 0<=sizeLine;decide),fun o0 ho0=>?_⟩
 refine hN0 _ _ (cut fun N1 hN1=>?_);have S1:=S.new ho0 (.lst []);refine ⟨(by show 0<=sizeLine;decide),fun fo hfo=>?_⟩
 have S2:=S1.new hfo (.lst []);have nd:fo ≠ d:=(qA5 S1.dict hfo).symm;have nc:fo ≠ c:=(qA5 S1.list hfo).symm;have no0:o0 ≠ fo:=qA5 qA1 hfo;have hF:H fo=none:=(qA2 ho0 _).free hfo;refine hN1 _ _ (cut fun N2 hN2=>?_);refine ⟨_,rfl,_,_,rfl,rfl,m - 1,rfl,by lia,by lia,qC3 (lo:=0) (n:=(m - 1).toNat) (fun i σ Hc=>∃ (t':Int) (ms os:List Int) (o:Addr) (rs:List Addr) (Af:List (List Int)) (v1 v2:Option V),σ=[some (.ref d),some (.int m),some (.ref o),some (.ref fo),v1,v2]/\StAt Hc d c t' ms/\t<=t'/\t'<=t+i/\Keep d c H Hc/\
  Hc o=some (.lst (os.map V.int))/\(o ≠ fo/\o ≠ c)/\Hc fo=some (.lst (rs.map V.ref))/\NetL Hc rs Af/\Af.length=i/\WFn Af/\Rise (i:Int) os)
  ⟨t,ns,[],o0,[],[],none,none,rfl,S2,by lia,by lia,(qBZ ho0 _).trans (qBZ hfo _),by rw [qA8 no0];exact qA1,⟨no0,(qA5 S.list ho0).symm⟩,qA1,.nil,rfl,WFn.nil,Rise.nil⟩ ?_ ?_⟩
 ·refine fun i σ Hc hi hI_3=>opq fun G_3 hG_3=>?_;obtain ⟨t',ms,os,o,rs,Af,v1,v2,rfl,S3,a1,a2,K3,h3,⟨n3,n3c⟩,f3,N3,l3,w3,r3⟩:=hI_3;refine hG_3 ?_;have hlo:os.length<=i:=r3.len;refine nmD fun D1 d1 dr=>cut fun M0 hM0=>?_;refine ⟨_,rfl,o,_,rfl,.inl (SqL.of h3),(by show 6<=sizeLine;decide),fun p hp=>?_⟩
  have S4:=S3.new hp (.lst [.int 0,.int 0,.int 1,.int 2,.int 2,.int 3]);have npd:p ≠ d:=(qA5 S3.dict hp).symm;have npc:p ≠ c:=(qA5 S3.list hp).symm;refine ⟨_,rfl,d,c,t',ms,6,rfl,S4,(by show t'<=1000000000;lia),by decide,by decide,fun k2 ms2 H2 g0 g6 S5 K5=>?_⟩
  obtain ⟨v,hv,v0,v3⟩:=qXO g0 g6;refine ⟨p,_,_,_,rfl,rfl,SqL.of (K5 _ _ qA1 npd npc),hv,?_⟩;have sm:Same Hc (Ah Hc p (.lst [.int 0,.int 0,.int 1,.int 2,.int 2,.int 3])):=qA2 hp _;have K6:=(Keep.of_same (d:=d) (c:=c) sm).trans K5;have nod:o ≠ d:=qCR h3 S3.dict (by intro z;cases z)
  have h6:H2 o=some (.lst (os.map V.int)):=K6 _ _ h3 nod n3c;have f6:H2 fo=some (.lst (rs.map V.ref)):=K6 _ _ f3 nd nc;have N6:NetL H2 rs Af:=N3.keep (fun r zs e=>S3.tup e) K6;refine ⟨_,_,rfl,?_⟩;dsimp only;have so0:0<=(if v<(((os.map V.int).length:Nat):Int) then v else (((os.map V.int).length:Nat):Int)):=by split <;> lia
  have so1:(if v<(((os.map V.int).length:Nat):Int) then v else (((os.map V.int).length:Nat):Int))<=(os.length:Int):=by rw [List.length_map];split <;> lia
  generalize (if v<(((os.map V.int).length:Nat):Int) then v else (((os.map V.int).length:Nat):Int))=so at so0 so1
  obtain ⟨kk,ek⟩:∃ kk:Nat,(os.length:Int) - so=(kk:Int):=⟨((os.length:Int) - so).toNat,by lia⟩
  have ek':(((os.map V.int).length:Nat):Int) - so=(kk:Int):=by rw [List.length_map];exact ek
  have hkk:kk<=os.length:=by lia
  -- found.append(tuple(open_ones[len(open_ones) - so_many:]))
  refine hM0 _ _ (cut fun M1 hM1=>?_);refine ⟨_,rfl,.inl ⟨rfl,_,SqL.of f6⟩,_,rfl,_,rfl,o,_,rfl,.inl (SqL.of h6),_,rfl,_,_,rfl,rfl,_,rfl,o,_,rfl,SqL.of h6,fun p1 hp1=>?_⟩;refine ⟨p1,_,rfl,.inl ⟨SqL.of qA1,fun r hr1=>?_⟩⟩;rw [ek',qDQ,qHW _ _ hkk] at hr1 ⊢;have sm1:=(qA2 hp1 (.lst ((os.drop kk).map V.int))).trans (qA2 hr1 (.tup ((os.drop kk).map V.int)));have f7:=sm1 _ _ f6;have h7:=sm1 _ _ h6;have N7:NetL _ (rs++[r]) (Af++[os.drop kk]):=qD0 (N6.same fun r zs e=>sm1 _ _ e) (show (Ah (Ah H2 p1 (.lst ((os.drop kk).map V.int))) r (.tup ((os.drop kk).map V.int))) r=some (.tup ((os.drop kk).map V.int)) from qA1);have S7:=S5.same sm1;have K7:=K6.trans (.of_same sm1);generalize (Ah (Ah H2 p1 (.lst ((os.drop kk).map V.int))) r (.tup ((os.drop kk).map V.int)))=H7 at f7 h7 N7 S7 K7 ⊢;refine ⟨fo,_,_,rfl,rfl,f7,qAM (by rw [List.length_map,NetAt.len N3];lia),?_⟩
  have e8:rs.map V.ref++[V.ref r]=(rs++[r]).map V.ref:=by rw [List.map_append];rfl
  rw [e8];have S8:StAt (Ah H7 fo (.lst ((rs++[r]).map V.ref))) d c (t'+1) ms2:=⟨by rw [qA8 (Ne.symm nd)];exact S7.dict,by rw [qA8 (Ne.symm nc)];exact S7.list,S7.ne,S7.len,S7.pos⟩
  have h8:(Ah H7 fo (.lst ((rs++[r]).map V.ref))) o=some (.lst (os.map V.int)):=by rw [qA8 n3];exact h7
  have N8:NetL (Ah H7 fo (.lst ((rs++[r]).map V.ref))) (rs++[r]) (Af++[os.drop kk]):=N7.same fun r' zs e=>by rw [qA8 (qCR e f7 (by intro z;cases z))];exact e
  have K8:Keep d c H (Ah H7 fo (.lst ((rs++[r]).map V.ref))):=fun b u e n1 n2=>by rw [qA8 (qA5 e hF)];exact (K3.trans K7) b u e n1 n2
  have f8:(Ah H7 fo (.lst ((rs++[r]).map V.ref))) fo=some (.lst ((rs++[r]).map V.ref)):=qA1;generalize Ah H7 fo (.lst ((rs++[r]).map V.ref))=H8 at S8 h8 N8 K8 f8 ⊢
  -- open_ones=open_ones[:len(open_ones) - so_many]+[k]
  refine hM1 _ _ ?_;refine ⟨_,rfl,_,rfl,o,_,rfl,.inl (SqL.of h8),_,rfl,_,_,rfl,rfl,_,rfl,o,_,rfl,SqL.of h8,fun p2 hp2=>?_⟩;rw [ek',qDQ,qUT];refine ⟨_,rfl,(by show 1<=sizeLine;decide),fun p3 hp3=>?_⟩
  have n23:p2 ≠ p3:=qA5 qA1 hp3;refine ⟨p2,p3,_,_,rfl,rfl,by rw [qA8 n23];exact qA1,qA1,Nat.le_of_lt (qAM (by rw [List.length_map,List.length_take,List.length_singleton];lia)),fun p4 hp4=>?_⟩
  have sm2:=((qA2 hp2 (.lst ((os.take kk).map V.int))).trans (qA2 hp3 (.lst [.int (0+(i:Int))]))).trans (qA2 hp4 (.lst ((os.take kk).map V.int++[.int (0+(i:Int))])));have e9:(os.take kk).map V.int++[V.int (0+(i:Int))]=(os.take kk++[(i:Int)]).map V.int:=by rw [List.map_append,Int.zero_add];rfl
  have nf4:p4 ≠ fo:=(qA5 ((qA2 hp3 _) _ _ ((qA2 hp2 _) _ _ f8)) hp4).symm;have nc4:p4 ≠ c:=(qA5 ((qA2 hp3 _) _ _ ((qA2 hp2 _) _ _ S8.list)) hp4).symm;refine d1 _ _ ⟨t'+1,ms2,os.take kk++[(i:Int)],p4,rs++[r],Af++[os.drop kk],_,_,rfl,S8.same sm2,by lia,by lia,K8.trans (.of_same sm2),by rw [<- e9];exact qA1,⟨nf4,nc4⟩,sm2 _ _ f8,N8.same fun r' zs e=>sm2 _ _ e,by rw [List.length_append,List.length_singleton,l3],w3.snoc ?_,?_⟩
  ·rw [l3];exact r3.sub (List.drop_sublist _ _)
  ·have:=(r3.sub (List.take_sublist kk os)).snoc (by lia)
   rw [show ((i+1:Nat):Int)=(i:Int)+1 by lia]
   exact this
 ·refine fun σ Hc hI_4=>opq fun G_4 hG_4=>?_;obtain ⟨t',ms,os,o,rs,Af,v1,v2,rfl,S3,a1,a2,K3,h3,⟨n3,n3c⟩,f3,N3,l3,w3,r3⟩:=hI_4;refine hG_4 ?_;refine hN2 _ _ ?_;refine ⟨_,rfl,_,rfl,o,_,rfl,.inl ⟨SqL.of h3,fun r hr1=>?_⟩⟩;refine ⟨(by show 1<=sizeLine;decide),fun p hp=>?_⟩
  have sm1:=(qA2 hr1 (.tup (os.map V.int))).trans (qA2 hp (.lst [.ref r]));refine ⟨fo,p,_,_,rfl,rfl,sm1 _ _ f3,qA1,Nat.le_of_lt (qAM (by rw [List.length_map,NetAt.len N3,List.length_singleton];lia)),fun p2 hp2=>?_⟩
  refine ⟨p2,_,rfl,.inl ⟨SqL.of qA1,fun a ha=>?_⟩⟩;have sm2:=(sm1.trans (qA2 hp2 (.lst (rs.map V.ref++[.ref r])))).trans (qA2 ha (.tup (rs.map V.ref++[.ref r])));have gr:=(qA2 ha (.tup (rs.map V.ref++[.ref r]))) _ _ ((qA2 hp2 (.lst (rs.map V.ref++[.ref r]))) _ _ ((qA2 hp (.lst [.ref r])) r _ (qA1 (H:=Hc) (o:=.tup (os.map V.int)))));have e8:rs.map V.ref++[V.ref r]=(rs++[r]).map V.ref:=by rw [List.map_append];rfl
  refine q a (Af++[os]) t' ms _ (S3.same sm2) (by lia) (by lia) (K3.trans (.of_same sm2)) ⟨rs++[r],by rw [<- e8];exact qA1,qD0 (N3.same fun r' zs e=>sm2 _ _ e) gr⟩ (w3.snoc (by rw [l3];exact r3)) ?_
  rw [List.length_append,List.length_singleton,l3]
  lia
theorem sc_Lnet:FnScope ["_law_state","_law_many","_law_way","_law_wide","_law_some","_law_half"] ["_law_state","_law_many"] (qAA qMX):=qC2
theorem ok_Lnet (F:Fun K "_law_net" "_law_net" qMX f fd) (qBA:Clb P w K mg base 1 qEY qFJ "_law_take" ["_law_state","_law_many"] qIP)
  (qDR:Clb P w K mg base 2 qDN qII "_law_some_needs" ["_law_state","_law_k"] qLV)
  (qI2:Clb P w K mg base 2 qEX qLD "_law_tree_net" ["_law_state","_law_many"] qSX)
  (qAV:mg "range" = none) (qX1:mg "max" = none) (qJB:mg "int" = none) (qLT:mg "enumerate" = none) (qAT:mg "tuple" = none) (qBY:mg "sorted" = none) (qOS:mg "set" = none):FnOk P w K mg base CX0 3 f fd ["_law_state","_law_many"] qVH:=by
 refine F.okA sc_Lnet fun cdv A outer s H vs Q E hr h=>?_;obtain ⟨d,c,t,ns,m,rfl,S,ht,hm0,hm1,q⟩:=h;have ht':t<=1000000000 - 10000:=ht;have qR8:Room 2 _:=hr;have qTA:Room 2 _:=hr;refine ⟨_,(qA4 (qAD (i:=2) sc_Lnet.nd rfl (Or.inl rfl) (qB3 qBA hr rfl (qA0 (pv 0) (qA0 qA6 qA3)))) (qA4 (qAD (i:=3) sc_Lnet.nd rfl (Or.inr rfl) (qAR qC9 qA6 (qB3 qBA hr rfl (qA0 (pv 0) (qA0 qA6 qA3))))) (qA4 (qBE (qAI qEL (pv 2) qA6 (qAQ _)) (qA7 (qAE (qAF qAN rfl qAT qB2 (qA0 (qD7 rfl (lcs (own:=["_law_k"]) (fv:=[3]) (by kernel_rfl)) (qAY rfl qAV (qA0 (pv 1) qA3)) (fun z1=>qBQ 0) (fun z1=>qB8) (fun z1=>(qAF (qIN rfl) rfl qAT qB2 (qA0 (qAF qQY rfl qAV qSS (qA0 (qA9 (qQZ rfl) rfl qX1 qWV (qA0 qA6 (qA0 (qAR qE3 (pv 0) (pv 1)) qA3))) (qA0 (pv 0) qA3))) qA3)))) qA3)))) qAJ) (qA4 (qBE (qAI qEL (pv 2) qA6 (qAQ _)) (qA4 (qKK (i:=4) sc_Lnet.nd rfl rfl rfl (lcs (own:=["_law_k"]) (fv:=[3]) (by kernel_rfl)) (qAY rfl qAV (qA0 (pv 1) qA3)) (fun z2=>qBQ 0) (fun z2=>qB8) (fun z2=>(qAR qN8 (qAR qT5 (qBB (qA0 (qAR qE3 (pv 0) (pv 1)) qA3)) (qAF qHY rfl qJB qNR (qA0 (qE2 qW2 (pv 0) (pv 1) (qAQ _)) qA3))) (qAR qT5 (qBB (qA0 (qAR qE3 (pv 0) qA6) qA3)) (qAF qHY rfl qJB qNR (qA0 (qE2 qPM (qAR qHE (pv 0) (pv 1)) qA6 (qAQ _)) qA3))))) (by kernel_rfl)) (qA7 (qAE (qAF qAN rfl qAT qB2 (qA0 (qD7 rfl (lcs (own:=["_law_needs"]) (fv:=[]) (by kernel_rfl)) (qBV (pv 4)) (fun z3=>qBQ 0) (fun z3=>qB8) (fun z3=>(qAF (qF0 (K:=K) rfl) rfl qAT qB2 (qA0 (qA9 (qLJ (K:=K) (w:=w) rfl rfl rfl) rfl qBY qE9 (qA0 (qAF (qQX (K:=K) (w:=w) rfl rfl rfl) rfl qOS qR0 (qA0 (pv 0) qA3)) qA3)) qA3)))) qA3))))) qAJ) (qA4 (qBE (qAI qEL (pv 2) qA6 (qAQ _)) (qA7 (qAE (qB3 qI2 hr rfl (qA0 (pv 0) (qA0 (pv 1) qA3))))) qAJ) (qA4 (qBE (qAI qEL (pv 2) qA6 (qAQ _)) (qA4 (qAD (i:=5) sc_Lnet.nd rfl (Or.inr rfl) (qAR qJK (pv 1) qA6)) (qA4 (qKK (i:=4) sc_Lnet.nd rfl rfl rfl (lcs (own:=["_law_k"]) (fv:=[0,5]) (by kernel_rfl)) (qAY rfl qAV (qA0 (pv 1) qA3)) (fun z4=>qBQ 0) (fun z4=>qB8) (fun z4=>(qB3 qDR hr rfl (qA0 (pv 1) (qA0 (qCF (qAI qPL (pv 0) (pv 2) (qAQ _)) (pv 0) (qAR qE3 (pv 0) (pv 2))) qA3)))) (by kernel_rfl)) (qA7 (qAE (qAF qAN rfl qAT qB2 (qA0 (qD7 rfl (lcs (own:=["_law_k","_law_needs"]) (fv:=[5]) (by kernel_rfl)) (qU1 rfl qLT qLM (qA0 (pv 4) qA3)) (fun z5=>qPG (K:=K) (n:=2) rfl rfl (qBO (qBQ 0) (qBO (qBQ 1) qHB)) rfl rfl) (fun z5=>qB8) (fun z5=>(qCF (qAI qPL (pv 0) (pv 2) (qAQ _)) (pv 1) (qAF (qF0 (K:=K) rfl) rfl qAT qB2 (qA0 (qD7 (X:=lcCx _ _ _ _ z5) rfl (lcs (own:=["_law_n"]) (fv:=[2]) (by kernel_rfl)) (qPF (K:=K) rfl (pv 1)) (fun z6=>qBQ 0) (fun z6=>qB8) (fun z6=>(qAR qC9 (pv 0) (pv 1)))) qA3))))) qA3)))))) qAJ) (qA7 (qAE (qAF qAN rfl qAT qB2 (qA0 (qD7 rfl (lcs (own:=["_law_k"]) (fv:=[0]) (by kernel_rfl)) (qAY rfl qAV (qA0 (pv 1) qA3)) (fun z7=>qBQ 0) (fun z7=>qB8) (fun z7=>(qB3 qDR hr rfl (qA0 (pv 1) (qA0 (pv 0) qA3))))) qA3)))))))))),?_⟩
 try dsimp only [Cx.nox,Cx.wish,cxOf]
 refine cut fun N1 hN1=>?_;refine ⟨_,rfl,d,c,t,ns,8,rfl,S,(by show t<=1000000000;lia),by decide,by decide,fun way ns1 H1 w0 w8 S1 K1=>?_⟩
 refine hN1 _ _ (cut fun N2 hN2=>?_);refine ⟨_,rfl,d,c,t+1,ns1,4,rfl,S1,(by show t+1<=1000000000;lia),by decide,by decide,fun wd ns2 H2 wd0 wd4 S2 K2=>⟨_,_,rfl,rfl,?_⟩⟩
 dsimp only;have K12:=K1.trans K2;generalize hwide:(1:Int)+wd=wide;have wi0:1<=wide:=by lia
 have wi4:wide<=4:=by lia
 refine hN2 _ _ (cut fun N3 hN3=>?_);refine ⟨_,rfl,rfl,_,rfl,?_⟩;refine ite2 (fun _=>?_) (fun _=>?_)
 ·refine ⟨_,rfl,m,rfl,by lia,by lia,fun p hp=>?_⟩
  refine qCG (p:=p) (lo:=0) (n:=m.toNat) (fun i σ Hc=>∃ (v:Option V) (rs:List Addr) (Af:List (List Int)),σ=[v,some (.int wide)]/\Same H2 Hc/\Hc p=some (.lst (rs.map V.ref))/\NetL Hc rs Af/\Af.length=i/\WFn Af) ?_ ?_ ?_
  ·exact ⟨none,[],[],rfl,qA2 hp _,qA1,.nil,rfl,WFn.nil⟩
  ·refine fun i σ Hc hi hI_1=>opq fun G_1 hG_1=>?_;obtain ⟨v,rs,Af,rfl,sm,hpc,N,hl,wf⟩:=hI_1;refine hG_1 ?_;refine ⟨_,rfl,_,rfl,_,_,rfl,rfl,0,_,rfl,_,rfl,_,_,rfl,fun p1 hp1=>?_⟩;refine ⟨p1,_,_,rfl,qA1,by split <;> lia,by split <;> lia,by lia,by lia,fun r hr1=>?_⟩
   have lo0:0<=(if (0+(i:Int)) - wide > 0 then (0+(i:Int)) - wide else 0):=by split <;> lia
   have hri:=qM3 (hi:=0+(i:Int)) lo0;dsimp only;rw [qM2];generalize qAS (if (0+(i:Int)) - wide > 0 then (0+(i:Int)) - wide else 0) (0+(i:Int))=zs at hri ⊢
   generalize HO.rng (if (0+(i:Int)) - wide > 0 then (0+(i:Int)) - wide else 0) (0+(i:Int))=ho at hp1 hr1 ⊢
   have s1:=(qA2 hp1 ho).trans (qA2 hr1 (.tup (zs.map V.int)));have g1:=s1 _ _ hpc;refine ⟨_,g1,qAM (by rw [List.length_map,NetAt.len N];lia),?_⟩
   rw [qAX];refine ⟨_,rs++[r],Af++[zs],rfl,qAB (sm.trans s1) hp,qA1,qED (qD0 (N.same fun r' ys e=>s1 _ _ e) qA1) g1,by rw [List.length_append,List.length_singleton,hl],wf.snoc ?_⟩
   rw [hl];exact hri.mono (by lia)
  ·refine fun σ Hc hI_2=>opq fun G_2 hG_2=>?_;obtain ⟨v,rs,Af,rfl,sm,hpc,N,hl,wf⟩:=hI_2;refine hG_2 ?_;refine ⟨p,_,rfl,.inl ⟨SqL.of hpc,fun a ha=>?_⟩⟩;have s1:=qA2 ha (.tup (rs.map V.ref));exact q a Af (t+1+1) ns2 _ (S2.same (sm.trans s1)) (by lia) (by lia) (K12.trans (.of_same (sm.trans s1))) ⟨rs,qA1,N.same fun r ys e=>s1 _ _ e⟩ wf (by rw [hl];lia)
 refine hN3 _ _ (cut fun N4 hN4=>?_);refine ⟨_,rfl,rfl,_,rfl,?_⟩;refine ite2 (fun _=>?_) (fun _=>?_)
 ·refine ⟨_,rfl,m,rfl,by lia,by lia,fun p hp=>?_⟩
  refine qCG (p:=p) (lo:=0) (n:=m.toNat) (fun i σ Hc=>∃ (v:Option V) (rs:List Addr) (ls:List (List Int)),σ=[v,some (.int wide)]/\Same H2 Hc/\Hc p=some (.lst (rs.map V.ref))/\Paired (fun r zs=>r ≠ p/\Hc r=some (.lst (zs.map V.int))) rs ls/\ls.length=i/\
   ∀ (j:Nat) zs,ls[j]?=some zs->zs.length<=2/\∀ x ∈ zs,0<=x/\x<(j:Int)) ?_ ?_ ?_
  ·exact ⟨none,[],[],rfl,qA2 hp _,qA1,.nil,rfl,fun j zs e=>by simp at e⟩
  ·refine fun i σ Hc hi hI_3=>opq fun G_3 hG_3=>?_;obtain ⟨v,rs,ls,rfl,sm,hpc,N,hl,wf⟩:=hI_3;refine hG_3 ?_;refine ⟨_,rfl,_,rfl,_,_,rfl,rfl,(by show 1<=sizeLine;decide),fun a1 ha1=>?_⟩
   refine ⟨_,rfl,_,rfl,_,_,rfl,rfl,.inr ⟨_,rfl,?_⟩⟩;refine ⟨a1,_,_,rfl,rfl,qA1,by split <;> decide,by split <;> decide,?_,fun a2 ha2=>?_⟩
   ·have:∀ b:Bool,[V.int (0+(i:Int) - wide)].length * (if b=true then (1:Int) else 0).toNat<=sizeLine:=by intro b;cases b <;> simp [sizeLine_eq]
    exact this _
   dsimp only;rw [qVO];refine ⟨_,rfl,_,_,rfl,rfl,(by show 1<=sizeLine;decide),fun a3 ha3=>?_⟩
   refine ⟨_,rfl,_,rfl,_,_,rfl,rfl,(by show 0<wide;lia),_,_,rfl,rfl,.inr ⟨_,rfl,?_⟩⟩
   refine ⟨a3,_,_,rfl,rfl,qA1,by split <;> decide,by split <;> decide,?_,fun a4 ha4=>?_⟩
   ·have:∀ b:Bool,[V.int (0+(i:Int) - 1)].length * (if b=true then (1:Int) else 0).toNat<=sizeLine:=by intro b;cases b <;> simp [sizeLine_eq]
    exact this _
   dsimp only;rw [qVO];have b1:∀ x ∈ (if decide (wide<=0+(i:Int))=true then [0+(i:Int) - wide] else []),0<=x/\x<(i:Int):=by
    intro x hx
    split at hx
    ·rename_i hd
     have:=of_decide_eq_true hd;rw [List.mem_singleton.mp hx];lia
    ·cases hx
   have b2:∀ x ∈ (if decide (0<(0+(i:Int)) % wide)=true then [0+(i:Int) - 1] else []),0<=x/\x<(i:Int):=by
    intro x hx
    split at hx
    ·rename_i hd
     have hd':=of_decide_eq_true hd;have:(i:Int) ≠ 0:=by
      intro e;rw [e] at hd';simp at hd'
     rw [List.mem_singleton.mp hx];lia
    ·cases hx
   have c1:(if decide (wide<=0+(i:Int))=true then [0+(i:Int) - wide] else []).length<=1:=by split <;> simp
   have c2:(if decide (0<(0+(i:Int)) % wide)=true then [0+(i:Int) - 1] else []).length<=1:=by split <;> simp
   generalize (if decide (wide<=0+(i:Int))=true then [0+(i:Int) - wide] else [])=z1 at b1 c1 ha3 ha4 ⊢
   generalize (if decide (0<(0+(i:Int)) % wide)=true then [0+(i:Int) - 1] else [])=z2 at b2 c2 ⊢
   have s2:=(qA2 ha3 (.lst [.int (0+(i:Int) - 1)])).trans (qA2 ha4 (.lst (z2.map V.int)));refine ⟨a2,a4,_,_,rfl,rfl,s2 _ _ qA1,qA1,Nat.le_of_lt (qAM (by rw [List.length_map,List.length_map];lia)),fun a5 ha5=>?_⟩
   have s1:=(qA2 ha1 (.lst [.int (0+(i:Int) - wide)])).trans (qA2 ha2 (.lst (z1.map V.int)));have s3:=(s1.trans s2).trans (qA2 ha5 (.lst (z1.map V.int++z2.map V.int)));have e5:z1.map V.int++z2.map V.int=(z1++z2).map V.int:=by rw [List.map_append]
   rw [e5] at s3 ⊢;have g1:=s3 _ _ hpc;have n5:a5 ≠ p:=(qA5 ((s1.trans s2) _ _ hpc) ha5).symm;refine ⟨_,g1,qAM (by rw [List.length_map,Paired.length N];lia),?_⟩
   rw [qAX];refine ⟨_,rs++[a5],ls++[z1++z2],rfl,qAB (sm.trans s3) hp,qA1,Paired.snoc (qCL N fun r zs e=>⟨e.1,by rw [qA8 e.1];exact s3 _ _ e.2⟩) ⟨n5,by rw [qA8 n5];exact qA1⟩,by rw [List.length_append,List.length_singleton,hl],fun j zs e=>?_⟩
   rcases qMU e with e | ⟨rfl,rfl⟩
   ·exact wf j zs e
   ·rw [hl];refine ⟨by rw [List.length_append];lia,fun x hx=>?_⟩
    rcases List.mem_append.mp hx with hx | hx
    ·exact b1 x hx
    ·exact b2 x hx
  ·refine fun σ Hc hI_4=>opq fun G_4 hG_4=>?_;obtain ⟨v,rs,ls,rfl,sm,hpc,N,hl,wf⟩:=hI_4;refine hG_4 ?_;refine ⟨_,rfl,p,rfl,⟨_,SqL.of hpc⟩,fun p' hp'=>?_⟩;refine qE4 (p:=p') (a:=p) (xs:=rs.map V.ref) (fun i σ Hd=>∃ (v:Option V) (rs':List Addr) (Af:List (List Int)),σ=[v]/\Same Hc Hd/\Hd p'=some (.lst (rs'.map V.ref))/\NetL Hd rs' Af/\Af.length=i/\WFn Af) ?_ ?_ ?_ ?_
   ·exact ⟨none,[],[],rfl,qA2 hp' _,qA1,.nil,rfl,WFn.nil⟩
   ·rintro i σ Hd hi ⟨v,rs',Af,rfl,sm2,_⟩;exact SqL.of (sm2 _ _ hpc)
   ·refine fun i x σ Hd hx hI_6=>opq fun G_6 hG_6=>?_;obtain ⟨v,rs',Af,rfl,sm2,hpd,N2,hl2,wf2⟩:=hI_6;obtain ⟨r,hr1,rfl⟩:=qBG hx;obtain ⟨zs,hz,_,hr2⟩:=qAG N hr1;obtain ⟨l2,m2⟩:=wf i zs hz;refine hG_6 ?_;refine ⟨_,rfl,r,zs,rfl,SqL.of (sm2 _ _ hr2),by lia,fun a ha=>?_⟩
    refine ⟨a,dedI zs,rfl,.inr (.inr qA1),Nat.lt_of_le_of_lt (qK0 zs) (by lia),fun b ys hb hpm hs=>?_⟩
    refine ⟨b,_,rfl,.inl ⟨SqL.of qA1,fun r2 hr3=>?_⟩⟩;have s1:=((qA2 ha (SetO w a (dedI zs))).trans (qA2 hb (.lst (ys.map V.int)))).trans (qA2 hr3 (.tup (ys.map V.int)));have g1:=s1 _ _ hpd;have lrs:rs.length=m.toNat:=by rw [Paired.length N,hl]
    have hi:i<rs.length:=(List.getElem?_eq_some_iff.mp hr1).1;refine ⟨_,g1,qAM (by rw [List.length_map,NetAt.len N2];lia),?_⟩
    rw [qAX];refine ⟨_,rs'++[r2],Af++[ys],rfl,qAB (sm2.trans s1) hp',qA1,qED (qD0 (N2.same fun r' zs' e=>s1 _ _ e) qA1) g1,by rw [List.length_append,List.length_singleton,hl2],wf2.snoc ?_⟩
    rw [hl2];exact qJG hpm hs m2
   ·refine fun σ Hd hI_7=>opq fun G_7 hG_7=>?_;obtain ⟨v,rs',Af,rfl,sm2,hpd,N2,hl2,wf2⟩:=hI_7;refine hG_7 ?_;refine ⟨p',_,rfl,.inl ⟨SqL.of hpd,fun a ha=>?_⟩⟩;have s1:=qA2 ha (.tup (rs'.map V.ref));refine q a Af (t+1+1) ns2 _ (S2.same ((sm.trans sm2).trans s1)) (by lia) (by lia) (K12.trans (.of_same ((sm.trans sm2).trans s1))) ⟨rs',qA1,N2.same fun r ys e=>s1 _ _ e⟩ wf2 ?_
    rw [hl2,List.length_map,Paired.length N,hl]
    lia
 refine hN4 _ _ (cut fun N5 hN5=>?_);refine ⟨_,rfl,rfl,_,rfl,?_⟩;refine ite2 (fun _=>?_) (fun _=>?_)
 ·refine ⟨_,rfl,_,rfl,d,c,t+1+1,ns2,m,rfl,S2,?_,hm0,hm1,fun a Af t' ms H' a1 a2 a3 a4 a5 a6 a7=>?_⟩
  ·show t+1+1<=1000000000 - 1000;lia
  ·exact q a Af t' ms H' a1 (by lia) (by lia) (K12.trans a4) a5 a6 a7
 refine hN5 _ _ (cut fun N6 hN6=>?_);refine ⟨_,rfl,rfl,_,rfl,?_⟩;refine ite2 (fun _=>?_) (fun _=>?_)
 ·refine ⟨_,rfl,_,_,rfl,rfl,⟨by decide,by decide⟩,?_⟩
  dsimp only;have hf0:0<=m / 2:=by lia
  have hf1:m / 2<=m:=by lia
  generalize m / 2=half at hf0 hf1;refine ⟨_,rfl,m,rfl,by lia,by lia,fun p hp=>?_⟩
  refine qCG (p:=p) (lo:=0) (n:=m.toNat) (fun i σ Hc=>∃ (v:Option V) (t':Int) (ms:List Int) (rs:List Addr) (Af:List (List Int)),σ=[v,some (.ref d),some (.int half)]/\StAt Hc d c t' ms/\t+2<=t'/\t'<=t+2+9 * i/\Keep d c H2 Hc/\Hc p=some (.lst (rs.map V.ref))/\NetL Hc rs Af/\Af.length=i/\
   ∀ (j:Nat) zs,Af[j]?=some zs->Rise (if (j:Int)<half then (j:Int) else (j:Int) - half) zs) ?_ ?_ ?_
  ·exact ⟨none,t+1+1,ns2,[],[],rfl,S2.new hp _,by lia,by lia,qBZ hp _,qA1,.nil,rfl,fun j zs e=>by simp at e⟩
  ·refine fun i σ Hc hi hI_8=>opq fun G_8 hG_8=>?_;obtain ⟨v,t',ms,rs,Af,rfl,S3,b1,b2,k3,hpc,N,hl,wf⟩:=hI_8;refine hG_8 ?_;have npd:p ≠ d:=(qA5 S2.dict hp).symm;have npc:p ≠ c:=(qA5 S2.list hp).symm;have nx:∀ (kk:Int),kk=(if (i:Int)<half then (i:Int) else (i:Int) - half)->qLV [.ref d,.int kk] Hc (fun y H4=>∃ ys,H4 p=some (.lst ys)/\ys.length<sizeLine/\∃ (v:Option V) (t':Int) (ms:List Int) (rs:List Addr) (Af:List (List Int)),[some (V.int (0+(i:Int))),some (.ref d),some (.int half)]=[v,some (.ref d),some (.int half)]/\StAt (Ah H4 p (.lst (ys++[y]))) d c t' ms/\t+2<=t'/\t'<=t+2+9 * (i+1:Nat)/\Keep d c H2 (Ah H4 p (.lst (ys++[y])))/\(Ah H4 p (.lst (ys++[y]))) p=some (.lst (rs.map V.ref))/\NetL (Ah H4 p (.lst (ys++[y]))) rs Af/\Af.length=i+1/\
     ∀ (j:Nat) zs,Af[j]?=some zs->Rise (if (j:Int)<half then (j:Int) else (j:Int) - half) zs) E0:=by
    intro kk ek;refine ⟨d,c,t',ms,kk,rfl,S3,(by show t'<=1000000000 - 20;lia),by rw [ek];split <;> lia,by rw [ek];split <;> lia,fun r zs t'' ms2 H3 e1 e2 e3 e4 e5 e6=>?_⟩
    have g1:=e4 _ _ hpc npd npc;refine ⟨_,g1,qAM (by rw [List.length_map,NetAt.len N];lia),?_⟩
    rw [qAX];refine ⟨_,t'',ms2,rs++[r],Af++[zs],rfl,⟨by rw [qA8 (Ne.symm npd)];exact e1.dict,by rw [qA8 (Ne.symm npc)];exact e1.list,e1.ne,e1.len,e1.pos⟩,by lia,by lia,qGW (k3.trans e4) hp,qA1,qED (qD0 (N.keep (fun r ys e=>S3.tup e) e4) e5) g1,by rw [List.length_append,List.length_singleton,hl],fun j ys e=>?_⟩
    rcases qMU e with e | ⟨rfl,rfl⟩
    ·exact wf j ys e
    ·rw [hl,<- ek];exact e6
   refine ⟨_,rfl,_,rfl,_,rfl,_,_,rfl,rfl,_,rfl,?_⟩;refine ite2 (fun ck=>?_) (fun ck=>?_)
   ·have ck':0+(i:Int)<half:=of_decide_eq_true ck;exact ⟨_,rfl,nx _ (by rw [if_pos (by lia)];lia)⟩
   ·have ck':¬ 0+(i:Int)<half:=of_decide_eq_false (Bool.eq_false_iff.mpr ck);exact ⟨_,rfl,_,rfl,_,_,rfl,rfl,nx _ (by rw [if_neg (by lia)];lia)⟩
  ·refine fun σ Hc hI_9=>opq fun G_9 hG_9=>?_;obtain ⟨v,t',ms,rs,Af,rfl,S3,b1,b2,k3,hpc,N,hl,wf⟩:=hI_9;refine hG_9 ?_;have lrs:rs.length=m.toNat:=by rw [Paired.length N,hl]
   refine ⟨_,rfl,p,rfl,⟨_,SqL.of hpc⟩,fun p' hp'=>?_⟩;refine qUE (p:=p') (a:=p) (xs:=rs.map V.ref) (fun i σ Hd=>∃ (v1 v2:Option V) (rs':List Addr) (net':List (List Int)),σ=[v1,v2,some (.int half)]/\Same Hc Hd/\Hd p'=some (.lst (rs'.map V.ref))/\NetL Hd rs' net'/\net'.length=i/\WFn net') ?_ ?_ ?_ ?_
   ·exact ⟨none,none,[],[],rfl,qA2 hp' _,qA1,.nil,rfl,WFn.nil⟩
   ·rintro i σ Hd hi ⟨v1,v2,rs',net',rfl,sm2,_⟩;exact SqL.of (sm2 _ _ hpc)
   ·refine fun i x σ Hd T hx hI_11 hT=>opq fun G_11 hG_11=>?_;obtain ⟨v1,v2,rs',net',rfl,sm2,hpd,N2,hl2,wf2⟩:=hI_11;obtain ⟨r,hr1,rfl⟩:=qBG hx;obtain ⟨zs,hz,hr2⟩:=qAG N hr1;refine hG_11 ?_;have hi:i<rs.length:=(List.getElem?_eq_some_iff.mp hr1).1;have rz:=wf i zs hz;have sT:=qA2 hT (.tup [.int (i:Int),.ref r]);have hrT:=sT _ _ (sm2 _ _ hr2);have hpT:=sT _ _ hpd;have NT:=N2.same fun r' zs' e=>sT _ _ e;have smT:=sm2.trans sT;have gT:SqT K (Ah Hd T (.tup [.int (i:Int),.ref r])) T [.int (i:Int),.ref r]:=SqT.of qA1;generalize Ah Hd T (.tup [.int (i:Int),.ref r])=HT' at hrT hpT NT smT gT ⊢;refine ⟨T,_,rfl,gT,rfl,_,_,rfl,_,_,rfl,rfl,?_⟩;refine ⟨_,rfl,_,rfl,_,_,rfl,rfl,_,rfl,?_⟩;refine ite2 (fun ck=>?_) (fun ck=>?_)
    ·have ck':(i:Int)<half:=of_decide_eq_true ck;rw [if_pos ck'] at rz;refine ⟨_,rfl,_,hpT,qAM (by rw [List.length_map,NetAt.len N2];lia),?_⟩
     rw [qAX];refine ⟨_,_,rs'++[r],net'++[zs],rfl,qAB smT hp',qA1,qED (qD0 NT hrT) hpT,by rw [List.length_append,List.length_singleton,hl2],wf2.snoc ?_⟩
     rw [hl2];exact rz
    ·have ck':¬ (i:Int)<half:=of_decide_eq_false (Bool.eq_false_iff.mpr ck);rw [if_neg ck'] at rz;have lz:zs.length<=i:=by
      have e:((i:Int) - half)=(((i:Int) - half).toNat:Nat):=by lia
      rw [e] at rz;have:=rz.len
      lia
     refine ⟨_,rfl,r,rfl,⟨_,SqT.of hrT⟩,fun p2 hp2=>?_⟩;refine qIY (p:=p2) (a:=r) (xs:=zs.map V.int) (fun j σ He=>∃ (v:Option V),σ=[v,some (.int half)]/\Same HT' He/\He p2=some (.lst (((zs.take j).map (·+half)).map V.int))) ?_ ?_ ?_ ?_
     ·exact ⟨none,rfl,qA2 hp2 _,qA1⟩
     ·rintro j σ He hj ⟨v,rfl,sm3,_⟩;exact SqT.of (sm3 _ _ hrT)
     ·refine fun j x σ He hx2 hI_13=>opq fun G_13 hG_13=>?_;obtain ⟨v,rfl,sm3,hp3⟩:=hI_13;obtain ⟨z,hz2,rfl⟩:=qEV hx2;refine hG_13 ?_;refine ⟨_,rfl,_,rfl,_,_,rfl,rfl,_,hp3,qAM (by rw [List.length_map,List.length_map,List.length_take];lia),_,rfl,qAB sm3 hp2,?_⟩
      rw [qA1,List.take_add_one,hz2,Option.toList_some,List.map_append,List.map_append]
      rfl
     ·refine fun σ He hI_14=>opq fun G_14 hG_14=>?_;obtain ⟨v,rfl,sm3,hp3⟩:=hI_14;refine hG_14 ?_;rw [List.length_map,List.take_of_length_le (Nat.le_refl _)] at hp3;refine ⟨p2,_,rfl,.inl ⟨SqL.of hp3,fun r2 hr3=>?_⟩⟩;have s1:=qA2 hr3 (.tup ((zs.map (·+half)).map V.int));have s2:=sm3.trans s1;have g1:=s2 _ _ hpT;refine ⟨_,g1,qAM (by rw [List.length_map,NetAt.len N2];lia),?_⟩
      rw [qAX];refine ⟨_,_,rs'++[r2],net'++[zs.map (·+half)],rfl,qAB (smT.trans s2) hp',qA1,qED (qD0 (NT.same fun r' zs' e=>s2 _ _ e) qA1) g1,by rw [List.length_append,List.length_singleton,hl2],wf2.snoc ?_⟩
      rw [hl2];have:=rz.shift hf0;rw [show (i:Int) - half+half=(i:Int) by lia] at this
      exact this
   ·refine fun σ Hd hI_15=>opq fun G_15 hG_15=>?_;obtain ⟨v1,v2,rs',net',rfl,sm2,hpd,N2,hl2,wf2⟩:=hI_15;refine hG_15 ?_;refine ⟨p',_,rfl,.inl ⟨SqL.of hpd,fun a ha=>?_⟩⟩;have s1:=qA2 ha (.tup (rs'.map V.ref));refine q a net' t' ms _ (S3.same (sm2.trans s1)) (by lia) (by lia) (K12.trans (k3.trans (.of_same (sm2.trans s1)))) ⟨rs',qA1,N2.same fun r ys e=>s1 _ _ e⟩ wf2 ?_
    rw [hl2,List.length_map,Paired.length N,hl]
    lia
 refine hN6 _ _ ?_;refine ⟨_,rfl,m,rfl,by lia,by lia,fun p hp=>?_⟩
 refine qCG (p:=p) (lo:=0) (n:=m.toNat) (fun i σ Hc=>∃ (v:Option V) (t':Int) (ms:List Int) (rs:List Addr) (Af:List (List Int)),σ=[v,some (.ref d)]/\StAt Hc d c t' ms/\t+2<=t'/\t'<=t+2+9 * i/\Keep d c H2 Hc/\Hc p=some (.lst (rs.map V.ref))/\NetL Hc rs Af/\Af.length=i/\WFn Af) ?_ ?_ ?_
 ·exact ⟨none,t+1+1,ns2,[],[],rfl,S2.new hp _,by lia,by lia,qBZ hp _,qA1,.nil,rfl,WFn.nil⟩
 ·refine fun i σ Hc hi hI_16=>opq fun G_16 hG_16=>?_;obtain ⟨v,t',ms,rs,Af,rfl,S3,b1,b2,k3,hpc,N,hl,wf⟩:=hI_16;refine hG_16 ?_;have npd:p ≠ d:=(qA5 S2.dict hp).symm;have npc:p ≠ c:=(qA5 S2.list hp).symm;refine ⟨_,rfl,_,rfl,d,c,t',ms,0+(i:Int),rfl,S3,(by show t'<=1000000000 - 20;lia),by lia,by lia,fun r zs t'' ms2 H3 e1 e2 e3 e4 e5 e6=>?_⟩
  have g1:=e4 _ _ hpc npd npc;refine ⟨_,g1,qAM (by rw [List.length_map,NetAt.len N];lia),?_⟩
  rw [qAX];refine ⟨_,t'',ms2,rs++[r],Af++[zs],rfl,⟨by rw [qA8 (Ne.symm npd)];exact e1.dict,by rw [qA8 (Ne.symm npc)];exact e1.list,e1.ne,e1.len,e1.pos⟩,by lia,by lia,qGW (k3.trans e4) hp,qA1,qED (qD0 (N.keep (fun r ys e=>S3.tup e) e4) e5) g1,by rw [List.length_append,List.length_singleton,hl],wf.snoc ?_⟩
  rw [hl];exact e6.mono (by lia)
 ·refine fun σ Hc hI_17=>opq fun G_17 hG_17=>?_;obtain ⟨v,t',ms,rs,Af,rfl,S3,b1,b2,k3,hpc,N,hl,wf⟩:=hI_17;refine hG_17 ?_;refine ⟨p,_,rfl,.inl ⟨SqL.of hpc,fun a ha=>?_⟩⟩;have s1:=qA2 ha (.tup (rs.map V.ref));exact q a Af t' ms _ (S3.same s1) (by lia) (by lia) (K12.trans (k3.trans (.of_same s1))) ⟨rs,qA1,N.same fun r ys e=>s1 _ _ e⟩ wf (by rw [hl];lia)
theorem qRM:FnScope ["_law_found","_law_due"] ["_law_found","_law_due"] (qAA qH8):=qC2
def spS:Nat->Sp
 | 0=>fun _ _ _ _=>False
 | n+1=>qXH n
theorem ok_Lsame_step {n:Nat} {qE6:Addr} {qEJ:FuncData} (F:Fun K "_law_same" "_law_same" qH8 f fd) (qV0:FnOk P w K mg base CX0 n qE6 qEJ ["_law_found","_law_due"] (spS n)) (qF2:Binds K qEJ ["_law_found","_law_due"] []) (qJR:PySem.W.keepIn K (.ref qE6)=true) (qER:mg "_law_same" = some (.ref qE6))
  (qAH:mg "isinstance" = none) (qDS:mg "list" = none) (qAT:mg "tuple" = none) (qJA:mg "str" = none) (qJB:mg "int" = none) (qMK:mg "bool" = none) (qBF:mg "len" = none) (qNS:mg "all" = none) (qRD:mg "zip" = none):FnOk P w K mg base CX0 (n+1) f fd ["_law_found","_law_due"] (spS (n+1)):=by
 refine F.okA qRM fun cdv A outer s H vs Q E hr h=>?_;obtain ⟨x,y,r,rfl,hal,q⟩:=h;have qS7:Room n _:=hr;refine ⟨_,(qA4 (qBE (qCP (qF7 (pv 1))) (qA7 (qAE (qVY (qF7 (pv 0))))) qAJ) (qA4 (qBE (PW.pt (qM4 (qDT (qA9 qB1 rfl qAH qAO (qA0 (pv 1) (qA0 (qC5 (v:=.ty "list") rfl qDS qG5 rfl) qA3)))) (qMZ (qDT (qA9 qB1 rfl qAH qAO (qA0 (pv 1) (qA0 (qC5 (v:=.ty "tuple") rfl qAT qB2 rfl) qA3))))))) (qA4 (qBE (qAI qO5 (qA9 qB1 rfl qAH qAO (qA0 (pv 0) (qA0 (qC5 (v:=.ty "list") rfl qDS qG5 rfl) qA3))) (qA9 qB1 rfl qAH qAO (qA0 (pv 1) (qA0 (qC5 (v:=.ty "list") rfl qDS qG5 rfl) qA3))) (qAQ _)) (qA7 (qAE qM5)) qAJ) (qA4 (qBE (PW.pt (qM4 (qAI qO5 (qA9 qB1 rfl qAH qAO (qA0 (pv 0) (qA0 (qC5 (v:=.ty "tuple") rfl qAT qB2 rfl) qA3))) (qA9 qB1 rfl qAH qAO (qA0 (pv 1) (qA0 (qC5 (v:=.ty "tuple") rfl qAT qB2 rfl) qA3))) (qAQ _)) (qMZ (qAI qO5 (qA9 qAC rfl qBF qBL (qA0 (pv 0) qA3)) (qA9 qAC rfl qBF qBL (qA0 (pv 1) qA3)) (qAQ _))))) (qA7 (qAE qM5)) qAJ) (qA7 (qAE (qA9 (qNP rfl) rfl qNS qTH (qA0 (qD7 rfl (lcs (own:=["_law_one","_law_other"]) (fv:=[]) (by kernel_rfl)) (qVT rfl qRD qWU (qA0 (pv 0) (qA0 (pv 1) qA3))) (fun z1=>qPG (K:=K) (n:=2) rfl rfl (qBO (qBQ 0) (qBO (qBQ 1) qHB)) rfl rfl) (fun z1=>qB8) (fun z1=>(qPI qV0 qS7 rfl qER qJR qF2 .nil qVZ (qA0 (pv 0) (qA0 (pv 1) qA3))))) qA3)))))) qAJ) (qA4 (qBE (qDT (qA9 qB1 rfl qAH qAO (qA0 (pv 1) (qA0 (qC5 (v:=.ty "str") rfl qJA qNQ rfl) qA3)))) (qA7 (qAE (qPJ (qA9 qB1 rfl qAH qAO (qA0 (pv 0) (qA0 (qC5 (v:=.ty "str") rfl qJA qNQ rfl) qA3))) (qT3 (qE2 qEL (pv 0) (pv 1) (qAQ _)))))) qAJ) (qA7 (qAE (qPJ (qA9 qB1 rfl qAH qAO (qA0 (pv 0) (qA0 (qC5 (v:=.ty "int") rfl qJB qNR rfl) qA3))) (qPJ (qVW (qA9 qB1 rfl qAH qAO (qA0 (pv 0) (qA0 (qC5 (v:=.ty "bool") rfl qMK qUV rfl) qA3)))) (qT3 (qE2 qEL (pv 0) (pv 1) (qAQ _)))))))))),?_⟩
 try dsimp only [Cx.nox,Cx.wish,cxOf]
 have leaf:CmpL x y r\/∃ (m:Nat) (b:Bool) (a c:Addr) (xs ys:List V),n=m+1/\x=.ref a/\y=.ref c/\H a=some (seqO b xs)/\H c=some (seqO b ys)/\xs.length<=100000/\((xs.length ≠ ys.length/\r=false)\/xs.length=ys.length/\∃ bs:List Bool,bs.length=xs.length/\r=bs.all id/\∀ (i:Nat) (x' y':V) (b':Bool),xs[i]?=some x'->ys[i]?=some y'->bs[i]?=some b'->CmpH H m x' y' b'):=by
  cases n with
  | zero=>exact .inl hal
  | succ m=>
   rcases hal with h | ⟨b,a,c,xs,ys,h⟩
   ·exact .inl h
   ·exact .inr ⟨m,b,a,c,xs,ys,rfl,h⟩
 rcases leaf with hl | ⟨m,b,a,c,xs,ys,rfl,rfl,rfl,ha,hc,hbd,hel⟩
 ·refine ⟨_,rfl,_,rfl,?_⟩;have dI:∀ i j,r=decide (i=j)->x=.int i->y=.int j->Q (.bl (decide (V.int i=V.int j))) H:=fun i j e _ _=>by
   have:decide (V.int i=V.int j)=decide (i=j):=decide_eq_decide.mpr ⟨fun z=>V.int.inj z,fun z=>by rw [z]⟩
   rw [this,<- e];exact q H (Same.refl H)
  have dS:∀ i j,r=decide (i=j)->x=.str i->y=.str j->Q (.bl (decide (V.str i=V.str j))) H:=fun i j e _ _=>by
   have:decide (V.str i=V.str j)=decide (i=j):=decide_eq_decide.mpr ⟨fun z=>V.str.inj z,fun z=>by rw [z]⟩
   rw [this,<- e];exact q H (Same.refl H)
  have hl2:(x=.non/\y=.non/\r=true)\/(∃ i j,x=.int i/\y=.int j/\r=decide (i=j))\/∃ i j,x=.str i/\y=.str j/\r=decide (i=j):=by
   rcases hl with ⟨e,h,er⟩ | h | h
   ·subst e;rcases h with h | ⟨i,h⟩ | ⟨i,h⟩
    ·exact .inl ⟨h,h,er⟩
    ·exact .inr (.inl ⟨i,i,h,h,by rw [er];exact (decide_eq_true rfl).symm⟩)
    ·exact .inr (.inr ⟨i,i,h,h,by rw [er];exact (decide_eq_true rfl).symm⟩)
   ·exact .inr (.inl h)
   ·exact .inr (.inr h)
  rcases hl2 with ⟨rfl,rfl,rfl⟩ | ⟨i,j,rfl,rfl,e⟩ | ⟨y,z,rfl,rfl,e⟩
  ·exact ⟨_,rfl,q H (Same.refl H)⟩
  ·refine ⟨_,rfl,_,"list",_,false,rfl,TyOf.int j,qWC,_,rfl,?_⟩;refine ⟨_,rfl,_,"tuple",_,false,rfl,TyOf.int j,qWA,_,rfl,?_⟩;refine ⟨_,rfl,_,"str",_,false,rfl,TyOf.int j,qWB,_,rfl,?_⟩;refine ⟨_,rfl,_,"int",_,true,rfl,TyOf.int i,qWD,_,rfl,?_⟩;refine ⟨_,rfl,_,"bool",_,false,rfl,TyOf.int i,qWE,_,rfl,_,rfl,?_⟩;refine ⟨_,rfl,_,rfl,rfl,?_⟩;exact dI i j e rfl rfl
  ·refine ⟨_,rfl,_,"list",_,false,rfl,TyOf.str z,qW9,_,rfl,?_⟩;refine ⟨_,rfl,_,"tuple",_,false,rfl,TyOf.str z,qW8,_,rfl,?_⟩;refine ⟨_,rfl,_,"str",_,true,rfl,TyOf.str z,qT8,_,rfl,?_⟩;refine ⟨_,rfl,_,"str",_,true,rfl,TyOf.str y,qT8,_,rfl,?_⟩;refine ⟨_,rfl,_,rfl,rfl,?_⟩;exact dS y z e rfl rfl
 ·rcases hel with ⟨hne,rfl⟩ | ⟨hlen,bs,lbs,rfl,hel⟩
  ·have el:(!decide (V.int ((xs.length:Nat):Int)=V.int ((ys.length:Nat):Int)))=true:=by
    rw [decide_eq_false (fun z=>hne (by have:=V.int.inj z;lia))]
    rfl
   cases b
   ·refine ⟨_,rfl,_,rfl,_,rfl,_,"list",_,true,rfl,qCW hc,qDU false,_,rfl,?_⟩;refine ⟨_,rfl,_,"list",_,true,rfl,qCW ha,qDU false,_,rfl,_,"list",_,true,rfl,qCW hc,qDU false,rfl,_,rfl,?_⟩;refine ⟨_,rfl,_,"tuple",_,false,rfl,qCW ha,qEM false,_,rfl,_,"tuple",_,false,rfl,qCW hc,qEM false,rfl,_,rfl,?_⟩;refine ⟨_,rfl,a,_,rfl,.inl (SqL.of ha),_,rfl,c,_,rfl,.inl (SqL.of hc),rfl,?_⟩;rw [el];exact ⟨_,rfl,q H (Same.refl H)⟩
   ·refine ⟨_,rfl,_,rfl,_,rfl,_,"list",_,false,rfl,qCW hc,qDU true,_,rfl,?_⟩;refine ⟨_,rfl,_,"tuple",_,true,rfl,qCW hc,qEM true,_,rfl,?_⟩;refine ⟨_,rfl,_,"list",_,false,rfl,qCW ha,qDU true,_,rfl,_,"list",_,false,rfl,qCW hc,qDU true,rfl,_,rfl,?_⟩;refine ⟨_,rfl,_,"tuple",_,true,rfl,qCW ha,qEM true,_,rfl,_,"tuple",_,true,rfl,qCW hc,qEM true,rfl,_,rfl,?_⟩;refine ⟨_,rfl,a,_,rfl,.inr (SqT.of ha),_,rfl,c,_,rfl,.inr (SqT.of hc),rfl,?_⟩;rw [el];exact ⟨_,rfl,q H (Same.refl H)⟩
  have step:∀ (i:Nat) (x' y':V) (b':Bool) (Hi:Hp) (Q':VK) (E':XK),Same H Hi->xs[i]?=some x'->ys[i]?=some y'->bs[i]?=some b'->(∀ H',Same Hi H'->Q' (.bl b') H')->spS (m+1) [x',y'] Hi Q' E':=fun i x' y' b' Hi Q' E' s e1 e2 e3 k=>⟨x',y',b',rfl,(hel i x' y' b' e1 e2 e3).same s,k⟩;have el:(!decide (V.int ((xs.length:Nat):Int)=V.int ((ys.length:Nat):Int)))=false:=by rw [hlen];simp
  cases b
  ·refine ⟨_,rfl,_,rfl,_,rfl,_,"list",_,true,rfl,qCW hc,qDU false,_,rfl,?_⟩;refine ⟨_,rfl,_,"list",_,true,rfl,qCW ha,qDU false,_,rfl,_,"list",_,true,rfl,qCW hc,qDU false,rfl,_,rfl,?_⟩;refine ⟨_,rfl,_,"tuple",_,false,rfl,qCW ha,qEM false,_,rfl,_,"tuple",_,false,rfl,qCW hc,qEM false,rfl,_,rfl,?_⟩;refine ⟨_,rfl,a,_,rfl,.inl (SqL.of ha),_,rfl,c,_,rfl,.inl (SqL.of hc),rfl,?_⟩;rw [el];refine ⟨_,rfl,_,rfl,_,rfl,false,a,c,rfl,⟨_,SqB.of ha⟩,⟨_,SqB.of hc⟩,fun p hp=>?_⟩;refine qT7 (b:=false) (p:=p) (xs:=xs) (ys:=ys) hlen (fun i σ Hi=>∃ (v0 v1:Option V),σ=[v0,v1]/\Same H Hi/\Hi p=some (.lst ((bs.take i).map V.bl))) ⟨none,none,rfl,qA2 hp _,qA1⟩ (fun i σ Hi _ ⟨_,_,_,sm,_⟩=>⟨SqB.of (sm _ _ ha),SqB.of (sm _ _ hc)⟩) ?_ ?_
   ·refine fun i x' y' σ Hi T ex ey hI_1 hT=>opq fun G_1 hG_1=>?_;obtain ⟨v0,v1,rfl,sm,hpi⟩:=hI_1;refine hG_1 ?_;have li:i<xs.length:=(List.getElem?_eq_some_iff.mp ex).1;refine ⟨T,_,rfl,SqT.of qA1,rfl,_,_,rfl,_,_,rfl,rfl,?_⟩;have s1:=sm.trans (qA2 hT (.tup [x',y']));refine ⟨_,rfl,_,rfl,?_⟩;dsimp only [tNil,List.cons_append,List.nil_append];have eb:=List.getElem?_eq_getElem (show i<bs.length by lia)
    refine step i x' y' _ _ _ _ s1 ex ey eb fun H' sm'=>?_;refine ⟨_,(sm' _ _ ((qA2 hT _) _ _ hpi)),?_,_,_,rfl,(fun b u e=>by rw [qA8 (qA5 e hp)];exact (s1.trans sm') b u e),?_⟩
    ·rw [List.length_map,List.length_take,sizeLine_eq];lia
    ·rw [qA1,List.take_add_one,eb,Option.toList_some,List.map_append];rfl
   ·refine fun σ Hi hI_2=>opq fun G_2 hG_2=>?_;obtain ⟨v0,v1,rfl,sm,hpi⟩:=hI_2;refine hG_2 ?_;rw [<- lbs,List.take_length] at hpi;exact ⟨p,_,rfl,SqL.of hpi,q Hi sm⟩
  ·refine ⟨_,rfl,_,rfl,_,rfl,_,"list",_,false,rfl,qCW hc,qDU true,_,rfl,?_⟩;refine ⟨_,rfl,_,"tuple",_,true,rfl,qCW hc,qEM true,_,rfl,?_⟩;refine ⟨_,rfl,_,"list",_,false,rfl,qCW ha,qDU true,_,rfl,_,"list",_,false,rfl,qCW hc,qDU true,rfl,_,rfl,?_⟩;refine ⟨_,rfl,_,"tuple",_,true,rfl,qCW ha,qEM true,_,rfl,_,"tuple",_,true,rfl,qCW hc,qEM true,rfl,_,rfl,?_⟩;refine ⟨_,rfl,a,_,rfl,.inr (SqT.of ha),_,rfl,c,_,rfl,.inr (SqT.of hc),rfl,?_⟩;rw [el];refine ⟨_,rfl,_,rfl,_,rfl,true,a,c,rfl,⟨_,SqB.of ha⟩,⟨_,SqB.of hc⟩,fun p hp=>?_⟩;refine qT7 (b:=true) (p:=p) (xs:=xs) (ys:=ys) hlen (fun i σ Hi=>∃ (v0 v1:Option V),σ=[v0,v1]/\Same H Hi/\Hi p=some (.lst ((bs.take i).map V.bl))) ⟨none,none,rfl,qA2 hp _,qA1⟩ (fun i σ Hi _ ⟨_,_,_,sm,_⟩=>⟨SqB.of (sm _ _ ha),SqB.of (sm _ _ hc)⟩) ?_ ?_
   ·refine fun i x' y' σ Hi T ex ey hI_3 hT=>opq fun G_3 hG_3=>?_;obtain ⟨v0,v1,rfl,sm,hpi⟩:=hI_3;refine hG_3 ?_;have li:i<xs.length:=(List.getElem?_eq_some_iff.mp ex).1;refine ⟨T,_,rfl,SqT.of qA1,rfl,_,_,rfl,_,_,rfl,rfl,?_⟩;have s1:=sm.trans (qA2 hT (.tup [x',y']));refine ⟨_,rfl,_,rfl,?_⟩;dsimp only [tNil,List.cons_append,List.nil_append];have eb:=List.getElem?_eq_getElem (show i<bs.length by lia)
    refine step i x' y' _ _ _ _ s1 ex ey eb fun H' sm'=>?_;refine ⟨_,(sm' _ _ ((qA2 hT _) _ _ hpi)),?_,_,_,rfl,(fun b u e=>by rw [qA8 (qA5 e hp)];exact (s1.trans sm') b u e),?_⟩
    ·rw [List.length_map,List.length_take,sizeLine_eq];lia
    ·rw [qA1,List.take_add_one,eb,Option.toList_some,List.map_append];rfl
   ·refine fun σ Hi hI_4=>opq fun G_4 hG_4=>?_;obtain ⟨v0,v1,rfl,sm,hpi⟩:=hI_4;refine hG_4 ?_;rw [<- lbs,List.take_length] at hpi;exact ⟨p,_,rfl,SqL.of hpi,q Hi sm⟩
theorem ok_Lsame (F:Fun K "_law_same" "_law_same" qH8 f fd) (qF2:Binds K fd ["_law_found","_law_due"] []) (qJR:PySem.W.keepIn K (.ref f)=true) (qER:mg "_law_same" = some (.ref f))
  (qAH:mg "isinstance" = none) (qDS:mg "list" = none) (qAT:mg "tuple" = none) (qJA:mg "str" = none) (qJB:mg "int" = none) (qMK:mg "bool" = none) (qBF:mg "len" = none) (qNS:mg "all" = none) (qRD:mg "zip" = none) (n:Nat):FnOk P w K mg base CX0 n f fd ["_law_found","_law_due"] (spS n):=by
 induction n with
 | zero=>exact ⟨fun _ _ _ _ h=>h.elim,fun _ _ _ _ _ _ _ _ _ _ _ _ _ h=>h.elim⟩
 | succ n ih=>exact ok_Lsame_step F ih qF2 qJR qER qAH qDS qAT qJA qJB qMK qBF qNS qRD
theorem qRU {k:Int} (h0:0<=k) (h1:k<4):∃ v,atI [V.int 0,V.int 0,V.int 1,V.int 3] k=some (.int v)/\0<=v/\v<=3:=by
 rcases (by lia:k=0\/k=1\/k=2\/k=3) with rfl | rfl | rfl | rfl
 all_goals exact ⟨_,rfl,by decide,by decide⟩
theorem sc_Lasked:FnScope ["_law_state","_law_net_here","_law_found","_law_turn"] ["_law_state","_law_net_here"] (qAA qGS):=qC2
theorem ok_Lasked (F:Fun K "_law_asked" "_law_asked" qGS f fd)
  (qBA:Clb P w K mg base 1 qEY qFJ "_law_take" ["_law_state","_law_many"] qIP)
  (qBF:mg "len" = none) (qFU:mg "min" = none) (qAV:mg "range" = none) (qOS:mg "set" = none) (qBY:mg "sorted" = none) (qAT:mg "tuple" = none):FnOk P w K mg base CX0 2 f fd ["_law_state","_law_net_here"] qP1:=by
 refine F.okA sc_Lasked fun cdv A outer s H vs Q E hr h=>?_;obtain ⟨d,c,t,ns,a,Af,rfl,S,ht,hN,wf,n1,n400,q⟩:=h;have ht':t<=1000000000 - 100:=ht;have qNF:Room 1 _:=hr;refine ⟨_,(qA4 (qAD (i:=2) sc_Lasked.nd rfl (Or.inl rfl) (qBB (qA0 (qAR qE3 (qAR qE3 (qA9 qAC rfl qBF qBL (qA0 (pv 1) qA3)) qA6) (qB3 qBA hr rfl (qA0 (pv 0) (qA0 (qA9 (qFP rfl) rfl qFU qHZ (qA0 (qA9 qAC rfl qBF qBL (qA0 (pv 1) qA3)) (qA0 qA6 qA3))) qA3)))) qA3))) (qA4 (qD6 PassesOwn.never rfl (qAY rfl qAV (qA0 (qB6 qEU (qBB (qA0 qA6 (qA0 qA6 (qA0 qA6 (qA0 qA6 qA3))))) (qB3 qBA hr rfl (qA0 (pv 0) (qA0 qA6 qA3))) (fun _ _=>rfl)) qA3)) (qB9 (i:=3) sc_Lasked.nd rfl (Or.inl rfl)) (qA7 (qC4 (qI8 PySem.F.plainAttrs_list PySem.F.slot_list_append PySem.F.type_list_append qBS (pv 2) (qA0 (qB3 qBA hr rfl (qA0 (pv 0) (qA0 (qA9 qAC rfl qBF qBL (qA0 (pv 1) qA3)) qA3))) qA3))))) (qA7 (qAE (qAF qAN rfl qAT qB2 (qA0 (qA9 (qF1 rfl) rfl qBY qE9 (qA0 (qAF (qK6 rfl) rfl qOS qR0 (qA0 (pv 2) qA3)) qA3)) qA3)))))),?_⟩
 try dsimp only [Cx.nox,Cx.wish,cxOf]
 obtain ⟨rs,hA,NL⟩:=id hN;have lrv:(((rs.map V.ref).length:Nat):Int)=(Af.length:Int):=by rw [List.length_map,Paired.length NL]
 refine ⟨_,rfl,a,_,rfl,.inr (SqT.of hA),_,_,rfl,rfl,?_⟩;refine ⟨_,rfl,_,rfl,a,_,rfl,.inr (SqT.of hA),_,_,rfl,?_⟩;refine ⟨d,c,t,ns,_,rfl,S,(by show t<=1000000000;lia),by split <;> lia,by split <;> lia,fun k ns1 H1 k0 k1 S1 K1=>?_⟩
 have kb:0<=(Af.length:Int) - 1 - k/\(Af.length:Int) - 1 - k<(Af.length:Int):=by
  rw [lrv] at k1
  split at k1 <;> lia
 refine ⟨_,_,rfl,rfl,(by show 1<=sizeLine;decide),fun fo hfo=>?_⟩
 dsimp only;rw [lrv];generalize (Af.length:Int) - 1 - k=x0 at kb;have npd:fo ≠ d:=(qA5 S1.dict hfo).symm;have npc:fo ≠ c:=(qA5 S1.list hfo).symm;have S2:=S1.new hfo (.lst [.int x0]);have k2:=K1.trans (qBZ (d:=d) (c:=c) hfo (.lst [.int x0]));have ffo:∀ o,H fo=some o->False:=fun o z=>by
  by_cases e1:fo=d
  ·exact npd e1
  ·by_cases e2:fo=c
   ·exact npc e2
   ·have:=K1 fo o z e1 e2;rw [hfo] at this;cases this
 have gfo:(Ah H1 fo (.lst [.int x0])) fo=some (.lst ([x0].map V.int)):=qA1;generalize Ah H1 fo (.lst [.int x0])=H2 at S2 k2 gfo;refine ⟨(by show 4<=sizeLine;decide),fun p hp=>?_⟩
 have np2d:p ≠ d:=(qA5 S2.dict hp).symm;have np2c:p ≠ c:=(qA5 S2.list hp).symm;have sp:=qA2 hp (.lst [.int 0,.int 0,.int 1,.int 3]);refine ⟨_,rfl,d,c,t+1,ns1,4,rfl,S2.same sp,(by show t+1<=1000000000;lia),by decide,by decide,fun j ns3 H3 j0 j1 S3 K3=>?_⟩
 have gp:=K3 _ _ qA1 np2d np2c;have gfo3:=K3 _ _ (sp _ _ gfo) npd npc;have k3:=(k2.trans (.of_same sp)).trans K3;obtain ⟨m,hm,m0,m3⟩:=qRU j0 j1;refine ⟨p,_,_,_,rfl,rfl,SqL.of gp,hm,m,rfl,by lia,by lia,qC3 (lo:=0) (n:=m.toNat) (fun i σ Hc=>∃ (t':Int) (ms fs:List Int) (v3:Option V),σ=[some (.ref d),some (.ref a),some (.ref fo),v3]/\StAt Hc d c t' ms/\t+2<=t'/\t'<=t+2+i/\Keep d c H Hc/\Hc fo=some (.lst (fs.map V.int))/\fs.length=i+1/\∀ x ∈ fs,0<=x/\x<(Af.length:Int))
  ⟨t+1+1,ns3,[x0],none,rfl,S3,by lia,by lia,k3,gfo3,rfl,fun x hx=>by rw [List.mem_singleton.mp hx];exact kb⟩ ?_ ?_⟩
 ·refine fun i σ Hc hi hI_1=>opq fun G_1 hG_1=>?_;obtain ⟨t',ms,fs,v3,rfl,S4,b1,b2,k4,gf,lf,fb⟩:=hI_1;refine hG_1 ?_;have hN4:=hN.keep S k4;obtain ⟨rs,hA,NL⟩:=id hN4;have lrv:(((rs.map V.ref).length:Nat):Int)=(Af.length:Int):=by rw [List.length_map,Paired.length NL]
  refine ⟨_,rfl,.inl ⟨rfl,_,SqL.of gf⟩,_,rfl,_,rfl,a,_,rfl,.inr (SqT.of hA),d,c,t',ms,_,rfl,S4,(by show t'<=1000000000;lia),by rw [lrv];lia,by rw [lrv];lia,fun x ms5 H5 x0 x1 S5 K5=>?_⟩
  rw [lrv] at x1;have gf5:=K5 _ _ gf npd npc;refine ⟨fo,_,_,rfl,rfl,gf5,qAM (by rw [List.length_map];lia),?_⟩
  refine ⟨t'+1,ms5,fs++[x],_,rfl,⟨by rw [qA8 (Ne.symm npd)];exact S5.dict,by rw [qA8 (Ne.symm npc)];exact S5.list,S5.ne,S5.len,S5.pos⟩,by lia,by lia,fun b u e n1 n2=>?_,by rw [qA1,List.map_append];rfl,by rw [List.length_append,List.length_singleton,lf],fun y hy=>?_⟩
  ·by_cases e3:b=fo
   ·subst e3;exact (ffo _ e).elim
   ·rw [qA8 e3];exact (k4.trans K5) b u e n1 n2
  ·rcases List.mem_append.mp hy with hy | hy
   ·exact fb y hy
   ·rw [List.mem_singleton.mp hy];exact ⟨x0,x1⟩
 ·refine fun σ Hc hI_2=>opq fun G_2 hG_2=>?_;obtain ⟨t',ms,fs,v3,rfl,S4,b1,b2,k4,gf,lf,fb⟩:=hI_2;refine hG_2 ?_;refine ⟨_,rfl,fo,fs,rfl,SqL.of gf,by lia,fun e he=>?_⟩
  have ld:=qK0 fs;refine ⟨e,dedI fs,rfl,.inr (.inr qA1),by lia,fun b ys hb hpm hs=>?_⟩
  refine ⟨b,_,rfl,.inl ⟨SqL.of qA1,fun r hr3=>?_⟩⟩;have s1:=((qA2 he (SetO w e (dedI fs))).trans (qA2 hb (.lst (ys.map V.int)))).trans (qA2 hr3 (.tup (ys.map V.int)));have ne:fs ≠ []:=fun z=>by rw [z] at lf;simp at lf
  obtain ⟨y,hy⟩:=List.exists_mem_of_ne_nil fs ne;refine q r ys t' ms _ (S4.same s1) (by lia) (by lia) (k4.trans (.of_same s1)) qA1 (qJG hpm hs fb) (List.length_pos_of_mem (hpm.mem_iff.mpr (mem_dedI.mpr hy)))
theorem qUG {ns:List Int} {lay:List (Option Int)}:((ns.map fun x=>decide (some x ∈ lay)).all id)=decide (∀ x ∈ ns,some x ∈ lay):=by
 rw [Bool.eq_iff_iff,List.all_eq_true,decide_eq_true_eq]
 constructor
 ·intro h x hx;exact of_decide_eq_true (h _ (List.mem_map.mpr ⟨x,hx,rfl⟩))
 ·intro h b hb;obtain ⟨x,hx,rfl⟩:=List.mem_map.mp hb;exact decide_eq_true (h x hx)
theorem qNZ:FnScope ["results","works"] ["results","works"] (qAA qF6):=qC2
theorem ok_has_all (F:Fun K "has_all" "has_all" qF6 f fd) (qNS:mg "all" = none):FnOk P w K mg base CX0 1 f fd ["results","works"] qF3:=by
 refine F.okA qNZ fun cdv A outer s H vs Q E hr h=>?_;obtain ⟨la,r,lay,ns,rfl,hla,hns,l1,q⟩:=h;refine ⟨_,(qA7 (qAE (qA9 (qNP rfl) rfl qNS qTH (qA0 (qD7 rfl (lcs (own:=["work"]) (fv:=[0]) (by kernel_rfl)) (qKM (pv 1)) (fun z1=>qBQ 0) (fun z1=>qB8) (fun z1=>(qE2 (qW1 (K:=K) rfl) (pv 0) (pv 1) (by with_unfolding_all rfl)))) qA3)))),?_⟩
 try dsimp only [Cx.nox,Cx.wish,cxOf]
 refine ⟨_,rfl,r,rfl,⟨_,SqT.of hns⟩,fun p hp=>?_⟩;refine qIY (p:=p) (a:=r) (xs:=ns.map V.int) (fun i σ Hc=>∃ (v:Option V),σ=[v,some (.ref la)]/\Same H Hc/\Hc p=some (.lst (((ns.take i).map fun x=>decide (some x ∈ lay)).map V.bl))) ?_ ?_ ?_ ?_
 ·exact ⟨none,rfl,qA2 hp _,qA1⟩
 ·rintro i σ Hc hi ⟨v,rfl,sm,_⟩;exact SqT.of (sm _ _ hns)
 ·refine fun i x σ Hc hx hI_2=>opq fun G_2 hG_2=>?_;obtain ⟨v,rfl,sm,hpc⟩:=hI_2;obtain ⟨z,ez,rfl⟩:=qEV hx;refine hG_2 ?_;have hi:i<ns.length:=(List.getElem?_eq_some_iff.mp ez).1;refine ⟨_,rfl,_,rfl,la,_,rfl,.inr (SqT.of (sm _ _ hla)),rfl,qFH lay,_,hpc,qAM (by rw [List.length_map,List.length_map,List.length_take];lia),_,rfl,qAB sm hp,?_⟩
  rw [qA1];refine congrArg (fun l=>some (HO.lst l)) ?_;show _++[V.bl (inV (.int z) (lay.map oV))]=_;rw [qHN,List.take_add_one,ez,Option.toList_some,List.map_append,List.map_append]
  rfl
 ·refine fun σ Hc hI_3=>opq fun G_3 hG_3=>?_;obtain ⟨v,rfl,sm,hpc⟩:=hI_3;refine hG_3 ?_;rw [List.length_map,List.take_of_length_le (Nat.le_refl _)] at hpc;refine ⟨p,_,rfl,SqL.of hpc,?_⟩;rw [qUG];exact q Hc sm
theorem sc_fault_of_do:FnScope ["net","wides","sizes","layout","move","work","room"] ["net","wides","sizes","layout","move"] (qAA qCC):=qC2
theorem ok_fault_of_do (F:Fun K "fault_of_do" "fault_of_do" qCC f fd) (qD9:Clb P w K mg base 1 qFL qJ3 "has_all" ["results","works"] qF3):FnOk P w K mg base CX0 2 f fd ["net","wides","sizes","layout","move"] (spTh true):=by
 refine F.okA sc_fault_of_do fun cdv A outer s H vs Q E hr h=>?_;obtain ⟨a,wd,sz,la,mv,Af,wides,sizes,lay,m,ns,o,sv,wv,rfl,I,hdk,q⟩:=h;have hdk:=hdk rfl;refine ⟨_,(qA4 (qAD (i:=5) sc_fault_of_do.nd rfl (Or.inl rfl) (qB6 qAW (pv 4) qA6 (fun _ _=>rfl))) (qA4 (qAD (i:=6) sc_fault_of_do.nd rfl (Or.inl rfl) (qB6 qAW (pv 4) qA6 (fun _ _=>rfl))) (qA4 (qBE (qAI qHF (pv 5) (pv 3) (by with_unfolding_all rfl)) (qA7 (qAE qB0)) qAJ) (qA4 (qBE (qGA (qDT (qB3 qD9 hr rfl (qA0 (pv 3) (qA0 (qB6 qAW (pv 0) (pv 5) (fun _ _=>rfl)) qA3))))) (qA7 (qAE qB0)) qAJ) (qA4 (qBE (qCP (qJJ (qB6 qAW (pv 3) (pv 6) (fun _ _=>rfl)))) (qA7 (qAE qB0)) qAJ) (qA4 (qBE (qAI qPL (qB6 qAW (pv 2) (pv 6) (fun _ _=>rfl)) (qB6 qAW (pv 1) (pv 5) (fun _ _=>rfl)) (qAQ _)) (qA7 (qAE qB0)) qAJ) (qA7 (qAE qCZ)))))))),?_⟩
 try dsimp only [Cx.nox,Cx.wish,cxOf]
 have hmv:H mv=some (.tup [.str "do",.int m.wk,.int m.rm]):=by
  have:=I.move;unfold Mo.vs at this;rw [hdk] at this;exact this
 have q:∀ H',Same H H'->Q (thDo ns lay m.wk o sv wv) H':=fun H' sm=>by
  have:=q H' sm;unfold thW at this;rw [hdk] at this;exact this
 unfold thDo at q;obtain ⟨wk0,hns,lns,hwd⟩:=I.work hdk;refine ⟨_,rfl,mv,_,_,_,rfl,rfl,SqT.of hmv,rfl,?_⟩;refine ⟨_,rfl,mv,_,_,_,rfl,rfl,SqT.of hmv,rfl,?_⟩;refine ⟨_,rfl,_,rfl,la,_,rfl,.inr (SqT.of I.lay_),rfl,qFH lay,_,rfl,?_⟩;rw [qHN];by_cases c1:some m.wk ∈ lay
 ·rw [decide_eq_true c1];have q':=q H (.refl _);rw [if_pos c1] at q';exact q'
 rw [decide_eq_false c1];rw [if_neg c1] at q;obtain ⟨rs,r,h1,l1,h2,h3⟩:=I.net_.get hns;refine ⟨_,rfl,_,rfl,_,rfl,a,_,_,_,rfl,rfl,SqT.of h1,qDV wk0 h2,la,r,lay,ns,rfl,I.lay_,h3,lns,fun H1 sm1=>⟨_,rfl,?_⟩⟩;have I1:=I.same sm1;by_cases c2:∀ x ∈ ns,some x ∈ lay
 ·rw [decide_eq_true c2];rw [if_pos c2] at q;refine ⟨_,rfl,_,rfl,la,_,_,_,rfl,rfl,SqT.of I1.lay_,qDV I.rm0 (by rw [List.getElem?_map,I.at_];rfl),_,rfl,?_⟩
  cases o with
  | some y=>
   rw [decide_eq_false (show ¬ oV (some y)=V.non from fun z=>nomatch z)];exact q H1 sm1
  | none=>
   rw [decide_eq_true (show oV none=V.non from rfl)];have q':=q H1 sm1;dsimp only at q';refine ⟨_,rfl,_,rfl,sz,_,_,_,rfl,rfl,SqT.of I1.sizes_,qDV I.rm0 (by rw [List.getElem?_map,I.size];rfl),_,rfl,_,rfl,wd,_,_,_,rfl,rfl,SqT.of I1.wides_,qDV wk0 (by rw [List.getElem?_map,hwd];rfl),_,_,rfl,rfl,_,rfl,?_⟩
   refine ite2 (fun ck=>?_) (fun ck=>?_)
   ·rw [if_pos (of_decide_eq_true ck)] at q';exact q'
   ·rw [if_neg (of_decide_eq_false (Bool.eq_false_iff.mpr ck))] at q';exact q'
 ·rw [decide_eq_false c2];have q':=q H1 sm1;rw [if_neg c2] at q';exact q'
theorem qI5:FnScope ["net","wides","sizes","layout","move"] ["net","wides","sizes","layout","move"] (qAA qCB):=qC2
theorem ok_fault_there (F:Fun K "fault_there" "fault_there" qCB f fd) (qFT:Clb P w K mg base 2 qDM qIH "fault_of_do" ["net","wides","sizes","layout","move"] (spTh true)):FnOk P w K mg base CX0 3 f fd ["net","wides","sizes","layout","move"] (spTh false):=by
 refine F.okA qI5 fun cdv A outer s H vs Q E hr h=>?_;obtain ⟨a,wd,sz,la,mv,Af,wides,sizes,lay,m,ns,o,sv,wv,rfl,I,_,q⟩:=h;refine ⟨_,(qA4 (qBE (qAI qEL (qB6 qAW (pv 4) qA6 (fun _ _=>rfl)) qB0 (qAQ _)) (qA7 (qAE (qB3 qFT hr rfl (qA0 (pv 0) (qA0 (pv 1) (qA0 (pv 2) (qA0 (pv 3) (qA0 (pv 4) qA3)))))))) qAJ) (qA4 (qBE (qCP (qF7 (qB6 qAW (pv 3) (qB6 qAW (pv 4) qA6 (fun _ _=>rfl)) (fun _ _=>rfl)))) (qA7 (qAE qB0)) qAJ) (qA7 (qAE qCZ)))),?_⟩
 try dsimp only [Cx.nox,Cx.wish,cxOf]
 cases hdk:m.dk with
 | true=>
  have hmv:H mv=some (.tup [.str "do",.int m.wk,.int m.rm]):=by
   have:=I.move;unfold Mo.vs at this;rw [hdk] at this;exact this
  refine ⟨_,rfl,mv,_,_,_,rfl,rfl,SqT.of hmv,rfl,rfl,_,rfl,?_⟩;rw [decide_eq_true (rfl:V.str (Str.ofString "do")=V.str (Str.ofString "do"))]
  exact ⟨_,rfl,_,rfl,_,rfl,_,rfl,_,rfl,a,wd,sz,la,mv,Af,wides,sizes,lay,m,ns,o,sv,wv,rfl,I,fun _=>hdk,q⟩
 | false=>
  have hmv:H mv=some (.tup [.str "clear",.int m.rm]):=by
   have:=I.move;unfold Mo.vs at this;rw [hdk] at this;exact this
  have q':=q H (.refl _);unfold thW qRG at q';rw [hdk] at q';refine ⟨_,rfl,mv,_,_,_,rfl,rfl,SqT.of hmv,rfl,rfl,_,rfl,?_⟩;rw [decide_eq_false (show ¬ V.str (Str.ofString "clear")=V.str (Str.ofString "do") from fun z=>qBP (V.str.inj z))]
  refine ⟨_,rfl,_,rfl,mv,_,_,_,rfl,rfl,SqT.of hmv,rfl,la,_,_,_,rfl,rfl,SqT.of I.lay_,qDV I.rm0 (by rw [List.getElem?_map,I.at_];rfl),_,rfl,?_⟩
  cases o with
  | some y=>
   rw [decide_eq_false (show ¬ oV (some y)=V.non from fun z=>nomatch z)];exact q'
  | none=>
   rw [decide_eq_true (show oV none=V.non from rfl)];exact q'
theorem qUS {lay:List (Option Int)} {k:Nat} {o:Option Int} (h:k<lay.length):cutI lay none (some (k:Int))++[o]++cutI lay (some ((k:Int)+1)) none=lay.set k o:=by
 have e1:cutI lay none (some (k:Int))=lay.take k:=by
  unfold cutI;rw [HT.sIx_nat,HT.sIx_none,List.drop_zero,Nat.sub_zero,Nat.min_eq_left (Nat.le_of_lt h)]
 have e2:cutI lay (some ((k:Int)+1)) none=lay.drop (k+1):=by
  have:=qHW lay (k+1) h;rw [<- this];congr 1
 rw [e1,e2,List.set_eq_take_append_cons_drop,if_pos h,List.append_assoc]
 rfl
theorem qO9 {n k:Nat} (h:k<n):¬ (HT.sIx n 0 none=0/\HT.sIx n n (some (k:Int))=n):=fun z=>by
 have:=z.2;rw [HT.sIx_nat,Nat.min_eq_left (Nat.le_of_lt h)] at this
 lia
theorem qO8 {n k:Nat} (h:k<n):¬ (HT.sIx n 0 (some ((k:Int)+1))=0/\HT.sIx n n none=n):=fun z=>by
 have:=z.1;have e:((k:Int)+1)=((k+1:Nat):Int):=by lia
 rw [e,HT.sIx_nat,Nat.min_eq_left h] at this
 lia
theorem sc_layout_behind:FnScope ["layout","move","room","result"] ["layout","move"] (qAA qBR):=qC2
theorem ok_layout_behind (F:Fun K "layout_behind" "layout_behind" qBR f fd):FnOk P w K mg base CX0 1 f fd ["layout","move"] qKC:=by
 refine F.okA sc_layout_behind fun cdv A outer s H vs Q E hr h=>?_;obtain ⟨la,mv,lay,m,rfl,hla,hmv,rm0,rml,ll,q⟩:=h;refine ⟨_,(qA4 (qAD (i:=2) sc_layout_behind.nd rfl (Or.inl rfl) (qB6 qAW (pv 1) (qRW qML qA6) (fun _ _=>rfl))) (qA4 (qAD (i:=3) sc_layout_behind.nd rfl (Or.inl rfl) (qCF (qAI qEL (qB6 qAW (pv 1) qA6 (fun _ _=>rfl)) qB0 (qAQ _)) (qB6 qAW (pv 1) qA6 (fun _ _=>rfl)) qCZ)) (qA7 (qAE (qAR qJL (qAR qJL (qDH qMV (pv 0) qEP (qEO (pv 2))) (qC8 (qA0 (pv 3) qA3))) (qDH qMV (pv 0) (qEO (qAR qC9 (pv 2) qA6)) qEP)))))),?_⟩
 try dsimp only [Cx.nox,Cx.wish,cxOf]
 have lastx:atI m.vs (-1)=some (.int m.rm):=by unfold Mo.vs;cases m.dk <;> rfl
 refine ⟨_,rfl,_,rfl,mv,_,_,_,rfl,rfl,SqT.of hmv,lastx,?_⟩;have res:∀ (G:V->Prop),G (oV m.res)->∃ p xs k v,V.ref mv=V.ref p/\V.int 0=V.int k/\SqT K H p xs/\atI xs k=some v/\(scal v (V.str (Str.ofString "do"))=true/\∃ b,V.bl (decide (v=V.str (Str.ofString "do")))=V.bl b/\if b=true then ∃ v',([some (.ref la),some (.ref mv),some (.int m.rm),none]:St)[1]?=some (some v')/\∃ p xs k v,v'=V.ref p/\V.int 1=V.int k/\SqT K H p xs/\atI xs k=some v/\G v else G .non):=by
  intro G g;refine ⟨mv,_,_,_,rfl,rfl,SqT.of hmv,show atI m.vs 0=some (.str (match m.dk with | true=>"do" | false=>"clear")) from by unfold Mo.vs;cases m.dk <;> rfl,rfl,_,rfl,?_⟩
  unfold Mo.res at g;cases hdk:m.dk with
  | true=>
   rw [hdk] at g;rw [decide_eq_true (rfl:V.str (Str.ofString "do")=V.str (Str.ofString "do"))]
   exact ⟨_,rfl,mv,_,_,_,rfl,rfl,SqT.of hmv,show atI m.vs 1=some (.int m.wk) from by unfold Mo.vs;rw [hdk];rfl,g⟩
  | false=>
   rw [hdk] at g;rw [decide_eq_false (show ¬ V.str (Str.ofString "clear")=V.str (Str.ofString "do") from fun z=>qBP (V.str.inj z))]
   exact g
 refine ⟨_,rfl,res _ ?_⟩;have er:m.rm=((m.rm.toNat:Nat):Int):=by lia
 refine ⟨_,rfl,_,rfl,m.rm,rfl,la,_,rfl,SqT.of hla,by rw [List.length_map,er];exact qO9 rml,fun s1 hs1=>?_⟩
 rw [qDQ];have t1:=qA2 hs1 (.tup ((cutI lay none (some m.rm)).map oV));have l1:=qFN lay none (some m.rm);have l2:=qFN lay (some (m.rm+1)) none;refine ⟨_,rfl,(by show 1<=sizeLine;decide),fun s2 hs2=>?_⟩
 have t2:=qA2 hs2 (.tup [oV m.res]);refine ⟨s1,s2,(cutI lay none (some m.rm)).map oV,[oV m.res],rfl,rfl,SqT.of (t2 _ _ qA1),SqT.of qA1,.inr ⟨by simp,qA1⟩,Nat.le_of_lt (qAU (by rw [List.length_map,List.length_singleton];lia)),fun p H3 sm3 hp=>?_⟩
 have s3:=(t1.trans t2).trans sm3;refine ⟨_,rfl,_,rfl,_,_,rfl,rfl,m.rm+1,rfl,la,_,rfl,SqT.of (s3 _ _ hla),by rw [List.length_map,er];exact qO8 rml,fun s4 hs4=>?_⟩
 rw [qDQ];have t4:=qA2 hs4 (.tup ((cutI lay (some (m.rm+1)) none).map oV));refine ⟨p,s4,(cutI lay none (some m.rm)).map oV++[oV m.res],(cutI lay (some (m.rm+1)) none).map oV,rfl,rfl,SqT.of (t4 _ _ hp),SqT.of qA1,.inl ⟨by simp,t4 _ _ hp⟩,Nat.le_of_lt (qAU (by rw [List.length_append,List.length_map,List.length_map,List.length_singleton];lia)),fun r H5 sm5 hr5=>?_⟩
 refine q r H5 ((s3.trans t4).trans sm5) ?_;rw [hr5,<- qUS (o:=m.res) rml,<- er,List.map_append,List.map_append]
 rfl
theorem sc_Lfault:FnScope ["_law_net_here","_law_wides","_law_sizes","_law_layout","_law_move","_law_name","_law_work","_law_room"] ["_law_net_here","_law_wides","_law_sizes","_law_layout","_law_move"] (qAA qGQ):=qC2
theorem ok_Lfault (F:Fun K "_law_fault" "_law_fault" qGQ f fd):FnOk P w K mg base CX0 1 f fd ["_law_net_here","_law_wides","_law_sizes","_law_layout","_law_move"] (spTh false):=by
 refine F.okA sc_Lfault fun cdv A outer s H vs Q E hr h=>?_;obtain ⟨a,wd,sz,la,mv,Af,wides,sizes,lay,m,ns,o,sv,wv,rfl,I,_,q⟩:=h;have hu0:=hr.units0;refine ⟨_,(qA4 (qBE (qAI qEL (qB6 qAW (pv 4) qA6 (fun _ _=>rfl)) qB0 (qAQ _)) (qA7 (qAE (qCF (qCP (qF7 (qB6 qAW (pv 3) (qB6 qAW (pv 4) qA6 (fun _ _=>rfl)) (fun _ _=>rfl)))) qB0 qCZ))) qAJ) (qA4 (qP9 (pv 4) (qN5 rfl (qBO (qB9 (i:=5) sc_Lfault.nd rfl (Or.inl rfl)) (qBO (qB9 (i:=6) sc_Lfault.nd rfl (Or.inl rfl)) (qBO (qB9 (i:=7) sc_Lfault.nd rfl (Or.inl rfl)) qHB))))) (qA4 (qBE (qAI qHF (pv 6) (pv 3) (by with_unfolding_all rfl)) (qA7 (qAE qB0)) qAJ) (qA4 (qBE (qAI (qKS hu0) (qD7 rfl (lcs (own:=["_law_need"]) (fv:=[3]) (by kernel_rfl)) (qKM (qB6 qAW (pv 0) (pv 6) (fun _ _=>rfl))) (fun z1=>qBQ 0) (fun z1=>(qEN (qAI (qKR (K:=K) rfl) (pv 0) (pv 1) (by with_unfolding_all rfl)))) (fun z1=>(pv 0))) (qBB qA3) (qAQ _)) (qA7 (qAE qB0)) qAJ) (qA4 (qBE (qCP (qJJ (qB6 qAW (pv 3) (pv 7) (fun _ _=>rfl)))) (qA7 (qAE qB0)) qAJ) (qA7 (qAE (qCF (qAI qPM (qB6 qAW (pv 1) (pv 6) (fun _ _=>rfl)) (qB6 qAW (pv 2) (pv 7) (fun _ _=>rfl)) (qAQ _)) qB0 qCZ)))))))),?_⟩
 try dsimp only [Cx.nox,Cx.wish,cxOf]
 cases hdk:m.dk with
 | false=>
  have hmv:H mv=some (.tup [.str "clear",.int m.rm]):=by
   have:=I.move;unfold Mo.vs at this;rw [hdk] at this;exact this
  have q':=q H (.refl _);unfold thW qRG at q';rw [hdk] at q';refine ⟨_,rfl,mv,_,_,_,rfl,rfl,SqT.of hmv,rfl,rfl,_,rfl,?_⟩;rw [decide_eq_true (rfl:V.str (Str.ofString "clear")=V.str (Str.ofString "clear"))];refine ⟨_,rfl,_,rfl,mv,_,_,_,rfl,rfl,SqT.of hmv,rfl,la,_,_,_,rfl,rfl,SqT.of I.lay_,qDV I.rm0 (by rw [List.getElem?_map,I.at_];rfl),_,rfl,?_⟩
  cases o with
  | some y=>
   rw [decide_eq_false (show ¬ oV (some y)=V.non from fun z=>nomatch z)];exact q'
  | none=>
   rw [decide_eq_true (show oV none=V.non from rfl)];exact q'
 | true=>
  have hmv:H mv=some (.tup [.str "do",.int m.wk,.int m.rm]):=by
   have:=I.move;unfold Mo.vs at this;rw [hdk] at this;exact this
  have q:∀ H',Same H H'->Q (thDo ns lay m.wk o sv wv) H':=fun H' sm=>by
   have:=q H' sm;unfold thW at this;rw [hdk] at this;exact this
  unfold thDo at q;obtain ⟨wk0,hns,lns,hwd⟩:=I.work hdk;refine ⟨_,rfl,mv,_,_,_,rfl,rfl,SqT.of hmv,rfl,rfl,_,rfl,?_⟩;rw [decide_eq_false (show ¬ V.str (Str.ofString "do")=V.str (Str.ofString "clear") from fun z=>qBP (V.str.inj z).symm)]
  refine ⟨_,rfl,mv,_,rfl,SqT.of hmv,rfl,_,_,rfl,_,_,rfl,_,_,rfl,rfl,?_⟩;refine ⟨_,rfl,_,rfl,la,_,rfl,.inr (SqT.of I.lay_),rfl,qFH lay,_,rfl,?_⟩;rw [qHN];by_cases c1:some m.wk ∈ lay
  ·rw [decide_eq_true c1];have q':=q H (.refl _);rw [if_pos c1] at q';exact q'
  rw [decide_eq_false c1];rw [if_neg c1] at q;obtain ⟨rs,r,h1,l1,h2,h3⟩:=I.net_.get hns;refine ⟨_,rfl,_,rfl,a,_,_,_,rfl,rfl,SqT.of h1,qDV wk0 h2,r,rfl,⟨_,SqT.of h3⟩,fun p hp=>?_⟩;refine qIY (p:=p) (a:=r) (xs:=ns.map V.int) (fun i σ Hc=>∃ (v:Option V),σ=[v,some (.ref la)]/\Same H Hc/\Hc p=some (.lst (((ns.take i).filter fun x=>!decide (some x ∈ lay)).map V.int))) ?_ ?_ ?_ ?_
  ·exact ⟨none,rfl,qA2 hp _,qA1⟩
  ·rintro i σ Hc hi ⟨v,rfl,sm,_⟩;exact SqT.of (sm _ _ h3)
  ·refine fun i x σ Hc hx hI_2=>opq fun G_2 hG_2=>?_;obtain ⟨v,rfl,sm,hpc⟩:=hI_2;obtain ⟨z,ez,rfl⟩:=qEV hx;refine hG_2 ?_;have hi:i<ns.length:=(List.getElem?_eq_some_iff.mp ez).1;have lk:=qE5 (p:=fun x=>!decide (some x ∈ lay)) (l:=ns) (i:=i);refine ⟨_,rfl,_,rfl,la,_,rfl,.inr (SqT.of (sm _ _ I.lay_)),rfl,qFH lay,_,rfl,?_⟩;rw [qHN,qCT ez];by_cases e:some z ∈ lay
   ·rw [decide_eq_true e];refine ⟨_,rfl,sm,?_⟩;simpa using hpc
   ·rw [decide_eq_false e];refine ⟨_,rfl,_,hpc,qAM (by rw [List.length_map];lia),_,rfl,qAB sm hp,?_⟩
    rw [qA1,if_pos (show (!false)=true from rfl),List.map_append]
    rfl
  refine fun σ H1 hI_3=>opq fun G_3 hG_3=>?_;obtain ⟨v,rfl,sm1,hpc⟩:=hI_3;refine hG_3 ?_;rw [List.length_map,qGN rfl] at hpc;have I1:=I.same sm1;refine ⟨(by show 0<=sizeLine;decide),fun l0 hl0=>?_⟩
  have s0:=qA2 hl0 (.lst []);refine ⟨p,l0,_,rfl,rfl,SqL.of (s0 _ _ hpc),SqL.of qA1,_,rfl,?_⟩;have s1:=sm1.trans s0;have I2:=I.same s1;generalize Ah H1 l0 (.lst [])=H2 at s0 s1 I2 ⊢;by_cases c2:∀ x ∈ ns,some x ∈ lay
  ·have e:(ns.filter fun x=>!decide (some x ∈ lay))=[]:=by
    rw [List.filter_eq_nil_iff];intro x hx;simp [c2 x hx]
   rw [e];rw [if_pos c2] at q;refine ⟨_,rfl,_,rfl,la,_,_,_,rfl,rfl,SqT.of I2.lay_,qDV I.rm0 (by rw [List.getElem?_map,I.at_];rfl),_,rfl,?_⟩
   cases o with
   | some y=>
    rw [decide_eq_false (show ¬ oV (some y)=V.non from fun z=>nomatch z)];exact q H2 s1
   | none=>
    rw [decide_eq_true (show oV none=V.non from rfl)];have q':=q H2 s1;dsimp only at q';refine ⟨_,rfl,_,rfl,wd,_,_,_,rfl,rfl,SqT.of I2.wides_,qDV wk0 (by rw [List.getElem?_map,hwd];rfl),_,rfl,_,rfl,sz,_,_,_,rfl,rfl,SqT.of I2.sizes_,qDV I.rm0 (by rw [List.getElem?_map,I.size];rfl),_,_,rfl,rfl,_,rfl,?_⟩
    refine ite2 (fun ck=>?_) (fun ck=>?_)
    ·have ck':wv > sv:=of_decide_eq_true ck;rw [if_pos (show sv<wv from ck')] at q';exact q'
    ·have ck':¬ wv > sv:=of_decide_eq_false (Bool.eq_false_iff.mpr ck);rw [if_neg (show ¬ sv<wv from ck')] at q';exact q'
  ·have e:(ns.filter fun x=>!decide (some x ∈ lay)) ≠ []:=fun z=>c2 fun x hx=>by
    have:=(List.filter_eq_nil_iff.mp z) x hx;simpa using this
   have q':=q H2 s1;rw [if_neg c2] at q';cases hf:(ns.filter fun x=>!decide (some x ∈ lay)) with
   | nil=>exact absurd hf e
   | cons y ys=>exact q'
theorem qSP {lay:List (Option Int)} {k:Nat} {o:Option Int} (h:k<lay.length):cutI lay none (some (k:Int))++[o]++cutI lay (some ((k:Int)+1)) none=lay.set k o:=by
 have e1:cutI lay none (some (k:Int))=lay.take k:=by
  unfold cutI;rw [HT.sIx_nat,HT.sIx_none,List.drop_zero,Nat.sub_zero,Nat.min_eq_left (Nat.le_of_lt h)]
 have e2:cutI lay (some ((k:Int)+1)) none=lay.drop (k+1):=by
  have:=qHW lay (k+1) h;rw [<- this];congr 1
 rw [e1,e2,List.set_eq_take_append_cons_drop,if_pos h,List.append_assoc]
 rfl
theorem qO7 {n k:Nat} (h:k<n):¬ (HT.sIx n 0 none=0/\HT.sIx n n (some (k:Int))=n):=fun z=>by
 have:=z.2;rw [HT.sIx_nat,Nat.min_eq_left (Nat.le_of_lt h)] at this
 lia
theorem qO6 {n k:Nat} (h:k<n):¬ (HT.sIx n 0 (some ((k:Int)+1))=0/\HT.sIx n n none=n):=fun z=>by
 have:=z.1;have e:((k:Int)+1)=((k+1:Nat):Int):=by lia
 rw [e,HT.sIx_nat,Nat.min_eq_left h] at this
 lia
theorem sc_Lput:FnScope ["_law_layout","_law_move","_law_room","_law_work"] ["_law_layout","_law_move"] (qAA qMW):=qC2
theorem ok_Lput (F:Fun K "_law_put" "_law_put" qMW f fd):FnOk P w K mg base CX0 1 f fd ["_law_layout","_law_move"] qKC:=by
 refine F.okA sc_Lput fun cdv A outer s H vs Q E hr h=>?_;obtain ⟨la,mv,lay,m,rfl,hla,hmv,rm0,rml,ll,q⟩:=h;refine ⟨_,(qA4 (qAD (i:=2) sc_Lput.nd rfl (Or.inl rfl) (qB6 qAW (pv 1) (qRW qML qA6) (fun _ _=>rfl))) (qA4 (qAD (i:=3) sc_Lput.nd rfl (Or.inl rfl) (qCF (qAI qEL (qB6 qAW (pv 1) qA6 (fun _ _=>rfl)) qB0 (qAQ _)) (qB6 qAW (pv 1) qA6 (fun _ _=>rfl)) qCZ)) (qA7 (qAE (qAR qJL (qAR qJL (qDH qMV (pv 0) qEP (qEO (pv 2))) (qC8 (qA0 (pv 3) qA3))) (qDH qMV (pv 0) (qEO (qAR qC9 (pv 2) qA6)) qEP)))))),?_⟩
 try dsimp only [Cx.nox,Cx.wish,cxOf]
 have lastx:atI m.vs (-1)=some (.int m.rm):=by unfold Mo.vs;cases m.dk <;> rfl
 refine ⟨_,rfl,_,rfl,mv,_,_,_,rfl,rfl,SqT.of hmv,lastx,?_⟩;have res:∀ (G:V->Prop),G (oV m.res)->∃ p xs k v,V.ref mv=V.ref p/\V.int 0=V.int k/\SqT K H p xs/\atI xs k=some v/\(scal v (V.str (Str.ofString "do"))=true/\∃ b,V.bl (decide (v=V.str (Str.ofString "do")))=V.bl b/\if b=true then ∃ v',([some (.ref la),some (.ref mv),some (.int m.rm),none]:St)[1]?=some (some v')/\∃ p xs k v,v'=V.ref p/\V.int 1=V.int k/\SqT K H p xs/\atI xs k=some v/\G v else G .non):=by
  intro G g;refine ⟨mv,_,_,_,rfl,rfl,SqT.of hmv,show atI m.vs 0=some (.str (match m.dk with | true=>"do" | false=>"clear")) from by unfold Mo.vs;cases m.dk <;> rfl,rfl,_,rfl,?_⟩
  unfold Mo.res at g;cases hdk:m.dk with
  | true=>
   rw [hdk] at g;rw [decide_eq_true (rfl:V.str (Str.ofString "do")=V.str (Str.ofString "do"))]
   exact ⟨_,rfl,mv,_,_,_,rfl,rfl,SqT.of hmv,show atI m.vs 1=some (.int m.wk) from by unfold Mo.vs;rw [hdk];rfl,g⟩
  | false=>
   rw [hdk] at g;rw [decide_eq_false (show ¬ V.str (Str.ofString "clear")=V.str (Str.ofString "do") from fun z=>qBP (V.str.inj z))]
   exact g
 refine ⟨_,rfl,res _ ?_⟩;have er:m.rm=((m.rm.toNat:Nat):Int):=by lia
 refine ⟨_,rfl,_,rfl,m.rm,rfl,la,_,rfl,SqT.of hla,by rw [List.length_map,er];exact qO7 rml,fun s1 hs1=>?_⟩
 rw [qDQ];have t1:=qA2 hs1 (.tup ((cutI lay none (some m.rm)).map oV));have l1:=qFN lay none (some m.rm);have l2:=qFN lay (some (m.rm+1)) none;refine ⟨_,rfl,(by show 1<=sizeLine;decide),fun s2 hs2=>?_⟩
 have t2:=qA2 hs2 (.tup [oV m.res]);refine ⟨s1,s2,(cutI lay none (some m.rm)).map oV,[oV m.res],rfl,rfl,SqT.of (t2 _ _ qA1),SqT.of qA1,.inr ⟨by simp,qA1⟩,Nat.le_of_lt (qAU (by rw [List.length_map,List.length_singleton];lia)),fun p H3 sm3 hp=>?_⟩
 have s3:=(t1.trans t2).trans sm3;refine ⟨_,rfl,_,rfl,_,_,rfl,rfl,m.rm+1,rfl,la,_,rfl,SqT.of (s3 _ _ hla),by rw [List.length_map,er];exact qO6 rml,fun s4 hs4=>?_⟩
 rw [qDQ];have t4:=qA2 hs4 (.tup ((cutI lay (some (m.rm+1)) none).map oV));refine ⟨p,s4,(cutI lay none (some m.rm)).map oV++[oV m.res],(cutI lay (some (m.rm+1)) none).map oV,rfl,rfl,SqT.of (t4 _ _ hp),SqT.of qA1,.inl ⟨by simp,t4 _ _ hp⟩,Nat.le_of_lt (qAU (by rw [List.length_append,List.length_map,List.length_map,List.length_singleton];lia)),fun r H5 sm5 hr5=>?_⟩
 refine q r H5 ((s3.trans t4).trans sm5) ?_;rw [hr5,<- qSP (o:=m.res) rml,<- er,List.map_append,List.map_append]
 rfl
theorem qH9 (j:Nat):qAS 0 ((j+1:Nat):Int)=qAS 0 (j:Int)++[0+(j:Int)]:=by
 unfold qAS;rw [show ((((j+1:Nat):Int) - 0).toNat)=j+1 from by lia,show (((j:Int) - 0).toNat)=j from by lia,List.range_succ,List.map_append]
 rfl
theorem qJ6 (n:Int) (j:Nat):qBN n ((j+1:Nat):Int)=qBN n (j:Int)++(((qAS 0 n).map fun wk=>⟨true,wk,0+(j:Int)⟩)++[⟨false,0,0+(j:Int)⟩]):=by
 unfold qBN;rw [qH9,List.flatMap_append];simp
theorem qR5 (n:Int) (j:Nat):(qBN n (j:Int)).length=j * (n.toNat+1):=by
 induction j with
 | zero=>show (qBN n (0:Int)).length=0 * (n.toNat+1);simp [qBN,qAS]
 | succ j ih=>rw [qJ6,List.length_append,ih,List.length_append,List.length_map,qBI,List.length_singleton,Nat.succ_mul];lia
theorem sc_Lall_moves:FnScope ["_law_net_here","_law_sizes","_law_found","_law_room"] ["_law_net_here","_law_sizes"] (qAA qCY):=qC2
theorem ok_Lall_moves (F:Fun K "_law_all_moves" "_law_all_moves" qCY f fd) (qAV:mg "range" = none) (qBF:mg "len" = none):FnOk P w K mg base CX0 1 f fd ["_law_net_here","_law_sizes"] qLW:=by
 refine F.okA sc_Lall_moves fun cdv A outer s H vs Q E hr h=>?_;obtain ⟨a,sz,Af,sizes,rfl,hN,n6,hsz,k5,q⟩:=h;refine ⟨_,(qA4 (qAD (i:=2) sc_Lall_moves.nd rfl (Or.inl rfl) (qBB qA3)) (qA4 (qD6 PassesOwn.never rfl (qAY rfl qAV (qA0 (qA9 qAC rfl qBF qBL (qA0 (pv 1) qA3)) qA3)) (qB9 (i:=3) sc_Lall_moves.nd rfl (Or.inr rfl)) (qA7 (qC4 (qI8 PySem.F.plainAttrs_list PySem.F.slot_list_extend PySem.F.type_list_extend qKV (pv 2) (qA0 (qAR qN8 (qD7 rfl (lcs (own:=["_law_work"]) (fv:=[3]) (by kernel_rfl)) (qAY rfl qAV (qA0 (qA9 qAC rfl qBF qBL (qA0 (pv 0) qA3)) qA3)) (fun z1=>qBQ 0) (fun z1=>qB8) (fun z1=>(qC8 (qA0 qB0 (qA0 (pv 0) (qA0 (pv 1) qA3)))))) (qBB (qA0 (qC8 (qA0 qB0 (qA0 (pv 3) qA3))) qA3))) qA3))))) (qA7 (qAE (pv 2))))),?_⟩
 try dsimp only [Cx.nox,Cx.wish,cxOf]
 refine ⟨(by show 0<=sizeLine;decide),fun l hl=>?_⟩
 have sl:=qA2 hl (.lst []);have lsz:(((sizes.map V.int).length:Nat):Int)=(sizes.length:Int):=by rw [List.length_map]
 refine ⟨_,rfl,sz,_,rfl,.inr (SqT.of (sl _ _ hsz)),_,rfl,by rw [lsz];lia,by rw [lsz];lia,qC3 (lo:=0) (n:=((((sizes.map V.int).length:Nat):Int)).toNat) (fun i σ Hc=>∃ (v:Option V),σ=[some (.ref a),some (.ref sz),some (.ref l),v]/\Same H Hc/\qWY Hc l (qBN (Af.length:Int) (i:Int)))
  ⟨none,rfl,sl,[],qA1,.nil⟩ ?_ ?_⟩
 ·refine fun i σ Hc hi hI_1=>opq fun G_1 hG_1=>?_;obtain ⟨v,rfl,sm,rs0,hl0,M0⟩:=hI_1;refine hG_1 ?_;rw [lsz] at hi;have lrs0:=Paired.length M0;rw [qR5] at lrs0;have lb:rs0.length<=5 * 7:=by
   rw [lrs0];exact Nat.mul_le_mul (by lia) (by lia)
  obtain ⟨rs,hA,NL⟩:=(hN.same sm);have lrv:(((rs.map V.ref).length:Nat):Int)=(Af.length:Int):=by rw [List.length_map,Paired.length NL]
  refine ⟨_,rfl,.inl ⟨rfl,_,SqL.of hl0⟩,_,rfl,a,_,rfl,.inr (SqT.of hA),_,rfl,by rw [lrv];lia,by rw [lrv];lia,fun p hp=>?_⟩
  refine qCG (p:=p) (lo:=0) (n:=((((rs.map V.ref).length:Nat):Int)).toNat) (fun j σ Hz=>∃ (v:Option V) (fs:List Addr),σ=[v,some (.int (0+(i:Int)))]/\Same Hc Hz/\Hz p=some (.lst (fs.map V.ref))/\MosL Hz fs ((qAS 0 (j:Int)).map fun x=>⟨true,x,0+(i:Int)⟩)) ?_ ?_ ?_
  ·exact ⟨none,[],rfl,qA2 hp _,qA1,.nil⟩
  ·refine fun j σ Hz hj hI_2=>opq fun G_2 hG_2=>?_;obtain ⟨v,fs,rfl,smz,gp,Mz⟩:=hI_2;refine hG_2 ?_;rw [lrv] at hj;have lfs:=Paired.length Mz;rw [List.length_map,qBI] at lfs;refine ⟨_,rfl,_,rfl,(by show 3<=sizeLine;decide),fun T hT=>?_⟩
   have sT:=qA2 hT (.tup [.str "do",.int (0+(j:Int)),.int (0+(i:Int))])
   refine ⟨_,sT _ _ gp,qAU (by rw [List.length_map];lia),_,fs++[T],rfl,qAB (smz.trans sT) hp,by rw [qA1,qAX],?_⟩
   rw [qH9,List.map_append];exact MosL.put (Paired.snoc (MosL.same Mz sT) (show (Ah Hz T (.tup [.str "do",.int (0+(j:Int)),.int (0+(i:Int))])) T=some (.tup (Mo.vs ⟨true,0+(j:Int),0+(i:Int)⟩)) from qA1)) (sT _ _ gp)
  ·refine fun σ Hz hI_3=>opq fun G_3 hG_3=>?_;obtain ⟨v,fs,rfl,smz,gp,Mz⟩:=hI_3;refine hG_3 ?_;have em:((((((rs.map V.ref).length:Nat):Int)).toNat:Nat):Int)=(Af.length:Int):=by rw [lrv];lia
   rw [em] at Mz;have lfs:=Paired.length Mz;rw [List.length_map,qBI] at lfs;refine ⟨_,rfl,(by show 2<=sizeLine;decide),fun T hT=>⟨(by show 1<=sizeLine;decide),fun l1 hl1=>?_⟩⟩
   have sT:=qA2 hT (.tup [.str "clear",.int (0+(i:Int))]);have s1:=qA2 hl1 (.lst [.ref T]);have gT:(Ah Hz T (.tup [.str "clear",.int (0+(i:Int))])) T=some (.tup (Mo.vs ⟨false,0,0+(i:Int)⟩)):=qA1;refine ⟨p,l1,_,_,rfl,rfl,s1 _ _ (sT _ _ gp),qA1,Nat.le_of_lt (qAU (by rw [List.length_map,List.length_singleton];lia)),fun l2 hl2=>?_⟩
   have s2:=qA2 hl2 (.lst (fs.map V.ref++[.ref T]));have sA:=(sT.trans s1).trans s2;have g2:(Ah (Ah (Ah Hz T (.tup [.str "clear",.int (0+(i:Int))])) l1 (.lst [.ref T])) l2 (.lst (fs.map V.ref++[.ref T]))) l2=some (.lst ((fs++[T]).map V.ref)):=by rw [qA1,qAX]
   have gT2:=(s1.trans s2) _ _ gT;generalize Ah (Ah (Ah Hz T (.tup [.str "clear",.int (0+(i:Int))])) l1 (.lst [.ref T])) l2 (.lst (fs.map V.ref++[.ref T]))=Hy at sA g2 gT2 ⊢;have sAll:=smz.trans sA;refine ⟨l,l2,_,_,rfl,rfl,sAll _ _ hl0,g2,Nat.le_of_lt (qAU (by rw [List.length_map,List.length_map,List.length_append,List.length_singleton];lia)),?_⟩
   refine ⟨_,rfl,?_,rs0++(fs++[T]),by rw [qA1];exact congrArg (fun l=>some (HO.lst l)) (List.map_append ..).symm,?_⟩
   ·exact qAB (sm.trans sAll) hl
   ·rw [qJ6];exact (MosL.put (qFY (MosL.same M0 sAll) (qFY (MosL.same Mz sA) (.cons gT2 .nil))) (sAll _ _ hl0))
 ·refine fun σ Hc hI_4=>opq fun G_4 hG_4=>?_;obtain ⟨v,rfl,sm,hM⟩:=hI_4;refine hG_4 ?_;have em:((((((sizes.map V.int).length:Nat):Int)).toNat:Nat):Int)=(sizes.length:Int):=by rw [lsz];lia
  rw [em] at hM;exact ⟨_,rfl,q l Hc sm hl hM⟩
theorem qVS (b:Bool):∃ m:Int,atI [V.int 5,V.int 3] (if b then 1 else 0)=some (.int m)/\1<=m/\m<=5:=by
 cases b
 ·exact ⟨_,rfl,by decide,by decide⟩
 ·exact ⟨_,rfl,by decide,by decide⟩
theorem qRT {k:Int} (h0:0<=k) (h1:k<4):∃ m:Int,atI [V.int 1,V.int 2,V.int 4,V.int 9] k=some (.int m)/\1<=m/\m<=9:=by
 rcases (by lia:k=0\/k=1\/k=2\/k=3) with rfl | rfl | rfl | rfl
 ·exact ⟨_,rfl,by decide,by decide⟩
 ·exact ⟨_,rfl,by decide,by decide⟩
 ·exact ⟨_,rfl,by decide,by decide⟩
 ·exact ⟨_,rfl,by decide,by decide⟩
theorem sc_Lthere:FnScope ["_law_state","_law_many","_law_net_here","_law_rooms","_law_most","_law_wides","_law_sizes"] ["_law_state"] (qAA qGO):=qC2
theorem ok_Lthere (F:Fun K "_law_there" "_law_there" qGO f fd) (qBA:Clb P w K mg base 1 qEY qFJ "_law_take" ["_law_state","_law_many"] qIP) (qTK:Clb P w K mg base 3 qQM qUK "_law_net" ["_law_state","_law_many"] qVH) (qAV:mg "range" = none) (qJB:mg "int" = none) (qAT:mg "tuple" = none) (qFU:mg "min" = none):FnOk P w K mg base CX0 4 f fd ["_law_state"] qMN:=by
 refine F.okA sc_Lthere fun cdv A outer s H vs Q E hr h=>?_;obtain ⟨d,c,t,ns,rfl,S,ht,q⟩:=h;have ht':t<=1000000000 - 20000:=ht;refine ⟨_,(qA4 (qAD (i:=1) sc_Lthere.nd rfl (Or.inl rfl) (qAR qC9 qA6 (qB3 qBA hr rfl (qA0 (pv 0) (qA0 qA6 qA3))))) (qA4 (qAD (i:=2) sc_Lthere.nd rfl (Or.inl rfl) (qB3 qTK hr rfl (qA0 (pv 0) (qA0 (pv 1) qA3)))) (qA4 (qAD (i:=3) sc_Lthere.nd rfl (Or.inl rfl) (qAR qC9 qA6 (qB3 qBA hr rfl (qA0 (pv 0) (qA0 (qB6 qEU (qBB (qA0 qA6 (qA0 qA6 qA3))) (qAF qHY rfl qJB qNR (qA0 (qE2 qPM (pv 1) qA6 (qAQ _)) qA3)) (fun _ _=>rfl)) qA3))))) (qA4 (qP8 (qBE (PW.pt (qT0 (qAI qPM (pv 1) qA6 (qAQ _)) (qP7 (qAI qEL (qB3 qBA hr rfl (qA0 (pv 0) (qA0 qA6 qA3))) qA6 (qAQ _))))) (qA7 (qAD (i:=3) sc_Lthere.nd rfl (Or.inl rfl) qA6)) qAJ)) (qA4 (qAD (i:=4) sc_Lthere.nd rfl (Or.inr rfl) (qB6 qEU (qBB (qA0 qA6 (qA0 qA6 (qA0 qA6 (qA0 qA6 qA3))))) (qB3 qBA hr rfl (qA0 (pv 0) (qA0 qA6 qA3))) (fun _ _=>rfl))) (qA4 (qAD (i:=5) sc_Lthere.nd rfl (Or.inl rfl) (qAF qAN rfl qAT qB2 (qA0 (qD7 rfl (lcs (own:=["_law_k"]) (fv:=[0,4]) (by kernel_rfl)) (qAY rfl qAV (qA0 (pv 1) qA3)) (fun z1=>qBQ 0) (fun z1=>qB8) (fun z1=>(qAR qC9 qA6 (qB3 qBA hr rfl (qA0 (pv 1) (qA0 (pv 2) qA3)))))) qA3))) (qA4 (qKK (i:=6) sc_Lthere.nd rfl rfl rfl (lcs (own:=["_law_k"]) (fv:=[0,4]) (by kernel_rfl)) (qAY rfl qAV (qA0 (pv 3) qA3)) (fun z2=>qBQ 0) (fun z2=>qB8) (fun z2=>(qAR qC9 qA6 (qB3 qBA hr rfl (qA0 (pv 1) (qA0 (pv 2) qA3))))) (by kernel_rfl)) (qA4 (qP8 (qBE (qAI qEL (qB3 qBA hr rfl (qA0 (pv 0) (qA0 qA6 qA3))) qA6 (qAQ _)) (qA7 (qKK (i:=6) sc_Lthere.nd rfl rfl rfl (lcs (own:=["_law_size"]) (fv:=[4]) (by kernel_rfl)) (qBV (pv 6)) (fun z3=>qBQ 0) (fun z3=>qB8) (fun z3=>(qA9 (qFP rfl) rfl qFU qHZ (qA0 qA6 (qA0 (qAR qC9 (pv 0) (qAR qJK (pv 1) qA6)) qA3)))) (by kernel_rfl))) qAJ)) (qA7 (qAE (qC8 (qA0 (pv 2) (qA0 (pv 5) (qA0 (qAF qAN rfl qAT qB2 (qA0 (pv 6) qA3)) qA3)))))))))))))),?_⟩
 try dsimp only [Cx.nox,Cx.wish,cxOf]
 refine ⟨_,rfl,d,c,t,ns,6,rfl,S,(by show t<=1000000000;lia),by decide,by decide,fun m0 ns1 H1 a0 a1 S1 K1=>⟨_,_,rfl,rfl,?_⟩⟩
 have mb:1<=1+m0/\1+m0<=6:=by lia
 dsimp only;generalize 1+m0=many at mb ⊢;refine ⟨_,rfl,_,rfl,d,c,t+1,ns1,many,rfl,S1,(by show t+1<=1000000000 - 10000;lia),by lia,by lia,fun a Af t2 ns2 H2 S2 g1 g2 K2 hN wf nl=>?_⟩
 refine ⟨_,rfl,(by show 2<=sizeLine;decide),fun p0 hp0=>?_⟩
 have s0:=qA2 hp0 (.lst [.int 5,.int 3]);have n0:p0 ≠ d/\p0 ≠ c:=⟨(qA5 S2.dict hp0).symm,(qA5 S2.list hp0).symm⟩;refine ⟨_,rfl,_,_,rfl,rfl,.inr ⟨_,rfl,?_⟩⟩;obtain ⟨k53,hk53,k1,k2⟩:=qVS (decide (many > 4));refine ⟨p0,_,_,_,rfl,rfl,SqL.of qA1,hk53,?_⟩;refine ⟨d,c,t2,ns2,k53,rfl,S2.same s0,(by show t2<=1000000000;lia),k1,by lia,fun r0 ns3 H3 b0 b1 S3 K3=>⟨_,_,rfl,rfl,?_⟩⟩
 have hN3:=(hN.same s0).keep (S2.same s0) K3;have kA:=(K1.trans K2).trans ((Keep.of_same s0).trans K3);clear hk53;refine ⟨fun σ Hc=>∃ (Aa t':Int) (ns':List Int),σ=[some (.ref d),some (.int many),some (.ref a),some (.int Aa),none,none,none]/\StAt Hc d c t' ns'/\t<=t'/\t'<=t+100/\NetAt Hc a Af/\1<=Aa/\Aa<=5/\Keep d c H Hc,?_,?_⟩
 ·refine ⟨_,rfl,_,_,rfl,rfl,_,rfl,?_⟩;refine ite2 (fun _=>?_) (fun _=>?_)
  ·refine ⟨_,rfl,d,c,t2+1,ns3,6,rfl,S3,(by show t2+1<=1000000000;lia),by decide,by decide,fun k6 ns4 H4 c0 c1 S4 K4=>⟨rfl,_,rfl,?_⟩⟩
   refine ite2 (fun _=>?_) (fun _=>?_)
   ·exact ⟨4,t2+1+1,ns4,rfl,S4,by lia,by lia,hN3.keep S3 K4,by decide,by decide,kA.trans K4⟩
   ·exact ⟨1+r0,t2+1+1,ns4,rfl,S4,by lia,by lia,hN3.keep S3 K4,by lia,by lia,kA.trans K4⟩
  ·exact ⟨1+r0,t2+1,ns3,rfl,S3,by lia,by lia,hN3,by lia,by lia,kA⟩
 refine fun σ H4 hI_1=>opq fun G_1 hG_1=>?_;obtain ⟨Aa,t4,ns4,rfl,S4,g3,g4,hN4,r1,r5,kB⟩:=hI_1;refine hG_1 ?_;clear kA hN3 S3 K3 hN s0 n0 hp0 S2 K2;refine ⟨(by show 4<=sizeLine;decide),fun p0 hp0=>?_⟩
 have s0:=qA2 hp0 (.lst [.int 1,.int 2,.int 4,.int 9]);have n0:p0 ≠ d/\p0 ≠ c:=⟨(qA5 S4.dict hp0).symm,(qA5 S4.list hp0).symm⟩;refine ⟨_,rfl,d,c,t4,ns4,4,rfl,S4.same s0,(by show t4<=1000000000;lia),by decide,by decide,fun k4 ns5 H5 c0 c1 S5 K5=>?_⟩
 obtain ⟨most,hmost,mo1,mo9⟩:=qRT c0 c1;refine ⟨p0,_,_,_,rfl,rfl,SqL.of (K5 _ _ qA1 n0.1 n0.2),hmost,?_⟩;have hN5:=(hN4.same s0).keep (S4.same s0) K5;have kB:=kB.trans ((Keep.of_same s0).trans K5);clear hmost K5 n0 s0 hp0 S4 hN4
 -- widths
 refine ⟨_,rfl,_,rfl,by lia,by lia,fun p hp=>?_⟩
 have np:p ≠ d/\p ≠ c:=⟨(qA5 S5.dict hp).symm,(qA5 S5.list hp).symm⟩;refine qCG (p:=p) (lo:=0) (n:=many.toNat) (fun i σ Hc=>∃ (v:Option V) (fs ns':List Int),σ=[v,some (.ref d),some (.int most)]/\StAt Hc d c (t4+1+i) ns'/\Keep d c H5 Hc/\Hc p=some (.lst (fs.map V.int))/\fs.length=i/\∀ x ∈ fs,0<=x/\x<=99) ?_ ?_ ?_
 ·exact ⟨none,[],ns5,rfl,by have:=S5.same (qA2 hp (.lst []));simpa using this,qBZ hp _,qA1,rfl,fun _ z=>nomatch z⟩
 ·refine fun i σ Hc hi hI_2=>opq fun G_2 hG_2=>?_;obtain ⟨v,fs,ns',rfl,S6,K6,gp,lf,inf⟩:=hI_2;refine hG_2 ?_;refine ⟨_,rfl,_,rfl,d,c,t4+1+i,ns',most,rfl,S6,(by show t4+1+(i:Int)<=1000000000;lia),mo1,by lia,fun x ns7 H7 w0 w1 S7 K7=>⟨_,_,rfl,rfl,?_⟩⟩
  have gp7:=K7 _ _ gp np.1 np.2;refine ⟨_,gp7,qAU (by rw [List.length_map];lia),_,fs++[1+x],ns7,rfl,?_,qGW (K6.trans K7) hp,?_,by rw [List.length_append,List.length_singleton];lia,fun y hy=>?_⟩
  ·have e:t4+1+(i:Int)+1=t4+1+((i+1:Nat):Int):=by lia
   rw [e] at S7;exact ⟨by rw [qA8 np.1.symm];exact S7.dict,by rw [qA8 np.2.symm];exact S7.list,S7.ne,S7.len,S7.pos⟩
  ·rw [qA1,List.map_append];rfl
  ·rcases List.mem_append.mp hy with hy | hy
   ·exact inf y hy
   ·rw [List.mem_singleton.mp hy];lia
 refine fun σ H6 hI_3=>opq fun G_3 hG_3=>?_;obtain ⟨v,wides,ns6,rfl,S6,K6,gp,lw,w9⟩:=hI_3;refine hG_3 ?_;refine ⟨p,_,rfl,.inl ⟨SqL.of gp,fun wd hwd=>?_⟩⟩;have sw:=qA2 hwd (.tup (wides.map V.int));have gwd:(Ah H6 wd (.tup (wides.map V.int))) wd=some (.tup (wides.map V.int)):=qA1;have S7:=S6.same sw;have hN7:=(hN5.keep S5 K6).same sw;have kC:=(kB.trans K6).trans (Keep.of_same sw);generalize Ah H6 wd (.tup (wides.map V.int))=H7 at sw gwd S7 hN7 kC ⊢;clear kB sw hwd gp K6 S6 np hp S5 hN5
 -- sizes
 refine ⟨_,rfl,_,rfl,by lia,by lia,fun p hp=>?_⟩
 have np:p ≠ d/\p ≠ c:=⟨(qA5 S7.dict hp).symm,(qA5 S7.list hp).symm⟩;refine qCG (p:=p) (lo:=0) (n:=Aa.toNat) (fun i σ Hc=>∃ (v:Option V) (fs ns':List Int),σ=[v,some (.ref d),some (.int most)]/\StAt Hc d c (t4+1+many.toNat+i) ns'/\Keep d c H7 Hc/\Hc p=some (.lst (fs.map V.int))/\fs.length=i/\∀ x ∈ fs,0<=x/\x<=9) ?_ ?_ ?_
 ·exact ⟨none,[],ns6,rfl,by have:=S7.same (qA2 hp (.lst []));simpa using this,qBZ hp _,qA1,rfl,fun _ z=>nomatch z⟩
 ·refine fun i σ Hc hi hI_4=>opq fun G_4 hG_4=>?_;obtain ⟨v,fs,ns',rfl,S8,K8,gp,lf,inf⟩:=hI_4;refine hG_4 ?_;refine ⟨_,rfl,_,rfl,d,c,t4+1+many.toNat+i,ns',most,rfl,S8,(by show t4+1+(many.toNat:Int)+(i:Int)<=1000000000;lia),mo1,by lia,fun x ns9 H9 w0 w1 S9 K9=>⟨_,_,rfl,rfl,?_⟩⟩
  have gp9:=K9 _ _ gp np.1 np.2;refine ⟨_,gp9,qAU (by rw [List.length_map];lia),_,fs++[1+x],ns9,rfl,?_,qGW (K8.trans K9) hp,?_,by rw [List.length_append,List.length_singleton];lia,fun y hy=>?_⟩
  ·have e:t4+1+(many.toNat:Int)+(i:Int)+1=t4+1+(many.toNat:Int)+((i+1:Nat):Int):=by lia
   rw [e] at S9;exact ⟨by rw [qA8 np.1.symm];exact S9.dict,by rw [qA8 np.2.symm];exact S9.list,S9.ne,S9.len,S9.pos⟩
  ·rw [qA1,List.map_append];rfl
  ·rcases List.mem_append.mp hy with hy | hy
   ·exact inf y hy
   ·rw [List.mem_singleton.mp hy];lia
 refine fun σ H8 hI_5=>opq fun G_5 hG_5=>?_;obtain ⟨v,fs,ns8,rfl,S8,K8,gp,lf,inf⟩:=hI_5;refine hG_5 ?_;have gwd8:=K8 _ _ gwd (S7.tup gwd).1 (S7.tup gwd).2;have hN8:=hN7.keep S7 K8;have kD:=kC.trans K8;refine ⟨fun σ Hc=>∃ (ns':List Int) (p:Addr) (sizes:List Int),σ=[some (.ref d),some (.int many),some (.ref a),some (.int Aa),some (.int most),some (.ref wd),some (.ref p)]/\StAt Hc d c (t4+1+many.toNat+Aa.toNat+1) ns'/\NetAt Hc a Af/\Hc wd=some (.tup (wides.map V.int))/\Hc p=some (.lst (sizes.map V.int))/\sizes.length=Aa.toNat/\Keep d c H Hc/\∀ x ∈ sizes,0<=x/\x<=99,?_,?_⟩
 ·refine ⟨_,rfl,d,c,_,ns8,2,rfl,S8,(by show t4+1+(many.toNat:Int)+(Aa.toNat:Int)<=1000000000;lia),by decide,by decide,fun k2' ns9 H9 d0 d1 S9 K9=>⟨rfl,_,rfl,?_⟩⟩
  have gp9:=K9 _ _ gp np.1 np.2;have gwd9:=K9 _ _ gwd8 (S8.tup gwd8).1 (S8.tup gwd8).2;have hN9:=hN8.keep S8 K9;refine ite2 (fun _=>?_) (fun _=>?_)
  ·refine ⟨_,rfl,p,rfl,⟨_,SqL.of gp9⟩,fun p2 hp2=>?_⟩;refine qE4 (p:=p2) (a:=p) (xs:=fs.map V.int) (fun i σ Hc=>∃ (v:Option V) (gs:List Int),σ=[v,some (.int most)]/\Same H9 Hc/\Hc p2=some (.lst (gs.map V.int))/\gs.length=i/\∀ x ∈ gs,0<=x/\x<=99) ?_ ?_ ?_ ?_
   ·exact ⟨none,[],rfl,qA2 hp2 _,qA1,rfl,fun _ z=>nomatch z⟩
   ·rintro i σ Hc hi ⟨v,gs,rfl,sm,_⟩;exact SqL.of (sm _ _ gp9)
   ·refine fun i x σ Hc hx hI_7=>opq fun G_7 hG_7=>?_;obtain ⟨v,gs,rfl,sm,gp2,lg,ing⟩:=hI_7;obtain ⟨z,ez,rfl⟩:=qEV hx;refine hG_7 ?_;have zi:=inf z (List.mem_of_getElem? ez);have hi:=(List.getElem?_eq_some_iff.mp ez).1;refine ⟨_,rfl,_,rfl,_,_,rfl,rfl,⟨by decide,by decide⟩,_,_,rfl,rfl,_,_,rfl,?_⟩
    dsimp only;refine ⟨_,gp2,qAU (by rw [List.length_map];lia),_,gs++[_],rfl,qAB sm hp2,(by rw [qA1,List.map_append];rfl),by rw [List.length_append,List.length_singleton];lia,fun y hy=>?_⟩
    rcases List.mem_append.mp hy with hy | hy
    ·exact ing y hy
    ·rw [List.mem_singleton.mp hy]
     split <;> lia
   ·refine fun σ Hc hI_8=>opq fun G_8 hG_8=>?_;obtain ⟨v,gs,rfl,sm,gp2,lg,ing⟩:=hI_8;refine hG_8 ?_;rw [List.length_map] at lg;exact ⟨ns9,p2,gs,rfl,S9.same sm,hN9.same sm,sm _ _ gwd9,gp2,by lia,(kD.trans K9).trans (Keep.of_same sm),ing⟩
  ·exact ⟨ns9,p,fs,rfl,S9,hN9,gwd9,gp9,lf,kD.trans K9,fun x hx=>by have:=inf x hx;lia⟩
 refine fun σ H9 hI_9=>opq fun G_9 hG_9=>?_;obtain ⟨ns9,p3,sizes,rfl,S9,hN9,gwd9,gp9,ls,kE,s9⟩:=hI_9;refine hG_9 ?_;refine ⟨_,rfl,_,rfl,_,rfl,p3,_,rfl,.inl ⟨SqL.of gp9,fun sz hsz=>⟨(by show 3<=sizeLine;decide),fun T hT=>?_⟩⟩⟩
 have s1:=qA2 hsz (.tup (sizes.map V.int));have s2:=qA2 hT (.tup [.ref a,.ref wd,.ref sz]);have s3:=s1.trans s2;exact q T a wd sz Af wides sizes _ ns9 _ (S9.same s3) (by lia) (by lia) (kE.trans (Keep.of_same s3)) qA1 ⟨hN9.same s3,wf,by lia,by lia,s3 _ _ gwd9,by lia,w9,s2 _ _ qA1,by lia,by lia,s9⟩
theorem qJF (j:Nat):qAS 0 ((j+1:Nat):Int)=qAS 0 (j:Int)++[0+(j:Int)]:=by
 unfold qAS;rw [show ((((j+1:Nat):Int) - 0).toNat)=j+1 from by lia,show (((j:Int) - 0).toNat)=j from by lia,List.range_succ,List.map_append]
 rfl
def prM (k:Int) (j:Nat):List Mo:=((qAS 0 k).map fun rm=>⟨false,0,rm⟩)++(qAS 0 (j:Int)).flatMap fun wk=>(qAS 0 k).map fun rm=>⟨true,wk,rm⟩
theorem qN3 (k:Int) (j:Nat):prM k (j+1)=prM k j++(qAS 0 k).map fun rm=>⟨true,0+(j:Int),rm⟩:=by
 unfold prM;rw [qJF,List.flatMap_append,List.append_assoc];simp
theorem qPA (k j:Nat):(prM (k:Int) j).length=k * (j+1):=by
 induction j with
 | zero=>unfold prM;rw [List.length_append,List.length_map,qBI];simp [qAS]
 | succ j ih=>rw [qN3,List.length_append,ih,List.length_map,qBI,Nat.mul_succ k (j+1)];lia
theorem sc_moves_there:FnScope ["net","wides","sizes","layout","moves","work"] ["net","wides","sizes","layout"] (qAA qCA):=qC2
theorem ok_moves_there (F:Fun K "moves_there" "moves_there" qCA f fd) (qFS:Clb P w K mg base 3 qDL qIG "fault_there" ["net","wides","sizes","layout","move"] (spTh false)) (qAV:mg "range" = none) (qBF:mg "len" = none):FnOk P w K mg base CX0 4 f fd ["net","wides","sizes","layout"] qMR:=by
 refine F.okA sc_moves_there fun cdv A outer s H vs Q E hr h=>?_;obtain ⟨a,wd,sz,la,Af,wides,sizes,lay,rfl,T,hla,ll,q⟩:=h;have qR7:Room 3 _:=hr;refine ⟨_,(qA4 (qKK (i:=4) sc_moves_there.nd rfl rfl rfl (lcs (own:=["room"]) (fv:=[]) (by kernel_rfl)) (qAY rfl qAV (qA0 (qA9 qAC rfl qBF qBL (qA0 (pv 2) qA3)) qA3)) (fun z1=>qBQ 0) (fun z1=>qB8) (fun z1=>(qC8 (qA0 qB0 (qA0 (pv 0) qA3)))) (by kernel_rfl)) (qA4 (qD6 PassesOwn.never rfl (qAY rfl qAV (qA0 (qA9 qAC rfl qBF qBL (qA0 (pv 0) qA3)) qA3)) (qB9 (i:=5) sc_moves_there.nd rfl (Or.inr rfl)) (qA7 (qC4 (qI8 PySem.F.plainAttrs_list PySem.F.slot_list_extend PySem.F.type_list_extend qKV (pv 4) (qA0 (qD7 rfl (lcs (own:=["room"]) (fv:=[5]) (by kernel_rfl)) (qAY rfl qAV (qA0 (qA9 qAC rfl qBF qBL (qA0 (pv 2) qA3)) qA3)) (fun z2=>qBQ 0) (fun z2=>qB8) (fun z2=>(qC8 (qA0 qB0 (qA0 (pv 1) (qA0 (pv 0) qA3)))))) qA3))))) (qA7 (qAE (qD7 rfl (lcs (own:=["move"]) (fv:=[0,1,2,3]) (by kernel_rfl)) (qBV (pv 4)) (fun z3=>qBQ 0) (fun z3=>(qEN (qCP (qF7 (qB3 qFS hr rfl (qA0 (pv 1) (qA0 (pv 2) (qA0 (pv 3) (qA0 (pv 4) (qA0 (pv 0) qA3)))))))))) (fun z3=>(pv 0))))))),?_⟩
 try dsimp only [Cx.nox,Cx.wish,cxOf]
 have lsz:(((sizes.map V.int).length:Nat):Int)=(sizes.length:Int):=by rw [List.length_map]
 have k5:=T.k5;have n6:=T.n6;refine ⟨_,rfl,sz,_,rfl,.inr (SqT.of T.sizes_),_,rfl,by rw [lsz];lia,by rw [lsz];lia,fun l hl=>?_⟩
 refine qCG (p:=l) (lo:=0) (n:=((((sizes.map V.int).length:Nat):Int)).toNat) (fun j σ Hz=>∃ (v:Option V) (fs:List Addr),σ=[v]/\Same H Hz/\Hz l=some (.lst (fs.map V.ref))/\MosL Hz fs ((qAS 0 (j:Int)).map fun x=>⟨false,0,x⟩)) ?_ ?_ ?_
 ·exact ⟨none,[],rfl,qA2 hl _,qA1,.nil⟩
 ·refine fun j σ Hz hj hI_1=>opq fun G_1 hG_1=>?_;obtain ⟨v,fs,rfl,smz,gp,Mz⟩:=hI_1;refine hG_1 ?_;rw [lsz] at hj;have lfs:=Paired.length Mz;rw [List.length_map,qBI] at lfs;refine ⟨_,rfl,(by show 2<=sizeLine;decide),fun T hT=>?_⟩
  have sT:=qA2 hT (.tup [.str "clear",.int (0+(j:Int))]);refine ⟨_,sT _ _ gp,qAU (by rw [List.length_map];lia),_,fs++[T],rfl,qAB (smz.trans sT) hl,by rw [qA1,qAX],?_⟩
  rw [qJF,List.map_append];exact MosL.put (Paired.snoc (MosL.same Mz sT) (show (Ah Hz T (.tup [.str "clear",.int (0+(j:Int))])) T=some (.tup (Mo.vs ⟨false,0,0+(j:Int)⟩)) from qA1)) (sT _ _ gp)
 refine fun σ Hz hI_2=>opq fun G_2 hG_2=>?_;obtain ⟨v,fs0,rfl,sm0,gl0,M0⟩:=hI_2;refine hG_2 ?_;have em:((((((sizes.map V.int).length:Nat):Int)).toNat:Nat):Int)=(sizes.length:Int):=by rw [lsz];lia
 rw [em] at M0;have M0:MosL Hz fs0 (prM (sizes.length:Int) 0):=by
  have:prM (sizes.length:Int) 0=(qAS 0 (sizes.length:Int)).map fun x=>⟨false,0,x⟩:=by unfold prM;simp [qAS]
  rw [this];exact M0
 obtain ⟨rs,hA,NL⟩:=T.net_.same sm0;have lrv:(((rs.map V.ref).length:Nat):Int)=(Af.length:Int):=by rw [List.length_map,Paired.length NL]
 refine ⟨_,rfl,a,_,rfl,.inr (SqT.of hA),_,rfl,by rw [lrv];lia,by rw [lrv];lia,qC3 (lo:=0) (n:=((((rs.map V.ref).length:Nat):Int)).toNat) (fun i σ Hc=>∃ (v:Option V) (fs:List Addr),σ=[some (.ref a),some (.ref wd),some (.ref sz),some (.ref la),some (.ref l),v]/\Same H Hc/\Hc l=some (.lst (fs.map V.ref))/\MosL Hc fs (prM (sizes.length:Int) i))
  ⟨none,fs0,rfl,sm0,gl0,M0⟩ ?_ ?_⟩
 ·clear sm0 gl0 M0 hA NL;refine fun i σ Hc hi hI_3=>opq fun G_3 hG_3=>?_;obtain ⟨v,fs,rfl,sm,gl,M⟩:=hI_3;refine hG_3 ?_;rw [lrv] at hi;have lfs:=Paired.length M;rw [qPA] at lfs;have lb:fs.length<=5 * 7:=by
   rw [lfs];exact Nat.mul_le_mul (by lia) (by lia)
  refine ⟨_,rfl,.inl ⟨rfl,_,SqL.of gl⟩,_,rfl,sz,_,rfl,.inr (SqT.of (sm _ _ T.sizes_)),_,rfl,by rw [lsz];lia,by rw [lsz];lia,fun p hp=>?_⟩
  refine qCG (p:=p) (lo:=0) (n:=((((sizes.map V.int).length:Nat):Int)).toNat) (fun j σ Hz=>∃ (v:Option V) (es:List Addr),σ=[v,some (.int (0+(i:Int)))]/\Same Hc Hz/\Hz p=some (.lst (es.map V.ref))/\MosL Hz es ((qAS 0 (j:Int)).map fun x=>⟨true,0+(i:Int),x⟩)) ?_ ?_ ?_
  ·exact ⟨none,[],rfl,qA2 hp _,qA1,.nil⟩
  ·refine fun j σ Hz hj hI_4=>opq fun G_4 hG_4=>?_;obtain ⟨v,es,rfl,smz,gp,Mz⟩:=hI_4;refine hG_4 ?_;rw [lsz] at hj;have les:=Paired.length Mz;rw [List.length_map,qBI] at les;refine ⟨_,rfl,_,rfl,(by show 3<=sizeLine;decide),fun T hT=>?_⟩
   have sT:=qA2 hT (.tup [.str "do",.int (0+(i:Int)),.int (0+(j:Int))])
   refine ⟨_,sT _ _ gp,qAU (by rw [List.length_map];lia),_,es++[T],rfl,qAB (smz.trans sT) hp,by rw [qA1,qAX],?_⟩
   rw [qJF,List.map_append];exact MosL.put (Paired.snoc (MosL.same Mz sT) (show (Ah Hz T (.tup [.str "do",.int (0+(i:Int)),.int (0+(j:Int))])) T=some (.tup (Mo.vs ⟨true,0+(i:Int),0+(j:Int)⟩)) from qA1)) (sT _ _ gp)
  ·refine fun σ Hz hI_5=>opq fun G_5 hG_5=>?_;obtain ⟨v,es,rfl,smz,gp,Mz⟩:=hI_5;refine hG_5 ?_;rw [em] at Mz;have les:=Paired.length Mz;rw [List.length_map,qBI] at les;refine ⟨l,p,_,_,rfl,rfl,smz _ _ gl,gp,Nat.le_of_lt (qAU (by rw [List.length_map,List.length_map];lia)),?_⟩
   refine ⟨_,fs++es,rfl,qAB (sm.trans smz) hl,by rw [qA1];exact congrArg (fun l=>some (HO.lst l)) (List.map_append ..).symm,?_⟩
   rw [qN3];exact MosL.put (qFY (MosL.same M smz) Mz) (smz _ _ gl)
 ·clear sm0 gl0 M0 hA NL;refine fun σ Hc hI_6=>opq fun G_6 hG_6=>?_;obtain ⟨v,fs,rfl,sm,gl,M⟩:=hI_6;refine hG_6 ?_;have en:(((((rs.map V.ref).length:Nat):Int)).toNat)=Af.length:=by rw [lrv];lia
  rw [en] at M;have M:MosL Hc fs (prMo (Af.length:Int) (sizes.length:Int)):=M;have T2:=T.same sm;have lfs:=Paired.length M;have lp:(prMo (Af.length:Int) (sizes.length:Int)).length=sizes.length * (Af.length+1):=qPA sizes.length Af.length;have lb:fs.length<=5 * 7:=by
   rw [lfs,lp];exact Nat.mul_le_mul (by lia) (by lia)
  refine ⟨_,rfl,l,rfl,⟨_,SqL.of gl⟩,fun p hp=>?_⟩;refine qE4 (p:=p) (a:=l) (xs:=fs.map V.ref) (fun i σ Hz=>∃ (v:Option V) (es:List Addr),σ=[v,some (.ref a),some (.ref wd),some (.ref sz),some (.ref la)]/\Same Hc Hz/\Hz p=some (.lst (es.map V.ref))/\MosL Hz es (((prMo (Af.length:Int) (sizes.length:Int)).take i).filter fun m=>decide (fwO Af wides sizes lay m=.non))) ?_ ?_ ?_ ?_
  ·exact ⟨none,[],rfl,qA2 hp _,qA1,.nil⟩
  ·rintro i σ Hz hi ⟨v,es,rfl,smz,_⟩;exact SqL.of (smz _ _ gl)
  ·refine fun i x σ Hz hx hI_8=>opq fun G_8 hG_8=>?_;obtain ⟨v,es,rfl,smz,gp,Mz⟩:=hI_8;obtain ⟨mv,hmv,rfl⟩:=qBG hx;obtain ⟨m,hm,gm⟩:=qAG M hmv;refine hG_8 ?_;have lk:=qJT (p:=fun m=>decide (fwO Af wides sizes lay m=.non)) (l:=prMo (Af.length:Int) (sizes.length:Int)) (i:=i);have les:=Paired.length Mz;have hi:=(List.getElem?_eq_some_iff.mp hmv).1;obtain ⟨b1,b2⟩:=mem_prMo.mp (List.mem_of_getElem? hm);obtain ⟨ns,o,sv,wv,TI,ef⟩:=(T.same (sm.trans smz)).tinO (smz _ _ (sm _ _ hla)) ll (smz _ _ gm) (qIW (List.mem_of_getElem? hm));refine ⟨_,rfl,_,rfl,_,rfl,_,rfl,_,rfl,a,wd,sz,la,mv,Af,wides,sizes,lay,m,ns,o,sv,wv,rfl,TI,(fun e=>nomatch e),fun H4 s4=>?_⟩;rw [<- ef,qCT hm];have s5:=smz.trans s4;refine ⟨_,rfl,?_⟩;by_cases c:fwO Af wides sizes lay m=.non
   ·rw [decide_eq_true c];refine ⟨_,rfl,_,s4 _ _ gp,qAU (by rw [List.length_map];lia),_,es++[mv],rfl,qAB s5 hp,by rw [qA1,qAX],?_⟩
    rw [if_pos rfl];exact MosL.put (Paired.snoc (MosL.same Mz s4) (s5 _ _ gm)) (s4 _ _ gp)
   ·rw [decide_eq_false c];refine ⟨_,es,rfl,s5,s4 _ _ gp,?_⟩;rw [if_neg Bool.false_ne_true,List.append_nil];exact MosL.same Mz s4
  ·refine fun σ Hz hI_9=>opq fun G_9 hG_9=>?_;obtain ⟨v,es,rfl,smz,gp,Mz⟩:=hI_9;refine hG_9 ?_;rw [List.length_map,lfs,List.take_of_length_le (Nat.le_refl _)] at Mz;exact q p es Hz (sm.trans smz) (sm.free hp) gp Mz
theorem qM0:FnScope ["plan"] ["plan"] (qAA qEB):=qC2
theorem ok_steps_of (F:Fun K "steps_of" "steps_of" qEB f fd) (qBF:mg "len" = none):FnOk P w K mg base CX0 1 f fd ["plan"] qMO:=by
 refine F.okA qM0 fun cdv A outer s H vs Q E hr h=>?_;obtain ⟨l,rs,ms,rfl,hl,M,l10,q⟩:=h;refine ⟨_,(qA7 (qAE (qA9 qAC rfl qBF qBL (qA0 (qD7 rfl (lcs (own:=["move"]) (fv:=[]) (by kernel_rfl)) (qBV (pv 0)) (fun z4=>qBQ 0) (fun z4=>(qEN (qAI qEL (qB6 (qMD (K:=K) rfl) (pv 0) qA6 (fun _ _=>rfl)) qB0 (qAQ _)))) (fun z4=>(pv 0))) qA3)))),?_⟩
 try dsimp only [Cx.nox,Cx.wish,cxOf]
 have lrs:=Paired.length M;refine ⟨_,rfl,l,rfl,⟨_,SqL.of hl⟩,fun p hp=>?_⟩;refine qE4 (p:=p) (a:=l) (xs:=rs.map V.ref) (fun i σ Hc=>∃ (v:Option V) (fs:List Addr),σ=[v]/\Same H Hc/\Hc p=some (.lst (fs.map V.ref))/\fs.length=((ms.take i).filter fun m=>m.dk).length) ?_ ?_ ?_ ?_
 ·exact ⟨none,[],rfl,qA2 hp _,qA1,rfl⟩
 ·rintro i σ Hc hi ⟨v,fs,rfl,sm,_⟩;exact SqL.of (sm _ _ hl)
 ·refine fun i x σ Hc hx hI_11=>opq fun G_11 hG_11=>?_;obtain ⟨v,fs,rfl,sm,hpc,lf⟩:=hI_11;obtain ⟨mv,hmv,rfl⟩:=qBG hx;obtain ⟨m,hm,hH⟩:=qAG M hmv;refine hG_11 ?_;have hi:=(List.getElem?_eq_some_iff.mp hm).1;have lk:=qJT (p:=fun m:Mo=>m.dk) (l:=ms) (i:=i);refine ⟨_,rfl,mv,_,_,_,rfl,rfl,SqT.of (sm _ _ hH),show atI m.vs 0=some (.str (match m.dk with | true=>"do" | false=>"clear")) from by unfold Mo.vs;cases m.dk <;> rfl,rfl,_,rfl,?_⟩
  rw [qCT hm];cases hdk:m.dk with
  | true=>
   rw [decide_eq_true (rfl:V.str (Str.ofString "do")=V.str (Str.ofString "do"))]
   refine ⟨_,rfl,_,hpc,qAU (by rw [List.length_map];lia),_,fs++[mv],rfl,qAB sm hp,by rw [qA1,qAX],?_⟩
   rw [if_pos rfl,List.length_append,List.length_append,lf];rfl
  | false=>
   rw [decide_eq_false (show ¬ V.str (Str.ofString "clear")=V.str (Str.ofString "do") from fun z=>qBP (V.str.inj z))]
   refine ⟨_,fs,rfl,sm,hpc,?_⟩;rw [if_neg Bool.false_ne_true,List.append_nil,lf]
 refine fun σ Hc hI_12=>opq fun G_12 hG_12=>?_;obtain ⟨v,fs,rfl,sm,hpc,lf⟩:=hI_12;refine hG_12 ?_;rw [List.length_map,lrs,qGN rfl] at lf;refine ⟨p,_,rfl,.inl (SqL.of hpc),?_⟩;have e:(((fs.map V.ref).length:Nat):Int)=(dosO ms:Int):=by rw [List.length_map,lf];rfl
 rw [e];exact q Hc sm
theorem sc_layouts_reached:FnScope ["net","wides","sizes","start","reached","due","later","layout","move","further"] ["net","wides","sizes"] (qAA qBH):=qC2
theorem ok_layouts_reached (F:Fun K "layouts_reached" "layouts_reached" qBH f fd) (qFR:Clb P w K mg base 4 qDK qIE "moves_there" ["net","wides","sizes","layout"] qMR) (qEA:Clb P w K mg base 1 qCU qGM "layout_behind" ["layout","move"] qKC) (qJ8:Clb P w K mg base 1 qG2 qMG "steps_of" ["plan"] qMO) (qBF:mg "len" = none):FnOk P w K mg base CX0 5 f fd ["net","wides","sizes"] qMQ:=by
 refine F.okA sc_layouts_reached fun cdv A outer s H vs Q E hr h=>?_;obtain ⟨a,wd,sz,Af,wides,sizes,rfl,T,q⟩:=h;have hu:=qME hr;refine ⟨_,(qA4 (qAD (i:=3) sc_layouts_reached.nd rfl (Or.inl rfl) (qAR qM6 (qC8 (qA0 qCZ qA3)) (qA9 qAC rfl qBF qBL (qA0 (pv 2) qA3)))) (qA4 (qAD (i:=4) sc_layouts_reached.nd rfl (Or.inl rfl) (qKN hu (pv 3) (qC8 (qA0 qA6 (qA0 qCZ (qA0 qCZ qA3)))))) (qA4 (qAD (i:=5) sc_layouts_reached.nd rfl (Or.inl rfl) (qBB (qA0 (pv 3) qA3))) (qA4 (qGU PassesOwn.never (qN2 (pv 5) (fun _=>rfl)) (qA4 (qAD (i:=6) sc_layouts_reached.nd rfl (Or.inl rfl) (qBB qA3)) (qA4 (qD6 PassesOwn.never rfl (qBV (pv 5)) (qB9 (i:=7) sc_layouts_reached.nd rfl (Or.inl rfl)) (qA7 (qD6 PassesOwn.never rfl (qBV (qB3 qFR hr rfl (qA0 (pv 0) (qA0 (pv 1) (qA0 (pv 2) (qA0 (pv 7) qA3)))))) (qB9 (i:=8) sc_layouts_reached.nd rfl (Or.inl rfl)) (qA4 (qAD (i:=9) sc_layouts_reached.nd rfl (Or.inl rfl) (qB3 qEA hr rfl (qA0 (pv 7) (qA0 (pv 8) qA3)))) (qA7 (qBE (qCP (qHC hu (pv 9) (pv 4))) (qA4 (qJH hu (pv 4) (pv 9) (qC8 (qA0 (qAR qC9 (qB6 qAW (qCQ hu (pv 4) (pv 7) (fun _ _=>rfl)) qA6 (fun _ _=>rfl)) (qB3 qJ8 hr rfl (qA0 (qBB (qA0 (pv 8) qA3)) qA3))) (qA0 (pv 7) (qA0 (pv 8) qA3)))) rfl) (qA7 (qC4 (qI8 PySem.F.plainAttrs_list PySem.F.slot_list_append PySem.F.type_list_append qBS (pv 6) (qA0 (pv 9) qA3))))) qAJ)))))) (qA7 (qAD (i:=5) sc_layouts_reached.nd rfl (Or.inl rfl) (pv 6)))))) (qA7 (qAE (qPH (pv 4)))))))),?_⟩
 try dsimp only [Cx.nox,Cx.wish,cxOf]
 have k1:=T.k1;have k5:=T.k5;have n6:=T.n6;have pw:(Af.length+1) ^ sizes.length<=16807:=Nat.le_trans (Nat.pow_le_pow_left (show Af.length+1<=7 by lia) _) (Nat.pow_le_pow_right (show 0<7 by decide) k5)
 have lsz:(((sizes.map V.int).length:Nat):Int)=(sizes.length:Int):=by rw [List.length_map]
 refine ⟨(by show 1<=sizeLine;decide),fun t1 ht1=>?_⟩
 have s1:=qA2 ht1 (.tup [.non]);refine ⟨_,rfl,sz,_,rfl,.inr (SqT.of (s1 _ _ T.sizes_)),?_⟩;rw [lsz];refine qFV qA1 k1 (by lia) fun st H1 sm1 gst=>?_
 have s1:=s1.trans sm1;generalize Ah H t1 (.tup [.non])=H0 at sm1;clear sm1 ht1 H0;intro rd hrd;refine ⟨_,rfl,(by show 3<=sizeLine;decide),fun v0 hv0=>?_⟩
 have s2:=qA2 hrd (.dT []);have s3:=qA2 hv0 (.tup [.int 0,.non,.non]);have hrd0:H rd=none:=s1.free hrd;have sA:=s1.trans (s2.trans s3);have g1:(Ah (Ah H1 rd (.dT [])) v0 (.tup [.int 0,.non,.non])) rd=some (.dT []):=s3 _ _ qA1;have g2:(Ah (Ah H1 rd (.dT [])) v0 (.tup [.int 0,.non,.non])) st=some (.tup ((l0 sizes).map oV)):=s3 _ _ (s2 _ _ gst);have g3:(Ah (Ah H1 rd (.dT [])) v0 (.tup [.int 0,.non,.non])) v0=some (.tup [.int ((0:Nat):Int),.non,.non]):=qA1;generalize Ah (Ah H1 rd (.dT [])) v0 (.tup [.int 0,.non,.non])=H2 at g1 g2 g3 sA;clear s2 s3 hv0 hrd gst s1;refine ⟨g1,st,keyO (l0 sizes),rfl,by rw [qBD];exact g2,?_⟩
 have ent:EntO H2 [(keyO (l0 sizes),.ref v0)] [l0 sizes] (fun _=>0) (fun _=>none):=.cons ⟨rfl,v0,rfl,g3⟩ .nil;have ent:=ent.put (u:=.dT [(keyO (l0 sizes),.ref v0)]) g1 (fun xs z=>by cases z)
 have g2:=qDE (u:=.dT [(keyO (l0 sizes),.ref v0)]) g2 g1 (fun xs z=>by cases z)
 have sB:Same H (Ah H2 rd (.dT [(keyO (l0 sizes),.ref v0)])):=qAB sA hrd0;have g4:(Ah H2 rd (.dT [(keyO (l0 sizes),.ref v0)])) rd=some (.dT [(keyO (l0 sizes),.ref v0)]):=qA1;generalize Ah H2 rd (.dT [(keyO (l0 sizes),.ref v0)])=H3 at ent g2 sB g4;clear g1 g3 sA;refine ⟨_,rfl,(by show 1<=sizeLine;decide),fun du hdu=>?_⟩
 have s6:=qA2 hdu (.lst [.ref st]);have sC:=sB.trans s6;have entC:=ent.same s6;have g5:=s6 _ _ g4;have g6:(Ah H3 du (.lst [.ref st])) du=some (.lst ([st].map V.ref)):=qA1;have g7:LaysAt (Ah H3 du (.lst [.ref st])) [st] [l0 sizes]:=.cons (s6 _ _ g2) .nil;generalize Ah H3 du (.lst [.ref st])=H4 at sC entC g5 g6 g7;clear ent g2 sB g4 s6 hdu;refine ⟨fun m σ Hc=>∃ (du:Addr) (dr:List Addr) (due ks:List La) (f:La->Nat) (g:La->PrO) (Ag:KvO) (t:Nat) (v6 v7 v8 v9:Option V),σ=[some (.ref a),some (.ref wd),some (.ref sz),some (.ref st),some (.ref rd),some (.ref du),v6,v7,v8,v9]/\m=(16807 - ks.length) * 2+(if due=[] then 0 else 1)/\Same H Hc/\Hc rd=some (.dT Ag)/\EntO Hc Ag ks f g/\PvO Af wides sizes ks f g/\Hc du=some (.lst (dr.map V.ref))/\LaysAt Hc dr due/\BFO Af wides sizes t ks due [] f 0 0,
  ⟨_,du,[st],[l0 sizes],[l0 sizes],fun _=>0,fun _=>none,_,0,none,none,none,none,rfl,rfl,sC,g5,entC,PvO.start,g6,g7,BFO.start⟩,?_⟩
 clear sC g5 entC g6 g7;refine fun m σ Hc hI_1=>opq fun G_1 hG_1=>?_;obtain ⟨du,dr,due,ks,f,g,Ag,t,v6,v7,v8,v9,rfl,rfl,sm,grd,ent,pv,gdu,SD,B⟩:=hI_1;refine hG_1 ?_;refine ⟨_,rfl,_,.inl ⟨_,SqL.of gdu,rfl⟩,?_⟩;have ldr:dr.length=due.length:=Paired.length SD;by_cases hz:due=[]
 ·subst hz;have:dr=[]:=List.length_eq_zero_iff.mp ldr;subst this;refine iteF ?_;exact ⟨_,rfl,rd,Ag,rfl,grd,fun o=>q rd o Ag ks f g _ (qAB sm hrd0) hrd0 qA1 (ent.put grd fun xs z=>by cases z) B.rch pv⟩
 ·have ne:(!(dr.map V.ref).isEmpty)=true:=by
   cases dr with
   | nil=>exact absurd (List.length_eq_zero_iff.mp ldr.symm) hz
   | cons _ _=>rfl
  dsimp only;rw [if_pos ne];have lk0:=B.len;have ln:=ent.len;refine qRZ fun N0 hN0=>?_;refine ⟨(by show 0<=sizeLine;decide),fun ll hll=>?_⟩
  have s7:=qA2 hll (.lst []);have fll:H ll=none:=sm.free hll;have nll:ll ≠ rd/\ll ≠ du:=⟨(qA5 grd hll).symm,(qA5 gdu hll).symm⟩;have nrdu:rd ≠ du:=qCR grd gdu (by intro z;cases z)
  obtain ⟨k0,hk0⟩:∃ k0,k0=ks.length:=⟨_,rfl⟩;rw [<- hk0] at hN0;refine ⟨_,rfl,du,rfl,⟨_,SqL.of (s7 _ _ gdu)⟩,qFG (a:=du) (xs:=dr.map V.ref) (fun i σ Hd=>∃ (lr:List Addr) (ly ks:List La) (f:La->Nat) (g:La->PrO) (Ag:KvO) (v7 v8 v9:Option V),σ=[some (.ref a),some (.ref wd),some (.ref sz),some (.ref st),some (.ref rd),some (.ref du),some (.ref ll),v7,v8,v9]/\Same H Hd/\Hd rd=some (.dT Ag)/\EntO Hd Ag ks f g/\PvO Af wides sizes ks f g/\Hd du=some (.lst (dr.map V.ref))/\LaysAt Hd dr due/\Hd ll=some (.lst (lr.map V.ref))/\LaysAt Hd lr ly/\BFO Af wides sizes t ks due ly f i 0/\ks.length=k0+ly.length)
   ⟨[],[],ks,f,g,Ag,v7,v8,v9,rfl,sm.trans s7,s7 _ _ grd,ent.same s7,pv,s7 _ _ gdu,SD.same s7,qA1,.nil,B,hk0.symm⟩ (by rintro i σ Hd _ ⟨_,_,_,_,_,_,_,_,_,_,_,_,_,_,z,_⟩;exact SqL.of z) ?_ ?_⟩
  ·clear s7 grd ent gdu SD B sm ln lk0 hk0 pv;refine fun i x σ Hd hx hI_2 N1 hN1=>opq fun G_2 hG_2=>?_;obtain ⟨lr,ly,ks,f,g,Ag,v7,v8,v9,rfl,sm,grd,ent,pv,gdu,SD,gll,SL,B,lks⟩:=hI_2;obtain ⟨sr,hsr,rfl⟩:=qBG hx;obtain ⟨lay,hst,gst⟩:=qAG SD hsr;refine hG_2 ?_;have P:=((B.duem lay).mp (List.mem_of_getElem? hst)).1;have hsk:lay ∈ ks:=B.full t lay (Nat.le_refl _) P;have ll5:=P.len;refine ⟨_,rfl,_,rfl,_,rfl,_,rfl,a,wd,sz,sr,Af,wides,sizes,lay,rfl,T.same sm,gst,ll5,fun l rs H5 s3 fl gl ML=>?_⟩;have lrs:rs.length=(nxO Af wides sizes lay).length:=Paired.length ML;refine ⟨l,rfl,⟨_,SqL.of gl⟩,qFG (a:=l) (xs:=rs.map V.ref) (fun k σ Hd=>∃ (lr:List Addr) (ly ks:List La) (f:La->Nat) (g:La->PrO) (Ag:KvO) (v8 v9:Option V),σ=[some (.ref a),some (.ref wd),some (.ref sz),some (.ref st),some (.ref rd),some (.ref du),some (.ref ll),some (.ref sr),v8,v9]/\Same H Hd/\Hd rd=some (.dT Ag)/\EntO Hd Ag ks f g/\PvO Af wides sizes ks f g/\Hd du=some (.lst (dr.map V.ref))/\LaysAt Hd dr due/\Hd ll=some (.lst (lr.map V.ref))/\LaysAt Hd lr ly/\BFO Af wides sizes t ks due ly f i k/\ks.length=k0+ly.length/\Hd l=some (.lst (rs.map V.ref))/\MosL Hd rs (nxO Af wides sizes lay)/\lay ∈ ks)
    ⟨lr,ly,ks,f,g,Ag,v8,v9,rfl,sm.trans s3,s3 _ _ grd,ent.same s3,pv,s3 _ _ gdu,SD.same s3,s3 _ _ gll,SL.same s3,B,lks,gl,ML,hsk⟩ (by rintro k σ Hd _ ⟨_,_,_,_,_,_,_,_,_,_,_,_,_,_,_,_,_,_,_,z,_⟩;exact SqL.of z) ?_ ?_⟩
   ·have nl:rd ≠ l/\ll ≠ l:=⟨qA5 grd fl,qA5 gll fl⟩;clear grd ent gdu SD gll SL B lks sm gl ML s3 hsk gst pv;refine fun k x σ Hd hx hI_3 N2 hN2=>opq fun G_3 hG_3=>?_;obtain ⟨lr,ly,ks,f,g,Ag,v8,v9,rfl,sm,grd,ent,pv,gdu,SD,gll,SL,B,lks,gl,ML,hsk⟩:=hI_3;obtain ⟨mv,hmv,rfl⟩:=qBG hx;obtain ⟨mo,hm2,gmv⟩:=qAG ML hmv;obtain ⟨lay',hst',gst⟩:=qAG SD hsr;refine hG_3 ?_;rw [hst] at hst';cases hst';have hin2:=List.mem_of_getElem? hm2;have nb:=qM7 hin2;refine ⟨_,rfl,_,rfl,sr,mv,lay,mo,rfl,gst,gmv,nb.1.1,by lia,by lia,fun r H6 s4 gr=>?_⟩
    have gr:H6 r=some (.tup ((beO lay mo).map oV)):=gr;have sm4:=sm.trans s4;have grd4:=s4 _ _ grd;have ent4:=ent.same s4;have gdu4:=s4 _ _ gdu;have SD4:=SD.same s4;have gll4:=s4 _ _ gll;have SL4:=SL.same s4;have gl4:=s4 _ _ gl;have ML4:=ML.same s4;have gst4:=s4 _ _ gst;have gmv4:=s4 _ _ gmv;have lb:=B.len;clear grd ent gdu SD gll SL gl ML gst gmv;refine ⟨_,rfl,_,rfl,rd,_,rfl,.inr ⟨Ag,keyO (beO lay mo),r,.inl grd4,rfl,by rw [qBD];exact gr,rfl⟩,_,rfl,?_⟩
    by_cases hin:beO lay mo ∈ ks
    ·obtain ⟨v,ev,_⟩:=ent4.val hin;rw [ev];refine iteF ?_;exact hN2 _ _ ⟨lr,ly,ks,f,g,Ag,_,_,rfl,sm4,grd4,ent4,pv,gdu4,SD4,gll4,SL4,B.hit hst hm2 hin,lks,gl4,ML4,hsk⟩
    ·rw [ent4.none hin];refine iteT ?_;obtain ⟨v,ev,vx⟩:=ent4.val hsk;obtain ⟨vr,xx,yy,e6,gv⟩:=vx.at;subst e6;have dg:DGet H6 rd (.ref sr) (some (.ref vr)):=by
      rw [<- ev];exact .inr ⟨Ag,keyO lay,sr,.inl grd4,rfl,by rw [qBD];exact gst4,rfl⟩
     have B2:=B.add hst hm2 hin;have lb2:=B2.len;rw [List.length_append,List.length_singleton] at lb2;have lly:lr.length=ly.length:=Paired.length SL4;have lkv:=ent4.len;have nt:∀ kk xs,HO.dT kk ≠ .tup xs:=fun kk xs q=>by cases q
     have nt2:∀ kk xs,HO.lst kk ≠ .tup xs:=fun kk xs q=>by cases q
     refine ⟨_,rfl,_,rfl,rd,.ref vr,rfl,dg,vr,_,_,_,rfl,rfl,SqT.of gv,rfl,_,rfl,(by show 1<=sizeLine;decide),fun lm hlm=>⟨lm,[mv],[mo],rfl,qA1,.cons (qA2 hlm _ _ _ gmv4) .nil,(by show 1<=20000;decide),fun H7 s7=>⟨_,_,rfl,rfl,_,rfl,_,rfl,(by show 3<=sizeLine;decide),fun tp htp=>?_⟩⟩⟩
     rw [qNL];have s8:=(qA2 hlm (.lst [.ref mv])).trans s7;have s9:=s8.trans (qA2 htp (.tup [.int ((f lay:Int)+(dN mo:Int)),.ref sr,.ref mv]));have g9:(Ah H7 tp (.tup [.int ((f lay:Int)+(dN mo:Int)),.ref sr,.ref mv])) tp=some (.tup [.int ((f lay+dN mo:Nat):Int),.ref sr,.ref mv]):=by rw [qA1,Int.natCast_add]
     generalize Ah H7 tp (.tup [.int ((f lay:Int)+(dN mo:Int)),.ref sr,.ref mv])=H9 at s9 g9;clear s7 s8 hlm htp;have grd5:=s9 _ _ grd4;have gr5:=s9 _ _ gr;have gll5:=s9 _ _ gll4;have gll6:(Ah H9 rd (.dT (putK Ag (keyO (beO lay mo)) (.ref tp)))) ll=some (.lst (lr.map V.ref)):=(qA8 nll.1).trans gll5;refine ⟨_,rfl,_,rfl,rd,_,rfl,.inr ⟨Ag,keyO (beO lay mo),r,grd5,rfl,by rw [qBD];exact gr5,qAU (by lia),rfl⟩,_,rfl,.inl ⟨rfl,_,SqL.of gll6⟩,_,rfl,ll,_,_,rfl,rfl,gll6,qAU (by rw [List.length_map];lia),?_⟩
     refine hN2 _ _ ⟨lr++[r],ly++[beO lay mo],ks++[beO lay mo],_,_,_,_,_,rfl,qAB (qAB (sm4.trans s9) hrd0) fll,?_,(((ent4.same s9).snoc hin (v:=.ref tp) (n:=f lay+dN mo) (o:=some (lay,mo)) ⟨tp,sr,mv,rfl,g9,s9 _ _ gst4,s9 _ _ gmv4⟩).put grd5 (nt _)).put gll6 (nt2 _),pv.snoc hsk hin2 hin rfl,?_,((SD4.same s9).put grd5 (nt _)).put gll6 (nt2 _),?_,(((SL4.same s9).snoc gr5).put grd5 (nt _)).put gll6 (nt2 _),B2,?_,?_,qGB (qGB (ML4.same s9) grd5 (nt _)) gll6 (nt2 _),List.mem_append.mpr (.inl hsk)⟩
     ·rw [qA8 nll.1.symm,qA1]
     ·rw [qA8 nll.2.symm,qA8 nrdu.symm];exact s9 _ _ gdu4
     ·rw [qA1,qAX]
     ·simp only [List.length_append,List.length_singleton];lia
     ·rw [qA8 nl.2.symm,qA8 nl.1.symm];exact s9 _ _ gl4
   ·refine fun σ Hd hI_4=>opq fun G_4 hG_4=>?_;obtain ⟨lr,ly,ks,f,g,Ag,v8,v9,rfl,sm,grd,ent,pv,gdu,SD,gll,SL,B,lks,gl,ML,hsk⟩:=hI_4;refine hG_4 ?_;rw [List.length_map,lrs] at B;exact hN1 _ _ ⟨lr,ly,ks,f,g,Ag,_,_,_,rfl,sm,grd,ent,pv,gdu,SD,gll,SL,B.next hst (Nat.le_refl _),lks⟩
  ·refine fun σ Hd hI_5=>opq fun G_5 hG_5=>?_;obtain ⟨lr,ly,ks,f,g,Ag,v7,v8,v9,rfl,sm,grd,ent,pv,gdu,SD,gll,SL,B,lks⟩:=hI_5;refine hG_5 ?_;rw [List.length_map,ldr] at B;have B2:=B.level (Nat.le_refl _);have lb:=B2.len;refine ⟨_,rfl,hN0 _ _ ⟨_,?_,ll,lr,ly,ks,f,g,Ag,t+1,_,_,_,_,rfl,rfl,sm,grd,ent,pv,gll,SL,B2⟩⟩;rw [if_neg hz];by_cases c:ly=[]
   ·rw [if_pos c,lks,c,List.length_nil]
    lia
   ·have:0<ly.length:=List.length_pos_iff.mpr c;rw [if_neg c,lks]
    lia
theorem MosL.rev {H:Hp} {rs:List Addr} {ms:List Mo} (h:MosL H rs ms):MosL H rs.reverse ms.reverse:=by
 unfold MosL at h ⊢
 induction h with
 | nil=>exact .nil
 | @cons r m l1 l2 a _ ih=>
  rw [List.reverse_cons,List.reverse_cons];exact Paired.snoc ih a
theorem sc_plan_to:FnScope ["reached","stand","plan"] ["reached","stand"] (qAA qF5):=qC2
theorem ok_plan_to (F:Fun K "plan_to" "plan_to" qF5 f fd):FnOk P w K mg base CX0 1 f fd ["reached","stand"] qOY:=by
 refine F.okA sc_plan_to fun cdv A outer s H vs Q E hr h=>?_;obtain ⟨d,t,o,Ag,Af,wides,sizes,ks,fu,g,st,rfl,gd,ent,RC,pvo,lk,gt,hst,q⟩:=h;have hu:=qME hr;refine ⟨_,(qA4 (qAD (i:=2) sc_plan_to.nd rfl (Or.inl rfl) (qBB qA3)) (qA4 (qGU PassesOwn.never (qCP (qJJ (qB6 qAW (qCQ hu (pv 0) (pv 1) (fun _ _=>rfl)) qA6 (fun _ _=>rfl)))) (qA4 (qC4 (qI8 PySem.F.plainAttrs_list PySem.F.slot_list_append PySem.F.type_list_append qBS (pv 2) (qA0 (qB6 qAW (qCQ hu (pv 0) (pv 1) (fun _ _=>rfl)) qA6 (fun _ _=>rfl)) qA3))) (qA7 (qAD (i:=1) sc_plan_to.nd rfl (Or.inl rfl) (qB6 qAW (qCQ hu (pv 0) (pv 1) (fun _ _=>rfl)) qA6 (fun _ _=>rfl)))))) (qA4 (qC4 (qT4 PySem.F.plainAttrs_list PySem.F.slot_list_reverse PySem.F.type_list_reverse qIV (pv 2))) (qA7 (qAE (pv 2)))))),?_⟩
 try dsimp only [Cx.nox,Cx.wish,cxOf]
 obtain ⟨u0,_,eu0⟩:=RC.snd st hst;have ep:pthO fu g st=qEK g u0 st:=by unfold pthO;rw [show 2 * fu st - cntO st=u0 by lia]
 have lenb:=(qN1 RC pvo hst).2.2;rw [ep] at lenb;refine ⟨(by show 0<=sizeLine;decide),fun lp hlp=>?_⟩
 have s1:=qA2 hlp (.lst []);refine ⟨fun m σ Hc=>∃ (tr:Addr) (cur:La) (rs:List Addr) (done:List Mo),σ=[some (.ref d),some (.ref tr),some (.ref lp)]/\Same H Hc/\Hc tr=some (.tup (cur.map oV))/\cur ∈ ks/\2 * fu cur=m+cntO cur/\Hc lp=some (.lst (rs.map V.ref))/\MosL Hc rs done/\qEK g u0 st=qEK g m cur++done.reverse,
  ⟨u0,t,st,[],[],rfl,s1,s1 _ _ gt,hst,eu0,qA1,.nil,by simp⟩,?_⟩
 refine fun m σ Hc hI_1=>opq fun G_1 hG_1=>?_;obtain ⟨tr,cur,rs,done,rfl,sm,gtr,hcur,em,glp,ML,ed⟩:=hI_1;refine hG_1 ?_;have ld:rs.length=done.length:=Paired.length ML;have ldn:done.length+1<=ks.length:=by
  have:=congrArg List.length ed;rw [List.length_append,List.length_reverse] at this
  lia
 obtain ⟨v,ev,vx⟩:=(ent.same sm).val hcur;rcases pvo cur hcur with ⟨a1,a2,a3⟩ | ⟨p,mv,a1,a2,a3,a4,a5⟩
 ·rw [a2] at vx;obtain ⟨vr,rfl,gv⟩:=vx;have dg:DGet Hc d (.ref tr) (some (.ref vr)):=.inr ⟨Ag,keyO cur,tr,.inr ⟨o,sm _ _ gd⟩,rfl,by rw [qBD];exact gtr,ev.symm⟩
  refine ⟨_,rfl,_,rfl,d,.ref vr,rfl,dg,vr,_,_,_,rfl,rfl,SqT.of gv,rfl,_,rfl,?_⟩;refine iteF ?_;refine ⟨_,rfl,.inl ⟨rfl,_,SqL.of glp⟩,lp,_,rfl,rfl,glp,?_⟩;refine ⟨_,rfl,q lp rs.reverse _ (qAB sm hlp) hlp (by rw [qA1,List.map_reverse]) ?_⟩
  have en:qEK g m cur=[]:=by
   cases m with
   | zero=>rfl
   | succ m=>show (match g cur with | none=>[] | some (p,m')=>qEK g m p++[m'])=[];rw [a2]
  rw [en,List.nil_append] at ed;rw [ep,ed];exact qGB (MosL.rev ML) glp fun xs z=>by cases z
 ·rw [a1] at vx;obtain ⟨vr,rp,rm,rfl,gv,grp,grm⟩:=vx;have dg:DGet Hc d (.ref tr) (some (.ref vr)):=.inr ⟨Ag,keyO cur,tr,.inr ⟨o,sm _ _ gd⟩,rfl,by rw [qBD];exact gtr,ev.symm⟩
  have em2:=em;rw [a5] at em2;obtain ⟨v',e1,e2⟩:=qH7 RC a2 a3 (by rw [<- a4];exact em2)
  subst e1;refine ⟨_,rfl,_,rfl,d,.ref vr,rfl,dg,vr,_,_,_,rfl,rfl,SqT.of gv,rfl,_,rfl,?_⟩;refine iteT ?_;refine qRZ fun N0 hN0=>?_;refine ⟨_,rfl,.inl ⟨rfl,_,SqL.of glp⟩,_,rfl,_,rfl,d,.ref vr,rfl,dg,vr,_,_,_,rfl,rfl,SqT.of gv,rfl,lp,_,_,rfl,rfl,glp,qAU (by rw [List.length_map];lia),?_⟩
  have s2:Same H (Ah Hc lp (.lst (rs.map V.ref++[V.ref rm]))):=qAB sm hlp;have nt:∀ kk xs,HO.lst kk ≠ .tup xs:=fun kk xs q=>by cases q
  have kp:∀ (r:Addr) (xs:List V),Hc r=some (.tup xs)->(Ah Hc lp (.lst (rs.map V.ref++[V.ref rm]))) r=some (.tup xs):=fun r xs gg=>by
   rw [qA8 (qCR gg glp fun z=>nt _ _ z.symm)];exact gg
  have dg2:DGet (Ah Hc lp (.lst (rs.map V.ref++[V.ref rm]))) d (.ref tr) (some (.ref vr)):=.inr ⟨Ag,keyO cur,tr,.inr ⟨o,s2 _ _ gd⟩,rfl,by rw [qBD];exact kp _ _ gtr,ev.symm⟩
  refine ⟨_,rfl,_,rfl,d,.ref vr,rfl,dg2,vr,_,_,_,rfl,rfl,SqT.of (kp _ _ gv),rfl,?_⟩;refine hN0 _ _ ⟨v',by lia,rp,p,rs++[rm],done++[mv],rfl,s2,kp _ _ grp,a2,e2,by rw [qA1,qAX],?_,?_⟩
  ·exact qGB (Paired.snoc ML grm) glp (nt _)
  ·rw [ed];have epn:qEK g (v'+1) cur=qEK g v' p++[mv]:=by show (match g cur with | none=>[] | some (p,m')=>qEK g v' p++[m'])=_;rw [a1]
   rw [epn,List.reverse_append,List.append_assoc]
   rfl
theorem qNY:FnScope ["layout"] ["layout"] (qAA qF4):=qC2
theorem ok_rank_of (F:Fun K "rank_of" "rank_of" qF4 f fd):FnOk P w K mg base CX0 1 f fd ["layout"] qOX:=by
 refine F.okA qNY fun cdv A outer s H vs Q E hr h=>?_;obtain ⟨la,lay,rfl,hla,l1,q⟩:=h;refine ⟨_,(qA7 (qAE (qD7 rfl (lcs (own:=["result"]) (fv:=[]) (by kernel_rfl)) (qKM (pv 0)) (fun z1=>qBQ 0) (fun z1=>qB8) (fun z1=>(qCF (qCP (qF7 (pv 0))) (qRW qML qA6) (pv 0)))))),?_⟩
 try dsimp only [Cx.nox,Cx.wish,cxOf]
 refine ⟨_,rfl,la,rfl,⟨_,SqT.of hla⟩,fun p hp=>?_⟩;refine qIY (p:=p) (a:=la) (xs:=lay.map oV) (fun i σ Hc=>∃ (v:Option V),σ=[v]/\Same H Hc/\Hc p=some (.lst ((rkO (lay.take i)).map V.int))) ?_ ?_ ?_ ?_
 ·exact ⟨none,rfl,qA2 hp _,qA1⟩
 ·rintro i σ Hc hi ⟨v,rfl,sm,_⟩;exact SqT.of (sm _ _ hla)
 ·refine fun i x σ Hc hx hI_2=>opq fun G_2 hG_2=>?_;obtain ⟨v,rfl,sm,hpc⟩:=hI_2;refine hG_2 ?_;rw [List.getElem?_map] at hx;obtain ⟨o,ho,rfl⟩:=Option.map_eq_some_iff.mp hx;have hi:=(List.getElem?_eq_some_iff.mp ho).1;have bnd:((rkO (lay.take i)).map V.int).length<sizeLine:=qAM (by unfold rkO;rw [List.length_map,List.length_map,List.length_take];lia)
  have fin:∀ y:Int,rk1 o=y->∀ lst,lst=(rkO (lay.take i)).map V.int++[V.int y]->lst=(rkO (lay.take (i+1))).map V.int:=by
   intro y ey lst el;rw [el,<- ey,List.take_add_one,ho];unfold rkO;rw [Option.toList_some,List.map_append,List.map_append]
   rfl
  cases o with
  | none=>
   refine ⟨_,rfl,_,rfl,?_⟩;rw [decide_eq_true (show oV none=V.non from rfl)];exact ⟨_,rfl,_,hpc,bnd,_,rfl,qAB sm hp,by rw [qA1];exact congrArg (fun l=>some (HO.lst l)) (fin _ rfl _ rfl)⟩
  | some z=>
   refine ⟨_,rfl,_,rfl,?_⟩;rw [decide_eq_false (show ¬ oV (some z)=V.non from fun e=>nomatch e)];exact ⟨_,rfl,_,hpc,bnd,_,rfl,qAB sm hp,by rw [qA1];exact congrArg (fun l=>some (HO.lst l)) (fin _ rfl _ rfl)⟩
 ·refine fun σ Hc hI_3=>opq fun G_3 hG_3=>?_;obtain ⟨v,rfl,sm,hpc⟩:=hI_3;refine hG_3 ?_;rw [List.length_map,List.take_of_length_le (Nat.le_refl _)] at hpc;exact q p Hc sm hp hpc
theorem qLY {H:Hp} {ks:List La} {rs:List Addr} {zs:List (List Int × V)} (T:LaysAt H rs ks) (p:zs.Perm ((ks.map rkO).zip (rs.map V.ref))) (so:zs.Pairwise (fun a b=>HT.lexLt b.1 a.1=false)) :
  ∃ (rs':List Addr) (L:List La),zs.map (·.2)=rs'.map V.ref/\LaysAt H rs' L/\L.Perm ks/\L.Pairwise (fun x y=>HT.lexLt (rkO y) (rkO x)=false):=by
 have e:∀ {ks:List La} {rs:List Addr},LaysAt H rs ks->(ks.map rkO).zip (rs.map V.ref)=(rs.zip ks).map fun q=>(rkO q.2,V.ref q.1):=by
  intro ks rs T;unfold LaysAt at T
  induction T with
  | nil=>rfl
  | cons _ _ ih=>rw [List.map_cons,List.map_cons,List.zip_cons_cons,List.zip_cons_cons,List.map_cons,ih]
 have e2:∀ {ks:List La} {rs:List Addr},LaysAt H rs ks->(rs.zip ks).map (·.2)=ks/\∀ q ∈ rs.zip ks,H q.1=some (.tup (q.2.map oV)):=by
  intro ks rs T;unfold LaysAt at T
  induction T with
  | nil=>exact ⟨rfl,fun q hq=>nomatch hq⟩
  | cons g _ ih=>
   rw [List.zip_cons_cons,List.map_cons,ih.1];refine ⟨rfl,fun q hq=>?_⟩;rcases List.mem_cons.mp hq with z | z
   ·rw [z];exact g
   ·exact ih.2 q z
 obtain ⟨P',p1,p2⟩:=L2.G.perm_map_inv p (rs.zip ks) (e T);subst p2;obtain ⟨h1,h2⟩:=e2 T;have la:∀ (P':List (Addr × La)),(∀ q ∈ P',H q.1=some (.tup (q.2.map oV)))->LaysAt H (P'.map (·.1)) (P'.map (·.2)):=by
  intro P'
  induction P' with
  | nil=>intro _;exact .nil
  | cons q P' ih=>intro h;exact .cons (h q (by simp)) (ih fun q hq=>h q (List.mem_cons_of_mem _ hq))
 refine ⟨P'.map (·.1),P'.map (·.2),?_,la P' fun q hq=>h2 q (p1.mem_iff.mp hq),?_,?_⟩
 ·rw [List.map_map,List.map_map];rfl
 ·have:=p1.map (·.2);rw [h1] at this;exact this
 ·rw [List.pairwise_map] at so ⊢;exact so
theorem sc_least_there:FnScope ["net","wides","sizes","asked","reached","ends","end"] ["net","wides","sizes","asked"] (qAA qBC):=qC2
theorem ok_least_there (F:Fun K "least_there" "least_there" qBC f fd) (hcd:fd.code=.ref cc) (hBM:BM mg base) (qC0:hdIn K cc Pt=true) (qBK:Clb P w K mg base 5 qBX qFI "layouts_reached" ["net","wides","sizes"] qMQ) (qD9:Clb P w K mg base 1 qFL qJ3 "has_all" ["results","works"] qF3) (C_rank_of:Clb P w K mg base 1 qHT qOH "rank_of" ["layout"] qOX) (qFQ:Clb P w K mg base 1 qHU qOI "plan_to" ["reached","stand"] qOY) (qBY:mg "sorted" = none) (qFU:mg "min" = none):FnOk P w K mg base CX0 6 f fd ["net","wides","sizes","asked"] (qMS Pt):=by
 refine F.okL hcd sc_least_there (fun vs H Q E h=>?_) (fun A outer s H vs Q E hr h=>?_)
 ·obtain ⟨a,wd,sz,t,Af,wides,sizes,Ad,rfl,_⟩:=h
  rfl
 obtain ⟨a,wd,sz,t,Af,wides,sizes,Ad,rfl,hTab,T,hT,la,q⟩:=h;have hu:=qME hr;have rm:Room 1 _:=hr.mono (by decide)
 refine ⟨_,(qA4 (qAD (i:=4) sc_least_there.nd rfl (Or.inr rfl) (qB3 qBK hr rfl (qA0 (pv 0) (qA0 (pv 1) (qA0 (pv 2) qA3))))) (qA4 (qKK (i:=5) sc_least_there.nd rfl rfl rfl (lcs (own:=["layout"]) (fv:=[3]) (by kernel_rfl)) (qJI (pv 4)) (fun z2=>qBQ 0) (fun z2=>(qEN (qDT (qB3 qD9 hr rfl (qA0 (pv 0) (qA0 (pv 1) qA3)))))) (fun z2=>(pv 0)) (by kernel_rfl)) (qA4 (qBE (qGA (qN2 (pv 5) (fun _=>rfl))) (qA7 (qAE (qC8 (qA0 qB0 (qA0 (qRX C_rank_of.G (hr.mono (by decide)) C_rank_of.b rfl C_rank_of.m rfl qBY qE9 (qA0 (pv 4) qA3)) qA3))))) qAJ) (qA4 (qAD (i:=6) sc_least_there.nd rfl (Or.inl rfl) (qU2 (p:="layout") (fv:=[4]) (q:="least_there.<locals>.<lambda>") rm rfl rfl qFU qHZ hBM rfl qC0 (by kernel_rfl) (lms (by kernel_rfl)) rfl (fun _ _ _ _ _=>rfl) (qXW ) (qA0 (pv 5) qA3) (fun z3=>(qB6 (qMD (K:=K) rfl) (qCQ (qXT _) (pv 1) (pv 0) (fun _ _=>rfl)) qA6 (fun _ _=>rfl))))) (qA7 (qAE (qC8 (qA0 qB0 (qA0 (qB3 qFQ hr rfl (qA0 (pv 4) (qA0 (pv 6) qA3))) (qA0 (qB6 qAW (qCQ hu (pv 4) (pv 6) (fun _ _=>rfl)) qA6 (fun _ _=>rfl)) qA3)))))))))),?_⟩
 try dsimp only [Cx.nox,Cx.wish,cxOf]
 have k5:=T.k5;have n6:=T.n6;refine ⟨_,rfl,_,rfl,_,rfl,a,wd,sz,Af,wides,sizes,rfl,T,fun d o Ag ks fu g H1 s1 hdn hd ent RC pvo=>?_⟩;have q:=q ks fu;have lk:ks.length<=16807:=Nat.le_trans (qD8 (n:=Af.length) (k:=sizes.length) RC.nd fun s hs=>let ⟨_,m,_⟩:=RC.snd s hs;⟨m.1.len,m.1.ok⟩) (Nat.le_trans (Nat.pow_le_pow_left (show Af.length+1<=7 by lia) _) (Nat.pow_le_pow_right (show 0<7 by decide) k5))
 have l5:∀ s ∈ ks,s.length<=1000:=fun s hs=>by
  obtain ⟨_,m,_⟩:=RC.snd s hs;have:=m.1.len
  lia
 have ln:=ent.len;have hT:=s1 _ _ hT;have hTab:=s1 _ _ hTab;refine ⟨_,rfl,d,o,Ag,rfl,hd,fun le hle=>?_⟩;refine qJN (p:=le) (a:=d) (o:=o) (Ag:=Ag) (fun k σ Hd=>∃ (v0:Option V) (er:List Addr),σ=[v0,some (.ref t)]/\Same H1 Hd/\Hd le=some (.lst (er.map V.ref))/\LaysAt Hd er ((ks.take k).filter fun s=>decide (∀ x ∈ Ad,some x ∈ s))) ?_ ?_ ?_ ?_
 ·exact ⟨none,[],rfl,qA2 hle _,qA1,.nil⟩
 ·refine fun k σ Hd hk hI_4=>opq fun G_4 hG_4=>?_;obtain ⟨v0,er,rfl,sd,_⟩:=hI_4;refine hG_4 ?_;exact sd _ _ hd
 ·refine fun k key v r σ Hd hx hr2 hI_5=>opq fun G_5 hG_5=>?_;obtain ⟨v0,er,rfl,sd,ge,SE⟩:=hI_5;obtain ⟨st,hst,e1,v3⟩:=qAG ent hx;refine hG_5 ?_;dsimp only at e1;subst e1;rw [qBD] at hr2;have hk2:=(List.getElem?_eq_some_iff.mp hst).1;have lE:er.length=((ks.take k).filter fun s=>decide (∀ x ∈ Ad,some x ∈ s)).length:=Paired.length SE;have lE2:=List.length_filter_le (fun s:La=>decide (∀ x ∈ Ad,some x ∈ s)) (ks.take k);rw [List.length_take] at lE2;refine ⟨_,rfl,_,rfl,r,t,st,Ad,rfl,hr2,sd _ _ hT,la,fun H2 s2=>⟨_,rfl,?_⟩⟩;rw [List.take_add_one,hst,Option.toList_some,List.filter_append];by_cases c:∀ x ∈ Ad,some x ∈ st
  ·rw [decide_eq_true c];refine ⟨_,rfl,_,s2 _ _ ge,qAU (by rw [List.length_map];lia),?_⟩
   rw [qAX];refine ⟨_,er++[r],rfl,qAB (sd.trans s2) hle,qA1,?_⟩;rw [List.filter_cons,if_pos (decide_eq_true c)];exact ((SE.same s2).snoc (s2 _ _ hr2)).put (s2 _ _ ge) fun xs z=>by cases z
  ·rw [decide_eq_false c];refine ⟨_,er,rfl,sd.trans s2,s2 _ _ ge,?_⟩;rw [List.filter_cons,if_neg (by rw [decide_eq_false c];exact Bool.false_ne_true),List.filter_nil,List.append_nil]
   exact SE.same s2
 refine fun σ H2 hI_6=>opq fun G_6 hG_6=>?_;obtain ⟨v0,er,rfl,s2,ge,SE⟩:=hI_6;refine hG_6 ?_;rw [ln,List.take_length] at SE;have lE:er.length=(ks.filter fun s=>decide (∀ x ∈ Ad,some x ∈ s)).length:=Paired.length SE;have sA:=s1.trans s2;have hd2:=s2 _ _ hd;have ent2:=ent.same s2;refine ⟨_,rfl,_,.inl ⟨_,SqL.of ge,rfl⟩,?_⟩;cases er with
 | nil=>
  have he:(ks.filter fun s=>decide (∀ x ∈ Ad,some x ∈ s))=[]:=List.length_eq_zero_iff.mp lE.symm;refine iteT ?_;refine ⟨_,rfl,d,o,Ag,ks.map rkO,rfl,hd2,by lia,fun rs KA=>?_⟩
  have LA:LaysAt H2 rs ks:=by
   have:∀ {rs:List Addr} {Ag:KvO} {ks:List La},qJ7 H2 rs Ag->EntO H2 Ag ks fu g->LaysAt H2 rs ks:=by
    intro rs Ag ks h
    induction h generalizing ks with
    | nil=>intro e;cases e;exact .nil
    | cons a _ ih=>
     intro e;cases e with
     | cons b t=>exact .cons (by have:=a;rw [b.1,qBD] at this;exact this) (ih t)
   exact this KA ent2
  have lrs:rs.length=ks.length:=Paired.length LA;refine ⟨⟨by rw [List.length_map,List.length_map,lrs],fun i x k hx hk H3 s3=>?_⟩,fun H3 D zs s3 fD pm so=>?_⟩
  ·obtain ⟨r,hr1,rfl⟩:=qBG hx;obtain ⟨st,hst,gs⟩:=qAG LA hr1;rw [List.getElem?_map,hst] at hk;cases hk;exact ⟨r,st,rfl,s3 _ _ gs,l5 st (List.mem_of_getElem? hst),fun l H4 s4 fl gl=>⟨s4,l,rfl,gl⟩⟩
  ·obtain ⟨rs',L,ez,LA',pL,sL⟩:=qLY LA pm so;rw [ez];refine ⟨(by show 2<=sizeLine;decide),fun TT hTT=>?_⟩
   have sT:=qA2 hTT (.tup [.str "none",.ref D]);have sB:=(sA.trans s3).trans (qA2 fD (.lst (rs'.map V.ref)));have fD0:H D=none:=(sA.trans s3).free fD;refine ((q _ (sB.trans sT) RC).1 fun s hs c=>?_) TT D rs' L (sB.free hTT) qA1 fD0 (sT _ _ qA1) (((LA'.same s3).same (qA2 fD _)).same sT) pL sL;have:s ∈ ks.filter fun s=>decide (∀ x ∈ Ad,some x ∈ s):=List.mem_filter.mpr ⟨hs,decide_eq_true c⟩;rw [he] at this;cases this
 | cons r0 er=>
  refine iteF ?_;refine ⟨_,rfl,s2 _ _ hTab,le,(r0::er).map V.ref,(ks.filter fun s=>decide (∀ x ∈ Ad,some x ∈ s)).map fun s=>[(fu s:Int)],?_⟩;have key:∀ (i:Nat) (x:V) (k:List Int),((r0::er).map V.ref)[i]?=some x->((ks.filter fun s=>decide (∀ x ∈ Ad,some x ∈ s)).map fun s=>[(fu s:Int)])[i]?=some k->∃ r s,x=.ref r/\k=[(fu s:Int)]/\s ∈ ks/\(∀ x ∈ Ad,some x ∈ s)/\H2 r=some (.tup (s.map oV)):=by
   intro i x k hx hk;obtain ⟨r,hr1,rfl⟩:=qBG hx;obtain ⟨st,hst,gs⟩:=qAG SE hr1;rw [List.getElem?_map,hst] at hk;cases hk;have hm:=List.mem_filter.mp (List.mem_of_getElem? hst);exact ⟨r,st,rfl,rfl,hm.1,of_decide_eq_true hm.2,gs⟩
  have at1:∀ {r:Addr} {s:La} {Hc:Hp},Same H2 Hc->s ∈ ks->H2 r=some (.tup (s.map oV))->∃ vr xx yy,DGet Hc d (.ref r) (some (.ref vr))/\Hc vr=some (.tup [.int (fu s:Int),xx,yy]):=by
   intro r s Hc sc hs gr;obtain ⟨v,ev,vx⟩:=ent2.val hs;obtain ⟨vr,xx,yy,e6,e7⟩:=vx.at;subst e6;refine ⟨vr,xx,yy,?_,sc _ _ e7⟩;rw [<- ev];exact .inr ⟨Ag,keyO s,r,.inr ⟨o,sc _ _ hd2⟩,rfl,by rw [qBD];exact sc _ _ gr,rfl⟩
  cases eZ:((r0::er).map V.ref).zip ((ks.filter fun s=>decide (∀ x ∈ Ad,some x ∈ s)).map fun s=>[(fu s:Int)]) with
  | nil=>
   exfalso
   have:=congrArg List.length eZ;rw [List.length_zip,List.length_map,List.length_map,<- lE,List.length_cons,List.length_nil] at this
   lia
  | cons b rest=>
   obtain ⟨k,h1,h2⟩:=qFW rest b;rw [<- eZ] at h1 h2;obtain ⟨i,hi⟩:=List.getElem?_of_mem h1;rw [List.getElem?_zip_eq_some] at hi;obtain ⟨r,st,e1,e2,e3,e4,e5⟩:=key i _ _ hi.1 hi.2;have le1:∀ s' ∈ ks,(∀ x ∈ Ad,some x ∈ s')->fu st<=fu s':=fun s' hs' c'=>by
    have hf:s' ∈ ks.filter fun s=>decide (∀ x ∈ Ad,some x ∈ s):=List.mem_filter.mpr ⟨hs',decide_eq_true c'⟩;obtain ⟨j,hj⟩:=List.getElem?_of_mem hf;have hj1:=(List.getElem?_eq_some_iff.mp hj).1;have hr1:j<((r0::er).map V.ref).length:=by rw [List.length_map,lE];exact hj1
    have hq:(((r0::er).map V.ref)[j],[(fu s':Int)]) ∈ ((r0::er).map V.ref).zip ((ks.filter fun s=>decide (∀ x ∈ Ad,some x ∈ s)).map fun s=>[(fu s:Int)]):=
     List.mem_of_getElem? (i:=j) (List.getElem?_zip_eq_some.mpr ⟨List.getElem?_eq_getElem hr1,by rw [List.getElem?_map,hj];rfl⟩)
    have hl:=h2 _ hq;have e2:k=[(fu st:Int)]:=e2;rw [e2] at hl;dsimp only at hl;rw [HT.lexLt_cons] at hl;by_cases c:(fu s':Int)=(fu st:Int)
    ·lia
    ·rw [if_neg c] at hl;have:=of_decide_eq_false hl
     lia
   refine ⟨qDX b rest,rfl,ge,by rw [List.length_map,List.length_map,lE],fun i x k hx hk Hc sc=>?_,rfl,fun H3 s3=>?_⟩
   ·obtain ⟨r',s',a1,a2,a3,_,a5⟩:=key i x k hx hk;subst a1 a2;obtain ⟨vr,xx,yy,dg,gv⟩:=at1 sc a3 a5;exact ⟨_,rfl,_,rfl,d,.ref vr,rfl,dg,vr,_,_,_,rfl,rfl,SqT.of gv,rfl,(fun _ _ z=>z),_,rfl,rfl⟩
   ·have e1:qDX b rest=.ref r:=e1;rw [e1];refine ⟨_,rfl,_,rfl,d,r,o,Ag,Af,wides,sizes,ks,fu,g,st,rfl,s3 _ _ hd2,ent2.same s3,RC,pvo,by lia,s3 _ _ e5,e3,fun lp rs H4 s4 fl gl ML=>?_⟩
    obtain ⟨vr,xx,yy,dg,gv⟩:=at1 (Same.trans s3 s4) e3 e5;refine ⟨_,rfl,_,rfl,d,.ref vr,rfl,dg,vr,_,_,_,rfl,rfl,SqT.of gv,rfl,(by show 3<=sizeLine;decide),fun TT hTT=>?_⟩
    have sT:=qA2 hTT (.tup [.str "plan",.ref lp,.int (fu st:Int)]);have sB:Same H H4:=(sA.trans s3).trans s4;obtain ⟨p1,p2,p3⟩:=qN1 RC pvo e3;exact (q _ (sB.trans sT) RC).2 st e3 e4 le1 TT lp rs _ (sB.free hTT) qA1 ((sA.trans s3).free fl) (sT _ _ gl) (MosL.same ML sT) p1 p2 (by lia)
theorem sc_Lcome_there:FnScope ["_law_net_here","_law_wides","_law_sizes","_law_found","_law_moves","_law_here","_law_many","_law_at","_law_room","_law_less","_law_further","_law_layout","_law_move","_law_more"] ["_law_net_here","_law_wides","_law_sizes"] (qAA qCE):=qC2
theorem ok_Lcome_there (F:Fun K "_law_come_there" "_law_come_there" qCE f fd) (qD2:Clb P w K mg base 1 qD1 qFK "_law_all_moves" ["_law_net_here","_law_sizes"] qLW) (qLS:Clb P w K mg base 1 qNJ qQJ "_law_put" ["_law_layout","_law_move"] qKC) (qH1:Clb P w K mg base 1 qGY qLE "_law_fault" ["_law_net_here","_law_wides","_law_sizes","_law_layout","_law_move"] (spTh false)) (qBF:mg "len" = none) (qDS:mg "list" = none) (qAV:mg "range" = none):FnOk P w K mg base CX0 2 f fd ["_law_net_here","_law_wides","_law_sizes"] qOZ:=by
 refine F.okA sc_Lcome_there fun cdv A outer s H vs Q E hr h=>?_;obtain ⟨a,wd,sz,Af,wides,sizes,rfl,T,q⟩:=h;have hu:=qME hr;have hu0:=hr.units0;refine ⟨_,(qA4 (qAD (i:=3) sc_Lcome_there.nd rfl (Or.inl rfl) (qKN hu (qAR qM6 (qC8 (qA0 qCZ qA3)) (qA9 qAC rfl qBF qBL (qA0 (pv 2) qA3))) qA6)) (qA4 (qAD (i:=4) sc_Lcome_there.nd rfl (Or.inl rfl) (qB3 qD2 hr rfl (qA0 (pv 0) (qA0 (pv 2) qA3)))) (qA4 (qAD (i:=5) sc_Lcome_there.nd rfl (Or.inl rfl) (qAF (qOL rfl) rfl qDS qG5 (qA0 (pv 3) qA3))) (qA4 (qAD (i:=6) sc_Lcome_there.nd rfl (Or.inl rfl) qA6) (qA4 (qGU PassesOwn.never (qAI (qKS hu0) (pv 5) (qBB qA3) (qAQ _)) (qA4 (qAD (i:=7) sc_Lcome_there.nd rfl (Or.inl rfl) qA6) (qA4 (qGU PassesOwn.never (qAI qPL (pv 7) (qA9 qAC rfl qBF qBL (qA0 (pv 5) qA3)) (qAQ _)) (qA4 (qD6 PassesOwn.never rfl (qAY rfl qAV (qA0 (qA9 qAC rfl qBF qBL (qA0 (pv 2) qA3)) qA3)) (qB9 (i:=8) sc_Lcome_there.nd rfl (Or.inl rfl)) (qA4 (qAD (i:=9) sc_Lcome_there.nd rfl (Or.inl rfl) (qB3 qLS hr rfl (qA0 (qB6 qEU (pv 5) (pv 7) (fun _ _=>rfl)) (qA0 (qC8 (qA0 qB0 (qA0 (pv 8) qA3))) qA3)))) (qA7 (qBE (qCP (qHC hu (pv 9) (pv 3))) (qA4 (qJH hu (pv 3) (pv 9) (pv 6) rfl) (qA7 (qC4 (qI8 PySem.F.plainAttrs_list PySem.F.slot_list_append PySem.F.type_list_append qBS (pv 5) (qA0 (pv 9) qA3))))) qAJ)))) (qA7 (qAD (i:=7) sc_Lcome_there.nd rfl (Or.inl rfl) (qAR qC9 (pv 7) qA6))))) (qA4 (qAD (i:=6) sc_Lcome_there.nd rfl (Or.inl rfl) (qAR qC9 (pv 6) qA6)) (qA4 (qAD (i:=10) sc_Lcome_there.nd rfl (Or.inl rfl) (qBB qA3)) (qA4 (qD6 PassesOwn.never rfl (qBV (pv 5)) (qB9 (i:=11) sc_Lcome_there.nd rfl (Or.inl rfl)) (qA7 (qD6 PassesOwn.never rfl (qBV (pv 4)) (qB9 (i:=12) sc_Lcome_there.nd rfl (Or.inl rfl)) (qA7 (qBE (PW.pt (qT0 (qAI qEL (qB6 qAW (pv 12) qA6 (fun _ _=>rfl)) qB0 (qAQ _)) (qP7 (qCP (qF7 (qB3 qH1 hr rfl (qA0 (pv 0) (qA0 (pv 1) (qA0 (pv 2) (qA0 (pv 11) (qA0 (pv 12) qA3))))))))))) (qA4 (qAD (i:=13) sc_Lcome_there.nd rfl (Or.inl rfl) (qB3 qLS hr rfl (qA0 (pv 11) (qA0 (pv 12) qA3)))) (qA7 (qBE (qCP (qHC hu (pv 13) (pv 3))) (qA4 (qJH hu (pv 3) (pv 13) (pv 6) rfl) (qA7 (qC4 (qI8 PySem.F.plainAttrs_list PySem.F.slot_list_append PySem.F.type_list_append qBS (pv 10) (qA0 (pv 13) qA3))))) qAJ))) qAJ))))) (qA7 (qAD (i:=5) sc_Lcome_there.nd rfl (Or.inl rfl) (pv 10))))))))) (qA7 (qAE (qPH (pv 3))))))))),?_⟩
 try dsimp only [Cx.nox,Cx.wish,cxOf]
 have k1:=T.k1;have k5:=T.k5;have n6:=T.n6;have pw:(Af.length+1) ^ sizes.length<=16807:=Nat.le_trans (Nat.pow_le_pow_left (show Af.length+1<=7 by lia) _) (Nat.pow_le_pow_right (show 0<7 by decide) k5)
 have lsz:(((sizes.map V.int).length:Nat):Int)=(sizes.length:Int):=by rw [List.length_map]
 have lsn:((((sizes.map V.int).length:Nat):Int)).toNat=sizes.length:=by rw [lsz];lia
 intro d hd;have s1:=qA2 hd (.dT []);refine ⟨(by show 1<=sizeLine;decide),fun t1 ht1=>?_⟩
 have s2:=qA2 ht1 (.tup [.non]);refine ⟨_,rfl,sz,_,rfl,.inr (SqT.of (s2 _ _ (s1 _ _ T.sizes_))),?_⟩;rw [lsz];refine qFV qA1 k1 (by lia) fun st H1 sm1 gst=>⟨sm1 _ _ (s2 _ _ qA1),st,keyO (l0 sizes),rfl,by rw [qBD];exact gst,?_⟩
 have sA:Same H (Ah H1 d (.dT [(keyO (l0 sizes),.int 0)])):=qAB (s1.trans (s2.trans sm1)) hd;have gd:(Ah H1 d (.dT [(keyO (l0 sizes),.int 0)])) d=some (.dT (kvC [l0 sizes] fun _=>0)):=qA1;have gst:=qDE (u:=.dT [(keyO (l0 sizes),.int 0)]) gst (sm1 _ _ (s2 _ _ qA1)) (fun xs z=>by cases z)
 generalize Ah H1 d (.dT [(keyO (l0 sizes),.int 0)])=H2 at sA gd gst ⊢;have fdn:H d=none:=hd;clear s1 s2 sm1 ht1 hd;refine ⟨_,rfl,_,rfl,a,sz,Af,sizes,rfl,T.net_.same sA,n6,sA _ _ T.sizes_,k5,fun ml H3 s3 fm MA=>?_⟩;obtain ⟨rsm,gm,MM⟩:=MA;have sB:=sA.trans s3;have gd:=s3 _ _ gd;have gst:=s3 _ _ gst;have ndm:d ≠ ml:=qCR gd gm (by intro z;cases z)
 have fml:H ml=none:=sA.free fm;clear s3 sA fm;refine ⟨_,rfl,d,_,rfl,gd,(by rw [qJP];show 1<=20000;decide),fun hl rs fh KA=>?_⟩
 obtain ⟨r0,er,gr0⟩:∃ r0,rs=[r0]/\H3 r0=some (.tup ((l0 sizes).map oV)):=by
  cases KA with
  | cons g t=>
   cases t;exact ⟨_,rfl,by have:=g;rw [qBD] at this;exact this⟩
 subst er;have s4:=qA2 fh (.lst ([r0].map V.ref));have sC:=sB.trans s4;have gd1:=s4 _ _ gd;have gm1:=s4 _ _ gm;have MM1:=MosL.same MM s4;have gh1:(Ah H3 hl (.lst ([r0].map V.ref))) hl=some (.lst ([r0].map V.ref)):=qA1;have L1:LaysAt (Ah H3 hl (.lst ([r0].map V.ref))) [r0] [l0 sizes]:=.cons (s4 _ _ gr0) .nil;have fhl:H hl=none:=sB.free fh;have nhm:hl ≠ ml:=(qA5 gm fh).symm;generalize Ah H3 hl (.lst ([r0].map V.ref))=H4 at sC gd1 gm1 MM1 gh1 L1 ⊢;clear s4 sB gd gm MM gst fh KA gr0;refine cut fun N3 hN3=>?_;refine hN3 _ _ (cut fun N4 hN4=>?_);refine hN4 _ _ (cut fun N5 hN5=>?_);refine ⟨fun m σ Hc=>∃ (hl:Addr) (rs:List Addr) (ks ly:List La) (f:La->Nat) (many:Nat) (v7 v8 v9 v10 v11 v12 v13:Option V),σ=[some (.ref a),some (.ref wd),some (.ref sz),some (.ref d),some (.ref ml),some (.ref hl),some (.int (many:Int)),v7,v8,v9,v10,v11,v12,v13]/\m=16808 - many/\Same H Hc/\H hl=none/\hl ≠ ml/\Hc ml=some (.lst (rsm.map V.ref))/\MosL Hc rsm (qBN (Af.length:Int) (sizes.length:Int))/\Hc d=some (.dT (kvC ks f))/\Hc hl=some (.lst (rs.map V.ref))/\LaysAt Hc rs ly/\A1O Af wides sizes many ks f ly 0 0/\(ly ≠ []->many<ks.length),
  ⟨_,hl,[r0],[l0 sizes],[l0 sizes],fun _=>0,0,none,none,none,none,none,none,none,rfl,rfl,sC,fhl,nhm,gm1,MM1,gd1,gh1,L1,A1O.start,fun _=>Nat.zero_lt_one⟩,?_⟩
 clear sC gm1 MM1 gd1 gh1 L1 fhl nhm;refine fun m σ Hc hI_1=>opq fun G_1 hG_1=>?_;obtain ⟨hl,rs,ks,ly,f,many,v7,v8,v9,v10,v11,v12,v13,rfl,rfl,sm,fhl,nhm,gm,MM,gd,gh,LA,I1,lm⟩:=hI_1;refine hG_1 ?_;refine ⟨_,rfl,(by show 0<=sizeLine;decide),fun e he=>?_⟩
 have se:=qA2 he (.lst []);refine ⟨hl,e,_,rfl,rfl,SqL.of (se _ _ gh),SqL.of qA1,_,rfl,?_⟩;have gm1:=se _ _ gm;have MM1:=MosL.same MM se;have gd1:=se _ _ gd;have gh1:=se _ _ gh;have LA1:=LA.same se;have sm1:=sm.trans se;generalize Ah Hc e (.lst [])=H3 at gm1 MM1 gd1 gh1 LA1 sm1 ⊢;clear se he gm MM gd gh LA sm;have lrs:rs.length=ly.length:=Paired.length LA1;refine ite2 (fun cn=>?_) (fun cn=>?_)
 ·have lne:ly ≠ []:=fun z=>by
   rw [z] at lrs;rw [List.length_eq_zero_iff.mp lrs] at cn;cases cn
  have lk:=lm lne;have kl:=I1.fd.len;refine qRZ fun W0 hW0=>?_;refine cut fun M1 hM1=>?_;refine hM1 _ _ (cut fun M3 hM3=>?_);refine ⟨fun m σ Hc=>∃ (rs:List Addr) (ks cl:List La) (f:La->Nat) (at_:Nat) (v8 v9:Option V),σ=[some (.ref a),some (.ref wd),some (.ref sz),some (.ref d),some (.ref ml),some (.ref hl),some (.int (many:Int)),some (.int (at_:Int)),v8,v9,v10,v11,v12,v13]/\m=16807 - at_/\Same H Hc/\Hc ml=some (.lst (rsm.map V.ref))/\MosL Hc rsm (qBN (Af.length:Int) (sizes.length:Int))/\Hc d=some (.dT (kvC ks f))/\Hc hl=some (.lst (rs.map V.ref))/\LaysAt Hc rs cl/\A1O Af wides sizes many ks f cl at_ 0/\many<ks.length,
   ⟨_,rs,ks,ly,f,0,v8,v9,rfl,rfl,sm1,gm1,MM1,gd1,gh1,LA1,I1,lk⟩,?_⟩
  clear gm1 MM1 gd1 gh1 LA1 sm1 I1 lk kl lm lrs;refine fun m σ Hc hI_2=>opq fun G_2 hG_2=>?_;obtain ⟨rs,ks,cl,f,at_,v8,v9,rfl,rfl,sm,gm,MM,gd,gh,LA,I1,lk⟩:=hI_2;refine hG_2 ?_;have lcl:=I1.len;have kl:=I1.fd.len;have lrs:rs.length=cl.length:=Paired.length LA;refine ⟨_,rfl,_,rfl,hl,_,rfl,.inl (SqL.of gh),_,_,rfl,rfl,_,rfl,?_⟩;have ecl:((((rs.map V.ref).length:Nat):Int))=(cl.length:Int):=by rw [List.length_map,lrs]
  dsimp only;rw [ecl];refine ite2 (fun ca=>?_) (fun ca=>?_)
  ·have ca':(at_:Int)<(cl.length:Int):=of_decide_eq_true ca;refine qRZ fun W1 hW1=>?_;refine cut fun L1 hL1=>?_;refine ⟨_,rfl,sz,_,rfl,.inr (SqT.of (sm _ _ T.sizes_)),_,rfl,by rw [lsz];lia,by rw [lsz];lia,qOG (lo:=0) (n:=((((sizes.map V.int).length:Nat):Int)).toNat) (fun k σ Hc=>∃ (rs:List Addr) (ks cl:List La) (f:La->Nat) (v8 v9:Option V),σ=[some (.ref a),some (.ref wd),some (.ref sz),some (.ref d),some (.ref ml),some (.ref hl),some (.int (many:Int)),some (.int (at_:Int)),v8,v9,v10,v11,v12,v13]/\Same H Hc/\Hc ml=some (.lst (rsm.map V.ref))/\MosL Hc rsm (qBN (Af.length:Int) (sizes.length:Int))/\Hc d=some (.dT (kvC ks f))/\Hc hl=some (.lst (rs.map V.ref))/\LaysAt Hc rs cl/\A1O Af wides sizes many ks f cl at_ k/\many<ks.length/\at_<cl.length)
    ⟨rs,ks,cl,f,v8,v9,rfl,sm,gm,MM,gd,gh,LA,I1,lk,by lia⟩ ?_ ?_⟩
   ·clear sm gm MM gd gh LA I1 lk lcl kl ca ca' ecl lrs;refine fun k σ Hc hk hI_3 Na hNa=>opq fun G_3 hG_3=>?_;obtain ⟨rs,ks,cl,f,v8,v9,rfl,sm,gm,MM,gd,gh,LA,I1,lk,la⟩:=hI_3;refine hG_3 ?_;rw [lsn] at hk;have lcl:=I1.len;have kl:=I1.fd.len;have lrs:rs.length=cl.length:=Paired.length LA;have ec:cl[at_]?=some cl[at_]:=List.getElem?_eq_getElem la;generalize cl[at_]=x at ec;obtain ⟨rx,erx,grx⟩:=qHD LA ec;have ga:atI (rs.map V.ref) (at_:Int)=some (.ref rx):=qDV (by lia) (by rw [Int.toNat_natCast,List.getElem?_map,erx];rfl)
    have e0:(0+(k:Int)).toNat=k:=by lia
    have xk:=(I1.clm x).mp (List.mem_of_getElem? ec);have lx:=(I1.fd.snd x xk.1).2.1.lay.1;have nhd:d ≠ hl:=qCR gd gh (by intro z;cases z)
    have nt:∀ kk xs,HO.dT kk ≠ .tup xs:=fun kk xs q=>by cases q
    have nt2:∀ kk xs,HO.lst kk ≠ .tup xs:=fun kk xs q=>by cases q
    refine cut fun L2 hL2=>?_;refine ⟨_,rfl,_,rfl,hl,_,_,_,rfl,rfl,SqL.of gh,ga,_,rfl,(by show 2<=sizeLine;decide),fun tc htc=>?_⟩
    have sc:=qA2 htc (.tup [.str "clear",.int (0+(k:Int))]);refine ⟨rx,tc,x,⟨false,0,0+(k:Int)⟩,rfl,sc _ _ grx,qA1,(by show (0:Int)<=0+(k:Int);lia),(by show (0+(k:Int)).toNat<x.length;rw [e0,lx];exact hk),(by rw [lx];lia),fun r H6 s6 gr=>?_⟩
    have gr:H6 r=some (.tup ((x.set k none).map oV)):=by
     have:=gr;dsimp only at this;rw [e0] at this;exact this
    have s7:=sc.trans s6;have sm:=sm.trans s7;have gm:=s7 _ _ gm;have MM:=MosL.same MM s7;have gd:=s7 _ _ gd;have gh:=s7 _ _ gh;have LA:=LA.same s7;clear s6 sc htc s7 grx ga;refine hL2 _ _ ?_;refine ⟨_,rfl,_,rfl,d,_,rfl,.inr ⟨kvC ks f,keyO (x.set k none),r,.inl gd,rfl,by rw [qBD];exact gr,rfl⟩,_,rfl,?_⟩
    rw [qHL];by_cases ck:x.set k none ∈ ks
    ·rw [if_pos ck];exact hNa _ _ ⟨rs,ks,cl,f,_,_,rfl,sm,gm,MM,gd,gh,LA,I1.hit ec ck,lk,la⟩
    ·rw [if_neg ck];refine iteT (cut fun L3 hL3=>?_);refine ⟨_,rfl,_,rfl,_,rfl,d,_,rfl,.inr ⟨kvC ks f,keyO (x.set k none),r,gd,rfl,by rw [qBD];exact gr,qAU (by rw [qJP];lia),rfl⟩,?_⟩
     rw [qQ0 ck];refine hL3 _ _ ?_;have gh1:(Ah H6 d (.dT (kvC (ks++[x.set k none]) (fsO f (x.set k none) many)))) hl=some (.lst (rs.map V.ref)):=by rw [qA8 nhd.symm];exact gh
     refine ⟨_,rfl,.inl ⟨rfl,_,SqL.of gh1⟩,_,rfl,hl,_,_,rfl,rfl,gh1,qAU (by rw [List.length_map];lia),?_⟩
     refine hNa _ _ ⟨rs++[r],ks++[x.set k none],cl++[x.set k none],fsO f (x.set k none) many,_,_,rfl,qAB (qAB sm fdn) fhl,by rw [qA8 nhm.symm,qA8 ndm.symm];exact gm,qGB (qGB MM gd (nt _)) gh1 (nt2 _),by rw [qA8 nhd,qA1],by rw [qA1,qAX],(((LA.snoc gr).put gd (nt _)).put gh1 (nt2 _)),I1.add ec hk ck,by rw [List.length_append];lia,by rw [List.length_append];lia⟩
   ·refine fun σ Hc hI_4=>opq fun G_4 hG_4=>?_;obtain ⟨rs,ks,cl,f,v8,v9,rfl,sm,gm,MM,gd,gh,LA,I1,lk,la⟩:=hI_4;refine hG_4 ?_;rw [lsn] at I1;have lcl:=I1.len;refine hL1 _ _ ?_;refine ⟨_,rfl,_,_,rfl,rfl,?_⟩;exact hW1 _ _ ⟨16807 - (at_+1),by lia,rs,ks,cl,f,at_+1,_,_,rfl,rfl,sm,gm,MM,gd,gh,LA,I1.next,lk⟩
  ·have ca':¬ (at_:Int)<(cl.length:Int):=of_decide_eq_false (Bool.eq_false_iff.mpr ca);refine hM3 _ _ (cut fun M4 hM4=>?_);refine ⟨_,rfl,_,_,rfl,rfl,?_⟩;refine hM4 _ _ (cut fun M5 hM5=>?_);refine ⟨(by show 0<=sizeLine;decide),fun lz hlz=>?_⟩
   have flz:H lz=none:=sm.free hlz;have szz:=qA2 hlz (.lst []);have nmz:ml ≠ lz:=qA5 gm hlz;have ndz:d ≠ lz:=qA5 gd hlz;have nhz:hl ≠ lz:=qA5 gh hlz;have nhd:d ≠ hl:=qCR gd gh (by intro z;cases z)
   have gz:(Ah Hc lz (.lst [])) lz=some (.lst (([]:List Addr).map V.ref)):=qA1;have gm1:=szz _ _ gm;have MM1:=MosL.same MM szz;have gd1:=szz _ _ gd;have gh1:=szz _ _ gh;have LA1:=LA.same szz;have sm1:=sm.trans szz;generalize Ah Hc lz (.lst [])=H5 at gz gm1 MM1 gd1 gh1 LA1 sm1 ⊢;clear szz hlz gm MM gd gh LA sm;refine hM5 _ _ ?_;have J0:=I1.two (by lia)
   refine ⟨_,rfl,hl,rfl,⟨_,SqL.of gh1⟩,qFG (a:=hl) (xs:=rs.map V.ref) (fun i σ Hc=>∃ (zr:List Addr) (ks ly:List La) (f:La->Nat) (v11 v12 v13:Option V),σ=[some (.ref a),some (.ref wd),some (.ref sz),some (.ref d),some (.ref ml),some (.ref hl),some (.int ((many+1:Nat):Int)),some (.int (at_:Int)),v8,v9,some (.ref lz),v11,v12,v13]/\Same H Hc/\Hc ml=some (.lst (rsm.map V.ref))/\MosL Hc rsm (qBN (Af.length:Int) (sizes.length:Int))/\Hc d=some (.dT (kvC ks f))/\Hc hl=some (.lst (rs.map V.ref))/\LaysAt Hc rs cl/\Hc lz=some (.lst (zr.map V.ref))/\LaysAt Hc zr ly/\A2O Af wides sizes many ks f cl ly i 0/\many+1+ly.length<=ks.length)
    ⟨[],ks,[],f,v11,v12,v13,rfl,sm1,gm1,MM1,gd1,gh1,LA1,gz,.nil,J0,by simp;lia⟩ (fun i σ Hc _ hP=>by obtain ⟨_,_,_,_,_,_,_,_,_,_,_,_,g,_⟩:=hP;exact SqL.of g) ?_ ?_⟩
   ·clear gm1 MM1 gd1 gh1 LA1 gz sm1 J0 I1 lk kl;refine fun i x0 σ Hc hx hI_5 Nb hNb=>opq fun G_5 hG_5=>?_;obtain ⟨zr,ks,ly,f,v11,v12,v13,rfl,sm,gm,MM,gd,gh,LA,gz,LZ,J,lk⟩:=hI_5;obtain ⟨rx,erx,rfl⟩:=qBG hx;obtain ⟨x,ec,_⟩:=qAG LA erx;refine hG_5 ?_;refine ⟨_,rfl,ml,rfl,⟨_,SqL.of gm⟩,qFG (a:=ml) (xs:=rsm.map V.ref) (fun k σ Hc=>∃ (zr:List Addr) (ks ly:List La) (f:La->Nat) (v12 v13:Option V),σ=[some (.ref a),some (.ref wd),some (.ref sz),some (.ref d),some (.ref ml),some (.ref hl),some (.int ((many+1:Nat):Int)),some (.int (at_:Int)),v8,v9,some (.ref lz),some (.ref rx),v12,v13]/\Same H Hc/\Hc ml=some (.lst (rsm.map V.ref))/\MosL Hc rsm (qBN (Af.length:Int) (sizes.length:Int))/\Hc d=some (.dT (kvC ks f))/\Hc hl=some (.lst (rs.map V.ref))/\LaysAt Hc rs cl/\Hc lz=some (.lst (zr.map V.ref))/\LaysAt Hc zr ly/\A2O Af wides sizes many ks f cl ly i k/\many+1+ly.length<=ks.length)
     ⟨zr,ks,ly,f,v12,v13,rfl,sm,gm,MM,gd,gh,LA,gz,LZ,J,lk⟩ (fun i σ Hc _ hP=>by obtain ⟨_,_,_,_,_,_,_,_,g,_⟩:=hP;exact SqL.of g) ?_ ?_⟩
    ·clear sm gm MM gd gh LA gz LZ J lk;refine fun k y σ Hc hy hI_6 Nc hNc=>opq fun G_6 hG_6=>?_;obtain ⟨zr,ks,ly,f,v12,v13,rfl,sm,gm,MM,gd,gh,LA,gz,LZ,J,lk⟩:=hI_6;obtain ⟨rm,erm,rfl⟩:=qBG hy;obtain ⟨mo,emo,gmo⟩:=qAG MM erm;refine hG_6 ?_;have kl:=J.fd.len;obtain ⟨rx',erx',grx⟩:=qHD LA ec;rw [erx] at erx';cases erx';have hk:=(List.getElem?_eq_some_iff.mp emo).1;have emv:mvO Af sizes k=mo:=by unfold mvO;rw [List.getD_eq_getElem?_getD,emo];rfl
     have xk:=(J.clm x).mp (List.mem_of_getElem? ec);have lx:=(J.fd.snd x xk.1).2.1.lay.1;have hin:=List.mem_of_getElem? emo;have hb:=qHI hin;have nhd:d ≠ hl:=qCR gd gh (by intro z;cases z)
     refine ⟨_,rfl,rm,_,_,_,rfl,rfl,SqT.of gmo,show atI mo.vs 0=some (.str (match mo.dk with | true=>"do" | false=>"clear")) from by unfold Mo.vs;cases mo.dk <;> rfl,rfl,_,rfl,?_⟩
     cases hdk:mo.dk with
     | false=>
      rw [decide_eq_false (show ¬ V.str (Str.ofString "clear")=V.str (Str.ofString "do") from fun z=>qBP (V.str.inj z))]
      exact hNc _ _ ⟨zr,ks,ly,f,_,_,rfl,sm,gm,MM,gd,gh,LA,gz,LZ,J.hit ec fun c=>absurd c.2.1 (by rw [emv,hdk];exact Bool.false_ne_true),lk⟩
     | true=>
      rw [decide_eq_true (rfl:V.str (Str.ofString "do")=V.str (Str.ofString "do"))]
      obtain ⟨ns,o,sv,wv,TI,ef⟩:=(T.same sm).tinO grx lx gmo hin;refine ⟨_,rfl,_,rfl,_,rfl,_,rfl,_,rfl,a,wd,sz,rx,rm,Af,wides,sizes,x,mo,ns,o,sv,wv,rfl,TI,(fun e=>nomatch e),fun H6 s6=>?_⟩;rw [<- ef];have sm:=sm.trans s6;have gm:=s6 _ _ gm;have MM:=MosL.same MM s6;have gd:=s6 _ _ gd;have gh:=s6 _ _ gh;have LA:=LA.same s6;have gz:=s6 _ _ gz;have LZ:=LZ.same s6;have grx:=s6 _ _ grx;have gmo:=s6 _ _ gmo;clear s6 TI ef;refine ⟨_,rfl,?_⟩;by_cases cf:fwO Af wides sizes x mo=.non
      ·rw [decide_eq_true cf];have cn:canO Af wides sizes x k:=⟨hk,by rw [emv];exact hdk,by rw [emv];exact cf⟩
       have eor:orO Af sizes x k=beO x mo:=by unfold orO;rw [emv]
       refine iteT (cut fun L2 hL2=>?_);refine ⟨_,rfl,_,rfl,rx,rm,x,mo,rfl,grx,gmo,hb.1,by rw [lx];lia,by rw [lx];lia,fun r H7 s7 gr=>?_⟩
       have gr:H7 r=some (.tup ((beO x mo).map oV)):=gr;have sm:=sm.trans s7;have gm:=s7 _ _ gm;have MM:=MosL.same MM s7;have gd:=s7 _ _ gd;have gh:=s7 _ _ gh;have LA:=LA.same s7;have gz:=s7 _ _ gz;have LZ:=LZ.same s7;clear s7 grx gmo;refine hL2 _ _ ?_;refine ⟨_,rfl,_,rfl,d,_,rfl,.inr ⟨kvC ks f,keyO (beO x mo),r,.inl gd,rfl,by rw [qBD];exact gr,rfl⟩,_,rfl,?_⟩
       rw [qHL];by_cases ck:beO x mo ∈ ks
       ·rw [if_pos ck];exact hNc _ _ ⟨zr,ks,ly,f,_,_,rfl,sm,gm,MM,gd,gh,LA,gz,LZ,J.hit ec fun _=>by rw [eor];exact ck,lk⟩
       ·rw [if_neg ck];refine iteT (cut fun L3 hL3=>?_);refine ⟨_,rfl,_,rfl,_,rfl,d,_,rfl,.inr ⟨kvC ks f,keyO (beO x mo),r,gd,rfl,by rw [qBD];exact gr,qAU (by rw [qJP];lia),rfl⟩,?_⟩
        rw [qQ0 ck];refine hL3 _ _ ?_;have gz1:(Ah H7 d (.dT (kvC (ks++[beO x mo]) (fsO f (beO x mo) (many+1))))) lz=some (.lst (zr.map V.ref)):=by rw [qA8 ndz.symm];exact gz
        have lzr:zr.length=ly.length:=Paired.length LZ;have nt:∀ kk xs,HO.dT kk ≠ .tup xs:=fun kk xs q=>by cases q
        have nt2:∀ kk xs,HO.lst kk ≠ .tup xs:=fun kk xs q=>by cases q
        refine ⟨_,rfl,.inl ⟨rfl,_,SqL.of gz1⟩,_,rfl,lz,_,_,rfl,rfl,gz1,qAU (by rw [List.length_map];lia),?_⟩
        have J2:=J.add ec cn (by rw [eor];exact ck)
        rw [eor] at J2;exact hNc _ _ ⟨zr++[r],ks++[beO x mo],ly++[beO x mo],fsO f (beO x mo) (many+1),_,_,rfl,qAB (qAB sm fdn) flz,by rw [qA8 nmz,qA8 ndm.symm];exact gm,qGB (qGB MM gd (nt _)) gz1 (nt2 _),by rw [qA8 ndz,qA1],by rw [qA8 nhz,qA8 nhd.symm];exact gh,(LA.put gd (nt _)).put gz1 (nt2 _),by rw [qA1,qAX],((LZ.snoc gr).put gd (nt _)).put gz1 (nt2 _),J2,by rw [List.length_append,List.length_append,List.length_singleton];lia⟩
      ·rw [decide_eq_false cf];exact hNc _ _ ⟨zr,ks,ly,f,_,_,rfl,sm,gm,MM,gd,gh,LA,gz,LZ,J.hit ec fun c=>absurd c.2.2 (by rw [emv];exact cf),lk⟩
    ·refine fun σ Hc hI_7=>opq fun G_7 hG_7=>?_;obtain ⟨zr,ks,ly,f,v12,v13,rfl,sm,gm,MM,gd,gh,LA,gz,LZ,J,lk⟩:=hI_7;refine hG_7 ?_;rw [List.length_map,Paired.length MM] at J;exact hNb _ _ ⟨zr,ks,ly,f,_,_,_,rfl,sm,gm,MM,gd,gh,LA,gz,LZ,J.next,lk⟩
   ·refine fun σ Hc hI_8=>opq fun G_8 hG_8=>?_;obtain ⟨zr,ks,ly,f,v11,v12,v13,rfl,sm,gm,MM,gd,gh,LA,gz,LZ,J,lk⟩:=hI_8;refine hG_8 ?_;have kl:=J.fd.len;rw [List.length_map,lrs] at J;refine ⟨_,rfl,hW0 _ _ ⟨16808 - (many+1),by lia,lz,zr,ks,ly,f,many+1,_,_,_,_,_,_,_,rfl,rfl,sm,flz,nmz.symm,gm,MM,gd,gz,LZ,J.one (Nat.le_refl _),fun hne=>?_⟩⟩
    have:=List.length_pos_iff.mpr hne
    lia
 ·have le:ly=[]:=by
   cases ly with
   | nil=>rfl
   | cons x xs=>
    exfalso
    cases rs with
    | nil=>cases lrs
    | cons _ _=>exact cn rfl
  subst le;refine hN5 _ _ ?_;exact ⟨_,rfl,d,_,rfl,gd1,fun o=>q d o ks f _ (qAB sm1 fdn) fdn qA1 I1.come⟩
theorem qM1:FnScope ["_law_layout","_law_asked_here"] ["_law_layout","_law_asked_here"] (qAA qEC):=qC2
theorem ok_Lhas_all (F:Fun K "_law_has_all" "_law_has_all" qEC f fd):FnOk P w K mg base CX0 1 f fd ["_law_layout","_law_asked_here"] qF3:=by
 refine F.okA qM1 fun cdv A outer s H vs Q E hr h=>?_;obtain ⟨la,r,lay,ns,rfl,hla,hns,l1,q⟩:=h;have hu0:=hr.units0;refine ⟨_,(qA7 (qAE (qE2 (qHG hu0) (qD7 rfl (lcs (own:=["_law_work"]) (fv:=[0]) (by kernel_rfl)) (qKM (pv 1)) (fun z1=>qBQ 0) (fun z1=>(qEN (qAI (qKR (K:=K) rfl) (pv 0) (pv 1) (by with_unfolding_all rfl)))) (fun z1=>(pv 0))) (qBB qA3) (qAQ _)))),?_⟩
 try dsimp only [Cx.nox,Cx.wish,cxOf]
 refine ⟨_,rfl,r,rfl,⟨_,SqT.of hns⟩,fun p hp=>?_⟩;refine qIY (p:=p) (a:=r) (xs:=ns.map V.int) (fun i σ Hc=>∃ (v:Option V),σ=[v,some (.ref la)]/\Same H Hc/\Hc p=some (.lst (((ns.take i).filter fun x=>!decide (some x ∈ lay)).map V.int))) ?_ ?_ ?_ ?_
 ·exact ⟨none,rfl,qA2 hp _,qA1⟩
 ·rintro i σ Hc hi ⟨v,rfl,sm,_⟩;exact SqT.of (sm _ _ hns)
 ·refine fun i x σ Hc hx hI_2=>opq fun G_2 hG_2=>?_;obtain ⟨v,rfl,sm,hpc⟩:=hI_2;obtain ⟨z,ez,rfl⟩:=qEV hx;refine hG_2 ?_;have hi:i<ns.length:=(List.getElem?_eq_some_iff.mp ez).1;have lk:=qE5 (p:=fun x=>!decide (some x ∈ lay)) (l:=ns) (i:=i);refine ⟨_,rfl,_,rfl,la,_,rfl,.inr (SqT.of (sm _ _ hla)),rfl,qFH lay,_,rfl,?_⟩;rw [qHN,qCT ez];by_cases e:some z ∈ lay
  ·rw [decide_eq_true e];refine ⟨_,rfl,sm,?_⟩;simpa using hpc
  ·rw [decide_eq_false e];refine ⟨_,rfl,_,hpc,qAM (by rw [List.length_map];lia),_,rfl,qAB sm hp,?_⟩
   rw [qA1,if_pos (show (!false)=true from rfl),List.map_append]
   rfl
 refine fun σ H1 hI_3=>opq fun G_3 hG_3=>?_;obtain ⟨v,rfl,sm1,hpc⟩:=hI_3;refine hG_3 ?_;rw [List.length_map,qGN rfl] at hpc;refine ⟨(by show 0<=sizeLine;decide),fun e0 he0=>?_⟩
 have s0:=qA2 he0 (.lst []);refine ⟨p,e0,_,rfl,rfl,SqL.of (s0 _ _ hpc),SqL.of qA1,?_⟩;have e:((ns.filter fun x=>!decide (some x ∈ lay)).map V.int).isEmpty=decide (∀ x ∈ ns,some x ∈ lay):=by
  by_cases c:∀ x ∈ ns,some x ∈ lay
  ·rw [decide_eq_true c];have:(ns.filter fun x=>!decide (some x ∈ lay))=[]:=by
    rw [List.filter_eq_nil_iff];intro x hx;simp [c x hx]
   rw [this];rfl
  ·rw [decide_eq_false c];cases hf:(ns.filter fun x=>!decide (some x ∈ lay)) with
   | nil=>
    refine absurd (fun x hx=>?_) c;have:=(List.filter_eq_nil_iff.mp hf) x hx;simpa using this
   | cons y ys=>rfl
 rw [e];exact q _ (sm1.trans s0)
theorem sc_Lled:FnScope ["_law_net_here","_law_wides","_law_sizes","_law_plan","_law_layout","_law_moves","_law_move"] ["_law_net_here","_law_wides","_law_sizes","_law_plan"] (qAA qMY):=qC2
theorem ok_Lled (F:Fun K "_law_led" "_law_led" qMY f fd) (qD2:Clb P w K mg base 1 qD1 qFK "_law_all_moves" ["_law_net_here","_law_sizes"] qLW) (qI3:Clb P w K mg base 4 qE6 qEJ "_law_same" ["_law_found","_law_due"] (spS 4)) (qH1:Clb P w K mg base 1 qGY qLE "_law_fault" ["_law_net_here","_law_wides","_law_sizes","_law_layout","_law_move"] (spTh false)) (qLS:Clb P w K mg base 1 qNJ qQJ "_law_put" ["_law_layout","_law_move"] qKC) (qBF:mg "len" = none) (qX2:mg "any" = none):FnOk P w K mg base CX0 5 f fd ["_law_net_here","_law_wides","_law_sizes","_law_plan"] qSY:=by
 refine F.okA sc_Lled fun cdv A outer s H vs Q E hr h=>?_;obtain ⟨a,wd,sz,l,Af,wides,sizes,rs,ms,st,rfl,T,hl,M,R,q⟩:=h;refine ⟨_,(qA4 (qAD (i:=4) sc_Lled.nd rfl (Or.inl rfl) (qAR qM6 (qC8 (qA0 qCZ qA3)) (qA9 qAC rfl qBF qBL (qA0 (pv 2) qA3)))) (qA4 (qAD (i:=5) sc_Lled.nd rfl (Or.inl rfl) (qB3 qD2 hr rfl (qA0 (pv 0) (qA0 (pv 2) qA3)))) (qA4 (qD6 PassesOwn.never rfl (qBV (pv 3)) (qB9 (i:=6) sc_Lled.nd rfl (Or.inr rfl)) (qA4 (qBE (qGA (qDT (qA9 (qSR rfl) rfl qX2 qWW (qA0 (qD7 rfl (lcs (own:=["_law_other"]) (fv:=[6]) (by kernel_rfl)) (qBV (pv 5)) (fun z2=>qBQ 0) (fun z2=>qB8) (fun z2=>(qB3 qI3 hr rfl (qA0 (pv 1) (qA0 (pv 0) qA3))))) qA3)))) (qA7 (qAE qCZ)) qAJ) (qA4 (qBE (qCP (qJJ (qB3 qH1 hr rfl (qA0 (pv 0) (qA0 (pv 1) (qA0 (pv 2) (qA0 (pv 4) (qA0 (pv 6) qA3)))))))) (qA7 (qAE qCZ)) qAJ) (qA7 (qAD (i:=4) sc_Lled.nd rfl (Or.inl rfl) (qB3 qLS hr rfl (qA0 (pv 4) (qA0 (pv 6) qA3)))))))) (qA7 (qAE (pv 4)))))),?_⟩
 try dsimp only [Cx.nox,Cx.wish,cxOf]
 have k1:=T.k1;have k5:=T.k5;have n6:=T.n6;have lsz:(((sizes.map V.int).length:Nat):Int)=(sizes.length:Int):=by rw [List.length_map]
 refine ⟨(by show 1<=sizeLine;decide),fun t1 ht1=>?_⟩
 have s1:=qA2 ht1 (.tup [.non]);refine ⟨_,rfl,sz,_,rfl,.inr (SqT.of (s1 _ _ T.sizes_)),?_⟩;rw [lsz];refine qFV qA1 k1 (by lia) fun la H1 sm1 gla=>?_
 have sA:=s1.trans sm1;refine ⟨_,rfl,_,rfl,a,sz,Af,sizes,rfl,T.net_.same sA,n6,sA _ _ T.sizes_,k5,fun ml H2 s2 fm MA=>?_⟩;obtain ⟨rsm,gm,MM⟩:=MA;have sB:=sA.trans s2;have lrm:rsm.length=(qBN (Af.length:Int) (sizes.length:Int)).length:=Paired.length MM;refine ⟨_,rfl,l,rfl,⟨_,SqL.of (sB _ _ hl)⟩,qNI (a:=l) (xs:=rs.map V.ref) (fun i σ Hc=>∃ (la:Addr) (lay:La) (v6:Option V),σ=[some (.ref a),some (.ref wd),some (.ref sz),some (.ref l),some (.ref la),some (.ref ml),v6]/\Same H Hc/\Hc la=some (.tup (lay.map oV))/\lay.length=sizes.length/\RunO Af wides sizes lay (ms.drop i) st/\Hc ml=some (.lst (rsm.map V.ref))/\MosL Hc rsm (qBN (Af.length:Int) (sizes.length:Int)))
  ⟨la,l0 sizes,none,rfl,sB,s2 _ _ gla,List.length_replicate,R,gm,MM⟩ (fun i σ Hc _ hP=>by obtain ⟨_,_,_,_,sm,_⟩:=hP;exact SqL.of (sm _ _ hl)) ?_ ?_⟩
 ·clear s1 sm1 gla sA s2 fm gm MM sB;refine fun i x σ Hc hx hI_4=>opq fun G_4 hG_4=>?_;obtain ⟨la,lay,v6,rfl,sm,gla,ll,R,gm,MM⟩:=hI_4;obtain ⟨mv,hmv,rfl⟩:=qBG hx;obtain ⟨mo,hmo,gmv⟩:=qAG M hmv;refine hG_4 ?_;have ed:ms.drop i=mo::ms.drop (i+1):=by
   rw [List.drop_eq_getElem_cons (List.getElem?_eq_some_iff.mp hmo).1,(List.getElem?_eq_some_iff.mp hmo).2]
  rw [ed] at R;cases R with
  | cons hin R=>
  have gmv:=sm _ _ gmv;have hpr:=qIW (List.mem_filter.mp hin).1;refine ⟨_,rfl,ml,rfl,⟨_,SqL.of gm⟩,fun p hp=>?_⟩;refine qE4 (p:=p) (a:=ml) (xs:=rsm.map V.ref) (fun j σ Hd=>∃ (v:Option V),σ=[v,some (.ref mv)]/\Same Hc Hd/\Hd p=some (.lst ((((qBN (Af.length:Int) (sizes.length:Int)).take j).map fun m'=>decide (mo.vs=m'.vs)).map V.bl))) ?_ ?_ ?_ ?_
  ·exact ⟨none,rfl,qA2 hp _,qA1⟩
  ·rintro j σ Hd hj ⟨v,rfl,sd,_⟩;exact SqL.of (sd _ _ gm)
  ·refine fun j x σ Hd hx hI_6=>opq fun G_6 hG_6=>?_;obtain ⟨v,rfl,sd,hpd⟩:=hI_6;obtain ⟨ro,hro,rfl⟩:=qBG hx;obtain ⟨m',hm',gm'⟩:=qAG MM hro;refine hG_6 ?_;have hj:=(List.getElem?_eq_some_iff.mp hm').1;have la7:=qOM (Af.length:Int) sizes.length;have lb:sizes.length * (((Af.length:Int)).toNat+1)<=5 * 7:=Nat.mul_le_mul (by lia) (by lia)
   refine ⟨_,rfl,_,rfl,.ref mv,.ref ro,_,rfl,qW5 (sd _ _ gmv) (sd _ _ gm'),fun H5 s5=>?_⟩;refine ⟨_,s5 _ _ hpd,qAM (by rw [List.length_map,List.length_map,List.length_take];lia),_,rfl,qAB (sd.trans s5) hp,?_⟩
   rw [qA1,List.take_add_one,hm',Option.toList_some,List.map_append,List.map_append]
   rfl
  refine fun σ Hd hI_7=>opq fun G_7 hG_7=>?_;obtain ⟨v,rfl,sd,hpd⟩:=hI_7;refine hG_7 ?_;rw [List.length_map,lrm,List.take_length] at hpd;refine ⟨p,_,rfl,SqL.of hpd,?_⟩;have ea:((qBN (Af.length:Int) (sizes.length:Int)).map fun m'=>decide (mo.vs=m'.vs)).any id=true:=List.any_eq_true.mpr ⟨true,List.mem_map.mpr ⟨mo,hpr,decide_eq_true rfl⟩,rfl⟩;rw [ea];refine ⟨_,rfl,?_⟩;have smd:=sm.trans sd;obtain ⟨ns,o,sv,wv,TI,ef⟩:=(T.same smd).tinO (sd _ _ gla) ll (sd _ _ gmv) hpr;refine ⟨_,rfl,_,rfl,_,rfl,_,rfl,_,rfl,a,wd,sz,la,mv,Af,wides,sizes,lay,mo,ns,o,sv,wv,rfl,TI,(fun e=>nomatch e),fun H6 s6=>?_⟩;have nb:=qM7 hin;rw [<- ef,nb.2.2];refine ⟨_,rfl,?_⟩;rw [decide_eq_true (rfl:V.non=V.non)];have s7:=sd.trans s6;exact ⟨_,rfl,_,rfl,la,mv,lay,mo,rfl,s7 _ _ gla,s7 _ _ gmv,nb.1.1,by lia,by lia,fun r H8 s8 gr=>⟨r,beO lay mo,_,rfl,(sm.trans s7).trans s8,gr,by unfold beO;rw [List.length_set];exact ll,R,s8 _ _ (s7 _ _ gm),(MosL.same MM s7).same s8⟩⟩
 ·refine fun σ Hc hI_8=>opq fun G_8 hG_8=>?_;obtain ⟨la,lay,v6,rfl,sm,gla,ll,R,gm,MM⟩:=hI_8;refine hG_8 ?_;rw [List.length_map,Paired.length M,List.drop_length] at R;cases R;exact ⟨_,rfl,q la Hc sm gla⟩
theorem sc_Lright:FnScope ["_law_net_here","_law_wides","_law_sizes","_law_asked_here","_law_come","_law_found","_law_steps","_law_rows","_law_due","_law_layout"] ["_law_net_here","_law_wides","_law_sizes","_law_asked_here","_law_come","_law_found"] (qAA qGP):=qC2
theorem ok_Lright (F:Fun K "_law_right" "_law_right" qGP f fd) (qG7:Clb P w K mg base 1 qG3 qMH "_law_has_all" ["_law_layout","_law_asked_here"] qF3) (qI3:Clb P w K mg base 4 qE6 qEJ "_law_same" ["_law_found","_law_due"] (spS 4)) (qTL:Clb P w K mg base 5 qQN qUL "_law_led" ["_law_net_here","_law_wides","_law_sizes","_law_plan"] qSY) (qBY:mg "sorted" = none) (qAT:mg "tuple" = none) (qAH:mg "isinstance" = none) (qBF:mg "len" = none) (qDS:mg "list" = none) (qFU:mg "min" = none):FnOk P w K mg base CX0 6 f fd ["_law_net_here","_law_wides","_law_sizes","_law_asked_here","_law_come","_law_found"] qMP:=by
 refine F.okA sc_Lright fun cdv A outer s H vs Q E hr h=>?_;obtain ⟨a,wd,sz,t,d,F,o,Af,wides,sizes,Ad,ks,kc,fu,g,rfl,T,hT,la,hd,CM,RC,EN,q⟩:=h;have hu:=qME hr;have hu0:=hr.units0;have hu64:=hr.units;refine ⟨_,(qA4 (qKK (i:=6) sc_Lright.nd rfl rfl rfl (lcs (own:=["_law_layout"]) (fv:=[4,3]) (by kernel_rfl)) (qJI (pv 4)) (fun z1=>qBQ 0) (fun z1=>(qEN (qDT (qB3 qG7 hr rfl (qA0 (pv 0) (qA0 (pv 2) qA3)))))) (fun z1=>(qCQ hu (pv 1) (pv 0) (fun _ _=>rfl))) (by kernel_rfl)) (qA4 (qBE (qAI (qHG hu0) (pv 6) (qBB qA3) (qAQ _)) (qA4 (qAD (i:=7) sc_Lright.nd rfl (Or.inl rfl) (qA9 (L2.G.call_sortedLL rfl hu64) rfl qBY qE9 (qA0 (qD7 rfl (lcs (own:=["_law_layout"]) (fv:=[]) (by kernel_rfl)) (qJI (pv 4)) (fun z2=>qBQ 0) (fun z2=>qB8) (fun z2=>(qD7 (X:=lcCx _ _ _ _ z2) rfl (lcs (own:=["_law_work"]) (fv:=[]) (by kernel_rfl)) (qPF (K:=K) rfl (pv 0)) (fun z3=>qBQ 0) (fun z3=>qB8) (fun z3=>(qCF (qCP (qF7 (pv 0))) (qRW qML qA6) (pv 0)))))) qA3))) (qA4 (qKK (i:=8) sc_Lright.nd rfl rfl rfl (lcs (own:=["_law_one"]) (fv:=[]) (by kernel_rfl)) (qBV (pv 7)) (fun z4=>qBQ 0) (fun z4=>qB8) (fun z4=>(qAF (qF0 (K:=K) rfl) rfl qAT qB2 (qA0 (qD7 (X:=lcCx _ _ _ _ z4) rfl (lcs (own:=["_law_work"]) (fv:=[]) (by kernel_rfl)) (qRV (K:=K) rfl (pv 0)) (fun z5=>qBQ 0) (fun z5=>qB8) (fun z5=>(qCF (qAI qPL (pv 0) qA6 (qAQ _)) qCZ (pv 0)))) qA3))) (by kernel_rfl)) (qA7 (qAE (qB3 qI3 hr rfl (qA0 (pv 5) (qA0 (qC8 (qA0 qB0 (qA0 (pv 8) qA3))) qA3))))))) qAJ) (qA4 (qBE (PW.pt (qM4 (qGA (qDT (qA9 qB1 rfl qAH qAO (qA0 (pv 5) (qA0 (qC5 (v:=.ty "tuple") rfl qAT qB2 rfl) qA3))))) (qM4 (qAI qO5 (qA9 qAC rfl qBF qBL (qA0 (pv 5) qA3)) qA6 (qAQ _)) (qM4 (qAI qO5 (qB6 qAW (pv 5) qA6 (fun _ _=>rfl)) qB0 (qAQ _)) (qMZ (qGA (qDT (qA9 qB1 rfl qAH qAO (qA0 (qB6 qAW (pv 5) qA6 (fun _ _=>rfl)) (qA0 (qC5 (v:=.ty "list") rfl qDS qG5 rfl) qA3)))))))))) (qA7 (qAE qM5)) qAJ) (qA4 (qAD (i:=9) sc_Lright.nd rfl (Or.inl rfl) (qB3 qTL hr rfl (qA0 (pv 0) (qA0 (pv 1) (qA0 (pv 2) (qA0 (qB6 qAW (pv 5) qA6 (fun _ _=>rfl)) qA3)))))) (qA4 (qBE (PW.pt (qM4 (qCP (qF7 (pv 9))) (qM4 (qGA (qDT (qB3 qG7 hr rfl (qA0 (pv 9) (qA0 (pv 3) qA3))))) (qMZ (qGA (qDT (qB3 qI3 hr rfl (qA0 (qB6 qAW (pv 5) qA6 (fun _ _=>rfl)) (qA0 (qA9 (qLK rfl) rfl qFU qHZ (qA0 (pv 6) qA3)) qA3))))))))) (qA7 (qAE qM5)) qAJ) (qA7 (qAE (qE2 qEL (qA9 qAC rfl qBF qBL (qA0 (qD7 rfl (lcs (own:=["_law_move"]) (fv:=[]) (by kernel_rfl)) (qBV (qB6 qAW (pv 5) qA6 (fun _ _=>rfl))) (fun z6=>qBQ 0) (fun z6=>(qEN (qAI qEL (qB6 (qMD (K:=K) rfl) (pv 0) qA6 (fun _ _=>rfl)) qB0 (qAQ _)))) (fun z6=>(pv 0))) qA3)) (qA9 (qLK rfl) rfl qFU qHZ (qA0 (pv 6) qA3)) (qAQ _))))))))),?_⟩
 try dsimp only [Cx.nox,Cx.wish,cxOf]
 have k5:=T.k5;have n6:=T.n6;obtain ⟨me,eg⟩:=CM.same RC;have okc:∀ s ∈ kc,s.length=sizes.length/\LayOk (Af.length:Int) s:=fun s hs=>RC.ok ((me s).mp hs);have lk:kc.length<=16807:=Nat.le_trans (qD8 (n:=Af.length) (k:=sizes.length) CM.nd okc) (Nat.le_trans (Nat.pow_le_pow_left (show Af.length+1<=7 by lia) _) (Nat.pow_le_pow_right (show 0<7 by decide) k5))
 have lkv:=qJP kc g;refine ⟨_,rfl,d,o,_,rfl,hd,fun sl hsl=>?_⟩;refine qJN (p:=sl) (a:=d) (o:=o) (Ag:=kvC kc g) (fun k σ Hd=>∃ (v0:Option V),σ=[v0,some (.ref d),some (.ref t)]/\Same H Hd/\Hd sl=some (.lst ((((kc.take k).filter fun s=>decide (∀ x ∈ Ad,some x ∈ s)).map fun s=>(g s:Int)).map V.int))) ?_ ?_ ?_ ?_
 ·exact ⟨none,rfl,qA2 hsl _,qA1⟩
 ·refine fun k σ Hd hk hI_1=>opq fun G_1 hG_1=>?_;obtain ⟨v0,rfl,sd,_⟩:=hI_1;refine hG_1 ?_;exact sd _ _ hd
 ·refine fun k key v r σ Hd hx hr2 hI_2=>opq fun G_2 hG_2=>?_;obtain ⟨v0,rfl,sd,ge⟩:=hI_2;refine hG_2 ?_;unfold kvC at hx;rw [List.getElem?_map] at hx;obtain ⟨st,hst,e1⟩:=Option.map_eq_some_iff.mp hx;cases e1;rw [qBD] at hr2;have hk2:=(List.getElem?_eq_some_iff.mp hst).1;have sk:=List.mem_of_getElem? hst;have lE2:=List.length_filter_le (fun s:La=>decide (∀ x ∈ Ad,some x ∈ s)) (kc.take k);rw [List.length_take] at lE2;refine ⟨_,rfl,_,rfl,r,t,st,Ad,rfl,hr2,sd _ _ hT,la,fun H2 s2=>⟨_,rfl,?_⟩⟩;rw [List.take_add_one,hst,Option.toList_some,List.filter_append];by_cases c:∀ x ∈ Ad,some x ∈ st
  ·rw [decide_eq_true c];refine ⟨_,rfl,_,rfl,d,.int (g st:Int),rfl,.inr ⟨kvC kc g,keyO st,r,.inr ⟨o,s2 _ _ (sd _ _ hd)⟩,rfl,by rw [qBD];exact s2 _ _ hr2,by rw [qHL,if_pos sk]⟩,_,s2 _ _ ge,qAU (by rw [List.length_map,List.length_map];lia),_,rfl,qAB (sd.trans s2) hsl,?_⟩
   rw [qA1,List.filter_cons,if_pos (decide_eq_true c),List.map_append,List.map_append]
   rfl
  ·rw [decide_eq_false c];refine ⟨_,rfl,sd.trans s2,?_⟩;rw [List.filter_cons,if_neg (by rw [decide_eq_false c];exact Bool.false_ne_true),List.filter_nil,List.append_nil]
   exact s2 _ _ ge
 refine fun σ H1 hI_3=>opq fun G_3 hG_3=>?_;obtain ⟨v0,rfl,s1,ge⟩:=hI_3;refine hG_3 ?_;rw [lkv,List.take_length] at ge;refine ⟨_,rfl,(by show 0<=sizeLine;decide),fun e0 he0=>?_⟩
 have s0:=qA2 he0 (.lst []);refine ⟨sl,e0,_,rfl,rfl,SqL.of (s0 _ _ ge),SqL.of qA1,_,rfl,?_⟩;have sA:=s1.trans s0;have ge:=s0 _ _ ge;generalize Ah H1 e0 (.lst [])=H2 at sA ge ⊢;clear s0 he0 s1;have hd2:=sA _ _ hd;rcases EN with ⟨no,p,rs,L,hF,hp,LA,pL,sL⟩ | ⟨st,hs,ha,hm,p,rs,ms,hF,hp,ML,RU,ed,lm⟩
 ·have e0:kc.filter (fun s=>decide (∀ x ∈ Ad,some x ∈ s))=[]:=qSI me fun s hs=>decide_eq_false (no s hs);rw [e0];refine iteT ?_;have hF2:=sA _ _ hF;have lL:L.length<=16807:=by rw [pL.length_eq];exact Nat.le_trans (qPV RC.nd (fun x hx=>(me x).mpr hx) CM.nd) lk
  have l5:∀ s ∈ kc,s.length<=1000:=fun s hs=>by have:=(okc s hs).1;lia
  refine ⟨_,rfl,d,o,_,rfl,hd2,fun rl hrl=>?_⟩;refine qJN (p:=rl) (a:=d) (o:=o) (Ag:=kvC kc g) (fun k σ Hd=>∃ (v0:Option V) (fs:List Addr),σ=[v0]/\Same H2 Hd/\Hd rl=some (.lst (fs.map V.ref))/\L2.G.LstsAt Hd fs ((kc.take k).map rkO)/\∀ x ∈ fs,x ≠ rl) ?_ ?_ ?_ ?_
  ·exact ⟨none,[],rfl,qA2 hrl _,qA1,.nil,fun x hx=>nomatch hx⟩
  ·refine fun k σ Hd hk hI_4=>opq fun G_4 hG_4=>?_;obtain ⟨v0,fs,rfl,sd,_⟩:=hI_4;refine hG_4 ?_;exact sd _ _ hd2
  ·refine fun k key v r σ Hd hx hr2 hI_5=>opq fun G_5 hG_5=>?_;obtain ⟨v0,fs,rfl,sd,gl,LF,nf⟩:=hI_5;refine hG_5 ?_;unfold kvC at hx;rw [List.getElem?_map] at hx;obtain ⟨st,hst,e1⟩:=Option.map_eq_some_iff.mp hx;cases e1;rw [qBD] at hr2;have hk2:=(List.getElem?_eq_some_iff.mp hst).1;have l1:=l5 st (List.mem_of_getElem? hst);have lfs:fs.length=((kc.take k).map rkO).length:=Paired.length LF;rw [List.length_map,List.length_take] at lfs;refine ⟨_,rfl,r,rfl,⟨_,SqT.of hr2⟩,fun p2 hp2=>?_⟩;have n2:p2 ≠ rl:=(qA5 gl hp2).symm;refine qIY (p:=p2) (a:=r) (xs:=st.map oV) (fun i σ Hc=>∃ (v:Option V),σ=[v]/\Same Hd Hc/\Hc p2=some (.lst ((rkO (st.take i)).map V.int))) ?_ ?_ ?_ ?_
   ·exact ⟨none,rfl,qA2 hp2 _,qA1⟩
   ·rintro i σ Hc hi ⟨v,rfl,sm,_⟩;exact SqT.of (sm _ _ hr2)
   ·refine fun i x σ Hc hx hI_7=>opq fun G_7 hG_7=>?_;obtain ⟨v,rfl,sm,hpc⟩:=hI_7;refine hG_7 ?_;rw [List.getElem?_map] at hx;obtain ⟨ov,ho,rfl⟩:=Option.map_eq_some_iff.mp hx;have hi:=(List.getElem?_eq_some_iff.mp ho).1;have bnd:((rkO (st.take i)).map V.int).length<sizeLine:=qAM (by unfold rkO;rw [List.length_map,List.length_map,List.length_take];lia)
    have fin:∀ y:Int,rk1 ov=y->∀ lst,lst=(rkO (st.take i)).map V.int++[V.int y]->lst=(rkO (st.take (i+1))).map V.int:=by
     intro y ey lst el;rw [el,<- ey,List.take_add_one,ho];unfold rkO;rw [Option.toList_some,List.map_append,List.map_append]
     rfl
    cases ov with
    | none=>
     refine ⟨_,rfl,_,rfl,?_⟩;rw [decide_eq_true (show oV none=V.non from rfl)];exact ⟨_,rfl,_,hpc,bnd,_,rfl,qAB sm hp2,by rw [qA1];exact congrArg (fun l=>some (HO.lst l)) (fin _ rfl _ rfl)⟩
    | some z=>
     refine ⟨_,rfl,_,rfl,?_⟩;rw [decide_eq_false (show ¬ oV (some z)=V.non from fun e=>nomatch e)];exact ⟨_,rfl,_,hpc,bnd,_,rfl,qAB sm hp2,by rw [qA1];exact congrArg (fun l=>some (HO.lst l)) (fin _ rfl _ rfl)⟩
   ·refine fun σ Hc hI_8=>opq fun G_8 hG_8=>?_;obtain ⟨v,rfl,sm,hpc⟩:=hI_8;refine hG_8 ?_;rw [List.length_map,List.take_of_length_le (Nat.le_refl _)] at hpc;have gl2:=sm _ _ gl;have pu:∀ {x:Addr} {xs:List V},x ≠ rl->Hc x=some (.lst xs)->(Ah Hc rl (.lst (fs.map V.ref++[.ref p2]))) x=some (.lst xs):=fun n h=>by rw [qA8 n];exact h
    refine ⟨_,gl2,qAU (by rw [List.length_map];lia),_,fs++[p2],rfl,qAB (sd.trans sm) hrl,by rw [qA1,qAX],?_,fun x hx=>?_⟩
    ·rw [List.take_add_one,hst,Option.toList_some,List.map_append];have L3:L2.G.LstsAt (Ah Hc rl (.lst (fs.map V.ref++[.ref p2]))) fs ((kc.take k).map rkO):=by
      have:∀ {FS:List V} {fs:List Addr} {ts:List (List Int)},L2.G.LstsAt Hd fs ts->(∀ x ∈ fs,x ≠ rl)->L2.G.LstsAt (Ah Hc rl (.lst (FS++[.ref p2]))) fs ts:=by
       intro FS fs ts h
       induction h with
       | nil=>intro _;exact .nil
       | cons g _ ih=>intro n;exact .cons (by rw [qA8 (n _ (by simp))];exact sm _ _ g) (ih fun x hx=>n x (List.mem_cons_of_mem _ hx))
      exact this LF nf
     exact Paired.snoc L3 (pu n2 hpc)
    ·rcases List.mem_append.mp hx with z | z
     ·exact nf x z
     ·rw [List.mem_singleton.mp z];exact n2
  refine fun σ H3 hI_9=>opq fun G_9 hG_9=>?_;obtain ⟨v0,fs,rfl,s3,gl,LF,nf⟩:=hI_9;refine hG_9 ?_;rw [lkv,List.take_length] at LF;refine ⟨rl,fs,kc.map rkO,rfl,SqL.of gl,LF,fun a2 rs2 ts2 fa2 pm2 T2 pt2 so2=>?_⟩;obtain rfl:=qRN RC.nd CM.nd me pL sL pt2 so2;have s4:=s3.trans (qA2 fa2 (.lst (rs2.map V.ref)));have ga2:(Ah H3 a2 (.lst (rs2.map V.ref))) a2=some (.lst (rs2.map V.ref)):=qA1;have T2:L2.G.LstsAt (Ah H3 a2 (.lst (rs2.map V.ref))) rs2 (L.map rkO):=Paired.mapP T2 fun _ _ g=>qA2 fa2 _ _ _ g;generalize Ah H3 a2 (.lst (rs2.map V.ref))=H4 at s4 ga2 T2 ⊢;clear gl LF nf s3 fa2 pm2;have sB:=sA.trans s4;have lr2:rs2.length=L.length:=by have:=Paired.length T2;rwa [List.length_map] at this
  refine ⟨_,rfl,a2,rfl,⟨_,SqL.of ga2⟩,fun dl hdl=>?_⟩;refine qE4 (p:=dl) (a:=a2) (xs:=rs2.map V.ref) (fun i σ Hd=>∃ (v:Option V) (fs:List Addr),σ=[v]/\Same H4 Hd/\Hd dl=some (.lst (fs.map V.ref))/\LaysAt Hd fs (L.take i)) ?_ ?_ ?_ ?_
  ·exact ⟨none,[],rfl,qA2 hdl _,qA1,.nil⟩
  ·rintro i σ Hd hi ⟨v,fs,rfl,sm,_⟩;exact SqL.of (sm _ _ ga2)
  ·refine fun i x σ Hd hx hI_11=>opq fun G_11 hG_11=>?_;obtain ⟨v,fs,rfl,sd,gd,LD⟩:=hI_11;obtain ⟨r2,hr2,rfl⟩:=qBG hx;obtain ⟨row,hrow,gr2⟩:=qAG T2 hr2;refine hG_11 ?_;rw [List.getElem?_map] at hrow;obtain ⟨st,hst,rfl⟩:=Option.map_eq_some_iff.mp hrow;have hi:=(List.getElem?_eq_some_iff.mp hst).1;have okst:=RC.ok (pL.mem_iff.mp (List.mem_of_getElem? hst));have lfs:fs.length=(L.take i).length:=Paired.length LD;rw [List.length_take] at lfs;have gr3:=sd _ _ gr2;refine ⟨_,rfl,r2,rfl,⟨_,SqL.of gr3⟩,fun p3 hp3=>?_⟩;refine qE4 (p:=p3) (a:=r2) (xs:=(rkO st).map V.int) (fun j σ Hc=>∃ (v:Option V),σ=[v]/\Same Hd Hc/\Hc p3=some (.lst ((((rkO st).take j).map unR).map oV))) ?_ ?_ ?_ ?_
   ·exact ⟨none,rfl,qA2 hp3 _,qA1⟩
   ·rintro j σ Hc hj ⟨v,rfl,sm,_⟩;exact SqL.of (sm _ _ gr3)
   ·refine fun j x σ Hc hx hI_13=>opq fun G_13 hG_13=>?_;obtain ⟨v,rfl,sm,hpc⟩:=hI_13;obtain ⟨w,ew,rfl⟩:=qEV hx;refine hG_13 ?_;have hj:=(List.getElem?_eq_some_iff.mp ew).1;have lrk:(rkO st).length=st.length:=List.length_map _;have bnd:((((rkO st).take j).map unR).map oV).length<sizeLine:=qAM (by rw [List.length_map,List.length_map,List.length_take];have:=okst.1;lia)
    have fin:∀ y:V,oV (unR w)=y->∀ lst,lst=(((rkO st).take j).map unR).map oV++[y]->lst=(((rkO st).take (j+1)).map unR).map oV:=by
     intro y ey lst el;rw [el,<- ey,List.take_add_one,ew,Option.toList_some,List.map_append,List.map_append]
     rfl
    refine ⟨_,rfl,_,_,rfl,rfl,_,rfl,?_⟩;by_cases c:w<0
    ·rw [decide_eq_true c];have e:oV (unR w)=.non:=by unfold unR;rw [if_pos c];rfl
     exact ⟨_,hpc,bnd,_,rfl,qAB sm hp3,by rw [qA1];exact congrArg (fun l=>some (HO.lst l)) (fin _ e _ rfl)⟩
    ·rw [decide_eq_false c];have e:oV (unR w)=.int w:=by unfold unR;rw [if_neg c];rfl
     exact ⟨_,rfl,_,hpc,bnd,_,rfl,qAB sm hp3,by rw [qA1];exact congrArg (fun l=>some (HO.lst l)) (fin _ e _ rfl)⟩
   ·refine fun σ Hc hI_14=>opq fun G_14 hG_14=>?_;obtain ⟨v,rfl,sm,hpc⟩:=hI_14;refine hG_14 ?_;rw [List.length_map,List.take_length,qVB okst.2] at hpc;refine ⟨p3,_,rfl,.inl ⟨SqL.of hpc,fun TT hTT=>?_⟩⟩;have sT:=qA2 hTT (.tup (st.map oV));have gd2:=sT _ _ (sm _ _ gd);refine ⟨_,gd2,qAU (by rw [List.length_map];lia),_,fs++[TT],rfl,qAB ((sd.trans sm).trans sT) hdl,by rw [qA1,qAX],?_⟩
    rw [List.take_add_one,hst,Option.toList_some];exact LaysAt.put (((LD.same sm).same sT).snoc qA1) gd2 fun xs z=>by cases z
  refine fun σ H5 hI_15=>opq fun G_15 hG_15=>?_;obtain ⟨v,fs,rfl,s5,gd,LD⟩:=hI_15;refine hG_15 ?_;rw [List.length_map,lr2,List.take_length] at LD;have sC:=sB.trans s5;refine ⟨_,rfl,_,rfl,(by show 2<=sizeLine;decide),fun T5 hT5=>?_⟩
  have s6:=qA2 hT5 (.tup [.str "none",.ref dl]);have sD:=sC.trans s6;have lrs:rs.length=L.length:=Paired.length LA;have lfs:fs.length=L.length:=Paired.length LD;have LA5:=LA.same sD;have LD5:=LD.same s6;refine ⟨.ref F,.ref T5,true,rfl,Alike.cmp (.inr ⟨true,F,T5,_,_,rfl,rfl,sD _ _ hF,qA1,rfl,(by show 2<=100000;decide),fun i x y hx hy=>?_⟩),fun H7 s7=>q H7 (sD.trans s7)⟩
  match i,hx,hy with
  | 0,hx,hy=>cases hx;cases hy;exact .inl ⟨rfl,.inr (.inr ⟨_,rfl⟩)⟩
  | 1,hx,hy=>
   cases hx;cases hy;refine .inr ⟨false,p,dl,_,_,rfl,rfl,sD _ _ hp,s6 _ _ gd,by rw [List.length_map,List.length_map,lrs,lfs],by rw [List.length_map];lia,fun j x y hx hy=>?_⟩
   obtain ⟨r1,h1,rfl⟩:=qBG hx;obtain ⟨r2,h2,rfl⟩:=qBG hy;obtain ⟨st,e1,g1⟩:=qAG LA5 h1;obtain ⟨st',e2,g2⟩:=qAG LD5 h2;rw [e1] at e2;cases e2;have l1:=(RC.ok (pL.mem_iff.mp (List.mem_of_getElem? e1))).1;refine .inr ⟨true,r1,r2,_,_,rfl,rfl,g1,g2,rfl,by rw [List.length_map];lia,fun k x y hx hy=>?_⟩
   rw [hx] at hy;cases hy;rw [List.getElem?_map] at hx;obtain ⟨ov,_,rfl⟩:=Option.map_eq_some_iff.mp hx;cases ov with
   | none=>exact ⟨rfl,.inl rfl⟩
   | some z=>exact ⟨rfl,.inr (.inl ⟨z,rfl⟩)⟩
  | i+2,hx,_=>simp at hx
 ·have hF2:=sA _ _ hF;have hp2:=sA _ _ hp;have sk:=(me st).mpr hs;have mem0:st ∈ kc.filter fun s=>decide (∀ x ∈ Ad,some x ∈ s):=List.mem_filter.mpr ⟨sk,decide_eq_true ha⟩;have ne0:((kc.filter fun s=>decide (∀ x ∈ Ad,some x ∈ s)).map fun s=>(g s:Int)) ≠ []:=fun z=>by
   rw [List.map_eq_nil_iff] at z;rw [z] at mem0;cases mem0
  have ie:((((kc.filter fun s=>decide (∀ x ∈ Ad,some x ∈ s)).map fun s=>(g s:Int)).map V.int).isEmpty)=false:=by
   cases h:((kc.filter fun s=>decide (∀ x ∈ Ad,some x ∈ s)).map fun s=>(g s:Int)) with
   | nil=>exact absurd h ne0
   | cons _ _=>rfl
  rw [ie];refine iteF ?_;obtain ⟨m,em⟩:=qUC ne0;obtain ⟨m1,m2⟩:=qS1 em;have hmv:m=(fu st:Int):=by
   obtain ⟨s',hs',es⟩:=List.mem_map.mp m1;obtain ⟨z1,z2⟩:=List.mem_filter.mp hs';have k1:=m2 (g st:Int) (List.mem_map.mpr ⟨st,mem0,rfl⟩);have k2:=hm s' ((me s').mp z1) (of_decide_eq_true z2);rw [eg st hs] at k1;rw [eg s' ((me s').mp z1)] at es
   lia
  subst hmv;refine ⟨_,rfl,_,"tuple",_,true,rfl,TyOf.tup hF2,rfl,_,rfl,?_⟩;refine ⟨_,rfl,F,_,rfl,.inr (SqT.of hF2),rfl,_,rfl,?_⟩;refine iteF ?_;refine ⟨_,rfl,F,_,_,_,rfl,rfl,SqT.of hF2,rfl,rfl,_,rfl,?_⟩;refine iteF ?_;refine ⟨_,rfl,F,_,_,_,rfl,rfl,SqT.of hF2,rfl,_,"list",_,true,rfl,TyOf.lst hp2,rfl,_,rfl,?_⟩;refine ⟨_,rfl,_,rfl,_,rfl,_,rfl,F,_,_,_,rfl,rfl,SqT.of hF2,rfl,a,wd,sz,p,Af,wides,sizes,rs,ms,st,rfl,T.same sA,hp2,MosL.same ML sA,RU,fun r H3 s3 gr=>?_⟩;have sB:=sA.trans s3;refine ⟨_,rfl,_,rfl,?_⟩;refine iteF ?_;refine ⟨_,rfl,_,rfl,r,t,st,Ad,rfl,gr,sB _ _ hT,la,fun H4 s4=>?_⟩;rw [decide_eq_true ha];refine ⟨_,rfl,?_⟩;refine iteF ?_;have sC:=sB.trans s4;refine ⟨_,rfl,F,_,_,_,rfl,rfl,SqT.of (sC _ _ hF),rfl,_,rfl,sl,_,_,rfl,SqL.of (s4 _ _ (s3 _ _ ge)),em,.int (fu st:Int),.int (fu st:Int),true,rfl,.inl (.inl ⟨rfl,.inr (.inl ⟨_,rfl⟩),rfl⟩),fun H5 s5=>⟨_,rfl,?_⟩⟩;refine iteF ?_;have sD:=sC.trans s5;have ML5:=MosL.same ML sD;have lrs:rs.length=ms.length:=Paired.length ML;refine ⟨_,rfl,F,_,_,_,rfl,rfl,SqT.of (sD _ _ hF),rfl,p,rfl,⟨_,SqL.of (sD _ _ hp)⟩,fun pp hpp=>?_⟩;refine qE4 (p:=pp) (a:=p) (xs:=rs.map V.ref) (fun i σ Hc=>∃ (v:Option V) (fs:List Addr),σ=[v]/\Same H5 Hc/\Hc pp=some (.lst (fs.map V.ref))/\fs.length=((ms.take i).filter fun m=>m.dk).length) ?_ ?_ ?_ ?_
  ·exact ⟨none,[],rfl,qA2 hpp _,qA1,rfl⟩
  ·rintro i σ Hc hi ⟨v,fs,rfl,sm,_⟩;exact SqL.of (sm _ _ (sD _ _ hp))
  ·refine fun i x σ Hc hx hI_17=>opq fun G_17 hG_17=>?_;obtain ⟨v,fs,rfl,sm,hpc,lf⟩:=hI_17;obtain ⟨mv,hmv,rfl⟩:=qBG hx;obtain ⟨m,hm,hH⟩:=qAG ML5 hmv;refine hG_17 ?_;have hi:=(List.getElem?_eq_some_iff.mp hm).1;have lk:=qJT (p:=fun m:Mo=>m.dk) (l:=ms) (i:=i);refine ⟨_,rfl,mv,_,_,_,rfl,rfl,SqT.of (sm _ _ hH),show atI m.vs 0=some (.str (match m.dk with | true=>"do" | false=>"clear")) from by unfold Mo.vs;cases m.dk <;> rfl,rfl,_,rfl,?_⟩
   rw [qCT hm];cases hdk:m.dk with
   | true=>
    rw [decide_eq_true (rfl:V.str (Str.ofString "do")=V.str (Str.ofString "do"))]
    refine ⟨_,rfl,_,hpc,qAU (by rw [List.length_map];lia),_,fs++[mv],rfl,qAB sm hpp,by rw [qA1,qAX],?_⟩
    rw [if_pos rfl,List.length_append,List.length_append,lf];rfl
   | false=>
    rw [decide_eq_false (show ¬ V.str (Str.ofString "clear")=V.str (Str.ofString "do") from fun z=>qBP (V.str.inj z))]
    refine ⟨_,fs,rfl,sm,hpc,?_⟩;rw [if_neg Bool.false_ne_true,List.append_nil,lf]
  refine fun σ Hc hI_18=>opq fun G_18 hG_18=>?_;obtain ⟨v,fs,rfl,sm,hpc,lf⟩:=hI_18;refine hG_18 ?_;rw [List.length_map,lrs,qGN rfl] at lf;have sE:=sD.trans sm;have el:(((fs.map V.ref).length:Nat):Int)=(fu st:Int):=by
   rw [List.length_map,lf];show ((dosO ms:Nat):Int)=_;rw [ed]
  refine ⟨pp,_,rfl,.inl (SqL.of hpc),_,rfl,sl,_,_,rfl,SqL.of (sm _ _ (s5 _ _ (s4 _ _ (s3 _ _ ge)))),em,rfl,?_⟩;rw [el,decide_eq_true rfl];exact q Hc sE
theorem sc_law:FnScope ["_law_script","_law_state","_law_net_here","_law_wides","_law_sizes","_law_come","_law_turn","_law_asked_here","_law_held","_law_again","_law_found"] ["_law_script"] (qAA qI6):=qC2
theorem ok_law (F:Fun K "law" "law" qI6 f fd) (qH2:Clb P w K mg base 1 qJW qQK "_law_begin" ["_law_script"] (qP0 K)) (qGZ:Clb P w K mg base 4 qJU qQH "_law_there" ["_law_state"] qMN) (qCK:Clb P w K mg base 2 qDO qIJ "_law_come_there" ["_law_net_here","_law_wides","_law_sizes"] qOZ) (qH3:Clb P w K mg base 2 qJX qQL "_law_asked" ["_law_state","_law_net_here"] qP1) (qCJ:Clb P w K mg base 6 qBU qIF "least_there" ["net","wides","sizes","asked"] (qMS Pt)) (qH0:Clb P w K mg base 6 qJV qQI "_law_right" ["_law_net_here","_law_wides","_law_sizes","_law_asked_here","_law_come","_law_found"] qMP)
  (qAV:mg "range" = none) (qJA:mg "str" = none):FnOk P w K mg base CX0 8 f fd ["_law_script"] (qMT K Pt):=by
 refine F.okA sc_law fun cdv A outer s H vs Q E hr h=>?_;obtain ⟨hTab,sc,ns,rfl,hS,h63,q⟩:=h;have hgd:=hr.gd;have hu64:=hr.units;refine ⟨_,(qA4 (qAD (i:=1) sc_law.nd rfl (Or.inl rfl) (qB3 qH2 hr rfl (qA0 (pv 0) qA3))) (qA4 (qP9 (qB3 qGZ hr rfl (qA0 (pv 1) qA3)) (qN5 rfl (qBO (qB9 (i:=2) sc_law.nd rfl (Or.inl rfl)) (qBO (qB9 (i:=3) sc_law.nd rfl (Or.inl rfl)) (qBO (qB9 (i:=4) sc_law.nd rfl (Or.inl rfl)) qHB))))) (qA4 (qAD (i:=5) sc_law.nd rfl (Or.inl rfl) (qB3 qCK hr rfl (qA0 (pv 2) (qA0 (pv 3) (qA0 (pv 4) qA3))))) (qA4 (qD6 PassesOwn.never rfl (qAY rfl qAV (qA0 qA6 qA3)) (qB9 (i:=6) sc_law.nd rfl (Or.inl rfl)) (qA4 (qAD (i:=7) sc_law.nd rfl (Or.inl rfl) (qB3 qH3 hr rfl (qA0 (pv 1) (qA0 (pv 2) qA3)))) (qA4 (qAD (i:=8) sc_law.nd rfl (Or.inl rfl) (qAF (qLI hgd hu64) rfl qJA qNQ (qA0 (qBB (qA0 (pv 2) (qA0 (pv 3) (qA0 (pv 4) (qA0 (pv 7) qA3))))) qA3))) (qA4 (qD6 PassesOwn.never rfl (qAY rfl qAV (qA0 qA6 qA3)) (qB9 (i:=9) sc_law.nd rfl (Or.inl rfl)) (qA4 (qAD (i:=10) sc_law.nd rfl (Or.inl rfl) (qB3 qCJ hr rfl (qA0 (pv 2) (qA0 (pv 3) (qA0 (pv 4) (qA0 (pv 7) qA3)))))) (qA4 (qBE (qGA (qDT (qB3 qH0 hr rfl (qA0 (pv 2) (qA0 (pv 3) (qA0 (pv 4) (qA0 (pv 7) (qA0 (pv 5) (qA0 (pv 10) qA3))))))))) (qA7 (qAE qM5)) qAJ) (qA4 (qC4 (qT4 PySem.F.plainAttrs_list PySem.F.slot_list_reverse PySem.F.type_list_reverse qIV (qB6 qAW (pv 10) qA6 (fun _ _=>rfl)))) (qA7 (qC4 (qI8 PySem.F.plainAttrs_list PySem.F.slot_list_append PySem.F.type_list_append qBS (qB6 qAW (pv 10) qA6 (fun _ _=>rfl)) (qA0 qB0 qA3)))))))) (qA7 (qBE (qAI qO5 (qAF (qLI hgd hu64) rfl qJA qNQ (qA0 (qBB (qA0 (pv 2) (qA0 (pv 3) (qA0 (pv 4) (qA0 (pv 7) qA3))))) qA3)) (pv 8) (qAQ _)) (qA7 (qAE qM5)) qAJ)))))) (qA7 (qAE qM5)))))),?_⟩
 try dsimp only [Cx.nox,Cx.wish,cxOf]
 refine ⟨_,rfl,sc,ns,rfl,hS,h63,fun d c ms H1 S1 sm0 hd0 hc0=>?_⟩;have hTab:TabO H1 Pt:=sm0 _ _ hTab;refine ⟨_,rfl,d,c,0,ms,rfl,S1,(by show (0:Int)<=1000000000 - 20000;decide),fun T0 a wd sz Af wides sizes t2 ns2 H2 S2 g1 g2 K2 gT T2=>?_⟩
 have hTab:=hTab.keep S1 K2;refine ⟨T0,_,rfl,SqT.of gT,rfl,_,_,rfl,_,_,rfl,_,_,rfl,rfl,?_⟩;refine ⟨_,rfl,_,rfl,_,rfl,a,wd,sz,Af,wides,sizes,rfl,T2,fun dd o kc g H3 s3 fdd hdd CM=>?_⟩;have hTab:TabO H3 Pt:=s3 _ _ hTab;have T3:=T2.same s3;have S3:=S2.same s3;clear S1 S2 T2 K2 gT sm0 hd0 hc0 hS s3 fdd;have k5:=T3.k5;have n6:=T3.n6;have n1:=T3.n1;refine ⟨2,rfl,by decide,by decide,qC3 (lo:=0) (n:=2) (fun i σ Hc=>∃ (t:Int) (ns:List Int) (v6 v7 v8 v9 v10:Option V),σ=[some (.ref sc),some (.ref d),some (.ref a),some (.ref wd),some (.ref sz),some (.ref dd),v6,v7,v8,v9,v10]/\StAt Hc d c t ns/\t<=200+10 * i/\TKit Hc a wd sz Af wides sizes/\Hc dd=some (.frz o (.dT (kvC kc g)))/\TabO Hc Pt)
  ⟨t2,ns2,none,none,none,none,none,rfl,S3,by lia,T3,hdd,hTab⟩ ?_ ?_⟩
 ·clear S3 hdd hTab;refine fun i σ Hc hi hI_1=>opq fun G_1 hG_1=>?_;obtain ⟨t,ns,v6,v7,v8,v9,v10,rfl,S,tb,T4,hdd,hTab⟩:=hI_1;refine hG_1 ?_;refine ⟨_,rfl,_,rfl,d,c,t,ns,a,Af,rfl,S,(by show t<=1000000000 - 100;lia),T4.net_,T4.wf,n1,by lia,fun ta ws t3 ns3 H3 S3 g3 g4 K3 gta ri l1=>?_⟩
  have T5:=T4.keep S K3;have hdd:=K3 _ _ hdd (qCR hdd S.dict (by intro z;cases z)) (qCR hdd S.list (by intro z;cases z))
  have hTab:=hTab.keep S K3;have lws:=ri.len;have gta':H3 ta=some (.tup ((ws.map some).map oV)):=by rw [List.map_map];exact gta
  have smh:=qRJ (lay:=ws.map some) T5 (by rw [List.length_map];lia) (fun x hx=>by
   obtain ⟨y,hy,e⟩:=List.mem_map.mp hx;cases e;exact ri.in_ _ hy)
  refine ⟨_,rfl,_,rfl,_,rfl,_,rfl,(by show 4<=sizeLine;decide),fun lh hlh=>?_⟩
  have sh:=qA2 hlh (.lst [.ref a,.ref wd,.ref sz,.ref ta]);refine ⟨lh,3,qOF Af wides sizes (ws.map some),rfl,qNM qA1 (T5.same sh) (sh _ _ gta'),by decide,smh.sh,smh.nd,smh.shown (by decide),?_⟩
  have T6:=T5.same sh;have gta6:=sh _ _ gta';have S6:=S3.same sh;have hdd:=sh _ _ hdd;have hTab:TabO _ Pt:=sh _ _ hTab;generalize Ah H3 lh (.lst [.ref a,.ref wd,.ref sz,.ref ta])=H4 at T6 gta6 S6 hdd hTab ⊢;clear sh gta gta' T5 T4 S3 S hlh K3;refine ⟨2,rfl,by decide,by decide,qC3 (lo:=0) (n:=2) (fun j σ Hz=>∃ (v9 v10:Option V),σ=[some (.ref sc),some (.ref d),some (.ref a),some (.ref wd),some (.ref sz),some (.ref dd),some (.int (0+(i:Int))),some (.ref ta),some (.str (qOF Af wides sizes (ws.map some)).shown),v9,v10]/\Same H4 Hz)
   ⟨_,_,rfl,.refl _⟩ ?_ ?_⟩
  ·refine fun j σ Hz hj hI_2=>opq fun G_2 hG_2=>?_;obtain ⟨v9,v10,rfl,sm⟩:=hI_2;refine hG_2 ?_;have gta7:Hz ta=some (.tup (ws.map V.int)):=by have:=sm _ _ gta6;rwa [List.map_map] at this
   refine cut fun N1 hN1=>?_;have rest:∀ (TT p:Addr) (rs:List Addr) (w0:Str) (more:List V) (ks:List La) (fu:La->Nat) (Ha:Hp),Same Hz Ha->Hz p=none->Ha TT=some (.tup (.str w0::.ref p::more))->Ha p=some (.lst (rs.map V.ref))->rs.length<=20000->RcO Af wides sizes ks fu->EndO Ha Af wides sizes ws ks fu TT->
     N1 [some (.ref sc),some (.ref d),some (.ref a),some (.ref wd),some (.ref sz),some (.ref dd),some (.int (0+(i:Int))),some (.ref ta),some (.str (qOF Af wides sizes (ws.map some)).shown),some (.int (0+(j:Int))),some (.ref TT)] Ha:=by
    intro TT p rs w0 more ks fu Ha sa fp gT gp lr RC EN;refine hN1 _ _ ?_;have sA:=sm.trans sa;refine ⟨_,rfl,_,rfl,_,rfl,_,rfl,_,rfl,_,rfl,a,wd,sz,ta,dd,TT,o,Af,wides,sizes,ws,ks,kc,fu,g,rfl,T6.same sA,sa _ _ gta7,by lia,sA _ _ hdd,CM,RC,EN,fun Hb sb=>⟨_,rfl,?_⟩⟩
    refine iteF ?_;have gT2:=sb _ _ gT;have gp2:=sb _ _ gp;have a1:atI (V.str w0::V.ref p::more) 1=some (.ref p):=qDV (by decide) rfl
    have nt:∀ kk xs,HO.lst kk ≠ .tup xs:=fun kk xs q=>by cases q
    refine ⟨_,rfl,TT,_,_,_,rfl,rfl,SqT.of gT2,a1,.inl ⟨rfl,_,SqL.of gp2⟩,p,_,rfl,rfl,gp2,?_⟩;have gT3:=qDE (u:=.lst ((rs.map V.ref).reverse)) gT2 gp2 (nt _);have gp3:(Ah Hb p (.lst ((rs.map V.ref).reverse))) p=some (.lst ((rs.map V.ref).reverse)):=qA1;have s8:Same H4 (Ah Hb p (.lst ((rs.map V.ref).reverse))):=qAB (sA.trans sb) (sm.free fp);generalize Ah Hb p (.lst ((rs.map V.ref).reverse))=Hd at gT3 gp3 s8 ⊢;refine ⟨_,rfl,TT,_,_,_,rfl,rfl,SqT.of gT3,a1,.inl ⟨rfl,_,SqL.of gp3⟩,p,_,_,rfl,rfl,gp3,qAU (by rw [List.length_reverse,List.length_map];lia),?_⟩
    exact ⟨_,_,rfl,qAB s8 (sm.free fp)⟩
   refine ⟨_,rfl,_,rfl,_,rfl,_,rfl,a,wd,sz,ta,Af,wides,sizes,ws,rfl,sm _ _ hTab,T6.same sm,gta7,by lia,fun ks fu Ha sa RC=>⟨fun no TT p rs L fT gT fp gp LA pL sL=>?_,fun st hs ha hm TT p rs ms fT gT fp gp ML RU ed lm=>?_⟩⟩
   ·have lk:ks.length<=16807:=Nat.le_trans (qD8 (n:=Af.length) (k:=sizes.length) RC.nd fun s hs=>RC.ok hs) (Nat.le_trans (Nat.pow_le_pow_left (show Af.length+1<=7 by lia) _) (Nat.pow_le_pow_right (show 0<7 by decide) k5))
    have lr:rs.length=L.length:=Paired.length LA;exact rest TT p rs _ _ ks fu Ha sa fp gT gp (by rw [lr,pL.length_eq];lia) RC (.inl ⟨no,p,rs,L,gT,gp,LA,pL,sL⟩)
   ·have lr:rs.length=ms.length:=Paired.length ML;exact rest TT p rs _ _ ks fu Ha sa fp gT gp (by lia) RC (.inr ⟨st,hs,ha,hm,p,rs,ms,gT,gp,ML,RU,ed,lm⟩)
  ·refine fun σ Hz hI_3=>opq fun G_3 hG_3=>?_;obtain ⟨v9,v10,rfl,sm⟩:=hI_3;refine hG_3 ?_;have Tz:=T6.same sm;refine ⟨_,rfl,_,rfl,_,rfl,_,rfl,(by show 4<=sizeLine;decide),fun l2 hl2=>?_⟩
   have s2:=qA2 hl2 (.lst [.ref a,.ref wd,.ref sz,.ref ta]);refine ⟨l2,3,qOF Af wides sizes (ws.map some),rfl,qNM qA1 (Tz.same s2) (s2 _ _ (sm _ _ gta6)),by decide,smh.sh,smh.nd,smh.shown (by decide),?_⟩
   refine ⟨_,rfl,rfl,_,rfl,?_⟩;refine ite2 (fun ck=>absurd ck (by simp)) (fun _=>?_)
   have sB:=sm.trans s2;exact ⟨t3,ns3,_,_,_,_,_,rfl,S6.same sB,by lia,T6.same sB,sB _ _ hdd,sB _ _ hTab⟩
 ·rintro σ Hc _;exact q Hc
end
theorem all_mk {l:PySem.W.OpenLaw} {w:World} {K:PySem.W.Frag} {h:Heap} {mg:Str->Option Value} {fa qFL qG2 qHU qDM qDL qCU qDK qBX qHT qBU qJW qEY qE6 qDN qEX qQM qJX qJU qGY qNJ qD1 qDO qG3 qQN qJV qUM:Addr} (X:K.In h) (G:h.Ns mainGlobals mg) (hfa:mg "law" = some (.ref fa))
  {qI9 qIO qW3 qTI:Option Addr} {qI4 qVI:Array (Option Value)} {qIA qID qIL qI7 qIM qW4 qT9 qTF qT1 qQV qTG:Value}
  {qC1 qD5:Addr}
  (T_has_all:Tf K "has_all" qF6 qFL)
  (T_steps_of:Tf K "steps_of" qEB qG2)
  (T_plan_to:Tf K "plan_to" qF5 qHU)
  (T_fault_of_do:Tf K "fault_of_do" qCC qDM)
  (T_fault_there:Tf K "fault_there" qCB qDL)
  (T_layout_behind:Tf K "layout_behind" qBR qCU)
  (T_moves_there:Tf K "moves_there" qCA qDK)
  (T_layouts_reached:Tf K "layouts_reached" qBH qBX)
  (T_rank_of:Tf K "rank_of" qF4 qHT)
  (qKA:PySem.W.nsIn K mainGlobals "least_there" = some (some (.ref qBU))) (qJO:K.lookup qBU=some ⟨qIA,qI9,.func (PySem.W.fnOf "least_there" "least_there" (qDP qBC) (qC7 qBC) (qAA qBC) .none qID qIL qI7 qIO (.ref qC1) qIM),qI4⟩) (qK7:PySem.W.codeIn K (.ref qC1) "least_there" = true) (qJQ:PySem.W.keepIn K (.ref qBU)=true)
  (T_Lbegin:Tf K "_law_begin" qGR qJW)
  (T_Ltake:Tf K "_law_take" qJE qEY)
  (T_Lsame:Tf K "_law_same" qH8 qE6)
  (T_Lsome_needs:Tf K "_law_some_needs" qCD qDN)
  (T_Ltree_net:Tf K "_law_tree_net" qDF qEX)
  (T_Lnet:Tf K "_law_net" qMX qQM)
  (T_Lasked:Tf K "_law_asked" qGS qJX)
  (T_Lthere:Tf K "_law_there" qGO qJU)
  (T_Lfault:Tf K "_law_fault" qGQ qGY)
  (T_Lput:Tf K "_law_put" qMW qNJ)
  (T_Lall_moves:Tf K "_law_all_moves" qCY qD1)
  (T_Lcome_there:Tf K "_law_come_there" qCE qDO)
  (T_Lhas_all:Tf K "_law_has_all" qEC qG3)
  (T_Lled:Tf K "_law_led" qMY qQN)
  (T_Lright:Tf K "_law_right" qGP qJV)
  (qY5:PySem.W.nsIn K mainGlobals "law" = some (some (.ref qUM))) (qXU:K.lookup qUM=some ⟨qW4,qW3,.func (PySem.W.fnOf "law" "law" (qDP qI6) (qC7 qI6) (qAA qI6) .none qT9 qTF qT1 qTI qQV qTG),qVI⟩) (qY4:PySem.W.codeIn K qQV "law" = true) (qXX:PySem.W.keepIn K (.ref qUM)=true)
  (qC0:hdIn K qC1 qD5=true)
  (Z:Zs K ["all","any","bool","divmod","enumerate","int","isinstance","len","list","max","min","range","set","sorted","str","tuple","zip"])
  : ∃ fd:FuncData,(∀ (s:Shared) (v:Value),BindsTo s fd ⟨[v],[]⟩ [("_law_script",v)])/\∀ base:Heap,K.In base->base.Ns mainGlobals mg->BM mg base->FnOk l.prog w K mg base CX0 8 fa fd ["_law_script"] (qMT K qD5):=by
 have e:=hfa.symm.trans (PySem.W.mg_of X G qY5);cases e;have F_least_there:=fun_mk (st:=qBC) qJO qK7 qJQ;have qK9:=F_least_there.binds (ps:=["net","wides","sizes","asked"]) fun _ _ _ _ _ _ us hl=>match us,hl with | [_,_,_,_],_=>rfl
 have qJM:=PySem.W.mg_of X G qKA;obtain ⟨qEJ,F_Lsame,qER⟩:=T_Lsame.use X G;have qF2:=F_Lsame.binds (ps:=["_law_found","_law_due"]) fun _ _ _ _ _ _ us hl=>us2 us hl (fun _ _=>rfl);have qY6:=fun_mk (st:=qI6) qXU qY4 qXX;obtain ⟨qV7,qY9,qTN,qV6,qSV,qV5,qJ9,qV4,qTM,qY8,qV3,qRA,qY7,qOP,qSU,qR9,qV2,_⟩:=Z.mg X G;refine ⟨PySem.W.fnOf "law" "law" (qDP qI6) (qC7 qI6) (qAA qI6) .none qT9 qTF qT1 qTI qQV qTG,fun s v=>.of_eq rfl,fun base _ _ hBM=>?_⟩;have B:Bs l.prog w base:=⟨rfl,rfl,rfl⟩;obtain ⟨_,qD9⟩:=T_has_all.c X G B fun _ F=>by apply ok_has_all <;> assumption
 obtain ⟨_,qJ8⟩:=T_steps_of.c X G B fun _ F=>by apply ok_steps_of <;> assumption
 obtain ⟨_,qFQ⟩:=T_plan_to.c X G B fun _ F=>by apply ok_plan_to <;> assumption
 obtain ⟨_,qFT⟩:=T_fault_of_do.c X G B fun _ F=>by apply ok_fault_of_do <;> assumption
 obtain ⟨_,qFS⟩:=T_fault_there.c X G B fun _ F=>by apply ok_fault_there <;> assumption
 obtain ⟨_,qEA⟩:=T_layout_behind.c X G B fun _ F=>by apply ok_layout_behind <;> assumption
 obtain ⟨_,qFR⟩:=T_moves_there.c X G B fun _ F=>by apply ok_moves_there <;> assumption
 obtain ⟨_,qBK⟩:=T_layouts_reached.c X G B fun _ F=>by apply ok_layouts_reached <;> assumption
 obtain ⟨_,C_rank_of⟩:=T_rank_of.c X G B fun _ F=>by apply ok_rank_of <;> assumption
 have qCJ:=Clb.mk (ok_least_there (P:=l.prog) (w:=w) (mg:=mg) (base:=base) (F:=F_least_there) (qBK:=qBK) (qD9:=qD9) (C_rank_of:=C_rank_of) (qFQ:=qFQ) (qFU:=qV3) (qBY:=qOP) (hcd:=rfl) (hBM:=hBM) (qC0:=qC0)) qK9 F_least_there.kp qJM;obtain ⟨_,qH2⟩:=T_Lbegin.c X G B fun _ F=>by apply ok_Lbegin <;> assumption
 obtain ⟨_,qBA⟩:=T_Ltake.c X G B fun _ F=>by apply ok_Ltake <;> assumption
 have qI3:=Clb.mk (ok_Lsame (P:=l.prog) (w:=w) (mg:=mg) (base:=base) (F:=F_Lsame) (qF2:=qF2) (qJR:=F_Lsame.kp) (qER:=qER) (n:=4) (qNS:=qV7) (qMK:=qTN) (qJB:=qV5) (qAH:=qJ9) (qBF:=qV4) (qDS:=qTM) (qJA:=qSU) (qAT:=qR9) (qRD:=qV2)) qF2 F_Lsame.kp qER;obtain ⟨_,qDR⟩:=T_Lsome_needs.c X G B fun _ F=>by apply ok_Lsome_needs <;> assumption
 obtain ⟨_,qI2⟩:=T_Ltree_net.c X G B fun _ F=>by apply ok_Ltree_net <;> assumption
 obtain ⟨_,qTK⟩:=T_Lnet.c X G B fun _ F=>by apply ok_Lnet <;> assumption
 obtain ⟨_,qH3⟩:=T_Lasked.c X G B fun _ F=>by apply ok_Lasked <;> assumption
 obtain ⟨_,qGZ⟩:=T_Lthere.c X G B fun _ F=>by apply ok_Lthere <;> assumption
 obtain ⟨_,qH1⟩:=T_Lfault.c X G B fun _ F=>by apply ok_Lfault <;> assumption
 obtain ⟨_,qLS⟩:=T_Lput.c X G B fun _ F=>by apply ok_Lput <;> assumption
 obtain ⟨_,qD2⟩:=T_Lall_moves.c X G B fun _ F=>by apply ok_Lall_moves <;> assumption
 obtain ⟨_,qCK⟩:=T_Lcome_there.c X G B fun _ F=>by apply ok_Lcome_there <;> assumption
 obtain ⟨_,qG7⟩:=T_Lhas_all.c X G B fun _ F=>by apply ok_Lhas_all <;> assumption
 obtain ⟨_,qTL⟩:=T_Lled.c X G B fun _ F=>by apply ok_Lled <;> assumption
 obtain ⟨_,qH0⟩:=T_Lright.c X G B fun _ F=>by apply ok_Lright <;> assumption
 exact ok_law (P:=l.prog) (w:=w) (mg:=mg) (base:=base) (F:=qY6) (qH2:=qH2) (qGZ:=qGZ) (qCK:=qCK) (qH3:=qH3) (qCJ:=qCJ) (qH0:=qH0) (qAV:=qRA) (qJA:=qSU)
noncomputable def qTP:List LTab:=[⟨"least_there",73,71,"least_there.<locals>.<lambda>"⟩]
theorem walk {l:PySem.W.OpenLaw} {q:Program} {loose:List Str} {XP:(Str->Option Value)->Heap->Prop} {YP:World->Heap->Prop} {d:DefRec} {K:Params->PySem.W.Frag} (hn:l.most=some 63) (hdf:d.params.defaults=[])
  (hY:∀ (w:World) (h:Heap),YP w h->(K w.params).In h)
  (hrec:∀ t ∈ qTP,((PyProof.Rows.recsOf q).find? fun e=>e.name == t.x).isSome=true) (htab:∀ (w:World),∀ t ∈ qTP,PySem.W.tabIn (K w.params) t.x=some (t.c,t.P)) (hK:∀ w:World,PySem.W.noTabs (K w.params)=true)
  (F:∀ (w:World) (mg:Str->Option Value) (fa:Addr) (h:Heap),(K w.params).In h->h.Ns mainGlobals mg->mg d.name=some (.ref fa)->
   ∃ fd:FuncData,(∀ (s:Shared) (u:Value),BindsTo s fd ⟨[u],[]⟩ [("_law_script",u)])/\∀ base:Heap,(K w.params).In base->base.Ns mainGlobals mg->BM mg base->FnOk l.prog w (K w.params) mg base CX0 8 fa fd ["_law_script"] (qMT (K w.params) 71)) :
  PySem.W.WalkO q loose XP YP l.row.toRowW d [] (fun f vs=>PySem.call f vs):=
 L2.walk_ofT (n:=63) (k:=8) (x:="_law_script") (sp:=fun w=>qMT (K w.params) 71) qTP hn (by decide) hdf ⟨rfl,by decide,by decide,rfl⟩ hY hrec htab hK (fun t h t' h' _=>by rw [List.mem_singleton.mp h,List.mem_singleton.mp h']) F fun _ _ a ns hl hO hS=>⟨hO _ List.mem_cons_self,a,ns,rfl,hS,hl,fun _=>rfl⟩
end Fw
open PySem PySem.W PyProof.Rows
set_option maxRecDepth 100000 in
set_option maxHeartbeats 0 in
theorem PySem.Challenge.cw_fewrooms_k51_least_in_unlike_rooms_holds : PySem.Challenge.rw_fewrooms_k51_least_in_unlike_rooms.Holds := by
 w_on;refine holds_law Fw.hpSaid fun said=>?_
 refine holds_open (q:=Fw.hpQ) (Xt:=Fw.hpX) (XP:=XL Fw.hpQ []) (YP:=(kHook Fw.hpK Fw.hpA Fw.hpE).says)
  Fw.hpLeft (kHook Fw.hpK Fw.hpA Fw.hpE).of (kHook Fw.hpK Fw.hpA Fw.hpE).keeps (fun s e=>xl_of s (Bool.and_eq_true_iff.mp e).1) XL.keeps
  (by rfl) (by rfl) (by rfl) (fun s e=>recFacts_of (Bool.and_eq_true_iff.mp e).2) (by rfl)
  (by first | assumption | decide +kernel) (by decide +kernel) ⟨rfl,rfl,rfl,rfl,rfl,by decide +kernel⟩ ?hw ?hc
 case hw=>w_witness2
 k_fill
 refine Fw.walk (l:=PySem.Challenge.rw_fewrooms_k51_least_in_unlike_rooms) rfl rfl (fun w h Y=>PySem.W.kIn_of Y) ?hrec ?htab ?hK ?F
 case hrec=>intro t ht;rw [List.mem_singleton.mp ht];kernel_rfl
 case htab=>intro w t ht;rw [List.mem_singleton.mp ht];kernel_rfl
 case hK=>intro w;kernel_rfl
 case F=>
  intro w mg fa h KX G hmg;refine' Fw.all_mk (qC1:=73) (qD5:=71) KX G hmg ?_ ?_ ?_ ?_ ?_ ?_ ?_ ?_ ?_ ?_ ?_ ?_ ?_ ?_ ?_ ?_ ?_ ?_ ?_ ?_ ?_ ?_ ?_ ?_ ?_ ?_ ?_ ?_ ?_ ?_ ?_ ?_ ?_ ?_
  any_goals first | exact ⟨by k_is,_,L2.fun_mk (by k_is) (by k_is) (by k_is)⟩ | k_is | kernel_rfl
  any_goals (repeat (refine ⟨by k_is,?_⟩))
  any_goals exact trivial

