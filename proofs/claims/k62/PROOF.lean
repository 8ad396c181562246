import PyProof.Rows.All
import Wide.All
import OpenK.AllK
import Wide.FinOn
import Lean
import PyProof.EqAt
import PyProof.EqKinds
import PyProof.TupleCall
import PySem.Challenge.RW_fewrooms_k62_rooms_of_rows_and_squares
set_option Elab.async false
set_option linter.all false
set_option maxRecDepth 100000
set_option maxHeartbeats 0
namespace Fw
open PySem
def top (i:Nat):Stmt:=PySem.Challenge.pw_fewrooms_k62_rooms_of_rows_and_squares.main.body.getD i (.Pass ⟨0,0,0,0⟩)
abbrev s_row_net:Stmt:=top 1
abbrev s_square_needs:Stmt:=top 2
abbrev s_square_net:Stmt:=top 3
abbrev s_step_net:Stmt:=top 4
abbrev s_row_rooms:Stmt:=top 5
abbrev s_square_rooms:Stmt:=top 6
abbrev s_step_rooms:Stmt:=top 7
abbrev s_Lbegin:Stmt:=top 9
abbrev s_Ltake:Stmt:=top 10
abbrev s_Lsame:Stmt:=top 11
abbrev s_Lneeded:Stmt:=top 12
abbrev s_Lcome:Stmt:=top 13
abbrev s_Lpart:Stmt:=top 14
abbrev s_Lbits:Stmt:=top 15
abbrev s_Ldone_in:Stmt:=top 16
abbrev s_Lleast:Stmt:=top 17
abbrev s_Lsquare_due:Stmt:=top 18
abbrev s_Lsmall_right:Stmt:=top 19
abbrev s_law:Stmt:=top 20
end Fw
namespace Fw
open PySem
def dA (s:Stmt):Arguments:=match s with
 | .FunctionDef _ a _ _ _ _ _ _ _ _=>a
 | _=>{ posonlyargs:=[],args:=[],vararg:=none,kwonlyargs:=[],kw_defaults:=[],kwarg:=none,defaults:=[] }
def dB (s:Stmt):List Stmt:=match s with
 | .FunctionDef _ _ b _ _ _ _ _ _ _=>b
 | _=>[]
def dS (s:Stmt):Scope:=match s with
 | .FunctionDef _ _ _ _ _ _ sc _ _ _=>sc
 | _=>{ kind:=.function,names:=[],isGenerator:=false,isCoroutine:=false }
abbrev so (s:String):Str:=PySem.Str.ofString s
abbrev kh (P:Params) (s:Str):Int:=PySem.PyData.keyHash P s
abbrev hde (P:Params) (s:String) (n:Nat) (v:Value):DictEntry:=⟨kh P (so s),.str (so s) n,v⟩
abbrev hvs (s:String) (n:Nat):Value:=.str (so s) n
abbrev hcut (n:Nat):Value:=hvs "/claim/cut.py" n
abbrev hfd (x q:String) (s:Stmt) (a b c d:Value) (e:Option Addr) (f g:Value) (i:Addr):FuncData:=⟨so x,so q,dA s,.stmts (dB s),dS s,3,[],a,b,c,d,e,f,g,i⟩
abbrev htp (d:Data) (s:Array (Option Value)):Obj:=⟨.type "tuple",none,d,s⟩
abbrev hcd (d:Data) (s:Array (Option Value)):Obj:=⟨.type "code",none,d,s⟩
abbrev hfn (d:Data) (s:Array (Option Value)):Obj:=⟨.type "function",none,d,s⟩
def hpK:Params→PySem.W.Frag:=fun P=>
 (nat_lit 2,Obj.mk .none .none (.dict #[]) #[]) ::
 (nat_lit 3,Obj.mk (.type "dict") .none (.dict #[hde P "__name__" 165 (hvs "law_fewrooms_k62_rooms_of_rows_and_squares" 241),hde P "__doc__" 166 .none,hde P "__package__" 167 .none,hde P "__loader__" 168 (.builtin "__main__.__loader__#opaque"),hde P "__spec__" 169 .none,hde P "__annotations__" 170 (.ref 6),hde P "__builtins__" 171 (.ref 4),hde P "__file__" 173 (hcut 172),hde P "__cached__" 174 .none,hde P "row_net" 194 (.ref 19),hde P "square_needs" 205 (.ref 26),hde P "square_net" 211 (.ref 31),hde P "step_net" 217 (.ref 36),hde P "row_rooms" 225 (.ref 43),hde P "square_rooms" 233 (.ref 50),hde P "step_rooms" 240 (.ref 57),hde P "_law_begin" 250 (.ref 64),hde P "_law_take" 263 (.ref 71),hde P "_law_same" 269 (.ref 76),hde P "_law_needed" 275 (.ref 81),hde P "_law_come" 281 (.ref 86),hde P "_law_part" 287 (.ref 91),hde P "_law_bits" 293 (.ref 96),hde P "_law_done_in" 299 (.ref 101),hde P "_law_least" 308 (.ref 108),hde P "_law_square_due" 316 (.ref 115),hde P "_law_small_right" 331 (.ref 122),hde P "law" 337 (.ref 127)] 28) #[]) ::
 (nat_lit 6,Obj.mk (.type "dict") .none (.dict #[]) #[]) ::
 (nat_lit 15,htp (.seq #[]) #[]) ::
 (nat_lit 18,hcd (.fields #[hvs "row_net" 189,hvs "row_net" 190,hcut 191,.int 2 0,.int 2 0,.int 0 0,.int 0 0,.int 3 0,.ref 15,.bool .true,.int 181 0,.ref 16,.none,.none,.none,.ref 17,.int 192 0,.int 2 0,hcut 193]) #[]) ::
 (nat_lit 19,hfn (.func (hfd "row_net" "row_net" s_row_net .none .none .none (hvs "fewrooms.squares" 187) .none (.ref 18) .none 0)) #[]) ::
 (nat_lit 20,htp (.seq #[]) #[]) ::
 (nat_lit 22,htp (.seq #[hvs "m" 198,hvs "i" 199,hvs "j" 200,hvs "above" 201,hvs "ahead" 202]) #[]) ::
 (nat_lit 23,htp (.seq #[]) #[]) ::
 (nat_lit 25,hcd (.fields #[hvs "square_needs" 195,hvs "square_needs" 196,hcut 197,.int 4 0,.int 3 0,.int 0 0,.int 0 0,.int 3 0,.ref 20,.bool .true,.int 181 0,.ref 21,.none,.ref 22,.ref 23,.ref 24,.int 203 0,.int 4 0,hcut 204]) #[]) ::
 (nat_lit 26,hfn (.func (hfd "square_needs" "square_needs" s_square_needs .none .none .none (hvs "fewrooms.squares" 187) .none (.ref 25) .none 0)) #[]) ::
 (nat_lit 27,htp (.seq #[]) #[]) ::
 (nat_lit 30,hcd (.fields #[hvs "square_net" 206,hvs "square_net" 207,hcut 208,.int 8 0,.int 2 0,.int 0 0,.int 0 0,.int 3 0,.ref 27,.bool .true,.int 181 0,.ref 28,.none,.none,.none,.ref 29,.int 209 0,.int 8 0,hcut 210]) #[]) ::
 (nat_lit 31,hfn (.func (hfd "square_net" "square_net" s_square_net .none .none .none (hvs "fewrooms.squares" 187) .none (.ref 30) .none 0)) #[]) ::
 (nat_lit 32,htp (.seq #[]) #[]) ::
 (nat_lit 35,hcd (.fields #[hvs "step_net" 212,hvs "step_net" 213,hcut 214,.int 10 0,.int 1 0,.int 0 0,.int 0 0,.int 3 0,.ref 32,.bool .true,.int 181 0,.ref 33,.none,.none,.none,.ref 34,.int 215 0,.int 10 0,hcut 216]) #[]) ::
 (nat_lit 36,hfn (.func (hfd "step_net" "step_net" s_step_net .none .none .none (hvs "fewrooms.squares" 187) .none (.ref 35) .none 0)) #[]) ::
 (nat_lit 37,htp (.seq #[]) #[]) ::
 (nat_lit 39,htp (.seq #[hvs "n" 221,hvs "back" 222]) #[]) ::
 (nat_lit 40,htp (.seq #[]) #[]) ::
 (nat_lit 42,hcd (.fields #[hvs "row_rooms" 218,hvs "row_rooms" 219,hcut 220,.int 17 0,.int 2 0,.int 0 0,.int 0 0,.int 3 0,.ref 37,.bool .true,.int 181 0,.ref 38,.none,.ref 39,.ref 40,.ref 41,.int 223 0,.int 17 0,hcut 224]) #[]) ::
 (nat_lit 43,hfn (.func (hfd "row_rooms" "row_rooms" s_row_rooms .none .none .none (hvs "fewrooms.squares" 187) .none (.ref 42) .none 0)) #[]) ::
 (nat_lit 44,htp (.seq #[]) #[]) ::
 (nat_lit 46,htp (.seq #[hvs "n" 229,hvs "m" 230]) #[]) ::
 (nat_lit 47,htp (.seq #[]) #[]) ::
 (nat_lit 49,hcd (.fields #[hvs "square_rooms" 226,hvs "square_rooms" 227,hcut 228,.int 19 0,.int 2 0,.int 0 0,.int 0 0,.int 3 0,.ref 44,.bool .true,.int 181 0,.ref 45,.none,.ref 46,.ref 47,.ref 48,.int 231 0,.int 19 0,hcut 232]) #[]) ::
 (nat_lit 50,hfn (.func (hfd "square_rooms" "square_rooms" s_square_rooms .none .none .none (hvs "fewrooms.squares" 187) .none (.ref 49) .none 0)) #[]) ::
 (nat_lit 51,htp (.seq #[]) #[]) ::
 (nat_lit 53,htp (.seq #[hvs "n" 237]) #[]) ::
 (nat_lit 54,htp (.seq #[]) #[]) ::
 (nat_lit 56,hcd (.fields #[hvs "step_rooms" 234,hvs "step_rooms" 235,hcut 236,.int 23 0,.int 1 0,.int 0 0,.int 0 0,.int 3 0,.ref 51,.bool .true,.int 181 0,.ref 52,.none,.ref 53,.ref 54,.ref 55,.int 238 0,.int 23 0,hcut 239]) #[]) ::
 (nat_lit 57,hfn (.func (hfd "step_rooms" "step_rooms" s_step_rooms .none .none .none (hvs "fewrooms.squares" 187) .none (.ref 56) .none 0)) #[]) ::
 (nat_lit 58,htp (.seq #[]) #[]) ::
 (nat_lit 60,htp (.seq #[hvs "_law_script" 246,hvs "_law_cells" 247]) #[]) ::
 (nat_lit 61,htp (.seq #[]) #[]) ::
 (nat_lit 63,hcd (.fields #[hvs "_law_begin" 243,hvs "_law_begin" 244,hcut 245,.int 26 0,.int 1 0,.int 0 0,.int 0 0,.int 3 0,.ref 58,.bool .true,.int 181 0,.ref 59,.none,.ref 60,.ref 61,.ref 62,.int 248 0,.int 26 0,hcut 249]) #[]) ::
 (nat_lit 64,hfn (.func (hfd "_law_begin" "_law_begin" s_Lbegin .none .none .none (hvs "law_fewrooms_k62_rooms_of_rows_and_squares" 241) .none (.ref 63) .none 0)) #[]) ::
 (nat_lit 65,htp (.seq #[]) #[]) ::
 (nat_lit 67,htp (.seq #[hvs "_law_state" 254,hvs "_law_many" 255,hvs "_law_turn" 256,hvs "_law_place" 257,hvs "_law_cell" 258,hvs "_law_digit" 259,hvs "_law_mixed" 260]) #[]) ::
 (nat_lit 68,htp (.seq #[]) #[]) ::
 (nat_lit 70,hcd (.fields #[hvs "_law_take" 251,hvs "_law_take" 252,hcut 253,.int 31 0,.int 2 0,.int 0 0,.int 0 0,.int 3 0,.ref 65,.bool .true,.int 181 0,.ref 66,.none,.ref 67,.ref 68,.ref 69,.int 261 0,.int 31 0,hcut 262]) #[]) ::
 (nat_lit 71,hfn (.func (hfd "_law_take" "_law_take" s_Ltake .none .none .none (hvs "law_fewrooms_k62_rooms_of_rows_and_squares" 241) .none (.ref 70) .none 0)) #[]) ::
 (nat_lit 72,htp (.seq #[]) #[]) ::
 (nat_lit 75,hcd (.fields #[hvs "_law_same" 264,hvs "_law_same" 265,hcut 266,.int 42 0,.int 2 0,.int 0 0,.int 0 0,.int 3 0,.ref 72,.bool .true,.int 181 0,.ref 73,.none,.none,.none,.ref 74,.int 267 0,.int 42 0,hcut 268]) #[]) ::
 (nat_lit 76,hfn (.func (hfd "_law_same" "_law_same" s_Lsame .none .none .none (hvs "law_fewrooms_k62_rooms_of_rows_and_squares" 241) .none (.ref 75) .none 0)) #[]) ::
 (nat_lit 77,htp (.seq #[]) #[]) ::
 (nat_lit 80,hcd (.fields #[hvs "_law_needed" 270,hvs "_law_needed" 271,hcut 272,.int 54 0,.int 2 0,.int 0 0,.int 0 0,.int 3 0,.ref 77,.bool .true,.int 181 0,.ref 78,.none,.none,.none,.ref 79,.int 273 0,.int 54 0,hcut 274]) #[]) ::
 (nat_lit 81,hfn (.func (hfd "_law_needed" "_law_needed" s_Lneeded .none .none .none (hvs "law_fewrooms_k62_rooms_of_rows_and_squares" 241) .none (.ref 80) .none 0)) #[]) ::
 (nat_lit 82,htp (.seq #[]) #[]) ::
 (nat_lit 85,hcd (.fields #[hvs "_law_come" 276,hvs "_law_come" 277,hcut 278,.int 63 0,.int 2 0,.int 0 0,.int 0 0,.int 3 0,.ref 82,.bool .true,.int 181 0,.ref 83,.none,.none,.none,.ref 84,.int 279 0,.int 63 0,hcut 280]) #[]) ::
 (nat_lit 86,hfn (.func (hfd "_law_come" "_law_come" s_Lcome .none .none .none (hvs "law_fewrooms_k62_rooms_of_rows_and_squares" 241) .none (.ref 85) .none 0)) #[]) ::
 (nat_lit 87,htp (.seq #[]) #[]) ::
 (nat_lit 90,hcd (.fields #[hvs "_law_part" 282,hvs "_law_part" 283,hcut 284,.int 88 0,.int 2 0,.int 0 0,.int 0 0,.int 3 0,.ref 87,.bool .true,.int 181 0,.ref 88,.none,.none,.none,.ref 89,.int 285 0,.int 88 0,hcut 286]) #[]) ::
 (nat_lit 91,hfn (.func (hfd "_law_part" "_law_part" s_Lpart .none .none .none (hvs "law_fewrooms_k62_rooms_of_rows_and_squares" 241) .none (.ref 90) .none 0)) #[]) ::
 (nat_lit 92,htp (.seq #[]) #[]) ::
 (nat_lit 95,hcd (.fields #[hvs "_law_bits" 288,hvs "_law_bits" 289,hcut 290,.int 91 0,.int 1 0,.int 0 0,.int 0 0,.int 3 0,.ref 92,.bool .true,.int 181 0,.ref 93,.none,.none,.none,.ref 94,.int 291 0,.int 91 0,hcut 292]) #[]) ::
 (nat_lit 96,hfn (.func (hfd "_law_bits" "_law_bits" s_Lbits .none .none .none (hvs "law_fewrooms_k62_rooms_of_rows_and_squares" 241) .none (.ref 95) .none 0)) #[]) ::
 (nat_lit 97,htp (.seq #[]) #[]) ::
 (nat_lit 100,hcd (.fields #[hvs "_law_done_in" 294,hvs "_law_done_in" 295,hcut 296,.int 93 0,.int 3 0,.int 0 0,.int 0 0,.int 3 0,.ref 97,.bool .true,.int 181 0,.ref 98,.none,.none,.none,.ref 99,.int 297 0,.int 93 0,hcut 298]) #[]) ::
 (nat_lit 101,hfn (.func (hfd "_law_done_in" "_law_done_in" s_Ldone_in .none .none .none (hvs "law_fewrooms_k62_rooms_of_rows_and_squares" 241) .none (.ref 100) .none 0)) #[]) ::
 (nat_lit 102,htp (.seq #[]) #[]) ::
 (nat_lit 104,htp (.seq #[hvs "_law_net" 303,hvs "_law_asked" 304,hvs "_law_rooms" 305]) #[]) ::
 (nat_lit 105,htp (.seq #[]) #[]) ::
 (nat_lit 107,hcd (.fields #[hvs "_law_least" 300,hvs "_law_least" 301,hcut 302,.int 97 0,.int 2 0,.int 0 0,.int 0 0,.int 3 0,.ref 102,.bool .true,.int 181 0,.ref 103,.none,.ref 104,.ref 105,.ref 106,.int 306 0,.int 97 0,hcut 307]) #[]) ::
 (nat_lit 108,hfn (.func (hfd "_law_least" "_law_least" s_Lleast .none .none .none (hvs "law_fewrooms_k62_rooms_of_rows_and_squares" 241) .none (.ref 107) .none 0)) #[]) ::
 (nat_lit 109,htp (.seq #[]) #[]) ::
 (nat_lit 111,htp (.seq #[hvs "_law_n" 312,hvs "_law_m" 313]) #[]) ::
 (nat_lit 112,htp (.seq #[]) #[]) ::
 (nat_lit 114,hcd (.fields #[hvs "_law_square_due" 309,hvs "_law_square_due" 310,hcut 311,.int 102 0,.int 2 0,.int 0 0,.int 0 0,.int 3 0,.ref 109,.bool .true,.int 181 0,.ref 110,.none,.ref 111,.ref 112,.ref 113,.int 314 0,.int 102 0,hcut 315]) #[]) ::
 (nat_lit 115,hfn (.func (hfd "_law_square_due" "_law_square_due" s_Lsquare_due .none .none .none (hvs "law_fewrooms_k62_rooms_of_rows_and_squares" 241) .none (.ref 114) .none 0)) #[]) ::
 (nat_lit 116,htp (.seq #[]) #[]) ::
 (nat_lit 118,htp (.seq #[hvs "_law_state" 320,hvs "_law_n" 321,hvs "_law_back" 322,hvs "_law_high" 323,hvs "_law_wide" 324,hvs "_law_rows" 325,hvs "_law_due" 326,hvs "_law_which" 327,hvs "_law_net" 328]) #[]) ::
 (nat_lit 119,htp (.seq #[]) #[]) ::
 (nat_lit 121,hcd (.fields #[hvs "_law_small_right" 317,hvs "_law_small_right" 318,hcut 319,.int 106 0,.int 1 0,.int 0 0,.int 0 0,.int 3 0,.ref 116,.bool .true,.int 181 0,.ref 117,.none,.ref 118,.ref 119,.ref 120,.int 329 0,.int 106 0,hcut 330]) #[]) ::
 (nat_lit 122,hfn (.func (hfd "_law_small_right" "_law_small_right" s_Lsmall_right .none .none .none (hvs "law_fewrooms_k62_rooms_of_rows_and_squares" 241) .none (.ref 121) .none 0)) #[]) ::
 (nat_lit 123,htp (.seq #[]) #[]) ::
 (nat_lit 126,hcd (.fields #[hvs "law" 332,hvs "law" 333,hcut 334,.int 114 0,.int 1 0,.int 0 0,.int 0 0,.int 3 0,.ref 123,.bool .true,.int 181 0,.ref 124,.none,.none,.none,.ref 125,.int 335 0,.int 114 0,hcut 336]) #[]) ::
 (nat_lit 127,hfn (.func (hfd "law" "law" s_law .none .none .none (hvs "law_fewrooms_k62_rooms_of_rows_and_squares" 241) .none (.ref 126) .none 0)) #[]) ::
 []
def hpA:List Addr:=[2,3,6,15,18,19,20,22,23,25,26,27,30,31,32,35,36,37,39,40,42,43,44,46,47,49,50,51,53,54,56,57,58,60,61,63,64,65,67,68,70,71,72,75,76,77,80,81,82,85,86,87,90,91,92,95,96,97,100,101,102,104,105,107,108,109,111,112,114,115,116,118,119,121,122,123,126,127]
def hpQ:Program:=PySem.W.view PySem.Challenge.pw_fewrooms_k62_rooms_of_rows_and_squares [1,2,3,4,5,6,7,9,10,11,12,13,14,15,16,17,18,19,20]
def hpN:Nat:=1252
theorem hpE (P:Params):hpA=(hpK P).map (·.1):=by kernel_rfl
def hpX (s:Shared):Bool:=PySem.W.xlAt hpQ [] s && PySem.W.recOk (PySem.W.RowW.records (PySem.W.OpenRow.toRowW (PySem.W.OpenLaw.row PySem.Challenge.rw_fewrooms_k62_rooms_of_rows_and_squares))) s
theorem hpLeft:PySem.W.LeftO PySem.Challenge.pw_fewrooms_k62_rooms_of_rows_and_squares hpQ [] hpX (PySem.W.kHook hpK hpA hpE).obs (PySem.W.kHook hpK hpA hpE).val hpN:=fun w=>by kernel_rfl
theorem hpSaid:PySem.W.OpenLaw.wellSaid PySem.Challenge.rw_fewrooms_k62_rooms_of_rows_and_squares=true:=by kernel_rfl
end Fw
namespace L2
open PySem PySem.Spec PyProof.Rows
abbrev Key:=Sum Int Str
def keyIs:Key→Value→Bool
 | .inl k,v=>Value.isInt k v
 | .inr x,v=>Value.isStrOf x v
def keyH (w:World):Key→Int
 | .inl k=>hashInt k
 | .inr x=>hashStr w x
theorem keyIs_shape:∀ {k:Key} {v:Value},keyIs k v=true→(∃ i t,k=Sum.inl i∧v=Value.int i t)∨(∃ x t,k=Sum.inr x∧v=Value.str x t)
 | .inl i,v,h=>by
  obtain ⟨t,e⟩:=Value.isInt_shape (k:=i) (v:=v) h
  exact .inl ⟨i,t,rfl,e⟩
 | .inr x,v,h=>by
  obtain ⟨t,e⟩:=Value.isStrOf_shape (x:=x) (v:=v) h
  exact .inr ⟨x,t,rfl,e⟩
theorem keyIs_int (i:Int) (t:Tok):keyIs (.inl i) (.int i t)=true:=by simp [keyIs,Value.isInt]
theorem keyIs_str (x:Str) (t:Tok):keyIs (.inr x) (.str x t)=true:=by simp [keyIs,Value.isStrOf]
theorem key_ll (a b:Int):decide ((Sum.inl a:Key)=Sum.inl b)=(a == b):=by
 by_cases e:a=b
 ·subst e;simp
 ·have h:¬ (Sum.inl a:Key)=Sum.inl b:=fun q=>e (Sum.inl.inj q)
  rw [decide_eq_false h]
  exact (beq_eq_false_iff_ne.mpr e).symm
theorem key_rr (a b:Str):decide ((Sum.inr a:Key)=Sum.inr b)=decide (a=b):=by
 by_cases e:a=b
 ·subst e;simp
 ·have h:¬ (Sum.inr a:Key)=Sum.inr b:=fun q=>e (Sum.inr.inj q)
  rw [decide_eq_false h,decide_eq_false e]
theorem key_lr (a:Int) (b:Str):decide ((Sum.inl a:Key)=Sum.inr b)=false:=decide_eq_false (fun q=>nomatch q)
theorem key_rl (a:Str) (b:Int):decide ((Sum.inr a:Key)=Sum.inl b)=false:=decide_eq_false (fun q=>nomatch q)
def mixKind (prog:Program) (w:World):PySem.KeyKind prog w Key where
 is:=keyIs
 hash:=keyH w
 inj:=fun v a b ha hb=>by
  rcases keyIs_shape ha with ⟨i,t,rfl,rfl⟩ | ⟨x,t,rfl,rfl⟩
  ·rcases keyIs_shape hb with ⟨j,u,rfl,e⟩ | ⟨y,u,rfl,e⟩
   ·injection e with e1 _;rw [e1]
   ·exact nomatch e
  ·rcases keyIs_shape hb with ⟨j,u,rfl,e⟩ | ⟨y,u,rfl,e⟩
   ·exact nomatch e
   ·injection e with e1 _;rw [e1]
 byValue:=fun k v h=>by
  rcases keyIs_shape h with ⟨i,t,rfl,rfl⟩ | ⟨x,t,rfl,rfl⟩ <;> rfl
 pyHash:=fun hv h=>by
  rcases keyIs_shape hv with ⟨i,t,rfl,rfl⟩ | ⟨x,t,rfl,rfl⟩
  ·exact wpAny_pyHash_int h
  ·exact wpAny_pyHash_str h
 eqBool:=fun hu hv h=>by
  rcases keyIs_shape hu with ⟨i,t,rfl,rfl⟩ | ⟨x,t,rfl,rfl⟩
  ·rcases keyIs_shape hv with ⟨j,u,rfl,rfl⟩ | ⟨y,u,rfl,rfl⟩
   ·rw [key_ll] at h;exact wpAny_eqBool_int h
   ·rw [key_lr] at h;exact SeqAt.EqAt.int_str i t y u _ _ _ _ h
  ·rcases keyIs_shape hv with ⟨j,u,rfl,rfl⟩ | ⟨y,u,rfl,rfl⟩
   ·rw [key_rl] at h;exact SeqAt.EqAt.str_int x t j u _ _ _ _ h
   ·rw [key_rr] at h;exact wpAny_eqBool_str h
 «strs»:=fun k x t v h=>by
  rcases keyIs_shape h with ⟨i,u,rfl,e⟩ | ⟨y,u,rfl,e⟩
  ·exact nomatch e
  ·injection e with e1 _
   subst e1
   cases v <;> rfl
theorem mixKind_is (prog:Program) (w:World) (k:Key) (v:Value):(mixKind prog w).is k v=keyIs k v:=rfl
theorem mixKind_int (prog:Program) (w:World) (i:Int) (t:Tok):(mixKind prog w).is (.inl i) (.int i t)=true:=keyIs_int i t
theorem mixKind_str (prog:Program) (w:World) (x:Str) (t:Tok):(mixKind prog w).is (.inr x) (.str x t)=true:=keyIs_str x t
end L2
namespace L2
open PySem PySem.Spec PyProof.Rows
inductive V where
 | non | bl (b:Bool) | int (i:Int) | str (x:Str) | byt (b:Array UInt8) | flt (b:UInt64) | ref (a:Addr) | ty (n:String)
 deriving DecidableEq
def RelV:V→Value→Prop
 | .non,u=>u=Value.none
 | .bl b,u=>u=Value.bool b
 | .int i,u=>∃ t,u=Value.int i t
 | .str x,u=>∃ t,u=Value.str x t
 | .byt b,u=>∃ t,u=Value.bytes b t
 | .flt b,u=>∃ t,u=Value.float b t
 | .ref a,u=>u=Value.ref a
 | .ty n,u=>u=Value.type n
abbrev Vals:List V→List Value→Prop:=Paired RelV
theorem Vals.length {xs:List V} {us:List Value} (r:Vals xs us):xs.length=us.length:=Paired.length r
theorem Vals.get:∀ {xs:List V} {us:List Value} {i:Nat} {x:V},Vals xs us→xs[i]?=some x→∃ u,us[i]?=some u∧RelV x u
 | _,_,_,_,.nil,e=>by simp at e
 | _,_,0,_,.cons r _,e=>by simp at e;subst e;exact ⟨_,rfl,r⟩
 | _,_,i+1,x,.cons _ t,e=>by
  obtain ⟨u,h1,h2⟩:=Vals.get (i:=i) (x:=x) t (by simpa using e)
  exact ⟨u,by simpa using h1,h2⟩
theorem Vals.set {x:V} {u:Value} (r:RelV x u):∀ {xs:List V} {us:List Value} (i:Nat),Vals xs us→Vals (xs.set i x) (us.set i u)
 | _,_,_,.nil=>.nil
 | _,_,0,.cons _ t=>.cons r t
 | _,_,i+1,.cons q t=>.cons q (Vals.set r i t)
theorem Vals.append:∀ {xs ys:List V} {us ws:List Value},Vals xs us→Vals ys ws→Vals (xs++ys) (us++ws)
 | _,_,_,_,.nil,s=>s
 | _,_,_,_,.cons r t,s=>.cons r (Vals.append t s)
theorem Vals.take:∀ {xs:List V} {us:List Value} (n:Nat),Vals xs us→Vals (xs.take n) (us.take n)
 | _,_,0,_=>.nil
 | _,_,_+1,.nil=>.nil
 | _,_,n+1,.cons r t=>.cons r (Vals.take n t)
theorem Vals.drop:∀ {xs:List V} {us:List Value} (n:Nat),Vals xs us→Vals (xs.drop n) (us.drop n)
 | _,_,0,r=>r
 | _,_,_+1,.nil=>.nil
 | _,_,n+1,.cons _ t=>Vals.drop n t
def RelO:Option V→Option Value→Prop
 | some v,some u=>RelV v u
 | none,none=>True
 | _,_=>False
def KV {κ:Type}:List (κ × V)→List (κ × Value)→Prop:=Paired fun (p:κ × V) (q:κ × Value)=>p.1=q.1∧RelV p.2 q.2
def kV:Key→V
 | .inl i=>.int i
 | .inr x=>.str x
inductive HO where
 /-- a list -/
 | lst (xs:List V)
 /-- a tuple (never changes) -/
 | tup (xs:List V)
 /-- a dict whose keys are ints and texts;one whose keys are tuples of ints and texts (the empty one is both) -/
 | dK (kvs:List (Key × V)) | dT (kvs:List (List Key × V))
 /-- a set of ints: its members,its size -/
 | set (S:Int→Bool) (n:Nat)
 /-- an instance of the class at C,its dict at dx,its attributes -/
 | ins (C dx:Addr) (fs:List (Str × V))
 /-- the dict of the instance at x -/
 | own (x:Addr)
 /-- the dict of an exception -/
 | xd (fs:List (Str × V))
 /-- a bound method,f of x -/
 | met (f x:Addr)
 /-- a range object lo,lo+1,.. below hi -/
 | rng (lo hi:Int)
 /-- a thing that is known to the object (the script;a dict while a loop walks it): read,never written while it is so -/
 | frz (o:Obj) (u:HO)
 /-- a code object's table -/
 | tbl (ps:Array Value)
 /-- any other thing,by what is true of its one object (a def of one's own: SetO a S n:=HO.ext fun h=>..) -/
 | ext (φ:Heap→Prop)
abbrev Hp:=Addr→Option HO
def upd (H:Hp) (a:Addr) (o:HO):Hp:=fun b=>if b=a then some o else H b
theorem upd_same {H:Hp} {a:Addr} {o:HO}:upd H a o a=some o:=by unfold upd;rw [if_pos rfl]
theorem upd_ne {H:Hp} {a b:Addr} {o:HO} (h:b ≠ a):upd H a o b=H b:=by unfold upd;rw [if_neg h]
theorem upd_upd {H:Hp} {a:Addr} {o u:HO}:upd (upd H a o) a u=upd H a u:=by
 funext b;unfold upd;split <;> rfl
theorem ne_of {H:Hp} {a b:Addr} {o u:HO} (h:H a=some o) (h':H b=some u) (d:o ≠ u):a ≠ b:=by
 intro e;subst e;rw [h] at h';exact d (Option.some.inj h')
theorem ne_of_none {H:Hp} {a b:Addr} {o:HO} (h:H a=some o) (h':H b=none):a ≠ b:=by
 intro e;subst e;rw [h] at h';cases h'
section
variable (P:Program) (w:World)
def ObjOk (H:Hp) (h:Heap) (a:Addr):HO→Prop
 | .lst xs=>xs.length≤sizeLine∧∃ (its:List Value) (n:Nat),Vals xs its∧h.get? a=some { cls:=.type "list",data:=.seq its.toArray n }
 | .tup xs=>xs.length≤sizeLine∧∃ its:List Value,Vals xs its∧IsTup h a its.toArray
 | .dK kvs=>kvs.length≤sizeLine∧(a == sysModules)=false∧∃ vs,KV kvs vs∧h.DictOf (mixKind P w) a vs
 | .dT kvs=>kvs.length≤sizeLine∧(a == sysModules)=false∧∃ xs:List (List Key × Addr × Value),
   Paired (fun (p:List Key × V) (q:List Key × Addr × Value)=>p.1=q.1∧H q.2.1=some (.tup (p.1.map kV))∧RelV p.2 q.2.2) kvs xs∧
   ∃ o es ep,h.get? a=some o∧o.ExactDict∧o.data=.dict es ep∧es.toList=xs.map (entryOfKey (tupleKind (mixKind P w)))∧(xs.map (·.1)).Nodup
 | .set S n=>h.SetOf (intKind P w) a S n
 | .ins C dx fs=>H dx=some (.own a)∧fs.length≤1000∧dx ≠ a∧h.get? a=some (PySem.W.instObj C dx)∧
   ∃ mA,h.Ns1 dx mA∧(∀ f,RelO (fs.lookup f) (mA f))∧PySem.Within mA (fs.map (·.1))
 | .own _=>∃ o,h.get? a=some o
 | .xd fs=>∃ mA,h.Ns1 a mA∧∀ f,RelO (fs.lookup f) (mA f)
 | .rng lo hi=>∃ t u v,h.get? a=some { cls:=.type "range",data:=.fields #[.int lo t,.int hi u,.int 1 v] }
 | .frz o u=>h.get? a=some o∧ObjOk H h a u
 | .tbl ps=>h.get? a=some { cls:=.none,data:=.fields ps }
 | .met f x=>h.get? a=some (PySem.W.methodObj (.ref f) (.ref x))
 | .ext φ=>φ h∧(∃ o,h.get? a=some o)∧∀ h1 h2:Heap,φ h1→(∀ o,h1.get? a=some o→h2.get? a=some o)→φ h2
def HOk (H:Hp) (h:Heap):Prop:=∀ a o,H a=some o→ObjOk P w H h a o
end
section
variable {P:Program} {w:World} {H H':Hp} {h h':Heap} {a:Addr} {o:HO}
theorem ObjOk.lt (x:ObjOk P w H h a o):a<h.objs.size:=by
 cases o with
 | lst xs=>obtain ⟨_,_,_,_,e⟩:=x;exact Heap.lt_size e
 | tup xs=>obtain ⟨_,_,_,p⟩:=x;exact p.lt
 | dK kvs=>obtain ⟨_,_,_,_,o,_,_,e,_⟩:=x;exact Heap.lt_size e
 | dT kvs=>obtain ⟨_,_,_,_,o,_,_,e,_⟩:=x;exact Heap.lt_size e
 | set S n=>obtain ⟨o,_,_,_,e,_⟩:=x;exact Heap.lt_size e
 | ins C dx fs=>obtain ⟨_,_,_,e,_⟩:=x;exact Heap.lt_size e
 | own y=>obtain ⟨_,e⟩:=x;exact Heap.lt_size e
 | xd fs=>obtain ⟨_,⟨_,_,_,e,_⟩,_⟩:=x;exact Heap.lt_size e
 | rng lo hi=>obtain ⟨_,_,_,e⟩:=x;exact Heap.lt_size e
 | frz ob u=>obtain ⟨e,_⟩:=x;exact Heap.lt_size e
 | tbl ps=>exact Heap.lt_size (show h.get? a=some _ from x)
 | met f y=>exact Heap.lt_size (show h.get? a=some _ from x)
 | ext φ=>obtain ⟨_,⟨_,e⟩,_⟩:=x;exact Heap.lt_size e
theorem Paired.mapP {α β:Type} {F G:α→β→Prop}:∀ {l₁:List α} {l₂:List β},Paired F l₁ l₂→(∀ a b,F a b→G a b)→Paired G l₁ l₂
 | _,_,.nil,_=>.nil
 | _,_,.cons r t,f=>.cons (f _ _ r) (Paired.mapP t f)
theorem ObjOk.stay (x:ObjOk P w H h a o) (k:∀ b u,(b=a∨H b=some (.own a))→h.get? b=some u→h'.get? b=some u)
  (ho:∀ b,H b=some (.own a)→H' b=some (.own a)) (ht:∀ b xs,H b=some (.tup xs)→H' b=some (.tup xs)):ObjOk P w H' h' a o:=by
 induction o with
 | lst xs=>obtain ⟨z,its,n,r,e⟩:=x;exact ⟨z,its,n,r,k _ _ (.inl rfl) e⟩
 | tup xs=>obtain ⟨z,its,r,ob,e,c⟩:=x;exact ⟨z,its,r,ob,k _ _ (.inl rfl) e,c⟩
 | dK kvs=>obtain ⟨z,y,vs,r,ob,es,ep,e,c⟩:=x;exact ⟨z,y,vs,r,ob,es,ep,k _ _ (.inl rfl) e,c⟩
 | dT kvs=>
  obtain ⟨z,y,xs,r,ob,es,ep,e,c⟩:=x
  exact ⟨z,y,xs,Paired.mapP r fun p q z=>⟨z.1,ht _ _ z.2.1,z.2.2⟩,ob,es,ep,k _ _ (.inl rfl) e,c⟩
 | set S n=>obtain ⟨ob,es,ep,t,e,c⟩:=x;exact ⟨ob,es,ep,t,k _ _ (.inl rfl) e,c⟩
 | ins C dx fs=>
  obtain ⟨d,z,ne,e,mA,⟨od,es,ep,e2,c⟩,r⟩:=x
  exact ⟨ho _ d,z,ne,k _ _ (.inl rfl) e,mA,⟨od,es,ep,k _ _ (.inr d) e2,c⟩,r⟩
 | own y=>obtain ⟨ob,e⟩:=x;exact ⟨ob,k _ _ (.inl rfl) e⟩
 | xd fs=>obtain ⟨mA,⟨od,es,ep,e,c⟩,r⟩:=x;exact ⟨mA,⟨od,es,ep,k _ _ (.inl rfl) e,c⟩,r⟩
 | rng lo hi=>obtain ⟨t,u,v,e⟩:=x;exact ⟨t,u,v,k _ _ (.inl rfl) e⟩
 | frz ob u ih=>obtain ⟨e,q⟩:=x;exact ⟨k _ _ (.inl rfl) e,ih q⟩
 | tbl ps=>
  have e:h.get? a=some { cls:=.none,data:=.fields ps }:=x
  show h'.get? a=some { cls:=.none,data:=.fields ps }
  exact k a _ (.inl rfl) e
 | met f y=>
  have e:h.get? a=some (PySem.W.methodObj (.ref f) (.ref y)):=x
  show h'.get? a=some (PySem.W.methodObj (.ref f) (.ref y))
  exact k a _ (.inl rfl) e
 | ext φ=>obtain ⟨p,⟨o,e⟩,st⟩:=x;exact ⟨st _ _ p fun o q=>k _ _ (.inl rfl) q,⟨o,k _ _ (.inl rfl) e⟩,st⟩
theorem HOk.lt (x:HOk P w H h) (e:H a=some o):a<h.objs.size:=(x a o e).lt
theorem HOk.fresh (x:HOk P w H h) (e:h.objs.size≤a):H a=none:=by
 cases q:H a with
 | none=>rfl
 | some u=>exact absurd (Nat.lt_of_lt_of_le (x.lt q) e) (Nat.lt_irrefl _)
theorem HOk.kept (x:HOk P w H h) (k:∀ b u,h.get? b=some u→h'.get? b=some u):HOk P w H h':=fun a o e=>
 (x a o e).stay (fun b u _ q=>k b u q) (fun _ q=>q) fun _ _ q=>q
theorem HOk.laid (x:HOk P w H h) (k:∀ b u,h.get? b=some u→h'.get? b=some u) (hp:h.objs.size≤a) (new:ObjOk P w (upd H a o) h' a o):HOk P w (upd H a o) h':=fun b u e=>by
 have hn:=x.fresh hp
 by_cases hb:b=a
 ·subst hb;rw [upd_same] at e;cases e;exact new
 ·rw [upd_ne hb] at e
  exact (x b u e).stay (fun c v _ q=>k c v q) (fun c q=>by rw [upd_ne (ne_of_none q hn)];exact q) fun c xs q=>by rw [upd_ne (ne_of_none q hn)];exact q
end
def Rd (H:Hp) (a:Addr) (u:HO):Prop:=H a=some u∨∃ o,H a=some (.frz o u)
theorem Rd.ok {P:Program} {w:World} {H:Hp} {h:Heap} {a:Addr} {u:HO} (r:Rd H a u) (x:HOk P w H h):ObjOk P w H h a u:=by
 rcases r with r | ⟨o,r⟩
 ·exact x a u r
 ·obtain ⟨_,q⟩:=x a _ r
  exact q
def Mut:Option HO→Prop
 | some (.lst _)=>True
 | some (.dK _)=>True
 | some (.dT _)=>True
 | some (.set _ _)=>True
 | some (.ins _ _ _)=>True
 | some (.ext _)=>True
 | _=>False
section
variable {P:Program} {w:World} {H:Hp} {h h':Heap} {x e:Addr} {o':HO}
theorem HOk.write (ok:HOk P w H h) (mu:Mut (H x)) (he:e=x∨H e=some (.own x)) (k:∀ b u,b ≠ e→h.get? b=some u→h'.get? b=some u) (heo:∃ u,h'.get? e=some u)
  (new:ObjOk P w (upd H x o') h' x o'):HOk P w (upd H x o') h':=fun b u q=>by
 have nown:∀ c y,H c=some (.own y)→c ≠ x:=fun c y r z=>by subst z;rw [r] at mu;exact mu
 have ntup:∀ c xs,H c=some (.tup xs)→c ≠ x:=fun c xs r z=>by subst z;rw [r] at mu;exact mu
 by_cases hb:b=x
 ·subst hb;rw [upd_same] at q;cases q;exact new
 ·rw [upd_ne hb] at q
  by_cases hbe:b=e
  ·have q':H b=some (.own x):=by
    rcases he with z | z
    ·exact absurd (hbe.trans z) hb
    ·rw [hbe];exact z
   rw [q] at q';cases q'
   obtain ⟨v,hv⟩:=heo
   exact ⟨v,by rw [hbe];exact hv⟩
  ·refine (ok b u q).stay (fun c v hc r=>k c v ?_ r) (fun c r=>by rw [upd_ne (nown c b r)];exact r) fun c xs r=>by rw [upd_ne (ntup c xs r)];exact r
   rcases hc with rfl | hc
   ·exact hbe
   ·rintro rfl
    rcases he with z | z
    ·exact nown c b hc z
    ·rw [hc] at z;cases z;exact hb rfl
end
structure Un (fs ex:List Addr) (H H':Hp) (h h':Heap):Prop where
 keep:∀ b o,h.get? b=some o→H b=none→b ∉ fs→b ∉ ex→h'.get? b=some o
 slot:∀ b o,h.get? b=some o→H b=none→b ∈ fs→b ∉ ex→∃ sl,h'.get? b=some { o with slots:=sl }
 free:∀ b o,h.get? b=some o→H b=none→b ∉ ex→H' b=none
 there:∀ b o,h.get? b=some o→b ∉ ex→∃ o',h'.get? b=some o'
 tups:∀ b xs,H b=some (.tup xs)→H' b=some (.tup xs)
 frzs:∀ b o u,H b=some (.frz o u)→H' b=some (.frz o u)
 tbls:∀ b ps,H b=some (.tbl ps)→∃ more,H' b=some (.tbl (ps++more))
section
variable {fs fs' ex ex':List Addr} {H H1 H2:Hp} {h h1 h2 h':Heap} {a x e:Addr} {o:HO}
theorem Un.any (u:Un fs ex H H1 h h1) {b:Addr} {ob:Obj} (q:h.get? b=some ob) (n:H b=none) (hx:b ∉ ex):∃ sl,h1.get? b=some { ob with slots:=sl }:=by
 by_cases hb:b ∈ fs
 ·exact u.slot b ob q n hb hx
 ·exact ⟨ob.slots,u.keep b ob q n hb hx⟩
theorem Un.kept (k:∀ b u,h.get? b=some u→h'.get? b=some u):Un fs ex H H h h':=
 ⟨fun b ob q _ _ _=>k b ob q,fun b ob q _ _ _=>⟨ob.slots,k b ob q⟩,fun _ _ _ n _=>n,fun b ob q _=>⟨ob,k b ob q⟩,fun _ _ q=>q,fun _ _ _ q=>q,fun _ ps q=>⟨#[],by rw [q];simp⟩⟩
theorem Un.refl:Un fs ex H H h h:=Un.kept fun _ _ q=>q
theorem Un.laid (k:∀ b u,h.get? b=some u→h'.get? b=some u) (hp:h.objs.size≤a) (hn:H a=none):Un fs ex H (upd H a o) h h' where
 keep:=fun b u q _ _ _=>k b u q
 slot:=fun b u q _ _ _=>⟨u.slots,k b u q⟩
 free:=fun b u q n _=>by rw [upd_ne (Nat.ne_of_lt (Nat.lt_of_lt_of_le (Heap.lt_size q) hp))];exact n
 there:=fun b u q _=>⟨u,k b u q⟩
 tups:=fun b xs q=>by rw [upd_ne (ne_of_none q hn)];exact q
 frzs:=fun b u xs q=>by rw [upd_ne (ne_of_none q hn)];exact q
 tbls:=fun b ps q=>⟨#[],by rw [upd_ne (ne_of_none q hn),q];simp⟩
theorem Un.write (mu:Mut (H x)) (he:e=x∨H e=some (.own x)) (k:∀ b u,b ≠ e→h.get? b=some u→h'.get? b=some u) (heo:∃ u,h'.get? e=some u):Un fs ex H (upd H x o) h h':=by
 have hx:∀ b,H b=none→b ≠ x:=fun b n z=>by subst z;rw [n] at mu;exact mu
 have hb:∀ b,H b=none→b ≠ e:=fun b n z=>by
  subst z
  rcases he with r | r
  ·exact hx b n r
  ·rw [n] at r;cases r
 have hm:∀ b u,H b=some u→¬ Mut (some u)→b ≠ x:=fun b u q nm z=>by subst z;rw [q] at mu;exact nm mu
 refine ⟨fun b u q n _ _=>k b u (hb b n) q,fun b u q n _ _=>⟨u.slots,k b u (hb b n) q⟩,fun b u q n _=>by rw [upd_ne (hx b n)];exact n,fun b u q _=>?_,
  fun b xs q=>by rw [upd_ne (hm b _ q fun z=>z)];exact q,fun b u xs q=>by rw [upd_ne (hm b _ q fun z=>z)];exact q,fun b ps q=>⟨#[],by rw [upd_ne (hm b _ q fun z=>z),q];simp⟩⟩
 by_cases hbe:b=e
 ·subst hbe;exact heo
 ·exact ⟨u,k b u hbe q⟩
end
def trk (h:Heap) (H:Hp):List Addr:=(List.range h.objs.size).filter fun a=>(H a).isSome
def hidT (h:Heap) (H:Hp):Heap:=PySem.W.hideAll h (trk h H)
theorem hidT_size (h:Heap) (H:Hp):(hidT h H).objs.size=h.objs.size:=PySem.W.hideAll_size _ _
theorem hidT_get {h:Heap} {H:Hp} {b:Addr} {o:Obj} (e:h.get? b=some o) (n:H b=none):(hidT h H).get? b=some o:=
 PySem.W.hideAll_get _ e fun hm=>by
  have q:(H b).isSome=true:=(List.mem_filter.mp hm).2
  rw [n] at q;simp at q
theorem of_hidT {h:Heap} {H:Hp} {b:Addr} {o:Obj} (e:(hidT h H).get? b=some o):h.get? b=some o∧H b=none:=by
 have e':h.get? b=some o:=PySem.W.of_hideAll (trk h H) e
 refine ⟨e',?_⟩
 cases q:H b with
 | none=>rfl
 | some x=>
  have hm:b ∈ trk h H:=List.mem_filter.mpr ⟨List.mem_range.mpr (Heap.lt_size e'),by simp [q]⟩
  have z:(hidT h H).get? b=none:=PySem.W.hideAll_none (trk h H) hm
  rw [z] at e;cases e
def allNews (g h:Heap) (L:Addr):List (Addr × Obj):=(List.range h.objs.size).filterMap fun a=>if a=L∨(g.get? a).isSome=true then none else (h.get? a).map fun o=>(a,o)
def rest (g h:Heap) (L d:Addr):List (Addr × Obj):=(allNews g h L).filter fun p=>decide (p.1 ≠ d)
end L2
namespace L2
open PySem PySem.Spec PyProof.Rows
structure Mod (K:PySem.W.Frag) (mg:Str→Option Value) (base:Heap):Prop where
 kin:K.In base
 glob:base.Ns mainGlobals mg
 blt:∃ mb,base.Ns builtinsNs mb∧∀ x:Str,x ≠ "__name__"→mb x=bootBuiltins x
 nolimit:base.NoLimit
structure Cx where
 prog:Program
 w:World
 K:PySem.W.Frag
 mg:Str→Option Value
 base:Heap
 A:Around
 N:List Str
 s₀:Shared
 H₀:Hp
 env:Env
 outer:List Env
 stack:List Env
 ex:List Addr
 fn:Str→Bool
 calm:Bool
 pn:List (Addr × Obj)
 xe:Value→Shared→Prop
def frs (l:List Env):List Addr:=l.filterMap (·.frame)
abbrev Cx.fs (X:Cx):List Addr:=frs X.outer
def Vis (sc:Scope) (x:Str):Prop:=sc.names.lookup x=some .local∨sc.names.lookup x=some .cell∨sc.names.lookup x=some .free
def Loc (sc:Scope) (x:Str):Prop:=sc.names.lookup x=some .local∨sc.names.lookup x=some .cell
def Look (env:Env) (h:Heap) (m:Str→Option Value) (x:Str) (u:Value):Prop:=
 (env.kindOf x=some .local∧m x=some u)∨((env.kindOf x=some .cell∨env.kindOf x=some .free)∧∃ c,env.cells.lookup x=some c∧h.IsCell c (some u))
structure Cx.Ok (X:Cx):Prop where
 mod:Mod X.K X.mg X.base
 kind:X.env.scope.kind=.function
 glob:X.env.globals=mainGlobals
 blt:X.env.builtins=builtinsNs
 above:X.s₀.heap.objs.size≤X.env.locals
 inj:∀ x y c,X.env.cells.lookup x=some c→X.env.cells.lookup y=some c→x=y
 has:∀ x,(X.env.kindOf x=some .cell∨X.env.kindOf x=some .free)→∃ c,X.env.cells.lookup x=some c
 cab:∀ x c,X.fn x=true→X.env.cells.lookup x=some c→X.s₀.heap.objs.size≤c
 hd:X.calm=true→X.A.handled=none
 frames:X.A.frames=some X.stack
 stk:X.stack=X.outer∨(X.stack=X.env::X.outer∧X.env.frame=some X.env.locals)
 exf:∀ b ∈ X.ex,b ≠ X.env.locals∧∀ x c,X.env.cells.lookup x=some c→c ≠ b
 bs:∀ b o,X.base.get? b=some o→X.s₀.heap.get? b=some o∧X.H₀ b=none
 bsz:X.base.objs.size≤X.s₀.heap.objs.size
 noex:∀ b o,X.base.get? b=some o→b ∉ X.ex
 exfs:∀ b ∈ X.ex,b ∉ X.fs
 funs:X.s₀.heap.FunFrames X.base X.outer
 frf:∀ b ∈ X.fs,X.H₀ b=none
structure Inv (X:Cx) (pins:List (Addr × Obj)) (σ:List (Option V)) (H:Hp) (s:Shared):Prop where
 ok:X.Ok
 os:s.os=X.s₀.os
 bare:AllBare s.gens
 base:Un X.fs X.ex X.H₀ H X.s₀.heap s.heap
 loc:∃ m,s.heap.Ns X.env.locals m∧∀ (i:Nat) (x:Str) (v:V),X.N[i]?=some x→σ[i]?=some (some v)→Vis X.env.scope x→∃ u,RelV v u∧Look X.env s.heap m x u
 cell:∀ x c,X.env.cells.lookup x=some c→∃ v,s.heap.IsCell c v
 free:H X.env.locals=none
 freeC:∀ x c,X.env.cells.lookup x=some c→H c=none
 pin:∀ p ∈ X.pn++pins,s.heap.get? p.1=some p.2∧H p.1=none∧p.1 ≠ X.env.locals∧p.1 ∉ X.fs∧∀ v,p.2.data ≠ .cell v
 hok:HOk X.prog X.w H s.heap
 len:σ.length=X.N.length
section
variable {X:Cx} {pins:List (Addr × Obj)} {σ:List (Option V)} {H H':Hp} {s:Shared} {h':Heap}
theorem Cx.Ok.nofr (ok:X.Ok) {b:Addr} {o:Obj} (e:X.base.get? b=some o):b ∉ X.fs:=fun hb=>by
 have:=(ok.funs.mem hb).1
 rw [e] at this;cases this
theorem Inv.bs (I:Inv X pins σ H s):∀ b o,X.base.get? b=some o→s.heap.get? b=some o∧H b=none:=fun b o e=>
 ⟨I.base.keep b o (I.ok.bs b o e).1 (I.ok.bs b o e).2 (I.ok.nofr e) (I.ok.noex b o e),I.base.free b o (I.ok.bs b o e).1 (I.ok.bs b o e).2 (I.ok.noex b o e)⟩
theorem Inv.bk (I:Inv X pins σ H s):∀ b o,X.base.get? b=some o→s.heap.get? b=some o:=fun b o e=>(I.bs b o e).1
theorem Inv.mod (I:Inv X pins σ H s):Mod X.K X.mg X.base:=I.ok.mod
theorem Inv.kIn (I:Inv X pins σ H s):X.K.In s.heap:=I.ok.mod.kin.keeps I.bk
theorem Inv.lt (I:Inv X pins σ H s):X.env.locals<s.heap.objs.size:=let ⟨_,hn,_⟩:=I.loc;hn.lt
theorem Inv.sz (I:Inv X pins σ H s):X.s₀.heap.objs.size≤s.heap.objs.size:=Nat.le_trans I.ok.above (Nat.le_of_lt I.lt)
theorem Inv.nofs (I:Inv X pins σ H s) {a:Addr} (h:s.heap.objs.size≤a):a ∉ X.fs:=fun hb=>by
 obtain ⟨_,o,ho,_⟩:=I.ok.funs.mem hb
 exact absurd (Nat.lt_of_lt_of_le (Heap.lt_size ho) (Nat.le_trans I.sz h)) (Nat.lt_irrefl _)
theorem Inv.cne (I:Inv X pins σ H s):∀ x c,X.env.cells.lookup x=some c→c ≠ X.env.locals:=fun x c e z=>by
 obtain ⟨v,o,ho,hd⟩:=I.cell x c e
 obtain ⟨m,⟨o',es,ep,ho',hd',_⟩,_⟩:=I.loc
 rw [z,ho'] at ho;cases ho;rw [hd'] at hd;cases hd
theorem Inv.funs (I:Inv X pins σ H s):s.heap.FunFrames X.base X.outer:=by
 have all:∀ (l:List Env),(∀ b ∈ frs l,b ∈ X.fs)→X.s₀.heap.FunFrames X.base l→s.heap.FunFrames X.base l:=by
  intro l
  induction l with
  | nil=>intro _ _;trivial
  | cons env r ih=>
   intro hs hl
   obtain ⟨hk,⟨L,o,hf,hn,ho,hd⟩,hr⟩:=hl
   have hL:L ∈ X.fs:=hs L (by unfold frs;rw [List.filterMap_cons,hf];exact List.mem_cons_self)
   obtain ⟨sl,e⟩:=I.base.slot L o ho (I.ok.frf L hL) hL fun z=>I.ok.exfs L z hL
   exact ⟨hk,⟨L,_,hf,hn,e,hd⟩,ih (fun b hb=>hs b (by unfold frs;rw [List.filterMap_cons,hf];exact List.mem_cons_of_mem _ hb)) hr⟩
 exact all X.outer (fun _ hb=>hb) I.ok.funs
theorem Inv.stack (I:Inv X pins σ H s):s.heap.FunFrames X.base X.stack:=by
 rcases I.ok.stk with e | ⟨e,hf⟩
 ·rw [e];exact I.funs
 ·rw [e]
  obtain ⟨m,hn,_⟩:=I.loc
  refine .cons (by rw [I.ok.kind];decide) hf hn ?_ I.funs
  exact Heap.get?_none_of_le (Nat.le_trans I.ok.bsz I.ok.above)
theorem Inv.stkSub (I:Inv X pins σ H s):∀ b ∈ frs X.stack,b ∈ X.env.locals::X.fs:=fun b hb=>by
 rcases I.ok.stk with e | ⟨e,hf⟩
 ·rw [e] at hb;exact List.mem_cons_of_mem _ hb
 ·rw [e] at hb
  unfold frs at hb
  rw [List.filterMap_cons,hf] at hb
  exact hb
theorem Inv.stkFree (I:Inv X pins σ H s):∀ b ∈ frs X.stack,H b=none:=fun b hb=>by
 rcases List.mem_cons.mp (I.stkSub b hb) with e | hb
 ·rw [e];exact I.free
 ·obtain ⟨_,o,ho,_⟩:=I.ok.funs.mem hb
  exact I.base.free b o ho (I.ok.frf b hb) fun z=>I.ok.exfs b z hb
theorem Inv.step {g':Array GenState} {t':Nat} {d':Drawn} {ch:List Addr} (I:Inv X pins σ H s)
  (hch:∀ b ∈ ch,(b ∈ X.ex∨X.s₀.heap.objs.size≤b)∧b ≠ X.env.locals∧(∀ x c,X.env.cells.lookup x=some c→c ≠ b)∧∀ p ∈ X.pn++pins,p.1 ≠ b)
  (keep:∀ b o,b ≠ X.env.locals→b ∉ X.fs→b ∉ ch→s.heap.get? b=some o→H b=none→h'.get? b=some o)
  (slot:∀ b o,b ≠ X.env.locals→b ∈ X.fs→b ∉ ch→s.heap.get? b=some o→H b=none→∃ sl,h'.get? b=some { o with slots:=sl }) (free:∀ b o,b ∉ ch→s.heap.get? b=some o→H b=none→H' b=none)
  (there:∀ b o,b ∉ ch→s.heap.get? b=some o→∃ o',h'.get? b=some o')
  (tups:∀ b xs,H b=some (.tup xs)→H' b=some (.tup xs)) (frzs:∀ b o u,H b=some (.frz o u)→H' b=some (.frz o u)) (tbls:∀ b ps,H b=some (.tbl ps)→∃ more,H' b=some (.tbl (ps++more)))
  (ns:∀ m,s.heap.Ns X.env.locals m→h'.Ns X.env.locals m) (hok:HOk X.prog X.w H' h') (hg:AllBare g') :
  Inv X pins σ H' { s with heap:=h',gens:=g',drawn:=d',toks:=t' }:=by
 have neL:∀ b o,X.s₀.heap.get? b=some o→b ≠ X.env.locals:=fun b o e=>Nat.ne_of_lt (Nat.lt_of_lt_of_le (Heap.lt_size e) I.ok.above)
 have neC:∀ b o,X.s₀.heap.get? b=some o→b ∉ X.ex→b ∉ ch:=fun b o e hx hb=>by
  rcases (hch b hb).1 with z | z
  ·exact hx z
  ·exact absurd (Nat.lt_of_lt_of_le (Heap.lt_size e) z) (Nat.lt_irrefl _)
 have cellK:∀ x c,X.env.cells.lookup x=some c→∀ v,s.heap.IsCell c v→h'.IsCell c v:=fun x c e v ⟨o,ho,hd⟩=>by
  have nch:c ∉ ch:=fun z=>(hch c z).2.2.1 x c e rfl
  by_cases hc:c ∈ X.fs
  ·obtain ⟨sl,q⟩:=slot c o (I.cne x c e) hc nch ho (I.freeC x c e)
   exact ⟨_,q,hd⟩
  ·exact ⟨o,keep c o (I.cne x c e) hc nch ho (I.freeC x c e),hd⟩
 refine ⟨I.ok,I.os,hg,⟨fun b o e n hb hx=>?_,fun b o e n hb hx=>?_,fun b o e n hx=>?_,fun b o e hx=>?_,fun b xs e=>tups b xs (I.base.tups b xs e),fun b o xs e=>frzs b o xs (I.base.frzs b o xs e),fun b ps e=>?_⟩,?_,fun x c e=>?_,?_,fun x c e=>?_,fun p hp=>?_,hok,I.len⟩
 ·exact keep b o (neL b o e) hb (neC b o e hx) (I.base.keep b o e n hb hx) (I.base.free b o e n hx)
 ·obtain ⟨sl,e1⟩:=I.base.slot b o e n hb hx
  obtain ⟨sl',e2⟩:=slot b _ (neL b o e) hb (neC b o e hx) e1 (I.base.free b o e n hx)
  exact ⟨sl',e2⟩
 ·obtain ⟨o',e1⟩:=I.base.there b o e hx
  exact free b o' (neC b o e hx) e1 (I.base.free b o e n hx)
 ·obtain ⟨o',e1⟩:=I.base.there b o e hx
  exact there b o' (neC b o e hx) e1
 ·obtain ⟨m1,e1⟩:=I.base.tbls b ps e
  obtain ⟨m2,e2⟩:=tbls b _ e1
  exact ⟨m1++m2,by rw [e2,Array.append_assoc]⟩
 ·obtain ⟨m,hn,hl⟩:=I.loc
  refine ⟨m,ns m hn,fun i x v e1 e2 e3=>?_⟩
  obtain ⟨u,r,l⟩:=hl i x v e1 e2 e3
  refine ⟨u,r,?_⟩
  rcases l with l | ⟨k,c,e,z⟩
  ·exact .inl l
  ·exact .inr ⟨k,c,e,cellK x c e _ z⟩
 ·obtain ⟨v,z⟩:=I.cell x c e
  exact ⟨v,cellK x c e v z⟩
 ·obtain ⟨m,⟨o,_,_,ho,_⟩,_⟩:=I.loc
  exact free _ o (fun z=>(hch _ z).2.1 rfl) ho I.free
 ·obtain ⟨v,o,ho,hd⟩:=I.cell x c e
  exact free c o (fun z=>(hch c z).2.2.1 x c e rfl) ho (I.freeC x c e)
 ·obtain ⟨e,n,ne,nf,d⟩:=I.pin p hp
  have nch:p.1 ∉ ch:=fun z=>(hch p.1 z).2.2.2 p hp rfl
  exact ⟨keep p.1 p.2 ne nf nch e n,free p.1 p.2 nch e n,ne,nf,d⟩
theorem Inv.un {t':Nat} (I:Inv X pins σ H s) (u:Un X.fs [] H H' s.heap h') (hok:HOk X.prog X.w H' h'):Inv X pins σ H' { s with heap:=h',toks:=t' }:=by
 obtain ⟨m,⟨o,es,ep,ho,r⟩,_⟩:=id I.loc
 obtain ⟨sl,hL⟩:=u.any ho I.free (by simp)
 exact I.step (g':=s.gens) (d':=s.drawn) (ch:=[]) (fun _ z=>nomatch z) (fun b o _ hb _ e n=>u.keep b o e n hb (by simp)) (fun b o _ hb _ e n=>u.slot b o e n hb (by simp)) (fun b o _ e n=>u.free b o e n (by simp)) (fun b o _ e=>u.there b o e (by simp)) u.tups u.frzs u.tbls (fun m' hm=>by
  obtain ⟨o',es',ep',ho',r'⟩:=hm
  rw [ho] at ho';cases ho'
  exact ⟨_,es',ep',hL,r'⟩) hok I.bare
theorem Inv.call {g':Array GenState} {t':Nat} {d':Drawn} {ch:List Addr} (I:Inv X pins σ H s) (u:Un (frs X.stack) ch H H' s.heap h') (hok:HOk X.prog X.w H' h') (hg:AllBare g')
  (hch:∀ b ∈ ch,(b ∈ X.ex∨X.s₀.heap.objs.size≤b)∧b ≠ X.env.locals∧(∀ x c,X.env.cells.lookup x=some c→c ≠ b)∧∀ p ∈ X.pn++pins,p.1 ≠ b) :
  Inv X pins σ H' { s with heap:=h',gens:=g',drawn:=d',toks:=t' }:=by
 obtain ⟨m,⟨o,es,ep,ho,r⟩,_⟩:=id I.loc
 obtain ⟨sl,hL⟩:=u.any ho I.free fun z=>(hch _ z).2.1 rfl
 exact I.step (ch:=ch) hch (fun b o hL hb hc e n=>u.keep b o e n (fun z=>(List.mem_cons.mp (I.stkSub b z)).elim hL hb) hc) (fun b o _ _ hc e n=>u.any e n hc) (fun b o hc e n=>u.free b o e n hc) (fun b o hc e=>u.there b o e hc) u.tups u.frzs u.tbls (fun m' hm=>by
  obtain ⟨o',es',ep',ho',r'⟩:=hm
  rw [ho] at ho';cases ho'
  exact ⟨_,es',ep',hL,r'⟩) hok hg
theorem Inv.turned {t':Nat} {it:Addr} (I:Inv X pins σ H s) (k:∀ b o,b ≠ it→s.heap.get? b=some o→h'.get? b=some o) (hn:H it=none) (hL:it ≠ X.env.locals)
  (h1:it ∈ X.ex∨X.s₀.heap.objs.size≤it) (h2:∀ x c,X.env.cells.lookup x=some c→c ≠ it) (h3:∀ p ∈ X.pn++pins,p.1 ≠ it):Inv X pins σ H { s with heap:=h',toks:=t' }:=by
 have nit:∀ b u,H b=some u→b ≠ it:=fun b u e z=>by rw [z,hn] at e;cases e
 refine I.step (g':=s.gens) (d':=s.drawn) (ch:=[it]) (fun b hb=>?_) (fun b o _ _ hc e _=>k b o (fun z=>hc (by simp [z])) e) (fun b o _ _ hc e _=>⟨o.slots,k b o (fun z=>hc (by simp [z])) e⟩) (fun _ _ _ _ n=>n)
  (fun b o hc e=>⟨o,k b o (fun z=>hc (by simp [z])) e⟩) (fun _ _ e=>e) (fun _ _ _ e=>e) (fun b ps e=>⟨#[],by rw [e];simp⟩) (fun m hm=>?_) (fun b u e=>?_) I.bare
 ·have e:b=it:=by simpa using hb
  subst e
  exact ⟨h1,hL,h2,h3⟩
 ·obtain ⟨o,es,ep,ho,r⟩:=hm
  exact ⟨o,es,ep,k _ o (Ne.symm hL) ho,r⟩
 ·refine (I.hok b u e).stay (fun c v hc q=>k c v ?_ q) (fun _ q=>q) fun _ _ q=>q
  rcases hc with z | z
  ·rw [z];exact nit b u e
  ·exact nit c _ z
theorem Inv.tok (I:Inv X pins σ H s) (t:Nat):Inv X pins σ H { s with toks:=t }:=I.un (h':=s.heap) (t':=t) Un.refl I.hok
theorem Inv.kept {t':Nat} (I:Inv X pins σ H s) (k:∀ b u,s.heap.get? b=some u→h'.get? b=some u):Inv X pins σ H { s with heap:=h',toks:=t' }:=I.un (Un.kept k) (I.hok.kept k)
theorem Inv.laid {a:Addr} {o:HO} {t':Nat} (I:Inv X pins σ H s) (k:∀ b u,s.heap.get? b=some u→h'.get? b=some u) (hp:s.heap.objs.size≤a) (new:ObjOk X.prog X.w (upd H a o) h' a o) :
  Inv X pins σ (upd H a o) { s with heap:=h',toks:=t' }:=I.un (Un.laid k hp (I.hok.fresh hp)) (I.hok.laid k hp new)
theorem Inv.write {x e:Addr} {o:HO} {t':Nat} (I:Inv X pins σ H s) (mu:Mut (H x)) (he:e=x∨H e=some (.own x)) (k:∀ b u,b ≠ e→s.heap.get? b=some u→h'.get? b=some u) (heo:∃ u,h'.get? e=some u)
  (new:ObjOk X.prog X.w (upd H x o) h' x o):Inv X pins σ (upd H x o) { s with heap:=h',toks:=t' }:=I.un (Un.write mu he k heo) (I.hok.write mu he k heo new)
theorem Inv.pins_of {pins':List (Addr × Obj)} (I:Inv X pins σ H s) (h:∀ p ∈ pins',s.heap.get? p.1=some p.2∧H p.1=none∧p.1 ≠ X.env.locals∧p.1 ∉ X.fs∧∀ v,p.2.data ≠ .cell v):Inv X pins' σ H s:=
 ⟨I.ok,I.os,I.bare,I.base,I.loc,I.cell,I.free,I.freeC,fun p hp=>(List.mem_append.mp hp).elim (fun z=>I.pin p (List.mem_append_left _ z)) (h p),I.hok,I.len⟩
theorem nodup_ix {N:List Str} (hN:N.Nodup) {i j:Nat} {x:Str} (a:N[i]?=some x) (b:N[j]?=some x):i=j:=by
 obtain ⟨h1,e1⟩:=List.getElem?_eq_some_iff.mp a
 obtain ⟨h2,e2⟩:=List.getElem?_eq_some_iff.mp b
 exact (List.getElem_inj hN).mp (e1.trans e2.symm)
theorem store_ok2 {M:Model} {A:Around} {E:Value→Shared→Prop} {i:Nat} {x:Str} {v:V} {u:Value} {Q:Unit→Shared→Prop} (I:Inv X pins σ H s) (hN:X.N.Nodup) (hi:X.N[i]?=some x) (hx:Loc X.env.scope x) (r:RelV v u)
  (h:∀ s',Inv X pins (σ.set i (some v)) H s'→(∃ a,Heap.SameBut a s.heap s'.heap∧(a=X.env.locals∨X.env.cells.lookup x=some a))→Q () s') (hf:X.fn x=true∨X.env.scope.names.lookup x=some .local:=by first | exact .inl rfl | exact .inr rfl | assumption):wpAny M A (storeName X.env x u) Q E s:=by
 obtain ⟨m,hn,hl⟩:=id I.loc
 have hcls:(X.env.scope.kind == .class || (X.env.scope.kind == .module && X.env.locals != X.env.globals))=false:=by rw [I.ok.kind];rfl
 have hiσ:i<σ.length:=by rw [I.len];exact (List.getElem?_eq_some_iff.mp hi).1
 have cne:=I.cne
 have tracked:∀ {a:Addr} {h':Heap},(∃ o,s.heap.get? a=some o∧H a=none)→Heap.SameBut a s.heap h'→HOk X.prog X.w H h':=fun {a h'} ha hs b ob e=>by
  obtain ⟨_,_,hfree⟩:=ha
  refine (I.hok b ob e).stay (fun c w' hc q=>(hs.2 c ?_).trans q) (fun _ q=>q) fun _ _ q=>q
  rintro rfl
  rcases hc with rfl | hc
  ·rw [hfree] at e;cases e
  ·rw [hfree] at hc;cases hc
 rcases hx with hk | hk
 ·refine wpAny_storeName_local hk hn (fun h' hn' hs=>?_) hcls
  obtain ⟨oL,_,_,hoL,_⟩:=id hn
  refine h _ ⟨I.ok,I.os,I.bare,⟨fun b o e n hb hx=>?_,fun b o e n hb hx=>?_,I.base.free,fun b o e hx=>?_,I.base.tups,I.base.frzs,I.base.tbls⟩,⟨_,hn',fun j y v' e1 e2 e3=>?_⟩,fun y c e=>?_,I.free,I.freeC,fun p hp=>?_,tracked ⟨oL,hoL,I.free⟩ hs,by simpa using I.len⟩ ⟨_,hs,.inl rfl⟩
  ·exact (hs.2 b (Nat.ne_of_lt (Nat.lt_of_lt_of_le (Heap.lt_size e) I.ok.above))).trans (I.base.keep b o e n hb hx)
  ·obtain ⟨sl,e1⟩:=I.base.slot b o e n hb hx
   exact ⟨sl,(hs.2 b (Nat.ne_of_lt (Nat.lt_of_lt_of_le (Heap.lt_size e) I.ok.above))).trans e1⟩
  ·obtain ⟨o',e1⟩:=I.base.there b o e hx
   exact ⟨o',(hs.2 b (Nat.ne_of_lt (Nat.lt_of_lt_of_le (Heap.lt_size e) I.ok.above))).trans e1⟩
  ·by_cases hj:j=i
   ·subst hj
    rw [hi] at e1;cases e1
    rw [List.getElem?_set_self hiσ] at e2
    cases e2
    exact ⟨u,r,.inl ⟨hk,by simp⟩⟩
   ·rw [List.getElem?_set_ne (Ne.symm hj)] at e2
    obtain ⟨u',r',q⟩:=hl j y v' e1 e2 e3
    refine ⟨u',r',?_⟩
    rcases q with ⟨k,e⟩ | ⟨k,c,e,z⟩
    ·refine .inl ⟨k,?_⟩
     have:y ≠ x:=fun e=>hj (nodup_ix hN e1 (e ▸ hi))
     simp [this,e]
    ·exact .inr ⟨k,c,e,z.sameBut hs (cne y c e)⟩
  ·obtain ⟨w',z⟩:=I.cell y c e
   exact ⟨w',z.sameBut hs (cne y c e)⟩
  ·obtain ⟨e,n,ne,nf,d⟩:=I.pin p hp
   exact ⟨(hs.2 p.1 ne).trans e,n,ne,nf,d⟩
 ·have hfn:X.fn x=true:=by
   rcases hf with z | z
   ·exact z
   ·rw [z] at hk;cases hk
  obtain ⟨c,hc⟩:=I.ok.has x (.inl hk)
  obtain ⟨w',z⟩:=I.cell x c hc
  refine wpAny_storeName_cell I.ok.kind hk hc z (fun h' hc' hs=>?_)
  obtain ⟨oc,hoc,hocd⟩:=id z
  refine h { s with heap:=h' } ⟨I.ok,I.os,I.bare,⟨fun b o e n hb hx=>?_,fun b o e n hb hx=>?_,I.base.free,fun b o e hx=>?_,I.base.tups,I.base.frzs,I.base.tbls⟩,⟨m,hn.sameBut hs (Ne.symm (cne x c hc)),fun j y v' e1 e2 e3=>?_⟩,fun y c' e=>?_,I.free,I.freeC,fun p hp=>?_,tracked ⟨oc,hoc,I.freeC x c hc⟩ hs,by simpa using I.len⟩ ⟨c,hs,.inr hc⟩
  ·exact (hs.2 b (Nat.ne_of_lt (Nat.lt_of_lt_of_le (Heap.lt_size e) (I.ok.cab x c hfn hc)))).trans (I.base.keep b o e n hb hx)
  ·obtain ⟨sl,e1⟩:=I.base.slot b o e n hb hx
   exact ⟨sl,(hs.2 b (Nat.ne_of_lt (Nat.lt_of_lt_of_le (Heap.lt_size e) (I.ok.cab x c hfn hc)))).trans e1⟩
  ·obtain ⟨o',e1⟩:=I.base.there b o e hx
   exact ⟨o',(hs.2 b (Nat.ne_of_lt (Nat.lt_of_lt_of_le (Heap.lt_size e) (I.ok.cab x c hfn hc)))).trans e1⟩
  ·by_cases hj:j=i
   ·subst hj
    rw [hi] at e1;cases e1
    rw [List.getElem?_set_self hiσ] at e2
    cases e2
    exact ⟨u,r,.inr ⟨.inl hk,c,hc,hc'⟩⟩
   ·rw [List.getElem?_set_ne (Ne.symm hj)] at e2
    obtain ⟨u',r',q⟩:=hl j y v' e1 e2 e3
    refine ⟨u',r',?_⟩
    rcases q with q | ⟨k,c',e,z'⟩
    ·exact .inl q
    ·refine .inr ⟨k,c',e,z'.sameBut hs ?_⟩
     rintro rfl
     exact hj (nodup_ix hN e1 (I.ok.inj _ _ _ e hc ▸ hi))
  ·by_cases hcc:c'=c
   ·subst hcc;exact ⟨_,hc'⟩
   ·obtain ⟨w2,z2⟩:=I.cell y c' e
    exact ⟨w2,z2.sameBut hs hcc⟩
  ·obtain ⟨e,n,ne,nf,d⟩:=I.pin p hp
   refine ⟨(hs.2 p.1 ?_).trans e,n,ne,nf,d⟩
   intro q
   rw [q,hoc] at e
   have q':oc=p.2:=Option.some.inj e
   exact d w' (by rw [← q'];exact hocd)
theorem store_ok {M:Model} {A:Around} {E:Value→Shared→Prop} {i:Nat} {x:Str} {v:V} {u:Value} {Q:Unit→Shared→Prop} (I:Inv X pins σ H s) (hN:X.N.Nodup) (hi:X.N[i]?=some x) (hx:Loc X.env.scope x) (r:RelV v u)
  (h:∀ s',Inv X pins (σ.set i (some v)) H s'→Q () s') (hf:X.fn x=true∨X.env.scope.names.lookup x=some .local:=by first | exact .inl rfl | exact .inr rfl | assumption):wpAny M A (storeName X.env x u) Q E s:=
 store_ok2 I hN hi hx r (fun s' I' _=>h s' I') hf
theorem Inv.call' {s':Shared} {ch:List Addr} (I:Inv X pins σ H s) (ho:s'.os=s.os) (u:Un (frs X.stack) ch H H' s.heap s'.heap) (hok:HOk X.prog X.w H' s'.heap) (hg:AllBare s'.gens)
  (hch:∀ b ∈ ch,(b ∈ X.ex∨X.s₀.heap.objs.size≤b)∧b ≠ X.env.locals∧(∀ x c,X.env.cells.lookup x=some c→c ≠ b)∧∀ p ∈ X.pn++pins,p.1 ≠ b):Inv X pins σ H' s':=by
 obtain ⟨h',g',d',t',o'⟩:=s'
 have e:o'=s.os:=ho
 subst e
 exact I.call (g':=g') (t':=t') (d':=d') u hok hg hch
end
abbrev XK:=Value→Option Addr→Hp→Prop
abbrev St:=List (Option V)
abbrev VK:=V→Hp→Prop
abbrev TE:=St→Hp→VK→Prop
abbrev TT:=St→Hp→(Bool→Hp→Prop)→Prop
abbrev TA:=St→Hp→(List V→Hp→Prop)→Prop
structure Ends where
 nx:St→Hp→Prop
 rt:VK
 bk:St→Hp→Prop:=fun _ _=>False
 ct:St→Hp→Prop:=fun _ _=>False
abbrev TS:=Ends→St→Hp→Prop
def EP (X:Cx) (pins:List (Addr × Obj)) (σ:St) (Q:VK) (u:Value) (s':Shared):Prop:=∃ v H',Inv X pins σ H' s'∧RelV v u∧Q v H'
def TP (X:Cx) (pins:List (Addr × Obj)) (σ:St) (Q:Bool→Hp→Prop) (b:Bool) (s':Shared):Prop:=∃ H',Inv X pins σ H' s'∧Q b H'
def AP (X:Cx) (pins:List (Addr × Obj)) (σ:St) (Q:List V→Hp→Prop) (us:List Value) (s':Shared):Prop:=∃ vs H',Inv X pins σ H' s'∧Vals vs us∧Q vs H'
def SP (X:Cx) (pins:List (Addr × Obj)) (D:Ends) (f:Flow) (s':Shared):Prop:=
 match f with
 | .next=>∃ σ' H',Inv X pins σ' H' s'∧D.nx σ' H'
 | .brk=>∃ σ' H',Inv X pins σ' H' s'∧D.bk σ' H'
 | .cont=>∃ σ' H',Inv X pins σ' H' s'∧D.ct σ' H'
 | .ret u=>∃ v σ' H',Inv X pins σ' H' s'∧RelV v u∧D.rt v H'
def PE (X:Cx) (e:Expr) (t:TE):Prop:=
 ∀ (pins:List (Addr × Obj)) (s:Shared) (σ:St) (H:Hp) (Q:VK),Inv X pins σ H s→t σ H Q→wpAny (model X.prog X.w) X.A (eval e X.env) (EP X pins σ Q) X.xe s
def PT (X:Cx) (e:Expr) (t:TT):Prop:=
 ∀ (pins:List (Addr × Obj)) (s:Shared) (σ:St) (H:Hp) (Q:Bool→Hp→Prop),Inv X pins σ H s→t σ H Q→wpAny (model X.prog X.w) X.A (isTrue e X.env (eval e X.env)) (TP X pins σ Q) X.xe s
def PW (X:Cx) (e:Expr) (t:TT):Prop:=
 ∀ (whole:Sem Value) (pins:List (Addr × Obj)) (s:Shared) (σ:St) (H:Hp) (Q:Bool→Hp→Prop),Inv X pins σ H s→t σ H Q→wpAny (model X.prog X.w) X.A (isTrue e X.env whole) (TP X pins σ Q) X.xe s
theorem PW.pt {X:Cx} {e:Expr} {t:TT} (h:PW X e t):PT X e t:=h _
def PA (X:Cx) (es:List Expr) (t:TA):Prop:=
 ∀ (pos:Pos) (pins:List (Addr × Obj)) (s:Shared) (σ:St) (H:Hp) (Q:List V→Hp→Prop),Inv X pins σ H s→t σ H Q→wpAny (model X.prog X.w) X.A (spliced (backTo pos (starEach es X.env))) (AP X pins σ Q) X.xe s
def PS (X:Cx) (st:Stmt) (t:TS):Prop:=
 ∀ (pins:List (Addr × Obj)) (s:Shared) (σ:St) (H:Hp) (D:Ends),Inv X pins σ H s→t D σ H→wpAny (model X.prog X.w) X.A (exec st X.env) (SP X pins D) X.xe s
def PSs (X:Cx) (st:List Stmt) (t:TS):Prop:=
 ∀ (pins:List (Addr × Obj)) (s:Shared) (σ:St) (H:Hp) (D:Ends),Inv X pins σ H s→t D σ H→wpAny (model X.prog X.w) X.A (execs st X.env) (SP X pins D) X.xe s
theorem thn {α:Type} {t:Sem α} {Q Q':α→Shared→Prop} {M:Model} {A:Around} {E:Value→Shared→Prop} {s:Shared} (h:wpAny M A t Q E s) (hQ:∀ a s,Q a s→Q' a s):wpAny M A t Q' E s:=wpAny_mono h hQ fun _ _ x=>x
end L2
namespace L2
open PySem PySem.Spec PyProof.Rows
section
variable {X:Cx}
theorem bin {a b:Expr} {ta tb:TE} (ha:PE X a ta) (hb:PE X b tb) {pins:List (Addr × Obj)} {s:Shared} {σ:St} {H:Hp} {R:V→V→Hp→Prop} (I:Inv X pins σ H s) (h:ta σ H fun x H1=>tb σ H1 fun y H2=>R x y H2)
  {α:Type} {Q:α→Shared→Prop} {f:Value→Value→Sem α}
  (hf:∀ v u s2 x y H2,Inv X pins σ H2 s2→RelV x v→RelV y u→R x y H2→wpAny (model X.prog X.w) X.A (f v u) Q X.xe s2) :
  wpAny (model X.prog X.w) X.A (eval a X.env) (fun v s₁=>wpAny (model X.prog X.w) X.A (eval b X.env) (fun u s₂=>wpAny (model X.prog X.w) X.A (f v u) Q X.xe s₂) X.xe s₁) X.xe s:=by
 refine thn (ha pins s σ H _ I h) fun v s1 ⟨x,H1,I1,r1,q1⟩=>?_
 refine thn (hb pins s1 σ H1 _ I1 q1) fun u s2 ⟨y,H2,I2,r2,q2⟩=>?_
 exact hf v u s2 x y H2 I2 r1 r2 q2
def tVar (i:Nat):TE:=fun σ H Q=>∃ v,σ[i]?=some (some v)∧Q v H
def tC (v:V):TE:=fun _ H Q=>Q v H
theorem pe_var {i:Nat} {x:Str} {pos:Pos} (hN:X.N[i]?=some x) (hv:Vis X.env.scope x) (hd:(x == ("__debug__" : Str))=false:=by decide) (hcd:(x == ("__classdict__" : Str))=false:=by decide):PE X (.Name x pos) (tVar i):=by
 intro pins s σ H Q I h
 obtain ⟨v,e,h⟩:=h
 obtain ⟨m,hn,hl⟩:=I.loc
 obtain ⟨u,r,l⟩:=hl i x v hN e hv
 have fin:EP X pins σ Q u s:=⟨v,H,I,r,h⟩
 rcases l with ⟨hk,hm⟩ | ⟨hk,c,hc,hcell⟩
 ·exact wpAny_Name (wpAny_loadName_local I.ok.kind hk hn hm fin) hd
 ·rcases hk with hk | hk
  ·exact wpAny_Name (wpAny_loadName_cell I.ok.kind hk hc hcell fin) hd
  ·exact wpAny_Name (wpAny_loadName_free I.ok.kind hk hc hcell fin hcd) hd
theorem pe_int {i j pos}:PE X (.Constant (.int i) j pos) (tC (.int i)):=fun _ _ _ H _ I h=>wpAny_Constant_int ⟨.int i,H,I.tok _,⟨_,rfl⟩,h⟩
theorem pe_bl {b j pos}:PE X (.Constant (.bool b) j pos) (tC (.bl b)):=fun _ _ _ H _ I h=>Constant_bool ⟨.bl b,H,I,rfl,h⟩
theorem pe_str {x j pos}:PE X (.Constant (.str x) j pos) (tC (.str x)):=fun _ _ _ H _ I h=>Calls.Constant_str ⟨.str x,H,I.tok _,⟨_,rfl⟩,h⟩
def Gl (X:Cx) (x:Str):Prop:=X.env.kindOf x=some .globalImplicit
theorem ld_glob {E:Value→Shared→Prop} {pins:List (Addr × Obj)} {s:Shared} {σ:St} {H:Hp} {x:Str} {u:Value} {pos:Pos} {Q:Value→Shared→Prop} (I:Inv X pins σ H s) (hg:Gl X x) (hm:X.mg x=some u) (h:Q u s)
  (hd:(x == ("__debug__" : Str))=false:=by decide):wpAny (model X.prog X.w) X.A (eval (.Name x pos) X.env) Q E s:=
 Calls.Name_function_global I.ok.kind hg (Calls.loadGlobal_global (by rw [I.ok.glob];exact I.mod.glob.keeps I.bk) hm h) hd
theorem ld_blt {E:Value→Shared→Prop} {pins:List (Addr × Obj)} {s:Shared} {σ:St} {H:Hp} {x:Str} {u:Value} {pos:Pos} {Q:Value→Shared→Prop} (I:Inv X pins σ H s) (hg:Gl X x) (hm:X.mg x=none) (hv:bootBuiltins x=some u) (h:Q u s)
  (hn:x ≠ "__name__":=by decide) (hd:(x == ("__debug__" : Str))=false:=by decide):wpAny (model X.prog X.w) X.A (eval (.Name x pos) X.env) Q E s:=by
 obtain ⟨mb,h1,h2⟩:=I.mod.blt
 exact Calls.Name_function_global I.ok.kind hg (Calls.loadGlobal_builtin (by rw [I.ok.glob];exact I.mod.glob.keeps I.bk) hm (by rw [I.ok.blt];exact h1.keeps I.bk) ((h2 x hn).trans hv) h) hd
theorem pe_bltn {x:Str} {v:V} {u:Value} {pos:Pos} (hg:Gl X x) (hm:X.mg x=none) (hv:bootBuiltins x=some u) (r:RelV v u) (hn:x ≠ "__name__":=by decide) (hd:(x == ("__debug__" : Str))=false:=by decide):PE X (.Name x pos) (tC v):=
 fun _ _ _ H _ I h=>ld_blt I hg hm hv ⟨v,H,I,r,h⟩ hn hd
variable {a b:Expr} {ta tb:TE} {pos:Pos}
def PC (X:Cx) (op:CmpOp) (a b:Expr) (t:TE):Prop:=
 ∀ (pins:List (Addr × Obj)) (s:Shared) (σ:St) (H:Hp) (Q:VK),Inv X pins σ H s→t σ H Q→
  wpAny (model X.prog X.w) X.A (eval a X.env) (fun v s₁=>wpAny (model X.prog X.w) X.A (eval b X.env) (fun u s₂=>wpAny (model X.prog X.w) X.A (compareOp op v u) (EP X pins σ Q) X.xe s₂) X.xe s₁) X.xe s
theorem nobehind (b:Expr) {op:CmpOp} (h:op ≠ .In) (h2:op ≠ .NotIn):behindInMarks op b=false:=by
 have e1:(op == CmpOp.In)=false:=by cases op <;> first | rfl | exact absurd rfl h
 have e2:(op == CmpOp.NotIn)=false:=by cases op <;> first | rfl | exact absurd rfl h2
 cases b <;> simp [behindInMarks,e1,e2]
def tIsN (ta:TE):TE:=fun σ H Q=>ta σ H fun x H1=>Q (.bl (decide (x=.non))) H1
theorem RelV.none_iff {x:V} {v:Value} (r:RelV x v):(v == Value.none)=decide (x=.non):=by
 cases x with
 | non=>cases r;rfl
 | bl _=>cases r;rfl
 | int _=>obtain ⟨t,rfl⟩:=r;rfl
 | str _=>obtain ⟨t,rfl⟩:=r;rfl
 | byt _=>obtain ⟨t,rfl⟩:=r;rfl
 | flt _=>obtain ⟨t,rfl⟩:=r;rfl
 | ref _=>cases r;rfl
 | ty _=>cases r;rfl
theorem pc_isN {j pos'} (ha:PE X a ta):PC X .Is a (.Constant .none j pos') (tIsN ta):=by
 intro pins s σ H Q I h
 refine thn (ha pins s σ H _ I h) fun v s1 ⟨x,H1,I1,r1,q1⟩=>?_
 exact Constant_none (is_none_gen ⟨.bl _,H1,I1,by rw [r1.none_iff];rfl,q1⟩)
def tB (t:TE):TT:=fun σ H Q=>t σ H fun x H1=>∃ c,x=.bl c∧Q c H1
theorem pe_cmp {op:CmpOp} {t:TE} (h:PC X op a b t) (h1:behindInMarks op b=false:=by first | exact nobehind _ (by decide) (by decide) | rfl):PE X (.Compare a [op] [b] pos) t:=fun pins s σ H Q I hw=>wpAny_Compare1 (h pins s σ H Q I hw) h1
theorem pt_cmp {op:CmpOp} {t:TE} (h:PC X op a b t) (h1:behindInMarks op b=false:=by first | exact nobehind _ (by decide) (by decide) | rfl):PT X (.Compare a [op] [b] pos) (tB t):=by
 intro pins s σ H Q I hw
 refine wpAny_isTrue_Compare1 (thn (h pins s σ H _ I hw) fun v s1 h1=>thn h1 fun u s2 h2=>thn h2 fun c s3 ⟨x,H1,I1,r1,q1⟩=>?_) h1
 obtain ⟨d,rfl,q⟩:=q1
 cases r1
 exact wpAny_truthy_bool ⟨H1,I1,q⟩
theorem pt_val {e:Expr} {t:TE} (h:PE X e t) (he:∀ whole,isTrue e X.env whole=(do let v ← whole;standAt e.pos;holding [v] (truthy v)):=by intro _;rfl):PT X e (tB t):=by
 intro pins s σ H Q I hw
 refine isTrue_plain (thn (h pins s σ H _ I hw) fun v s1 ⟨x,H1,I1,r1,q1⟩=>?_) (he _)
 obtain ⟨d,rfl,q⟩:=q1
 cases r1
 exact wpAny_truthy_bool ⟨H1,I1,q⟩
variable {tA tB':TT} {rest:List Expr}
def tAnd (t u:TT):TT:=fun σ H Q=>t σ H fun c H1=>if c=true then u σ H1 Q else Q false H1
def tOr (t u:TT):TT:=fun σ H Q=>t σ H fun c H1=>if c=true then Q true H1 else u σ H1 Q
def tNot (t:TT):TT:=fun σ H Q=>t σ H fun c H1=>Q (!c) H1
theorem pw_and1 (ha:PT X a tA):PW X (.BoolOp .And [a] pos) tA:=by
 intro wh pins s σ H Q I h
 refine isTrue_and (thn (ha pins s σ H Q I h) fun c s1 e=>?_)
 cases c with
 | true=>exact isTrue_and_nil e
 | false=>exact e
theorem pw_or1 (ha:PT X a tA):PW X (.BoolOp .Or [a] pos) tA:=by
 intro wh pins s σ H Q I h
 refine isTrue_or (thn (ha pins s σ H Q I h) fun c s1 e=>?_)
 cases c with
 | false=>exact isTrue_or_nil e
 | true=>exact e
theorem pw_and (ha:PT X a tA) (hb:PW X (.BoolOp .And (b::rest) pos) tB'):PW X (.BoolOp .And (a::b::rest) pos) (tAnd tA tB'):=by
 intro wh pins s σ H Q I h
 refine isTrue_and (thn (ha pins s σ H _ I h) fun c s1 ⟨H1,I1,q1⟩=>?_)
 cases c with
 | true=>exact hb wh pins s1 σ H1 Q I1 q1
 | false=>exact ⟨H1,I1,q1⟩
theorem pw_or (ha:PT X a tA) (hb:PW X (.BoolOp .Or (b::rest) pos) tB'):PW X (.BoolOp .Or (a::b::rest) pos) (tOr tA tB'):=by
 intro wh pins s σ H Q I h
 refine isTrue_or (thn (ha pins s σ H _ I h) fun c s1 ⟨H1,I1,q1⟩=>?_)
 cases c with
 | true=>exact ⟨H1,I1,q1⟩
 | false=>exact hb wh pins s1 σ H1 Q I1 q1
theorem pt_not (ha:PT X a tA):PT X (.UnaryOp .Not a pos) (tNot tA):=by
 intro pins s σ H Q I h
 exact isTrue_not (ha pins s σ H (fun c H1=>Q (!c) H1) I h)
def tAndV (ta tb:TE):TE:=fun σ H Q=>ta σ H fun x H1=>∃ c,x=.bl c∧if c=true then tb σ H1 Q else Q (.bl false) H1
def tNotV (ta:TE):TE:=fun σ H Q=>ta σ H fun x H1=>∃ c,x=.bl c∧Q (.bl (!c)) H1
theorem pe_one {op} {t:TE} (h:PE X a t):PE X (.BoolOp op [a] pos) t:=fun pins s σ H Q I hw=>BoolOp_one (h pins s σ H Q I hw)
theorem pe_and (ha:PE X a ta) (hb:PE X (.BoolOp .And (b::rest) pos) tb):PE X (.BoolOp .And (a::b::rest) pos) (tAndV ta tb):=by
 intro pins s σ H Q I h
 refine BoolOp_and (thn (ha pins s σ H _ I h) fun v s1 ⟨x,H1,I1,r1,q1⟩=>?_)
 obtain ⟨c,rfl,q1⟩:=q1
 cases r1
 refine wpAny_truthy_bool ?_
 cases c with
 | true=>exact hb pins s1 σ H1 Q I1 q1
 | false=>exact ⟨.bl false,H1,I1,rfl,q1⟩
theorem pe_not (ha:PE X a ta):PE X (.UnaryOp .Not a pos) (tNotV ta):=by
 intro pins s σ H Q I h
 refine UnaryOp_ (thn (ha pins s σ H _ I h) fun v s1 ⟨x,H1,I1,r1,q1⟩=>?_)
 obtain ⟨c,rfl,q1⟩:=q1
 cases r1
 exact not_of (wpAny_truthy_bool ⟨.bl (!c),H1,I1,rfl,q1⟩)
def tIf (t:TT) (ta tb:TE):TE:=fun σ H Q=>t σ H fun c H1=>if c=true then ta σ H1 Q else tb σ H1 Q
theorem pe_ifExp {c:Expr} (hc:PT X c tA) (ha:PE X a ta) (hb:PE X b tb):PE X (.IfExp c a b pos) (tIf tA ta tb):=by
 intro pins s σ H Q I h
 refine wpAny_IfExp (thn (hc pins s σ H _ I h) fun d s1 ⟨H1,I1,q1⟩=>?_)
 cases d with
 | true=>exact ha pins s1 σ H1 Q I1 q1
 | false=>exact hb pins s1 σ H1 Q I1 q1
end
end L2
namespace L2
open PySem PySem.Spec PyProof.Rows
def SqL (K:PySem.W.Frag) (H:Hp) (a:Addr) (xs:List V):Prop:=
 Rd H a (.lst xs)∨
  ∃ (o:Obj) (its:Array Value) (n:Nat),K.lookup a=some o∧o.cls=.type "list"∧o.dict=none∧o.data=.seq its n∧its.size≤sizeLine∧Vals xs its.toList
def SqT (K:PySem.W.Frag) (H:Hp) (a:Addr) (xs:List V):Prop:=
 Rd H a (.tup xs)∨
  ∃ (o:Obj) (its:Array Value) (n:Nat),K.lookup a=some o∧o.cls=.type "tuple"∧o.data=.seq its n∧its.size≤sizeLine∧Vals xs its.toList
def absV:Value→Option V
 | .none=>some .non
 | .bool b=>some (.bl b)
 | .int i _=>some (.int i)
 | .str x _=>some (.str x)
 | .bytes b _=>some (.byt b)
 | .float b _=>some (.flt b)
 | .ref a=>some (.ref a)
 | .type n=>some (.ty n)
 | _=>none
theorem RelV.abs {x:V} {u:Value} (r:RelV x u):absV u=some x:=by
 cases x with
 | non=>cases r;rfl
 | bl _=>cases r;rfl
 | int _=>obtain ⟨t,rfl⟩:=r;rfl
 | str _=>obtain ⟨t,rfl⟩:=r;rfl
 | byt _=>obtain ⟨t,rfl⟩:=r;rfl
 | flt _=>obtain ⟨t,rfl⟩:=r;rfl
 | ref _=>cases r;rfl
 | ty _=>cases r;rfl
theorem RelV.inj {x y:V} {u:Value} (r:RelV x u) (q:RelV y u):x=y:=Option.some.inj (r.abs.symm.trans q.abs)
theorem Vals.inj:∀ {xs ys:List V} {us:List Value},Vals xs us→Vals ys us→xs=ys
 | _,_,_,.nil,.nil=>rfl
 | _,_,_,.cons r t,.cons r' t'=>by rw [r.inj r',Vals.inj t t']
section
variable {X:Cx} {pins:List (Addr × Obj)} {σ:St} {H:Hp} {s:Shared} {a:Addr} {xs ys:List V}
theorem SqL.of {K:PySem.W.Frag} (h:H a=some (.lst xs)):SqL K H a xs:=.inl (.inl h)
theorem SqT.of {K:PySem.W.Frag} (h:H a=some (.tup xs)):SqT K H a xs:=.inl (.inl h)
theorem Inv.list (I:Inv X pins σ H s) (h:SqL X.K H a xs):∃ its:List Value,Vals xs its∧PlainL s.heap a its.toArray∧xs.length≤sizeLine:=by
 rcases h with h | ⟨o,its,n,hk,hc,hd,hs,hz,r⟩
 ·obtain ⟨z,its,n,r,e⟩:=h.ok I.hok
  exact ⟨its,r,⟨_,n,e,rfl,rfl,rfl⟩,z⟩
 ·refine ⟨its.toList,r,⟨o,n,I.kIn a o hk,hc,hd,by simpa using hs⟩,?_⟩
  have e:=r.length
  simp only [Array.length_toList] at e
  omega
theorem Inv.tuple (I:Inv X pins σ H s) (h:SqT X.K H a xs):∃ its:List Value,Vals xs its∧IsTup s.heap a its.toArray∧xs.length≤sizeLine:=by
 rcases h with h | ⟨o,its,n,hk,hc,hs,hz,r⟩
 ·obtain ⟨z,its,r,p⟩:=h.ok I.hok
  exact ⟨its,r,p,z⟩
 ·refine ⟨its.toList,r,⟨o,I.kIn a o hk,hc,n,by simpa using hs⟩,?_⟩
  have e:=r.length
  simp only [Array.length_toList] at e
  omega
theorem Inv.list_inj (I:Inv X pins σ H s) (h:SqL X.K H a xs) (h':SqL X.K H a ys):xs=ys:=by
 obtain ⟨its,r,⟨o,n,e,_,_,d⟩,_⟩:=I.list h
 obtain ⟨its',r',⟨o',n',e',_,_,d'⟩,_⟩:=I.list h'
 rw [e] at e';cases e'
 rw [d] at d'
 injection d' with d1 _
 have:its=its':=by simpa using congrArg Array.toList d1
 subst this
 exact r.inj r'
theorem Inv.tuple_inj (I:Inv X pins σ H s) (h:SqT X.K H a xs) (h':SqT X.K H a ys):xs=ys:=by
 obtain ⟨its,r,⟨o,e,_,n,d⟩,_⟩:=I.tuple h
 obtain ⟨its',r',⟨o',e',_,n',d'⟩,_⟩:=I.tuple h'
 rw [e] at e';cases e'
 rw [d] at d'
 injection d' with d1 _
 have:its=its':=by simpa using congrArg Array.toList d1
 subst this
 exact r.inj r'
end
abbrev Cx.wish (X:Cx) (E:Value→Shared→Prop):Cx:={ X with xe:=E }
abbrev Cx.nox (X:Cx):Cx:=X.wish fun _ _=>False
theorem Cx.Ok.wish {X:Cx} (ok:X.Ok) (E:Value→Shared→Prop):(X.wish E).Ok:=
 ⟨ok.mod,ok.kind,ok.glob,ok.blt,ok.above,ok.inj,ok.has,ok.cab,ok.hd,ok.frames,ok.stk,ok.exf,ok.bs,ok.bsz,ok.noex,ok.exfs,ok.funs,ok.frf⟩
theorem Cx.Ok.unwish {X:Cx} {E:Value→Shared→Prop} (ok:(X.wish E).Ok):X.Ok:=
 ⟨ok.mod,ok.kind,ok.glob,ok.blt,ok.above,ok.inj,ok.has,ok.cab,ok.hd,ok.frames,ok.stk,ok.exf,ok.bs,ok.bsz,ok.noex,ok.exfs,ok.funs,ok.frf⟩
section
variable {X:Cx} {pins:List (Addr × Obj)} {σ:St} {H:Hp} {s:Shared} {E:Value→Shared→Prop}
theorem Inv.wish (I:Inv X pins σ H s) (E:Value→Shared→Prop):Inv (X.wish E) pins σ H s:=⟨I.ok.wish E,I.os,I.bare,I.base,I.loc,I.cell,I.free,I.freeC,I.pin,I.hok,I.len⟩
theorem Inv.unwish (I:Inv (X.wish E) pins σ H s):Inv X pins σ H s:=⟨I.ok.unwish,I.os,I.bare,I.base,I.loc,I.cell,I.free,I.freeC,I.pin,I.hok,I.len⟩
theorem SP.unwish {D:Ends} {f:Flow} {s':Shared} (h:SP (X.wish E) pins D f s'):SP X pins D f s':=by
 cases f with
 | next=>obtain ⟨σ',H',I,q⟩:=h;exact ⟨σ',H',I.unwish,q⟩
 | brk=>obtain ⟨σ',H',I,q⟩:=h;exact ⟨σ',H',I.unwish,q⟩
 | cont=>obtain ⟨σ',H',I,q⟩:=h;exact ⟨σ',H',I.unwish,q⟩
 | ret u=>obtain ⟨v,σ',H',I,r,q⟩:=h;exact ⟨v,σ',H',I.unwish,r,q⟩
theorem PSs.nox {st:List Stmt} {t:TS} (h:PSs X.nox st t):PSs X st t:=fun pins s σ H D I hw=>
 wpAny_mono (h pins s σ H D (I.wish _) hw) (fun _ _ q=>q.unwish) fun _ _ z=>False.elim z
end
section
variable {X:Cx} {st:Stmt} {rest:List Stmt} {t u:TS} {e:Expr} {te:TE} {pos:Pos}
def tNext:TS:=fun D σ H=>D.nx σ H
def tSeq (t u:TS):TS:=fun D σ H=>t { D with nx:=u D } σ H
theorem pss_nil:PSs X [] tNext:=fun _ _ σ H _ I h=>wpAny_execs_nil ⟨σ,H,I,h⟩
theorem pss_cons (h1:PS X st t) (h2:PSs X rest u):PSs X (st::rest) (tSeq t u):=by
 intro pins s σ H D I h
 refine wpAny_execs_cons (thn (h1 pins s σ H { D with nx:=u D } I h) fun f s1 q=>?_)
 cases f with
 | next=>
  obtain ⟨σ',H',I',q⟩:=q
  exact h2 pins s1 σ' H' D I' q
 | ret v=>exact q
 | brk=>exact q
 | cont=>exact q
theorem pss_one (h1:PS X st t):PSs X [st] t:=by
 intro pins s σ H D I h
 refine wpAny_execs_cons (thn (h1 pins s σ H D I h) fun f s1 q=>?_)
 cases f with
 | next=>exact wpAny_execs_nil q
 | ret v=>exact q
 | brk=>exact q
 | cont=>exact q
theorem Inv.quiet {pins:List (Addr × Obj)} {σ:St} {H:Hp} {s:Shared} (I:Inv X pins σ H s):interactive X.env=false:=by simp [interactive,I.ok.kind]
def tDrop (te:TE):TS:=fun D σ H=>te σ H fun _ H1=>D.nx σ H1
theorem ps_expr (he:PE X e te) (hs:swapsWith e none pos.line X.env=pure false:=by rfl):PS X (.Expr e pos) (tDrop te):=by
 intro pins s σ H D I h
 exact wpAny_Expr_any (thn (he pins s σ H _ I h) fun v s1 ⟨x,H1,I1,r1,q1⟩=>⟨σ,H1,I1,q1⟩) I.quiet hs
def tRet (te:TE):TS:=fun D σ H=>te σ H D.rt
theorem ps_ret (he:PE X e te):PS X (.Return (some e) pos) (tRet te):=by
 intro pins s σ H D I h
 exact wpAny_Return_some (thn (he pins s σ H _ I h) fun v s1 ⟨x,H1,I1,r1,q1⟩=>⟨x,σ,H1,I1,r1,q1⟩)
def tIfS (c:TT) (t u:TS):TS:=fun D σ H=>c σ H fun b H1=>if b=true then t D σ H1 else u D σ H1
theorem ps_if {c:Expr} {a b:List Stmt} {tc:TT} (hc:PT X c tc) (ha:PSs X a t) (hb:PSs X b u):PS X (.If c a b pos) (tIfS tc t u):=by
 intro pins s σ H D I h
 refine wpAny_If (thn (hc pins s σ H _ I h) fun d s1 ⟨H1,I1,q1⟩=>?_)
 cases d with
 | true=>exact ha pins s1 σ H1 D I1 q1
 | false=>exact hb pins s1 σ H1 D I1 q1
end
abbrev TG:=V→St→Hp→(St→Hp→Prop)→Prop
abbrev TGs:=List V→St→Hp→(St→Hp→Prop)→Prop
def PG (X:Cx) (target:Expr) (t:TG):Prop:=
 ∀ (pins:List (Addr × Obj)) (s:Shared) (σ:St) (H:Hp) (v:V) (u:Value) (Q:St→Hp→Prop),Inv X pins σ H s→RelV v u→t v σ H Q→
  wpAny (model X.prog X.w) X.A (assign target X.env u) (fun _ s'=>∃ σ' H',Inv X pins σ' H' s'∧Q σ' H') X.xe s
def PGs (X:Cx) (ts:List Expr) (t:TGs):Prop:=
 ∀ (pins:List (Addr × Obj)) (s:Shared) (σ:St) (H:Hp) (vs:List V) (us:List Value) (Q:St→Hp→Prop),Inv X pins σ H s→Vals vs us→t vs σ H Q→
  wpAny (model X.prog X.w) X.A (assignInOrder ((assignEach ts X.env).map (·.2)) us) (fun _ s'=>∃ σ' H',Inv X pins σ' H' s'∧Q σ' H') X.xe s
abbrev TSet:=V→V→V→Hp→(Hp→Prop)→Prop
def PSet (X:Cx) (t:TSet):Prop:=
 ∀ (pins:List (Addr × Obj)) (s:Shared) (σ:St) (H:Hp) (o i v:V) (ov iv u:Value) (Q:Hp→Prop),Inv X pins σ H s→RelV o ov→RelV i iv→RelV v u→t o i v H Q→
  wpAny (model X.prog X.w) X.A (setItem ov iv u) (fun _ s'=>∃ H',Inv X pins σ H' s'∧Q H') X.xe s
abbrev TIp:=V→V→Hp→VK→Prop
def PIp (X:Cx) (op:Operator) (t:TIp):Prop:=
 ∀ (pins:List (Addr × Obj)) (s:Shared) (σ:St) (H:Hp) (x y:V) (v u:Value) (Q:VK),Inv X pins σ H s→RelV x v→RelV y u→t x y H Q→
  wpAny (model X.prog X.w) X.A (inplaceOp op v u) (EP X pins σ Q) X.xe s
section
variable {X:Cx} {pos:Pos}
def gName (i:Nat):TG:=fun v σ H Q=>Q (σ.set i (some v)) H
theorem pg_name {i:Nat} {x:Str} (hN:X.N.Nodup) (hi:X.N[i]?=some x) (hx:Loc X.env.scope x) (hf:X.fn x=true∨X.env.scope.names.lookup x=some .local:=by first | exact .inl rfl | exact .inr rfl | assumption):PG X (.Name x pos) (gName i):=by
 intro pins s σ H v u Q I r h
 exact wpAny_assign_Name (store_ok I hN hi hx r (fun s' I'=>⟨_,H,I',h⟩) hf)
def gNil:TGs:=fun vs σ H Q=>vs=[]∧Q σ H
def gCons (t:TG) (u:TGs):TGs:=fun vs σ H Q=>∃ v r,vs=v::r∧t v σ H fun σ' H'=>u r σ' H' Q
theorem pgs_nil:PGs X [] gNil:=by
 intro pins s σ H vs us Q I r h
 obtain ⟨e,h⟩:=h
 subst e
 cases r
 exact assignInOrder_nil ⟨σ,H,I,h⟩
theorem pgs_cons {e:Expr} {es:List Expr} {t:TG} {u:TGs} (h1:PG X e t) (h2:PGs X es u)
  (hs:(assignEach (e::es) X.env).map (·.2)=assign e X.env::(assignEach es X.env).map (·.2):=by rfl):PGs X (e::es) (gCons t u):=by
 intro pins s σ H vs us Q I r h
 obtain ⟨v,vr,e1,h⟩:=h
 subst e1
 cases r with
 | cons r rr=>
  rw [hs]
  refine assignInOrder_cons (thn (h1 pins s σ H _ _ _ I r h) fun _ s1 ⟨σ1,H1,I1,q1⟩=>?_)
  exact h2 pins s1 σ1 H1 _ _ Q I1 rr q1
def gTup (K:PySem.W.Frag) (n:Nat) (t:TGs):TG:=fun v σ H Q=>∃ a xs,v=.ref a∧SqT K H a xs∧xs.length=n∧t xs σ H Q
theorem pg_tup {es:List Expr} {k:Nat} {t:TGs} {n:Nat} (hc:X.calm=true) (h:PGs X es t)
  (hn:(assignEach es X.env).length=n:=by rfl) (hst:(assignEach es X.env).findIdx? (·.1)=none:=by rfl):PG X (.Tuple es k pos) (gTup X.K n t):=by
 intro pins s σ H v u Q I r hw
 obtain ⟨a,xs,e1,hq,hl,hw⟩:=hw
 subst e1
 cases r
 obtain ⟨its,rv,ht,hz⟩:=I.tuple hq
 refine assign_Tuple_tuple (I.ok.hd hc) ht (by simp [hn,← hl,rv.length]) hst fun h' hx=>?_
 have I1:Inv X pins σ H { s with heap:=h' }:=I.kept (t':=s.toks) fun b o e=>hx b o (Nat.ne_of_lt (Heap.lt_size e)) e
 exact h pins _ σ H xs _ Q I1 (by simpa using rv) hw
def gSub (to ti:TE) (t:TSet):TG:=fun v σ H Q=>to σ H fun o H1=>ti σ H1 fun i H2=>t o i v H2 fun H3=>Q σ H3
theorem pg_sub {o i:Expr} {to ti:TE} {t:TSet} (ho:PE X o to) (hi:PE X i ti) (hs:PSet X t)
  (ha:∀ v,assign (.Subscript o i pos) X.env v=(do
   let ov ← holding [v] (eval o X.env)
   let iv ← holding [v,ov] (eval i X.env)
   standAt pos
   holding [v,ov,iv] (setItem ov iv v)
   release [v,ov,iv] []):=by intro _;rfl):PG X (.Subscript o i pos) (gSub to ti t):=by
 intro pins s σ H v u Q I r h
 rw [ha]
 refine wpAny_bind (wpAny_holding (thn (ho pins s σ H _ I h) fun ov s1 ⟨x,H1,I1,r1,q1⟩=>?_))
 refine wpAny_bind (wpAny_holding (thn (hi pins s1 σ H1 _ I1 q1) fun iv s2 ⟨y,H2,I2,r2,q2⟩=>?_))
 refine wpAny_bind (wpAny_standAt (wpAny_bind (wpAny_holding (thn (hs pins s2 σ H2 x y v ov iv u _ I2 r1 r2 r q2) fun _ s3 ⟨H3,I3,q3⟩=>?_))))
 exact wpAny_release ⟨σ,H3,I3,q3⟩
def tAsg (te:TE) (g:TG):TS:=fun D σ H=>te σ H fun x H1=>g x σ H1 D.nx
theorem ps_asg {tg e:Expr} {te:TE} {g:TG} (he:PE X e te) (hg:PG X tg g) (hs:swapsWithSole [tg] e pos.line X.env=pure false:=by rfl) (hw:swappedStores [tg] e X.env=pure none:=by rfl)
  (h1:(assignEach [tg] X.env).map (·.2)=[assign tg X.env]:=by rfl):PS X (.Assign [tg] e pos) (tAsg te g):=by
 intro pins s σ H D I h
 refine wpAny_Assign_stores (thn (he pins s σ H _ I h) fun v s1 ⟨x,H1,I1,r1,q1⟩=>?_) hs hw
 rw [h1]
 exact thn (hg pins s1 σ H1 x v _ I1 r1 q1) fun _ s2 q=>q
theorem ps_set {i:Nat} {x:Str} {e:Expr} {te:TE} {pos':Pos} (hN:X.N.Nodup) (hi:X.N[i]?=some x) (hx:Loc X.env.scope x) (he:PE X e te) (hs:swapsWith e (some (.Name x pos')) pos.line X.env=pure false:=by rfl) (hf:X.fn x=true∨X.env.scope.names.lookup x=some .local:=by first | exact .inl rfl | exact .inr rfl | assumption) :
  PS X (.Assign [.Name x pos'] e pos) (tAsg te (gName i)):=by
 intro pins s σ H D I h
 refine wpAny_Assign_Name (thn (he pins s σ H _ I h) fun v s1 ⟨y,H1,I1,r1,q1⟩=>?_) hs
 exact store_ok I1 hN hi hx r1 (fun s2 I2=>⟨_,H1,I2,q1⟩) hf
def tPar (i j:Nat) (ta:TA):TS:=fun D σ H=>ta σ H fun vs H1=>∃ v w,vs=[v,w]∧D.nx ((σ.set i (some v)).set j (some w)) H1
theorem ps_par {i j:Nat} {x y:Str} {a b:Expr} {ta:TA} {px py pt:Pos} {kt k2 pt2} (hc:X.calm=true) (hN:X.N.Nodup) (hi:X.N[i]?=some x) (hj:X.N[j]?=some y) (hij:i ≠ j)
  (hx:X.env.scope.names.lookup x=some .local) (hy:X.env.scope.names.lookup y=some .local) (ha:PA X [a,b] ta)
  (hw:swappedStores [.Tuple [.Name x px,.Name y py] kt pt] (.Tuple [a,b] k2 pt2) X.env=pure (some [x,y]))
  (hs:swapsWithSole [.Tuple [.Name x px,.Name y py] kt pt] (.Tuple [a,b] k2 pt2) pos.line X.env=pure false:=by rfl) :
  PS X (.Assign [.Tuple [.Name x px,.Name y py] kt pt] (.Tuple [a,b] k2 pt2) pos) (tPar i j ta):=by
 intro pins s σ H D I h
 rw [exec_Assign_arm]
 refine wpAny_bind (wpAny_standAt ?_)
 rw [hs]
 refine wpAny_bind (wpAny_pure ?_)
 rw [if_neg (by decide)]
 refine wpAny_bind (Tuple_ (thn (ha _ pins s σ H _ I h) fun us s1 ⟨vs,H1,I1,r1,q1⟩=>?_))
 obtain ⟨v,w,e1,q1⟩:=q1
 subst e1
 obtain ⟨u1,u2,rfl,rv,rw'⟩:∃ u1 u2,us=[u1,u2]∧RelV v u1∧RelV w u2:=by
  cases r1 with
  | cons p q=>
   cases q with
   | cons p' q'=>
    cases q'
    exact ⟨_,_,rfl,p,p'⟩
 refine wpAny_newObj_type ?_ (by show 2≤sizeLine;decide)
 have I2:Inv X pins σ H1 { s1 with heap:=s1.heap.push { cls:=.type "tuple",data:=.seq [u1,u2].toArray } }:=I1.kept (t':=s1.toks) fun b o e=>Heap.get?_push_of_some _ e
 rw [hw]
 refine wpAny_bind (wpAny_pure ?_)
 show wpAny (model X.prog X.w) X.A (do rule "assign.swapped-stores";let items ← unpackItems (.ref s1.heap.objs.size) 2 none;assignInOrder [fun v=>bindName X.env y v,fun v=>bindName X.env x v] items.reverse;pure Flow.next) _ _ _
 refine wpAny_bind (wpAny_rule (wpAny_bind (unpackItems_tuple (items:=#[u1,u2]) (I.ok.hd hc) (IsTup.new s1.heap _) fun h' hx'=>?_)))
 have I3:=I2.kept (h':=h') (t':=s1.toks) fun b o e=>hx' b o (Nat.ne_of_lt (Heap.lt_size e)) e
 show wpAny _ _ (assignInOrder [fun v=>bindName X.env y v,fun v=>bindName X.env x v] [u2,u1] >>= fun _=>pure Flow.next) _ _ _
 refine wpAny_bind (assignInOrder_cons (wpAny_bindName (store_ok I3 hN hj (.inl hy) rw' (fun s2 I4=>?_) (.inr hy))))
 refine assignInOrder_cons (wpAny_bindName (store_ok I4 hN hi (.inl hx) rv (fun s3 I5=>assignInOrder_nil (wpAny_pure ?_)) (.inr hx)))
 rw [List.set_comm _ _ (Ne.symm hij)] at I5
 exact ⟨_,H1,I5,q1⟩
def tAug (i:Nat) (te:TE) (ti:TIp):TS:=fun D σ H=>∃ x,σ[i]?=some (some x)∧te σ H fun y H1=>ti x y H1 fun z H2=>D.nx (σ.set i (some z)) H2
theorem ps_aug {i:Nat} {x:Str} {e:Expr} {te:TE} {op:Operator} {ti:TIp} {pos':Pos} (hN:X.N.Nodup) (hi:X.N[i]?=some x) (hx:Loc X.env.scope x) (he:PE X e te) (ho:PIp X op ti) (hf:X.fn x=true∨X.env.scope.names.lookup x=some .local:=by first | exact .inl rfl | exact .inr rfl | assumption) :
  PS X (.AugAssign (.Name x pos') op e pos) (tAug i te ti):=by
 intro pins s σ H D I h
 obtain ⟨v,e1,h⟩:=h
 obtain ⟨m,hn,hl⟩:=I.loc
 have vis:Vis X.env.scope x:=by rcases hx with k | k;exact .inl k;exact .inr (.inl k)
 obtain ⟨u,r,l⟩:=hl i x v hi e1 vis
 refine wpAny_AugAssign_Name ?_
 have go:wpAny (model X.prog X.w) X.A (eval e X.env) (fun w s₂=>wpAny (model X.prog X.w) X.A (inplaceOp op u w) (fun r s₃=>wpAny (model X.prog X.w) X.A (storeName X.env x r) (fun _=>SP X pins D .next) X.xe s₃) X.xe s₂) X.xe s:=by
  refine thn (he pins s σ H _ I h) fun w s1 ⟨y,H1,I1,r1,q1⟩=>?_
  refine thn (ho pins s1 σ H1 v y u w _ I1 r r1 q1) fun z s2 ⟨zv,H2,I2,r2,q2⟩=>?_
  exact store_ok I2 hN hi hx r2 (fun s3 I3=>⟨_,H2,I3,q2⟩) hf
 rcases l with ⟨hk,hm⟩ | ⟨hk,c,hc,hcell⟩
 ·exact wpAny_loadName_local I.ok.kind hk hn hm go
 ·rcases hk with hk | hk
  ·exact wpAny_loadName_cell I.ok.kind hk hc hcell go
  ·rcases hx with k | k
   ·have:X.env.scope.names.lookup x=some .free:=hk
    rw [k] at this;cases this
   ·have:X.env.scope.names.lookup x=some .free:=hk
    rw [k] at this;cases this
def ipI (f:Int→Int→Int):TIp:=fun x y H Q=>∃ i j,x=.int i∧y=.int j∧Q (.int (f i j)) H
theorem ip_add:PIp X .Add (ipI fun i j=>i+j):=by
 intro pins s σ H x y v u Q I r1 r2 h
 obtain ⟨i,j,e1,e2,q⟩:=h
 subst e1;subst e2
 obtain ⟨t,rfl⟩:=r1
 obtain ⟨t',rfl⟩:=r2
 exact iadd_int ⟨.int _,H,I.tok _,⟨_,rfl⟩,q⟩
end
section
variable {X:Cx} {pos:Pos}
def tWhile (c:TT) (tb:TS):TS:=fun D σ H=>∃ W:Nat→St→Hp→Prop,(∃ m,W m σ H)∧∀ m σ H,W m σ H→
 c σ H fun b H1=>if b=true then ∃ N:St→Hp→Prop,(∀ σ' H',N σ' H'→∃ m',m'<m∧W m' σ' H')∧tb { D with nx:=N,ct:=N,bk:=D.nx } σ H1 else D.nx σ H1
theorem ps_while {c:Expr} {body:List Stmt} {tc:TT} {tb:TS} (hp:PassesOwn (model X.prog X.w) X.A X.env X.xe) (hc:PT X c tc) (hb:PSs X body tb):PS X (.While c body [] pos) (tWhile tc tb):=by
 intro pins s σ H D I h
 obtain ⟨W,⟨m0,w0⟩,turn⟩:=h
 refine wpAny_While (codeAny_whileLoop (fun n s'=>∃ σ' H',Inv X pins σ' H' s'∧W n σ' H') ?_ m0 ⟨σ,H,I,w0⟩)
 rintro n s1 ⟨σ1,H1,I1,w1⟩
 refine wpAny_passesOwn hp (thn (hc pins s1 σ1 H1 _ I1 (turn n σ1 H1 w1)) fun b s2 ⟨H2,I2,q2⟩=>?_)
 cases b with
 | true=>
  obtain ⟨N,hN,q2⟩:=q2
  rw [if_pos rfl]
  refine wpAny_passesOwn hp (thn (hb pins s2 σ1 H2 _ I2 q2) fun f s3 q3=>?_)
  cases f with
  | next=>
   obtain ⟨σ3,H3,I3,n3⟩:=q3
   obtain ⟨m',hm,w3⟩:=hN σ3 H3 n3
   exact ⟨m',hm,σ3,H3,I3,w3⟩
  | cont=>
   obtain ⟨σ3,H3,I3,n3⟩:=q3
   obtain ⟨m',hm,w3⟩:=hN σ3 H3 n3
   exact ⟨m',hm,σ3,H3,I3,w3⟩
  | brk=>exact q3
  | ret v=>exact q3
 | false=>
  rw [if_neg Bool.false_ne_true]
  exact wpAny_execs_nil ⟨σ1,H2,I2,q2⟩
end
structure It where
 go:Nat→Hp→Prop
 yld:Nat→Hp→V→Hp→Prop
 stop:Nat→Hp→Prop
def FpOk (X:Cx) (pins:List (Addr × Obj)) (H:Hp) (b:Addr):Prop:=
 H b=none∧b ≠ X.env.locals∧b ∉ X.fs∧(b ∈ X.ex∨X.s₀.heap.objs.size≤b)∧(∀ x c,X.env.cells.lookup x=some c→c ≠ b)∧∀ p ∈ X.pn++pins,p.1 ≠ b
theorem Inv.fpOk {X:Cx} {pins:List (Addr × Obj)} {σ:St} {H H':Hp} {s:Shared} {b:Addr} (I:Inv X pins σ H s) (hb:s.heap.objs.size≤b) (hn:H' b=none):FpOk X pins H' b:=by
 refine ⟨hn,Nat.ne_of_gt (Nat.lt_of_lt_of_le I.lt hb),I.nofs hb,.inr (Nat.le_trans I.sz hb),fun x c e z=>?_,fun p hp z=>?_⟩
 ·obtain ⟨v,q⟩:=I.cell x c e
  exact absurd (Nat.lt_of_lt_of_le q.lt (by rw [z];exact hb)) (Nat.lt_irrefl _)
 ·exact absurd (Nat.lt_of_lt_of_le (Heap.lt_size (I.pin p hp).1) (by rw [z];exact hb)) (Nat.lt_irrefl _)
structure Turn (P:Program) (w:World) (K:PySem.W.Frag) (tg:Expr) (J:It) (fp:List Addr) (it:Addr) (tn:Nat→Heap→Prop):Prop where
 mem:it ∈ fp
 obj:∀ i h,tn i h→∀ b ∈ fp,∃ o,h.get? b=some o∧∀ v,o.data ≠ .cell v
 keep:∀ i h h',tn i h→(∀ b ∈ fp,∀ o,h.get? b=some o→h'.get? b=some o)→tn i h'
 item:∀ (X:Cx),X.prog=P→X.w=w→X.K=K→X.calm=true→∀ (i:Nat) (pins:List (Addr × Obj)) (s:Shared) (σ:St) (H:Hp) (E:Value→Shared→Prop),Inv X pins σ H s→(∀ b ∈ fp,FpOk X pins H b)→tn i s.heap→J.go i H→
  wpAny (model P w) X.A (pyNext (.ref it)) (fun r s1=>∃ u,r=some u∧
   wpAny (model P w) X.A (letOwnedTupleGo tg (.ref it) u) (fun _ s2=>∃ x H',Inv X pins σ H' s2∧RelV x u∧J.yld i H x H'∧tn (i+1) s2.heap∧∀ b ∈ fp,H' b=none) E s1) E s
 done:∀ (X:Cx),X.prog=P→X.w=w→X.K=K→X.calm=true→∀ (i:Nat) (pins:List (Addr × Obj)) (s:Shared) (σ:St) (H:Hp) (E:Value→Shared→Prop),Inv X pins σ H s→(∀ b ∈ fp,FpOk X pins H b)→tn i s.heap→J.stop i H→
  wpAny (model P w) X.A (pyNext (.ref it)) (fun r s1=>r=none∧Inv X pins σ H s1) E s
 self:∀ (A:Around) (i:Nat) (s:Shared) (Q:Value→Shared→Prop) (E:Value→Shared→Prop),tn i s.heap→Q (.ref it) s→wpAny (model P w) A (pyIter (.ref it)) Q E s
abbrev TI:=St→Hp→(It→Hp→Prop)→Prop
def PIE (X:Cx) (pins:List (Addr × Obj)) (σ:St) (tg:Expr) (R:It→Hp→Prop) (itv:Value) (s2:Shared):Prop:=
 ∃ (it:Addr) (fp:List Addr) (tn:Nat→Heap→Prop) (J:It) (H':Hp),itv=.ref it∧Inv X pins σ H' s2∧Turn X.prog X.w X.K tg J fp it tn∧tn 0 s2.heap∧(∀ b ∈ fp,FpOk X pins H' b)∧R J H'
def PI (X:Cx) (tg iter:Expr) (wi:TI):Prop:=
 ∀ (pins:List (Addr × Obj)) (s:Shared) (σ:St) (H:Hp) (R:It→Hp→Prop),Inv X pins σ H s→wi σ H R→
  wpAny (model X.prog X.w) X.A (eval iter X.env) (fun v s1=>wpAny (model X.prog X.w) X.A (pyIter v) (PIE X pins σ tg R) X.xe s1) X.xe s
theorem go_of {M:Model} {A:Around} {E:Value→Shared→Prop} {s:Shared} {tg:Expr} {it:Addr} {u:Value} {o:Obj} {n:String} {vs:Array Value} {Q:Unit→Shared→Prop} (ho:s.heap.get? it=some o) (hc:o.cls=.type n) (hd:o.data=.fields vs)
  (hn:["enumerate","zip","dict_itemiterator","dict_reverseitemiterator","odict_iterator","itertools.zip_longest","itertools.pairwise"].contains n=false) (hQ:Q () s):wpAny M A (letOwnedTupleGo tg (.ref it) u) Q E s:=by
 unfold letOwnedTupleGo
 cases tg <;> first
  | exact wpAny_pure hQ
  | (cases u <;> first
    | exact wpAny_pure hQ
    | (refine wpAny_bind (wpAny_load ho ?_)
       rw [hc,hd]
       show wpAny M A (if (["enumerate","zip","dict_itemiterator","dict_reverseitemiterator","odict_iterator","itertools.zip_longest","itertools.pairwise"].contains n && vs[0]? == some (rawInt _))=true then _ else _) Q E s
       rw [if_neg (by intro h;rw [hn,Bool.false_and] at h;cases h)]
       exact wpAny_pure hQ))
def Itl (K:PySem.W.Frag) (a:Addr):It:=
 ⟨fun i H=>∃ xs x,SqL K H a xs∧xs[i]?=some x,fun i H x H'=>H'=H∧∀ xs,SqL K H a xs→xs[i]?=some x,fun i H=>∃ xs,SqL K H a xs∧xs.length≤i⟩
def Itt (K:PySem.W.Frag) (a:Addr):It:=
 ⟨fun i H=>∃ xs x,SqT K H a xs∧xs[i]?=some x,fun i H x H'=>H'=H∧∀ xs,SqT K H a xs→xs[i]?=some x,fun i H=>∃ xs,SqT K H a xs∧xs.length≤i⟩
def Itr (lo:Int) (n:Nat):It:=⟨fun i _=>i<n,fun i H x H'=>H'=H∧x=.int (lo+i),fun i _=>n≤i⟩
theorem turn_list {P:Program} {w:World} {K:PySem.W.Frag} {tg:Expr} (a it:Addr):Turn P w K tg (Itl K a) [it] it (fun i h=>h.IsListIter it a i) where
 mem:=by simp
 obj:=fun i h st b hb=>by
  have e:b=it:=by simpa using hb
  subst e
  obtain ⟨o,e,c,d⟩:=st
  exact ⟨o,e,fun v z=>by rw [d] at z;cases z⟩
 keep:=fun i h h' st k=>st.at fun o e=>k it (by simp) o e
 item:=by
  intro X hP hw hK hc i pins s σ H E I hf st hg
  subst hP hw hK
  obtain ⟨xs,x,hq,hx⟩:=hg
  obtain ⟨its,rv,p,hz⟩:=I.list hq
  obtain ⟨u,hu,ru⟩:=rv.get hx
  obtain ⟨f0,f1,f2,f3,f4,f5⟩:=hf it (by simp)
  refine wpAny_pyNext_list_item st p.isList (x:=u) (by simpa using hu) fun h' st' sb=>?_
  have I1:Inv X pins σ H { s with heap:=h' }:=I.turned (t':=s.toks) (fun b o hb e=>(sb.2 b hb).trans e) f0 f1 f3 f4 f5
  obtain ⟨o,e,c,d⟩:=id st'
  exact ⟨u,rfl,go_of (s:={ s with heap:=h' }) e c d (by decide) ⟨x,H,I1,ru,⟨rfl,fun ys hy=>by rw [I.list_inj hy hq];exact hx⟩,st',fun b hb=>(hf b hb).1⟩⟩
 done:=by
  intro X hP hw hK hc i pins s σ H E I hf st hg
  subst hP hw hK
  obtain ⟨xs,hq,hx⟩:=hg
  obtain ⟨its,rv,p,hz⟩:=I.list hq
  obtain ⟨f0,f1,f2,f3,f4,f5⟩:=hf it (by simp)
  have hl:=rv.length
  exact wpAny_pyNext_list_end (I.ok.hd hc) st p.isList (by simp;omega) fun h' eb=>⟨rfl,I.turned (t':=s.toks) (fun b o hb e=>eb b o hb e) f0 f1 f3 f4 f5⟩
 self:=fun _ _ _ _ _ st h=>wpAny_pyIter_listiter st h
theorem turn_tuple {P:Program} {w:World} {K:PySem.W.Frag} {tg:Expr} (a it:Addr):Turn P w K tg (Itt K a) [it] it (fun i h=>h.IsTupleIter it a i) where
 mem:=by simp
 obj:=fun i h st b hb=>by
  have e:b=it:=by simpa using hb
  subst e
  obtain ⟨o,e,c,d⟩:=st
  exact ⟨o,e,fun v z=>by rw [d] at z;cases z⟩
 keep:=fun i h h' st k=>st.at fun o e=>k it (by simp) o e
 item:=by
  intro X hP hw hK hc i pins s σ H E I hf st hg
  subst hP hw hK
  obtain ⟨xs,x,hq,hx⟩:=hg
  obtain ⟨its,rv,p,hz⟩:=I.tuple hq
  obtain ⟨u,hu,ru⟩:=rv.get hx
  obtain ⟨f0,f1,f2,f3,f4,f5⟩:=hf it (by simp)
  refine wpAny_pyNext_tuple_item st (show s.heap.IsTuple a its.toArray from p) (x:=u) (by simpa using hu) fun h' st' sb=>?_
  have I1:Inv X pins σ H { s with heap:=h' }:=I.turned (t':=s.toks) (fun b o hb e=>(sb.2 b hb).trans e) f0 f1 f3 f4 f5
  obtain ⟨o,e,c,d⟩:=id st'
  exact ⟨u,rfl,go_of (s:={ s with heap:=h' }) e c d (by decide) ⟨x,H,I1,ru,⟨rfl,fun ys hy=>by rw [I.tuple_inj hy hq];exact hx⟩,st',fun b hb=>(hf b hb).1⟩⟩
 done:=by
  intro X hP hw hK hc i pins s σ H E I hf st hg
  subst hP hw hK
  obtain ⟨xs,hq,hx⟩:=hg
  obtain ⟨its,rv,p,hz⟩:=I.tuple hq
  obtain ⟨f0,f1,f2,f3,f4,f5⟩:=hf it (by simp)
  have hl:=rv.length
  exact wpAny_pyNext_tuple_end (I.ok.hd hc) st (show s.heap.IsTuple a its.toArray from p) (by simp;omega) fun h' eb=>⟨rfl,I.turned (t':=s.toks) (fun b o hb e=>eb b o hb e) f0 f1 f3 f4 f5⟩
 self:=fun _ _ _ _ _ st h=>wpAny_pyIter_tupleiter st h
theorem turn_range {P:Program} {w:World} {K:PySem.W.Frag} {tg:Expr} (it:Addr) (lo:Int) (n:Nat):Turn P w K tg (Itr lo n) [it] it (fun i h=>IsRangeIter h it (lo+(i:Nat) * 1) ((n:Int) - (i:Nat)) 1) where
 mem:=by simp
 obj:=fun i h st b hb=>by
  have e:b=it:=by simpa using hb
  subst e
  exact ⟨_,st,fun v z=>by
   have z':Data.fields _=Data.cell v:=z
   cases z'⟩
 keep:=fun i h h' st k=>k it (by simp) _ st
 item:=by
  intro X hP hw hK hc i pins s σ H E I hf st hg
  subst hP hw hK
  obtain ⟨f0,f1,f2,f3,f4,f5⟩:=hf it (by simp)
  have W:=Walks.range (prog:=X.prog) (w:=X.w) (I.ok.hd hc) it lo 1 n
  refine W.item i s _ _ hg st fun v h' tk hv st' kk=>?_
  obtain ⟨t,rfl⟩:=hv
  have I1:Inv X pins σ H { s with heap:=h',toks:=tk }:=I.turned (fun b o hb e=>kk b o (by simpa using hb) e) f0 f1 f3 f4 f5
  refine ⟨_,rfl,go_of (s:={ s with heap:=h',toks:=tk }) (n:="range_iterator") st' rfl rfl (by decide) ⟨.int (lo+i),H,I1,⟨t,?_⟩,⟨rfl,rfl⟩,st',fun b hb=>(hf b hb).1⟩⟩
  rw [Int.mul_one]
 done:=by
  intro X hP hw hK hc i pins s σ H E I hf st hg
  subst hP hw hK
  obtain ⟨f0,f1,f2,f3,f4,f5⟩:=hf it (by simp)
  exact wpAny_pyNext_range_end (I.ok.hd hc) st (by have:n≤i:=hg;omega) fun h' eb=>⟨rfl,I.turned (t':=s.toks) (fun b o hb e=>eb b o hb e) f0 f1 f3 f4 f5⟩
 self:=fun _ _ _ _ _ st h=>wpAny_pyIter_rangeiter st h
end L2
namespace L2
open PySem PySem.Spec PyProof.Rows
section
variable {X:Cx} {tg:Expr}
def iList (K:PySem.W.Frag) (tl:TE):TI:=fun σ H R=>tl σ H fun x H1=>∃ a,x=.ref a∧(∃ xs,SqL K H1 a xs)∧R (Itl K a) H1
def iTup (K:PySem.W.Frag) (tl:TE):TI:=fun σ H R=>tl σ H fun x H1=>∃ a,x=.ref a∧(∃ xs,SqT K H1 a xs)∧R (Itt K a) H1
theorem pi_list {l:Expr} {tl:TE} (hl:PE X l tl):PI X tg l (iList X.K tl):=by
 intro pins s σ H R I h
 refine thn (hl pins s σ H _ I h) fun v s1 ⟨x,H1,I1,r1,q1⟩=>?_
 obtain ⟨a,e,⟨xs,hq⟩,q⟩:=q1
 subst e
 cases r1
 obtain ⟨its,rv,p,hz⟩:=I1.list hq
 refine wpAny_pyIter_list p.isList ?_
 refine ⟨s1.heap.objs.size,[s1.heap.objs.size],_,_,H1,rfl,I1.kept (t':=s1.toks) fun b o e=>Heap.get?_push_of_some _ e,turn_list a _,⟨_,Heap.get?_push_size _ rfl,rfl,rfl⟩,fun b hb=>?_,q⟩
 have e:b=s1.heap.objs.size:=by simpa using hb
 subst e
 exact I1.fpOk (Nat.le_refl _) (I1.hok.fresh (Nat.le_refl _))
theorem pi_tup {l:Expr} {tl:TE} (hl:PE X l tl):PI X tg l (iTup X.K tl):=by
 intro pins s σ H R I h
 refine thn (hl pins s σ H _ I h) fun v s1 ⟨x,H1,I1,r1,q1⟩=>?_
 obtain ⟨a,e,⟨xs,hq⟩,q⟩:=q1
 subst e
 cases r1
 obtain ⟨its,rv,p,hz⟩:=I1.tuple hq
 refine wpAny_pyIter_tuple (show s1.heap.IsTuple a its.toArray from p) ?_
 refine ⟨s1.heap.objs.size,[s1.heap.objs.size],_,_,H1,rfl,I1.kept (t':=s1.toks) fun b o e=>Heap.get?_push_of_some _ e,turn_tuple a _,⟨_,Heap.get?_push_size _ rfl,rfl,rfl⟩,fun b hb=>?_,q⟩
 have e:b=s1.heap.objs.size:=by simpa using hb
 subst e
 exact I1.fpOk (Nat.le_refl _) (I1.hok.fresh (Nat.le_refl _))
theorem range_it {pins:List (Addr × Obj)} {σ:St} {H:Hp} {s:Shared} {R:It→Hp→Prop} {E:Value→Shared→Prop} {lo hi:Int} {t u v:Tok} {tk:Nat} (I:Inv X pins σ H s) (h1:-(2 ^ 62)≤lo) (h2:lo<2 ^ 62) (h3:-(2 ^ 62)≤hi) (h4:hi<2 ^ 62)
  (q:R (Itr lo (hi - lo).toNat) H):wpAny (model X.prog X.w) X.A (pyIter (.ref s.heap.objs.size)) (PIE X pins σ tg R) E { s with heap:=s.heap.push { cls:=.type "range",data:=.fields #[.int lo t,.int hi u,.int 1 v] },toks:=tk }:=by
 refine wpAny_pyIter_range (IsRange.new ..) (small_one h1 h2 h3 h4) ?_
 have I1:Inv X pins σ H { s with heap:=s.heap.push { cls:=.type "range",data:=.fields #[.int lo t,.int hi u,.int 1 v] },toks:=tk }:=I.kept fun b o e=>Heap.get?_push_of_some _ e
 refine ⟨(s.heap.push { cls:=.type "range",data:=.fields #[.int lo t,.int hi u,.int 1 v] }).objs.size,[(s.heap.push { cls:=.type "range",data:=.fields #[.int lo t,.int hi u,.int 1 v] }).objs.size],_,_,H,rfl,
  I1.kept (t':=tk) fun b o e=>Heap.get?_push_of_some _ e,turn_range _ lo (hi - lo).toNat,?_,fun b hb=>?_,q⟩
 ·have e1:lo+((0:Nat):Int) * 1=lo:=by simp
  have e2:(((hi - lo).toNat:Nat):Int) - ((0:Nat):Int)=Builtin.Range.rangeSize lo hi 1:=by rw [rangeSize_one];split <;> omega
  show IsRangeIter _ _ (lo+((0:Nat):Int) * 1) ((((hi - lo).toNat:Nat):Int) - ((0:Nat):Int)) 1
  rw [e1,e2]
  exact Heap.get?_push_size _ rfl
 ·have e:b=(s.heap.push { cls:=.type "range",data:=.fields #[.int lo t,.int hi u,.int 1 v] }).objs.size:=by simpa using hb
  subst e
  exact I1.fpOk (Nat.le_refl _) (I1.hok.fresh (Nat.le_refl _))
def iRng1 (ta:TA):TI:=fun σ H R=>ta σ H fun vs H1=>∃ j:Int,vs=[.int j]∧-(2 ^ 62)≤j∧j<2 ^ 62∧R (Itr 0 j.toNat) H1
theorem pi_range1 {a:Expr} {ta:TA} {p pos:Pos} (hg:Gl X "range") (hm:X.mg "range" = none) (ha:PA X [a] ta) (hs:starEach [a] X.env=[(false,eval a X.env)]:=by rfl):PI X tg (.Call (.Name "range" p) [a] [] pos) (iRng1 ta):=by
 intro pins s σ H R I h
 refine Call_ (ld_blt I hg hm boot_range (PyProof.Rows.callWith_type1 (thn (ha pos pins s σ H _ I h) fun us s1 ⟨vs,H1,I1,r1,q1⟩=>?_) hs rfl))
 obtain ⟨j,e,q1,q2,q⟩:=q1
 subst e
 cases r1 with
 | cons r rr=>
  cases rr
  obtain ⟨t,rfl⟩:=r
  exact call_range_1 (range_it I1 (by omega) (by omega) q1 q2 (by simpa using q))
def tFor (wi:TI) (g:TG) (tb:TS):TS:=fun D σ H=>wi σ H fun J H1=>∃ W:Nat→Nat→St→Hp→Prop,(∃ m,W 0 m σ H1)∧∀ i m σ H,W i m σ H→
 (J.stop i H∧D.nx σ H)∨(J.go i H∧∃ N:St→Hp→Prop,(∀ σ' H',N σ' H'→∃ m',m'<m∧W (i+1) m' σ' H')∧∀ x H',J.yld i H x H'→g x σ H' fun σ2 H2=>tb { D with nx:=N,ct:=N,bk:=D.nx } σ2 H2)
def pinsAt (fp:List Addr) (h:Heap):List (Addr × Obj):=fp.filterMap fun b=>(h.get? b).map fun o=>(b,o)
theorem mem_pinsAt {fp:List Addr} {h:Heap} {b:Addr} {o:Obj} (hb:b ∈ fp) (e:h.get? b=some o):(b,o) ∈ pinsAt fp h:=List.mem_filterMap.mpr ⟨b,hb,by rw [e];rfl⟩
theorem of_pinsAt {fp:List Addr} {h:Heap} {p:Addr × Obj} (hp:p ∈ pinsAt fp h):p.1 ∈ fp∧h.get? p.1=some p.2:=by
 obtain ⟨b,hb,e⟩:=List.mem_filterMap.mp hp
 cases q:h.get? b with
 | none=>rw [q] at e;cases e
 | some o=>
  rw [q] at e
  have e':(b,o)=p:=Option.some.inj e
  subst e'
  exact ⟨hb,q⟩
theorem Inv.pinned {pins:List (Addr × Obj)} {σ:St} {H:Hp} {s:Shared} {fp:List Addr} (I:Inv X pins σ H s) (hf:∀ b ∈ fp,FpOk X pins H b) (ho:∀ b ∈ fp,∃ o,s.heap.get? b=some o∧∀ v,o.data ≠ .cell v):Inv X (pins++pinsAt fp s.heap) σ H s:=
 I.pins_of fun p hp=>(List.mem_append.mp hp).elim (fun z=>I.pin p (List.mem_append_right _ z)) fun z=>by
  obtain ⟨hb,e⟩:=of_pinsAt z
  obtain ⟨f0,f1,f2,_⟩:=hf p.1 hb
  obtain ⟨o,e',d⟩:=ho p.1 hb
  rw [e] at e';cases e'
  exact ⟨e,f0,f1,f2,d⟩
theorem Inv.unpinned {pins pl:List (Addr × Obj)} {σ:St} {H:Hp} {s:Shared} (I:Inv X (pins++pl) σ H s):Inv X pins σ H s:=I.pins_of fun p hp=>I.pin p (List.mem_append_right _ (List.mem_append_left _ hp))
theorem ps_for {iter:Expr} {body:List Stmt} {wi:TI} {g:TG} {tb:TS} {pos:Pos} (hp:PassesOwn (model X.prog X.w) X.A X.env X.xe) (hc:X.calm=true) (hi:PI X tg iter wi) (hg:PG X tg g) (hb:PSs X body tb)
  (hs:∀ x,foldedSetIterable iter X.env x=pure x:=by intro _;rfl):PS X (.For tg iter body [] pos) (tFor wi g tb):=by
 intro pins s σ H D I h
 refine wpAny_For (thn (hi pins s σ H _ I h) fun v s1 h1=>thn h1 fun itv s2 h2=>?_) hs
 obtain ⟨it,fp,tn,J,H2,e,I2,T,st2,f2,W,⟨m0,w0⟩,turn⟩:=h2
 subst e
 -- what stays true of the iterator's objects through the loop
 have stat:∀ {H':Hp},(∀ b ∈ fp,H' b=none)→∀ b ∈ fp,FpOk X pins H' b:=fun hn b hb=>⟨hn b hb,(f2 b hb).2⟩
 refine codeAny_forLoop_any (fun n s'=>∃ i σ' H',Inv X pins σ' H' s'∧tn i s'.heap∧(∀ b ∈ fp,H' b=none)∧W i n σ' H') ?_ m0 ⟨0,σ,H2,I2,st2,fun b hb=>(f2 b hb).1,w0⟩
 rintro n s3 ⟨i,σ3,H3,I3,st3,fr3,w3⟩
 rcases turn i n σ3 H3 w3 with ⟨stop,qn⟩ | ⟨go,N,hN,step⟩
 ·refine wpAny_passesOwn hp (thn (T.done X rfl rfl rfl hc i pins s3 σ3 H3 X.xe I3 (stat fr3) st3 stop) fun r s4 ⟨hr,I4⟩=>?_)
  subst hr
  exact wpAny_execs_nil ⟨σ3,H3,I4,qn⟩
 ·refine wpAny_passesOwn hp (thn (T.item X rfl rfl rfl hc i pins s3 σ3 H3 X.xe I3 (stat fr3) st3 go) fun r s4 ⟨u,hr,h4⟩=>?_)
  subst hr
  refine wpAny_passesOwn hp (thn h4 fun _ s5 ⟨x,H5,I5,r5,y5,st5,fr5⟩=>?_)
  have I5':=I5.pinned (stat fr5) (T.obj _ _ st5)
  refine wpAny_passesOwn hp (thn (hg _ s5 σ3 H5 x u _ I5' r5 (step x H5 y5)) fun _ s6 ⟨σ6,H6,I6,q6⟩=>?_)
  refine wpAny_passesOwn hp (thn (hb _ s6 σ6 H6 _ I6 q6) fun f s7 q7=>?_)
  have again:∀ {σ7:St} {H7:Hp},Inv X (pins++pinsAt fp s5.heap) σ7 H7 s7→N σ7 H7→∃ m,m<n∧∃ i σ' H',Inv X pins σ' H' s7∧tn i s7.heap∧(∀ b ∈ fp,H' b=none)∧W i m σ' H':=fun {σ7 H7} I7 n7=>by
   obtain ⟨m',hm,w7⟩:=hN σ7 H7 n7
   refine ⟨m',hm,i+1,σ7,H7,I7.unpinned,T.keep _ _ _ st5 fun b hb o e=>(I7.pin (b,o) (List.mem_append_right _ (List.mem_append_right _ (mem_pinsAt hb e)))).1,fun b hb=>?_,w7⟩
   obtain ⟨o,e,d⟩:=T.obj _ _ st5 b hb
   exact (I7.pin (b,o) (List.mem_append_right _ (List.mem_append_right _ (mem_pinsAt hb e)))).2.1
  cases f with
  | next=>obtain ⟨σ7,H7,I7,n7⟩:=q7;exact again I7 n7
  | cont=>obtain ⟨σ7,H7,I7,n7⟩:=q7;exact again I7 n7
  | brk=>obtain ⟨σ7,H7,I7,q7⟩:=q7;exact ⟨σ7,H7,I7.unpinned,q7⟩
  | ret v=>obtain ⟨x7,σ7,H7,I7,r7,q7⟩:=q7;exact ⟨x7,σ7,H7,I7.unpinned,r7,q7⟩
end
theorem for_list {K:PySem.W.Frag} {a:Addr} {xs:List V} {g:TG} {tb:TS} {D:Ends} {σ:St} {H:Hp} (Pv:Nat→St→Hp→Prop) (h0:Pv 0 σ H) (hl:∀ i σ H,i≤xs.length→Pv i σ H→SqL K H a xs)
  (hs:∀ i x σ H,xs[i]?=some x→Pv i σ H→g x σ H fun σ2 H2=>tb { D with nx:=Pv (i+1),ct:=Pv (i+1),bk:=D.nx } σ2 H2) (hd:∀ σ H,Pv xs.length σ H→D.nx σ H) :
  ∃ W:Nat→Nat→St→Hp→Prop,(∃ m,W 0 m σ H)∧∀ i m σ H,W i m σ H→
   ((Itl K a).stop i H∧D.nx σ H)∨((Itl K a).go i H∧∃ N:St→Hp→Prop,(∀ σ' H',N σ' H'→∃ m',m'<m∧W (i+1) m' σ' H')∧∀ x H',(Itl K a).yld i H x H'→g x σ H' fun σ2 H2=>tb { D with nx:=N,ct:=N,bk:=D.nx } σ2 H2):=by
 refine ⟨fun i m σ H=>m=xs.length - i∧i≤xs.length∧Pv i σ H,⟨xs.length,by simp,Nat.zero_le _,h0⟩,?_⟩
 rintro i m σ H ⟨rfl,hi,p⟩
 have q:=hl i σ H hi p
 by_cases hlt:i<xs.length
 ·refine .inr ⟨⟨xs,xs[i],q,by simp [hlt]⟩,Pv (i+1),fun σ' H' p'=>⟨xs.length - (i+1),by omega,rfl,hlt,p'⟩,fun x H' y=>?_⟩
  obtain ⟨e,y⟩:=y
  subst e
  exact hs i x σ _ (y xs q) p
 ·have e:i=xs.length:=by omega
  subst e
  exact .inl ⟨⟨xs,q,Nat.le_refl _⟩,hd σ H p⟩
theorem for_tup {K:PySem.W.Frag} {a:Addr} {xs:List V} {g:TG} {tb:TS} {D:Ends} {σ:St} {H:Hp} (Pv:Nat→St→Hp→Prop) (h0:Pv 0 σ H) (hl:∀ i σ H,i≤xs.length→Pv i σ H→SqT K H a xs)
  (hs:∀ i x σ H,xs[i]?=some x→Pv i σ H→g x σ H fun σ2 H2=>tb { D with nx:=Pv (i+1),ct:=Pv (i+1),bk:=D.nx } σ2 H2) (hd:∀ σ H,Pv xs.length σ H→D.nx σ H) :
  ∃ W:Nat→Nat→St→Hp→Prop,(∃ m,W 0 m σ H)∧∀ i m σ H,W i m σ H→
   ((Itt K a).stop i H∧D.nx σ H)∨((Itt K a).go i H∧∃ N:St→Hp→Prop,(∀ σ' H',N σ' H'→∃ m',m'<m∧W (i+1) m' σ' H')∧∀ x H',(Itt K a).yld i H x H'→g x σ H' fun σ2 H2=>tb { D with nx:=N,ct:=N,bk:=D.nx } σ2 H2):=by
 refine ⟨fun i m σ H=>m=xs.length - i∧i≤xs.length∧Pv i σ H,⟨xs.length,by simp,Nat.zero_le _,h0⟩,?_⟩
 rintro i m σ H ⟨rfl,hi,p⟩
 have q:=hl i σ H hi p
 by_cases hlt:i<xs.length
 ·refine .inr ⟨⟨xs,xs[i],q,by simp [hlt]⟩,Pv (i+1),fun σ' H' p'=>⟨xs.length - (i+1),by omega,rfl,hlt,p'⟩,fun x H' y=>?_⟩
  obtain ⟨e,y⟩:=y
  subst e
  exact hs i x σ _ (y xs q) p
 ·have e:i=xs.length:=by omega
  subst e
  exact .inl ⟨⟨xs,q,Nat.le_refl _⟩,hd σ H p⟩
theorem for_range {lo:Int} {n:Nat} {g:TG} {tb:TS} {D:Ends} {σ:St} {H:Hp} (Pv:Nat→St→Hp→Prop) (h0:Pv 0 σ H)
  (hs:∀ i σ H,i<n→Pv i σ H→g (.int (lo+i)) σ H fun σ2 H2=>tb { D with nx:=Pv (i+1),ct:=Pv (i+1),bk:=D.nx } σ2 H2) (hd:∀ σ H,Pv n σ H→D.nx σ H) :
  ∃ W:Nat→Nat→St→Hp→Prop,(∃ m,W 0 m σ H)∧∀ i m σ H,W i m σ H→
   ((Itr lo n).stop i H∧D.nx σ H)∨((Itr lo n).go i H∧∃ N:St→Hp→Prop,(∀ σ' H',N σ' H'→∃ m',m'<m∧W (i+1) m' σ' H')∧∀ x H',(Itr lo n).yld i H x H'→g x σ H' fun σ2 H2=>tb { D with nx:=N,ct:=N,bk:=D.nx } σ2 H2):=by
 refine ⟨fun i m σ H=>m=n - i∧i≤n∧Pv i σ H,⟨n,by simp,Nat.zero_le _,h0⟩,?_⟩
 rintro i m σ H ⟨rfl,hi,p⟩
 by_cases hlt:i<n
 ·refine .inr ⟨hlt,Pv (i+1),fun σ' H' p'=>⟨n - (i+1),by omega,rfl,hlt,p'⟩,fun x H' y=>?_⟩
  obtain ⟨e,y⟩:=y
  subst e y
  exact hs i σ _ hlt p
 ·have e:i=n:=by omega
  subst e
  exact .inl ⟨Nat.le_refl _,hd σ H p⟩
end L2
namespace L2
open PySem PySem.Spec PyProof.Rows
abbrev R2:=V→V→Hp→VK→Prop
def OpR (X:Cx) (f:Value→Value→Sem Value) (r:R2):Prop:=
 ∀ (pins:List (Addr × Obj)) (s:Shared) (σ:St) (H:Hp) (x y:V) (v u:Value) (Q:VK),Inv X pins σ H s→RelV x v→RelV y u→r x y H Q→
  wpAny (model X.prog X.w) X.A (f v u) (EP X pins σ Q) X.xe s
def UnR (X:Cx) (f:Value→Sem Value) (r:V→Hp→VK→Prop):Prop:=
 ∀ (pins:List (Addr × Obj)) (s:Shared) (σ:St) (H:Hp) (x:V) (v:Value) (Q:VK),Inv X pins σ H s→RelV x v→r x H Q→
  wpAny (model X.prog X.w) X.A (f v) (EP X pins σ Q) X.xe s
def CallR (X:Cx) (f:Value) (r:List V→Hp→VK→Prop):Prop:=
 ∀ (pins:List (Addr × Obj)) (s:Shared) (σ:St) (H:Hp) (xs:List V) (us:List Value) (Q:VK),Inv X pins σ H s→Vals xs us→r xs H Q→
  wpAny (model X.prog X.w) X.A (call f us) (EP X pins σ Q) X.xe s
def tOp (r:R2) (ta tb:TE):TE:=fun σ H Q=>ta σ H fun x H1=>tb σ H1 fun y H2=>r x y H2 Q
def tUn (r:V→Hp→VK→Prop) (ta:TE):TE:=fun σ H Q=>ta σ H fun x H1=>r x H1 Q
def rI (C:Int→Int→Prop) (g:Int→Int→V):R2:=fun x y H Q=>∃ i j,x=.int i∧y=.int j∧C i j∧Q (g i j) H
def rI0 (g:Int→Int→V):R2:=fun x y H Q=>∃ i j,x=.int i∧y=.int j∧Q (g i j) H
def rU (g:Int→V):V→Hp→VK→Prop:=fun x H Q=>∃ i,x=.int i∧Q (g i) H
section
variable {X:Cx} {a b c:Expr} {ta tb tc:TE} {pos:Pos}
theorem binT (ha:PE X a ta) (hb:PE X b tb) {pins:List (Addr × Obj)} {s:Shared} {σ:St} {H:Hp} {R:V→V→Hp→Prop} (I:Inv X pins σ H s)
  (h:ta σ H fun x H1=>tb σ H1 fun y H2=>R x y H2) {Q:Value→Shared→Prop} {f:Value→Value→Sem Value}
  (hf:∀ v u s2 x y H2,Inv X pins σ H2 s2→RelV x v→RelV y u→R x y H2→wpAny (model X.prog X.w) X.A (f v u) Q X.xe s2) :
  wpAny (model X.prog X.w) X.A (eval a X.env) (fun v s₁=>wpAny (model X.prog X.w) X.A (eval b X.env) (fun u s₂=>wpAny (model X.prog X.w) X.A (f v u) Q X.xe s₂) X.xe s₁) X.xe s:=by
 refine thn (ha pins s σ H _ I h) fun v s1 ⟨x,H1,I1,r1,q1⟩=>?_
 refine thn (hb pins s1 σ H1 _ I1 q1) fun u s2 ⟨y,H2,I2,r2,q2⟩=>?_
 exact hf v u s2 x y H2 I2 r1 r2 q2
theorem pe_op {op:Operator} {r:R2} (ho:OpR X (binaryOp op) r) (ha:PE X a ta) (hb:PE X b tb):PE X (.BinOp a op b pos) (tOp r ta tb):=by
 intro pins s σ H Q I h
 exact wpAny_BinOp (binT ha hb I h fun v u s2 x y H2 I2 rx ry q=>ho pins s2 σ H2 x y v u Q I2 rx ry q)
theorem pe_un {op:UnaryOp} {r:V→Hp→VK→Prop} (ho:UnR X (unaryOp op) r) (ha:PE X a ta):PE X (.UnaryOp op a pos) (tUn r ta):=by
 intro pins s σ H Q I h
 exact UnaryOp_ (thn (ha pins s σ H _ I h) fun v s1 ⟨x,H1,I1,r1,q1⟩=>ho pins s1 σ H1 x v Q I1 r1 q1)
theorem opI {f:Value→Value→Sem Value} {C:Int→Int→Prop} {g:Int→Int→Int}
  (rule:∀ (i j:Int) (t u:Tok) (s:Shared) (Q:Value→Shared→Prop) (E:Value→Shared→Prop),C i j→Q (.int (g i j) s.toks) { s with toks:=s.toks+1 }→wpAny (model X.prog X.w) X.A (f (.int i t) (.int j u)) Q E s) :
  OpR X f (rI C fun i j=>.int (g i j)):=by
 intro pins s σ H x y v u Q I rx ry h
 obtain ⟨i,j,rfl,rfl,hc,q⟩:=h
 obtain ⟨t,rfl⟩:=rx
 obtain ⟨t',rfl⟩:=ry
 exact rule i j t t' s _ _ hc ⟨.int (g i j),H,I.tok _,⟨_,rfl⟩,q⟩
theorem opI0 {f:Value→Value→Sem Value} {g:Int→Int→Int}
  (rule:∀ (i j:Int) (t u:Tok) (s:Shared) (Q:Value→Shared→Prop) (E:Value→Shared→Prop),Q (.int (g i j) s.toks) { s with toks:=s.toks+1 }→wpAny (model X.prog X.w) X.A (f (.int i t) (.int j u)) Q E s) :
  OpR X f (rI0 fun i j=>.int (g i j)):=by
 intro pins s σ H x y v u Q I rx ry h
 obtain ⟨i,j,rfl,rfl,q⟩:=h
 obtain ⟨t,rfl⟩:=rx
 obtain ⟨t',rfl⟩:=ry
 exact rule i j t t' s _ _ ⟨.int (g i j),H,I.tok _,⟨_,rfl⟩,q⟩
theorem opB0 {f:Value→Value→Sem Value} {g:Int→Int→Bool}
  (rule:∀ (i j:Int) (t u:Tok) (s:Shared) (Q:Value→Shared→Prop) (E:Value→Shared→Prop),Q (.bool (g i j)) s→wpAny (model X.prog X.w) X.A (f (.int i t) (.int j u)) Q E s) :
  OpR X f (rI0 fun i j=>.bl (g i j)):=by
 intro pins s σ H x y v u Q I rx ry h
 obtain ⟨i,j,rfl,rfl,q⟩:=h
 obtain ⟨t,rfl⟩:=rx
 obtain ⟨t',rfl⟩:=ry
 exact rule i j t t' s _ _ ⟨.bl (g i j),H,I,rfl,q⟩
def CDiv (i j:Int):Prop:=0<j∧j<1073741824
def CPow (i j:Int):Prop:=0≤j∧j≤1000000∧i.natAbs<2 ^ 64
def CMul (i j:Int):Prop:=(-(2 ^ 64)<i∧i<2 ^ 64)∨(-(2 ^ 64)<j∧j<2 ^ 64)
theorem CMul.ok {i j:Int} (h:CMul i j):IntMulOk i j:=by
 rcases h with ⟨h1,h2⟩ | ⟨h1,h2⟩
 ·exact .of_left (intBits_le_64 h1 h2)
 ·exact .of_right (intBits_le_64 h1 h2)
theorem two_pow_nn (k:Nat):(0:Int)≤2 ^ k:=by
 rw [two_pow_cast]
 exact Int.natCast_nonneg _
theorem op_add:OpR X (binaryOp .Add) (rI0 fun i j=>.int (i+j)):=opI0 fun _ _ _ _ _ _ _ q=>add_int q
theorem op_sub:OpR X (binaryOp .Sub) (rI0 fun i j=>.int (i - j)):=opI0 fun _ _ _ _ _ _ _ q=>sub_int q
theorem op_mul:OpR X (binaryOp .Mult) (rI CMul fun i j=>.int (i * j)):=opI fun _ _ _ _ _ _ _ hc q=>mul_int q hc.ok
theorem op_fdiv:OpR X (binaryOp .FloorDiv) (rI CDiv fun i j=>.int (i / j)):=opI fun i j _ _ _ _ _ hc q=>by
 have h1:(0:Int)<j:=hc.1
 have h2:j<1073741824:=hc.2
 exact floordiv_int (by omega) (by rw [Int.fdiv_eq_ediv_of_nonneg i (by omega)];exact q) (.inl (PyProof.noPylong_small (by omega)))
theorem op_mod:OpR X (binaryOp .Mod) (rI (fun _ j=>0<j) fun i j=>.int (i % j)):=opI fun i j _ _ _ _ _ hc q=>by
 have h1:(0:Int)<j:=hc
 exact mod_int' (by omega) (by rw [Int.fmod_eq_emod_of_nonneg i (by omega)];exact q)
theorem op_pow:OpR X (binaryOp .Pow) (rI CPow fun i j=>.int (i ^ j.toNat)):=opI fun _ _ _ _ _ _ _ hc q=>pow_int_small hc.1 hc.2.1 hc.2.2 q
theorem op_shl:OpR X (binaryOp .LShift) (rI CPow fun i j=>.int (i * 2 ^ j.toNat)):=opI fun _ _ _ _ _ _ _ hc q=>lshift_int_small hc.1 hc.2.1 hc.2.2 q
theorem op_shr:OpR X (binaryOp .RShift) (rI (fun _ j=>0≤j) fun i j=>.int (i / 2 ^ j.toNat)):=opI fun i j _ _ _ _ _ hc q=>
 rshift_int hc (by rw [Int.fdiv_eq_ediv_of_nonneg i (two_pow_nn _)];exact q)
theorem op_and:OpR X (binaryOp .BitAnd) (rI0 fun i j=>.int (Builtin.bitAnd i j)):=opI0 fun _ _ _ _ _ _ _ q=>and_int q
theorem op_or:OpR X (binaryOp .BitOr) (rI0 fun i j=>.int (Builtin.bitOr i j)):=opI0 fun _ _ _ _ _ _ _ q=>or_int q
theorem unI {f:Value→Sem Value} {g:Int→Int}
  (rule:∀ (i:Int) (t:Tok) (s:Shared) (Q:Value→Shared→Prop) (E:Value→Shared→Prop),Q (.int (g i) s.toks) { s with toks:=s.toks+1 }→wpAny (model X.prog X.w) X.A (f (.int i t)) Q E s) :
  UnR X f (rU fun i=>.int (g i)):=by
 intro pins s σ H x v Q I rx h
 obtain ⟨i,rfl,q⟩:=h
 obtain ⟨t,rfl⟩:=rx
 exact rule i t s _ _ ⟨.int (g i),H,I.tok _,⟨_,rfl⟩,q⟩
theorem un_neg:UnR X (unaryOp .USub) (rU fun i=>.int (-i)):=unI fun _ _ _ _ _ q=>neg_int q
end
def scal:V→V→Bool
 | .non,.non=>true | .non,.int _=>true | .int _,.non=>true | .non,.bl _=>true | .bl _,.non=>true | .non,.str _=>true | .str _,.non=>true
 | .int _,.int _=>true | .bl _,.bl _=>true | .str _,.str _=>true | .byt _,.byt _=>true
 | .int _,.str _=>true | .str _,.int _=>true | .bl _,.str _=>true | .str _,.bl _=>true
 | _,_=>false
def rEq:R2:=fun x y H Q=>scal x y=true∧Q (.bl (decide (x=y))) H
def rNe:R2:=fun x y H Q=>scal x y=true∧Q (.bl (!decide (x=y))) H
theorem dec_int {i j:Int}:decide (V.int i=V.int j)=(i == j):=by
 rw [Bool.eq_iff_iff]
 simp
theorem dec_bl {i j:Bool}:decide (V.bl i=V.bl j)=(i == j):=by
 rw [Bool.eq_iff_iff]
 simp
theorem dec_str {i j:Str}:decide (V.str i=V.str j)=(i == j):=by
 rw [Bool.eq_iff_iff]
 simp
theorem dec_byt {i j:Array UInt8}:decide (V.byt i=V.byt j)=(i.toList == j.toList):=by
 rw [Bool.eq_iff_iff]
 cases i
 cases j
 simp
section
variable {X:Cx} {a b c:Expr} {ta tb tc:TE} {pos:Pos}
theorem fin_bl {pins:List (Addr × Obj)} {σ:St} {H:Hp} {s:Shared} {Q:VK} {k k':Bool} (I:Inv X pins σ H s) (q:Q (.bl k) H) (e:k=k'):EP X pins σ Q (.bool k') s:=by
 subst e
 exact ⟨.bl k,H,I,rfl,q⟩
theorem op_eq:OpR X (compareOp .Eq) rEq:=by
 intro pins s σ H x y v u Q I rx ry h
 obtain ⟨hs,q⟩:=h
 cases x with
 | non=>
  cases rx
  cases y with
  | non=>cases ry;exact PySem.EqNone.eq_none_none (fin_bl I q (by simp))
  | bl j=>cases ry;exact PySem.EqNone.eq_none_bool (fin_bl I q (by simp))
  | int j=>obtain ⟨t',rfl⟩:=ry;exact PySem.EqNone.eq_none_int (fin_bl I q (by simp))
  | str j=>obtain ⟨t',rfl⟩:=ry;exact PySem.EqNone.eq_none_str (fin_bl I q (by simp))
  | _=>exact absurd (show false=true from hs) Bool.false_ne_true
 | bl i=>
  cases rx
  cases y with
  | non=>cases ry;exact PySem.EqNone.eq_bool_none (fin_bl I q (by simp))
  | bl j=>cases ry;exact eq_bool (fin_bl I q dec_bl)
  | str j=>obtain ⟨t',rfl⟩:=ry;exact PySem.EqMixed.eq_bool_str (fin_bl I q (by simp))
  | _=>exact absurd (show false=true from hs) Bool.false_ne_true
 | int i=>
  obtain ⟨t,rfl⟩:=rx
  cases y with
  | non=>cases ry;exact PySem.EqNone.eq_int_none (fin_bl I q (by simp))
  | int j=>obtain ⟨t',rfl⟩:=ry;exact eq_int (fin_bl I q dec_int)
  | str j=>obtain ⟨t',rfl⟩:=ry;exact PySem.EqMixed.eq_int_str (fin_bl I q (by simp))
  | _=>exact absurd (show false=true from hs) Bool.false_ne_true
 | str i=>
  obtain ⟨t,rfl⟩:=rx
  cases y with
  | non=>cases ry;exact PySem.EqNone.eq_str_none (fin_bl I q (by simp))
  | bl j=>cases ry;exact PySem.EqMixed.eq_str_bool (fin_bl I q (by simp))
  | int j=>obtain ⟨t',rfl⟩:=ry;exact PySem.EqMixed.eq_str_int (fin_bl I q (by simp))
  | str j=>obtain ⟨t',rfl⟩:=ry;exact eq_str (fin_bl I q dec_str)
  | _=>exact absurd (show false=true from hs) Bool.false_ne_true
 | byt i=>
  obtain ⟨t,rfl⟩:=rx
  cases y with
  | byt j=>obtain ⟨t',rfl⟩:=ry;exact PySem.W.eq_bytes (fin_bl I q dec_byt)
  | _=>exact absurd (show false=true from hs) Bool.false_ne_true
 | _=>cases y <;> exact absurd (show false=true from hs) Bool.false_ne_true
theorem op_ne:OpR X (compareOp .NotEq) rNe:=by
 intro pins s σ H x y v u Q I rx ry h
 obtain ⟨hs,q⟩:=h
 cases x with
 | non=>
  cases rx
  cases y with
  | non=>cases ry;exact PySem.EqNone.ne_none_none (fin_bl I q (by simp))
  | bl j=>cases ry;exact PySem.EqNone.ne_none_bool (fin_bl I q (by simp))
  | int j=>obtain ⟨t',rfl⟩:=ry;exact PySem.EqNone.ne_none_int (fin_bl I q (by simp))
  | str j=>obtain ⟨t',rfl⟩:=ry;exact PySem.EqNone.ne_none_str (fin_bl I q (by simp))
  | _=>exact absurd (show false=true from hs) Bool.false_ne_true
 | bl i=>
  cases rx
  cases y with
  | non=>cases ry;exact PySem.EqNone.ne_bool_none (fin_bl I q (by simp))
  | bl j=>cases ry;exact ne_bool (fin_bl I q (congrArg not dec_bl))
  | str j=>obtain ⟨t',rfl⟩:=ry;exact PySem.EqMixed.ne_bool_str (fin_bl I q (by simp))
  | _=>exact absurd (show false=true from hs) Bool.false_ne_true
 | int i=>
  obtain ⟨t,rfl⟩:=rx
  cases y with
  | non=>cases ry;exact PySem.EqNone.ne_int_none (fin_bl I q (by simp))
  | int j=>obtain ⟨t',rfl⟩:=ry;exact ne_int (fin_bl I q (congrArg not dec_int))
  | str j=>obtain ⟨t',rfl⟩:=ry;exact PySem.EqMixed.ne_int_str (fin_bl I q (by simp))
  | _=>exact absurd (show false=true from hs) Bool.false_ne_true
 | str i=>
  obtain ⟨t,rfl⟩:=rx
  cases y with
  | non=>cases ry;exact PySem.EqNone.ne_str_none (fin_bl I q (by simp))
  | bl j=>cases ry;exact PySem.EqMixed.ne_str_bool (fin_bl I q (by simp))
  | int j=>obtain ⟨t',rfl⟩:=ry;exact PySem.EqMixed.ne_str_int (fin_bl I q (by simp))
  | str j=>obtain ⟨t',rfl⟩:=ry;exact ne_str (fin_bl I q (congrArg not dec_str))
  | _=>exact absurd (show false=true from hs) Bool.false_ne_true
 | byt i=>
  obtain ⟨t,rfl⟩:=rx
  cases y with
  | byt j=>obtain ⟨t',rfl⟩:=ry;exact PySem.W.ne_bytes (fin_bl I q (congrArg not dec_byt))
  | _=>exact absurd (show false=true from hs) Bool.false_ne_true
 | _=>cases y <;> exact absurd (show false=true from hs) Bool.false_ne_true
theorem op_lt:OpR X (compareOp .Lt) (rI0 fun i j=>.bl (decide (i<j))):=opB0 fun _ _ _ _ _ _ _ q=>lt_int q
theorem op_gt:OpR X (compareOp .Gt) (rI0 fun i j=>.bl (decide (j<i))):=opB0 fun _ _ _ _ _ _ _ q=>gt_int q
theorem op_ge:OpR X (compareOp .GtE) (rI0 fun i j=>.bl (decide (j≤i))):=opB0 fun _ _ _ _ _ _ _ q=>ge_int q
theorem nomark (b:Expr) {op:CmpOp} (h:op ≠ .In:=by decide) (h2:op ≠ .NotIn:=by decide):behindInMarks op b=false:=by
 have e1:(op == CmpOp.In)=false:=by cases op <;> first | rfl | exact absurd rfl h
 have e2:(op == CmpOp.NotIn)=false:=by cases op <;> first | rfl | exact absurd rfl h2
 cases b <;> simp [behindInMarks,e1,e2]
theorem pe_cmpR {op:CmpOp} {r:R2} (ho:OpR X (compareOp op) r) (ha:PE X a ta) (hb:PE X b tb) (hm:behindInMarks op b=false):PE X (.Compare a [op] [b] pos) (tOp r ta tb):=by
 intro pins s σ H Q I h
 exact wpAny_Compare1 (binT ha hb I h fun v u s2 x y H2 I2 rx ry q=>ho pins s2 σ H2 x y v u Q I2 rx ry q) hm
def tTest (t:TE):TT:=fun σ H Q=>t σ H fun x H'=>∃ k,x=.bl k∧Q k H'
theorem pt_cmpR {op:CmpOp} {r:R2} (ho:OpR X (compareOp op) r) (ha:PE X a ta) (hb:PE X b tb) (hm:behindInMarks op b=false):PT X (.Compare a [op] [b] pos) (tTest (tOp r ta tb)):=by
 intro pins s σ H Q I h
 refine wpAny_isTrue_Compare1 (thn (ha pins s σ H _ I h) fun v s1 ⟨x,H1,I1,r1,q1⟩=>thn (hb pins s1 σ H1 _ I1 q1) fun u s2 ⟨y,H2,I2,r2,q2⟩=>
  thn (ho pins s2 σ H2 x y v u _ I2 r1 r2 q2) fun c s3 ⟨z,H3,I3,r3,k,e,q3⟩=>?_) hm
 subst e
 cases r3
 exact wpAny_truthy_bool ⟨H3,I3,q3⟩
theorem line63:(sizeLine:Nat)<2 ^ 63:=by rw [sizeLine_eq];decide
theorem vals1 {x:V} {us:List Value} (r:Vals [x] us):∃ u,us=[u]∧RelV x u:=by
 cases r with
 | cons r1 r2=>cases r2;exact ⟨_,rfl,r1⟩
theorem vals2 {x y:V} {us:List Value} (r:Vals [x,y] us):∃ u w',us=[u,w']∧RelV x u∧RelV y w':=by
 cases r with
 | cons r1 r2=>
  cases r2 with
  | cons r3 r4=>cases r4;exact ⟨_,_,rfl,r1,r3⟩
theorem call_max2 (hc:X.calm=true):CallR X (.builtin "max") (fun xs H Q=>∃ i j,xs=[.int i,.int j]∧Q (.int (if j > i then j else i)) H):=by
 intro pins s σ H xs us Q I r h
 obtain ⟨i,j,rfl,q⟩:=h
 obtain ⟨u,w',rfl,⟨t,rfl⟩,⟨t',rfl⟩⟩:=vals2 r
 refine max_two_ints (I.ok.hd hc) fun h' tk k=>⟨_,H,I.kept k,?_,q⟩
 by_cases hj:j > i
 ·rw [if_pos hj,if_pos hj];exact ⟨_,rfl⟩
 ·rw [if_neg hj,if_neg hj];exact ⟨_,rfl⟩
theorem call_min2 (hc:X.calm=true):CallR X (.builtin "min") (fun xs H Q=>∃ i j,xs=[.int i,.int j]∧Q (.int (if j<i then j else i)) H):=by
 intro pins s σ H xs us Q I r h
 obtain ⟨i,j,rfl,q⟩:=h
 obtain ⟨u,w',rfl,⟨t,rfl⟩,⟨t',rfl⟩⟩:=vals2 r
 refine min_two_ints (I.ok.hd hc) fun h' tk k=>⟨_,H,I.kept k,?_,q⟩
 by_cases hj:j<i
 ·rw [if_pos hj,if_pos hj];exact ⟨_,rfl⟩
 ·rw [if_neg hj,if_neg hj];exact ⟨_,rfl⟩
theorem call_int1:CallR X (.type "int") (fun xs H Q=>(∃ i,xs=[.int i]∧Q (.int i) H)∨∃ k,xs=[.bl k]∧Q (.int (if k then 1 else 0)) H):=by
 intro pins s σ H xs us Q I r h
 rcases h with ⟨i,rfl,q⟩ | ⟨k,rfl,q⟩
 ·obtain ⟨u,rfl,t,rfl⟩:=vals1 r
  exact call_int_int ⟨.int i,H,I,⟨_,rfl⟩,q⟩
 ·obtain ⟨u,rfl,r1⟩:=vals1 r
  cases r1
  exact call_int_bool ⟨.int (if k then 1 else 0),H,I.tok _,⟨_,rfl⟩,q⟩
theorem call_divmod:CallR X (.builtin "divmod") (fun xs H Q=>∃ i j,xs=[.int i,.int j]∧CDiv i j∧∀ p,H p=none→Q (.ref p) (upd H p (.tup [.int (i / j),.int (i % j)]))):=by
 intro pins s σ H xs us Q I r h
 obtain ⟨i,j,rfl,⟨h1,h2⟩,q⟩:=h
 obtain ⟨u,w',rfl,⟨t,rfl⟩,⟨t',rfl⟩⟩:=vals2 r
 refine divmod_int (by omega) ?_ (.inl (PyProof.noPylong_small (by omega)))
 rw [Int.fdiv_eq_ediv_of_nonneg i (by omega),Int.fmod_eq_emod_of_nonneg i (by omega)]
 have hn:H s.heap.objs.size=none:=I.hok.fresh (Nat.le_refl _)
 refine ⟨.ref s.heap.objs.size,_,?_,rfl,q _ hn⟩
 refine I.laid (fun b o e=>Heap.get?_push_of_some _ e) (Nat.le_refl _) ⟨by simp only [List.length_cons,List.length_nil];rw [sizeLine_eq];decide,[.int (i / j) s.toks,.int (i % j) (s.toks+1)],.cons ⟨_,rfl⟩ (.cons ⟨_,rfl⟩ .nil),?_⟩
 exact ⟨_,Heap.get?_push_size s.heap rfl,rfl,0,rfl⟩
end
end L2
namespace L2
open PySem PySem.Spec PyProof.Rows
structure ObjM (h:Heap) (x dx C:Addr) (mA:Str→Option Value):Prop where
 obj:h.get? x=some (PySem.W.instObj C dx)
 ns:h.Ns1 dx mA
 ne:dx ≠ x
theorem lookIn_ns {h:Heap} {dx:Addr} {mA:Str→Option Value} (n:h.Ns1 dx mA):∃ od,h.get? dx=some od∧∀ name,PySem.W.lookIn name od=some (mA name):=by
 obtain ⟨o,es,ep,ho,hd,hk,_,hm⟩:=n
 refine ⟨o,ho,fun name=>?_⟩
 have e:=hm name
 unfold nsFind findBy at e
 rw [← Array.find?_toList] at e
 unfold PySem.W.lookIn
 rw [hd]
 dsimp only
 split
 ·rename_i y q
  rw [q] at e
  exact congrArg some e
 ·rename_i q
  rw [q] at e
  have a:es.toList.any (·.refKey)=false:=by
   rw [List.any_eq_false]
   intro y hy
   obtain ⟨z,t,hkey⟩:=hk y (Array.mem_toList_iff.mp hy)
   simp [DictEntry.refKey,hkey]
  have a':¬ es.toList.any (·.refKey)=true:=by rw [a];exact Bool.false_ne_true
  rw [if_neg a']
  exact congrArg some e
theorem ObjM.look {h:Heap} {x dx C:Addr} {mA:Str→Option Value} (I:ObjM h x dx C mA):∃ od,PySem.W.InstAt h x (PySem.W.instObj C dx) C (some od)∧∀ name,PySem.W.lookIn name od=some (mA name):=
 let ⟨od,ho,hl⟩:=lookIn_ns I.ns
 ⟨od,⟨I.obj,rfl,rfl,ho⟩,hl⟩
section
variable {prog:Program} {w:World} {A:Around} {E:Value→Shared→Prop} {s:Shared} {K:PySem.W.Frag} {x dx C f:Addr} {mA:Str→Option Value} {name:Str} {v:Value}
end
def putF (f:Str) (v:V):List (Str × V)→List (Str × V)
 | []=>[(f,v)]
 | (g,x)::r=>if g=f then (g,v)::r else (g,x)::putF f v r
theorem RelO.some_of {v:V} {o:Option Value} (r:RelO (some v) o):∃ u,o=some u∧RelV v u:=by
 cases o with
 | none=>exact (show False from r).elim
 | some u=>exact ⟨u,rfl,r⟩
section
variable {P:Program} {w:World} {H H':Hp} {h h':Heap} {a C dx:Addr} {fs fs':List (Str × V)}
theorem ins_get (hok:HOk P w H h) (e:H a=some (.ins C dx fs)):∃ mA,ObjM h a dx C mA∧(∀ f,RelO (fs.lookup f) (mA f))∧PySem.Within mA (fs.map (·.1))∧fs.length≤1000∧H dx=some (.own a):=by
 obtain ⟨d,z,ne,ob,mA,n,r,q⟩:=(show ObjOk P w H h a (.ins C dx fs) from hok a _ e)
 exact ⟨mA,⟨ob,n,ne⟩,r,q,z,d⟩
end
structure Cls (K:PySem.W.Frag) (C:Addr):Prop where
 pg:PySem.W.plainGet K C Str.empty=true
 hd:PySem.W.hasDictIn K C=true
 po:PySem.W.plainOver K C=true
 sa:PySem.W.findIn K (.ref C) "__setattr__" = some (some (.builtin "object.__setattr__"))
theorem Cls.get {K:PySem.W.Frag} {C:Addr} (c:Cls K C) (f:Str):PySem.W.plainGet K C f=true:=c.pg
def NoAttr (K:PySem.W.Frag) (C:Addr) (f:Str):Prop:=PySem.W.findIn K (.ref C) f=some none
structure Con (K:PySem.W.Frag) (C:Addr) (f:Str) (v:V) (u:Value):Prop where
 at_:PySem.W.findIn K (.ref C) f=some (some u)
 rel:RelV v u
 get:PySem.W.specialIn K u "__get__" = some none
 cp:PySem.W.copiedNames.contains f=false
structure Meth (K:PySem.W.Frag) (C:Addr) (m:Str) (f:Addr):Prop where
 at_:PySem.W.findIn K (.ref C) m=some (some (.ref f))
 fn:PySem.W.isFn K (.ref f)=true
 kp:PySem.W.keepIn K (.ref f)=true
section
variable {X:Cx} {pins:List (Addr × Obj)} {σ:St} {H:Hp} {s:Shared} {a C dx:Addr} {fs:List (Str × V)} {f:Str} {v:V} {A:Around} {E:Value→Shared→Prop}
end
section
variable {X:Cx} {o e value:Expr} {f:Str} {pos pos' tpos:Pos} {ta tv:TE}
end
section
variable {X:Cx} {pins:List (Addr × Obj)} {σ:St} {H:Hp} {s:Shared} {A:Around} {E:Value→Shared→Prop} {Q:Value→Shared→Prop} {c:Value} {b:Bool}
inductive TyOf (K:PySem.W.Frag) (H:Hp):V→Value→Prop where
 | non:TyOf K H .non (.type "NoneType")
 | bl (x:Bool):TyOf K H (.bl x) (.type "bool")
 | int (i:Int):TyOf K H (.int i) (.type "int")
 | str (x:Str):TyOf K H (.str x) (.type "str")
 | flt (x:UInt64):TyOf K H (.flt x) (.type "float")
 | lst {a:Addr} {xs:List V} (e:H a=some (.lst xs)):TyOf K H (.ref a) (.type "list")
 | frz {a:Addr} {o:Obj} {xs:List V} (e:H a=some (.frz o (.lst xs))):TyOf K H (.ref a) (.type "list")
 | tup {a:Addr} {xs:List V} (e:H a=some (.tup xs)):TyOf K H (.ref a) (.type "tuple")
 | dK {a:Addr} {kvs:List (Key × V)} (e:H a=some (.dK kvs)):TyOf K H (.ref a) (.type "dict")
 | dT {a:Addr} {kvs:List (List Key × V)} (e:H a=some (.dT kvs)):TyOf K H (.ref a) (.type "dict")
 | ins {a C dx:Addr} {fs:List (Str × V)} (e:H a=some (.ins C dx fs)) (cl:Cls K C) (ha:PySem.W.findIn K (.ref C) "__class__" = some (some (.builtin "object.__class__")))
   (hn:PySem.W.specialIn K (.builtin "object.__class__") "__get__" = some (some (.builtin "getset_descriptor.__get__"))) (htk:PySem.W.takesIn K (.builtin "object.__class__")=some true)
   (hm:PySem.W.mroIn K C (.type "object")=some true):TyOf K H (.ref a) (.ref C)
theorem isinst_ok {x:V} {u t:Value} (I:Inv X pins σ H s) (rx:RelV x u) (ty:TyOf X.K H x t) (e:PySem.W.kitOne X.K t c=some b) (h:∀ tk,Q (.bool b) { s with toks:=tk }) :
  wpAny (model X.prog X.w) A (call (.builtin "isinstance") [u,c]) Q E s:=by
 cases ty with
 | non=>cases (show u=Value.none from rx);exact PySem.W.kia_one PySem.W.kitx_none I.kIn True.intro e (fun z=>nomatch z) h
 | bl y=>cases (show u=Value.bool y from rx);exact PySem.W.kia_one PySem.W.kitx_bool I.kIn True.intro e (fun z=>nomatch z) h
 | int i=>obtain ⟨t,q⟩:=(show ∃ t,u=Value.int i t from rx);cases q;exact PySem.W.kia_one PySem.W.kitx_int I.kIn True.intro e (fun z=>nomatch z) h
 | str y=>obtain ⟨t,q⟩:=(show ∃ t,u=Value.str y t from rx);cases q;exact PySem.W.kia_one PySem.W.kitx_str I.kIn True.intro e (fun z=>nomatch z) h
 | flt y=>obtain ⟨t,q⟩:=(show ∃ t,u=Value.float y t from rx);cases q;exact PySem.W.kia_one PySem.W.kitx_float I.kIn True.intro e (fun z=>nomatch z) h
 | @lst a xs ea=>
  cases (show u=Value.ref a from rx)
  obtain ⟨_,_,n,_,h1⟩:=(show ObjOk X.prog X.w H s.heap a (.lst xs) from I.hok a _ ea)
  exact PySem.W.kia_one PySem.W.kitx_list I.kIn ⟨_,h1,rfl⟩ e (fun z=>nomatch z) h
 | @frz a ob xs ea=>
  cases (show u=Value.ref a from rx)
  obtain ⟨_,_,_,n,_,h1⟩:=(show ObjOk X.prog X.w H s.heap a (.frz ob (.lst xs)) from I.hok a _ ea)
  exact PySem.W.kia_one PySem.W.kitx_list I.kIn ⟨_,h1,rfl⟩ e (fun z=>nomatch z) h
 | @tup a xs ea=>
  cases (show u=Value.ref a from rx)
  obtain ⟨_,_,_,p⟩:=(show ObjOk X.prog X.w H s.heap a (.tup xs) from I.hok a _ ea)
  obtain ⟨o,h1,h2,_⟩:=p
  exact PySem.W.kia_one PySem.W.kitx_tuple I.kIn ⟨o,h1,h2⟩ e (fun z=>nomatch z) h
 | @dK a kvs ea=>
  cases (show u=Value.ref a from rx)
  obtain ⟨_,_,vs,_,p⟩:=(show ObjOk X.prog X.w H s.heap a (.dK kvs) from I.hok a _ ea)
  obtain ⟨o,es,ep,h1,h2,_⟩:=p
  exact PySem.W.kia_one PySem.W.kitx_dict I.kIn ⟨o,h1,h2.1⟩ e (fun z=>nomatch z) h
 | @dT a kvs ea=>
  cases (show u=Value.ref a from rx)
  obtain ⟨_,_,xs,_,o,es,ep,h1,h2,_⟩:=(show ObjOk X.prog X.w H s.heap a (.dT kvs) from I.hok a _ ea)
  exact PySem.W.kia_one PySem.W.kitx_dict I.kIn ⟨o,h1,h2.1⟩ e (fun z=>nomatch z) h
 | @ins a C dx fs ea cl ha hn htk hm=>
  cases (show u=Value.ref a from rx)
  obtain ⟨mA,O,_⟩:=ins_get I.hok ea
  obtain ⟨od,J,_⟩:=O.look
  exact PySem.W.kia_one (PySem.W.kitx_own (cl.get _) cl.hd ha hn htk hm) I.kIn J e (fun z=>nomatch z) h
end
end L2
namespace L2
open PySem PySem.Spec PyProof.Rows
structure Room (k:Nat) (A:Around):Prop where
 hd:A.handled=none
 dp:A.depth+3 * k+5<recursionLimit
 un:A.units+16 * k+200<cLine
 gd:A.guards=some []
theorem Room.mono {j k:Nat} {A:Around} (r:Room k A) (h:j≤k):Room j A:=⟨r.hd,by have:=r.dp;omega,by have:=r.un;omega,r.gd⟩
theorem Room.deeper {k:Nat} {A:Around} (r:Room (k+1) A) (env:Env):Room k (A.deeper env):=
 ⟨r.hd,by have:=r.dp;show A.depth+1+3 * k+5<_;omega,by have:=r.un;show A.units+3+16 * k+200<_;omega,r.gd⟩
theorem Room.depth {k:Nat} {A:Around} (r:Room k A):A.depth<recursionLimit:=by have:=r.dp;omega
theorem Room.units {k:Nat} {A:Around} (r:Room k A):A.units+64<cLine:=by have:=r.un;omega
theorem Room.units0 {k:Nat} {A:Around} (r:Room k A):A.units<cLine:=by have:=r.un;omega
def tNil:TA:=fun _ H Q=>Q [] H
def tCons (ta:TE) (tr:TA):TA:=fun σ H Q=>ta σ H fun x H1=>tr σ H1 fun xs H2=>Q (x::xs) H2
section
variable {X:Cx} {e:Expr} {es:List Expr} {te:TE} {t:TA} {pos:Pos}
theorem pa_nil:PA X [] tNil:=fun _ _ _ _ H Q I h=>Calls.spliced_nil ⟨[],H,I,.nil,h⟩
theorem pa_cons (ha:PE X e te) (hr:PA X es t) (hs:starEach (e::es) X.env=(false,eval e X.env)::starEach es X.env:=by rfl):PA X (e::es) (tCons te t):=by
 intro pos pins s σ H Q I h
 rw [hs]
 show wpAny _ _ (spliced ((false,eval e X.env)::backTo pos (starEach es X.env))) _ _ s
 refine Calls.spliced_cons (thn (ha pins s σ H _ I h) fun u s1 ⟨x,H1,I1,r1,q1⟩=>?_)
 exact thn (hr pos pins s1 σ H1 _ I1 q1) fun us s2 ⟨xs,H2,I2,r2,q2⟩=>⟨x::xs,H2,I2,.cons r1 r2,q2⟩
def tTup (t:TA):TE:=fun σ H Q=>t σ H fun xs H1=>xs.length≤sizeLine∧∀ p,H1 p=none→Q (.ref p) (upd H1 p (.tup xs))
def tLst (t:TA):TE:=fun σ H Q=>t σ H fun xs H1=>xs.length≤sizeLine∧∀ p,H1 p=none→Q (.ref p) (upd H1 p (.lst xs))
theorem pe_tup {x1} (h:PA X es t):PE X (.Tuple es x1 pos) (tTup t):=by
 intro pins s σ H Q I hq
 refine wpAny_Tuple_spliced (thn (h pos pins s σ H _ I hq) fun us s1 ⟨xs,H1,I1,r,z,q⟩=>⟨by rw [← r.length];exact z,?_⟩)
 have hf:H1 s1.heap.objs.size=none:=I1.hok.fresh (Nat.le_refl _)
 refine ⟨.ref s1.heap.objs.size,upd H1 s1.heap.objs.size (.tup xs),I1.laid (t':=s1.toks) (fun b u e=>Heap.get?_push_of_some _ e) (Nat.le_refl _) ?_,rfl,q _ hf⟩
 exact ⟨z,us,r,⟨_,Heap.get?_push_size _ rfl,rfl,_,rfl⟩⟩
theorem pe_lst (h:PA X es t):PE X (.List es pos) (tLst t):=by
 intro pins s σ H Q I hq
 refine wpAny_List_spliced (thn (h pos pins s σ H _ I hq) fun us s1 ⟨xs,H1,I1,r,z,q⟩=>⟨by rw [← r.length];exact z,?_⟩)
 have hf:H1 s1.heap.objs.size=none:=I1.hok.fresh (Nat.le_refl _)
 refine ⟨.ref s1.heap.objs.size,upd H1 s1.heap.objs.size (.lst xs),I1.laid (t':=s1.toks) (fun b u e=>Heap.get?_push_of_some _ e) (Nat.le_refl _) ?_,rfl,q _ hf⟩
 exact ⟨z,us,0,r,Heap.get?_push_size _ rfl⟩
end
abbrev Sp:=List V→Hp→VK→XK→Prop
abbrev CXT:=List Env→Hp→Shared→XK→Value→Shared→Prop
structure Env0 (P:Program) (w:World) (K:PySem.W.Frag) (mg:Str→Option Value) (base:Heap) (A:Around) (outer:List Env) (s:Shared) (H:Hp):Prop where
 frames:A.frames=some outer
 mod:Mod K mg base
 bs:∀ b o,base.get? b=some o→s.heap.get? b=some o∧H b=none
 bsz:base.objs.size≤s.heap.objs.size
 funs:s.heap.FunFrames base outer
 frf:∀ b ∈ frs outer,H b=none
 hok:HOk P w H s.heap
 bare:AllBare s.gens
def CE (outer:List Env) (P:Program) (w:World) (H:Hp) (s:Shared) (Q:VK) (u:Value) (s':Shared):Prop:=
 ∃ v H',s'.os=s.os∧AllBare s'.gens∧Un (frs outer) [] H H' s.heap s'.heap∧HOk P w H' s'.heap∧RelV v u∧Q v H'
def CR (CX:CXT) (outer:List Env) (P:Program) (w:World) (H:Hp) (s:Shared) (Q:VK) (E:XK) (r:Result) (s':Shared):Prop:=
 match r with
 | .ok (.ret u)=>CE outer P w H s Q u s'
 | .ok _=>False
 | .error e=>CX outer H s E e s'
structure FnOk (P:Program) (w:World) (K:PySem.W.Frag) (mg:Str→Option Value) (base:Heap) (CX:CXT) (k:Nat) (f:Addr) (fd:FuncData) (ps:List Str) (sp:Sp):Prop where
 len:∀ vs H Q E,sp vs H Q E→vs.length=ps.length
 run:∀ (A:Around) (outer:List Env) (s:Shared) (H:Hp) (args:Args) (us:List Value) (vs:List V) (Q:VK) (E:XK),Room k A→Env0 P w K mg base A outer s H→BindsTo s fd args (ps.zip us)→Vals vs us→sp vs H Q E→
  codeAny (model P w) A (.call (.ref f) args) (CR CX outer P w H s Q E) s
section
variable {X:Cx} {pins:List (Addr × Obj)} {σ:St} {H:Hp} {s s':Shared}
theorem Inv.env0 (I:Inv X pins σ H s):Env0 X.prog X.w X.K X.mg X.base X.A X.stack s H:=
 ⟨I.ok.frames,I.ok.mod,I.bs,Nat.le_trans I.ok.bsz I.sz,I.stack,I.stkFree,I.hok,I.bare⟩
theorem Inv.after {Q:VK} {u:Value} (I:Inv X pins σ H s) (h:CE X.stack X.prog X.w H s Q u s'):EP X pins σ Q u s':=by
 obtain ⟨v,H',os,bare,un,hok,r,q⟩:=h
 obtain ⟨hh,g,d,t,os'⟩:=s'
 obtain rfl:os'=s.os:=os
 exact ⟨v,H',I.call (h':=hh) (g':=g) (d':=d) (t':=t) (ch:=[]) un hok bare (fun b z=>absurd z (by simp)),r,q⟩
end
def tCall (sp:Sp) (dvs:List V) (E:XK) (t:TA):TE:=fun σ H Q=>t σ H fun vs H1=>sp (vs++dvs) H1 Q E
def Binds (K:PySem.W.Frag) (fd:FuncData) (ps:List Str) (ds:List Value):Prop:=
 ∀ (s:Shared) (us:List Value),K.In s.heap→(us++ds).length=ps.length→BindsTo s fd ⟨us,[]⟩ (ps.zip (us++ds))
theorem Binds.all {K:PySem.W.Frag} {fd:FuncData} {ps:List Str} (h:∀ us:List Value,us.length=ps.length→bindArgs fd ⟨us,[]⟩=pure (ps.zip us)):Binds K fd ps []:=fun s us _ hl=>by
 rw [List.append_nil] at hl ⊢
 exact .of_eq (h us hl)
def Passes (CX:CXT) (X:Cx) (E:XK):Prop:=∀ (pins:List (Addr × Obj)) (σ:St) (H:Hp) (s:Shared) (e:Value) (s':Shared),Inv X pins σ H s→CX X.stack H s E e s'→X.xe e s'
section
variable {X:Cx} {CX:CXT} {k:Nat} {f C:Addr} {fd:FuncData} {ps:List Str} {sp:Sp} {dvs:List V} {ds:List Value} {E:XK} {x m:Str} {p pos apos:Pos} {e o:Expr} {es:List Expr} {ta:TE} {t:TA}
theorem run_fn {pins:List (Addr × Obj)} {σ:St} {H:Hp} {s:Shared} {Q:VK} {us:List Value} {vs:List V} (F:FnOk X.prog X.w X.K X.mg X.base CX k f fd ps sp) (hr:Room k X.A) (hb:Binds X.K fd ps ds) (hd:Vals dvs ds) (hx:Passes CX X E)
  (I:Inv X pins σ H s) (r:Vals vs us) (h:sp (vs++dvs) H Q E):wpAny (model X.prog X.w) X.A (call (.ref f) us) (EP X pins σ Q) X.xe s:=by
 have r2:Vals (vs++dvs) (us++ds):=r.append hd
 have hl:(us++ds).length=ps.length:=by rw [← r2.length];exact F.len _ _ _ _ h
 refine wpAny_call (codeAny_mono (F.run X.A X.stack s H ⟨us,[]⟩ (us++ds) (vs++dvs) Q E hr I.env0 (hb s us I.kIn hl) r2 h) fun r s' hq=>?_)
 cases r with
 | error e=>exact hx pins σ H s e s' I hq
 | ok fl=>
  cases fl with
  | ret u=>exact I.after hq
  | next=>exact False.elim hq
  | brk=>exact False.elim hq
  | cont=>exact False.elim hq
theorem pe_call (F:FnOk X.prog X.w X.K X.mg X.base CX k f fd ps sp) (hr:Room k X.A) (hg:Gl X x) (hm:X.mg x=some (.ref f)) (hk:PySem.W.keepIn X.K (.ref f)=true) (hb:Binds X.K fd ps ds) (hd:Vals dvs ds) (hx:Passes CX X E)
  (ha:PA X (e::es) t) (hdb:(x == ("__debug__" : Str))=false:=by decide) (he:starEach (e::es) X.env=(false,eval e X.env)::starEach es X.env:=by rfl) (hpl:(backTo pos (starEach es X.env)).any (·.1)=false:=by rfl) :
  PE X (.Call (.Name x p) (e::es) [] pos) (tCall sp dvs E t):=by
 intro pins s σ H Q I h
 refine wpAny_Call_Name_kw (ld_glob I hg hm ?_ hdb)
 refine PySem.W.callWith_K (h₀:=X.base) I.ok.mod.kin hk (thn (ha pos pins s σ H _ I h) fun us s1 ⟨vs,H1,I1,r,q⟩=>⟨I1.kIn,?_⟩) he hpl
 exact run_fn F hr hb hd hx I1 r q
structure Mk (K:PySem.W.Frag) (C f:Addr):Prop where
 makes:PySem.W.makesIn K C=true
 init:PySem.W.findIn K (.ref C) "__init__" = some (some (.ref f))
 fn:PySem.W.isFn K (.ref f)=true
 kp:PySem.W.keepIn K (.ref C)=true
end
section
variable {X:Cx} {CX:CXT} {k:Nat} {f C:Addr} {fd:FuncData} {ps ks:List Str} {sp:Sp} {E:XK} {x m:Str} {p pos apos kpos:Pos} {e o:Expr} {es:List Expr} {kws:List Keyword} {te ta:TE} {t tk:TA} {nm:Option Str}
structure KBinds (K:PySem.W.Frag) (fd:FuncData) (ps ks:List Str) (g:List Value→List Value→List Value) (gV:List V→List V→List V):Prop where
 to:∀ (s:Shared) (us ws:List Value),K.In s.heap→(g us ws).length=ps.length→BindsTo s fd ⟨us,ks.zip ws⟩ (ps.zip (g us ws))
 rel:∀ {vs:List V} {us:List Value} {zs:List V} {ws:List Value},Vals vs us→Vals zs ws→Vals (gV vs zs) (g us ws)
variable {g:List Value→List Value→List Value} {gV:List V→List V→List V}
end
structure FnScope (N P:List Str) (sc:Scope):Prop where
 kind:sc.kind=.function
 co:sc.isCoroutine=false
 gen:sc.isGenerator=false
 nd:N.Nodup
 pre:N.take P.length=P
 par:∀ x ∈ P,sc.names.lookup x=some .local∨sc.names.lookup x=some .cell
 nofree:∀ y ∈ sc.names,y.2 ≠ .free
theorem bindL_out {kindOf:Str→Option NameKind} {x:Str}:∀ {binds:List (Str × Value)} {m:Str→Option Value},(∀ v,(x,v) ∉ binds)→bindL kindOf binds m x=m x
 | [],_,_=>rfl
 | (n,v)::r,m,h=>by
  unfold bindL
  rw [bindL_out fun w hw=>h w (List.mem_cons_of_mem _ hw)]
  split
  ·have:x ≠ n:=by rintro rfl;exact h v List.mem_cons_self
   simp [this]
  ·rfl
theorem bindC_out {kindOf:Str→Option NameKind} {x:Str}:∀ {binds:List (Str × Value)} {m:Str→Option Value},(∀ v,(x,v) ∉ binds)→bindC kindOf binds m x=m x
 | [],_,_=>rfl
 | (n,v)::r,m,h=>by
  unfold bindC
  rw [bindC_out fun w hw=>h w (List.mem_cons_of_mem _ hw)]
  split
  ·rfl
  ·have:x ≠ n:=by rintro rfl;exact h v List.mem_cons_self
   simp [this]
theorem bindL_get {kindOf:Str→Option NameKind} {x:Str} {v:Value}:∀ {P:List Str} {vs:List Value} {i:Nat} {m:Str→Option Value},P.Nodup→P[i]?=some x→vs[i]?=some v→kindOf x=some .local→
  bindL kindOf (P.zip vs) m x=some v
 | [],_,_,_,_,h,_,_=>by simp at h
 | _::_,[],_,_,_,_,h,_=>by simp at h
 | p::P,w::vs,0,m,nd,h1,h2,hk=>by
  simp at h1 h2;subst h1;subst h2
  show bindL kindOf ((p,w)::P.zip vs) m p=_
  unfold bindL
  rw [bindL_out fun v hv=>(List.nodup_cons.mp nd).1 (List.of_mem_zip hv).1,if_pos hk]
  simp
 | p::P,w::vs,i+1,m,nd,h1,h2,hk=>by
  show bindL kindOf ((p,w)::P.zip vs) m x=_
  unfold bindL
  exact bindL_get (i:=i) (List.nodup_cons.mp nd).2 (by simpa using h1) (by simpa using h2) hk
theorem bindC_get {kindOf:Str→Option NameKind} {x:Str} {v:Value}:∀ {P:List Str} {vs:List Value} {i:Nat} {m:Str→Option Value},P.Nodup→P[i]?=some x→vs[i]?=some v→kindOf x ≠ some .local→
  bindC kindOf (P.zip vs) m x=some v
 | [],_,_,_,_,h,_,_=>by simp at h
 | _::_,[],_,_,_,_,h,_=>by simp at h
 | p::P,w::vs,0,m,nd,h1,h2,hk=>by
  simp at h1 h2;subst h1;subst h2
  show bindC kindOf ((p,w)::P.zip vs) m p=_
  unfold bindC
  rw [bindC_out fun v hv=>(List.nodup_cons.mp nd).1 (List.of_mem_zip hv).1,if_neg hk]
  simp
 | p::P,w::vs,i+1,m,nd,h1,h2,hk=>by
  show bindC kindOf ((p,w)::P.zip vs) m x=_
  unfold bindC
  exact bindC_get (i:=i) (List.nodup_cons.mp nd).2 (by simpa using h1) (by simpa using h2) hk
def start (N:List Str) (vs:List V):St:=vs.map some++List.replicate (N.length - vs.length) none
def cxOf (CX:CXT) (P:Program) (w:World) (K:PySem.W.Frag) (mg:Str→Option Value) (base:Heap) (N:List Str) (qual:Str) (scope:Scope) (f:Addr) (cd:Value) (A:Around) (outer:List Env) (s:Shared) (H:Hp) (E:XK):Cx where
 prog:=P
 w:=w
 K:=K
 mg:=mg
 base:=base
 A:=A.deeper (envOfC qual scope s.heap.objs.size f cd)
 N:=N
 s₀:=s
 H₀:=H
 env:=envOfC qual scope s.heap.objs.size f cd
 outer:=outer
 stack:=envOfC qual scope s.heap.objs.size f cd::outer
 ex:=[]
 calm:=true
 fn:=fun _=>true
 pn:=[]
 xe:=fun e s'=>wpAny (model P w) (A.deeper (envOfC qual scope s.heap.objs.size f cd)) (leaving (envOfC qual scope s.heap.objs.size f cd) e) (fun _ s''=>CX outer H s E e s'') (fun e' s''=>CX outer H s E e' s'') s'
theorem cell_has {sc:Scope} {n:Nat} {x:Str} (h:sc.names.lookup x=some .cell):∃ c,(cellsFrom n sc.names []).lookup x=some c:=by
 have q:=PySem.W.cellsFrom_some sc.names n [] (.inl h)
 exact Option.isSome_iff_exists.mp q
theorem inv_start {CX:CXT} {P:Program} {w:World} {K:PySem.W.Frag} {mg:Str→Option Value} {base:Heap} {N ps:List Str} {qual:Str} {scope:Scope} {f:Addr} {cd:Value} {A:Around} {outer:List Env} {s s1:Shared} {H:Hp} {E:XK} {us:List Value} {vs:List V}
  (S:FnScope N ps scope) (hd:A.handled=none) (e0:Env0 P w K mg base A outer s H) (hl:vs.length=ps.length) (r:Vals vs us)
  (x:InCallC s s.heap.objs.size (bindL (envOfC qual scope s.heap.objs.size f cd).kindOf (ps.zip us) fun _=>none) (cellsFrom (s.heap.objs.size+1) scope.names []) (bindC (envOfC qual scope s.heap.objs.size f cd).kindOf (ps.zip us) fun _=>none) s1) :
  Inv (cxOf CX P w K mg base N qual scope f cd A outer s H E) [] (start N vs) H s1:=by
 have hpl:ps.length≤N.length:=by have:=congrArg List.length S.pre;rw [List.length_take] at this;omega
 obtain ⟨h1,tk,rfl,hk⟩:=x.done
 have noA:∀ b:Addr,b ∉ (cxOf CX P w K mg base N qual scope f cd A outer s H E).ex:=fun b z=>absurd (show b ∈ ([]:List Addr) from z) (by simp)
 refine ⟨⟨e0.mod,S.kind,rfl,rfl,Nat.le_refl _,fun y z c h1 h2=>?_,fun y hy=>?_,fun y c _ h=>?_,fun _=>hd,Around.frames_deeper e0.frames,.inr ⟨rfl,rfl⟩,fun b z=>absurd z (noA b),e0.bs,e0.bsz,fun b _ _=>noA b,fun b z=>absurd z (noA b),e0.funs,e0.frf⟩,
  rfl,e0.bare,Un.kept hk,⟨_,x.toInCall.ns,fun i y v h1 h2 h3=>?_⟩,fun y c h=>⟨_,x.cell y c h⟩,e0.hok.fresh (Nat.le_refl _),fun y c h=>?_,fun p hp=>absurd (show p ∈ ([]:List (Addr × Obj)) from hp) (by simp),e0.hok.kept hk,?_⟩
 ·exact name_of_addr x.apart (PySem.mem_of_lookup h1) (PySem.mem_of_lookup h2)
 ·have hy:scope.names.lookup y=some .cell∨scope.names.lookup y=some .free:=hy
  rcases hy with hy | hy
  ·exact cell_has hy
  ·exact absurd rfl (S.nofree _ (PySem.mem_of_lookup hy))
 ·exact Nat.le_of_lt (x.above y c (PySem.mem_of_lookup h))
 ·have hi:i<vs.length:=by
   unfold start at h2
   by_cases hi:i<vs.length
   ·exact hi
   ·rw [List.getElem?_append_right (by simpa using hi)] at h2
    rw [List.getElem?_replicate] at h2
    split at h2 <;> cases h2
  have ha:vs[i]?=some v:=by
   unfold start at h2
   rw [List.getElem?_append_left (by simpa using hi),List.getElem?_map] at h2
   cases e:vs[i]? with
   | none=>rw [e] at h2;cases h2
   | some a=>rw [e] at h2;cases h2;rfl
  obtain ⟨u,hu,rv⟩:=r.get ha
  have hp:ps[i]?=some y:=by
   rw [← S.pre,List.getElem?_take_of_lt (by omega)];exact h1
  have ndP:ps.Nodup:=by rw [← S.pre];exact S.nd.sublist (List.take_sublist _ _)
  refine ⟨u,rv,?_⟩
  rcases S.par y (List.mem_of_getElem? hp) with k | k
  ·exact .inl ⟨k,bindL_get ndP hp hu k⟩
  ·obtain ⟨c,e⟩:=cell_has (n:=s.heap.objs.size+1) k
   refine .inr ⟨.inl k,c,e,?_⟩
   have q:=x.cell y c e
   rw [bindC_get ndP hp hu (by show scope.names.lookup y ≠ _;rw [k];decide)] at q
   exact q
 ·exact e0.hok.fresh (Nat.le_of_lt (x.above y c (PySem.mem_of_lookup h)))
 ·unfold start
  show _=N.length
  rw [List.length_append,List.length_map,List.length_replicate]
  omega
theorem fn_of {CX:CXT} {P:Program} {w:World} {K:PySem.W.Frag} {mg:Str→Option Value} {base:Heap} {k:Nat} {f:Addr} {name qual:Str} {params:Arguments} {body:List Stmt} {scope:Scope} {dV kV doc pm cdv ct oc:Value} {an od:Option Addr}
  {osl:Array (Option Value)} {N ps:List Str} {sp:Sp} (lk:K.lookup f=some ⟨oc,od,.func (PySem.W.fnOf name qual params body scope dV kV doc pm an cdv ct),osl⟩) (hcd:PySem.W.codeIn K cdv qual=true) (S:FnScope N ps scope)
  (len:∀ vs H Q E,sp vs H Q E→vs.length=ps.length)
  (hbody:∀ (A:Around) (outer:List Env) (s:Shared) (H:Hp) (vs:List V) (Q:VK) (E:XK),Room k (A.deeper (envOfC qual scope s.heap.objs.size f cdv))→sp vs H Q E→
   ∃ t,PSs (cxOf CX P w K mg base N qual scope f cdv A outer s H E) body t∧t { nx:=fun _ H'=>Q .non H',rt:=Q } (start N vs) H) :
  FnOk P w K mg base CX (k+1) f (PySem.W.fnOf name qual params body scope dV kV doc pm an cdv ct) ps sp:=by
 refine ⟨len,fun A outer s H args us vs Q E hr e0 hb r hsp=>?_⟩
 have hl:=len _ _ _ _ hsp
 have KX:K.In s.heap:=e0.mod.kin.keeps fun b o e=>(e0.bs b o e).1
 have lim:s.heap.NoLimit:=e0.mod.nolimit.keeps fun b o e=>(e0.bs b o e).1
 have hkind:∀ y ∈ ps.zip us,scope.names.lookup y.1=some .local∨(scope.names.lookup y.1=some .cell∧((cellsFrom (s.heap.objs.size+1) scope.names []).lookup y.1).isSome=true):=fun ⟨n,v⟩ hy=>by
  rcases S.par n (List.of_mem_zip hy).1 with q | q
  ·exact .inl q
  ·exact .inr ⟨q,PySem.W.cellsFrom_some _ _ _ (.inl q)⟩
 refine codeAny_call_function hr.depth (KX _ _ lk) rfl S.co S.gen rfl (PySem.W.codeRec_of KX hcd) (hb _ _ _ _ ?_)
 refine wpAny_newFunctionEnv_cells S.kind hkind fun env he s1 x=>?_
 subst he
 refine ⟨lim.keeps x.toInCall.keep,codeAny_func ?_⟩
 obtain ⟨t,ht,hq⟩:=hbody A outer s H vs Q E (hr.deeper _) hsp
 have I:Inv (cxOf CX P w K mg base N qual scope f cdv A outer s H E) [] (start N vs) H s1:=inv_start S hr.hd e0 hl r x
 refine wpAny_mono (ht [] s1 (start N vs) H _ I hq) (fun fl s' hs=>?_) fun e s' hs=>hs
 have fin:∀ {σ':St} {H':Hp} {v:V} {u:Value},Inv (cxOf CX P w K mg base N qual scope f cdv A outer s H E) [] σ' H' s'→RelV v u→Q v H'→CE outer P w H s Q u s':=
  fun {σ' H' v u} J rv q=>⟨v,H',J.os,J.bare,J.base,J.hok,rv,q⟩
 cases fl with
 | ret u=>
  obtain ⟨v,σ',H',J,rv,q⟩:=hs
  exact fin J rv q
 | next=>
  obtain ⟨σ',H',J,q⟩:=hs
  exact fin (v:=V.non) (u:=Value.none) J rfl q
 | brk=>
  obtain ⟨_,_,_,q⟩:=hs
  exact False.elim q
 | cont=>
  obtain ⟨_,_,_,q⟩:=hs
  exact False.elim q
end L2
namespace L2
open PySem PySem.Spec PyProof.Rows
section
variable {X:Cx} {x:Str} {p pos:Pos} {e:Expr} {es:List Expr} {t:TA} {id T:String} {r:List V→Hp→VK→Prop}
def tCB (r:List V→Hp→VK→Prop) (t:TA):TE:=fun σ H Q=>t σ H fun vs H1=>r vs H1 Q
theorem pe_callB (hc:CallR X (.builtin id) r) (hg:Gl X x) (hm:X.mg x=none) (hv:bootBuiltins x=some (.builtin id)) (ha:PA X (e::es) t) (hn:x ≠ "__name__":=by decide) (hdb:(x == ("__debug__" : Str))=false:=by decide)
  (he:starEach (e::es) X.env=(false,eval e X.env)::starEach es X.env:=by rfl) (hpl:(backTo pos (starEach es X.env)).any (·.1)=false:=by rfl):PE X (.Call (.Name x p) (e::es) [] pos) (tCB r t):=by
 intro pins s σ H Q I h
 refine wpAny_Call_Name_kw (ld_blt I hg hm hv ?_ hn hdb)
 exact PyProof.Rows.callWith_builtin1 (thn (ha pos pins s σ H _ I h) fun us s1 ⟨vs,H1,I1,r1,q1⟩=>hc pins s1 σ H1 vs us Q I1 r1 q1) he hpl
theorem pe_callTy (hc:CallR X (.type T) r) (hg:Gl X x) (hm:X.mg x=none) (hv:bootBuiltins x=some (.type T)) (ha:PA X (e::es) t) (hn:x ≠ "__name__":=by decide) (hdb:(x == ("__debug__" : Str))=false:=by decide)
  (he:starEach (e::es) X.env=(false,eval e X.env)::starEach es X.env:=by rfl) (hpl:(backTo pos (starEach es X.env)).any (·.1)=false:=by rfl):PE X (.Call (.Name x p) (e::es) [] pos) (tCB r t):=by
 intro pins s σ H Q I h
 refine wpAny_Call_Name_kw (ld_blt I hg hm hv ?_ hn hdb)
 exact PyProof.Rows.callWith_type1 (thn (ha pos pins s σ H _ I h) fun us s1 ⟨vs,H1,I1,r1,q1⟩=>hc pins s1 σ H1 vs us Q I1 r1 q1) he hpl
end
end L2
namespace HT
open PySem PyProof.Rows
section
open PySem.SeqAt
open PySem.AutoSeq1 (wpAny_loadPart')
open PySem.MeetsSeq PySem.MeetsSeq2 PySem.MeetsSeq3
end
section
variable {prog:Program} {w:World} {A:Around} {E:Value→Shared→Prop} {s:Shared}
theorem cat_tup {t b:Addr} {vs ws:List Value} {Q:Value→Shared→Prop} (ht:IsTup s.heap t vs.toArray) (hb:IsTup s.heap b ws.toArray) (hv:vs ≠ [])
  (h1:ws=[]→Q (.ref t) s) (h2:ws ≠ []→Q (.ref s.heap.objs.size) { s with heap:=s.heap.push { cls:=.type "tuple",data:=.seq (vs++ws).toArray } })
  (hsz:vs.length+ws.length≤sizeLine):wpAny (model prog w) A (binaryOp .Add (.ref t) (.ref b)) Q E s:=by
 obtain ⟨⟨cls,dd,data,sl⟩,ho,hc,n,hd⟩:=id ht
 obtain ⟨⟨cls2,dd2,data2,sl2⟩,ho2,hc2,n2,hd2⟩:=id hb
 simp only at hc hd hc2 hd2
 subst hc hd hc2 hd2
 have e:vs.toArray++ws.toArray=(vs++ws).toArray:=by simp
 by_cases hw:ws=[]
 ·exact concat_meets ⟨_,ho,rfl⟩ ⟨_,ho2,rfl⟩ noFill_tuple_add seq_tuple_add PySem.F.slot_tuple_add PySem.F.entry_tuple_add (PySem.F.args_tuple_add_2 _ _)
   (tuple_addW1 t b vs.toArray ws.toArray n n2 dd dd2 sl sl2 (by simpa using hv) (by simp [hw])) ⟨ho,ho2,h1 hw⟩
 ·refine concat_meets ⟨_,ho,rfl⟩ ⟨_,ho2,rfl⟩ noFill_tuple_add seq_tuple_add PySem.F.slot_tuple_add PySem.F.entry_tuple_add (PySem.F.args_tuple_add_2 _ _)
   (tuple_addW2 t b vs.toArray ws.toArray n n2 dd dd2 sl sl2 (by simpa using hv) (by simpa using hw) (by rw [List.size_toArray,List.size_toArray];exact hsz)) ⟨ho,ho2,?_⟩
  rw [e]
  exact h2 hw
def sIx (n d:Nat):Option Int→Nat
 | none=>d
 | some v=>if v<0 then (v+(n:Int)).toNat else min v.toNat n
end
end HT
namespace L2
open PySem PySem.Spec PyProof.Rows
abbrev TO:=St→Hp→(Option Int→Hp→Prop)→Prop
def PO (X:Cx) (e:Option Expr) (t:TO):Prop:=
 ∀ (pins:List (Addr × Obj)) (s:Shared) (σ:St) (H:Hp) (Q:Option Int→Hp→Prop),Inv X pins σ H s→t σ H Q→
  wpAny (model X.prog X.w) X.A (evalPart e X.env) (fun u s'=>∃ o H',Inv X pins σ H' s'∧IsPart u o∧Q o H') X.xe s
def tNoPart:TO:=fun _ H Q=>Q none H
def tPart (t:TE):TO:=fun σ H Q=>t σ H fun x H1=>∃ i,x=.int i∧Q (some i) H1
section
variable {X:Cx} {e:Expr} {te:TE} {lo hi:Option Expr} {tl th:TO} {pos p2:Pos}
theorem po_none:PO X none tNoPart:=by
 intro pins s σ H Q I h
 rw [evalPart_none]
 exact wpAny_pure ⟨none,H,I,.none,h⟩
theorem po_some (h:PE X e te):PO X (some e) (tPart te):=by
 intro pins s σ H Q I hw
 rw [evalPart_some]
 refine thn (h pins s σ H _ I hw) fun u s1 ⟨x,H1,I1,r1,q1⟩=>?_
 obtain ⟨i,rfl,q⟩:=q1
 obtain ⟨t,rfl⟩:=r1
 exact ⟨some i,H1,I1,.int i t,q⟩
def SlR (X:Cx) (r:V→Option Int→Option Int→Hp→VK→Prop):Prop:=
 ∀ (pins:List (Addr × Obj)) (s:Shared) (σ:St) (H:Hp) (x:V) (v vl vu:Value) (lo hi:Option Int) (sl:Addr) (Q:VK),Inv X pins σ H s→RelV x v→s.heap.IsSliceOf sl vl vu .none→IsPart vl lo→IsPart vu hi→r x lo hi H Q→
  ∃ T id,typeLookup (.type T) "__getitem__" = pure (some (.builtin id))∧s.TypeIs v T∧wpAny (model X.prog X.w) X.A (getItem v (.ref sl)) (EP X pins σ Q) X.xe s
def tSl (r:V→Option Int→Option Int→Hp→VK→Prop) (te:TE) (tl th:TO):TE:=fun σ H Q=>te σ H fun x H1=>tl σ H1 fun l H2=>th σ H2 fun u H3=>r x l u H3 Q
theorem pe_slice {r:V→Option Int→Option Int→Hp→VK→Prop} (hr:SlR X r) (he:PE X e te) (hl:PO X lo tl) (hu:PO X hi th):PE X (.Subscript e (.Slice lo hi none p2) pos) (tSl r te tl th):=by
 intro pins s σ H Q I h
 refine Subscript_ (thn (he pins s σ H _ I h) fun v s1 ⟨x,H1,I1,r1,q1⟩=>?_)
 refine wpAny_Slice (thn (hl pins s1 σ H1 _ I1 q1) fun vl s2 ⟨l,H2,I2,pl,q2⟩=>thn (hu pins s2 σ H2 _ I2 q2) fun vu s3 ⟨u,H3,I3,pu,q3⟩=>?_)
 rw [evalPart_none]
 refine wpAny_pure ?_
 have I4:Inv X pins σ H3 { s3 with heap:=s3.heap.push { cls:=.type "slice",data:=.fields #[vl,vu,.none] } }:=I3.kept (t':=s3.toks) fun b ob q=>Heap.get?_push_of_some _ q
 obtain ⟨T,id,hT,ht,hg⟩:=hr pins { s3 with heap:=s3.heap.push { cls:=.type "slice",data:=.fields #[vl,vu,.none] } } σ H3 x v vl vu l u s3.heap.objs.size Q I4 r1 (Heap.IsSliceOf.new ..) pl pu q3
 show wpAny (model X.prog X.w) X.A (subscriptTail e (.Slice lo hi none p2) v (.ref s3.heap.objs.size)) (EP X pins σ Q) X.xe { s3 with heap:=s3.heap.push { cls:=.type "slice",data:=.fields #[vl,vu,.none] } }
 exact tail_any (ops:=[.ref s3.heap.objs.size,v]) ht hT hg (by with_unfolding_all rfl)
def cutV (xs:List V) (lo hi:Option Int):List V:=(xs.drop (HT.sIx xs.length 0 lo)).take (HT.sIx xs.length xs.length hi - HT.sIx xs.length 0 lo)
theorem cutV_length (xs:List V) (lo hi:Option Int):(cutV xs lo hi).length≤xs.length:=by
 unfold cutV
 rw [List.length_take,List.length_drop]
 omega
def rCatT (K:PySem.W.Frag):R2:=fun x y H Q=>∃ a b xs ys,x=.ref a∧y=.ref b∧SqT K H a xs∧SqT K H b ys∧xs ≠ []∧xs.length+ys.length≤sizeLine∧
 (ys=[]→Q (.ref a) H)∧(ys ≠ []→∀ p,H p=none→Q (.ref p) (upd H p (.tup (xs++ys))))
theorem Vals.nil_iff {xs:List V} {us:List Value} (r:Vals xs us):us=[] ↔ xs=[]:=by
 cases r with
 | nil=>simp
 | cons _ _=>simp
theorem op_catT:OpR X (binaryOp .Add) (rCatT X.K):=by
 intro pins s σ H x y v u Q I rx ry h
 obtain ⟨a,b,xs,ys,rfl,rfl,ha,hb,hx,hz,q1,q2⟩:=h
 cases rx
 cases ry
 obtain ⟨its,r1,p1,_⟩:=I.tuple ha
 obtain ⟨its2,r2,p2,_⟩:=I.tuple hb
 refine HT.cat_tup p1 p2 (fun z=>hx (r1.nil_iff.mp z)) (fun z=>⟨.ref a,H,I,rfl,q1 (r2.nil_iff.mp z)⟩) (fun z=>?_) (by rw [← r1.length,← r2.length];exact hz)
 refine ⟨.ref s.heap.objs.size,_,I.laid (t':=s.toks) (o:=.tup (xs++ys)) (fun b ob q=>Heap.get?_push_of_some _ q) (Nat.le_refl _) ?_,rfl,q2 (fun w=>z (r2.nil_iff.mpr w)) _ (I.hok.fresh (Nat.le_refl _))⟩
 exact ⟨by rw [List.length_append];exact hz,_,r1.append r2,IsTup.new _ _⟩
end
end L2
namespace L2
open PySem PySem.Spec PyProof.Rows
def ixN (n:Nat) (i:Int):Option Nat:=if 0≤i then (if i<n then some i.toNat else none) else if -(n:Int)≤i then some (i+n).toNat else none
def atI {α:Type} (xs:List α) (i:Int):Option α:=(ixN xs.length i).bind fun j=>xs[j]?
theorem ixN_seq {n:Nat} {i:Int} {j:Nat} (h:ixN n i=some j):seqIndex? i n=some j∧j<n∧-(n:Int)≤i∧i<n:=by
 unfold ixN at h
 by_cases h0:0≤i
 ·rw [if_pos h0] at h
  by_cases h1:i<n
  ·rw [if_pos h1] at h
   have e:i.toNat=j:=Option.some.inj h
   exact ⟨by rw [seqIndex_of h0 h1,e],by omega,by omega,h1⟩
  ·rw [if_neg h1] at h;cases h
 ·rw [if_neg h0] at h
  by_cases h1:-(n:Int)≤i
  ·rw [if_pos h1] at h
   have e:(i+n).toNat=j:=Option.some.inj h
   exact ⟨by rw [seqIndex_neg (by omega) h1,e],by omega,h1,by omega⟩
  ·rw [if_neg h1] at h;cases h
theorem atI_get {α:Type} {xs:List α} {i:Int} {v:α} (h:atI xs i=some v):∃ j,seqIndex? i xs.length=some j∧xs[j]?=some v∧j<xs.length∧-(xs.length:Int)≤i∧i<xs.length:=by
 unfold atI at h
 cases e:ixN xs.length i with
 | none=>rw [e] at h;cases h
 | some j=>
  rw [e] at h
  obtain ⟨h1,h2,h3,h4⟩:=ixN_seq e
  exact ⟨j,h1,h,h2,h3,h4⟩
theorem atI_nat {α:Type} {xs:List α} {j:Nat} {v:α} (h:xs[j]?=some v):atI xs (j:Int)=some v:=by
 have hj:j<xs.length:=(List.getElem?_eq_some_iff.mp h).1
 have e:ixN xs.length (j:Int)=some j:=by
  unfold ixN
  rw [if_pos (by omega),if_pos (by omega)];simp
 unfold atI;rw [e];exact h
def PlainIx (b:Expr):Prop:=∀ o i,subscripted b false o i=operate [o,i] (getItem o i)
def IxR (X:Cx) (r:R2):Prop:=
 ∀ (value slice:Expr) (pins:List (Addr × Obj)) (s:Shared) (σ:St) (H:Hp) (x y:V) (v u:Value) (Q:VK),Inv X pins σ H s→RelV x v→RelV y u→r x y H Q→
  subscripted slice false v u=operate [v,u] (getItem v u)→wpAny (model X.prog X.w) X.A (subscriptTail value slice v u) (EP X pins σ Q) X.xe s
def MtR (X:Cx) (id:String) (r:V→List V→Hp→VK→Prop):Prop:=
 ∀ (pins:List (Addr × Obj)) (s:Shared) (σ:St) (H:Hp) (x:V) (xs:List V) (v:Value) (us:List Value) (Q:VK),Inv X pins σ H s→RelV x v→Vals xs us→r x xs H Q→
  wpAny (model X.prog X.w) X.A (call (.builtin id) (v::us)) (EP X pins σ Q) X.xe s
section
variable {X:Cx} {a b:Expr} {ta tb:TE} {pos:Pos}
theorem pe_ix {r:R2} (hr:IxR X r) (ha:PE X a ta) (hb:PE X b tb) (hs:PlainIx b):PE X (.Subscript a b pos) (tOp r ta tb):=by
 intro pins s σ H Q I h
 exact Subscript_ (binT ha hb I h fun v u s2 x y H2 I2 rx ry q=>hr a b pins s2 σ H2 x y v u Q I2 rx ry q (hs _ _))
def rIxL (K:PySem.W.Frag):R2:=fun x y H Q=>∃ p xs i v,x=.ref p∧y=.int i∧SqL K H p xs∧atI xs i=some v∧Q v H
def rIxT (K:PySem.W.Frag):R2:=fun x y H Q=>∃ p xs i v,x=.ref p∧y=.int i∧SqT K H p xs∧atI xs i=some v∧Q v H
theorem ix_list:IxR X (rIxL X.K):=by
 intro value slice pins s σ H x y v u Q I rx ry h hs
 obtain ⟨p,xs,i,z,rfl,rfl,hq,he,q⟩:=h
 cases rx
 obtain ⟨t,rfl⟩:=ry
 obtain ⟨its,r,pl,hz⟩:=I.list hq
 obtain ⟨j,h1,h2,h3,h4,h5⟩:=atI_get he
 obtain ⟨w,ew,rw'⟩:=r.get h2
 have hl:=r.length
 have hn:=line63
 have fin:EP X pins σ Q w s:=⟨z,H,I,rw',q⟩
 by_cases h0:0≤i
 ·have hj:i.toNat=j:=by
   rw [seqIndex_of h0 h5] at h1
   exact Option.some.inj h1
  exact item_listR pl.isList h0 (by omega) (by rw [hj];simpa using ew) fin hs
 ·have hj:(i+(its.toArray.size:Int)).toNat=j:=by
   rw [seqIndex_neg (by omega) h4] at h1
   rw [List.size_toArray,← hl]
   exact Option.some.inj h1
  exact subscriptTail_builtinR (x:=w) pl.isList.typeIs slot_list_getitem.lookup
   (wpAny_getItem_list_neg (Q:=fun r s'=>r=w∧EP X pins σ Q r s') pl.isList (by omega) (by rw [List.size_toArray] <;> omega) (by omega) (by rw [hj];simpa using ew) ⟨rfl,fin⟩) hs
theorem ix_tup:IxR X (rIxT X.K):=by
 intro value slice pins s σ H x y v u Q I rx ry h hs
 obtain ⟨p,xs,i,z,rfl,rfl,hq,he,q⟩:=h
 cases rx
 obtain ⟨t,rfl⟩:=ry
 obtain ⟨its,r,pl,hz⟩:=I.tuple hq
 obtain ⟨j,h1,h2,h3,h4,h5⟩:=atI_get he
 obtain ⟨w,ew,rw'⟩:=r.get h2
 have hl:=r.length
 have hn:=line63
 have fin:EP X pins σ Q w s:=⟨z,H,I,rw',q⟩
 exact subscriptTail_builtinR (x:=w) pl.typeIs slot_tuple_getitem.lookup
  (getItem_tuple (j:=j) (Q:=fun r s'=>r=w∧EP X pins σ Q r s') pl (by omega) (by omega) (by rw [List.size_toArray,← hl];exact h1) (by simpa using ew) ⟨rfl,fin⟩) hs
theorem mapSeq_set (its:List Value) (n j:Nat) (u:Value):Obj.mapSeq (·.setIfInBounds j u) { cls:=.type "list",data:=.seq its.toArray n }={ cls:=.type "list",data:=.seq (its.set j u).toArray n }:=by
 simp [Obj.mapSeq]
theorem Inv.lst {pins:List (Addr × Obj)} {σ:St} {H:Hp} {s:Shared} {p:Addr} {xs:List V} (I:Inv X pins σ H s) (h:H p=some (.lst xs)) :
  ∃ (its:List Value) (n:Nat),Vals xs its∧s.heap.get? p=some { cls:=.type "list",data:=.seq its.toArray n }∧xs.length≤sizeLine:=by
 obtain ⟨z,its,n,r,e⟩:=I.hok p _ h
 exact ⟨its,n,r,e,z⟩
theorem Inv.lstUpd {pins:List (Addr × Obj)} {σ:St} {H:Hp} {s:Shared} {p:Addr} {xs ys:List V} {its its':List Value} {n n':Nat} {f:Obj→Obj} (I:Inv X pins σ H s) (h:H p=some (.lst xs))
  (ho:s.heap.get? p=some { cls:=.type "list",data:=.seq its.toArray n }) (hf:f { cls:=.type "list",data:=.seq its.toArray n }={ cls:=.type "list",data:=.seq its'.toArray n' }) (r:Vals ys its') (hz:ys.length≤sizeLine) (t:Nat) :
  Inv X pins σ (upd H p (.lst ys)) { s with heap:=s.heap.update p f,toks:=t }:=by
 have e:(s.heap.update p f).get? p=some { cls:=.type "list",data:=.seq its'.toArray n' }:=by
  rw [Heap.get?_update_self f ho (by rw [hf] <;> rfl),hf]
 refine I.write (x:=p) (e:=p) (by rw [h];trivial) (.inl rfl) (fun b u hb q=>(Heap.get?_update_other _ _ (Ne.symm hb)).trans q) ⟨_,e⟩ ?_
 exact ⟨hz,its',n',r,e⟩
def rSetL:V→V→V→Hp→(Hp→Prop)→Prop:=fun o i v H Q=>∃ p xs k j,o=.ref p∧i=.int k∧H p=some (.lst xs)∧ixN xs.length k=some j∧Q (upd H p (.lst (xs.set j v)))
theorem set_list:PSet X rSetL:=by
 intro pins s σ H o i v ov iv u Q I ro ri rv h
 obtain ⟨p,xs,k,j,rfl,rfl,hp,hj,q⟩:=h
 cases ro
 obtain ⟨t,rfl⟩:=ri
 obtain ⟨its,n,r,ho,hz⟩:=I.lst hp
 obtain ⟨h1,h2,h3,h4⟩:=ixN_seq hj
 have hl:=r.length
 have hn:=line63
 have I':Inv X pins σ (upd H p (.lst (xs.set j v))) { s with heap:=s.heap.update p (Obj.mapSeq (·.setIfInBounds j u)) }:=
  I.lstUpd hp ho (mapSeq_set its n j u) (r.set rv j) (by rw [List.length_set];exact hz) s.toks
 by_cases h0:0≤k
 ·have hk:k.toNat=j:=by
   rw [seqIndex_of h0 h4] at h1
   exact Option.some.inj h1
  exact PySem.W.ki_setAt ho h0 (by omega) (by rw [List.size_toArray,← hl];exact h4) (by rw [hk];exact ⟨_,I',q⟩)
 ·have hk:(k+(its.toArray.size:Int)).toNat=j:=by
   rw [seqIndex_neg (by omega) h3] at h1
   rw [List.size_toArray,← hl]
   exact Option.some.inj h1
  exact PySem.W.ki_setBack ho (by omega) (by rw [List.size_toArray,← hl];exact h3) (by omega) (by rw [hk];exact ⟨_,I',q⟩)
theorem slice_bounds (lo hi:Option Int) (n:Nat):(sliceBounds lo hi none n).1=((HT.sIx n 0 lo:Nat):Int)∧(sliceBounds lo hi none n).2.1=((HT.sIx n n hi:Nat):Int)∧(sliceBounds lo hi none n).2.2=1:=by
 refine ⟨?_,?_,rfl⟩
 ·cases lo with
  | none=>simp [sliceBounds,HT.sIx]
  | some i=>
   simp only [sliceBounds,HT.sIx,Option.getD_none,show (1:Int) > 0 by decide,if_true]
   by_cases h:i<0
   ·simp only [h,if_true] <;> omega
   ·simp only [h,if_false] <;> omega
 ·cases hi with
  | none=>simp [sliceBounds,HT.sIx]
  | some i=>
   simp only [sliceBounds,HT.sIx,Option.getD_none,show (1:Int) > 0 by decide,if_true]
   by_cases h:i<0
   ·simp only [h,if_true] <;> omega
   ·simp only [h,if_false] <;> omega
theorem slicePick_cut (its:List Value) (lo hi:Option Int):slicePick its.toArray lo hi none=((its.drop (HT.sIx its.length 0 lo)).take (HT.sIx its.length its.length hi - HT.sIx its.length 0 lo)).toArray:=by
 obtain ⟨h1,h2,h3⟩:=slice_bounds lo hi its.toArray.size
 unfold slicePick
 rw [h1,h2,h3]
 simp only [sliceRange_one,pick_run,List.size_toArray] <;> rfl
def rSlL (K:PySem.W.Frag):V→Option Int→Option Int→Hp→VK→Prop:=fun x lo hi H Q=>∃ a xs,x=.ref a∧SqL K H a xs∧∀ p,H p=none→Q (.ref p) (upd H p (.lst (cutV xs lo hi)))
theorem sl_list:SlR X (rSlL X.K):=by
 intro pins s σ H x v vl vu lo hi sl Q I rx hs pl pu h
 obtain ⟨a,xs,rfl,hx,q⟩:=h
 cases rx
 obtain ⟨its,r,ht,hz⟩:=I.list hx
 have hlen:=r.length
 refine ⟨"list",_,slot_list_getitem.lookup,ht.isList.typeIs,?_⟩
 refine wpAny_getItem_list_slice ht.isList hs pl pu .none (by simp) ?_ (by rw [List.size_toArray] <;> omega)
 rw [slicePick_cut,← hlen]
 refine ⟨.ref s.heap.objs.size,_,I.laid (t':=s.toks) (o:=.lst (cutV xs lo hi)) (fun b ob q=>Heap.get?_push_of_some _ q) (Nat.le_refl _) ?_,rfl,q _ (I.hok.fresh (Nat.le_refl _))⟩
 exact ⟨Nat.le_trans (cutV_length xs lo hi) hz,_,0,(r.drop (HT.sIx xs.length 0 lo)).take (HT.sIx xs.length xs.length hi - HT.sIx xs.length 0 lo),Heap.get?_push_size _ rfl⟩
def flatV:V→Bool
 | .non=>true
 | .bl _=>true
 | .int _=>true
 | .str _=>true
 | _=>false
def eqV:V→V→Bool
 | .non,.non=>true
 | .bl a,.bl b=>a == b
 | .bl a,.int b=>(if a then 1 else 0) == b
 | .int a,.bl b=>a == (if b then 1 else 0)
 | .int a,.int b=>a == b
 | .str a,.str b=>a == b
 | _,_=>false
theorem eqAt_V {A:Around} {s:Shared} {y x:V} {u v:Value} (ry:RelV y u) (rx:RelV x v) (fy:flatV y=true) (fx:flatV x=true):SeqAt.EqAt A s u v (eqV y x):=by
 cases y with
 | non=>
  cases ry
  cases x with
  | non=>cases rx;exact SeqAt.EqAt.same _
  | bl b=>cases rx;exact SeqAt.EqAt.none_bool b
  | int b=>obtain ⟨t,rfl⟩:=rx;exact SeqAt.EqAt.none_int b t
  | str b=>obtain ⟨t,rfl⟩:=rx;exact SeqAt.EqAt.none_str b t
  | _=>exact absurd (show false=true from fx) Bool.false_ne_true
 | bl a=>
  cases ry
  cases x with
  | non=>cases rx;exact SeqAt.EqAt.bool_none a
  | bl b=>cases rx;exact SeqAt.EqAt.bool_bool a b
  | int b=>obtain ⟨t,rfl⟩:=rx;exact SeqAt.EqAt.bool_int a b t
  | str b=>obtain ⟨t,rfl⟩:=rx;exact SeqAt.EqAt.bool_str a b t
  | _=>exact absurd (show false=true from fx) Bool.false_ne_true
 | int a=>
  obtain ⟨t',rfl⟩:=ry
  cases x with
  | non=>cases rx;exact SeqAt.EqAt.int_none a t'
  | bl b=>cases rx;exact SeqAt.EqAt.int_bool a t' b
  | int b=>obtain ⟨t,rfl⟩:=rx;exact SeqAt.EqAt.int_int a t' b t
  | str b=>obtain ⟨t,rfl⟩:=rx;exact SeqAt.EqAt.int_str a t' b t
  | _=>exact absurd (show false=true from fx) Bool.false_ne_true
 | str a=>
  obtain ⟨t',rfl⟩:=ry
  cases x with
  | non=>cases rx;exact SeqAt.EqAt.str_none a t'
  | bl b=>cases rx;exact SeqAt.EqAt.str_bool a t' b
  | int b=>obtain ⟨t,rfl⟩:=rx;exact SeqAt.EqAt.str_int a t' b t
  | str b=>obtain ⟨t,rfl⟩:=rx;exact SeqAt.EqAt.str_str a t' b t
  | _=>exact absurd (show false=true from fx) Bool.false_ne_true
 | _=>exact absurd (show false=true from fy) Bool.false_ne_true
def eqU (x:V) (u:Value):Bool:=match u with
 | .none=>eqV .non x
 | .bool b=>eqV (.bl b) x
 | .int i _=>eqV (.int i) x
 | .str z _=>eqV (.str z) x
 | _=>false
theorem eqU_of {x y:V} {u:Value} (r:RelV y u) (f:flatV y=true):eqU x u=eqV y x:=by
 cases y with
 | non=>cases r;rfl
 | bl b=>cases r;rfl
 | int i=>obtain ⟨t,rfl⟩:=r;rfl
 | str z=>obtain ⟨t,rfl⟩:=r;rfl
 | _=>exact absurd (show false=true from f) Bool.false_ne_true
theorem any_eqU {x:V}:∀ {xs:List V} {us:List Value},Vals xs us→xs.all flatV=true→us.any (eqU x)=xs.any fun y=>eqV y x
 | _,_,.nil,_=>rfl
 | y::xs,u::us,.cons r t,f=>by
  rw [List.all_cons,Bool.and_eq_true] at f
  rw [List.any_cons,List.any_cons,eqU_of r f.1,any_eqU t f.2]
theorem mem_eqAt {A:Around} {s:Shared} {x:V} {v:Value} (rx:RelV x v) (fx:flatV x=true):∀ {xs:List V} {us:List Value},Vals xs us→xs.all flatV=true→∀ u ∈ us,SeqAt.EqAt A s u v (eqU x u)
 | _,_,.nil,_=>fun u hu=>by cases hu
 | y::xs,u::us,.cons r t,f=>fun u' hu=>by
  rw [List.all_cons,Bool.and_eq_true] at f
  rcases List.mem_cons.mp hu with rfl | hu
  ·rw [eqU_of r f.1];exact eqAt_V r rx f.1 fx
  ·exact mem_eqAt rx fx t f.2 u' hu
def inV (x:V) (xs:List V):Bool:=xs.any fun y=>eqV y x
def rIn (K:PySem.W.Frag) (neg:Bool):R2:=fun x y H Q=>∃ p xs,y=.ref p∧(SqL K H p xs∨SqT K H p xs)∧flatV x=true∧xs.all flatV=true∧Q (.bl (if neg then !inV x xs else inV x xs)) H
theorem op_in_seq:OpR X (compareOp .In) (rIn X.K false):=by
 intro pins s σ H x y v u Q I rx ry h
 obtain ⟨p,xs,rfl,hq,fx,fs,q⟩:=h
 cases ry
 rcases hq with hq | hq
 ·obtain ⟨its,r,pl,hz⟩:=I.list hq
  refine SeqAt.in_listAt (eqU x) pl.isList (fun w hw=>mem_eqAt rx fx r fs w (by simpa using hw)) ⟨.bl _,H,I,rfl,?_⟩
  rw [show its.toArray.any (eqU x)=its.any (eqU x) by simp,any_eqU r fs]
  exact q
 ·obtain ⟨its,r,pl,hz⟩:=I.tuple hq
  refine SeqAt.in_tupleAt (eqU x) pl (fun w hw=>mem_eqAt rx fx r fs w (by simpa using hw)) ⟨.bl _,H,I,rfl,?_⟩
  rw [show its.toArray.any (eqU x)=its.any (eqU x) by simp,any_eqU r fs]
  exact q
theorem call_len_seq:CallR X (.builtin "len") (fun xs H Q=>∃ p ys,xs=[.ref p]∧(SqL X.K H p ys∨SqT X.K H p ys)∧Q (.int ys.length) H):=by
 intro pins s σ H xs us Q I r h
 obtain ⟨p,ys,rfl,hq,q⟩:=h
 obtain ⟨u,rfl,rx⟩:=vals1 r
 cases rx
 have hn:=line63
 rcases hq with hq | hq
 ·obtain ⟨its,r',pl,hz⟩:=I.list hq
  have hlen:=r'.length
  exact Calls.call_len_list pl.isList (by simp only [List.size_toArray] <;> omega) ⟨.int ys.length,H,I.tok _,⟨s.toks+1,by rw [List.size_toArray,hlen]⟩,q⟩
 ·obtain ⟨its,r',pl,hz⟩:=I.tuple hq
  have hlen:=r'.length
  exact len_tuple pl (by simp only [List.size_toArray] <;> omega) ⟨.int ys.length,H,I.tok _,⟨s.toks+1,by rw [List.size_toArray,hlen]⟩,q⟩
theorem call_list_of:CallR X (.type "list") (fun xs H Q=>∃ p ys,xs=[.ref p]∧(SqL X.K H p ys∨SqT X.K H p ys)∧∀ l,H l=none→Q (.ref l) (upd H l (.lst ys))):=by
 intro pins s σ H xs us Q I r h
 obtain ⟨p,ys,rfl,hq,q⟩:=h
 obtain ⟨u,rfl,rx⟩:=vals1 r
 cases rx
 have fin:∀ (its:List Value),Vals ys its→ys.length≤sizeLine→∀ (h':Heap) (c':Nat),(∀ b o',s.heap.get? b=some o'→h'.get? b=some o')→
   h'.get? s.heap.objs.size=some { cls:=.type "list",dict:=none,data:=.seq its.toArray c',slots:=#[] }→EP X pins σ Q (.ref s.heap.objs.size) { s with heap:=h' }:=fun its r' hz h' c' kp e=>
  ⟨.ref s.heap.objs.size,_,I.laid (t':=s.toks) kp (Nat.le_refl _) (show ObjOk X.prog X.w _ h' _ (.lst ys) from ⟨hz,its,c',r',e⟩),rfl,q _ (I.hok.fresh (Nat.le_refl _))⟩
 rcases hq with hq | hq
 ·obtain ⟨its,r',pl,hz⟩:=I.list hq
  have hlen:=r'.length
  obtain ⟨o,ho,hc,n,hd⟩:=pl.isList
  exact call_list_seq p (.inl rfl) ho hc hd (fun h' c' kp e=>fin its r' hz h' c' kp e) (by simp only [List.size_toArray] <;> omega)
 ·obtain ⟨its,r',pl,hz⟩:=I.tuple hq
  have hlen:=r'.length
  obtain ⟨o,ho,hc,n,hd⟩:=pl
  exact call_list_seq p (.inr rfl) ho hc hd (fun h' c' kp e=>fin its r' hz h' c' kp e) (by simp only [List.size_toArray] <;> omega)
theorem call_tuple_of:CallR X (.type "tuple") (fun xs H Q=>∃ p ys,xs=[.ref p]∧((SqL X.K H p ys∧∀ l,H l=none→Q (.ref l) (upd H l (.tup ys)))∨(SqT X.K H p ys∧Q (.ref p) H))):=by
 intro pins s σ H xs us Q I r h
 obtain ⟨p,ys,rfl,h⟩:=h
 obtain ⟨u,rfl,rx⟩:=vals1 r
 cases rx
 rcases h with ⟨hq,q⟩ | ⟨hq,q⟩
 ·obtain ⟨its,r',pl,hz⟩:=I.list hq
  have hlen:=r'.length
  refine call_tuple_list pl.isList (fun h' kp=>?_) (by simp only [List.size_toArray] <;> omega)
  have I1:Inv X pins σ H { s with heap:=h' }:=I.kept (t':=s.toks) kp
  have I2:Inv X pins σ (upd H h'.objs.size (.tup ys)) { s with heap:=h'.push { cls:=.type "tuple",data:=.seq its.toArray } }:=
   I1.laid (t':=s.toks) (fun b o e=>Heap.get?_push_of_some _ e) (Nat.le_refl _) (show ObjOk X.prog X.w _ _ _ (.tup ys) from ⟨hz,its,r',IsTup.new _ _⟩)
  exact ⟨.ref h'.objs.size,_,I2,rfl,q _ (I1.hok.fresh (Nat.le_refl _))⟩
 ·obtain ⟨its,r',pl,hz⟩:=I.tuple hq
  exact call_tuple_same pl ⟨.ref p,H,I,rfl,q⟩
def tyV (K:PySem.W.Frag) (T:String) (x:V) (H:Hp):Prop:=match x with
 | .str _=>T = "str"
 | .int _=>T = "int"
 | .ref p=>(T = "list"∧∃ xs,SqL K H p xs)∨(T = "tuple"∧∃ o,K.lookup p=some o∧o.cls=.type "tuple"∧o.dict=none)∨
   (T = "dict"∧((∃ kvs,H p=some (.dK kvs))∨∃ kvs,H p=some (.dT kvs)))∨(T = "set"∧∃ S n,H p=some (.set S n))
 | _=>False
theorem tyV_is {pins:List (Addr × Obj)} {σ:St} {H:Hp} {s:Shared} {T:String} {x:V} {v:Value} (I:Inv X pins σ H s) (r:RelV x v) (ty:tyV X.K T x H) :
  s.TypeIs v T∧∀ a,v=.ref a→∃ ob,s.heap.get? a=some ob∧ob.dict=none:=by
 cases x with
 | str z=>
  obtain ⟨t,rfl⟩:=r
  cases (show T = "str" from ty)
  exact ⟨typeIs_str s z t,fun _ e=>nomatch e⟩
 | int i=>
  obtain ⟨t,rfl⟩:=r
  cases (show T = "int" from ty)
  exact ⟨typeIs_int s i t,fun _ e=>nomatch e⟩
 | ref p=>
  cases r
  rcases ty with ⟨rfl,xs,hq⟩ | ⟨rfl,o,hk,hc,hd⟩ | ⟨rfl,hk⟩ | ⟨rfl,S,n,hk⟩
  ·obtain ⟨its,_,pl,_⟩:=I.list hq
   refine ⟨pl.isList.typeIs,fun a e=>?_⟩
   cases e
   obtain ⟨o,n,e,c,hd,_⟩:=pl
   exact ⟨o,e,hd⟩
  ·refine ⟨⟨o,I.kIn p o hk,hc⟩,fun a e=>?_⟩
   cases e
   exact ⟨o,I.kIn _ o hk,hd⟩
  ·have z:∃ o,s.heap.get? p=some o∧o.ExactDict:=by
    rcases hk with ⟨kvs,hk⟩ | ⟨kvs,hk⟩
    ·obtain ⟨_,_,_,_,o,_,_,e,ex,_⟩:=I.hok p _ hk
     exact ⟨o,e,ex⟩
    ·obtain ⟨_,_,_,_,o,_,_,e,ex,_⟩:=I.hok p _ hk
     exact ⟨o,e,ex⟩
   obtain ⟨o,e,ex⟩:=z
   refine ⟨⟨o,e,ex.1⟩,fun a e2=>?_⟩
   cases e2
   exact ⟨o,e,ex.2.1⟩
  ·obtain ⟨o,_,_,_,e,ex,_⟩:=I.hok p _ hk
   refine ⟨⟨o,e,ex.1⟩,fun a e2=>?_⟩
   cases e2
   exact ⟨o,e,ex.2.1⟩
 | _=>exact False.elim ty
def tBM (K:PySem.W.Frag) (T:String) (r:V→List V→Hp→VK→Prop) (to:TE) (t:TA):TE:=fun σ H Q=>to σ H fun x H1=>tyV K T x H1∧t σ H1 fun xs H2=>r x xs H2 Q
variable {o e:Expr} {es:List Expr} {to:TE} {t:TA} {name:Str} {apos cpos:Pos} {T id:String} {r:V→List V→Hp→VK→Prop}
theorem pe_bm (pa:PlainAttrs T) (slot:Slot T name id) (hty:typeOf (.builtin id)=pure (.type "method_descriptor")) (hm:MtR X id r) (ho:PE X o to) (ha:PA X (e::es) t)
  (hbase:attributeBase o name X.env (eval o X.env)=eval o X.env:=by rfl)
  (hfew:((backTo cpos (starEach (e::es) X.env)).all (fun x=>!x.1) && (backToKw cpos (keywordEach [] X.env)).all (fun x=>x.1.isSome)
   && decide ((e::es).length+([]:List Keyword).length+(if ([]:List Keyword).isEmpty then 0 else 1)<30))=true:=by rfl)
  (hline:(apos.endLine == cpos.line)=true:=by rfl) (hs:starEach (e::es) X.env=(false,eval e X.env)::starEach es X.env:=by rfl) (hplain:(backTo cpos (starEach es X.env)).any (·.1)=false:=by rfl) :
  PE X (.Call (.Attribute o name apos) (e::es) [] cpos) (tBM X.K T r to t):=by
 intro pins s σ H Q I h
 refine wpAny_Call_method_late hbase hfew hline rfl (thn (ho pins s σ H _ I h) fun v s1 ⟨x,H1,I1,r1,ty,q1⟩=>?_)
 obtain ⟨h1,h2⟩:=tyV_is I1 r1 ty
 refine ⟨T,id,pa,slot,hty,h1,h2,?_⟩
 have hA:=ha cpos pins s1 σ H1 _ I1 q1
 rw [hs] at hA ⊢
 refine Calls.callWith_builtin (by show (false || (backTo cpos (starEach es X.env)).any (·.1))=false;rw [hplain] <;> rfl) (Calls.evalArgs_plain ?_)
 exact thn hA fun us s2 ⟨vs,H2,I2,r2,q2⟩=>hm pins s2 σ H2 x vs v us Q I2 r1 r2 q2
end
end L2
namespace L2
open PySem PySem.Spec PyProof.Rows
def MtM (X:Cx) (id:String) (r:V→List V→Hp→VK→Prop):Prop:=
 ∀ (pins:List (Addr × Obj)) (s:Shared) (σ:St) (H:Hp) (x:V) (xs:List V) (v:Value) (us:List Value) (Q:VK),Inv X pins σ H s→RelV x v→Vals xs us→r x xs H Q→
  wpAny (model X.prog X.w) X.A (call (.builtin id) (v::us)) (EP X pins σ Q) X.xe s
theorem Vals.one:∀ {x:V} {us:List Value},Vals [x] us→∃ u,us=[u]∧RelV x u
 | _,_,.cons r .nil=>⟨_,rfl,r⟩
theorem Vals.rep {xs:List V} {us:List Value} (h:Vals xs us):∀ k:Nat,Vals (List.replicate k xs).flatten (List.replicate k us).flatten
 | 0=>.nil
 | k+1=>by
  rw [List.replicate_succ,List.replicate_succ,List.flatten_cons,List.flatten_cons]
  exact Vals.append h (Vals.rep h k)
theorem foldl_rep (its:List Value):∀ (k:Nat) (acc:List Value),
  List.foldl (fun x1 x2=>x1++x2) acc.toArray (List.replicate k its.toArray)=(acc++(List.replicate k its).flatten).toArray
 | 0,acc=>by simp
 | k+1,acc=>by
  have e:acc.toArray++its.toArray=(acc++its).toArray:=by simp
  have e2:(acc++its)++(List.replicate k its).flatten=acc++(List.replicate (k+1) its).flatten:=by
   rw [List.replicate_succ,List.flatten_cons,List.append_assoc]
  rw [← e2,← foldl_rep its k (acc++its),← e,List.replicate_succ,List.foldl_cons]
section
variable {X:Cx} {pins:List (Addr × Obj)} {σ:St} {H:Hp} {s:Shared} {l b:Addr} {xs ys zs:List V}
theorem Inv.lset {its its':List Value} {n:Nat} {f:Array Value→Array Value} {t':Nat} (I:Inv X pins σ H s) (hH:H l=some (.lst xs))
  (e:s.heap.get? l=some { cls:=.type "list",data:=.seq its.toArray n }) (hf:f its.toArray=its'.toArray) (hv:Vals ys its') (hz:ys.length≤sizeLine) :
  Inv X pins σ (upd H l (.lst ys)) { s with heap:=s.heap.update l (Obj.mapSeq f),toks:=t' }:=by
 have q:=PySem.IsL.update e f
 rw [hf] at q
 refine I.write (x:=l) (e:=l) (by rw [hH];exact trivial) (.inl rfl) (fun b' u hb hu=>(Heap.get?_update_other s.heap (Obj.mapSeq f) (Ne.symm hb)).trans hu) ⟨_,q⟩ ?_
 exact ⟨hz,its',_,hv,q⟩
theorem Inv.lnew {its:List Value} {t':Nat} (I:Inv X pins σ H s) (hv:Vals ys its) (hz:ys.length≤sizeLine) :
  Inv X pins σ (upd H s.heap.objs.size (.lst ys)) { s with heap:=s.heap.push { cls:=.type "list",data:=.seq its.toArray },toks:=t' }:=
 I.laid (fun _ _ q=>Heap.get?_push_of_some _ q) (Nat.le_refl _) ⟨hz,its,0,hv,Heap.get?_push_size _ rfl⟩
theorem Inv.fresh (I:Inv X pins σ H s):H s.heap.objs.size=none:=I.hok.fresh (Nat.le_refl _)
theorem Inv.lstM (I:Inv X pins σ H s) (hH:H l=some (.lst xs)):xs.length≤sizeLine∧∃ (its:List Value) (n:Nat),Vals xs its∧xs.length=its.length∧s.heap.get? l=some { cls:=.type "list",data:=.seq its.toArray n }:=by
 obtain ⟨z,its,n,r,e⟩:=I.hok l _ hH
 exact ⟨z,its,n,r,r.length,e⟩
theorem notLongL {n:Nat} (h:n≤sizeLine):Builtin.List.listTooLong n=false:=by
 unfold Builtin.List.listTooLong
 exact decide_eq_false (by omega)
end
section
variable {X:Cx}
def rAppend:V→List V→Hp→VK→Prop:=fun x vs H Q=>∃ l xs y,x=.ref l∧vs=[y]∧H l=some (.lst xs)∧xs.length<sizeLine∧Q .non (upd H l (.lst (xs++[y])))
theorem mt_append:MtM X "list.append" rAppend:=by
 intro pins s σ H x vs v us Q I rx rv h
 obtain ⟨l,xs,y,rfl,rfl,hH,hz,q⟩:=h
 cases rx
 obtain ⟨u,rfl,ru⟩:=rv.one
 obtain ⟨z,its,n,r,hl,e⟩:=I.lstM hH
 refine call_meets F.slot_list_append ⟨_,e,rfl⟩ F.entry_list_append (F.args_list_append_2 _ _) (PySem.list_append l its.toArray n u (by rw [List.size_toArray];omega)) ⟨e,?_⟩
 refine ⟨.non,_,I.lset (its':=its++[u]) hH e (by simp) (r.append (.cons ru .nil)) ?_,rfl,q⟩
 rw [List.length_append,List.length_singleton]
 omega
def rExtend:V→List V→Hp→VK→Prop:=fun x vs H Q=>∃ l b xs zs,x=.ref l∧vs=[.ref b]∧H l=some (.lst xs)∧H b=some (.lst zs)∧xs.length+zs.length≤sizeLine∧Q .non (upd H l (.lst (xs++zs)))
theorem mt_extend:MtM X "list.extend" rExtend:=by
 intro pins s σ H x vs v us Q I rx rv h
 obtain ⟨l,b,xs,zs,rfl,rfl,hH,hB,hz,q⟩:=h
 cases rx
 obtain ⟨u,rfl,ru⟩:=rv.one
 cases ru
 obtain ⟨z,its,n,r,hl,e⟩:=I.lstM hH
 obtain ⟨z2,its2,n2,r2,hl2,e2⟩:=I.lstM hB
 have hsz:its.toArray.size+its2.toArray.size≤sizeLine:=by rw [List.size_toArray,List.size_toArray];omega
 have hlong:¬ (!its.toArray.isEmpty && Builtin.List.listTooLong (its.toArray.size+its2.toArray.size))=true:=by
  rw [notLongL hsz,Bool.and_false]
  exact Bool.false_ne_true
 refine call_meets F.slot_list_extend ⟨_,e,rfl⟩ F.entry_list_extend (F.args_list_extend_2 _ _)
  (AutoSeq1.list_extend_list_list_0 l its.toArray n b its2.toArray n2 hlong (by rw [List.size_toArray];omega) (by omega)) ⟨e,e2,?_⟩
 refine ⟨.non,_,I.lset (its':=its++its2) hH e (by simp) (r.append r2) ?_,rfl,q⟩
 rw [List.length_append]
 omega
def rRep:R2:=fun x y H Q=>∃ l k xs,x=.ref l∧y=.int k∧H l=some (.lst xs)∧-(2 ^ 63)≤k∧k<2 ^ 63∧xs.length * k.toNat≤sizeLine∧
 ∀ p,H p=none→Q (.ref p) (upd H p (.lst (List.replicate k.toNat xs).flatten))
theorem len_rep {α:Type} (xs:List α) (k:Nat):(List.replicate k xs).flatten.length=k * xs.length:=by
 induction k with
 | zero=>simp
 | succ k ih=>rw [List.replicate_succ,List.flatten_cons,List.length_append,ih,Nat.succ_mul,Nat.add_comm]
theorem op_rep:OpR X (binaryOp .Mult) rRep:=by
 intro pins s σ H x y v u Q I rx ry h
 obtain ⟨l,k,xs,rfl,rfl,hH,h1,h2,hz,q⟩:=h
 cases rx
 obtain ⟨t,rfl⟩:=ry
 obtain ⟨z,its,n,r,hl,e⟩:=I.lstM hH
 have hlen:its.toArray.size * k.toNat≤sizeLine:=by rw [List.size_toArray,← hl];exact hz
 have hcap:¬ its.toArray.size * k.toNat > (2 ^ 63 - 1) / 8:=by
  have:(sizeLine:Nat)≤(2 ^ 63 - 1) / 8:=by decide
  omega
 have hfit:¬ (!Builtin.List.listFitsIndex k)=true:=by
  rw [fitsIndex_both h1 h2]
  exact Bool.false_ne_true
 have hlong:¬ Builtin.List.listTooLong (its.toArray.size * k.toNat)=true:=by
  rw [notLongL hlen]
  exact Bool.false_ne_true
 have hnew:List.foldl (fun x1 x2=>x1++x2) #[] (List.replicate (if its.toArray.isEmpty=true then 0 else k.toNat) its.toArray)=(List.replicate k.toNat its).flatten.toArray:=by
  have f0:∀ m:Nat,List.foldl (fun x1 x2=>x1++x2) #[] (List.replicate m its.toArray)=(List.replicate m its).flatten.toArray:=fun m=>by
   have:=foldl_rep its m []
   rw [List.nil_append] at this
   exact this
  rw [f0]
  cases its with
  | nil=>simp
  | cons a r'=>rw [if_neg (by simp)]
 refine wpAny_binaryOp_repeat_ref (T:="list") (U:="int") (by decide) ⟨_,e,rfl⟩ (fun s'=>typeIs_int s' k t) noFill_list_mul F.fills_int_mul F.slot_int_rmul repeat_list F.slot_int_index.lookup
  (call_meets F.slot_int_rmul (typeIs_int s k t) F.entry_int_rmul (F.args_int_rmul_2 _ _) (int___rmul___int_list k t l its.toArray n)
   ⟨e,rfl,⟨_,e,rfl⟩,call_meets F.slot_list_mul ⟨_,e,rfl⟩ F.entry_list_mul (F.args_list_mul_2 _ _) (AutoListH.list___mul___list_int_3 l its.toArray n k t hfit hcap hlong) ⟨e,?_⟩⟩)
 rw [hnew]
 exact ⟨.ref _,_,I.lnew (t':=s.toks) (r.rep k.toNat) (by rw [len_rep,Nat.mul_comm];exact hz),rfl,q _ I.fresh⟩
end
section
variable {prog:Program} {w:World} {A:Around} {E:Value→Shared→Prop} {s:Shared}
set_option maxRecDepth 100000 in
end
section
variable {X:Cx}
end
end L2
namespace Att
open PySem PySem.W PySem.Calls PyProof.Rows
theorem ints_of_wellAll {P:Params} {h:Heap}:∀ (ns:List Int) (vs:List Value),WellAll P h vs (ns.map WData.int)→IntsAre vs ns:=by
 intro ns
 induction ns with
 | nil=>
  intro vs w
  rw [List.map_nil] at w
  cases w
  exact .nil
 | cons n ns ih=>
  intro vs w
  rw [List.map_cons] at w
  cases w with
  | cons a b=>
   cases a
   exact .cons _ _ (ih _ b)
theorem script_of {l:OpenLaw} {n:Nat} (hn:l.most=some n) {P:Params} {h:Heap} {args:List WData} {vals:List Value}
  (hpre:l.row.toRowW.claim.pre args=true) (hwl:WellAll P h vals args) :
  ∃ a vs ns,vals=[Value.ref a]∧args=[WData.list (ns.map WData.int)]∧h.get? a=some { cls:=.type "list",data:=.seq vs.toArray }∧IntsAre vs ns∧ns.length≤n:=by
 have hsh:WShape.hasAll [] args [.list .int]=true:=(pre_splitW hpre).1
 have hc:l.pre.holds [] { args:=args }=true:=(pre_splitW hpre).2
 obtain ⟨d,r,rfl,h1,h2⟩:=hasAllW_cons hsh
 obtain rfl:=hasAllW_nil h2
 obtain ⟨xs,rfl,h3⟩:=hasW_list h1
 obtain ⟨ns,rfl⟩:=items_int h3
 have hlen:ns.length≤n:=by
  unfold OpenLaw.pre at hc
  have h4:(WTm.not (.lt (.lit (.int (n:Int))) (.len (.arg 0)))).holds [] { args:=[.list (ns.map .int)] }=true:=by
   have h4:=(holds_andW hc).1
   rw [hn] at h4
   exact h4
  have h5:=condW_of h4 (w_not (w_lt w_lit (w_len_list (w_arg rfl))))
  rw [List.length_map] at h5
  refine Nat.le_of_not_lt fun q=>?_
  have q':(n:Int)<((ns.length:Nat):Int):=by omega
  first
   | (rw [decide_eq_true q'] at h5;exact absurd h5 (by decide))
   | (simp at h5;omega)
 cases hwl with
 | cons w1 w2=>
  cases w2
  cases w1 with
  | list ho hall=>exact ⟨_,_,ns,rfl,rfl,ho,ints_of_wellAll ns _ hall,hlen⟩
theorem post_true (l:OpenLaw) (args:List WData):l.row.toRowW.claim.post args (.bool true) args=true:=
 postW_of (r:=l.row.toRowW) (X:=(true == true))
  (show WShape.has [] (.bool true) .bool=true by first | rfl | decide | simp [WShape.has,WShape.arms,WShape.armsAll])
  (show (WTm.eq .res (.lit (.bool true))).value [] { args:=args,res:=some (.bool true),after:=args }=some (.bool (true == true)) from w_eq_bool (w_res rfl) w_lit) rfl
theorem attach_call {l:OpenLaw} {n:Nat} {q:Program} {loose:List Str} {XP:(Str→Option Value)→Heap→Prop} {YP:World→Heap→Prop} {d:DefRec}
  (hn:l.most=some n) (hdf:d.params.defaults=[])
  (call:∀ (w:World) (s₀ s₁:Shared) (mg mb:Str→Option Value) (fa:Addr) (o:Obj) (pm cd doc:Value) (a:Addr) (vs:List Value) (ns:List Int),
   Ground q loose [] XP w s₀ mg mb s₁.heap→YP w s₁.heap→
   s₁.heap.get? fa=some o→o.data=.func (docDef d.name d.params d.body d.scope pm cd doc)→s₁.heap.CodeRec cd d.name→mg d.name=some (.ref fa)→
   s₁.heap.get? a=some { cls:=.type "list",data:=.seq vs.toArray }→IntsAre vs ns→ns.length≤n→s₁.gens=#[]→
   codeAny (model l.prog w) callerA (.call (.ref fa) ⟨[.ref a],[]⟩) (fun r s'=>r=.ok (.ret (.bool true))∧OldK s₁.heap s'.heap∧s'.os=s₁.os∧AllBare s'.gens) s₁) :
  WalkO q loose XP YP l.row.toRowW d [] (fun f vs=>PySem.call f vs):=by
 intro w s₀ s₁ mg mb G Y fa o pm cd doc dV kV ho hd hcd hD hmg hg args vals as hpre hlay hrd hwl hlo
 obtain rfl:dV=.none:=Dflts.none hD hdf
 obtain rfl:kV=.none:=Dflts.noKw hD
 obtain ⟨a,vs,ns,rfl,rfl,hobj,hints,hlen⟩:=script_of hn hpre hwl
 refine enter_call (codeAny_mono (call w s₀ s₁ mg mb fa o pm cd doc a vs ns G Y ho (fd_plain hd) hcd hmg hobj hints hlen hg) fun r s' hq=>?_)
 obtain ⟨rfl,h2,h3,h4⟩:=hq
 exact ⟨.inl ⟨.bool true,.bool true,[],rfl,fun _=>rfl,.bool true,post_true l _,fun _=>⟨List.Pairwise.nil,fun _ hm=>(nomatch hm)⟩⟩,h2,h3,h4⟩
section
variable {prog:Program} {w:World} {A:Around} {E:Value→Shared→Prop} {s:Shared} {K:Frag}
end
end Att
namespace L2
open PySem PySem.Spec PyProof.Rows
theorem vals_ints:∀ {vs:List Value} {ns:List Int},IntsAre vs ns→Vals (ns.map V.int) vs
 | _,_,.nil=>.nil
 | _,_,.cons n t h=>.cons ⟨t,rfl⟩ (vals_ints h)
def Only (H:Hp):Prop:=∀ b,H b=none∨∃ o xs,H b=some (.frz o (.lst xs))
theorem law_call {P:Program} {w:World} {K:PySem.W.Frag} {mg mb:Str→Option Value} {CX:CXT} {k:Nat} {fa a:Addr} {fd:FuncData} {x:Str} {sp:Sp} {s₁:Shared} {vs:List Value} {ns:List Int}
  (KX:K.In s₁.heap) (hns:s₁.heap.Ns mainGlobals mg) (hb:s₁.heap.Ns builtinsNs mb) (hbb:∀ x:Str,x ≠ "__name__"→mb x=bootBuiltins x) (hlim:s₁.heap.NoLimit) (hg:s₁.gens=#[])
  (ha:s₁.heap.get? a=some { cls:=.type "list",data:=.seq vs.toArray }) (hi:IntsAre vs ns) (hl:ns.length≤sizeLine) (hr:Room k callerA)
  (F:∀ base:Heap,K.In base→base.Ns mainGlobals mg→FnOk P w K mg base CX k fa fd [x] sp) (hbind:∀ (s:Shared) (u:Value),BindsTo s fd ⟨[u],[]⟩ [(x,u)])
  (hsp:∀ H:Hp,Only H→SqL K H a (ns.map V.int)→sp [.ref a] H (fun v _=>v=.bl true) fun _ _ _=>False)
  (hCX:∀ H e s',CX [] H s₁ (fun _ _ _=>False) e s'→False) :
  codeAny (model P w) callerA (.call (.ref fa) ⟨[.ref a],[]⟩) (fun r s'=>r=.ok (.ret (.bool true))∧OldK s₁.heap s'.heap∧s'.os=s₁.os∧AllBare s'.gens) s₁:=by
 have rv:=vals_ints hi
 have lenV:=hi.length
 -- from an abstract heap in which nothing but the script may be tracked
 have core:∀ H:Hp,Only H→SqL K H a (ns.map V.int)→HOk P w H s₁.heap→(∀ b,H b ≠ none→b=a)→(H a ≠ none→K.lookup a=none)→
   codeAny (model P w) callerA (.call (.ref fa) ⟨[.ref a],[]⟩) (fun r s'=>r=.ok (.ret (.bool true))∧OldK s₁.heap s'.heap∧s'.os=s₁.os∧AllBare s'.gens) s₁:=by
  intro H hO hS hok hA hK
  have base_of:∀ {b:Addr} {o:Obj},s₁.heap.get? b=some o→H b=none→(hidT s₁.heap H).get? b=some o:=fun e n=>hidT_get e n
  have noA:∀ {b:Addr} {o:Obj} {es:Array DictEntry} {ep:Nat},s₁.heap.get? b=some o→o.data=.dict es ep→H b=none:=fun {b o es ep} e d=>by
   cases q:H b with
   | none=>rfl
   | some u=>
    have e':b=a:=hA b (by rw [q];simp)
    subst e'
    rw [ha] at e;cases e
    have d':Data.seq vs.toArray _=Data.dict es ep:=d
    cases d'
  have nsK:∀ {b:Addr} {m:Str→Option Value},s₁.heap.Ns b m→(hidT s₁.heap H).Ns b m:=fun {b m} ⟨o,es,ep,e,d,r⟩=>⟨o,es,ep,base_of e (noA e d),d,r⟩
  have hKb:K.In (hidT s₁.heap H):=fun b o e=>base_of (KX b o e) (by
   cases q:H b with
   | none=>rfl
   | some u=>
    have e':b=a:=hA b (by rw [q];simp)
    subst e'
    rw [hK (by rw [q];simp)] at e;cases e)
  have hM:Mod K mg (hidT s₁.heap H):=⟨hKb,nsK hns,⟨mb,nsK hb,hbb⟩,let ⟨mc,h1,h2⟩:=hlim;⟨mc,nsK h1,h2⟩⟩
  have e0:Env0 P w K mg (hidT s₁.heap H) callerA [] s₁ H:=⟨rfl,hM,fun b o e=>of_hidT e,Nat.le_of_eq (hidT_size _ _),trivial,fun b hb=>absurd (show b ∈ ([]:List Addr) from hb) (by simp),hok,.of_eq hg⟩
  refine codeAny_mono ((F _ hKb (nsK hns)).run callerA [] s₁ H ⟨[.ref a],[]⟩ [.ref a] [.ref a] _ _ hr e0 (hbind s₁ (.ref a)) (.cons rfl .nil) (hsp H hO hS)) fun r s' h=>?_
  cases r with
  | error e=>exact (hCX H e s' h).elim
  | ok fl=>
   cases fl with
   | next=>exact False.elim h
   | brk=>exact False.elim h
   | cont=>exact False.elim h
   | ret u=>
    obtain ⟨v,H',os,bare,un,hok',r',q⟩:=h
    have q':v=.bl true:=q
    subst q'
    obtain rfl:u=Value.bool true:=r'
    refine ⟨rfl,OldK.of_keep fun b o e=>?_,os,bare⟩
    cases q:H b with
    | none=>exact un.keep b o e q (by intro z;exact absurd (show b ∈ ([]:List Addr) from z) (by simp)) (by simp)
    | some u=>
     rcases hO b with z | ⟨ob,xs,z⟩
     ·rw [q] at z;cases z
     ·have z2:=un.frzs b ob _ z
      obtain ⟨e1,_⟩:=hok b _ z
      obtain ⟨e2,_⟩:=hok' b _ z2
      rw [e] at e1;cases e1
      exact e2
 cases hk:K.lookup a with
 | some o=>
  -- the script is one of the module's own objects
  have e:=KX a o hk
  rw [ha] at e
  cases e
  refine core (fun _=>none) (fun _=>.inl rfl) (.inr ⟨_,vs.toArray,_,hk,rfl,rfl,rfl,by rw [List.size_toArray,lenV];exact hl,by simpa using rv⟩) (fun b u z=>by have z':(none:Option HO)=some u:=z;cases z') (fun b z=>absurd rfl z) fun z=>absurd rfl z
 | none=>
  refine core (fun b=>if b=a then some (.frz { cls:=.type "list",data:=.seq vs.toArray } (.lst (ns.map V.int))) else none) (fun b=>?_) (.inl (.inr ⟨{ cls:=.type "list",data:=.seq vs.toArray },if_pos rfl⟩)) (fun b u z=>?_) (fun b z=>?_) fun _=>hk
  ·by_cases hb:b=a
   ·exact .inr ⟨_,_,if_pos hb⟩
   ·exact .inl (if_neg hb)
  ·by_cases hb:b=a
   ·have z':=(if_pos hb).symm.trans z
    cases z'
    subst hb
    exact ⟨ha,by rw [List.length_map];exact hl,vs,_,rv,ha⟩
   ·have z':=(if_neg hb).symm.trans z
    cases z'
  ·by_cases hb:b=a
   ·exact hb
   ·exact absurd (if_neg hb) z
end L2
namespace L2
open PySem PySem.Spec PyProof.Rows
theorem walk_of {l:PySem.W.OpenLaw} {n k:Nat} {q:Program} {loose:List Str} {XP:(Str→Option Value)→Heap→Prop} {YP:World→Heap→Prop} {d:DefRec} {K:Params→PySem.W.Frag} {CX:World→CXT} {sp:World→Sp} {x:Str}
  (hn:l.most=some n) (hn2:n≤sizeLine) (hdf:d.params.defaults=[]) (hr:Room k callerA)
  (hY:∀ (w:World) (h:Heap),YP w h→(K w.params).In h)
  (F:∀ (w:World) (mg:Str→Option Value) (fa:Addr) (h:Heap),(K w.params).In h→h.Ns mainGlobals mg→mg d.name=some (.ref fa)→
   ∃ fd:FuncData,(∀ (s:Shared) (u:Value),BindsTo s fd ⟨[u],[]⟩ [(x,u)])∧
    ∀ base:Heap,(K w.params).In base→base.Ns mainGlobals mg→FnOk l.prog w (K w.params) mg base (CX w) k fa fd [x] (sp w))
  (hsp:∀ (w:World) (H:Hp) (a:Addr) (ns:List Int),ns.length≤n→Only H→SqL (K w.params) H a (ns.map V.int)→sp w [.ref a] H (fun v _=>v=.bl true) fun _ _ _=>False)
  (hCX:∀ (w:World) (H:Hp) (s:Shared) (e:Value) (s':Shared),CX w [] H s (fun _ _ _=>False) e s'→False) :
  PySem.W.WalkO q loose XP YP l.row.toRowW d [] (fun f vs=>PySem.call f vs):=by
 refine Att.attach_call hn hdf fun w s₀ s₁ mg mb fa o pm cd doc a vs ns G Y ho hd hcd hmg hobj hints hlen hg=>?_
 have KX:=hY w _ Y
 obtain ⟨fd,hb,hF⟩:=F w mg fa _ KX G.T.g hmg
 exact law_call KX G.T.g G.T.b G.T.builtins G.T.nolimit hg hobj hints (Nat.le_trans hlen hn2) hr hF hb (fun H hO hS=>hsp w H a ns hlen hO hS) fun H e s'=>hCX w H s₁ e s'
end L2
namespace L2
open PySem PySem.Spec PyProof.Rows
def defArgs (s:Stmt):Arguments:=match s with
 | .FunctionDef _ a _ _ _ _ _ _ _ _=>a
 | _=>{ posonlyargs:=[],args:=[],vararg:=none,kwonlyargs:=[],kw_defaults:=[],kwarg:=none,defaults:=[] }
def defBody (s:Stmt):List Stmt:=match s with
 | .FunctionDef _ _ b _ _ _ _ _ _ _=>b
 | _=>[]
def defScope (s:Stmt):Scope:=match s with
 | .FunctionDef _ _ _ _ _ _ sc _ _ _=>sc
 | _=>{ kind:=.function,names:=[],isGenerator:=false,isCoroutine:=false }
abbrev CX0:CXT:=fun _ _ _ _ _ _=>False
abbrev E0:XK:=fun _ _ _=>False
theorem pass0 {X:Cx}:Passes CX0 X E0:=fun _ _ _ _ _ _ _ h=>h.elim
structure Fun (K:PySem.W.Frag) (x qual:Str) (st:Stmt) (f:Addr) (fd:FuncData):Prop where
 ex:∃ (oc:Value) (od:Option Addr) (kV doc pm:Value) (an:Option Addr) (cdv ct:Value) (osl:Array (Option Value)),
  fd=PySem.W.fnOf x qual (defArgs st) (defBody st) (defScope st) .none kV doc pm an cdv ct∧K.lookup f=some ⟨oc,od,.func fd,osl⟩∧PySem.W.codeIn K cdv qual=true
 kp:PySem.W.keepIn K (.ref f)=true
section
variable {P:Program} {w:World} {K:PySem.W.Frag} {mg:Str→Option Value} {base:Heap}
theorem Fun.ok {x qual:Str} {st:Stmt} {f:Addr} {fd:FuncData} {N ps:List Str} {k:Nat} {sp:Sp} (F:Fun K x qual st f fd) (S:FnScope N ps (defScope st)) (len:∀ vs H Q E,sp vs H Q E→vs.length=ps.length)
  (hbody:∀ (cdv:Value) (A:Around) (outer:List Env) (s:Shared) (H:Hp) (vs:List V) (Q:VK) (E:XK),Room k (A.deeper (envOfC qual (defScope st) s.heap.objs.size f cdv))→sp vs H Q E→
   ∃ t,PSs (cxOf CX0 P w K mg base N qual (defScope st) f cdv A outer s H E).nox (defBody st) t∧t { nx:=fun _ H'=>Q .non H',rt:=Q } (start N vs) H):FnOk P w K mg base CX0 (k+1) f fd ps sp:=by
 obtain ⟨oc,od,kV,doc,pm,an,cdv,ct,osl,rfl,lk,hcd⟩:=F.ex
 refine fn_of lk hcd S len fun A outer s H vs Q E hr hsp=>?_
 obtain ⟨t,h,q⟩:=hbody cdv A outer s H vs Q E hr hsp
 exact ⟨t,h.nox,q⟩
theorem Fun.binds {x qual:Str} {st:Stmt} {f:Addr} {fd:FuncData} {ps:List Str} (F:Fun K x qual st f fd)
  (h:∀ (kV doc pm:Value) (an:Option Addr) (cdv ct:Value) (us:List Value),us.length=ps.length→bindArgs (PySem.W.fnOf x qual (defArgs st) (defBody st) (defScope st) .none kV doc pm an cdv ct) ⟨us,[]⟩=pure (ps.zip us)):Binds K fd ps []:=by
 obtain ⟨oc,od,kV,doc,pm,an,cdv,ct,osl,rfl,lk,hcd⟩:=F.ex
 exact .all (h kV doc pm an cdv ct)
theorem fun_mk {x qual:Str} {st:Stmt} {f:Addr} {oc:Value} {od an:Option Addr} {osl:Array (Option Value)} {kV doc pm cdv ct:Value} (l:K.lookup f=some ⟨oc,od,.func (PySem.W.fnOf x qual (defArgs st) (defBody st) (defScope st) .none kV doc pm an cdv ct),osl⟩)
  (c:PySem.W.codeIn K cdv qual=true) (k:PySem.W.keepIn K (.ref f)=true):Fun K x qual st f (PySem.W.fnOf x qual (defArgs st) (defBody st) (defScope st) .none kV doc pm an cdv ct):=⟨⟨oc,od,kV,doc,pm,an,cdv,ct,osl,rfl,l,c⟩,k⟩
end
theorem hu_of {A:Around} {k:Nat} (hr:Room k A):A.units+1<cLine:=Nat.lt_of_le_of_lt (Nat.add_le_add_left (by decide:1≤64) _) hr.units
theorem small1000 {n:Nat} (h:n≤1000):n<sizeLine:=Nat.lt_of_le_of_lt h (by decide)
section
variable {X:Cx}
theorem pv (i:Nat) {x:Str} {pos:Pos} (hN:X.N[i]?=some x:=by rfl) (hv:Vis X.env.scope x:=by first | exact Or.inl rfl | exact Or.inr (Or.inl rfl) | exact Or.inr (Or.inr rfl)) (hd:(x == ("__debug__" : Str))=false:=by decide)
  (hcd:(x == ("__classdict__" : Str))=false:=by decide):PE X (.Name x pos) (tVar i):=pe_var hN hv hd hcd
end
theorem iteF {A B:Prop} (h:B):if false=true then A else B:=by
 rw [if_neg Bool.false_ne_true]
 exact h
theorem iteT {A B:Prop} (h:A):if true=true then A else B:=by
 rw [if_pos rfl]
 exact h
theorem ite2 {c A B:Prop} [Decidable c] (h1:c→A) (h2:¬ c→B):if c then A else B:=by
 by_cases h:c
 ·rw [if_pos h]
  exact h1 h
 ·rw [if_neg h]
  exact h2 h
def Same (H H':Hp):Prop:=∀ b o,H b=some o→H' b=some o
theorem Same.refl (H:Hp):Same H H:=fun _ _ h=>h
theorem Same.trans {H H1 H2:Hp} (a:Same H H1) (b:Same H1 H2):Same H H2:=fun c o h=>b c o (a c o h)
theorem Same.free {H H':Hp} (e:Same H H') {l:Addr} (h:H' l=Option.none):H l=Option.none:=by
 cases q:H l with
 | none=>rfl
 | some o=>
  rw [e l o q] at h
  cases h
end L2
namespace L2
open PySem PySem.Spec PyProof.Rows
section
variable {κ:Type} [DecidableEq κ]
def valV (kvs:List (κ × V)) (k:κ):Option V:=(kvs.find? fun kv=>decide (kv.1=k)).map (·.2)
def putK (kvs:List (κ × V)) (k:κ) (v:V):List (κ × V):=
 if (kvs.any fun kv=>decide (kv.1=k))=true then kvs.map (fun kv=>if kv.1=k then (kv.1,v) else kv) else kvs++[(k,v)]
theorem valV_pos {p:κ × V} {r:List (κ × V)} {k:κ} (e:p.1=k):valV (p::r) k=some p.2:=by simp [valV,List.find?_cons,e]
theorem valV_neg {p:κ × V} {r:List (κ × V)} {k:κ} (e:¬ p.1=k):valV (p::r) k=valV r k:=by simp [valV,List.find?_cons,e]
theorem valV_any (k:κ):∀ kvs:List (κ × V),(kvs.any fun kv=>decide (kv.1=k))=(valV kvs k).isSome
 | []=>rfl
 | p::r=>by
  rw [List.any_cons]
  by_cases e:p.1=k
  ·simp only [valV_pos e,decide_eq_true e,Bool.true_or,Option.isSome_some]
  ·rw [valV_neg e,decide_eq_false e,Bool.false_or];exact valV_any k r
theorem valV_map (k j:κ) (y:V):∀ kvs:List (κ × V),valV (kvs.map fun kv=>if kv.1=k then (kv.1,y) else kv) j=(valV kvs j).map fun x=>if j=k then y else x
 | []=>rfl
 | p::r=>by
  have ih:=valV_map k j y r
  rw [List.map_cons]
  by_cases h:p.1=k
  ·rw [if_pos h]
   by_cases e:p.1=j
   ·rw [valV_pos (p:=(p.1,y)) e,valV_pos e,Option.map_some,if_pos (e.symm.trans h)]
   ·rw [valV_neg (p:=(p.1,y)) e,valV_neg e,ih]
  ·rw [if_neg h]
   by_cases e:p.1=j
   ·rw [valV_pos (p:=p) e,valV_pos e,Option.map_some,if_neg (fun z=>h (e.trans z))]
   ·rw [valV_neg (p:=p) e,valV_neg e,ih]
theorem valV_snoc (k j:κ) (y:V):∀ kvs:List (κ × V),valV kvs k=none→valV (kvs++[(k,y)]) j=if j=k then some y else valV kvs j
 | [],_=>by
  by_cases e:k=j
  ·rw [if_pos e.symm];exact valV_pos (p:=(k,y)) e
  ·rw [if_neg (fun z=>e z.symm)];exact valV_neg (p:=(k,y)) e
 | p::r,hn=>by
  rw [List.cons_append]
  have hk:¬ p.1=k:=fun z=>by rw [valV_pos z] at hn;cases hn
  rw [valV_neg hk] at hn
  have ih:=valV_snoc k j y r hn
  by_cases e:p.1=j
  ·rw [valV_pos e,valV_pos e,if_neg (fun z=>hk (e.trans z))]
  ·rw [valV_neg e,valV_neg e,ih]
theorem valV_put (kvs:List (κ × V)) (k j:κ) (y:V):valV (putK kvs k y) j=if j=k then some y else valV kvs j:=by
 unfold putK
 by_cases a:(kvs.any fun kv=>decide (kv.1=k))=true
 ·rw [if_pos a,valV_map]
  rw [valV_any] at a
  by_cases e:j=k
  ·obtain ⟨x,hx⟩:=Option.isSome_iff_exists.mp a
   rw [if_pos e,e,hx,Option.map_some,if_pos rfl]
  ·rw [if_neg e]
   cases valV kvs j with
   | none=>rfl
   | some x=>rw [Option.map_some,if_neg e]
 ·rw [if_neg a]
  refine valV_snoc k j y kvs ?_
  rw [valV_any] at a
  cases q:valV kvs k with
  | none=>rfl
  | some x=>rw [q] at a;exact (a rfl).elim
theorem length_putK (kvs:List (κ × V)) (k:κ) (v:V):(putK kvs k v).length≤kvs.length+1:=by
 unfold putK
 split
 ·rw [List.length_map];omega
 ·rw [List.length_append,List.length_cons,List.length_nil];omega
theorem putK_new {kvs:List (κ × V)} {k:κ} (v:V) (h:valV kvs k=none):putK kvs k v=kvs++[(k,v)]:=by
 unfold putK
 rw [valV_any,h]
 exact if_neg (by decide)
theorem RelO.isSome_eq {o:Option V} {u:Option Value} (r:RelO o u):o.isSome=u.isSome:=by
 cases o with
 | none=>cases u with
  | none=>rfl
  | some _=>exact (show False from r).elim
 | some _=>cases u with
  | none=>exact (show False from r).elim
  | some _=>rfl
theorem KV.val {kvs:List (κ × V)} {vs:List (κ × Value)} (r:KV kvs vs) (k:κ):RelO (valV kvs k) (valueAt vs k):=by
 unfold KV at r
 induction r with
 | nil=>exact True.intro
 | @cons p q ps qs h t ih=>
  obtain ⟨h1,h2⟩:=h
  by_cases e:p.1=k
  ·have e':q.1=k:=h1.symm.trans e
   have b:valueAt (q::qs) k=some q.2:=by simp [valueAt,List.find?_cons,e']
   rw [valV_pos e,b];exact h2
  ·have e':¬ q.1=k:=fun z=>e (h1.trans z)
   have b:valueAt (q::qs) k=valueAt qs k:=by simp [valueAt,List.find?_cons,e']
   rw [valV_neg e,b];exact ih
theorem KV.any {kvs:List (κ × V)} {vs:List (κ × Value)} (r:KV kvs vs) (k:κ):(kvs.any fun kv=>decide (kv.1=k))=vs.any fun kv=>decide (kv.1=k):=by
 unfold KV at r
 induction r with
 | nil=>rfl
 | cons h t ih=>rw [List.any_cons,List.any_cons,ih,h.1]
theorem KV.repl {kvs:List (κ × V)} {vs:List (κ × Value)} (r:KV kvs vs) (k:κ) {y:V} {u:Value} (ry:RelV y u) :
  KV (kvs.map fun kv=>if kv.1=k then (kv.1,y) else kv) (vs.map fun kv=>if kv.1=k then (kv.1,u) else kv):=by
 unfold KV at r ⊢
 induction r with
 | nil=>exact .nil
 | @cons p q ps qs h t ih=>
  rw [List.map_cons,List.map_cons]
  refine .cons ?_ ih
  obtain ⟨h1,h2⟩:=h
  by_cases e:p.1=k
  ·rw [if_pos e,if_pos (h1.symm.trans e)];exact ⟨h1,ry⟩
  ·rw [if_neg e,if_neg (fun z=>e (h1.trans z))];exact ⟨h1,h2⟩
theorem KV.put {kvs:List (κ × V)} {vs:List (κ × Value)} (r:KV kvs vs) (k:κ) {y:V} {u:Value} (ry:RelV y u):KV (putK kvs k y) (stored vs k u):=by
 unfold putK stored
 rw [r.any k]
 by_cases e:(vs.any fun kv=>decide (kv.1=k))=true
 ·rw [if_pos e,if_pos e];exact r.repl k ry
 ·rw [if_neg e,if_neg e];exact Paired.snoc r ⟨rfl,ry⟩
theorem KV.keys {kvs:List (κ × V)} {vs:List (κ × Value)} (r:KV kvs vs):kvs.map (·.1)=vs.map (·.1):=by
 unfold KV at r
 induction r with
 | nil=>rfl
 | cons h t ih=>rw [List.map_cons,List.map_cons,ih,h.1]
theorem KV.length {kvs:List (κ × V)} {vs:List (κ × Value)} (r:KV kvs vs):kvs.length=vs.length:=Paired.length r
end
theorem kV_is {P:Program} {w:World} {k:Key} {u:Value} (r:RelV (kV k) u):(mixKind P w).is k u=true:=by
 cases k with
 | inl i=>obtain ⟨t,e⟩:=(show ∃ t,u=Value.int i t from r);subst e;exact mixKind_int P w i t
 | inr x=>obtain ⟨t,e⟩:=(show ∃ t,u=Value.str x t from r);subst e;exact mixKind_str P w x t
theorem items_are {P:Program} {w:World}:∀ {ks:List Key} {us:List Value},Vals (ks.map kV) us→ItemsAre (mixKind P w) ks us
 | [],_,r=>by rw [List.map_nil] at r;cases r;exact .nil
 | k::ks,_,r=>by
  rw [List.map_cons] at r
  cases r with
  | cons h t=>exact .cons (kV_is h) (items_are t)
abbrev KT (H:Hp):List (List Key × V)→List (List Key × Addr × Value)→Prop:=Paired fun p q=>p.1=q.1∧H q.2.1=some (.tup (p.1.map kV))∧RelV p.2 q.2.2
theorem KT.val {H:Hp} {kvs:List (List Key × V)} {xs:List (List Key × Addr × Value)} (r:KT H kvs xs) (k:List Key):RelO (valV kvs k) ((atKey xs k).map (·.2)):=by
 induction r with
 | nil=>exact True.intro
 | @cons p q ps qs h t ih=>
  obtain ⟨h1,_,h2⟩:=h
  by_cases e:p.1=k
  ·have e':q.1=k:=h1.symm.trans e
   have b:atKey (q::qs) k=some q.2:=by simp [atKey,List.find?_cons,e']
   rw [valV_pos e,b];exact h2
  ·have e':¬ q.1=k:=fun z=>e (h1.trans z)
   have b:atKey (q::qs) k=atKey qs k:=by simp [atKey,List.find?_cons,e']
   rw [valV_neg e,b];exact ih
theorem KT.repl {H:Hp} {kvs:List (List Key × V)} {xs:List (List Key × Addr × Value)} (r:KT H kvs xs) (k:List Key) {y:V} {u:Value} (ry:RelV y u) :
  KT H (kvs.map fun kv=>if kv.1=k then (kv.1,y) else kv) (xs.map (putAt k u)):=by
 induction r with
 | nil=>exact .nil
 | @cons p q ps qs h t ih=>
  rw [List.map_cons,List.map_cons]
  refine .cons ?_ ih
  obtain ⟨h1,h2,h3⟩:=h
  unfold putAt
  by_cases e:p.1=k
  ·rw [if_pos e,if_pos (h1.symm.trans e)];exact ⟨h1,h2,ry⟩
  ·rw [if_neg e,if_neg (fun z=>e (h1.trans z))];exact ⟨h1,h2,h3⟩
theorem KT.put {H:Hp} {kvs:List (List Key × V)} {xs:List (List Key × Addr × Value)} (r:KT H kvs xs) (k:List Key) {b:Addr} {y:V} {u:Value} (hb:H b=some (.tup (k.map kV))) (ry:RelV y u) :
  KT H (putK kvs k y) (storedH xs k b u):=by
 have e:(kvs.any fun kv=>decide (kv.1=k))=(atKey xs k).isSome:=by
  rw [valV_any,(r.val k).isSome_eq,Option.isSome_map]
 unfold putK storedH
 rw [e]
 by_cases q:(atKey xs k).isSome=true
 ·rw [if_pos q,if_pos q];exact r.repl k ry
 ·rw [if_neg q,if_neg q];exact Paired.snoc r ⟨rfl,hb,ry⟩
theorem KT.keeps {H H':Hp} {kvs:List (List Key × V)} {xs:List (List Key × Addr × Value)} (r:KT H kvs xs) (ht:∀ b ys,H b=some (.tup ys)→H' b=some (.tup ys)):KT H' kvs xs:=
 Paired.mapP r fun _ _ z=>⟨z.1,ht _ _ z.2.1,z.2.2⟩
section
variable {P:Program} {w:World} {H:Hp} {h:Heap} {a:Addr}
theorem rd_of {u:HO} (ok:HOk P w H h) (e:Rd H a u):ObjOk P w H h a u:=e.ok ok
theorem dk_rd {kvs:List (Key × V)} (ok:HOk P w H h) (e:Rd H a (.dK kvs)):kvs.length≤sizeLine∧(a == sysModules)=false∧∃ vs,KV kvs vs∧h.DictOf (mixKind P w) a vs:=
 show ObjOk P w H h a (.dK kvs) from rd_of ok e
theorem dk_of {kvs:List (Key × V)} (ok:HOk P w H h) (e:H a=some (.dK kvs)):kvs.length≤sizeLine∧(a == sysModules)=false∧∃ vs,KV kvs vs∧h.DictOf (mixKind P w) a vs:=dk_rd ok (.inl e)
theorem key_of {ks:List Key} (ok:HOk P w H h) (e:H a=some (.tup (ks.map kV))):(tupleKind (mixKind P w)).is h ks a:=by
 obtain ⟨_,its,r,o,h1,h2,n,h3⟩:=(show ObjOk P w H h a (.tup (ks.map kV)) from ok a _ e)
 exact ⟨o,its.toArray,n,h1,h2,h3,by simpa using items_are r⟩
theorem dt_rd {kvs:List (List Key × V)} (ok:HOk P w H h) (e:Rd H a (.dT kvs)):kvs.length≤sizeLine∧(a == sysModules)=false∧
  ∃ xs,KT H kvs xs∧h.DictOfH (tupleKind (mixKind P w)) a xs:=by
 obtain ⟨z,y,xs,r,o,es,ep,h1,h2,h3,h4,h5⟩:=(show ObjOk P w H h a (.dT kvs) from rd_of ok e)
 refine ⟨z,y,xs,r,o,es,ep,h1,h2,h3,h4,fun x hx=>?_,h5⟩
 have all:∀ {l:List (List Key × V)} {m:List (List Key × Addr × Value)},KT H l m→∀ x ∈ m,(tupleKind (mixKind P w)).is h x.1 x.2.1:=by
  intro l m q
  induction q with
  | nil=>intro x hx;exact nomatch hx
  | @cons p q ps qs hq t ih=>
   intro x hx
   rcases List.mem_cons.mp hx with e | hx
   ·subst e
    exact key_of ok (by rw [← hq.1];exact hq.2.1)
   ·exact ih x hx
 exact all r x hx
theorem dt_of {kvs:List (List Key × V)} (ok:HOk P w H h) (e:H a=some (.dT kvs)):kvs.length≤sizeLine∧(a == sysModules)=false∧
  ∃ xs,KT H kvs xs∧h.DictOfH (tupleKind (mixKind P w)) a xs:=dt_rd ok (.inl e)
end
def DGet (H:Hp) (a:Addr) (y:V) (r:Option V):Prop:=
 (∃ kvs k,Rd H a (.dK kvs)∧y=kV k∧r=valV kvs k)∨∃ kvs k b,Rd H a (.dT kvs)∧y=.ref b∧H b=some (.tup (k.map kV))∧r=valV kvs k
def DPut (H:Hp) (a:Addr) (y v:V) (H':Hp):Prop:=
 (∃ kvs k,H a=some (.dK kvs)∧y=kV k∧kvs.length<sizeLine∧H'=upd H a (.dK (putK kvs k v)))∨
 ∃ kvs k b,H a=some (.dT kvs)∧y=.ref b∧H b=some (.tup (k.map kV))∧kvs.length<sizeLine∧H'=upd H a (.dT (putK kvs k v))
theorem DGet.k {H:Hp} {a:Addr} {kvs:List (Key × V)} {k:Key} (e:H a=some (.dK kvs)):DGet H a (kV k) (valV kvs k):=.inl ⟨kvs,k,.inl e,rfl,rfl⟩
theorem DPut.k {H:Hp} {a:Addr} {kvs:List (Key × V)} {k:Key} {v:V} (e:H a=some (.dK kvs)) (hl:kvs.length<sizeLine):DPut H a (kV k) v (upd H a (.dK (putK kvs k v))):=.inl ⟨kvs,k,e,rfl,hl,rfl⟩
section
variable {X:Cx} {pins:List (Addr × Obj)} {σ:St} {H:Hp} {s:Shared} {a:Addr} {y v:V} {u r:Value} {o:Option V} {A:Around} {E:Value→Shared→Prop}
theorem Inv.big (I:Inv X pins σ H s):sysModules<s.heap.objs.size:=by
 have h:mainGlobals<s.heap.objs.size:=(I.mod.glob.keeps I.bk).lt
 exact Nat.lt_trans (by decide) h
theorem d_getItem {Q:Value→Shared→Prop} (hu:A.units+1<cLine) (I:Inv X pins σ H s) (g:DGet H a y (some v)) (ry:RelV y u) (h:∀ w' s',Inv X pins σ H s'→RelV v w'→Q w' s') :
  wpAny (model X.prog X.w) A (getItem (.ref a) u) Q E s:=by
 rcases g with ⟨kvs,k,e,ey,l⟩ | ⟨kvs,k,b,e,ey,eb,l⟩
 ·subst ey
  obtain ⟨z,hd,vs,rel,dd⟩:=dk_rd I.hok e
  obtain ⟨w',hw,rw'⟩:=RelO.some_of (v:=v) (o:=valueAt vs k) (by rw [l];exact rel.val k)
  exact wpAny_getItem_of (kV_is ry) dd.mapOf hw (h w' _ (I.tok _) rw')
 ·subst ey
  cases (show u=Value.ref b from ry)
  obtain ⟨z,hd,xs,rel,dd⟩:=dt_rd I.hok e
  obtain ⟨w',hw,rw'⟩:=RelO.some_of (v:=v) (o:=(atKey xs k).map (·.2)) (by rw [l];exact rel.val k)
  obtain ⟨p,hp,hp2⟩:=Option.map_eq_some_iff.mp hw
  refine wpAny_getItem_heap (tupleKind_room_in1 hu) (key_of I.hok eb) dd hp ?_
  rw [hp2]
  exact h w' _ (I.tok _) rw'
theorem d_in {Q:Value→Shared→Prop} (hu:A.units+1<cLine) (I:Inv X pins σ H s) (g:DGet H a y o) (ry:RelV y u) (h:∀ s',Inv X pins σ H s'→Q (.bool o.isSome) s') :
  wpAny (model X.prog X.w) A (compareOp .In u (.ref a)) Q E s:=by
 rcases g with ⟨kvs,k,e,ey,l⟩ | ⟨kvs,k,b,e,ey,eb,l⟩
 ·subst ey
  obtain ⟨z,hd,vs,rel,dd⟩:=dk_rd I.hok e
  refine wpAny_in_of (kV_is ry) hd dd.mapOf ?_
  rw [← (rel.val k).isSome_eq,← l]
  exact h _ (I.tok _)
 ·subst ey
  cases (show u=Value.ref b from ry)
  obtain ⟨z,hd,xs,rel,dd⟩:=dt_rd I.hok e
  refine wpAny_in_heap (tupleKind_room_in1 hu) (key_of I.hok eb) hd dd ?_
  have q:=(rel.val k).isSome_eq
  rw [Option.isSome_map] at q
  rw [← q,← l]
  exact h _ (I.tok _)
theorem d_notIn {Q:Value→Shared→Prop} (hu:A.units+1<cLine) (I:Inv X pins σ H s) (g:DGet H a y o) (ry:RelV y u) (h:∀ s',Inv X pins σ H s'→Q (.bool (!o.isSome)) s') :
  wpAny (model X.prog X.w) A (compareOp .NotIn u (.ref a)) Q E s:=by
 rcases g with ⟨kvs,k,e,ey,l⟩ | ⟨kvs,k,b,e,ey,eb,l⟩
 ·subst ey
  obtain ⟨z,hd,vs,rel,dd⟩:=dk_rd I.hok e
  refine wpAny_notIn_of (kV_is ry) hd dd.mapOf ?_
  rw [← (rel.val k).isSome_eq,← l]
  exact h _ (I.tok _)
 ·subst ey
  cases (show u=Value.ref b from ry)
  obtain ⟨z,hd,xs,rel,dd⟩:=dt_rd I.hok e
  refine wpAny_notIn_heap (tupleKind_room_in1 hu) (key_of I.hok eb) hd dd ?_
  have q:=(rel.val k).isSome_eq
  rw [Option.isSome_map] at q
  rw [← q,← l]
  exact h _ (I.tok _)
theorem d_write {h':Heap} {t':Nat} {ob:HO} (I:Inv X pins σ H s) (mu:Mut (H a)) (hs:Heap.SameBut a s.heap h') (he:∃ q,h'.get? a=some q) (new:ObjOk X.prog X.w (upd H a ob) h' a ob) :
  Inv X pins σ (upd H a ob) { s with heap:=h',toks:=t' }:=
 I.write (x:=a) (e:=a) mu (.inl rfl) (fun b q hb z=>(hs.2 b hb).trans z) he new
theorem dk_new {P:Program} {w:World} {H':Hp} {h':Heap} {kvs:List (Key × V)} {vs:List (Key × Value)} (z:kvs.length≤sizeLine) (hd:(a == sysModules)=false) (rel:KV kvs vs) (dd:h'.DictOf (mixKind P w) a vs) :
  ObjOk P w H' h' a (.dK kvs):=⟨z,hd,vs,rel,dd⟩
theorem d_setItem {H':Hp} {Q:Unit→Shared→Prop} (hu:A.units+1<cLine) (I:Inv X pins σ H s) (g:DPut H a y v H') (ry:RelV y u) (rv:RelV v r) (h:∀ s',Inv X pins σ H' s'→Q () s') :
  wpAny (model X.prog X.w) A (setItem (.ref a) u r) Q E s:=by
 rcases g with ⟨kvs,k,e,ey,l,eH⟩ | ⟨kvs,k,b,e,ey,eb,l,eH⟩
 ·subst ey eH
  obtain ⟨z,hd,vs,rel,dd⟩:=dk_of I.hok e
  have hz:vs.length≤sizeLine:=by rw [← rel.length];exact z
  have hl:(putK kvs k v).length≤sizeLine:=by have:=length_putK kvs k v;omega
  refine wpAny_setItem_pairs (hsz:=hz) (kV_is ry) dd fun h' dd' hs=>h _ ?_
  have he:∃ q,h'.get? a=some q:=let ⟨q,_,_,hq,_⟩:=dd';⟨q,hq⟩
  exact d_write I (by rw [e];exact True.intro) hs he (dk_new hl hd (rel.put k rv) dd')
 ·subst ey eH
  cases (show u=Value.ref b from ry)
  obtain ⟨z,hd,xs,rel,dd⟩:=dt_of I.hok e
  have hz:xs.length≤sizeLine:=by rw [← Paired.length rel];exact z
  have hl:(putK kvs k v).length≤sizeLine:=by have:=length_putK kvs k v;omega
  refine wpAny_setItem_heap (hsz:=hz) (tupleKind_room_in1 hu) (key_of I.hok eb) dd fun h' dd' hs=>h _ ?_
  obtain ⟨q,es,ep,hq,h2,h3,h4,_,h5⟩:=dd'
  refine d_write I (by rw [e];exact True.intro) hs ⟨q,hq⟩ ⟨hl,hd,_,(rel.put k eb rv).keeps fun c ys ec=>?_,q,es,ep,hq,h2,h3,h4,h5⟩
  rw [upd_ne (ne_of ec e (fun z=>nomatch z))]
  exact ec
end
section
variable {X:Cx} {pins:List (Addr × Obj)} {σ:St} {H:Hp} {s:Shared} {a:Addr} {kvs:List (Key × V)} {k:Key} {u:Value} {A:Around} {E:Value→Shared→Prop}
end
def NoSl (i:Expr):Prop:=∀ ov iv,subscripted i false ov iv=operate [ov,iv] (getItem ov iv)
theorem subD_of {prog:Program} {w:World} {A:Around} {E:Value→Shared→Prop} {s:Shared} {env:Env} {value slice:Expr} {pos:Pos} {T id:String} {Q:Value→Shared→Prop}
  (hl:typeLookup (.type T) "__getitem__" = pure (some (.builtin id))) (hs:NoSl slice)
  (h:wpAny (model prog w) A (eval value env) (fun o s₁=>wpAny (model prog w) A (eval slice env) (fun i s₂=>s₂.TypeIs o T∧wpAny (model prog w) A (getItem o i) Q E s₂) E s₁) E s) :
  wpAny (model prog w) A (eval (.Subscript value slice pos) env) Q E s:=by
 refine Subscript_ (wpAny_mono h (fun o s₁ h₁=>wpAny_mono h₁ (fun i s₂ h₂=>?_) fun _ _ x=>x) fun _ _ x=>x)
 obtain ⟨hT,h₂⟩:=h₂
 unfold subscriptTail
 refine wpAny_bind ?_
 rw [getitemInPython_of_ne hT.not_modules]
 refine wpAny_bind (wpAny_specialOf hT hl ?_)
 have fin:wpAny (model prog w) A (subscripted slice false o i) (fun r s₃=>wpAny (model prog w) A (letTemporaryGo value o r >>= fun _=>pure r) Q E s₃) E s₂:=by
  rw [hs o i]
  exact wpAny_operating (wpAny_mono h₂ (fun r s₃ h₃=>wpAny_bind (wpAny_letTemporaryGo (wpAny_pure h₃))) fun _ _ x=>x)
 first
  | exact wpAny_pure (wpAny_bind fin)
  | exact wpAny_bind (wpAny_pure (wpAny_bind fin))
  | exact wpAny_bind fin
theorem dict_typeIs {X:Cx} {pins:List (Addr × Obj)} {σ:St} {H:Hp} {s:Shared} {a:Addr} {y:V} {o:Option V} (I:Inv X pins σ H s) (g:DGet H a y o):s.TypeIs (.ref a) "dict":=by
 rcases g with ⟨kvs,k,e,_,_⟩ | ⟨kvs,k,b,e,_,_,_⟩
 ·obtain ⟨_,_,vs,_,dd⟩:=dk_rd I.hok e
  exact dd.typeIs
 ·obtain ⟨_,_,xs,_,dd⟩:=dt_rd I.hok e
  exact dd.typeIs
def tDGet (td ty:TE):TE:=fun σ H Q=>td σ H fun x H1=>ty σ H1 fun y H2=>∃ a v,x=.ref a∧DGet H2 a y (some v)∧Q v H2
def tDIn (ty td:TE):TE:=fun σ H Q=>ty σ H fun y H1=>td σ H1 fun x H2=>∃ a o,x=.ref a∧DGet H2 a y o∧Q (.bl o.isSome) H2
def tDNotIn (ty td:TE):TE:=fun σ H Q=>ty σ H fun y H1=>td σ H1 fun x H2=>∃ a o,x=.ref a∧DGet H2 a y o∧Q (.bl (!o.isSome)) H2
def sDPut (td ty tv:TE):TS:=fun D σ H=>tv σ H fun v H1=>td σ H1 fun x H2=>ty σ H2 fun y H3=>∃ a H4,x=.ref a∧DPut H3 a y v H4∧D.nx σ H4
section
variable {X:Cx} {o i e value:Expr} {pos pos' tpos:Pos} {td ty tv:TE}
theorem pe_dget (hu:X.A.units+1<cLine) (ho:PE X o td) (hi:PE X i ty) (hs:NoSl i):PE X (.Subscript o i pos) (tDGet td ty):=by
 intro pins s σ H Q I h
 refine subD_of PySem.F.slot_dict_getitem.lookup hs (thn (ho pins s σ H _ I h) fun u s1 ⟨x,H1,I1,rx,q1⟩=>thn (hi pins s1 σ H1 _ I1 q1) fun iv s2 ⟨y,H2,I2,ry,a,v,ex,g,q2⟩=>?_)
 subst ex
 obtain rfl:u=Value.ref a:=rx
 exact ⟨dict_typeIs I2 g,d_getItem hu I2 g ry fun w' s3 I3 rw'=>⟨v,H2,I3,rw',q2⟩⟩
theorem pc_din (hu:X.A.units+1<cLine) (hi:PE X i ty) (ho:PE X o td):PC X .In i o (tDIn ty td):=by
 intro pins s σ H Q I h
 refine thn (hi pins s σ H _ I h) fun iv s1 ⟨y,H1,I1,ry,q1⟩=>thn (ho pins s1 σ H1 _ I1 q1) fun u s2 ⟨x,H2,I2,rx,a,ov,ex,g,q2⟩=>?_
 subst ex
 obtain rfl:u=Value.ref a:=rx
 exact d_in hu I2 g ry fun s3 I3=>⟨.bl ov.isSome,H2,I3,rfl,q2⟩
theorem pc_dnotin (hu:X.A.units+1<cLine) (hi:PE X i ty) (ho:PE X o td):PC X .NotIn i o (tDNotIn ty td):=by
 intro pins s σ H Q I h
 refine thn (hi pins s σ H _ I h) fun iv s1 ⟨y,H1,I1,ry,q1⟩=>thn (ho pins s1 σ H1 _ I1 q1) fun u s2 ⟨x,H2,I2,rx,a,ov,ex,g,q2⟩=>?_
 subst ex
 obtain rfl:u=Value.ref a:=rx
 exact d_notIn hu I2 g ry fun s3 I3=>⟨.bl (!ov.isSome),H2,I3,rfl,q2⟩
theorem ps_dput (hu:X.A.units+1<cLine) (ho:PE X o td) (hi:PE X i ty) (hv:PE X value tv) (hs:swapsWith value (some (.Subscript o i pos')) pos.line X.env=pure false) :
  PS X (.Assign [.Subscript o i pos'] value pos) (sDPut td ty tv):=by
 intro pins s σ H D I h
 refine wpAny_Assign_Subscript (thn (hv pins s σ H _ I h) fun r s1 ⟨v,H1,I1,rv,q1⟩=>thn (ho pins s1 σ H1 _ I1 q1) fun u s2 ⟨x,H2,I2,rx,q2⟩=>thn (hi pins s2 σ H2 _ I2 q2) fun iv s3 ⟨y,H3,I3,ry,a,H4,ex,g,q3⟩=>?_) hs
 subst ex
 obtain rfl:u=Value.ref a:=rx
 exact d_setItem hu I3 g ry rv fun s4 I4=>⟨σ,H4,I4,q3⟩
end
theorem dk_empty {P:Program} {w:World} {H:Hp} (h:Heap) (hb:sysModules<h.objs.size):ObjOk P w H (h.push { cls:=.type "dict",data:=.dict #[] }) h.objs.size (.dK []):=
 ⟨Nat.zero_le _,beq_eq_false_iff_ne.mpr (Ne.symm (Nat.ne_of_lt hb)),[],.nil,Heap.DictOf.new h⟩
section
variable {X:Cx} {pos:Pos}
end
def tPairs:List (TE × TE)→St→Hp→(List (V × V)→Hp→Prop)→Prop
 | [],_,H,Q=>Q [] H
 | (tk,tv)::r,σ,H,Q=>tk σ H fun x H1=>tv σ H1 fun y H2=>tPairs r σ H2 fun ps H3=>Q ((x,y)::ps) H3
abbrev VV:List (V × V)→List (Value × Value)→Prop:=Paired fun p q=>RelV p.1 q.1∧RelV p.2 q.2
def PPs (X:Cx) (pos:Pos) (keys:List (Option Expr)) (values:List Expr) (trs:List (TE × TE)):Prop:=
 ∀ (pins:List (Addr × Obj)) (s:Shared) (σ:St) (H:Hp) (Q:List (V × V)→Hp→Prop),Inv X pins σ H s→tPairs trs σ H Q→
  wpAny (model X.prog X.w) X.A (evalPairs (pairTrees keys values X.env pos)) (fun vs s'=>∃ ps H',Inv X pins σ H' s'∧VV ps vs∧Q ps H') X.xe s
theorem pps_nil {X:Cx} {pos:Pos}:PPs X pos [] [] []:=fun pins s σ H Q I h=>pairTrees_nil_walk ⟨[],H,I,.nil,h⟩
theorem pps_cons {X:Cx} {pos:Pos} {k v:Expr} {ks:List (Option Expr)} {vs:List Expr} {tk tv:TE} {trs:List (TE × TE)} (hk:PE X k tk) (hv:PE X v tv) (hr:PPs X pos ks vs trs) :
  PPs X pos (some k::ks) (v::vs) ((tk,tv)::trs):=fun pins s σ H Q I h=>
 pairTrees_cons_walk (thn (hk pins s σ H _ I h) fun u s1 ⟨x,H1,I1,rx,q1⟩=>thn (hv pins s1 σ H1 _ I1 q1) fun w2 s2 ⟨y,H2,I2,ry,q2⟩=>
  thn (hr pins s2 σ H2 _ I2 q2) fun ws s3 ⟨ps,H3,I3,rel,q3⟩=>⟨(x,y)::ps,H3,I3,.cons ⟨rx,ry⟩ rel,q3⟩)
def mergeK (kvs more:List (Key × V)):List (Key × V):=more.foldl (fun acc kv=>putK acc kv.1 kv.2) kvs
theorem KV.merge:∀ {more:List (Key × V)} {rs:List (Key × Value)} {kvs:List (Key × V)} {vs:List (Key × Value)},KV more rs→KV kvs vs→KV (mergeK kvs more) (merged vs rs):=by
 intro more rs kvs vs r
 unfold KV at r
 induction r generalizing kvs vs with
 | nil=>intro q;exact q
 | @cons p q ps qs h t ih=>
  intro r0
  have e:KV (putK kvs p.1 p.2) (stored vs q.1 q.2):=by
   have:=r0.put p.1 h.2
   rw [← h.1];exact this
  exact ih e
theorem length_mergeK:∀ (more kvs:List (Key × V)),(mergeK kvs more).length≤kvs.length+more.length
 | [],kvs=>by show kvs.length≤kvs.length+0;omega
 | p::r,kvs=>by
  have h1:=length_mergeK r (putK kvs p.1 p.2)
  have h2:=length_putK kvs p.1 p.2
  show (mergeK (putK kvs p.1 p.2) r).length≤_
  rw [List.length_cons];omega
theorem carries_of {P:Program} {w:World}:∀ {kvs:List (Key × V)} {ws:List (Value × Value)},VV (kvs.map fun kv=>(kV kv.1,kv.2)) ws→∃ rs,Carries (mixKind P w) ws rs∧KV kvs rs
 | [],_,r=>by rw [List.map_nil] at r;cases r;exact ⟨[],True.intro,.nil⟩
 | p::kvs,_,r=>by
  rw [List.map_cons] at r
  cases r with
  | @cons a b as bs h t=>
   obtain ⟨rs,c,q⟩:=carries_of (P:=P) (w:=w) t
   obtain ⟨b1,b2⟩:=b
   exact ⟨(p.1,b2)::rs,⟨kV_is h.1,rfl,c⟩,.cons ⟨rfl,h.2⟩ q⟩
def tDisp (trs:List (TE × TE)):TE:=fun σ H Q=>∀ p,H p=none→tPairs trs σ (upd H p (.dK [])) fun ps H2=>H2 p=some (.dK [])∧∃ kvs:List (Key × V),ps=kvs.map (fun kv=>(kV kv.1,kv.2))∧kvs.length≤15∧Q (.ref p) (upd H2 p (.dK (mergeK [] kvs)))
theorem pe_disp {X:Cx} {pos:Pos} {keys:List (Option Expr)} {values:List Expr} {trs:List (TE × TE)} (h:PPs X pos keys values trs) (hall:keys.all (·.isSome)=true) (hl:keys.length=values.length) (h0:keys ≠ [])
  (h15:keys.length≤15):PE X (.Dict keys values pos) (tDisp trs):=by
 intro pins s σ H Q I q
 have hn:=I.hok.fresh (Nat.le_refl s.heap.objs.size)
 have I1:=I.laid (a:=s.heap.objs.size) (o:=.dK []) (h':=s.heap.push { cls:=.type "dict",data:=.dict #[] }) (t':=s.toks) (fun _ _ q=>Heap.get?_push_of_some _ q) (Nat.le_refl _) (dk_empty s.heap I.big)
 refine wpAny_Dict_walk (knd:=mixKind X.prog X.w) hall hl h0 h15 (thn (h pins _ σ _ _ I1 (q _ hn)) fun ws s2 ⟨ps,H2,I2,rel,e,kvs,ep,lk,q2⟩=>?_)
 subst ep
 obtain ⟨rs,c,rk⟩:=carries_of (P:=X.prog) (w:=X.w) rel
 obtain ⟨z,hd,vs0,r0,dd⟩:=dk_of I2.hok e
 cases r0
 refine ⟨rs,c,dd,fun h' dd' hs=>⟨.ref s.heap.objs.size,_,?_,rfl,q2⟩⟩
 have hz:(mergeK [] kvs).length≤sizeLine:=by
  have h1:=length_mergeK kvs []
  rw [List.length_nil] at h1
  rw [sizeLine_eq];omega
 have he:∃ q,h'.get? s.heap.objs.size=some q:=let ⟨q,_,_,hq,_⟩:=dd';⟨q,hq⟩
 exact d_write I2 (by rw [e];exact True.intro) hs he (dk_new hz hd (rk.merge .nil) dd')
structure M1 (X:Cx) (o:Expr) (m:Str) (apos:Pos) (e:Expr) (cpos:Pos):Prop where
 base:attributeBase o m X.env (eval o X.env)=eval o X.env
 few:((backTo cpos (starEach [e] X.env)).all (fun x=>!x.1) && (backToKw cpos (keywordEach [] X.env)).all (fun x=>x.1.isSome)
  && decide (([e]:List Expr).length+([]:List Keyword).length+(if ([]:List Keyword).isEmpty then 0 else 1)<30))=true
 line:(apos.endLine == cpos.line)=true
 trees:backTo cpos (starEach [e] X.env)=[(false,eval e X.env)]
structure M2 (X:Cx) (o:Expr) (m:Str) (apos:Pos) (e f:Expr) (cpos:Pos):Prop where
 base:attributeBase o m X.env (eval o X.env)=eval o X.env
 few:((backTo cpos (starEach [e,f] X.env)).all (fun x=>!x.1) && (backToKw cpos (keywordEach [] X.env)).all (fun x=>x.1.isSome)
  && decide (([e,f]:List Expr).length+([]:List Keyword).length+(if ([]:List Keyword).isEmpty then 0 else 1)<30))=true
 line:(apos.endLine == cpos.line)=true
 trees:backTo cpos (starEach [e,f] X.env)=[(false,eval e X.env),(false,eval f X.env)]
section
variable {X:Cx} {pins:List (Addr × Obj)} {σ:St} {H:Hp} {s:Shared} {a:Addr} {y d:V} {u r:Value} {o:Option V} {A:Around} {E:Value→Shared→Prop}
end
section
variable {X:Cx} {o e f:Expr} {apos cpos:Pos} {td ty tx:TE}
end
section
variable {X:Cx} {pins:List (Addr × Obj)} {σ:St} {H:Hp} {s:Shared} {a:Addr} {kvs:List (Key × V)} {A:Around} {E:Value→Shared→Prop}
end
section
variable {X:Cx} {pins:List (Addr × Obj)} {σ:St} {H:Hp} {s:Shared} {a:Addr} {y:V} {u:Value} {A:Around} {E:Value→Shared→Prop}
end
end L2
namespace L2
open PySem PySem.Spec PyProof.Rows
section
variable {X:Cx}
end
section
variable {κ:Type} [DecidableEq κ]
end
end L2
namespace L2
open PySem PySem.Spec PyProof.Rows
def noX:Value→Shared→Prop:=fun _ _=>False
def closL (env:Env):List (Str × NameKind)→List (Str × Addr)→List (Str × Addr)
 | [],acc=>acc
 | (n,k)::r,acc=>closL env r (if (k == NameKind.free)=true then (n,(env.cells.lookup n).getD 0)::acc else acc)
theorem closL_sub {env:Env}:∀ {names:List (Str × NameKind)} {acc:List (Str × Addr)},(∀ x,(x,NameKind.free) ∈ names→∃ c,env.cells.lookup x=some c)→(∀ x c,acc.lookup x=some c→env.cells.lookup x=some c)→
  ∀ x c,(closL env names acc).lookup x=some c→env.cells.lookup x=some c
 | [],acc,_,ha,x,c,h=>ha x c h
 | (n,k)::r,acc,hf,ha,x,c,h=>by
  refine closL_sub (names:=r) (fun y hy=>hf y (List.mem_cons_of_mem _ hy)) (fun y d hd=>?_) x c h
  split at hd
  ·rename_i hk
   have hk':k=NameKind.free:=by simpa using hk
   subst hk'
   obtain ⟨e,he⟩:=hf n List.mem_cons_self
   by_cases hyn:y=n
   ·subst hyn
    rw [List.lookup_cons_self,he] at hd
    rw [he];exact hd
   ·rw [List.lookup_cons,beq_eq_false_iff_ne.mpr hyn] at hd
    exact ha y d hd
  ·exact ha y d hd
theorem closL_has {env:Env}:∀ {names:List (Str × NameKind)} {acc:List (Str × Addr)} {x:Str},((x,NameKind.free) ∈ names∨∃ c,acc.lookup x=some c)→∃ c,(closL env names acc).lookup x=some c
 | [],acc,x,h=>by
  rcases h with h | h
  ·exact absurd h (by simp)
  ·exact h
 | (n,k)::r,acc,x,h=>by
  refine closL_has (names:=r) ?_
  rcases h with h | ⟨c,h⟩
  ·rcases List.mem_cons.mp h with e | h
   ·cases e
    refine .inr ⟨(env.cells.lookup n).getD 0,?_⟩
    rw [if_pos (by rfl),List.lookup_cons_self]
   ·exact .inl h
  ·refine .inr ?_
   split
   ·by_cases hyn:x=n
    ·subst hyn
     exact ⟨_,List.lookup_cons_self⟩
    ·refine ⟨c,?_⟩
     rw [List.lookup_cons,beq_eq_false_iff_ne.mpr hyn]
     exact h
   ·exact ⟨c,h⟩
theorem closure_run {env:Env} (f:Str × NameKind→List (Str × Addr)→Sem (ForInStep (List (Str × Addr))))
  (hf:∀ n k c,f (n,k) c=(if (k == NameKind.free)=true then (do let a ← cellOf env n;pure (ForInStep.yield ((n,a)::c))) else pure (ForInStep.yield c))) :
  ∀ (names:List (Str × NameKind)) (acc:List (Str × Addr)),(∀ x,(x,NameKind.free) ∈ names→∃ c,env.cells.lookup x=some c)→forIn names acc f=(pure (closL env names acc):Sem _)
 | [],acc,_=>rfl
 | (n,k)::r,acc,h=>by
  have ih:=fun acc=>closure_run f hf r acc fun x hx=>h x (List.mem_cons_of_mem _ hx)
  rw [List.forIn_cons,hf]
  by_cases hk:(k == NameKind.free)=true
  ·have hk':k=NameKind.free:=by simpa using hk
   subst hk'
   obtain ⟨c,hc⟩:=h n List.mem_cons_self
   rw [if_pos hk]
   unfold cellOf closL
   rw [hc,if_pos hk]
   exact ih _
  ·rw [if_neg hk]
   unfold closL
   rw [if_neg hk]
   exact ih _
theorem closure_ok {scope:Scope} {env:Env} (h:∀ x,(x,NameKind.free) ∈ scope.names→∃ c,env.cells.lookup x=some c):closureFor scope env=pure (closL env scope.names []):=by
 unfold closureFor
 dsimp only
 rw [closure_run (env:=env) _ (fun n k c=>?_) scope.names [] h]
 ·rfl
 ·rfl
theorem relabel_lookup {env:Env} {x:Str}:∀ {names:List (Str × NameKind)},
  (names.map fun (n,k)=>if (k == NameKind.free && env.scope.kind == .function && env.kindOf n == some .cell)=true then (n,NameKind.cell) else (n,k)).lookup x =
   (names.lookup x).map fun k=>if (k == NameKind.free && env.scope.kind == .function && env.kindOf x == some .cell)=true then NameKind.cell else k
 | []=>rfl
 | (n,k)::r=>by
  have ih:=@relabel_lookup env x r
  rw [List.map_cons]
  by_cases hx:x=n
  ·subst hx
   dsimp only
   rw [List.lookup_cons_self (b:=k),Option.map_some]
   split
   ·rw [List.lookup_cons_self]
   ·rw [List.lookup_cons_self]
  ·have hb:(x == n)=false:=beq_eq_false_iff_ne.mpr hx
   dsimp only
   rw [List.lookup_cons (k:=n) (b:=k),hb]
   dsimp only
   rw [← ih]
   split
   ·rw [List.lookup_cons,hb]
   ·rw [List.lookup_cons,hb]
structure LcZ where
 L:Addr
 cl:List (Str × Addr)
 ex:List Addr
 s₀:Shared
 H₀:Hp
def lcCx (X:Cx) (scope:Scope) (own:List Str) (fv:List Nat) (z:LcZ):Cx where
 prog:=X.prog
 w:=X.w
 K:=X.K
 mg:=X.mg
 base:=X.base
 A:=X.A
 N:=own++fv.map fun i=>X.N.getD i Str.empty
 s₀:=z.s₀
 H₀:=z.H₀
 env:=compEnvC scope z.cl z.L X.env
 outer:=X.stack
 stack:=X.stack
 ex:=z.ex
 fn:=fun _=>false
 calm:=X.calm
 pn:=[]
 xe:=noX
structure LcScope (X:Cx) (scope:Scope) (own:List Str) (fv:List Nat):Prop where
 kind:scope.kind=.function
 nocell:∀ y ∈ scope.names,y.2 ≠ .cell
 names:∀ y ∈ scope.names,y.2=.local→scope.names.lookup y.1=some .local
 free:∀ y ∈ scope.names,y.2=.free→X.env.kindOf y.1=some .cell∨X.env.kindOf y.1=some .free
 nd:(own++fv.map fun i=>X.N.getD i Str.empty).Nodup
 fvs:∀ i ∈ fv,i<X.N.length∧scope.names.lookup (X.N.getD i Str.empty)=some .free
def lcStart (own:List Str) (fv:List Nat) (σ:St):St:=(own.map fun _=>none)++fv.map fun i=>(σ[i]?).join
theorem compLoop_any {prog:Program} {w:World} {A:Around} {R:Result→Shared→Prop} {s:Shared} {elt target iter:Expr} {ifs:List Expr} {scope:Scope} {pos:Pos} {it acc:Value} {env:Env} (I:Nat→Shared→Prop)
  (turn:∀ n s,I n s→wpAny (model prog w) A (pyNext it) (fun r s₁=>match r with
   | none=>R (.ok .next) s₁
   | some v=>wpAny (model prog w) A (letOwnedTupleGo target it v) (fun _ s₁=>wpAny (model prog w) A (assign target env v) (fun _ s₂=>
     wpAny (model prog w) A (forIn ifs true fun c r=>if r=true then do let ok ← isTrue c env (eval c env);pure (ForInStep.yield ok) else pure (ForInStep.yield r)) (fun ok s₃=>
      if ok=true then wpAny (model prog w) A (eval elt env) (fun x s₄=>
       wpAny (model prog w) A (call (.builtin "list.append") [acc,x]) (fun _ s₅=>∃ m,m<n∧I m s₅) noX s₄) noX s₃
      else ∃ m,m<n∧I m s₃) noX s₂) noX s₁) noX s₁) noX s)
  (n:Nat) (h:I n s) :
  codeAny (model prog w) A (.compLoop (.ListComp elt [⟨target,iter,ifs,0⟩] scope pos) 0 it acc env) R s:=by
 refine codeAny_loop rfl I (fun n s hI=>?_) n h
 show wpAny _ A ((compTurn (.ListComp elt [⟨target,iter,ifs,0⟩] scope pos) 0 it acc env).onRaise (fun x=>do noteFrame x env;theTreesLotGoes x)) _ _ s
 refine wpAny_noted ?_
 rw [compTurn_list]
 refine wpAny_bind (wpAny_standAt (wpAny_bind (wpAny_mono (turn n s hI) (fun r s₁ h₁=>?_) fun _ _ h'=>h'.elim)))
 cases r with
 | none=>exact wpAny_pure h₁
 | some v=>
  refine wpAny_bind (wpAny_mono h₁ (fun _ s₁ h₁=>?_) fun _ _ h'=>h'.elim)
  refine wpAny_bind (wpAny_mono h₁ (fun _ s₂ h₂=>wpAny_bind (wpAny_mono h₂ (fun ok s₃ h₃=>?_) fun _ _ h'=>h'.elim)) fun _ _ h'=>h'.elim)
  cases ok with
  | false=>exact wpAny_pure ⟨rfl,h₃⟩
  | true=>
   exact wpAny_bind (wpAny_bind (wpAny_mono h₃ (fun x s₄ h₄=>wpAny_bind (wpAny_mono h₄ (fun _ s₅ h₅=>wpAny_pure (wpAny_pure ⟨rfl,h₅⟩)) fun _ _ h'=>h'.elim)) fun _ _ h'=>h'.elim))
section
variable {X:Cx} {pins:List (Addr × Obj)} {σ:St} {H:Hp} {s:Shared}
theorem Inv.other {h':Heap} {L:Addr} {n:Nat} (I:Inv X pins σ H s) (hb:X.s₀.heap.objs.size≤L) (h0:H L=none) (h1:L ≠ X.env.locals) (h2:∀ x c,X.env.cells.lookup x=some c→c ≠ L) (h3:∀ p ∈ X.pn++pins,p.1 ≠ L)
  (k:Heap.SameBut L s.heap h'):Inv X pins σ H { s with heap:=h' }:=
 I.turned (t':=s.toks) (fun b o hb e=>(k.2 b hb).trans e) h0 h1 (.inr hb) h2 h3
theorem lc_ok {scope:Scope} {own:List Str} {fv:List Nat} {fp:List Addr} (I:Inv X pins σ H s) (S:LcScope X scope own fv) (hf:∀ b ∈ fp,FpOk X pins H b) (hsz:∀ b ∈ fp,b<s.heap.objs.size) :
  (lcCx X scope own fv ⟨s.heap.objs.size,closL X.env scope.names [],fp,s,H⟩).Ok:=by
 have hfr:∀ x,(x,NameKind.free) ∈ scope.names→∃ c,X.env.cells.lookup x=some c:=fun x hx=>I.ok.has x (S.free _ hx rfl)
 have sub:=closL_sub (env:=X.env) (names:=scope.names) (acc:=[]) hfr (fun x c z=>by simp at z)
 refine ⟨I.ok.mod,S.kind,I.ok.glob,I.ok.blt,Nat.le_refl _,fun x y c h1 h2=>I.ok.inj x y c (sub _ _ h1) (sub _ _ h2),fun x hx=>?_,fun x c hx=>?_,I.ok.hd,I.ok.frames,.inl rfl,fun b hb=>⟨?_,fun x c e=>?_⟩,I.bs,Nat.le_trans I.ok.bsz I.sz,fun b o e hb=>?_,fun b hb hb'=>?_,I.stack,I.stkFree⟩
 ·refine closL_has (.inl ?_)
  have hx':(relabel scope X.env).names.lookup x=some .cell∨(relabel scope X.env).names.lookup x=some .free:=hx
  unfold relabel at hx'
  rw [relabel_lookup] at hx'
  cases e:scope.names.lookup x with
  | none=>rw [e] at hx';simp at hx'
  | some k=>
   have hm:=PySem.mem_of_lookup e
   have nc:=S.nocell _ hm
   rw [e] at hx'
   simp only [Option.map_some,Option.some.injEq] at hx'
   cases k with
   | free=>exact hm
   | cell=>exact absurd rfl nc
   | _=>simp at hx'
 ·cases hx
 ·exact Nat.ne_of_lt (hsz b hb)
 ·exact (hf b hb).2.2.2.2.1 x c (sub _ _ e)
 ·rcases (hf b hb).2.2.2.1 with z | z
  ·exact I.ok.noex b o e z
  ·exact absurd (Nat.lt_of_lt_of_le (Heap.lt_size (I.ok.bs b o e).1) z) (Nat.lt_irrefl _)
 ·rcases List.mem_cons.mp (I.stkSub b hb') with z | z
  ·exact (hf b hb).2.1 z
  ·exact (hf b hb).2.2.1 z
theorem lc_start {scope:Scope} {own:List Str} {fv:List Nat} {fp:List Addr} {h₁:Heap} {tk:Nat} (I:Inv X pins σ H s) (S:LcScope X scope own fv) (hf:∀ b ∈ fp,FpOk X pins H b) (hsz:∀ b ∈ fp,b<s.heap.objs.size)
  (hns:h₁.Ns s.heap.objs.size (fun _=>none)) (hk:∀ b o,s.heap.get? b=some o→h₁.get? b=some o) :
  Inv (lcCx X scope own fv ⟨s.heap.objs.size,closL X.env scope.names [],fp,s,H⟩) [] (lcStart own fv σ) H { s with heap:=h₁,toks:=tk }:=by
 have hfr:∀ x,(x,NameKind.free) ∈ scope.names→∃ c,X.env.cells.lookup x=some c:=fun x hx=>I.ok.has x (S.free _ hx rfl)
 have sub:=closL_sub (env:=X.env) (names:=scope.names) (acc:=[]) hfr (fun x c z=>by simp at z)
 refine ⟨lc_ok I S hf hsz,rfl,I.bare,Un.kept hk,⟨_,hns,fun i x v h1 h2 h3=>?_⟩,fun x c e=>?_,I.hok.fresh (Nat.le_refl _),fun x c e=>I.freeC x c (sub _ _ e),fun p hp=>absurd (show p ∈ ([]:List (Addr × Obj)) from hp) (by simp),I.hok.kept hk,?_⟩
 ·have h1:(own++fv.map fun i=>X.N.getD i Str.empty)[i]?=some x:=h1
  unfold lcStart at h2
  have hi:own.length≤i:=by
   apply Nat.le_of_not_lt
   intro hi
   rw [List.getElem?_append_left (by simpa using hi),List.getElem?_map] at h2
   cases e:own[i]? with
   | none=>rw [e] at h2;cases h2
   | some z=>rw [e] at h2;cases h2
  rw [List.getElem?_append_right (by simpa using hi),List.length_map,List.getElem?_map] at h2
  rw [List.getElem?_append_right hi,List.getElem?_map] at h1
  cases e:fv[i - own.length]? with
  | none=>rw [e] at h1;cases h1
  | some j=>
   rw [e] at h1 h2
   have hj:=S.fvs j (List.mem_of_getElem? e)
   have h1:X.N.getD j Str.empty=x:=Option.some.inj h1
   have h2:(σ[j]?).join=some v:=Option.some.inj h2
   have h2':σ[j]?=some (some v):=by
    cases q:σ[j]? with
    | none=>rw [q] at h2;cases h2
    | some y=>rw [q] at h2;exact congrArg some h2
   have hx:X.N[j]?=some x:=by
    rw [List.getD_eq_getElem?_getD] at h1
    rw [List.getElem?_eq_getElem hj.1] at h1 ⊢
    exact congrArg some h1
   have hlk:scope.names.lookup x=some .free:=h1 ▸ hj.2
   have hmem:=PySem.mem_of_lookup hlk
   obtain ⟨m,hn,hl⟩:=id I.loc
   have hkd:=S.free _ hmem rfl
   obtain ⟨u,ru,lk⟩:=hl j x v hx h2' (by
    rcases hkd with z | z
    ·exact .inr (.inl z)
    ·exact .inr (.inr z))
   refine ⟨u,ru,?_⟩
   rcases lk with ⟨z,_⟩ | ⟨_,c,e1,z⟩
   ·rcases hkd with y | y
    ·have y':X.env.kindOf x=some .cell:=y
     rw [z] at y';cases y'
    ·have y':X.env.kindOf x=some .free:=y
     rw [z] at y';cases y'
   ·obtain ⟨c',e2⟩:=closL_has (env:=X.env) (names:=scope.names) (acc:=[]) (x:=x) (.inl hmem)
    have e3:=sub _ _ e2
    rw [e1] at e3
    cases e3
    obtain ⟨o,ho,hd⟩:=z
    refine .inr ⟨?_,c,e2,o,hk _ _ ho,hd⟩
    show (relabel scope X.env).names.lookup x=some .cell∨(relabel scope X.env).names.lookup x=some .free
    unfold relabel
    rw [relabel_lookup,hlk,Option.map_some]
    split
    ·exact .inl rfl
    ·exact .inr rfl
 ·obtain ⟨v,o,ho,hd⟩:=I.cell x c (sub _ _ e)
  exact ⟨v,o,hk _ _ ho,hd⟩
 ·unfold lcStart
  show _=(own++fv.map fun i=>X.N.getD i Str.empty).length
  rw [List.length_append,List.length_append,List.length_map,List.length_map,List.length_map]
theorem lc_back {scope:Scope} {own:List Str} {fv:List Nat} {fp:List Addr} {pins':List (Addr × Obj)} {σ':St} {H':Hp} {s':Shared} {cl:List (Str × Addr)} (I:Inv X pins σ H s) (hf:∀ b ∈ fp,FpOk X pins H b)
  (J:Inv (lcCx X scope own fv ⟨s.heap.objs.size,cl,fp,s,H⟩) pins' σ' H' s'):Inv X pins σ H' s':=
 I.call' (ch:=fp) J.os J.base J.hok J.bare fun b hb=>⟨(hf b hb).2.2.2.1,(hf b hb).2.1,(hf b hb).2.2.2.2.1,(hf b hb).2.2.2.2.2⟩
end
def PTs (X:Cx) (ifs:List Expr) (t:TT):Prop:=
 ∀ (pins:List (Addr × Obj)) (s:Shared) (σ:St) (H:Hp) (Q:Bool→Hp→Prop),Inv X pins σ H s→t σ H Q→
  wpAny (model X.prog X.w) X.A (forIn ifs true fun c r=>if r=true then do let ok ← isTrue c X.env (eval c X.env);pure (ForInStep.yield ok) else pure (ForInStep.yield r)) (TP X pins σ Q) X.xe s
def tTrue:TT:=fun _ H Q=>Q true H
theorem pts_nil {X:Cx}:PTs X [] tTrue:=fun pins s σ H Q I h=>wpAny_tests_nil ⟨H,I,h⟩
theorem pts_one {X:Cx} {c:Expr} {t:TT} (h:PT X c t):PTs X [c] t:=fun pins s σ H Q I hq=>wpAny_tests_one (h pins s σ H Q I hq)
def lcRun (own:List Str) (fv:List Nat) (wi:TI) (g:TG) (tc:TT) (te:TE) (K:Addr→Hp→Prop):St→Hp→Prop:=fun σ H=>wi σ H fun J H1=>∀ p,H1 p=none→
 ∃ W:Nat→Nat→St→Hp→Prop,(∃ m,W 0 m (lcStart own fv σ) (upd H1 p (.lst [])))∧∀ i m σ H,W i m σ H→
  (J.stop i H∧K p H)∨(J.go i H∧∃ N:St→Hp→Prop,(∀ σ' H',N σ' H'→∃ m',m'<m∧W (i+1) m' σ' H')∧∀ x H',J.yld i H x H'→g x σ H' fun σ2 H2=>tc σ2 H2 fun b H3=>
   if b=true then te σ2 H3 fun y H4=>∃ ys,H4 p=some (.lst ys)∧ys.length<sizeLine∧N σ2 (upd H4 p (.lst (ys++[y])))
   else N σ2 H3)
def tLc (own:List Str) (fv:List Nat) (wi:TI) (g:TG) (tc:TT) (te:TE):TE:=fun σ H Q=>lcRun own fv wi g tc te (fun p H'=>Q (.ref p) H') σ H
section
variable {X:Cx} {tg iter elt:Expr} {ifs:List Expr} {scope:Scope} {pos:Pos} {own:List Str} {fv:List Nat} {wi:TI} {g:TG} {tc:TT} {te:TE}
theorem lc_core {pins:List (Addr × Obj)} {s:Shared} {σ:St} {H:Hp} {K:Addr→Hp→Prop} {use:Option (Value→Sem Unit)} {Q:Value→Shared→Prop} {E:Value→Shared→Prop} (hc:X.calm=true) (S:LcScope X scope own fv) (hi:PI X tg iter wi)
  (hg:∀ z,PG (lcCx X scope own fv z) tg g) (ht:∀ z,PTs (lcCx X scope own fv z) ifs tc) (he:∀ z,PE (lcCx X scope own fv z) elt te)
  (I:Inv X pins σ H s) (h:lcRun own fv wi g tc te K σ H) (hxe:∀ e s,X.xe e s→E e s)
  (fin:∀ (p:Addr) (L:Addr) (H':Hp) (s':Shared) (m:Str→Option Value),Inv X pins σ H' s'→K p H'→s'.heap.Ns L m→X.s₀.heap.objs.size≤L→H' L=none→L ≠ X.env.locals→(∀ x c,X.env.cells.lookup x=some c→c ≠ L)→(∀ q ∈ X.pn++pins,q.1 ≠ L)→
   compPost (model X.prog X.w) X.A E use Q (.ref p) L (.ok .next) s') (hs:∀ x,foldedSetIterable iter X.env x=pure x:=by intro _;rfl) :
  wpAny (model X.prog X.w) X.A (comprehension (.ListComp elt [⟨tg,iter,ifs,0⟩] scope pos) scope X.env (firstIterPos [⟨tg,iter,ifs,0⟩] pos) (newList []) false (eval iter X.env) use) Q E s:=by
 have hfr:∀ x,(x,NameKind.free) ∈ scope.names→∃ c,X.env.cells.lookup x=some c:=fun x hx=>I.ok.has x (S.free _ hx rfl)
 refine wpAny_comprehension_free rfl hs (closure_ok hfr) S.kind S.names (wpAny_mono (hi pins s σ H _ I h) (fun v s1 h1=>wpAny_mono h1 (fun itv s2 h2=>?_) hxe) hxe)
 obtain ⟨it,fp,tn,J,H2,e,I2,T,st2,f2,q2⟩:=h2
 subst e
 -- the list
 refine wpAny_newObj_type ?_
 have fresh2:H2 s2.heap.objs.size=none:=I2.hok.fresh (Nat.le_refl _)
 have I3:Inv X pins σ (upd H2 s2.heap.objs.size (.lst [])) { s2 with heap:=s2.heap.push { cls:=.type "list",dict:=none,data:=.seq ([]:List Value).toArray } }:=
  I2.laid (t':=s2.toks) (fun b u e=>Heap.get?_push_of_some _ e) (Nat.le_refl _) ⟨Nat.zero_le _,[],0,.nil,Heap.get?_push_size _ rfl⟩
 obtain ⟨W,⟨m0,w0⟩,turn⟩:=q2 s2.heap.objs.size fresh2
 have lt2:∀ b ∈ fp,b<s2.heap.objs.size:=fun b hb=>by
  obtain ⟨o,e,_⟩:=T.obj 0 _ st2 b hb
  exact Heap.lt_size e
 have f3:∀ b ∈ fp,FpOk X pins (upd H2 s2.heap.objs.size (.lst [])) b:=fun b hb=>⟨by rw [upd_ne (Nat.ne_of_lt (lt2 b hb))];exact (f2 b hb).1,(f2 b hb).2⟩
 generalize hp:s2.heap.objs.size=p at *
 generalize hH3:upd H2 p (.lst [])=H3 at *
 have st3:tn 0 (s2.heap.push { cls:=.type "list",dict:=none,data:=.seq ([]:List Value).toArray }):=T.keep _ _ _ st2 fun b _ o e=>Heap.get?_push_of_some _ e
 have lt3:∀ b ∈ fp,b<(s2.heap.push { cls:=.type "list",dict:=none,data:=.seq ([]:List Value).toArray }).objs.size:=fun b hb=>by
  rw [Heap.size_push]
  have:=lt2 b hb
  rw [hp]
  exact Nat.lt_succ_of_lt this
 generalize hs3:({ s2 with heap:=s2.heap.push { cls:=.type "list",dict:=none,data:=.seq ([]:List Value).toArray } }:Shared)=s3 at *
 have st3':tn 0 s3.heap:=by rw [← hs3];exact st3
 have lt3':∀ b ∈ fp,b<s3.heap.objs.size:=by rw [← hs3];exact lt3
 -- the block's frame
 refine wpAny_newFunctionEnv S.nocell (by intro y hy;simp at hy) (fun h₁ hns₁ hsb₁=>?_) S.kind
 have keep1:∀ b o,s3.heap.get? b=some o→h₁.get? b=some o:=fun b o e=>hsb₁.extBut b o (Nat.ne_of_lt (Heap.lt_size e)) (Heap.get?_push_of_some _ e)
 have J0:Inv (lcCx X scope own fv ⟨s3.heap.objs.size,closL X.env scope.names [],fp,s3,H3⟩) [] (lcStart own fv σ) H3 { s3 with heap:=h₁,toks:=s3.toks+([]:List (Str × Value)).length }:=lc_start I3 S f3 lt3' hns₁ keep1
 have cOk:=lc_ok I3 S f3 lt3'
 generalize hz:(⟨s3.heap.objs.size,closL X.env scope.names [],fp,s3,H3⟩:LcZ)=z at *
 have st4:tn 0 h₁:=T.keep _ _ _ st3' fun b _ o e=>keep1 b o e
 have fr4:∀ b ∈ fp,H3 b=none:=fun b hb=>(f3 b hb).1
 have stat:∀ {H':Hp},(∀ b ∈ fp,H' b=none)→∀ b ∈ fp,FpOk (lcCx X scope own fv z) [] H' b:=fun hn b hb=>by
  subst hz
  refine ⟨hn b hb,(cOk.exf b hb).1,cOk.exfs b hb,.inl hb,(cOk.exf b hb).2,fun q hq=>absurd (show q ∈ ([]:List (Addr × Obj)) from hq) (by simp)⟩
 have envE:({ newEnv scope s3.heap.objs.size X.env.globals (closL X.env scope.names []) X.env.qual none .none (some X.env) builtinsNs with scope:=relabel scope X.env }:Env)=(lcCx X scope own fv z).env:=by
  subst hz
  rfl
 have loop:∀ sA:Shared,sA={ s3 with heap:=h₁,toks:=s3.toks+([]:List (Str × Value)).length }→codeAny (model X.prog X.w) X.A (.compLoop (.ListComp elt [⟨tg,iter,ifs,0⟩] scope pos) 0 (.ref it) (.ref p) (lcCx X scope own fv z).env)
   (compPost (model X.prog X.w) X.A E use Q (.ref p) s3.heap.objs.size) sA:=by
  rintro sA rfl
  refine compLoop_any (fun n s'=>∃ i σ' H',Inv (lcCx X scope own fv z) [] σ' H' s'∧tn i s'.heap∧(∀ b ∈ fp,H' b=none)∧W i n σ' H') ?_ m0 ⟨0,_,H3,J0,st4,fr4,w0⟩
  rintro n s4 ⟨i,σ4,H4,I4,st4,fr4,w4⟩
  rcases turn i n σ4 H4 w4 with ⟨stop,qn⟩ | ⟨go,Nx,hNx,step⟩
  ·refine thn (T.done (lcCx X scope own fv z) rfl rfl rfl hc i [] s4 σ4 H4 noX I4 (stat fr4) st4 stop) fun r s5 ⟨hr,I5⟩=>?_
   subst hr
   subst hz
   have I6:Inv X pins σ H4 s5:=lc_back I3 f3 I5
   obtain ⟨m,hn,_⟩:=id I5.loc
   have fpL:=I3.fpOk (H':=H4) (b:=s3.heap.objs.size) (Nat.le_refl _) I5.free
   refine fin p s3.heap.objs.size H4 s5 m I6 qn hn I3.sz fpL.1 fpL.2.1 fpL.2.2.2.2.1 fpL.2.2.2.2.2
  ·refine thn (T.item (lcCx X scope own fv z) rfl rfl rfl hc i [] s4 σ4 H4 noX I4 (stat fr4) st4 go) fun r s5 ⟨u,hr,h5⟩=>?_
   subst hr
   refine thn h5 fun _ s6 ⟨x,H6,I6,r6,y6,st6,fr6⟩=>?_
   have I6':=I6.pinned (stat fr6) (T.obj _ _ st6)
   have again:∀ {σ7:St} {H7:Hp} {s7:Shared} {m':Nat},m'<n→Inv (lcCx X scope own fv z) ([]++pinsAt fp s6.heap) σ7 H7 s7→W (i+1) m' σ7 H7→
     ∃ m,m<n∧∃ i σ' H',Inv (lcCx X scope own fv z) [] σ' H' s7∧tn i s7.heap∧(∀ b ∈ fp,H' b=none)∧W i m σ' H':=fun {σ7 H7 s7 m'} hm I7 w7=>by
    refine ⟨m',hm,i+1,σ7,H7,I7.unpinned,T.keep _ _ _ st6 fun b hb o e=>(I7.pin (b,o) (List.mem_append_right _ (List.mem_append_right _ (mem_pinsAt hb e)))).1,fun b hb=>?_,w7⟩
    obtain ⟨o,e,d⟩:=T.obj _ _ st6 b hb
    exact (I7.pin (b,o) (List.mem_append_right _ (List.mem_append_right _ (mem_pinsAt hb e)))).2.1
   refine thn (hg z _ s6 σ4 H6 x u _ I6' r6 (step x H6 y6)) fun _ s7 ⟨σ7,H7,I7,q7⟩=>?_
   refine thn (ht z _ s7 σ7 H7 _ I7 q7) fun b s8 ⟨H8,I8,q8⟩=>?_
   cases b with
   | false=>
    obtain ⟨m',hm,w8⟩:=hNx _ _ q8
    exact again hm I8 w8
   | true=>
    refine thn (he z _ s8 σ7 H8 _ I8 q8) fun v s9 ⟨y,H9,I9,r9,ys,ep,hl,w9⟩=>?_
    refine thn (mt_append (X:=lcCx X scope own fv z) _ s9 σ7 H9 (.ref p) [y] (.ref p) [v] (fun _ H'=>Nx σ7 H') I9 rfl (.cons r9 .nil) ⟨p,ys,y,rfl,rfl,ep,hl,w9⟩) fun _ s10 ⟨_,H10,I10,_,q10⟩=>?_
    obtain ⟨m',hm,w10⟩:=hNx _ _ q10
    exact again hm I10 w10
 rw [envE]
 exact codeAny_compStart_list (loop _ rfl) (T.self _ _ _ _ _ st4 (loop _ rfl))
theorem pe_lc (hc:X.calm=true) (S:LcScope X scope own fv) (hi:PI X tg iter wi) (hg:∀ z,PG (lcCx X scope own fv z) tg g) (ht:∀ z,PTs (lcCx X scope own fv z) ifs tc) (he:∀ z,PE (lcCx X scope own fv z) elt te)
  (hs:∀ x,foldedSetIterable iter X.env x=pure x:=by intro _;rfl):PE X (.ListComp elt [⟨tg,iter,ifs,0⟩] scope pos) (tLc own fv wi g tc te):=by
 intro pins s σ H Q I h
 rw [eval_ListComp]
 refine lc_core (use:=none) (K:=fun p H'=>Q (.ref p) H') hc S hi hg ht he I h (fun _ _ q=>q) (fun p L H' s' m I' q hn h1 h2 h3 h4 h5=>?_) hs
 exact ⟨m,hn,fun h' hs'=>⟨.ref p,H',I'.other (n:=0) h1 h2 h3 h4 h5 hs',rfl,q⟩⟩
theorem ps_lc {i:Nat} {x:Str} {pos' spos:Pos} (hN:X.N.Nodup) (hx:X.N[i]?=some x) (hl:X.env.scope.names.lookup x=some .local) (hc:X.calm=true) (S:LcScope X scope own fv) (hi:PI X tg iter wi) (hg:∀ z,PG (lcCx X scope own fv z) tg g)
  (ht:∀ z,PTs (lcCx X scope own fv z) ifs tc) (he:∀ z,PE (lcCx X scope own fv z) elt te) (hsw:swapsWith (.ListComp elt [⟨tg,iter,ifs,0⟩] scope pos) (some (.Name x pos')) spos.line X.env=pure true)
  (hs:∀ x,foldedSetIterable iter X.env x=pure x:=by intro _;rfl):PS X (.Assign [.Name x pos'] (.ListComp elt [⟨tg,iter,ifs,0⟩] scope pos) spos) (tAsg (tLc own fv wi g tc te) (gName i)):=by
 intro pins s σ H D I h
 rw [exec_Assign_Name_used _ _ _ _ hsw]
 refine wpAny_bind (wpAny_standAt (wpAny_bind ?_))
 show wpAny _ X.A (do let _ ← comprehension (.ListComp elt [⟨tg,iter,ifs,0⟩] scope pos) scope X.env _ (newList []) false (eval iter X.env) (some (assign (.Name x pos') X.env))) _ _ s
 refine wpAny_bind (wpAny_mono (lc_core (use:=some (assign (.Name x pos') X.env)) (K:=fun p H'=>D.nx (σ.set i (some (.ref p))) H') (Q:=fun _ s'=>SP X pins D .next s') (E:=X.xe) hc S hi hg ht he I h (fun _ _ q=>q) (fun p L H' s' m I' q hn h1 h2 h3 h4 h5=>?_) hs)
  (fun _ s' hq=>wpAny_pure (wpAny_pure hq)) fun _ _ e=>e)
 show wpAny _ X.A (assign (.Name x pos') X.env (.ref p)) _ _ _
 refine wpAny_assign_Name (store_ok2 (v:=.ref p) I' hN hx (.inl hl) rfl (fun s2 I2 ⟨a,hsb,ha⟩=>?_) (.inr hl))
 have hLa:L ≠ a:=by
  rcases ha with z | z
  ·rw [z];exact h3
  ·exact fun y=>h4 x a z y.symm
 exact ⟨m,hn.sameBut hsb hLa,fun h' hs'=>⟨_,H',I2.other (n:=0) h1 h2 h3 h4 h5 hs',q⟩⟩
end
theorem lc_range {lo:Int} {n:Nat} {g:TG} {tc:TT} {te:TE} {Kf:Hp→Prop} {σ0:St} {H0:Hp} {p:Addr} (Pv:Nat→St→Hp→Prop) (h0:Pv 0 σ0 H0)
  (hs:∀ i σ H,i<n→Pv i σ H→g (.int (lo+i)) σ H fun σ2 H2=>tc σ2 H2 fun b H3=>if b=true then te σ2 H3 fun y H4=>∃ ys,H4 p=some (.lst ys)∧ys.length<sizeLine∧Pv (i+1) σ2 (upd H4 p (.lst (ys++[y]))) else Pv (i+1) σ2 H3)
  (hd:∀ σ H,Pv n σ H→Kf H) :
  ∃ W:Nat→Nat→St→Hp→Prop,(∃ m,W 0 m σ0 H0)∧∀ i m σ H,W i m σ H→
   ((Itr lo n).stop i H∧Kf H)∨((Itr lo n).go i H∧∃ N:St→Hp→Prop,(∀ σ' H',N σ' H'→∃ m',m'<m∧W (i+1) m' σ' H')∧∀ x H',(Itr lo n).yld i H x H'→g x σ H' fun σ2 H2=>tc σ2 H2 fun b H3=>
    if b=true then te σ2 H3 fun y H4=>∃ ys,H4 p=some (.lst ys)∧ys.length<sizeLine∧N σ2 (upd H4 p (.lst (ys++[y]))) else N σ2 H3):=by
 refine ⟨fun i m σ H=>m=n - i∧i≤n∧Pv i σ H,⟨n,by simp,Nat.zero_le _,h0⟩,?_⟩
 rintro i m σ H ⟨rfl,hi,q⟩
 by_cases hlt:i<n
 ·refine .inr ⟨hlt,Pv (i+1),fun σ' H' p'=>⟨n - (i+1),by omega,rfl,hlt,p'⟩,fun x H' y=>?_⟩
  obtain ⟨e,y⟩:=y
  subst e y
  exact hs i σ _ hlt q
 ·have e:i=n:=by omega
  subst e
  exact .inl ⟨Nat.le_refl _,hd σ H q⟩
theorem lc_list {K:PySem.W.Frag} {a:Addr} {xs:List V} {g:TG} {tc:TT} {te:TE} {Kf:Hp→Prop} {σ0:St} {H0:Hp} {p:Addr} (Pv:Nat→St→Hp→Prop) (h0:Pv 0 σ0 H0) (hl:∀ i σ H,i≤xs.length→Pv i σ H→SqL K H a xs)
  (hs:∀ i x σ H,xs[i]?=some x→Pv i σ H→g x σ H fun σ2 H2=>tc σ2 H2 fun b H3=>if b=true then te σ2 H3 fun y H4=>∃ ys,H4 p=some (.lst ys)∧ys.length<sizeLine∧Pv (i+1) σ2 (upd H4 p (.lst (ys++[y]))) else Pv (i+1) σ2 H3)
  (hd:∀ σ H,Pv xs.length σ H→Kf H) :
  ∃ W:Nat→Nat→St→Hp→Prop,(∃ m,W 0 m σ0 H0)∧∀ i m σ H,W i m σ H→
   ((Itl K a).stop i H∧Kf H)∨((Itl K a).go i H∧∃ N:St→Hp→Prop,(∀ σ' H',N σ' H'→∃ m',m'<m∧W (i+1) m' σ' H')∧∀ x H',(Itl K a).yld i H x H'→g x σ H' fun σ2 H2=>tc σ2 H2 fun b H3=>
    if b=true then te σ2 H3 fun y H4=>∃ ys,H4 p=some (.lst ys)∧ys.length<sizeLine∧N σ2 (upd H4 p (.lst (ys++[y]))) else N σ2 H3):=by
 refine ⟨fun i m σ H=>m=xs.length - i∧i≤xs.length∧Pv i σ H,⟨xs.length,by simp,Nat.zero_le _,h0⟩,?_⟩
 rintro i m σ H ⟨rfl,hi,q⟩
 have hq:=hl i σ H hi q
 by_cases hlt:i<xs.length
 ·refine .inr ⟨⟨xs,xs[i],hq,by simp [hlt]⟩,Pv (i+1),fun σ' H' p'=>⟨xs.length - (i+1),by omega,rfl,hlt,p'⟩,fun x H' y=>?_⟩
  obtain ⟨e,y⟩:=y
  subst e
  exact hs i x σ _ (y xs hq) q
 ·have e:i=xs.length:=by omega
  subst e
  exact .inl ⟨⟨xs,hq,Nat.le_refl _⟩,hd σ H q⟩
theorem lc_tup {K:PySem.W.Frag} {a:Addr} {xs:List V} {g:TG} {tc:TT} {te:TE} {Kf:Hp→Prop} {σ0:St} {H0:Hp} {p:Addr} (Pv:Nat→St→Hp→Prop) (h0:Pv 0 σ0 H0) (hl:∀ i σ H,i≤xs.length→Pv i σ H→SqT K H a xs)
  (hs:∀ i x σ H,xs[i]?=some x→Pv i σ H→g x σ H fun σ2 H2=>tc σ2 H2 fun b H3=>if b=true then te σ2 H3 fun y H4=>∃ ys,H4 p=some (.lst ys)∧ys.length<sizeLine∧Pv (i+1) σ2 (upd H4 p (.lst (ys++[y]))) else Pv (i+1) σ2 H3)
  (hd:∀ σ H,Pv xs.length σ H→Kf H) :
  ∃ W:Nat→Nat→St→Hp→Prop,(∃ m,W 0 m σ0 H0)∧∀ i m σ H,W i m σ H→
   ((Itt K a).stop i H∧Kf H)∨((Itt K a).go i H∧∃ N:St→Hp→Prop,(∀ σ' H',N σ' H'→∃ m',m'<m∧W (i+1) m' σ' H')∧∀ x H',(Itt K a).yld i H x H'→g x σ H' fun σ2 H2=>tc σ2 H2 fun b H3=>
    if b=true then te σ2 H3 fun y H4=>∃ ys,H4 p=some (.lst ys)∧ys.length<sizeLine∧N σ2 (upd H4 p (.lst (ys++[y]))) else N σ2 H3):=by
 refine ⟨fun i m σ H=>m=xs.length - i∧i≤xs.length∧Pv i σ H,⟨xs.length,by simp,Nat.zero_le _,h0⟩,?_⟩
 rintro i m σ H ⟨rfl,hi,q⟩
 have hq:=hl i σ H hi q
 by_cases hlt:i<xs.length
 ·refine .inr ⟨⟨xs,xs[i],hq,by simp [hlt]⟩,Pv (i+1),fun σ' H' p'=>⟨xs.length - (i+1),by omega,rfl,hlt,p'⟩,fun x H' y=>?_⟩
  obtain ⟨e,y⟩:=y
  subst e
  exact hs i x σ _ (y xs hq) q
 ·have e:i=xs.length:=by omega
  subst e
  exact .inl ⟨⟨xs,hq,Nat.le_refl _⟩,hd σ H q⟩
def lcCheck (scope:Scope) (own:List Str) (fv:List Nat) (osc:Scope) (N:List Str):Bool:=
 decide (scope.kind=.function) && scope.names.all (fun y=>decide (y.2 ≠ .cell)) && scope.names.all (fun y=>decide (y.2 ≠ .local) || decide (scope.names.lookup y.1=some .local)) &&
 scope.names.all (fun y=>decide (y.2 ≠ .free) || (decide (osc.names.lookup y.1=some .cell) || decide (osc.names.lookup y.1=some .free))) && decide ((own++fv.map fun i=>N.getD i Str.empty).Nodup) &&
 fv.all fun i=>decide (i<N.length) && decide (scope.names.lookup (N.getD i Str.empty)=some .free)
theorem lcs {X:Cx} {scope:Scope} {own:List Str} {fv:List Nat} (h:lcCheck scope own fv X.env.scope X.N=true):LcScope X scope own fv:=by
 unfold lcCheck at h
 simp only [Bool.and_eq_true,decide_eq_true_eq,List.all_eq_true,Bool.or_eq_true] at h
 obtain ⟨⟨⟨⟨⟨h1,h2⟩,h3⟩,h4⟩,h5⟩,h6⟩:=h
 exact ⟨h1,h2,fun y hy e=>(h3 y hy).resolve_left fun z=>z e,fun y hy e=>(h4 y hy).resolve_left fun z=>z e,h5,h6⟩
theorem nd_of {N:List Str} (h:decide N.Nodup=true):N.Nodup:=of_decide_eq_true h
theorem pg_tupK {X:Cx} {K:PySem.W.Frag} {es:List Expr} {k n:Nat} {t:TGs} {pos:Pos} (hK:X.K=K) (hc:X.calm=true) (h:PGs X es t) (hn:(assignEach es X.env).length=n) (hst:(assignEach es X.env).findIdx? (·.1)=none):PG X (.Tuple es k pos) (gTup K n t):=by
 subst hK hn
 exact pg_tup hc h rfl hst
theorem pi_tupK {X:Cx} {K:PySem.W.Frag} {tg l:Expr} {tl:TE} (hK:X.K=K) (hl:PE X l tl):PI X tg l (iTup K tl):=by subst hK;exact pi_tup hl
theorem ix_tupK {X:Cx} {K:PySem.W.Frag} (hK:X.K=K):IxR X (rIxT K):=by subst hK;exact ix_tup
theorem ix_listK {X:Cx} {K:PySem.W.Frag} (hK:X.K=K):IxR X (rIxL K):=by subst hK;exact ix_list
theorem op_inK {X:Cx} {K:PySem.W.Frag} (hK:X.K=K):OpR X (compareOp .In) (rIn K false):=by subst hK;exact op_in_seq
theorem call_tupleK {X:Cx} {K:PySem.W.Frag} (hK:X.K=K):CallR X (.type "tuple") (fun xs H Q=>∃ p ys,xs=[.ref p]∧((SqL K H p ys∧∀ l,H l=none→Q (.ref l) (upd H l (.tup ys)))∨(SqT K H p ys∧Q (.ref p) H))):=by subst hK;exact call_tuple_of
end L2
namespace L2
open PySem PySem.Spec PyProof.Rows
structure T7 (byText:Bool) (t:SetTable) (n:Nat):Prop where
 mask:t.mask=7
 dum:t.dummies=#[]
 plain:t.plain=true
 led:t.led=!byText
 size:t.place.size=n
 up:t.place.toList.Pairwise (·<·)
 le:∀ j ∈ t.place.toList,j≤7
section
variable {byText:Bool} {t:SetTable} {n:Nat}
end
end L2
namespace L2
open PySem PySem.Spec PyProof.Rows
abbrev Ents:List Int→List (Int × Value)→Prop:=Paired fun k e=>∃ tk,e=(hashInt k,Value.int k tk)
def byT (w:World):Bool:=w.params.followText "set-order"
def SetI (w:World) (a:Addr) (zs:List Int) (h:Heap):Prop:=
 ∃ (es:Array (Int × Value)) (ep:Nat) (t:SetTable) (ks:List Int),h.get? a=some { cls:=.type "set",data:=.set es ep t }∧T7 (byT w) t es.size∧Ents ks es.toList∧ks.Perm zs∧zs.Nodup∧zs.length≤4
def addI (zs:List Int) (k:Int):List Int:=if k ∈ zs then zs else zs++[k]
section
variable {prog:Program} {w:World} {A:Around} {E:Value→Shared→Prop} {s:Shared}
end
section
variable {prog:Program} {w:World} {A:Around} {R:Result→Shared→Prop} {I:Addr} {fp wr:List Addr} {G:Array GenState→Array GenState→Prop} {n:Nat} {P:Nat→Value→Prop} {St:Nat→Shared→Prop}
end
end L2
namespace L2
open PySem PySem.Spec PyProof.Rows
section
variable {prog:Program} {w:World} {A:Around} {E:Value→Shared→Prop} {s:Shared}
set_option maxHeartbeats 3200000 in
end
end L2
namespace L2
open PySem PySem.Spec PyProof.Rows
section
variable {prog:Program} {w:World} {A:Around} {E:Value→Shared→Prop} {s:Shared} {a I:Addr} {es:Array (Int × Value)} {ep:Nat} {t:SetTable} {i:Nat}
end
end L2
namespace L2
open PySem PySem.Spec PyProof.Rows
theorem intsAre_of' {ns:List Int}:∀ {us:List Value},Vals (ns.map V.int) us→IntsAre us ns:=by
 induction ns with
 | nil=>intro us h;cases h;exact .nil
 | cons n r ih=>
  intro us h
  cases h with
  | cons r1 r2=>
   obtain ⟨t,rfl⟩:=r1
   exact IntsAre.cons _ _ (ih r2)
section
variable {X:Cx}
def SetO (w:World) (a:Addr) (zs:List Int):HO:=.ext (SetI w a zs)
theorem Inv.track {pins:List (Addr × Obj)} {s:Shared} {σ:St} {H:Hp} {T:Addr} {o:HO} (I:Inv X pins σ H s) (h0:H T=none) (h1:X.s₀.heap.objs.size≤T) (h2:T ≠ X.env.locals) (h3:∀ x c,X.env.cells.lookup x=some c→c ≠ T) (h4:∀ p ∈ X.pn++pins,p.1 ≠ T)
  (new:ObjOk X.prog X.w (upd H T o) s.heap T o):Inv X pins σ (upd H T o) s:=by
 have old:∀ b ob,X.s₀.heap.get? b=some ob→b ≠ T:=fun b ob e=>Nat.ne_of_lt (Nat.lt_of_lt_of_le (Heap.lt_size e) h1)
 have some':∀ b u,H b=some u→(upd H T o) b=some u:=fun b u e=>by rw [upd_ne (ne_of_none e h0)];exact e
 refine ⟨I.ok,I.os,I.bare,⟨I.base.keep,I.base.slot,fun b ob e n hx=>?_,I.base.there,fun b xs e=>some' _ _ (I.base.tups b xs e),fun b ob u e=>some' _ _ (I.base.frzs b ob u e),fun b ps e=>?_⟩,I.loc,I.cell,?_,fun x c e=>?_,fun p hp=>?_,fun b u e=>?_,I.len⟩
 ·rw [upd_ne (old b ob e)];exact I.base.free b ob e n hx
 ·obtain ⟨m,e1⟩:=I.base.tbls b ps e
  exact ⟨m,some' _ _ e1⟩
 ·rw [upd_ne (Ne.symm h2)];exact I.free
 ·rw [upd_ne (h3 x c e)];exact I.freeC x c e
 ·obtain ⟨e1,n,r⟩:=I.pin p hp
  exact ⟨e1,by rw [upd_ne (h4 p hp)];exact n,r⟩
 ·by_cases hb:b=T
  ·subst hb
   rw [upd_same] at e
   cases e
   exact new
  ·rw [upd_ne hb] at e
   exact (I.hok b u e).stay (fun c v _ q=>q) (fun c q=>some' _ _ q) fun c ys q=>some' _ _ q
end
end L2
namespace L2
open PySem PySem.Spec PyProof.Rows
section
variable {X:Cx}
def rangeV (lo hi:Int):List V:=(List.range (hi - lo).toNat).map fun (i:Nat)=>V.int (lo+i)
theorem call_rng2:CallR X (.type "range") (fun xs H Q=>∃ i j,xs=[.int i,.int j]∧∀ p,H p=none→Q (.ref p) (upd H p (.rng i j))):=by
 intro pins s σ H xs us Q I r h
 obtain ⟨i,j,rfl,q⟩:=h
 obtain ⟨u,v,rfl,⟨t,rfl⟩,⟨t',rfl⟩⟩:=vals2 r
 refine call_range_2 ⟨.ref s.heap.objs.size,_,I.laid (fun b o e=>Heap.get?_push_of_some _ e) (Nat.le_refl _) ?_,rfl,q _ (I.hok.fresh (Nat.le_refl _))⟩
 exact ⟨_,_,_,Heap.get?_push_size _ rfl⟩
theorem rng_vals {lo hi:Int} {n:Nat} {acc:List Value} (hn:n=(hi - lo).toNat) (hl:acc.length=n) (h:∀ (i:Nat) (v:Value),acc[i]?=some v→∃ t,v=.int (lo+i * 1) t):Vals (rangeV lo hi) acc:=by
 have key:∀ (m:Nat) (acc:List Value),acc.length=m→∀ lo:Int,(∀ (i:Nat) (v:Value),acc[i]?=some v→∃ t,v=.int (lo+i) t)→Vals ((List.range m).map fun (i:Nat)=>V.int (lo+i)) acc:=by
  intro m
  induction m with
  | zero=>
   intro acc hl lo h
   have:acc=[]:=List.length_eq_zero_iff.mp hl
   subst this
   exact .nil
  | succ m ih=>
   intro acc hl lo h
   cases acc with
   | nil=>simp at hl
   | cons v acc=>
    rw [List.range_succ_eq_map,List.map_cons,List.map_map]
    have h0:=h 0 v rfl
    refine .cons h0 ?_
    have h1:=ih acc (by simpa using hl) (lo+1) fun i v hi=>by
     have:=h (i+1) v (by simpa using hi)
     obtain ⟨t,e⟩:=this
     refine ⟨t,?_⟩
     rw [e]
     congr 1
     push_cast
     omega
    have e:((fun (i:Nat)=>V.int (lo+i)) ∘ Nat.succ)=fun (i:Nat)=>V.int (lo+1+i):=by
     funext i
     simp only [Function.comp]
     congr 1
     push_cast
     omega
    rw [e]
    exact h1
 unfold rangeV
 rw [← hn]
 refine key n acc hl lo fun i v hi=>?_
 obtain ⟨t,e⟩:=h i v hi
 exact ⟨t,by rw [e,Int.mul_one]⟩
theorem rangeV_len (lo hi:Int):(rangeV lo hi).length=(hi - lo).toNat:=by unfold rangeV;simp
theorem rsize {lo hi:Int}:Builtin.Range.rangeSize lo hi 1=((hi - lo).toNat:Nat):=by rw [rangeSize_one];split <;> omega
theorem collect_range {prog:Program} {w:World} {A:Around} {E:Value→Shared→Prop} {s:Shared} {R:List Value→Shared→Prop} {r:Addr} {a b:Int} {t u v:Tok} {n:Nat} (hh:A.handled=none) (hr:IsRange s.heap r a b 1 t u v) (hsmall:Builtin.Range.small a b 1=true)
  (hn:Builtin.Range.rangeSize a b 1=n) (hlen:n≤2 ^ 24)
  (h:∀ (h':Heap) (tk:Nat) (acc:Array Value),(∀ b o,s.heap.get? b=some o→h'.get? b=some o)→ItemsOf (fun i v=>∃ t,v=.int (a+i * 1) t) acc n→R acc.toList { s with heap:=h',toks:=tk }) :
  wpAny (model prog w) A (collect (.ref r)) R E s:=by
 unfold collect
 refine wpAny_bind (wpAny_runValue (codeAny_builtin entry_proto_collect' ?_))
 rw [Around.under_plainId PySem.F.plain_proto_collect _]
 show wpAny _ A.in1 (newList [] >>= fun l=>again (.builtin "list.__iadd__" ⟨[l,.ref r],[]⟩)) _ _ s
 refine wpAny_bind (wpAny_newObj_type ?_)
 refine wpAny_pure ⟨plainId_quiet PySem.F.plain_list_iadd _,codeAny_builtin entry_list_iadd' ?_⟩
 rw [Around.under_plainId PySem.F.plain_list_iadd _]
 have hS₁:(s.heap.push { cls:=.type "list",data:=.seq ([]:List Value).toArray }).get? s.heap.objs.size=some { cls:=.type "list",data:=.seq #[] }:=Heap.get?_push_size _ rfl
 show wpAny _ A.in1 (Builtin.List.listExtendWith (.ref s.heap.objs.size) (.ref r) (.ref s.heap.objs.size)) _ _ _
 have key:=wpAny_extend_range (prog:=prog) (w:=w) (A:=A) (s:={ s with heap:=s.heap.push { cls:=.type "list",data:=.seq ([]:List Value).toArray } })
  (R:=fun (q:Result) (s':Shared)=>∃ (h':Heap) (tk:Nat) (acc':Array Value) (c':Nat),q=.ok (.ret (.ref s.heap.objs.size))∧s'={ s with heap:=h',toks:=tk }∧
   (∀ b o,s.heap.get? b=some o→h'.get? b=some o)∧h'.get? s.heap.objs.size=some { cls:=.type "list",dict:=none,data:=.seq acc' c',slots:=#[] }∧ItemsOf (fun i v=>∃ t,v=.int (a+i * 1) t) acc' n)
  hh (Heap.get?_push_of_some _ hr) hsmall hn hlen s.heap.objs.size (.ref s.heap.objs.size) 0 hS₁
  (fun h' tk acc' c' hk hS' hacc=>⟨h',tk,acc',c',rfl,rfl,fun b o e=>hk b o (Nat.ne_of_lt (Heap.lt_size e)) (Heap.get?_push_of_some _ e),hS',hacc⟩)
 refine wpAny_mono key (fun fin s' x=>?_) fun e s' x=>?_
 ·cases fin with
  | done f=>
   obtain ⟨h',tk,acc',c',e,rfl,hk,hS',hacc⟩:=x
   cases e
   show wpAny _ A (load s.heap.objs.size >>= _) _ _ _
   refine wpAny_bind (wpAny_load hS' ?_)
   exact wpAny_pure (h h' tk acc' hk hacc)
  | again c₁=>
   refine ⟨x.1,codeAny_mono x.2 fun q s₂ y=>?_⟩
   obtain ⟨h',tk,acc',c',rfl,rfl,hk,hS',hacc⟩:=y
   show wpAny _ A (load s.heap.objs.size >>= _) _ _ _
   refine wpAny_bind (wpAny_load hS' ?_)
   exact wpAny_pure (h h' tk acc' hk hacc)
 ·obtain ⟨_,_,_,_,e',_⟩:=x
  cases e'
theorem tuple_range {prog:Program} {w:World} {A:Around} {E:Value→Shared→Prop} {s:Shared} {Q:Value→Shared→Prop} {r:Addr} {a b:Int} {t u v:Tok} {n:Nat} (hh:A.handled=none) (hr:IsRange s.heap r a b 1 t u v) (hsmall:Builtin.Range.small a b 1=true)
  (hn:Builtin.Range.rangeSize a b 1=n) (hlen:n≤2 ^ 24)
  (h:∀ (h':Heap) (tk:Nat) (acc:Array Value),(∀ b o,s.heap.get? b=some o→h'.get? b=some o)→ItemsOf (fun i v=>∃ t,v=.int (a+i * 1) t) acc n→Q (.ref h'.objs.size) { s with heap:=h'.push { cls:=.type "tuple",data:=.seq acc },toks:=tk }) :
  wpAny (model prog w) A (call (.type "tuple") [.ref r]) Q E s:=by
 have hcode:codeAny (model prog w) A.in1 (.call (.builtin "tuple.__new__") ⟨[.type "tuple",.ref r],[]⟩) (wants (fun obj s₁=>s₁.TypeIs obj "tuple"∧Q obj s₁) E) s:=by
  refine codeAny_of_tree ?_
  show wpAny _ A.in1.in1 (do checkBuiltinCall "tuple.__new__" ⟨[.type "tuple",.ref r],[]⟩;again (.builtin "tuple.__new__" ⟨[.type "tuple",.ref r],[]⟩)) _ _ s
  refine wpAny_bind (wpAny_of_eq (F.newCall_tuple_1 _) (wpAny_pure ⟨plainId_quiet F.plain_tuple_new _,codeAny_builtin F.entry_tuple_new ?_⟩))
  rw [Around.under_plainId F.plain_tuple_new _]
  have hsub:=sub_tuple_self
  have hinit:=init_tuple_lookup
  have hmh:=madeHere_tuple
  have hTI:s.TypeIs (.ref r) "range":=⟨_,hr,rfl⟩
  wp_walk using wpAny_typeOf hTI,collect_range (prog:=prog) (w:=w) (A:=A.in1.in1) hh hr hsmall hn hlen
  intro h' tk acc hk hacc
  show wpAny _ _ (Builtin.Tuple.tupleExact acc.toList.toArray >>= fun v=>ret v) _ _ _
  unfold Builtin.Tuple.tupleExact
  refine wpAny_bind (wpAny_newObj_type ?_ (by show acc.toList.toArray.size≤sizeLine;simp only [Array.toArray_toList];rw [hacc.1,sizeLine_eq];omega))
  refine wpAny_pure ?_
  have e:acc.toList.toArray=acc:=by simp
  rw [e]
  exact ⟨⟨_,Heap.get?_push_size _ rfl,rfl⟩,h h' tk acc hk hacc⟩
 refine callType_codes (Q₁:=fun obj s₁=>s₁.TypeIs obj "tuple"∧Q obj s₁) F.called_tuple (F.typeCall_tuple_1 _) F.entry_object_init hcode fun obj s₁ h₁=>?_
 exact ⟨h₁.1,F.args_object_init_2 obj _,object_init_meets F.called_tuple.init.lookup F.called_tuple.made (by decide) prog w A.in1 _ s₁ ⟨h₁.1,rfl,h₁.2⟩⟩
theorem call_tuple_rng (hc:X.calm=true):CallR X (.type "tuple") (fun xs H Q=>∃ p lo hi,xs=[.ref p]∧H p=some (.rng lo hi)∧-1000000≤lo∧lo≤1000000∧-1000000≤hi∧hi≤1000000∧∀ l,H l=none→Q (.ref l) (upd H l (.tup (rangeV lo hi)))):=by
 intro pins s σ H xs us Q I r h
 obtain ⟨p,lo,hi,rfl,hp,l1,l2,l3,l4,q⟩:=h
 obtain ⟨u,rfl,rx⟩:=vals1 r
 cases rx
 obtain ⟨t,u,v,e⟩:=(show ∃ t u v,s.heap.get? p=some { cls:=.type "range",data:=.fields #[.int lo t,.int hi u,.int 1 v] } from I.hok p _ hp)
 refine tuple_range (n:=(hi - lo).toNat) (I.ok.hd hc) (show IsRange s.heap p lo hi 1 t u v from e) (small_one (by omega) (by omega) (by omega) (by omega)) rsize (by omega) fun h' tk acc hk hacc=>?_
 obtain ⟨a1,a2⟩:=hacc
 have I1:Inv X pins σ H { s with heap:=h',toks:=tk }:=I.kept hk
 refine ⟨.ref h'.objs.size,_,I1.laid (t':=tk) (fun b o e=>Heap.get?_push_of_some _ e) (Nat.le_refl _) (show ObjOk X.prog X.w _ _ _ (.tup (rangeV lo hi)) from ⟨?_,acc.toList,rng_vals rfl (by simpa using a1) fun i v hi=>a2 i v (by rw [← Array.getElem?_toList];exact hi),?_⟩),rfl,q _ (I1.hok.fresh (Nat.le_refl _))⟩
 ·rw [rangeV_len,sizeLine_eq]
  omega
 ·have:=IsTup.new h' acc
  simpa using this
theorem range_all':∀ (bs:List Bool),((List.range bs.length).all fun i=>(bs[i]?).getD true)=bs.all id:=by
 intro bs
 rw [Bool.eq_iff_iff,List.all_eq_true,List.all_eq_true]
 constructor
 ·intro h b hb
  obtain ⟨i,hi,e⟩:=List.mem_iff_getElem.mp hb
  have:=h i (List.mem_range.mpr hi)
  rw [List.getElem?_eq_getElem hi,e] at this
  exact this
 ·intro h i hi
  have hi':=List.mem_range.mp hi
  rw [List.getElem?_eq_getElem hi']
  exact h _ (List.getElem_mem hi')
theorem call_all (hc:X.calm=true):CallR X (.builtin "all") (fun xs H Q=>∃ (p:Addr) (bs:List Bool),xs=[.ref p]∧SqL X.K H p (bs.map V.bl)∧Q (.bl (bs.all id)) H):=by
 intro pins s σ H xs us Q I r h
 obtain ⟨p,bs,rfl,hq,q⟩:=h
 obtain ⟨u,rfl,rx⟩:=vals1 r
 cases rx
 obtain ⟨its,rv,pl,hz⟩:=I.list hq
 have hl:=pl.isList
 have hlt:p<s.heap.objs.size:=by obtain ⟨_,e,_⟩:=hl;exact Heap.lt_size e
 have hlen:=rv.length
 rw [List.length_map] at hlen
 refine call_all_walk (wpAny_pyIter_list hl ?_)
 refine ⟨s.heap.objs.size,[s.heap.objs.size,p],[s.heap.objs.size],its.toArray.size,_,_,fun i=>(bs[i]?).getD true,rfl,Walks.list (A:=X.A.in1) (I.ok.hd hc) _ p (Nat.ne_of_lt hlt) its.toArray,
  ⟨⟨_,Heap.get?_push_size _ rfl,rfl,rfl⟩,hl.push _⟩,fun i v s' Q' E' hP hQ=>?_,fun h' tk hk=>?_⟩
 ·have hP':its[i]?=some v:=by simpa using hP
  have hi:i<bs.length:=by rw [hlen];exact (List.getElem?_eq_some_iff.mp hP').1
  obtain ⟨u,hu,ru⟩:=rv.get (i:=i) (x:=.bl bs[i]) (by rw [List.getElem?_map,List.getElem?_eq_getElem hi];rfl)
  rw [hP'] at hu
  cases hu
  cases ru
  dsimp only at hQ
  rw [List.getElem?_eq_getElem hi,Option.getD_some] at hQ
  exact wpAny_truthy_bool hQ
 ·have e:((List.range its.toArray.size).all fun i=>(bs[i]?).getD true)=bs.all id:=by
   rw [List.size_toArray,← hlen];exact range_all' bs
  refine ⟨.bl (bs.all id),H,I.kept fun b x e=>hk b x (fun hm=>by rw [List.mem_singleton.mp hm] at e;exact Nat.lt_irrefl _ (Heap.lt_size e)) (Heap.get?_push_of_some _ e),?_,q⟩
  rw [e]
  rfl
theorem call_isinst:CallR X (.builtin "isinstance") (fun xs H Q=>∃ x T t b,xs=[x,.ty T]∧TyOf X.K H x t∧PySem.W.kitOne X.K t (.type T)=some b∧Q (.bl b) H):=by
 intro pins s σ H xs us Q I r h
 obtain ⟨x,T,t,b,rfl,ht,hk,q⟩:=h
 obtain ⟨u,v,rfl,r1,r2⟩:=vals2 r
 cases r2
 exact isinst_ok I r1 ht hk fun tk=>⟨.bl b,H,I.tok _,rfl,q⟩
theorem op_eq_nil (hu:X.A.units<cLine):OpR X (compareOp .Eq) (fun x y H Q=>∃ p l xs,x=.ref p∧y=.ref l∧SqL X.K H p xs∧SqL X.K H l []∧Q (.bl xs.isEmpty) H):=by
 intro pins s σ H x y v u Q I rx ry h
 obtain ⟨p,l,xs,rfl,rfl,h1,h2,q⟩:=h
 cases rx
 cases ry
 obtain ⟨its,r1,p1,z1⟩:=I.list h1
 obtain ⟨its2,r2,p2,z2⟩:=I.list h2
 cases r2
 cases xs with
 | nil=>
  cases r1
  exact SeqAt.eq_listAt (e:=fun _=>true) p1.isList p2.isList rfl hu (fun j h _=>absurd h (by simp)) ⟨.bl true,H,I,rfl,q⟩
 | cons a r=>
  cases r1
  exact SeqAt.eq_list_lengthsAt p1.isList p2.isList (by simp) hu ⟨.bl false,H,I,rfl,q⟩
end
end L2
namespace L2
open PySem PySem.Spec PyProof.Rows
def Ite (K:PySem.W.Frag) (l:Addr):It:=
 ⟨fun i H=>∃ xs x,SqL K H l xs∧xs[i]?=some x,fun i H v H'=>∃ T x,H T=none∧v=.ref T∧H'=upd H T (.tup [.int (i:Int),x])∧∀ xs,SqL K H l xs→xs[i]?=some x,fun i H=>∃ xs,SqL K H l xs∧xs.length≤i⟩
section
variable {X:Cx}
theorem Inv.turnedL {pins:List (Addr × Obj)} {s:Shared} {σ:St} {H:Hp} {h':Heap} {t':Nat} {ch:List Addr} (I:Inv X pins σ H s) (k:∀ b o,b ∉ ch→s.heap.get? b=some o→h'.get? b=some o) (hc:∀ b ∈ ch,FpOk X pins H b):Inv X pins σ H { s with heap:=h',toks:=t' }:=by
 have nit:∀ b u,H b=some u→b ∉ ch:=fun b u e z=>by rw [(hc b z).1] at e;cases e
 refine I.step (g':=s.gens) (d':=s.drawn) (ch:=ch) (fun b hb=>⟨(hc b hb).2.2.2.1,(hc b hb).2.1,(hc b hb).2.2.2.2.1,(hc b hb).2.2.2.2.2⟩) (fun b o _ _ hc' e _=>k b o hc' e) (fun b o _ _ hc' e _=>⟨o.slots,k b o hc' e⟩) (fun _ _ _ _ n=>n)
  (fun b o hc' e=>⟨o,k b o hc' e⟩) (fun _ _ e=>e) (fun _ _ _ e=>e) (fun b ps e=>⟨#[],by rw [e];simp⟩) (fun m hm=>?_) (fun b u e=>?_) I.bare
 ·obtain ⟨o,es,ep,ho,r⟩:=hm
  exact ⟨o,es,ep,k _ o (fun z=>(hc _ z).2.1 rfl) ho,r⟩
 ·refine (I.hok b u e).stay (fun c v hc' q=>k c v ?_ q) (fun _ q=>q) fun _ _ q=>q
  rcases hc' with z | z
  ·rw [z];exact nit b u e
  ·exact nit c _ z
theorem turn_enum {P:Program} {w:World} {K:PySem.W.Frag} {elts:List Expr} {k:Nat} {pos:Pos} (l it e:Addr) (hne:e ≠ it):Turn P w K (.Tuple elts k pos) (Ite K l) [e,it] e (fun i h=>(∃ old,IsEnum h e it i old)∧h.IsListIter it l i) where
 mem:=by simp
 obj:=fun i h st b hb=>by
  obtain ⟨⟨old,h1⟩,o,h2,_,h4⟩:=st
  have e':b=e∨b=it:=by simpa using hb
  rcases e' with rfl | rfl
  ·exact ⟨_,h1,fun v z=>by
    have z':Data.fields _=Data.cell v:=z
    cases z'⟩
  ·exact ⟨o,h2,fun v z=>by rw [h4] at z;cases z⟩
 keep:=fun i h h' st kk=>by
  obtain ⟨⟨old,h1⟩,h2⟩:=st
  exact ⟨⟨old,kk e (by simp) _ h1⟩,h2.at fun o q=>kk it (by simp) o q⟩
 item:=by
  intro X hP hw hK hc i pins s σ H E I hf st hg
  subst hP hw hK
  obtain ⟨xs,x,hq,hx⟩:=hg
  obtain ⟨its,rv,p,hz⟩:=I.list hq
  obtain ⟨u,hu,ru⟩:=rv.get hx
  obtain ⟨⟨old,h1⟩,h2⟩:=st
  refine wpAny_pyNext_enum_item h1 h2 p.isList (x:=u) (by simpa using hu) hne fun h' a1 a2 a3 a4 a5=>?_
  refine ⟨_,rfl,wpAny_letOwnedTupleGo_enum a1 fun h2 b1 b2=>?_⟩
  have ltE:e<s.heap.objs.size:=Heap.lt_size h1
  have I1:Inv X pins σ H { s with heap:=h2,toks:=s.toks+1 }:=I.turnedL (ch:=[e,it]) (fun b o hb q=>by
   have hb1:b ≠ e:=fun z=>hb (by simp [z])
   have hb2:b ≠ it:=fun z=>hb (by simp [z])
   exact (b2.2 b hb1).trans (a5 b o hb1 hb2 q)) hf
  have hT:H s.heap.objs.size=none:=I.hok.fresh (Nat.le_refl _)
  have fT:=I.fpOk (H':=H) (b:=s.heap.objs.size) (Nat.le_refl _) hT
  have gT:h2.get? s.heap.objs.size=some { cls:=.type "tuple",data:=.seq #[.int i s.toks,u] }:=(b2.2 _ (Nat.ne_of_gt ltE)).trans a3
  refine ⟨.ref s.heap.objs.size,upd H s.heap.objs.size (.tup [.int (i:Int),x]),I1.track hT I.sz fT.2.1 fT.2.2.2.2.1 fT.2.2.2.2.2 ⟨by simp only [List.length_cons,List.length_nil];rw [sizeLine_eq];decide,[.int (i:Int) s.toks,u],.cons ⟨_,rfl⟩ (.cons ru .nil),⟨_,gT,rfl,_,rfl⟩⟩,rfl,
   ⟨_,x,hT,rfl,rfl,fun ys hy=>by rw [I.list_inj hy hq];exact hx⟩,⟨⟨_,b1⟩,a2.at fun o q=>(b2.2 it (Ne.symm hne)).trans q⟩,fun b hb=>?_⟩
  have ltb:b<s.heap.objs.size:=by
   have e':b=e∨b=it:=by simpa using hb
   rcases e' with rfl | rfl
   ·exact ltE
   ·obtain ⟨o,q,_⟩:=h2;exact Heap.lt_size (by assumption)
  rw [upd_ne (Nat.ne_of_lt ltb)]
  exact (hf b hb).1
 done:=by
  intro X hP hw hK hc i pins s σ H E I hf st hg
  subst hP hw hK
  obtain ⟨xs,hq,hx⟩:=hg
  obtain ⟨its,rv,p,hz⟩:=I.list hq
  have hl:=rv.length
  obtain ⟨⟨old,h1⟩,h2⟩:=st
  exact wpAny_pyNext_enum_end (I.ok.hd hc) h1 h2 p.isList (by simp;omega) fun h' eb=>⟨rfl,I.turnedL (t':=s.toks) (ch:=[e,it]) (fun b o hb q=>eb b o (fun z=>hb (by simp [z])) q) hf⟩
 self:=fun _ _ _ _ _ st h=>by
  obtain ⟨⟨old,h1⟩,h2⟩:=st
  exact wpAny_pyIter_enum h1 h
def iEnum (K:PySem.W.Frag) (ta:TA):TI:=fun σ H R=>ta σ H fun vs H1=>∃ l,vs=[.ref l]∧(∃ xs,SqL K H1 l xs)∧R (Ite K l) H1
theorem pi_enum {elts:List Expr} {k:Nat} {tpos:Pos} {a:Expr} {ta:TA} {p pos:Pos} (hg:Gl X "enumerate") (hm:X.mg "enumerate" = none) (hv:bootBuiltins "enumerate" = some (.type "enumerate")) (ha:PA X [a] ta) (hs:starEach [a] X.env=[(false,eval a X.env)]:=by rfl) :
  PI X (.Tuple elts k tpos) (.Call (.Name "enumerate" p) [a] [] pos) (iEnum X.K ta):=by
 intro pins s σ H R I h
 refine Call_ (ld_blt I hg hm hv (PyProof.Rows.callWith_type1 (thn (ha pos pins s σ H _ I h) fun us s1 ⟨vs,H1,I1,r1,q1⟩=>?_) hs rfl))
 obtain ⟨l,e,⟨xs,hq⟩,q⟩:=q1
 subst e
 obtain ⟨u,rfl,rx⟩:=vals1 r1
 cases rx
 obtain ⟨its,rv,pl,hz⟩:=I1.list hq
 refine call_enumerate_list pl.isList fun h' he hi hsz hk=>?_
 refine wpAny_pyIter_enum he ?_
 have I2:Inv X pins σ H1 { s1 with heap:=h' }:=I1.kept (t':=s1.toks) hk
 refine ⟨s1.heap.objs.size+1,[s1.heap.objs.size+1,s1.heap.objs.size],_,_,H1,rfl,I2,turn_enum l s1.heap.objs.size (s1.heap.objs.size+1) (Nat.succ_ne_self _),⟨⟨_,he⟩,hi⟩,fun b hb=>?_,q⟩
 have e':b=s1.heap.objs.size+1∨b=s1.heap.objs.size:=by simpa using hb
 rcases e' with rfl | rfl
 ·exact I1.fpOk (Nat.le_succ _) (I1.hok.fresh (Nat.le_succ _))
 ·exact I1.fpOk (Nat.le_refl _) (I1.hok.fresh (Nat.le_refl _))
end
theorem lc_enum {K:PySem.W.Frag} {a:Addr} {xs:List V} {g:TG} {tc:TT} {te:TE} {Kf:Hp→Prop} {σ0:St} {H0:Hp} {p:Addr} (Pv:Nat→St→Hp→Prop) (h0:Pv 0 σ0 H0) (hl:∀ i σ H,i≤xs.length→Pv i σ H→SqL K H a xs)
  (hs:∀ i x σ H T,xs[i]?=some x→Pv i σ H→H T=none→g (.ref T) σ (upd H T (.tup [.int (i:Int),x])) fun σ2 H2=>tc σ2 H2 fun b H3=>if b=true then te σ2 H3 fun y H4=>∃ ys,H4 p=some (.lst ys)∧ys.length<sizeLine∧Pv (i+1) σ2 (upd H4 p (.lst (ys++[y]))) else Pv (i+1) σ2 H3)
  (hd:∀ σ H,Pv xs.length σ H→Kf H) :
  ∃ W:Nat→Nat→St→Hp→Prop,(∃ m,W 0 m σ0 H0)∧∀ i m σ H,W i m σ H→
   ((Ite K a).stop i H∧Kf H)∨((Ite K a).go i H∧∃ N:St→Hp→Prop,(∀ σ' H',N σ' H'→∃ m',m'<m∧W (i+1) m' σ' H')∧∀ x H',(Ite K a).yld i H x H'→g x σ H' fun σ2 H2=>tc σ2 H2 fun b H3=>
    if b=true then te σ2 H3 fun y H4=>∃ ys,H4 p=some (.lst ys)∧ys.length<sizeLine∧N σ2 (upd H4 p (.lst (ys++[y]))) else N σ2 H3):=by
 refine ⟨fun i m σ H=>m=xs.length - i∧i≤xs.length∧Pv i σ H,⟨xs.length,by simp,Nat.zero_le _,h0⟩,?_⟩
 rintro i m σ H ⟨rfl,hi,q⟩
 have hq:=hl i σ H hi q
 by_cases hlt:i<xs.length
 ·refine .inr ⟨⟨xs,xs[i],hq,by simp [hlt]⟩,Pv (i+1),fun σ' H' p'=>⟨xs.length - (i+1),by omega,rfl,hlt,p'⟩,fun v H' y=>?_⟩
  obtain ⟨T,x,hT,e1,e2,y⟩:=y
  subst e1 e2
  exact hs i x σ H T (y xs hq) q hT
 ·have e:i=xs.length:=by omega
  subst e
  exact .inl ⟨⟨xs,hq,Nat.le_refl _⟩,hd σ H q⟩
end L2
namespace L2
open PySem PySem.Spec PyProof.Rows
theorem nextOf_tuple_item {prog:Program} {w:World} {A:Around} {E:Value→Shared→Prop} {s:Shared} {it t:Addr} {i:Nat} {items:Array Value} {x:Value} {Q:Value→Shared→Prop} (hit:s.heap.IsTupleIter it t i) (ht:s.heap.IsTuple t items) (hx:items[i]?=some x)
  (hQ:∀ h':Heap,h'.IsTupleIter it t (i+1)→Heap.SameBut it s.heap h'→Q x { s with heap:=h' }):wpAny (model prog w) A (Builtin.SmallTypes.nextOf (.ref it)) Q E s:=by
 obtain ⟨o,ho,hc,hd⟩:=id hit
 obtain ⟨ol,hol,_,nl,hdl⟩:=ht
 refine wpAny_bind (wpAny_callSpecial?_slot hit.typeIs F.slot_tuple_iterator_next (wpAny_call_entry F.slot_tuple_iterator_next hit.typeIs F.entry_tuple_iterator_next ?_ (F.args_tuple_iterator_next_1 _)))
 show wpAny _ _ (field (.ref it) 0 >>= _) _ _ _
 refine wpAny_bind (wpAny_field ho hd rfl ?_)
 refine wpAny_ite_false rfl ?_
 show wpAny _ _ (field (.ref it) 1 >>= _) _ _ _
 refine wpAny_bind (wpAny_field ho hd rfl ?_)
 show wpAny _ _ (seqItems? (.ref t) >>= _) _ _ _
 refine wpAny_bind (wpAny_seqItems hol hdl ?_)
 show wpAny _ _ (match items[i]? with | some x=>_ | none=>_) _ _ _
 rw [hx]
 refine wpAny_bind (wpAny_setField ho hd (by simp) ?_)
 refine wpAny_pure ⟨x,rfl,wpAny_pure (hQ _ ⟨_,Heap.get?_update_self _ ho (Obj.isFreed_of_fields (Obj.data_mapFields hd _)),(Obj.cls_mapFields o _).trans hc,?_⟩ (Heap.SameBut.update _ _ _))⟩
 rw [Obj.data_mapFields hd]
 simp
 rfl
theorem nextOf_tuple_end {prog:Program} {w:World} {A:Around} {E:Value→Shared→Prop} {s:Shared} {it t:Addr} {i:Nat} {items:Array Value} {Q:Value→Shared→Prop} (hh:A.handled=none) (hit:s.heap.IsTupleIter it t i) (ht:s.heap.IsTuple t items) (hx:items[i]?=none)
  (hE:∀ (h':Heap) (e:Addr),Heap.ExtBut it s.heap h'→(∃ o,h'.get? e=some o∧o.cls=.type "StopIteration")→E (.ref e) { s with heap:=h' }):wpAny (model prog w) A (Builtin.SmallTypes.nextOf (.ref it)) Q E s:=by
 obtain ⟨o,ho,hc,hd⟩:=id hit
 obtain ⟨ol,hol,_,nl,hdl⟩:=ht
 refine wpAny_bind (wpAny_callSpecial?_slot hit.typeIs F.slot_tuple_iterator_next (wpAny_call_entry F.slot_tuple_iterator_next hit.typeIs F.entry_tuple_iterator_next ?_ (F.args_tuple_iterator_next_1 _)))
 show wpAny _ _ (field (.ref it) 0 >>= _) _ _ _
 refine wpAny_bind (wpAny_field ho hd rfl ?_)
 refine wpAny_ite_false rfl ?_
 show wpAny _ _ (field (.ref it) 1 >>= _) _ _ _
 refine wpAny_bind (wpAny_field ho hd rfl ?_)
 show wpAny _ _ (seqItems? (.ref t) >>= _) _ _ _
 refine wpAny_bind (wpAny_seqItems hol hdl ?_)
 show wpAny _ _ (match items[i]? with | some x=>_ | none=>_) _ _ _
 rw [hx]
 refine wpAny_bind (wpAny_rule ?_)
 refine wpAny_bind (wpAny_setField ho hd (by simp) ?_)
 show wpAny _ _ (newExc (.type "StopIteration") [] >>= _) _ _ _
 refine wpAny_bind ?_
 simp only [newExc,newTuple]
 refine wpAny_bind (wpAny_newObj_type ?_ (by size_fits))
 refine wpAny_bind (m:=firstArgMember _ _) (wpAny_of_eq (a:=Value.none) (by first | rfl | (simp only [firstArgMember];rfl)) ?_)
 refine wpAny_newObj_type ?_ (by size_fits)
 simp only [raiseNew]
 refine wpAny_bind (wpAny_handled ?_)
 rw [show A.in1.handled=none from hh]
 refine wpAny_bind (wpAny_pure (wpAny_throw ?_))
 exact hE _ _ (((Heap.SameBut.update ..).extBut.push _).push _) ⟨_,Heap.get?_push_size _ rfl,rfl⟩
def SIt (b:Bool) (h:Heap) (it l:Addr) (i:Nat):Prop:=match b with | true=>h.IsTupleIter it l i | false=>h.IsListIter it l i
def SSq (b:Bool) (h:Heap) (l:Addr) (xs:Array Value):Prop:=match b with | true=>h.IsTuple l xs | false=>h.IsList l xs
theorem SIt.at {b:Bool} {h h':Heap} {it l:Addr} {i:Nat} (q:SIt b h it l i) (k:∀ o,h.get? it=some o→h'.get? it=some o):SIt b h' it l i:=by
 cases b
 ·exact Heap.IsListIter.at q k
 ·exact Heap.IsTupleIter.at q k
theorem SSq.at {b:Bool} {h h':Heap} {l:Addr} {xs:Array Value} (q:SSq b h l xs) (k:∀ o,h.get? l=some o→h'.get? l=some o):SSq b h' l xs:=by
 cases b
 ·obtain ⟨o,e,r⟩:=q;exact ⟨o,k o e,r⟩
 ·obtain ⟨o,e,r⟩:=q;exact ⟨o,k o e,r⟩
theorem nextOf_item {b:Bool} {prog:Program} {w:World} {A:Around} {E:Value→Shared→Prop} {s:Shared} {it t:Addr} {i:Nat} {items:Array Value} {x:Value} {Q:Value→Shared→Prop} (hit:SIt b s.heap it t i) (ht:SSq b s.heap t items) (hx:items[i]?=some x)
  (hQ:∀ h':Heap,SIt b h' it t (i+1)→Heap.SameBut it s.heap h'→Q x { s with heap:=h' }):wpAny (model prog w) A (Builtin.SmallTypes.nextOf (.ref it)) Q E s:=by
 cases b
 ·exact wpAny_nextOf_list_item hit ht hx hQ
 ·exact nextOf_tuple_item hit ht hx hQ
theorem nextOf_end {b:Bool} {prog:Program} {w:World} {A:Around} {E:Value→Shared→Prop} {s:Shared} {it t:Addr} {i:Nat} {items:Array Value} {Q:Value→Shared→Prop} (hh:A.handled=none) (hit:SIt b s.heap it t i) (ht:SSq b s.heap t items) (hx:items[i]?=none)
  (hE:∀ (h':Heap) (e:Addr),Heap.ExtBut it s.heap h'→(∃ o,h'.get? e=some o∧o.cls=.type "StopIteration")→E (.ref e) { s with heap:=h' }):wpAny (model prog w) A (Builtin.SmallTypes.nextOf (.ref it)) Q E s:=by
 cases b
 ·exact wpAny_nextOf_list_end hh hit ht hx hE
 ·exact nextOf_tuple_end hh hit ht hx hE
theorem zipB_item {b:Bool} {prog:Program} {w:World} {A:Around} {E:Value→Shared→Prop} {s:Shared} {z TI TO i1 i2 l1 l2:Addr} {k1 k2:Nat} {xs ys:Array Value} {x y a c:Value} {Q:Value→Shared→Prop} (D:ZipApart z TI TO i1 i2 l1 l2) (hz:IsZip s.heap z TI TO .none) (hTI:IsPair s.heap TI (.ref i1) (.ref i2)) (hTO:IsPair s.heap TO a c)
  (h1:SIt b s.heap i1 l1 k1) (h2:SIt b s.heap i2 l2 k2) (hl1:SSq b s.heap l1 xs) (hl2:SSq b s.heap l2 ys) (hx:xs[k1]?=some x) (hy:ys[k2]?=some y)
  (hQ:∀ h':Heap,IsZip h' z TI TO (rawInt (s.heap.objs.size:Int))→IsPair h' TO x y→SIt b h' i1 l1 (k1+1)→SIt b h' i2 l2 (k2+1)→IsPair h' s.heap.objs.size x y→h'.objs.size=s.heap.objs.size+1→
   (∀ (c:Addr) (o:Obj),c ≠ z→c ≠ TO→c ≠ i1→c ≠ i2→s.heap.get? c=some o→h'.get? c=some o)→Q (.ref s.heap.objs.size) { s with heap:=h' }) :
  wpAny (model prog w) A (Builtin.«zip.__next__» { pos:=[.ref z] }) (fun fin s'=>∃ v,fin=.done (.ret v)∧Q v s') E s:=by
 show wpAny _ _ (field (.ref z) 2 >>= _) _ _ _
 refine wpAny_bind (wpAny_field hz rfl rfl ?_)
 show wpAny _ _ (field (.ref z) 3 >>= _) _ _ _
 refine wpAny_bind (wpAny_field hz rfl rfl ?_)
 refine wpAny_bind (wpAny_seqItems hTI rfl ?_)
 show wpAny _ _ (Builtin.SmallTypes.ownedTupleIsFree (.ref z) >>= _) _ _ _
 refine wpAny_bind ?_
 show wpAny _ _ (field (.ref z) 0 >>= _) _ _ _
 refine wpAny_bind (wpAny_field hz rfl rfl (wpAny_pure ?_))
 refine wpAny_ite_true rfl ?_
 refine wpAny_bind (wpAny_rule ?_)
 refine wpAny_bind (wpAny_field hz rfl rfl ?_)
 refine wpAny_bind (wpAny_setField_rec hz (by simp) fun hA gz sb=>?_)
 refine wpAny_bind ?_
 show wpAny _ _ (forIn [(Value.ref i1,0),(Value.ref i2,1)] _ _) _ _ _
 rw [List.forIn_cons]
 refine wpAny_bind ?_
 dsimp only
 refine wpAny_bind (wpAny_onRaise ?_)
 have e:((#[Value.none,Value.bool false,Value.bool false,Value.ref TI,Value.ref TO][2] == Value.bool true)=false):=rfl
 rw [e]
 have sA1:SIt b hA i1 l1 k1:=h1.at fun o q=>(sb.2 _ D.i1z).trans q
 have sL1:SSq b hA l1 xs:=hl1.at fun o q=>(sb.2 _ D.l1z).trans q
 refine wpAny_bind (nextOf_item (s:={ s with heap:=hA }) sA1 sL1 hx fun hB nB sB=>?_)
 refine wpAny_pure ?_
 have tB:IsPair hB TO a c:=(sB.2 _ D.TOi1).trans ((sb.2 _ D.TOz).trans hTO)
 refine wpAny_bind (wpAny_seqItems tB rfl ?_)
 refine wpAny_bind (wpAny_updateSeq_pair tB fun hC tC sC=>?_)
 refine wpAny_bind (wpAny_letGo (wpAny_pure ?_))
 dsimp only
 rw [List.forIn_cons]
 refine wpAny_bind ?_
 refine wpAny_bind (wpAny_onRaise ?_)
 have sC2:SIt b hC i2 l2 k2:=h2.at fun o q=>(sC.2 _ (Ne.symm D.TOi2)).trans ((sB.2 _ (Ne.symm D.i12)).trans ((sb.2 _ D.i2z).trans q))
 have sL2:SSq b hC l2 ys:=hl2.at fun o q=>(sC.2 _ D.l2TO).trans ((sB.2 _ D.l2i1).trans ((sb.2 _ D.l2z).trans q))
 refine wpAny_bind (nextOf_item (s:={ s with heap:=hC }) sC2 sL2 hy fun hD nD sD=>?_)
 refine wpAny_pure ?_
 have tD:IsPair hD TO x c:=(sD.2 _ D.TOi2).trans tC
 refine wpAny_bind (wpAny_seqItems tD rfl ?_)
 refine wpAny_bind (wpAny_updateSeq_pair tD fun hF tF sF=>?_)
 refine wpAny_bind (wpAny_letGo (wpAny_pure ?_))
 dsimp only
 rw [List.forIn_nil]
 refine wpAny_pure ?_
 dsimp only
 have tF':IsPair hF TO x y:=tF
 refine wpAny_bind (wpAny_seqItems tF' rfl ?_)
 refine wpAny_bind (wpAny_newTuple ?_ (by show 2≤sizeLine;decide))
 have gzF:hF.get? z=some { cls:=.type "zip",data:=.fields #[.ellipsis,.bool false,.bool false,.ref TI,.ref TO] }:=(sF.2 _ (Ne.symm D.TOz)).trans ((sD.2 _ (Ne.symm D.i2z)).trans ((sC.2 _ (Ne.symm D.TOz)).trans ((sB.2 _ (Ne.symm D.i1z)).trans gz)))
 have szF:hF.objs.size=s.heap.objs.size:=sF.1.trans (sD.1.trans (sC.1.trans (sB.1.trans sb.1)))
 have ltz:z<hF.objs.size:=Heap.lt_size gzF
 have gzG:(hF.push { cls:=.type "tuple",data:=.seq #[x,y] }).get? z=some { cls:=.type "zip",data:=.fields #[.ellipsis,.bool false,.bool false,.ref TI,.ref TO] }:=Heap.get?_push_of_some _ gzF
 refine wpAny_bind ?_
 show wpAny _ _ (setField (.ref z) 0 (rawInt _) >>= _) _ _ _
 refine wpAny_bind (wpAny_setField_rec gzG (by simp) fun hG gG sG=>?_)
 refine wpAny_setField_rec gG (by simp) fun hI gI sI=>?_
 refine wpAny_pure ⟨_,rfl,?_⟩
 have o4:∀ (c:Addr) (o:Obj),c ≠ z→c ≠ TO→c ≠ i1→c ≠ i2→s.heap.get? c=some o→hI.get? c=some o:=fun c o n1 n2 n3 n4 e=>
  (sI.2 _ n1).trans ((sG.2 _ n1).trans (Heap.get?_push_of_some _ ((sF.2 _ n2).trans ((sD.2 _ n4).trans ((sC.2 _ n2).trans ((sB.2 _ n3).trans ((sb.2 _ n1).trans e)))))))
 have nz:hF.objs.size ≠ z:=Nat.ne_of_gt ltz
 have gT:hI.get? hF.objs.size=some { cls:=.type "tuple",data:=.seq #[x,y] }:=(sI.2 _ nz).trans ((sG.2 _ nz).trans (Heap.get?_push_size _ rfl))
 have szI:hI.objs.size=hF.objs.size+1:=sI.1.trans (sG.1.trans (Heap.size_push ..))
 have pz:∀ {c:Addr} {o:Obj},c ≠ z→hF.get? c=some o→hI.get? c=some o:=fun n e=>(sI.2 _ n).trans ((sG.2 _ n).trans (Heap.get?_push_of_some _ e))
 have q:=hQ hI
 rw [← szF] at q
 refine q gI (pz D.TOz tF') (nB.at fun o e=>pz D.i1z ((sF.2 _ (Ne.symm D.TOi1)).trans ((sD.2 _ D.i12).trans ((sC.2 _ (Ne.symm D.TOi1)).trans e)))) (nD.at fun o e=>pz D.i2z ((sF.2 _ (Ne.symm D.TOi2)).trans e)) gT szI o4
theorem zipB_end {b:Bool} {prog:Program} {w:World} {A:Around} {E:Value→Shared→Prop} {s:Shared} {z TI TO i1 i2 l1 l2:Addr} {k1:Nat} {xs:Array Value} {Q:PySem.Fin→Shared→Prop} (hh:A.handled=none) (D:ZipApart z TI TO i1 i2 l1 l2) (hz:IsZip s.heap z TI TO .none) (hTI:IsPair s.heap TI (.ref i1) (.ref i2))
  (h1:SIt b s.heap i1 l1 k1) (hl1:SSq b s.heap l1 xs) (hx:xs[k1]?=none)
  (hE:∀ (h':Heap) (e:Addr),(∀ (c:Addr) (o:Obj),c ≠ z→c ≠ i1→s.heap.get? c=some o→h'.get? c=some o)→(∃ o,h'.get? e=some o∧o.cls=.type "StopIteration")→E (.ref e) { s with heap:=h' }) :
  wpAny (model prog w) A (Builtin.«zip.__next__» { pos:=[.ref z] }) Q E s:=by
 show wpAny _ _ (field (.ref z) 2 >>= _) _ _ _
 refine wpAny_bind (wpAny_field hz rfl rfl ?_)
 show wpAny _ _ (field (.ref z) 3 >>= _) _ _ _
 refine wpAny_bind (wpAny_field hz rfl rfl ?_)
 refine wpAny_bind (wpAny_seqItems hTI rfl ?_)
 show wpAny _ _ (Builtin.SmallTypes.ownedTupleIsFree (.ref z) >>= _) _ _ _
 refine wpAny_bind ?_
 show wpAny _ _ (field (.ref z) 0 >>= _) _ _ _
 refine wpAny_bind (wpAny_field hz rfl rfl (wpAny_pure ?_))
 refine wpAny_ite_true rfl ?_
 refine wpAny_bind (wpAny_rule ?_)
 refine wpAny_bind (wpAny_field hz rfl rfl ?_)
 refine wpAny_bind (wpAny_setField_rec hz (by simp) fun hA gz sb=>?_)
 refine wpAny_bind ?_
 show wpAny _ _ (forIn [(Value.ref i1,0),(Value.ref i2,1)] _ _) _ _ _
 rw [List.forIn_cons]
 refine wpAny_bind ?_
 dsimp only
 refine wpAny_bind (wpAny_onRaise ?_)
 have e:((#[Value.none,Value.bool false,Value.bool false,Value.ref TI,Value.ref TO][2] == Value.bool true)=false):=rfl
 rw [e]
 have sA1:SIt b hA i1 l1 k1:=h1.at fun o q=>(sb.2 _ D.i1z).trans q
 have sL1:SSq b hA l1 xs:=hl1.at fun o q=>(sb.2 _ D.l1z).trans q
 refine wpAny_bind (nextOf_end (s:={ s with heap:=hA }) hh sA1 sL1 hx fun hB ea xB ⟨ob,gb,cb⟩=>?_)
 have gzB:=xB z _ (Ne.symm D.i1z) gz
 refine wpAny_setField_rec gzB (by simp) fun hC gC sC=>?_
 have nez:ea ≠ z:=fun q=>by
  rw [q,gzB] at gb
  cases gb
  exact absurd (show Value.type "zip" = Value.type "StopIteration" from cb) (by decide)
 exact hE hC ea (fun c o n1 n2 q=>(sC.2 _ n1).trans (xB c o n2 ((sb.2 _ n1).trans q))) ⟨ob,(sC.2 _ nez).trans gb,cb⟩
section
variable {b:Bool} {prog:Program} {w:World} {A:Around} {E:Value→Shared→Prop} {s:Shared} {z TI TO i1 i2 l1 l2:Addr} {k1 k2:Nat} {xs ys:Array Value}
theorem pyNext_zipB_item {x y a c:Value} {Q:Option Value→Shared→Prop} (D:ZipApart z TI TO i1 i2 l1 l2) (hz:IsZip s.heap z TI TO .none) (hTI:IsPair s.heap TI (.ref i1) (.ref i2)) (hTO:IsPair s.heap TO a c)
  (h1:SIt b s.heap i1 l1 k1) (h2:SIt b s.heap i2 l2 k2) (hl1:SSq b s.heap l1 xs) (hl2:SSq b s.heap l2 ys) (hx:xs[k1]?=some x) (hy:ys[k2]?=some y)
  (hQ:∀ h':Heap,IsZip h' z TI TO (rawInt (s.heap.objs.size:Int))→IsPair h' TO x y→SIt b h' i1 l1 (k1+1)→SIt b h' i2 l2 (k2+1)→IsPair h' s.heap.objs.size x y→h'.objs.size=s.heap.objs.size+1→
   (∀ (c:Addr) (o:Obj),c ≠ z→c ≠ TO→c ≠ i1→c ≠ i2→s.heap.get? c=some o→h'.get? c=some o)→Q (some (.ref s.heap.objs.size)) { s with heap:=h' }) :
  wpAny (model prog w) A (pyNext (.ref z)) Q E s:=by
 have hT:s.TypeIs (.ref z) "zip":=⟨_,hz,rfl⟩
 unfold pyNext
 refine wpAny_bind (wpAny_attempt (wpAny_callSpecial?_slot (name:=Str.ofString "__next__") hT F.slot_zip_next (wpAny_call_entry F.slot_zip_next hT F.entry_zip_next ?_ (F.args_zip_next_1 _))))
 exact zipB_item (Q:=fun v s'=>wpAny (model prog w) A (pure (some v)) Q E s') D hz hTI hTO h1 h2 hl1 hl2 hx hy fun h' q1 q2 q3 q4 q5 q6 q7=>wpAny_pure (hQ h' q1 q2 q3 q4 q5 q6 q7)
theorem pyNext_zipB_end {Q:Option Value→Shared→Prop} (hh:A.handled=none) (D:ZipApart z TI TO i1 i2 l1 l2) (hz:IsZip s.heap z TI TO .none) (hTI:IsPair s.heap TI (.ref i1) (.ref i2))
  (h1:SIt b s.heap i1 l1 k1) (hl1:SSq b s.heap l1 xs) (hx:xs[k1]?=none)
  (hQ:∀ h':Heap,(∀ (c:Addr) (o:Obj),c ≠ z→c ≠ i1→s.heap.get? c=some o→h'.get? c=some o)→Q none { s with heap:=h' }) :
  wpAny (model prog w) A (pyNext (.ref z)) Q E s:=by
 have hT:s.TypeIs (.ref z) "zip":=⟨_,hz,rfl⟩
 unfold pyNext
 refine wpAny_bind (wpAny_attempt (wpAny_callSpecial?_slot (name:=Str.ofString "__next__") hT F.slot_zip_next (wpAny_call_entry F.slot_zip_next hT F.entry_zip_next ?_ (F.args_zip_next_1 _))))
 refine zipB_end hh D hz hTI h1 hl1 hx fun h' e k ⟨o,g,c⟩=>?_
 refine wpAny_bind (wpAny_isInstance (T:="StopIteration") (b:=true) ⟨_,g,c⟩ isSubtype_stop ?_)
 exact wpAny_pure (hQ h' k)
end
abbrev itObj (b:Bool) (l:Addr):Obj:={ cls:=.type (match b with | true=>"tuple_iterator" | false=>"list_iterator"),data:=.fields #[.ref l,.int 0 0] }
theorem pyIter_seq {b:Bool} {prog:Program} {w:World} {A:Around} {E:Value→Shared→Prop} {s:Shared} {l:Addr} {xs:Array Value} {Q:Value→Shared→Prop} (h:SSq b s.heap l xs) (hQ:Q (.ref s.heap.objs.size) { s with heap:=s.heap.push (itObj b l) }):wpAny (model prog w) A (pyIter (.ref l)) Q E s:=by
 cases b
 ·exact wpAny_pyIter_list h hQ
 ·exact wpAny_pyIter_tuple h hQ
abbrev zb1 (b:Bool) (h:Heap) (l1:Addr):Heap:=h.push (itObj b l1)
abbrev zb2 (b:Bool) (h:Heap) (l1 l2:Addr):Heap:=(zb1 b h l1).push (itObj b l2)
abbrev zb3 (b:Bool) (h:Heap) (l1 l2:Addr):Heap:=(zb2 b h l1 l2).push { cls:=.type "tuple",data:=.seq #[.ref h.objs.size,.ref (zb1 b h l1).objs.size] }
abbrev zb4 (b:Bool) (h:Heap) (l1 l2:Addr):Heap:=(zb3 b h l1 l2).push { cls:=.type "tuple",data:=.seq #[.none,.none] }
abbrev zb5 (b:Bool) (h:Heap) (l1 l2:Addr):Heap:=(zb4 b h l1 l2).push { cls:=.type "zip",data:=.fields #[.none,.bool false,.bool false,.ref (zb2 b h l1 l2).objs.size,.ref (zb3 b h l1 l2).objs.size] }
theorem zipB_new (b:Bool) (l1 l2:Addr) (xs ys:Array Value):Meets (Builtin.«zip.__new__» { pos:=[.type "zip",.ref l1,.ref l2] }) fun _ R s=>
  SSq b s.heap l1 xs∧SSq b s.heap l2 ys∧R (.ok (.ret (.ref (zb4 b s.heap l1 l2).objs.size))) { s with heap:=zb5 b s.heap l1 l2 }:=by
 refine Meets.of_wp fun prog w A R s h=>?_
 obtain ⟨hp,g,d,tk,os⟩:=s
 obtain ⟨hl1,hl2,h⟩:=h
 have hL2:SSq b (hp.push (itObj b l1)) l2 ys:=SSq.at hl2 fun o q=>Heap.get?_push_of_some _ q
 refine wpAny_bind ?_
 refine wpAny_bind (wpAny_pure ?_)
 refine wpAny_ite_false rfl ?_
 refine wpAny_bind (wpAny_of_eq sub_zip ?_)
 refine wpAny_ite_false rfl ?_
 refine wpAny_pure ?_
 refine wpAny_ite_false rfl ?_
 refine wpAny_bind ?_
 refine wpAny_bind ?_
 show wpAny _ _ (forIn [Value.ref l1,Value.ref l2] #[] _) _ _ _
 rw [List.forIn_cons]
 refine wpAny_bind (wpAny_bind (wpAny_holding (pyIter_seq hl1 (wpAny_pure ?_))))
 dsimp only
 rw [List.forIn_cons]
 refine wpAny_bind (wpAny_bind (wpAny_holding (pyIter_seq hL2 (wpAny_pure ?_))))
 dsimp only
 rw [List.forIn_nil]
 refine wpAny_pure (wpAny_pure ?_)
 refine wpAny_bind (wpAny_newTuple ?_ (by show 2≤sizeLine;decide))
 refine wpAny_bind (wpAny_newTuple ?_ (by show 2≤sizeLine;decide))
 refine wpAny_bind ?_
 unfold Builtin.SmallTypes.newRecord
 dsimp only
 refine wpAny_newObj_type ?_ (by first | rfl | (show (5:Nat)≤_;decide) | (show (5:Nat)≤sizeLine+2;rw [sizeLine_eq];decide))
 refine wpAny_pure ⟨_,rfl,h⟩
end L2
namespace L2
open PySem PySem.Spec PyProof.Rows
theorem call_zipB {b:Bool} {prog:Program} {w:World} {A:Around} {E:Value→Shared→Prop} {s:Shared} {l1 l2:Addr} {xs ys:Array Value} {Q:Value→Shared→Prop} (hl1:SSq b s.heap l1 xs) (hl2:SSq b s.heap l2 ys)
  (hQ:∀ (h':Heap) (z TI TO i1 i2:Addr),ZipApart z TI TO i1 i2 l1 l2→IsZip h' z TI TO .none→IsPair h' TI (.ref i1) (.ref i2)→IsPair h' TO .none .none→SIt b h' i1 l1 0→SIt b h' i2 l2 0→(∀ c ∈ [z,TI,TO,i1,i2],s.heap.objs.size≤c)→
   (∀ (c:Addr) (o:Obj),s.heap.get? c=some o→h'.get? c=some o)→Q (.ref z) { s with heap:=h' }) :
  wpAny (model prog w) A (call (.type "zip") [.ref l1,.ref l2]) Q E s:=by
 refine callType_new F.called_zip (by decide) (F.typeCall_zip_2 _ _) (F.newCall_zip_2 _ _) (fun obj=>F.args_object_init_3 obj _ _) F.entry_zip_new (zipB_new b l1 l2 xs ys) ⟨hl1,hl2,?_⟩
 have z1:(zb1 b s.heap l1).objs.size=s.heap.objs.size+1:=Heap.size_push ..
 have z2:(zb2 b s.heap l1 l2).objs.size=s.heap.objs.size+2:=(Heap.size_push ..).trans (by rw [z1])
 have z3:(zb3 b s.heap l1 l2).objs.size=s.heap.objs.size+3:=(Heap.size_push ..).trans (by rw [z2])
 have z4:(zb4 b s.heap l1 l2).objs.size=s.heap.objs.size+4:=(Heap.size_push ..).trans (by rw [z3])
 have g5:(zb5 b s.heap l1 l2).get? (zb4 b s.heap l1 l2).objs.size=some { cls:=.type "zip",data:=.fields #[.none,.bool false,.bool false,.ref (zb2 b s.heap l1 l2).objs.size,.ref (zb3 b s.heap l1 l2).objs.size] }:=Heap.get?_push_size _ rfl
 have g4:(zb5 b s.heap l1 l2).get? (zb3 b s.heap l1 l2).objs.size=some { cls:=.type "tuple",data:=.seq #[.none,.none] }:=Heap.get?_push_of_some _ (Heap.get?_push_size _ rfl)
 have g3:(zb5 b s.heap l1 l2).get? (zb2 b s.heap l1 l2).objs.size=some { cls:=.type "tuple",data:=.seq #[.ref s.heap.objs.size,.ref (zb1 b s.heap l1).objs.size] }:=Heap.get?_push_of_some _ (Heap.get?_push_of_some _ (Heap.get?_push_size _ rfl))
 have g2:(zb5 b s.heap l1 l2).get? (zb1 b s.heap l1).objs.size=some (itObj b l2):=Heap.get?_push_of_some _ (Heap.get?_push_of_some _ (Heap.get?_push_of_some _ (Heap.get?_push_size _ rfl)))
 have g1:(zb5 b s.heap l1 l2).get? s.heap.objs.size=some (itObj b l1):=Heap.get?_push_of_some _ (Heap.get?_push_of_some _ (Heap.get?_push_of_some _ (Heap.get?_push_of_some _ (Heap.get?_push_size _ rfl))))
 have lt:∀ {l:Addr} {zs:Array Value},SSq b s.heap l zs→l<s.heap.objs.size:=fun {l zs} q=>by
  cases b
  ·obtain ⟨o,e,_⟩:=q;exact Heap.lt_size e
  ·obtain ⟨o,e,_⟩:=q;exact Heap.lt_size e
 refine ⟨⟨_,g5,rfl⟩,?_⟩
 have D:=zipApart_new (n:=s.heap.objs.size) (lt hl1) (lt hl2)
 rw [← z4,← z3,← z2,← z1] at D
 refine hQ _ _ _ _ _ _ D g5 g3 g4 ?_ ?_ ?_ fun c o e=>Heap.get?_push_of_some _ (Heap.get?_push_of_some _ (Heap.get?_push_of_some _ (Heap.get?_push_of_some _ (Heap.get?_push_of_some _ e))))
 ·cases b
  ·exact ⟨_,g1,rfl,rfl⟩
  ·exact ⟨_,g1,rfl,rfl⟩
 ·cases b
  ·exact ⟨_,g2,rfl,rfl⟩
  ·exact ⟨_,g2,rfl,rfl⟩
 ·intro c hc
  have e':c=(zb4 b s.heap l1 l2).objs.size∨c=(zb2 b s.heap l1 l2).objs.size∨c=(zb3 b s.heap l1 l2).objs.size∨c=s.heap.objs.size∨c=(zb1 b s.heap l1).objs.size:=by simpa using hc
  rcases e' with rfl | rfl | rfl | rfl | rfl
  ·omega
  ·omega
  ·omega
  ·exact Nat.le_refl _
  ·omega
def SqB (b:Bool) (K:PySem.W.Frag) (H:Hp) (a:Addr) (xs:List V):Prop:=match b with | true=>SqT K H a xs | false=>SqL K H a xs
def Itz (K:PySem.W.Frag) (b:Bool) (l1 l2:Addr):It:=
 ⟨fun i H=>∃ xs ys x y,SqB b K H l1 xs∧SqB b K H l2 ys∧xs[i]?=some x∧ys[i]?=some y,fun i H v H'=>∃ T x y,H T=none∧v=.ref T∧H'=upd H T (.tup [x,y])∧∀ xs ys,SqB b K H l1 xs→SqB b K H l2 ys→xs[i]?=some x∧ys[i]?=some y,fun i H=>∃ xs,SqB b K H l1 xs∧xs.length≤i⟩
section
variable {X:Cx}
theorem Inv.seqB {b:Bool} {pins:List (Addr × Obj)} {s:Shared} {σ:St} {H:Hp} {a:Addr} {xs:List V} (I:Inv X pins σ H s) (h:SqB b X.K H a xs):∃ its:List Value,Vals xs its∧SSq b s.heap a its.toArray:=by
 cases b
 ·obtain ⟨its,rv,p,_⟩:=I.list h;exact ⟨its,rv,p.isList⟩
 ·obtain ⟨its,rv,p,_⟩:=I.tuple h;exact ⟨its,rv,p⟩
theorem Inv.seqB_inj {b:Bool} {pins:List (Addr × Obj)} {s:Shared} {σ:St} {H:Hp} {a:Addr} {xs ys:List V} (I:Inv X pins σ H s) (h:SqB b X.K H a xs) (h':SqB b X.K H a ys):xs=ys:=by
 cases b
 ·exact I.list_inj h h'
 ·exact I.tuple_inj h h'
theorem turn_zip {P:Program} {w:World} {K:PySem.W.Frag} {elts:List Expr} {k:Nat} {pos:Pos} {b:Bool} {z TI TO i1 i2 l1 l2:Addr} (D:ZipApart z TI TO i1 i2 l1 l2):Turn P w K (.Tuple elts k pos) (Itz K b l1 l2) [z,TI,TO,i1,i2] z (fun i h=>IsZip h z TI TO .none∧IsPair h TI (.ref i1) (.ref i2)∧(∃ a c,IsPair h TO a c)∧SIt b h i1 l1 i∧SIt b h i2 l2 i) where
 mem:=by simp
 obj:=fun i h ⟨h1,h2,⟨a,c,h3⟩,h4,h5⟩ d hd=>by
  have it:∀ {j l:Addr},SIt b h j l i→∃ o,h.get? j=some o∧∀ v,o.data ≠ .cell v:=fun {j l} q=>by
   cases b
   ·obtain ⟨o,e,_,q⟩:=q;exact ⟨o,e,fun v z=>by rw [q] at z;cases z⟩
   ·obtain ⟨o,e,_,q⟩:=q;exact ⟨o,e,fun v z=>by rw [q] at z;cases z⟩
  have e':d=z∨d=TI∨d=TO∨d=i1∨d=i2:=by simpa using hd
  rcases e' with rfl | rfl | rfl | rfl | rfl
  ·exact ⟨_,h1,fun v z=>by
    have z':Data.fields _=Data.cell v:=z
    cases z'⟩
  ·exact ⟨_,h2,fun v z=>by
    have z':Data.seq _=Data.cell v:=z
    cases z'⟩
  ·exact ⟨_,h3,fun v z=>by
    have z':Data.seq _=Data.cell v:=z
    cases z'⟩
  ·exact it h4
  ·exact it h5
 keep:=fun i h h' ⟨h1,h2,⟨a,c,h3⟩,h4,h5⟩ kk=>⟨kk z (by simp) _ h1,kk TI (by simp) _ h2,⟨a,c,kk TO (by simp) _ h3⟩,h4.at fun o q=>kk i1 (by simp) o q,h5.at fun o q=>kk i2 (by simp) o q⟩
 item:=by
  intro X hP hw hK hc i pins s σ H E I hf st hg
  subst hP hw hK
  obtain ⟨xs,ys,x,y,hq1,hq2,hx,hy⟩:=hg
  obtain ⟨its,rv,p1⟩:=I.seqB hq1
  obtain ⟨jts,rw',p2⟩:=I.seqB hq2
  obtain ⟨u,hu,ru⟩:=rv.get hx
  obtain ⟨v,hv,rv'⟩:=rw'.get hy
  obtain ⟨h1,h2,⟨a,c,h3⟩,h4,h5⟩:=st
  refine pyNext_zipB_item D h1 h2 h3 h4 h5 p1 p2 (x:=u) (y:=v) (by simpa using hu) (by simpa using hv) fun h' a1 a2 a3 a4 a5 a6 a7=>?_
  refine ⟨_,rfl,wpAny_letOwnedTupleGo_zip a1 fun h2' b1 b2=>?_⟩
  have ltz:z<s.heap.objs.size:=Heap.lt_size h1
  have nz:s.heap.objs.size ≠ z:=Nat.ne_of_gt ltz
  have I1:Inv X pins σ H { s with heap:=h2',toks:=s.toks }:=I.turnedL (ch:=[z,TI,TO,i1,i2]) (fun d o hd q=>by
   have e1:d ≠ z:=fun q=>hd (by simp [q])
   exact (b2.2 d e1).trans (a7 d o e1 (fun q=>hd (by simp [q])) (fun q=>hd (by simp [q])) (fun q=>hd (by simp [q])) q)) hf
  have hT:H s.heap.objs.size=none:=I.hok.fresh (Nat.le_refl _)
  have fT:=I.fpOk (H':=H) (b:=s.heap.objs.size) (Nat.le_refl _) hT
  have gT:h2'.get? s.heap.objs.size=some { cls:=.type "tuple",data:=.seq #[u,v] }:=(b2.2 _ nz).trans a5
  refine ⟨.ref s.heap.objs.size,upd H s.heap.objs.size (.tup [x,y]),I1.track hT I.sz fT.2.1 fT.2.2.2.2.1 fT.2.2.2.2.2 ⟨by simp only [List.length_cons,List.length_nil];rw [sizeLine_eq];decide,[u,v],.cons ru (.cons rv' .nil),⟨_,gT,rfl,_,rfl⟩⟩,rfl,
   ⟨_,x,y,hT,rfl,rfl,fun xs' ys' e1 e2=>by rw [I.seqB_inj e1 hq1,I.seqB_inj e2 hq2];exact ⟨hx,hy⟩⟩,⟨b1,(b2.2 _ D.TIz).trans (a7 _ _ D.TIz D.TITO D.TIi1 D.TIi2 h2),⟨u,v,(b2.2 _ D.TOz).trans a2⟩,a3.at fun o q=>(b2.2 _ D.i1z).trans q,a4.at fun o q=>(b2.2 _ D.i2z).trans q⟩,fun d hd=>?_⟩
  have ltb:d<s.heap.objs.size:=by
   have it:∀ {j l:Addr} {n:Nat},SIt b s.heap j l n→j<s.heap.objs.size:=fun {j l n} q=>by
    cases b
    ·obtain ⟨o,e,_,q⟩:=q;exact Heap.lt_size e
    ·obtain ⟨o,e,_,q⟩:=q;exact Heap.lt_size e
   have e':d=z∨d=TI∨d=TO∨d=i1∨d=i2:=by simpa using hd
   rcases e' with rfl | rfl | rfl | rfl | rfl
   ·exact ltz
   ·exact Heap.lt_size h2
   ·exact Heap.lt_size h3
   ·exact it h4
   ·exact it h5
  rw [upd_ne (Nat.ne_of_lt ltb)]
  exact (hf d hd).1
 done:=by
  intro X hP hw hK hc i pins s σ H E I hf st hg
  subst hP hw hK
  obtain ⟨xs,hq,hx⟩:=hg
  obtain ⟨its,rv,p⟩:=I.seqB hq
  have hl:=rv.length
  obtain ⟨h1,h2,⟨a,c,h3⟩,h4,h5⟩:=st
  exact pyNext_zipB_end (I.ok.hd hc) D h1 h2 h4 p (by simp;omega) fun h' eb=>⟨rfl,I.turnedL (t':=s.toks) (ch:=[z,TI,TO,i1,i2]) (fun d o hd q=>eb d o (fun z=>hd (by simp [z])) (fun z=>hd (by simp [z])) q) hf⟩
 self:=fun _ _ _ _ _ ⟨h1,_⟩ h=>wpAny_pyIter_zip h1 h
def iZip (K:PySem.W.Frag) (ta:TA):TI:=fun σ H R=>ta σ H fun vs H1=>∃ b l m,vs=[.ref l,.ref m]∧(∃ xs,SqB b K H1 l xs)∧(∃ xs,SqB b K H1 m xs)∧R (Itz K b l m) H1
theorem pi_zip {elts:List Expr} {k:Nat} {tpos:Pos} {a b:Expr} {ta:TA} {p pos:Pos} (hg:Gl X "zip") (hm:X.mg "zip" = none) (hv:bootBuiltins "zip" = some (.type "zip")) (ha:PA X [a,b] ta) (hs:starEach [a,b] X.env=[(false,eval a X.env),(false,eval b X.env)]:=by rfl) (hs2:starEach [b] X.env=[(false,eval b X.env)]:=by rfl) :
  PI X (.Tuple elts k tpos) (.Call (.Name "zip" p) [a,b] [] pos) (iZip X.K ta):=by
 intro pins s σ H R I h
 refine Call_ (ld_blt I hg hm hv (PyProof.Rows.callWith_type1 (thn (ha pos pins s σ H _ I h) fun us s1 ⟨vs,H1,I1,r1,q1⟩=>?_) (by rw [hs,hs2]) (by rw [hs2];rfl)))
 obtain ⟨bb,l,m,e,⟨xs,hq⟩,⟨ys,hq2⟩,q⟩:=q1
 subst e
 obtain ⟨u,v,rfl,rx,ry⟩:=vals2 r1
 cases rx
 cases ry
 obtain ⟨its,rv,pl⟩:=I1.seqB hq
 obtain ⟨jts,rw',pm⟩:=I1.seqB hq2
 refine call_zipB pl pm fun h' z TI TO i1 i2 D hz hTI hTO hi1 hi2 hfr hk=>?_
 refine wpAny_pyIter_zip hz ?_
 have I2:Inv X pins σ H1 { s1 with heap:=h' }:=I1.kept (t':=s1.toks) hk
 exact ⟨z,[z,TI,TO,i1,i2],_,_,H1,rfl,I2,turn_zip (b:=bb) D,⟨hz,hTI,⟨_,_,hTO⟩,hi1,hi2⟩,fun c hc=>I1.fpOk (hfr c hc) (I1.hok.fresh (hfr c hc)),q⟩
end
theorem lc_zip {K:PySem.W.Frag} {b:Bool} {l m:Addr} {xs ys:List V} {g:TG} {tc:TT} {te:TE} {Kf:Hp→Prop} {σ0:St} {H0:Hp} {p:Addr} (hlen:xs.length=ys.length) (Pv:Nat→St→Hp→Prop) (h0:Pv 0 σ0 H0) (hl:∀ i σ H,i≤xs.length→Pv i σ H→SqB b K H l xs∧SqB b K H m ys)
  (hs:∀ i x y σ H T,xs[i]?=some x→ys[i]?=some y→Pv i σ H→H T=none→g (.ref T) σ (upd H T (.tup [x,y])) fun σ2 H2=>tc σ2 H2 fun b H3=>if b=true then te σ2 H3 fun y H4=>∃ ys,H4 p=some (.lst ys)∧ys.length<sizeLine∧Pv (i+1) σ2 (upd H4 p (.lst (ys++[y]))) else Pv (i+1) σ2 H3)
  (hd:∀ σ H,Pv xs.length σ H→Kf H) :
  ∃ W:Nat→Nat→St→Hp→Prop,(∃ m,W 0 m σ0 H0)∧∀ i n σ H,W i n σ H→
   ((Itz K b l m).stop i H∧Kf H)∨((Itz K b l m).go i H∧∃ N:St→Hp→Prop,(∀ σ' H',N σ' H'→∃ m',m'<n∧W (i+1) m' σ' H')∧∀ x H',(Itz K b l m).yld i H x H'→g x σ H' fun σ2 H2=>tc σ2 H2 fun b H3=>
    if b=true then te σ2 H3 fun y H4=>∃ ys,H4 p=some (.lst ys)∧ys.length<sizeLine∧N σ2 (upd H4 p (.lst (ys++[y]))) else N σ2 H3):=by
 refine ⟨fun i n σ H=>n=xs.length - i∧i≤xs.length∧Pv i σ H,⟨xs.length,by simp,Nat.zero_le _,h0⟩,?_⟩
 rintro i n σ H ⟨rfl,hi,q⟩
 have hq:=hl i σ H hi q
 by_cases hlt:i<xs.length
 ·refine .inr ⟨⟨xs,ys,xs[i],ys[i]'(by omega),hq.1,hq.2,by simp [hlt],List.getElem?_eq_getElem _⟩,Pv (i+1),fun σ' H' p'=>⟨xs.length - (i+1),by omega,rfl,hlt,p'⟩,fun v H' y=>?_⟩
  obtain ⟨T,x,y,hT,e1,e2,yy⟩:=y
  subst e1 e2
  exact hs i x y σ H T (yy xs ys hq.1 hq.2).1 (yy xs ys hq.1 hq.2).2 q hT
 ·have e:i=xs.length:=by omega
  subst e
  exact .inl ⟨⟨xs,hq.1,Nat.le_refl _⟩,hd σ H q⟩
end L2
namespace L2
open PySem PySem.Spec PyProof.Rows
section
variable {X:Cx}
end
end L2
namespace L2
open PySem PyProof.Rows
section
variable {prog:Program} {w:World} {A:Around} {E:Value→Shared→Prop} {s:Shared}
end
end L2
namespace L2
open PySem PyProof.Rows
structure MR (R:Keyed→Keyed→Prop) (all out ra rb:List Keyed):Prop where
 perm:(out++(ra++rb)).Perm all
 up:out.Pairwise R
 ua:ra.Pairwise R
 ub:rb.Pairwise R
 la:∀ x ∈ out,∀ y ∈ ra,R x y
 lb:∀ x ∈ out,∀ y ∈ rb,R x y
section
variable {R:Keyed→Keyed→Prop} {all out ra rb xs:List Keyed}
end
end L2
namespace L2
open PySem PyProof.Rows
section
variable {prog:Program} {w:World} {A:Around} {E:Value→Shared→Prop} {s:Shared}
end
end L2
namespace L2
open PySem PyProof.Rows
section
variable {prog:Program} {w:World} {A:Around} {E:Value→Shared→Prop} {s:Shared}
end
end L2
namespace L2
open PySem PyProof.Rows
section
variable {prog:Program} {w:World} {A:Around} {E:Value→Shared→Prop} {s:Shared}
structure SG (a₀:Array Keyed) (st:SortSt):Prop where
 perm:(arrOf st).Perm a₀
 kind:kindOf st=oneType'
 failed:failedOf st=none
end
end L2
namespace L2
open PySem PyProof.Rows
section
variable {prog:Program} {w:World} {A:Around} {E:Value→Shared→Prop} {s:Shared} {a₀:Array Keyed}
end
end L2
namespace L2
open PySem PyProof.Rows
section
variable {prog:Program} {w:World} {A:Around} {E:Value→Shared→Prop} {s:Shared} {a₀:Array Keyed}
end
end L2
namespace L2
open PySem PySem.Spec PyProof.Rows
section
variable {prog:Program} {w:World} {A:Around} {E:Value→Shared→Prop} {s:Shared}
end
section
variable {X:Cx}
def Itd (lo:Int) (n:Nat):It:=⟨fun i _=>i<n,fun i H x H'=>H'=H∧x=.int (lo - i),fun i _=>n≤i⟩
theorem turn_down {P:Program} {w:World} {K:PySem.W.Frag} {tg:Expr} (it:Addr) (lo:Int) (n:Nat):Turn P w K tg (Itd lo n) [it] it (fun i h=>IsRangeIter h it (lo+(i:Nat) * (-1)) ((n:Int) - (i:Nat)) (-1)) where
 mem:=List.mem_singleton.mpr rfl
 obj:=fun i h st b hb=>by
  cases List.mem_singleton.mp hb
  exact ⟨_,st,fun v z=>nomatch (show Data.fields _=Data.cell v from z)⟩
 keep:=fun i h h' st k=>k it (List.mem_singleton.mpr rfl) _ st
 item:=by
  intro X hP hw hK hc i pins s σ H E I hf st hg
  subst hP hw hK
  obtain ⟨f0,f1,f2,f3,f4,f5⟩:=hf it (List.mem_singleton.mpr rfl)
  refine (Walks.range (prog:=X.prog) (w:=X.w) (I.ok.hd hc) it lo (-1) n).item i s _ _ hg st fun v h' tk hv st' kk=>?_
  obtain ⟨t,rfl⟩:=hv
  have I1:Inv X pins σ H { s with heap:=h',toks:=tk }:=I.turned (fun b o hb e=>kk b o (by simpa using hb) e) f0 f1 f3 f4 f5
  refine ⟨_,rfl,go_of (s:={ s with heap:=h',toks:=tk }) (n:="range_iterator") st' rfl rfl (by decide) ⟨.int (lo - i),H,I1,⟨t,?_⟩,⟨rfl,rfl⟩,st',fun b hb=>(hf b hb).1⟩⟩
  rw [show lo+(i:Int) * (-1)=lo - i by omega]
 done:=by
  intro X hP hw hK hc i pins s σ H E I hf st hg
  subst hP hw hK
  obtain ⟨f0,f1,f2,f3,f4,f5⟩:=hf it (List.mem_singleton.mpr rfl)
  have hle:n≤i:=hg
  exact wpAny_pyNext_range_end (I.ok.hd hc) st (by omega) fun h' eb=>⟨rfl,I.turned (t':=s.toks) (fun b o hb e=>eb b o hb e) f0 f1 f3 f4 f5⟩
 self:=fun _ _ _ _ _ st h=>wpAny_pyIter_rangeiter st h
def iRngD (ta:TA):TI:=fun σ H R=>ta σ H fun vs H1=>∃ i j:Int,vs=[.int i,.int j,.int (-1)]∧(-(2 ^ 62)≤i∧i<2 ^ 62∧-(2 ^ 62)≤j∧j<2 ^ 62)∧R (Itd i (i - j).toNat) H1
theorem pi_down {tg a b c:Expr} {ta:TA} {p pos:Pos} (hg:Gl X "range") (hm:X.mg "range" = none) (ha:PA X [a,b,c] ta) (hs:starEach [a,b,c] X.env=[(false,eval a X.env),(false,eval b X.env),(false,eval c X.env)]:=by rfl)
  (hs2:starEach [b,c] X.env=[(false,eval b X.env),(false,eval c X.env)]:=by rfl):PI X tg (.Call (.Name "range" p) [a,b,c] [] pos) (iRngD ta):=by
 intro pins s σ H R I h
 refine Call_ (ld_blt I hg hm boot_range (PyProof.Rows.callWith_type1 (thn (ha pos pins s σ H _ I h) fun us s1 ⟨vs,H1,I1,r1,q1⟩=>?_) (by rw [hs,hs2]) (by rw [hs2];rfl)))
 obtain ⟨i,j,e,⟨q1,q2,q3,q4⟩,q⟩:=q1
 subst e
 obtain ⟨u1,rr,rfl,⟨t1,rfl⟩,r2⟩:∃ u rr,us=u::rr∧RelV (.int i) u∧Vals [.int j,.int (-1)] rr:=by cases r1 with | cons r rr=>exact ⟨_,_,rfl,r,rr⟩
 obtain ⟨u2,u3,rfl,⟨t2,rfl⟩,⟨t3,rfl⟩⟩:=vals2 r2
 refine call_range_3 (by decide) ?_ (Or.inl (PyProof.noPylong_small (by omega)))
 refine wpAny_pyIter_range (IsRange.new ..) (PySem.W.small_down q1 q2 q3 q4) ?_
 have I2:Inv X pins σ H1 { s1 with heap:=s1.heap.push { cls:=.type "range",data:=.fields #[.int i t1,.int j t2,.int (-1) t3] },toks:=s1.toks }:=I1.kept fun b o e=>Heap.get?_push_of_some _ e
 refine ⟨(s1.heap.push { cls:=.type "range",data:=.fields #[.int i t1,.int j t2,.int (-1) t3] }).objs.size,[(s1.heap.push { cls:=.type "range",data:=.fields #[.int i t1,.int j t2,.int (-1) t3] }).objs.size],_,_,H1,rfl,
  I2.kept (t':=s1.toks) fun b o e=>Heap.get?_push_of_some _ e,turn_down _ i (i - j).toNat,?_,fun b hb=>?_,q⟩
 ·have e1:i+((0:Nat):Int) * (-1)=i:=by simp
  have e2:(((i - j).toNat:Nat):Int) - ((0:Nat):Int)=Builtin.Range.rangeSize i j (-1):=by rw [PySem.W.rangeSize_downNat];simp
  show IsRangeIter _ _ (i+((0:Nat):Int) * (-1)) ((((i - j).toNat:Nat):Int) - ((0:Nat):Int)) (-1)
  rw [e1,e2]
  exact Heap.get?_push_size _ rfl
 ·cases List.mem_singleton.mp hb
  exact I2.fpOk (Nat.le_refl _) (I2.hok.fresh (Nat.le_refl _))
theorem for_down {lo:Int} {n:Nat} {g:TG} {tb:TS} {D:Ends} {σ:St} {H:Hp} (Pv:Nat→St→Hp→Prop) (h0:Pv 0 σ H)
  (hs:∀ i σ H,i<n→Pv i σ H→g (.int (lo - i)) σ H fun σ2 H2=>tb { D with nx:=Pv (i+1),ct:=Pv (i+1),bk:=D.nx } σ2 H2) (hd:∀ σ H,Pv n σ H→D.nx σ H) :
  ∃ W:Nat→Nat→St→Hp→Prop,(∃ m,W 0 m σ H)∧∀ i m σ H,W i m σ H→
   ((Itd lo n).stop i H∧D.nx σ H)∨((Itd lo n).go i H∧∃ N:St→Hp→Prop,(∀ σ' H',N σ' H'→∃ m',m'<m∧W (i+1) m' σ' H')∧∀ x H',(Itd lo n).yld i H x H'→g x σ H' fun σ2 H2=>tb { D with nx:=N,ct:=N,bk:=D.nx } σ2 H2):=by
 refine ⟨fun i m σ H=>m=n - i∧i≤n∧Pv i σ H,⟨n,by simp,Nat.zero_le _,h0⟩,fun i m σ H ⟨e,hi,p⟩=>?_⟩
 rcases Nat.lt_or_ge i n with hlt | hge
 ·refine .inr ⟨hlt,Pv (i+1),fun σ' H' p'=>⟨n - (i+1),by omega,rfl,hlt,p'⟩,fun x H' y=>?_⟩
  rw [y.1,y.2]
  exact hs i σ H hlt p
 ·have e2:i=n:=by omega
  rw [e2] at p
  exact .inl ⟨hge,hd σ H p⟩
theorem op_ne_nil (hu:X.A.units<cLine):OpR X (compareOp .NotEq) (fun x y H Q=>∃ p l xs,x=.ref p∧y=.ref l∧SqL X.K H p xs∧SqL X.K H l []∧Q (.bl (!xs.isEmpty)) H):=by
 intro pins s σ H x y v u Q I rx ry h
 obtain ⟨p,l,xs,rfl,rfl,h1,h2,q⟩:=h
 cases rx
 cases ry
 obtain ⟨its,r1,p1,z1⟩:=I.list h1
 obtain ⟨its2,r2,p2,z2⟩:=I.list h2
 cases r2
 cases r1 with
 | nil=>exact PySem.SeqAt.RcNeAt.lists (e:=fun _=>true) p1.isList p2.isList rfl hu (fun j h _=>absurd h (by simp)) _ _ _ _ ⟨.bl false,H,I,rfl,q⟩
 | cons a r=>exact PySem.SeqAt.RcNeAt.lists_lengths p1.isList p2.isList (by simp) hu _ _ _ _ ⟨.bl true,H,I,rfl,q⟩
end
end L2
namespace L2
open PySem PySem.Spec PyProof.Rows
open PySem.AutoSeq1 in
section
variable {X:Cx}
end
end L2
namespace L2
open PySem PySem.Spec PyProof.Rows
section
variable {prog:Program} {w:World} {A:Around} {R:Result→Shared→Prop} {I:Addr} {fp wr:List Addr} {n:Nat} {P:Nat→Value→Prop} {St:Nat→Heap→Prop}
end
section
variable {prog:Program} {w:World} {A:Around} {E:Value→Shared→Prop} {s:Shared}
end
section
variable {X:Cx}
end
end L2
namespace L2
open PySem PySem.Spec PyProof.Rows
theorem entry_dul:entryFor table "dict.update.loop" = some Builtin.«dict.update.loop»:=entryFor_of_tree (by kernel_rfl)
theorem plain_dul:plainId "dict.update.loop" = true:=by decide +kernel
theorem list_nokeys:typeLookup (.type "list") "keys" = pure none:=by rw [typeLookup_type,builtinLookup_eq_fast];kernel_rfl
section
variable {prog:Program} {w:World} {A:Around} {E:Value→Shared→Prop} {s:Shared}
theorem miss_keys {a:Addr} {o:Obj} {xs:Array Value} {k:Nat} {Q:Option Value→Shared→Prop} (hx:s.heap.get? a=some o) (hc:o.cls=.type "list") (hdat:o.data=.seq xs k) (hd:o.dict=none) (hA:A.handled=none)
  (h:∀ h' tk,(∀ b u,s.heap.get? b=some u→h'.get? b=some u)→Q none { s with heap:=h',toks:=tk }):wpAny (model prog w) A (getAttr? (.ref a) "keys") Q E s:=by
 obtain ⟨c,dct,dat,sl⟩:=o
 simp only at hc hdat hd
 subst hc hdat hd
 obtain ⟨hp,g,dr,tk,os⟩:=s
 have hT:∀ tk',(⟨hp,g,dr,tk',os⟩:Shared).TypeIs (.ref a) "list":=fun _=>⟨_,hx,rfl⟩
 have f1:=sub_AttributeError
 have f3:=F.slot_list_getattribute.lookup
 have f4:=F.slot_list_getattribute.bind (.ref a)
 have f5:=am_list_getattr_none
 unfold getAttr? getAttrBy? getAttrBy
 repeat (any_goals (first | assumption | exact hT _ | ((with_reducible show wpAny _ _ (call (Value.builtin "list.__getattribute__") _ _) _ _ _);refine call_meets F.slot_list_getattribute (hT _) am_entry_list_getattribute (F.args_list_getattribute_2 _ _) (meets_getattribute_miss_list a xs k sl "keys" _ list_nokeys (by decide +kernel) (by decide +kernel)) ⟨hx,hA,fun h' tk' e hx'=>?_⟩) | wp_step))
 obtain ⟨t',u',he⟩:=hx'.there
 show wpAny _ _ (getattributeRaised _ _ _ _ _ _ _) _ _ _
 unfold getattributeRaised
 repeat (any_goals (first | assumption | wp_step))
 exact h _ _ hx'.of.keeps
end
section
variable {prog:Program} {w:World} {A:Around} {R:Result→Shared→Prop} {I:Addr} {fp wr:List Addr} {n:Nat} {P:Nat→Value→Prop} {St:Nat→Heap→Prop}
theorem dict_run (W:Walks prog w A.in1 I fp wr n P St) (h0:Heap) (d:Addr) (hdf:d ∉ fp) (ps:List (Int × Value)) (hn:ps.length=n) (hz:n≤sizeLine)
  (tup:∀ i v,P i v→∃ r k t x,v=.ref r∧r ∉ wr∧r ≠ d∧h0.IsTuple r #[.int k t,x]∧ps[i]?=some (k,x)) :
  ∀ (m i:Nat) (j:Int) (tj:Tok) (s:Shared) (kvs:List (Key × Value)),n - i=m→i≤n→St i s.heap→s.heap.DictOf (mixKind prog w) d kvs→kvs.length≤i→(∀ b o,b ∉ wr→b ≠ d→h0.get? b=some o→s.heap.get? b=some o)→
  (∀ h' tk,h'.DictOf (mixKind prog w) d ((ps.drop i).foldl (fun m q=>stored m (Sum.inl q.1) q.2) kvs)→(∀ b o,b ∉ wr→b ≠ d→h0.get? b=some o→h'.get? b=some o)→R (.ok (.ret .none)) { s with heap:=h',toks:=tk })→
  codeAny (model prog w) A (.builtin "dict.update.loop" ⟨[.ref d,.ref I,.int j tj,.none],[]⟩) R s:=by
 have hdw:d ∉ wr:=fun h=>hdf (W.sub _ h)
 intro m
 induction m with
 | zero=>
  intro i j tj s kvs hm hi st hd hl hk hR
  have e:i=n:=by omega
  refine codeAny_builtin entry_dul ?_
  rw [Around.under_plainId plain_dul _]
  show wpAny _ A.in1 (pyNext (.ref I) >>= _) _ _ s
  refine wpAny_bind (W.done s _ _ (e ▸ st) fun h' tk hk'=>?_)
  show wpAny _ A.in1 (Builtin.Dict.addKeywords d [] >>= fun _=>ret Value.none) _ _ _
  rw [List.drop_of_length_le (by omega)] at hR
  exact wpAny_bind (wpAny_pure (wpAny_pure (hR h' tk (hd.at fun o eo=>hk' d o hdw eo) fun b o hb hbd eb=>hk' b o hb (hk b o hb hbd eb))))
 | succ m ih=>
  intro i j tj s kvs hm hi st hd hl hk hR
  have hlt:i<n:=by omega
  refine codeAny_builtin entry_dul ?_
  rw [Around.under_plainId plain_dul _]
  show wpAny _ A.in1 (pyNext (.ref I) >>= _) _ _ s
  refine wpAny_bind (W.item i s _ _ hlt st fun v h' tk hP st' hk'=>?_)
  obtain ⟨r,k,t,x,rfl,hrw,hrd,ht,ep⟩:=tup i v hP
  have ed:ps.drop i=(k,x)::ps.drop (i+1):=by
   obtain ⟨hi',e⟩:=List.getElem?_eq_some_iff.mp ep
   rw [List.drop_eq_getElem_cons hi',e]
  rw [ed] at hR
  have ht2:h'.IsTuple r #[.int k t,x]:=by
   obtain ⟨o,e1,e2,e3⟩:=ht
   exact ⟨o,hk' r o hrw (hk r o hrw hrd e1),e2,e3⟩
  obtain ⟨o,ho,hoc,no,hod⟩:=ht2
  have hd2:h'.DictOf (mixKind prog w) d kvs:=hd.at fun o eo=>hk' d o hdw eo
  refine wpAny_bind (wpAny_holding (wpAny_bind ?_))
  show wpAny _ A.in1 (tryCatch (Builtin.Dict.pairItems (.ref r)) _) _ _ _
  refine wpAny_tryCatch ?_
  unfold Builtin.Dict.pairItems
  refine wpAny_bind (wpAny_typeOf (T:="tuple") ⟨o,ho,hoc⟩ ?_)
  rw [if_pos (by decide)]
  refine wpAny_bind (wpAny_seqItems ho hod (wpAny_pure ?_))
  show wpAny _ A.in1 (holding [Value.int k t,x] (dictSet d (.int k t) x)) _ _ _
  refine wpAny_holding (wpAny_dictSet_pairs (hsz:=by omega) (k:=Sum.inl k) (by rw [mixKind_is];exact keyIs_int k t) hd2 fun h2 hd3 sb=>?_)
  have len3:(stored kvs (Sum.inl k) x).length≤i+1:=by
   unfold stored
   split
   ·rw [List.length_map];omega
   ·rw [List.length_append,List.length_singleton];omega
  refine wpAny_pure ⟨plainId_quiet plain_dul _,ih (i+1) _ _ _ (stored kvs (Sum.inl k) x) (by omega) hlt (W.frame _ _ _ st' fun b hb o eb=>?_) hd3 len3 (fun b o hb hbd eb=>?_) fun h3 tk3 hd4 hk4=>hR h3 tk3 hd4 hk4⟩
  ·rw [sb.2 b (fun z:b=d=>hdf (z ▸ hb))]
   exact eb
  ·rw [sb.2 b hbd]
   exact hk' b o hb (hk b o hb hbd eb)
end
section
variable {prog:Program} {w:World} {A:Around} {E:Value→Shared→Prop} {s:Shared}
theorem call_dict_of {l:Addr} {o:Obj} {its:Array Value} {nl:Nat} {ps:List (Int × Value)} {Q:Value→Shared→Prop} (hA:A.handled=none) (hl:s.heap.get? l=some o) (hc:o.cls=.type "list") (hdat:o.data=.seq its nl) (hdn:o.dict=none) (hn:ps.length=its.size) (hz:its.size≤sizeLine)
  (tup:∀ (i:Nat) v,its[i]?=some v→∃ r k t x,v=.ref r∧s.heap.IsTuple r #[.int k t,x]∧ps[i]?=some (k,x))
  (h:∀ h' tk,h'.DictOf (mixKind prog w) s.heap.objs.size (ps.foldl (fun m q=>stored m (Sum.inl q.1) q.2) [])→(∀ b u,s.heap.get? b=some u→h'.get? b=some u)→Q (.ref s.heap.objs.size) { s with heap:=h',toks:=tk }) :
  wpAny (model prog w) A (call (.type "dict") [.ref l]) Q E s:=by
 refine callType_codes (Q₁:=fun obj s₁=>obj=.ref s.heap.objs.size∧s₁={ s with heap:=s.heap.push { cls:=.type "dict",data:=.dict #[] } }) F.kt_called_dict (F.kt_typeCall_dict_1 _) F.entry_dict_init (kt_code_dict_new _ ⟨rfl,rfl⟩) ?_
 rintro obj s₁ ⟨rfl,rfl⟩
 have nw:(s.heap.push { cls:=.type "dict",data:=.dict #[] }).DictOf (mixKind prog w) s.heap.objs.size []:=Heap.DictOf.new s.heap
 have hl':(s.heap.push { cls:=.type "dict",data:=.dict #[] }).get? l=some o:=Heap.get?_push_of_some _ hl
 have hll:l<s.heap.objs.size:=Heap.lt_size hl
 refine ⟨nw.typeIs,F.args_dict_init_2 _ _,?_⟩
 unfold Builtin.«dict.__init__»
 refine wpAny_bind ?_
 unfold Builtin.Dict.selfAndRest
 refine wpAny_bind (wpAny_notOrdered_dict nw.typeIs ?_)
 show wpAny _ _ (pure (s.heap.objs.size,[Value.ref l])) _ _ _
 refine wpAny_pure ?_
 show wpAny _ _ (Builtin.Dict.updateFrom "dict.__init__" s.heap.objs.size (.ref l) [] .none) _ _ _
 unfold Builtin.Dict.updateFrom
 refine wpAny_bind (wpAny_typeOf (T:="list") ⟨o,hl',hc⟩ ?_)
 rw [if_pos (by decide)]
 refine wpAny_bind (miss_keys hl' hc hdat hdn hA fun h1 tk1 k1=>?_)
 rw [if_pos (show (none:Option Value).isNone=true from rfl)]
 have hl1:h1.IsList l its:=⟨o,k1 _ _ hl',hc,nl,hdat⟩
 have hlt1:l<h1.objs.size:=Heap.lt_size (k1 _ _ hl')
 have hdl:s.heap.objs.size<h1.objs.size:=by
  obtain ⟨_,_,_,e,_⟩:=nw
  exact Heap.lt_size (k1 _ _ e)
 refine wpAny_bind (wpAny_rule (wpAny_bind (wpAny_pyIter_list hl1 ?_)))
 refine wpAny_pure ⟨plainId_quiet plain_dul _,?_⟩
 refine dict_run (n:=its.size) (Walks.list (A:=A.in1.in1) hA _ l (Nat.ne_of_lt hlt1) its) h1 s.heap.objs.size ?_ ps hn hz (fun i v hv=>?_) its.size 0 _ _ _ [] rfl (Nat.zero_le _) ⟨⟨_,Heap.get?_push_size _ rfl,rfl,rfl⟩,hl1.push _⟩ ((nw.keep k1).push _) (Nat.le_refl _) (fun b u hb hbd eb=>Heap.get?_push_of_some _ eb) fun h' tk hd' hk'=>?_
 ·simp only [List.mem_cons,List.not_mem_nil,or_false,not_or]
  exact ⟨Nat.ne_of_lt hdl,Nat.ne_of_gt hll⟩
 ·obtain ⟨r,k,t,x,e1,e2,e3⟩:=tup i v hv
  obtain ⟨or,hr,hr2,hr3⟩:=e2
  have hrs:=Heap.lt_size hr
  refine ⟨r,k,t,x,e1,?_,Nat.ne_of_lt hrs,⟨or,k1 _ _ (Heap.get?_push_of_some _ hr),hr2,hr3⟩,e3⟩
  simp only [List.mem_cons,List.not_mem_nil,or_false]
  exact Nat.ne_of_lt (Nat.lt_trans hrs hdl)
 ·refine ⟨rfl,h h' tk hd' fun b u eb=>?_⟩
  have hbs:=Heap.lt_size eb
  refine hk' b u ?_ (Nat.ne_of_lt hbs) (k1 _ _ (Heap.get?_push_of_some _ eb))
  simp only [List.mem_cons,List.not_mem_nil,or_false]
  exact Nat.ne_of_lt (Nat.lt_trans hbs hdl)
end
theorem pair_get {α β:Type} {F:α→β→Prop}:∀ {l₁:List α} {l₂:List β} {i:Nat} {a:α},Paired F l₁ l₂→l₁[i]?=some a→∃ b,l₂[i]?=some b∧F a b
 | _,_,_,_,.nil,e=>by simp at e
 | _,_,0,_,.cons r _,e=>by simp at e;subst e;exact ⟨_,rfl,r⟩
 | _,_,i+1,a,.cons _ t,e=>by
  obtain ⟨b,h1,h2⟩:=pair_get (i:=i) (a:=a) t (by simpa using e)
  exact ⟨b,by simpa using h1,h2⟩
theorem plain_parts {h:Heap} {p:Addr} {its:Array Value} (x:PlainL h p its):∃ o,h.get? p=some o∧o.cls=.type "list"∧o.dict=none∧∃ n,o.data=.seq its n:=by
 obtain ⟨o,n,h2,h3,h4,h5⟩:=x
 exact ⟨o,h2,h3,h4,n,h5⟩
section
variable {X:Cx}
def pairs2 (H:Hp) (K:PySem.W.Frag) (rs:List Addr) (ps:List (Int × V)):Prop:=Paired (fun r (q:Int × V)=>SqT K H r [.int q.1,q.2]) rs ps
def putAll (kvs:List (Key × V)) (ps:List (Int × V)):List (Key × V):=ps.foldl (fun m q=>putK m (Sum.inl q.1) q.2) kvs
theorem putAll_len:∀ (ps:List (Int × V)) (kvs:List (Key × V)),(putAll kvs ps).length≤kvs.length+ps.length
 | [],kvs=>by simp [putAll]
 | q::ps,kvs=>by
  have:=putAll_len ps (putK kvs (Sum.inl q.1) q.2)
  have:=length_putK kvs (Sum.inl q.1) q.2
  show (putAll (putK kvs (Sum.inl q.1) q.2) ps).length≤kvs.length+(q::ps).length
  rw [List.length_cons]
  omega
theorem raw_pairs {pins:List (Addr × Obj)} {σ:St} {H:Hp} {s:Shared} (I:Inv X pins σ H s):∀ {rs:List Addr} {ps:List (Int × V)},pairs2 H X.K rs ps→
  ∃ qs:List (Int × Value),Paired (fun r (q:Int × Value)=>∃ t,s.heap.IsTuple r #[.int q.1 t,q.2]) rs qs∧Paired (fun (p:Int × V) (q:Int × Value)=>p.1=q.1∧RelV p.2 q.2) ps qs:=by
 intro rs ps h
 unfold pairs2 at h
 induction h with
 | nil=>exact ⟨[],.nil,.nil⟩
 | @cons r q rs ps h t ih=>
  obtain ⟨qs,h1,h2⟩:=ih
  obtain ⟨its,rv,pl,hz⟩:=I.tuple h
  obtain ⟨u1,u2,rfl,⟨tk,rfl⟩,r2⟩:=vals2 rv
  exact ⟨(q.1,u2)::qs,.cons ⟨tk,pl⟩ h1,.cons ⟨rfl,r2⟩ h2⟩
theorem put_all:∀ {ps:List (Int × V)} {qs:List (Int × Value)} {kvs:List (Key × V)} {vs:List (Key × Value)},Paired (fun (p:Int × V) (q:Int × Value)=>p.1=q.1∧RelV p.2 q.2) ps qs→KV kvs vs→KV (putAll kvs ps) (qs.foldl (fun m q=>stored m (Sum.inl q.1) q.2) vs):=by
 intro ps qs kvs vs h
 induction h generalizing kvs vs with
 | nil=>exact fun r=>r
 | cons h t ih=>
  intro r
  refine ih ?_
  dsimp only
  rw [← h.1]
  exact r.put _ h.2
theorem call_dictP (hc:X.calm=true):CallR X (.type "dict") (fun xs H Q=>∃ (p:Addr) (rs:List Addr) (ps:List (Int × V)),xs=[.ref p]∧SqL X.K H p (rs.map V.ref)∧pairs2 H X.K rs ps∧∀ d,H d=none→Q (.ref d) (upd H d (.dK (putAll [] ps)))):=by
 intro pins s σ H xs us Q I r h
 obtain ⟨p,rs,ps,rfl,hq,hp,q⟩:=h
 obtain ⟨u,rfl,rx⟩:=vals1 r
 cases rx
 obtain ⟨its,rv,pl,hz⟩:=I.list hq
 obtain ⟨qs,h1,h2⟩:=raw_pairs I hp
 have l0:=rv.length
 rw [List.length_map] at l0
 have l1:rs.length=qs.length:=Paired.length h1
 have l2:ps.length=qs.length:=Paired.length h2
 obtain ⟨o,ho,hoc,hod,n,hdat⟩:=plain_parts pl
 rw [List.length_map] at hz
 refine call_dict_of (ps:=qs) (I.ok.hd hc) ho hoc hdat hod (by simp;omega) (by simp;omega) (fun i v hv=>?_) fun h' tk hd' hk=>?_
 ·have hv':its[i]?=some v:=by simpa using hv
  have hi:i<rs.length:=by rw [l0];exact (List.getElem?_eq_some_iff.mp hv').1
  obtain ⟨u,hu,ru⟩:=rv.get (i:=i) (x:=.ref rs[i]) (by rw [List.getElem?_map,List.getElem?_eq_getElem hi];rfl)
  rw [hv'] at hu
  cases hu
  cases ru
  obtain ⟨b,hb,t,ht⟩:=pair_get h1 (List.getElem?_eq_getElem hi)
  exact ⟨rs[i],b.1,t,b.2,rfl,ht,hb⟩
 ·have z:(putAll [] ps).length≤sizeLine:=by
   have:=putAll_len ps []
   simp at this
   omega
  refine ⟨.ref s.heap.objs.size,_,I.laid (a:=s.heap.objs.size) (o:=.dK (putAll [] ps)) (t':=tk) hk (Nat.le_refl _) (dk_new z (beq_eq_false_iff_ne.mpr (Ne.symm (Nat.ne_of_lt I.big))) (put_all h2 .nil) hd'),rfl,q _ (I.hok.fresh (Nat.le_refl _))⟩
end
end L2
namespace L2
open PySem PySem.Spec PyProof.Rows
section
variable {X:Cx}
def rCatA (K:PySem.W.Frag):R2:=fun x y H Q=>∃ a b xs ys,x=.ref a∧y=.ref b∧SqT K H a xs∧SqT K H b ys∧ys ≠ []∧xs.length+ys.length≤sizeLine∧(xs=[]→Q (.ref b) H)∧(xs ≠ []→∀ p,H p=none→Q (.ref p) (upd H p (.tup (xs++ys))))
theorem op_catA:OpR X (binaryOp .Add) (rCatA X.K):=by
 intro pins s σ H x y v u Q I rx ry h
 obtain ⟨a,b,xs,ys,rfl,rfl,ha,hb,hy,hz,q1,q2⟩:=h
 by_cases hx:xs=[]
 ·subst hx
  cases rx
  cases ry
  obtain ⟨its,r1,p1,_⟩:=I.tuple ha
  obtain ⟨its2,r2,p2,_⟩:=I.tuple hb
  cases r1
  obtain ⟨⟨cls,dd,data,sl⟩,ho,hc,n,hd⟩:=id p1
  obtain ⟨⟨cls2,dd2,data2,sl2⟩,ho2,hc2,n2,hd2⟩:=id p2
  simp only at hc hd hc2 hd2
  subst hc hd hc2 hd2
  exact concat_meets ⟨_,ho,rfl⟩ ⟨_,ho2,rfl⟩ noFill_tuple_add seq_tuple_add PySem.F.slot_tuple_add PySem.F.entry_tuple_add (PySem.F.args_tuple_add_2 _ _) (tuple_addW0 a b #[] its2.toArray n n2 dd dd2 sl sl2 rfl) ⟨ho,ho2,.ref b,H,I,rfl,q1 rfl⟩
 ·exact op_catT pins s σ H (.ref a) (.ref b) v u Q I rx ry ⟨a,b,xs,ys,rfl,rfl,ha,hb,hx,hz,fun z=>absurd z hy,fun _=>q2 hx⟩
end
end L2
namespace L2
open PySem
def g5:Nat→Nat
 | 0=>0
 | n+1=>5 * g5 n+1
end L2
namespace L2
open PySem PySem.Spec PyProof.Rows
structure TabG (byText:Bool) (t:SetTable) (n:Nat):Prop where
 pow:∃ k,3≤k∧t.mask+1=2 ^ k
 dum:t.dummies=#[]
 plain:t.plain=true
 led:t.led=!byText
 size:t.place.size=n
 up:t.place.toList.Pairwise (·<·)
 le:∀ j ∈ t.place.toList,j≤t.mask
section
variable {byText:Bool} {t:SetTable} {n:Nat}
end
end L2
namespace L2
open PySem PySem.Spec PyProof.Rows
section
variable {mask:Nat} {owner:Array (Option Nat)}
end
structure Own (N:Nat) (L:List Nat) (owner:Array (Option Nat)):Prop where
 size:owner.size=N
 nd:L.Nodup
 lt:∀ j ∈ L,j<N
 at_:∀ (m j:Nat),L[m]?=some j→owner[j]?=some (some m)
 no:∀ j,j<N→j ∉ L→owner[j]?=some none
end L2
namespace L2
open PySem PySem.Spec PyProof.Rows
section
variable {prog:Program} {w:World} {A:Around} {E:Value→Shared→Prop} {s:Shared}
end
section
variable {prog:Program} {w:World} {A:Around} {R:Result→Shared→Prop} {I:Addr} {fp wr:List Addr} {G:Array GenState→Array GenState→Prop} {n:Nat} {P:Nat→Value→Prop} {St:Nat→Shared→Prop}
end
section
variable {prog:Program} {w:World} {A:Around} {E:Value→Shared→Prop} {s:Shared}
end
section
variable {prog:Program} {w:World} {A:Around} {E:Value→Shared→Prop} {s:Shared} {a I:Addr} {es:Array (Int × Value)} {ep:Nat} {t:SetTable} {i:Nat}
end
section
variable {X:Cx}
end
end L2
namespace L2
open PySem PySem.Spec PyProof.Rows
section
variable {X:Cx}
def rCatU (K:PySem.W.Frag):R2:=fun x y H Q=>∃ a b xs ys,x=.ref a∧y=.ref b∧SqT K H a xs∧SqT K H b ys∧((xs ≠ []∧H a=some (.tup xs))∨(ys ≠ []∧H b=some (.tup ys)))∧xs.length+ys.length≤sizeLine∧∀ p H',Same H H'→H' p=some (.tup (xs++ys))→Q (.ref p) H'
theorem op_catU:OpR X (binaryOp .Add) (rCatU X.K):=by
 intro pins s σ H x y v u Q I rx ry h
 obtain ⟨a,b,xs,ys,rfl,rfl,ha,hb,hd,hz,q⟩:=h
 have nw:∀ p,H p=none→Q (.ref p) (upd H p (.tup (xs++ys))):=fun p hp=>q p _ (fun b u e=>by rw [upd_ne (ne_of_none e hp)];exact e) upd_same
 rcases hd with ⟨hx,ga⟩ | ⟨hy,gb⟩
 ·exact op_catT pins s σ H (.ref a) (.ref b) v u Q I rx ry ⟨a,b,xs,ys,rfl,rfl,ha,hb,hx,hz,fun z=>q a H (fun _ _ e=>e) (by rw [z,List.append_nil];exact ga),fun _=>nw⟩
 ·exact op_catA pins s σ H (.ref a) (.ref b) v u Q I rx ry ⟨a,b,xs,ys,rfl,rfl,ha,hb,hy,hz,fun z=>q b H (fun _ _ e=>e) (by rw [z];exact gb),fun _=>nw⟩
end
section
variable {prog:Program} {w:World} {A:Around} {E:Value→Shared→Prop} {s:Shared}
end
section
variable {X:Cx}
end
end L2
namespace L2
open PySem PySem.Spec PyProof.Rows
structure Ex (B:Heap) (l:List Env) (e:Addr) (cls:Value) (dd:Option Addr) (nt:Bool) (h:Heap):Prop where
 stays:B.StaysIn h
 new:B.get? e=none
 frames:h.FunFrames B l
 rec_:∃ (oe:Obj) (vs:Array Value) (x1:Value),h.get? e=some oe∧oe.cls=cls∧oe.dict=dd∧oe.data=.fields vs∧vs[1]?=some x1∧
  ((x1=.none∧nt=false)∨∃ (T:Addr) (oT:Obj) (ts:Array Value) (x3:Value),x1=.ref T∧B.get? T=none∧T ≠ e∧h.get? T=some oT∧oT.data=.fields ts∧ts[3]?=some x3)
section
variable {M:Model} {A:Around} {E:Value→Shared→Prop} {s:Shared} {B:Heap} {env:Env} {outer l:List Env} {L e:Addr} {cls:Value} {dd:Option Addr} {nt:Bool} {Q:Unit→Shared→Prop}
end
end L2
namespace L2
open PySem PySem.Spec PyProof.Rows
def Kp (outer:List Env) (H':Hp) (h0:Heap) (b:Addr):Prop:=(∃ o,H' b=some o)∨((∃ o,h0.get? b=some o)∧b ∉ frs outer)
structure XD (P:Program) (w:World) (outer l:List Env) (H:Hp) (h0:Heap) (e:Addr) (cls:Value) (dd:Option Addr) (H':Hp) (B:Heap) (nt:Bool) (h:Heap):Prop where
 un:Un (frs outer) [] H H' h0 h
 hok:HOk P w H' h
 ex:Ex B l e cls dd nt h
 kp:∀ b o,h.get? b=some o→Kp outer H' h0 b→B.get? b=some o
 ne:H' e=none
 ge:h0.objs.size≤e
def XP (X:Cx) (G:XK) (ev:Value) (s':Shared):Prop:=X.A.frames=some X.stack∧∃ (e:Addr) (cls:Value) (dd:Option Addr) (H':Hp) (B:Heap) (nt:Bool),ev=.ref e∧s'.os=X.s₀.os∧AllBare s'.gens∧XD X.prog X.w X.outer X.stack X.H₀ X.s₀.heap e cls dd H' B nt s'.heap∧G cls dd H'
section
variable {X:Cx} {E:XK} {G:XK} {pins:List (Addr × Obj)} {σ:St} {H:Hp} {s s':Shared}
end
section
variable {P:Program} {w:World} {K:PySem.W.Frag} {mg:Str→Option Value} {base:Heap}
end
end L2
namespace L2
open PySem PySem.Spec PyProof.Rows
section
variable {X:Cx} {pins:List (Addr × Obj)} {σ:St} {H:Hp} {s:Shared} {ev:Value}
end
section
variable {X:Cx}
def Ends.off (D:Ends):Option Nat→Ends
 | none=>D
 | some j=>{ nx:=fun σ H=>D.nx (σ.set j none) H,rt:=D.rt,bk:=fun σ H=>D.bk (σ.set j none) H,ct:=fun σ H=>D.ct (σ.set j none) H }
end
end L2
namespace L2
open PySem PySem.Spec PyProof.Rows
def bmV:List Value:=[.type "ValueError",.type "Exception",.type "BaseException",.type "object"]
def xcIn (K:PySem.W.Frag) (C:Addr) (init:Option Value):Bool:=match K.lookup C with
 | some ⟨.type "type",_,.cls cd,sl⟩=>(match cd.mro,sl.toList with
  | .ref C'::bm,[_,_,_,_,some (.builtin n),_]=>C' == C && n == "ValueError.__new__" && !cd.hasDel && cd.hasDict && PySem.W.tailIn K bmV bm && PySem.W.nsOkIn K cd.ns && PySem.W.nsIn K cd.ns "__init__" == some init
  | _,_=>false)
 | _=>false
structure XCls (K:PySem.W.Frag) (C:Addr) (init:Option Value):Prop where
 cls:xcIn K C init=true
 set:PySem.W.findIn K (.ref C) "__setattr__" = some (some (.builtin "object.__setattr__"))
 kp:PySem.W.keepIn K (.ref C)=true
section
variable {prog:Program} {w:World} {A:Around} {E:Value→Shared→Prop} {h:Heap} {g:Array GenState} {d:Drawn} {t:Nat} {os:OsState} {K:PySem.W.Frag} {C x:Addr} {init:Option Value} {mA:Str→Option Value} {name:Str} {v:Value} {ns:List Str}
end
end L2
namespace L2
open PySem PySem.Spec PyProof.Rows
section
variable {prog:Program} {w:World} {A:Around} {R:Result→Shared→Prop} {h:Heap} {g:Array GenState} {d:Drawn} {t:Nat} {os:OsState} {K:PySem.W.Frag} {C fI:Addr} {rest:List Value}
end
section
variable {M:Model} {A:Around} {E:Value→Shared→Prop} {env:Env} {K:PySem.W.Frag} {C:Addr} {init:Option Value}
end
section
variable {X:Cx} {pins:List (Addr × Obj)} {σ:St} {H:Hp} {s:Shared}
end
section
variable {X:Cx}
end
end L2
namespace L2
open PySem PySem.Spec PyProof.Rows
structure XGet (K:PySem.W.Frag) (C:Addr):Prop where
 ga:PySem.W.findIn K (.ref C) "__getattribute__" = some (some (.builtin "BaseException.__getattribute__"))
 gt:PySem.W.findIn K (.ref C) "__getattr__" = some none
 be:PySem.W.mroIn K C (.type "BaseException")=some true
 hd:PySem.W.hasDictIn K C=true
section
variable {prog:Program} {w:World} {A:Around} {E:Value→Shared→Prop} {s:Shared} {K:PySem.W.Frag} {x C:Addr} {ox:Obj} {od:Option Obj} {name:Str} {tk:Tok}
end
structure XTy (K:PySem.W.Frag) (C:Addr):Prop extends XGet K C where
 ca:PySem.W.findIn K (.ref C) "__class__" = some (some (.builtin "object.__class__"))
 cn:PySem.W.specialIn K (.builtin "object.__class__") "__get__" = some (some (.builtin "getset_descriptor.__get__"))
 ct:PySem.W.takesIn K (.builtin "object.__class__")=some true
 cm:PySem.W.mroIn K C (.type "object")=some true
section
variable {K:PySem.W.Frag}
end
section
variable {X:Cx}
end
end L2
namespace L2
open PySem PySem.Spec PyProof.Rows
structure RoomH (k:Nat) (A:Around):Prop where
 dp:A.depth+3 * k+5<recursionLimit
 un:A.units+16 * k+200<cLine
structure FnOkH (P:Program) (w:World) (K:PySem.W.Frag) (mg:Str→Option Value) (base:Heap) (CX:CXT) (k:Nat) (f:Addr) (fd:FuncData) (ps:List Str) (sp:Sp):Prop where
 len:∀ vs H Q E,sp vs H Q E→vs.length=ps.length
 run:∀ (A:Around) (outer:List Env) (s:Shared) (H:Hp) (args:Args) (us:List Value) (vs:List V) (Q:VK) (E:XK),RoomH k A→Env0 P w K mg base A outer s H→BindsTo s fd args (ps.zip us)→Vals vs us→sp vs H Q E→
  codeAny (model P w) A (.call (.ref f) args) (CR CX outer P w H s Q E) s
section
variable {P:Program} {w:World} {K:PySem.W.Frag} {mg:Str→Option Value} {base:Heap}
end
section
variable {X:Cx} {CX:CXT} {k:Nat} {f C:Addr} {fd:FuncData} {ps:List Str} {sp:Sp} {dvs:List V} {ds:List Value} {E:XK} {x m:Str} {p pos apos:Pos} {e o:Expr} {es:List Expr} {ta:TE} {t:TA}
end
end L2
namespace L2
open PySem PySem.Spec PyProof.Rows
section
variable {X:Cx}
end
end L2
namespace L2
open PySem PySem.Spec PyProof.Rows
section
variable {prog:Program} {w:World} {A:Around} {E:Value→Shared→Prop} {s:Shared}
end
end L2
namespace L2
open PySem PySem.Spec PyProof.Rows
section
variable {X:Cx}
theorem call_sum (hc:X.calm=true):CallR X (.builtin "sum") (fun xs H Q=>∃ (p:Addr) (ns:List Int),xs=[.ref p]∧SqL X.K H p (ns.map V.int)∧Q (.int ns.sum) H):=by
 intro pins s σ H xs us Q I r h
 obtain ⟨p,ns,rfl,hq,q⟩:=h
 obtain ⟨u,rfl,rx⟩:=vals1 r
 cases rx
 obtain ⟨its,rv,pl,hz⟩:=I.list hq
 have hi:=intsAre_of' rv
 obtain ⟨xs,hx⟩:=hi.allInts.items
 have hl':s.heap.IsList p (intItems xs):=hx ▸ pl.isList
 refine sum_intListG (I.ok.hd hc) hl' fun h' tk t' hk=>?_
 have e1:ns=xs.toList.map (·.1):=by
  rw [← nums_intItems,← hx]
  exact (show numsOf its.toArray.toList=ns from hi.numsOf).symm
 have e2:preSum (numAt xs) xs.size=ns.sum:=by
  rw [preSum_eq,List.take_of_length_le (by simp),e1]
 rw [e2]
 exact ⟨.int ns.sum,H,I.kept fun b o e=>hk b o e,⟨_,rfl⟩,q⟩
end
end L2
namespace L2
open PySem PySem.Spec PyProof.Rows
section
variable {X:Cx}
end
end L2
namespace L2
open PySem PySem.Spec PyProof.Rows
structure LcScopeO (X:Cx) (scope:Scope) (own:List Str) (fv:List Nat):Prop where
 kind:scope.kind=.function
 names:∀ y ∈ scope.names,y.2=.local→scope.names.lookup y.1=some .local
 cells:∀ y ∈ scope.names,y.2=.cell→scope.names.lookup y.1=some .cell
 frees:∀ y ∈ scope.names,y.2=.free→scope.names.lookup y.1=some .free
 free:∀ y ∈ scope.names,y.2=.free→X.env.kindOf y.1=some .cell∨X.env.kindOf y.1=some .free
 nd:(own++fv.map fun i=>X.N.getD i Str.empty).Nodup
 fvs:∀ i ∈ fv,i<X.N.length∧scope.names.lookup (X.N.getD i Str.empty)=some .free
 owns:∀ x ∈ own,scope.names.lookup x=some .local∨scope.names.lookup x=some .cell
section
variable {X:Cx} {pins:List (Addr × Obj)} {σ:St} {H:Hp} {s:Shared}
end
section
variable {X:Cx} {tg iter elt:Expr} {ifs:List Expr} {scope:Scope} {pos:Pos} {own:List Str} {fv:List Nat} {wi:TI} {g:TG} {tc:TT} {te:TE}
end
end L2
namespace L2
open PySem PySem.Spec PyProof.Rows
section
variable {prog:Program} {w:World} {A:Around} {R:Result→Shared→Prop} {I:Addr} {fp wr:List Addr} {n:Nat} {P:Nat→Value→Prop} {St:Nat→Heap→Prop}
end
section
variable {prog:Program} {w:World} {A:Around} {E:Value→Shared→Prop} {s:Shared}
end
section
variable {X:Cx}
theorem op_catV:OpR X (binaryOp .Add) (fun x y H Q=>∃ a b xs ys,x=.ref a∧y=.ref b∧H a=some (.tup xs)∧H b=some (.tup ys)∧xs.length+ys.length≤sizeLine∧∀ p H',Same H H'→H' p=some (.tup (xs++ys))→Q (.ref p) H'):=by
 intro pins s σ H x y v u Q I rx ry h
 obtain ⟨a,b,xs,ys,rfl,rfl,ga,gb,hz,q⟩:=h
 by_cases hx:xs=[]
 ·subst hx
  cases rx
  cases ry
  obtain ⟨its,r1,p1,_⟩:=I.tuple (SqT.of ga)
  obtain ⟨its2,r2,p2,_⟩:=I.tuple (SqT.of gb)
  cases r1
  obtain ⟨⟨cls,dd,data,sl⟩,ho,hc,n,hd⟩:=id p1
  obtain ⟨⟨cls2,dd2,data2,sl2⟩,ho2,hc2,n2,hd2⟩:=id p2
  simp only at hc hd hc2 hd2
  subst hc hd hc2 hd2
  exact concat_meets ⟨_,ho,rfl⟩ ⟨_,ho2,rfl⟩ noFill_tuple_add seq_tuple_add PySem.F.slot_tuple_add PySem.F.entry_tuple_add (PySem.F.args_tuple_add_2 _ _) (tuple_addW0 a b #[] its2.toArray n n2 dd dd2 sl sl2 rfl) ⟨ho,ho2,.ref b,H,I,rfl,q b H (fun _ _ e=>e) gb⟩
 ·exact op_catU pins s σ H (.ref a) (.ref b) v u Q I rx ry ⟨a,b,xs,ys,rfl,rfl,SqT.of ga,SqT.of gb,.inl ⟨hx,ga⟩,hz,q⟩
end
end L2
namespace L2
open PySem PySem.Spec PyProof.Rows
theorem bt_any:bootBuiltins "any" = some (.builtin "any"):=by decide +kernel
theorem bt_sum:bootBuiltins "sum" = some (.builtin "sum"):=by decide +kernel
theorem range_any' (bs:List Bool):((List.range bs.length).any fun i=>(bs[i]?).getD false)=bs.any id:=by
 rw [Bool.eq_iff_iff,List.any_eq_true,List.any_eq_true]
 constructor
 ·rintro ⟨i,hi,h⟩
  have hi':=List.mem_range.mp hi
  rw [List.getElem?_eq_getElem hi'] at h
  exact ⟨_,List.getElem_mem hi',h⟩
 ·rintro ⟨b,hb,h⟩
  obtain ⟨i,hi,e⟩:=List.getElem_of_mem hb
  exact ⟨i,List.mem_range.mpr hi,by rw [List.getElem?_eq_getElem hi,e];exact h⟩
section
variable {X:Cx}
theorem call_any (hc:X.calm=true):CallR X (.builtin "any") (fun xs H Q=>∃ (p:Addr) (bs:List Bool),xs=[.ref p]∧SqL X.K H p (bs.map V.bl)∧Q (.bl (bs.any id)) H):=by
 intro pins s σ H xs us Q I r h
 obtain ⟨p,bs,rfl,hq,q⟩:=h
 obtain ⟨u,rfl,rx⟩:=vals1 r
 cases rx
 obtain ⟨its,rv,pl,hz⟩:=I.list hq
 have hl:=pl.isList
 have hlt:p<s.heap.objs.size:=by obtain ⟨_,e,_⟩:=hl;exact Heap.lt_size e
 have hlen:=rv.length
 rw [List.length_map] at hlen
 refine call_any_walk (wpAny_pyIter_list hl ?_)
 refine ⟨s.heap.objs.size,[s.heap.objs.size,p],[s.heap.objs.size],its.toArray.size,_,_,fun i=>(bs[i]?).getD false,rfl,Walks.list (A:=X.A.in1) (I.ok.hd hc) _ p (Nat.ne_of_lt hlt) its.toArray,
  ⟨⟨_,Heap.get?_push_size _ rfl,rfl,rfl⟩,hl.push _⟩,fun i v s' Q' E' hP hQ=>?_,fun h' tk hk=>?_⟩
 ·have hP':its[i]?=some v:=by simpa using hP
  have hi:i<bs.length:=by rw [hlen];exact (List.getElem?_eq_some_iff.mp hP').1
  obtain ⟨u,hu,ru⟩:=rv.get (i:=i) (x:=.bl bs[i]) (by rw [List.getElem?_map,List.getElem?_eq_getElem hi];rfl)
  rw [hP'] at hu
  cases hu
  cases ru
  dsimp only at hQ
  rw [List.getElem?_eq_getElem hi,Option.getD_some] at hQ
  exact wpAny_truthy_bool hQ
 ·have e:((List.range its.toArray.size).any fun i=>(bs[i]?).getD false)=bs.any id:=by
   rw [List.size_toArray,← hlen];exact range_any' bs
  refine ⟨.bl (bs.any id),H,I.kept fun b x e=>hk b x (fun hm=>by rw [List.mem_singleton.mp hm] at e;exact Nat.lt_irrefl _ (Heap.lt_size e)) (Heap.get?_push_of_some _ e),?_,q⟩
  rw [e]
  rfl
end
end L2
namespace L2
open PySem PySem.Spec PyProof.Rows
section
variable {prog:Program} {w:World} {A:Around} {E:Value→Shared→Prop} {s:Shared}
end
section
variable {prog:Program} {w:World} {A:Around} {E:Value→Shared→Prop} {s:Shared}
end
section
variable {X:Cx}
def BareT (H:Hp) (a:Addr) (xs:List V):Prop:=∃ o:Obj,H a=some (.frz o (.tup xs))∧o.cls=.type "tuple"∧o.dict=none
end
end L2
namespace L2
open PySem PySem.Spec PyProof.Rows
section
variable {X:Cx}
end
end L2
namespace HT
open PySem PySem.Spec PyProof.Rows
section
variable {prog:Program} {w:World} {A:Around} {E:Value→Shared→Prop} {s:Shared}
end
end HT
namespace L2
open PySem PySem.Spec PyProof.Rows
section
variable {X:Cx}
end
section
variable {A:Around} {s:Shared}
end
section
variable {X:Cx}
end
end L2
namespace L2
open PySem PySem.Spec PyProof.Rows
section
variable {X:Cx}
end
end L2
namespace L2
open PySem PySem.Spec PyProof.Rows
section
variable {X:Cx} {e:Expr} {te:TE} {st:Option Expr} {tst:TO} {pos p2:Pos}
end
end L2
namespace L2
open PySem PySem.Spec PyProof.Rows
section
variable {X:Cx}
end
end L2
namespace L2
open PySem PySem.Spec PyProof.Rows
section
variable {prog:Program} {w:World} {A:Around} {E:Value→Shared→Prop} {s:Shared}
end
section
variable {X:Cx}
end
end L2
namespace L2
open PySem PySem.Spec PyProof.Rows
end L2
namespace L2
open PySem PySem.Spec PyProof.Rows
section
variable {prog:Program} {w:World} {A:Around} {R:Result→Shared→Prop} {h:Heap} {g:Array GenState} {d:Drawn} {t:Nat} {os:OsState} {K:PySem.W.Frag} {C fI:Addr} {rest:List Value}
end
end L2
namespace L2
open PySem PySem.Spec PyProof.Rows
section
variable {X:Cx}
def TB:Type:=(St→XK)→TS
end
end L2
namespace L2
open PySem PySem.Spec PyProof.Rows
section
variable {X:Cx} {tg:Expr}
def tFrz (t:TE):TE:=fun σ H Q=>t σ H fun v H1=>∃ d kvs,v=.ref d∧H1 d=some (.dK kvs)∧∀ o,Q v (upd H1 d (.frz o (.dK kvs)))
theorem Inv.freeze {pins:List (Addr × Obj)} {σ:St} {H:Hp} {s:Shared} {d:Addr} {kvs:List (Key × V)} (I:Inv X pins σ H s) (h:H d=some (.dK kvs)):∃ o,Inv X pins σ (upd H d (.frz o (.dK kvs))) s:=by
 have ok:=I.hok d _ h
 obtain ⟨hz,hd,vs,rel,o,es,ep,ho,r⟩:=id ok
 refine ⟨o,?_⟩
 have:=I.write (h':=s.heap) (t':=s.toks) (x:=d) (e:=d) (o:=.frz o (.dK kvs)) (by rw [h];trivial) (.inl rfl) (fun b u _ q=>q) ⟨o,ho⟩ ⟨ho,ok⟩
 exact this
theorem pe_frz {e:Expr} {t:TE} (he:PE X e t):PE X e (tFrz t):=by
 intro pins s σ H Q I h
 refine thn (he pins s σ H _ I h) fun v s1 ⟨x,H1,I1,r1,d,kvs,e,hd,q⟩=>?_
 obtain ⟨o,I2⟩:=I1.freeze hd
 exact ⟨x,_,I2,r1,q o⟩
def Itk (a:Addr) (o:Obj) (kvs:List (Key × V)):It:=
 ⟨fun i H=>i<kvs.length∧H a=some (.frz o (.dK kvs)),fun i H x H'=>H'=H∧∃ k v,kvs[i]?=some (k,v)∧x=kV k,fun i H=>kvs.length≤i∧H a=some (.frz o (.dK kvs))⟩
theorem relV_key {k:Key} {v:Value} (h:keyIs k v=true):RelV (kV k) v:=by
 rcases keyIs_shape h with ⟨i,t,rfl,rfl⟩ | ⟨x,t,rfl,rfl⟩
 ·exact ⟨t,rfl⟩
 ·exact ⟨t,rfl⟩
theorem Inv.heldD {pins:List (Addr × Obj)} {σ:St} {H:Hp} {s:Shared} {d:Addr} {o:Obj} {kvs:List (Key × V)} (I:Inv X pins σ H s) (h:H d=some (.frz o (.dK kvs))):s.heap.get? d=some o∧(d == sysModules)=false∧∃ vs ep,KV kvs vs∧s.heap.DictAt (mixKind X.prog X.w) d vs ep∧(∃ es,o.data=.dict es ep):=by
 obtain ⟨ho,hz,hd,vs,rel,dd⟩:=(show ObjOk X.prog X.w H s.heap d (.frz o (.dK kvs)) from I.hok d _ h)
 obtain ⟨ep,da⟩:=dd.dictAt
 obtain ⟨o',es,ho',hc,hdat,r⟩:=id da
 rw [ho] at ho'
 cases ho'
 exact ⟨ho,hd,vs,ep,rel,da,es,hdat⟩
theorem turn_dictF {P:Program} {w:World} {K:PySem.W.Frag} {tg:Expr} (a it:Addr) (o:Obj) (kvs:List (Key × V)) (ep:Nat) (es:_) (ho:o.data=.dict es ep):Turn P w K tg (Itk a o kvs) [it] it (fun i h=>h.IsKeyIter it a i kvs.length ep) where
 mem:=by simp
 obj:=fun i h st b hb=>by
  have e:b=it:=by simpa using hb
  subst e
  obtain ⟨o,e,c,d⟩:=st
  exact ⟨o,e,fun v z=>by rw [d] at z;cases z⟩
 keep:=fun i h h' st k=>st.at fun o e=>k it (by simp) o e
 item:=by
  intro X hP hw hK hc i pins s σ H E I hf st hg
  subst hP hw hK
  obtain ⟨hi,hq⟩:=hg
  obtain ⟨e1,e2,vs,ep',rel,da,es',e3⟩:=I.heldD hq
  rw [ho] at e3
  cases e3
  obtain ⟨f0,f1,f2,f3,f4,f5⟩:=hf it (by simp)
  have lv:vs.length=kvs.length:=rel.length.symm
  rw [← lv] at st
  obtain ⟨⟨k,x⟩,hx⟩:∃ p,vs[i]?=some p:=⟨vs[i]'(by omega),List.getElem?_eq_getElem (by omega)⟩
  obtain ⟨⟨k',v'⟩,hx'⟩:∃ p,kvs[i]?=some p:=⟨kvs[i],List.getElem?_eq_getElem hi⟩
  have ek:k'=k:=by
   have h1:(kvs.map (·.1))[i]?=some k':=by rw [List.getElem?_map,hx'];rfl
   have h2:(vs.map (·.1))[i]?=some k:=by rw [List.getElem?_map,hx];rfl
   rw [rel.keys,h2] at h1
   cases h1
   rfl
  refine wpAny_pyNext_dict_item st da hx fun key h' hkey hit' hs'=>?_
  have I1:Inv X pins σ H { s with heap:=h' }:=I.turned (t':=s.toks) (fun b o hb e=>(hs'.2 b hb).trans e) f0 f1 f3 f4 f5
  rw [lv] at hit'
  obtain ⟨oi,ei,c,d⟩:=id hit'
  exact ⟨key,rfl,go_of (s:={ s with heap:=h' }) ei c d (by decide) ⟨kV k,H,I1,relV_key hkey,⟨rfl,k',v',hx',by rw [ek]⟩,hit',fun b hb=>(hf b hb).1⟩⟩
 done:=by
  intro X hP hw hK hc i pins s σ H E I hf st hg
  subst hP hw hK
  obtain ⟨hi,hq⟩:=hg
  obtain ⟨e1,e2,vs,ep',rel,da,es',e3⟩:=I.heldD hq
  rw [ho] at e3
  cases e3
  obtain ⟨f0,f1,f2,f3,f4,f5⟩:=hf it (by simp)
  have lv:vs.length=kvs.length:=rel.length.symm
  rw [← lv] at st
  exact wpAny_pyNext_dict_end (I.ok.hd hc) st da (by simp;omega) fun h' eb=>⟨rfl,I.turned (t':=s.toks) (fun b o hb e=>eb b o hb e) f0 f1 f3 f4 f5⟩
 self:=fun _ _ _ _ _ st h=>wpAny_pyIter_keyiter st h
def iDictF (tl:TE):TI:=fun σ H R=>tl σ H fun x H1=>∃ a o kvs,x=.ref a∧H1 a=some (.frz o (.dK kvs))∧R (Itk a o kvs) H1
theorem pi_dictF {l:Expr} {tl:TE} (hl:PE X l tl):PI X tg l (iDictF tl):=by
 intro pins s σ H R I h
 refine thn (hl pins s σ H _ I h) fun v s1 ⟨x,H1,I1,r1,q1⟩=>?_
 obtain ⟨a,o,kvs,e,hq,q⟩:=q1
 subst e
 cases r1
 obtain ⟨e1,e2,vs,ep,rel,da,es,e3⟩:=I1.heldD hq
 have lv:vs.length=kvs.length:=rel.length.symm
 refine wpAny_pyIter_dict e2 da ?_
 refine ⟨s1.heap.objs.size,[s1.heap.objs.size],_,_,H1,rfl,I1.kept (t':=s1.toks) fun b o e=>Heap.get?_push_of_some _ e,turn_dictF a _ o kvs ep es e3,⟨_,Heap.get?_push_size _ rfl,rfl,by rw [lv];rfl⟩,fun b hb=>?_,q⟩
 have e:b=s1.heap.objs.size:=by simpa using hb
 subst e
 exact I1.fpOk (Nat.le_refl _) (I1.hok.fresh (Nat.le_refl _))
end
theorem lc_dictF {a:Addr} {o:Obj} {kvs:List (Key × V)} {g:TG} {tc:TT} {te:TE} {Kf:Hp→Prop} {σ0:St} {H0:Hp} {p:Addr} (Pv:Nat→St→Hp→Prop) (h0:Pv 0 σ0 H0) (hl:∀ i σ H,i≤kvs.length→Pv i σ H→H a=some (.frz o (.dK kvs)))
  (hs:∀ i k v σ H,kvs[i]?=some (k,v)→Pv i σ H→g (kV k) σ H fun σ2 H2=>tc σ2 H2 fun b H3=>if b=true then te σ2 H3 fun y H4=>∃ ys,H4 p=some (.lst ys)∧ys.length<sizeLine∧Pv (i+1) σ2 (upd H4 p (.lst (ys++[y]))) else Pv (i+1) σ2 H3)
  (hd:∀ σ H,Pv kvs.length σ H→Kf H) :
  ∃ W:Nat→Nat→St→Hp→Prop,(∃ m,W 0 m σ0 H0)∧∀ i m σ H,W i m σ H→
   ((Itk a o kvs).stop i H∧Kf H)∨((Itk a o kvs).go i H∧∃ N:St→Hp→Prop,(∀ σ' H',N σ' H'→∃ m',m'<m∧W (i+1) m' σ' H')∧∀ x H',(Itk a o kvs).yld i H x H'→g x σ H' fun σ2 H2=>tc σ2 H2 fun b H3=>
    if b=true then te σ2 H3 fun y H4=>∃ ys,H4 p=some (.lst ys)∧ys.length<sizeLine∧N σ2 (upd H4 p (.lst (ys++[y]))) else N σ2 H3):=by
 refine ⟨fun i m σ H=>m=kvs.length - i∧i≤kvs.length∧Pv i σ H,⟨kvs.length,by simp,Nat.zero_le _,h0⟩,?_⟩
 rintro i m σ H ⟨rfl,hi,q⟩
 have hq:=hl i σ H hi q
 by_cases hlt:i<kvs.length
 ·refine .inr ⟨⟨hlt,hq⟩,Pv (i+1),fun σ' H' p'=>⟨kvs.length - (i+1),by omega,rfl,hlt,p'⟩,fun x H' y=>?_⟩
  obtain ⟨e,k,v,e2,e3⟩:=y
  subst e e3
  exact hs i k v σ _ e2 q
 ·have e:i=kvs.length:=by omega
  subst e
  exact .inl ⟨⟨Nat.le_refl _,hq⟩,hd σ H q⟩
theorem call_sumK {X:Cx} {K:PySem.W.Frag} (hK:X.K=K) (hc:X.calm=true):CallR X (.builtin "sum") (fun xs H Q=>∃ (p:Addr) (ns:List Int),xs=[.ref p]∧SqL K H p (ns.map V.int)∧Q (.int ns.sum) H):=by subst hK;exact call_sum hc
def pairE:Expr→Option (Int × Int)
 | .Tuple [.Constant (.int a) _ _,.Constant (.int b) _ _] _ _=>some (a,b)
 | _=>none
def pairsL:List Expr→Option (List (Int × Int))
 | []=>some []
 | e::es=>match pairE e,pairsL es with | some q,some qs=>some (q::qs) | _,_=>none
def pairsE:Expr→Option (List (Int × Int))
 | .List es _=>pairsL es
 | _=>none
abbrev PrL (H:Hp):List Addr→List (Int × Int)→Prop:=Paired fun r (q:Int × Int)=>H r=some (.tup [.int q.1,.int q.2])
def tPs (qs:List (Int × Int)):TA:=fun σ H Q=>∀ (ts:List Addr) (H':Hp),(∀ b o,H b=some o→H' b=some o)→PrL H' ts qs→Q (ts.map V.ref) H'
def tPrL (qs:List (Int × Int)):TE:=fun σ H Q=>∀ (l:Addr) (ts:List Addr) (H':Hp),(∀ b o,H b=some o→H' b=some o)→H l=none→H' l=some (.lst (ts.map V.ref))→PrL H' ts qs→Q (.ref l) H'
theorem pe_pair {X:Cx} {e:Expr} {q:Int × Int} (h:pairE e=some q):PE X e (tTup (tCons (tC (.int q.1)) (tCons (tC (.int q.2)) tNil))):=by
 unfold pairE at h
 split at h
 ·cases h
  exact pe_tup (pa_cons pe_int (pa_cons pe_int pa_nil))
 ·cases h
theorem pair_star {X:Cx} {e:Expr} {es:List Expr} {q:Int × Int} (h:pairE e=some q):starEach (e::es) X.env=(false,eval e X.env)::starEach es X.env:=by
 unfold pairE at h
 split at h
 ·rfl
 ·cases h
theorem pa_pairs {X:Cx}:∀ {es:List Expr} {qs:List (Int × Int)},pairsL es=some qs→PA X es (tPs qs)
 | [],qs,h=>by
  cases h
  intro pos pins s σ H Q I hq
  exact pa_nil pos pins s σ H Q I (hq [] H (fun _ _ z=>z) .nil)
 | e::es,qs,h=>by
  unfold pairsL at h
  cases e1:pairE e with
  | none=>rw [e1] at h;cases h
  | some q=>
   cases e2:pairsL es with
   | none=>rw [e1,e2] at h;cases h
   | some qs'=>
    rw [e1,e2] at h
    cases h
    intro pos pins s σ H Q I hq
    refine pa_cons (pe_pair e1) (pa_pairs e2) (pair_star e1) pos pins s σ H Q I ?_
    refine ⟨by show 2≤sizeLine;decide,fun p hp=>?_⟩
    intro ts H' k P
    have k0:∀ b o,H b=some o→(upd H p (.tup [.int q.1,.int q.2])) b=some o:=fun b o z=>by rw [upd_ne (ne_of_none z hp)];exact z
    exact hq (p::ts) H' (fun b o z=>k b o (k0 b o z)) (.cons (k p _ upd_same) P)
theorem pe_pairs {X:Cx} {e:Expr} {qs:List (Int × Int)} (h:pairsE e=some qs) (hl:qs.length≤1000):PE X e (tPrL qs):=by
 unfold pairsE at h
 split at h
 ·intro pins s σ H Q I hq
  refine pe_lst (pa_pairs h) pins s σ H Q I ?_
  intro ts H' k P
  have lt:ts.length=qs.length:=Paired.length P
  refine ⟨by rw [List.length_map,lt,sizeLine_eq];omega,fun l hl'=>?_⟩
  have nl:∀ b o,H' b=some o→(upd H' l (.lst (ts.map V.ref))) b=some o:=fun b o z=>by rw [upd_ne (ne_of_none z hl')];exact z
  refine hq l ts _ (fun b o z=>nl b o (k b o z)) ?_ upd_same (Paired.mapP P fun r q e=>nl _ _ e)
  cases e:H l with
  | none=>rfl
  | some o=>rw [k l o e] at hl';cases hl'
 ·cases h
def bigOf:Stmt→Expr
 | .Assign _ (.Subscript l _ _) _=>l
 | _=>.Name "" ⟨0,0,0,0⟩
end L2
namespace Fw
open PySem L2
theorem bt_len:bootBuiltins "len" = some (.builtin "len"):=by decide +kernel
theorem bt_min:bootBuiltins "min" = some (.builtin "min"):=by decide +kernel
theorem bt_max:bootBuiltins "max" = some (.builtin "max"):=by decide +kernel
theorem bt_divmod:bootBuiltins "divmod" = some (.builtin "divmod"):=by decide +kernel
theorem bt_all:bootBuiltins "all" = some (.builtin "all"):=by decide +kernel
theorem bt_isinstance:bootBuiltins "isinstance" = some (.builtin "isinstance"):=by decide +kernel
theorem bt_int:bootBuiltins "int" = some (.type "int"):=by decide +kernel
theorem bt_bool:bootBuiltins "bool" = some (.type "bool"):=by decide +kernel
theorem bt_str:bootBuiltins "str" = some (.type "str"):=by decide +kernel
theorem bt_list:bootBuiltins "list" = some (.type "list"):=by decide +kernel
theorem bt_tuple:bootBuiltins "tuple" = some (.type "tuple"):=by decide +kernel
theorem bt_range:bootBuiltins "range" = some (.type "range"):=by decide +kernel
theorem bt_enumerate:bootBuiltins "enumerate" = some (.type "enumerate"):=by decide +kernel
structure StAt (H:Hp) (d c:Addr) (t:Int) (ns:List Int):Prop where
 dict:H d=some (.dK [(Sum.inr "cells",.ref c),(Sum.inr "turn",.int t)])
 list:H c=some (.lst (ns.map V.int))
 ne:0<ns.length
 len:ns.length≤63
 pos:0≤t
def Keep (d c:Addr) (H H':Hp):Prop:=∀ b o,H b=some o→b ≠ d→b ≠ c→H' b=some o
theorem Keep.trans {d c:Addr} {H H1 H2:Hp} (a:Keep d c H H1) (b:Keep d c H1 H2):Keep d c H H2:=fun x o h n m=>b x o (a x o h n m) n m
theorem Keep.of_same {d c:Addr} {H H':Hp} (h:Same H H'):Keep d c H H':=fun b o e _ _=>h b o e
theorem same_new {H:Hp} {p:Addr} (h:H p=none) (o:HO):Same H (upd H p o):=fun b u q=>by rw [upd_ne (ne_of_none q h)];exact q
theorem keep_new {d c:Addr} {H:Hp} {p:Addr} (h:H p=none) (o:HO):Keep d c H (upd H p o):=.of_same (same_new h o)
theorem StAt.ndc {H:Hp} {d c:Addr} {t:Int} {ns:List Int} (S:StAt H d c t ns):d ≠ c:=ne_of S.dict S.list (by intro z;cases z)
theorem StAt.same {H H':Hp} {d c:Addr} {t:Int} {ns:List Int} (S:StAt H d c t ns) (h:Same H H'):StAt H' d c t ns:=⟨h _ _ S.dict,h _ _ S.list,S.ne,S.len,S.pos⟩
theorem StAt.new {H:Hp} {d c p:Addr} {t:Int} {ns:List Int} (S:StAt H d c t ns) (h:H p=none) (o:HO):StAt (upd H p o) d c t ns:=S.same (same_new h o)
theorem s_cs:¬ (Str.ofString "cells" = Str.ofString "turn"):=by decide +kernel
theorem s_ct:¬ ((Sum.inr (Str.ofString "cells"):Key)=Sum.inr (Str.ofString "turn")):=fun h=>s_cs (Sum.inr.inj h)
theorem dg_turn {H:Hp} {d c:Addr} {t:Int} {ns:List Int} (S:StAt H d c t ns):DGet H d (.str "turn") (some (.int t)):=by
 have h:=DGet.k (k:=Sum.inr "turn") S.dict
 rw [valV_neg s_ct,valV_pos rfl] at h
 exact h
theorem dg_cells {H:Hp} {d c:Addr} {t:Int} {ns:List Int} (S:StAt H d c t ns):DGet H d (.str "cells") (some (.ref c)):=by
 have h:=DGet.k (k:=Sum.inr "cells") S.dict
 rw [valV_pos rfl] at h
 exact h
theorem put_turn (c:Addr) (t u:Int):putK [((Sum.inr "cells" : Key),V.ref c),(Sum.inr "turn",V.int t)] (Sum.inr "turn") (V.int u)=[((Sum.inr "cells" : Key),V.ref c),(Sum.inr "turn",V.int u)]:=by
 unfold putK
 simp [s_cs]
theorem dp_turn {H:Hp} {d c:Addr} {t u:Int} {ns:List Int} (S:StAt H d c t ns):DPut H d (.str "turn") (.int u) (upd H d (.dK [(Sum.inr "cells",.ref c),(Sum.inr "turn",.int u)])):=by
 have h:=DPut.k (k:=Sum.inr "turn") (v:=.int u) S.dict (by rw [sizeLine_eq];exact (by decide:2<16777216))
 rw [put_turn] at h
 exact h
theorem StAt.turn {H:Hp} {d c:Addr} {t u:Int} {ns:List Int} (S:StAt H d c t ns) (h:0≤u):StAt (upd H d (.dK [(Sum.inr "cells",.ref c),(Sum.inr "turn",.int u)])) d c u ns:=
 ⟨upd_same,by rw [upd_ne (Ne.symm S.ndc)];exact S.list,S.ne,S.len,h⟩
theorem StAt.put {H:Hp} {d c:Addr} {t:Int} {ns ms:List Int} (S:StAt H d c t ns) (h:ms.length=ns.length):StAt (upd H c (.lst (ms.map V.int))) d c t ms:=
 ⟨by rw [upd_ne S.ndc];exact S.dict,upd_same,by rw [h];exact S.ne,by rw [h];exact S.len,S.pos⟩
abbrev TB:Int:=1000000000
def spTake:Sp:=fun vs H Q _=>∃ d c t ns m,vs=[.ref d,.int m]∧StAt H d c t ns∧t≤TB∧1≤m∧m≤1000000∧∀ k ns' H',0≤k→k<m→StAt H' d c (t+1) ns'→Keep d c H H'→Q (.int k) H'
def spBegin (K:PySem.W.Frag):Sp:=fun vs H Q _=>∃ (a:Addr) (ns:List Int),vs=[.ref a]∧SqL K H a (ns.map V.int)∧ns.length≤63∧∀ d c ms H',StAt H' d c 0 ms→Same H H'→H d=none→H c=none→Q (.ref d) H'
def cutI {α:Type} (xs:List α) (lo hi:Option Int):List α:=(xs.drop (HT.sIx xs.length 0 lo)).take (HT.sIx xs.length xs.length hi - HT.sIx xs.length 0 lo)
theorem cutV_map {α:Type} (f:α→V) (xs:List α) (lo hi:Option Int):cutV (xs.map f) lo hi=(cutI xs lo hi).map f:=by
 unfold cutV cutI
 rw [List.length_map,← List.map_drop,← List.map_take]
theorem cutI_len {α:Type} (xs:List α) (lo hi:Option Int):(cutI xs lo hi).length≤xs.length:=by
 unfold cutI
 rw [List.length_take,List.length_drop]
 omega
theorem merge2 (c:Addr) (t:Int):mergeK [] [((Sum.inr (Str.ofString "cells"):Key),V.ref c),(Sum.inr (Str.ofString "turn"),V.int t)]=[((Sum.inr (Str.ofString "cells"):Key),V.ref c),(Sum.inr (Str.ofString "turn"),V.int t)]:=by
 unfold mergeK
 simp only [List.foldl_cons,List.foldl_nil]
 unfold putK
 simp [s_cs]
theorem ixN_nat {xs:List V} {j:Nat} (h:j<xs.length):ixN xs.length (j:Int)=some j:=by
 unfold ixN
 rw [if_pos (by omega),if_pos (by omega),Int.toNat_natCast]
def spLaw (K:PySem.W.Frag):Sp:=fun vs H Q _=>∃ (a:Addr) (ns:List Int),vs=[.ref a]∧SqL K H a (ns.map V.int)∧ns.length≤63∧∀ H',Q (.bl true) H'
theorem cut {t u:TS} {D:Ends} {σ:St} {H:Hp} (h:∀ N:St→Hp→Prop,(∀ σ H,u D σ H→N σ H)→t { D with nx:=N } σ H):tSeq t u D σ H:=h _ fun _ _ z=>z
theorem opq {A:Prop} (h:∀ G:Prop,(A→G)→G):A:=h A id
structure Rise (k:Int) (zs:List Int):Prop where
 up:zs.Pairwise (·<·)
 in_:∀ x ∈ zs,0≤x∧x<k
theorem Rise.nil {k:Int}:Rise k []:=⟨.nil,fun _ h=>nomatch h⟩
theorem Rise.nodup {k:Int} {zs:List Int} (h:Rise k zs):zs.Nodup:=h.up.imp fun {a b} hab=>by omega
theorem Rise.len {zs:List Int} {k:Nat} (h:Rise (k:Int) zs):zs.length≤k:=by
 have sub:zs ⊆ (List.range k).map fun (i:Nat)=>(i:Int):=fun x hx=>by
  have:=h.in_ x hx
  exact List.mem_map.mpr ⟨x.toNat,List.mem_range.mpr (by omega),by omega⟩
 have:=List.Nodup.length_le_of_subset h.nodup sub
 simpa using this
theorem mem_addI {zs:List Int} {k x:Int}:x ∈ addI zs k ↔ x ∈ zs∨x=k:=by
 unfold addI
 split
 ·rename_i h
  constructor
  ·exact .inl
  ·rintro (z | rfl)
   ·exact z
   ·exact h
 ·simp
def rangeI (lo hi:Int):List Int:=(List.range (hi - lo).toNat).map fun (i:Nat)=>lo+i
theorem rangeV_ints (lo hi:Int):rangeV lo hi=(rangeI lo hi).map V.int:=by
 unfold rangeV rangeI
 rw [List.map_map]
 rfl
theorem mem_rangeI {lo hi x:Int}:x ∈ rangeI lo hi ↔ lo≤x∧x<hi:=by
 unfold rangeI
 rw [List.mem_map]
 constructor
 ·rintro ⟨i,hi',e⟩
  have:=List.mem_range.mp hi'
  omega
 ·intro h
  exact ⟨(x - lo).toNat,List.mem_range.mpr (by omega),by omega⟩
theorem rangeI_len (lo hi:Int):(rangeI lo hi).length=(hi - lo).toNat:=by unfold rangeI;simp
theorem rangeI_up (lo hi:Int):(rangeI lo hi).Pairwise (·<·):=by
 unfold rangeI
 exact List.pairwise_map.mpr (List.pairwise_lt_range.imp fun {a b} h=>by omega)
theorem rangeI_rise {lo hi:Int} (h:0≤lo):Rise hi (rangeI lo hi):=⟨rangeI_up _ _,fun x hx=>by have:=mem_rangeI.mp hx;omega⟩
abbrev NetL (H:Hp):List Addr→List (List Int)→Prop:=Paired fun r zs=>H r=some (.tup (zs.map V.int))
theorem NetL.same {H H':Hp} {rs:List Addr} {net:List (List Int)} (h:NetL H rs net) (k:∀ r zs,H r=some (.tup zs)→H' r=some (.tup zs)):NetL H' rs net:=by
 induction h with
 | nil=>exact .nil
 | cons r t ih=>exact .cons (k _ _ r) ih
theorem NetL.get {H:Hp}:∀ {rs:List Addr} {net:List (List Int)} {i:Nat} {zs:List Int},NetL H rs net→net[i]?=some zs→∃ r,rs[i]?=some r∧H r=some (.tup (zs.map V.int))
 | _,_,_,_,.nil,e=>by simp at e
 | _,_,0,_,.cons r _,e=>by simp at e;subst e;exact ⟨_,rfl,r⟩
 | _,_,i+1,zs,.cons _ t,e=>by
  obtain ⟨r,h1,h2⟩:=NetL.get (i:=i) (zs:=zs) t (by simpa using e)
  exact ⟨r,by simpa using h1,h2⟩
def NetAt (H:Hp) (a:Addr) (net:List (List Int)):Prop:=∃ rs:List Addr,H a=some (.tup (rs.map V.ref))∧NetL H rs net
theorem StAt.tup {H:Hp} {d c:Addr} {t:Int} {ns:List Int} (S:StAt H d c t ns) {r:Addr} {zs:List V} (h:H r=some (.tup zs)):r ≠ d∧r ≠ c:=
 ⟨ne_of h S.dict (by intro z;cases z),ne_of h S.list (by intro z;cases z)⟩
theorem NetAt.same {H H':Hp} {a:Addr} {net:List (List Int)} (h:NetAt H a net) (k:Same H H'):NetAt H' a net:=by
 obtain ⟨rs,h1,h2⟩:=h
 exact ⟨rs,k _ _ h1,h2.same fun r zs e=>k _ _ e⟩
theorem NetAt.len {H:Hp} {rs:List Addr} {net:List (List Int)} (h:NetL H rs net):rs.length=net.length:=Paired.length h
def WFn (net:List (List Int)):Prop:=∀ (i:Nat) zs,net[i]?=some zs→Rise (i:Int) zs
theorem WFn.nil:WFn []:=fun i zs e=>by simp at e
theorem lcs_snoc {α β:Type} {F:α→β→Prop} {a:α} {b:β} {l₁:List α} {l₂:List β} (h:Paired F l₁ l₂) (r:F a b):Paired F (l₁++[a]) (l₂++[b]):=Paired.snoc h r
theorem same_put {H Hc:Hp} {p:Addr} {o:HO} (h:Same H Hc) (hp:H p=none):Same H (upd Hc p o):=fun b u e=>by rw [upd_ne (ne_of_none e hp)];exact h b u e
theorem netl_put {H:Hp} {p:Addr} {xs:List V} {o:HO} {rs:List Addr} {net:List (List Int)} (h:NetL H rs net) (hp:H p=some (.lst xs)):NetL (upd H p o) rs net:=
 h.same fun r zs e=>by rw [upd_ne (ne_of e hp (by intro z;cases z))];exact e
theorem map_snoc (rs:List Addr) (r:Addr):rs.map V.ref++[V.ref r]=(rs++[r]).map V.ref:=by rw [List.map_append];rfl
theorem paired_imp {α β:Type} {F G:α→β→Prop} {l₁:List α} {l₂:List β} (h:Paired F l₁ l₂) (k:∀ a b,F a b→G a b):Paired G l₁ l₂:=by
 induction h with
 | nil=>exact .nil
 | cons r t ih=>exact .cons (k _ _ r) ih
theorem get_ref {rs:List Addr} {i:Nat} {x:V} (h:(rs.map V.ref)[i]?=some x):∃ r,rs[i]?=some r∧x=.ref r:=by
 rw [List.getElem?_map] at h
 cases e:rs[i]? with
 | none=>rw [e] at h;cases h
 | some r=>rw [e] at h;exact ⟨r,rfl,(Option.some.inj h).symm⟩
theorem get_int {zs:List Int} {i:Nat} {x:V} (h:(zs.map V.int)[i]?=some x):∃ z,zs[i]?=some z∧x=.int z:=by
 rw [List.getElem?_map] at h
 cases e:zs[i]? with
 | none=>rw [e] at h;cases h
 | some r=>rw [e] at h;exact ⟨r,rfl,(Option.some.inj h).symm⟩
theorem inV_int (a:Int) (zs:List Int):inV (.int a) (zs.map V.int)=decide (a ∈ zs):=by
 unfold inV
 induction zs with
 | nil=>simp
 | cons z r ih=>
  rw [List.map_cons,List.any_cons,ih]
  have e:eqV (.int z) (.int a)=decide (a=z):=by
   by_cases h:z=a
   ·subst h;simp [eqV]
   ·have h':¬ a=z:=fun q=>h q.symm
    simp [eqV,h,h']
  rw [e]
  simp [List.mem_cons]
theorem flat_ints (zs:List Int):(zs.map V.int).all flatV=true:=by
 rw [List.all_eq_true]
 intro x hx
 obtain ⟨z,_,rfl⟩:=List.mem_map.mp hx
 rfl
def wordDo (ns st:List Int) (rooms wk:Int):V:=if wk ∈ st then .str "there" else if ∀ x ∈ ns,x ∈ st then (if rooms≤(st.length:Int) then .str "full" else .non) else .str "needs"
def wordClear (st:List Int) (wk:Int):V:=if wk ∈ st then .non else .str "empty"
def wordOf (ns st:List Int) (rooms:Int) (word:Str) (wk:Int):V:=if word = "do" then wordDo ns st rooms wk else wordClear st wk
theorem get_at {xs:List V} {i:Int} {x:V} (h0:0≤i) (h:xs[i.toNat]?=some x):atI xs i=some x:=by
 have e:i=((i.toNat:Nat):Int):=by omega
 rw [e]
 exact atI_nat (by simpa using h)
def tJoin (t:TS):TS:=fun D σ H=>∃ Pm:St→Hp→Prop,t { D with nx:=Pm } σ H∧∀ σ' H',Pm σ' H'→D.nx σ' H'
theorem ps_join {X:Cx} {st:Stmt} {t:TS} (h:PS X st t):PS X st (tJoin t):=by
 intro pins s σ H D I hq
 obtain ⟨Pm,h1,h2⟩:=hq
 refine thn (h pins s σ H _ I h1) fun f s' q=>?_
 cases f with
 | next=>obtain ⟨σ',H',I',q⟩:=q;exact ⟨σ',H',I',h2 _ _ q⟩
 | brk=>exact q
 | cont=>exact q
 | ret u=>exact q
theorem bt_zip:bootBuiltins "zip" = some (.type "zip"):=by decide +kernel
def seqO (b:Bool) (xs:List V):HO:=match b with | true=>.tup xs | false=>.lst xs
def Leaf (x:V):Prop:=x=.non∨(∃ i,x=.int i)∨∃ y,x=.str y
def Alike (H:Hp):Nat→V→V→Prop
 | 0,x,y=>x=y∧Leaf x
 | n+1,x,y=>(x=y∧Leaf x)∨∃ (b:Bool) (a c:Addr) (xs ys:List V),x=.ref a∧y=.ref c∧H a=some (seqO b xs)∧H c=some (seqO b ys)∧xs.length=ys.length∧xs.length≤100000∧∀ (i:Nat) (x' y':V),xs[i]?=some x'→ys[i]?=some y'→Alike H n x' y'
theorem Alike.same {H H':Hp} (s:Same H H'):∀ {n:Nat} {x y:V},Alike H n x y→Alike H' n x y:=by
 intro n
 induction n with
 | zero=>exact fun {x y} h=>show x=y∧Leaf x from h
 | succ n ih=>
  rintro x y (h | ⟨b,a,c,xs,ys,e1,e2,h1,h2,hl,hb,h⟩)
  ·exact .inl h
  ·exact .inr ⟨b,a,c,xs,ys,e1,e2,s _ _ h1,s _ _ h2,hl,hb,fun i x' y' q1 q2=>ih (h i x' y' q1 q2)⟩
def spSame (n:Nat):Sp:=fun vs H Q _=>∃ x y:V,vs=[x,y]∧Alike H n x y∧∀ H',Same H H'→Q (.bl true) H'
theorem SqB.of {b:Bool} {K:PySem.W.Frag} {H:Hp} {a:Addr} {xs:List V} (h:H a=some (seqO b xs)):SqB b K H a xs:=by
 cases b
 ·exact SqL.of h
 ·exact SqT.of h
def tyOf (b:Bool):Value:=match b with | true=>.type "tuple" | false=>.type "list"
theorem ty_of {b:Bool} {K:PySem.W.Frag} {H:Hp} {a:Addr} {xs:List V} (h:H a=some (seqO b xs)):TyOf K H (.ref a) (tyOf b):=by
 cases b
 ·exact TyOf.lst h
 ·exact TyOf.tup h
section
variable {K:PySem.W.Frag}
theorem kit_bl (b:Bool):PySem.W.kitOne K (tyOf b) (.type "list")=some (!b):=by cases b <;> rfl
theorem kit_bt (b:Bool):PySem.W.kitOne K (tyOf b) (.type "tuple")=some b:=by cases b <;> rfl
theorem kit_sl:PySem.W.kitOne K (.type "str") (.type "list")=some false:=by rfl
theorem kit_st:PySem.W.kitOne K (.type "str") (.type "tuple")=some false:=by rfl
theorem kit_ss:PySem.W.kitOne K (.type "str") (.type "str")=some true:=by rfl
theorem kit_il:PySem.W.kitOne K (.type "int") (.type "list")=some false:=by rfl
theorem kit_it:PySem.W.kitOne K (.type "int") (.type "tuple")=some false:=by rfl
theorem kit_is:PySem.W.kitOne K (.type "int") (.type "str")=some false:=by rfl
theorem kit_ii:PySem.W.kitOne K (.type "int") (.type "int")=some true:=by rfl
theorem kit_ib:PySem.W.kitOne K (.type "int") (.type "bool")=some false:=by rfl
end
theorem bl_snoc {i:Nat}:((List.replicate i true).map V.bl)++[V.bl true]=(List.replicate (i+1) true).map V.bl:=by
 rw [List.replicate_succ',List.map_append];rfl
theorem all_rep {n:Nat}:(List.replicate n true).all id=true:=by simp
theorem filter_snoc {α:Type} {p:α→Bool} {l:List α} {i:Nat} {x:α} (h:l[i]?=some x):(l.take (i+1)).filter p=(l.take i).filter p++(if p x then [x] else []):=by
 rw [List.take_add_one,h,Option.toList_some,List.filter_append]
 by_cases hp:p x=true
 ·simp [hp]
 ·simp [hp]
abbrev MovL (H:Hp):List Addr→List (Str × Int)→Prop:=Paired fun r m=>H r=some (.tup [.str m.1,.int m.2])
theorem paired_nth {α β:Type} {F:α→β→Prop}:∀ {l₁:List α} {l₂:List β} {i:Nat} {b:β},Paired F l₁ l₂→l₂[i]?=some b→∃ a,l₁[i]?=some a∧F a b
 | _,_,_,_,.nil,e=>by simp at e
 | _,_,0,_,.cons r _,e=>by simp at e;subst e;exact ⟨_,rfl,r⟩
 | _,_,i+1,b,.cons _ t,e=>by
  obtain ⟨a,h1,h2⟩:=paired_nth (i:=i) (b:=b) t (by simpa using e)
  exact ⟨a,by simpa using h1,h2⟩
def wd (net:List (List Int)) (st:List Int) (rooms:Int) (m:Str × Int):V:=wordOf ((net[m.2.toNat]?).getD []) st rooms m.1 m.2
theorem alike_ints {H:Hp} {l l':Addr} {zs:List Int} (e:H l=some (.lst (zs.map V.int))) (e':H l'=some (.lst (zs.map V.int))) (hl:zs.length≤100000):Alike H 1 (.ref l) (.ref l'):=by
 refine .inr ⟨false,l,l',_,_,rfl,rfl,e,e',rfl,by rw [List.length_map];exact hl,fun i x y hx hy=>?_⟩
 rw [hx] at hy
 cases hy
 obtain ⟨z,_,rfl⟩:=get_int hx
 exact ⟨rfl,.inr (.inl ⟨z,rfl⟩)⟩
theorem rangeI0_get {n:Int} {i:Nat} (h:(i:Int)<n):(rangeI 0 n)[i]?=some (i:Int):=by
 unfold rangeI
 rw [List.getElem?_map,List.getElem?_range (by omega)]
 simp
theorem take_all {α:Type} {l:List α} {n:Nat} (h:l.length=n):l.take n=l:=List.take_of_length_le (by omega)
theorem filter_len {p:Int→Bool} {n:Nat}:((rangeI 0 (n:Int)).filter p).length≤n:=by
 have:=List.length_filter_le p (rangeI 0 (n:Int))
 rw [rangeI_len] at this
 omega
theorem filter_take_len {p:Int→Bool} {l:List Int} {i:Nat}:((l.take i).filter p).length≤i:=by
 have:=List.length_filter_le p (l.take i)
 rw [List.length_take] at this
 omega
structure Cnt (n:Nat) (cs:List Int) (seen:List Int):Prop where
 len:cs.length=n
 at_:∀ x:Nat,x<n→∃ c,cs[x]?=some c∧0≤c∧(c=0 ↔ (x:Int) ∉ seen)
theorem small_n {n:Nat} (h:n≤1000000):n<sizeLine:=by rw [sizeLine_eq];omega
inductive Nd (net:List (List Int)) (asked:List Int):Int→Prop
 | ask {x:Int}:x ∈ asked→Nd net asked x
 | need {w y:Int} {zs:List Int}:Nd net asked w→net[w.toNat]?=some zs→y ∈ zs→Nd net asked y
structure KeysI (kvs:List (Key × V)) (ks:List Int):Prop where
 keys:kvs.map (·.1)=ks.map Sum.inl
 nd:ks.Nodup
structure Fnd (net:List (List Int)) (asked ks:List Int) (j:Int):Prop where
 in_:∀ x ∈ ks,(0≤x∧x<(net.length:Int))∧Nd net asked x
 ask:∀ x ∈ asked,x ∈ ks
 clo:∀ (w:Nat) zs,j≤(w:Int)→(w:Int) ∈ ks→net[w]?=some zs→∀ y ∈ zs,y ∈ ks
theorem Fnd.all {net:List (List Int)} {asked ks:List Int} (wf:WFn net) (h:Fnd net asked ks 0) (x:Int):x ∈ ks ↔ Nd net asked x:=by
 refine ⟨fun hx=>(h.in_ x hx).2,fun hx=>?_⟩
 induction hx with
 | ask m=>exact h.ask _ m
 | @need w y zs _ e m ih=>
  have b:=(h.in_ w ih).1
  exact h.clo w.toNat zs (by omega) (by rw [show ((w.toNat:Nat):Int)=w by omega];exact ih) e y m
def IsNeeded (net:List (List Int)) (asked zs:List Int):Prop:=Rise (net.length:Int) zs∧∀ x,x ∈ zs ↔ Nd net asked x
theorem up_eq:∀ {l m:List Int},l.Pairwise (·<·)→m.Pairwise (·<·)→(∀ x,x ∈ l ↔ x ∈ m)→l=m
 | [],[],_,_,_=>rfl
 | [],y::m,_,_,h=>absurd ((h y).mpr (by simp)) (by simp)
 | x::l,[],_,_,h=>absurd ((h x).mp (by simp)) (by simp)
 | x::l,y::m,hl,hm,h=>by
  have l1:=List.pairwise_cons.mp hl
  have m1:=List.pairwise_cons.mp hm
  have exy:x=y:=by
   rcases List.mem_cons.mp ((h x).mp (by simp)) with e | e
   ·exact e
   ·rcases List.mem_cons.mp ((h y).mpr (by simp)) with e2 | e2
    ·exact e2.symm
    ·have:=m1.1 x e
     have:=l1.1 y e2
     omega
  subst exy
  rw [up_eq l1.2 m1.2 fun z=>?_]
  constructor
  ·intro hz
   rcases List.mem_cons.mp ((h z).mp (by simp [hz])) with e | e
   ·have:=l1.1 z hz;omega
   ·exact e
  ·intro hz
   rcases List.mem_cons.mp ((h z).mpr (by simp [hz])) with e | e
   ·have:=m1.1 z hz;omega
   ·exact e
def posOf (ws:List Int) (x:Int):Option Int:=if x ∈ ws then some (ws.idxOf x:Int) else none
theorem posOf_get {ws:List Int} {x p:Int} (h:posOf ws x=some p):0≤p∧ws[p.toNat]?=some x:=by
 unfold posOf at h
 split at h
 ·rename_i m
  cases h
  have lt:=List.idxOf_lt_length_iff.mpr m
  refine ⟨by omega,?_⟩
  rw [Int.toNat_natCast,List.getElem?_eq_getElem lt,List.getElem_idxOf]
 ·cases h
theorem posOf_of {ws:List Int} (nd:ws.Nodup) {x:Int} {i:Nat} (h:ws[i]?=some x):posOf ws x=some (i:Int):=by
 obtain ⟨hi,e⟩:=List.getElem?_eq_some_iff.mp h
 unfold posOf
 rw [if_pos (by rw [← e];exact List.getElem_mem hi),← e,nd.idxOf_getElem]
theorem posOf_snoc {ws:List Int} (nd:ws.Nodup) {i:Nat} {y:Int} (h:ws[i]?=some y) (x:Int):posOf (ws.take (i+1)) x=if x=y then some (i:Int) else posOf (ws.take i) x:=by
 obtain ⟨hi,e⟩:=List.getElem?_eq_some_iff.mp h
 have tk:ws.take (i+1)=ws.take i++[y]:=by rw [List.take_add_one,h];rfl
 have ndt:(ws.take (i+1)).Nodup:=nd.sublist (List.take_sublist _ _)
 by_cases exy:x=y
 ·subst exy
  rw [if_pos rfl]
  exact posOf_of ndt (by rw [List.getElem?_take_of_lt (by omega)];exact h)
 ·rw [if_neg exy]
  unfold posOf
  rw [tk]
  by_cases m:x ∈ ws.take i
  ·rw [if_pos (by simp [m]),if_pos m,List.idxOf_append,if_pos m]
  ·rw [if_neg (by simp [m,exy]),if_neg m]
def partL (net:List (List Int)) (ws:List Int):List (List Int):=ws.map fun w=>((net[w.toNat]?).getD []).filterMap (posOf ws)
theorem partL_len (net:List (List Int)) (ws:List Int):(partL net ws).length=ws.length:=by simp [partL]
theorem partL_get {net:List (List Int)} {ws:List Int} {i:Nat} {w:Int} (h:ws[i]?=some w):(partL net ws)[i]?=some (((net[w.toNat]?).getD []).filterMap (posOf ws)):=by
 unfold partL
 rw [List.getElem?_map,h]
 rfl
theorem up_get {ws:List Int} (up:ws.Pairwise (·<·)) {i j:Nat} {x y:Int} (hx:ws[i]?=some x) (hy:ws[j]?=some y):i<j ↔ x<y:=by
 obtain ⟨hi,ex⟩:=List.getElem?_eq_some_iff.mp hx
 obtain ⟨hj,ey⟩:=List.getElem?_eq_some_iff.mp hy
 have key:∀ a b (ha:a<ws.length) (hb:b<ws.length),a<b→ws[a]<ws[b]:=fun a b ha hb hab=>List.pairwise_iff_getElem.mp up a b ha hb hab
 constructor
 ·intro h
  have:=key i j hi hj h
  omega
 ·intro h
  rcases Nat.lt_trichotomy i j with z | z | z
  ·exact z
  ·subst z
   omega
  ·have:=key j i hj hi z
   omega
theorem up_pos {ws zs:List Int} (uw:ws.Pairwise (·<·)) (uz:zs.Pairwise (·<·)):(zs.filterMap (posOf ws)).Pairwise (·<·):=by
 rw [List.pairwise_filterMap]
 refine uz.imp fun {a b} hab p hp q hq=>?_
 obtain ⟨p0,e1⟩:=posOf_get hp
 obtain ⟨q0,e2⟩:=posOf_get hq
 have:=(up_get uw e1 e2).mpr hab
 omega
theorem mem_pos {ws zs:List Int} (nd:ws.Nodup) {p:Int}:p ∈ zs.filterMap (posOf ws) ↔ 0≤p∧∃ x,ws[p.toNat]?=some x∧x ∈ zs:=by
 rw [List.mem_filterMap]
 constructor
 ·rintro ⟨x,hx,e⟩
  obtain ⟨p0,e1⟩:=posOf_get e
  exact ⟨p0,x,e1,hx⟩
 ·rintro ⟨p0,x,e1,hx⟩
  refine ⟨x,hx,?_⟩
  have:=posOf_of nd e1
  rw [this]
  congr 1
  omega
theorem need_rise {net:List (List Int)} (wf:WFn net) (w:Nat):Rise (w:Int) ((net[w]?).getD []):=by
 cases e:net[w]? with
 | none=>exact Rise.nil
 | some zs=>exact wf w zs e
theorem partL_rise {net:List (List Int)} {ws:List Int} (wf:WFn net) (r:Rise (net.length:Int) ws):WFn (partL net ws):=by
 intro i zs h
 have hi:i<ws.length:=by rw [← partL_len net ws];exact (List.getElem?_eq_some_iff.mp h).1
 have hw:=List.getElem?_eq_getElem hi
 rw [partL_get hw] at h
 cases h
 have w0:=(r.in_ ws[i] (List.getElem_mem hi)).1
 have nr:=need_rise wf ws[i].toNat
 refine ⟨up_pos r.up nr.up,fun p hp=>?_⟩
 obtain ⟨p0,x,e1,hx⟩:=(mem_pos r.nodup).mp hp
 have xb:=nr.in_ x hx
 have:=(up_get r.up e1 hw).mpr (by omega)
 omega
theorem part_all {net:List (List Int)} (wf:WFn net):partL net (rangeI 0 net.length)=net:=by
 have rr:Rise (net.length:Int) (rangeI 0 net.length):=rangeI_rise (Int.le_refl 0)
 apply List.ext_getElem?
 intro i
 by_cases hi:i<net.length
 ·have e:=rangeI0_get (n:=(net.length:Int)) (i:=i) (by omega)
  rw [partL_get e,Int.toNat_natCast,List.getElem?_eq_getElem hi]
  have nr:=wf i _ (List.getElem?_eq_getElem hi)
  congr 1
  show net[i].filterMap _=net[i]
  refine up_eq (up_pos rr.up nr.up) nr.up fun p=>?_
  rw [mem_pos rr.nodup]
  constructor
  ·rintro ⟨p0,x,e1,hx⟩
   have lt:=(List.getElem?_eq_some_iff.mp e1).1
   rw [rangeI_len] at lt
   rw [rangeI0_get (by omega)] at e1
   have:x=p:=by have:=Option.some.inj e1;omega
   rw [← this]
   exact hx
  ·intro hp
   have b:=nr.in_ p hp
   refine ⟨b.1,p,?_,hp⟩
   rw [rangeI0_get (by omega)]
   congr 1
   omega
 ·rw [List.getElem?_eq_none (by rw [partL_len,rangeI_len];omega),List.getElem?_eq_none (by omega)]
abbrev Mv:=Str × Int
def nd (net:List (List Int)) (w:Int):List Int:=(net[w.toNat]?).getD []
theorem nd_of_get {net:List (List Int)} {w:Int} {zs:List Int} (h:net[w.toNat]?=some zs):nd net w=zs:=by unfold nd;rw [h];rfl
def later (net:List (List Int)) (zs:List Int) (j:Nat) (x:Int):Prop:=∃ v ∈ zs.drop j,x ∈ nd net v
instance (net:List (List Int)) (zs:List Int) (j:Nat) (x:Int):Decidable (later net zs j x):=by unfold later;infer_instance
inductive Run (net:List (List Int)) (rooms:Int):List Int→List Mv→List Int→Prop
 | nil {s:List Int}:Run net rooms s [] s
 | do_ {s s' t:List Int} {w:Int} {ms:List Mv}:w ∉ s→(∀ y ∈ nd net w,y ∈ s)→(s.length:Int)<rooms→s'.Perm (s++[w])→s'.Pairwise (·<·)→Run net rooms s' ms t→Run net rooms s (("do",w)::ms) t
 | clear {s t:List Int} {w:Int} {ms:List Mv}:w ∈ s→Run net rooms (s.filter fun x=>decide (x ≠ w)) ms t→Run net rooms s (("clear",w)::ms) t
def dosOf (ms:List Mv):List Int:=ms.filterMap fun (m:Mv)=>if m.1=Str.ofString "do" then some m.2 else none
section
variable {net:List (List Int)} {asked zs:List Int}
theorem needed_one {ys:List Int} (a:IsNeeded net asked zs) (b:IsNeeded net asked ys):zs=ys:=up_eq a.1.up b.1.up fun x=>(a.2 x).trans (b.2 x).symm
end
def PlanAt (H:Hp) (l:Addr) (ms:List Mv):Prop:=∃ rs:List Addr,H l=some (.lst (rs.map V.ref))∧MovL H rs ms
def askedAt (H:Hp) (t:Addr) (net:List (List Int)) (asked:List Int):Prop:=H t=some (.tup (asked.map V.int))∧Rise (net.length:Int) asked
def spNeeded:Sp:=fun vs H Q _=>∃ (a t:Addr) (net:List (List Int)) (asked:List Int),vs=[.ref a,.ref t]∧NetAt H a net∧WFn net∧net.length≤1000∧askedAt H t net asked∧
 ∀ l zs H',Same H H'→H l=none→H' l=some (.lst (zs.map V.int))→IsNeeded net asked zs→Q (.ref l) H'
theorem bt_dict:bootBuiltins "dict" = some (.type "dict"):=by decide +kernel
def lv (L:List Int) (x:Int):Int:=(L[x.toNat]?).getD 0
structure Lev (net:List (List Int)) (L:List Int):Prop where
 len:L.length=net.length
 at_:∀ (i:Nat) zs,net[i]?=some zs→∃ l,L[i]?=some l∧0≤l∧l≤(i:Int)∧(∀ y ∈ zs,lv L y+1≤l)∧(l=0∨∃ y ∈ zs,lv L y+1=l)
structure Fd (n:Nat) (L:List Int) (S:Int→Prop) (fs:List Int):Prop where
 len:fs.length=n
 at_:∀ w:Nat,w<n→(S w→fs[w]?=some (lv L w))∧(¬ S w→fs[w]?=some 0)
structure CntX (n:Nat) (cs:List Int) (seen:List Int):Prop where
 len:cs.length=n
 at_:∀ x:Nat,x<n→cs[x]?=some ((seen.count (x:Int):Nat):Int)
theorem nd_le {net:List (List Int)} (wf:WFn net) {work x:Int} (h:Nd net [work] x):x≤work:=by
 induction h with
 | ask m=>rw [List.mem_singleton.mp m];exact Int.le_refl _
 | @need w y zs _ e m ih=>
  have:=(wf _ _ e).in_ y m
  omega
def Beh (st st':List Int) (word:Str) (wk:Int):Prop:=(word = "do"→st'.Perm (st++[wk])∧st'.Pairwise (·≤·))∧(word = "clear"→st'=st.filter fun x=>decide (x ≠ wk))
inductive Play (net:List (List Int)) (rooms:Int):List Int→List Mv→List (List Int)→V→Prop
 | nil {st}:Play net rooms st [] [] .non
 | stop {st m ms w0}:wd net st rooms m=.str w0→Play net rooms st (m::ms) [] (.str w0)
 | go {st st' m ms sts v}:wd net st rooms m=.non→Beh st st' m.1 m.2→Play net rooms st' ms sts v→Play net rooms st (m::ms) (st'::sts) v
def MvOk (net:List (List Int)) (ms:List Mv):Prop:=∀ m ∈ ms,(m.1 = "do"∨m.1 = "clear")∧0≤m.2∧m.2<(net.length:Int)
def StandsAt (H:Hp) (l:Addr) (sts:List (List Int)):Prop:=∃ rs:List Addr,H l=some (.lst (rs.map V.ref))∧NetL H rs sts
theorem StAt.put' {H:Hp} {d c l:Addr} {t:Int} {ns:List Int} {o:HO} (S:StAt H d c t ns) (h1:l ≠ d) (h2:l ≠ c):StAt (upd H l o) d c t ns:=⟨by rw [upd_ne (Ne.symm h1)];exact S.dict,by rw [upd_ne (Ne.symm h2)];exact S.list,S.ne,S.len,S.pos⟩
theorem Alike.up {H:Hp}:∀ {n:Nat} {x y:V},Alike H n x y→Alike H (n+1) x y:=by
 intro n
 induction n with
 | zero=>exact fun {x y} h=>.inl h
 | succ n ih=>
  rintro x y (h | ⟨b,a,c,xs,ys,e1,e2,h1,h2,hl,hb,h⟩)
  ·exact .inl h
  ·exact .inr ⟨b,a,c,xs,ys,e1,e2,h1,h2,hl,hb,fun i x' y' q1 q2=>ih (h i x' y' q1 q2)⟩
structure YNa (K:PySem.W.Frag) (C:Addr):Prop where
 net:NoAttr K C "net"
 rooms:NoAttr K C "rooms"
 made:NoAttr K C "made"
 stands:NoAttr K C "stands"
def yfs (a:Addr) (rooms:Int) (lm ls:Addr):List (Str × V):=putF "stands" (.ref ls) (putF "made" (.ref lm) (putF "rooms" (.int rooms) (putF "net" (.ref a) [])))
structure YardAt (C:Addr) (H:Hp) (y a lm ls:Addr) (net:List (List Int)) (rooms:Int) (ms:List Mv) (sts:List (List Int)):Prop where
 obj:∃ dx,H y=some (.ins C dx (yfs a rooms lm ls))
 nat:NetAt H a net
 wf:WFn net
 n400:net.length≤400
 r0:0≤rooms
 r62:rooms≤62
 made:PlanAt H lm ms
 ok:MvOk net ms
 len:ms.length≤10000
 stands:StandsAt H ls ([]::sts)
 play:Play net rooms [] ms sts .non
 ne:lm ≠ ls
def rowN (n b:Nat):List (List Int):=(List.range n).map fun k=>rangeI ((k - b:Nat):Int) k
def sqW (m w:Nat):List Int:=(if m≤w then [(w:Int) - m] else [])++(if 0<w % m then [(w:Int) - 1] else [])
def sqN (n m:Nat):List (List Int):=(List.range (n * m)).map (sqW m)
def off (n:Nat):Nat→Nat
 | 0=>0
 | r+1=>off n r+(n - r)
def stRow (n:Nat):Nat→List (List Int)
 | 0=>List.replicate n []
 | r+1=>(List.range (n - (r+1))).map fun p=>[((off n r+p:Nat):Int),((off n r+p:Nat):Int)+1]
def stUp (n r:Nat):List (List Int):=(List.range r).flatMap (stRow n)
def stN (n:Nat):List (List Int):=stUp n n
def spotRow (n r:Nat):List (Nat × Nat):=(List.range (n - r)).map fun p=>(r,p)
def spots (n r:Nat):List (Nat × Nat):=(List.range r).flatMap (spotRow n)
theorem stUp_succ (n r:Nat):stUp n (r+1)=stUp n r++stRow n r:=by unfold stUp;rw [List.range_succ,List.flatMap_append];simp
theorem spots_succ (n r:Nat):spots n (r+1)=spots n r++spotRow n r:=by unfold spots;rw [List.range_succ,List.flatMap_append];simp
theorem stRow_len (n r:Nat):(stRow n r).length=n - r:=by cases r <;> simp [stRow]
theorem spotRow_len (n r:Nat):(spotRow n r).length=n - r:=by simp [spotRow]
theorem stUp_len (n:Nat):∀ r,(stUp n r).length=off n r
 | 0=>rfl
 | r+1=>by rw [stUp_succ,List.length_append,stUp_len n r,stRow_len];rfl
theorem spots_len (n:Nat):∀ r,(spots n r).length=off n r
 | 0=>rfl
 | r+1=>by rw [spots_succ,List.length_append,spots_len n r,spotRow_len];rfl
theorem off_le (n:Nat):∀ r,off n r≤r * n
 | 0=>by simp [off]
 | r+1=>by
  have:=off_le n r
  rw [Nat.succ_mul]
  show off n r+(n - r)≤_
  omega
theorem rowN_wf (n b:Nat):WFn (rowN n b):=by
 intro i zs e
 unfold rowN at e
 rw [List.getElem?_map] at e
 by_cases h:i<n
 ·rw [List.getElem?_range h] at e
  cases e
  exact rangeI_rise (by omega)
 ·rw [List.getElem?_eq_none (by simp;omega)] at e
  cases e
theorem sqW_rise {m w:Nat} (hm:1≤m):Rise (w:Int) (sqW m w):=by
 unfold sqW
 by_cases h1:m≤w <;> by_cases h2:0<w % m
 ·rw [if_pos h1,if_pos h2]
  have h3:m ≠ 1:=by intro z;subst z;rw [Nat.mod_one] at h2;omega
  refine ⟨by simp;omega,fun x hx=>?_⟩
  simp at hx
  omega
 ·rw [if_pos h1,if_neg h2]
  refine ⟨by simp,fun x hx=>?_⟩
  simp at hx
  omega
 ·rw [if_neg h1,if_pos h2]
  have h3:w ≠ 0:=by intro z;subst z;simp at h2
  refine ⟨by simp,fun x hx=>?_⟩
  simp at hx
  omega
 ·rw [if_neg h1,if_neg h2]
  exact Rise.nil
theorem sqN_wf {n m:Nat} (hm:1≤m):WFn (sqN n m):=by
 intro i zs e
 unfold sqN at e
 rw [List.getElem?_map] at e
 by_cases h:i<n * m
 ·rw [List.getElem?_range h] at e
  cases e
  exact sqW_rise hm
 ·rw [List.getElem?_eq_none (by simp;omega)] at e
  cases e
theorem WFn.app {xs ys:List (List Int)} (h:WFn xs) (h2:∀ (i:Nat) zs,ys[i]?=some zs→Rise ((xs.length+i:Nat):Int) zs):WFn (xs++ys):=by
 intro i zs e
 rcases Nat.lt_or_ge i xs.length with l | l
 ·rw [List.getElem?_append_left l] at e;exact h i zs e
 ·rw [List.getElem?_append_right l] at e
  have:=h2 _ _ e
  rwa [show xs.length+(i - xs.length)=i by omega] at this
theorem stUp_wf (n:Nat):∀ r,WFn (stUp n r)
 | 0=>WFn.nil
 | r+1=>by
  rw [stUp_succ]
  refine (stUp_wf n r).app fun i zs e=>?_
  rw [stUp_len]
  cases r with
  | zero=>
   have:zs ∈ stRow n 0:=List.mem_of_getElem? e
   rw [(List.mem_replicate.mp this).2]
   exact Rise.nil
  | succ r=>
   unfold stRow at e
   rw [List.getElem?_map] at e
   by_cases h:i<n - (r+1)
   ·rw [List.getElem?_range h] at e
    cases e
    show Rise ((off n r+(n - r)+i:Nat):Int) _
    refine ⟨by simp;omega,fun x hx=>?_⟩
    simp at hx
    omega
   ·rw [List.getElem?_eq_none (by simp;omega)] at e
    cases e
def spotN (n:Nat) (s:Nat × Nat):List Int:=match s.1 with | 0=>[] | r+1=>[((off n r+s.2:Nat):Int),((off n r+s.2:Nat):Int)+1]
theorem spotRow_map (n r:Nat):(spotRow n r).map (spotN n)=stRow n r:=by
 unfold spotRow
 rw [List.map_map]
 cases r with
 | zero=>
  show (List.range (n - 0)).map (fun p=>([]:List Int))=List.replicate n []
  rw [List.map_const',List.length_range]
  rfl
 | succ r=>rfl
theorem spots_map (n:Nat):∀ r,(spots n r).map (spotN n)=stUp n r
 | 0=>rfl
 | r+1=>by rw [spots_succ,stUp_succ,List.map_append,spots_map n r,spotRow_map]
theorem mem_spots {n:Nat}:∀ {k:Nat} {s:Nat × Nat},s ∈ spots n k ↔ s.1<k∧s.2<n - s.1
 | 0,s=>by simp [spots]
 | k+1,s=>by
  rw [spots_succ,List.mem_append,mem_spots (k:=k)]
  unfold spotRow
  rw [List.mem_map]
  constructor
  ·rintro (h | ⟨p,hp,rfl⟩)
   ·exact ⟨by omega,h.2⟩
   ·exact ⟨Nat.lt_succ_self _,List.mem_range.mp hp⟩
  ·rintro ⟨h1,h2⟩
   rcases Nat.lt_or_ge s.1 k with l | l
   ·exact .inl ⟨l,h2⟩
   ·have e:s.1=k:=by omega
    exact .inr ⟨s.2,List.mem_range.mpr (by rw [← e];exact h2),by rw [← e]⟩
theorem spots_nodup (n:Nat):∀ k,(spots n k).Nodup
 | 0=>.nil
 | k+1=>by
  rw [spots_succ,List.nodup_append]
  refine ⟨spots_nodup n k,?_,fun a ha b hb e=>?_⟩
  ·unfold spotRow
   exact List.pairwise_map.mpr (List.nodup_range.imp fun {a b} h z=>h (Prod.mk.inj z).2)
  ·subst e
   have:=(mem_spots.mp ha).1
   obtain ⟨p,_,e⟩:=List.mem_map.mp hb
   rw [← e] at this
   exact absurd this (Nat.lt_irrefl _)
theorem off_mono {n:Nat} {r k:Nat} (h:r≤k):off n r≤off n k:=by
 induction h with
 | refl=>exact Nat.le_refl _
 | step h ih=>exact Nat.le_trans ih (Nat.le_add_right _ _)
theorem spots_get {n:Nat}:∀ {k r p:Nat},r<k→p<n - r→(spots n k)[off n r+p]?=some (r,p)
 | k+1,r,p,h1,h2=>by
  rw [spots_succ]
  rcases Nat.lt_or_ge r k with l | l
  ·have:=spots_get (n:=n) l h2
   have hl:=(List.getElem?_eq_some_iff.mp this).1
   rw [List.getElem?_append_left hl,this]
  ·have e:r=k:=by omega
   subst e
   rw [List.getElem?_append_right (by rw [spots_len];omega),spots_len,show off n r+p - off n r=p by omega]
   unfold spotRow
   rw [List.getElem?_map,List.getElem?_range h2]
   rfl
abbrev keyOf (s:Nat × Nat):List Key:=[Sum.inl (s.1:Int),Sum.inl (s.2:Int)]
theorem Paired.app {α β:Type} {F:α→β→Prop} {l₁ m₁:List α} {l₂ m₂:List β} (h:Paired F l₁ l₂) (h2:Paired F m₁ m₂):Paired F (l₁++m₁) (l₂++m₂):=by
 induction h with
 | nil=>exact h2
 | cons r t ih=>exact .cons r ih
theorem mul_ok {i j:Int} (h:0≤j) (h2:j≤1000):CMul i j:=.inr ⟨by omega,by omega⟩
theorem none_of {H H':Hp} {p:Addr} (s:Same H H') (h:H' p=none):H p=none:=by
 cases e:H p with
 | none=>rfl
 | some o=>rw [s _ _ e] at h;cases h
theorem rep_ref (n:Nat) (a:Addr):(List.replicate n [V.ref a]).flatten=(List.replicate n a).map V.ref:=by
 rw [List.map_replicate]
 induction n with
 | zero=>rfl
 | succ n ih=>rw [List.replicate_succ,List.flatten_cons,ih,List.replicate_succ];rfl
theorem netl_rep {H:Hp} {a:Addr} (h:H a=some (.tup [])):∀ n,NetL H (List.replicate n a) (List.replicate n [])
 | 0=>.nil
 | n+1=>.cons h (netl_rep h n)
structure NumP (rs:List Addr) (ss:List (Nat × Nat)) (j:Nat) (ps:List (List Key × Addr × V)):Prop where
 keys:ps.map (·.1)=(ss.take j).map keyOf
 at_:∀ (k:Nat) (s:Nat × Nat),k<j→ss[k]?=some s→∃ a,ps[k]?=some (keyOf s,a,.int (k:Int))
def spRowN:Sp:=fun vs H Q _=>∃ n b:Nat,vs=[.int n,.int b]∧n≤400∧b≤400∧∀ a H',Same H H'→NetAt H' a (rowN n b)→Q (.ref a) H'
def spSqNeeds:Sp:=fun vs H Q _=>∃ (m w:Nat) (i j:Int),vs=[.int m,.int i,.int j]∧m≤400∧0≤i∧0≤j∧j<m∧i * m+j=w∧∀ a H',Same H H'→H' a=some (.tup ((sqW m w).map V.int))→Q (.ref a) H'
def spSqN:Sp:=fun vs H Q _=>∃ n m:Nat,vs=[.int n,.int m]∧1≤m∧m≤400∧n * m≤400∧∀ a H',Same H H'→NetAt H' a (sqN n m)→Q (.ref a) H'
def spStN:Sp:=fun vs H Q _=>∃ n:Nat,vs=[.int n]∧1≤n∧n≤30∧∀ a H',Same H H'→NetAt H' a (stN n)→Q (.ref a) H'
structure InsAt (H:Hp) (i:Addr) (ins:List (Int × Int)):Prop where
 at_:∃ rs:List Addr,BareT H i (rs.map V.ref)∧Paired (fun r (q:Int × Int)=>H r=some (.tup [.int q.1,.int q.2])) rs ins
 nodup:(ins.map (·.1)).Nodup
structure InsOk (m:Nat) (other:List (List Int)) (k:Nat) (ins:List (Int × Int)) (fs:List Int):Prop where
 st:∀ q ∈ ins,(0≤q.1∧q.1<(k:Int))∧other[q.1.toNat]?=some []∧0≤q.2∧q.2<(m:Int)
 nd1:(ins.map (·.1)).Nodup
 nd2:(ins.map (·.2)).Nodup
 fr:fs.Nodup
 fin:∀ x ∈ fs,(0≤x∧x<(m:Int))∧x ∉ ins.map (·.2)
 len:ins.length≤k
def pm (m:Mv):Int:=if m.1 = "do" then 1 else -1
def peak:Int→List Mv→Int
 | n,[]=>n
 | n,m::ms=>max n (peak (n+pm m) ms)
structure ThOk (n:Nat) (num:Int→Int) (th s:List Int):Prop where
 perm:th.Perm (s.map num)
 rise:Rise (n:Int) s
structure Ord (net:List (List Int)) (asked os:List Int):Prop where
 nodup:os.Nodup
 in_:∀ w ∈ os,0≤w∧w<(net.length:Int)
 has:∀ (i:Nat) (w y:Int),os[i]?=some w→y ∈ nd net w→y ∈ os.take i
 used:∀ (i:Nat) (w:Int),os[i]?=some w→w ∈ asked∨later net os (i+1) w
 ask:∀ x ∈ asked,x ∈ os
section
variable {net:List (List Int)} {asked os:List Int}
end
structure Span (net:List (List Int)) (asked os:List Int) (K:Nat):Prop where
 near:∀ (q r:Nat) (x v:Int),os[q]?=some x→os[r]?=some v→x ∈ nd net v→r≤q+K
 last:∀ x ∈ asked,∀ q:Nat,os[q]?=some x→q+1=os.length
theorem all_nd {net:List (List Int)} (used:∀ x:Nat,x+1<net.length→∃ v:Nat,x<v∧v<net.length∧(x:Int) ∈ nd net (v:Int)):∀ (k x:Nat),net.length - x=k→x<net.length→Nd net [((net.length:Int) - 1)] (x:Int):=by
 intro k
 induction k using Nat.strongRecOn with
 | ind k ih=>
  intro x hk hx
  by_cases c:x+1=net.length
  ·refine .ask (List.mem_singleton.mpr ?_)
   omega
  ·obtain ⟨v,h1,h2,h3⟩:=used x (by omega)
   have hl:((v:Int)).toNat<net.length:=by omega
   have e:=List.getElem?_eq_getElem hl
   rw [nd_of_get e] at h3
   exact .need (ih (net.length - v) (by omega) v rfl h2) e h3
theorem nd_ge {net:List (List Int)} {work x:Int} (wf:WFn net) (w0:0≤work) (h:Nd net [work] x):0≤x:=by
 cases h with
 | ask m=>rw [List.mem_singleton.mp m];exact w0
 | need _ e hm=>exact ((wf _ _ e).in_ x hm).1
theorem all_needed_of {net:List (List Int)} (wf:WFn net) (h0:1≤net.length) (used:∀ x:Nat,x+1<net.length→∃ v:Nat,x<v∧v<net.length∧(x:Int) ∈ nd net (v:Int)):IsNeeded net [((net.length:Int) - 1)] (rangeI 0 (net.length:Int)):=by
 refine ⟨rangeI_rise (by decide),fun x=>?_⟩
 rw [mem_rangeI]
 constructor
 ·intro h
  have:=all_nd used _ x.toNat rfl (by omega)
  rw [show ((x.toNat:Nat):Int)=x by omega] at this
  exact this
 ·intro h
  have l:=nd_le wf h
  have g:=nd_ge wf (by omega) h
  omega
theorem rowN_len (n b:Nat):(rowN n b).length=n:=by unfold rowN;rw [List.length_map,List.length_range]
theorem nd_rowN {n b v:Nat} (h:v<n):nd (rowN n b) (v:Int)=rangeI ((v - b:Nat):Int) v:=by
 refine nd_of_get ?_
 rw [Int.toNat_natCast]
 unfold rowN
 rw [List.getElem?_map,List.getElem?_range h]
 rfl
theorem row_needed {n b:Nat} (hn:1≤n) (hb:1≤b):IsNeeded (rowN n b) [((n:Int) - 1)] (rangeI 0 (n:Int)):=by
 have:=all_needed_of (rowN_wf n b) (by rw [rowN_len];exact hn) fun x hx=>⟨x+1,by omega,hx,by rw [rowN_len] at hx;rw [nd_rowN hx,mem_rangeI];omega⟩
 rw [rowN_len] at this
 exact this
theorem sqN_len (n m:Nat):(sqN n m).length=n * m:=by unfold sqN;rw [List.length_map,List.length_range]
theorem nd_sqN {n m v:Nat} (h:v<n * m):nd (sqN n m) (v:Int)=sqW m v:=by
 refine nd_of_get ?_
 rw [Int.toNat_natCast]
 unfold sqN
 rw [List.getElem?_map,List.getElem?_range h]
 rfl
theorem mem_sqW {m w:Nat} {x:Int}:x ∈ sqW m w ↔ (m≤w∧x=(w:Int) - m)∨(0<w % m∧x=(w:Int) - 1):=by
 unfold sqW
 rw [List.mem_append]
 constructor
 ·rintro (h | h)
  ·split at h
   ·exact .inl ⟨by assumption,List.mem_singleton.mp h⟩
   ·cases h
  ·split at h
   ·exact .inr ⟨by assumption,List.mem_singleton.mp h⟩
   ·cases h
 ·rintro (⟨h1,h2⟩ | ⟨h1,h2⟩)
  ·rw [if_pos h1,h2];exact .inl (List.mem_singleton.mpr rfl)
  ·rw [if_pos h1,h2];exact .inr (List.mem_singleton.mpr rfl)
theorem sq_mod {n m y:Nat} (hm:1≤m) (h1:n * m<y+m) (h2:y<n * m):0<y % m:=by
 refine Nat.pos_of_ne_zero fun z=>?_
 obtain ⟨k,hk⟩:=Nat.dvd_of_mod_eq_zero z
 rw [hk,Nat.mul_comm m k] at h1 h2
 have a:k<n:=Nat.lt_of_mul_lt_mul_right h2
 have b:n * m<(k+1) * m:=by rw [Nat.succ_mul];exact h1
 have c:n<k+1:=Nat.lt_of_mul_lt_mul_right b
 omega
theorem sq_used {n m:Nat} (hm:1≤m) {x:Nat} (hx:x+1<n * m):∃ v:Nat,x<v∧v<n * m∧(x:Int) ∈ nd (sqN n m) (v:Int):=by
 by_cases c:x+m<n * m
 ·refine ⟨x+m,by omega,c,?_⟩
  rw [nd_sqN c,mem_sqW]
  exact .inl ⟨by omega,by omega⟩
 ·refine ⟨x+1,by omega,hx,?_⟩
  rw [nd_sqN hx,mem_sqW]
  exact .inr ⟨sq_mod hm (by omega) hx,by omega⟩
theorem sq_needed {n m:Nat} (hn:1≤n) (hm:1≤m):IsNeeded (sqN n m) [((n * m:Nat):Int) - 1] (rangeI 0 ((n * m:Nat):Int)):=by
 have h1:1≤n * m:=Nat.mul_pos hn hm
 have:=all_needed_of (sqN_wf (n:=n) hm) (by rw [sqN_len];exact h1) fun x hx=>by
  rw [sqN_len] at hx ⊢
  exact sq_used hm hx
 rw [sqN_len] at this
 exact this
theorem stN_len (n:Nat):(stN n).length=off n n:=stUp_len n n
theorem nd_stN {n r p:Nat} (hr:r<n) (hp:p<n - r):nd (stN n) ((off n r+p:Nat):Int)=spotN n (r,p):=by
 refine nd_of_get ?_
 rw [Int.toNat_natCast]
 unfold stN
 rw [← spots_map,List.getElem?_map,spots_get hr hp]
 rfl
theorem st_at {n x:Nat} (h:x<off n n):∃ r p:Nat,r<n∧p<n - r∧x=off n r+p:=by
 have hl:x<(spots n n).length:=by rw [spots_len];exact h
 have e:=List.getElem?_eq_getElem hl
 generalize hs:(spots n n)[x]=s at e
 obtain ⟨h1,h2⟩:=mem_spots.mp (List.mem_of_getElem? e)
 refine ⟨s.1,s.2,h1,h2,?_⟩
 have g:=spots_get h1 h2
 obtain ⟨hy,ey⟩:=List.getElem?_eq_some_iff.mp g
 exact (List.getElem_inj (spots_nodup n n)).mp (hs.trans ey.symm)
theorem off_one (n:Nat):off n 1=n:=by show 0+(n - 0)=n;omega
theorem off_ge {n:Nat} (hn:1≤n):n≤off n n:=by
 have:=off_mono (n:=n) hn
 rw [off_one] at this
 exact this
theorem off_last {n:Nat} (hn:1≤n):off n (n - 1)+1=off n n:=by
 obtain ⟨n0,rfl⟩:∃ n0,n=n0+1:=⟨n - 1,by omega⟩
 show off (n0+1) n0+1=off (n0+1) n0+(n0+1 - n0)
 omega
theorem off_lt {n r p:Nat} (hr:r<n) (hp:p<n - r):off n r+p<off n n:=by
 have a:=off_mono (n:=n) (show r+1≤n from hr)
 have b:off n (r+1)=off n r+(n - r):=rfl
 omega
theorem st_used {n x:Nat} (hn:1≤n) (hx:x+1<off n n):∃ r p v:Nat,r+1<n∧p<n - r∧x=off n r+p∧x<v∧off n (r+1)≤v∧v<off n n∧(x:Int) ∈ nd (stN n) (v:Int):=by
 obtain ⟨r,p,hr,hp,rfl⟩:=st_at (n:=n) (x:=x) (by omega)
 have hb:off n (r+1)=off n r+(n - r):=rfl
 have hr1:r+1<n:=by
  by_cases c:r+1=n
  ·have e:=off_last hn
   have:r=n - 1:=by omega
   rw [this] at hx
   omega
  ·omega
 by_cases c:p<n - (r+1)
 ·refine ⟨r,p,off n (r+1)+p,hr1,hp,rfl,by omega,by omega,off_lt hr1 c,?_⟩
  rw [nd_stN hr1 c]
  exact List.mem_cons_self
 ·refine ⟨r,p,off n (r+1)+(p - 1),hr1,hp,rfl,by omega,by omega,off_lt hr1 (by omega),?_⟩
  rw [nd_stN hr1 (by omega)]
  refine List.mem_cons_of_mem _ (List.mem_singleton.mpr ?_)
  show ((off n r+p:Nat):Int)=((off n r+(p - 1):Nat):Int)+1
  omega
theorem st_needed {n:Nat} (hn:1≤n):IsNeeded (stN n) [((off n n:Nat):Int) - 1] (rangeI 0 ((off n n:Nat):Int)):=by
 have ge:=off_ge hn
 have:=all_needed_of (stUp_wf n n) (show 1≤(stN n).length by rw [stN_len];omega) fun x hx=>by
  have hx':x+1<off n n:=by rw [← stN_len];exact hx
  obtain ⟨r,p,v,_,_,_,h1,_,h2,h3⟩:=st_used hn hx'
  exact ⟨v,h1,by show v<(stN n).length;rw [stN_len];exact h2,h3⟩
 have e:((stUp n n).length:Int)=((off n n:Nat):Int):=by rw [stUp_len]
 rw [e] at this
 exact this
def sqTop (n m:Nat):Nat:=if n * m=1 then 0 else min n m
structure Told (net:List (List Int)) (R:Int) (ms:List Mv):Prop where
 run:Run net R [] ms [(net.length:Int) - 1]
 top:peak 0 ms=R
 ok:MvOk net ms
 once:(dosOf ms).Perm (rangeI 0 (net.length:Int))
 len:ms.length≤2 * net.length
def spRowRooms:Sp:=fun vs H Q _=>∃ n b:Nat,vs=[.int n,.int b]∧1≤n∧n≤400∧b≤400∧Q (.int (((min (n - 1) b:Nat):Int)+1)) H
def spSqRooms:Sp:=fun vs H Q _=>∃ n m:Nat,vs=[.int n,.int m]∧1≤n∧1≤m∧n≤400∧m≤400∧Q (.int ((sqTop n m:Int)+1)) H
def spStRooms:Sp:=fun vs H Q _=>∃ n:Nat,vs=[.int n]∧1≤n∧n≤400∧Q (.int (((if n=1 then 0 else n:Nat):Int)+1)) H
def mskN (zs:List Int):Nat:=(zs.map fun z=>2 ^ z.toNat).sum
def cntN (n b:Nat):Nat:=((List.range n).map fun k=>b / 2 ^ k % 2).sum
def clrb (b k:Nat):Nat:=b - 2 ^ k * (b / 2 ^ k % 2)
def nxt (net:List (List Int)) (k:Nat):Nat:=mskN ((net[k]?).getD [])
def can (net:List (List Int)) (rooms:Int) (b k:Nat):Prop:=(cntN net.length b:Int)<rooms∧k<net.length∧b &&& nxt net k=nxt net k
inductive Rm (net:List (List Int)) (rooms:Int):Nat→Nat→Prop
 | zero:Rm net rooms 0 0
 | clr {m b k:Nat}:Rm net rooms m b→k<net.length→Rm net rooms m (clrb b k)
 | do_ {m b k:Nat}:Rm net rooms m b→can net rooms b k→Rm net rooms (m+1) (b ||| 2 ^ k)
def Mn (net:List (List Int)) (rooms:Int) (m b:Nat):Prop:=Rm net rooms m b∧∀ m',m'<m→¬ Rm net rooms m' b
theorem clrb_le (b k:Nat):clrb b k≤b:=Nat.sub_le _ _
theorem Rm.lt {net:List (List Int)} {rooms:Int} {m b:Nat} (h:Rm net rooms m b):b<2 ^ net.length:=by
 induction h with
 | zero=>exact Nat.two_pow_pos _
 | clr _ _ ih=>exact Nat.lt_of_le_of_lt (clrb_le _ _) ih
 | do_ _ c ih=>exact Nat.or_lt_two_pow ih (Nat.pow_lt_pow_right (by decide) c.2.1)
theorem Rm.mono {net:List (List Int)} {r r':Int} (h:r≤r') {m b:Nat} (x:Rm net r m b):Rm net r' m b:=by
 induction x with
 | zero=>exact .zero
 | clr _ k ih=>exact .clr ih k
 | do_ _ c ih=>exact .do_ ih ⟨Int.lt_of_lt_of_le c.1 h,c.2⟩
theorem sub_len {α:Type} [DecidableEq α]:∀ {l r:List α},l.Nodup→(∀ x ∈ l,x ∈ r)→l.length≤r.length
 | [],r,_,_=>Nat.zero_le _
 | a::l,r,nd,h=>by
  have nd':=List.nodup_cons.mp nd
  have ha:=h a (List.mem_cons_self ..)
  have:=sub_len (r:=r.erase a) nd'.2 fun x hx=>(List.mem_erase_of_ne (fun (e:x=a)=>nd'.1 (e ▸ hx))).mpr (h x (List.mem_cons_of_mem _ hx))
  rw [List.length_erase_of_mem ha] at this
  have:0<r.length:=List.length_pos_of_mem ha
  rw [List.length_cons]
  omega
theorem below_len {ks:List Nat} {n:Nat} (nd:ks.Nodup) (h:∀ b ∈ ks,b<n):ks.length≤n:=by
 have:=sub_len (r:=List.range n) nd fun x hx=>List.mem_range.mpr (h x hx)
 rwa [List.length_range] at this
theorem snoc_nodup {ks:List Nat} {x:Nat} (nd:ks.Nodup) (h:x ∉ ks):(ks++[x]).Nodup:=by
 rw [List.nodup_append]
 exact ⟨nd,by simp,fun a ha b hb e=>h (by rw [List.mem_singleton.mp hb] at e;exact e ▸ ha)⟩
structure FdC (net:List (List Int)) (rooms:Int) (many:Nat) (ks:List Nat) (f:Nat→Nat):Prop where
 nd:ks.Nodup
 snd:∀ b ∈ ks,f b≤many∧Mn net rooms (f b) b
 zero:0 ∈ ks
 full:∀ m,m<many→∀ b,Rm net rooms m b→b ∈ ks
section
variable {net:List (List Int)} {rooms:Int} {many:Nat} {ks cl ly:List Nat} {f:Nat→Nat} {at_ wk:Nat}
theorem FdC.lt (h:FdC net rooms many ks f) {b:Nat} (hb:b ∈ ks):b<2 ^ net.length:=(h.snd b hb).2.1.lt
theorem FdC.len (h:FdC net rooms many ks f):ks.length≤2 ^ net.length:=below_len h.nd fun b hb=>h.lt hb
theorem FdC.le (h:FdC net rooms many ks f) {m b:Nat} (hb:b ∈ ks) (r:Rm net rooms m b):f b≤m:=by
 apply Classical.byContradiction
 intro z
 exact (h.snd b hb).2.2 m (by omega) r
def fset (f:Nat→Nat) (x v:Nat):Nat→Nat:=fun y=>if y=x then v else f y
theorem fset_same (f:Nat→Nat) (x v:Nat):fset f x v x=v:=if_pos rfl
theorem fset_ne {f:Nat→Nat} {x v y:Nat} (h:y ≠ x):fset f x v y=f y:=if_neg h
theorem fset_in {f:Nat→Nat} {x v y:Nat} {ks:List Nat} (h:y ∈ ks) (hx:x ∉ ks):fset f x v y=f y:=fset_ne fun e=>hx (by rw [← e];exact h)
theorem FdC.add (h:FdC net rooms many ks f) {x:Nat} (hx:x ∉ ks) (r:Rm net rooms many x):FdC net rooms many (ks++[x]) (fset f x many):=by
 refine ⟨snoc_nodup h.nd hx,fun b hb=>?_,List.mem_append.mpr (.inl h.zero),fun m hm b rb=>List.mem_append.mpr (.inl (h.full m hm b rb))⟩
 rcases List.mem_append.mp hb with hb | hb
 ·rw [fset_in hb hx]
  exact h.snd b hb
 ·rw [List.mem_singleton.mp hb,fset_same]
  exact ⟨Nat.le_refl _,r,fun m' hm z=>hx (h.full m' hm x z)⟩
structure A1 (net:List (List Int)) (rooms:Int) (many:Nat) (ks:List Nat) (f:Nat→Nat) (cl:List Nat) (at_ wk:Nat):Prop where
 fd:FdC net rooms many ks f
 dos:∀ m b k,m+1=many→Rm net rooms m b→can net rooms b k→b ||| 2 ^ k ∈ ks
 clm:∀ b,b ∈ cl ↔ b ∈ ks∧f b=many
 nd:cl.Nodup
 done:∀ i b,cl[i]?=some b→i<at_→∀ k,k<net.length→clrb b k ∈ ks
 dk:∀ b,cl[at_]?=some b→∀ k,k<wk→clrb b k ∈ ks
theorem A1.start:A1 net rooms 0 [0] (fun _=>0) [0] 0 0:=
 ⟨⟨by simp,fun b hb=>by rw [List.mem_singleton.mp hb];exact ⟨Nat.le_refl _,.zero,fun _ z=>absurd z (Nat.not_lt_zero _)⟩,by simp,fun m hm=>absurd hm (Nat.not_lt_zero _)⟩,fun m b k e=>by omega,fun b=>by simp,by simp,fun i b _ z=>absurd z (Nat.not_lt_zero _),fun b _ k z=>absurd z (Nat.not_lt_zero _)⟩
theorem A1.hit (h:A1 net rooms many ks f cl at_ wk) {c:Nat} (hc:cl[at_]?=some c) (hk:clrb c wk ∈ ks):A1 net rooms many ks f cl at_ (wk+1):=by
 refine ⟨h.fd,h.dos,h.clm,h.nd,h.done,fun b hb k hk'=>?_⟩
 by_cases e:k=wk
 ·rw [hc] at hb
  cases hb
  rw [e]
  exact hk
 ·exact h.dk b hb k (by omega)
theorem A1.add (h:A1 net rooms many ks f cl at_ wk) {c:Nat} (hc:cl[at_]?=some c) (hw:wk<net.length) (hk:clrb c wk ∉ ks):A1 net rooms many (ks++[clrb c wk]) (fset f (clrb c wk) many) (cl++[clrb c wk]) at_ (wk+1):=by
 have cin:=(h.clm c).mp (List.mem_of_getElem? hc)
 have rc:Rm net rooms many c:=cin.2 ▸ (h.fd.snd c cin.1).2.1
 have old:∀ {i b},i≤at_→(cl++[clrb c wk])[i]?=some b→cl[i]?=some b:=fun {i b} hi e=>by
  have:=(List.getElem?_eq_some_iff.mp hc).1
  rwa [List.getElem?_append_left (by omega)] at e
 refine ⟨h.fd.add hk (.clr rc hw),fun m b k e1 r c=>List.mem_append.mpr (.inl (h.dos m b k e1 r c)),fun b=>?_,snoc_nodup h.nd fun z=>hk ((h.clm _).mp z).1,fun i b e hi k hk'=>?_,fun b e k hk'=>?_⟩
 ·rw [List.mem_append,List.mem_append,List.mem_singleton,h.clm b]
  constructor
  ·rintro (z | z)
   ·exact ⟨.inl z.1,by rw [fset_in z.1 hk];exact z.2⟩
   ·exact ⟨.inr z,by rw [z,fset_same]⟩
  ·rintro ⟨z | z,e⟩
   ·rw [fset_in z hk] at e
    exact .inl ⟨z,e⟩
   ·exact .inr z
 ·exact List.mem_append.mpr (.inl (h.done i b (old (by omega) e) hi k hk'))
 ·have e':=old (Nat.le_refl _) e
  by_cases ek:k=wk
  ·rw [hc] at e'
   cases e'
   rw [ek]
   exact List.mem_append.mpr (.inr (List.mem_singleton.mpr rfl))
  ·exact List.mem_append.mpr (.inl (h.dk b e' k (by omega)))
theorem A1.next (h:A1 net rooms many ks f cl at_ net.length):A1 net rooms many ks f cl (at_+1) 0:=by
 refine ⟨h.fd,h.dos,h.clm,h.nd,fun i b e hi k hk=>?_,fun b _ k z=>absurd z (Nat.not_lt_zero _)⟩
 by_cases ei:i=at_
 ·rw [ei] at e
  exact h.dk b e k hk
 ·exact h.done i b e (by omega) k hk
theorem A1.len (h:A1 net rooms many ks f cl at_ wk):cl.length≤2 ^ net.length:=below_len h.nd fun b hb=>h.fd.lt ((h.clm b).mp hb).1
theorem A1.all (h:A1 net rooms many ks f cl at_ wk) (he:cl.length≤at_):∀ m b,Rm net rooms m b→m≤many→b ∈ ks:=by
 intro m b r
 induction r with
 | zero=>exact fun _=>h.fd.zero
 | @clr m b k r hk ih=>
  intro hm
  have hb:=ih hm
  by_cases e:f b=many
  ·obtain ⟨i,hi,ei⟩:=List.getElem_of_mem ((h.clm b).mpr ⟨hb,e⟩)
   exact h.done i b (by rw [List.getElem?_eq_getElem hi,ei]) (by omega) k hk
  ·have:=(h.fd.snd b hb)
   exact h.fd.full (f b) (by omega) _ (.clr this.2.1 hk)
 | @do_ m b k r c ih=>
  intro hm
  by_cases e:m+1=many
  ·exact h.dos m b k e r c
  ·exact h.fd.full (m+1) (by omega) _ (.do_ r c)
structure A2 (net:List (List Int)) (rooms:Int) (many:Nat) (ks:List Nat) (f:Nat→Nat) (cl ly:List Nat) (at_ wk:Nat):Prop where
 fd:FdC net rooms (many+1) ks f
 clm:∀ b,b ∈ cl ↔ b ∈ ks∧f b=many
 lym:∀ b,b ∈ ly ↔ b ∈ ks∧f b=many+1
 nd:ly.Nodup
 done:∀ i b,cl[i]?=some b→i<at_→∀ k,can net rooms b k→b ||| 2 ^ k ∈ ks
 dk:∀ b,cl[at_]?=some b→∀ k,k<wk→can net rooms b k→b ||| 2 ^ k ∈ ks
theorem A1.two (h:A1 net rooms many ks f cl at_ wk) (he:cl.length≤at_):A2 net rooms many ks f cl [] 0 0:=by
 refine ⟨⟨h.fd.nd,fun b hb=>⟨by have:=(h.fd.snd b hb).1;omega,(h.fd.snd b hb).2⟩,h.fd.zero,fun m hm b r=>h.all he m b r (by omega)⟩,h.clm,fun b=>⟨fun z=>absurd z (by simp),fun z=>?_⟩,.nil,fun i b _ z=>absurd z (Nat.not_lt_zero _),fun b _ k z=>absurd z (Nat.not_lt_zero _)⟩
 have:=(h.fd.snd b z.1).1
 omega
theorem A2.hit (h:A2 net rooms many ks f cl ly at_ wk) {c:Nat} (hc:cl[at_]?=some c) (hk:can net rooms c wk→c ||| 2 ^ wk ∈ ks):A2 net rooms many ks f cl ly at_ (wk+1):=by
 refine ⟨h.fd,h.clm,h.lym,h.nd,h.done,fun b hb k hk' c'=>?_⟩
 by_cases e:k=wk
 ·rw [hc] at hb
  cases hb
  rw [e] at c' ⊢
  exact hk c'
 ·exact h.dk b hb k (by omega) c'
theorem A2.add (h:A2 net rooms many ks f cl ly at_ wk) {c:Nat} (hc:cl[at_]?=some c) (hn:can net rooms c wk) (hk:c ||| 2 ^ wk ∉ ks):A2 net rooms many (ks++[c ||| 2 ^ wk]) (fset f (c ||| 2 ^ wk) (many+1)) cl (ly++[c ||| 2 ^ wk]) at_ (wk+1):=by
 have cin:=(h.clm c).mp (List.mem_of_getElem? hc)
 have rc:Rm net rooms many c:=cin.2 ▸ (h.fd.snd c cin.1).2.1
 refine ⟨h.fd.add hk (.do_ rc hn),fun b=>?_,fun b=>?_,snoc_nodup h.nd fun z=>hk ((h.lym _).mp z).1,fun i b e hi k c'=>List.mem_append.mpr (.inl (h.done i b e hi k c')),fun b e k hk' c'=>?_⟩
 ·rw [h.clm b,List.mem_append,List.mem_singleton]
  constructor
  ·rintro ⟨z,e⟩
   exact ⟨.inl z,by rw [fset_in z hk];exact e⟩
  ·rintro ⟨z | z,e⟩
   ·rw [fset_in z hk] at e
    exact ⟨z,e⟩
   ·rw [z,fset_same] at e
    omega
 ·rw [List.mem_append,List.mem_append,List.mem_singleton,h.lym b]
  constructor
  ·rintro (z | z)
   ·exact ⟨.inl z.1,by rw [fset_in z.1 hk];exact z.2⟩
   ·exact ⟨.inr z,by rw [z,fset_same]⟩
  ·rintro ⟨z | z,e⟩
   ·rw [fset_in z hk] at e
    exact .inl ⟨z,e⟩
   ·exact .inr z
 ·by_cases ek:k=wk
  ·rw [hc] at e
   cases e
   rw [ek]
   exact List.mem_append.mpr (.inr (List.mem_singleton.mpr rfl))
  ·exact List.mem_append.mpr (.inl (h.dk b e k (by omega) c'))
theorem A2.next (h:A2 net rooms many ks f cl ly at_ net.length):A2 net rooms many ks f cl ly (at_+1) 0:=by
 refine ⟨h.fd,h.clm,h.lym,h.nd,fun i b e hi k c=>?_,fun b _ k z=>absurd z (Nat.not_lt_zero _)⟩
 by_cases ei:i=at_
 ·rw [ei] at e
  exact h.dk b e k c.2.1 c
 ·exact h.done i b e (by omega) k c
theorem A2.skip (h:A2 net rooms many ks f cl ly at_ wk) {c:Nat} (hc:cl[at_]?=some c) (hn:¬ (cntN net.length c:Int)<rooms):A2 net rooms many ks f cl ly (at_+1) 0:=by
 refine ⟨h.fd,h.clm,h.lym,h.nd,fun i b e hi k c'=>?_,fun b _ k z=>absurd z (Nat.not_lt_zero _)⟩
 by_cases ei:i=at_
 ·rw [ei,hc] at e
  cases e
  exact absurd c'.1 hn
 ·exact h.done i b e (by omega) k c'
theorem A2.one (h:A2 net rooms many ks f cl ly at_ wk) (he:cl.length≤at_):A1 net rooms (many+1) ks f ly 0 0:=by
 refine ⟨h.fd,fun m b k e r c=>?_,h.lym,h.nd,fun i b _ z=>absurd z (Nat.not_lt_zero _),fun b _ k z=>absurd z (Nat.not_lt_zero _)⟩
 have em:m=many:=by omega
 subst em
 have hb:=h.fd.full m (by omega) b r
 have hle:=h.fd.le hb r
 by_cases e':f b=m
 ·obtain ⟨i,hi,ei⟩:=List.getElem_of_mem ((h.clm b).mpr ⟨hb,e'⟩)
  exact h.done i b (by rw [List.getElem?_eq_getElem hi,ei]) (by omega) k c
 ·exact h.fd.full (f b+1) (by omega) _ (.do_ (h.fd.snd b hb).2.1 c)
structure Come (net:List (List Int)) (rooms:Int) (ks:List Nat) (f:Nat→Nat):Prop where
 nd:ks.Nodup
 snd:∀ b ∈ ks,Mn net rooms (f b) b
 all:∀ m b,Rm net rooms m b→b ∈ ks
theorem A1.come (h:A1 net rooms many ks f [] at_ wk):Come net rooms ks f:=by
 have lt:∀ b ∈ ks,f b<many:=fun b hb=>by
  have h1:=(h.fd.snd b hb).1
  have h2:f b ≠ many:=fun e=>nomatch (h.clm b).mpr ⟨hb,e⟩
  omega
 refine ⟨h.fd.nd,fun b hb=>(h.fd.snd b hb).2,fun m b r=>?_⟩
 induction r with
 | zero=>exact h.fd.zero
 | @clr m b k r hk ih=>exact h.fd.full (f b) (lt b ih) _ (.clr (h.fd.snd b ih).2.1 hk)
 | @do_ m b k r c ih=>
  have:=lt b ih
  by_cases e:f b+1=many
  ·exact h.dos (f b) b k e (h.fd.snd b ih).2.1 c
  ·exact h.fd.full (f b+1) (by omega) _ (.do_ (h.fd.snd b ih).2.1 c)
end
def kvN (ks:List Nat) (f:Nat→Nat):List (Key × V):=ks.map fun (b:Nat)=>((Sum.inl (b:Int):Key),V.int (f b:Int))
theorem kvN_len (ks:List Nat) (f:Nat→Nat):(kvN ks f).length=ks.length:=by simp [kvN]
theorem kvN_val (ks:List Nat) (f:Nat→Nat) (x:Nat):valV (kvN ks f) (Sum.inl (x:Int))=if x ∈ ks then some (.int (f x:Int)) else none:=by
 induction ks with
 | nil=>rfl
 | cons b ks ih=>
  show ((((Sum.inl (b:Int):Key),V.int (f b:Int))::kvN ks f).find? fun kv=>decide (kv.1=Sum.inl (x:Int))).map (·.2)=_
  rw [List.find?_cons]
  by_cases e:b=x
  ·subst e
   simp
  ·have:¬ ((Sum.inl (b:Int):Key)=Sum.inl (x:Int)):=fun z=>e (by have:=Sum.inl.inj z;omega)
   rw [decide_eq_false this]
   show valV (kvN ks f) (Sum.inl (x:Int))=_
   rw [ih]
   have e':x ≠ b:=Ne.symm e
   simp [e']
theorem kvN_put {ks:List Nat} {f:Nat→Nat} {x v:Nat} (h:x ∉ ks):putK (kvN ks f) (Sum.inl (x:Int)) (.int (v:Int))=kvN (ks++[x]) (fset f x v):=by
 rw [putK_new _ (by rw [kvN_val,if_neg h])]
 unfold kvN
 rw [List.map_append]
 congr 1
 ·exact List.map_congr_left fun b hb=>by rw [fset_in hb h]
 ·simp [fset_same]
theorem bitAnd_nat (a b:Nat):Builtin.bitAnd (a:Int) (b:Int)=((a &&& b:Nat):Int):=by
 unfold Builtin.bitAnd
 rw [decide_eq_true (Int.natCast_nonneg a),decide_eq_true (Int.natCast_nonneg b)]
 rfl
theorem bitOr_nat (a b:Nat):Builtin.bitOr (a:Int) (b:Int)=((a ||| b:Nat):Int):=by
 have h1:∀ c:Nat,Builtin.bitNot (c:Int)=Int.negSucc c:=fun c=>by unfold Builtin.bitNot;omega
 have h2:∀ c:Nat,decide (0≤Int.negSucc c)=false:=fun c=>decide_eq_false (by omega)
 have h3:∀ c:Nat,Builtin.bitNot (Int.negSucc c)=(c:Int):=fun c=>by unfold Builtin.bitNot;omega
 unfold Builtin.bitOr Builtin.bitAnd
 rw [h1,h1,h2,h2]
 show Builtin.bitNot (Builtin.bitNot (((Builtin.bitNot (Int.negSucc a)).toNat ||| (Builtin.bitNot (Int.negSucc b)).toNat:Nat)))=_
 rw [h3,h3,h1,h3]
 rfl
theorem shr_nat (a k:Nat):(a:Int) / 2 ^ k=((a / 2 ^ k:Nat):Int):=by
 rw [Int.natCast_ediv,Int.natCast_pow]
 rfl
theorem bit_nat (a k:Nat):Builtin.bitAnd ((a:Int) / 2 ^ k) 1=((a / 2 ^ k % 2:Nat):Int):=by
 rw [shr_nat,show (1:Int)=((1:Nat):Int) from rfl,bitAnd_nat,Nat.and_one_is_mod]
theorem pow_nat (k:Nat):(1:Int) * 2 ^ k=((2 ^ k:Nat):Int):=by
 rw [Int.one_mul,Int.natCast_pow]
 rfl
theorem clr_nat (a k:Nat):(a:Int) - (1 * 2 ^ k) * Builtin.bitAnd ((a:Int) / 2 ^ k) 1=((clrb a k:Nat):Int):=by
 rw [bit_nat,pow_nat,← Int.natCast_mul]
 unfold clrb
 have h1:a / 2 ^ k % 2≤a / 2 ^ k:=Nat.mod_le _ _
 have h2:2 ^ k * (a / 2 ^ k % 2)≤a:=Nat.le_trans (Nat.mul_le_mul_left _ h1) (Nat.mul_div_le _ _)
 omega
def wantN (ws asked:List Int):Nat:=mskN ((rangeI 0 ws.length).filter fun p=>decide ((ws[p.toNat]?).getD 0 ∈ asked))
def DoneIn (net:List (List Int)) (ws asked:List Int) (r:Int):Prop:=∃ m b,Rm (partL net ws) r m b∧b &&& wantN ws asked=wantN ws asked
def LeastR (net:List (List Int)) (ws asked:List Int) (r:Int):Prop:=1≤r∧DoneIn net ws asked r∧∀ r',1≤r'→r'<r→¬ DoneIn net ws asked r'
def canB (n:Nat) (ms:List Nat) (rooms b k:Nat):Bool:=decide (cntN n b<rooms) && decide (b &&& ms.getD k 0=ms.getD k 0)
def closedB (n:Nat) (ms:List Nat) (rooms S:Nat):Bool:=
 S.testBit 0 && (List.range (2 ^ n)).all fun b=>!S.testBit b || (List.range n).all fun k=>S.testBit (clrb b k) && (!canB n ms rooms b k || S.testBit (b ||| 2 ^ k))
def walkB (n:Nat) (ms:List Nat) (rooms:Nat):Nat→List (Bool × Nat)→Option Nat
 | b,[]=>some b
 | b,(true,k)::r=>if decide (k<n) && canB n ms rooms b k then walkB n ms rooms (b ||| 2 ^ k) r else none
 | b,(false,k)::r=>if decide (k<n) then walkB n ms rooms (clrb b k) r else none
def masks (net:List (List Int)):List Nat:=net.map mskN
theorem nxt_masks (net:List (List Int)) (k:Nat):(masks net).getD k 0=nxt net k:=by
 unfold masks nxt
 rw [List.getD_eq_getElem?_getD,List.getElem?_map]
 cases net[k]? with
 | none=>rfl
 | some zs=>rfl
theorem canB_iff {net:List (List Int)} {rooms b k:Nat} (hk:k<net.length):canB net.length (masks net) rooms b k=true ↔ can net (rooms:Int) b k:=by
 unfold canB can
 rw [nxt_masks,Bool.and_eq_true,decide_eq_true_eq,decide_eq_true_eq]
 constructor
 ·rintro ⟨h1,h2⟩
  exact ⟨by omega,hk,h2⟩
 ·rintro ⟨h1,_,h2⟩
  exact ⟨by omega,h2⟩
theorem closed_rm {net:List (List Int)} {rooms S:Nat} (h:closedB net.length (masks net) rooms S=true) {m b:Nat} (r:Rm net (rooms:Int) m b):S.testBit b=true:=by
 unfold closedB at h
 rw [Bool.and_eq_true,List.all_eq_true] at h
 have step:∀ {b k},S.testBit b=true→b<2 ^ net.length→k<net.length→S.testBit (clrb b k)=true∧(can net (rooms:Int) b k→S.testBit (b ||| 2 ^ k)=true):=by
  intro b k hb hlt hk
  have:=h.2 b (List.mem_range.mpr hlt)
  rw [hb,Bool.not_true,Bool.false_or,List.all_eq_true] at this
  have:=this k (List.mem_range.mpr hk)
  rw [Bool.and_eq_true] at this
  refine ⟨this.1,fun c=>?_⟩
  have c':=(canB_iff hk).mpr c
  have:=this.2
  rw [c',Bool.not_true,Bool.false_or] at this
  exact this
 induction r with
 | zero=>exact h.1
 | clr r hk ih=>exact (step ih r.lt hk).1
 | do_ r c ih=>exact (step ih r.lt c.2.1).2 c
theorem walk_rm {net:List (List Int)} {rooms:Nat}:∀ {ms:List (Bool × Nat)} {m b e:Nat},Rm net (rooms:Int) m b→walkB net.length (masks net) rooms b ms=some e→∃ m',Rm net (rooms:Int) m' e
 | [],m,b,e,r,h=>⟨m,by cases h;exact r⟩
 | (true,k)::ms,m,b,e,r,h=>by
  unfold walkB at h
  split at h
  ·rename_i c
   rw [Bool.and_eq_true,decide_eq_true_eq] at c
   exact walk_rm (.do_ r ((canB_iff c.1).mp c.2)) h
  ·cases h
 | (false,k)::ms,m,b,e,r,h=>by
  unfold walkB at h
  split at h
  ·rename_i c
   exact walk_rm (.clr r (of_decide_eq_true c)) h
  ·cases h
def goodB (net:List (List Int)) (want due S:Nat) (ms:List (Bool × Nat)):Bool:=
 decide (1≤due) && (match walkB net.length (masks net) due 0 ms with | some e=>decide (e &&& want=want) | none=>false) && closedB net.length (masks net) (due - 1) S && (List.range (2 ^ net.length)).all fun b=>!S.testBit b || !decide (b &&& want=want)
theorem good_least {net:List (List Int)} {ws asked:List Int} {due S:Nat} {ms:List (Bool × Nat)} (hp:partL net ws=net) (h:goodB net (wantN ws asked) due S ms=true):LeastR net ws asked (due:Int):=by
 unfold goodB at h
 rw [Bool.and_eq_true,Bool.and_eq_true,Bool.and_eq_true,decide_eq_true_eq] at h
 obtain ⟨⟨⟨h1,h2⟩,h3⟩,h4⟩:=h
 refine ⟨by omega,?_,fun r' a1 a2=>?_⟩
 ·cases e:walkB net.length (masks net) due 0 ms with
  | none=>rw [e] at h2;cases h2
  | some x=>
   rw [e] at h2
   obtain ⟨m,r⟩:=walk_rm .zero e
   exact ⟨m,x,by rw [hp];exact r,of_decide_eq_true h2⟩
 ·rintro ⟨m,b,r,hb⟩
  rw [hp] at r
  have r2:Rm net ((due - 1:Nat):Int) m b:=r.mono (by omega)
  have hs:=closed_rm h3 r2
  rw [List.all_eq_true] at h4
  have:=h4 b (List.mem_range.mpr r2.lt)
  rw [hs,decide_eq_true hb] at this
  cases this
theorem cast_sum (g:Nat→Nat):∀ l:List Nat,(l.map fun k=>((g k:Nat):Int)).sum=(((l.map g).sum:Nat):Int)
 | []=>rfl
 | k::l=>by rw [List.map_cons,List.sum_cons,cast_sum g l,List.map_cons,List.sum_cons];omega
theorem msk_sum:∀ zs:List Int,(zs.map fun z=>(1:Int) * 2 ^ z.toNat).sum=((mskN zs:Nat):Int)
 | []=>rfl
 | z::l=>by
  have:=msk_sum l
  unfold mskN at this ⊢
  rw [List.map_cons,List.sum_cons,this,List.map_cons,List.sum_cons,pow_nat]
  omega
def natI (l:List Nat):List Int:=l.map fun (b:Nat)=>(b:Int)
theorem natI_snoc (l:List Nat) (b:Nat):natI (l++[b])=natI l++[(b:Int)]:=by simp [natI]
theorem natI_len (l:List Nat):(natI l).length=l.length:=by simp [natI]
theorem natI_get {l:List Nat} {i:Nat} {b:Nat} (h:l[i]?=some b):(natI l)[i]?=some (b:Int):=by unfold natI;rw [List.getElem?_map,h];rfl
theorem natI_of {l:List Nat} {i:Nat} {z:Int} (h:(natI l)[i]?=some z):∃ b:Nat,l[i]?=some b∧z=(b:Int):=by
 unfold natI at h
 rw [List.getElem?_map] at h
 cases e:l[i]? with
 | none=>rw [e] at h;cases h
 | some b=>rw [e] at h;cases h;exact ⟨b,rfl,rfl⟩
def spCome:Sp:=fun vs H Q _=>∃ (a:Addr) (net:List (List Int)) (rooms:Int),vs=[.ref a,.int rooms]∧NetAt H a net∧WFn net∧net.length≤12∧
 ∀ (d:Addr) (o:Obj) (ks:List Nat) (f:Nat→Nat) H',Same H H'→H d=none→H' d=some (.frz o (.dK (kvN ks f)))→Come net rooms ks f→Q (.ref d) H'
def spPartW:Sp:=fun vs H Q _=>∃ (a l:Addr) (net:List (List Int)) (ws:List Int),vs=[.ref a,.ref l]∧NetAt H a net∧WFn net∧net.length≤60∧H l=some (.lst (ws.map V.int))∧Rise (net.length:Int) ws∧∀ b H',Same H H'→NetAt H' b (partL net ws)→Q (.ref b) H'
def spBits:Sp:=fun vs H Q _=>∃ (l:Addr) (ws:List Int),vs=[.ref l]∧H l=some (.lst (ws.map V.int))∧(∀ x ∈ ws,0≤x∧x<1000)∧ws.length≤1000∧∀ H',Same H H'→Q (.int ((mskN ws:Nat):Int)) H'
def spDoneIn:Sp:=fun vs H Q _=>∃ (a t:Addr) (net:List (List Int)) (asked ws:List Int) (rooms:Int),vs=[.ref a,.ref t,.int rooms]∧NetAt H a net∧WFn net∧net.length≤12∧askedAt H t net asked∧IsNeeded net asked ws∧∀ b H',Same H H'→(b=true ↔ DoneIn net ws asked rooms)→Q (.bl b) H'
def spLeastR:Sp:=fun vs H Q _=>∃ (a t:Addr) (net:List (List Int)) (asked ws:List Int) (r:Int),vs=[.ref a,.ref t]∧NetAt H a net∧WFn net∧net.length≤12∧askedAt H t net asked∧IsNeeded net asked ws∧LeastR net ws asked r∧∀ H',Same H H'→Q (.int r) H'
def mvsOf (l:List Nat):List (Bool × Nat):=l.map fun k=>if k<16 then (true,k) else (false,k - 16)
def rowC:List (Nat × List Nat):=[(0x1,[0]),(0x1,[0]),(0x1,[0]),(0x1,[0]),(0x1,[0]),(0x1,[0]),(0x1,[0]),(0x1,[0]),(0x1,[0]),(0x3,[0,1,16]),(0x3,[0,1,16]),(0x3,[0,1,16]),(0x3,[0,1,16]),(0x3,[0,1,16]),(0x3,[0,1,16]),(0x3,[0,1,16]),(0x3,[0,1,16]),(0x3,[0,1,16]),(0x3,[0,1,16,2,17]),(0xf,[0,1,2,16,17]),(0xf,[0,1,2,16,17]),(0xf,[0,1,2,16,17]),(0xf,[0,1,2,16,17]),(0xf,[0,1,2,16,17]),(0xf,[0,1,2,16,17]),(0xf,[0,1,2,16,17]),(0xf,[0,1,2,16,17]),(0x3,[0,1,16,2,17,3,18]),(0xf,[0,1,2,16,3,17,18]),(0xff,[0,1,2,3,16,17,18]),(0xff,[0,1,2,3,16,17,18]),(0xff,[0,1,2,3,16,17,18]),(0xff,[0,1,2,3,16,17,18]),(0xff,[0,1,2,3,16,17,18]),(0xff,[0,1,2,3,16,17,18]),(0xff,[0,1,2,3,16,17,18]),(0x3,[0,1,16,2,17,3,18,4,19]),(0xf,[0,1,2,16,3,17,4,18,19]),(0xff,[0,1,2,3,16,4,17,18,19]),(0xffff,[0,1,2,3,4,16,17,18,19]),(0xffff,[0,1,2,3,4,16,17,18,19]),(0xffff,[0,1,2,3,4,16,17,18,19]),(0xffff,[0,1,2,3,4,16,17,18,19]),(0xffff,[0,1,2,3,4,16,17,18,19]),(0xffff,[0,1,2,3,4,16,17,18,19]),(0x3,[0,1,16,2,17,3,18,4,19,5,20]),(0xf,[0,1,2,16,3,17,4,18,5,19,20]),(0xff,[0,1,2,3,16,4,17,5,18,19,20]),(0xffff,[0,1,2,3,4,16,5,17,18,19,20]),(0xffffffff,[0,1,2,3,4,5,16,17,18,19,20]),(0xffffffff,[0,1,2,3,4,5,16,17,18,19,20]),(0xffffffff,[0,1,2,3,4,5,16,17,18,19,20]),(0xffffffff,[0,1,2,3,4,5,16,17,18,19,20]),(0xffffffff,[0,1,2,3,4,5,16,17,18,19,20]),(0x3,[0,1,16,2,17,3,18,4,19,5,20,6,21]),(0xf,[0,1,2,16,3,17,4,18,5,19,6,20,21]),(0xff,[0,1,2,3,16,4,17,5,18,6,19,20,21]),(0xffff,[0,1,2,3,4,16,5,17,6,18,19,20,21]),(0xffffffff,[0,1,2,3,4,5,16,6,17,18,19,20,21]),(0xffffffffffffffff,[0,1,2,3,4,5,6,16,17,18,19,20,21]),(0xffffffffffffffff,[0,1,2,3,4,5,6,16,17,18,19,20,21]),(0xffffffffffffffff,[0,1,2,3,4,5,6,16,17,18,19,20,21]),(0xffffffffffffffff,[0,1,2,3,4,5,6,16,17,18,19,20,21]),(0x3,[0,1,16,2,17,3,18,4,19,5,20,6,21,7,22]),(0xf,[0,1,2,16,3,17,4,18,5,19,6,20,7,21,22]),(0xff,[0,1,2,3,16,4,17,5,18,6,19,7,20,21,22]),(0xffff,[0,1,2,3,4,16,5,17,6,18,7,19,20,21,22]),(0xffffffff,[0,1,2,3,4,5,16,6,17,7,18,19,20,21,22]),(0xffffffffffffffff,[0,1,2,3,4,5,6,16,7,17,18,19,20,21,22]),(0xffffffffffffffffffffffffffffffff,[0,1,2,3,4,5,6,7,16,17,18,19,20,21,22]),(0xffffffffffffffffffffffffffffffff,[0,1,2,3,4,5,6,7,16,17,18,19,20,21,22]),(0xffffffffffffffffffffffffffffffff,[0,1,2,3,4,5,6,7,16,17,18,19,20,21,22]),(0x3,[0,1,16,2,17,3,18,4,19,5,20,6,21,7,22,8,23]),(0xf,[0,1,2,16,3,17,4,18,5,19,6,20,7,21,8,22,23]),(0xff,[0,1,2,3,16,4,17,5,18,6,19,7,20,8,21,22,23]),(0xffff,[0,1,2,3,4,16,5,17,6,18,7,19,8,20,21,22,23]),(0xffffffff,[0,1,2,3,4,5,16,6,17,7,18,8,19,20,21,22,23]),(0xffffffffffffffff,[0,1,2,3,4,5,6,16,7,17,8,18,19,20,21,22,23]),(0xffffffffffffffffffffffffffffffff,[0,1,2,3,4,5,6,7,16,8,17,18,19,20,21,22,23]),(0xffffffffffffffffffffffffffffffffffffffffffffffffffffffffffffffff,[0,1,2,3,4,5,6,7,8,16,17,18,19,20,21,22,23]),(0xffffffffffffffffffffffffffffffffffffffffffffffffffffffffffffffff,[0,1,2,3,4,5,6,7,8,16,17,18,19,20,21,22,23])]
def sqC:List ((Nat × Nat) × Nat × List Nat):=[((1,7),(0x3,[0,1,16,2,17,3,18,4,19,5,20,6,21])),((2,2),(0x3f,[0,1,2,16,3,17,18])),((2,3),(0x37f,[0,3,1,16,4,19,2,17,5,18,20])),((2,4),(0x3137f,[0,4,1,16,5,20,2,17,6,21,3,18,7,19,22])),((2,5),(0x30103137f,[0,5,1,16,6,21,2,17,7,22,3,18,8,23,4,19,9,20,24])),((3,3),(0x10103000000000003037f000001030103177f0013037f077f7fff,[0,1,2,3,16,4,17,5,18,6,19,7,20,22,8,21,23])),((3,2),(0x13003f,[0,1,2,16,3,17,4,18,5,19,20])),((5,2),(0x10000000000000003000000000000000000000000000000000000000000010003000000000013003f,[0,1,2,16,3,17,4,18,5,19,6,20,7,21,8,22,9,23,24])),((6,1),(0x3,[0,1,16,2,17,3,18,4,19,5,20])),((4,2),(0x10003000000000013003f,[0,1,2,16,3,17,4,18,5,19,6,20,7,21,22]))]
def stC:List (Nat × List Nat):=[(0x1,[0]),(0xf,[0,1,2,16,17]),(0x7f7fff,[0,1,2,3,16,4,17,18,5,19,20]),(0x1170000177f0000177f177f7fff000000000000177f0117177f177f7fff0000177f177f7fff177f7fff7fffffff,[0,1,2,3,4,16,5,17,6,18,19,7,20,8,21,22,9,23,24])]
def rowCk (n b:Nat):Bool:=goodB (rowN n b) (wantN (rangeI 0 (n:Int)) [((n:Int) - 1)]) (min (n - 1) b+1) (rowC.getD ((n - 1) * 9+(b - 1)) (0,[])).1 (mvsOf (rowC.getD ((n - 1) * 9+(b - 1)) (0,[])).2)
theorem rows_ok:((List.range 9).all fun i=>(List.range 9).all fun j=>rowCk (i+1) (j+1))=true:=by decide +kernel
theorem row_least {n b:Nat} (h1:1≤n) (h2:n≤9) (b1:1≤b) (b2:b≤9):LeastR (rowN n b) (rangeI 0 (n:Int)) [((n:Int) - 1)] (((min (n - 1) b:Nat):Int)+1):=by
 have h:=rows_ok
 rw [List.all_eq_true] at h
 have h:=h (n - 1) (List.mem_range.mpr (by omega))
 rw [List.all_eq_true] at h
 have h:=h (b - 1) (List.mem_range.mpr (by omega))
 rw [show n - 1+1=n by omega,show b - 1+1=b by omega] at h
 have hp:partL (rowN n b) (rangeI 0 (n:Int))=rowN n b:=by
  have:=part_all (rowN_wf n b)
  rwa [rowN_len] at this
 exact good_least hp h
def sqCk (n m:Nat) (c:Nat × List Nat):Bool:=goodB (sqN n m) (wantN (rangeI 0 ((n * m:Nat):Int)) [((n * m:Nat):Int) - 1]) (sqTop n m+1) c.1 (mvsOf c.2)
theorem sqs_ok:(sqC.all fun q=>sqCk q.1.1 q.1.2 q.2)=true:=by decide +kernel
theorem sq_least {q:(Nat × Nat) × Nat × List Nat} (h:q ∈ sqC) (hm:1≤q.1.2):LeastR (sqN q.1.1 q.1.2) (rangeI 0 ((q.1.1 * q.1.2:Nat):Int)) [((q.1.1 * q.1.2:Nat):Int) - 1] ((sqTop q.1.1 q.1.2:Int)+1):=by
 have h':=sqs_ok
 rw [List.all_eq_true] at h'
 have hp:partL (sqN q.1.1 q.1.2) (rangeI 0 ((q.1.1 * q.1.2:Nat):Int))=sqN q.1.1 q.1.2:=by
  have:=part_all (sqN_wf (n:=q.1.1) hm)
  rwa [sqN_len] at this
 exact good_least hp (h' q h)
def stCk (n:Nat):Bool:=goodB (stN n) (wantN (rangeI 0 ((off n n:Nat):Int)) [((off n n:Nat):Int) - 1]) ((if n=1 then 0 else n)+1) (stC.getD (n - 1) (0,[])).1 (mvsOf (stC.getD (n - 1) (0,[])).2)
theorem sts_ok:((List.range 4).all fun i=>stCk (i+1))=true:=by decide +kernel
theorem st_least {n:Nat} (h1:1≤n) (h2:n≤4):LeastR (stN n) (rangeI 0 ((off n n:Nat):Int)) [((off n n:Nat):Int) - 1] (((if n=1 then 0 else n:Nat):Int)+1):=by
 have h:=sts_ok
 rw [List.all_eq_true] at h
 have h:=h (n - 1) (List.mem_range.mpr (by omega))
 rw [show n - 1+1=n by omega] at h
 have hp:partL (stN n) (rangeI 0 ((off n n:Nat):Int))=stN n:=by
  have:=part_all (stUp_wf n n)
  rwa [stUp_len] at this
 exact good_least hp h
def spSqDue:Sp:=fun vs H Q _=>∃ n m:Nat,vs=[.int n,.int m]∧1≤n∧1≤m∧n≤400∧m≤400∧∀ H',Same H H'→Q (.int ((sqTop n m:Int)+1)) H'
def spSmallR:Sp:=fun vs H Q _=>∃ d c t ns,vs=[.ref d]∧StAt H d c t ns∧t≤TB - 100∧∀ (t':Int) (ns':List Int) H',StAt H' d c t' ns'→t≤t'→t'≤t+20→Keep d c H H'→Q (.bl true) H'
section
variable {P:Program} {w:World} {K:PySem.W.Frag} {mg:Str→Option Value} {base:Heap} {f:Addr} {fd:FuncData}
theorem sc_Lbegin:FnScope ["_law_script","_law_cells"] ["_law_script"] (defScope s_Lbegin):=⟨rfl,rfl,rfl,by decide +kernel,rfl,by decide +kernel,by decide +kernel⟩
theorem ok_Lbegin (F:Fun K "_law_begin" "_law_begin" s_Lbegin f fd) (z_list:mg "list" = none):FnOk P w K mg base CX0 1 f fd ["_law_script"] (spBegin K):=by
 refine F.ok sc_Lbegin (fun vs H Q E h=>?_) (fun cdv A outer s H vs Q E hr h=>?_)
 ·obtain ⟨a,ns,rfl,_⟩:=h
  rfl
 obtain ⟨a,ns,rfl,hS,h63,q⟩:=h
 have hu:=hu_of hr
 have hu0:=hr.units0
 refine ⟨_,(pss_cons (ps_set (i:=1) sc_Lbegin.nd rfl (Or.inl rfl) (pe_callTy call_list_of rfl z_list bt_list (pa_cons (pe_slice sl_list (pv 0) po_none (po_some pe_int)) pa_nil))) (pss_cons (ps_if (pt_cmpR (op_eq_nil hu0) (pv 1) (pe_lst pa_nil) (nomark _)) (pss_one (ps_set (i:=1) sc_Lbegin.nd rfl (Or.inl rfl) (pe_lst (pa_cons pe_int pa_nil)))) pss_nil) (pss_one (ps_ret (pe_disp (pps_cons pe_str (pv 1) (pps_cons pe_str pe_int pps_nil)) rfl rfl (by simp) (by decide)))))),?_⟩
 try dsimp only [Cx.nox,Cx.wish,cxOf]
 refine ⟨_,rfl,_,rfl,a,_,rfl,hS,fun p hp=>?_⟩
 rw [cutV_map]
 have hl:(cutI ns none (some 63)).length≤63:=Nat.le_trans (cutI_len _ _ _) h63
 refine ⟨p,_,rfl,.inl (SqL.of upd_same),fun c hc=>?_⟩
 have s1:Same H (upd (upd H p (.lst ((cutI ns none (some 63)).map V.int))) c (.lst ((cutI ns none (some 63)).map V.int))):=(same_new hp _).trans (same_new hc _)
 refine ⟨_,rfl,(by show 0≤sizeLine;decide),fun e he=>?_⟩
 have hce:c ≠ e:=ne_of_none upd_same he
 refine ⟨c,e,_,rfl,rfl,SqL.of (by rw [upd_ne hce];exact upd_same),SqL.of upd_same,_,rfl,?_⟩
 have s2:=s1.trans (same_new he (.lst []))
 cases hm:cutI ns none (some 63) with
 | nil=>
  rw [hm] at s2 he
  refine iteT ?_
  refine ⟨(by show 1≤sizeLine;decide),fun c2 hc2=>?_⟩
  have s3:=s2.trans (same_new hc2 (.lst [.int 7]))
  intro d hd
  refine ⟨_,rfl,?_⟩
  have s4:=s3.trans (same_new hd (.dK []))
  refine ⟨upd_same,[(Sum.inr (Str.ofString "cells"),.ref c2),(Sum.inr (Str.ofString "turn"),.int 0)],rfl,(by show 2≤15;decide),?_⟩
  have ncd:c2 ≠ d:=ne_of_none upd_same hd
  refine q d c2 [7] _ ⟨?_,?_,by decide,by decide,by decide⟩ ?_ ?_ ?_
  ·rw [upd_same,merge2]
  ·rw [upd_ne ncd,upd_ne ncd];exact upd_same
  ·rw [upd_upd];exact s3.trans (same_new hd _)
  ·exact s3.free hd
  ·exact s2.free hc2
 | cons x r=>
  rw [hm] at s2 he hl
  refine iteF ?_
  intro d hd
  refine ⟨_,rfl,?_⟩
  refine ⟨upd_same,[(Sum.inr (Str.ofString "cells"),.ref c),(Sum.inr (Str.ofString "turn"),.int 0)],rfl,(by show 2≤15;decide),?_⟩
  have gc:(upd (upd (upd H p (.lst ((x::r).map V.int))) c (.lst ((x::r).map V.int))) e (.lst [])) c=some (.lst ((x::r).map V.int)):=by rw [upd_ne hce];exact upd_same
  have ncd:c ≠ d:=ne_of_none gc hd
  refine q d c (x::r) _ ⟨?_,?_,by simp,hl,by decide⟩ ?_ ?_ ?_
  ·rw [upd_same,merge2]
  ·rw [upd_ne ncd,upd_ne ncd];exact gc
  ·rw [upd_upd];exact s2.trans (same_new hd _)
  ·exact s2.free hd
  ·rw [hm] at hc;exact (same_new hp _).free hc
theorem sc_Ltake:FnScope ["_law_state","_law_many","_law_turn","_law_place","_law_cell","_law_digit","_law_mixed"] ["_law_state","_law_many"] (defScope s_Ltake):=⟨rfl,rfl,rfl,by decide +kernel,rfl,by decide +kernel,by decide +kernel⟩
theorem ok_Ltake (F:Fun K "_law_take" "_law_take" s_Ltake f fd) (z_len:mg "len" = none) (z_divmod:mg "divmod" = none):FnOk P w K mg base CX0 1 f fd ["_law_state","_law_many"] spTake:=by
 refine F.ok sc_Ltake (fun vs H Q E h=>?_) (fun cdv A outer s H vs Q E hr h=>?_)
 ·obtain ⟨d,c,t,ns,m,rfl,_⟩:=h
  rfl
 obtain ⟨d,c,t,ns,m,rfl,S,ht,hm1,hm2,q⟩:=h
 have hu:=hu_of hr
 refine ⟨_,(pss_cons (ps_set (i:=2) sc_Ltake.nd rfl (Or.inl rfl) (pe_op op_add (pe_dget hu (pv 0) pe_str (fun _ _=>rfl)) pe_int)) (pss_cons (ps_dput hu (pv 0) pe_str (pv 2) rfl) (pss_cons (ps_set (i:=3) sc_Ltake.nd rfl (Or.inl rfl) (pe_op op_mod (pv 2) (pe_callB call_len_seq rfl z_len bt_len (pa_cons (pe_dget hu (pv 0) pe_str (fun _ _=>rfl)) pa_nil)))) (pss_cons (ps_set (i:=4) sc_Ltake.nd rfl (Or.inl rfl) (pe_ix ix_list (pe_dget hu (pv 0) pe_str (fun _ _=>rfl)) (pv 3) (fun _ _=>rfl))) (pss_cons (ps_if (pt_cmpR op_ge (pv 4) (pe_op op_pow pe_int pe_int) (nomark _)) (pss_cons (ps_asg (pe_callB call_divmod rfl z_divmod bt_divmod (pa_cons (pv 4) (pa_cons (pv 1) pa_nil))) (pg_tup rfl (pgs_cons (pg_sub (pe_dget hu (pv 0) pe_str (fun _ _=>rfl)) (pv 3) set_list) (pgs_cons (pg_name (i:=5) sc_Ltake.nd rfl (Or.inl rfl)) pgs_nil)))) (pss_one (ps_ret (pv 5)))) pss_nil) (pss_cons (ps_set (i:=6) sc_Ltake.nd rfl (Or.inl rfl) (pe_op op_mod (pe_op op_mul (pe_op op_add (pe_op op_add (pe_op op_mod (pv 4) pe_int) (pe_op op_mul (pe_op op_mul (pv 2) (pv 2)) pe_int)) pe_int) pe_int) pe_int)) (pss_cons (ps_set (i:=6) sc_Ltake.nd rfl (Or.inl rfl) (pe_op op_mod (pe_op op_mul (pv 6) (pv 6)) pe_int)) (pss_one (ps_ret (pe_op op_mod (pe_op op_fdiv (pe_op op_mod (pe_op op_mul (pe_op op_add (pv 6) (pe_op op_mul (pv 2) pe_int)) pe_int) pe_int) pe_int) (pv 1))))))))))),?_⟩
 try dsimp only [Cx.nox,Cx.wish,cxOf]
 have hpos:=S.pos
 have hne:=S.ne
 have ht':t≤1000000000:=ht
 refine ⟨_,rfl,d,_,rfl,dg_turn S,_,_,rfl,rfl,?_⟩
 refine ⟨_,rfl,_,rfl,d,_,rfl,dp_turn S,?_⟩
 have S1:=S.turn (u:=t+1) (by omega)
 have k1:Keep d c H (upd H d (.dK [(Sum.inr (Str.ofString "cells"),.ref c),(Sum.inr (Str.ofString "turn"),.int (t+1))])):=fun b o e n _=>by rw [upd_ne n];exact e
 generalize upd H d (.dK [(Sum.inr (Str.ofString "cells"),.ref c),(Sum.inr (Str.ofString "turn"),.int (t+1))])=H1 at S1 k1
 have hlen:(((ns.map V.int).length:Nat):Int)=(ns.length:Int):=by rw [List.length_map]
 refine ⟨_,rfl,_,rfl,d,_,rfl,dg_cells S1,c,_,rfl,.inl (SqL.of S1.list),_,_,rfl,rfl,(by rw [hlen];omega),?_⟩
 have p0:0≤(t+1) % (((ns.map V.int).length:Nat):Int):=Int.emod_nonneg _ (by rw [hlen];omega)
 have p1:(t+1) % (((ns.map V.int).length:Nat):Int)<(ns.length:Int):=by
  have:=Int.emod_lt_of_pos (t+1) (b:=(((ns.map V.int).length:Nat):Int)) (by rw [hlen];omega)
  rw [hlen] at this ⊢
  exact this
 dsimp only
 generalize (t+1) % (((ns.map V.int).length:Nat):Int)=pl at p0 p1
 obtain ⟨j,rfl⟩:∃ j:Nat,pl=(j:Int):=⟨pl.toNat,by omega⟩
 have hj:j<ns.length:=by omega
 have hat:atI (ns.map V.int) (j:Int)=some (.int ns[j]):=atI_nat (by rw [List.getElem?_map,List.getElem?_eq_getElem hj];rfl)
 refine ⟨_,rfl,d,_,rfl,dg_cells S1,_,rfl,c,_,_,_,rfl,rfl,SqL.of S1.list,hat,?_⟩
 generalize hx:ns[j]=x at hat ⊢
 refine ⟨_,rfl,_,_,rfl,rfl,⟨by decide,by decide,by decide⟩,_,_,rfl,rfl,_,rfl,?_⟩
 refine ite2 (fun _=>?_) (fun _=>?_)
 ·-- a great cell
  refine ⟨_,rfl,_,rfl,x,m,rfl,⟨by omega,by omega⟩,fun p hp=>?_⟩
  have S2:=S1.new hp (.tup [.int (x / m),.int (x % m)])
  have npc:p ≠ c:=(ne_of_none S1.list hp).symm
  refine ⟨p,_,rfl,SqT.of upd_same,rfl,_,_,rfl,?_⟩
  refine ⟨_,rfl,d,_,rfl,dg_cells S2,_,rfl,c,_,_,j,rfl,rfl,S2.list,ixN_nat (by rw [List.length_map];exact hj),?_⟩
  refine ⟨_,_,rfl,rfl,?_⟩
  refine ⟨_,rfl,?_⟩
  have e1:(ns.map V.int).set j (.int (x / m))=(ns.set j (x / m)).map V.int:=by rw [List.map_set]
  rw [e1]
  refine q (x % m) (ns.set j (x / m)) _ (Int.emod_nonneg _ (by omega)) (Int.emod_lt_of_pos _ (by omega)) (S2.put (by rw [List.length_set])) ?_
  have k2:=k1.trans (keep_new (d:=d) (c:=c) hp (.tup [.int (x / m),.int (x % m)]))
  exact fun b o e n1 n2=>by rw [upd_ne n2];exact k2 b o e n1 n2
 ·have b1:0≤x % 2147483629:=Int.emod_nonneg _ (by decide)
  have b2:x % 2147483629<2147483629:=Int.emod_lt_of_pos _ (by decide)
  refine ⟨_,rfl,_,_,rfl,rfl,(by show (0:Int)<2147483629;decide),_,rfl,_,rfl,_,_,rfl,rfl,.inl ⟨by omega,by omega⟩,_,_,rfl,rfl,.inr ⟨by decide,by decide⟩,_,_,rfl,rfl,_,_,rfl,rfl,_,_,rfl,rfl,.inr ⟨by decide,by decide⟩,_,_,rfl,rfl,(by show (0:Int)<2147483647;decide),?_⟩
  have c1:=Int.emod_nonneg ((x % 2147483629+(t+1) * (t+1) * 7919+11) * 48271) (b:=2147483647) (by decide)
  have c2:=Int.emod_lt_of_pos ((x % 2147483629+(t+1) * (t+1) * 7919+11) * 48271) (b:=2147483647) (by decide)
  dsimp only
  generalize ((x % 2147483629+(t+1) * (t+1) * 7919+11) * 48271) % 2147483647=y at c1 c2
  refine ⟨_,rfl,_,rfl,_,_,rfl,rfl,.inl ⟨by omega,by omega⟩,_,_,rfl,rfl,(by show (0:Int)<2147483587;decide),?_⟩
  dsimp only
  generalize y * y % 2147483587=z
  refine ⟨_,rfl,_,rfl,_,_,rfl,rfl,.inr ⟨by decide,by decide⟩,_,_,rfl,rfl,_,_,rfl,rfl,.inr ⟨by decide,by decide⟩,_,_,rfl,rfl,(by show (0:Int)<2147483629;decide),_,_,rfl,rfl,⟨by decide,by decide⟩,_,rfl,_,_,rfl,rfl,(by omega),?_⟩
  exact q _ ns _ (Int.emod_nonneg _ (by omega)) (Int.emod_lt_of_pos _ (by omega)) S1 k1
end
section
variable {P:Program} {w:World} {K:PySem.W.Frag} {mg:Str→Option Value} {base:Heap} {f:Addr} {fd:FuncData}
theorem sc_Lsame:FnScope ["_law_found","_law_due"] ["_law_found","_law_due"] (defScope s_Lsame):=⟨rfl,rfl,rfl,by decide +kernel,rfl,by decide +kernel,by decide +kernel⟩
def spS:Nat→Sp
 | 0=>fun _ _ _ _=>False
 | n+1=>spSame n
theorem ok_Lsame_step {n:Nat} {f_Lsame:Addr} {fd_Lsame:FuncData} (F:Fun K "_law_same" "_law_same" s_Lsame f fd) (G_Lsame:FnOk P w K mg base CX0 n f_Lsame fd_Lsame ["_law_found","_law_due"] (spS n)) (b_Lsame:Binds K fd_Lsame ["_law_found","_law_due"] []) (k_Lsame:PySem.W.keepIn K (.ref f_Lsame)=true) (m_Lsame:mg "_law_same" = some (.ref f_Lsame))
  (z_isinstance:mg "isinstance" = none) (z_list:mg "list" = none) (z_tuple:mg "tuple" = none) (z_str:mg "str" = none) (z_int:mg "int" = none) (z_bool:mg "bool" = none) (z_len:mg "len" = none) (z_all:mg "all" = none) (z_zip:mg "zip" = none):FnOk P w K mg base CX0 (n+1) f fd ["_law_found","_law_due"] (spS (n+1)):=by
 refine F.ok sc_Lsame (fun vs H Q E h=>?_) (fun cdv A outer s H vs Q E hr h=>?_)
 ·obtain ⟨x,y,rfl,_⟩:=h
  rfl
 obtain ⟨x,y,rfl,hal,q⟩:=h
 have hr_Lsame:Room n _:=hr
 refine ⟨_,(pss_cons (ps_if (pt_cmp (pc_isN (pv 1))) (pss_one (ps_ret (pe_cmp (pc_isN (pv 0))))) pss_nil) (pss_cons (ps_if (PW.pt (pw_or (pt_val (pe_callB call_isinst rfl z_isinstance bt_isinstance (pa_cons (pv 1) (pa_cons (pe_bltn (v:=.ty "list") rfl z_list bt_list rfl) pa_nil)))) (pw_or1 (pt_val (pe_callB call_isinst rfl z_isinstance bt_isinstance (pa_cons (pv 1) (pa_cons (pe_bltn (v:=.ty "tuple") rfl z_tuple bt_tuple rfl) pa_nil))))))) (pss_cons (ps_if (pt_cmpR op_ne (pe_callB call_isinst rfl z_isinstance bt_isinstance (pa_cons (pv 0) (pa_cons (pe_bltn (v:=.ty "list") rfl z_list bt_list rfl) pa_nil))) (pe_callB call_isinst rfl z_isinstance bt_isinstance (pa_cons (pv 1) (pa_cons (pe_bltn (v:=.ty "list") rfl z_list bt_list rfl) pa_nil))) (nomark _)) (pss_one (ps_ret pe_bl)) pss_nil) (pss_cons (ps_if (PW.pt (pw_or (pt_cmpR op_ne (pe_callB call_isinst rfl z_isinstance bt_isinstance (pa_cons (pv 0) (pa_cons (pe_bltn (v:=.ty "tuple") rfl z_tuple bt_tuple rfl) pa_nil))) (pe_callB call_isinst rfl z_isinstance bt_isinstance (pa_cons (pv 1) (pa_cons (pe_bltn (v:=.ty "tuple") rfl z_tuple bt_tuple rfl) pa_nil))) (nomark _)) (pw_or1 (pt_cmpR op_ne (pe_callB call_len_seq rfl z_len bt_len (pa_cons (pv 0) pa_nil)) (pe_callB call_len_seq rfl z_len bt_len (pa_cons (pv 1) pa_nil)) (nomark _))))) (pss_one (ps_ret pe_bl)) pss_nil) (pss_one (ps_ret (pe_callB (call_all rfl) rfl z_all bt_all (pa_cons (pe_lc rfl (lcs (own:=["_law_one","_law_other"]) (fv:=[]) (by kernel_rfl)) (pi_zip rfl z_zip bt_zip (pa_cons (pv 0) (pa_cons (pv 1) pa_nil))) (fun z1=>pg_tupK (K:=K) (n:=2) rfl rfl (pgs_cons (pg_name (i:=0) (nd_of (by kernel_rfl)) rfl (Or.inl rfl)) (pgs_cons (pg_name (i:=1) (nd_of (by kernel_rfl)) rfl (Or.inl rfl)) pgs_nil)) rfl rfl) (fun z1=>pts_nil) (fun z1=>(pe_call G_Lsame hr_Lsame rfl m_Lsame k_Lsame b_Lsame .nil pass0 (pa_cons (pv 0) (pa_cons (pv 1) pa_nil))))) pa_nil)))))) pss_nil) (pss_cons (ps_if (pt_val (pe_callB call_isinst rfl z_isinstance bt_isinstance (pa_cons (pv 1) (pa_cons (pe_bltn (v:=.ty "str") rfl z_str bt_str rfl) pa_nil)))) (pss_one (ps_ret (pe_and (pe_callB call_isinst rfl z_isinstance bt_isinstance (pa_cons (pv 0) (pa_cons (pe_bltn (v:=.ty "str") rfl z_str bt_str rfl) pa_nil))) (pe_one (pe_cmpR op_eq (pv 0) (pv 1) (nomark _)))))) pss_nil) (pss_one (ps_ret (pe_and (pe_callB call_isinst rfl z_isinstance bt_isinstance (pa_cons (pv 0) (pa_cons (pe_bltn (v:=.ty "int") rfl z_int bt_int rfl) pa_nil))) (pe_and (pe_not (pe_callB call_isinst rfl z_isinstance bt_isinstance (pa_cons (pv 0) (pa_cons (pe_bltn (v:=.ty "bool") rfl z_bool bt_bool rfl) pa_nil)))) (pe_one (pe_cmpR op_eq (pv 0) (pv 1) (nomark _)))))))))),?_⟩
 try dsimp only [Cx.nox,Cx.wish,cxOf]
 have leaf:x=y∧Leaf x∨∃ (m:Nat) (b:Bool) (a c:Addr) (xs ys:List V),n=m+1∧x=.ref a∧y=.ref c∧H a=some (seqO b xs)∧H c=some (seqO b ys)∧xs.length=ys.length∧xs.length≤100000∧∀ (i:Nat) (x' y':V),xs[i]?=some x'→ys[i]?=some y'→Alike H m x' y':=by
  cases n with
  | zero=>exact .inl hal
  | succ m=>
   rcases hal with h | ⟨b,a,c,xs,ys,h⟩
   ·exact .inl h
   ·exact .inr ⟨m,b,a,c,xs,ys,rfl,h⟩
 rcases leaf with ⟨rfl,hl⟩ | ⟨m,b,a,c,xs,ys,rfl,rfl,rfl,ha,hc,hlen,hbd,hel⟩
 ·refine ⟨_,rfl,_,rfl,?_⟩
  rcases hl with rfl | ⟨i,rfl⟩ | ⟨y,rfl⟩
  ·exact ⟨_,rfl,q H (Same.refl H)⟩
  ·refine ⟨_,rfl,_,"list",_,false,rfl,TyOf.int i,kit_il,_,rfl,?_⟩
   refine ⟨_,rfl,_,"tuple",_,false,rfl,TyOf.int i,kit_it,_,rfl,?_⟩
   refine ⟨_,rfl,_,"str",_,false,rfl,TyOf.int i,kit_is,_,rfl,?_⟩
   refine ⟨_,rfl,_,"int",_,true,rfl,TyOf.int i,kit_ii,_,rfl,?_⟩
   refine ⟨_,rfl,_,"bool",_,false,rfl,TyOf.int i,kit_ib,_,rfl,_,rfl,?_⟩
   refine ⟨_,rfl,_,rfl,rfl,?_⟩
   have e:decide (V.int i=V.int i)=true:=decide_eq_true rfl
   have q':Q (.bl (decide (V.int i=V.int i))) H:=by rw [e];exact q H (Same.refl H)
   exact q'
  ·refine ⟨_,rfl,_,"list",_,false,rfl,TyOf.str y,kit_sl,_,rfl,?_⟩
   refine ⟨_,rfl,_,"tuple",_,false,rfl,TyOf.str y,kit_st,_,rfl,?_⟩
   refine ⟨_,rfl,_,"str",_,true,rfl,TyOf.str y,kit_ss,_,rfl,?_⟩
   refine ⟨_,rfl,_,"str",_,true,rfl,TyOf.str y,kit_ss,_,rfl,?_⟩
   refine ⟨_,rfl,_,rfl,rfl,?_⟩
   have e:decide (V.str y=V.str y)=true:=decide_eq_true rfl
   have q':Q (.bl (decide (V.str y=V.str y))) H:=by rw [e];exact q H (Same.refl H)
   exact q'
 ·have step:∀ (i:Nat) (x' y':V) (Hi:Hp) (Q':VK) (E':XK),Same H Hi→xs[i]?=some x'→ys[i]?=some y'→(∀ H',Same Hi H'→Q' (.bl true) H')→spS (m+1) [x',y'] Hi Q' E':=fun i x' y' Hi Q' E' s e1 e2 k=>⟨x',y',rfl,(hel i x' y' e1 e2).same s,k⟩
  have fin:∀ (H1:Hp),Same H H1→Q (.bl true) H1:=q
  have el:(!decide (V.int ((xs.length:Nat):Int)=V.int ((ys.length:Nat):Int)))=false:=by rw [hlen];simp
  cases b
  ·refine ⟨_,rfl,_,rfl,_,rfl,_,"list",_,true,rfl,ty_of hc,kit_bl false,_,rfl,?_⟩
   refine ⟨_,rfl,_,"list",_,true,rfl,ty_of ha,kit_bl false,_,rfl,_,"list",_,true,rfl,ty_of hc,kit_bl false,rfl,_,rfl,?_⟩
   refine ⟨_,rfl,_,"tuple",_,false,rfl,ty_of ha,kit_bt false,_,rfl,_,"tuple",_,false,rfl,ty_of hc,kit_bt false,rfl,_,rfl,?_⟩
   refine ⟨_,rfl,a,_,rfl,.inl (SqL.of ha),_,rfl,c,_,rfl,.inl (SqL.of hc),rfl,?_⟩
   rw [el]
   refine ⟨_,rfl,_,rfl,_,rfl,false,a,c,rfl,⟨_,SqB.of ha⟩,⟨_,SqB.of hc⟩,fun p hp=>?_⟩
   refine lc_zip (b:=false) (p:=p) (xs:=xs) (ys:=ys) hlen (fun i σ Hi=>∃ (v0 v1:Option V),σ=[v0,v1]∧Same H Hi∧Hi p=some (.lst ((List.replicate i true).map V.bl))) ⟨none,none,rfl,same_new hp _,upd_same⟩ (fun i σ Hi _ ⟨_,_,_,sm,_⟩=>⟨SqB.of (sm _ _ ha),SqB.of (sm _ _ hc)⟩) ?_ ?_
   ·refine fun i x' y' σ Hi T ex ey hI_1 hT=>opq fun G_1 hG_1=>?_
    obtain ⟨v0,v1,rfl,sm,hpi⟩:=hI_1
    refine hG_1 ?_
    have li:i<xs.length:=(List.getElem?_eq_some_iff.mp ex).1
    refine ⟨T,_,rfl,SqT.of upd_same,rfl,_,_,rfl,_,_,rfl,rfl,?_⟩
    have s1:=sm.trans (same_new hT (.tup [x',y']))
    refine ⟨_,rfl,_,rfl,?_⟩
    dsimp only [tNil,List.cons_append,List.nil_append]
    refine step i x' y' _ _ _ s1 ex ey fun H' sm'=>?_
    refine ⟨_,(sm' _ _ ((same_new hT _) _ _ hpi)),?_,_,_,rfl,(fun b u e=>by rw [upd_ne (ne_of_none e hp)];exact (s1.trans sm') b u e),?_⟩
    ·rw [List.length_map,List.length_replicate,sizeLine_eq];omega
    ·rw [upd_same,bl_snoc]
   ·refine fun σ Hi hI_2=>opq fun G_2 hG_2=>?_
    obtain ⟨v0,v1,rfl,sm,hpi⟩:=hI_2
    refine hG_2 ?_
    refine ⟨p,_,rfl,SqL.of hpi,?_⟩
    rw [all_rep]
    exact q Hi sm
  ·refine ⟨_,rfl,_,rfl,_,rfl,_,"list",_,false,rfl,ty_of hc,kit_bl true,_,rfl,?_⟩
   refine ⟨_,rfl,_,"tuple",_,true,rfl,ty_of hc,kit_bt true,_,rfl,?_⟩
   refine ⟨_,rfl,_,"list",_,false,rfl,ty_of ha,kit_bl true,_,rfl,_,"list",_,false,rfl,ty_of hc,kit_bl true,rfl,_,rfl,?_⟩
   refine ⟨_,rfl,_,"tuple",_,true,rfl,ty_of ha,kit_bt true,_,rfl,_,"tuple",_,true,rfl,ty_of hc,kit_bt true,rfl,_,rfl,?_⟩
   refine ⟨_,rfl,a,_,rfl,.inr (SqT.of ha),_,rfl,c,_,rfl,.inr (SqT.of hc),rfl,?_⟩
   rw [el]
   refine ⟨_,rfl,_,rfl,_,rfl,true,a,c,rfl,⟨_,SqB.of ha⟩,⟨_,SqB.of hc⟩,fun p hp=>?_⟩
   refine lc_zip (b:=true) (p:=p) (xs:=xs) (ys:=ys) hlen (fun i σ Hi=>∃ (v0 v1:Option V),σ=[v0,v1]∧Same H Hi∧Hi p=some (.lst ((List.replicate i true).map V.bl))) ⟨none,none,rfl,same_new hp _,upd_same⟩ (fun i σ Hi _ ⟨_,_,_,sm,_⟩=>⟨SqB.of (sm _ _ ha),SqB.of (sm _ _ hc)⟩) ?_ ?_
   ·refine fun i x' y' σ Hi T ex ey hI_3 hT=>opq fun G_3 hG_3=>?_
    obtain ⟨v0,v1,rfl,sm,hpi⟩:=hI_3
    refine hG_3 ?_
    have li:i<xs.length:=(List.getElem?_eq_some_iff.mp ex).1
    refine ⟨T,_,rfl,SqT.of upd_same,rfl,_,_,rfl,_,_,rfl,rfl,?_⟩
    have s1:=sm.trans (same_new hT (.tup [x',y']))
    refine ⟨_,rfl,_,rfl,?_⟩
    dsimp only [tNil,List.cons_append,List.nil_append]
    refine step i x' y' _ _ _ s1 ex ey fun H' sm'=>?_
    refine ⟨_,(sm' _ _ ((same_new hT _) _ _ hpi)),?_,_,_,rfl,(fun b u e=>by rw [upd_ne (ne_of_none e hp)];exact (s1.trans sm') b u e),?_⟩
    ·rw [List.length_map,List.length_replicate,sizeLine_eq];omega
    ·rw [upd_same,bl_snoc]
   ·refine fun σ Hi hI_4=>opq fun G_4 hG_4=>?_
    obtain ⟨v0,v1,rfl,sm,hpi⟩:=hI_4
    refine hG_4 ?_
    refine ⟨p,_,rfl,SqL.of hpi,?_⟩
    rw [all_rep]
    exact q Hi sm
theorem ok_Lsame (F:Fun K "_law_same" "_law_same" s_Lsame f fd) (b_Lsame:Binds K fd ["_law_found","_law_due"] []) (k_Lsame:PySem.W.keepIn K (.ref f)=true) (m_Lsame:mg "_law_same" = some (.ref f))
  (z_isinstance:mg "isinstance" = none) (z_list:mg "list" = none) (z_tuple:mg "tuple" = none) (z_str:mg "str" = none) (z_int:mg "int" = none) (z_bool:mg "bool" = none) (z_len:mg "len" = none) (z_all:mg "all" = none) (z_zip:mg "zip" = none) (n:Nat):FnOk P w K mg base CX0 n f fd ["_law_found","_law_due"] (spS n):=by
 induction n with
 | zero=>exact ⟨fun _ _ _ _ h=>h.elim,fun _ _ _ _ _ _ _ _ _ _ _ _ _ h=>h.elim⟩
 | succ n ih=>exact ok_Lsame_step F ih b_Lsame k_Lsame m_Lsame z_isinstance z_list z_tuple z_str z_int z_bool z_len z_all z_zip
end
section
variable {P:Program} {w:World} {K:PySem.W.Frag} {mg:Str→Option Value} {base:Heap} {f:Addr} {fd:FuncData}
structure Fnd2 (net:List (List Int)) (asked ks:List Int) (j:Int):Prop where
 in_:∀ x ∈ ks,(0≤x∧x<(net.length:Int))∧Nd net asked x
 ask:∀ x ∈ asked,j≤x→x ∈ ks
 clo:∀ (w:Nat) zs,j≤(w:Int)→(w:Int) ∈ ks→net[w]?=some zs→∀ y ∈ zs,y ∈ ks
theorem repF:∀ n:Nat,(List.replicate n [V.bl false]).flatten=(List.replicate n false).map V.bl
 | 0=>rfl
 | n+1=>by rw [List.replicate_succ,List.replicate_succ,List.flatten_cons,repF n];rfl
structure Bls (n:Nat) (ks:List Int) (bs:List Bool):Prop where
 len:bs.length=n
 at_:∀ x:Nat,x<n→bs[x]?=some (decide ((x:Int) ∈ ks))
theorem Bls.set {n:Nat} {ks:List Int} {bs:List Bool} (h:Bls n ks bs) {x:Int} (h0:0≤x) (h1:x<n):Bls n (addI ks x) (bs.set x.toNat true):=by
 refine ⟨by rw [List.length_set];exact h.len,fun y hy=>?_⟩
 by_cases e:(y:Int)=x
 ·have e2:x.toNat=y:=by omega
  rw [e2,List.getElem?_set_self (by rw [h.len];exact hy),decide_eq_true (mem_addI.mpr (.inr e))]
 ·rw [List.getElem?_set_ne (by omega),h.at_ y hy]
  congr 1
  exact decide_eq_decide.mpr ⟨fun z=>mem_addI.mpr (.inl z),fun z=>(mem_addI.mp z).resolve_right e⟩
theorem get_bl {bs:List Bool} {i:Nat} {b:Bool} (h:bs[i]?=some b):(bs.map V.bl)[i]?=some (.bl b):=by rw [List.getElem?_map,h];rfl
theorem sc_Lneeded:FnScope ["_law_net","_law_asked","_law_found","_law_work","_law_need"] ["_law_net","_law_asked"] (defScope s_Lneeded):=⟨rfl,rfl,rfl,by decide +kernel,rfl,by decide +kernel,by decide +kernel⟩
theorem ok_Lneeded (F:Fun K "_law_needed" "_law_needed" s_Lneeded f fd) (z_len:mg "len" = none) (z_range:mg "range" = none):FnOk P w K mg base CX0 1 f fd ["_law_net","_law_asked"] spNeeded:=by
 refine F.ok sc_Lneeded (fun vs H Q E h=>?_) (fun cdv A outer s H vs Q E hr h=>?_)
 ·obtain ⟨a,t,net,asked,rfl,_⟩:=h
  rfl
 obtain ⟨a,t,net,asked,rfl,hN,wf,n1000,⟨hT,rA⟩,q⟩:=h
 refine ⟨_,(pss_cons (ps_set (i:=2) sc_Lneeded.nd rfl (Or.inr rfl) (pe_op op_rep (pe_lst (pa_cons pe_bl pa_nil)) (pe_callB call_len_seq rfl z_len bt_len (pa_cons (pv 0) pa_nil)))) (pss_cons (ps_for PassesOwn.never rfl (pi_down rfl z_range (pa_cons (pe_op op_sub (pe_callB call_len_seq rfl z_len bt_len (pa_cons (pv 0) pa_nil)) pe_int) (pa_cons (pe_un un_neg pe_int) (pa_cons (pe_un un_neg pe_int) pa_nil)))) (pg_name (i:=3) sc_Lneeded.nd rfl (Or.inl rfl)) (pss_cons (ps_join (ps_if (pt_cmpR op_in_seq (pv 3) (pv 1) (by with_unfolding_all rfl)) (pss_one (ps_asg pe_bl (pg_sub (pv 2) (pv 3) set_list))) pss_nil)) (pss_one (ps_if (pt_val (pe_ix ix_list (pv 2) (pv 3) (fun _ _=>rfl))) (pss_one (ps_for PassesOwn.never rfl (pi_tup (pe_ix ix_tup (pv 0) (pv 3) (fun _ _=>rfl))) (pg_name (i:=4) sc_Lneeded.nd rfl (Or.inl rfl)) (pss_one (ps_asg pe_bl (pg_sub (pv 2) (pv 4) set_list))))) pss_nil)))) (pss_one (ps_ret (pe_lc rfl (lcs (own:=["_law_work"]) (fv:=[2]) (by kernel_rfl)) (pi_range1 rfl z_range (pa_cons (pe_callB call_len_seq rfl z_len bt_len (pa_cons (pv 0) pa_nil)) pa_nil)) (fun z1=>pg_name (i:=0) (nd_of (by kernel_rfl)) rfl (Or.inl rfl)) (fun z1=>(pts_one (pt_val (pe_ix (ix_listK (K:=K) rfl) (pv 1) (pv 0) (fun _ _=>rfl))))) (fun z1=>(pv 0))))))),?_⟩
 try dsimp only [Cx.nox,Cx.wish,cxOf]
 obtain ⟨rs,hA,NL⟩:=id hN
 have lrv:(((rs.map V.ref).length:Nat):Int)=(net.length:Int):=by rw [List.length_map,Paired.length NL]
 refine ⟨(by show 1≤sizeLine;decide),fun p0 hp0=>?_⟩
 have s0:=same_new hp0 (.lst [.bl false])
 refine ⟨_,rfl,a,_,rfl,.inr (SqT.of (s0 _ _ hA)),p0,_,_,rfl,rfl,upd_same,by rw [lrv];omega,by rw [lrv];omega,?_,fun fo hfo=>?_⟩
 ·rw [lrv,sizeLine_eq];simp;omega
 have ffo:H fo=none:=s0.free hfo
 have s1:=s0.trans (same_new hfo (.lst (List.replicate ((((rs.map V.ref).length:Nat):Int)).toNat [V.bl false]).flatten))
 have gfo:(upd (upd H p0 (.lst [.bl false])) fo (.lst (List.replicate ((((rs.map V.ref).length:Nat):Int)).toNat [V.bl false]).flatten)) fo=some (.lst ((List.replicate net.length false).map V.bl)):=by
  rw [upd_same,repF,lrv,Int.toNat_natCast]
 generalize upd (upd H p0 (.lst [.bl false])) fo (.lst (List.replicate ((((rs.map V.ref).length:Nat):Int)).toNat [V.bl false]).flatten)=H1 at s1 gfo
 refine ⟨_,rfl,a,_,rfl,.inr (SqT.of (s1 _ _ hA)),_,_,rfl,rfl,_,rfl,_,rfl,_,_,rfl,⟨by rw [lrv];omega,by rw [lrv];omega,by decide,by decide⟩,for_down (lo:=(((rs.map V.ref).length:Nat):Int) - 1) (n:=((((rs.map V.ref).length:Nat):Int) - 1 - -1).toNat) (fun i σ Hc=>∃ (bs:List Bool) (ks:List Int) (v3 v4:Option V),σ=[some (.ref a),some (.ref t),some (.ref fo),v3,v4]∧Same H Hc∧Hc fo=some (.lst (bs.map V.bl))∧Bls net.length ks bs∧Fnd2 net asked ks ((net.length:Int) - i))
  ⟨_,[],none,none,rfl,s1,gfo,⟨by simp,fun x hx=>by simp [hx]⟩,⟨fun x hx=>(nomatch hx),fun x hx hl=>?_,fun w zs h1 h2=>(nomatch h2)⟩⟩ ?_ ?_⟩
 ·have:=(rA.in_ x hx).2
  omega
 ·refine fun i σ Hc hi hI_1=>opq fun G_1 hG_1=>?_
  obtain ⟨bs,ks,v3,v4,rfl,sm,hf,B,fn⟩:=hI_1
  refine hG_1 ?_
  rw [lrv] at hi ⊢
  obtain ⟨w0,ew⟩:∃ w0:Nat,(net.length:Int) - 1 - i=(w0:Int):=⟨net.length - 1 - i,by omega⟩
  have hw:w0<net.length:=by omega
  rw [ew]
  obtain ⟨r,h3,h4⟩:=NL.get (List.getElem?_eq_getElem hw)
  have hz:=List.getElem?_eq_getElem hw
  have rz:=wf w0 _ hz
  generalize net[w0]=zs at h4 hz rz
  have ix:∀ {bs:List Bool} {ks:List Int} {x:Int},Bls net.length ks bs→0≤x→x<(net.length:Int)→ixN (bs.map V.bl).length x=some x.toNat:=fun {bs ks x} B h0 h1=>by
   have:=ixN_nat (xs:=bs.map V.bl) (j:=x.toNat) (by rw [List.length_map,B.len];omega)
   rw [show ((x.toNat:Nat):Int)=x by omega] at this
   exact this
  -- asked
  refine ⟨fun σ Hc=>∃ (bs:List Bool) (ks:List Int),σ=[some (.ref a),some (.ref t),some (.ref fo),some (.int (w0:Int)),v4]∧Same H Hc∧Hc fo=some (.lst (bs.map V.bl))∧Bls net.length ks bs∧(∀ x ∈ ks,(0≤x∧x<(net.length:Int))∧Nd net asked x)∧(∀ x ∈ asked,(w0:Int)≤x→x ∈ ks)∧(∀ (w:Nat) zs,(w0:Int)+1≤(w:Int)→(w:Int) ∈ ks→net[w]?=some zs→∀ y ∈ zs,y ∈ ks),?_,?_⟩
  ·refine ⟨_,rfl,_,rfl,t,_,rfl,.inr (SqT.of (sm _ _ hT)),rfl,flat_ints asked,_,rfl,?_⟩
   rw [inV_int]
   by_cases c:(w0:Int) ∈ asked
   ·rw [decide_eq_true c]
    refine ⟨_,rfl,_,rfl,fo,_,_,w0,rfl,rfl,hf,?_,?_⟩
    ·have:=ix B (x:=(w0:Int)) (by omega) (by omega)
     rw [Int.toNat_natCast] at this
     exact this
    ·have st:=B.set (x:=(w0:Int)) (by omega) (by omega)
     rw [Int.toNat_natCast] at st
     refine ⟨_,addI ks (w0:Int),rfl,same_put sm ffo,by rw [upd_same,List.map_set],st,fun x hx=>?_,fun x hx hl=>?_,fun w1 ys h1 h2 h9 y hy=>?_⟩
     ·rcases mem_addI.mp hx with hx | hx
      ·exact fn.in_ x hx
      ·rw [hx]
       exact ⟨⟨by omega,by omega⟩,.ask c⟩
     ·by_cases e:x=(w0:Int)
      ·exact mem_addI.mpr (.inr e)
      ·exact mem_addI.mpr (.inl (fn.ask x hx (by omega)))
     ·rcases mem_addI.mp h2 with h2 | h2
      ·exact mem_addI.mpr (.inl (fn.clo w1 ys (by omega) h2 h9 y hy))
      ·omega
   ·rw [decide_eq_false c]
    refine ⟨bs,ks,rfl,sm,hf,B,fn.in_,fun x hx hl=>?_,fun w1 ys h1 h2 h9=>fn.clo w1 ys (by omega) h2 h9⟩
    by_cases e:x=(w0:Int)
    ·rw [e] at hx
     exact absurd hx c
    ·exact fn.ask x hx (by omega)
  refine fun σ Hc hI_2=>opq fun G_2 hG_2=>?_
  obtain ⟨bs,ks,rfl,sm,hf,B,f1,f2,f3⟩:=hI_2
  refine hG_2 ?_
  refine ⟨_,rfl,_,rfl,fo,_,_,_,rfl,rfl,SqL.of hf,get_at (by omega) (by rw [Int.toNat_natCast];exact get_bl (B.at_ w0 hw)),_,rfl,?_⟩
  by_cases c:(w0:Int) ∈ ks
  ·rw [decide_eq_true c]
   refine ⟨_,rfl,_,rfl,a,_,_,_,rfl,rfl,SqT.of (sm _ _ hA),get_at (by omega) (by rw [Int.toNat_natCast,List.getElem?_map,h3];rfl),r,rfl,⟨_,SqT.of (sm _ _ h4)⟩,for_tup (a:=r) (xs:=zs.map V.int) (fun k σ Hd=>∃ (bs:List Bool) (ks:List Int) (v4:Option V),σ=[some (.ref a),some (.ref t),some (.ref fo),some (.int (w0:Int)),v4]∧Same H Hd∧Hd fo=some (.lst (bs.map V.bl))∧Bls net.length ks bs∧(∀ x ∈ ks,(0≤x∧x<(net.length:Int))∧Nd net asked x)∧(∀ x ∈ asked,(w0:Int)≤x→x ∈ ks)∧(∀ (w:Nat) zs,(w0:Int)+1≤(w:Int)→(w:Int) ∈ ks→net[w]?=some zs→∀ y ∈ zs,y ∈ ks)∧(w0:Int) ∈ ks∧∀ y ∈ zs.take k,y ∈ ks)
    ⟨bs,ks,v4,rfl,sm,hf,B,f1,f2,f3,c,fun y hy=>by simp at hy⟩ (fun k σ Hd _ ⟨_,_,_,_,sd,_⟩=>SqT.of (sd _ _ h4)) ?_ ?_⟩
   ·refine fun k x σ Hd hx hI_3=>opq fun G_3 hG_3=>?_
    obtain ⟨bs,ks,v4,rfl,sd,hfd,B,f1,f2,f3,c,ty⟩:=hI_3
    obtain ⟨y,ey,rfl⟩:=get_int hx
    refine hG_3 ?_
    have my:=List.mem_of_getElem? ey
    have yb:=rz.in_ y my
    refine ⟨_,rfl,_,rfl,fo,_,_,y.toNat,rfl,rfl,hfd,ix B yb.1 (by omega),?_⟩
    refine ⟨_,addI ks y,_,rfl,same_put sd ffo,by rw [upd_same,List.map_set],B.set yb.1 (by omega),fun x hx=>?_,fun x hx hl=>mem_addI.mpr (.inl (f2 x hx hl)),fun w1 ys h1 h2 h9 z hz'=>?_,mem_addI.mpr (.inl c),fun z hz'=>?_⟩
    ·rcases mem_addI.mp hx with hx | hx
     ·exact f1 x hx
     ·rw [hx]
      exact ⟨⟨yb.1,by omega⟩,.need (f1 _ c).2 (by rw [Int.toNat_natCast];exact hz) my⟩
    ·rcases mem_addI.mp h2 with h2 | h2
     ·exact mem_addI.mpr (.inl (f3 w1 ys h1 h2 h9 z hz'))
     ·omega
    ·rw [List.take_add_one,ey,Option.toList_some,List.mem_append,List.mem_singleton] at hz'
     rcases hz' with hz' | hz'
     ·exact mem_addI.mpr (.inl (ty z hz'))
     ·exact mem_addI.mpr (.inr hz')
   ·refine fun σ Hd hI_4=>opq fun G_4 hG_4=>?_
    obtain ⟨bs,ks,v4,rfl,sd,hfd,B,f1,f2,f3,c,ty⟩:=hI_4
    refine hG_4 ?_
    rw [List.length_map,take_all rfl] at ty
    refine ⟨bs,ks,_,_,rfl,sd,hfd,B,f1,fun x hx hl=>f2 x hx (by omega),fun w1 ys h1 h2 h9=>?_⟩
    by_cases e:w1=w0
    ·subst e
     rw [hz] at h9
     cases h9
     exact ty
    ·exact f3 w1 ys (by omega) h2 h9
  ·rw [decide_eq_false c]
   refine ⟨bs,ks,_,_,rfl,sm,hf,B,f1,fun x hx hl=>f2 x hx (by omega),fun w1 ys h1 h2 h9=>?_⟩
   by_cases e:w1=w0
   ·subst e
    exact absurd h2 c
   ·exact f3 w1 ys (by omega) h2 h9
 ·refine fun σ Hc hI_5=>opq fun G_5 hG_5=>?_
  obtain ⟨bs,ks,v3,v4,rfl,sm,hf,B,fn⟩:=hI_5
  refine hG_5 ?_
  rw [lrv,show ((net.length:Int) - (((net.length:Int) - 1 - -1).toNat:Nat))=0 by omega] at fn
  have all:=Fnd.all wf (⟨fn.in_,fun x hx=>fn.ask x hx (rA.in_ x hx).1,fn.clo⟩:Fnd net asked ks 0)
  have lrn:((((rs.map V.ref).length:Nat):Int)).toNat=net.length:=by rw [lrv];omega
  refine ⟨_,rfl,a,_,rfl,.inr (SqT.of (sm _ _ hA)),_,rfl,by rw [lrv];omega,by rw [lrv];omega,fun p hp=>?_⟩
  refine lc_range (p:=p) (lo:=0) (n:=((((rs.map V.ref).length:Nat):Int)).toNat) (fun i σ Hd=>∃ (v:Option V),σ=[v,some (.ref fo)]∧Same Hc Hd∧Hd p=some (.lst ((((rangeI 0 net.length).take i).filter fun x=>decide (x ∈ ks)).map V.int))) ?_ ?_ ?_
  ·exact ⟨none,rfl,same_new hp _,upd_same⟩
  ·refine fun i σ Hd hi hI_6=>opq fun G_6 hG_6=>?_
   obtain ⟨v,rfl,sd,hpd⟩:=hI_6
   refine hG_6 ?_
   rw [lrn] at hi
   have lk:=filter_take_len (p:=fun x=>decide (x ∈ ks)) (l:=rangeI 0 net.length) (i:=i)
   refine ⟨_,rfl,_,rfl,fo,_,_,_,rfl,rfl,SqL.of (sd _ _ hf),get_at (by omega) (by rw [show (0+(i:Int)).toNat=i by omega];exact get_bl (B.at_ i hi)),_,rfl,?_⟩
   rw [filter_snoc (rangeI0_get (by omega)),Int.zero_add]
   by_cases c:(i:Int) ∈ ks
   ·rw [decide_eq_true c]
    refine ⟨_,rfl,_,hpd,small1000 (by rw [List.length_map];omega),_,rfl,same_put sd hp,?_⟩
    rw [upd_same,if_pos rfl,List.map_append]
    rfl
   ·rw [decide_eq_false c]
    refine ⟨_,rfl,sd,?_⟩
    simpa using hpd
  ·refine fun σ Hd hI_7=>opq fun G_7 hG_7=>?_
   obtain ⟨v,rfl,sd,hpd⟩:=hI_7
   refine hG_7 ?_
   rw [take_all (by rw [rangeI_len,lrn];omega)] at hpd
   refine q p _ Hd (sm.trans sd) (sm.free hp) hpd ⟨⟨(rangeI_up _ _).filter _,fun x hx=>mem_rangeI.mp (List.mem_filter.mp hx).1⟩,fun x=>?_⟩
   rw [List.mem_filter,mem_rangeI,decide_eq_true_eq,← all x]
   exact ⟨fun z=>z.2,fun z=>⟨(fn.in_ x z).1,z⟩⟩
end
section
variable {P:Program} {w:World} {K:PySem.W.Frag} {mg:Str→Option Value} {base:Heap} {f:Addr} {fd:FuncData}
theorem sc_row_net:FnScope ["n","back"] ["n","back"] (defScope s_row_net):=⟨rfl,rfl,rfl,by decide +kernel,rfl,by decide +kernel,by decide +kernel⟩
theorem ok_row_net (F:Fun K "row_net" "row_net" s_row_net f fd) (z_tuple:mg "tuple" = none) (z_range:mg "range" = none) (z_max:mg "max" = none):FnOk P w K mg base CX0 1 f fd ["n","back"] spRowN:=by
 refine F.ok sc_row_net (fun vs H Q E h=>?_) (fun cdv A outer s H vs Q E hr h=>?_)
 ·obtain ⟨n,b,rfl,_⟩:=h
  rfl
 obtain ⟨n,b,rfl,hn,hb,q⟩:=h
 refine ⟨_,(pss_one (ps_ret (pe_callTy call_tuple_of rfl z_tuple bt_tuple (pa_cons (pe_lc rfl (lcs (own:=["work"]) (fv:=[1]) (by kernel_rfl)) (pi_range1 rfl z_range (pa_cons (pv 0) pa_nil)) (fun z1=>pg_name (i:=0) (nd_of (by kernel_rfl)) rfl (Or.inl rfl)) (fun z1=>pts_nil) (fun z1=>(pe_callTy (call_tuple_rng rfl) rfl z_tuple bt_tuple (pa_cons (pe_callTy call_rng2 rfl z_range bt_range (pa_cons (pe_callB (call_max2 rfl) rfl z_max bt_max (pa_cons pe_int (pa_cons (pe_op op_sub (pv 0) (pv 1)) pa_nil))) (pa_cons (pv 0) pa_nil))) pa_nil)))) pa_nil)))),?_⟩
 try dsimp only [Cx.nox,Cx.wish,cxOf]
 refine ⟨_,rfl,(n:Int),rfl,by omega,by omega,fun p hp=>?_⟩
 refine lc_range (p:=p) (lo:=0) (n:=(n:Int).toNat) (fun i σ Hc=>∃ (v:Option V) (rs:List Addr),σ=[v,some (.int (b:Int))]∧Same H Hc∧Hc p=some (.lst (rs.map V.ref))∧NetL Hc rs (rowN i b)) ?_ ?_ ?_
 ·exact ⟨none,[],rfl,same_new hp _,upd_same,.nil⟩
 ·refine fun i σ Hc hi hI_1=>opq fun G_1 hG_1=>?_
  obtain ⟨v,rs,rfl,sm,hpc,N⟩:=hI_1
  refine hG_1 ?_
  have lN:rs.length=i:=by rw [NetAt.len N];simp [rowN]
  refine ⟨_,rfl,_,rfl,_,_,rfl,rfl,0,_,rfl,_,rfl,_,_,rfl,fun p1 hp1=>?_⟩
  refine ⟨p1,_,_,rfl,upd_same,by split <;> omega,by split <;> omega,by omega,by omega,fun r hr1=>?_⟩
  have elo:(if (0+(i:Int)) - (b:Int) > 0 then (0+(i:Int)) - (b:Int) else 0)=((i - b:Nat):Int):=by split <;> omega
  have ehi:0+(i:Int)=(i:Int):=by omega
  dsimp only at hr1 hp1 ⊢
  rw [rangeV_ints]
  rw [elo] at hr1 ⊢
  rw [ehi] at hr1 ⊢
  have s1:=(same_new hp1 (.rng ((i - b:Nat):Int) (i:Int))).trans (same_new hr1 (.tup ((rangeI ((i - b:Nat):Int) (i:Int)).map V.int)))
  have g1:=s1 _ _ hpc
  refine ⟨_,g1,small1000 (by rw [List.length_map,lN];omega),?_⟩
  rw [map_snoc]
  refine ⟨_,rs++[r],rfl,same_put (sm.trans s1) hp,upd_same,?_⟩
  have e1:rowN (i+1) b=rowN i b++[rangeI ((i - b:Nat):Int) (i:Int)]:=by unfold rowN;rw [List.range_succ,List.map_append];rfl
  rw [e1]
  exact netl_put (lcs_snoc (N.same fun r' ys e=>s1 _ _ e) upd_same) g1
 ·refine fun σ Hc hI_2=>opq fun G_2 hG_2=>?_
  obtain ⟨v,rs,rfl,sm,hpc,N⟩:=hI_2
  refine hG_2 ?_
  refine ⟨p,_,rfl,.inl ⟨SqL.of hpc,fun a ha=>?_⟩⟩
  have s1:=same_new ha (.tup (rs.map V.ref))
  exact q a _ (sm.trans s1) ⟨rs,upd_same,N.same fun r ys e=>s1 _ _ e⟩
end
section
variable {P:Program} {w:World} {K:PySem.W.Frag} {mg:Str→Option Value} {base:Heap} {f:Addr} {fd:FuncData} {f_square_needs:Addr} {fd_square_needs:FuncData}
theorem sc_square_needs:FnScope ["m","i","j","above","ahead"] ["m","i","j"] (defScope s_square_needs):=⟨rfl,rfl,rfl,by decide +kernel,rfl,by decide +kernel,by decide +kernel⟩
theorem ok_square_needs (F:Fun K "square_needs" "square_needs" s_square_needs f fd):FnOk P w K mg base CX0 1 f fd ["m","i","j"] spSqNeeds:=by
 refine F.ok sc_square_needs (fun vs H Q E h=>?_) (fun cdv A outer s H vs Q E hr h=>?_)
 ·obtain ⟨m,wk,i,j,rfl,_⟩:=h
  rfl
 obtain ⟨m,wk,i,j,rfl,m4,i0,j0,jm,hw,q⟩:=h
 refine ⟨_,(pss_cons (ps_set (i:=3) sc_square_needs.nd rfl (Or.inl rfl) (pe_ifExp (pt_cmpR op_gt (pv 1) pe_int (nomark _)) (pe_tup (pa_cons (pe_op op_add (pe_op op_mul (pe_op op_sub (pv 1) pe_int) (pv 0)) (pv 2)) pa_nil)) (pe_tup pa_nil))) (pss_cons (ps_set (i:=4) sc_square_needs.nd rfl (Or.inl rfl) (pe_ifExp (pt_cmpR op_gt (pv 2) pe_int (nomark _)) (pe_tup (pa_cons (pe_op op_sub (pe_op op_add (pe_op op_mul (pv 1) (pv 0)) (pv 2)) pe_int) pa_nil)) (pe_tup pa_nil))) (pss_one (ps_ret (pe_op op_catV (pv 3) (pv 4)))))),?_⟩
 try dsimp only [Cx.nox,Cx.wish,cxOf]
 have hm:(0:Int)<m:=by omega
 have c1:0<i→m≤wk:=fun h=>by
  have h1:0≤(i - 1) * (m:Int):=Int.mul_nonneg (by omega) (by omega)
  rw [Int.sub_mul,Int.one_mul] at h1
  omega
 have c2:¬ 0<i→¬ m≤wk:=fun h=>by
  have h1:i=0:=by omega
  subst h1
  rw [Int.zero_mul] at hw
  omega
 have cm:((wk % m:Nat):Int)=j:=by
  rw [Int.natCast_emod,← hw,Int.add_comm,Int.add_mul_emod_self_right]
  exact Int.emod_eq_of_lt j0 jm
 refine cut fun N1 hN1=>?_
 have k1:∀ (a1:Addr) (H1:Hp),Same H H1→H1 a1=some (.tup ((if m≤wk then [(wk:Int) - m] else []).map V.int))→N1 [some (.int (m:Int)),some (.int i),some (.int j),some (.ref a1),none] H1:=by
  intro a1 H1 s1 g1
  refine hN1 _ _ (cut fun N2 hN2=>?_)
  have k2:∀ (a2:Addr) (H2:Hp),Same H1 H2→H2 a2=some (.tup ((if 0<wk % m then [(wk:Int) - 1] else []).map V.int))→N2 [some (.int (m:Int)),some (.int i),some (.int j),some (.ref a1),some (.ref a2)] H2:=by
   intro a2 H2 s2 g2
   refine hN2 _ _ ?_
   refine ⟨_,rfl,_,rfl,a1,a2,_,_,rfl,rfl,s2 _ _ g1,g2,?_,fun p H' s3 g3=>?_⟩
   ·have e1:(if m≤wk then [(wk:Int) - m] else []).length≤1:=by split <;> simp
    have e2:(if 0<wk % m then [(wk:Int) - 1] else []).length≤1:=by split <;> simp
    exact Nat.le_of_lt (small1000 (by rw [List.length_map,List.length_map];omega))
   ·refine q p H' ((s1.trans s2).trans s3) ?_
    unfold sqW
    rw [List.map_append]
    exact g3
  refine ⟨_,rfl,_,_,rfl,rfl,_,rfl,?_⟩
  refine ite2 (fun c=>?_) (fun c=>?_)
  ·have c':0<j:=of_decide_eq_true c
   refine ⟨_,rfl,_,rfl,_,_,rfl,rfl,(mul_ok (by omega) (by omega)),_,rfl,_,_,rfl,rfl,_,_,rfl,rfl,(by show 1≤sizeLine;decide),fun p hp=>?_⟩
   refine k2 p _ (same_new hp _) ?_
   rw [if_pos (by omega)]
   have e:i * (m:Int)+j - 1=(wk:Int) - 1:=by omega
   rw [← e]
   exact upd_same
  ·have c':¬ 0<j:=of_decide_eq_false (Bool.eq_false_iff.mpr c)
   refine ⟨(by show 0≤sizeLine;decide),fun p hp=>?_⟩
   refine k2 p _ (same_new hp _) ?_
   rw [if_neg (by omega)]
   exact upd_same
 refine ⟨_,rfl,_,_,rfl,rfl,_,rfl,?_⟩
 refine ite2 (fun c=>?_) (fun c=>?_)
 ·have c':0<i:=of_decide_eq_true c
  refine ⟨_,rfl,_,_,rfl,rfl,_,rfl,_,_,rfl,rfl,(mul_ok (by omega) (by omega)),_,rfl,_,_,rfl,rfl,(by show 1≤sizeLine;decide),fun p hp=>?_⟩
  refine k1 p _ (same_new hp _) ?_
  rw [if_pos (c1 c')]
  have e:(i - 1) * (m:Int)+j=(wk:Int) - m:=by rw [Int.sub_mul,Int.one_mul];omega
  rw [← e]
  exact upd_same
 ·have c':¬ 0<i:=of_decide_eq_false (Bool.eq_false_iff.mpr c)
  refine ⟨(by show 0≤sizeLine;decide),fun p hp=>?_⟩
  refine k1 p _ (same_new hp _) ?_
  rw [if_neg (c2 c')]
  exact upd_same
theorem sc_square_net:FnScope ["n","m"] ["n","m"] (defScope s_square_net):=⟨rfl,rfl,rfl,by decide +kernel,rfl,by decide +kernel,by decide +kernel⟩
theorem ok_square_net (F:Fun K "square_net" "square_net" s_square_net f fd) (G_square_needs:FnOk P w K mg base CX0 1 f_square_needs fd_square_needs ["m","i","j"] spSqNeeds) (b_square_needs:Binds K fd_square_needs ["m","i","j"] []) (k_square_needs:PySem.W.keepIn K (.ref f_square_needs)=true) (m_square_needs:mg "square_needs" = some (.ref f_square_needs)) (z_tuple:mg "tuple" = none) (z_range:mg "range" = none):FnOk P w K mg base CX0 2 f fd ["n","m"] spSqN:=by
 refine F.ok sc_square_net (fun vs H Q E h=>?_) (fun cdv A outer s H vs Q E hr h=>?_)
 ·obtain ⟨n,m,rfl,_⟩:=h
  rfl
 obtain ⟨n,m,rfl,hm,m4,hz,q⟩:=h
 have hr_square_needs:Room 1 _:=hr.mono (by decide)
 have ez:(n:Int) * (m:Int)=((n * m:Nat):Int):=by rw [Int.natCast_mul]
 refine ⟨_,(pss_one (ps_ret (pe_callTy call_tuple_of rfl z_tuple bt_tuple (pa_cons (pe_lc rfl (lcs (own:=["work"]) (fv:=[1]) (by kernel_rfl)) (pi_range1 rfl z_range (pa_cons (pe_op op_mul (pv 0) (pv 1)) pa_nil)) (fun z1=>pg_name (i:=0) (nd_of (by kernel_rfl)) rfl (Or.inl rfl)) (fun z1=>pts_nil) (fun z1=>(pe_call G_square_needs hr_square_needs rfl m_square_needs k_square_needs b_square_needs .nil pass0 (pa_cons (pv 1) (pa_cons (pe_op op_fdiv (pv 0) (pv 1)) (pa_cons (pe_op op_mod (pv 0) (pv 1)) pa_nil)))))) pa_nil)))),?_⟩
 try dsimp only [Cx.nox,Cx.wish,cxOf]
 refine ⟨_,rfl,_,rfl,_,_,rfl,rfl,(mul_ok (by omega) (by omega)),((n:Int) * (m:Int)),rfl,by rw [ez];omega,by rw [ez];omega,fun p hp=>?_⟩
 rw [ez]
 refine lc_range (p:=p) (lo:=0) (n:=((n * m:Nat):Int).toNat) (fun i σ Hc=>∃ (v:Option V) (rs:List Addr),σ=[v,some (.int (m:Int))]∧Same H Hc∧Hc p=some (.lst (rs.map V.ref))∧NetL Hc rs ((List.range i).map (sqW m))) ?_ ?_ ?_
 ·exact ⟨none,[],rfl,same_new hp _,upd_same,.nil⟩
 ·refine fun i σ Hc hi hI_1=>opq fun G_1 hG_1=>?_
  obtain ⟨v,rs,rfl,sm,hpc,N⟩:=hI_1
  refine hG_1 ?_
  have lN:rs.length=i:=by rw [NetAt.len N];simp
  have hm0:(0:Int)<(m:Int):=by omega
  have hd:=Int.mul_ediv_add_emod (0+(i:Int)) (m:Int)
  rw [Int.mul_comm] at hd
  refine ⟨_,rfl,_,rfl,_,rfl,_,_,rfl,rfl,⟨hm0,(by show (m:Int)<1073741824;omega)⟩,_,rfl,_,rfl,_,_,rfl,rfl,hm0,?_⟩
  refine ⟨m,i,_,_,rfl,m4,Int.ediv_nonneg (by omega) (by omega),Int.emod_nonneg _ (by omega),Int.emod_lt_of_pos _ hm0,by rw [hd];omega,fun r H' s1 gr=>?_⟩
  have g1:=s1 _ _ hpc
  refine ⟨_,g1,small1000 (by rw [List.length_map,lN];omega),?_⟩
  rw [map_snoc]
  refine ⟨_,rs++[r],rfl,same_put (sm.trans s1) hp,upd_same,?_⟩
  have e7:(List.range (i+1)).map (sqW m)=(List.range i).map (sqW m)++[sqW m i]:=by rw [List.range_succ,List.map_append];rfl
  rw [e7]
  exact netl_put (lcs_snoc (N.same fun r' ys e=>s1 _ _ e) gr) g1
 ·refine fun σ Hc hI_2=>opq fun G_2 hG_2=>?_
  obtain ⟨v,rs,rfl,sm,hpc,N⟩:=hI_2
  refine hG_2 ?_
  refine ⟨p,_,rfl,.inl ⟨SqL.of hpc,fun a ha=>?_⟩⟩
  have s1:=same_new ha (.tup (rs.map V.ref))
  exact q a _ (sm.trans s1) ⟨rs,upd_same,N.same fun r ys e=>s1 _ _ e⟩
end
section
variable {P:Program} {w:World} {K:PySem.W.Frag} {mg:Str→Option Value} {base:Heap} {f:Addr} {fd:FuncData}
theorem sc_step_net:FnScope ["n","net","ahead","length"] ["n"] (defScope s_step_net):=⟨rfl,rfl,rfl,by decide +kernel,rfl,by decide +kernel,by decide +kernel⟩
theorem ok_step_net (F:Fun K "step_net" "step_net" s_step_net f fd) (z_tuple:mg "tuple" = none) (z_range:mg "range" = none):FnOk P w K mg base CX0 1 f fd ["n"] spStN:=by
 refine F.ok sc_step_net (fun vs H Q E h=>?_) (fun cdv A outer s H vs Q E hr h=>?_)
 ·obtain ⟨n,rfl,_⟩:=h
  rfl
 obtain ⟨n,rfl,n1,n3,q⟩:=h
 refine ⟨_,(pss_cons (ps_set (i:=1) sc_step_net.nd rfl (Or.inl rfl) (pe_op op_rep (pe_lst (pa_cons (pe_tup pa_nil) pa_nil)) (pv 0))) (pss_cons (ps_set (i:=2) sc_step_net.nd rfl (Or.inr rfl) pe_int) (pss_cons (ps_for PassesOwn.never rfl (pi_down rfl z_range (pa_cons (pe_op op_sub (pv 0) pe_int) (pa_cons pe_int (pa_cons (pe_un un_neg pe_int) pa_nil)))) (pg_name (i:=3) sc_step_net.nd rfl (Or.inl rfl)) (pss_cons (ps_expr (pe_bm PySem.F.plainAttrs_list PySem.F.slot_list_extend PySem.F.type_list_extend mt_extend (pv 1) (pa_cons (pe_lc rfl (lcs (own:=["place"]) (fv:=[2]) (by kernel_rfl)) (pi_range1 rfl z_range (pa_cons (pv 3) pa_nil)) (fun z1=>pg_name (i:=0) (nd_of (by kernel_rfl)) rfl (Or.inl rfl)) (fun z1=>pts_nil) (fun z1=>(pe_tup (pa_cons (pe_op op_add (pv 1) (pv 0)) (pa_cons (pe_op op_add (pe_op op_add (pv 1) (pv 0)) pe_int) pa_nil))))) pa_nil))) (pss_one (ps_aug (i:=2) sc_step_net.nd rfl (Or.inr rfl) (pe_op op_add (pv 3) pe_int) ip_add)))) (pss_one (ps_ret (pe_callTy call_tuple_of rfl z_tuple bt_tuple (pa_cons (pv 1) pa_nil))))))),?_⟩
 try dsimp only [Cx.nox,Cx.wish,cxOf]
 refine cut fun N1 hN1=>?_
 refine ⟨(by show 0≤sizeLine;decide),fun a0 ha0=>?_⟩
 refine ⟨(by show 1≤sizeLine;decide),fun a1 ha1=>?_⟩
 refine ⟨_,rfl,a1,(n:Int),_,rfl,rfl,upd_same,by omega,by omega,?_,fun l hl=>?_⟩
 ·rw [Int.toNat_natCast]
  exact Nat.le_of_lt (small1000 (by simp;omega))
 have s0:=(same_new ha0 (.tup [])).trans (same_new ha1 (.lst [.ref a0]))
 have hl0:=none_of s0 hl
 dsimp only at hl ⊢
 rw [Int.toNat_natCast,rep_ref]
 have s1:=s0.trans (same_new hl (.lst ((List.replicate n a0).map V.ref)))
 have g0:=(same_new ha1 (.lst [.ref a0])).trans (same_new hl (.lst ((List.replicate n a0).map V.ref))) _ _ (show (upd H a0 (.tup [])) a0=some (.tup []) from upd_same)
 have g1:(upd (upd (upd H a0 (.tup [])) a1 (.lst [.ref a0])) l (.lst ((List.replicate n a0).map V.ref))) l=some (.lst ((List.replicate n a0).map V.ref)):=upd_same
 generalize upd (upd (upd H a0 (.tup [])) a1 (.lst [.ref a0])) l (.lst ((List.replicate n a0).map V.ref))=H1 at s1 g0 g1 ⊢
 have N0:NetL H1 (List.replicate n a0) (stUp n 1):=by
  have e:stUp n 1=List.replicate n []:=by rw [stUp_succ];rfl
  rw [e]
  exact netl_rep g0 n
 refine hN1 _ _ (cut fun N2 hN2=>?_)
 refine hN2 _ _ (cut fun N3 hN3=>?_)
 refine ⟨_,rfl,_,_,rfl,rfl,_,rfl,_,_,rfl,⟨by omega,by omega,by decide,by decide⟩,for_down (lo:=(n:Int) - 1) (n:=((n:Int) - 1 - 0).toNat) (fun i σ Hc=>∃ (rs:List Addr) (v3:Option V),σ=[some (.int (n:Int)),some (.ref l),some (.int ((off n i:Nat):Int)),v3]∧Same H Hc∧Hc l=some (.lst (rs.map V.ref))∧NetL Hc rs (stUp n (i+1)))
  ⟨_,none,rfl,s1,g1,N0⟩ ?_ ?_⟩
 ·refine fun i σ Hc hi hI_1=>opq fun G_1 hG_1=>?_
  obtain ⟨rs,v3,rfl,sm,hlc,N⟩:=hI_1
  refine hG_1 ?_
  have lN:rs.length=off n (i+1):=by rw [NetAt.len N,stUp_len]
  have lo:=off_le n (i+1)
  have lb:(i+1) * n≤30 * 30:=Nat.mul_le_mul (by omega) n3
  have oi:off n i≤off n (i+1):=Nat.le_add_right _ _
  have ei:((n:Int) - 1 - (i:Int)).toNat=n - (i+1):=by omega
  refine cut fun N4 hN4=>?_
  refine ⟨_,rfl,.inl ⟨rfl,_,SqL.of hlc⟩,_,rfl,((n:Int) - 1 - (i:Int)),rfl,by omega,by omega,fun p hp=>?_⟩
  have npl:l ≠ p:=ne_of_none hlc hp
  refine lc_range (p:=p) (lo:=0) (n:=((n:Int) - 1 - (i:Int)).toNat) (fun j σ Hd=>∃ (v:Option V) (qs:List Addr),σ=[v,some (.int ((off n i:Nat):Int))]∧Same Hc Hd∧Hd p=some (.lst (qs.map V.ref))∧NetL Hd qs ((List.range j).map fun p=>[((off n i+p:Nat):Int),((off n i+p:Nat):Int)+1])) ?_ ?_ ?_
  ·exact ⟨none,[],rfl,same_new hp _,upd_same,.nil⟩
  ·refine fun j σ Hd hj hI_2=>opq fun G_2 hG_2=>?_
   obtain ⟨v,qs,rfl,sd,hpd,NQ⟩:=hI_2
   refine hG_2 ?_
   have lQ:qs.length=j:=by rw [NetAt.len NQ];simp
   refine ⟨_,rfl,_,rfl,_,_,rfl,rfl,_,rfl,_,rfl,_,_,rfl,rfl,_,_,rfl,rfl,(by show 2≤sizeLine;decide),fun r hr1=>?_⟩
   have e1:((off n i:Nat):Int)+(0+(j:Int))=((off n i+j:Nat):Int):=by omega
   dsimp only at hr1 ⊢
   rw [e1]
   have s2:=same_new hr1 (.tup [.int ((off n i+j:Nat):Int),.int (((off n i+j:Nat):Int)+1)])
   have g2:=s2 _ _ hpd
   refine ⟨_,g2,small1000 (by rw [List.length_map,lQ];omega),?_⟩
   rw [map_snoc]
   refine ⟨_,qs++[r],rfl,same_put (sd.trans s2) hp,upd_same,?_⟩
   have e7:((List.range (j+1)).map fun p=>[((off n i+p:Nat):Int),((off n i+p:Nat):Int)+1])=((List.range j).map fun p=>[((off n i+p:Nat):Int),((off n i+p:Nat):Int)+1])++[[((off n i+j:Nat):Int),((off n i+j:Nat):Int)+1]]:=by rw [List.range_succ,List.map_append];rfl
   rw [e7]
   exact netl_put (lcs_snoc (NQ.same fun r' ys e=>s2 _ _ e) upd_same) g2
  ·refine fun σ Hd hI_3=>opq fun G_3 hG_3=>?_
   obtain ⟨v,qs,rfl,sd,hpd,NQ⟩:=hI_3
   refine hG_3 ?_
   have lQ:qs.length=n - (i+1):=by rw [NetAt.len NQ,List.length_map,List.length_range];omega
   rw [ei] at NQ
   have g2:=sd _ _ hlc
   refine ⟨l,p,_,_,rfl,rfl,g2,hpd,Nat.le_of_lt (small_n (by rw [List.length_map,List.length_map,lN,lQ];omega)),?_⟩
   refine hN4 _ _ ?_
   refine ⟨_,rfl,_,rfl,_,_,rfl,rfl,_,_,rfl,rfl,?_⟩
   refine ⟨rs++qs,some (.int ((n:Int) - 1 - (i:Int))),?_,same_put (sm.trans sd) hl0,?_,?_⟩
   ·have e2:((off n i:Nat):Int)+((n:Int) - 1 - (i:Int)+1)=((off n (i+1):Nat):Int):=by
     show _=((off n i+(n - i):Nat):Int)
     omega
    dsimp only [List.set]
    rw [e2]
   ·rw [List.map_append]
    exact upd_same
   ·rw [stUp_succ]
    exact netl_put (Paired.app (N.same fun r' ys e=>sd _ _ e) NQ) g2
 ·refine fun σ Hc hI_4=>opq fun G_4 hG_4=>?_
  obtain ⟨rs,v3,rfl,sm,hlc,N⟩:=hI_4
  refine hG_4 ?_
  refine hN3 _ _ ?_
  refine ⟨_,rfl,l,_,rfl,.inl ⟨SqL.of hlc,fun a ha=>?_⟩⟩
  have s2:=same_new ha (.tup (rs.map V.ref))
  refine q a _ (sm.trans s2) ⟨rs,upd_same,?_⟩
  rw [show ((n:Int) - 1 - 0).toNat+1=n by omega] at N
  exact N.same fun r ys e=>s2 _ _ e
end
section
variable {P:Program} {w:World} {K:PySem.W.Frag} {mg:Str→Option Value} {base:Heap} {f:Addr} {fd:FuncData}
theorem sc_row_rooms:FnScope ["n","back"] ["n","back"] (defScope s_row_rooms):=⟨rfl,rfl,rfl,by decide +kernel,rfl,by decide +kernel,by decide +kernel⟩
theorem ok_row_rooms (F:Fun K "row_rooms" "row_rooms" s_row_rooms f fd) (z_min:mg "min" = none):FnOk P w K mg base CX0 1 f fd ["n","back"] spRowRooms:=by
 refine F.ok sc_row_rooms (fun vs H Q E h=>?_) (fun cdv A outer s H vs Q E hr h=>?_)
 ·obtain ⟨n,b,rfl,_⟩:=h
  rfl
 obtain ⟨n,b,rfl,h1,h2,h3,q⟩:=h
 refine ⟨_,(pss_one (ps_ret (pe_callB (call_min2 rfl) rfl z_min bt_min (pa_cons (pv 0) (pa_cons (pe_op op_add (pv 1) pe_int) pa_nil))))),?_⟩
 try dsimp only [Cx.nox,Cx.wish,cxOf]
 refine ⟨_,rfl,_,rfl,_,_,rfl,rfl,_,_,rfl,?_⟩
 have e:(if (b:Int)+1<(n:Int) then (b:Int)+1 else (n:Int))=((min (n - 1) b:Nat):Int)+1:=by split <;> omega
 dsimp only
 rw [e]
 exact q
theorem sc_square_rooms:FnScope ["n","m"] ["n","m"] (defScope s_square_rooms):=⟨rfl,rfl,rfl,by decide +kernel,rfl,by decide +kernel,by decide +kernel⟩
theorem ok_square_rooms (F:Fun K "square_rooms" "square_rooms" s_square_rooms f fd) (z_min:mg "min" = none):FnOk P w K mg base CX0 1 f fd ["n","m"] spSqRooms:=by
 refine F.ok sc_square_rooms (fun vs H Q E h=>?_) (fun cdv A outer s H vs Q E hr h=>?_)
 ·obtain ⟨n,m,rfl,_⟩:=h
  rfl
 obtain ⟨n,m,rfl,h1,h2,h3,h4,q⟩:=h
 refine ⟨_,(pss_cons (ps_if (pt_cmpR op_eq (pe_op op_mul (pv 0) (pv 1)) pe_int (nomark _)) (pss_one (ps_ret pe_int)) pss_nil) (pss_one (ps_ret (pe_op op_add (pe_callB (call_min2 rfl) rfl z_min bt_min (pa_cons (pv 0) (pa_cons (pv 1) pa_nil))) pe_int)))),?_⟩
 try dsimp only [Cx.nox,Cx.wish,cxOf]
 refine ⟨_,rfl,_,rfl,_,_,rfl,rfl,mul_ok (by omega) (by omega),rfl,_,rfl,?_⟩
 unfold sqTop at q
 refine ite2 (fun c=>?_) (fun c=>?_)
 ·have e:(n:Int) * (m:Int)=1:=V.int.inj (of_decide_eq_true c)
  have e':n * m=1:=by exact_mod_cast e
  rw [if_pos e'] at q
  exact q
 ·have e:¬ n * m=1:=fun z=>c (decide_eq_true (by show V.int ((n:Int) * (m:Int))=V.int 1;rw [show (n:Int) * (m:Int)=1 by exact_mod_cast z]))
  rw [if_neg e] at q
  refine ⟨_,rfl,_,rfl,_,_,rfl,_,_,rfl,rfl,?_⟩
  have e2:(if (m:Int)<(n:Int) then (m:Int) else (n:Int))=((min n m:Nat):Int):=by split <;> omega
  dsimp only
  rw [e2]
  exact q
theorem sc_step_rooms:FnScope ["n"] ["n"] (defScope s_step_rooms):=⟨rfl,rfl,rfl,by decide +kernel,rfl,by decide +kernel,by decide +kernel⟩
theorem ok_step_rooms (F:Fun K "step_rooms" "step_rooms" s_step_rooms f fd):FnOk P w K mg base CX0 1 f fd ["n"] spStRooms:=by
 refine F.ok sc_step_rooms (fun vs H Q E h=>?_) (fun cdv A outer s H vs Q E hr h=>?_)
 ·obtain ⟨n,rfl,_⟩:=h
  rfl
 obtain ⟨n,rfl,h1,h2,q⟩:=h
 refine ⟨_,(pss_one (ps_ret (pe_ifExp (pt_cmpR op_eq (pv 0) pe_int (nomark _)) pe_int (pe_op op_add (pv 0) pe_int)))),?_⟩
 try dsimp only [Cx.nox,Cx.wish,cxOf]
 refine ⟨_,rfl,rfl,_,rfl,?_⟩
 refine ite2 (fun c=>?_) (fun c=>?_)
 ·have e:(n:Int)=1:=V.int.inj (of_decide_eq_true c)
  rw [if_pos (show n=1 by omega)] at q
  exact q
 ·have e:¬ n=1:=fun z=>c (decide_eq_true (by rw [z];rfl))
  rw [if_neg e] at q
  exact ⟨_,rfl,_,_,rfl,rfl,q⟩
end
section
variable {P:Program} {w:World} {K:PySem.W.Frag} {mg:Str→Option Value} {base:Heap} {f:Addr} {fd:FuncData}
theorem pow_c {j:Int} (h0:0≤j) (h1:j≤1000):CPow 1 j:=⟨h0,by omega,by decide⟩
theorem small_two {n:Nat} (h:n≤12):2 ^ n≤4096:=by
 have:=Nat.pow_le_pow_right (show 0<2 by decide) h
 simpa using this
theorem sc_Lcome:FnScope ["_law_net","_law_rooms","_law_needs","_law_found","_law_layer","_law_many","_law_cleared","_law_at","_law_work","_law_less","_law_bits_here","_law_more"] ["_law_net","_law_rooms"] (defScope s_Lcome):=⟨rfl,rfl,rfl,by decide +kernel,rfl,by decide +kernel,by decide +kernel⟩
theorem ok_Lcome (F:Fun K "_law_come" "_law_come" s_Lcome f fd) (z_sum:mg "sum" = none) (z_list:mg "list" = none) (z_len:mg "len" = none) (z_range:mg "range" = none):FnOk P w K mg base CX0 1 f fd ["_law_net","_law_rooms"] spCome:=by
 refine F.ok sc_Lcome (fun vs H Q E h=>?_) (fun cdv A outer s H vs Q E hr h=>?_)
 ·obtain ⟨a,net,rooms,rfl,_⟩:=h
  rfl
 obtain ⟨a,net,rooms,rfl,hN,wf,n12,q⟩:=h
 have hu:=hu_of hr
 have hu0:=hr.units0
 refine ⟨_,(pss_cons (ps_lc (i:=2) sc_Lcome.nd rfl rfl rfl (lcs (own:=["_law_one"]) (fv:=[]) (by kernel_rfl)) (pi_tup (pv 0)) (fun z1=>pg_name (i:=0) (nd_of (by kernel_rfl)) rfl (Or.inl rfl)) (fun z1=>pts_nil) (fun z1=>(pe_callB (call_sumK (K:=K) rfl rfl) rfl z_sum bt_sum (pa_cons (pe_lc (X:=lcCx _ _ _ _ z1) rfl (lcs (own:=["_law_need"]) (fv:=[]) (by kernel_rfl)) (pi_tupK (K:=K) rfl (pv 0)) (fun z2=>pg_name (i:=0) (nd_of (by kernel_rfl)) rfl (Or.inl rfl)) (fun z2=>pts_nil) (fun z2=>(pe_op op_shl pe_int (pv 0)))) pa_nil))) (by kernel_rfl)) (pss_cons (ps_set (i:=3) sc_Lcome.nd rfl (Or.inl rfl) (pe_disp (pps_cons pe_int pe_int pps_nil) rfl rfl (by simp) (by decide))) (pss_cons (ps_set (i:=4) sc_Lcome.nd rfl (Or.inl rfl) (pe_lst (pa_cons pe_int pa_nil))) (pss_cons (ps_set (i:=5) sc_Lcome.nd rfl (Or.inl rfl) pe_int) (pss_cons (ps_while PassesOwn.never (pt_cmpR (op_ne_nil hu0) (pv 4) (pe_lst pa_nil) (nomark _)) (pss_cons (ps_set (i:=6) sc_Lcome.nd rfl (Or.inl rfl) (pe_callTy call_list_of rfl z_list bt_list (pa_cons (pv 4) pa_nil))) (pss_cons (ps_set (i:=7) sc_Lcome.nd rfl (Or.inl rfl) pe_int) (pss_cons (ps_while PassesOwn.never (pt_cmpR op_lt (pv 7) (pe_callB call_len_seq rfl z_len bt_len (pa_cons (pv 6) pa_nil)) (nomark _)) (pss_cons (ps_for PassesOwn.never rfl (pi_range1 rfl z_range (pa_cons (pe_callB call_len_seq rfl z_len bt_len (pa_cons (pv 0) pa_nil)) pa_nil)) (pg_name (i:=8) sc_Lcome.nd rfl (Or.inl rfl)) (pss_cons (ps_set (i:=9) sc_Lcome.nd rfl (Or.inl rfl) (pe_op op_sub (pe_ix ix_list (pv 6) (pv 7) (fun _ _=>rfl)) (pe_op op_mul (pe_op op_shl pe_int (pv 8)) (pe_op op_and (pe_op op_shr (pe_ix ix_list (pv 6) (pv 7) (fun _ _=>rfl)) (pv 8)) pe_int)))) (pss_one (ps_if (pt_cmp (pc_dnotin hu (pv 9) (pv 3))) (pss_cons (ps_dput hu (pv 3) (pv 9) (pv 5) rfl) (pss_one (ps_expr (pe_bm PySem.F.plainAttrs_list PySem.F.slot_list_append PySem.F.type_list_append mt_append (pv 6) (pa_cons (pv 9) pa_nil))))) pss_nil)))) (pss_one (ps_set (i:=7) sc_Lcome.nd rfl (Or.inl rfl) (pe_op op_add (pv 7) pe_int))))) (pss_cons (ps_set (i:=5) sc_Lcome.nd rfl (Or.inl rfl) (pe_op op_add (pv 5) pe_int)) (pss_cons (ps_set (i:=4) sc_Lcome.nd rfl (Or.inl rfl) (pe_lst pa_nil)) (pss_one (ps_for PassesOwn.never rfl (pi_list (pv 6)) (pg_name (i:=10) sc_Lcome.nd rfl (Or.inr rfl)) (pss_one (ps_if (pt_cmpR op_lt (pe_callB (call_sum rfl) rfl z_sum bt_sum (pa_cons (pe_lc rfl (lcs (own:=["_law_work"]) (fv:=[10]) (by kernel_rfl)) (pi_range1 rfl z_range (pa_cons (pe_callB call_len_seq rfl z_len bt_len (pa_cons (pv 0) pa_nil)) pa_nil)) (fun z3=>pg_name (i:=0) (nd_of (by kernel_rfl)) rfl (Or.inl rfl)) (fun z3=>pts_nil) (fun z3=>(pe_op op_and (pe_op op_shr (pv 1) (pv 0)) pe_int))) pa_nil)) (pv 1) (nomark _)) (pss_one (ps_for PassesOwn.never rfl (pi_range1 rfl z_range (pa_cons (pe_callB call_len_seq rfl z_len bt_len (pa_cons (pv 0) pa_nil)) pa_nil)) (pg_name (i:=8) sc_Lcome.nd rfl (Or.inl rfl)) (pss_cons (ps_set (i:=11) sc_Lcome.nd rfl (Or.inl rfl) (pe_op op_or (pv 10) (pe_op op_shl pe_int (pv 8)))) (pss_one (ps_if (PW.pt (pw_and (pt_cmpR op_eq (pe_op op_and (pv 10) (pe_ix ix_list (pv 2) (pv 8) (fun _ _=>rfl))) (pe_ix ix_list (pv 2) (pv 8) (fun _ _=>rfl)) (nomark _)) (pw_and1 (pt_cmp (pc_dnotin hu (pv 11) (pv 3)))))) (pss_cons (ps_dput hu (pv 3) (pv 11) (pv 5) rfl) (pss_one (ps_expr (pe_bm PySem.F.plainAttrs_list PySem.F.slot_list_append PySem.F.type_list_append mt_append (pv 4) (pa_cons (pv 11) pa_nil))))) pss_nil))))) pss_nil)))))))))) (pss_one (ps_ret (pe_frz (pv 3))))))))),?_⟩
 try dsimp only [Cx.nox,Cx.wish,cxOf]
 obtain ⟨rs,hA,NL⟩:=id hN
 have l2:=small_two n12
 have lrs:rs.length=net.length:=Paired.length NL
 have lrv:(((rs.map V.ref).length:Nat):Int)=(net.length:Int):=by rw [List.length_map,lrs]
 have lrn:((((rs.map V.ref).length:Nat):Int)).toNat=net.length:=by rw [lrv];omega
 refine cut fun N1 hN1=>?_
 refine ⟨_,rfl,a,rfl,⟨_,SqT.of hA⟩,fun p hp=>?_⟩
 refine lc_tup (p:=p) (a:=a) (xs:=rs.map V.ref) (fun j σ Hd=>∃ (v:Option V),σ=[v]∧Same H Hd∧Hd p=some (.lst ((natI ((net.take j).map mskN)).map V.int))) ?_ ?_ ?_ ?_
 ·exact ⟨none,rfl,same_new hp _,upd_same⟩
 ·rintro j σ Hd hj ⟨v,rfl,sm,_⟩
  exact SqT.of (sm _ _ hA)
 ·refine fun j x σ Hd hx hI_2=>opq fun G_2 hG_2=>?_
  obtain ⟨v,rfl,sm,hpd⟩:=hI_2
  obtain ⟨r,er,rfl⟩:=get_ref hx
  refine hG_2 ?_
  have hj:j<net.length:=by have:=(List.getElem?_eq_some_iff.mp er).1;omega
  have hz:=List.getElem?_eq_getElem hj
  obtain ⟨r',h3,h4⟩:=NL.get hz
  rw [er] at h3
  cases h3
  have rz:=wf j _ hz
  generalize net[j]=zs at h4 hz rz
  have lz:=rz.len
  refine ⟨_,rfl,r,rfl,⟨_,SqT.of (sm _ _ h4)⟩,fun p2 hp2=>?_⟩
  refine lc_tup (p:=p2) (a:=r) (xs:=zs.map V.int) (fun i σ He=>∃ (v:Option V),σ=[v]∧Same Hd He∧He p2=some (.lst (((zs.take i).map fun z=>(1:Int) * 2 ^ z.toNat).map V.int))) ?_ ?_ ?_ ?_
  ·exact ⟨none,rfl,same_new hp2 _,upd_same⟩
  ·rintro i σ He hi ⟨v,rfl,se,_⟩
   exact SqT.of (se _ _ (sm _ _ h4))
  ·refine fun i x σ He hx hI_4=>opq fun G_4 hG_4=>?_
   obtain ⟨v,rfl,se,hpe⟩:=hI_4
   obtain ⟨z,ez,rfl⟩:=get_int hx
   refine hG_4 ?_
   have hi:=(List.getElem?_eq_some_iff.mp ez).1
   have zb:=rz.in_ z (List.mem_of_getElem? ez)
   refine ⟨_,rfl,_,_,rfl,rfl,pow_c zb.1 (by omega),_,hpe,small1000 (by rw [List.length_map,List.length_map,List.length_take];omega),_,rfl,same_put se hp2,?_⟩
   rw [upd_same,List.take_add_one,ez,Option.toList_some,List.map_append,List.map_append]
   rfl
  ·refine fun σ He hI_5=>opq fun G_5 hG_5=>?_
   obtain ⟨v,rfl,se,hpe⟩:=hI_5
   refine hG_5 ?_
   rw [List.length_map,take_all rfl] at hpe
   refine ⟨p2,_,rfl,SqL.of hpe,_,se _ _ hpd,small1000 (by rw [List.length_map,natI_len,List.length_map,List.length_take];omega),_,rfl,same_put (sm.trans se) hp,?_⟩
   rw [upd_same,List.take_add_one,hz,Option.toList_some,List.map_append,List.map_singleton,natI_snoc,List.map_append,msk_sum]
   rfl
 refine fun σ Hd hI_6=>opq fun G_6 hG_6=>?_
 obtain ⟨v,rfl,sm0,gp⟩:=hI_6
 refine hG_6 ?_
 rw [List.length_map,lrs,take_all rfl] at gp
 have fp:H p=none:=hp
 clear hp v
 refine hN1 _ _ (cut fun N2 hN2=>?_)
 intro d hd
 refine ⟨upd_same,[(Sum.inl 0,.int 0)],rfl,(by show 1≤15;decide),?_⟩
 rw [upd_upd]
 have fdn:H d=none:=sm0.free hd
 have sd:=same_new hd (.dK (mergeK [] [((Sum.inl 0:Key),V.int 0)]))
 have gd:(upd Hd d (.dK (mergeK [] [((Sum.inl 0:Key),V.int 0)]))) d=some (.dK (kvN [0] fun _=>0)):=upd_same
 have npd:p ≠ d:=ne_of_none gp hd
 have gp1:=sd _ _ gp
 have sm1:=sm0.trans sd
 generalize upd Hd d (.dK (mergeK [] [((Sum.inl 0:Key),V.int 0)]))=H1 at sd gd gp1 sm1 ⊢
 refine hN2 _ _ (cut fun N3 hN3=>?_)
 refine ⟨(by show 1≤sizeLine;decide),fun l0 hl0=>?_⟩
 have sl:=same_new hl0 (.lst [.int 0])
 have gl0:(upd H1 l0 (.lst [.int 0])) l0=some (.lst ((natI [0]).map V.int)):=upd_same
 have gd1:=sl _ _ gd
 have gp2:=sl _ _ gp1
 have sm2:=sm1.trans sl
 generalize upd H1 l0 (.lst [.int 0])=H2 at sl gl0 gd1 gp2 sm2 ⊢
 refine hN3 _ _ (cut fun N4 hN4=>?_)
 refine hN4 _ _ (cut fun N5 hN5=>?_)
 clear hN1 hN2 hN3 hN4 gd gp gp1 sd sl sm0 sm1 hl0 hd
 refine ⟨fun m σ Hc=>∃ (ks ly:List Nat) (f:Nat→Nat) (many:Nat) (ll:Addr) (v6 v7 v8 v9 v10 v11:Option V),σ=[some (.ref a),some (.int rooms),some (.ref p),some (.ref d),some (.ref ll),some (.int (many:Int)),v6,v7,v8,v9,v10,v11]∧m=2 ^ net.length+1 - many∧Same H Hc∧Hc p=some (.lst ((natI (net.map mskN)).map V.int))∧Hc d=some (.dK (kvN ks f))∧Hc ll=some (.lst ((natI ly).map V.int))∧A1 net rooms many ks f ly 0 0∧(ly ≠ []→many<ks.length),
  ⟨_,[0],[0],fun _=>0,0,l0,none,none,none,none,none,none,rfl,rfl,sm2,gp2,gd1,gl0,A1.start,fun _=>by decide⟩,?_⟩
 refine fun m σ Hc hI_7=>opq fun G_7 hG_7=>?_
 obtain ⟨ks,ly,f,many,ll,v6,v7,v8,v9,v10,v11,rfl,rfl,sm,gp,gd,gl,I1,lm⟩:=hI_7
 refine hG_7 ?_
 refine ⟨_,rfl,(by show 0≤sizeLine;decide),fun e he=>?_⟩
 have se:=same_new he (.lst [])
 refine ⟨ll,e,_,rfl,rfl,SqL.of (se _ _ gl),SqL.of upd_same,_,rfl,?_⟩
 have gp1:=se _ _ gp
 have gd1:=se _ _ gd
 have gl1:=se _ _ gl
 have sm1:=sm.trans se
 generalize upd Hc e (.lst [])=H3 at gp1 gd1 gl1 sm1 ⊢
 clear se he gp gd gl sm
 refine ite2 (fun cn=>?_) (fun cn=>?_)
 ·have lne:ly ≠ []:=fun z=>by rw [z] at cn;cases cn
  have lk:=lm lne
  have kl:=I1.fd.len
  refine ⟨fun σ' H'=>∃ m',m'<2 ^ net.length+1 - many∧_,fun σ' H' z=>z,?_⟩
  refine cut fun M1 hM1=>?_
  refine ⟨_,rfl,ll,_,rfl,.inl (SqL.of gl1),fun c hc=>?_⟩
  have fc:H c=none:=sm1.free hc
  have sc:=same_new hc (.lst ((natI ly).map V.int))
  have npc:p ≠ c:=ne_of_none gp1 hc
  have ndc:d ≠ c:=ne_of_none gd1 hc
  have gc:(upd H3 c (.lst ((natI ly).map V.int))) c=some (.lst ((natI ly).map V.int)):=upd_same
  have gp2:=sc _ _ gp1
  have gd2:=sc _ _ gd1
  have sm2:=sm1.trans sc
  generalize upd H3 c (.lst ((natI ly).map V.int))=H4 at gc gp2 gd2 sm2 ⊢
  clear sc hc gp1 gd1 gl1 sm1
  refine hM1 _ _ (cut fun M2 hM2=>?_)
  refine hM2 _ _ (cut fun M3 hM3=>?_)
  clear hM1 hM2
  refine ⟨fun m σ Hc=>∃ (ks cl:List Nat) (f:Nat→Nat) (at_:Nat) (v8 v9:Option V),σ=[some (.ref a),some (.int rooms),some (.ref p),some (.ref d),some (.ref ll),some (.int (many:Int)),some (.ref c),some (.int (at_:Int)),v8,v9,v10,v11]∧m=2 ^ net.length - at_∧Same H Hc∧Hc p=some (.lst ((natI (net.map mskN)).map V.int))∧Hc d=some (.dK (kvN ks f))∧Hc c=some (.lst ((natI cl).map V.int))∧A1 net rooms many ks f cl at_ 0∧many<ks.length,
   ⟨_,ks,ly,f,0,v8,v9,rfl,rfl,sm2,gp2,gd2,gc,I1,lk⟩,?_⟩
  clear gp2 gd2 gc sm2 I1 lk kl lm
  refine fun m σ Hc hI_8=>opq fun G_8 hG_8=>?_
  obtain ⟨ks,cl,f,at_,v8,v9,rfl,rfl,sm,gp,gd,gc,I1,lk⟩:=hI_8
  refine hG_8 ?_
  have lcl:=I1.len
  have kl:=I1.fd.len
  refine ⟨_,rfl,_,rfl,c,_,rfl,.inl (SqL.of gc),_,_,rfl,rfl,_,rfl,?_⟩
  have ecl:(((((natI cl).map V.int).length:Nat):Int))=(cl.length:Int):=by rw [List.length_map,natI_len]
  dsimp only
  rw [ecl]
  refine ite2 (fun ca=>?_) (fun ca=>?_)
  ·have ca':(at_:Int)<(cl.length:Int):=of_decide_eq_true ca
   refine ⟨fun σ' H'=>∃ m',m'<2 ^ net.length - at_∧_,fun σ' H' z=>z,?_⟩
   refine cut fun L1 hL1=>?_
   refine ⟨_,rfl,a,_,rfl,.inr (SqT.of (sm _ _ hA)),_,rfl,by rw [lrv];omega,by rw [lrv];omega,for_range (lo:=0) (n:=((((rs.map V.ref).length:Nat):Int)).toNat) (fun k σ Hc=>∃ (ks cl:List Nat) (f:Nat→Nat) (v8 v9:Option V),σ=[some (.ref a),some (.int rooms),some (.ref p),some (.ref d),some (.ref ll),some (.int (many:Int)),some (.ref c),some (.int (at_:Int)),v8,v9,v10,v11]∧Same H Hc∧Hc p=some (.lst ((natI (net.map mskN)).map V.int))∧Hc d=some (.dK (kvN ks f))∧Hc c=some (.lst ((natI cl).map V.int))∧A1 net rooms many ks f cl at_ k∧many<ks.length∧at_<cl.length)
    ⟨ks,cl,f,v8,v9,rfl,sm,gp,gd,gc,I1,lk,by omega⟩ ?_ ?_⟩
   ·clear sm gp gd gc I1 lk lcl kl ca ca' ecl
    refine fun k σ Hc hk hI_9=>opq fun G_9 hG_9=>?_
    obtain ⟨ks,cl,f,v8,v9,rfl,sm,gp,gd,gc,I1,lk,la⟩:=hI_9
    refine hG_9 ?_
    rw [lrn] at hk
    have lcl:=I1.len
    have kl:=I1.fd.len
    have ec:cl[at_]?=some cl[at_]:=List.getElem?_eq_getElem la
    generalize cl[at_]=x at ec
    have ga:atI ((natI cl).map V.int) (at_:Int)=some (.int (x:Int)):=get_at (by omega) (by rw [Int.toNat_natCast,List.getElem?_map,natI_get ec];rfl)
    have e0:(0+(k:Int)).toNat=k:=by omega
    refine cut fun L2 hL2=>?_
    refine ⟨_,rfl,_,rfl,c,_,_,_,rfl,rfl,SqL.of gc,ga,_,rfl,_,_,rfl,rfl,pow_c (by omega) (by omega),_,rfl,_,rfl,c,_,_,_,rfl,rfl,SqL.of gc,ga,_,rfl,_,_,rfl,rfl,(by show (0:Int)≤0+(k:Int);omega),_,_,rfl,rfl,_,_,rfl,rfl,?_,_,_,rfl,rfl,?_⟩
    ·rw [e0,bit_nat]
     refine .inr ⟨by omega,?_⟩
     have:=Nat.mod_lt (x / 2 ^ k) (show 0<2 by decide)
     omega
    dsimp only
    rw [e0,clr_nat]
    refine hL2 _ _ ?_
    refine ⟨_,rfl,_,rfl,d,_,rfl,DGet.k (k:=Sum.inl ((clrb x k:Nat):Int)) gd,_,rfl,?_⟩
    rw [kvN_val]
    by_cases ck:clrb x k ∈ ks
    ·rw [if_pos ck]
     exact ⟨ks,cl,f,_,_,rfl,sm,gp,gd,gc,I1.hit ec ck,lk,la⟩
    ·rw [if_neg ck]
     refine iteT (cut fun L3 hL3=>?_)
     refine ⟨_,rfl,_,rfl,_,rfl,d,_,rfl,DPut.k (k:=Sum.inl ((clrb x k:Nat):Int)) gd (small_n (by rw [kvN_len];omega)),?_⟩
     rw [kvN_put ck]
     refine hL3 _ _ ?_
     have gc1:(upd Hc d (.dK (kvN (ks++[clrb x k]) (fset f (clrb x k) many)))) c=some (.lst ((natI cl).map V.int)):=by rw [upd_ne ndc.symm];exact gc
     refine ⟨_,rfl,.inl ⟨rfl,_,SqL.of gc1⟩,_,rfl,c,_,_,rfl,rfl,gc1,small_n (by rw [List.length_map,natI_len];omega),?_⟩
     refine ⟨ks++[clrb x k],cl++[clrb x k],fset f (clrb x k) many,_,_,rfl,same_put (same_put sm fdn) fc,by rw [upd_ne npc,upd_ne npd];exact gp,by rw [upd_ne ndc,upd_same],?_,I1.add ec hk ck,by rw [List.length_append];omega,by rw [List.length_append];omega⟩
     rw [upd_same,natI_snoc,List.map_append]
     rfl
   ·refine fun σ Hc hI_10=>opq fun G_10 hG_10=>?_
    obtain ⟨ks,cl,f,v8,v9,rfl,sm,gp,gd,gc,I1,lk,la⟩:=hI_10
    refine hG_10 ?_
    rw [lrn] at I1
    have lcl:=I1.len
    refine hL1 _ _ ?_
    refine ⟨_,rfl,_,_,rfl,rfl,?_⟩
    exact ⟨2 ^ net.length - (at_+1),by omega,ks,cl,f,at_+1,_,_,rfl,rfl,sm,gp,gd,gc,I1.next,lk⟩
  ·have ca':¬ (at_:Int)<(cl.length:Int):=of_decide_eq_false (Bool.eq_false_iff.mpr ca)
   refine hM3 _ _ (cut fun M4 hM4=>?_)
   refine ⟨_,rfl,_,_,rfl,rfl,?_⟩
   refine hM4 _ _ (cut fun M5 hM5=>?_)
   refine ⟨(by show 0≤sizeLine;decide),fun lz hlz=>?_⟩
   have flz:H lz=none:=sm.free hlz
   have sz:=same_new hlz (.lst [])
   have npz:p ≠ lz:=ne_of_none gp hlz
   have ndz:d ≠ lz:=ne_of_none gd hlz
   have ncz:c ≠ lz:=ne_of_none gc hlz
   have gz:(upd Hc lz (.lst [])) lz=some (.lst ((natI []).map V.int)):=upd_same
   have gp1:=sz _ _ gp
   have gd1:=sz _ _ gd
   have gc1:=sz _ _ gc
   have sm1:=sm.trans sz
   generalize upd Hc lz (.lst [])=H5 at gz gp1 gd1 gc1 sm1 ⊢
   clear sz hlz gp gd gc sm
   refine hM5 _ _ ?_
   have J0:=I1.two (by omega)
   refine ⟨_,rfl,c,rfl,⟨_,SqL.of gc1⟩,for_list (a:=c) (xs:=(natI cl).map V.int) (fun i σ Hc=>∃ (ks ly:List Nat) (f:Nat→Nat) (v8 v10 v11:Option V),σ=[some (.ref a),some (.int rooms),some (.ref p),some (.ref d),some (.ref lz),some (.int ((many+1:Nat):Int)),some (.ref c),some (.int (at_:Int)),v8,v9,v10,v11]∧Same H Hc∧Hc p=some (.lst ((natI (net.map mskN)).map V.int))∧Hc d=some (.dK (kvN ks f))∧Hc lz=some (.lst ((natI ly).map V.int))∧Hc c=some (.lst ((natI cl).map V.int))∧A2 net rooms many ks f cl ly i 0∧many+1+ly.length≤ks.length)
    ⟨ks,[],f,v8,v10,v11,rfl,sm1,gp1,gd1,gz,gc1,J0,by simp;omega⟩ (fun i σ Hc _ ⟨_,_,_,_,_,_,_,_,_,_,_,g,_⟩=>SqL.of g) ?_ ?_⟩
   ·clear gp1 gd1 gc1 gz sm1 J0 I1 lk kl
    refine fun i x0 σ Hc hx hI_11=>opq fun G_11 hG_11=>?_
    obtain ⟨ks,ly,f,v8,v10,v11,rfl,sm,gp,gd,gz,gc,J,lk⟩:=hI_11
    obtain ⟨z,ez,rfl⟩:=get_int hx
    obtain ⟨x,ec,rfl⟩:=natI_of ez
    refine hG_11 ?_
    refine ⟨_,rfl,a,_,rfl,.inr (SqT.of (sm _ _ hA)),_,rfl,by rw [lrv];omega,by rw [lrv];omega,fun p2 hp2=>?_⟩
    refine lc_range (p:=p2) (lo:=0) (n:=((((rs.map V.ref).length:Nat):Int)).toNat) (fun k σ Hd=>∃ (v:Option V),σ=[v,some (.int (x:Int))]∧Same Hc Hd∧Hd p2=some (.lst ((((List.range k).map fun k=>((x / 2 ^ k % 2:Nat):Int))).map V.int))) ?_ ?_ ?_
    ·exact ⟨none,rfl,same_new hp2 _,upd_same⟩
    ·refine fun k σ Hd hk hI_12=>opq fun G_12 hG_12=>?_
     obtain ⟨v,rfl,sd,hpd⟩:=hI_12
     refine hG_12 ?_
     rw [lrn] at hk
     have e0:(0+(k:Int)).toNat=k:=by omega
     refine ⟨_,rfl,_,rfl,_,_,rfl,rfl,(by show (0:Int)≤0+(k:Int);omega),_,_,rfl,rfl,_,hpd,small1000 (by rw [List.length_map,List.length_map,List.length_range];omega),_,rfl,same_put sd hp2,?_⟩
     dsimp only
     rw [upd_same,e0,bit_nat,List.range_succ,List.map_append,List.map_append]
     rfl
    ·refine fun σ Hd hI_13=>opq fun G_13 hG_13=>?_
     obtain ⟨v,rfl,sd,hpd⟩:=hI_13
     refine hG_13 ?_
     rw [lrn] at hpd
     refine ⟨p2,_,rfl,SqL.of hpd,_,rfl,_,_,rfl,rfl,_,rfl,?_⟩
     dsimp only
     rw [cast_sum]
     have gp1:=sd _ _ gp
     have gd1:=sd _ _ gd
     have gz1:=sd _ _ gz
     have gc1:=sd _ _ gc
     have sm1:=sm.trans sd
     clear gp gd gz gc sm hpd sd hp2
     refine ite2 (fun cr=>?_) (fun cr=>?_)
     ·have cr':(cntN net.length x:Int)<rooms:=of_decide_eq_true cr
      refine ⟨_,rfl,a,_,rfl,.inr (SqT.of (sm1 _ _ hA)),_,rfl,by rw [lrv];omega,by rw [lrv];omega,for_range (lo:=0) (n:=((((rs.map V.ref).length:Nat):Int)).toNat) (fun k σ Hc=>∃ (ks ly:List Nat) (f:Nat→Nat) (v8 v11:Option V),σ=[some (.ref a),some (.int rooms),some (.ref p),some (.ref d),some (.ref lz),some (.int ((many+1:Nat):Int)),some (.ref c),some (.int (at_:Int)),v8,v9,some (.int (x:Int)),v11]∧Same H Hc∧Hc p=some (.lst ((natI (net.map mskN)).map V.int))∧Hc d=some (.dK (kvN ks f))∧Hc lz=some (.lst ((natI ly).map V.int))∧Hc c=some (.lst ((natI cl).map V.int))∧A2 net rooms many ks f cl ly i k∧many+1+ly.length≤ks.length)
       ⟨ks,ly,f,v8,v11,rfl,sm1,gp1,gd1,gz1,gc1,J,lk⟩ ?_ ?_⟩
      ·clear gp1 gd1 gz1 gc1 sm1 J lk
       refine fun k σ Hc hk hI_14=>opq fun G_14 hG_14=>?_
       obtain ⟨ks,ly,f,v8,v11,rfl,sm,gp,gd,gz,gc,J,lk⟩:=hI_14
       refine hG_14 ?_
       rw [lrn] at hk
       have kl:=J.fd.len
       have e0:(0+(k:Int)).toNat=k:=by omega
       have hzn:=List.getElem?_eq_getElem hk
       have gm:atI ((natI (net.map mskN)).map V.int) (0+(k:Int))=some (.int ((nxt net k:Nat):Int)):=get_at (by omega) (by
        rw [e0,List.getElem?_map,natI_get (b:=nxt net k) (by rw [List.getElem?_map,hzn];unfold nxt;rw [hzn];rfl)]
        rfl)
       refine cut fun L1 hL1=>?_
       refine ⟨_,rfl,_,rfl,_,_,rfl,rfl,pow_c (by omega) (by omega),_,_,rfl,rfl,?_⟩
       dsimp only
       rw [e0,pow_nat,bitOr_nat]
       refine hL1 _ _ ?_
       refine ⟨_,rfl,_,rfl,_,rfl,p,_,_,_,rfl,rfl,SqL.of gp,gm,_,_,rfl,rfl,_,rfl,_,rfl,p,_,_,_,rfl,rfl,SqL.of gp,gm,rfl,_,rfl,?_⟩
       dsimp only
       have dec:decide (V.int (Builtin.bitAnd (x:Int) ((nxt net k:Nat):Int))=V.int ((nxt net k:Nat):Int))=decide (x &&& nxt net k=nxt net k):=decide_eq_decide.mpr ⟨fun z=>by have:=V.int.inj z;rw [bitAnd_nat] at this;omega,fun z=>by rw [bitAnd_nat,z]⟩
       rw [dec]
       by_cases cm:x &&& nxt net k=nxt net k
       ·rw [decide_eq_true cm]
        have cn:can net rooms x k:=⟨cr',hk,cm⟩
        refine ⟨_,rfl,_,rfl,d,_,rfl,DGet.k (k:=Sum.inl ((x ||| 2 ^ k:Nat):Int)) gd,_,rfl,?_⟩
        rw [kvN_val]
        by_cases ck:x ||| 2 ^ k ∈ ks
        ·rw [if_pos ck]
         exact ⟨ks,ly,f,_,_,rfl,sm,gp,gd,gz,gc,J.hit ec fun _=>ck,lk⟩
        ·rw [if_neg ck]
         refine iteT (cut fun L3 hL3=>?_)
         refine ⟨_,rfl,_,rfl,_,rfl,d,_,rfl,DPut.k (k:=Sum.inl ((x ||| 2 ^ k:Nat):Int)) gd (small_n (by rw [kvN_len];omega)),?_⟩
         rw [kvN_put ck]
         refine hL3 _ _ ?_
         have gz1:(upd Hc d (.dK (kvN (ks++[x ||| 2 ^ k]) (fset f (x ||| 2 ^ k) (many+1))))) lz=some (.lst ((natI ly).map V.int)):=by rw [upd_ne ndz.symm];exact gz
         refine ⟨_,rfl,.inl ⟨rfl,_,SqL.of gz1⟩,_,rfl,lz,_,_,rfl,rfl,gz1,small_n (by rw [List.length_map,natI_len];omega),?_⟩
         refine ⟨ks++[x ||| 2 ^ k],ly++[x ||| 2 ^ k],fset f (x ||| 2 ^ k) (many+1),_,_,rfl,same_put (same_put sm fdn) flz,by rw [upd_ne npz,upd_ne npd];exact gp,by rw [upd_ne ndz,upd_same],?_,by rw [upd_ne ncz,upd_ne ndc.symm];exact gc,J.add ec cn ck,by rw [List.length_append,List.length_append,List.length_singleton];omega⟩
         rw [upd_same,natI_snoc,List.map_append]
         rfl
       ·rw [decide_eq_false cm]
        exact ⟨ks,ly,f,_,_,rfl,sm,gp,gd,gz,gc,J.hit ec fun c=>absurd c.2.2 cm,lk⟩
      ·refine fun σ Hc hI_15=>opq fun G_15 hG_15=>?_
       obtain ⟨ks,ly,f,v8,v11,rfl,sm,gp,gd,gz,gc,J,lk⟩:=hI_15
       refine hG_15 ?_
       rw [lrn] at J
       exact ⟨ks,ly,f,_,_,_,rfl,sm,gp,gd,gz,gc,J.next,lk⟩
     ·have cr':¬ (cntN net.length x:Int)<rooms:=of_decide_eq_false (Bool.eq_false_iff.mpr cr)
      exact ⟨ks,ly,f,_,_,_,rfl,sm1,gp1,gd1,gz1,gc1,J.skip ec cr',lk⟩
   ·refine fun σ Hc hI_16=>opq fun G_16 hG_16=>?_
    obtain ⟨ks,ly,f,v8,v10,v11,rfl,sm,gp,gd,gz,gc,J,lk⟩:=hI_16
    refine hG_16 ?_
    have kl:=J.fd.len
    rw [List.length_map,natI_len] at J
    refine ⟨2 ^ net.length+1 - (many+1),by omega,ks,ly,f,many+1,lz,_,_,_,_,_,_,rfl,rfl,sm,gp,gd,gz,J.one (Nat.le_refl _),fun hne=>?_⟩
    have:=List.length_pos_iff.mpr hne
    omega
 ·have le:ly=[]:=by
   cases ly with
   | nil=>rfl
   | cons x xs=>exact absurd rfl cn
  subst le
  refine hN5 _ _ ?_
  refine ⟨_,rfl,d,_,rfl,gd1,fun o=>?_⟩
  exact q d o ks f _ (same_put sm1 fdn) fdn upd_same I1.come
end
section
variable {P:Program} {w:World} {K:PySem.W.Frag} {mg:Str→Option Value} {base:Heap} {f:Addr} {fd:FuncData} {f_Lneeded f_Lbits f_Lpart f_Lcome f_Ldone_in:Addr} {fd_Lneeded fd_Lbits fd_Lpart fd_Lcome fd_Ldone_in:FuncData}
def prs (ws:List Int) (i:Nat):List (Int × V):=(List.range i).map fun (j:Nat)=>((ws[j]?).getD 0,V.int (j:Int))
theorem prs_snoc {ws:List Int} {i:Nat} {y:Int} (h:ws[i]?=some y):prs ws (i+1)=prs ws i++[(y,V.int (i:Int))]:=by
 unfold prs
 rw [List.range_succ,List.map_append,List.map_singleton,h]
 rfl
theorem prs_val {ws:List Int} (nd:ws.Nodup) (x:Int):∀ i,i≤ws.length→valV (putAll [] (prs ws i)) (Sum.inl x)=(posOf (ws.take i) x).map V.int
 | 0,_=>by simp [prs,putAll,valV,posOf]
 | i+1,h=>by
  have e:=List.getElem?_eq_getElem (show i<ws.length by omega)
  generalize ws[i]=y at e
  rw [prs_snoc e,posOf_snoc nd e x]
  unfold putAll
  rw [List.foldl_append]
  show valV (putK (putAll [] (prs ws i)) (Sum.inl y) (V.int (i:Int))) (Sum.inl x)=_
  rw [valV_put,prs_val nd x i (by omega)]
  by_cases c:x=y
  ·rw [c,if_pos rfl,if_pos rfl];rfl
  ·rw [if_neg fun z=>c (Sum.inl.inj z),if_neg c]
theorem fm_snoc {zs:List Int} {g:Int→Option Int} {j:Nat} {z:Int} (h:zs[j]?=some z):(zs.take (j+1)).filterMap g=(zs.take j).filterMap g++(g z).toList:=by
 rw [List.take_add_one,h,Option.toList_some,List.filterMap_append]
 cases e:g z <;> simp [e]
theorem sc_Lpart:FnScope ["_law_net","_law_works","_law_number"] ["_law_net","_law_works"] (defScope s_Lpart):=⟨rfl,rfl,rfl,by decide +kernel,rfl,by decide +kernel,by decide +kernel⟩
theorem ok_Lpart (F:Fun K "_law_part" "_law_part" s_Lpart f fd) (z_dict:mg "dict" = none) (z_enumerate:mg "enumerate" = none) (z_tuple:mg "tuple" = none):FnOk P w K mg base CX0 1 f fd ["_law_net","_law_works"] spPartW:=by
 refine F.ok sc_Lpart (fun vs H Q E h=>?_) (fun cdv A outer s H vs Q E hr h=>?_)
 ·obtain ⟨a,l,net,ws,rfl,_⟩:=h
  rfl
 obtain ⟨a,l,net,ws,rfl,hN,wf,n60,hL,rW,q⟩:=h
 have hu:=hu_of hr
 refine ⟨_,(pss_cons (ps_set (i:=2) sc_Lpart.nd rfl (Or.inr rfl) (pe_callTy (call_dictP rfl) rfl z_dict bt_dict (pa_cons (pe_lc rfl (lcs (own:=["_law_place","_law_work"]) (fv:=[]) (by kernel_rfl)) (pi_enum rfl z_enumerate bt_enumerate (pa_cons (pv 1) pa_nil)) (fun z1=>pg_tupK (K:=K) (n:=2) rfl rfl (pgs_cons (pg_name (i:=0) (nd_of (by kernel_rfl)) rfl (Or.inl rfl)) (pgs_cons (pg_name (i:=1) (nd_of (by kernel_rfl)) rfl (Or.inl rfl)) pgs_nil)) rfl rfl) (fun z1=>pts_nil) (fun z1=>(pe_tup (pa_cons (pv 1) (pa_cons (pv 0) pa_nil))))) pa_nil))) (pss_one (ps_ret (pe_callTy call_tuple_of rfl z_tuple bt_tuple (pa_cons (pe_lc rfl (lcs (own:=["_law_work"]) (fv:=[0,2]) (by kernel_rfl)) (pi_list (pv 1)) (fun z2=>pg_name (i:=0) (nd_of (by kernel_rfl)) rfl (Or.inl rfl)) (fun z2=>pts_nil) (fun z2=>(pe_callTy (call_tupleK (K:=K) rfl) rfl z_tuple bt_tuple (pa_cons (pe_lc (X:=lcCx _ _ _ _ z2) rfl (lcs (own:=["_law_need"]) (fv:=[2]) (by kernel_rfl)) (pi_tupK (K:=K) rfl (pe_ix (ix_tupK (K:=K) rfl) (pv 1) (pv 0) (fun _ _=>rfl))) (fun z3=>pg_name (i:=0) (nd_of (by kernel_rfl)) rfl (Or.inl rfl)) (fun z3=>(pts_one (pt_cmp (pc_din hu (pv 0) (pv 1))))) (fun z3=>(pe_dget hu (pv 1) (pv 0) (fun _ _=>rfl)))) pa_nil)))) pa_nil))))),?_⟩
 try dsimp only [Cx.nox,Cx.wish,cxOf]
 obtain ⟨rs,hA,NL⟩:=id hN
 have lw:=rW.len
 refine cut fun N1 hN1=>?_
 refine ⟨_,rfl,l,rfl,⟨_,SqL.of hL⟩,fun p hp=>?_⟩
 refine lc_enum (p:=p) (a:=l) (xs:=ws.map V.int) (fun i σ Hc=>∃ (v0 v1:Option V) (qs:List Addr),σ=[v0,v1]∧Same H Hc∧Hc p=some (.lst (qs.map V.ref))∧Paired (fun r (z:Int × V)=>Hc r=some (.tup [.int z.1,z.2])) qs (prs ws i)) ?_ ?_ ?_ ?_
 ·exact ⟨none,none,[],rfl,same_new hp _,upd_same,.nil⟩
 ·rintro i σ Hc hi ⟨v0,v1,qs,rfl,sm,_⟩
  exact SqL.of (sm _ _ hL)
 ·refine fun i x σ Hc T hx hI_2 hT=>opq fun G_2 hG_2=>?_
  obtain ⟨v0,v1,qs,rfl,sm,hpc,PQ⟩:=hI_2
  obtain ⟨y,ey,rfl⟩:=get_int hx
  refine hG_2 ?_
  have hi:=(List.getElem?_eq_some_iff.mp ey).1
  have lQ:qs.length=i:=by have:=Paired.length PQ;rw [this];simp [prs]
  have sT:=same_new hT (.tup [.int (i:Int),.int y])
  refine ⟨T,_,rfl,SqT.of upd_same,rfl,_,_,rfl,_,_,rfl,rfl,?_⟩
  refine ⟨_,rfl,_,rfl,(by show 2≤sizeLine;decide),fun r hr1=>?_⟩
  have s2:=sT.trans (same_new hr1 (.tup [.int y,.int (i:Int)]))
  have g2:=s2 _ _ hpc
  refine ⟨_,g2,small1000 (by rw [List.length_map];omega),?_⟩
  rw [map_snoc]
  refine ⟨_,_,qs++[r],rfl,same_put (sm.trans s2) hp,upd_same,?_⟩
  rw [prs_snoc ey]
  refine Paired.snoc (paired_imp PQ fun r' z' e=>?_) ?_
  ·have e2:=s2 _ _ e
   rw [upd_ne (ne_of e2 g2 (fun z=>nomatch z))]
   exact e2
  ·rw [upd_ne (ne_of_none (sT _ _ hpc) hr1).symm]
   exact upd_same
 refine fun σ Hc hI_3=>opq fun G_3 hG_3=>?_
 obtain ⟨v0,v1,qs,rfl,sm,hpc,PQ⟩:=hI_3
 refine hG_3 ?_
 rw [List.length_map] at PQ
 have pp:∀ {qs:List Addr} {zs:List (Int × V)},Paired (fun r (z:Int × V)=>Hc r=some (.tup [.int z.1,z.2])) qs zs→pairs2 Hc K qs zs:=by
  intro qs zs h
  induction h with
  | nil=>exact .nil
  | cons h t ih=>exact .cons (SqT.of h) ih
 refine ⟨p,qs,prs ws ws.length,rfl,SqL.of hpc,pp PQ,fun d hd=>?_⟩
 have sd:=sm.trans (same_new hd (.dK (putAll [] (prs ws ws.length))))
 have gd:(upd Hc d (.dK (putAll [] (prs ws ws.length)))) d=some (.dK (putAll [] (prs ws ws.length))):=upd_same
 have vd:∀ x,valV (putAll [] (prs ws ws.length)) (Sum.inl x)=(posOf ws x).map V.int:=fun x=>by rw [prs_val rW.nodup x _ (Nat.le_refl _),take_all rfl]
 generalize upd Hc d (.dK (putAll [] (prs ws ws.length)))=H1 at sd gd ⊢
 generalize putAll [] (prs ws ws.length)=kvs at gd vd
 refine hN1 _ _ ?_
 refine ⟨_,rfl,l,rfl,⟨_,SqL.of (sd _ _ hL)⟩,fun p1 hp1=>?_⟩
 refine lc_list (p:=p1) (a:=l) (xs:=ws.map V.int) (fun i σ Hc=>∃ (v0:Option V) (qs:List Addr),σ=[v0,some (.ref a),some (.ref d)]∧Same H1 Hc∧Hc p1=some (.lst (qs.map V.ref))∧NetL Hc qs ((ws.take i).map fun w=>((net[w.toNat]?).getD []).filterMap (posOf ws))) ?_ ?_ ?_ ?_
 ·exact ⟨none,[],rfl,same_new hp1 _,upd_same,.nil⟩
 ·rintro i σ Hc hi ⟨v0,qs,rfl,sm,_⟩
  exact SqL.of (sm _ _ (sd _ _ hL))
 ·refine fun i x σ Hc hx hI_5=>opq fun G_5 hG_5=>?_
  obtain ⟨v0,qs,rfl,sm,hpc,NQ⟩:=hI_5
  obtain ⟨y,ey,rfl⟩:=get_int hx
  refine hG_5 ?_
  have hi:=(List.getElem?_eq_some_iff.mp ey).1
  have lQ:qs.length≤i:=by have:=Paired.length NQ;rw [this,List.length_map,List.length_take];omega
  have yb:=rW.in_ y (List.mem_of_getElem? ey)
  have hy:y.toNat<net.length:=by omega
  have hz:=List.getElem?_eq_getElem hy
  obtain ⟨r,h3,h4⟩:=NL.get hz
  have rz:=wf y.toNat _ hz
  generalize net[y.toNat]=zs at h4 hz rz
  have lz:=rz.len
  have hA1:=sm _ _ (sd _ _ hA)
  have h41:=sm _ _ (sd _ _ h4)
  refine ⟨_,rfl,_,rfl,a,_,_,_,rfl,rfl,SqT.of hA1,get_at yb.1 (by rw [List.getElem?_map,h3];rfl),r,rfl,⟨_,SqT.of h41⟩,fun p2 hp2=>?_⟩
  refine lc_tup (p:=p2) (a:=r) (xs:=zs.map V.int) (fun j σ Hd=>∃ (v:Option V),σ=[v,some (.ref d)]∧Same Hc Hd∧Hd p2=some (.lst (((zs.take j).filterMap (posOf ws)).map V.int))) ?_ ?_ ?_ ?_
  ·exact ⟨none,rfl,same_new hp2 _,upd_same⟩
  ·rintro j σ Hd hj ⟨v,rfl,se,_⟩
   exact SqT.of (se _ _ h41)
  ·refine fun j x σ Hd hx hI_7=>opq fun G_7 hG_7=>?_
   obtain ⟨v,rfl,se,hpe⟩:=hI_7
   obtain ⟨z,ez,rfl⟩:=get_int hx
   refine hG_7 ?_
   have hj:=(List.getElem?_eq_some_iff.mp ez).1
   have gdd:=se _ _ (sm _ _ gd)
   have lf:((zs.take j).filterMap (posOf ws)).length≤j:=Nat.le_trans (List.length_filterMap_le _ _) (by rw [List.length_take];omega)
   refine ⟨_,rfl,_,rfl,d,_,rfl,DGet.k (k:=Sum.inl z) gdd,_,rfl,?_⟩
   rw [vd z,fm_snoc ez]
   cases e:posOf ws z with
   | none=>
    refine ⟨_,rfl,se,?_⟩
    simpa using hpe
   | some v=>
    have hg:=DGet.k (k:=Sum.inl z) gdd
    rw [vd z,e] at hg
    refine ⟨_,rfl,_,rfl,d,_,rfl,hg,_,hpe,small1000 (by rw [List.length_map];omega),_,rfl,same_put se hp2,?_⟩
    rw [upd_same,List.map_append]
    rfl
  ·refine fun σ Hd hI_8=>opq fun G_8 hG_8=>?_
   obtain ⟨v,rfl,se,hpe⟩:=hI_8
   refine hG_8 ?_
   rw [List.length_map,take_all rfl] at hpe
   refine ⟨p2,_,rfl,.inl ⟨SqL.of hpe,fun tq htq=>?_⟩⟩
   have sq:=se.trans (same_new htq (.tup ((zs.filterMap (posOf ws)).map V.int)))
   have g1:=sq _ _ hpc
   refine ⟨_,g1,small1000 (by rw [List.length_map];omega),?_⟩
   rw [map_snoc]
   refine ⟨_,qs++[tq],rfl,same_put (sm.trans sq) hp1,upd_same,?_⟩
   have e7:((ws.take (i+1)).map fun w=>((net[w.toNat]?).getD []).filterMap (posOf ws))=((ws.take i).map fun w=>((net[w.toNat]?).getD []).filterMap (posOf ws))++[zs.filterMap (posOf ws)]:=by
    rw [List.take_add_one,ey,Option.toList_some,List.map_append,List.map_singleton,hz,Option.getD_some]
   rw [e7]
   exact netl_put (lcs_snoc (NQ.same fun r' ys e=>sq _ _ e) upd_same) g1
 ·refine fun σ Hc hI_9=>opq fun G_9 hG_9=>?_
  obtain ⟨v0,qs,rfl,sm,hpc,NQ⟩:=hI_9
  refine hG_9 ?_
  rw [List.length_map,take_all rfl] at NQ
  refine ⟨p1,_,rfl,.inl ⟨SqL.of hpc,fun b hb=>?_⟩⟩
  have sb:=same_new hb (.tup (qs.map V.ref))
  exact q b _ (sd.trans (sm.trans sb)) ⟨qs,upd_same,NQ.same fun r ys e=>sb _ _ e⟩
theorem sc_Lbits:FnScope ["_law_works"] ["_law_works"] (defScope s_Lbits):=⟨rfl,rfl,rfl,by decide +kernel,rfl,by decide +kernel,by decide +kernel⟩
theorem ok_Lbits (F:Fun K "_law_bits" "_law_bits" s_Lbits f fd) (z_sum:mg "sum" = none):FnOk P w K mg base CX0 1 f fd ["_law_works"] spBits:=by
 refine F.ok sc_Lbits (fun vs H Q E h=>?_) (fun cdv A outer s H vs Q E hr h=>?_)
 ·obtain ⟨l,ws,rfl,_⟩:=h
  rfl
 obtain ⟨l,ws,rfl,hL,inw,lw,q⟩:=h
 refine ⟨_,(pss_one (ps_ret (pe_callB (call_sum rfl) rfl z_sum bt_sum (pa_cons (pe_lc rfl (lcs (own:=["_law_work"]) (fv:=[]) (by kernel_rfl)) (pi_list (pv 0)) (fun z4=>pg_name (i:=0) (nd_of (by kernel_rfl)) rfl (Or.inl rfl)) (fun z4=>pts_nil) (fun z4=>(pe_op op_shl pe_int (pv 0)))) pa_nil)))),?_⟩
 try dsimp only [Cx.nox,Cx.wish,cxOf]
 refine ⟨_,rfl,l,rfl,⟨_,SqL.of hL⟩,fun p hp=>?_⟩
 refine lc_list (p:=p) (a:=l) (xs:=ws.map V.int) (fun i σ He=>∃ (v:Option V),σ=[v]∧Same H He∧He p=some (.lst (((ws.take i).map fun z=>(1:Int) * 2 ^ z.toNat).map V.int))) ?_ ?_ ?_ ?_
 ·exact ⟨none,rfl,same_new hp _,upd_same⟩
 ·rintro i σ He hi ⟨v,rfl,se,_⟩
  exact SqL.of (se _ _ hL)
 ·refine fun i x σ He hx hI_11=>opq fun G_11 hG_11=>?_
  obtain ⟨v,rfl,se,hpe⟩:=hI_11
  obtain ⟨z,ez,rfl⟩:=get_int hx
  refine hG_11 ?_
  have hi:=(List.getElem?_eq_some_iff.mp ez).1
  have zb:=inw z (List.mem_of_getElem? ez)
  refine ⟨_,rfl,_,_,rfl,rfl,⟨zb.1,by omega,by decide⟩,_,hpe,small1000 (by rw [List.length_map,List.length_map,List.length_take];omega),_,rfl,same_put se hp,?_⟩
  rw [upd_same,List.take_add_one,ez,Option.toList_some,List.map_append,List.map_append]
  rfl
 ·refine fun σ He hI_12=>opq fun G_12 hG_12=>?_
  obtain ⟨v,rfl,se,hpe⟩:=hI_12
  refine hG_12 ?_
  rw [List.length_map,take_all rfl] at hpe
  refine ⟨p,_,rfl,SqL.of hpe,?_⟩
  rw [msk_sum]
  exact q He se
theorem sc_Ldone_in:FnScope ["_law_net","_law_asked","_law_rooms","_law_works","_law_want"] ["_law_net","_law_asked","_law_rooms"] (defScope s_Ldone_in):=⟨rfl,rfl,rfl,by decide +kernel,rfl,by decide +kernel,by decide +kernel⟩
theorem ok_Ldone_in (F:Fun K "_law_done_in" "_law_done_in" s_Ldone_in f fd) (G_Lneeded:FnOk P w K mg base CX0 1 f_Lneeded fd_Lneeded ["_law_net","_law_asked"] spNeeded) (b_Lneeded:Binds K fd_Lneeded ["_law_net","_law_asked"] []) (k_Lneeded:PySem.W.keepIn K (.ref f_Lneeded)=true) (m_Lneeded:mg "_law_needed" = some (.ref f_Lneeded)) (G_Lbits:FnOk P w K mg base CX0 1 f_Lbits fd_Lbits ["_law_works"] spBits) (b_Lbits:Binds K fd_Lbits ["_law_works"] []) (k_Lbits:PySem.W.keepIn K (.ref f_Lbits)=true) (m_Lbits:mg "_law_bits" = some (.ref f_Lbits)) (G_Lpart:FnOk P w K mg base CX0 1 f_Lpart fd_Lpart ["_law_net","_law_works"] spPartW) (b_Lpart:Binds K fd_Lpart ["_law_net","_law_works"] []) (k_Lpart:PySem.W.keepIn K (.ref f_Lpart)=true) (m_Lpart:mg "_law_part" = some (.ref f_Lpart)) (G_Lcome:FnOk P w K mg base CX0 1 f_Lcome fd_Lcome ["_law_net","_law_rooms"] spCome) (b_Lcome:Binds K fd_Lcome ["_law_net","_law_rooms"] []) (k_Lcome:PySem.W.keepIn K (.ref f_Lcome)=true) (m_Lcome:mg "_law_come" = some (.ref f_Lcome)) (z_enumerate:mg "enumerate" = none) (z_any:mg "any" = none):FnOk P w K mg base CX0 2 f fd ["_law_net","_law_asked","_law_rooms"] spDoneIn:=by
 refine F.ok sc_Ldone_in (fun vs H Q E h=>?_) (fun cdv A outer s H vs Q E hr h=>?_)
 ·obtain ⟨a,t,net,asked,ws,rooms,rfl,_⟩:=h
  rfl
 obtain ⟨a,t,net,asked,ws,rooms,rfl,hN,wf,n12,⟨hT,rA⟩,ND,q⟩:=h
 have hr_Lneeded:Room 1 _:=hr.mono (by decide)
 have hr_Lbits:Room 1 _:=hr.mono (by decide)
 have hr_Lpart:Room 1 _:=hr.mono (by decide)
 have hr_Lcome:Room 1 _:=hr.mono (by decide)
 refine ⟨_,(pss_cons (ps_set (i:=3) sc_Ldone_in.nd rfl (Or.inl rfl) (pe_call G_Lneeded hr_Lneeded rfl m_Lneeded k_Lneeded b_Lneeded .nil pass0 (pa_cons (pv 0) (pa_cons (pv 1) pa_nil)))) (pss_cons (ps_set (i:=4) sc_Ldone_in.nd rfl (Or.inr rfl) (pe_call G_Lbits hr_Lbits rfl m_Lbits k_Lbits b_Lbits .nil pass0 (pa_cons (pe_lc rfl (lcs (own:=["_law_place","_law_work"]) (fv:=[1]) (by kernel_rfl)) (pi_enum rfl z_enumerate bt_enumerate (pa_cons (pv 3) pa_nil)) (fun z5=>pg_tupK (K:=K) (n:=2) rfl rfl (pgs_cons (pg_name (i:=0) (nd_of (by kernel_rfl)) rfl (Or.inl rfl)) (pgs_cons (pg_name (i:=1) (nd_of (by kernel_rfl)) rfl (Or.inl rfl)) pgs_nil)) rfl rfl) (fun z5=>(pts_one (pt_cmpR (op_inK (K:=K) rfl) (pv 1) (pv 2) (by with_unfolding_all rfl)))) (fun z5=>(pv 0))) pa_nil))) (pss_one (ps_ret (pe_callB (call_any rfl) rfl z_any bt_any (pa_cons (pe_lc rfl (lcs (own:=["_law_bits_here"]) (fv:=[4]) (by kernel_rfl)) (pi_dictF (pe_call G_Lcome hr_Lcome rfl m_Lcome k_Lcome b_Lcome .nil pass0 (pa_cons (pe_call G_Lpart hr_Lpart rfl m_Lpart k_Lpart b_Lpart .nil pass0 (pa_cons (pv 0) (pa_cons (pv 3) pa_nil))) (pa_cons (pv 2) pa_nil)))) (fun z6=>pg_name (i:=0) (nd_of (by kernel_rfl)) rfl (Or.inl rfl)) (fun z6=>pts_nil) (fun z6=>(pe_cmpR op_eq (pe_op op_and (pv 0) (pv 1)) (pv 1) (nomark _)))) pa_nil)))))),?_⟩
 try dsimp only [Cx.nox,Cx.wish,cxOf]
 have rW:=ND.1
 have lw:=rW.len
 refine cut fun N1 hN1=>?_
 refine ⟨_,rfl,_,rfl,a,t,net,asked,rfl,hN,wf,by omega,⟨hT,rA⟩,fun l zs H1 sm1 fl gl nd=>?_⟩
 have ezw:zs=ws:=needed_one nd ND
 subst ezw
 refine hN1 _ _ (cut fun N2 hN2=>?_)
 refine ⟨_,rfl,l,rfl,⟨_,SqL.of gl⟩,fun p hp=>?_⟩
 refine lc_enum (p:=p) (a:=l) (xs:=zs.map V.int) (fun i σ Hc=>∃ (v0 v1:Option V),σ=[v0,v1,some (.ref t)]∧Same H1 Hc∧Hc p=some (.lst ((((rangeI 0 zs.length).take i).filter fun p=>decide ((zs[p.toNat]?).getD 0 ∈ asked)).map V.int))) ?_ ?_ ?_ ?_
 ·exact ⟨none,none,rfl,same_new hp _,upd_same⟩
 ·rintro i σ Hc hi ⟨v0,v1,rfl,sm,_⟩
  exact SqL.of (sm _ _ gl)
 ·refine fun i x σ Hc T hx hI_14 hT2=>opq fun G_14 hG_14=>?_
  obtain ⟨v0,v1,rfl,sm,hpc⟩:=hI_14
  obtain ⟨y,ey,rfl⟩:=get_int hx
  refine hG_14 ?_
  have hi:=(List.getElem?_eq_some_iff.mp ey).1
  have sT:=same_new hT2 (.tup [.int (i:Int),.int y])
  have smT:=sm.trans sT
  have hpT:=sT _ _ hpc
  have lk:=filter_take_len (p:=fun p=>decide ((zs[p.toNat]?).getD 0 ∈ asked)) (l:=rangeI 0 zs.length) (i:=i)
  refine ⟨T,_,rfl,SqT.of upd_same,rfl,_,_,rfl,_,_,rfl,rfl,?_⟩
  refine ⟨_,rfl,_,rfl,t,_,rfl,.inr (SqT.of (smT _ _ (sm1 _ _ hT))),rfl,flat_ints asked,_,rfl,?_⟩
  rw [inV_int,filter_snoc (rangeI0_get (by omega))]
  have ez:(zs[((i:Int)).toNat]?).getD 0=y:=by rw [Int.toNat_natCast,ey];rfl
  rw [ez]
  by_cases hw:y ∈ asked
  ·rw [decide_eq_true hw]
   refine ⟨_,rfl,_,hpT,small1000 (by rw [List.length_map];omega),_,_,rfl,same_put smT hp,?_⟩
   rw [upd_same,if_pos rfl,List.map_append]
   rfl
  ·rw [decide_eq_false hw]
   refine ⟨_,_,rfl,smT,?_⟩
   simpa using hpT
 ·refine fun σ Hc hI_15=>opq fun G_15 hG_15=>?_
  obtain ⟨v0,v1,rfl,sm,hpc⟩:=hI_15
  refine hG_15 ?_
  rw [List.length_map,take_all (by rw [rangeI_len];omega)] at hpc
  have lf:((rangeI 0 zs.length).filter fun p=>decide ((zs[p.toNat]?).getD 0 ∈ asked)).length≤zs.length:=filter_len
  refine ⟨p,_,rfl,hpc,fun x hx=>?_,by omega,fun H2 sm2=>?_⟩
  ·have:=mem_rangeI.mp (List.mem_filter.mp hx).1
   omega
  show N2 [some (.ref a),some (.ref t),some (.int rooms),some (.ref l),some (.int ((wantN zs asked:Nat):Int))] H2
  have s2:=sm.trans sm2
  generalize hwn:wantN zs asked=want
  refine hN2 _ _ ?_
  refine ⟨_,rfl,_,rfl,a,l,net,zs,rfl,hN.same (sm1.trans s2),wf,by omega,s2 _ _ gl,rW,fun b H3 sm3 hP=>?_⟩
  have lp:(partL net zs).length≤12:=by rw [partL_len];omega
  refine ⟨_,rfl,b,partL net zs,rooms,rfl,hP,partL_rise wf rW,lp,fun d o ks g H4 sm4 fd4 gd C=>?_⟩
  refine ⟨d,o,kvN ks g,rfl,gd,fun p1 hp1=>?_⟩
  refine lc_dictF (p:=p1) (a:=d) (o:=o) (kvs:=kvN ks g) (fun i σ Hc=>∃ (v:Option V),σ=[v,some (.int (want:Int))]∧Same H4 Hc∧Hc p1=some (.lst (((ks.take i).map fun b=>decide (b &&& want=want)).map V.bl))) ?_ ?_ ?_ ?_
  ·exact ⟨none,rfl,same_new hp1 _,upd_same⟩
  ·refine fun i σ Hd hi hI_16=>opq fun G_16 hG_16=>?_
   obtain ⟨v,rfl,sd,_⟩:=hI_16
   refine hG_16 ?_
   exact sd _ _ gd
  ·refine fun i k v1 σ Hd hk hI_17=>opq fun G_17 hG_17=>?_
   obtain ⟨v,rfl,sd,hpd⟩:=hI_17
   refine hG_17 ?_
   unfold kvN at hk
   rw [List.getElem?_map] at hk
   cases e:ks[i]? with
   | none=>rw [e] at hk;cases hk
   | some x=>
    rw [e] at hk
    cases hk
    have kl:ks.length≤2 ^ (partL net zs).length:=below_len C.nd fun b hb=>(C.snd b hb).1.lt
    have k2:2 ^ (partL net zs).length≤2 ^ 12:=Nat.pow_le_pow_right (by decide) lp
    have hi:=(List.getElem?_eq_some_iff.mp e).1
    refine ⟨_,rfl,_,rfl,_,_,rfl,rfl,_,rfl,rfl,_,hpd,small_n (by rw [List.length_map,List.length_map,List.length_take];omega),_,rfl,same_put sd hp1,?_⟩
    dsimp only
    have dec:decide (V.int (Builtin.bitAnd (x:Int) (want:Int))=V.int (want:Int))=decide (x &&& want=want):=decide_eq_decide.mpr ⟨fun z=>by have:=V.int.inj z;rw [bitAnd_nat] at this;omega,fun z=>by rw [bitAnd_nat,z]⟩
    rw [dec,upd_same,List.take_add_one,e,Option.toList_some,List.map_append,List.map_append]
    rfl
  ·refine fun σ Hd hI_18=>opq fun G_18 hG_18=>?_
   obtain ⟨v,rfl,sd,hpd⟩:=hI_18
   refine hG_18 ?_
   rw [kvN_len,take_all rfl] at hpd
   refine ⟨p1,_,rfl,SqL.of hpd,?_⟩
   refine q _ Hd (sm1.trans (s2.trans (sm3.trans (sm4.trans sd)))) ?_
   rw [List.any_eq_true]
   unfold DoneIn
   rw [hwn]
   constructor
   ·refine fun hI_19=>opq fun G_19 hG_19=>?_
    obtain ⟨b,hb,eb⟩:=hI_19
    obtain ⟨x,hx,rfl⟩:=List.mem_map.mp hb
    refine hG_19 ?_
    exact ⟨g x,x,(C.snd x hx).1,of_decide_eq_true eb⟩
   ·refine fun hI_20=>opq fun G_20 hG_20=>?_
    obtain ⟨m,x,r,hx⟩:=hI_20
    refine hG_20 ?_
    exact ⟨_,List.mem_map.mpr ⟨x,C.all m x r,rfl⟩,decide_eq_true hx⟩
theorem sc_Lleast:FnScope ["_law_net","_law_asked","_law_rooms"] ["_law_net","_law_asked"] (defScope s_Lleast):=⟨rfl,rfl,rfl,by decide +kernel,rfl,by decide +kernel,by decide +kernel⟩
theorem ok_Lleast (F:Fun K "_law_least" "_law_least" s_Lleast f fd) (G_Ldone_in:FnOk P w K mg base CX0 2 f_Ldone_in fd_Ldone_in ["_law_net","_law_asked","_law_rooms"] spDoneIn) (b_Ldone_in:Binds K fd_Ldone_in ["_law_net","_law_asked","_law_rooms"] []) (k_Ldone_in:PySem.W.keepIn K (.ref f_Ldone_in)=true) (m_Ldone_in:mg "_law_done_in" = some (.ref f_Ldone_in)):FnOk P w K mg base CX0 3 f fd ["_law_net","_law_asked"] spLeastR:=by
 refine F.ok sc_Lleast (fun vs H Q E h=>?_) (fun cdv A outer s H vs Q E hr h=>?_)
 ·obtain ⟨a,t,net,asked,ws,r,rfl,_⟩:=h
  rfl
 obtain ⟨a,t,net,asked,ws,r,rfl,hN,wf,n12,AT,ND,LR,q⟩:=h
 have hr_Ldone_in:Room 2 _:=hr.mono (by decide)
 refine ⟨_,(pss_cons (ps_set (i:=2) sc_Lleast.nd rfl (Or.inl rfl) pe_int) (pss_cons (ps_while PassesOwn.never (pt_not (pt_val (pe_call G_Ldone_in hr_Ldone_in rfl m_Ldone_in k_Ldone_in b_Ldone_in .nil pass0 (pa_cons (pv 0) (pa_cons (pv 1) (pa_cons (pv 2) pa_nil)))))) (pss_one (ps_set (i:=2) sc_Lleast.nd rfl (Or.inl rfl) (pe_op op_add (pv 2) pe_int)))) (pss_one (ps_ret (pv 2))))),?_⟩
 try dsimp only [Cx.nox,Cx.wish,cxOf]
 refine cut fun N1 hN1=>hN1 _ _ (cut fun N2 hN2=>?_)
 refine ⟨fun m σ Hc=>∃ (k:Int),σ=[some (.ref a),some (.ref t),some (.int k)]∧m=(r - k).toNat∧Same H Hc∧1≤k∧k≤r,⟨_,1,rfl,rfl,Same.refl H,by omega,LR.1⟩,?_⟩
 refine fun m σ Hc hI_21=>opq fun G_21 hG_21=>?_
 obtain ⟨k,rfl,rfl,sm,k1,k2⟩:=hI_21
 refine hG_21 ?_
 refine ⟨_,rfl,_,rfl,_,rfl,a,t,net,asked,ws,k,rfl,hN.same sm,wf,n12,⟨sm _ _ AT.1,AT.2⟩,ND,fun b H1 sm1 hb=>?_⟩
 refine ⟨b,rfl,?_⟩
 cases b with
 | true=>
  have e:k=r:=by
   have h1:=hb.mp rfl
   apply Classical.byContradiction
   intro z
   exact LR.2.2 k k1 (by omega) h1
  subst e
  exact hN2 _ _ ⟨_,rfl,q H1 (sm.trans sm1)⟩
 | false=>
  have e:k<r:=by
   apply Classical.byContradiction
   intro z
   have:k=r:=by omega
   subst this
   cases hb.mpr LR.2.1
  refine ⟨fun σ' H'=>∃ m',m'<(r - k).toNat∧_,fun σ' H' z=>z,?_⟩
  refine ⟨_,rfl,_,_,rfl,rfl,?_⟩
  exact ⟨(r - (k+1)).toNat,by omega,k+1,rfl,rfl,sm.trans sm1,by omega,by omega⟩
end
section
variable {P:Program} {w:World} {K:PySem.W.Frag} {mg:Str→Option Value} {base:Heap} {f:Addr} {fd:FuncData} {f_Ltake f_row_net f_square_net f_step_net f_row_rooms f_square_rooms f_step_rooms f_Lleast f_Lsame:Addr} {fd_Ltake fd_row_net fd_square_net fd_step_net fd_row_rooms fd_square_rooms fd_step_rooms fd_Lleast fd_Lsame:FuncData}
theorem sc_Lsquare_due:FnScope ["_law_n","_law_m"] ["_law_n","_law_m"] (defScope s_Lsquare_due):=⟨rfl,rfl,rfl,by decide +kernel,rfl,by decide +kernel,by decide +kernel⟩
theorem ok_Lsquare_due (F:Fun K "_law_square_due" "_law_square_due" s_Lsquare_due f fd) (z_min:mg "min" = none):FnOk P w K mg base CX0 1 f fd ["_law_n","_law_m"] spSqDue:=by
 refine F.ok sc_Lsquare_due (fun vs H Q E h=>?_) (fun cdv A outer s H vs Q E hr h=>?_)
 ·obtain ⟨n,m,rfl,_⟩:=h
  rfl
 obtain ⟨n,m,rfl,h1,h2,h3,h4,q⟩:=h
 refine ⟨_,(pss_cons (ps_if (pt_cmpR op_eq (pe_op op_mul (pv 0) (pv 1)) pe_int (nomark _)) (pss_one (ps_ret pe_int)) pss_nil) (pss_one (ps_ret (pe_ifExp (pt_cmpR op_in_seq pe_int (pe_tup (pa_cons (pv 0) (pa_cons (pv 1) pa_nil))) (by with_unfolding_all rfl)) pe_int (pe_op op_add (pe_callB (call_min2 rfl) rfl z_min bt_min (pa_cons (pv 0) (pa_cons (pv 1) pa_nil))) pe_int))))),?_⟩
 try dsimp only [Cx.nox,Cx.wish,cxOf]
 refine ⟨_,rfl,_,rfl,_,_,rfl,rfl,mul_ok (by omega) (by omega),rfl,_,rfl,?_⟩
 unfold sqTop at q
 refine ite2 (fun c=>?_) (fun c=>?_)
 ·have e:(n:Int) * (m:Int)=1:=V.int.inj (of_decide_eq_true c)
  have e':n * m=1:=by exact_mod_cast e
  rw [if_pos e'] at q
  exact q H (Same.refl H)
 ·have e:¬ n * m=1:=fun z=>c (decide_eq_true (by show V.int ((n:Int) * (m:Int))=V.int 1;rw [show (n:Int) * (m:Int)=1 by exact_mod_cast z]))
  rw [if_neg e] at q
  refine ⟨_,rfl,_,rfl,(by show 2≤sizeLine;decide),fun tq htq=>?_⟩
  have st:=same_new htq (.tup [.int (n:Int),.int (m:Int)])
  refine ⟨tq,_,rfl,.inr (SqT.of upd_same),rfl,rfl,_,rfl,?_⟩
  show (if (inV (.int 1) ([(n:Int),(m:Int)].map V.int))=true then _ else _)
  rw [inV_int]
  by_cases c1:(1:Int) ∈ [(n:Int),(m:Int)]
  ·rw [decide_eq_true c1]
   refine iteT ?_
   have e2:min n m=1:=by
    simp only [List.mem_cons,List.not_mem_nil,or_false] at c1
    omega
   rw [e2] at q
   exact q _ st
  ·rw [decide_eq_false c1]
   refine iteF ?_
   refine ⟨_,rfl,_,rfl,_,_,rfl,_,_,rfl,rfl,?_⟩
   have e2:(if (m:Int)<(n:Int) then (m:Int) else (n:Int))=((min n m:Nat):Int):=by split <;> omega
   dsimp only
   rw [e2]
   exact q _ st
def hwL:List (Nat × Nat):=[(1,7),(2,2),(2,3),(2,4),(2,5),(3,3),(3,2),(5,2),(6,1),(4,2)]
theorem hw_in {q:Nat × Nat} (h:q ∈ hwL):∃ c,(q,c) ∈ sqC:=by
 have:hwL=sqC.map (·.1):=by decide
 rw [this] at h
 obtain ⟨⟨a,c⟩,h1,h2⟩:=List.mem_map.mp h
 exact ⟨c,by rw [← h2];exact h1⟩
theorem hw_b:∀ q ∈ hwL,1≤q.1∧1≤q.2∧q.1≤9∧q.2≤9∧q.1 * q.2≤10:=by decide
def hwZ:List (Int × Int):=[(1,7),(2,2),(2,3),(2,4),(2,5),(3,3),(3,2),(5,2),(6,1),(4,2)]
theorem hwZ_of {q:Int × Int} (h:q ∈ hwZ):∃ p:Nat × Nat,q=((p.1:Int),(p.2:Int))∧p ∈ hwL:=by
 have e:hwZ=hwL.map fun p=>((p.1:Int),(p.2:Int)):=by decide
 rw [e] at h
 obtain ⟨p,hp,e⟩:=List.mem_map.mp h
 exact ⟨p,e.symm,hp⟩
theorem three {k:Int} (h0:0≤k) (h1:k<3):k=0∨k=1∨k=2:=by omega
theorem sc_Lsmall_right:FnScope ["_law_state","_law_n","_law_back","_law_high","_law_wide","_law_rows","_law_due","_law_which","_law_net"] ["_law_state"] (defScope s_Lsmall_right):=⟨rfl,rfl,rfl,by decide +kernel,rfl,by decide +kernel,by decide +kernel⟩
theorem ok_Lsmall_right (F:Fun K "_law_small_right" "_law_small_right" s_Lsmall_right f fd) (G_Ltake:FnOk P w K mg base CX0 1 f_Ltake fd_Ltake ["_law_state","_law_many"] spTake) (b_Ltake:Binds K fd_Ltake ["_law_state","_law_many"] []) (k_Ltake:PySem.W.keepIn K (.ref f_Ltake)=true) (m_Ltake:mg "_law_take" = some (.ref f_Ltake)) (G_row_net:FnOk P w K mg base CX0 1 f_row_net fd_row_net ["n","back"] spRowN) (b_row_net:Binds K fd_row_net ["n","back"] []) (k_row_net:PySem.W.keepIn K (.ref f_row_net)=true) (m_row_net:mg "row_net" = some (.ref f_row_net)) (G_square_net:FnOk P w K mg base CX0 2 f_square_net fd_square_net ["n","m"] spSqN) (b_square_net:Binds K fd_square_net ["n","m"] []) (k_square_net:PySem.W.keepIn K (.ref f_square_net)=true) (m_square_net:mg "square_net" = some (.ref f_square_net)) (G_step_net:FnOk P w K mg base CX0 1 f_step_net fd_step_net ["n"] spStN) (b_step_net:Binds K fd_step_net ["n"] []) (k_step_net:PySem.W.keepIn K (.ref f_step_net)=true) (m_step_net:mg "step_net" = some (.ref f_step_net)) (G_row_rooms:FnOk P w K mg base CX0 1 f_row_rooms fd_row_rooms ["n","back"] spRowRooms) (b_row_rooms:Binds K fd_row_rooms ["n","back"] []) (k_row_rooms:PySem.W.keepIn K (.ref f_row_rooms)=true) (m_row_rooms:mg "row_rooms" = some (.ref f_row_rooms)) (G_square_rooms:FnOk P w K mg base CX0 1 f_square_rooms fd_square_rooms ["n","m"] spSqRooms) (b_square_rooms:Binds K fd_square_rooms ["n","m"] []) (k_square_rooms:PySem.W.keepIn K (.ref f_square_rooms)=true) (m_square_rooms:mg "square_rooms" = some (.ref f_square_rooms)) (G_step_rooms:FnOk P w K mg base CX0 1 f_step_rooms fd_step_rooms ["n"] spStRooms) (b_step_rooms:Binds K fd_step_rooms ["n"] []) (k_step_rooms:PySem.W.keepIn K (.ref f_step_rooms)=true) (m_step_rooms:mg "step_rooms" = some (.ref f_step_rooms)) (G_Lleast:FnOk P w K mg base CX0 3 f_Lleast fd_Lleast ["_law_net","_law_asked"] spLeastR) (b_Lleast:Binds K fd_Lleast ["_law_net","_law_asked"] []) (k_Lleast:PySem.W.keepIn K (.ref f_Lleast)=true) (m_Lleast:mg "_law_least" = some (.ref f_Lleast)) (G_Lsame:FnOk P w K mg base CX0 4 f_Lsame fd_Lsame ["_law_found","_law_due"] (spS 4)) (b_Lsame:Binds K fd_Lsame ["_law_found","_law_due"] []) (k_Lsame:PySem.W.keepIn K (.ref f_Lsame)=true) (m_Lsame:mg "_law_same" = some (.ref f_Lsame)) (z_len:mg "len" = none):FnOk P w K mg base CX0 5 f fd ["_law_state"] spSmallR:=by
 refine F.ok sc_Lsmall_right (fun vs H Q E h=>?_) (fun cdv A outer s H vs Q E hr h=>?_)
 ·obtain ⟨d,c,t,ns,rfl,_⟩:=h
  rfl
 obtain ⟨d,c,t,ns,rfl,S,ht,q⟩:=h
 have ht':t≤1000000000 - 100:=ht
 have hr_Ltake:Room 1 _:=hr.mono (by decide)
 have hr_row_net:Room 1 _:=hr.mono (by decide)
 have hr_square_net:Room 2 _:=hr.mono (by decide)
 have hr_step_net:Room 1 _:=hr.mono (by decide)
 have hr_row_rooms:Room 1 _:=hr.mono (by decide)
 have hr_square_rooms:Room 1 _:=hr.mono (by decide)
 have hr_step_rooms:Room 1 _:=hr.mono (by decide)
 have hr_Lleast:Room 3 _:=hr.mono (by decide)
 have hr_Lsame:Room 4 _:=hr.mono (by decide)
 have hpe:pairsE (bigOf ((defBody s_Lsmall_right).getD 1 (.Pass ⟨0,0,0,0⟩)))=some hwZ:=by kernel_rfl
 have key:defBody s_Lsmall_right=[(defBody s_Lsmall_right).getD 0 (.Pass ⟨0,0,0,0⟩),(.Assign [(.Tuple [(.Name "_law_high" ⟨108,4,108,13⟩),(.Name "_law_wide" ⟨108,15,108,24⟩)] 0 ⟨108,4,108,24⟩)] (.Subscript (bigOf ((defBody s_Lsmall_right).getD 1 (.Pass ⟨0,0,0,0⟩))) (.Call (.Name "_law_take" ⟨108,108,108,117⟩) [(.Name "_law_state" ⟨108,118,108,128⟩),(.Constant (.int 10) 0 ⟨108,130,108,132⟩)] [] ⟨108,108,108,133⟩) ⟨108,27,108,134⟩) ⟨108,4,108,134⟩),(defBody s_Lsmall_right).getD 2 (.Pass ⟨0,0,0,0⟩),(defBody s_Lsmall_right).getD 3 (.Pass ⟨0,0,0,0⟩),(defBody s_Lsmall_right).getD 4 (.Pass ⟨0,0,0,0⟩),(defBody s_Lsmall_right).getD 5 (.Pass ⟨0,0,0,0⟩),(defBody s_Lsmall_right).getD 6 (.Pass ⟨0,0,0,0⟩)]:=by kernel_rfl
 rw [key]
 clear key
 generalize (bigOf ((defBody s_Lsmall_right).getD 1 (.Pass ⟨0,0,0,0⟩)))=e3 at hpe ⊢
 have h3:∀ X:Cx,PE X e3 (tPrL hwZ):=fun X=>pe_pairs hpe (by decide)
 refine ⟨_,(pss_cons (ps_par (i:=1) (j:=2) rfl sc_Lsmall_right.nd rfl rfl (by decide) rfl rfl (pa_cons (pe_op op_add pe_int (pe_call G_Ltake hr_Ltake rfl m_Ltake k_Ltake b_Ltake .nil pass0 (pa_cons (pv 0) (pa_cons pe_int pa_nil)))) (pa_cons (pe_op op_add pe_int (pe_call G_Ltake hr_Ltake rfl m_Ltake k_Ltake b_Ltake .nil pass0 (pa_cons (pv 0) (pa_cons pe_int pa_nil)))) pa_nil)) rfl) (pss_cons (ps_asg (pe_ix ix_list (h3 _) (pe_call G_Ltake hr_Ltake rfl m_Ltake k_Ltake b_Ltake .nil pass0 (pa_cons (pv 0) (pa_cons pe_int pa_nil))) (fun _ _=>rfl)) (pg_tup rfl (pgs_cons (pg_name (i:=3) sc_Lsmall_right.nd rfl (Or.inl rfl)) (pgs_cons (pg_name (i:=4) sc_Lsmall_right.nd rfl (Or.inl rfl)) pgs_nil)))) (pss_cons (ps_set (i:=5) sc_Lsmall_right.nd rfl (Or.inl rfl) (pe_op op_add pe_int (pe_call G_Ltake hr_Ltake rfl m_Ltake k_Ltake b_Ltake .nil pass0 (pa_cons (pv 0) (pa_cons pe_int pa_nil))))) (pss_cons (ps_set (i:=6) sc_Lsmall_right.nd rfl (Or.inl rfl) (pe_lst (pa_cons (pe_call G_row_rooms hr_row_rooms rfl m_row_rooms k_row_rooms b_row_rooms .nil pass0 (pa_cons (pv 1) (pa_cons (pv 2) pa_nil))) (pa_cons (pe_call G_square_rooms hr_square_rooms rfl m_square_rooms k_square_rooms b_square_rooms .nil pass0 (pa_cons (pv 3) (pa_cons (pv 4) pa_nil))) (pa_cons (pe_call G_step_rooms hr_step_rooms rfl m_step_rooms k_step_rooms b_step_rooms .nil pass0 (pa_cons (pv 5) pa_nil)) pa_nil))))) (pss_cons (ps_set (i:=7) sc_Lsmall_right.nd rfl (Or.inl rfl) (pe_call G_Ltake hr_Ltake rfl m_Ltake k_Ltake b_Ltake .nil pass0 (pa_cons (pv 0) (pa_cons pe_int pa_nil)))) (pss_cons (ps_set (i:=8) sc_Lsmall_right.nd rfl (Or.inl rfl) (pe_ix ix_list (pe_lst (pa_cons (pe_call G_row_net hr_row_net rfl m_row_net k_row_net b_row_net .nil pass0 (pa_cons (pv 1) (pa_cons (pv 2) pa_nil))) (pa_cons (pe_call G_square_net hr_square_net rfl m_square_net k_square_net b_square_net .nil pass0 (pa_cons (pv 3) (pa_cons (pv 4) pa_nil))) (pa_cons (pe_call G_step_net hr_step_net rfl m_step_net k_step_net b_step_net .nil pass0 (pa_cons (pv 5) pa_nil)) pa_nil)))) (pv 7) (fun _ _=>rfl))) (pss_one (ps_ret (pe_call G_Lsame hr_Lsame rfl m_Lsame k_Lsame b_Lsame .nil pass0 (pa_cons (pe_ix ix_list (pv 6) (pv 7) (fun _ _=>rfl)) (pa_cons (pe_call G_Lleast hr_Lleast rfl m_Lleast k_Lleast b_Lleast .nil pass0 (pa_cons (pv 8) (pa_cons (pe_tup (pa_cons (pe_op op_sub (pe_callB call_len_seq rfl z_len bt_len (pa_cons (pv 8) pa_nil)) pe_int) pa_nil)) pa_nil))) pa_nil))))))))))),?_⟩
 try dsimp only [Cx.nox,Cx.wish,cxOf]
 refine cut fun N1 hN1=>?_
 refine ⟨_,rfl,d,c,t,ns,9,rfl,S,(by show t≤1000000000;omega),by decide,by decide,fun k1 ns1 Ha a0 a1 Sa Ka=>⟨_,_,rfl,rfl,?_⟩⟩
 refine ⟨_,rfl,d,c,t+1,ns1,9,rfl,Sa,(by show t+1≤1000000000;omega),by decide,by decide,fun k2 ns2 Hb b0 b1 Sb Kb=>⟨_,_,rfl,rfl,?_⟩⟩
 obtain ⟨n,en⟩:∃ n:Nat,1+k1=(n:Int):=⟨(1+k1).toNat,by omega⟩
 obtain ⟨bk,eb⟩:∃ n:Nat,1+k2=(n:Int):=⟨(1+k2).toNat,by omega⟩
 dsimp only
 rw [en,eb]
 refine ⟨_,_,rfl,?_⟩
 refine hN1 _ _ (cut fun N2 hN2=>?_)
 have K2:=Ka.trans Kb
 intro lp ts Hp1 sm2' flp glp SP1
 have sm2:Same Hb Hp1:=sm2'
 have S2:=Sb.same sm2
 have np:lp ≠ d∧lp ≠ c:=⟨(ne_of_none Sb.dict flp).symm,(ne_of_none Sb.list flp).symm⟩
 refine ⟨_,rfl,d,c,t+1+1,ns2,10,rfl,S2,(by show t+1+1≤1000000000;omega),by decide,by decide,fun k3 ns3 Hc c0 c1 Sc Kc=>?_⟩
 have hk3:k3.toNat<hwZ.length:=by show k3.toNat<10;omega
 have eh:=List.getElem?_eq_getElem hk3
 generalize hwZ[k3.toNat]=hwz at eh
 obtain ⟨tq,eq1,gq⟩:=paired_nth SP1 eh
 obtain ⟨hw,ehw,hin⟩:=hwZ_of (List.mem_of_getElem? eh)
 subst ehw
 obtain ⟨h1,w1,h9,w9,hw10⟩:=hw_b hw hin
 obtain ⟨cc,hcc⟩:=hw_in hin
 have gq1:=Kc _ _ gq (S2.tup gq).1 (S2.tup gq).2
 refine ⟨lp,_,_,_,rfl,rfl,SqL.of (Kc _ _ glp np.1 np.2),get_at c0 (by rw [List.getElem?_map,eq1];rfl),?_⟩
 refine ⟨tq,_,rfl,SqT.of gq1,rfl,_,_,rfl,_,_,rfl,rfl,?_⟩
 refine hN2 _ _ (cut fun N3 hN3=>?_)
 refine ⟨_,rfl,d,c,t+1+1+1,ns3,4,rfl,Sc,(by show t+1+1+1≤1000000000;omega),by decide,by decide,fun k4 ns4 Hd d0 d1 Sd Kd=>⟨_,_,rfl,rfl,?_⟩⟩
 obtain ⟨rw_,er⟩:∃ n:Nat,1+k4=(n:Int):=⟨(1+k4).toNat,by omega⟩
 dsimp only
 rw [er]
 refine hN3 _ _ (cut fun N4 hN4=>?_)
 refine ⟨_,rfl,_,rfl,n,bk,rfl,by omega,by omega,by omega,?_⟩
 refine ⟨_,rfl,_,rfl,hw.1,hw.2,rfl,h1,w1,by omega,by omega,?_⟩
 refine ⟨_,rfl,rw_,rfl,by omega,by omega,?_⟩
 refine ⟨(by show 3≤sizeLine;decide),fun ld hld=>?_⟩
 have sld:=same_new hld (.lst [.int (((min (n - 1) bk:Nat):Int)+1),.int ((sqTop hw.1 hw.2:Int)+1),.int (((if rw_=1 then 0 else rw_:Nat):Int)+1)])
 have gld:(upd Hd ld (.lst [.int (((min (n - 1) bk:Nat):Int)+1),.int ((sqTop hw.1 hw.2:Int)+1),.int (((if rw_=1 then 0 else rw_:Nat):Int)+1)])) ld=some (.lst [.int (((min (n - 1) bk:Nat):Int)+1),.int ((sqTop hw.1 hw.2:Int)+1),.int (((if rw_=1 then 0 else rw_:Nat):Int)+1)]):=upd_same
 have nld:ld ≠ d∧ld ≠ c:=⟨(ne_of_none Sd.dict hld).symm,(ne_of_none Sd.list hld).symm⟩
 have Se:=Sd.same sld
 have Ke:Keep d c H (upd Hd ld (.lst [.int (((min (n - 1) bk:Nat):Int)+1),.int ((sqTop hw.1 hw.2:Int)+1),.int (((if rw_=1 then 0 else rw_:Nat):Int)+1)])):=K2.trans ((Keep.of_same sm2).trans (Kc.trans (Kd.trans (.of_same sld))))
 generalize upd Hd ld (.lst [.int (((min (n - 1) bk:Nat):Int)+1),.int ((sqTop hw.1 hw.2:Int)+1),.int (((if rw_=1 then 0 else rw_:Nat):Int)+1)])=He at gld Se Ke ⊢
 refine hN4 _ _ (cut fun N5 hN5=>?_)
 refine ⟨_,rfl,d,c,_,ns4,3,rfl,Se,(by show t+1+1+1+1≤1000000000;omega),by decide,by decide,fun k5 ns5 Hf f0 f1 Sf Kf=>?_⟩
 have gld1:=Kf _ _ gld nld.1 nld.2
 have K5:=Ke.trans Kf
 refine hN5 _ _ (cut fun N6 hN6=>?_)
 refine ⟨_,rfl,_,rfl,n,bk,rfl,by omega,by omega,fun a1 Ha1 s1 A1=>?_⟩
 refine ⟨_,rfl,_,rfl,hw.1,hw.2,rfl,w1,by omega,by omega,fun a2 Ha2 s2 A2=>?_⟩
 refine ⟨_,rfl,rw_,rfl,by omega,by omega,fun a3 Ha3 s3 A3=>?_⟩
 refine ⟨(by show 3≤sizeLine;decide),fun ln hln=>?_⟩
 have sln:=same_new hln (.lst [.ref a1,.ref a2,.ref a3])
 have B1:=A1.same (s2.trans (s3.trans sln))
 have B2:=A2.same (s3.trans sln)
 have B3:=A3.same sln
 have sall:=s1.trans (s2.trans (s3.trans sln))
 have gln:(upd Ha3 ln (.lst [.ref a1,.ref a2,.ref a3])) ln=some (.lst [.ref a1,.ref a2,.ref a3]):=upd_same
 generalize upd Ha3 ln (.lst [.ref a1,.ref a2,.ref a3])=Hg at B1 B2 B3 sall gln ⊢
 have Sg:=Sf.same sall
 have gldg:=sall _ _ gld1
 have Kg:=K5.trans (.of_same sall)
 have fin:∀ (ax:Addr) (net:List (List Int)) (due:Int),atI [V.ref a1,V.ref a2,V.ref a3] k5=some (.ref ax)→atI [V.int (((min (n - 1) bk:Nat):Int)+1),V.int ((sqTop hw.1 hw.2:Int)+1),V.int (((if rw_=1 then 0 else rw_:Nat):Int)+1)] k5=some (.int due)→NetAt Hg ax net→WFn net→1≤net.length→net.length≤12→IsNeeded net [(net.length:Int) - 1] (rangeI 0 (net.length:Int))→LeastR net (rangeI 0 (net.length:Int)) [(net.length:Int) - 1] due→∃ x,atI [V.ref a1,V.ref a2,V.ref a3] k5=some x∧N6 [some (.ref d),some (.int (n:Int)),some (.int (bk:Int)),some (.int (hw.1:Int)),some (.int (hw.2:Int)),some (.int (rw_:Int)),some (.ref ld),some (.int k5),some x] Hg:=by
  intro ax net due e1 e2 hNx wf l1 l12 ND LR
  refine ⟨_,e1,hN6 _ _ ?_⟩
  obtain ⟨rs,hA,NL⟩:=id hNx
  have lrv:(((rs.map V.ref).length:Nat):Int)=(net.length:Int):=by rw [List.length_map,Paired.length NL]
  refine ⟨_,rfl,_,rfl,ld,_,_,_,rfl,rfl,SqL.of gldg,e2,?_⟩
  refine ⟨_,rfl,_,rfl,ax,_,rfl,.inr (SqT.of hA),_,_,rfl,rfl,(by show 1≤sizeLine;decide),fun tq2 htq2=>?_⟩
  dsimp only
  rw [lrv]
  have s4:=same_new htq2 (.tup [.int ((net.length:Int) - 1)])
  refine ⟨ax,tq2,net,[(net.length:Int) - 1],rangeI 0 (net.length:Int),due,rfl,hNx.same s4,wf,l12,⟨upd_same,⟨List.pairwise_singleton _ _,fun x hx=>by rw [List.mem_singleton.mp hx];omega⟩⟩,ND,LR,fun H5 s5=>?_⟩
  refine ⟨_,_,rfl,.inl ⟨rfl,.inr (.inl ⟨_,rfl⟩)⟩,fun H6 s6=>?_⟩
  exact q _ ns5 H6 (Sg.same (s4.trans (s5.trans s6))) (by omega) (by omega) (Kg.trans (.of_same (s4.trans (s5.trans s6))))
 have fin2:∃ x,atI [V.ref a1,V.ref a2,V.ref a3] k5=some x∧N6 [some (.ref d),some (.int (n:Int)),some (.int (bk:Int)),some (.int (hw.1:Int)),some (.int (hw.2:Int)),some (.int (rw_:Int)),some (.ref ld),some (.int k5),some x] Hg:=by
  rcases three f0 f1 with rfl | rfl | rfl
  ·have e:=rowN_len n bk
   refine fin a1 _ _ rfl rfl B1 (rowN_wf n bk) (by omega) (by omega) ?_ ?_
   ·rw [e];exact row_needed (by omega) (by omega)
   ·rw [e];exact row_least (by omega) (by omega) (by omega) (by omega)
  ·have e:=sqN_len hw.1 hw.2
   have e1:1≤hw.1 * hw.2:=Nat.mul_pos h1 w1
   refine fin a2 _ _ rfl rfl B2 (sqN_wf w1) (by omega) (by omega) ?_ ?_
   ·rw [e];exact sq_needed h1 w1
   ·rw [e];exact sq_least hcc w1
  ·have e:(stN rw_).length=off rw_ rw_:=stUp_len rw_ rw_
   have ob:1≤off rw_ rw_∧off rw_ rw_≤12:=by
    have:∀ r,r<5→1≤r→1≤off r r∧off r r≤12:=by decide
    exact this rw_ (by omega) (by omega)
   refine fin a3 _ _ rfl rfl B3 (stUp_wf rw_ rw_) (by omega) (by omega) ?_ ?_
   ·rw [e];exact st_needed (by omega)
   ·rw [e];exact st_least (by omega) (by omega)
 obtain ⟨x,ex,hx⟩:=fin2
 exact ⟨_,rfl,ln,_,_,_,rfl,rfl,SqL.of gln,ex,hx⟩
end
section
variable {P:Program} {w:World} {K:PySem.W.Frag} {mg:Str→Option Value} {base:Heap} {f:Addr} {fd:FuncData} {f_Lbegin f_Ltake f_Lsame f_Lsquare_due f_Lsmall_right f_row_rooms f_square_rooms f_step_rooms:Addr} {fd_Lbegin fd_Ltake fd_Lsame fd_Lsquare_due fd_Lsmall_right fd_row_rooms fd_square_rooms fd_step_rooms:FuncData}
theorem pickB2 {a b:Int} (g:Bool):∃ v,atI [V.int a,V.int b] (if g=true then 1 else 0)=some (.int v)∧(v=a∨v=b):=by
 cases g
 ·exact ⟨a,rfl,.inl rfl⟩
 ·exact ⟨b,rfl,.inr rfl⟩
theorem sc_law:FnScope ["_law_script","_law_state","_law_turn","_law_n","_law_back","_law_high","_law_wide","_law_due","_law_rows"] ["_law_script"] (defScope s_law):=⟨rfl,rfl,rfl,by decide +kernel,rfl,by decide +kernel,by decide +kernel⟩
theorem ok_law (F:Fun K "law" "law" s_law f fd) (G_Lbegin:FnOk P w K mg base CX0 1 f_Lbegin fd_Lbegin ["_law_script"] (spBegin K)) (b_Lbegin:Binds K fd_Lbegin ["_law_script"] []) (k_Lbegin:PySem.W.keepIn K (.ref f_Lbegin)=true) (m_Lbegin:mg "_law_begin" = some (.ref f_Lbegin)) (G_Ltake:FnOk P w K mg base CX0 1 f_Ltake fd_Ltake ["_law_state","_law_many"] spTake) (b_Ltake:Binds K fd_Ltake ["_law_state","_law_many"] []) (k_Ltake:PySem.W.keepIn K (.ref f_Ltake)=true) (m_Ltake:mg "_law_take" = some (.ref f_Ltake)) (G_Lsame:FnOk P w K mg base CX0 4 f_Lsame fd_Lsame ["_law_found","_law_due"] (spS 4)) (b_Lsame:Binds K fd_Lsame ["_law_found","_law_due"] []) (k_Lsame:PySem.W.keepIn K (.ref f_Lsame)=true) (m_Lsame:mg "_law_same" = some (.ref f_Lsame)) (G_Lsquare_due:FnOk P w K mg base CX0 1 f_Lsquare_due fd_Lsquare_due ["_law_n","_law_m"] spSqDue) (b_Lsquare_due:Binds K fd_Lsquare_due ["_law_n","_law_m"] []) (k_Lsquare_due:PySem.W.keepIn K (.ref f_Lsquare_due)=true) (m_Lsquare_due:mg "_law_square_due" = some (.ref f_Lsquare_due)) (G_Lsmall_right:FnOk P w K mg base CX0 5 f_Lsmall_right fd_Lsmall_right ["_law_state"] spSmallR) (b_Lsmall_right:Binds K fd_Lsmall_right ["_law_state"] []) (k_Lsmall_right:PySem.W.keepIn K (.ref f_Lsmall_right)=true) (m_Lsmall_right:mg "_law_small_right" = some (.ref f_Lsmall_right)) (G_row_rooms:FnOk P w K mg base CX0 1 f_row_rooms fd_row_rooms ["n","back"] spRowRooms) (b_row_rooms:Binds K fd_row_rooms ["n","back"] []) (k_row_rooms:PySem.W.keepIn K (.ref f_row_rooms)=true) (m_row_rooms:mg "row_rooms" = some (.ref f_row_rooms)) (G_square_rooms:FnOk P w K mg base CX0 1 f_square_rooms fd_square_rooms ["n","m"] spSqRooms) (b_square_rooms:Binds K fd_square_rooms ["n","m"] []) (k_square_rooms:PySem.W.keepIn K (.ref f_square_rooms)=true) (m_square_rooms:mg "square_rooms" = some (.ref f_square_rooms)) (G_step_rooms:FnOk P w K mg base CX0 1 f_step_rooms fd_step_rooms ["n"] spStRooms) (b_step_rooms:Binds K fd_step_rooms ["n"] []) (k_step_rooms:PySem.W.keepIn K (.ref f_step_rooms)=true) (m_step_rooms:mg "step_rooms" = some (.ref f_step_rooms)) (z_range:mg "range" = none) (z_int:mg "int" = none) (z_all:mg "all" = none):FnOk P w K mg base CX0 6 f fd ["_law_script"] (spLaw K):=by
 refine F.ok sc_law (fun vs H Q E h=>?_) (fun cdv A outer s H vs Q E hr h=>?_)
 ·obtain ⟨sc,ns,rfl,_⟩:=h
  rfl
 obtain ⟨sc,ns,rfl,hS,h63,q⟩:=h
 have hr_Lbegin:Room 1 _:=hr.mono (by decide)
 have hr_Ltake:Room 1 _:=hr.mono (by decide)
 have hr_Lsame:Room 4 _:=hr.mono (by decide)
 have hr_Lsquare_due:Room 1 _:=hr.mono (by decide)
 have hr_Lsmall_right:Room 5 _:=hr.mono (by decide)
 have hr_row_rooms:Room 1 _:=hr.mono (by decide)
 have hr_square_rooms:Room 1 _:=hr.mono (by decide)
 have hr_step_rooms:Room 1 _:=hr.mono (by decide)
 refine ⟨_,(pss_cons (ps_set (i:=1) sc_law.nd rfl (Or.inr rfl) (pe_call G_Lbegin hr_Lbegin rfl m_Lbegin k_Lbegin b_Lbegin .nil pass0 (pa_cons (pv 0) pa_nil))) (pss_cons (ps_for PassesOwn.never rfl (pi_range1 rfl z_range (pa_cons pe_int pa_nil)) (pg_name (i:=2) sc_law.nd rfl (Or.inl rfl)) (pss_cons (ps_par (i:=3) (j:=4) rfl sc_law.nd rfl rfl (by decide) rfl rfl (pa_cons (pe_op op_add pe_int (pe_call G_Ltake hr_Ltake rfl m_Ltake k_Ltake b_Ltake .nil pass0 (pa_cons (pv 1) (pa_cons (pe_ix ix_list (pe_lst (pa_cons pe_int (pa_cons pe_int pa_nil))) (pe_callTy call_int1 rfl z_int bt_int (pa_cons (pe_cmpR op_eq (pv 2) pe_int (nomark _)) pa_nil)) (fun _ _=>rfl)) pa_nil)))) (pa_cons (pe_op op_add pe_int (pe_call G_Ltake hr_Ltake rfl m_Ltake k_Ltake b_Ltake .nil pass0 (pa_cons (pv 1) (pa_cons (pe_ix ix_list (pe_lst (pa_cons pe_int (pa_cons pe_int pa_nil))) (pe_callTy call_int1 rfl z_int bt_int (pa_cons (pe_cmpR op_eq (pv 2) pe_int (nomark _)) pa_nil)) (fun _ _=>rfl)) pa_nil)))) pa_nil)) rfl) (pss_cons (ps_if (pt_not (pt_val (pe_call G_Lsame hr_Lsame rfl m_Lsame k_Lsame b_Lsame .nil pass0 (pa_cons (pe_call G_row_rooms hr_row_rooms rfl m_row_rooms k_row_rooms b_row_rooms .nil pass0 (pa_cons (pv 3) (pa_cons (pv 4) pa_nil))) (pa_cons (pe_ifExp (pt_cmpR op_ge (pv 4) (pv 3) (nomark _)) (pv 3) (pe_op op_add (pv 4) pe_int)) pa_nil))))) (pss_one (ps_ret pe_bl)) pss_nil) (pss_cons (ps_par (i:=5) (j:=6) rfl sc_law.nd rfl rfl (by decide) rfl rfl (pa_cons (pe_op op_add pe_int (pe_call G_Ltake hr_Ltake rfl m_Ltake k_Ltake b_Ltake .nil pass0 (pa_cons (pv 1) (pa_cons (pe_ix ix_list (pe_lst (pa_cons pe_int (pa_cons pe_int pa_nil))) (pe_callTy call_int1 rfl z_int bt_int (pa_cons (pe_cmpR op_lt (pv 2) pe_int (nomark _)) pa_nil)) (fun _ _=>rfl)) pa_nil)))) (pa_cons (pe_op op_add pe_int (pe_call G_Ltake hr_Ltake rfl m_Ltake k_Ltake b_Ltake .nil pass0 (pa_cons (pv 1) (pa_cons (pe_ix ix_list (pe_lst (pa_cons pe_int (pa_cons pe_int pa_nil))) (pe_callTy call_int1 rfl z_int bt_int (pa_cons (pe_cmpR op_lt (pv 2) pe_int (nomark _)) pa_nil)) (fun _ _=>rfl)) pa_nil)))) pa_nil)) rfl) (pss_cons (ps_set (i:=7) sc_law.nd rfl (Or.inl rfl) (pe_call G_Lsquare_due hr_Lsquare_due rfl m_Lsquare_due k_Lsquare_due b_Lsquare_due .nil pass0 (pa_cons (pv 5) (pa_cons (pv 6) pa_nil)))) (pss_cons (ps_if (pt_not (pt_val (pe_call G_Lsame hr_Lsame rfl m_Lsame k_Lsame b_Lsame .nil pass0 (pa_cons (pe_lst (pa_cons (pe_call G_square_rooms hr_square_rooms rfl m_square_rooms k_square_rooms b_square_rooms .nil pass0 (pa_cons (pv 5) (pa_cons (pv 6) pa_nil))) (pa_cons (pe_call G_square_rooms hr_square_rooms rfl m_square_rooms k_square_rooms b_square_rooms .nil pass0 (pa_cons (pv 6) (pa_cons (pv 5) pa_nil))) pa_nil))) (pa_cons (pe_lst (pa_cons (pv 7) (pa_cons (pv 7) pa_nil))) pa_nil))))) (pss_one (ps_ret pe_bl)) pss_nil) (pss_cons (ps_set (i:=8) sc_law.nd rfl (Or.inl rfl) (pe_op op_add pe_int (pe_call G_Ltake hr_Ltake rfl m_Ltake k_Ltake b_Ltake .nil pass0 (pa_cons (pv 1) (pa_cons (pe_ix ix_list (pe_lst (pa_cons pe_int (pa_cons pe_int pa_nil))) (pe_callTy call_int1 rfl z_int bt_int (pa_cons (pe_cmpR op_eq (pv 2) pe_int (nomark _)) pa_nil)) (fun _ _=>rfl)) pa_nil))))) (pss_one (ps_if (pt_not (pt_val (pe_call G_Lsame hr_Lsame rfl m_Lsame k_Lsame b_Lsame .nil pass0 (pa_cons (pe_call G_step_rooms hr_step_rooms rfl m_step_rooms k_step_rooms b_step_rooms .nil pass0 (pa_cons (pv 8) pa_nil)) (pa_cons (pe_op op_add (pv 8) (pe_callTy call_int1 rfl z_int bt_int (pa_cons (pe_cmpR op_gt (pv 8) pe_int (nomark _)) pa_nil))) pa_nil))))) (pss_one (ps_ret pe_bl)) pss_nil))))))))) (pss_one (ps_ret (pe_callB (call_all rfl) rfl z_all bt_all (pa_cons (pe_lc rfl (lcs (own:=["_law_turn"]) (fv:=[1]) (by kernel_rfl)) (pi_range1 rfl z_range (pa_cons pe_int pa_nil)) (fun z1=>pg_name (i:=0) (nd_of (by kernel_rfl)) rfl (Or.inl rfl)) (fun z1=>pts_nil) (fun z1=>(pe_call G_Lsmall_right hr_Lsmall_right rfl m_Lsmall_right k_Lsmall_right b_Lsmall_right .nil pass0 (pa_cons (pv 1) pa_nil)))) pa_nil)))))),?_⟩
 try dsimp only [Cx.nox,Cx.wish,cxOf]
 refine cut fun N0 hN0=>?_
 refine ⟨_,rfl,sc,ns,rfl,hS,h63,fun d c ms1 H1 S1 sm0 hd0 hc0=>?_⟩
 refine hN0 _ _ (cut fun N1 hN1=>?_)
 refine ⟨6,rfl,by decide,by decide,for_range (lo:=0) (n:=6) (fun i σ Hc=>∃ (t:Int) (ns:List Int) (v2 v3 v4 v5 v6 v7 v8:Option V),σ=[some (.ref sc),some (.ref d),v2,v3,v4,v5,v6,v7,v8]∧StAt Hc d c t ns∧0≤t∧t≤20 * i)
  ⟨0,ms1,none,none,none,none,none,none,none,rfl,S1,by omega,by omega⟩ ?_ ?_⟩
 ·refine fun i σ Hc hi hI_1=>opq fun G_1 hG_1=>?_
  obtain ⟨t,ns,v2,v3,v4,v5,v6,v7,v8,rfl,S,t0,t1⟩:=hI_1
  refine hG_1 ?_
  -- one draw of 1+take(state,[a,b][int(..)])
  refine cut fun M1 hM1=>?_
  refine ⟨_,rfl,(by show 2≤sizeLine;decide),fun p1 hp1=>?_⟩
  have Sp:=S.new hp1 (.lst [.int 9,.int 400])
  refine ⟨_,rfl,rfl,.inr ⟨_,rfl,?_⟩⟩
  obtain ⟨va,hva,eva⟩:=pickB2 (a:=9) (b:=400) (decide (V.int (0+(i:Int))=V.int 0))
  refine ⟨p1,_,_,_,rfl,rfl,SqL.of upd_same,hva,?_⟩
  generalize upd Hc p1 (.lst [.int 9,.int 400])=Ha at Sp ⊢
  refine ⟨d,c,t,ns,va,rfl,Sp,(by show t≤1000000000;omega),by omega,by omega,fun k1 ns1 Hb a0 a1 Sb Kb=>⟨_,_,rfl,rfl,?_⟩⟩
  refine ⟨_,rfl,(by show 2≤sizeLine;decide),fun p2 hp2=>?_⟩
  have Sp2:=Sb.new hp2 (.lst [.int 9,.int 400])
  refine ⟨_,rfl,rfl,.inr ⟨_,rfl,?_⟩⟩
  obtain ⟨vb,hvb,evb⟩:=pickB2 (a:=9) (b:=400) (decide (V.int (0+(i:Int))=V.int 1))
  refine ⟨p2,_,_,_,rfl,rfl,SqL.of upd_same,hvb,?_⟩
  generalize upd Hb p2 (.lst [.int 9,.int 400])=Hd at Sp2 ⊢
  refine ⟨d,c,t+1,ns1,vb,rfl,Sp2,(by show t+1≤1000000000;omega),by omega,by omega,fun k2 ns2 He b0 b1 Se Ke=>⟨_,_,rfl,rfl,?_⟩⟩
  obtain ⟨n,en⟩:∃ n:Nat,1+k1=(n:Int):=⟨(1+k1).toNat,by omega⟩
  obtain ⟨bk,eb⟩:∃ n:Nat,1+k2=(n:Int):=⟨(1+k2).toNat,by omega⟩
  dsimp only
  rw [en,eb]
  refine ⟨_,_,rfl,?_⟩
  refine hM1 _ _ (cut fun M2 hM2=>?_)
  refine ⟨_,rfl,_,rfl,n,bk,rfl,by omega,by omega,by omega,?_⟩
  refine ⟨_,rfl,_,rfl,_,_,rfl,rfl,_,rfl,?_⟩
  have lf:∀ (i:Int),Leaf (.int i):=fun i=>.inr (.inl ⟨_,rfl⟩)
  have alk:∀ y:Int,y=((min (n - 1) bk:Nat):Int)+1→Alike He 3 (.int (((min (n - 1) bk:Nat):Int)+1)) (.int y):=fun y e=>by rw [e];exact .inl ⟨rfl,lf _⟩
  have after1:∀ Hx,Same He Hx→M2 [some (.ref sc),some (.ref d),some (.int (0+(i:Int))),some (.int (n:Int)),some (.int (bk:Int)),v5,v6,v7,v8] Hx:=by
   intro Hx sx
   have Sx:=Se.same sx
   refine hM2 _ _ (cut fun M3 hM3=>?_)
   refine ⟨_,rfl,(by show 2≤sizeLine;decide),fun p3 hp3=>?_⟩
   have Sp3:=Sx.new hp3 (.lst [.int 7,.int 20])
   refine ⟨_,rfl,_,_,rfl,rfl,.inr ⟨_,rfl,?_⟩⟩
   obtain ⟨vc,hvc,evc⟩:=pickB2 (a:=7) (b:=20) (decide (0+(i:Int)<2))
   refine ⟨p3,_,_,_,rfl,rfl,SqL.of upd_same,hvc,?_⟩
   generalize upd Hx p3 (.lst [.int 7,.int 20])=Hf at Sp3 ⊢
   refine ⟨d,c,_,ns2,vc,rfl,Sp3,(by show t+1+1≤1000000000;omega),by omega,by omega,fun k3 ns3 Hg c0 c1 Sg Kg=>⟨_,_,rfl,rfl,?_⟩⟩
   refine ⟨_,rfl,(by show 2≤sizeLine;decide),fun p4 hp4=>?_⟩
   have Sp4:=Sg.new hp4 (.lst [.int 7,.int 20])
   refine ⟨_,rfl,_,_,rfl,rfl,.inr ⟨_,rfl,?_⟩⟩
   obtain ⟨vd,hvd,evd⟩:=pickB2 (a:=7) (b:=20) (decide (0+(i:Int)<2))
   refine ⟨p4,_,_,_,rfl,rfl,SqL.of upd_same,hvd,?_⟩
   generalize upd Hg p4 (.lst [.int 7,.int 20])=Hh at Sp4 ⊢
   refine ⟨d,c,_,ns3,vd,rfl,Sp4,(by show t+1+1+1≤1000000000;omega),by omega,by omega,fun k4 ns4 Hi d0 d1 Si Ki=>⟨_,_,rfl,rfl,?_⟩⟩
   obtain ⟨hh,eh⟩:∃ n:Nat,1+k3=(n:Int):=⟨(1+k3).toNat,by omega⟩
   obtain ⟨ww,ew⟩:∃ n:Nat,1+k4=(n:Int):=⟨(1+k4).toNat,by omega⟩
   dsimp only
   rw [eh,ew]
   refine ⟨_,_,rfl,?_⟩
   refine hM3 _ _ (cut fun M4 hM4=>?_)
   refine ⟨_,rfl,_,rfl,hh,ww,rfl,by omega,by omega,by omega,by omega,fun Hj sj=>?_⟩
   refine hM4 _ _ (cut fun M5 hM5=>?_)
   refine ⟨_,rfl,_,rfl,hh,ww,rfl,by omega,by omega,by omega,by omega,?_⟩
   refine ⟨_,rfl,_,rfl,ww,hh,rfl,by omega,by omega,by omega,by omega,?_⟩
   have esw:sqTop ww hh=sqTop hh ww:=by unfold sqTop;rw [Nat.mul_comm ww hh,Nat.min_comm ww hh]
   rw [esw]
   refine ⟨(by show 2≤sizeLine;decide),fun l1 hl1=>?_⟩
   have s1:=same_new hl1 (.lst [.int ((sqTop hh ww:Int)+1),.int ((sqTop hh ww:Int)+1)])
   have g1:(upd Hj l1 (.lst [.int ((sqTop hh ww:Int)+1),.int ((sqTop hh ww:Int)+1)])) l1=some (.lst ([(sqTop hh ww:Int)+1,(sqTop hh ww:Int)+1].map V.int)):=upd_same
   generalize upd Hj l1 (.lst [.int ((sqTop hh ww:Int)+1),.int ((sqTop hh ww:Int)+1)])=Hk at s1 g1 ⊢
   refine ⟨_,rfl,_,rfl,(by show 2≤sizeLine;decide),fun l2 hl2=>?_⟩
   have s2:=same_new hl2 (.lst [.int ((sqTop hh ww:Int)+1),.int ((sqTop hh ww:Int)+1)])
   have g2:(upd Hk l2 (.lst [.int ((sqTop hh ww:Int)+1),.int ((sqTop hh ww:Int)+1)])) l2=some (.lst ([(sqTop hh ww:Int)+1,(sqTop hh ww:Int)+1].map V.int)):=upd_same
   have g1':=s2 _ _ g1
   generalize upd Hk l2 (.lst [.int ((sqTop hh ww:Int)+1),.int ((sqTop hh ww:Int)+1)])=Hl at s2 g2 g1' ⊢
   refine ⟨_,_,rfl,(alike_ints g1' g2 (by simp)).up.up,fun Hm sm=>⟨true,rfl,?_⟩⟩
   have Sm:=Si.same (sj.trans (s1.trans (s2.trans sm)))
   refine iteF ?_
   refine hM5 _ _ (cut fun M6 hM6=>?_)
   refine ⟨_,rfl,(by show 2≤sizeLine;decide),fun p5 hp5=>?_⟩
   have Sp5:=Sm.new hp5 (.lst [.int 7,.int 27])
   refine ⟨_,rfl,rfl,.inr ⟨_,rfl,?_⟩⟩
   obtain ⟨ve,hve,eve⟩:=pickB2 (a:=7) (b:=27) (decide (V.int (0+(i:Int))=V.int 0))
   refine ⟨p5,_,_,_,rfl,rfl,SqL.of upd_same,hve,?_⟩
   generalize upd Hm p5 (.lst [.int 7,.int 27])=Hn at Sp5 ⊢
   refine ⟨d,c,_,ns4,ve,rfl,Sp5,(by show t+1+1+1+1≤1000000000;omega),by omega,by omega,fun k5 ns5 Ho e0 e1 So Ko=>⟨_,_,rfl,rfl,?_⟩⟩
   obtain ⟨rr,er⟩:∃ n:Nat,1+k5=(n:Int):=⟨(1+k5).toNat,by omega⟩
   dsimp only
   rw [er]
   refine hM6 _ _ ?_
   refine ⟨_,rfl,rr,rfl,by omega,by omega,?_⟩
   refine ⟨_,rfl,_,rfl,_,_,rfl,rfl,.inr ⟨_,rfl,?_⟩⟩
   refine ⟨_,_,rfl,rfl,?_⟩
   dsimp only
   have e9:((rr:Int)+if decide ((1:Int)<(rr:Int))=true then 1 else 0)=((if rr=1 then 0 else rr:Nat):Int)+1:=by
    by_cases z:rr=1
    ·subst z;rfl
    ·rw [decide_eq_true (show (1:Int)<(rr:Int) by omega),if_pos rfl,if_neg z]
   rw [e9]
   refine ⟨_,_,rfl,.inl ⟨rfl,lf _⟩,fun Hq sq=>⟨true,rfl,?_⟩⟩
   refine iteF ?_
   exact ⟨t+1+1+1+1+1,ns5,_,_,_,_,_,_,_,rfl,So.same sq,by omega,by omega⟩
  refine ite2 (fun cc=>?_) (fun cc=>?_)
  ·have cc':(n:Int)≤(bk:Int):=of_decide_eq_true cc
   refine ⟨_,rfl,?_⟩
   exact ⟨_,_,rfl,alk (n:Int) (by omega),fun Hx sx=>⟨true,rfl,iteF (after1 Hx sx)⟩⟩
  ·have cc':¬ (n:Int)≤(bk:Int):=of_decide_eq_false (Bool.eq_false_iff.mpr cc)
   refine ⟨_,rfl,_,_,rfl,rfl,?_⟩
   exact ⟨_,_,rfl,alk ((bk:Int)+1) (by omega),fun Hx sx=>⟨true,rfl,iteF (after1 Hx sx)⟩⟩
 ·refine fun σ Hc hI_2=>opq fun G_2 hG_2=>?_
  obtain ⟨t,ns,v2,v3,v4,v5,v6,v7,v8,rfl,S,t0,t1⟩:=hI_2
  refine hG_2 ?_
  refine hN1 _ _ ?_
  refine ⟨2,rfl,by decide,by decide,fun p hp=>?_⟩
  have np:p ≠ d∧p ≠ c:=⟨(ne_of_none S.dict hp).symm,(ne_of_none S.list hp).symm⟩
  refine lc_range (p:=p) (lo:=0) (n:=2) (fun k σ Hd=>∃ (v:Option V) (t1:Int) (ns:List Int),σ=[v,some (.ref d)]∧StAt Hd d c t1 ns∧0≤t1∧t1≤200+20 * k∧Hd p=some (.lst ((List.replicate k true).map V.bl))) ?_ ?_ ?_
  ·exact ⟨none,t,ns,rfl,S.new hp _,t0,by omega,upd_same⟩
  ·refine fun k σ Hd hk hI_3=>opq fun G_3 hG_3=>?_
   obtain ⟨v,t2,ns2,rfl,S2,b0,b1,hpd⟩:=hI_3
   refine hG_3 ?_
   refine ⟨_,rfl,d,c,t2,ns2,rfl,S2,(by show t2≤1000000000 - 100;omega),fun t3 ns3 H3 S3 g1 g2 K3=>?_⟩
   refine ⟨_,K3 _ _ hpd np.1 np.2,small1000 (by rw [List.length_map,List.length_replicate];omega),_,t3,ns3,rfl,S3.put' np.1 np.2,by omega,by omega,?_⟩
   rw [upd_same,List.replicate_succ',List.map_append]
   rfl
  ·refine fun σ Hd hI_4=>opq fun G_4 hG_4=>?_
   obtain ⟨v,t2,ns2,rfl,S2,b0,b1,hpd⟩:=hI_4
   refine hG_4 ?_
   refine ⟨p,_,rfl,SqL.of hpd,?_⟩
   exact q Hd
end
theorem all_mk {l:PySem.W.OpenLaw} {w:World} {K:PySem.W.Frag} {h:Heap} {mg:Str→Option Value} {fa f_row_net f_square_needs f_square_net f_step_net f_row_rooms f_square_rooms f_step_rooms f_Lbegin f_Ltake f_Lsame f_Lneeded f_Lcome f_Lpart f_Lbits f_Ldone_in f_Lleast f_Lsquare_due f_Lsmall_right f_law:Addr} (X:K.In h) (G:h.Ns mainGlobals mg) (hfa:mg "law" = some (.ref fa))
  {od_row_net an_row_net od_square_needs an_square_needs od_square_net an_square_net od_step_net an_step_net od_row_rooms an_row_rooms od_square_rooms an_square_rooms od_step_rooms an_step_rooms od_Lbegin an_Lbegin od_Ltake an_Ltake od_Lsame an_Lsame od_Lneeded an_Lneeded od_Lcome an_Lcome od_Lpart an_Lpart od_Lbits an_Lbits od_Ldone_in an_Ldone_in od_Lleast an_Lleast od_Lsquare_due an_Lsquare_due od_Lsmall_right an_Lsmall_right od_law an_law:Option Addr} {sl_row_net sl_square_needs sl_square_net sl_step_net sl_row_rooms sl_square_rooms sl_step_rooms sl_Lbegin sl_Ltake sl_Lsame sl_Lneeded sl_Lcome sl_Lpart sl_Lbits sl_Ldone_in sl_Lleast sl_Lsquare_due sl_Lsmall_right sl_law:Array (Option Value)} {oc_row_net kV_row_net dc_row_net pm_row_net cd_row_net ct_row_net oc_square_needs kV_square_needs dc_square_needs pm_square_needs cd_square_needs ct_square_needs oc_square_net kV_square_net dc_square_net pm_square_net cd_square_net ct_square_net oc_step_net kV_step_net dc_step_net pm_step_net cd_step_net ct_step_net oc_row_rooms kV_row_rooms dc_row_rooms pm_row_rooms cd_row_rooms ct_row_rooms oc_square_rooms kV_square_rooms dc_square_rooms pm_square_rooms cd_square_rooms ct_square_rooms oc_step_rooms kV_step_rooms dc_step_rooms pm_step_rooms cd_step_rooms ct_step_rooms oc_Lbegin kV_Lbegin dc_Lbegin pm_Lbegin cd_Lbegin ct_Lbegin oc_Ltake kV_Ltake dc_Ltake pm_Ltake cd_Ltake ct_Ltake oc_Lsame kV_Lsame dc_Lsame pm_Lsame cd_Lsame ct_Lsame oc_Lneeded kV_Lneeded dc_Lneeded pm_Lneeded cd_Lneeded ct_Lneeded oc_Lcome kV_Lcome dc_Lcome pm_Lcome cd_Lcome ct_Lcome oc_Lpart kV_Lpart dc_Lpart pm_Lpart cd_Lpart ct_Lpart oc_Lbits kV_Lbits dc_Lbits pm_Lbits cd_Lbits ct_Lbits oc_Ldone_in kV_Ldone_in dc_Ldone_in pm_Ldone_in cd_Ldone_in ct_Ldone_in oc_Lleast kV_Lleast dc_Lleast pm_Lleast cd_Lleast ct_Lleast oc_Lsquare_due kV_Lsquare_due dc_Lsquare_due pm_Lsquare_due cd_Lsquare_due ct_Lsquare_due oc_Lsmall_right kV_Lsmall_right dc_Lsmall_right pm_Lsmall_right cd_Lsmall_right ct_Lsmall_right oc_law kV_law dc_law pm_law cd_law ct_law:Value}
  (a_row_net:PySem.W.nsIn K mainGlobals "row_net" = some (some (.ref f_row_net))) (l_row_net:K.lookup f_row_net=some ⟨oc_row_net,od_row_net,.func (PySem.W.fnOf "row_net" "row_net" (defArgs s_row_net) (defBody s_row_net) (defScope s_row_net) .none kV_row_net dc_row_net pm_row_net an_row_net cd_row_net ct_row_net),sl_row_net⟩) (c_row_net:PySem.W.codeIn K cd_row_net "row_net" = true) (k_row_net:PySem.W.keepIn K (.ref f_row_net)=true)
  (a_square_needs:PySem.W.nsIn K mainGlobals "square_needs" = some (some (.ref f_square_needs))) (l_square_needs:K.lookup f_square_needs=some ⟨oc_square_needs,od_square_needs,.func (PySem.W.fnOf "square_needs" "square_needs" (defArgs s_square_needs) (defBody s_square_needs) (defScope s_square_needs) .none kV_square_needs dc_square_needs pm_square_needs an_square_needs cd_square_needs ct_square_needs),sl_square_needs⟩) (c_square_needs:PySem.W.codeIn K cd_square_needs "square_needs" = true) (k_square_needs:PySem.W.keepIn K (.ref f_square_needs)=true)
  (a_square_net:PySem.W.nsIn K mainGlobals "square_net" = some (some (.ref f_square_net))) (l_square_net:K.lookup f_square_net=some ⟨oc_square_net,od_square_net,.func (PySem.W.fnOf "square_net" "square_net" (defArgs s_square_net) (defBody s_square_net) (defScope s_square_net) .none kV_square_net dc_square_net pm_square_net an_square_net cd_square_net ct_square_net),sl_square_net⟩) (c_square_net:PySem.W.codeIn K cd_square_net "square_net" = true) (k_square_net:PySem.W.keepIn K (.ref f_square_net)=true)
  (a_step_net:PySem.W.nsIn K mainGlobals "step_net" = some (some (.ref f_step_net))) (l_step_net:K.lookup f_step_net=some ⟨oc_step_net,od_step_net,.func (PySem.W.fnOf "step_net" "step_net" (defArgs s_step_net) (defBody s_step_net) (defScope s_step_net) .none kV_step_net dc_step_net pm_step_net an_step_net cd_step_net ct_step_net),sl_step_net⟩) (c_step_net:PySem.W.codeIn K cd_step_net "step_net" = true) (k_step_net:PySem.W.keepIn K (.ref f_step_net)=true)
  (a_row_rooms:PySem.W.nsIn K mainGlobals "row_rooms" = some (some (.ref f_row_rooms))) (l_row_rooms:K.lookup f_row_rooms=some ⟨oc_row_rooms,od_row_rooms,.func (PySem.W.fnOf "row_rooms" "row_rooms" (defArgs s_row_rooms) (defBody s_row_rooms) (defScope s_row_rooms) .none kV_row_rooms dc_row_rooms pm_row_rooms an_row_rooms cd_row_rooms ct_row_rooms),sl_row_rooms⟩) (c_row_rooms:PySem.W.codeIn K cd_row_rooms "row_rooms" = true) (k_row_rooms:PySem.W.keepIn K (.ref f_row_rooms)=true)
  (a_square_rooms:PySem.W.nsIn K mainGlobals "square_rooms" = some (some (.ref f_square_rooms))) (l_square_rooms:K.lookup f_square_rooms=some ⟨oc_square_rooms,od_square_rooms,.func (PySem.W.fnOf "square_rooms" "square_rooms" (defArgs s_square_rooms) (defBody s_square_rooms) (defScope s_square_rooms) .none kV_square_rooms dc_square_rooms pm_square_rooms an_square_rooms cd_square_rooms ct_square_rooms),sl_square_rooms⟩) (c_square_rooms:PySem.W.codeIn K cd_square_rooms "square_rooms" = true) (k_square_rooms:PySem.W.keepIn K (.ref f_square_rooms)=true)
  (a_step_rooms:PySem.W.nsIn K mainGlobals "step_rooms" = some (some (.ref f_step_rooms))) (l_step_rooms:K.lookup f_step_rooms=some ⟨oc_step_rooms,od_step_rooms,.func (PySem.W.fnOf "step_rooms" "step_rooms" (defArgs s_step_rooms) (defBody s_step_rooms) (defScope s_step_rooms) .none kV_step_rooms dc_step_rooms pm_step_rooms an_step_rooms cd_step_rooms ct_step_rooms),sl_step_rooms⟩) (c_step_rooms:PySem.W.codeIn K cd_step_rooms "step_rooms" = true) (k_step_rooms:PySem.W.keepIn K (.ref f_step_rooms)=true)
  (a_Lbegin:PySem.W.nsIn K mainGlobals "_law_begin" = some (some (.ref f_Lbegin))) (l_Lbegin:K.lookup f_Lbegin=some ⟨oc_Lbegin,od_Lbegin,.func (PySem.W.fnOf "_law_begin" "_law_begin" (defArgs s_Lbegin) (defBody s_Lbegin) (defScope s_Lbegin) .none kV_Lbegin dc_Lbegin pm_Lbegin an_Lbegin cd_Lbegin ct_Lbegin),sl_Lbegin⟩) (c_Lbegin:PySem.W.codeIn K cd_Lbegin "_law_begin" = true) (k_Lbegin:PySem.W.keepIn K (.ref f_Lbegin)=true)
  (a_Ltake:PySem.W.nsIn K mainGlobals "_law_take" = some (some (.ref f_Ltake))) (l_Ltake:K.lookup f_Ltake=some ⟨oc_Ltake,od_Ltake,.func (PySem.W.fnOf "_law_take" "_law_take" (defArgs s_Ltake) (defBody s_Ltake) (defScope s_Ltake) .none kV_Ltake dc_Ltake pm_Ltake an_Ltake cd_Ltake ct_Ltake),sl_Ltake⟩) (c_Ltake:PySem.W.codeIn K cd_Ltake "_law_take" = true) (k_Ltake:PySem.W.keepIn K (.ref f_Ltake)=true)
  (a_Lsame:PySem.W.nsIn K mainGlobals "_law_same" = some (some (.ref f_Lsame))) (l_Lsame:K.lookup f_Lsame=some ⟨oc_Lsame,od_Lsame,.func (PySem.W.fnOf "_law_same" "_law_same" (defArgs s_Lsame) (defBody s_Lsame) (defScope s_Lsame) .none kV_Lsame dc_Lsame pm_Lsame an_Lsame cd_Lsame ct_Lsame),sl_Lsame⟩) (c_Lsame:PySem.W.codeIn K cd_Lsame "_law_same" = true) (k_Lsame:PySem.W.keepIn K (.ref f_Lsame)=true)
  (a_Lneeded:PySem.W.nsIn K mainGlobals "_law_needed" = some (some (.ref f_Lneeded))) (l_Lneeded:K.lookup f_Lneeded=some ⟨oc_Lneeded,od_Lneeded,.func (PySem.W.fnOf "_law_needed" "_law_needed" (defArgs s_Lneeded) (defBody s_Lneeded) (defScope s_Lneeded) .none kV_Lneeded dc_Lneeded pm_Lneeded an_Lneeded cd_Lneeded ct_Lneeded),sl_Lneeded⟩) (c_Lneeded:PySem.W.codeIn K cd_Lneeded "_law_needed" = true) (k_Lneeded:PySem.W.keepIn K (.ref f_Lneeded)=true)
  (a_Lcome:PySem.W.nsIn K mainGlobals "_law_come" = some (some (.ref f_Lcome))) (l_Lcome:K.lookup f_Lcome=some ⟨oc_Lcome,od_Lcome,.func (PySem.W.fnOf "_law_come" "_law_come" (defArgs s_Lcome) (defBody s_Lcome) (defScope s_Lcome) .none kV_Lcome dc_Lcome pm_Lcome an_Lcome cd_Lcome ct_Lcome),sl_Lcome⟩) (c_Lcome:PySem.W.codeIn K cd_Lcome "_law_come" = true) (k_Lcome:PySem.W.keepIn K (.ref f_Lcome)=true)
  (a_Lpart:PySem.W.nsIn K mainGlobals "_law_part" = some (some (.ref f_Lpart))) (l_Lpart:K.lookup f_Lpart=some ⟨oc_Lpart,od_Lpart,.func (PySem.W.fnOf "_law_part" "_law_part" (defArgs s_Lpart) (defBody s_Lpart) (defScope s_Lpart) .none kV_Lpart dc_Lpart pm_Lpart an_Lpart cd_Lpart ct_Lpart),sl_Lpart⟩) (c_Lpart:PySem.W.codeIn K cd_Lpart "_law_part" = true) (k_Lpart:PySem.W.keepIn K (.ref f_Lpart)=true)
  (a_Lbits:PySem.W.nsIn K mainGlobals "_law_bits" = some (some (.ref f_Lbits))) (l_Lbits:K.lookup f_Lbits=some ⟨oc_Lbits,od_Lbits,.func (PySem.W.fnOf "_law_bits" "_law_bits" (defArgs s_Lbits) (defBody s_Lbits) (defScope s_Lbits) .none kV_Lbits dc_Lbits pm_Lbits an_Lbits cd_Lbits ct_Lbits),sl_Lbits⟩) (c_Lbits:PySem.W.codeIn K cd_Lbits "_law_bits" = true) (k_Lbits:PySem.W.keepIn K (.ref f_Lbits)=true)
  (a_Ldone_in:PySem.W.nsIn K mainGlobals "_law_done_in" = some (some (.ref f_Ldone_in))) (l_Ldone_in:K.lookup f_Ldone_in=some ⟨oc_Ldone_in,od_Ldone_in,.func (PySem.W.fnOf "_law_done_in" "_law_done_in" (defArgs s_Ldone_in) (defBody s_Ldone_in) (defScope s_Ldone_in) .none kV_Ldone_in dc_Ldone_in pm_Ldone_in an_Ldone_in cd_Ldone_in ct_Ldone_in),sl_Ldone_in⟩) (c_Ldone_in:PySem.W.codeIn K cd_Ldone_in "_law_done_in" = true) (k_Ldone_in:PySem.W.keepIn K (.ref f_Ldone_in)=true)
  (a_Lleast:PySem.W.nsIn K mainGlobals "_law_least" = some (some (.ref f_Lleast))) (l_Lleast:K.lookup f_Lleast=some ⟨oc_Lleast,od_Lleast,.func (PySem.W.fnOf "_law_least" "_law_least" (defArgs s_Lleast) (defBody s_Lleast) (defScope s_Lleast) .none kV_Lleast dc_Lleast pm_Lleast an_Lleast cd_Lleast ct_Lleast),sl_Lleast⟩) (c_Lleast:PySem.W.codeIn K cd_Lleast "_law_least" = true) (k_Lleast:PySem.W.keepIn K (.ref f_Lleast)=true)
  (a_Lsquare_due:PySem.W.nsIn K mainGlobals "_law_square_due" = some (some (.ref f_Lsquare_due))) (l_Lsquare_due:K.lookup f_Lsquare_due=some ⟨oc_Lsquare_due,od_Lsquare_due,.func (PySem.W.fnOf "_law_square_due" "_law_square_due" (defArgs s_Lsquare_due) (defBody s_Lsquare_due) (defScope s_Lsquare_due) .none kV_Lsquare_due dc_Lsquare_due pm_Lsquare_due an_Lsquare_due cd_Lsquare_due ct_Lsquare_due),sl_Lsquare_due⟩) (c_Lsquare_due:PySem.W.codeIn K cd_Lsquare_due "_law_square_due" = true) (k_Lsquare_due:PySem.W.keepIn K (.ref f_Lsquare_due)=true)
  (a_Lsmall_right:PySem.W.nsIn K mainGlobals "_law_small_right" = some (some (.ref f_Lsmall_right))) (l_Lsmall_right:K.lookup f_Lsmall_right=some ⟨oc_Lsmall_right,od_Lsmall_right,.func (PySem.W.fnOf "_law_small_right" "_law_small_right" (defArgs s_Lsmall_right) (defBody s_Lsmall_right) (defScope s_Lsmall_right) .none kV_Lsmall_right dc_Lsmall_right pm_Lsmall_right an_Lsmall_right cd_Lsmall_right ct_Lsmall_right),sl_Lsmall_right⟩) (c_Lsmall_right:PySem.W.codeIn K cd_Lsmall_right "_law_small_right" = true) (k_Lsmall_right:PySem.W.keepIn K (.ref f_Lsmall_right)=true)
  (a_law:PySem.W.nsIn K mainGlobals "law" = some (some (.ref f_law))) (l_law:K.lookup f_law=some ⟨oc_law,od_law,.func (PySem.W.fnOf "law" "law" (defArgs s_law) (defBody s_law) (defScope s_law) .none kV_law dc_law pm_law an_law cd_law ct_law),sl_law⟩) (c_law:PySem.W.codeIn K cd_law "law" = true) (k_law:PySem.W.keepIn K (.ref f_law)=true)
  (z_all:PySem.W.nsIn K mainGlobals "all" = some none)
  (z_any:PySem.W.nsIn K mainGlobals "any" = some none)
  (z_bool:PySem.W.nsIn K mainGlobals "bool" = some none)
  (z_dict:PySem.W.nsIn K mainGlobals "dict" = some none)
  (z_divmod:PySem.W.nsIn K mainGlobals "divmod" = some none)
  (z_enumerate:PySem.W.nsIn K mainGlobals "enumerate" = some none)
  (z_int:PySem.W.nsIn K mainGlobals "int" = some none)
  (z_isinstance:PySem.W.nsIn K mainGlobals "isinstance" = some none)
  (z_len:PySem.W.nsIn K mainGlobals "len" = some none)
  (z_list:PySem.W.nsIn K mainGlobals "list" = some none)
  (z_max:PySem.W.nsIn K mainGlobals "max" = some none)
  (z_min:PySem.W.nsIn K mainGlobals "min" = some none)
  (z_range:PySem.W.nsIn K mainGlobals "range" = some none)
  (z_str:PySem.W.nsIn K mainGlobals "str" = some none)
  (z_sum:PySem.W.nsIn K mainGlobals "sum" = some none)
  (z_tuple:PySem.W.nsIn K mainGlobals "tuple" = some none)
  (z_zip:PySem.W.nsIn K mainGlobals "zip" = some none)
  : ∃ fd:FuncData,(∀ (s:Shared) (v:Value),BindsTo s fd ⟨[v],[]⟩ [("_law_script",v)])∧∀ base:Heap,K.In base→base.Ns mainGlobals mg→FnOk l.prog w K mg base CX0 6 fa fd ["_law_script"] (spLaw K):=by
 have e:=hfa.symm.trans (PySem.W.mg_of X G a_law)
 cases e
 have F_row_net:=fun_mk (st:=s_row_net) l_row_net c_row_net k_row_net
 have b_row_net:=F_row_net.binds (ps:=["n","back"]) fun _ _ _ _ _ _ us hl=>match us,hl with | [_,_],_=>rfl
 have m_row_net:=PySem.W.mg_of X G a_row_net
 have F_square_needs:=fun_mk (st:=s_square_needs) l_square_needs c_square_needs k_square_needs
 have b_square_needs:=F_square_needs.binds (ps:=["m","i","j"]) fun _ _ _ _ _ _ us hl=>match us,hl with | [_,_,_],_=>rfl
 have m_square_needs:=PySem.W.mg_of X G a_square_needs
 have F_square_net:=fun_mk (st:=s_square_net) l_square_net c_square_net k_square_net
 have b_square_net:=F_square_net.binds (ps:=["n","m"]) fun _ _ _ _ _ _ us hl=>match us,hl with | [_,_],_=>rfl
 have m_square_net:=PySem.W.mg_of X G a_square_net
 have F_step_net:=fun_mk (st:=s_step_net) l_step_net c_step_net k_step_net
 have b_step_net:=F_step_net.binds (ps:=["n"]) fun _ _ _ _ _ _ us hl=>match us,hl with | [_],_=>rfl
 have m_step_net:=PySem.W.mg_of X G a_step_net
 have F_row_rooms:=fun_mk (st:=s_row_rooms) l_row_rooms c_row_rooms k_row_rooms
 have b_row_rooms:=F_row_rooms.binds (ps:=["n","back"]) fun _ _ _ _ _ _ us hl=>match us,hl with | [_,_],_=>rfl
 have m_row_rooms:=PySem.W.mg_of X G a_row_rooms
 have F_square_rooms:=fun_mk (st:=s_square_rooms) l_square_rooms c_square_rooms k_square_rooms
 have b_square_rooms:=F_square_rooms.binds (ps:=["n","m"]) fun _ _ _ _ _ _ us hl=>match us,hl with | [_,_],_=>rfl
 have m_square_rooms:=PySem.W.mg_of X G a_square_rooms
 have F_step_rooms:=fun_mk (st:=s_step_rooms) l_step_rooms c_step_rooms k_step_rooms
 have b_step_rooms:=F_step_rooms.binds (ps:=["n"]) fun _ _ _ _ _ _ us hl=>match us,hl with | [_],_=>rfl
 have m_step_rooms:=PySem.W.mg_of X G a_step_rooms
 have F_Lbegin:=fun_mk (st:=s_Lbegin) l_Lbegin c_Lbegin k_Lbegin
 have b_Lbegin:=F_Lbegin.binds (ps:=["_law_script"]) fun _ _ _ _ _ _ us hl=>match us,hl with | [_],_=>rfl
 have m_Lbegin:=PySem.W.mg_of X G a_Lbegin
 have F_Ltake:=fun_mk (st:=s_Ltake) l_Ltake c_Ltake k_Ltake
 have b_Ltake:=F_Ltake.binds (ps:=["_law_state","_law_many"]) fun _ _ _ _ _ _ us hl=>match us,hl with | [_,_],_=>rfl
 have m_Ltake:=PySem.W.mg_of X G a_Ltake
 have F_Lsame:=fun_mk (st:=s_Lsame) l_Lsame c_Lsame k_Lsame
 have b_Lsame:=F_Lsame.binds (ps:=["_law_found","_law_due"]) fun _ _ _ _ _ _ us hl=>match us,hl with | [_,_],_=>rfl
 have m_Lsame:=PySem.W.mg_of X G a_Lsame
 have F_Lneeded:=fun_mk (st:=s_Lneeded) l_Lneeded c_Lneeded k_Lneeded
 have b_Lneeded:=F_Lneeded.binds (ps:=["_law_net","_law_asked"]) fun _ _ _ _ _ _ us hl=>match us,hl with | [_,_],_=>rfl
 have m_Lneeded:=PySem.W.mg_of X G a_Lneeded
 have F_Lcome:=fun_mk (st:=s_Lcome) l_Lcome c_Lcome k_Lcome
 have b_Lcome:=F_Lcome.binds (ps:=["_law_net","_law_rooms"]) fun _ _ _ _ _ _ us hl=>match us,hl with | [_,_],_=>rfl
 have m_Lcome:=PySem.W.mg_of X G a_Lcome
 have F_Lpart:=fun_mk (st:=s_Lpart) l_Lpart c_Lpart k_Lpart
 have b_Lpart:=F_Lpart.binds (ps:=["_law_net","_law_works"]) fun _ _ _ _ _ _ us hl=>match us,hl with | [_,_],_=>rfl
 have m_Lpart:=PySem.W.mg_of X G a_Lpart
 have F_Lbits:=fun_mk (st:=s_Lbits) l_Lbits c_Lbits k_Lbits
 have b_Lbits:=F_Lbits.binds (ps:=["_law_works"]) fun _ _ _ _ _ _ us hl=>match us,hl with | [_],_=>rfl
 have m_Lbits:=PySem.W.mg_of X G a_Lbits
 have F_Ldone_in:=fun_mk (st:=s_Ldone_in) l_Ldone_in c_Ldone_in k_Ldone_in
 have b_Ldone_in:=F_Ldone_in.binds (ps:=["_law_net","_law_asked","_law_rooms"]) fun _ _ _ _ _ _ us hl=>match us,hl with | [_,_,_],_=>rfl
 have m_Ldone_in:=PySem.W.mg_of X G a_Ldone_in
 have F_Lleast:=fun_mk (st:=s_Lleast) l_Lleast c_Lleast k_Lleast
 have b_Lleast:=F_Lleast.binds (ps:=["_law_net","_law_asked"]) fun _ _ _ _ _ _ us hl=>match us,hl with | [_,_],_=>rfl
 have m_Lleast:=PySem.W.mg_of X G a_Lleast
 have F_Lsquare_due:=fun_mk (st:=s_Lsquare_due) l_Lsquare_due c_Lsquare_due k_Lsquare_due
 have b_Lsquare_due:=F_Lsquare_due.binds (ps:=["_law_n","_law_m"]) fun _ _ _ _ _ _ us hl=>match us,hl with | [_,_],_=>rfl
 have m_Lsquare_due:=PySem.W.mg_of X G a_Lsquare_due
 have F_Lsmall_right:=fun_mk (st:=s_Lsmall_right) l_Lsmall_right c_Lsmall_right k_Lsmall_right
 have b_Lsmall_right:=F_Lsmall_right.binds (ps:=["_law_state"]) fun _ _ _ _ _ _ us hl=>match us,hl with | [_],_=>rfl
 have m_Lsmall_right:=PySem.W.mg_of X G a_Lsmall_right
 have F_law:=fun_mk (st:=s_law) l_law c_law k_law
 have zz_all:=PySem.W.mg_none_of X G z_all
 have zz_any:=PySem.W.mg_none_of X G z_any
 have zz_bool:=PySem.W.mg_none_of X G z_bool
 have zz_dict:=PySem.W.mg_none_of X G z_dict
 have zz_divmod:=PySem.W.mg_none_of X G z_divmod
 have zz_enumerate:=PySem.W.mg_none_of X G z_enumerate
 have zz_int:=PySem.W.mg_none_of X G z_int
 have zz_isinstance:=PySem.W.mg_none_of X G z_isinstance
 have zz_len:=PySem.W.mg_none_of X G z_len
 have zz_list:=PySem.W.mg_none_of X G z_list
 have zz_max:=PySem.W.mg_none_of X G z_max
 have zz_min:=PySem.W.mg_none_of X G z_min
 have zz_range:=PySem.W.mg_none_of X G z_range
 have zz_str:=PySem.W.mg_none_of X G z_str
 have zz_sum:=PySem.W.mg_none_of X G z_sum
 have zz_tuple:=PySem.W.mg_none_of X G z_tuple
 have zz_zip:=PySem.W.mg_none_of X G z_zip
 refine ⟨PySem.W.fnOf "law" "law" (defArgs s_law) (defBody s_law) (defScope s_law) .none kV_law dc_law pm_law an_law cd_law ct_law,fun s v=>.of_eq rfl,fun base _ _=>?_⟩
 have G_row_net:=ok_row_net (P:=l.prog) (w:=w) (mg:=mg) (base:=base) (F:=F_row_net) (z_max:=zz_max) (z_range:=zz_range) (z_tuple:=zz_tuple)
 have G_square_needs:=ok_square_needs (P:=l.prog) (w:=w) (mg:=mg) (base:=base) (F:=F_square_needs)
 have G_square_net:=ok_square_net (P:=l.prog) (w:=w) (mg:=mg) (base:=base) (F:=F_square_net) (G_square_needs:=G_square_needs) (b_square_needs:=b_square_needs) (k_square_needs:=F_square_needs.kp) (m_square_needs:=m_square_needs) (z_range:=zz_range) (z_tuple:=zz_tuple)
 have G_step_net:=ok_step_net (P:=l.prog) (w:=w) (mg:=mg) (base:=base) (F:=F_step_net) (z_range:=zz_range) (z_tuple:=zz_tuple)
 have G_row_rooms:=ok_row_rooms (P:=l.prog) (w:=w) (mg:=mg) (base:=base) (F:=F_row_rooms) (z_min:=zz_min)
 have G_square_rooms:=ok_square_rooms (P:=l.prog) (w:=w) (mg:=mg) (base:=base) (F:=F_square_rooms) (z_min:=zz_min)
 have G_step_rooms:=ok_step_rooms (P:=l.prog) (w:=w) (mg:=mg) (base:=base) (F:=F_step_rooms)
 have G_Lbegin:=ok_Lbegin (P:=l.prog) (w:=w) (mg:=mg) (base:=base) (F:=F_Lbegin) (z_list:=zz_list)
 have G_Ltake:=ok_Ltake (P:=l.prog) (w:=w) (mg:=mg) (base:=base) (F:=F_Ltake) (z_divmod:=zz_divmod) (z_len:=zz_len)
 have G_Lsame:=ok_Lsame (P:=l.prog) (w:=w) (mg:=mg) (base:=base) (F:=F_Lsame) (b_Lsame:=b_Lsame) (k_Lsame:=F_Lsame.kp) (m_Lsame:=m_Lsame) (n:=4) (z_all:=zz_all) (z_bool:=zz_bool) (z_int:=zz_int) (z_isinstance:=zz_isinstance) (z_len:=zz_len) (z_list:=zz_list) (z_str:=zz_str) (z_tuple:=zz_tuple) (z_zip:=zz_zip)
 have G_Lneeded:=ok_Lneeded (P:=l.prog) (w:=w) (mg:=mg) (base:=base) (F:=F_Lneeded) (z_len:=zz_len) (z_range:=zz_range)
 have G_Lcome:=ok_Lcome (P:=l.prog) (w:=w) (mg:=mg) (base:=base) (F:=F_Lcome) (z_len:=zz_len) (z_list:=zz_list) (z_range:=zz_range) (z_sum:=zz_sum)
 have G_Lpart:=ok_Lpart (P:=l.prog) (w:=w) (mg:=mg) (base:=base) (F:=F_Lpart) (z_dict:=zz_dict) (z_enumerate:=zz_enumerate) (z_tuple:=zz_tuple)
 have G_Lbits:=ok_Lbits (P:=l.prog) (w:=w) (mg:=mg) (base:=base) (F:=F_Lbits) (z_sum:=zz_sum)
 have G_Ldone_in:=ok_Ldone_in (P:=l.prog) (w:=w) (mg:=mg) (base:=base) (F:=F_Ldone_in) (G_Lneeded:=G_Lneeded) (b_Lneeded:=b_Lneeded) (k_Lneeded:=F_Lneeded.kp) (m_Lneeded:=m_Lneeded) (G_Lbits:=G_Lbits) (b_Lbits:=b_Lbits) (k_Lbits:=F_Lbits.kp) (m_Lbits:=m_Lbits) (G_Lcome:=G_Lcome) (b_Lcome:=b_Lcome) (k_Lcome:=F_Lcome.kp) (m_Lcome:=m_Lcome) (G_Lpart:=G_Lpart) (b_Lpart:=b_Lpart) (k_Lpart:=F_Lpart.kp) (m_Lpart:=m_Lpart) (z_any:=zz_any) (z_enumerate:=zz_enumerate)
 have G_Lleast:=ok_Lleast (P:=l.prog) (w:=w) (mg:=mg) (base:=base) (F:=F_Lleast) (G_Ldone_in:=G_Ldone_in) (b_Ldone_in:=b_Ldone_in) (k_Ldone_in:=F_Ldone_in.kp) (m_Ldone_in:=m_Ldone_in)
 have G_Lsquare_due:=ok_Lsquare_due (P:=l.prog) (w:=w) (mg:=mg) (base:=base) (F:=F_Lsquare_due) (z_min:=zz_min)
 have G_Lsmall_right:=ok_Lsmall_right (P:=l.prog) (w:=w) (mg:=mg) (base:=base) (F:=F_Lsmall_right) (G_Ltake:=G_Ltake) (b_Ltake:=b_Ltake) (k_Ltake:=F_Ltake.kp) (m_Ltake:=m_Ltake) (G_step_rooms:=G_step_rooms) (b_step_rooms:=b_step_rooms) (k_step_rooms:=F_step_rooms.kp) (m_step_rooms:=m_step_rooms) (G_square_rooms:=G_square_rooms) (b_square_rooms:=b_square_rooms) (k_square_rooms:=F_square_rooms.kp) (m_square_rooms:=m_square_rooms) (G_row_rooms:=G_row_rooms) (b_row_rooms:=b_row_rooms) (k_row_rooms:=F_row_rooms.kp) (m_row_rooms:=m_row_rooms) (G_step_net:=G_step_net) (b_step_net:=b_step_net) (k_step_net:=F_step_net.kp) (m_step_net:=m_step_net) (G_square_net:=G_square_net) (b_square_net:=b_square_net) (k_square_net:=F_square_net.kp) (m_square_net:=m_square_net) (G_row_net:=G_row_net) (b_row_net:=b_row_net) (k_row_net:=F_row_net.kp) (m_row_net:=m_row_net) (G_Lsame:=G_Lsame) (b_Lsame:=b_Lsame) (k_Lsame:=F_Lsame.kp) (m_Lsame:=m_Lsame) (G_Lleast:=G_Lleast) (b_Lleast:=b_Lleast) (k_Lleast:=F_Lleast.kp) (m_Lleast:=m_Lleast) (z_len:=zz_len)
 exact ok_law (P:=l.prog) (w:=w) (mg:=mg) (base:=base) (F:=F_law) (G_Lbegin:=G_Lbegin) (b_Lbegin:=b_Lbegin) (k_Lbegin:=F_Lbegin.kp) (m_Lbegin:=m_Lbegin) (G_Ltake:=G_Ltake) (b_Ltake:=b_Ltake) (k_Ltake:=F_Ltake.kp) (m_Ltake:=m_Ltake) (G_Lsame:=G_Lsame) (b_Lsame:=b_Lsame) (k_Lsame:=F_Lsame.kp) (m_Lsame:=m_Lsame) (G_row_rooms:=G_row_rooms) (b_row_rooms:=b_row_rooms) (k_row_rooms:=F_row_rooms.kp) (m_row_rooms:=m_row_rooms) (G_Lsquare_due:=G_Lsquare_due) (b_Lsquare_due:=b_Lsquare_due) (k_Lsquare_due:=F_Lsquare_due.kp) (m_Lsquare_due:=m_Lsquare_due) (G_square_rooms:=G_square_rooms) (b_square_rooms:=b_square_rooms) (k_square_rooms:=F_square_rooms.kp) (m_square_rooms:=m_square_rooms) (G_step_rooms:=G_step_rooms) (b_step_rooms:=b_step_rooms) (k_step_rooms:=F_step_rooms.kp) (m_step_rooms:=m_step_rooms) (G_Lsmall_right:=G_Lsmall_right) (b_Lsmall_right:=b_Lsmall_right) (k_Lsmall_right:=F_Lsmall_right.kp) (m_Lsmall_right:=m_Lsmall_right) (z_all:=zz_all) (z_int:=zz_int) (z_range:=zz_range)
theorem walk {l:PySem.W.OpenLaw} {q:Program} {loose:List Str} {XP:(Str→Option Value)→Heap→Prop} {YP:World→Heap→Prop} {d:DefRec} {K:Params→PySem.W.Frag} (hn:l.most=some 63) (hdf:d.params.defaults=[])
  (hY:∀ (w:World) (h:Heap),YP w h→(K w.params).In h)
  (F:∀ (w:World) (mg:Str→Option Value) (fa:Addr) (h:Heap),(K w.params).In h→h.Ns mainGlobals mg→mg d.name=some (.ref fa)→
   ∃ fd:FuncData,(∀ (s:Shared) (u:Value),BindsTo s fd ⟨[u],[]⟩ [("_law_script",u)])∧∀ base:Heap,(K w.params).In base→base.Ns mainGlobals mg→FnOk l.prog w (K w.params) mg base CX0 6 fa fd ["_law_script"] (spLaw (K w.params))) :
  PySem.W.WalkO q loose XP YP l.row.toRowW d [] (fun f vs=>PySem.call f vs):=
 L2.walk_of (n:=63) (k:=6) (x:="_law_script") (CX:=fun _=>CX0) (sp:=fun w=>spLaw (K w.params)) hn (by decide) hdf ⟨rfl,by decide,by decide,rfl⟩ hY F (fun _ _ a ns hl _ hS=>⟨a,ns,rfl,hS,hl,fun _=>rfl⟩) fun _ _ _ _ _ z=>z
end Fw
open PySem PySem.W PyProof.Rows
set_option maxRecDepth 100000 in
set_option maxHeartbeats 0 in
theorem PySem.Challenge.cw_fewrooms_k62_rooms_of_rows_and_squares_holds : PySem.Challenge.rw_fewrooms_k62_rooms_of_rows_and_squares.Holds := by
 w_on;refine holds_law Fw.hpSaid fun said=>?_
 refine holds_open (q:=Fw.hpQ) (Xt:=Fw.hpX) (XP:=XL Fw.hpQ []) (YP:=(kHook Fw.hpK Fw.hpA Fw.hpE).says)
  Fw.hpLeft (kHook Fw.hpK Fw.hpA Fw.hpE).of (kHook Fw.hpK Fw.hpA Fw.hpE).keeps (fun s e=>xl_of s (Bool.and_eq_true_iff.mp e).1) XL.keeps
  (by rfl) (by rfl) (by rfl) (fun s e=>recFacts_of (Bool.and_eq_true_iff.mp e).2) (by rfl)
  (by first | assumption | decide +kernel) (by decide +kernel) ⟨rfl,rfl,rfl,rfl,rfl,by decide +kernel⟩ ?hw ?hc
 case hw=>w_witness2
 k_fill
 refine Fw.walk (l:=PySem.Challenge.rw_fewrooms_k62_rooms_of_rows_and_squares) rfl rfl (fun w h Y=>PySem.W.kIn_of Y) ?F
 case F=>
  intro w mg fa h KX G hmg
  refine' Fw.all_mk KX G hmg ?a_row_net ?l_row_net ?c_row_net ?k_row_net ?a_square_needs ?l_square_needs ?c_square_needs ?k_square_needs ?a_square_net ?l_square_net ?c_square_net ?k_square_net ?a_step_net ?l_step_net ?c_step_net ?k_step_net ?a_row_rooms ?l_row_rooms ?c_row_rooms ?k_row_rooms ?a_square_rooms ?l_square_rooms ?c_square_rooms ?k_square_rooms ?a_step_rooms ?l_step_rooms ?c_step_rooms ?k_step_rooms ?a_Lbegin ?l_Lbegin ?c_Lbegin ?k_Lbegin ?a_Ltake ?l_Ltake ?c_Ltake ?k_Ltake ?a_Lsame ?l_Lsame ?c_Lsame ?k_Lsame ?a_Lneeded ?l_Lneeded ?c_Lneeded ?k_Lneeded ?a_Lcome ?l_Lcome ?c_Lcome ?k_Lcome ?a_Lpart ?l_Lpart ?c_Lpart ?k_Lpart ?a_Lbits ?l_Lbits ?c_Lbits ?k_Lbits ?a_Ldone_in ?l_Ldone_in ?c_Ldone_in ?k_Ldone_in ?a_Lleast ?l_Lleast ?c_Lleast ?k_Lleast ?a_Lsquare_due ?l_Lsquare_due ?c_Lsquare_due ?k_Lsquare_due ?a_Lsmall_right ?l_Lsmall_right ?c_Lsmall_right ?k_Lsmall_right ?a_law ?l_law ?c_law ?k_law ?z_all ?z_any ?z_bool ?z_dict ?z_divmod ?z_enumerate ?z_int ?z_isinstance ?z_len ?z_list ?z_max ?z_min ?z_range ?z_str ?z_sum ?z_tuple ?z_zip
  (case a_row_net=>k_is)
  (case l_row_net=>k_is)
  (case c_row_net=>k_is)
  (case k_row_net=>k_is)
  (case a_square_needs=>k_is)
  (case l_square_needs=>k_is)
  (case c_square_needs=>k_is)
  (case k_square_needs=>k_is)
  (case a_square_net=>k_is)
  (case l_square_net=>k_is)
  (case c_square_net=>k_is)
  (case k_square_net=>k_is)
  (case a_step_net=>k_is)
  (case l_step_net=>k_is)
  (case c_step_net=>k_is)
  (case k_step_net=>k_is)
  (case a_row_rooms=>k_is)
  (case l_row_rooms=>k_is)
  (case c_row_rooms=>k_is)
  (case k_row_rooms=>k_is)
  (case a_square_rooms=>k_is)
  (case l_square_rooms=>k_is)
  (case c_square_rooms=>k_is)
  (case k_square_rooms=>k_is)
  (case a_step_rooms=>k_is)
  (case l_step_rooms=>k_is)
  (case c_step_rooms=>k_is)
  (case k_step_rooms=>k_is)
  (case a_Lbegin=>k_is)
  (case l_Lbegin=>k_is)
  (case c_Lbegin=>k_is)
  (case k_Lbegin=>k_is)
  (case a_Ltake=>k_is)
  (case l_Ltake=>k_is)
  (case c_Ltake=>k_is)
  (case k_Ltake=>k_is)
  (case a_Lsame=>k_is)
  (case l_Lsame=>k_is)
  (case c_Lsame=>k_is)
  (case k_Lsame=>k_is)
  (case a_Lneeded=>k_is)
  (case l_Lneeded=>k_is)
  (case c_Lneeded=>k_is)
  (case k_Lneeded=>k_is)
  (case a_Lcome=>k_is)
  (case l_Lcome=>k_is)
  (case c_Lcome=>k_is)
  (case k_Lcome=>k_is)
  (case a_Lpart=>k_is)
  (case l_Lpart=>k_is)
  (case c_Lpart=>k_is)
  (case k_Lpart=>k_is)
  (case a_Lbits=>k_is)
  (case l_Lbits=>k_is)
  (case c_Lbits=>k_is)
  (case k_Lbits=>k_is)
  (case a_Ldone_in=>k_is)
  (case l_Ldone_in=>k_is)
  (case c_Ldone_in=>k_is)
  (case k_Ldone_in=>k_is)
  (case a_Lleast=>k_is)
  (case l_Lleast=>k_is)
  (case c_Lleast=>k_is)
  (case k_Lleast=>k_is)
  (case a_Lsquare_due=>k_is)
  (case l_Lsquare_due=>k_is)
  (case c_Lsquare_due=>k_is)
  (case k_Lsquare_due=>k_is)
  (case a_Lsmall_right=>k_is)
  (case l_Lsmall_right=>k_is)
  (case c_Lsmall_right=>k_is)
  (case k_Lsmall_right=>k_is)
  (case a_law=>k_is)
  (case l_law=>k_is)
  (case c_law=>k_is)
  (case k_law=>k_is)
  (case z_all=>k_is)
  (case z_any=>k_is)
  (case z_bool=>k_is)
  (case z_dict=>k_is)
  (case z_divmod=>k_is)
  (case z_enumerate=>k_is)
  (case z_int=>k_is)
  (case z_isinstance=>k_is)
  (case z_len=>k_is)
  (case z_list=>k_is)
  (case z_max=>k_is)
  (case z_min=>k_is)
  (case z_range=>k_is)
  (case z_str=>k_is)
  (case z_sum=>k_is)
  (case z_tuple=>k_is)
  (case z_zip=>k_is)

