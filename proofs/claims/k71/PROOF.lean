import PyProof.Rows.All
import Wide.All
import OpenK.AllK
import Wide.FinOn
import Lean
import PyProof.EqAt
import PyProof.EqKinds
import PyProof.TupleCall
import PySem.Challenge.RW_fewrooms_k71_rows_at_fault
noncomputable section
set_option Elab.async false
set_option linter.all false
set_option maxRecDepth 100000
set_option maxHeartbeats 0
namespace Fw
open PySem
noncomputable def inCl (s:Stmt) (j:Nat):Stmt:=match s with
 | .ClassDef _ _ _ body _ _ _ _ _ _ _=>body.getD j (.Pass ⟨0,0,0,0⟩)
 | _=>.Pass ⟨0,0,0,0⟩
noncomputable def top (i:Nat):Stmt:=PySem.Challenge.pw_fewrooms_k71_rows_at_fault.main.body.getD i (.Pass ⟨0,0,0,0⟩)
abbrev qHF:Stmt:=top 17
abbrev qFX:Stmt:=top 18
abbrev qDG:Stmt:=top 19
abbrev qDH:Stmt:=top 20
abbrev qEY:Stmt:=top 21
abbrev qHG:Stmt:=top 22
abbrev qE0:Stmt:=top 24
noncomputable abbrev qKH:Stmt:=top 26
noncomputable abbrev qND:Stmt:=top 27
abbrev qNE:Stmt:=top 28
noncomputable abbrev qDI:Stmt:=top 29
noncomputable abbrev qEZ:Stmt:=top 30
noncomputable abbrev qRP:Stmt:=top 31
abbrev qKF:Stmt:=top 32
abbrev qKG:Stmt:=top 33
abbrev qNG:Stmt:=top 34
abbrev qDJ:Stmt:=top 35
abbrev qF0:Stmt:=top 36
abbrev qNF:Stmt:=top 37
abbrev qKE:Stmt:=top 38
abbrev qG0:Stmt:=top 39
abbrev qE1:Stmt:=top 40
abbrev qG1:Stmt:=top 41
abbrev qFZ:Stmt:=top 42
abbrev qD3:Stmt:=top 43
abbrev qFY:Stmt:=top 44
abbrev qHH:Stmt:=top 45
noncomputable abbrev qM1:Stmt:=top 46
abbrev qNC:Stmt:=inCl (top 2) 0
abbrev qBM:Stmt:=inCl (top 6) 0
abbrev qC2:Stmt:=inCl (top 23) 0
abbrev qB1:Stmt:=inCl (top 23) 1
abbrev qB6:Stmt:=inCl (top 23) 2
abbrev qB7:Stmt:=inCl (top 23) 3
abbrev qB0:Stmt:=inCl (top 23) 4
abbrev qBA:Stmt:=inCl (top 23) 5
end Fw
namespace Fw
open PySem
noncomputable def dA (s:Stmt):Arguments:=match s with
 | .FunctionDef _ a _ _ _ _ _ _ _ _=>a
 | _=>{ posonlyargs:=[],args:=[],vararg:=none,kwonlyargs:=[],kw_defaults:=[],kwarg:=none,defaults:=[] }
noncomputable def dB (s:Stmt):List Stmt:=match s with
 | .FunctionDef _ _ b _ _ _ _ _ _ _=>b
 | _=>[]
noncomputable def dS (s:Stmt):Scope:=match s with
 | .FunctionDef _ _ _ _ _ _ sc _ _ _=>sc
 | _=>{ kind:=.function,names:=[],isGenerator:=false,isCoroutine:=false }
noncomputable abbrev so (s:String):Str:=PySem.Str.ofString s
noncomputable abbrev kh (P:Params) (s:Str):Int:=PySem.PyData.keyHash P s
noncomputable abbrev hde (P:Params) (s:String) (n:Nat) (v:Value):DictEntry:=⟨kh P (so s),.str (so s) n,v⟩
noncomputable abbrev hvs (s:String) (n:Nat):Value:=.str (so s) n
noncomputable abbrev hcut (n:Nat):Value:=hvs "/claim/cut.py" n
noncomputable abbrev hfd (x q:String) (s:Stmt) (a b c d:Value) (e:Option Addr) (f g:Value) (i:Addr):FuncData:=⟨so x,so q,dA s,.stmts (dB s),dS s,3,[],a,b,c,d,e,f,g,i⟩
noncomputable abbrev htp (d:Data) (s:Array (Option Value)):Obj:=⟨.type "tuple",none,d,s⟩
noncomputable abbrev hcd (d:Data) (s:Array (Option Value)):Obj:=⟨.type "code",none,d,s⟩
noncomputable abbrev hfn (d:Data) (s:Array (Option Value)):Obj:=⟨.type "function",none,d,s⟩
noncomputable abbrev ht0:Obj:=htp (.seq #[]) #[]
noncomputable def hvl:List String->Nat->List Value
 | [],_=>[]
 | x::r,n=>hvs x n::hvl r (n+1)
noncomputable abbrev hts (l:List String) (n:Nat):Obj:=htp (.seq (hvl l n).toArray) #[]
noncomputable abbrev hco (x:String) (t:Nat) (ln ac fl:Int) (b:Nat) (md e:Int) (n:Nat):Obj:=hcd (.fields #[hvs x t,hvs x (t+1),hcut (t+2),.int ln 0,.int ac 0,.int 0 0,.int 0 0,.int fl 0,.ref b,.bool .true,.int md 0,.ref (b+1),.none,.ref (b+2),.ref (b+3),.ref (b+4),.int e 0,.int ln 0,hcut n]) #[]
noncomputable abbrev hcp (x:String) (t:Nat) (ln ac:Int) (b:Nat) (md e:Int):Obj:=hcd (.fields #[hvs x t,hvs x (t+1),hcut (t+2),.int ln 0,.int ac 0,.int 0 0,.int 0 0,.int 3 0,.ref b,.bool .true,.int md 0,.ref (b+1),.none,.none,.none,.ref (b+2),.int e 0,.int ln 0,hcut (t+4)]) #[]
noncomputable abbrev hfo (x:String) (s:Stmt) (m:String) (t c:Nat):Obj:=hfn (.func (hfd x x s .none .none .none (hvs m t) .none (.ref c) .none 0)) #[]
noncomputable def hpK:Params->PySem.W.Frag:=fun P=>
 (nat_lit 2,Obj.mk .none .none (.dict #[]) #[]) ::
 (nat_lit 3,Obj.mk (.type "dict") .none (.dict #[hde P "__name__" 165 (hvs "law_fewrooms_k71_rows_at_fault" 464),hde P "__doc__" 166 .none,hde P "__package__" 167 .none,hde P "__loader__" 168 (.builtin "__main__.__loader__#opaque"),hde P "__spec__" 169 .none,hde P "__annotations__" 170 (.ref 6),hde P "__builtins__" 171 (.ref 4),hde P "__file__" 173 (hcut 172),hde P "__cached__" 174 .none,hde P "RoomError" 206 (.ref 24),hde P "Barred" 233 (.ref 44),hde P "NoMove" 249 (.ref 56),hde P "NoTree" 265 (.ref 68),hde P "TooMany" 281 (.ref 80),hde P "BadRow" 306 (.ref 99),hde P "MOST_ROWS" 310 (.int 100 309),hde P "MOST_SIGNS" 312 (.int 200 311),hde P "MOST_WORKS" 314 (.int 40 313),hde P "MOST_LETTERS" 316 (.int 8 315),hde P "MOST_ASKED" 318 (.int 4 317),hde P "MOST_ROOMS" 320 (.int 99 319),hde P "ALONE" 325 (.ref 102),hde P "OF_ONE" 330 (.ref 103),hde P "OF_SOME" 334 (.ref 104),hde P "is_name" 340 (.ref 109),hde P "rooms_in" 347 (.ref 116),hde P "works_named" 353 (.ref 121),hde P "asked_named" 361 (.ref 128),hde P "steps_ask" 371 (.ref 135),hde P "deed_of" 381 (.ref 142),hde P "Sheet" 452 (.ref 192),hde P "read_sheet" 463 (.ref 203),hde P "_law_begin" 473 (.ref 210),hde P "_law_take" 486 (.ref 217),hde P "_law_same" 492 (.ref 222),hde P "_law_some_needs" 503 (.ref 229),hde P "_law_tree_net" 515 (.ref 236),hde P "_law_net" 521 (.ref 241),hde P "_law_names" 535 (.ref 248),hde P "_law_mixed" 545 (.ref 255),hde P "_law_head" 551 (.ref 260),hde P "_law_deed_words" 557 (.ref 265),hde P "_law_any_deed" 563 (.ref 270),hde P "_law_rows" 579 (.ref 277),hde P "_law_plain" 585 (.ref 282),hde P "_law_is_name" 591 (.ref 287),hde P "_law_are_asked" 597 (.ref 292),hde P "_law_is_deed" 605 (.ref 299),hde P "_law_is_work" 611 (.ref 304),hde P "_law_first_fault" 626 (.ref 311),hde P "_law_refused" 636 (.ref 318),hde P "_law_spoilt" 653 (.ref 325),hde P "law" 659 (.ref 330)] 53) #[]) ::
 (nat_lit 15,htp (.seq #[.type "ValueError"]) #[]) ::
 (nat_lit 22,ht0) ::
 (nat_lit 23,Obj.mk (.type "dict") .none (.dict #[hde P "__module__" 196 (hvs "fewrooms.errors" 187),hde P "__firstlineno__" 200 (.int 2 199),hde P "__static_attributes__" 201 (.ref 22),hde P "__weakref__" 203 (.ref 25),hde P "__doc__" 204 .none] 3) #[]) ::
 (nat_lit 24,Obj.mk (.type "type") .none (.cls (ClassData.mk (so "RoomError") [.type "ValueError"] [.ref 24,.type "ValueError",.type "Exception",.type "BaseException",.type "object"] 23 (so "RoomError") .true [] [.ref 44,.ref 56,.ref 68,.ref 80,.ref 99] .false .none .false)) #[Option.some (.ref 15),.none,Option.some (hvs "RoomError" 189),Option.some (hvs "RoomError" 197),Option.some (.builtin "ValueError.__new__"),Option.some (.bool .true)]) ::
 (nat_lit 25,Obj.mk (.type "getset_descriptor") .none (.fields #[hvs "__weakref__" 202,.ref 24,.builtin "ExceptionGroup.__weakref__",.none]) #[]) ::
 (nat_lit 28,htp (.seq #[.ref 24]) #[]) ::
 (nat_lit 35,ht0) ::
 (nat_lit 37,hts ["self","move","word"] 222) ::
 (nat_lit 38,ht0) ::
 (nat_lit 40,hcd (.fields #[hvs "__init__" 219,hvs "Barred.__init__" 220,hcut 221,.int 6 0,.int 3 0,.int 0 0,.int 0 0,.int 3 0,.ref 35,.bool .true,.int 181 0,.ref 36,.none,.ref 37,.ref 38,.ref 39,.int 225 0,.int 6 0,hcut 226]) #[]) ::
 (nat_lit 41,hfn (.func (hfd "__init__" "Barred.__init__" qNC .none .none .none (hvs "fewrooms.errors" 187) .none (.ref 40) .none 0)) #[]) ::
 (nat_lit 42,hts ["move","word"] 228) ::
 (nat_lit 43,Obj.mk (.type "dict") .none (.dict #[hde P "__module__" 214 (hvs "fewrooms.errors" 187),hde P "__firstlineno__" 218 (.int 4 217),hde P "__init__" 227 (.ref 41),hde P "__static_attributes__" 230 (.ref 42),hde P "__doc__" 231 .none] 2) #[]) ::
 (nat_lit 44,Obj.mk (.type "type") .none (.cls (ClassData.mk (so "Barred") [.ref 24] [.ref 44,.ref 24,.type "ValueError",.type "Exception",.type "BaseException",.type "object"] 43 (so "Barred") .true [] [] .false .none .false)) #[Option.some (.ref 28),.none,Option.some (hvs "Barred" 207),Option.some (hvs "Barred" 215),Option.some (.builtin "ValueError.__new__"),Option.some (.bool .true)]) ::
 (nat_lit 47,htp (.seq #[.ref 24]) #[]) ::
 (nat_lit 54,ht0) ::
 (nat_lit 55,Obj.mk (.type "dict") .none (.dict #[hde P "__module__" 241 (hvs "fewrooms.errors" 187),hde P "__firstlineno__" 245 (.int 9 244),hde P "__static_attributes__" 246 (.ref 54),hde P "__doc__" 247 .none] 2) #[]) ::
 (nat_lit 56,Obj.mk (.type "type") .none (.cls (ClassData.mk (so "NoMove") [.ref 24] [.ref 56,.ref 24,.type "ValueError",.type "Exception",.type "BaseException",.type "object"] 55 (so "NoMove") .true [] [] .false .none .false)) #[Option.some (.ref 47),.none,Option.some (hvs "NoMove" 234),Option.some (hvs "NoMove" 242),Option.some (.builtin "ValueError.__new__"),Option.some (.bool .true)]) ::
 (nat_lit 59,htp (.seq #[.ref 24]) #[]) ::
 (nat_lit 66,ht0) ::
 (nat_lit 67,Obj.mk (.type "dict") .none (.dict #[hde P "__module__" 257 (hvs "fewrooms.errors" 187),hde P "__firstlineno__" 261 (.int 11 260),hde P "__static_attributes__" 262 (.ref 66),hde P "__doc__" 263 .none] 2) #[]) ::
 (nat_lit 68,Obj.mk (.type "type") .none (.cls (ClassData.mk (so "NoTree") [.ref 24] [.ref 68,.ref 24,.type "ValueError",.type "Exception",.type "BaseException",.type "object"] 67 (so "NoTree") .true [] [] .false .none .false)) #[Option.some (.ref 59),.none,Option.some (hvs "NoTree" 250),Option.some (hvs "NoTree" 258),Option.some (.builtin "ValueError.__new__"),Option.some (.bool .true)]) ::
 (nat_lit 71,htp (.seq #[.ref 24]) #[]) ::
 (nat_lit 78,ht0) ::
 (nat_lit 79,Obj.mk (.type "dict") .none (.dict #[hde P "__module__" 273 (hvs "fewrooms.errors" 187),hde P "__firstlineno__" 277 (.int 13 276),hde P "__static_attributes__" 278 (.ref 78),hde P "__doc__" 279 .none] 2) #[]) ::
 (nat_lit 80,Obj.mk (.type "type") .none (.cls (ClassData.mk (so "TooMany") [.ref 24] [.ref 80,.ref 24,.type "ValueError",.type "Exception",.type "BaseException",.type "object"] 79 (so "TooMany") .true [] [] .false .none .false)) #[Option.some (.ref 71),.none,Option.some (hvs "TooMany" 266),Option.some (hvs "TooMany" 274),Option.some (.builtin "ValueError.__new__"),Option.some (.bool .true)]) ::
 (nat_lit 83,htp (.seq #[.ref 24]) #[]) ::
 (nat_lit 90,ht0) ::
 (nat_lit 92,hts ["self","row"] 297) ::
 (nat_lit 93,ht0) ::
 (nat_lit 95,hcd (.fields #[hvs "__init__" 294,hvs "BadRow.__init__" 295,hcut 296,.int 17 0,.int 2 0,.int 0 0,.int 0 0,.int 3 0,.ref 90,.bool .true,.int 181 0,.ref 91,.none,.ref 92,.ref 93,.ref 94,.int 299 0,.int 17 0,hcut 300]) #[]) ::
 (nat_lit 96,hfn (.func (hfd "__init__" "BadRow.__init__" qBM .none .none .none (hvs "fewrooms.errors" 187) .none (.ref 95) .none 0)) #[]) ::
 (nat_lit 97,hts ["row"] 302) ::
 (nat_lit 98,Obj.mk (.type "dict") .none (.dict #[hde P "__module__" 289 (hvs "fewrooms.errors" 187),hde P "__firstlineno__" 293 (.int 15 292),hde P "__init__" 301 (.ref 96),hde P "__static_attributes__" 303 (.ref 97),hde P "__doc__" 304 .none] 2) #[]) ::
 (nat_lit 99,Obj.mk (.type "type") .none (.cls (ClassData.mk (so "BadRow") [.ref 24] [.ref 99,.ref 24,.type "ValueError",.type "Exception",.type "BaseException",.type "object"] 98 (so "BadRow") .true [] [] .false .none .false)) #[Option.some (.ref 83),.none,Option.some (hvs "BadRow" 282),Option.some (hvs "BadRow" 290),Option.some (.builtin "ValueError.__new__"),Option.some (.bool .true)]) ::
 (nat_lit 102,hts ["back","stand","moves","count"] 321) ::
 (nat_lit 103,hts ["do","clear","tree","cut"] 326) ::
 (nat_lit 104,hts ["plain","few","stair"] 331) ::
 (nat_lit 105,ht0) ::
 (nat_lit 108,hcp "is_name" 335 29 1 105 181 338) ::
 (nat_lit 109,hfo "is_name" qHF "fewrooms.sheetrows" 307 108) ::
 (nat_lit 110,ht0) ::
 (nat_lit 112,hts ["word"] 344) ::
 (nat_lit 113,ht0) ::
 (nat_lit 115,hco "rooms_in" 341 31 1 3 110 181 345 346) ::
 (nat_lit 116,hfo "rooms_in" qFX "fewrooms.sheetrows" 307 115) ::
 (nat_lit 117,ht0) ::
 (nat_lit 120,hcp "works_named" 348 35 2 117 181 351) ::
 (nat_lit 121,hfo "works_named" qDG "fewrooms.sheetrows" 307 120) ::
 (nat_lit 122,ht0) ::
 (nat_lit 124,hts ["words","numbers"] 357) ::
 (nat_lit 125,ht0) ::
 (nat_lit 127,hco "asked_named" 354 40 2 3 122 181 359 360) ::
 (nat_lit 128,hfo "asked_named" qDH "fewrooms.sheetrows" 307 127) ::
 (nat_lit 129,ht0) ::
 (nat_lit 131,hts ["words","numbers","rooms","asked"] 365) ::
 (nat_lit 132,ht0) ::
 (nat_lit 134,hco "steps_ask" 362 44 2 3 129 181 369 370) ::
 (nat_lit 135,hfo "steps_ask" qEY "fewrooms.sheetrows" 307 134) ::
 (nat_lit 136,ht0) ::
 (nat_lit 138,hts ["words","numbers","word","asked"] 375) ::
 (nat_lit 139,ht0) ::
 (nat_lit 141,hco "deed_of" 372 52 2 3 136 181 379 380) ::
 (nat_lit 142,hfo "deed_of" qHG "fewrooms.sheetrows" 307 141) ::
 (nat_lit 150,ht0) ::
 (nat_lit 152,hts ["self"] 397) ::
 (nat_lit 153,ht0) ::
 (nat_lit 155,hcd (.fields #[hvs "__init__" 394,hvs "Sheet.__init__" 395,hcut 396,.int 66 0,.int 1 0,.int 0 0,.int 0 0,.int 3 0,.ref 150,.bool .true,.int 181 0,.ref 151,.none,.ref 152,.ref 153,.ref 154,.int 398 0,.int 66 0,hcut 399]) #[]) ::
 (nat_lit 156,hfn (.func (hfd "__init__" "Sheet.__init__" qC2 .none .none .none (hvs "fewrooms.sheetrows" 307) .none (.ref 155) .none 0)) #[]) ::
 (nat_lit 157,ht0) ::
 (nat_lit 159,hts ["self","words"] 404) ::
 (nat_lit 160,ht0) ::
 (nat_lit 162,hcd (.fields #[hvs "take_rooms" 401,hvs "Sheet.take_rooms" 402,hcut 403,.int 72 0,.int 2 0,.int 0 0,.int 0 0,.int 3 0,.ref 157,.bool .true,.int 181 0,.ref 158,.none,.ref 159,.ref 160,.ref 161,.int 406 0,.int 72 0,hcut 407]) #[]) ::
 (nat_lit 163,hfn (.func (hfd "take_rooms" "Sheet.take_rooms" qB1 .none .none .none (hvs "fewrooms.sheetrows" 307) .none (.ref 162) .none 0)) #[]) ::
 (nat_lit 164,ht0) ::
 (nat_lit 166,hts ["self","words","needs"] 412) ::
 (nat_lit 167,ht0) ::
 (nat_lit 169,hcd (.fields #[hvs "take_work" 409,hvs "Sheet.take_work" 410,hcut 411,.int 78 0,.int 2 0,.int 0 0,.int 0 0,.int 3 0,.ref 164,.bool .true,.int 181 0,.ref 165,.none,.ref 166,.ref 167,.ref 168,.int 415 0,.int 78 0,hcut 416]) #[]) ::
 (nat_lit 170,hfn (.func (hfd "take_work" "Sheet.take_work" qB6 .none .none .none (hvs "fewrooms.sheetrows" 307) .none (.ref 169) .none 0)) #[]) ::
 (nat_lit 171,ht0) ::
 (nat_lit 173,hts ["self","words","deed"] 421) ::
 (nat_lit 174,ht0) ::
 (nat_lit 176,hcd (.fields #[hvs "take_deed" 418,hvs "Sheet.take_deed" 419,hcut 420,.int 90 0,.int 2 0,.int 0 0,.int 0 0,.int 3 0,.ref 171,.bool .true,.int 181 0,.ref 172,.none,.ref 173,.ref 174,.ref 175,.int 424 0,.int 90 0,hcut 425]) #[]) ::
 (nat_lit 177,hfn (.func (hfd "take_deed" "Sheet.take_deed" qB7 .none .none .none (hvs "fewrooms.sheetrows" 307) .none (.ref 176) .none 0)) #[]) ::
 (nat_lit 178,ht0) ::
 (nat_lit 180,hts ["self","words"] 430) ::
 (nat_lit 181,ht0) ::
 (nat_lit 183,hcd (.fields #[hvs "take_words" 427,hvs "Sheet.take_words" 428,hcut 429,.int 97 0,.int 2 0,.int 0 0,.int 0 0,.int 3 0,.ref 178,.bool .true,.int 181 0,.ref 179,.none,.ref 180,.ref 181,.ref 182,.int 432 0,.int 97 0,hcut 433]) #[]) ::
 (nat_lit 184,hfn (.func (hfd "take_words" "Sheet.take_words" qB0 .none .none .none (hvs "fewrooms.sheetrows" 307) .none (.ref 183) .none 0)) #[]) ::
 (nat_lit 185,ht0) ::
 (nat_lit 188,hcd (.fields #[hvs "take_row" 435,hvs "Sheet.take_row" 436,hcut 437,.int 104 0,.int 2 0,.int 0 0,.int 0 0,.int 3 0,.ref 185,.bool .true,.int 181 0,.ref 186,.none,.none,.none,.ref 187,.int 438 0,.int 104 0,hcut 439]) #[]) ::
 (nat_lit 189,hfn (.func (hfd "take_row" "Sheet.take_row" qBA .none .none .none (hvs "fewrooms.sheetrows" 307) .none (.ref 188) .none 0)) #[]) ::
 (nat_lit 190,hts ["deeds","net","numbers","rooms"] 441) ::
 (nat_lit 191,Obj.mk (.type "dict") .none (.dict #[hde P "__module__" 389 (hvs "fewrooms.sheetrows" 307),hde P "__firstlineno__" 393 (.int 64 392),hde P "__init__" 400 (.ref 156),hde P "take_rooms" 408 (.ref 163),hde P "take_work" 417 (.ref 170),hde P "take_deed" 426 (.ref 177),hde P "take_words" 434 (.ref 184),hde P "take_row" 440 (.ref 189),hde P "__static_attributes__" 445 (.ref 190),hde P "__dict__" 447 (.ref 193),hde P "__weakref__" 449 (.ref 194),hde P "__doc__" 450 .none] 4) #[]) ::
 (nat_lit 192,Obj.mk (.type "type") .none (.cls (ClassData.mk (so "Sheet") [.type "object"] [.ref 192,.type "object"] 191 (so "Sheet") .true [] [] .false .none .false)) #[.none,.none,Option.some (hvs "Sheet" 382),Option.some (hvs "Sheet" 390),Option.some (.builtin "object.__new__"),Option.some (.bool .true)]) ::
 (nat_lit 193,Obj.mk (.type "getset_descriptor") .none (.fields #[hvs "__dict__" 446,.ref 192,.builtin "function.__dict__",.builtin "function.__dict__#set"]) #[]) ::
 (nat_lit 194,Obj.mk (.type "getset_descriptor") .none (.fields #[hvs "__weakref__" 448,.ref 192,.builtin "ExceptionGroup.__weakref__",.none]) #[]) ::
 (nat_lit 197,ht0) ::
 (nat_lit 199,hts ["text","rows","sheet","number","row"] 456) ::
 (nat_lit 200,ht0) ::
 (nat_lit 202,hco "read_sheet" 453 111 1 3 197 181 461 462) ::
 (nat_lit 203,hfo "read_sheet" qE0 "fewrooms.sheetrows" 307 202) ::
 (nat_lit 204,ht0) ::
 (nat_lit 206,hts ["_law_script","_law_cells"] 469) ::
 (nat_lit 207,ht0) ::
 (nat_lit 209,hco "_law_begin" 466 121 1 3 204 181 471 472) ::
 (nat_lit 210,hfo "_law_begin" qKH "law_fewrooms_k71_rows_at_fault" 464 209) ::
 (nat_lit 211,ht0) ::
 (nat_lit 213,hts ["_law_state","_law_many","_law_turn","_law_place","_law_cell","_law_digit","_law_mixed_here"] 477) ::
 (nat_lit 214,ht0) ::
 (nat_lit 216,hco "_law_take" 474 126 2 3 211 181 484 485) ::
 (nat_lit 217,hfo "_law_take" qND "law_fewrooms_k71_rows_at_fault" 464 216) ::
 (nat_lit 218,ht0) ::
 (nat_lit 221,hcp "_law_same" 487 137 2 218 181 490) ::
 (nat_lit 222,hfo "_law_same" qNE "law_fewrooms_k71_rows_at_fault" 464 221) ::
 (nat_lit 223,ht0) ::
 (nat_lit 225,hts ["_law_state","_law_k","_law_found","_law_turn","_law_far"] 496) ::
 (nat_lit 226,ht0) ::
 (nat_lit 228,hco "_law_some_needs" 493 149 2 3 223 181 501 502) ::
 (nat_lit 229,hfo "_law_some_needs" qDI "law_fewrooms_k71_rows_at_fault" 464 228) ::
 (nat_lit 230,ht0) ::
 (nat_lit 232,hts ["_law_state","_law_many","_law_open_ones","_law_found","_law_k","_law_so_many"] 507) ::
 (nat_lit 233,ht0) ::
 (nat_lit 235,hco "_law_tree_net" 504 156 2 3 230 181 513 514) ::
 (nat_lit 236,hfo "_law_tree_net" qEZ "law_fewrooms_k71_rows_at_fault" 464 235) ::
 (nat_lit 237,ht0) ::
 (nat_lit 240,hcp "_law_net" 516 164 2 237 181 519) ::
 (nat_lit 241,hfo "_law_net" qRP "law_fewrooms_k71_rows_at_fault" 464 240) ::
 (nat_lit 242,ht0) ::
 (nat_lit 244,hts ["_law_state","_law_many","_law_some","_law_first","_law_way","_law_found","_law_k","_law_name"] 525) ::
 (nat_lit 245,ht0) ::
 (nat_lit 247,hco "_law_names" 522 179 2 3 242 181 533 534) ::
 (nat_lit 248,hfo "_law_names" qKF "law_fewrooms_k71_rows_at_fault" 464 247) ::
 (nat_lit 249,ht0) ::
 (nat_lit 251,hts ["_law_state","_law_some","_law_rest","_law_found"] 539) ::
 (nat_lit 252,ht0) ::
 (nat_lit 254,hco "_law_mixed" 536 190 2 3 249 181 543 544) ::
 (nat_lit 255,hfo "_law_mixed" qKG "law_fewrooms_k71_rows_at_fault" 464 254) ::
 (nat_lit 256,ht0) ::
 (nat_lit 259,hcp "_law_head" 546 196 4 256 181 549) ::
 (nat_lit 260,hfo "_law_head" qNG "law_fewrooms_k71_rows_at_fault" 464 259) ::
 (nat_lit 261,ht0) ::
 (nat_lit 264,hcp "_law_deed_words" 552 201 2 261 181 555) ::
 (nat_lit 265,hfo "_law_deed_words" qDJ "law_fewrooms_k71_rows_at_fault" 464 264) ::
 (nat_lit 266,ht0) ::
 (nat_lit 269,hcp "_law_any_deed" 558 211 2 266 181 561) ::
 (nat_lit 270,hfo "_law_any_deed" qF0 "law_fewrooms_k71_rows_at_fault" 464 269) ::
 (nat_lit 271,ht0) ::
 (nat_lit 273,hts ["_law_state","_law_names_here","_law_net_here","_law_rooms","_law_deeds","_law_found","_law_deed","_law_words","_law_many","_law_turn"] 567) ::
 (nat_lit 274,ht0) ::
 (nat_lit 276,hco "_law_rows" 564 221 5 3 271 181 577 578) ::
 (nat_lit 277,hfo "_law_rows" qNF "law_fewrooms_k71_rows_at_fault" 464 276) ::
 (nat_lit 278,ht0) ::
 (nat_lit 281,hcp "_law_plain" 580 232 1 278 181 583) ::
 (nat_lit 282,hfo "_law_plain" qKE "law_fewrooms_k71_rows_at_fault" 464 281) ::
 (nat_lit 283,ht0) ::
 (nat_lit 286,hcp "_law_is_name" 586 236 1 283 181 589) ::
 (nat_lit 287,hfo "_law_is_name" qG0 "law_fewrooms_k71_rows_at_fault" 464 286) ::
 (nat_lit 288,ht0) ::
 (nat_lit 291,hcp "_law_are_asked" 592 239 2 288 181 595) ::
 (nat_lit 292,hfo "_law_are_asked" qE1 "law_fewrooms_k71_rows_at_fault" 464 291) ::
 (nat_lit 293,ht0) ::
 (nat_lit 295,hts ["_law_names_here","_law_words"] 601) ::
 (nat_lit 296,ht0) ::
 (nat_lit 298,hco "_law_is_deed" 598 241 2 3 293 181 603 604) ::
 (nat_lit 299,hfo "_law_is_deed" qG1 "law_fewrooms_k71_rows_at_fault" 464 298) ::
 (nat_lit 300,ht0) ::
 (nat_lit 303,hcp "_law_is_work" 606 249 2 300 181 609) ::
 (nat_lit 304,hfo "_law_is_work" qFZ "law_fewrooms_k71_rows_at_fault" 464 303) ::
 (nat_lit 305,ht0) ::
 (nat_lit 307,hts ["_law_text","_law_names_here","_law_begun","_law_deeds","_law_rows_here","_law_k","_law_row","_law_words","_law_fine"] 615) ::
 (nat_lit 308,ht0) ::
 (nat_lit 310,hco "_law_first_fault" 612 253 1 3 305 181 624 625) ::
 (nat_lit 311,hfo "_law_first_fault" qD3 "law_fewrooms_k71_rows_at_fault" 464 310) ::
 (nat_lit 312,ht0) ::
 (nat_lit 314,hts ["_law_call","_law_text","_law_caught","error"] 630) ::
 (nat_lit 315,ht0) ::
 (nat_lit 317,hco "_law_refused" 627 275 2 3 312 181 634 635) ::
 (nat_lit 318,hfo "_law_refused" qFY "law_fewrooms_k71_rows_at_fault" 464 317) ::
 (nat_lit 319,ht0) ::
 (nat_lit 321,hts ["_law_state","_law_rows_here","_law_names_here","_law_found","_law_at","_law_words","_law_k","_law_odd","_law_way","_law_other","_law_some"] 640) ::
 (nat_lit 322,ht0) ::
 (nat_lit 324,hco "_law_spoilt" 637 286 3 3 319 181 651 652) ::
 (nat_lit 325,hfo "_law_spoilt" qHH "law_fewrooms_k71_rows_at_fault" 464 324) ::
 (nat_lit 326,ht0) ::
 (nat_lit 329,hcp "law" 654 316 1 326 181 657) ::
 (nat_lit 330,hfo "law" qM1 "law_fewrooms_k71_rows_at_fault" 464 329) ::
 []
noncomputable def hpA:List Addr:=[2,3,15,22,23,24,25,28,35,37,38,40,41,42,43,44,47,54,55,56,59,66,67,68,71,78,79,80,83,90,92,93,95,96,97,98,99,102,103,104,105,108,109,110,112,113,115,116,117,120,121,122,124,125,127,128,129,131,132,134,135,136,138,139,141,142,150,152,153,155,156,157,159,160,162,163,164,166,167,169,170,171,173,174,176,177,178,180,181,183,184,185,188,189,190,191,192,193,194,197,199,200,202,203,204,206,207,209,210,211,213,214,216,217,218,221,222,223,225,226,228,229,230,232,233,235,236,237,240,241,242,244,245,247,248,249,251,252,254,255,256,259,260,261,264,265,266,269,270,271,273,274,276,277,278,281,282,283,286,287,288,291,292,293,295,296,298,299,300,303,304,305,307,308,310,311,312,314,315,317,318,319,321,322,324,325,326,329,330]
noncomputable def hpQ:Program:=PySem.W.view PySem.Challenge.pw_fewrooms_k71_rows_at_fault [1,2,3,4,5,6,8,9,10,11,12,13,14,15,16,17,18,19,20,21,22,23,24,26,27,28,29,30,31,32,33,34,35,36,37,38,39,40,41,42,43,44,45,46]
def hpN:Nat:=5456
theorem hpE (P:Params):hpA=(hpK P).map (·.1):=by kernel_rfl
noncomputable def hpX (s:Shared):Bool:=PySem.W.xlAt hpQ [] s && PySem.W.recOk (PySem.W.RowW.records (PySem.W.OpenRow.toRowW (PySem.W.OpenLaw.row PySem.Challenge.rw_fewrooms_k71_rows_at_fault))) s
theorem hpLeft:PySem.W.LeftO PySem.Challenge.pw_fewrooms_k71_rows_at_fault hpQ [] hpX (PySem.W.kHook hpK hpA hpE).obs (PySem.W.kHook hpK hpA hpE).val hpN:=fun w=>by kernel_rfl
theorem hpSaid:PySem.W.OpenLaw.wellSaid PySem.Challenge.rw_fewrooms_k71_rows_at_fault=true:=by kernel_rfl
end Fw
namespace L2
open PySem PySem.Spec PyProof.Rows
abbrev Key:=Sum Int Str
noncomputable def qPK:Key->Value->Bool
 | .inl k,v=>Value.isInt k v
 | .inr x,v=>Value.isStrOf x v
noncomputable def keyH (w:World):Key->Int
 | .inl k=>hashInt k
 | .inr x=>hashStr w x
theorem qBJ:∀ {k:Key} {v:Value},qPK k v=true->(∃ i t,k=Sum.inl i/\v=Value.int i t)\/(∃ x t,k=Sum.inr x/\v=Value.str x t)
 | .inl i,v,h=>by
  obtain ⟨t,e⟩:=Value.isInt_shape (k:=i) (v:=v) h;exact .inl ⟨i,t,rfl,e⟩
 | .inr x,v,h=>by
  obtain ⟨t,e⟩:=Value.isStrOf_shape (x:=x) (v:=v) h;exact .inr ⟨x,t,rfl,e⟩
theorem qVI (i:Int) (t:Tok):qPK (.inl i) (.int i t)=true:=by simp [qPK,Value.isInt]
theorem qVH (x:Str) (t:Tok):qPK (.inr x) (.str x t)=true:=by simp [qPK,Value.isStrOf]
theorem qdP (a b:Int):decide ((Sum.inl a:Key)=Sum.inl b)=(a == b):=by
 by_cases e:a=b
 ·subst e;simp
 ·have h:¬ (Sum.inl a:Key)=Sum.inl b:=fun q=>e (Sum.inl.inj q);rw [decide_eq_false h];exact (beq_eq_false_iff_ne.mpr e).symm
theorem qdM (a b:Str):decide ((Sum.inr a:Key)=Sum.inr b)=decide (a=b):=by
 by_cases e:a=b
 ·subst e;simp
 ·have h:¬ (Sum.inr a:Key)=Sum.inr b:=fun q=>e (Sum.inr.inj q);rw [decide_eq_false h,decide_eq_false e]
theorem qdO (a:Int) (b:Str):decide ((Sum.inl a:Key)=Sum.inr b)=false:=decide_eq_false (fun q=>nomatch q)
theorem qdN (a:Str) (b:Int):decide ((Sum.inr a:Key)=Sum.inl b)=false:=decide_eq_false (fun q=>nomatch q)
noncomputable def qCJ (prog:Program) (w:World):PySem.KeyKind prog w Key where
 is:=qPK
 hash:=keyH w
 inj:=fun v a b g d=>by
  rcases qBJ g with ⟨i,t,rfl,rfl⟩ | ⟨x,t,rfl,rfl⟩
  ·rcases qBJ d with ⟨j,u,rfl,e⟩ | ⟨y,u,rfl,e⟩
   ·injection e with e1 _;rw [e1]
   ·exact nomatch e
  ·rcases qBJ d with ⟨j,u,rfl,e⟩ | ⟨y,u,rfl,e⟩
   ·exact nomatch e
   ·injection e with e1 _;rw [e1]
 byValue:=fun k v h=>by
  rcases qBJ h with ⟨i,t,rfl,rfl⟩ | ⟨x,t,rfl,rfl⟩ <;> rfl
 pyHash:=fun c h=>by
  rcases qBJ c with ⟨i,t,rfl,rfl⟩ | ⟨x,t,rfl,rfl⟩
  ·exact wpAny_pyHash_int h
  ·exact wpAny_pyHash_str h
 eqBool:=fun f c h=>by
  rcases qBJ f with ⟨i,t,rfl,rfl⟩ | ⟨x,t,rfl,rfl⟩
  ·rcases qBJ c with ⟨j,u,rfl,rfl⟩ | ⟨y,u,rfl,rfl⟩
   ·rw [qdP] at h;exact wpAny_eqBool_int h
   ·rw [qdO] at h;exact SeqAt.EqAt.int_str i t y u _ _ _ _ h
  ·rcases qBJ c with ⟨j,u,rfl,rfl⟩ | ⟨y,u,rfl,rfl⟩
   ·rw [qdN] at h;exact SeqAt.EqAt.str_int x t j u _ _ _ _ h
   ·rw [qdM] at h;exact wpAny_eqBool_str h
 «strs»:=fun k x t v h=>by
  rcases qBJ h with ⟨i,u,rfl,e⟩ | ⟨y,u,rfl,e⟩
  ·exact nomatch e
  ·injection e with e1 _
   subst e1;cases v <;> rfl
theorem qQU (prog:Program) (w:World) (i:Int) (t:Tok):(qCJ prog w).is (.inl i) (.int i t)=true:=qVI i t
theorem qQT (prog:Program) (w:World) (x:Str) (t:Tok):(qCJ prog w).is (.inr x) (.str x t)=true:=qVH x t
end L2
namespace L2
open PySem PySem.Spec PyProof.Rows
inductive V where
 | non | bl (b:Bool) | int (i:Int) | str (x:Str) | byt (b:Array UInt8) | flt (b:UInt64) | ref (a:Addr) | ty (n:String)
 deriving DecidableEq
def RelV:V->Value->Prop
 | .non,u=>u=Value.none
 | .bl b,u=>u=Value.bool b
 | .int i,u=>∃ t,u=Value.int i t
 | .str x,u=>∃ t,u=Value.str x t
 | .byt b,u=>∃ t,u=Value.bytes b t
 | .flt b,u=>∃ t,u=Value.float b t
 | .ref a,u=>u=Value.ref a
 | .ty n,u=>u=Value.type n
abbrev Vals:List V->List Value->Prop:=Paired RelV
theorem Vals.length {xs:List V} {us:List Value} (r:Vals xs us):xs.length=us.length:=Paired.length r
theorem Vals.get:∀ {xs:List V} {us:List Value} {i:Nat} {x:V},Vals xs us->xs[i]?=some x->∃ u,us[i]?=some u/\RelV x u
 | _,_,_,_,.nil,e=>by simp at e
 | _,_,0,_,.cons r _,e=>by simp at e;subst e;exact ⟨_,rfl,r⟩
 | _,_,i+1,x,.cons _ t,e=>by
  obtain ⟨u,h1,h2⟩:=Vals.get (i:=i) (x:=x) t (by simpa using e)
  exact ⟨u,by simpa using h1,h2⟩
theorem Vals.set {x:V} {u:Value} (r:RelV x u):∀ {xs:List V} {us:List Value} (i:Nat),Vals xs us->Vals (xs.set i x) (us.set i u)
 | _,_,_,.nil=>.nil
 | _,_,0,.cons _ t=>.cons r t
 | _,_,i+1,.cons q t=>.cons q (Vals.set r i t)
theorem Vals.append:∀ {xs ys:List V} {us ws:List Value},Vals xs us->Vals ys ws->Vals (xs++ys) (us++ws)
 | _,_,_,_,.nil,s=>s
 | _,_,_,_,.cons r t,s=>.cons r (Vals.append t s)
theorem Vals.take:∀ {xs:List V} {us:List Value} (n:Nat),Vals xs us->Vals (xs.take n) (us.take n)
 | _,_,0,_=>.nil
 | _,_,_+1,.nil=>.nil
 | _,_,n+1,.cons r t=>.cons r (Vals.take n t)
theorem Vals.drop:∀ {xs:List V} {us:List Value} (n:Nat),Vals xs us->Vals (xs.drop n) (us.drop n)
 | _,_,0,r=>r
 | _,_,_+1,.nil=>.nil
 | _,_,n+1,.cons _ t=>Vals.drop n t
def RelO:Option V->Option Value->Prop
 | some v,some u=>RelV v u
 | none,none=>True
 | _,_=>False
def KV {κ:Type}:List (κ × V)->List (κ × Value)->Prop:=Paired fun (p:κ × V) (q:κ × Value)=>p.1=q.1/\RelV p.2 q.2
inductive CTb where
 | tab (q:Str)
 | cod (q:Str)
noncomputable def kV:Key->V
 | .inl i=>.int i
 | .inr x=>.str x
inductive HO where
 | lst (xs:List V)
 | tup (xs:List V)
 | dK (Ae:List (Key × V)) | dT (Ae:List (List Key × V))
 | set (S:Int->Bool) (n:Nat)
 | ins (C dx:Addr) (fs:List (Str × V))
 | own (x:Addr)
 | xd (fs:List (Str × V))
 | met (f x:Addr)
 | rng (lo hi:Int)
 | frz (o:Obj) (u:HO)
 | tbl (t:CTb)
 | ext (φ:Heap->Prop)
abbrev Hp:=Addr->Option HO
noncomputable def Af (H:Hp) (a:Addr) (o:HO):Hp:=fun b=>if b=a then some o else H b
theorem qA1 {H:Hp} {a:Addr} {o:HO}:Af H a o a=some o:=by unfold Af;rw [if_pos rfl]
theorem qA8 {H:Hp} {a b:Addr} {o:HO} (h:b ≠ a):Af H a o b=H b:=by unfold Af;rw [if_neg h]
theorem qQ9 {H:Hp} {a:Addr} {o u:HO}:Af (Af H a o) a u=Af H a u:=by
 funext b;unfold Af;split <;> rfl
theorem qDZ {H:Hp} {a b:Addr} {o u:HO} (h:H a=some o) (h':H b=some u) (d:o ≠ u):a ≠ b:=by
 intro e;subst e;rw [h] at h';exact d (Option.some.inj h')
theorem qA4 {H:Hp} {a b:Addr} {o:HO} (h:H a=some o) (h':H b=none):a ≠ b:=by
 intro e;subst e;rw [h] at h';cases h'
section
variable (P:Program) (w:World)
def ObjOk (H:Hp) (h:Heap) (a:Addr):HO->Prop
 | .lst xs=>xs.length<=sizeLine/\∃ (its:List Value) (n:Nat),Vals xs its/\h.get? a=some { cls:=.type "list",data:=.seq its.toArray n }
 | .tup xs=>xs.length<=sizeLine/\∃ its:List Value,Vals xs its/\IsTup h a its.toArray
 | .dK Ae=>Ae.length<=sizeLine/\(a == sysModules)=false/\∃ vs,KV Ae vs/\h.DictOf (qCJ P w) a vs
 | .dT Ae=>Ae.length<=sizeLine/\(a == sysModules)=false/\∃ xs:List (List Key × Addr × Value),
   Paired (fun (p:List Key × V) (q:List Key × Addr × Value)=>p.1=q.1/\H q.2.1=some (.tup (p.1.map kV))/\RelV p.2 q.2.2) Ae xs/\
   ∃ o es ep,h.get? a=some o/\o.ExactDict/\o.data=.dict es ep/\es.toList=xs.map (entryOfKey (tupleKind (qCJ P w)))/\(xs.map (·.1)).Nodup
 | .set S n=>h.SetOf (intKind P w) a S n
 | .ins C dx fs=>H dx=some (.own a)/\fs.length<=1000/\dx ≠ a/\h.get? a=some (PySem.W.instObj C dx)/\
   ∃ mA,h.Ns1 dx mA/\(∀ f,RelO (fs.lookup f) (mA f))/\PySem.Within mA (fs.map (·.1))
 | .own _=>∃ o,h.get? a=some o
 | .xd fs=>∃ mA,h.Ns1 a mA/\∀ f,RelO (fs.lookup f) (mA f)
 | .rng lo hi=>∃ t u v,h.get? a=some { cls:=.type "range",data:=.fields #[.int lo t,.int hi u,.int 1 v] }
 | .frz o u=>h.get? a=some o/\ObjOk H h a u
 | .tbl (.tab q)=>∃ more:Array Value,h.get? a=some { cls:=.none,data:=.fields more }/\TriplesOk more.toList/\∀ pos cv,codeAmong pos more.toList=some cv->∃ c,cv=.ref c/\H c=some (.tbl (.cod q))
 | .tbl (.cod q)=>h.CodeRec (.ref a) q
 | .met f x=>h.get? a=some (PySem.W.methodObj (.ref f) (.ref x))
 | .ext φ=>φ h/\(∃ o,h.get? a=some o)/\∀ h1 h2:Heap,φ h1->(∀ o,h1.get? a=some o->h2.get? a=some o)->φ h2
def HOk (H:Hp) (h:Heap):Prop:=∀ a o,H a=some o->ObjOk P w H h a o
end
section
variable {P:Program} {w:World} {H H':Hp} {h h':Heap} {a:Addr} {o:HO}
theorem ObjOk.lt (x:ObjOk P w H h a o):a<h.objs.size:=by
 cases o with
 | lst xs=>obtain ⟨_,_,_,_,e⟩:=x;exact Heap.lt_size e
 | tup xs=>obtain ⟨_,_,_,p⟩:=x;exact p.lt
 | dK Ae=>obtain ⟨_,_,_,_,o,_,_,e,_⟩:=x;exact Heap.lt_size e
 | dT Ae=>obtain ⟨_,_,_,_,o,_,_,e,_⟩:=x;exact Heap.lt_size e
 | set S n=>obtain ⟨o,_,_,_,e,_⟩:=x;exact Heap.lt_size e
 | ins C dx fs=>obtain ⟨_,_,_,e,_⟩:=x;exact Heap.lt_size e
 | own y=>obtain ⟨_,e⟩:=x;exact Heap.lt_size e
 | xd fs=>obtain ⟨_,⟨_,_,_,e,_⟩,_⟩:=x;exact Heap.lt_size e
 | rng lo hi=>obtain ⟨_,_,_,e⟩:=x;exact Heap.lt_size e
 | frz ob u=>obtain ⟨e,_⟩:=x;exact Heap.lt_size e
 | tbl t=>
  cases t with
  | tab q=>obtain ⟨_,e,_⟩:=x;exact Heap.lt_size e
  | cod q=>obtain ⟨c,o,_,_,e,g,_⟩:=x;cases e;exact Heap.lt_size g
 | met f y=>exact Heap.lt_size (show h.get? a=some _ from x)
 | ext φ=>obtain ⟨_,⟨_,e⟩,_⟩:=x;exact Heap.lt_size e
theorem Paired.mapP {α β:Type} {F G:α->β->Prop}:∀ {l₁:List α} {l₂:List β},Paired F l₁ l₂->(∀ a b,F a b->G a b)->Paired G l₁ l₂
 | _,_,.nil,_=>.nil
 | _,_,.cons r t,f=>.cons (f _ _ r) (Paired.mapP t f)
theorem ObjOk.stay (x:ObjOk P w H h a o) (k:∀ b u,(b=a\/H b=some (.own a))->h.get? b=some u->h'.get? b=some u)
  (ho:∀ b,H b=some (.own a)->H' b=some (.own a)) (ht:∀ b xs,H b=some (.tup xs)->H' b=some (.tup xs)) (hb:∀ b t,H b=some (.tbl t)->H' b=some (.tbl t):=by exact fun _ _ q=>q):ObjOk P w H' h' a o:=by
 induction o with
 | lst xs=>obtain ⟨z,s,n,r,e⟩:=x;exact ⟨z,s,n,r,k _ _ (.inl rfl) e⟩
 | tup xs=>obtain ⟨z,s,r,i,e,c⟩:=x;exact ⟨z,s,r,i,k _ _ (.inl rfl) e,c⟩
 | dK Ae=>obtain ⟨z,y,vs,r,i,l,j,e,c⟩:=x;exact ⟨z,y,vs,r,i,l,j,k _ _ (.inl rfl) e,c⟩
 | dT Ae=>
  obtain ⟨z,y,xs,r,i,l,j,e,c⟩:=x;exact ⟨z,y,xs,Paired.mapP r fun p q z=>⟨z.1,ht _ _ z.2.1,z.2.2⟩,i,l,j,k _ _ (.inl rfl) e,c⟩
 | set S n=>obtain ⟨i,l,j,t,e,c⟩:=x;exact ⟨i,l,j,t,k _ _ (.inl rfl) e,c⟩
 | ins C dx fs=>
  obtain ⟨d,z,ne,e,mA,⟨od,l,j,e2,c⟩,r⟩:=x;exact ⟨ho _ d,z,ne,k _ _ (.inl rfl) e,mA,⟨od,l,j,k _ _ (.inr d) e2,c⟩,r⟩
 | own y=>obtain ⟨i,e⟩:=x;exact ⟨i,k _ _ (.inl rfl) e⟩
 | xd fs=>obtain ⟨mA,⟨od,l,j,e,c⟩,r⟩:=x;exact ⟨mA,⟨od,l,j,k _ _ (.inl rfl) e,c⟩,r⟩
 | rng lo hi=>obtain ⟨t,u,v,e⟩:=x;exact ⟨t,u,v,k _ _ (.inl rfl) e⟩
 | frz i u ih=>obtain ⟨e,q⟩:=x;exact ⟨k _ _ (.inl rfl) e,ih q⟩
 | tbl t=>
  cases t with
  | tab q=>obtain ⟨m,e,tr,c⟩:=x;exact ⟨m,k a _ (.inl rfl) e,tr,fun a0 cv z=>let ⟨c',e1,e2⟩:=c a0 cv z;⟨c',e1,hb _ _ e2⟩⟩
  | cod q=>obtain ⟨c,o,vs,t,e,g,r⟩:=x;cases e;exact ⟨a,o,vs,t,rfl,k a _ (.inl rfl) g,r⟩
 | met f y=>
  have e:h.get? a=some (PySem.W.methodObj (.ref f) (.ref y)):=x;show h'.get? a=some (PySem.W.methodObj (.ref f) (.ref y));exact k a _ (.inl rfl) e
 | ext φ=>obtain ⟨p,⟨o,e⟩,st⟩:=x;exact ⟨st _ _ p fun o q=>k _ _ (.inl rfl) q,⟨o,k _ _ (.inl rfl) e⟩,st⟩
theorem HOk.lt (x:HOk P w H h) (e:H a=some o):a<h.objs.size:=(x a o e).lt
theorem HOk.fresh (x:HOk P w H h) (e:h.objs.size<=a):H a=none:=by
 cases q:H a with
 | none=>rfl
 | some u=>exact absurd (Nat.lt_of_lt_of_le (x.lt q) e) (Nat.lt_irrefl _)
theorem HOk.kept (x:HOk P w H h) (k:∀ b u,h.get? b=some u->h'.get? b=some u):HOk P w H h':=fun a o e=>
 (x a o e).stay (fun b u _ q=>k b u q) (fun _ q=>q) fun _ _ q=>q
theorem HOk.laid (x:HOk P w H h) (k:∀ b u,h.get? b=some u->h'.get? b=some u) (i:h.objs.size<=a) (f:ObjOk P w (Af H a o) h' a o):HOk P w (Af H a o) h':=fun b u e=>by
 have d:=x.fresh i;by_cases g:b=a
 ·subst g;rw [qA1] at e;cases e;exact f
 ·rw [qA8 g] at e;exact (x b u e).stay (fun c v _ q=>k c v q) (fun c q=>by rw [qA8 (qA4 q d)];exact q) (fun c j q=>by rw [qA8 (qA4 q d)];exact q) fun c t q=>by rw [qA8 (qA4 q d)];exact q
end
def Rd (H:Hp) (a:Addr) (u:HO):Prop:=H a=some u\/∃ o,H a=some (.frz o u)
theorem Rd.ok {P:Program} {w:World} {H:Hp} {h:Heap} {a:Addr} {u:HO} (r:Rd H a u) (x:HOk P w H h):ObjOk P w H h a u:=by
 rcases r with r | ⟨o,r⟩
 ·exact x a u r
 ·obtain ⟨_,q⟩:=x a _ r;exact q
def Mut:Option HO->Prop
 | some (.lst _)=>True
 | some (.dK _)=>True
 | some (.dT _)=>True
 | some (.set _ _)=>True
 | some (.ins _ _ _)=>True
 | some (.ext _)=>True
 | _=>False
section
variable {P:Program} {w:World} {H:Hp} {h h':Heap} {x e:Addr} {o':HO}
theorem HOk.write (p:HOk P w H h) (f:Mut (H x)) (n:e=x\/H e=some (.own x)) (k:∀ b u,b ≠ e->h.get? b=some u->h'.get? b=some u) (l:∃ u,h'.get? e=some u)
  (j:ObjOk P w (Af H x o') h' x o'):HOk P w (Af H x o') h':=fun b u q=>by
 have d:∀ c y,H c=some (.own y)->c ≠ x:=fun c y r z=>by subst z;rw [r] at f;exact f
 have g:∀ c xs,H c=some (.tup xs)->c ≠ x:=fun c xs r z=>by subst z;rw [r] at f;exact f
 by_cases i:b=x
 ·subst i;rw [qA1] at q;cases q;exact j
 ·rw [qA8 i] at q;by_cases a:b=e
  ·have m:H b=some (.own x):=by
    rcases n with z | z
    ·exact absurd (a.trans z) i
    ·rw [a];exact z
   rw [q] at m;cases m;obtain ⟨v,o⟩:=l;exact ⟨v,by rw [a];exact o⟩
  ·refine (p b u q).stay (fun c v hc r=>k c v ?_ r) (fun c r=>by rw [qA8 (d c b r)];exact r) (fun c xs r=>by rw [qA8 (g c xs r)];exact r) fun c t r=>by rw [qA8 (fun z=>by subst z;rw [r] at f;exact f)];exact r
   rcases hc with rfl | hc
   ·exact a
   ·rintro rfl;rcases n with z | z
    ·exact d c b hc z
    ·rw [hc] at z;cases z;exact i rfl
end
structure Un (fs ex:List Addr) (H H':Hp) (h h':Heap):Prop where
 keep:∀ b o,h.get? b=some o->H b=none->b ∉ fs->b ∉ ex->h'.get? b=some o
 slot:∀ b o,h.get? b=some o->H b=none->b ∈ fs->b ∉ ex->∃ sl,h'.get? b=some { o with slots:=sl }
 free:∀ b o,h.get? b=some o->H b=none->b ∉ ex->H' b=none
 there:∀ b o,h.get? b=some o->b ∉ ex->∃ o',h'.get? b=some o'
 tups:∀ b xs,H b=some (.tup xs)->H' b=some (.tup xs)
 frzs:∀ b o u,H b=some (.frz o u)->H' b=some (.frz o u)
 tbls:∀ b ps,H b=some (.tbl ps)->H' b=some (.tbl ps)
section
variable {fs fs' ex ex':List Addr} {H H1 H2:Hp} {h h1 h2 h':Heap} {a x e:Addr} {o:HO}
theorem Un.any (u:Un fs ex H H1 h h1) {b:Addr} {a:Obj} (q:h.get? b=some a) (n:H b=none) (d:b ∉ ex):∃ sl,h1.get? b=some { a with slots:=sl }:=by
 by_cases c:b ∈ fs
 ·exact u.slot b a q n c d
 ·exact ⟨a.slots,u.keep b a q n c d⟩
theorem Un.kept (k:∀ b u,h.get? b=some u->h'.get? b=some u):Un fs ex H H h h':=
 ⟨fun b a q _ _ _=>k b a q,fun b a q _ _ _=>⟨a.slots,k b a q⟩,fun _ _ _ n _=>n,fun b a q _=>⟨a,k b a q⟩,fun _ _ q=>q,fun _ _ _ q=>q,fun _ _ q=>q⟩
theorem Un.refl:Un fs ex H H h h:=Un.kept fun _ _ q=>q
theorem Un.laid (k:∀ b u,h.get? b=some u->h'.get? b=some u) (d:h.objs.size<=a) (c:H a=none):Un fs ex H (Af H a o) h h' where
 keep:=fun b u q _ _ _=>k b u q
 slot:=fun b u q _ _ _=>⟨u.slots,k b u q⟩
 free:=fun b u q n _=>by rw [qA8 (Nat.ne_of_lt (Nat.lt_of_lt_of_le (Heap.lt_size q) d))];exact n
 there:=fun b u q _=>⟨u,k b u q⟩
 tups:=fun b e q=>by rw [qA8 (qA4 q c)];exact q
 frzs:=fun b u e q=>by rw [qA8 (qA4 q c)];exact q
 tbls:=fun b f q=>by rw [qA8 (qA4 q c)];exact q
theorem Un.write (c:Mut (H x)) (l:e=x\/H e=some (.own x)) (k:∀ b u,b ≠ e->h.get? b=some u->h'.get? b=some u) (f:∃ u,h'.get? e=some u):Un fs ex H (Af H x o) h h':=by
 have i:∀ b,H b=none->b ≠ x:=fun b n z=>by subst z;rw [n] at c;exact c
 have g:∀ b,H b=none->b ≠ e:=fun b n z=>by
  subst z;rcases l with r | r
  ·exact i b n r
  ·rw [n] at r;cases r
 have d:∀ b u,H b=some u->¬ Mut (some u)->b ≠ x:=fun b u q j z=>by subst z;rw [q] at c;exact j c
 refine ⟨fun b u q n _ _=>k b u (g b n) q,fun b u q n _ _=>⟨u.slots,k b u (g b n) q⟩,fun b u q n _=>by rw [qA8 (i b n)];exact n,fun b u q _=>?_,
  fun b m q=>by rw [qA8 (d b _ q fun z=>z)];exact q,fun b u m q=>by rw [qA8 (d b _ q fun z=>z)];exact q,fun b p q=>by rw [qA8 (d b _ q fun z=>z)];exact q⟩
 by_cases a:b=e
 ·subst a;exact f
 ·exact ⟨u,k b u a q⟩
end
noncomputable def trk (h:Heap) (H:Hp):List Addr:=(List.range h.objs.size).filter fun a=>(H a).isSome
noncomputable def hidT (h:Heap) (H:Hp):Heap:=PySem.W.hideAll h (trk h H)
theorem qVS (h:Heap) (H:Hp):(hidT h H).objs.size=h.objs.size:=PySem.W.hideAll_size _ _
theorem qY6 {h:Heap} {H:Hp} {b:Addr} {o:Obj} (e:h.get? b=some o) (n:H b=none):(hidT h H).get? b=some o:=
 PySem.W.hideAll_get _ e fun a=>by
  have q:(H b).isSome=true:=(List.mem_filter.mp a).2;rw [n] at q;simp at q
theorem qaU {h:Heap} {H:Hp} {b:Addr} {o:Obj} (e:(hidT h H).get? b=some o):h.get? b=some o/\H b=none:=by
 have c:h.get? b=some o:=PySem.W.of_hideAll (trk h H) e;refine ⟨c,?_⟩;cases q:H b with
 | none=>rfl
 | some x=>
  have f:b ∈ trk h H:=List.mem_filter.mpr ⟨List.mem_range.mpr (Heap.lt_size c),by simp [q]⟩
  have z:(hidT h H).get? b=none:=PySem.W.hideAll_none (trk h H) f;rw [z] at e;cases e
noncomputable def qbS (g h:Heap) (L:Addr):List (Addr × Obj):=(List.range h.objs.size).filterMap fun a=>if a=L\/(g.get? a).isSome=true then none else (h.get? a).map fun o=>(a,o)
noncomputable def rest (g h:Heap) (L d:Addr):List (Addr × Obj):=(qbS g h L).filter fun p=>decide (p.1 ≠ d)
end L2
namespace L2
open PySem PySem.Spec PyProof.Rows
structure Mod (K:PySem.W.Frag) (mg:Str->Option Value) (base:Heap):Prop where
 kin:K.In base
 glob:base.Ns mainGlobals mg
 blt:∃ mb,base.Ns builtinsNs mb/\∀ x:Str,x ≠ "__name__"->mb x=bootBuiltins x
 nolimit:base.NoLimit
structure Cx where
 prog:Program
 w:World
 K:PySem.W.Frag
 mg:Str->Option Value
 base:Heap
 A:Around
 N:List Str
 s₀:Shared
 H₀:Hp
 env:Env
 outer:List Env
 stack:List Env
 ex:List Addr
 fn:Str->Bool
 calm:Bool
 pn:List (Addr × Obj)
 xe:Value->Shared->Prop
noncomputable def frs (l:List Env):List Addr:=l.filterMap (·.frame)
noncomputable abbrev Cx.fs (X:Cx):List Addr:=frs X.outer
def Vis (sc:Scope) (x:Str):Prop:=sc.names.lookup x=some .local\/sc.names.lookup x=some .cell\/sc.names.lookup x=some .free
def Loc (sc:Scope) (x:Str):Prop:=sc.names.lookup x=some .local\/sc.names.lookup x=some .cell
def Look (env:Env) (h:Heap) (m:Str->Option Value) (x:Str) (u:Value):Prop:=
 (env.kindOf x=some .local/\m x=some u)\/((env.kindOf x=some .cell\/env.kindOf x=some .free)/\∃ c,env.cells.lookup x=some c/\h.IsCell c (some u))
structure Cx.Ok (X:Cx):Prop where
 mod:Mod X.K X.mg X.base
 kind:X.env.scope.kind=.function
 glob:X.env.globals=mainGlobals
 blt:X.env.builtins=builtinsNs
 above:X.s₀.heap.objs.size<=X.env.locals
 inj:∀ x y c,X.env.cells.lookup x=some c->X.env.cells.lookup y=some c->x=y
 has:∀ x,(X.env.kindOf x=some .cell\/X.env.kindOf x=some .free)->∃ c,X.env.cells.lookup x=some c
 cab:∀ x c,X.fn x=true->X.env.cells.lookup x=some c->X.s₀.heap.objs.size<=c
 hd:X.calm=true->X.A.handled=none
 frames:X.A.frames=some X.stack
 stk:X.stack=X.outer\/(X.stack=X.env::X.outer/\X.env.frame=some X.env.locals)
 exf:∀ b ∈ X.ex,b ≠ X.env.locals/\∀ x c,X.env.cells.lookup x=some c->c ≠ b
 bs:∀ b o,X.base.get? b=some o->X.s₀.heap.get? b=some o/\X.H₀ b=none
 bsz:X.base.objs.size<=X.s₀.heap.objs.size
 noex:∀ b o,X.base.get? b=some o->b ∉ X.ex
 exfs:∀ b ∈ X.ex,b ∉ X.fs
 funs:X.s₀.heap.FunFrames X.base X.outer
 frf:∀ b ∈ X.fs,X.H₀ b=none
structure Inv (X:Cx) (Aa:List (Addr × Obj)) (σ:List (Option V)) (H:Hp) (s:Shared):Prop where
 ok:X.Ok
 os:s.os=X.s₀.os
 bare:AllBare s.gens
 base:Un X.fs X.ex X.H₀ H X.s₀.heap s.heap
 loc:∃ m,s.heap.Ns X.env.locals m/\∀ (i:Nat) (x:Str) (v:V),X.N[i]?=some x->σ[i]?=some (some v)->Vis X.env.scope x->∃ u,RelV v u/\Look X.env s.heap m x u
 cell:∀ x c,X.env.cells.lookup x=some c->∃ v,s.heap.IsCell c v
 free:H X.env.locals=none
 freeC:∀ x c,X.env.cells.lookup x=some c->H c=none
 pin:∀ p ∈ X.pn++Aa,s.heap.get? p.1=some p.2/\H p.1=none/\p.1 ≠ X.env.locals/\p.1 ∉ X.fs/\∀ v,p.2.data ≠ .cell v
 hok:HOk X.prog X.w H s.heap
 len:σ.length=X.N.length
section
variable {X:Cx} {Aa:List (Addr × Obj)} {σ:List (Option V)} {H H':Hp} {s:Shared} {h':Heap}
theorem Cx.Ok.nofr (a:X.Ok) {b:Addr} {o:Obj} (e:X.base.get? b=some o):b ∉ X.fs:=fun c=>by
 have:=(a.funs.mem c).1;rw [e] at this;cases this
theorem Inv.bs (I:Inv X Aa σ H s):∀ b o,X.base.get? b=some o->s.heap.get? b=some o/\H b=none:=fun b o e=>
 ⟨I.base.keep b o (I.ok.bs b o e).1 (I.ok.bs b o e).2 (I.ok.nofr e) (I.ok.noex b o e),I.base.free b o (I.ok.bs b o e).1 (I.ok.bs b o e).2 (I.ok.noex b o e)⟩
theorem Inv.bk (I:Inv X Aa σ H s):∀ b o,X.base.get? b=some o->s.heap.get? b=some o:=fun b o e=>(I.bs b o e).1
theorem Inv.mod (I:Inv X Aa σ H s):Mod X.K X.mg X.base:=I.ok.mod
theorem Inv.kIn (I:Inv X Aa σ H s):X.K.In s.heap:=I.ok.mod.kin.keeps I.bk
theorem Inv.lt (I:Inv X Aa σ H s):X.env.locals<s.heap.objs.size:=let ⟨_,hn,_⟩:=I.loc;hn.lt
theorem Inv.sz (I:Inv X Aa σ H s):X.s₀.heap.objs.size<=s.heap.objs.size:=Nat.le_trans I.ok.above (Nat.le_of_lt I.lt)
theorem Inv.nofs (I:Inv X Aa σ H s) {a:Addr} (h:s.heap.objs.size<=a):a ∉ X.fs:=fun b=>by
 obtain ⟨_,o,c,_⟩:=I.ok.funs.mem b;exact absurd (Nat.lt_of_lt_of_le (Heap.lt_size c) (Nat.le_trans I.sz h)) (Nat.lt_irrefl _)
theorem Inv.cne (I:Inv X Aa σ H s):∀ x c,X.env.cells.lookup x=some c->c ≠ X.env.locals:=fun x c e z=>by
 obtain ⟨v,o,d,f⟩:=I.cell x c e;obtain ⟨m,⟨g,h,i,a,b,_⟩,_⟩:=I.loc;rw [z,a] at d;cases d;rw [b] at f;cases f
theorem Inv.funs (I:Inv X Aa σ H s):s.heap.FunFrames X.base X.outer:=by
 have f:∀ (l:List Env),(∀ b ∈ frs l,b ∈ X.fs)->X.s₀.heap.FunFrames X.base l->s.heap.FunFrames X.base l:=by
  intro l
  induction l with
  | nil=>intro _ _;trivial
  | cons env r ih=>
   intro g k;obtain ⟨i,⟨L,o,a,m,h,j⟩,n⟩:=k;have c:L ∈ X.fs:=g L (by unfold frs;rw [List.filterMap_cons,a];exact List.mem_cons_self)
   obtain ⟨p,e⟩:=I.base.slot L o h (I.ok.frf L c) c fun z=>I.ok.exfs L z c;exact ⟨i,⟨L,_,a,m,e,j⟩,ih (fun b d=>g b (by unfold frs;rw [List.filterMap_cons,a];exact List.mem_cons_of_mem _ d)) n⟩
 exact f X.outer (fun _ d=>d) I.ok.funs
theorem Inv.stack (I:Inv X Aa σ H s):s.heap.FunFrames X.base X.stack:=by
 rcases I.ok.stk with e | ⟨e,hf⟩
 ·rw [e];exact I.funs
 ·rw [e];obtain ⟨m,a,_⟩:=I.loc;refine .cons (by rw [I.ok.kind];decide) hf a ?_ I.funs
  exact Heap.get?_none_of_le (Nat.le_trans I.ok.bsz I.ok.above)
theorem Inv.stkSub (I:Inv X Aa σ H s):∀ b ∈ frs X.stack,b ∈ X.env.locals::X.fs:=fun b a=>by
 rcases I.ok.stk with e | ⟨e,hf⟩
 ·rw [e] at a;exact List.mem_cons_of_mem _ a
 ·rw [e] at a;unfold frs at a;rw [List.filterMap_cons,hf] at a;exact a
theorem Inv.stkFree (I:Inv X Aa σ H s):∀ b ∈ frs X.stack,H b=none:=fun b hb=>by
 rcases List.mem_cons.mp (I.stkSub b hb) with e | hb
 ·rw [e];exact I.free
 ·obtain ⟨_,o,a,_⟩:=I.ok.funs.mem hb;exact I.base.free b o a (I.ok.frf b hb) fun z=>I.ok.exfs b z hb
theorem Inv.step {g':Array GenState} {t':Nat} {d':Drawn} {ch:List Addr} (I:Inv X Aa σ H s)
  (f:∀ b ∈ ch,(b ∈ X.ex\/X.s₀.heap.objs.size<=b)/\b ≠ X.env.locals/\(∀ x c,X.env.cells.lookup x=some c->c ≠ b)/\∀ p ∈ X.pn++Aa,p.1 ≠ b)
  (keep:∀ b o,b ≠ X.env.locals->b ∉ X.fs->b ∉ ch->s.heap.get? b=some o->H b=none->h'.get? b=some o)
  (slot:∀ b o,b ≠ X.env.locals->b ∈ X.fs->b ∉ ch->s.heap.get? b=some o->H b=none->∃ sl,h'.get? b=some { o with slots:=sl }) (free:∀ b o,b ∉ ch->s.heap.get? b=some o->H b=none->H' b=none)
  (there:∀ b o,b ∉ ch->s.heap.get? b=some o->∃ o',h'.get? b=some o')
  (tups:∀ b xs,H b=some (.tup xs)->H' b=some (.tup xs)) (frzs:∀ b o u,H b=some (.frz o u)->H' b=some (.frz o u)) (tbls:∀ b ps,H b=some (.tbl ps)->H' b=some (.tbl ps))
  (ns:∀ m,s.heap.Ns X.env.locals m->h'.Ns X.env.locals m) (a1:HOk X.prog X.w H' h') (hg:AllBare g') :
  Inv X Aa σ H' { s with heap:=h',gens:=g',drawn:=d',toks:=t' }:=by
 have a0:∀ b o,X.s₀.heap.get? b=some o->b ≠ X.env.locals:=fun b o e=>Nat.ne_of_lt (Nat.lt_of_lt_of_le (Heap.lt_size e) I.ok.above);have j:∀ b o,X.s₀.heap.get? b=some o->b ∉ X.ex->b ∉ ch:=fun b o e a y=>by
  rcases (f b y).1 with z | z
  ·exact a z
  ·exact absurd (Nat.lt_of_lt_of_le (Heap.lt_size e) z) (Nat.lt_irrefl _)
 have g:∀ x c,X.env.cells.lookup x=some c->∀ v,s.heap.IsCell c v->h'.IsCell c v:=fun x c e v ⟨o,ho,hd⟩=>by
  have h:c ∉ ch:=fun z=>(f c z).2.2.1 x c e rfl;by_cases hc:c ∈ X.fs
  ·obtain ⟨sl,q⟩:=slot c o (I.cne x c e) hc h ho (I.freeC x c e);exact ⟨_,q,hd⟩
  ·exact ⟨o,keep c o (I.cne x c e) hc h ho (I.freeC x c e),hd⟩
 refine ⟨I.ok,I.os,hg,⟨fun b o e n y a=>?_,fun b o e n y a=>?_,fun b o e n a=>?_,fun b o e a=>?_,fun b xs e=>tups b xs (I.base.tups b xs e),fun b o xs e=>frzs b o xs (I.base.frzs b o xs e),fun b ps e=>?_⟩,?_,fun x c e=>?_,?_,fun x c e=>?_,fun p hp=>?_,a1,I.len⟩
 ·exact keep b o (a0 b o e) y (j b o e a) (I.base.keep b o e n y a) (I.base.free b o e n a)
 ·obtain ⟨sl,t⟩:=I.base.slot b o e n y a;obtain ⟨a2,e2⟩:=slot b _ (a0 b o e) y (j b o e a) t (I.base.free b o e n a);exact ⟨a2,e2⟩
 ·obtain ⟨o',t⟩:=I.base.there b o e a;exact free b o' (j b o e a) t (I.base.free b o e n a)
 ·obtain ⟨o',t⟩:=I.base.there b o e a;exact there b o' (j b o e a) t
 ·exact tbls b ps (I.base.tbls b ps e)
 ·obtain ⟨m,hn,hl⟩:=I.loc;refine ⟨m,ns m hn,fun i x v t e2 e3=>?_⟩;obtain ⟨u,r,l⟩:=hl i x v t e2 e3;refine ⟨u,r,?_⟩;rcases l with l | ⟨k,c,e,z⟩
  ·exact .inl l
  ·exact .inr ⟨k,c,e,g x c e _ z⟩
 ·obtain ⟨v,z⟩:=I.cell x c e;exact ⟨v,g x c e v z⟩
 ·obtain ⟨m,⟨o,_,_,ho,_⟩,_⟩:=I.loc;exact free _ o (fun z=>(f _ z).2.1 rfl) ho I.free
 ·obtain ⟨v,o,ho,hd⟩:=I.cell x c e;exact free c o (fun z=>(f c z).2.2.1 x c e rfl) ho (I.freeC x c e)
 ·obtain ⟨e,n,ne,nf,d⟩:=I.pin p hp;have h:p.1 ∉ ch:=fun z=>(f p.1 z).2.2.2 p hp rfl;exact ⟨keep p.1 p.2 ne nf h e n,free p.1 p.2 h e n,ne,nf,d⟩
theorem Inv.un {t':Nat} (I:Inv X Aa σ H s) (u:Un X.fs [] H H' s.heap h') (d:HOk X.prog X.w H' h'):Inv X Aa σ H' { s with heap:=h',toks:=t' }:=by
 obtain ⟨m,⟨o,q,v,h,r⟩,_⟩:=id I.loc;obtain ⟨l,j⟩:=u.any h I.free (by simp)
 exact I.step (g':=s.gens) (d':=s.drawn) (ch:=[]) (fun _ z=>nomatch z) (fun b o _ f _ e n=>u.keep b o e n f (by simp)) (fun b o _ f _ e n=>u.slot b o e n f (by simp)) (fun b o _ e n=>u.free b o e n (by simp)) (fun b o _ e=>u.there b o e (by simp)) u.tups u.frzs u.tbls (fun t i=>by
  obtain ⟨p,c,g,a,k⟩:=i;rw [h] at a;cases a;exact ⟨_,c,g,j,k⟩) d I.bare
theorem Inv.call {g':Array GenState} {t':Nat} {d':Drawn} {ch:List Addr} (I:Inv X Aa σ H s) (u:Un (frs X.stack) ch H H' s.heap h') (i:HOk X.prog X.w H' h') (l:AllBare g')
  (f:∀ b ∈ ch,(b ∈ X.ex\/X.s₀.heap.objs.size<=b)/\b ≠ X.env.locals/\(∀ x c,X.env.cells.lookup x=some c->c ≠ b)/\∀ p ∈ X.pn++Aa,p.1 ≠ b) :
  Inv X Aa σ H' { s with heap:=h',gens:=g',drawn:=d',toks:=t' }:=by
 obtain ⟨m,⟨o,es,ep,k,r⟩,_⟩:=id I.loc;obtain ⟨y,h⟩:=u.any k I.free fun z=>(f _ z).2.1 rfl;exact I.step (ch:=ch) f (fun b o h t a e n=>u.keep b o e n (fun z=>(List.mem_cons.mp (I.stkSub b z)).elim h t) a) (fun b o _ _ a e n=>u.any e n a) (fun b o a e n=>u.free b o e n a) (fun b o a e=>u.there b o e a) u.tups u.frzs u.tbls (fun m' q=>by
  obtain ⟨o',g,j,d,v⟩:=q;rw [k] at d;cases d;exact ⟨_,g,j,h,v⟩) i l
theorem Inv.turned {t':Nat} {a:Addr} (I:Inv X Aa σ H s) (k:∀ b o,b ≠ a->s.heap.get? b=some o->h'.get? b=some o) (w:H a=none) (g:a ≠ X.env.locals)
  (h:a ∈ X.ex\/X.s₀.heap.objs.size<=a) (h2:∀ x c,X.env.cells.lookup x=some c->c ≠ a) (j:∀ p ∈ X.pn++Aa,p.1 ≠ a):Inv X Aa σ H { s with heap:=h',toks:=t' }:=by
 have f:∀ b u,H b=some u->b ≠ a:=fun b u e z=>by rw [z,w] at e;cases e
 refine I.step (g':=s.gens) (d':=s.drawn) (ch:=[a]) (fun b t=>?_) (fun b o _ _ d e _=>k b o (fun z=>d (by simp [z])) e) (fun b o _ _ d e _=>⟨o.slots,k b o (fun z=>d (by simp [z])) e⟩) (fun _ _ _ _ n=>n)
  (fun b o d e=>⟨o,k b o (fun z=>d (by simp [z])) e⟩) (fun _ _ e=>e) (fun _ _ _ e=>e) (fun _ _ e=>e) (fun m i=>?_) (fun b u e=>?_) I.bare
 ·have e:b=a:=by simpa using t
  subst e;exact ⟨h,g,h2,j⟩
 ·obtain ⟨o,y,ep,l,r⟩:=i;exact ⟨o,y,ep,k _ o (Ne.symm g) l,r⟩
 ·refine (I.hok b u e).stay (fun c v d q=>k c v ?_ q) (fun _ q=>q) fun _ _ q=>q;rcases d with z | z
  ·rw [z];exact f b u e
  ·exact f c _ z
theorem Inv.tok (I:Inv X Aa σ H s) (t:Nat):Inv X Aa σ H { s with toks:=t }:=I.un (h':=s.heap) (t':=t) Un.refl I.hok
theorem Inv.kept {t':Nat} (I:Inv X Aa σ H s) (k:∀ b u,s.heap.get? b=some u->h'.get? b=some u):Inv X Aa σ H { s with heap:=h',toks:=t' }:=I.un (Un.kept k) (I.hok.kept k)
theorem Inv.laid {a:Addr} {o:HO} {t':Nat} (I:Inv X Aa σ H s) (k:∀ b u,s.heap.get? b=some u->h'.get? b=some u) (c:s.heap.objs.size<=a) (d:ObjOk X.prog X.w (Af H a o) h' a o) :
  Inv X Aa σ (Af H a o) { s with heap:=h',toks:=t' }:=I.un (Un.laid k c (I.hok.fresh c)) (I.hok.laid k c d)
theorem Inv.write {x e:Addr} {o:HO} {t':Nat} (I:Inv X Aa σ H s) (d:Mut (H x)) (f:e=x\/H e=some (.own x)) (k:∀ b u,b ≠ e->s.heap.get? b=some u->h'.get? b=some u) (a:∃ u,h'.get? e=some u)
  (c:ObjOk X.prog X.w (Af H x o) h' x o):Inv X Aa σ (Af H x o) { s with heap:=h',toks:=t' }:=I.un (Un.write d f k a) (I.hok.write d f k a c)
theorem Inv.pins_of {a:List (Addr × Obj)} (I:Inv X Aa σ H s) (h:∀ p ∈ a,s.heap.get? p.1=some p.2/\H p.1=none/\p.1 ≠ X.env.locals/\p.1 ∉ X.fs/\∀ v,p.2.data ≠ .cell v):Inv X a σ H s:=
 ⟨I.ok,I.os,I.bare,I.base,I.loc,I.cell,I.free,I.freeC,fun p b=>(List.mem_append.mp b).elim (fun z=>I.pin p (List.mem_append_left _ z)) (h p),I.hok,I.len⟩
theorem qRZ {N:List Str} (d:N.Nodup) {i j:Nat} {x:Str} (a:N[i]?=some x) (b:N[j]?=some x):i=j:=by
 obtain ⟨f,c⟩:=List.getElem?_eq_some_iff.mp a;obtain ⟨g,e⟩:=List.getElem?_eq_some_iff.mp b;exact (List.getElem_inj d).mp (c.trans e.symm)
theorem qOV {M:Model} {A:Around} {E:Value->Shared->Prop} {i:Nat} {x:Str} {v:V} {u:Value} {Q:Unit->Shared->Prop} (I:Inv X Aa σ H s) (hN:X.N.Nodup) (hi:X.N[i]?=some x) (t:Loc X.env.scope x) (r:RelV v u)
  (h:∀ s',Inv X Aa (σ.set i (some v)) H s'->(∃ a,Heap.SameBut a s.heap s'.heap/\(a=X.env.locals\/X.env.cells.lookup x=some a))->Q () s') (hf:X.fn x=true\/X.env.scope.names.lookup x=some .local:=by first | exact .inl rfl | exact .inr rfl | assumption):wpAny M A (storeName X.env x u) Q E s:=by
 obtain ⟨m,hn,hl⟩:=id I.loc;have a3:(X.env.scope.kind == .class || (X.env.scope.kind == .module && X.env.locals != X.env.globals))=false:=by rw [I.ok.kind];rfl
 have a5:i<σ.length:=by rw [I.len];exact (List.getElem?_eq_some_iff.mp hi).1
 have cne:=I.cne;have l:∀ {a:Addr} {h':Heap},(∃ o,s.heap.get? a=some o/\H a=none)->Heap.SameBut a s.heap h'->HOk X.prog X.w H h':=fun {a h'} ha f b ob e=>by
  obtain ⟨_,_,a0⟩:=ha;refine (I.hok b ob e).stay (fun c w' hc q=>(f.2 c ?_).trans q) (fun _ q=>q) fun _ _ q=>q;rintro rfl;rcases hc with rfl | hc
  ·rw [a0] at e;cases e
  ·rw [a0] at hc;cases hc
 rcases t with hk | hk
 ·refine wpAny_storeName_local hk hn (fun h' a8 f=>?_) a3;obtain ⟨oL,_,_,a9,_⟩:=id hn;refine h _ ⟨I.ok,I.os,I.bare,⟨fun b o e n hb t=>?_,fun b o e n hb t=>?_,I.base.free,fun b o e t=>?_,I.base.tups,I.base.frzs,I.base.tbls⟩,⟨_,a8,fun j y v' g e2 e3=>?_⟩,fun y c e=>?_,I.free,I.freeC,fun p hp=>?_,l ⟨oL,a9,I.free⟩ f,by simpa using I.len⟩ ⟨_,f,.inl rfl⟩
  ·exact (f.2 b (Nat.ne_of_lt (Nat.lt_of_lt_of_le (Heap.lt_size e) I.ok.above))).trans (I.base.keep b o e n hb t)
  ·obtain ⟨sl,g⟩:=I.base.slot b o e n hb t;exact ⟨sl,(f.2 b (Nat.ne_of_lt (Nat.lt_of_lt_of_le (Heap.lt_size e) I.ok.above))).trans g⟩
  ·obtain ⟨o',g⟩:=I.base.there b o e t;exact ⟨o',(f.2 b (Nat.ne_of_lt (Nat.lt_of_lt_of_le (Heap.lt_size e) I.ok.above))).trans g⟩
  ·by_cases hj:j=i
   ·subst hj;rw [hi] at g;cases g;rw [List.getElem?_set_self a5] at e2;cases e2;exact ⟨u,r,.inl ⟨hk,by simp⟩⟩
   ·rw [List.getElem?_set_ne (Ne.symm hj)] at e2;obtain ⟨u',r',q⟩:=hl j y v' g e2 e3;refine ⟨u',r',?_⟩;rcases q with ⟨k,e⟩ | ⟨k,c,e,z⟩
    ·refine .inl ⟨k,?_⟩;have:y ≠ x:=fun e=>hj (qRZ hN g (e ▸ hi));simp [this,e]
    ·exact .inr ⟨k,c,e,z.sameBut f (cne y c e)⟩
  ·obtain ⟨w',z⟩:=I.cell y c e;exact ⟨w',z.sameBut f (cne y c e)⟩
  ·obtain ⟨e,n,ne,nf,d⟩:=I.pin p hp;exact ⟨(f.2 p.1 ne).trans e,n,ne,nf,d⟩
 ·have a1:X.fn x=true:=by
   rcases hf with z | z
   ·exact z
   ·rw [z] at hk;cases hk
  obtain ⟨c,hc⟩:=I.ok.has x (.inl hk);obtain ⟨w',z⟩:=I.cell x c hc;refine wpAny_storeName_cell I.ok.kind hk hc z (fun h' a6 f=>?_);obtain ⟨oc,a7,a4⟩:=id z;refine h { s with heap:=h' } ⟨I.ok,I.os,I.bare,⟨fun b o e n hb t=>?_,fun b o e n hb t=>?_,I.base.free,fun b o e t=>?_,I.base.tups,I.base.frzs,I.base.tbls⟩,⟨m,hn.sameBut f (Ne.symm (cne x c hc)),fun j y v' g e2 e3=>?_⟩,fun y c' e=>?_,I.free,I.freeC,fun p hp=>?_,l ⟨oc,a7,I.freeC x c hc⟩ f,by simpa using I.len⟩ ⟨c,f,.inr hc⟩
  ·exact (f.2 b (Nat.ne_of_lt (Nat.lt_of_lt_of_le (Heap.lt_size e) (I.ok.cab x c a1 hc)))).trans (I.base.keep b o e n hb t)
  ·obtain ⟨sl,g⟩:=I.base.slot b o e n hb t;exact ⟨sl,(f.2 b (Nat.ne_of_lt (Nat.lt_of_lt_of_le (Heap.lt_size e) (I.ok.cab x c a1 hc)))).trans g⟩
  ·obtain ⟨o',g⟩:=I.base.there b o e t;exact ⟨o',(f.2 b (Nat.ne_of_lt (Nat.lt_of_lt_of_le (Heap.lt_size e) (I.ok.cab x c a1 hc)))).trans g⟩
  ·by_cases hj:j=i
   ·subst hj;rw [hi] at g;cases g;rw [List.getElem?_set_self a5] at e2;cases e2;exact ⟨u,r,.inr ⟨.inl hk,c,hc,a6⟩⟩
   ·rw [List.getElem?_set_ne (Ne.symm hj)] at e2;obtain ⟨u',r',q⟩:=hl j y v' g e2 e3;refine ⟨u',r',?_⟩;rcases q with q | ⟨k,c',e,z'⟩
    ·exact .inl q
    ·refine .inr ⟨k,c',e,z'.sameBut f ?_⟩;rintro rfl;exact hj (qRZ hN g (I.ok.inj _ _ _ e hc ▸ hi))
  ·by_cases a2:c'=c
   ·subst a2;exact ⟨_,a6⟩
   ·obtain ⟨w2,z2⟩:=I.cell y c' e;exact ⟨w2,z2.sameBut f a2⟩
  ·obtain ⟨e,n,ne,nf,d⟩:=I.pin p hp;refine ⟨(f.2 p.1 ?_).trans e,n,ne,nf,d⟩;intro q;rw [q,a7] at e;have q':oc=p.2:=Option.some.inj e;exact d w' (by rw [<- q'];exact a4)
theorem qKD {M:Model} {A:Around} {E:Value->Shared->Prop} {i:Nat} {x:Str} {v:V} {u:Value} {Q:Unit->Shared->Prop} (I:Inv X Aa σ H s) (c:X.N.Nodup) (hi:X.N[i]?=some x) (a:Loc X.env.scope x) (r:RelV v u)
  (h:∀ s',Inv X Aa (σ.set i (some v)) H s'->Q () s') (d:X.fn x=true\/X.env.scope.names.lookup x=some .local:=by first | exact .inl rfl | exact .inr rfl | assumption):wpAny M A (storeName X.env x u) Q E s:=
 qOV I c hi a r (fun s' b _=>h s' b) d
theorem Inv.call' {s':Shared} {ch:List Addr} (I:Inv X Aa σ H s) (g:s'.os=s.os) (u:Un (frs X.stack) ch H H' s.heap s'.heap) (d:HOk X.prog X.w H' s'.heap) (f:AllBare s'.gens)
  (a:∀ b ∈ ch,(b ∈ X.ex\/X.s₀.heap.objs.size<=b)/\b ≠ X.env.locals/\(∀ x c,X.env.cells.lookup x=some c->c ≠ b)/\∀ p ∈ X.pn++Aa,p.1 ≠ b):Inv X Aa σ H' s':=by
 obtain ⟨i,g',d',t',h⟩:=s';have e:h=s.os:=g;subst e;exact I.call (g':=g') (t':=t') (d':=d') u d f a
end
abbrev XK:=Value->Option Addr->Hp->Prop
abbrev St:=List (Option V)
abbrev VK:=V->Hp->Prop
abbrev TE:=St->Hp->VK->Prop
abbrev TT:=St->Hp->(Bool->Hp->Prop)->Prop
abbrev TA:=St->Hp->(List V->Hp->Prop)->Prop
structure Ends where
 nx:St->Hp->Prop
 rt:VK
 bk:St->Hp->Prop:=fun _ _=>False
 ct:St->Hp->Prop:=fun _ _=>False
abbrev TS:=Ends->St->Hp->Prop
def EP (X:Cx) (Aa:List (Addr × Obj)) (σ:St) (Q:VK) (u:Value) (s':Shared):Prop:=∃ v H',Inv X Aa σ H' s'/\RelV v u/\Q v H'
def TP (X:Cx) (Aa:List (Addr × Obj)) (σ:St) (Q:Bool->Hp->Prop) (b:Bool) (s':Shared):Prop:=∃ H',Inv X Aa σ H' s'/\Q b H'
def AP (X:Cx) (Aa:List (Addr × Obj)) (σ:St) (Q:List V->Hp->Prop) (us:List Value) (s':Shared):Prop:=∃ vs H',Inv X Aa σ H' s'/\Vals vs us/\Q vs H'
def SP (X:Cx) (Aa:List (Addr × Obj)) (D:Ends) (f:Flow) (s':Shared):Prop:=
 match f with
 | .next=>∃ σ' H',Inv X Aa σ' H' s'/\D.nx σ' H'
 | .brk=>∃ σ' H',Inv X Aa σ' H' s'/\D.bk σ' H'
 | .cont=>∃ σ' H',Inv X Aa σ' H' s'/\D.ct σ' H'
 | .ret u=>∃ v σ' H',Inv X Aa σ' H' s'/\RelV v u/\D.rt v H'
def PE (X:Cx) (e:Expr) (t:TE):Prop:=
 ∀ (Aa:List (Addr × Obj)) (s:Shared) (σ:St) (H:Hp) (Q:VK),Inv X Aa σ H s->t σ H Q->wpAny (model X.prog X.w) X.A (eval e X.env) (EP X Aa σ Q) X.xe s
def PT (X:Cx) (e:Expr) (t:TT):Prop:=
 ∀ (Aa:List (Addr × Obj)) (s:Shared) (σ:St) (H:Hp) (Q:Bool->Hp->Prop),Inv X Aa σ H s->t σ H Q->wpAny (model X.prog X.w) X.A (isTrue e X.env (eval e X.env)) (TP X Aa σ Q) X.xe s
def PW (X:Cx) (e:Expr) (t:TT):Prop:=
 ∀ (whole:Sem Value) (Aa:List (Addr × Obj)) (s:Shared) (σ:St) (H:Hp) (Q:Bool->Hp->Prop),Inv X Aa σ H s->t σ H Q->wpAny (model X.prog X.w) X.A (isTrue e X.env whole) (TP X Aa σ Q) X.xe s
theorem PW.pt {X:Cx} {e:Expr} {t:TT} (h:PW X e t):PT X e t:=h _
def PA (X:Cx) (es:List Expr) (t:TA):Prop:=
 ∀ (pos:Pos) (Aa:List (Addr × Obj)) (s:Shared) (σ:St) (H:Hp) (Q:List V->Hp->Prop),Inv X Aa σ H s->t σ H Q->wpAny (model X.prog X.w) X.A (spliced (backTo pos (starEach es X.env))) (AP X Aa σ Q) X.xe s
def PS (X:Cx) (st:Stmt) (t:TS):Prop:=
 ∀ (Aa:List (Addr × Obj)) (s:Shared) (σ:St) (H:Hp) (D:Ends),Inv X Aa σ H s->t D σ H->wpAny (model X.prog X.w) X.A (exec st X.env) (SP X Aa D) X.xe s
def PSs (X:Cx) (st:List Stmt) (t:TS):Prop:=
 ∀ (Aa:List (Addr × Obj)) (s:Shared) (σ:St) (H:Hp) (D:Ends),Inv X Aa σ H s->t D σ H->wpAny (model X.prog X.w) X.A (execs st X.env) (SP X Aa D) X.xe s
theorem thn {α:Type} {t:Sem α} {Q Q':α->Shared->Prop} {M:Model} {A:Around} {E:Value->Shared->Prop} {s:Shared} (h:wpAny M A t Q E s) (b:∀ a s,Q a s->Q' a s):wpAny M A t Q' E s:=wpAny_mono h b fun _ _ x=>x
end L2
namespace L2
open PySem PySem.Spec PyProof.Rows
section
variable {X:Cx}
theorem bin {a b:Expr} {c d:TE} (i:PE X a c) (g:PE X b d) {Aa:List (Addr × Obj)} {s:Shared} {σ:St} {H:Hp} {R:V->V->Hp->Prop} (I:Inv X Aa σ H s) (h:c σ H fun x H1=>d σ H1 fun y H2=>R x y H2)
  {α:Type} {Q:α->Shared->Prop} {f:Value->Value->Sem α}
  (e:∀ v u s2 x y H2,Inv X Aa σ H2 s2->RelV x v->RelV y u->R x y H2->wpAny (model X.prog X.w) X.A (f v u) Q X.xe s2) :
  wpAny (model X.prog X.w) X.A (eval a X.env) (fun v s₁=>wpAny (model X.prog X.w) X.A (eval b X.env) (fun u s₂=>wpAny (model X.prog X.w) X.A (f v u) Q X.xe s₂) X.xe s₁) X.xe s:=by
 refine thn (i Aa s σ H _ I h) fun v s1 ⟨x,H1,I1,r1,q1⟩=>?_;refine thn (g Aa s1 σ H1 _ I1 q1) fun u s2 ⟨y,H2,I2,r2,q2⟩=>?_;exact e v u s2 x y H2 I2 r1 r2 q2
def tVar (i:Nat):TE:=fun σ H Q=>∃ v,σ[i]?=some (some v)/\Q v H
def tC (v:V):TE:=fun _ H Q=>Q v H
theorem qd2 {i:Nat} {x:Str} {d:Pos} (p:X.N[i]?=some x) (n:Vis X.env.scope x) (f:(x == ("__debug__" : Str))=false:=by decide) (g:(x == ("__classdict__" : Str))=false:=by decide):PE X (.Name x d) (tVar i):=by
 intro k s σ H Q I h;obtain ⟨v,e,h⟩:=h;obtain ⟨m,t,q⟩:=I.loc;obtain ⟨u,r,l⟩:=q i x v p e n;have b:EP X k σ Q u s:=⟨v,H,I,r,h⟩;rcases l with ⟨hk,o⟩ | ⟨hk,c,j,a⟩
 ·exact wpAny_Name (wpAny_loadName_local I.ok.kind hk t o b) f
 ·rcases hk with hk | hk
  ·exact wpAny_Name (wpAny_loadName_cell I.ok.kind hk j a b) f
  ·exact wpAny_Name (wpAny_loadName_free I.ok.kind hk j a b g) f
theorem qA7 {i j pos}:PE X (.Constant (.int i) j pos) (tC (.int i)):=fun _ _ _ H _ I h=>wpAny_Constant_int ⟨.int i,H,I.tok _,⟨_,rfl⟩,h⟩
theorem qGO {b j pos}:PE X (.Constant (.bool b) j pos) (tC (.bl b)):=fun _ _ _ H _ I h=>Constant_bool ⟨.bl b,H,I,rfl,h⟩
theorem qEO {j pos}:PE X (.Constant .none j pos) (tC .non):=fun _ _ _ H _ I h=>Constant_none ⟨.non,H,I,rfl,h⟩
theorem qAC {x j pos}:PE X (.Constant (.str x) j pos) (tC (.str x)):=fun _ _ _ H _ I h=>Calls.Constant_str ⟨.str x,H,I.tok _,⟨_,rfl⟩,h⟩
def Gl (X:Cx) (x:Str):Prop:=X.env.kindOf x=some .globalImplicit
theorem qLB {E:Value->Shared->Prop} {Aa:List (Addr × Obj)} {s:Shared} {σ:St} {H:Hp} {x:Str} {u:Value} {a:Pos} {Q:Value->Shared->Prop} (I:Inv X Aa σ H s) (c:Gl X x) (d:X.mg x=some u) (h:Q u s)
  (b:(x == ("__debug__" : Str))=false:=by decide):wpAny (model X.prog X.w) X.A (eval (.Name x a) X.env) Q E s:=
 Calls.Name_function_global I.ok.kind c (Calls.loadGlobal_global (by rw [I.ok.glob];exact I.mod.glob.keeps I.bk) d h) b
theorem qMO {E:Value->Shared->Prop} {Aa:List (Addr × Obj)} {s:Shared} {σ:St} {H:Hp} {x:Str} {u:Value} {a:Pos} {Q:Value->Shared->Prop} (I:Inv X Aa σ H s) (d:Gl X x) (e:X.mg x=none) (c:bootBuiltins x=some u) (h:Q u s)
  (g:x ≠ "__name__":=by decide) (f:(x == ("__debug__" : Str))=false:=by decide):wpAny (model X.prog X.w) X.A (eval (.Name x a) X.env) Q E s:=by
 obtain ⟨j,b,i⟩:=I.mod.blt;exact Calls.Name_function_global I.ok.kind d (Calls.loadGlobal_builtin (by rw [I.ok.glob];exact I.mod.glob.keeps I.bk) e (by rw [I.ok.blt];exact b.keeps I.bk) ((i x g).trans c) h) f
theorem qCH {x:Str} {v:V} {u:Value} {a:Pos} (c:Gl X x) (d:X.mg x=some u) (r:RelV v u) (b:(x == ("__debug__" : Str))=false:=by decide):PE X (.Name x a) (tC v):=
 fun _ _ _ H _ I h=>qLB I c d ⟨v,H,I,r,h⟩ b
theorem qF4 {x:Str} {v:V} {u:Value} {a:Pos} (c:Gl X x) (d:X.mg x=none) (b:bootBuiltins x=some u) (r:RelV v u) (f:x ≠ "__name__":=by decide) (e:(x == ("__debug__" : Str))=false:=by decide):PE X (.Name x a) (tC v):=
 fun _ _ _ H _ I h=>qMO I c d b ⟨v,H,I,r,h⟩ f e
variable {a b:Expr} {ta tb:TE} {pos:Pos}
def PC (X:Cx) (op:CmpOp) (a b:Expr) (t:TE):Prop:=
 ∀ (Aa:List (Addr × Obj)) (s:Shared) (σ:St) (H:Hp) (Q:VK),Inv X Aa σ H s->t σ H Q->
  wpAny (model X.prog X.w) X.A (eval a X.env) (fun v s₁=>wpAny (model X.prog X.w) X.A (eval b X.env) (fun u s₂=>wpAny (model X.prog X.w) X.A (compareOp op v u) (EP X Aa σ Q) X.xe s₂) X.xe s₁) X.xe s
theorem qS0 (b:Expr) {a:CmpOp} (h:a ≠ .In) (e:a ≠ .NotIn):behindInMarks a b=false:=by
 have d:(a == CmpOp.In)=false:=by cases a <;> first | rfl | exact absurd rfl h
 have c:(a == CmpOp.NotIn)=false:=by cases a <;> first | rfl | exact absurd rfl e
 cases b <;> simp [behindInMarks,d,c]
def tIsN (ta:TE):TE:=fun σ H Q=>ta σ H fun x H1=>Q (.bl (decide (x=.non))) H1
def qe9 (ta:TE):TE:=fun σ H Q=>ta σ H fun x H1=>Q (.bl (!decide (x=.non))) H1
theorem RelV.none_iff {x:V} {v:Value} (r:RelV x v):(v == Value.none)=decide (x=.non):=by
 cases x with
 | non=>cases r;rfl
 | bl _=>cases r;rfl
 | int _=>obtain ⟨t,rfl⟩:=r;rfl
 | str _=>obtain ⟨t,rfl⟩:=r;rfl
 | byt _=>obtain ⟨t,rfl⟩:=r;rfl
 | flt _=>obtain ⟨t,rfl⟩:=r;rfl
 | ref _=>cases r;rfl
 | ty _=>cases r;rfl
theorem qHK {j pos'} (c:PE X a ta):PC X .Is a (.Constant .none j pos') (tIsN ta):=by
 intro b s σ H Q I h;refine thn (c b s σ H _ I h) fun v s1 ⟨x,H1,I1,r1,q1⟩=>?_;exact Constant_none (is_none_gen ⟨.bl _,H1,I1,by rw [r1.none_iff];rfl,q1⟩)
theorem qaS {j pos'} (c:PE X a ta):PC X .IsNot a (.Constant .none j pos') (qe9 ta):=by
 intro b s σ H Q I h;refine thn (c b s σ H _ I h) fun v s1 ⟨x,H1,I1,r1,q1⟩=>?_;exact Constant_none (isnot_none_gen ⟨.bl _,H1,I1,by rw [r1.none_iff];rfl,q1⟩)
def tB (t:TE):TT:=fun σ H Q=>t σ H fun x H1=>∃ c,x=.bl c/\Q c H1
theorem qZ4 {c:CmpOp} {t:TE} (h:PC X c a b t) (d:behindInMarks c b=false:=by first | exact qS0 _ (by decide) (by decide) | rfl):PE X (.Compare a [c] [b] pos) t:=fun f s σ H Q I e=>wpAny_Compare1 (h f s σ H Q I e) d
theorem qFH {f:CmpOp} {t:TE} (h:PC X f a b t) (e:behindInMarks f b=false:=by first | exact qS0 _ (by decide) (by decide) | rfl):PT X (.Compare a [f] [b] pos) (tB t):=by
 intro g s σ H Q I i;refine wpAny_isTrue_Compare1 (thn (h g s σ H _ I i) fun v l e=>thn e fun u k j=>thn j fun c s3 ⟨x,H1,I1,r1,q1⟩=>?_) e;obtain ⟨d,rfl,q⟩:=q1;cases r1;exact wpAny_truthy_bool ⟨H1,I1,q⟩
theorem qD4 {e:Expr} {t:TE} (h:PE X e t) (c:∀ whole,isTrue e X.env whole=(do let v <- whole;standAt e.pos;holding [v] (truthy v)):=by intro _;rfl):PT X e (tB t):=by
 intro b s σ H Q I a;refine isTrue_plain (thn (h b s σ H _ I a) fun v s1 ⟨x,H1,I1,r1,q1⟩=>?_) (c _);obtain ⟨d,rfl,q⟩:=q1;cases r1;exact wpAny_truthy_bool ⟨H1,I1,q⟩
variable {tA tB':TT} {rest:List Expr}
def tAnd (t u:TT):TT:=fun σ H Q=>t σ H fun c H1=>if c=true then u σ H1 Q else Q false H1
def tOr (t u:TT):TT:=fun σ H Q=>t σ H fun c H1=>if c=true then Q true H1 else u σ H1 Q
def tNot (t:TT):TT:=fun σ H Q=>t σ H fun c H1=>Q (!c) H1
theorem qQM (d:PT X a tA):PW X (.BoolOp .And [a] pos) tA:=by
 intro g b s σ H Q I h;refine isTrue_and (thn (d b s σ H Q I h) fun c f e=>?_);cases c with
 | true=>exact isTrue_and_nil e
 | false=>exact e
theorem qEL (d:PT X a tA):PW X (.BoolOp .Or [a] pos) tA:=by
 intro g b s σ H Q I h;refine isTrue_or (thn (d b s σ H Q I h) fun c f e=>?_);cases c with
 | false=>exact isTrue_or_nil e
 | true=>exact e
theorem qRQ (f:PT X a tA) (e:PW X (.BoolOp .And (b::rest) pos) tB'):PW X (.BoolOp .And (a::b::rest) pos) (tAnd tA tB'):=by
 intro g d s σ H Q I h;refine isTrue_and (thn (f d s σ H _ I h) fun c s1 ⟨H1,I1,q1⟩=>?_);cases c with
 | true=>exact e g d s1 σ H1 Q I1 q1
 | false=>exact ⟨H1,I1,q1⟩
theorem qF1 (f:PT X a tA) (e:PW X (.BoolOp .Or (b::rest) pos) tB'):PW X (.BoolOp .Or (a::b::rest) pos) (tOr tA tB'):=by
 intro g d s σ H Q I h;refine isTrue_or (thn (f d s σ H _ I h) fun c s1 ⟨H1,I1,q1⟩=>?_);cases c with
 | true=>exact ⟨H1,I1,q1⟩
 | false=>exact e g d s1 σ H1 Q I1 q1
theorem qEM (e:PT X a tA):PT X (.UnaryOp .Not a pos) (tNot tA):=by
 intro d s σ H Q I h;exact isTrue_not (e d s σ H (fun c b=>Q (!c) b) I h)
def qeH (ta tb:TE):TE:=fun σ H Q=>ta σ H fun x H1=>∃ c,x=.bl c/\if c=true then tb σ H1 Q else Q (.bl false) H1
def qe8 (ta:TE):TE:=fun σ H Q=>ta σ H fun x H1=>∃ c,x=.bl c/\Q (.bl (!c)) H1
theorem qEN {op} {t:TE} (h:PE X a t):PE X (.BoolOp op [a] pos) t:=fun c s σ H Q I b=>BoolOp_one (h c s σ H Q I b)
theorem qD7 (f:PE X a ta) (e:PE X (.BoolOp .And (b::rest) pos) tb):PE X (.BoolOp .And (a::b::rest) pos) (qeH ta tb):=by
 intro d s σ H Q I h;refine BoolOp_and (thn (f d s σ H _ I h) fun v s1 ⟨x,H1,I1,r1,q1⟩=>?_);obtain ⟨c,rfl,q1⟩:=q1;cases r1;refine wpAny_truthy_bool ?_;cases c with
 | true=>exact e d s1 σ H1 Q I1 q1
 | false=>exact ⟨.bl false,H1,I1,rfl,q1⟩
theorem qd3 (d:PE X a ta):PE X (.UnaryOp .Not a pos) (qe8 ta):=by
 intro b s σ H Q I h;refine UnaryOp_ (thn (d b s σ H _ I h) fun v s1 ⟨x,H1,I1,r1,q1⟩=>?_);obtain ⟨c,rfl,q1⟩:=q1;cases r1;exact not_of (wpAny_truthy_bool ⟨.bl (!c),H1,I1,rfl,q1⟩)
def tIf (t:TT) (ta tb:TE):TE:=fun σ H Q=>t σ H fun c H1=>if c=true then ta σ H1 Q else tb σ H1 Q
theorem qF3 {c:Expr} (i:PT X c tA) (g:PE X a ta) (f:PE X b tb):PE X (.IfExp c a b pos) (tIf tA ta tb):=by
 intro e s σ H Q I h;refine wpAny_IfExp (thn (i e s σ H _ I h) fun d s1 ⟨H1,I1,q1⟩=>?_);cases d with
 | true=>exact g e s1 σ H1 Q I1 q1
 | false=>exact f e s1 σ H1 Q I1 q1
end
end L2
namespace L2
open PySem PySem.Spec PyProof.Rows
def SqL (K:PySem.W.Frag) (H:Hp) (a:Addr) (xs:List V):Prop:=
 Rd H a (.lst xs)\/
  ∃ (o:Obj) (its:Array Value) (n:Nat),K.lookup a=some o/\o.cls=.type "list"/\o.dict=none/\o.data=.seq its n/\its.size<=sizeLine/\Vals xs its.toList
def SqT (K:PySem.W.Frag) (H:Hp) (a:Addr) (xs:List V):Prop:=
 Rd H a (.tup xs)\/
  ∃ (o:Obj) (its:Array Value) (n:Nat),K.lookup a=some o/\o.cls=.type "tuple"/\o.data=.seq its n/\its.size<=sizeLine/\Vals xs its.toList
noncomputable def absV:Value->Option V
 | .none=>some .non
 | .bool b=>some (.bl b)
 | .int i _=>some (.int i)
 | .str x _=>some (.str x)
 | .bytes b _=>some (.byt b)
 | .float b _=>some (.flt b)
 | .ref a=>some (.ref a)
 | .type n=>some (.ty n)
 | _=>none
theorem RelV.abs {x:V} {u:Value} (r:RelV x u):absV u=some x:=by
 cases x with
 | non=>cases r;rfl
 | bl _=>cases r;rfl
 | int _=>obtain ⟨t,rfl⟩:=r;rfl
 | str _=>obtain ⟨t,rfl⟩:=r;rfl
 | byt _=>obtain ⟨t,rfl⟩:=r;rfl
 | flt _=>obtain ⟨t,rfl⟩:=r;rfl
 | ref _=>cases r;rfl
 | ty _=>cases r;rfl
theorem RelV.inj {x y:V} {u:Value} (r:RelV x u) (q:RelV y u):x=y:=Option.some.inj (r.abs.symm.trans q.abs)
theorem Vals.inj:∀ {xs ys:List V} {us:List Value},Vals xs us->Vals ys us->xs=ys
 | _,_,_,.nil,.nil=>rfl
 | _,_,_,.cons r t,.cons r' t'=>by rw [r.inj r',Vals.inj t t']
section
variable {X:Cx} {Aa:List (Addr × Obj)} {σ:St} {H:Hp} {s:Shared} {a:Addr} {xs ys:List V}
theorem SqL.of {K:PySem.W.Frag} (h:H a=some (.lst xs)):SqL K H a xs:=.inl (.inl h)
theorem SqT.of {K:PySem.W.Frag} (h:H a=some (.tup xs)):SqT K H a xs:=.inl (.inl h)
theorem Inv.list (I:Inv X Aa σ H s) (h:SqL X.K H a xs):∃ its:List Value,Vals xs its/\PlainL s.heap a its.toArray/\xs.length<=sizeLine:=by
 rcases h with h | ⟨o,its,n,hk,hc,hd,hs,hz,r⟩
 ·obtain ⟨z,its,n,r,e⟩:=h.ok I.hok;exact ⟨its,r,⟨_,n,e,rfl,rfl,rfl⟩,z⟩
 ·refine ⟨its.toList,r,⟨o,n,I.kIn a o hk,hc,hd,by simpa using hs⟩,?_⟩
  have e:=r.length;simp only [Array.length_toList] at e
  lia
theorem Inv.tuple (I:Inv X Aa σ H s) (h:SqT X.K H a xs):∃ its:List Value,Vals xs its/\IsTup s.heap a its.toArray/\xs.length<=sizeLine:=by
 rcases h with h | ⟨o,its,n,hk,hc,hs,hz,r⟩
 ·obtain ⟨z,its,r,p⟩:=h.ok I.hok;exact ⟨its,r,p,z⟩
 ·refine ⟨its.toList,r,⟨o,I.kIn a o hk,hc,n,by simpa using hs⟩,?_⟩
  have e:=r.length;simp only [Array.length_toList] at e
  lia
theorem Inv.list_inj (I:Inv X Aa σ H s) (h:SqL X.K H a xs) (h':SqL X.K H a ys):xs=ys:=by
 obtain ⟨c,r,⟨o,n,e,_,_,d⟩,_⟩:=I.list h;obtain ⟨b,i,⟨k,j,f,_,_,g⟩,_⟩:=I.list h';rw [e] at f;cases f;rw [d] at g
 injection g with d1 _
 have:c=b:=by simpa using congrArg Array.toList d1
 subst this;exact r.inj i
theorem Inv.tuple_inj (I:Inv X Aa σ H s) (h:SqT X.K H a xs) (h':SqT X.K H a ys):xs=ys:=by
 obtain ⟨c,r,⟨o,e,_,n,d⟩,_⟩:=I.tuple h;obtain ⟨b,i,⟨k,f,_,j,g⟩,_⟩:=I.tuple h';rw [e] at f;cases f;rw [d] at g
 injection g with d1 _
 have:c=b:=by simpa using congrArg Array.toList d1
 subst this;exact r.inj i
end
noncomputable abbrev Cx.wish (X:Cx) (E:Value->Shared->Prop):Cx:={ X with xe:=E }
noncomputable abbrev Cx.nox (X:Cx):Cx:=X.wish fun _ _=>False
theorem Cx.Ok.wish {X:Cx} (a:X.Ok) (E:Value->Shared->Prop):(X.wish E).Ok:=
 ⟨a.mod,a.kind,a.glob,a.blt,a.above,a.inj,a.has,a.cab,a.hd,a.frames,a.stk,a.exf,a.bs,a.bsz,a.noex,a.exfs,a.funs,a.frf⟩
theorem Cx.Ok.unwish {X:Cx} {E:Value->Shared->Prop} (a:(X.wish E).Ok):X.Ok:=
 ⟨a.mod,a.kind,a.glob,a.blt,a.above,a.inj,a.has,a.cab,a.hd,a.frames,a.stk,a.exf,a.bs,a.bsz,a.noex,a.exfs,a.funs,a.frf⟩
section
variable {X:Cx} {Aa:List (Addr × Obj)} {σ:St} {H:Hp} {s:Shared} {E:Value->Shared->Prop}
theorem Inv.wish (I:Inv X Aa σ H s) (E:Value->Shared->Prop):Inv (X.wish E) Aa σ H s:=⟨I.ok.wish E,I.os,I.bare,I.base,I.loc,I.cell,I.free,I.freeC,I.pin,I.hok,I.len⟩
theorem Inv.unwish (I:Inv (X.wish E) Aa σ H s):Inv X Aa σ H s:=⟨I.ok.unwish,I.os,I.bare,I.base,I.loc,I.cell,I.free,I.freeC,I.pin,I.hok,I.len⟩
theorem SP.unwish {D:Ends} {f:Flow} {s':Shared} (h:SP (X.wish E) Aa D f s'):SP X Aa D f s':=by
 cases f with
 | next=>obtain ⟨σ',a,I,q⟩:=h;exact ⟨σ',a,I.unwish,q⟩
 | brk=>obtain ⟨σ',a,I,q⟩:=h;exact ⟨σ',a,I.unwish,q⟩
 | cont=>obtain ⟨σ',a,I,q⟩:=h;exact ⟨σ',a,I.unwish,q⟩
 | ret u=>obtain ⟨v,σ',a,I,r,q⟩:=h;exact ⟨v,σ',a,I.unwish,r,q⟩
theorem PSs.nox {st:List Stmt} {t:TS} (h:PSs X.nox st t):PSs X st t:=fun b s σ H D I a=>
 wpAny_mono (h b s σ H D (I.wish _) a) (fun _ _ q=>q.unwish) fun _ _ z=>False.elim z
end
section
variable {X:Cx} {st:Stmt} {rest:List Stmt} {t u:TS} {e:Expr} {te:TE} {pos:Pos}
def qeA:TS:=fun D σ H=>D.nx σ H
def tSeq (t u:TS):TS:=fun D σ H=>t { D with nx:=u D } σ H
theorem qAJ:PSs X [] qeA:=fun _ _ σ H _ I h=>wpAny_execs_nil ⟨σ,H,I,h⟩
theorem qA5 (b:PS X st t) (g:PSs X rest u):PSs X (st::rest) (tSeq t u):=by
 intro a s σ H D I h;refine wpAny_execs_cons (thn (b a s σ H { D with nx:=u D } I h) fun f e q=>?_);cases f with
 | next=>
  obtain ⟨σ',d,c,q⟩:=q;exact g a e σ' d D c q
 | ret v=>exact q
 | brk=>exact q
 | cont=>exact q
theorem qA6 (a:PS X st t):PSs X [st] t:=by
 intro b s σ H D I h;refine wpAny_execs_cons (thn (a b s σ H D I h) fun f c q=>?_);cases f with
 | next=>exact wpAny_execs_nil q
 | ret v=>exact q
 | brk=>exact q
 | cont=>exact q
def qeG:TS:=fun D σ H=>D.ct σ H
theorem qQO:PS X (.Continue pos) qeG:=fun _ _ σ H _ I h=>wpAny_Continue ⟨σ,H,I,h⟩
theorem Inv.quiet {Aa:List (Addr × Obj)} {σ:St} {H:Hp} {s:Shared} (I:Inv X Aa σ H s):interactive X.env=false:=by simp [interactive,I.ok.kind]
def qeD (te:TE):TS:=fun D σ H=>te σ H fun _ H1=>D.nx σ H1
theorem qBR (c:PE X e te) (a:swapsWith e none pos.line X.env=pure false:=by rfl):PS X (.Expr e pos) (qeD te):=by
 intro b s σ H D I h;exact wpAny_Expr_any (thn (c b s σ H _ I h) fun v s1 ⟨x,H1,I1,r1,q1⟩=>⟨σ,H1,I1,q1⟩) I.quiet a
def tRet (te:TE):TS:=fun D σ H=>te σ H D.rt
theorem qAF (b:PE X e te):PS X (.Return (some e) pos) (tRet te):=by
 intro a s σ H D I h;exact wpAny_Return_some (thn (b a s σ H _ I h) fun v s1 ⟨x,H1,I1,r1,q1⟩=>⟨x,σ,H1,I1,r1,q1⟩)
def tIfS (c:TT) (t u:TS):TS:=fun D σ H=>c σ H fun b H1=>if b=true then t D σ H1 else u D σ H1
theorem qAZ {c:Expr} {a b:List Stmt} {f:TT} (g:PT X c f) (j:PSs X a t) (i:PSs X b u):PS X (.If c a b pos) (tIfS f t u):=by
 intro e s σ H D I h;refine wpAny_If (thn (g e s σ H _ I h) fun d s1 ⟨H1,I1,q1⟩=>?_);cases d with
 | true=>exact j e s1 σ H1 D I1 q1
 | false=>exact i e s1 σ H1 D I1 q1
def qcG:TS:=fun _ _ _=>False
theorem qUR {a:List Stmt}:PSs X a qcG:=fun _ _ _ _ _ _ h=>h.elim
end
abbrev TG:=V->St->Hp->(St->Hp->Prop)->Prop
abbrev TGs:=List V->St->Hp->(St->Hp->Prop)->Prop
def PG (X:Cx) (target:Expr) (t:TG):Prop:=
 ∀ (Aa:List (Addr × Obj)) (s:Shared) (σ:St) (H:Hp) (v:V) (u:Value) (Q:St->Hp->Prop),Inv X Aa σ H s->RelV v u->t v σ H Q->
  wpAny (model X.prog X.w) X.A (assign target X.env u) (fun _ s'=>∃ σ' H',Inv X Aa σ' H' s'/\Q σ' H') X.xe s
def PGs (X:Cx) (ts:List Expr) (t:TGs):Prop:=
 ∀ (Aa:List (Addr × Obj)) (s:Shared) (σ:St) (H:Hp) (vs:List V) (us:List Value) (Q:St->Hp->Prop),Inv X Aa σ H s->Vals vs us->t vs σ H Q->
  wpAny (model X.prog X.w) X.A (assignInOrder ((assignEach ts X.env).map (·.2)) us) (fun _ s'=>∃ σ' H',Inv X Aa σ' H' s'/\Q σ' H') X.xe s
abbrev TSet:=V->V->V->Hp->(Hp->Prop)->Prop
def PSet (X:Cx) (t:TSet):Prop:=
 ∀ (Aa:List (Addr × Obj)) (s:Shared) (σ:St) (H:Hp) (o i v:V) (ov iv u:Value) (Q:Hp->Prop),Inv X Aa σ H s->RelV o ov->RelV i iv->RelV v u->t o i v H Q->
  wpAny (model X.prog X.w) X.A (setItem ov iv u) (fun _ s'=>∃ H',Inv X Aa σ H' s'/\Q H') X.xe s
section
variable {X:Cx} {pos:Pos}
def qQZ (i:Nat):TG:=fun v σ H Q=>Q (σ.set i (some v)) H
theorem qBS {i:Nat} {x:Str} (a:X.N.Nodup) (hi:X.N[i]?=some x) (d:Loc X.env.scope x) (b:X.fn x=true\/X.env.scope.names.lookup x=some .local:=by first | exact .inl rfl | exact .inr rfl | assumption):PG X (.Name x pos) (qQZ i):=by
 intro e s σ H v u Q I r h;exact wpAny_assign_Name (qKD I a hi d r (fun f c=>⟨_,H,c,h⟩) b)
def gNil:TGs:=fun vs σ H Q=>vs=[]/\Q σ H
def qeX (t:TG) (u:TGs):TGs:=fun vs σ H Q=>∃ v r,vs=v::r/\t v σ H fun σ' H'=>u r σ' H' Q
theorem qGN:PGs X [] gNil:=by
 intro b s σ H c a Q I r h;obtain ⟨e,h⟩:=h;subst e;cases r;exact assignInOrder_nil ⟨σ,H,I,h⟩
theorem qBU {e:Expr} {es:List Expr} {t:TG} {u:TGs} (b:PG X e t) (f:PGs X es u)
  (d:(assignEach (e::es) X.env).map (·.2)=assign e X.env::(assignEach es X.env).map (·.2):=by rfl):PGs X (e::es) (qeX t u):=by
 intro a s σ H i j Q I r h;obtain ⟨v,g,c,h⟩:=h;subst c;cases r with
 | cons r rr=>
  rw [d];refine assignInOrder_cons (thn (b a s σ H _ _ _ I r h) fun _ s1 ⟨σ1,H1,I1,q1⟩=>?_);exact f a s1 σ1 H1 _ _ Q I1 rr q1
def gTup (K:PySem.W.Frag) (n:Nat) (t:TGs):TG:=fun v σ H Q=>∃ a xs,v=.ref a/\SqT K H a xs/\xs.length=n/\t xs σ H Q
theorem qL4 {es:List Expr} {k:Nat} {t:TGs} {n:Nat} (j:X.calm=true) (h:PGs X es t)
  (w:(assignEach es X.env).length=n:=by rfl) (c:(assignEach es X.env).findIdx? (·.1)=none:=by rfl):PG X (.Tuple es k pos) (gTup X.K n t):=by
 intro f s σ H v u Q I r d;obtain ⟨a,x,i,z,q,d⟩:=d;subst i;cases r;obtain ⟨y,g,l,hz⟩:=I.tuple z;refine assign_Tuple_tuple (I.ok.hd j) l (by simp [w,<- q,g.length]) c fun h' m=>?_
 have p:Inv X f σ H { s with heap:=h' }:=I.kept (t':=s.toks) fun b o e=>m b o (Nat.ne_of_lt (Heap.lt_size e)) e;exact h f _ σ H x _ Q p (by simpa using g) d
def gSub (to ti:TE) (t:TSet):TG:=fun v σ H Q=>to σ H fun o H1=>ti σ H1 fun i H2=>t o i v H2 fun H3=>Q σ H3
theorem qMK {o i:Expr} {c b:TE} {t:TSet} (e:PE X o c) (hi:PE X i b) (d:PSet X t)
  (f:∀ v,assign (.Subscript o i pos) X.env v=(do
   let ov <- holding [v] (eval o X.env)
   let iv <- holding [v,ov] (eval i X.env)
   standAt pos
   holding [v,ov,iv] (setItem ov iv v)
   release [v,ov,iv] []):=by intro _;rfl):PG X (.Subscript o i pos) (gSub c b t):=by
 intro a s σ H v u Q I r h;rw [f];refine wpAny_bind (wpAny_holding (thn (e a s σ H _ I h) fun ov s1 ⟨x,H1,I1,r1,q1⟩=>?_));refine wpAny_bind (wpAny_holding (thn (hi a s1 σ H1 _ I1 q1) fun iv s2 ⟨y,H2,I2,r2,q2⟩=>?_));refine wpAny_bind (wpAny_standAt (wpAny_bind (wpAny_holding (thn (d a s2 σ H2 x y v ov iv u _ I2 r1 r2 r q2) fun _ s3 ⟨H3,I3,q3⟩=>?_))));exact wpAny_release ⟨σ,H3,I3,q3⟩
def tAsg (te:TE) (g:TG):TS:=fun D σ H=>te σ H fun x H1=>g x σ H1 D.nx
theorem qMJ {a e:Expr} {c:TE} {g:TG} (j:PE X e c) (f:PG X a g) (i:swapsWithSole [a] e pos.line X.env=pure false:=by rfl) (k:swappedStores [a] e X.env=pure none:=by rfl)
  (d:(assignEach [a] X.env).map (·.2)=[assign a X.env]:=by rfl):PS X (.Assign [a] e pos) (tAsg c g):=by
 intro b s σ H D I h;refine wpAny_Assign_stores (thn (j b s σ H _ I h) fun v s1 ⟨x,H1,I1,r1,q1⟩=>?_) i k;rw [d];exact thn (f b s1 σ H1 x v _ I1 r1 q1) fun _ l q=>q
theorem qAG {i:Nat} {x:Str} {e:Expr} {b:TE} {a:Pos} (d:X.N.Nodup) (hi:X.N[i]?=some x) (l:Loc X.env.scope x) (k:PE X e b) (g:swapsWith e (some (.Name x a)) pos.line X.env=pure false:=by rfl) (f:X.fn x=true\/X.env.scope.names.lookup x=some .local:=by first | exact .inl rfl | exact .inr rfl | assumption) :
  PS X (.Assign [.Name x a] e pos) (tAsg b (qQZ i)):=by
 intro c s σ H D I h;refine wpAny_Assign_Name (thn (k c s σ H _ I h) fun v s1 ⟨y,H1,I1,r1,q1⟩=>?_) g;exact qKD I1 d hi l r1 (fun m j=>⟨_,H1,j,q1⟩) f
end
section
variable {X:Cx} {pos:Pos}
def qcD (c:TT) (tb:TS):TS:=fun D σ H=>∃ W:Nat->St->Hp->Prop,(∃ m,W m σ H)/\∀ m σ H,W m σ H->
 c σ H fun b H1=>if b=true then ∃ N:St->Hp->Prop,(∀ σ' H',N σ' H'->∃ m',m'<m/\W m' σ' H')/\tb { D with nx:=N,ct:=N,bk:=D.nx } σ H1 else D.nx σ H1
theorem qXP {c:Expr} {a:List Stmt} {t:TT} {q:TS} (p:PassesOwn (model X.prog X.w) X.A X.env X.xe) (z:PT X c t) (x:PSs X a q):PS X (.While c a [] pos) (qcD t q):=by
 intro j s σ H D I h;obtain ⟨W,⟨u,w0⟩,e⟩:=h;refine wpAny_While (codeAny_whileLoop (fun n y=>∃ σ' H',Inv X j σ' H' y/\W n σ' H') ?_ u ⟨σ,H,I,w0⟩);rintro n s1 ⟨σ1,H1,I1,w1⟩;refine wpAny_passesOwn p (thn (z j s1 σ1 H1 _ I1 (e n σ1 H1 w1)) fun b s2 ⟨H2,I2,q2⟩=>?_);cases b with
 | true=>
  obtain ⟨N,r,q2⟩:=q2;rw [if_pos rfl];refine wpAny_passesOwn p (thn (x j s2 σ1 H2 _ I2 q2) fun f s3 g=>?_);cases f with
  | next=>
   obtain ⟨σ3,d,o,k⟩:=g;obtain ⟨i,m,l⟩:=r σ3 d k;exact ⟨i,m,σ3,d,o,l⟩
  | cont=>
   obtain ⟨σ3,d,o,k⟩:=g;obtain ⟨i,m,l⟩:=r σ3 d k;exact ⟨i,m,σ3,d,o,l⟩
  | brk=>exact g
  | ret v=>exact g
 | false=>
  rw [if_neg Bool.false_ne_true];exact wpAny_execs_nil ⟨σ1,H2,I2,q2⟩
end
structure It where
 go:Nat->Hp->Prop
 yld:Nat->Hp->V->Hp->Prop
 stop:Nat->Hp->Prop
def FpOk (X:Cx) (Aa:List (Addr × Obj)) (H:Hp) (b:Addr):Prop:=
 H b=none/\b ≠ X.env.locals/\b ∉ X.fs/\(b ∈ X.ex\/X.s₀.heap.objs.size<=b)/\(∀ x c,X.env.cells.lookup x=some c->c ≠ b)/\∀ p ∈ X.pn++Aa,p.1 ≠ b
theorem Inv.fpOk {X:Cx} {Aa:List (Addr × Obj)} {σ:St} {H H':Hp} {s:Shared} {b:Addr} (I:Inv X Aa σ H s) (a:s.heap.objs.size<=b) (f:H' b=none):FpOk X Aa H' b:=by
 refine ⟨f,Nat.ne_of_gt (Nat.lt_of_lt_of_le I.lt a),I.nofs a,.inr (Nat.le_trans I.sz a),fun x c e z=>?_,fun p d z=>?_⟩
 ·obtain ⟨v,q⟩:=I.cell x c e;exact absurd (Nat.lt_of_lt_of_le q.lt (by rw [z];exact a)) (Nat.lt_irrefl _)
 ·exact absurd (Nat.lt_of_lt_of_le (Heap.lt_size (I.pin p d).1) (by rw [z];exact a)) (Nat.lt_irrefl _)
structure Turn (P:Program) (w:World) (K:PySem.W.Frag) (tg:Expr) (J:It) (fp:List Addr) (it:Addr) (tn:Nat->Heap->Prop):Prop where
 mem:it ∈ fp
 obj:∀ i h,tn i h->∀ b ∈ fp,∃ o,h.get? b=some o/\∀ v,o.data ≠ .cell v
 keep:∀ i h h',tn i h->(∀ b ∈ fp,∀ o,h.get? b=some o->h'.get? b=some o)->tn i h'
 item:∀ (X:Cx),X.prog=P->X.w=w->X.K=K->X.calm=true->∀ (i:Nat) (Aa:List (Addr × Obj)) (s:Shared) (σ:St) (H:Hp) (E:Value->Shared->Prop),Inv X Aa σ H s->(∀ b ∈ fp,FpOk X Aa H b)->tn i s.heap->J.go i H->
  wpAny (model P w) X.A (pyNext (.ref it)) (fun r s1=>∃ u,r=some u/\
   wpAny (model P w) X.A (letOwnedTupleGo tg (.ref it) u) (fun _ s2=>∃ x H',Inv X Aa σ H' s2/\RelV x u/\J.yld i H x H'/\tn (i+1) s2.heap/\∀ b ∈ fp,H' b=none) E s1) E s
 done:∀ (X:Cx),X.prog=P->X.w=w->X.K=K->X.calm=true->∀ (i:Nat) (Aa:List (Addr × Obj)) (s:Shared) (σ:St) (H:Hp) (E:Value->Shared->Prop),Inv X Aa σ H s->(∀ b ∈ fp,FpOk X Aa H b)->tn i s.heap->J.stop i H->
  wpAny (model P w) X.A (pyNext (.ref it)) (fun r s1=>r=none/\Inv X Aa σ H s1) E s
 self:∀ (A:Around) (i:Nat) (s:Shared) (Q:Value->Shared->Prop) (E:Value->Shared->Prop),tn i s.heap->Q (.ref it) s->wpAny (model P w) A (pyIter (.ref it)) Q E s
abbrev TI:=St->Hp->(It->Hp->Prop)->Prop
def PIE (X:Cx) (Aa:List (Addr × Obj)) (σ:St) (tg:Expr) (R:It->Hp->Prop) (itv:Value) (s2:Shared):Prop:=
 ∃ (it:Addr) (fp:List Addr) (tn:Nat->Heap->Prop) (J:It) (H':Hp),itv=.ref it/\Inv X Aa σ H' s2/\Turn X.prog X.w X.K tg J fp it tn/\tn 0 s2.heap/\(∀ b ∈ fp,FpOk X Aa H' b)/\R J H'
def PI (X:Cx) (tg iter:Expr) (wi:TI):Prop:=
 ∀ (Aa:List (Addr × Obj)) (s:Shared) (σ:St) (H:Hp) (R:It->Hp->Prop),Inv X Aa σ H s->wi σ H R->
  wpAny (model X.prog X.w) X.A (eval iter X.env) (fun v s1=>wpAny (model X.prog X.w) X.A (pyIter v) (PIE X Aa σ tg R) X.xe s1) X.xe s
theorem qY7 {M:Model} {A:Around} {E:Value->Shared->Prop} {s:Shared} {b:Expr} {c:Addr} {u:Value} {o:Obj} {n:String} {vs:Array Value} {Q:Unit->Shared->Prop} (e:s.heap.get? c=some o) (d:o.cls=.type n) (f:o.data=.fields vs)
  (g:["enumerate","zip","dict_itemiterator","dict_reverseitemiterator","odict_iterator","itertools.zip_longest","itertools.pairwise"].contains n=false) (a:Q () s):wpAny M A (letOwnedTupleGo b (.ref c) u) Q E s:=by
 unfold letOwnedTupleGo;cases b <;> first
  | exact wpAny_pure a
  | (cases u <;> first
    | exact wpAny_pure a
    | (refine wpAny_bind (wpAny_load e ?_)
       rw [d,f];show wpAny M A (if (["enumerate","zip","dict_itemiterator","dict_reverseitemiterator","odict_iterator","itertools.zip_longest","itertools.pairwise"].contains n && vs[0]? == some (rawInt _))=true then _ else _) Q E s
       rw [if_neg (by intro h;rw [g,Bool.false_and] at h;cases h)]
       exact wpAny_pure a))
def Itl (K:PySem.W.Frag) (a:Addr):It:=
 ⟨fun i H=>∃ xs x,SqL K H a xs/\xs[i]?=some x,fun i H x H'=>H'=H/\∀ xs,SqL K H a xs->xs[i]?=some x,fun i H=>∃ xs,SqL K H a xs/\xs.length<=i⟩
def Itt (K:PySem.W.Frag) (a:Addr):It:=
 ⟨fun i H=>∃ xs x,SqT K H a xs/\xs[i]?=some x,fun i H x H'=>H'=H/\∀ xs,SqT K H a xs->xs[i]?=some x,fun i H=>∃ xs,SqT K H a xs/\xs.length<=i⟩
def Itr (lo:Int) (n:Nat):It:=⟨fun i _=>i<n,fun i H x H'=>H'=H/\x=.int (lo+i),fun i _=>n<=i⟩
theorem qU3 {P:Program} {w:World} {K:PySem.W.Frag} {tg:Expr} (a j:Addr):Turn P w K tg (Itl K a) [j] j (fun i h=>h.IsListIter j a i) where
 mem:=by simp
 obj:=fun i h f b g=>by
  have e:b=j:=by simpa using g
  subst e;obtain ⟨o,e,c,d⟩:=f;exact ⟨o,e,fun v z=>by rw [d] at z;cases z⟩
 keep:=fun i h q f k=>f.at fun o e=>k j (by simp) o e
 item:=by
  intro X hP hw hK hc i Aa s σ H E I n f r;subst hP hw hK;obtain ⟨xs,x,m,hx⟩:=r;obtain ⟨t,rv,p,hz⟩:=I.list m;obtain ⟨u,hu,ru⟩:=rv.get hx;obtain ⟨f0,y,f2,f3,f4,f5⟩:=n j (by simp)
  refine wpAny_pyNext_list_item f p.isList (x:=u) (by simpa using hu) fun q l sb=>?_
  have I1:Inv X Aa σ H { s with heap:=q }:=I.turned (t':=s.toks) (fun b o g e=>(sb.2 b g).trans e) f0 y f3 f4 f5;obtain ⟨o,e,c,d⟩:=id l;exact ⟨u,rfl,qY7 (s:={ s with heap:=q }) e c d (by decide) ⟨x,H,I1,ru,⟨rfl,fun ys hy=>by rw [I.list_inj hy m];exact hx⟩,l,fun b g=>(n b g).1⟩⟩
 done:=by
  intro X hP hw hK hc i Aa s σ H E I n f r;subst hP hw hK;obtain ⟨xs,m,hx⟩:=r;obtain ⟨t,rv,p,hz⟩:=I.list m;obtain ⟨f0,y,f2,f3,f4,f5⟩:=n j (by simp)
  have hl:=rv.length;exact wpAny_pyNext_list_end (I.ok.hd hc) f p.isList (by simp;lia) fun q eb=>⟨rfl,I.turned (t':=s.toks) (fun b o g e=>eb b o g e) f0 y f3 f4 f5⟩
 self:=fun _ _ _ _ _ f h=>wpAny_pyIter_listiter f h
theorem qSS {P:Program} {w:World} {K:PySem.W.Frag} {tg:Expr} (a l:Addr):Turn P w K tg (Itt K a) [l] l (fun i h=>h.IsTupleIter l a i) where
 mem:=by simp
 obj:=fun i h f b g=>by
  have e:b=l:=by simpa using g
  subst e;obtain ⟨o,e,c,d⟩:=f;exact ⟨o,e,fun v z=>by rw [d] at z;cases z⟩
 keep:=fun i h r f k=>f.at fun o e=>k l (by simp) o e
 item:=by
  intro X hP hw hK hc i Aa s σ H E I q f t;subst hP hw hK;obtain ⟨xs,x,n,hx⟩:=t;obtain ⟨j,rv,p,hz⟩:=I.tuple n;obtain ⟨u,hu,ru⟩:=rv.get hx;obtain ⟨f0,y,f2,f3,f4,f5⟩:=q l (by simp)
  refine wpAny_pyNext_tuple_item f (show s.heap.IsTuple a j.toArray from p) (x:=u) (by simpa using hu) fun r m sb=>?_
  have I1:Inv X Aa σ H { s with heap:=r }:=I.turned (t':=s.toks) (fun b o g e=>(sb.2 b g).trans e) f0 y f3 f4 f5;obtain ⟨o,e,c,d⟩:=id m;exact ⟨u,rfl,qY7 (s:={ s with heap:=r }) e c d (by decide) ⟨x,H,I1,ru,⟨rfl,fun ys hy=>by rw [I.tuple_inj hy n];exact hx⟩,m,fun b g=>(q b g).1⟩⟩
 done:=by
  intro X hP hw hK hc i Aa s σ H E I q f t;subst hP hw hK;obtain ⟨xs,n,hx⟩:=t;obtain ⟨j,rv,p,hz⟩:=I.tuple n;obtain ⟨f0,y,f2,f3,f4,f5⟩:=q l (by simp)
  have hl:=rv.length;exact wpAny_pyNext_tuple_end (I.ok.hd hc) f (show s.heap.IsTuple a j.toArray from p) (by simp;lia) fun r eb=>⟨rfl,I.turned (t':=s.toks) (fun b o g e=>eb b o g e) f0 y f3 f4 f5⟩
 self:=fun _ _ _ _ _ f h=>wpAny_pyIter_tupleiter f h
theorem qST {P:Program} {w:World} {K:PySem.W.Frag} {tg:Expr} (c:Addr) (lo:Int) (n:Nat):Turn P w K tg (Itr lo n) [c] c (fun i h=>IsRangeIter h c (lo+(i:Nat) * 1) ((n:Int) - (i:Nat)) 1) where
 mem:=by simp
 obj:=fun i h a b d=>by
  have e:b=c:=by simpa using d
  subst e;exact ⟨_,a,fun v z=>by
   have z':Data.fields _=Data.cell v:=z;cases z'⟩
 keep:=fun i h j a k=>k c (by simp) _ a
 item:=by
  intro X q r u hc i Aa s σ H E I g a l;subst q r u;obtain ⟨f0,m,f2,x,y,p⟩:=g c (by simp)
  have W:=Walks.range (prog:=X.prog) (w:=X.w) (I.ok.hd hc) c lo 1 n;refine W.item i s _ _ l a fun v j tk hv f kk=>?_;obtain ⟨t,rfl⟩:=hv;have I1:Inv X Aa σ H { s with heap:=j,toks:=tk }:=I.turned (fun b o d e=>kk b o (by simpa using d) e) f0 m x y p
  refine ⟨_,rfl,qY7 (s:={ s with heap:=j,toks:=tk }) (n:="range_iterator") f rfl rfl (by decide) ⟨.int (lo+i),H,I1,⟨t,?_⟩,⟨rfl,rfl⟩,f,fun b d=>(g b d).1⟩⟩
  rw [Int.mul_one]
 done:=by
  intro X q r u hc i Aa s σ H E I g a l;subst q r u;obtain ⟨f0,m,f2,x,y,p⟩:=g c (by simp)
  exact wpAny_pyNext_range_end (I.ok.hd hc) a (by have:n<=i:=l;lia) fun j eb=>⟨rfl,I.turned (t':=s.toks) (fun b o d e=>eb b o d e) f0 m x y p⟩
 self:=fun _ _ _ _ _ a h=>wpAny_pyIter_rangeiter a h
end L2
namespace L2
open PySem PySem.Spec PyProof.Rows
section
variable {X:Cx} {tg:Expr}
def qeV (K:PySem.W.Frag) (tl:TE):TI:=fun σ H R=>tl σ H fun x H1=>∃ a,x=.ref a/\(∃ xs,SqL K H1 a xs)/\R (Itl K a) H1
def iTup (K:PySem.W.Frag) (tl:TE):TI:=fun σ H R=>tl σ H fun x H1=>∃ a,x=.ref a/\(∃ xs,SqT K H1 a xs)/\R (Itt K a) H1
theorem qGM {l:Expr} {c:TE} (f:PE X l c):PI X tg l (qeV X.K c):=by
 intro d s σ H R I h;refine thn (f d s σ H _ I h) fun v s1 ⟨x,H1,I1,r1,q1⟩=>?_;obtain ⟨a,e,⟨m,j⟩,q⟩:=q1;subst e;cases r1;obtain ⟨i,n,p,k⟩:=I1.list j;refine wpAny_pyIter_list p.isList ?_;refine ⟨s1.heap.objs.size,[s1.heap.objs.size],_,_,H1,rfl,I1.kept (t':=s1.toks) fun b o e=>Heap.get?_push_of_some _ e,qU3 a _,⟨_,Heap.get?_push_size _ rfl,rfl,rfl⟩,fun b g=>?_,q⟩;have e:b=s1.heap.objs.size:=by simpa using g
 subst e;exact I1.fpOk (Nat.le_refl _) (I1.hok.fresh (Nat.le_refl _))
theorem qUZ {l:Expr} {d:TE} (g:PE X l d):PI X tg l (iTup X.K d):=by
 intro f s σ H R I h;refine thn (g f s σ H _ I h) fun v s1 ⟨x,H1,I1,r1,q1⟩=>?_;obtain ⟨a,e,⟨m,j⟩,q⟩:=q1;subst e;cases r1;obtain ⟨c,n,p,k⟩:=I1.tuple j;refine wpAny_pyIter_tuple (show s1.heap.IsTuple a c.toArray from p) ?_;refine ⟨s1.heap.objs.size,[s1.heap.objs.size],_,_,H1,rfl,I1.kept (t':=s1.toks) fun b o e=>Heap.get?_push_of_some _ e,qSS a _,⟨_,Heap.get?_push_size _ rfl,rfl,rfl⟩,fun b i=>?_,q⟩;have e:b=s1.heap.objs.size:=by simpa using i
 subst e;exact I1.fpOk (Nat.le_refl _) (I1.hok.fresh (Nat.le_refl _))
theorem range_it {Aa:List (Addr × Obj)} {σ:St} {H:Hp} {s:Shared} {R:It->Hp->Prop} {E:Value->Shared->Prop} {lo hi:Int} {t u v:Tok} {c:Nat} (I:Inv X Aa σ H s) (d : -(2 ^ 62)<=lo) (k:lo<2 ^ 62) (g : -(2 ^ 62)<=hi) (i:hi<2 ^ 62)
  (q:R (Itr lo (hi - lo).toNat) H):wpAny (model X.prog X.w) X.A (pyIter (.ref s.heap.objs.size)) (PIE X Aa σ tg R) E { s with heap:=s.heap.push { cls:=.type "range",data:=.fields #[.int lo t,.int hi u,.int 1 v] },toks:=c }:=by
 refine wpAny_pyIter_range (IsRange.new ..) (small_one d k g i) ?_;have a:Inv X Aa σ H { s with heap:=s.heap.push { cls:=.type "range",data:=.fields #[.int lo t,.int hi u,.int 1 v] },toks:=c }:=I.kept fun b o e=>Heap.get?_push_of_some _ e;refine ⟨(s.heap.push { cls:=.type "range",data:=.fields #[.int lo t,.int hi u,.int 1 v] }).objs.size,[(s.heap.push { cls:=.type "range",data:=.fields #[.int lo t,.int hi u,.int 1 v] }).objs.size],_,_,H,rfl,
  a.kept (t':=c) fun b o e=>Heap.get?_push_of_some _ e,qST _ lo (hi - lo).toNat,?_,fun b j=>?_,q⟩
 ·have f:lo+((0:Nat):Int) * 1=lo:=by simp
  have h:(((hi - lo).toNat:Nat):Int) - ((0:Nat):Int)=Builtin.Range.rangeSize lo hi 1:=by rw [rangeSize_one];split <;> lia
  show IsRangeIter _ _ (lo+((0:Nat):Int) * 1) ((((hi - lo).toNat:Nat):Int) - ((0:Nat):Int)) 1;rw [f,h];exact Heap.get?_push_size _ rfl
 ·have e:b=(s.heap.push { cls:=.type "range",data:=.fields #[.int lo t,.int hi u,.int 1 v] }).objs.size:=by simpa using j
  subst e;exact a.fpOk (Nat.le_refl _) (a.hok.fresh (Nat.le_refl _))
def qeU (ta:TA):TI:=fun σ H R=>ta σ H fun vs H1=>∃ j:Int,vs=[.int j]/\-(2 ^ 62)<=j/\j<2 ^ 62/\R (Itr 0 j.toNat) H1
theorem qC3 {a:Expr} {c:TA} {p b:Pos} (f:Gl X "range") (g:X.mg "range" = none) (l:PA X [a] c) (i:starEach [a] X.env=[(false,eval a X.env)]:=by rfl):PI X tg (.Call (.Name "range" p) [a] [] b) (qeU c):=by
 intro d s σ H R I h;refine Call_ (qMO I f g boot_range (PyProof.Rows.callWith_type1 (thn (l b d s σ H _ I h) fun us s1 ⟨vs,H1,I1,r1,q1⟩=>?_) i rfl));obtain ⟨j,e,q1,k,q⟩:=q1;subst e;cases r1 with
 | cons r rr=>
  cases rr;obtain ⟨t,rfl⟩:=r;exact call_range_1 (range_it I1 (by lia) (by lia) q1 k (by simpa using q))
def tFor (wi:TI) (g:TG) (tb:TS):TS:=fun D σ H=>wi σ H fun J H1=>∃ W:Nat->Nat->St->Hp->Prop,(∃ m,W 0 m σ H1)/\∀ i m σ H,W i m σ H->
 (J.stop i H/\D.nx σ H)\/(J.go i H/\∃ N:St->Hp->Prop,(∀ σ' H',N σ' H'->∃ m',m'<m/\W (i+1) m' σ' H')/\∀ x H',J.yld i H x H'->g x σ H' fun σ2 H2=>tb { D with nx:=N,ct:=N,bk:=D.nx } σ2 H2)
noncomputable def qPA (fp:List Addr) (h:Heap):List (Addr × Obj):=fp.filterMap fun b=>(h.get? b).map fun o=>(b,o)
theorem qG3 {a:List Addr} {h:Heap} {b:Addr} {o:Obj} (c:b ∈ a) (e:h.get? b=some o):(b,o) ∈ qPA a h:=List.mem_filterMap.mpr ⟨b,c,by rw [e];rfl⟩
theorem qV6 {a:List Addr} {h:Heap} {p:Addr × Obj} (c:p ∈ qPA a h):p.1 ∈ a/\h.get? p.1=some p.2:=by
 obtain ⟨b,f,e⟩:=List.mem_filterMap.mp c;cases q:h.get? b with
 | none=>rw [q] at e;cases e
 | some o=>
  rw [q] at e;have d:(b,o)=p:=Option.some.inj e;subst d;exact ⟨f,q⟩
theorem Inv.pinned {Aa:List (Addr × Obj)} {σ:St} {H:Hp} {s:Shared} {a:List Addr} (I:Inv X Aa σ H s) (h:∀ b ∈ a,FpOk X Aa H b) (k:∀ b ∈ a,∃ o,s.heap.get? b=some o/\∀ v,o.data ≠ .cell v):Inv X (Aa++qPA a s.heap) σ H s:=
 I.pins_of fun p j=>(List.mem_append.mp j).elim (fun z=>I.pin p (List.mem_append_right _ z)) fun z=>by
  obtain ⟨f,e⟩:=qV6 z;obtain ⟨l,g,i,_⟩:=h p.1 f;obtain ⟨o,c,d⟩:=k p.1 f;rw [e] at c;cases c;exact ⟨e,l,g,i,d⟩
theorem Inv.unpinned {Aa pl:List (Addr × Obj)} {σ:St} {H:Hp} {s:Shared} (I:Inv X (Aa++pl) σ H s):Inv X Aa σ H s:=I.pins_of fun p a=>I.pin p (List.mem_append_right _ (List.mem_append_left _ a))
theorem qFI {l:Expr} {p:List Stmt} {wi:TI} {g:TG} {tb:TS} {a3:Pos} (y:PassesOwn (model X.prog X.w) X.A X.env X.xe) (hc:X.calm=true) (hi:PI X tg l wi) (hg:PG X tg g) (a:PSs X p tb)
  (hs:∀ x,foldedSetIterable l X.env x=pure x:=by intro _;rfl):PS X (.For tg l p [] a3) (tFor wi g tb):=by
 intro t s σ H D I h;refine wpAny_For (thn (hi t s σ H _ I h) fun v s1 h1=>thn h1 fun a6 s2 h2=>?_) hs;obtain ⟨it,fp,tn,J,H2,e,I2,T,a4,f2,W,⟨m0,w0⟩,a1⟩:=h2;subst e
 -- what stays true of the iterator's objects through the loop
 have c:∀ {H':Hp},(∀ b ∈ fp,H' b=none)->∀ b ∈ fp,FpOk X t H' b:=fun hn b a=>⟨hn b a,(f2 b a).2⟩;refine codeAny_forLoop_any (fun n s'=>∃ i σ' H',Inv X t σ' H' s'/\tn i s'.heap/\(∀ b ∈ fp,H' b=none)/\W i n σ' H') ?_ m0 ⟨0,σ,H2,I2,a4,fun b a=>(f2 b a).1,w0⟩;rintro n s3 ⟨i,σ3,H3,I3,st3,fr3,w3⟩;rcases a1 i n σ3 H3 w3 with ⟨a2,qn⟩ | ⟨go,N,hN,a0⟩
 ·refine wpAny_passesOwn y (thn (T.done X rfl rfl rfl hc i t s3 σ3 H3 X.xe I3 (c fr3) st3 a2) fun r s4 ⟨hr,I4⟩=>?_);subst hr;exact wpAny_execs_nil ⟨σ3,H3,I4,qn⟩
 ·refine wpAny_passesOwn y (thn (T.item X rfl rfl rfl hc i t s3 σ3 H3 X.xe I3 (c fr3) st3 go) fun r s4 ⟨u,hr,h4⟩=>?_);subst hr;refine wpAny_passesOwn y (thn h4 fun _ s5 ⟨x,H5,I5,r5,y5,st5,fr5⟩=>?_);have a5:=I5.pinned (c fr5) (T.obj _ _ st5);refine wpAny_passesOwn y (thn (hg _ s5 σ3 H5 x u _ a5 r5 (a0 x H5 y5)) fun _ s6 ⟨σ6,H6,I6,q6⟩=>?_);refine wpAny_passesOwn y (thn (a _ s6 σ6 H6 _ I6 q6) fun f s7 q=>?_);have k:∀ {σ7:St} {H7:Hp},Inv X (t++qPA fp s5.heap) σ7 H7 s7->N σ7 H7->∃ m,m<n/\∃ i σ' H',Inv X t σ' H' s7/\tn i s7.heap/\(∀ b ∈ fp,H' b=none)/\W i m σ' H':=fun {σ7 H7} j z=>by
   obtain ⟨m',hm,w7⟩:=hN σ7 H7 z;refine ⟨m',hm,i+1,σ7,H7,j.unpinned,T.keep _ _ _ st5 fun b a o e=>(j.pin (b,o) (List.mem_append_right _ (List.mem_append_right _ (qG3 a e)))).1,fun b a=>?_,w7⟩;obtain ⟨o,e,d⟩:=T.obj _ _ st5 b a;exact (j.pin (b,o) (List.mem_append_right _ (List.mem_append_right _ (qG3 a e)))).2.1
  cases f with
  | next=>obtain ⟨σ7,H7,j,z⟩:=q;exact k j z
  | cont=>obtain ⟨σ7,H7,j,z⟩:=q;exact k j z
  | brk=>obtain ⟨σ7,H7,j,q⟩:=q;exact ⟨σ7,H7,j.unpinned,q⟩
  | ret v=>obtain ⟨x7,σ7,H7,j,r7,q⟩:=q;exact ⟨x7,σ7,H7,j.unpinned,r7,q⟩
end
abbrev ForG (I:It) (g:TG) (tb:TS) (D:Ends) (σ:St) (H:Hp):Prop:=∃ W:Nat->Nat->St->Hp->Prop,(∃ m,W 0 m σ H)/\∀ i m σ H,W i m σ H->(I.stop i H/\D.nx σ H)\/(I.go i H/\∃ N:St->Hp->Prop,(∀ σ' H',N σ' H'->∃ m',m'<m/\W (i+1) m' σ' H')/\∀ x H',I.yld i H x H'->g x σ H' fun σ2 H2=>tb { D with nx:=N,ct:=N,bk:=D.nx } σ2 H2)
theorem qSE {K:PySem.W.Frag} {a:Addr} {xs:List V} {g:TG} {c:TS} {D:Ends} {σ:St} {H:Hp} (Pv:Nat->St->Hp->Prop) (d:Pv 0 σ H) (k:∀ i σ H,i<=xs.length->Pv i σ H->SqL K H a xs)
  (f:∀ i x σ H,xs[i]?=some x->Pv i σ H->g x σ H fun σ2 H2=>c { D with nx:=Pv (i+1),ct:=Pv (i+1),bk:=D.nx } σ2 H2) (j:∀ σ H,Pv xs.length σ H->D.nx σ H) :
  ForG (Itl K a) g c D σ H:=by
 refine ⟨fun i m σ H=>m=xs.length - i/\i<=xs.length/\Pv i σ H,⟨xs.length,by simp,Nat.zero_le _,d⟩,?_⟩
 rintro i m σ H ⟨rfl,hi,p⟩;have q:=k i σ H hi p;by_cases b:i<xs.length
 ·refine .inr ⟨⟨xs,xs[i],q,by simp [b]⟩,Pv (i+1),fun σ' l h=>⟨xs.length - (i+1),by lia,rfl,b,h⟩,fun x l y=>?_⟩
  obtain ⟨e,y⟩:=y;subst e;exact f i x σ _ (y xs q) p
 ·have e:i=xs.length:=by lia
  subst e;exact .inl ⟨⟨xs,q,Nat.le_refl _⟩,j σ H p⟩
theorem qbG {K:PySem.W.Frag} {a:Addr} {xs:List V} {g:TG} {c:TS} {D:Ends} {σ:St} {H:Hp} (Pv:Nat->St->Hp->Prop) (d:Pv 0 σ H) (k:∀ i σ H,i<=xs.length->Pv i σ H->SqT K H a xs)
  (f:∀ i x σ H,xs[i]?=some x->Pv i σ H->g x σ H fun σ2 H2=>c { D with nx:=Pv (i+1),ct:=Pv (i+1),bk:=D.nx } σ2 H2) (j:∀ σ H,Pv xs.length σ H->D.nx σ H) :
  ForG (Itt K a) g c D σ H:=by
 refine ⟨fun i m σ H=>m=xs.length - i/\i<=xs.length/\Pv i σ H,⟨xs.length,by simp,Nat.zero_le _,d⟩,?_⟩
 rintro i m σ H ⟨rfl,hi,p⟩;have q:=k i σ H hi p;by_cases b:i<xs.length
 ·refine .inr ⟨⟨xs,xs[i],q,by simp [b]⟩,Pv (i+1),fun σ' l h=>⟨xs.length - (i+1),by lia,rfl,b,h⟩,fun x l y=>?_⟩
  obtain ⟨e,y⟩:=y;subst e;exact f i x σ _ (y xs q) p
 ·have e:i=xs.length:=by lia
  subst e;exact .inl ⟨⟨xs,q,Nat.le_refl _⟩,j σ H p⟩
theorem qFM {lo:Int} {n:Nat} {g:TG} {b:TS} {D:Ends} {σ:St} {H:Hp} (Pv:Nat->St->Hp->Prop) (c:Pv 0 σ H)
  (d:∀ i σ H,i<n->Pv i σ H->g (.int (lo+i)) σ H fun σ2 H2=>b { D with nx:=Pv (i+1),ct:=Pv (i+1),bk:=D.nx } σ2 H2) (h:∀ σ H,Pv n σ H->D.nx σ H) :
  ForG (Itr lo n) g b D σ H:=by
 refine ⟨fun i m σ H=>m=n - i/\i<=n/\Pv i σ H,⟨n,by simp,Nat.zero_le _,c⟩,?_⟩
 rintro i m σ H ⟨rfl,hi,p⟩;by_cases a:i<n
 ·refine .inr ⟨a,Pv (i+1),fun σ' j f=>⟨n - (i+1),by lia,rfl,a,f⟩,fun x j y=>?_⟩
  obtain ⟨e,y⟩:=y;subst e y;exact d i σ _ a p
 ·have e:i=n:=by lia
  subst e;exact .inl ⟨Nat.le_refl _,h σ H p⟩
end L2
namespace L2
open PySem PySem.Spec PyProof.Rows
abbrev R2:=V->V->Hp->VK->Prop
def OpR (X:Cx) (f:Value->Value->Sem Value) (r:R2):Prop:=
 ∀ (Aa:List (Addr × Obj)) (s:Shared) (σ:St) (H:Hp) (x y:V) (v u:Value) (Q:VK),Inv X Aa σ H s->RelV x v->RelV y u->r x y H Q->
  wpAny (model X.prog X.w) X.A (f v u) (EP X Aa σ Q) X.xe s
def UnR (X:Cx) (f:Value->Sem Value) (r:V->Hp->VK->Prop):Prop:=
 ∀ (Aa:List (Addr × Obj)) (s:Shared) (σ:St) (H:Hp) (x:V) (v:Value) (Q:VK),Inv X Aa σ H s->RelV x v->r x H Q->
  wpAny (model X.prog X.w) X.A (f v) (EP X Aa σ Q) X.xe s
def qD1 (X:Cx) (f:Value) (r:List V->Hp->VK->Prop):Prop:=
 ∀ (Aa:List (Addr × Obj)) (s:Shared) (σ:St) (H:Hp) (xs:List V) (us:List Value) (Q:VK),Inv X Aa σ H s->Vals xs us->r xs H Q->
  wpAny (model X.prog X.w) X.A (call f us) (EP X Aa σ Q) X.xe s
def TruR (X:Cx) (r:V->Hp->(Bool->Hp->Prop)->Prop):Prop:=
 ∀ (Aa:List (Addr × Obj)) (s:Shared) (σ:St) (H:Hp) (x:V) (v:Value) (Q:Bool->Hp->Prop),Inv X Aa σ H s->RelV x v->r x H Q->
  wpAny (model X.prog X.w) X.A (truthy v) (TP X Aa σ Q) X.xe s
def tOp (r:R2) (ta tb:TE):TE:=fun σ H Q=>ta σ H fun x H1=>tb σ H1 fun y H2=>r x y H2 Q
def tUn (r:V->Hp->VK->Prop) (ta:TE):TE:=fun σ H Q=>ta σ H fun x H1=>r x H1 Q
def rI (C:Int->Int->Prop) (g:Int->Int->V):R2:=fun x y H Q=>∃ i j,x=.int i/\y=.int j/\C i j/\Q (g i j) H
def rI0 (g:Int->Int->V):R2:=fun x y H Q=>∃ i j,x=.int i/\y=.int j/\Q (g i j) H
def rU (g:Int->V):V->Hp->VK->Prop:=fun x H Q=>∃ i,x=.int i/\Q (g i) H
section
variable {X:Cx} {a b c:Expr} {ta tb tc:TE} {pos:Pos}
theorem binT (d:PE X a ta) (c:PE X b tb) {Aa:List (Addr × Obj)} {s:Shared} {σ:St} {H:Hp} {R:V->V->Hp->Prop} (I:Inv X Aa σ H s)
  (h:ta σ H fun x H1=>tb σ H1 fun y H2=>R x y H2) {Q:Value->Shared->Prop} {f:Value->Value->Sem Value}
  (e:∀ v u s2 x y H2,Inv X Aa σ H2 s2->RelV x v->RelV y u->R x y H2->wpAny (model X.prog X.w) X.A (f v u) Q X.xe s2) :
  wpAny (model X.prog X.w) X.A (eval a X.env) (fun v s₁=>wpAny (model X.prog X.w) X.A (eval b X.env) (fun u s₂=>wpAny (model X.prog X.w) X.A (f v u) Q X.xe s₂) X.xe s₁) X.xe s:=by
 refine thn (d Aa s σ H _ I h) fun v s1 ⟨x,H1,I1,r1,q1⟩=>?_;refine thn (c Aa s1 σ H1 _ I1 q1) fun u s2 ⟨y,H2,I2,r2,q2⟩=>?_;exact e v u s2 x y H2 I2 r1 r2 q2
theorem qAR {c:Operator} {r:R2} (e:OpR X (binaryOp c) r) (m:PE X a ta) (i:PE X b tb):PE X (.BinOp a c b pos) (tOp r ta tb):=by
 intro d s σ H Q I h;exact wpAny_BinOp (binT m i I h fun v u g x y l j f k q=>e d g σ l x y v u Q j f k q)
theorem qT0 {b:UnaryOp} {r:V->Hp->VK->Prop} (d:UnR X (unaryOp b) r) (e:PE X a ta):PE X (.UnaryOp b a pos) (tUn r ta):=by
 intro c s σ H Q I h;exact UnaryOp_ (thn (e c s σ H _ I h) fun v s1 ⟨x,H1,I1,r1,q1⟩=>d c s1 σ H1 x v Q I1 r1 q1)
theorem opI {f:Value->Value->Sem Value} {C:Int->Int->Prop} {g:Int->Int->Int}
  (a:∀ (i j:Int) (t u:Tok) (s:Shared) (Q:Value->Shared->Prop) (E:Value->Shared->Prop),C i j->Q (.int (g i j) s.toks) { s with toks:=s.toks+1 }->wpAny (model X.prog X.w) X.A (f (.int i t) (.int j u)) Q E s) :
  OpR X f (rI C fun i j=>.int (g i j)):=by
 intro k s σ H x y v u Q I d e h;obtain ⟨i,j,rfl,rfl,b,q⟩:=h;obtain ⟨t,rfl⟩:=d;obtain ⟨c,rfl⟩:=e;exact a i j t c s _ _ b ⟨.int (g i j),H,I.tok _,⟨_,rfl⟩,q⟩
theorem opI0 {f:Value->Value->Sem Value} {g:Int->Int->Int}
  (a:∀ (i j:Int) (t u:Tok) (s:Shared) (Q:Value->Shared->Prop) (E:Value->Shared->Prop),Q (.int (g i j) s.toks) { s with toks:=s.toks+1 }->wpAny (model X.prog X.w) X.A (f (.int i t) (.int j u)) Q E s) :
  OpR X f (rI0 fun i j=>.int (g i j)):=by
 intro e s σ H x y v u Q I c d h;obtain ⟨i,j,rfl,rfl,q⟩:=h;obtain ⟨t,rfl⟩:=c;obtain ⟨b,rfl⟩:=d;exact a i j t b s _ _ ⟨.int (g i j),H,I.tok _,⟨_,rfl⟩,q⟩
theorem opB0 {f:Value->Value->Sem Value} {g:Int->Int->Bool}
  (a:∀ (i j:Int) (t u:Tok) (s:Shared) (Q:Value->Shared->Prop) (E:Value->Shared->Prop),Q (.bool (g i j)) s->wpAny (model X.prog X.w) X.A (f (.int i t) (.int j u)) Q E s) :
  OpR X f (rI0 fun i j=>.bl (g i j)):=by
 intro e s σ H x y v u Q I c d h;obtain ⟨i,j,rfl,rfl,q⟩:=h;obtain ⟨t,rfl⟩:=c;obtain ⟨b,rfl⟩:=d;exact a i j t b s _ _ ⟨.bl (g i j),H,I,rfl,q⟩
def CDiv (i j:Int):Prop:=0<j/\j<1073741824
def CPow (i j:Int):Prop:=0<=j/\j<=1000000/\i.natAbs<2 ^ 64
def CMul (i j:Int):Prop:=(-(2 ^ 64)<i/\i<2 ^ 64)\/(-(2 ^ 64)<j/\j<2 ^ 64)
theorem CMul.ok {i j:Int} (h:CMul i j):IntMulOk i j:=by
 rcases h with ⟨a,b⟩ | ⟨a,b⟩
 ·exact .of_left (intBits_le_64 a b)
 ·exact .of_right (intBits_le_64 a b)
theorem qD8:OpR X (binaryOp .Add) (rI0 fun i j=>.int (i+j)):=opI0 fun _ _ _ _ _ _ _ q=>add_int q
theorem qEP:OpR X (binaryOp .Sub) (rI0 fun i j=>.int (i - j)):=opI0 fun _ _ _ _ _ _ _ q=>sub_int q
theorem qMM:OpR X (binaryOp .Mult) (rI CMul fun i j=>.int (i * j)):=opI fun _ _ _ _ _ _ _ a q=>mul_int q a.ok
theorem qNO:OpR X (binaryOp .FloorDiv) (rI CDiv fun i j=>.int (i / j)):=opI fun i j _ _ _ _ _ a q=>by
 have b:(0:Int)<j:=a.1;have c:j<1073741824:=a.2;exact floordiv_int (by lia) (by rw [Int.fdiv_eq_ediv_of_nonneg i (by lia)];exact q) (.inl (PyProof.noPylong_small (by lia)))
theorem qHL:OpR X (binaryOp .Mod) (rI (fun _ j=>0<j) fun i j=>.int (i % j)):=opI fun i j _ _ _ _ _ a q=>by
 have b:(0:Int)<j:=a;exact mod_int' (by lia) (by rw [Int.fmod_eq_emod_of_nonneg i (by lia)];exact q)
theorem qd5:OpR X (binaryOp .Pow) (rI CPow fun i j=>.int (i ^ j.toNat)):=opI fun _ _ _ _ _ _ _ a q=>pow_int_small a.1 a.2.1 a.2.2 q
theorem unI {f:Value->Sem Value} {g:Int->Int}
  (a:∀ (i:Int) (t:Tok) (s:Shared) (Q:Value->Shared->Prop) (E:Value->Shared->Prop),Q (.int (g i) s.toks) { s with toks:=s.toks+1 }->wpAny (model X.prog X.w) X.A (f (.int i t)) Q E s) :
  UnR X f (rU fun i=>.int (g i)):=by
 intro c s σ H x v Q I b h;obtain ⟨i,rfl,q⟩:=h;obtain ⟨t,rfl⟩:=b;exact a i t s _ _ ⟨.int (g i),H,I.tok _,⟨_,rfl⟩,q⟩
theorem qMD:UnR X (unaryOp .USub) (rU fun i=>.int (-i)):=unI fun _ _ _ _ _ q=>neg_int q
end
noncomputable def scal:V->V->Bool
 | .non,.non=>true | .non,.int _=>true | .int _,.non=>true | .non,.bl _=>true | .bl _,.non=>true | .non,.str _=>true | .str _,.non=>true
 | .int _,.int _=>true | .bl _,.bl _=>true | .str _,.str _=>true | .byt _,.byt _=>true
 | .int _,.str _=>true | .str _,.int _=>true | .bl _,.str _=>true | .str _,.bl _=>true
 | _,_=>false
def rEq:R2:=fun x y H Q=>scal x y=true/\Q (.bl (decide (x=y))) H
def rNe:R2:=fun x y H Q=>scal x y=true/\Q (.bl (!decide (x=y))) H
theorem qWC {i j:Int}:decide (V.int i=V.int j)=(i == j):=by
 rw [Bool.eq_iff_iff];simp
theorem qZJ {i j:Bool}:decide (V.bl i=V.bl j)=(i == j):=by
 rw [Bool.eq_iff_iff];simp
theorem qWB {i j:Str}:decide (V.str i=V.str j)=(i == j):=by
 rw [Bool.eq_iff_iff];simp
theorem qWD {i j:Array UInt8}:decide (V.byt i=V.byt j)=(i.toList == j.toList):=by
 rw [Bool.eq_iff_iff];cases i;cases j;simp
section
variable {X:Cx} {a b c:Expr} {ta tb tc:TE} {pos:Pos}
theorem qBE {Aa:List (Addr × Obj)} {σ:St} {H:Hp} {s:Shared} {Q:VK} {k a:Bool} (I:Inv X Aa σ H s) (q:Q (.bl k) H) (e:k=a):EP X Aa σ Q (.bool a) s:=by
 subst e;exact ⟨.bl k,H,I,rfl,q⟩
theorem qC5:OpR X (compareOp .Eq) rEq:=by
 intro e s σ H x y v u Q I d a h;obtain ⟨c,q⟩:=h;cases x with
 | non=>
  cases d;cases y with
  | non=>cases a;exact PySem.EqNone.eq_none_none (qBE I q (by simp))
  | bl j=>cases a;exact PySem.EqNone.eq_none_bool (qBE I q (by simp))
  | int j=>obtain ⟨b,rfl⟩:=a;exact PySem.EqNone.eq_none_int (qBE I q (by simp))
  | str j=>obtain ⟨b,rfl⟩:=a;exact PySem.EqNone.eq_none_str (qBE I q (by simp))
  | _=>exact absurd (show false=true from c) Bool.false_ne_true
 | bl i=>
  cases d;cases y with
  | non=>cases a;exact PySem.EqNone.eq_bool_none (qBE I q (by simp))
  | bl j=>cases a;exact eq_bool (qBE I q qZJ)
  | str j=>obtain ⟨b,rfl⟩:=a;exact PySem.EqMixed.eq_bool_str (qBE I q (by simp))
  | _=>exact absurd (show false=true from c) Bool.false_ne_true
 | int i=>
  obtain ⟨t,rfl⟩:=d;cases y with
  | non=>cases a;exact PySem.EqNone.eq_int_none (qBE I q (by simp))
  | int j=>obtain ⟨b,rfl⟩:=a;exact eq_int (qBE I q qWC)
  | str j=>obtain ⟨b,rfl⟩:=a;exact PySem.EqMixed.eq_int_str (qBE I q (by simp))
  | _=>exact absurd (show false=true from c) Bool.false_ne_true
 | str i=>
  obtain ⟨t,rfl⟩:=d;cases y with
  | non=>cases a;exact PySem.EqNone.eq_str_none (qBE I q (by simp))
  | bl j=>cases a;exact PySem.EqMixed.eq_str_bool (qBE I q (by simp))
  | int j=>obtain ⟨b,rfl⟩:=a;exact PySem.EqMixed.eq_str_int (qBE I q (by simp))
  | str j=>obtain ⟨b,rfl⟩:=a;exact eq_str (qBE I q qWB)
  | _=>exact absurd (show false=true from c) Bool.false_ne_true
 | byt i=>
  obtain ⟨t,rfl⟩:=d;cases y with
  | byt j=>obtain ⟨b,rfl⟩:=a;exact PySem.W.eq_bytes (qBE I q qWD)
  | _=>exact absurd (show false=true from c) Bool.false_ne_true
 | _=>cases y <;> exact absurd (show false=true from c) Bool.false_ne_true
theorem qd6:OpR X (compareOp .NotEq) rNe:=by
 intro e s σ H x y v u Q I d a h;obtain ⟨c,q⟩:=h;cases x with
 | non=>
  cases d;cases y with
  | non=>cases a;exact PySem.EqNone.ne_none_none (qBE I q (by simp))
  | bl j=>cases a;exact PySem.EqNone.ne_none_bool (qBE I q (by simp))
  | int j=>obtain ⟨b,rfl⟩:=a;exact PySem.EqNone.ne_none_int (qBE I q (by simp))
  | str j=>obtain ⟨b,rfl⟩:=a;exact PySem.EqNone.ne_none_str (qBE I q (by simp))
  | _=>exact absurd (show false=true from c) Bool.false_ne_true
 | bl i=>
  cases d;cases y with
  | non=>cases a;exact PySem.EqNone.ne_bool_none (qBE I q (by simp))
  | bl j=>cases a;exact ne_bool (qBE I q (congrArg not qZJ))
  | str j=>obtain ⟨b,rfl⟩:=a;exact PySem.EqMixed.ne_bool_str (qBE I q (by simp))
  | _=>exact absurd (show false=true from c) Bool.false_ne_true
 | int i=>
  obtain ⟨t,rfl⟩:=d;cases y with
  | non=>cases a;exact PySem.EqNone.ne_int_none (qBE I q (by simp))
  | int j=>obtain ⟨b,rfl⟩:=a;exact ne_int (qBE I q (congrArg not qWC))
  | str j=>obtain ⟨b,rfl⟩:=a;exact PySem.EqMixed.ne_int_str (qBE I q (by simp))
  | _=>exact absurd (show false=true from c) Bool.false_ne_true
 | str i=>
  obtain ⟨t,rfl⟩:=d;cases y with
  | non=>cases a;exact PySem.EqNone.ne_str_none (qBE I q (by simp))
  | bl j=>cases a;exact PySem.EqMixed.ne_str_bool (qBE I q (by simp))
  | int j=>obtain ⟨b,rfl⟩:=a;exact PySem.EqMixed.ne_str_int (qBE I q (by simp))
  | str j=>obtain ⟨b,rfl⟩:=a;exact ne_str (qBE I q (congrArg not qWB))
  | _=>exact absurd (show false=true from c) Bool.false_ne_true
 | byt i=>
  obtain ⟨t,rfl⟩:=d;cases y with
  | byt j=>obtain ⟨b,rfl⟩:=a;exact PySem.W.ne_bytes (qBE I q (congrArg not qWD))
  | _=>exact absurd (show false=true from c) Bool.false_ne_true
 | _=>cases y <;> exact absurd (show false=true from c) Bool.false_ne_true
theorem qNM:OpR X (compareOp .Lt) (rI0 fun i j=>.bl (decide (i<j))):=opB0 fun _ _ _ _ _ _ _ q=>lt_int q
theorem qQR:OpR X (compareOp .LtE) (rI0 fun i j=>.bl (decide (i<=j))):=opB0 fun _ _ _ _ _ _ _ q=>le_int q
theorem qNN:OpR X (compareOp .Gt) (rI0 fun i j=>.bl (decide (j<i))):=opB0 fun _ _ _ _ _ _ _ q=>gt_int q
theorem qXV:OpR X (compareOp .GtE) (rI0 fun i j=>.bl (decide (j<=i))):=opB0 fun _ _ _ _ _ _ _ q=>ge_int q
theorem qAH (b:Expr) {a:CmpOp} (h:a ≠ .In:=by decide) (e:a ≠ .NotIn:=by decide):behindInMarks a b=false:=by
 have d:(a == CmpOp.In)=false:=by cases a <;> first | rfl | exact absurd rfl h
 have c:(a == CmpOp.NotIn)=false:=by cases a <;> first | rfl | exact absurd rfl e
 cases b <;> simp [behindInMarks,d,c]
theorem qBF {c:CmpOp} {r:R2} (f:OpR X (compareOp c) r) (n:PE X a ta) (j:PE X b tb) (e:behindInMarks c b=false):PE X (.Compare a [c] [b] pos) (tOp r ta tb):=by
 intro d s σ H Q I h;exact wpAny_Compare1 (binT n j I h fun v u i x y m k g l q=>f d i σ m x y v u Q k g l q) e
def qZW (t:TE):TT:=fun σ H Q=>t σ H fun x H'=>∃ k,x=.bl k/\Q k H'
theorem qAD {f:CmpOp} {r:R2} (i:OpR X (compareOp f) r) (l:PE X a ta) (j:PE X b tb) (g:behindInMarks f b=false):PT X (.Compare a [f] [b] pos) (qZW (tOp r ta tb)):=by
 intro d s σ H Q I h;refine wpAny_isTrue_Compare1 (thn (l d s σ H _ I h) fun v s1 ⟨x,H1,I1,r1,q1⟩=>thn (j d s1 σ H1 _ I1 q1) fun u s2 ⟨y,H2,I2,r2,q2⟩=>
  thn (i d s2 σ H2 x y v u _ I2 r1 r2 q2) fun c s3 ⟨z,H3,I3,r3,k,e,q3⟩=>?_) g
 subst e;cases r3;exact wpAny_truthy_bool ⟨H3,I3,q3⟩
def qYT (r r':R2) (ta tb tc:TE):TE:=fun σ H Q=>ta σ H fun x H1=>tb σ H1 fun y H2=>r x y H2 fun z H3=>∃ k,z=.bl k/\
 (if k=true then tc σ H3 fun w' H4=>r' y w' H4 Q else Q (.bl false) H3)
theorem qKI {j f:CmpOp} {r l:R2} (o:OpR X (compareOp j) r) (i:OpR X (compareOp f) l) (q:PE X a ta) (p:PE X b tb) (m:PE X c tc)
  (n:lastMarks [j,f] [b,c]=false:=by with_unfolding_all rfl):PE X (.Compare a [j,f] [b,c] pos) (qYT r l ta tb tc):=by
 intro g s σ H Q I h;refine Compare_chain (thn (q g s σ H _ I h) fun v s1 ⟨x,H1,I1,r1,q1⟩=>chain_link (thn (p g s1 σ H1 _ I1 q1) fun u s2 ⟨y,H2,I2,r2,q2⟩=>
  thn (o g s2 σ H2 x y v u _ I2 r1 r2 q2) fun d s3 ⟨z,H3,I3,r3,k,e,q3⟩=>?_)) n
 subst e;cases r3;refine wpAny_truthy_bool ?_;cases k with
 | false=>exact ite_ff ⟨.bl false,H3,I3,rfl,q3⟩
 | true=>exact ite_tt (chain_last (thn (m g s3 σ H3 _ I3 q3) fun w' s4 ⟨z',H4,I4,r4,q4⟩=>i g s4 σ H4 y z' u w' Q I4 r2 r4 q4))
theorem qXO {j f:CmpOp} {r l:R2} (p:OpR X (compareOp j) r) (i:OpR X (compareOp f) l) (w:PE X a ta) (t:PE X b tb) (n:PE X c tc)
  (o:lastMarks [j,f] [b,c]=false:=by with_unfolding_all rfl):PT X (.Compare a [j,f] [b,c] pos) (qZW (qYT r l ta tb tc)):=by
 intro g s σ H Q I h;refine isTrue_chain (thn (w g s σ H _ I h) fun v s1 ⟨x,H1,I1,r1,q1⟩=>test_link (thn (t g s1 σ H1 _ I1 q1) fun u s2 ⟨y,H2,I2,r2,q2⟩=>
  thn (p g s2 σ H2 x y v u _ I2 r1 r2 q2) fun d s3 ⟨z,H3,I3,r3,k,e,q3⟩=>?_)) o
 subst e;cases r3;refine wpAny_truthy_bool ?_;cases k with
 | false=>
  obtain ⟨k',m,q⟩:=q3;cases m;exact ite_ff ⟨H3,I3,q⟩
 | true=>
  refine ite_tt (test_last (thn (n g s3 σ H3 _ I3 q3) fun w' s4 ⟨z',H4,I4,r4,q4⟩=>thn (i g s4 σ H4 y z' u w' _ I4 r2 r4 q4) fun d' s5 ⟨z2,H5,I5,r5,k2,e2,q5⟩=>?_));subst e2;cases r5;exact wpAny_truthy_bool ⟨H5,I5,q5⟩
def TruV (K:PySem.W.Frag) (x:V) (H:Hp) (k:Bool):Prop:=
 match x with
 | .non=>k=false
 | .bl b=>k=b
 | .int i=>k=(i != 0)
 | .str y=>y.length<=sizeLine/\k=((y.length:Int) != 0)
 | .byt y=>y.size<=sizeLine/\k=((y.size:Int) != 0)
 | .ref p=>(∃ xs,SqL K H p xs/\k=!xs.isEmpty)\/(∃ xs,SqT K H p xs/\k=!xs.isEmpty)\/∃ Ae,H p=some (.dK Ae)/\k=!Ae.isEmpty
 | _=>False
theorem qTA {κ:Type} {Ae:List (κ × V)} {vs:List (κ × Value)} (r:KV Ae vs):(!vs.isEmpty)=!Ae.isEmpty:=by
 cases r <;> rfl
theorem qMP {xs:List V} {a:List Value} (r:Vals xs a):(!a.toArray.isEmpty)=!xs.isEmpty:=by
 cases r <;> simp
theorem qLA:(sizeLine:Nat)<2 ^ 63:=by rw [sizeLine_eq];decide
theorem qcC:TruR X (fun x H Q=>∃ k,TruV X.K x H k/\Q k H):=by
 intro z s σ H x v Q I d h;obtain ⟨k,e,q⟩:=h;have hl:=qLA;have hs:sizeLine=16777216:=sizeLine_eq;cases x with
 | non=>
  cases d;have a:k=false:=e;subst a;exact truthy_none ⟨H,I,q⟩
 | bl b=>
  cases d;have a:k=b:=e;subst a;exact wpAny_truthy_bool ⟨H,I,q⟩
 | int i=>
  obtain ⟨t,rfl⟩:=d;have a:k=(i != 0):=e;subst a;exact PySem.P.truthy_int ⟨H,I,q⟩
 | str y=>
  obtain ⟨t,rfl⟩:=d;obtain ⟨u,a⟩:y.length<=sizeLine/\k=((y.length:Int) != 0):=e;subst a;exact PySem.P.truthy_str (by lia) ⟨H,I.tok _,q⟩
 | byt y=>
  obtain ⟨t,rfl⟩:=d;obtain ⟨u,a⟩:y.size<=sizeLine/\k=((y.size:Int) != 0):=e;subst a;exact PySem.W.truthy_bytes (by lia) ⟨H,I.tok _,q⟩
 | ref p=>
  cases d;have a:(∃ xs,SqL X.K H p xs/\k=!xs.isEmpty)\/(∃ xs,SqT X.K H p xs/\k=!xs.isEmpty)\/∃ Ae,H p=some (.dK Ae)/\k=!Ae.isEmpty:=e;rcases a with ⟨xs,f,a⟩ | ⟨xs,f,a⟩ | ⟨Ae,f,a⟩
  ·subst a;obtain ⟨l,r,j,n⟩:=I.list f;have c:=r.length;exact wpAny_truthy_list j.isList (by simp only [List.size_toArray];lia) ⟨H,I.tok _,by rw [qMP r];exact q⟩
  ·subst a;obtain ⟨l,r,j,n⟩:=I.tuple f;have c:=r.length;exact truthy_tuple j (by simp only [List.size_toArray];lia) ⟨H,I.tok _,by rw [qMP r];exact q⟩
  ·subst a;obtain ⟨n,o,g,r,m⟩:Ae.length<=sizeLine/\(p == sysModules)=false/\∃ g,KV Ae g/\s.heap.DictOf (qCJ X.prog X.w) p g:=I.hok p _ f;have c:Ae.length=g.length:=Paired.length r;exact wpAny_truthy_dict o m (by lia) ⟨H,I.tok _,by rw [qTA r];exact q⟩
 | _=>exact (show False from e).elim
theorem qNJ (c:PE X a ta) (d:∀ whole,isTrue a X.env whole=(do let v <- whole;standAt a.pos;holding [v] (truthy v))) :
  PT X a (fun σ H Q=>ta σ H fun x H'=>∃ k,TruV X.K x H' k/\Q k H'):=by
 intro b s σ H Q I h;exact isTrue_plain (thn (c b s σ H _ I h) fun v s1 ⟨x,H1,I1,r1,q1⟩=>qcC b s1 σ H1 x v Q I1 r1 q1) (d _)
theorem qDO:OpR X (binaryOp .Add) (fun x y H Q=>∃ i j,x=.str i/\y=.str j/\i.length+j.length<=sizeLine/\Q (.str (i++j)) H):=by
 intro e s σ H x y v u Q I c d h;obtain ⟨i,j,rfl,rfl,a,q⟩:=h;obtain ⟨t,rfl⟩:=c;obtain ⟨b,rfl⟩:=d;exact add_str (fun b f=>⟨.str (i++j),H,I.tok _,⟨_,rfl⟩,q⟩) a
theorem qEJ {x:V} {us:List Value} (r:Vals [x] us):∃ u,us=[u]/\RelV x u:=by
 cases r with
 | cons r1 r2=>cases r2;exact ⟨_,rfl,r1⟩
theorem qOT {x y:V} {us:List Value} (r:Vals [x,y] us):∃ u w',us=[u,w']/\RelV x u/\RelV y w':=by
 cases r with
 | cons r1 r2=>
  cases r2 with
  | cons r3 r4=>cases r4;exact ⟨_,_,rfl,r1,r3⟩
theorem qPY (b:X.calm=true):qD1 X (.builtin "max") (fun xs H Q=>∃ i j,xs=[.int i,.int j]/\Q (.int (if j > i then j else i)) H):=by
 intro d s σ H xs g Q I r h;obtain ⟨i,j,rfl,q⟩:=h;obtain ⟨u,c,rfl,⟨t,rfl⟩,⟨e,rfl⟩⟩:=qOT r;refine max_two_ints (I.ok.hd b) fun l f k=>⟨_,H,I.kept k,?_,q⟩;by_cases a:j > i
 ·rw [if_pos a,if_pos a];exact ⟨_,rfl⟩
 ·rw [if_neg a,if_neg a];exact ⟨_,rfl⟩
theorem qPX (b:X.calm=true):qD1 X (.builtin "min") (fun xs H Q=>∃ i j,xs=[.int i,.int j]/\Q (.int (if j<i then j else i)) H):=by
 intro d s σ H xs g Q I r h;obtain ⟨i,j,rfl,q⟩:=h;obtain ⟨u,c,rfl,⟨t,rfl⟩,⟨e,rfl⟩⟩:=qOT r;refine min_two_ints (I.ok.hd b) fun l f k=>⟨_,H,I.kept k,?_,q⟩;by_cases a:j<i
 ·rw [if_pos a,if_pos a];exact ⟨_,rfl⟩
 ·rw [if_neg a,if_neg a];exact ⟨_,rfl⟩
theorem qQ0:qD1 X (.type "int") (fun xs H Q=>(∃ i,xs=[.int i]/\Q (.int i) H)\/∃ k,xs=[.bl k]/\Q (.int (if k then 1 else 0)) H):=by
 intro b s σ H xs c Q I r h;rcases h with ⟨i,rfl,q⟩ | ⟨k,rfl,q⟩
 ·obtain ⟨u,rfl,t,rfl⟩:=qEJ r;exact call_int_int ⟨.int i,H,I,⟨_,rfl⟩,q⟩
 ·obtain ⟨u,rfl,a⟩:=qEJ r;cases a;exact call_int_bool ⟨.int (if k then 1 else 0),H,I.tok _,⟨_,rfl⟩,q⟩
theorem qK2:qD1 X (.type "str") (fun xs H Q=>∃ i,xs=[.int i]/\i.natAbs.log2<1920/\Q (.str (toString i)) H):=by
 intro c s σ H xs b Q I r h;obtain ⟨i,rfl,a,q⟩:=h;obtain ⟨u,rfl,t,rfl⟩:=qEJ r;exact PySem.P.str_of_int a ⟨.str _,H,I.tok _,⟨_,rfl⟩,q⟩
theorem qRF:qD1 X (.builtin "divmod") (fun xs H Q=>∃ i j,xs=[.int i,.int j]/\CDiv i j/\∀ p,H p=none->Q (.ref p) (Af H p (.tup [.int (i / j),.int (i % j)]))):=by
 intro f s σ H xs k Q I r h;obtain ⟨i,j,rfl,⟨c,l⟩,q⟩:=h;obtain ⟨u,d,rfl,⟨t,rfl⟩,⟨g,rfl⟩⟩:=qOT r;refine divmod_int (by lia) ?_ (.inl (PyProof.noPylong_small (by lia)))
 rw [Int.fdiv_eq_ediv_of_nonneg i (by lia),Int.fmod_eq_emod_of_nonneg i (by lia)]
 have a:H s.heap.objs.size=none:=I.hok.fresh (Nat.le_refl _);refine ⟨.ref s.heap.objs.size,_,?_,rfl,q _ a⟩;refine I.laid (fun b o e=>Heap.get?_push_of_some _ e) (Nat.le_refl _) ⟨by simp only [List.length_cons,List.length_nil];rw [sizeLine_eq];decide,[.int (i / j) s.toks,.int (i % j) (s.toks+1)],.cons ⟨_,rfl⟩ (.cons ⟨_,rfl⟩ .nil),?_⟩
 exact ⟨_,Heap.get?_push_size s.heap rfl,rfl,0,rfl⟩
end
end L2
namespace L2
open PySem PySem.Spec PyProof.Rows
structure ObjM (h:Heap) (x dx C:Addr) (mA:Str->Option Value):Prop where
 obj:h.get? x=some (PySem.W.instObj C dx)
 ns:h.Ns1 dx mA
 ne:dx ≠ x
theorem qPG {h:Heap} {d:Addr} {mA:Str->Option Value} (n:h.Ns1 d mA):∃ od,h.get? d=some od/\∀ name,PySem.W.lookIn name od=some (mA name):=by
 obtain ⟨o,c,m,g,j,i,_,f⟩:=n;refine ⟨o,g,fun name=>?_⟩;have e:=f name;unfold nsFind findBy at e;rw [<- Array.find?_toList] at e;unfold PySem.W.lookIn;rw [j];dsimp only
 split
 ·rename_i y q
  rw [q] at e;exact congrArg some e
 ·rename_i q
  rw [q] at e;have a:c.toList.any (·.refKey)=false:=by
   rw [List.any_eq_false];intro y l;obtain ⟨z,t,b⟩:=i y (Array.mem_toList_iff.mp l);simp [DictEntry.refKey,b]
  have k:¬ c.toList.any (·.refKey)=true:=by rw [a];exact Bool.false_ne_true
  rw [if_neg k];exact congrArg some e
theorem ObjM.look {h:Heap} {x a C:Addr} {mA:Str->Option Value} (I:ObjM h x a C mA):∃ od,PySem.W.InstAt h x (PySem.W.instObj C a) C (some od)/\∀ name,PySem.W.lookIn name od=some (mA name):=
 let ⟨od,ho,hl⟩:=qPG I.ns
 ⟨od,⟨I.obj,rfl,rfl,ho⟩,hl⟩
section
variable {prog:Program} {w:World} {A:Around} {E:Value->Shared->Prop} {s:Shared} {K:PySem.W.Frag} {x dx C f:Addr} {mA:Str->Option Value} {name:Str} {v:Value}
theorem qbE {a:Bool} {Q:Value->Shared->Prop} (X:K.In s.heap) (I:ObjM s.heap x dx C mA) (e:PySem.W.plainGet K C name=true) (c:PySem.W.hasDictIn K C=true)
  (g:PySem.W.findIn K (.ref C) name=some none) (d:mA name=some v) (b:PySem.W.handedIn v=true) (h:Q v { s with toks:=s.toks+1 }) :
  wpAny (model prog w) A (getAttr (.ref x) name a) Q E s:=by
 obtain ⟨i,J,f⟩:=I.look;exact PySem.W.get_value X J (PySem.W.plainGet_of e).1 (PySem.W.findObj_own c g rfl (by rw [f,d])) b h
theorem qY8 {pl:Sem Bool} {Q:Value × List Value->Shared->Prop} (X:K.In s.heap) (I:ObjM s.heap x dx C mA) (a:PySem.W.plainGet K C name=true)
  (b:PySem.W.findIn K (.ref C) name=some (some (.ref f))) (d:PySem.W.isFn K (.ref f)=true) (e:mA name=none) (h:Q (.ref f,[.ref x]) s) :
  wpAny (model prog w) A (getMethod (.ref x) name pl) Q E s:=by
 obtain ⟨c,J,g⟩:=I.look;exact PySem.W.method_fn X J (PySem.W.plainGet_of a).1 (PySem.W.plainGet_of a).2 b (beq_iff_eq.mp d) (by show (PySem.W.lookIn name c).map (·.isSome)=some false;rw [g,e];rfl) h
theorem qaC {ns:List Str} {Q:Unit->Shared->Prop} (X:K.In s.heap) (I:ObjM s.heap x dx C mA)
  (k:PySem.W.findIn K (.ref C) "__setattr__" = some (some (.builtin "object.__setattr__"))) (j:PySem.W.plainOver K C=true) (q:PySem.W.takerIn K C name=some none) (n:PySem.W.hasDictIn K C=true)
  (l:PySem.Within mA ns) (hsz:ns.length<=sizeLine)
  (h:∀ h',ObjM h' x dx C (fun y=>if y=name then some v else mA y)->Heap.SameBut dx s.heap h'->Q () { s with heap:=h',toks:=s.toks+2 }) :
  wpAny (model prog w) A (setAttr (.ref x) name v) Q E s:=by
 obtain ⟨od,J,u⟩:=I.look;refine PySem.W.set_plain X J k (PySem.W.osa_open (s:={ s with toks:=s.toks+1 }) (r:=none) X J j q fun b=>?_);obtain ⟨cd,p,f⟩:=PySem.W.any_some n;have t:s.heap.get? x=some ⟨.ref C,some dx,.plain,#[]⟩:=I.obj;refine wpAny_bind (wpAny_pure (wpAny_bind (wpAny_bind (wpAny_loadPart t (wpAny_bind (PySem.W.Looks.here (s:={ s with toks:=s.toks+1 }) (PySem.W.looks_clsIn X p) ?_))))));rw [f];refine wpAny_pure (a:=some dx) (wpAny_bind (wpAny_pure (wpAny_bind ?_)));refine wpAny_nsSet1 (s:={ s with toks:=s.toks+1 }) I.ns fun h' c d=>?_;obtain ⟨z,m,o,g,e,i⟩:=c.count (PySem.Within.cons name v l);refine wpAny_bind (wpAny_lookBehind g (by rw [e];exact pastItsLine_dict (Nat.le_trans i (by rw [List.length_cons];lia))) ?_)
 exact wpAny_pure (h _ ⟨(d.2 _ (Ne.symm I.ne)).trans I.obj,c,I.ne⟩ d)
theorem qY1 {R:Result->Shared->Prop} {vs:List Value} {b:List (Str × Value)} (X:K.In s.heap) (e:PySem.W.makesIn K C=true)
  (hi:PySem.W.findIn K (.ref C) "__init__" = some (some (.ref f))) (c:PySem.W.typeIn K (.ref f)=some (.type "function"))
  (h:codeAny (model prog w) (A.under (.builtin "type.__call__" ⟨.ref C::vs,b⟩)) (.call (.ref f) ⟨.ref (s.heap.objs.size+1)::vs,b⟩) (PySem.W.InitBack (s.heap.objs.size+1) R)
   { s with heap:=(s.heap.push PySem.W.emptyDict).push (PySem.W.instObj C s.heap.objs.size) }) :
  codeAny (model prog w) A (.call (.ref C) ⟨vs,b⟩) R s:=by
 obtain ⟨j,g,d,t,i⟩:=s;exact PySem.W.make_core (PySem.W.makes_of X e) (PySem.W.looks_findIn X hi) (fun a=>PySem.W.bind_fn X a c) (.inl rfl) h
end
noncomputable def putF (f:Str) (v:V):List (Str × V)->List (Str × V)
 | []=>[(f,v)]
 | (g,x)::r=>if g=f then (g,v)::r else (g,x)::putF f v r
theorem qAI (f g:Str) (v:V):∀ fs:List (Str × V),(putF f v fs).lookup g=if g=f then some v else fs.lookup g
 | []=>by
  show List.lookup g [(f,v)]=_;by_cases h:g=f
  ·have hb:(g == f)=true:=beq_iff_eq.mpr h;simp only [List.lookup,hb,if_pos h]
  ·have hb:(g == f)=false:=beq_eq_false_iff_ne.mpr h;simp only [List.lookup,hb,if_neg h]
 | (k,x)::r=>by
  have ih:=qAI f g v r;rw [show putF f v ((k,x)::r)=(if k=f then (k,v)::r else (k,x)::putF f v r) from rfl]
  by_cases hk:k=f
  ·rw [if_pos hk];by_cases h:g=k
   ·have hb:(g == k)=true:=beq_iff_eq.mpr h;simp only [List.lookup,hb,if_pos (h.trans hk)]
   ·have hb:(g == k)=false:=beq_eq_false_iff_ne.mpr h;simp only [List.lookup,hb,if_neg (fun e:g=f=>h (e.trans hk.symm))]
  ·rw [if_neg hk];by_cases h:g=k
   ·have hb:(g == k)=true:=beq_iff_eq.mpr h;simp only [List.lookup,hb,if_neg (fun e:g=f=>hk (h.symm.trans e))]
   ·have hb:(g == k)=false:=beq_eq_false_iff_ne.mpr h;simp only [List.lookup,hb];exact ih
theorem qFL (f:Str) (v:V):∀ fs:List (Str × V),f ∈ (putF f v fs).map (·.1)/\∀ g,g ∈ fs.map (·.1)->g ∈ (putF f v fs).map (·.1)
 | []=>⟨by simp [putF],fun g h=>by simp at h⟩
 | (k,x)::r=>by
  obtain ⟨i1,i2⟩:=qFL f v r;rw [show putF f v ((k,x)::r)=(if k=f then (k,v)::r else (k,x)::putF f v r) from rfl]
  by_cases hk:k=f
  ·rw [if_pos hk];subst hk;exact ⟨by simp,fun g h=>by simpa using h⟩
  ·rw [if_neg hk];refine ⟨?_,fun g h=>?_⟩
   ·rw [List.map_cons];exact List.mem_cons_of_mem _ i1
   ·rw [List.map_cons] at h ⊢;rcases List.mem_cons.mp h with e | e
    ·exact List.mem_cons.mpr (.inl e)
    ·exact List.mem_cons_of_mem _ (i2 g e)
theorem qDQ (f:Str) (v:V):∀ fs:List (Str × V),(putF f v fs).length<=fs.length+1
 | []=>by simp [putF]
 | (k,x)::r=>by
  have ih:=qDQ f v r;rw [show putF f v ((k,x)::r)=(if k=f then (k,v)::r else (k,x)::putF f v r) from rfl]
  by_cases hk:k=f
  ·rw [if_pos hk,List.length_cons,List.length_cons];lia
  ·rw [if_neg hk,List.length_cons,List.length_cons];lia
theorem RelO.some_of {v:V} {o:Option Value} (r:RelO (some v) o):∃ u,o=some u/\RelV v u:=by
 cases o with
 | none=>exact (show False from r).elim
 | some u=>exact ⟨u,rfl,r⟩
theorem RelO.none_of {o:Option Value} (r:RelO none o):o=none:=by
 cases o with
 | none=>rfl
 | some u=>exact (show False from r).elim
theorem qPM {v:V} {u:Value} (r:RelV v u):PySem.W.handedIn u=true:=by
 cases v with
 | non=>cases (show u=Value.none from r);rfl
 | bl b=>cases (show u=Value.bool b from r);rfl
 | int i=>obtain ⟨t,e⟩:=(show ∃ t,u=Value.int i t from r);cases e;rfl
 | str x=>obtain ⟨t,e⟩:=(show ∃ t,u=Value.str x t from r);cases e;rfl
 | byt b=>obtain ⟨t,e⟩:=(show ∃ t,u=Value.bytes b t from r);cases e;rfl
 | flt b=>obtain ⟨t,e⟩:=(show ∃ t,u=Value.float b t from r);cases e;rfl
 | ref a=>cases (show u=Value.ref a from r);rfl
 | ty n=>cases (show u=Value.type n from r);rfl
section
variable {P:Program} {w:World} {H H':Hp} {h h':Heap} {a C dx:Addr} {fs fs':List (Str × V)}
theorem qNX (b:HOk P w H h) (e:H a=some (.ins C dx fs)):∃ mA,ObjM h a dx C mA/\(∀ f,RelO (fs.lookup f) (mA f))/\PySem.Within mA (fs.map (·.1))/\fs.length<=1000/\H dx=some (.own a):=by
 obtain ⟨d,z,c,g,mA,n,r,q⟩:=(show ObjOk P w H h a (.ins C dx fs) from b a _ e);exact ⟨mA,⟨g,n,c⟩,r,q,z,d⟩
end
structure Cls (K:PySem.W.Frag) (C:Addr):Prop where
 pg:PySem.W.plainGet K C Str.empty=true
 hd:PySem.W.hasDictIn K C=true
 po:PySem.W.plainOver K C=true
 sa:PySem.W.findIn K (.ref C) "__setattr__" = some (some (.builtin "object.__setattr__"))
theorem Cls.get {K:PySem.W.Frag} {C:Addr} (c:Cls K C) (f:Str):PySem.W.plainGet K C f=true:=c.pg
def NoAttr (K:PySem.W.Frag) (C:Addr) (f:Str):Prop:=PySem.W.findIn K (.ref C) f=some none
theorem NoAttr.taker {K:PySem.W.Frag} {C:Addr} {f:Str} (n:NoAttr K C f):PySem.W.takerIn K C f=some none:=by
 unfold PySem.W.takerIn;rw [show PySem.W.findIn K (.ref C) f=some none from n]
 rfl
structure Con (K:PySem.W.Frag) (C:Addr) (f:Str) (v:V) (u:Value):Prop where
 at_:PySem.W.findIn K (.ref C) f=some (some u)
 rel:RelV v u
 get:PySem.W.specialIn K u "__get__" = some none
 cp:PySem.W.copiedNames.contains f=false
structure Meth (K:PySem.W.Frag) (C:Addr) (m:Str) (f:Addr):Prop where
 at_:PySem.W.findIn K (.ref C) m=some (some (.ref f))
 fn:PySem.W.isFn K (.ref f)=true
 kp:PySem.W.keepIn K (.ref f)=true
section
variable {X:Cx} {Aa:List (Addr × Obj)} {σ:St} {H:Hp} {s:Shared} {a C dx:Addr} {fs:List (Str × V)} {f:Str} {v:V} {A:Around} {E:Value->Shared->Prop}
theorem qTB {b:Bool} {Q:Value->Shared->Prop} (I:Inv X Aa σ H s) (e:H a=some (.ins C dx fs)) (c:Cls X.K C) (n:NoAttr X.K C f) (l:fs.lookup f=some v)
  (h:∀ u s',Inv X Aa σ H s'->RelV v u->Q u s'):wpAny (model X.prog X.w) A (getAttr (.ref a) f b) Q E s:=by
 obtain ⟨i,O,r,_,_,_⟩:=qNX I.hok e;obtain ⟨u,g,d⟩:=RelO.some_of (v:=v) (o:=i f) (by rw [<- l];exact r f)
 exact qbE I.kIn O (c.get f) c.hd n g (qPM d) (h u _ (I.tok _) d)
theorem qMQ {m:Str} {g:Addr} {pl:Sem Bool} {Q:Value × List Value->Shared->Prop} (I:Inv X Aa σ H s) (e:H a=some (.ins C dx fs)) (c:Cls X.K C) (k:Meth X.K C m g) (l:fs.lookup m=none)
  (h:Q (.ref g,[.ref a]) s):wpAny (model X.prog X.w) A (getMethod (.ref a) m pl) Q E s:=by
 obtain ⟨b,O,r,_,_,_⟩:=qNX I.hok e;have d:b m=none:=RelO.none_of (by rw [<- l];exact r m)
 exact qY8 I.kIn O (c.get m) k.at_ k.fn d h
theorem qSV {y:V} {u:Value} {Q:Unit->Shared->Prop} (I:Inv X Aa σ H s) (e:H a=some (.ins C dx fs)) (c:Cls X.K C) (n:NoAttr X.K C f) (hl:fs.length<1000) (t:RelV y u)
  (h:∀ s',Inv X Aa σ (Af H a (.ins C dx (putF f y fs))) s'->Q () s'):wpAny (model X.prog X.w) A (setAttr (.ref a) f u) Q E s:=by
 obtain ⟨j,O,r,k,_,i⟩:=qNX I.hok e;have m:(fs.map (·.1)).length<=sizeLine:=by rw [List.length_map,sizeLine_eq];lia
 refine qaC I.kIn O c.sa c.po n.taker c.hd k m fun h' d v=>h _ ?_;have hd:∃ o,h'.get? dx=some o:=let ⟨o,_,_,e',_⟩:=d.ns;⟨o,e'⟩
 refine I.write (x:=a) (e:=dx) (by rw [e];exact True.intro) (.inr i) (fun b q p z=>(v.2 b p).trans z) hd ?_
 refine ⟨by rw [qA8 O.ne];exact i,?_,O.ne,d.obj,_,d.ns,fun g=>?_,fun g l=>?_⟩
 ·have:=qDQ f y fs;lia
 ·show RelO ((putF f y fs).lookup g) (if g=f then some u else j g)
  rw [qAI];by_cases q:g=f
  ·rw [if_pos q,if_pos q];exact t
  ·rw [if_neg q,if_neg q];exact r g
 ·by_cases q:g=f
  ·rw [q];exact (qFL f y fs).1
  ·refine (qFL f y fs).2 g (k g fun z=>l ?_);show (if g=f then some u else j g)=none
   rw [if_neg q];exact z
theorem Inv.made (I:Inv X Aa σ H s):Inv X Aa σ (Af (Af H s.heap.objs.size (.own (s.heap.objs.size+1))) (s.heap.objs.size+1) (.ins C s.heap.objs.size []))
  { s with heap:=(s.heap.push PySem.W.emptyDict).push (PySem.W.instObj C s.heap.objs.size) }:=by
 have c:(s.heap.push PySem.W.emptyDict).get? s.heap.objs.size=some PySem.W.emptyDict:=Heap.get?_push_size s.heap rfl;have h:((s.heap.push PySem.W.emptyDict).push (PySem.W.instObj C s.heap.objs.size)).get? (s.heap.objs.size+1)=some (PySem.W.instObj C s.heap.objs.size):=by
  have:=Heap.get?_push_size (s.heap.push PySem.W.emptyDict) (o:=PySem.W.instObj C s.heap.objs.size) rfl
  rwa [Heap.size_push] at this
 have f:(s.heap.push PySem.W.emptyDict).Ns s.heap.objs.size (fun _=>none):=⟨PySem.W.emptyDict,#[],_,c,rfl,(fun e i=>absurd i (by simp)),fun _=>rfl⟩
 have g:=I.laid (a:=s.heap.objs.size) (o:=.own (s.heap.objs.size+1)) (h':=s.heap.push PySem.W.emptyDict) (t':=s.toks) (fun b u q=>Heap.get?_push_of_some _ q) (Nat.le_refl _) ⟨_,c⟩;refine g.laid (a:=s.heap.objs.size+1) (o:=.ins C s.heap.objs.size []) (t':=s.toks) (fun b u q=>Heap.get?_push_of_some _ q) (Nat.le_of_eq (Heap.size_push _ _)) ?_;have d:s.heap.objs.size ≠ s.heap.objs.size+1:=Nat.ne_of_lt (Nat.lt_succ_self _);refine ⟨by rw [qA8 d,qA1],Nat.zero_le _,d,h,fun _=>none,(Heap.Ns1.of_empty f).at fun o q=>Heap.get?_push_of_some _ q,fun _=>True.intro,fun y j=>absurd rfl j⟩
theorem qWT {prog:Program} {w:World} {env:Env} {e:Expr} {f:Str} {a:Pos} {s:Shared} {Q:Value->Shared->Prop} (b:attributeBase e f env (eval e env)=eval e env)
  (h:wpAny (model prog w) A (eval e env) (fun o s₁=>wpAny (model prog w) A (getAttr o f true) Q E s₁) E s):wpAny (model prog w) A (eval (.Attribute e f a) env) Q E s:=
 Attribute_any_ h (by rw [arm_eval_Attribute,b])
end
def tFld (K:PySem.W.Frag) (ta:TE) (f:Str):TE:=fun σ H Q=>ta σ H fun x H1=>∃ a C dx fs v,x=.ref a/\H1 a=some (.ins C dx fs)/\Cls K C/\NoAttr K C f/\fs.lookup f=some v/\Q v H1
def sFld (K:PySem.W.Frag) (ta tv:TE) (f:Str):TS:=fun D σ H=>tv σ H fun y H1=>ta σ H1 fun x H2=>∃ a C dx fs,x=.ref a/\H2 a=some (.ins C dx fs)/\Cls K C/\NoAttr K C f/\fs.length<1000/\
 D.nx σ (Af H2 a (.ins C dx (putF f y fs)))
section
variable {X:Cx} {o e value:Expr} {f:Str} {pos pos' tpos:Pos} {ta tv:TE}
theorem qD6 (j:PE X e ta) (d:attributeBase e f X.env (eval e X.env)=eval e X.env):PE X (.Attribute e f pos) (tFld X.K ta f):=by
 intro b s σ H Q I h;refine qWT d (thn (j b s σ H _ I h) fun u s1 ⟨x,H1,I1,rx,a,C,dx,fs,v,ex,ea,c,n,l,q⟩=>?_);subst ex;obtain rfl:u=Value.ref a:=rx;exact qTB I1 ea c n l fun m k g i=>⟨v,H1,g,i,q⟩
theorem qP9 (i:PE X o ta) (d:PE X value tv) (e:swapsWith value (some (.Attribute o f pos')) pos.line X.env=pure false):PS X (.Assign [.Attribute o f pos'] value pos) (sFld X.K ta tv f):=by
 intro b s σ H D I h;refine plainObj_wpAny_Assign_Attribute (thn (d b s σ H _ I h) fun u s1 ⟨y,H1,I1,ry,q⟩=>thn (i b s1 σ H1 _ I1 q) fun ov s2 ⟨x,H2,I2,rx,a,C,dx,fs,ex,ea,c,n,l,q2⟩=>?_) e;subst ex;obtain rfl:ov=Value.ref a:=rx;exact qSV I2 ea c n l ry fun j g=>⟨σ,_,g,q2⟩
theorem qb7 {pl:Sem Bool} {m:Str} {d:Pos} {b:List Expr} {Aa:List (Addr × Obj)} {s:Shared} {σ:St} {H:Hp} {Q:Value->Shared->Prop} {i:TE} (n:PE X e i) (I:Inv X Aa σ H s)
  (h:i σ H fun x H1=>∃ a C dx fs g,x=.ref a/\H1 a=some (.ins C dx fs)/\Cls X.K C/\Meth X.K C m g/\fs.lookup m=none/\
   ∀ s1,Inv X Aa σ H1 s1->wpAny (model X.prog X.w) X.A (callWith pos (.ref g) [.ref a] (backTo pos (starEach b X.env)) (backToKw pos (keywordEach [] X.env))) Q X.xe s1)
  (j:eval (.Call (.Attribute e m d) b [] pos) X.env=(do
   let ov <- eval e X.env
   standAt d.atName
   let (f,first) <- holding [ov] (getMethod ov m pl)
   callWith pos f first (backTo pos (starEach b X.env)) (backToKw pos (keywordEach [] X.env)))) :
  wpAny (model X.prog X.w) X.A (eval (.Call (.Attribute e m d) b [] pos) X.env) Q X.xe s:=by
 refine PySem.W.methodCall_KW (pl:=pl) (thn (n Aa s σ H _ I h) fun u s1 ⟨x,H1,I1,rx,a,C,dx,fs,g,ex,ea,c,k,l,q⟩=>?_) j;subst ex;obtain rfl:u=Value.ref a:=rx;exact qMQ I1 ea c k l (q s1 I1)
end
section
variable {X:Cx} {Aa:List (Addr × Obj)} {σ:St} {H:Hp} {s:Shared} {A:Around} {E:Value->Shared->Prop} {Q:Value->Shared->Prop} {c:Value} {b:Bool}
inductive TyOf (K:PySem.W.Frag) (H:Hp):V->Value->Prop where
 | non:TyOf K H .non (.type "NoneType")
 | bl (x:Bool):TyOf K H (.bl x) (.type "bool")
 | int (i:Int):TyOf K H (.int i) (.type "int")
 | str (x:Str):TyOf K H (.str x) (.type "str")
 | flt (x:UInt64):TyOf K H (.flt x) (.type "float")
 | lst {a:Addr} {xs:List V} (e:H a=some (.lst xs)):TyOf K H (.ref a) (.type "list")
 | frz {a:Addr} {o:Obj} {xs:List V} (e:H a=some (.frz o (.lst xs))):TyOf K H (.ref a) (.type "list")
 | tup {a:Addr} {xs:List V} (e:H a=some (.tup xs)):TyOf K H (.ref a) (.type "tuple")
 | dK {a:Addr} {Ae:List (Key × V)} (e:H a=some (.dK Ae)):TyOf K H (.ref a) (.type "dict")
 | dT {a:Addr} {Ae:List (List Key × V)} (e:H a=some (.dT Ae)):TyOf K H (.ref a) (.type "dict")
 | ins {a C dx:Addr} {fs:List (Str × V)} (e:H a=some (.ins C dx fs)) (cl:Cls K C) (ha:PySem.W.findIn K (.ref C) "__class__" = some (some (.builtin "object.__class__")))
   (hn:PySem.W.specialIn K (.builtin "object.__class__") "__get__" = some (some (.builtin "getset_descriptor.__get__"))) (htk:PySem.W.takesIn K (.builtin "object.__class__")=some true)
   (hm:PySem.W.mroIn K C (.type "object")=some true):TyOf K H (.ref a) (.ref C)
theorem qVN {x:V} {u t:Value} (I:Inv X Aa σ H s) (d:RelV x u) (j:TyOf X.K H x t) (e:PySem.W.kitOne X.K t c=some b) (h:∀ tk,Q (.bool b) { s with toks:=tk }) :
  wpAny (model X.prog X.w) A (call (.builtin "isinstance") [u,c]) Q E s:=by
 cases j with
 | non=>cases (show u=Value.none from d);exact PySem.W.kia_one PySem.W.kitx_none I.kIn True.intro e (fun z=>nomatch z) h
 | bl y=>cases (show u=Value.bool y from d);exact PySem.W.kia_one PySem.W.kitx_bool I.kIn True.intro e (fun z=>nomatch z) h
 | int i=>obtain ⟨t,q⟩:=(show ∃ t,u=Value.int i t from d);cases q;exact PySem.W.kia_one PySem.W.kitx_int I.kIn True.intro e (fun z=>nomatch z) h
 | str y=>obtain ⟨t,q⟩:=(show ∃ t,u=Value.str y t from d);cases q;exact PySem.W.kia_one PySem.W.kitx_str I.kIn True.intro e (fun z=>nomatch z) h
 | flt y=>obtain ⟨t,q⟩:=(show ∃ t,u=Value.float y t from d);cases q;exact PySem.W.kia_one PySem.W.kitx_float I.kIn True.intro e (fun z=>nomatch z) h
 | @lst a xs ea=>
  cases (show u=Value.ref a from d);obtain ⟨_,_,n,_,f⟩:=(show ObjOk X.prog X.w H s.heap a (.lst xs) from I.hok a _ ea);exact PySem.W.kia_one PySem.W.kitx_list I.kIn ⟨_,f,rfl⟩ e (fun z=>nomatch z) h
 | @frz a ob xs ea=>
  cases (show u=Value.ref a from d);obtain ⟨_,_,_,n,_,f⟩:=(show ObjOk X.prog X.w H s.heap a (.frz ob (.lst xs)) from I.hok a _ ea);exact PySem.W.kia_one PySem.W.kitx_list I.kIn ⟨_,f,rfl⟩ e (fun z=>nomatch z) h
 | @tup a xs ea=>
  cases (show u=Value.ref a from d);obtain ⟨_,_,_,p⟩:=(show ObjOk X.prog X.w H s.heap a (.tup xs) from I.hok a _ ea);obtain ⟨o,f,g,_⟩:=p;exact PySem.W.kia_one PySem.W.kitx_tuple I.kIn ⟨o,f,g⟩ e (fun z=>nomatch z) h
 | @dK a Ae ea=>
  cases (show u=Value.ref a from d);obtain ⟨_,_,r,_,p⟩:=(show ObjOk X.prog X.w H s.heap a (.dK Ae) from I.hok a _ ea);obtain ⟨o,k,l,f,g,_⟩:=p;exact PySem.W.kia_one PySem.W.kitx_dict I.kIn ⟨o,f,g.1⟩ e (fun z=>nomatch z) h
 | @dT a Ae ea=>
  cases (show u=Value.ref a from d);obtain ⟨_,_,xs,_,o,k,l,f,g,_⟩:=(show ObjOk X.prog X.w H s.heap a (.dT Ae) from I.hok a _ ea);exact PySem.W.kia_one PySem.W.kitx_dict I.kIn ⟨o,f,g.1⟩ e (fun z=>nomatch z) h
 | @ins a C dx fs ea cl ha hn htk hm=>
  cases (show u=Value.ref a from d);obtain ⟨v,O,_⟩:=qNX I.hok ea;obtain ⟨m,J,_⟩:=O.look;exact PySem.W.kia_one (PySem.W.kitx_own (cl.get _) cl.hd ha hn htk hm) I.kIn J e (fun z=>nomatch z) h
end
end L2
namespace L2
open PySem PySem.Spec PyProof.Rows
structure Room (k:Nat) (A:Around):Prop where
 hd:A.handled=none
 dp:A.depth+3 * k+5<recursionLimit
 un:A.units+16 * k+200<cLine
 gd:A.guards=some []
theorem Room.mono {j k:Nat} {A:Around} (r:Room k A) (h:j<=k):Room j A:=⟨r.hd,by have:=r.dp;lia,by have:=r.un;lia,r.gd⟩
theorem Room.deeper {k:Nat} {A:Around} (r:Room (k+1) A) (env:Env):Room k (A.deeper env):=
 ⟨r.hd,by have:=r.dp;show A.depth+1+3 * k+5<_;lia,by have:=r.un;show A.units+3+16 * k+200<_;lia,r.gd⟩
theorem qT9 {A:Around} {C:Addr} {us:List Value} {a:List (Str × Value)}:(A.under (.builtin "type.__call__" ⟨.ref C::us,a⟩)).depth=A.depth+1:=by
 first | rfl | simp [Around.under,Code.weight,Code.isCreation,Code.isGuard,Code.isCaller,Code.frames,Code.isFrame,guardIds]
theorem qT8 {A:Around} {C:Addr} {us:List Value} {a:List (Str × Value)}:(A.under (.builtin "type.__call__" ⟨.ref C::us,a⟩)).units=A.units+1:=by
 first | rfl | simp [Around.under,Code.cUnits,Code.frames,Code.isFrame]
theorem Room.make {k:Nat} {A:Around} (r:Room (k+1) A) (C:Addr) (us:List Value) (a:List (Str × Value)):Room k (A.under (.builtin "type.__call__" ⟨.ref C::us,a⟩)):=
 ⟨r.hd,by have:=r.dp;rw [qT9];lia,by have:=r.un;rw [qT8];lia,by first | exact r.gd | simp [Around.under,Code.guards,Code.isGuard,pushGuards,guardIds,r.gd]⟩
theorem Room.depth {k:Nat} {A:Around} (r:Room k A):A.depth<recursionLimit:=by have:=r.dp;lia
theorem Room.units {k:Nat} {A:Around} (r:Room k A):A.units+64<cLine:=by have:=r.un;lia
theorem Room.units0 {k:Nat} {A:Around} (r:Room k A):A.units<cLine:=by have:=r.un;lia
def tNil:TA:=fun _ H Q=>Q [] H
def qcI (ta:TE) (tr:TA):TA:=fun σ H Q=>ta σ H fun x H1=>tr σ H1 fun xs H2=>Q (x::xs) H2
section
variable {X:Cx} {e:Expr} {es:List Expr} {te:TE} {t:TA} {pos:Pos}
theorem qA2:PA X [] tNil:=fun _ _ _ _ H Q I h=>Calls.spliced_nil ⟨[],H,I,.nil,h⟩
theorem qA0 (f:PE X e te) (d:PA X es t) (c:starEach (e::es) X.env=(false,eval e X.env)::starEach es X.env:=by rfl):PA X (e::es) (qcI te t):=by
 intro a b s σ H Q I h;rw [c];show wpAny _ _ (spliced ((false,eval e X.env)::backTo a (starEach es X.env))) _ _ s;refine Calls.spliced_cons (thn (f b s σ H _ I h) fun u s1 ⟨x,H1,I1,r1,q1⟩=>?_);exact thn (d a b s1 σ H1 _ I1 q1) fun us s2 ⟨xs,H2,I2,r2,q2⟩=>⟨x::xs,H2,I2,.cons r1 r2,q2⟩
def tTup (t:TA):TE:=fun σ H Q=>t σ H fun xs H1=>xs.length<=sizeLine/\∀ p,H1 p=none->Q (.ref p) (Af H1 p (.tup xs))
def tLst (t:TA):TE:=fun σ H Q=>t σ H fun xs H1=>xs.length<=sizeLine/\∀ p,H1 p=none->Q (.ref p) (Af H1 p (.lst xs))
theorem qD5 {x1} (h:PA X es t):PE X (.Tuple es x1 pos) (tTup t):=by
 intro a s σ H Q I d;refine wpAny_Tuple_spliced (thn (h pos a s σ H _ I d) fun us s1 ⟨xs,H1,I1,r,z,q⟩=>⟨by rw [<- r.length];exact z,?_⟩)
 have c:H1 s1.heap.objs.size=none:=I1.hok.fresh (Nat.le_refl _);refine ⟨.ref s1.heap.objs.size,Af H1 s1.heap.objs.size (.tup xs),I1.laid (t':=s1.toks) (fun b u e=>Heap.get?_push_of_some _ e) (Nat.le_refl _) ?_,rfl,q _ c⟩;exact ⟨z,us,r,⟨_,Heap.get?_push_size _ rfl,rfl,_,rfl⟩⟩
theorem qB8 (h:PA X es t):PE X (.List es pos) (tLst t):=by
 intro a s σ H Q I d;refine wpAny_List_spliced (thn (h pos a s σ H _ I d) fun us s1 ⟨xs,H1,I1,r,z,q⟩=>⟨by rw [<- r.length];exact z,?_⟩)
 have c:H1 s1.heap.objs.size=none:=I1.hok.fresh (Nat.le_refl _);refine ⟨.ref s1.heap.objs.size,Af H1 s1.heap.objs.size (.lst xs),I1.laid (t':=s1.toks) (fun b u e=>Heap.get?_push_of_some _ e) (Nat.le_refl _) ?_,rfl,q _ c⟩;exact ⟨z,us,0,r,Heap.get?_push_size _ rfl⟩
end
abbrev Sp:=List V->Hp->VK->XK->Prop
abbrev CXT:=List Env->Hp->Shared->XK->Value->Shared->Prop
structure Env0 (P:Program) (w:World) (K:PySem.W.Frag) (mg:Str->Option Value) (base:Heap) (A:Around) (outer:List Env) (s:Shared) (H:Hp):Prop where
 frames:A.frames=some outer
 mod:Mod K mg base
 bs:∀ b o,base.get? b=some o->s.heap.get? b=some o/\H b=none
 bsz:base.objs.size<=s.heap.objs.size
 funs:s.heap.FunFrames base outer
 frf:∀ b ∈ frs outer,H b=none
 hok:HOk P w H s.heap
 bare:AllBare s.gens
def CE (outer:List Env) (P:Program) (w:World) (H:Hp) (s:Shared) (Q:VK) (u:Value) (s':Shared):Prop:=
 ∃ v H',s'.os=s.os/\AllBare s'.gens/\Un (frs outer) [] H H' s.heap s'.heap/\HOk P w H' s'.heap/\RelV v u/\Q v H'
def CR (CX:CXT) (outer:List Env) (P:Program) (w:World) (H:Hp) (s:Shared) (Q:VK) (E:XK) (r:Result) (s':Shared):Prop:=
 match r with
 | .ok (.ret u)=>CE outer P w H s Q u s'
 | .ok _=>False
 | .error e=>CX outer H s E e s'
structure FnOk (P:Program) (w:World) (K:PySem.W.Frag) (mg:Str->Option Value) (base:Heap) (CX:CXT) (k:Nat) (f:Addr) (fd:FuncData) (ps:List Str) (sp:Sp):Prop where
 len:∀ vs H Q E,sp vs H Q E->vs.length=ps.length
 run:∀ (A:Around) (outer:List Env) (s:Shared) (H:Hp) (args:Args) (us:List Value) (vs:List V) (Q:VK) (E:XK),Room k A->Env0 P w K mg base A outer s H->BindsTo s fd args (ps.zip us)->Vals vs us->sp vs H Q E->
  codeAny (model P w) A (.call (.ref f) args) (CR CX outer P w H s Q E) s
theorem Env0.make {P:Program} {w:World} {K:PySem.W.Frag} {mg:Str->Option Value} {base:Heap} {A:Around} {a:List Env} {s:Shared} {H:Hp} (e:Env0 P w K mg base A a s H) (C:Addr) (us:List Value) (b:List (Str × Value)) :
  Env0 P w K mg base (A.under (.builtin "type.__call__" ⟨.ref C::us,b⟩)) a s H:=⟨by first | exact e.frames | (simpa [Around.under,Code.envs,Code.isFrame,pushEnvs] using e.frames),e.mod,e.bs,e.bsz,e.funs,e.frf,e.hok,e.bare⟩
section
variable {X:Cx} {Aa:List (Addr × Obj)} {σ:St} {H:Hp} {s s':Shared}
theorem Inv.env0 (I:Inv X Aa σ H s):Env0 X.prog X.w X.K X.mg X.base X.A X.stack s H:=
 ⟨I.ok.frames,I.ok.mod,I.bs,Nat.le_trans I.ok.bsz I.sz,I.stack,I.stkFree,I.hok,I.bare⟩
theorem Inv.after {Q:VK} {u:Value} (I:Inv X Aa σ H s) (h:CE X.stack X.prog X.w H s Q u s'):EP X Aa σ Q u s':=by
 obtain ⟨v,j,os,a,f,e,r,q⟩:=h;obtain ⟨i,g,d,t,c⟩:=s';obtain rfl:c=s.os:=os;exact ⟨v,j,I.call (h':=i) (g':=g) (d':=d) (t':=t) (ch:=[]) f e a (fun b z=>absurd z (by simp)),r,q⟩
end
def qcJ (sp:Sp) (dvs:List V) (E:XK) (t:TA):TE:=fun σ H Q=>t σ H fun vs H1=>sp (vs++dvs) H1 Q E
def qeB (C:Addr) (m:Str) (sp:Sp) (dvs:List V) (E:XK) (ta:TE) (t:TA):TE:=fun σ H Q=>ta σ H fun x H1=>∃ a dx fs,x=.ref a/\H1 a=some (.ins C dx fs)/\fs.lookup m=none/\
 t σ H1 fun vs H2=>sp (x::(vs++dvs)) H2 Q E
def qeC (C:Addr) (sp:Sp) (dvs:List V) (E:XK) (t:TA):TE:=fun σ H Q=>t σ H fun vs H1=>∀ x dx,H1 x=none->H1 dx=none->dx ≠ x->
 sp (.ref x::(vs++dvs)) (Af (Af H1 dx (.own x)) x (.ins C dx [])) (fun v H2=>v=.non/\Q (.ref x) H2) E
def Binds (K:PySem.W.Frag) (fd:FuncData) (ps:List Str) (ds:List Value):Prop:=
 ∀ (s:Shared) (us:List Value),K.In s.heap->(us++ds).length=ps.length->BindsTo s fd ⟨us,[]⟩ (ps.zip (us++ds))
theorem Binds.all {K:PySem.W.Frag} {b:FuncData} {ps:List Str} (h:∀ us:List Value,us.length=ps.length->bindArgs b ⟨us,[]⟩=pure (ps.zip us)):Binds K b ps []:=fun s us _ a=>by
 rw [List.append_nil] at a ⊢;exact .of_eq (h us a)
def qMX (CX:CXT) (X:Cx) (E:XK):Prop:=∀ (Aa:List (Addr × Obj)) (σ:St) (H:Hp) (s:Shared) (e:Value) (s':Shared),Inv X Aa σ H s->CX X.stack H s E e s'->X.xe e s'
section
variable {X:Cx} {CX:CXT} {k:Nat} {f C:Addr} {fd:FuncData} {ps:List Str} {sp:Sp} {dvs:List V} {ds:List Value} {E:XK} {x m:Str} {p pos apos:Pos} {e o:Expr} {es:List Expr} {ta:TE} {t:TA}
theorem qZ2 {Aa:List (Addr × Obj)} {σ:St} {H:Hp} {s:Shared} {Q:VK} {us:List Value} {vs:List V} (F:FnOk X.prog X.w X.K X.mg X.base CX k f fd ps sp) (i:Room k X.A) (g:Binds X.K fd ps ds) (c:Vals dvs ds) (j:qMX CX X E)
  (I:Inv X Aa σ H s) (r:Vals vs us) (h:sp (vs++dvs) H Q E):wpAny (model X.prog X.w) X.A (call (.ref f) us) (EP X Aa σ Q) X.xe s:=by
 have b:Vals (vs++dvs) (us++ds):=r.append c;have d:(us++ds).length=ps.length:=by rw [<- b.length];exact F.len _ _ _ _ h
 refine wpAny_call (codeAny_mono (F.run X.A X.stack s H ⟨us,[]⟩ (us++ds) (vs++dvs) Q E i I.env0 (g s us I.kIn d) b h) fun r l a=>?_);cases r with
 | error e=>exact j Aa σ H s e l I a
 | ok fl=>
  cases fl with
  | ret u=>exact I.after a
  | next=>exact False.elim a
  | brk=>exact False.elim a
  | cont=>exact False.elim a
theorem qaR (F:FnOk X.prog X.w X.K X.mg X.base CX k f fd ps sp) (n:Room k X.A) (d:Gl X x) (g:X.mg x=some (.ref f)) (i:PySem.W.keepIn X.K (.ref f)=true) (l:Binds X.K fd ps ds) (j:Vals dvs ds) (o:qMX CX X E)
  (u:PA X (e::es) t) (a:(x == ("__debug__" : Str))=false:=by decide) (m:starEach (e::es) X.env=(false,eval e X.env)::starEach es X.env:=by rfl) (b:(backTo pos (starEach es X.env)).any (·.1)=false:=by rfl) :
  PE X (.Call (.Name x p) (e::es) [] pos) (qcJ sp dvs E t):=by
 intro c s σ H Q I h;refine wpAny_Call_Name_kw (qLB I d g ?_ a);refine PySem.W.callWith_K (h₀:=X.base) I.ok.mod.kin i (thn (u pos c s σ H _ I h) fun us s1 ⟨vs,H1,I1,r,q⟩=>⟨I1.kIn,?_⟩) m b;exact qZ2 F n l j o I1 r q
theorem qL6 {pl:Sem Bool} (v:PE X o ta) (c:Cls X.K C) (i:Meth X.K C m f) (F:FnOk X.prog X.w X.K X.mg X.base CX k f fd ps sp) (y:Room k X.A) (p:Binds X.K fd ps ds) (n:Vals dvs ds) (z:qMX CX X E) (ha:PA X (e::es) t)
  (b:starEach (e::es) X.env=(false,eval e X.env)::starEach es X.env:=by rfl) (d:(backTo pos (starEach es X.env)).any (·.1)=false:=by rfl)
  (j:eval (.Call (.Attribute o m apos) (e::es) [] pos) X.env=(do
   let ov <- eval o X.env
   standAt apos.atName
   let (f,first) <- holding [ov] (getMethod ov m pl)
   callWith pos f first (backTo pos (starEach (e::es) X.env)) (backToKw pos (keywordEach [] X.env))):=by rfl) :
  PE X (.Call (.Attribute o m apos) (e::es) [] pos) (qeB C m sp dvs E ta t):=by
 intro g s σ H Q I h;refine PySem.W.methodCall_KW (pl:=pl) (thn (v g s σ H _ I h) fun u s1 ⟨x,H1,I1,rx,a,dx,fs,ex,ea,l,q⟩=>?_) j;subst ex;obtain rfl:u=Value.ref a:=rx;refine qMQ I1 ea c i l ?_;refine PySem.W.callWith_K (first:=[.ref a]) (h₀:=X.base) I.ok.mod.kin i.kp (thn (ha pos g s1 σ H1 _ I1 q) fun us s2 ⟨vs,H2,I2,r,q2⟩=>⟨I2.kIn,?_⟩) b d;exact qZ2 (us:=.ref a::us) (vs:=.ref a::vs) F y p n z I2 (.cons rfl r) q2
structure Mk (K:PySem.W.Frag) (C f:Addr):Prop where
 makes:PySem.W.makesIn K C=true
 init:PySem.W.findIn K (.ref C) "__init__" = some (some (.ref f))
 fn:PySem.W.isFn K (.ref f)=true
 kp:PySem.W.keepIn K (.ref C)=true
theorem qXH {Aa:List (Addr × Obj)} {σ:St} {H:Hp} {s:Shared} {Q:VK} {us:List Value} {vs:List V} (M:Mk X.K C f) (F:FnOk X.prog X.w X.K X.mg X.base CX k f fd ps sp) (q:Room (k+1) X.A) (n:Binds X.K fd ps ds) (l:Vals dvs ds)
  (t:qMX CX X E) (I:Inv X Aa σ H s) (r:Vals vs us)
  (h:∀ x dx,H x=none->H dx=none->dx ≠ x->sp (.ref x::(vs++dvs)) (Af (Af H dx (.own x)) x (.ins C dx [])) (fun v H2=>v=.non/\Q (.ref x) H2) E) :
  wpAny (model X.prog X.w) X.A (call (.ref C) us) (EP X Aa σ Q) X.xe s:=by
 have d:=h (s.heap.objs.size+1) s.heap.objs.size (I.hok.fresh (Nat.le_succ _)) (I.hok.fresh (Nat.le_refl _)) (Nat.ne_of_lt (Nat.lt_succ_self _));have b:=Inv.made (C:=C) I;have c:Vals (V.ref (s.heap.objs.size+1)::(vs++dvs)) (Value.ref (s.heap.objs.size+1)::(us++ds)):=.cons rfl (r.append l);have m:(Value.ref (s.heap.objs.size+1)::us++ds).length=ps.length:=by
  have e:=c.length;rw [F.len _ _ _ _ d] at e;exact e.symm
 refine wpAny_call (qY1 (f:=f) I.kIn M.makes M.init (beq_iff_eq.mp M.fn) (codeAny_mono (F.run _ X.stack _ _ ⟨Value.ref (s.heap.objs.size+1)::us,[]⟩ (Value.ref (s.heap.objs.size+1)::(us++ds)) _ _ E (q.make C us [])
  (b.env0.make C us []) (n _ (Value.ref (s.heap.objs.size+1)::us) b.kIn m) c d) fun r y a=>?_))
 cases r with
 | error e=>exact t Aa σ _ _ e y b a
 | ok fl=>
  cases fl with
  | ret u=>
   obtain ⟨v,p,j,i,g,o⟩:=b.after a;subst g;exact ⟨i,⟨V.ref (s.heap.objs.size+1),p,j,rfl,o⟩⟩
  | next=>exact False.elim a
  | brk=>exact False.elim a
  | cont=>exact False.elim a
theorem qXT (M:Mk X.K C f) (F:FnOk X.prog X.w X.K X.mg X.base CX k f fd ps sp) (g:Room (k+1) X.A) (b:Gl X x) (c:X.mg x=some (.ref C)) (e:Binds X.K fd ps ds) (d:Vals dvs ds) (i:qMX CX X E)
  (a:(x == ("__debug__" : Str))=false:=by decide):PE X (.Call (.Name x p) [] [] pos) (qeC C sp dvs E tNil):=by
 intro j s σ H Q I h;refine wpAny_Call_Name_kw (qLB I b c ?_ a);exact PySem.W.callWith_K0 I.kIn M.kp (qXH (us:=[]) M F g e d i I .nil h)
end
section
variable {X:Cx} {CX:CXT} {k:Nat} {f C:Addr} {fd:FuncData} {ps ks:List Str} {sp:Sp} {E:XK} {x m:Str} {p pos apos kpos:Pos} {e o:Expr} {es:List Expr} {kws:List Keyword} {te ta:TE} {t tk:TA} {nm:Option Str}
structure KBinds (K:PySem.W.Frag) (fd:FuncData) (ps ks:List Str) (g:List Value->List Value->List Value) (gV:List V->List V->List V):Prop where
 to:∀ (s:Shared) (us ws:List Value),K.In s.heap->(g us ws).length=ps.length->BindsTo s fd ⟨us,ks.zip ws⟩ (ps.zip (g us ws))
 rel:∀ {vs:List V} {us:List Value} {zs:List V} {ws:List Value},Vals vs us->Vals zs ws->Vals (gV vs zs) (g us ws)
variable {g:List Value->List Value->List Value} {gV:List V->List V->List V}
end
structure FnScope (N P:List Str) (sc:Scope):Prop where
 kind:sc.kind=.function
 co:sc.isCoroutine=false
 gen:sc.isGenerator=false
 nd:N.Nodup
 pre:N.take P.length=P
 par:∀ x ∈ P,sc.names.lookup x=some .local\/sc.names.lookup x=some .cell
 nofree:∀ y ∈ sc.names,y.2 ≠ .free
theorem qQ2 {kindOf:Str->Option NameKind} {x:Str}:∀ {binds:List (Str × Value)} {m:Str->Option Value},(∀ v,(x,v) ∉ binds)->bindL kindOf binds m x=m x
 | [],_,_=>rfl
 | (n,v)::r,m,h=>by
  unfold bindL;rw [qQ2 fun w hw=>h w (List.mem_cons_of_mem _ hw)]
  split
  ·have:x ≠ n:=by rintro rfl;exact h v List.mem_cons_self
   simp [this]
  ·rfl
theorem qQ4 {kindOf:Str->Option NameKind} {x:Str}:∀ {binds:List (Str × Value)} {m:Str->Option Value},(∀ v,(x,v) ∉ binds)->bindC kindOf binds m x=m x
 | [],_,_=>rfl
 | (n,v)::r,m,h=>by
  unfold bindC;rw [qQ4 fun w hw=>h w (List.mem_cons_of_mem _ hw)]
  split
  ·rfl
  ·have:x ≠ n:=by rintro rfl;exact h v List.mem_cons_self
   simp [this]
theorem qQ3 {kindOf:Str->Option NameKind} {x:Str} {v:Value}:∀ {P:List Str} {vs:List Value} {i:Nat} {m:Str->Option Value},P.Nodup->P[i]?=some x->vs[i]?=some v->kindOf x=some .local->
  bindL kindOf (P.zip vs) m x=some v
 | [],_,_,_,_,h,_,_=>by simp at h
 | _::_,[],_,_,_,_,h,_=>by simp at h
 | p::P,w::vs,0,m,nd,h1,h2,hk=>by
  simp at h1 h2;subst h1;subst h2;show bindL kindOf ((p,w)::P.zip vs) m p=_;unfold bindL;rw [qQ2 fun v hv=>(List.nodup_cons.mp nd).1 (List.of_mem_zip hv).1,if_pos hk];simp
 | p::P,w::vs,i+1,m,nd,h1,h2,hk=>by
  show bindL kindOf ((p,w)::P.zip vs) m x=_;unfold bindL;exact qQ3 (i:=i) (List.nodup_cons.mp nd).2 (by simpa using h1) (by simpa using h2) hk
theorem qQ5 {kindOf:Str->Option NameKind} {x:Str} {v:Value}:∀ {P:List Str} {vs:List Value} {i:Nat} {m:Str->Option Value},P.Nodup->P[i]?=some x->vs[i]?=some v->kindOf x ≠ some .local->
  bindC kindOf (P.zip vs) m x=some v
 | [],_,_,_,_,h,_,_=>by simp at h
 | _::_,[],_,_,_,_,h,_=>by simp at h
 | p::P,w::vs,0,m,nd,h1,h2,hk=>by
  simp at h1 h2;subst h1;subst h2;show bindC kindOf ((p,w)::P.zip vs) m p=_;unfold bindC;rw [qQ4 fun v hv=>(List.nodup_cons.mp nd).1 (List.of_mem_zip hv).1,if_neg hk];simp
 | p::P,w::vs,i+1,m,nd,h1,h2,hk=>by
  show bindC kindOf ((p,w)::P.zip vs) m x=_;unfold bindC;exact qQ5 (i:=i) (List.nodup_cons.mp nd).2 (by simpa using h1) (by simpa using h2) hk
noncomputable def qLX (N:List Str) (vs:List V):St:=vs.map some++List.replicate (N.length - vs.length) none
noncomputable def cxOf (CX:CXT) (P:Program) (w:World) (K:PySem.W.Frag) (mg:Str->Option Value) (base:Heap) (N:List Str) (qual:Str) (scope:Scope) (f:Addr) (cd:Value) (A:Around) (outer:List Env) (s:Shared) (H:Hp) (E:XK):Cx where
 prog:=P
 w:=w
 K:=K
 mg:=mg
 base:=base
 A:=A.deeper (envOfC qual scope s.heap.objs.size f cd)
 N:=N
 s₀:=s
 H₀:=H
 env:=envOfC qual scope s.heap.objs.size f cd
 outer:=outer
 stack:=envOfC qual scope s.heap.objs.size f cd::outer
 ex:=[]
 calm:=true
 fn:=fun _=>true
 pn:=[]
 xe:=fun e s'=>wpAny (model P w) (A.deeper (envOfC qual scope s.heap.objs.size f cd)) (leaving (envOfC qual scope s.heap.objs.size f cd) e) (fun _ s''=>CX outer H s E e s'') (fun e' s''=>CX outer H s E e' s'') s'
theorem qSM {a:Scope} {n:Nat} {x:Str} (h:a.names.lookup x=some .cell):∃ c,(cellsFrom n a.names []).lookup x=some c:=by
 have q:=PySem.W.cellsFrom_some a.names n [] (.inl h);exact Option.isSome_iff_exists.mp q
theorem qVO {CX:CXT} {P:Program} {w:World} {K:PySem.W.Frag} {mg:Str->Option Value} {base:Heap} {N ps:List Str} {j:Str} {d:Scope} {f:Addr} {cd:Value} {A:Around} {g:List Env} {s s1:Shared} {H:Hp} {E:XK} {us:List Value} {vs:List V}
  (S:FnScope N ps d) (hd:A.handled=none) (m:Env0 P w K mg base A g s H) (hl:vs.length=ps.length) (r:Vals vs us)
  (x:InCallC s s.heap.objs.size (bindL (envOfC j d s.heap.objs.size f cd).kindOf (ps.zip us) fun _=>none) (cellsFrom (s.heap.objs.size+1) d.names []) (bindC (envOfC j d s.heap.objs.size f cd).kindOf (ps.zip us) fun _=>none) s1) :
  Inv (cxOf CX P w K mg base N j d f cd A g s H E) [] (qLX N vs) H s1:=by
 have a0:ps.length<=N.length:=by have:=congrArg List.length S.pre;rw [List.length_take] at this;lia
 obtain ⟨h1,tk,rfl,hk⟩:=x.done;have o:∀ b:Addr,b ∉ (cxOf CX P w K mg base N j d f cd A g s H E).ex:=fun b z=>absurd (show b ∈ ([]:List Addr) from z) (by simp)
 refine ⟨⟨m.mod,S.kind,rfl,rfl,Nat.le_refl _,fun y z c h1 l=>?_,fun y hy=>?_,fun y c _ h=>?_,fun _=>hd,Around.frames_deeper m.frames,.inr ⟨rfl,rfl⟩,fun b z=>absurd z (o b),m.bs,m.bsz,fun b _ _=>o b,fun b z=>absurd z (o b),m.funs,m.frf⟩,
  rfl,m.bare,Un.kept hk,⟨_,x.toInCall.ns,fun i y v h1 l h3=>?_⟩,fun y c h=>⟨_,x.cell y c h⟩,m.hok.fresh (Nat.le_refl _),fun y c h=>?_,fun p hp=>absurd (show p ∈ ([]:List (Addr × Obj)) from hp) (by simp),m.hok.kept hk,?_⟩
 ·exact name_of_addr x.apart (PySem.mem_of_lookup h1) (PySem.mem_of_lookup l)
 ·have hy:d.names.lookup y=some .cell\/d.names.lookup y=some .free:=hy;rcases hy with hy | hy
  ·exact qSM hy
  ·exact absurd rfl (S.nofree _ (PySem.mem_of_lookup hy))
 ·exact Nat.le_of_lt (x.above y c (PySem.mem_of_lookup h))
 ·have hi:i<vs.length:=by
   unfold qLX at l;by_cases hi:i<vs.length
   ·exact hi
   ·rw [List.getElem?_append_right (by simpa using hi)] at l
    rw [List.getElem?_replicate] at l
    split at l <;> cases l
  have ha:vs[i]?=some v:=by
   unfold qLX at l;rw [List.getElem?_append_left (by simpa using hi),List.getElem?_map] at l
   cases e:vs[i]? with
   | none=>rw [e] at l;cases l
   | some a=>rw [e] at l;cases l;rfl
  obtain ⟨u,hu,rv⟩:=r.get ha;have hp:ps[i]?=some y:=by
   rw [<- S.pre,List.getElem?_take_of_lt (by lia)];exact h1
  have t:ps.Nodup:=by rw [<- S.pre];exact S.nd.sublist (List.take_sublist _ _)
  refine ⟨u,rv,?_⟩;rcases S.par y (List.mem_of_getElem? hp) with k | k
  ·exact .inl ⟨k,qQ3 t hp hu k⟩
  ·obtain ⟨c,e⟩:=qSM (n:=s.heap.objs.size+1) k;refine .inr ⟨.inl k,c,e,?_⟩;have q:=x.cell y c e;rw [qQ5 t hp hu (by show d.names.lookup y ≠ _;rw [k];decide)] at q
   exact q
 ·exact m.hok.fresh (Nat.le_of_lt (x.above y c (PySem.mem_of_lookup h)))
 ·unfold qLX;show _=N.length;rw [List.length_append,List.length_map,List.length_replicate]
  lia
theorem qdT {CX:CXT} {P:Program} {w:World} {K:PySem.W.Frag} {mg:Str->Option Value} {base:Heap} {k:Nat} {f:Addr} {name c:Str} {g:Arguments} {h:List Stmt} {a:Scope} {dV kV a0 pm d ct oc:Value} {an od:Option Addr}
  {a3:Array (Option Value)} {N ps:List Str} {sp:Sp} (lk:K.lookup f=some ⟨oc,od,.func (PySem.W.fnOf name c g h a dV kV a0 pm an d ct),a3⟩) (a2:PySem.W.codeIn K d c=true) (S:FnScope N ps a)
  (a1:∀ vs H Q E,sp vs H Q E->vs.length=ps.length)
  (j:∀ (A:Around) (outer:List Env) (s:Shared) (H:Hp) (vs:List V) (Q:VK) (E:XK),Room k (A.deeper (envOfC c a s.heap.objs.size f d))->sp vs H Q E->
   ∃ t,PSs (cxOf CX P w K mg base N c a f d A outer s H E) h t/\t { nx:=fun _ H'=>Q .non H',rt:=Q } (qLX N vs) H) :
  FnOk P w K mg base CX (k+1) f (PySem.W.fnOf name c g h a dV kV a0 pm an d ct) ps sp:=by
 refine ⟨a1,fun A outer s H a5 us vs Q E hr p hb r z=>?_⟩;have hl:=a1 _ _ _ _ z;have KX:K.In s.heap:=p.mod.kin.keeps fun b o e=>(p.bs b o e).1;have a4:s.heap.NoLimit:=p.mod.nolimit.keeps fun b o e=>(p.bs b o e).1;have i:∀ y ∈ ps.zip us,a.names.lookup y.1=some .local\/(a.names.lookup y.1=some .cell/\((cellsFrom (s.heap.objs.size+1) a.names []).lookup y.1).isSome=true):=fun ⟨n,v⟩ hy=>by
  rcases S.par n (List.of_mem_zip hy).1 with q | q
  ·exact .inl q
  ·exact .inr ⟨q,PySem.W.cellsFrom_some _ _ _ (.inl q)⟩
 refine codeAny_call_function hr.depth (KX _ _ lk) rfl S.co S.gen rfl (PySem.W.codeRec_of KX a2) (hb _ _ _ _ ?_);refine wpAny_newFunctionEnv_cells S.kind i fun a6 he s1 x=>?_;subst he;refine ⟨a4.keeps x.toInCall.keep,codeAny_func ?_⟩;obtain ⟨t,ht,hq⟩:=j A outer s H vs Q E (hr.deeper _) z;have I:Inv (cxOf CX P w K mg base N c a f d A outer s H E) [] (qLX N vs) H s1:=qVO S hr.hd p hl r x;refine wpAny_mono (ht [] s1 (qLX N vs) H _ I hq) (fun fl s' l=>?_) fun e s' l=>l;have m:∀ {σ':St} {H':Hp} {v:V} {u:Value},Inv (cxOf CX P w K mg base N c a f d A outer s H E) [] σ' H' s'->RelV v u->Q v H'->CE outer P w H s Q u s':=
  fun {σ' H' v u} J rv q=>⟨v,H',J.os,J.bare,J.base,J.hok,rv,q⟩
 cases fl with
 | ret u=>
  obtain ⟨v,σ',H',J,rv,q⟩:=l;exact m J rv q
 | next=>
  obtain ⟨σ',H',J,q⟩:=l;exact m (v:=V.non) (u:=Value.none) J rfl q
 | brk=>
  obtain ⟨_,_,_,q⟩:=l;exact False.elim q
 | cont=>
  obtain ⟨_,_,_,q⟩:=l;exact False.elim q
end L2
namespace L2
open PySem PySem.Spec PyProof.Rows
section
variable {X:Cx} {x:Str} {p pos:Pos} {e:Expr} {es:List Expr} {t:TA} {id T:String} {r:List V->Hp->VK->Prop}
def tCB (r:List V->Hp->VK->Prop) (t:TA):TE:=fun σ H Q=>t σ H fun vs H1=>r vs H1 Q
theorem qAA (f:qD1 X (.builtin id) r) (g:Gl X x) (i:X.mg x=none) (d:bootBuiltins x=some (.builtin id)) (l:PA X (e::es) t) (k:x ≠ "__name__":=by decide) (b:(x == ("__debug__" : Str))=false:=by decide)
  (j:starEach (e::es) X.env=(false,eval e X.env)::starEach es X.env:=by rfl) (a:(backTo pos (starEach es X.env)).any (·.1)=false:=by rfl):PE X (.Call (.Name x p) (e::es) [] pos) (tCB r t):=by
 intro c s σ H Q I h;refine wpAny_Call_Name_kw (qMO I g i d ?_ k b);exact PyProof.Rows.callWith_builtin1 (thn (l pos c s σ H _ I h) fun us s1 ⟨vs,H1,I1,r1,q1⟩=>f c s1 σ H1 vs us Q I1 r1 q1) j a
theorem qAK (f:qD1 X (.type T) r) (g:Gl X x) (i:X.mg x=none) (d:bootBuiltins x=some (.type T)) (l:PA X (e::es) t) (k:x ≠ "__name__":=by decide) (b:(x == ("__debug__" : Str))=false:=by decide)
  (j:starEach (e::es) X.env=(false,eval e X.env)::starEach es X.env:=by rfl) (a:(backTo pos (starEach es X.env)).any (·.1)=false:=by rfl):PE X (.Call (.Name x p) (e::es) [] pos) (tCB r t):=by
 intro c s σ H Q I h;refine wpAny_Call_Name_kw (qMO I g i d ?_ k b);exact PyProof.Rows.callWith_type1 (thn (l pos c s σ H _ I h) fun us s1 ⟨vs,H1,I1,r1,q1⟩=>f c s1 σ H1 vs us Q I1 r1 q1) j a
end
end L2
namespace HT
open PySem PyProof.Rows
noncomputable def lexLt:List Int->List Int->Bool
 | [],[]=>false
 | [],_::_=>true
 | _::_,[]=>false
 | x::xs,y::ys=>if x=y then lexLt xs ys else decide (x<y)
section
open PySem.SeqAt
open PySem.AutoSeq1 (wpAny_loadPart')
open PySem.MeetsSeq PySem.MeetsSeq2 PySem.MeetsSeq3
end
section
variable {prog:Program} {w:World} {A:Around} {E:Value->Shared->Prop} {s:Shared}
noncomputable def sIx (n d:Nat):Option Int->Nat
 | none=>d
 | some v=>if v<0 then (v+(n:Int)).toNat else min v.toNat n
theorem sIx_none (n d:Nat):sIx n d none=d:=rfl
theorem sIx_nat (n d k:Nat):sIx n d (some (k:Int))=min k n:=by
 show (if (k:Int)<0 then ((k:Int)+(n:Int)).toNat else min (k:Int).toNat n)=min k n
 rw [if_neg (by lia),Int.toNat_natCast]
theorem qcX (n d:Nat) (b:d<=n) (o:Option Int):sIx n d o<=n:=by
 cases o with
 | none=>exact b
 | some v=>
  show (if v<0 then (v+(n:Int)).toNat else min v.toNat n)<=n
  by_cases a:v<0
  ·rw [if_pos a];lia
  ·rw [if_neg a];exact Nat.min_le_right _ _
theorem qWH (v:Int) (n d:Nat):(if v<0 then max (v+(n:Int)) 0 else min v (n:Int))=((sIx n d (some v):Nat):Int):=by
 show (if v<0 then max (v+(n:Int)) 0 else min v (n:Int))=(((if v<0 then (v+(n:Int)).toNat else min v.toNat n):Nat):Int)
 by_cases a:v<0
 ·simp only [if_pos a];lia
 ·simp only [if_neg a];lia
theorem qTP (lo hi:Option Int) (n:Nat):Builtin.Slice.sliceAdjust lo hi 1 (n:Int)=(((sIx n 0 lo:Nat):Int),((sIx n n hi:Nat):Int)):=by
 have a:¬ ((1:Int)<0):=by lia
 unfold Builtin.Slice.sliceAdjust;simp only [a,if_false];refine Prod.ext ?_ ?_
 ·cases lo with
  | none=>rfl
  | some v=>exact qWH v n 0
 ·cases hi with
  | none=>rfl
  | some v=>exact qWH v n n
theorem qSZ (i j:Nat):Builtin.Slice.slicePlaces (i:Int) (j:Int) 1=j - i:=by
 unfold Builtin.Slice.slicePlaces;have a:(1:Int) > 0:=by lia
 simp only [a,if_true,Int.ediv_one]
 split <;> lia
theorem qME {v:Value} {o:Option Int} {Q:Option Int->Shared->Prop} (p:IsPart v o) (h:Q o s):wpAny (model prog w) A (Builtin.Slice.slicePartIndex v) Q E s:=by
 cases p with
 | none=>exact slicePart_none h
 | int i t=>exact slicePart_int h
theorem qK5 {e:Addr} {c d:Value} {lo hi:Option Int} {n:Nat} {Q:Int × Int × Nat->Shared->Prop} (g:s.heap.IsSliceOf e c d .none) (pl:IsPart c lo) (f:IsPart d hi)
  (h:Q (((sIx n 0 lo:Nat):Int),1,sIx n n hi - sIx n 0 lo) s):wpAny (model prog w) A (Builtin.Slice.sliceApplied (.ref e) (pure (n:Int))) Q E s:=by
 obtain ⟨j,a,i,b⟩:=id g;unfold Builtin.Slice.sliceApplied Builtin.Slice.sliceFields;refine wpAny_bind (wpAny_bind (wpAny_field a b (x:=c) rfl (wpAny_bind (wpAny_field a b (x:=d) rfl (wpAny_bind (wpAny_field a b (x:=.none) rfl (wpAny_pure ?_)))))));refine wpAny_bind (slicePart_none ?_);show wpAny _ _ (if ((1:Int) == 0)=true then _ else _) _ _ s
 rw [if_neg (by decide)]
 refine wpAny_bind (qME pl (wpAny_bind (qME f (wpAny_bind (wpAny_pure ?_)))));show wpAny _ _ (match Builtin.Slice.sliceAdjust lo hi 1 (n:Int) with | (lo,hi)=>pure (lo,(1:Int),Builtin.Slice.slicePlaces lo hi 1)) _ _ s
 rw [qTP lo hi n];show wpAny _ _ (pure (((sIx n 0 lo:Nat):Int),(1:Int),Builtin.Slice.slicePlaces ((sIx n 0 lo:Nat):Int) ((sIx n n hi:Nat):Int) 1)) _ _ s;rw [qSZ];exact wpAny_pure h
theorem qXS (xs:Array Value) (i k:Nat):((List.range k).filterMap fun (m:Nat)=>xs[((i:Int)+(m:Int) * 1).toNat]?).toArray=((xs.toList.drop i).take k).toArray:=by
 have e:(fun (m:Nat)=>xs[((i:Int)+(m:Int) * 1).toNat]?)=fun m=>xs[i+m]?:=by
  funext m
  have:((i:Int)+(m:Int) * 1).toNat=i+m:=by lia
  rw [this]
 rw [e];have:=pick_run xs i k;rw [List.filterMap_map] at this;have a:((fun x=>xs[x]?) ∘ fun x=>i+x)=fun m=>xs[i+m]?:=rfl;rw [a] at this;rw [this]
theorem getItem_tuple_cut {t c:Addr} {Ad:Array Value} {i k:Value} {lo hi:Option Int} {Q:Value->Shared->Prop} (b:IsTup s.heap t Ad) (j:s.heap.IsSliceOf c i k .none) (pl:IsPart i lo) (n:IsPart k hi)
  (p:¬ (sIx Ad.size 0 lo=0/\sIx Ad.size Ad.size hi=Ad.size))
  (h:Q (.ref s.heap.objs.size) { s with heap:=s.heap.push { cls:=.type "tuple",data:=.seq ((Ad.toList.drop (sIx Ad.size 0 lo)).take (sIx Ad.size Ad.size hi - sIx Ad.size 0 lo)).toArray } })
  (hsz:Ad.size<=sizeLine):wpAny (model prog w) A (getItem (.ref t) (.ref c)) Q E s:=by
 have a:sizeOk (.seq ((Ad.toList.drop (sIx Ad.size 0 lo)).take (sIx Ad.size Ad.size hi - sIx Ad.size 0 lo)).toArray):=by
  show ((Ad.toList.drop (sIx Ad.size 0 lo)).take (sIx Ad.size Ad.size hi - sIx Ad.size 0 lo)).toArray.size<=sizeLine;rw [List.size_toArray,List.length_take,List.length_drop,Array.length_toList]
  lia
 have r:sIx Ad.size Ad.size hi<=Ad.size:=qcX _ _ (Nat.le_refl _) hi;obtain ⟨l,e,f,o⟩:=id j;have d:s.TypeIs (.ref c) "slice":=⟨l,e,f⟩;unfold getItem
 try with_reducible refine wpAny_holding ?_
 first | refine wpAny_bind (wpAny_pure ?_) | skip
 refine wpAny_bind (wpAny_sequenceKey b.typeIs (by decide) ?_)
 refine wpAny_bind (wpAny_callSpecial?_slot (name:=Str.ofString "__getitem__") b.typeIs PyProof.Rows.slot_tuple_getitem
  (wpAny_call_entry PyProof.Rows.slot_tuple_getitem b.typeIs entry_tuple_getitem ?_ (args_tuple_getitem _ _)))
 show wpAny _ _ (Builtin.Tuple.tupleItemsOf (.ref t) >>= _) _ _ s;refine wpAny_bind (tupleItemsOf_ b ?_);refine wpAny_bind (wpAny_typeOf d ?_);rw [if_pos (by decide)]
 refine wpAny_bind (qK5 j pl n ?_);have g:¬ ((((sIx Ad.size 0 lo:Nat):Int) == 0 && (1:Int) == 1 && (sIx Ad.size Ad.size hi - sIx Ad.size 0 lo) == Ad.size)=true):=by
  intro q;rw [Bool.and_eq_true,Bool.and_eq_true] at q;have v:((sIx Ad.size 0 lo:Nat):Int)=0:=eq_of_beq q.1.1;have u:sIx Ad.size Ad.size hi - sIx Ad.size 0 lo=Ad.size:=eq_of_beq q.2;exact p ⟨by lia,by lia⟩
 show wpAny _ _ (if (((sIx Ad.size 0 lo:Nat):Int) == 0 && (1:Int) == 1 && (sIx Ad.size Ad.size hi - sIx Ad.size 0 lo) == Ad.size)=true then _ else _) _ _ s
 rw [if_neg g,qXS]
 first
  | exact wpAny_bind (m:=Builtin.Tuple.tupleExact _) (wpAny_newObj_type (wpAny_pure ⟨_,rfl,wpAny_pure h⟩) a)
  | exact wpAny_bind (m:=Builtin.Tuple.tupleExact _) (wpAny_newObj_type (wpAny_bind (wpAny_pure (wpAny_pure ⟨_,rfl,wpAny_pure h⟩))) a)
  | exact wpAny_bind (wpAny_bind (m:=Builtin.Tuple.tupleExact _) (wpAny_newObj_type (wpAny_pure (wpAny_pure ⟨_,rfl,wpAny_pure h⟩)) a))
  | exact wpAny_bind (wpAny_bind (m:=Builtin.Tuple.tupleExact _) (wpAny_newObj_type (wpAny_pure ⟨_,rfl,wpAny_pure h⟩) a))
end
end HT
namespace L2
open PySem PySem.Spec PyProof.Rows
abbrev TO:=St->Hp->(Option Int->Hp->Prop)->Prop
def PO (X:Cx) (e:Option Expr) (t:TO):Prop:=
 ∀ (Aa:List (Addr × Obj)) (s:Shared) (σ:St) (H:Hp) (Q:Option Int->Hp->Prop),Inv X Aa σ H s->t σ H Q->
  wpAny (model X.prog X.w) X.A (evalPart e X.env) (fun u s'=>∃ o H',Inv X Aa σ H' s'/\IsPart u o/\Q o H') X.xe s
def qZY:TO:=fun _ H Q=>Q none H
def qe7 (t:TE):TO:=fun σ H Q=>t σ H fun x H1=>∃ i,x=.int i/\Q (some i) H1
section
variable {X:Cx} {e:Expr} {te:TE} {lo hi:Option Expr} {tl th:TO} {pos p2:Pos}
theorem qCS:PO X none qZY:=by
 intro a s σ H Q I h;rw [evalPart_none];exact wpAny_pure ⟨none,H,I,.none,h⟩
theorem qCR (h:PE X e te):PO X (some e) (qe7 te):=by
 intro b s σ H Q I a;rw [evalPart_some];refine thn (h b s σ H _ I a) fun u s1 ⟨x,H1,I1,r1,q1⟩=>?_;obtain ⟨i,rfl,q⟩:=q1;obtain ⟨t,rfl⟩:=r1;exact ⟨some i,H1,I1,.int i t,q⟩
def SlR (X:Cx) (r:V->Option Int->Option Int->Hp->VK->Prop):Prop:=
 ∀ (Aa:List (Addr × Obj)) (s:Shared) (σ:St) (H:Hp) (x:V) (v vl vu:Value) (lo hi:Option Int) (sl:Addr) (Q:VK),Inv X Aa σ H s->RelV x v->s.heap.IsSliceOf sl vl vu .none->IsPart vl lo->IsPart vu hi->r x lo hi H Q->
  ∃ T id,typeLookup (.type T) "__getitem__" = pure (some (.builtin id))/\s.TypeIs v T/\wpAny (model X.prog X.w) X.A (getItem v (.ref sl)) (EP X Aa σ Q) X.xe s
def tSl (r:V->Option Int->Option Int->Hp->VK->Prop) (te:TE) (tl th:TO):TE:=fun σ H Q=>te σ H fun x H1=>tl σ H1 fun l H2=>th σ H2 fun u H3=>r x l u H3 Q
theorem qBN {r:V->Option Int->Option Int->Hp->VK->Prop} (m:SlR X r) (k:PE X e te) (i:PO X lo tl) (g:PO X hi th):PE X (.Subscript e (.Slice lo hi none p2) pos) (tSl r te tl th):=by
 intro a s σ H Q I h;refine Subscript_ (thn (k a s σ H _ I h) fun v s1 ⟨x,H1,I1,r1,q1⟩=>?_);refine wpAny_Slice (thn (i a s1 σ H1 _ I1 q1) fun vl s2 ⟨l,H2,I2,pl,q2⟩=>thn (g a s2 σ H2 _ I2 q2) fun vu s3 ⟨u,H3,I3,pu,q3⟩=>?_);rw [evalPart_none];refine wpAny_pure ?_;have c:Inv X a σ H3 { s3 with heap:=s3.heap.push { cls:=.type "slice",data:=.fields #[vl,vu,.none] } }:=I3.kept (t':=s3.toks) fun b o q=>Heap.get?_push_of_some _ q;obtain ⟨T,n,j,f,d⟩:=m a { s3 with heap:=s3.heap.push { cls:=.type "slice",data:=.fields #[vl,vu,.none] } } σ H3 x v vl vu l u s3.heap.objs.size Q c r1 (Heap.IsSliceOf.new ..) pl pu q3;show wpAny (model X.prog X.w) X.A (subscriptTail e (.Slice lo hi none p2) v (.ref s3.heap.objs.size)) (EP X a σ Q) X.xe { s3 with heap:=s3.heap.push { cls:=.type "slice",data:=.fields #[vl,vu,.none] } };exact tail_any (ops:=[.ref s3.heap.objs.size,v]) f j d (by with_unfolding_all rfl)
noncomputable def cutV (xs:List V) (lo hi:Option Int):List V:=(xs.drop (HT.sIx xs.length 0 lo)).take (HT.sIx xs.length xs.length hi - HT.sIx xs.length 0 lo)
theorem qLL (xs:List V) (lo hi:Option Int):(cutV xs lo hi).length<=xs.length:=by
 unfold cutV;rw [List.length_take,List.length_drop]
 lia
def rSlT (K:PySem.W.Frag):V->Option Int->Option Int->Hp->VK->Prop:=fun x lo hi H Q=>∃ a xs,x=.ref a/\SqT K H a xs/\
 ¬ (HT.sIx xs.length 0 lo=0/\HT.sIx xs.length xs.length hi=xs.length)/\∀ p,H p=none->Q (.ref p) (Af H p (.tup (cutV xs lo hi)))
theorem qcQ:SlR X (rSlT X.K):=by
 intro w s σ H x v y z e f u Q I m l n k h;obtain ⟨a,d,rfl,t,p,q⟩:=h;cases m;obtain ⟨g,r,i,j⟩:=I.tuple t;have c:g.toArray.size=d.length:=by rw [List.size_toArray];exact r.length.symm
 refine ⟨"tuple",_,PyProof.Rows.slot_tuple_getitem.lookup,i.typeIs,?_⟩;refine HT.getItem_tuple_cut i l n k (by rw [c];exact p) ?_ (by rw [c];exact j)
 rw [c];refine ⟨.ref s.heap.objs.size,_,I.laid (t':=s.toks) (o:=.tup (cutV d e f)) (fun b ob q=>Heap.get?_push_of_some _ q) (Nat.le_refl _) ?_,rfl,q _ (I.hok.fresh (Nat.le_refl _))⟩;exact ⟨Nat.le_trans (qLL d e f) j,_,(r.drop (HT.sIx d.length 0 e)).take (HT.sIx d.length d.length f - HT.sIx d.length 0 e),IsTup.new _ _⟩
end
end L2
namespace L2
open PySem PySem.Spec PyProof.Rows
noncomputable def ixN (n:Nat) (i:Int):Option Nat:=if 0<=i then (if i<n then some i.toNat else none) else if -(n:Int)<=i then some (i+n).toNat else none
noncomputable def atI {α:Type} (xs:List α) (i:Int):Option α:=(ixN xs.length i).bind fun j=>xs[j]?
theorem qVL {n:Nat} {i:Int} {j:Nat} (h:ixN n i=some j):seqIndex? i n=some j/\j<n/\-(n:Int)<=i/\i<n:=by
 unfold ixN at h;by_cases b:0<=i
 ·rw [if_pos b] at h;by_cases a:i<n
  ·rw [if_pos a] at h;have e:i.toNat=j:=Option.some.inj h;exact ⟨by rw [seqIndex_of b a,e],by lia,by lia,a⟩
  ·rw [if_neg a] at h;cases h
 ·rw [if_neg b] at h;by_cases a : -(n:Int)<=i
  ·rw [if_pos a] at h;have e:(i+n).toNat=j:=Option.some.inj h;exact ⟨by rw [seqIndex_neg (by lia) a,e],by lia,a,by lia⟩
  ·rw [if_neg a] at h;cases h
theorem qRG {α:Type} {xs:List α} {i:Int} {v:α} (h:atI xs i=some v):∃ j,seqIndex? i xs.length=some j/\xs[j]?=some v/\j<xs.length/\-(xs.length:Int)<=i/\i<xs.length:=by
 unfold atI at h;cases e:ixN xs.length i with
 | none=>rw [e] at h;cases h
 | some j=>
  rw [e] at h;obtain ⟨a,d,b,c⟩:=qVL e;exact ⟨j,a,h,d,b,c⟩
theorem qAN {α:Type} {xs:List α} {j:Nat} {v:α} (h:xs[j]?=some v):atI xs (j:Int)=some v:=by
 have a:j<xs.length:=(List.getElem?_eq_some_iff.mp h).1;have e:ixN xs.length (j:Int)=some j:=by
  unfold ixN;rw [if_pos (by lia),if_pos (by lia)];simp
 unfold atI;rw [e];exact h
theorem qG7 {α:Type} (xs:List α) (v:α):atI (xs++[v]) (-1)=some v:=by
 have a:(xs++[v]).length=xs.length+1:=by simp
 have e:ixN (xs++[v]).length (-1)=some xs.length:=by
  unfold ixN;rw [a,if_neg (by decide),if_pos (by lia)]
  congr 1
  lia
 unfold atI;rw [e];show (xs++[v])[xs.length]?=some v;simp
def qbT (b:Expr):Prop:=∀ o i,subscripted b false o i=operate [o,i] (getItem o i)
def IxR (X:Cx) (r:R2):Prop:=
 ∀ (value slice:Expr) (Aa:List (Addr × Obj)) (s:Shared) (σ:St) (H:Hp) (x y:V) (v u:Value) (Q:VK),Inv X Aa σ H s->RelV x v->RelV y u->r x y H Q->
  subscripted slice false v u=operate [v,u] (getItem v u)->wpAny (model X.prog X.w) X.A (subscriptTail value slice v u) (EP X Aa σ Q) X.xe s
def MtR (X:Cx) (id:String) (r:V->List V->Hp->VK->Prop):Prop:=
 ∀ (Aa:List (Addr × Obj)) (s:Shared) (σ:St) (H:Hp) (x:V) (xs:List V) (v:Value) (us:List Value) (Q:VK),Inv X Aa σ H s->RelV x v->Vals xs us->r x xs H Q->
  wpAny (model X.prog X.w) X.A (call (.builtin id) (v::us)) (EP X Aa σ Q) X.xe s
section
variable {X:Cx} {a b:Expr} {ta tb:TE} {pos:Pos}
theorem qBB {r:R2} (k:IxR X r) (m:PE X a ta) (g:PE X b tb) (d:qbT b):PE X (.Subscript a b pos) (tOp r ta tb):=by
 intro c s σ H Q I h;exact Subscript_ (binT m g I h fun v u f x y l i e j q=>k a b c f σ l x y v u Q i e j q (d _ _))
def rIxL (K:PySem.W.Frag):R2:=fun x y H Q=>∃ p xs i v,x=.ref p/\y=.int i/\SqL K H p xs/\atI xs i=some v/\Q v H
def rIxT (K:PySem.W.Frag):R2:=fun x y H Q=>∃ p xs i v,x=.ref p/\y=.int i/\SqT K H p xs/\atI xs i=some v/\Q v H
def rIxS:R2:=fun x y H Q=>∃ z i c,x=.str z/\y=.int i/\z.length<=sizeLine/\atI z.cps.toList i=some c/\Q (.str ⟨#[c]⟩) H
theorem qAM:IxR X (rIxL X.K):=by
 intro d e m s σ H x y v u Q I rx ry h n;obtain ⟨p,xs,i,z,rfl,rfl,hq,he,q⟩:=h;cases rx;obtain ⟨t,rfl⟩:=ry;obtain ⟨c,r,f,hz⟩:=I.list hq;obtain ⟨j,b,h2,h3,h4,h5⟩:=qRG he;obtain ⟨w,l,k⟩:=r.get h2;have hl:=r.length;have hn:=qLA;have a:EP X m σ Q w s:=⟨z,H,I,k,q⟩;by_cases o:0<=i
 ·have g:i.toNat=j:=by
   rw [seqIndex_of o h5] at b;exact Option.some.inj b
  exact item_listR f.isList o (by lia) (by rw [g];simpa using l) a n
 ·have g:(i+(c.toArray.size:Int)).toNat=j:=by
   rw [seqIndex_neg (by lia) h4] at b
   rw [List.size_toArray,<- hl];exact Option.some.inj b
  exact subscriptTail_builtinR (x:=w) f.isList.typeIs slot_list_getitem.lookup
   (wpAny_getItem_list_neg (Q:=fun r s'=>r=w/\EP X m σ Q r s') f.isList (by lia) (by rw [List.size_toArray] <;> lia) (by lia) (by rw [g];simpa using l) ⟨rfl,a⟩) n
theorem qSA:IxR X (rIxT X.K):=by
 intro b c e s σ H x y v u Q I k ry h o;obtain ⟨p,xs,i,z,rfl,rfl,n,he,q⟩:=h;cases k;obtain ⟨t,rfl⟩:=ry;obtain ⟨m,r,f,hz⟩:=I.tuple n;obtain ⟨j,h1,h2,h3,h4,h5⟩:=qRG he;obtain ⟨w,g,d⟩:=r.get h2;have l:=r.length;have hn:=qLA;have a:EP X e σ Q w s:=⟨z,H,I,d,q⟩;exact subscriptTail_builtinR (x:=w) f.typeIs slot_tuple_getitem.lookup
  (getItem_tuple (j:=j) (Q:=fun r s'=>r=w/\EP X e σ Q r s') f (by lia) (by lia) (by rw [List.size_toArray,<- l];exact h1) (by simpa using g) ⟨rfl,a⟩) o
theorem qVK:IxR X rIxS:=by
 intro a b w s σ H x y v u Q I k p h f;obtain ⟨z,i,c,rfl,rfl,hz,o,q⟩:=h;obtain ⟨t,rfl⟩:=k;obtain ⟨t',rfl⟩:=p;obtain ⟨j,d,r,h3,n,g⟩:=qRG o;have m:z.cps.toList.length=z.length:=by simp [Str.length]
 rw [m] at d n g;have hn:=qLA;exact tail_any (typeIs_str s z t) slot_str_getitem.lookup (getItem_str (c:=c) (by
  have e:decide (i < -(2 ^ 63:Int))=false:=decide_eq_false (by lia)
  have l:decide (i >= 2 ^ 63)=false:=decide_eq_false (by lia)
  rw [e,l,Bool.or_false]) (by rw [d];simpa using r) ⟨.str ⟨#[c]⟩,H,I.tok _,⟨_,rfl⟩,q⟩) f
theorem qT7 (a:List Value) (n j:Nat) (u:Value):Obj.mapSeq (·.setIfInBounds j u) { cls:=.type "list",data:=.seq a.toArray n }={ cls:=.type "list",data:=.seq (a.set j u).toArray n }:=by
 simp [Obj.mapSeq]
theorem Inv.lst {Aa:List (Addr × Obj)} {σ:St} {H:Hp} {s:Shared} {p:Addr} {xs:List V} (I:Inv X Aa σ H s) (h:H p=some (.lst xs)) :
  ∃ (its:List Value) (n:Nat),Vals xs its/\s.heap.get? p=some { cls:=.type "list",data:=.seq its.toArray n }/\xs.length<=sizeLine:=by
 obtain ⟨z,its,n,r,e⟩:=I.hok p _ h;exact ⟨its,n,r,e,z⟩
theorem Inv.lstUpd {Aa:List (Addr × Obj)} {σ:St} {H:Hp} {s:Shared} {p:Addr} {xs ys:List V} {a its':List Value} {n c:Nat} {f:Obj->Obj} (I:Inv X Aa σ H s) (h:H p=some (.lst xs))
  (i:s.heap.get? p=some { cls:=.type "list",data:=.seq a.toArray n }) (d:f { cls:=.type "list",data:=.seq a.toArray n }={ cls:=.type "list",data:=.seq its'.toArray c }) (r:Vals ys its') (g:ys.length<=sizeLine) (t:Nat) :
  Inv X Aa σ (Af H p (.lst ys)) { s with heap:=s.heap.update p f,toks:=t }:=by
 have e:(s.heap.update p f).get? p=some { cls:=.type "list",data:=.seq its'.toArray c }:=by
  rw [Heap.get?_update_self f i (by rw [d] <;> rfl),d]
 refine I.write (x:=p) (e:=p) (by rw [h];trivial) (.inl rfl) (fun b u j q=>(Heap.get?_update_other _ _ (Ne.symm j)).trans q) ⟨_,e⟩ ?_
 exact ⟨g,its',c,r,e⟩
def qeL:V->V->V->Hp->(Hp->Prop)->Prop:=fun o i v H Q=>∃ p xs k j,o=.ref p/\i=.int k/\H p=some (.lst xs)/\ixN xs.length k=some j/\Q (Af H p (.lst (xs.set j v)))
theorem qFV:PSet X qeL:=by
 intro y s σ H o i v ov iv u Q I x ri z h;obtain ⟨p,xs,k,j,rfl,rfl,f,hj,q⟩:=h;cases x;obtain ⟨t,rfl⟩:=ri;obtain ⟨a,n,r,c,hz⟩:=I.lst f;obtain ⟨b,h2,m,g⟩:=qVL hj;have d:=r.length;have hn:=qLA;have w:Inv X y σ (Af H p (.lst (xs.set j v))) { s with heap:=s.heap.update p (Obj.mapSeq (·.setIfInBounds j u)) }:=
  I.lstUpd f c (qT7 a n j u) (r.set z j) (by rw [List.length_set];exact hz) s.toks
 by_cases l:0<=k
 ·have e:k.toNat=j:=by
   rw [seqIndex_of l g] at b;exact Option.some.inj b
  exact PySem.W.ki_setAt c l (by lia) (by rw [List.size_toArray,<- d];exact g) (by rw [e];exact ⟨_,w,q⟩)
 ·have e:(k+(a.toArray.size:Int)).toNat=j:=by
   rw [seqIndex_neg (by lia) m] at b
   rw [List.size_toArray,<- d];exact Option.some.inj b
  exact PySem.W.ki_setBack c (by lia) (by rw [List.size_toArray,<- d];exact m) (by lia) (by rw [e];exact ⟨_,w,q⟩)
theorem qOX (lo hi:Option Int) (n:Nat):(sliceBounds lo hi none n).1=((HT.sIx n 0 lo:Nat):Int)/\(sliceBounds lo hi none n).2.1=((HT.sIx n n hi:Nat):Int)/\(sliceBounds lo hi none n).2.2=1:=by
 refine ⟨?_,?_,rfl⟩
 ·cases lo with
  | none=>simp [sliceBounds,HT.sIx]
  | some i=>
   simp only [sliceBounds,HT.sIx,Option.getD_none,show (1:Int) > 0 by decide,if_true]
   by_cases h:i<0
   ·simp only [h,if_true] <;> lia
   ·simp only [h,if_false] <;> lia
 ·cases hi with
  | none=>simp [sliceBounds,HT.sIx]
  | some i=>
   simp only [sliceBounds,HT.sIx,Option.getD_none,show (1:Int) > 0 by decide,if_true]
   by_cases h:i<0
   ·simp only [h,if_true] <;> lia
   ·simp only [h,if_false] <;> lia
theorem qN5 (a:List Value) (lo hi:Option Int):slicePick a.toArray lo hi none=((a.drop (HT.sIx a.length 0 lo)).take (HT.sIx a.length a.length hi - HT.sIx a.length 0 lo)).toArray:=by
 obtain ⟨b,d,c⟩:=qOX lo hi a.toArray.size;unfold slicePick;rw [b,d,c];simp only [sliceRange_one,pick_run,List.size_toArray] <;> rfl
def rSlL (K:PySem.W.Frag):V->Option Int->Option Int->Hp->VK->Prop:=fun x lo hi H Q=>∃ a xs,x=.ref a/\SqL K H a xs/\∀ p,H p=none->Q (.ref p) (Af H p (.lst (cutV xs lo hi)))
theorem qCV:SlR X (rSlL X.K):=by
 intro u s σ H x v w y e f t Q I l k m i h;obtain ⟨a,c,rfl,p,q⟩:=h;cases l;obtain ⟨n,r,g,j⟩:=I.list p;have d:=r.length;refine ⟨"list",_,slot_list_getitem.lookup,g.isList.typeIs,?_⟩;refine wpAny_getItem_list_slice g.isList k m i .none (by simp) ?_ (by rw [List.size_toArray] <;> lia)
 rw [qN5,<- d];refine ⟨.ref s.heap.objs.size,_,I.laid (t':=s.toks) (o:=.lst (cutV c e f)) (fun b z q=>Heap.get?_push_of_some _ q) (Nat.le_refl _) ?_,rfl,q _ (I.hok.fresh (Nat.le_refl _))⟩;exact ⟨Nat.le_trans (qLL c e f) j,_,0,(r.drop (HT.sIx c.length 0 e)).take (HT.sIx c.length c.length f - HT.sIx c.length 0 e),Heap.get?_push_size _ rfl⟩
noncomputable def qO0:V->Bool
 | .non=>true
 | .bl _=>true
 | .int _=>true
 | .str _=>true
 | _=>false
noncomputable def eqV:V->V->Bool
 | .non,.non=>true
 | .bl a,.bl b=>a == b
 | .bl a,.int b=>(if a then 1 else 0) == b
 | .int a,.bl b=>a == (if b then 1 else 0)
 | .int a,.int b=>a == b
 | .str a,.str b=>a == b
 | _,_=>false
theorem qdV {A:Around} {s:Shared} {y x:V} {u v:Value} (f:RelV y u) (c:RelV x v) (g:qO0 y=true) (e:qO0 x=true):SeqAt.EqAt A s u v (eqV y x):=by
 cases y with
 | non=>
  cases f;cases x with
  | non=>cases c;exact SeqAt.EqAt.same _
  | bl b=>cases c;exact SeqAt.EqAt.none_bool b
  | int b=>obtain ⟨t,rfl⟩:=c;exact SeqAt.EqAt.none_int b t
  | str b=>obtain ⟨t,rfl⟩:=c;exact SeqAt.EqAt.none_str b t
  | _=>exact absurd (show false=true from e) Bool.false_ne_true
 | bl a=>
  cases f;cases x with
  | non=>cases c;exact SeqAt.EqAt.bool_none a
  | bl b=>cases c;exact SeqAt.EqAt.bool_bool a b
  | int b=>obtain ⟨t,rfl⟩:=c;exact SeqAt.EqAt.bool_int a b t
  | str b=>obtain ⟨t,rfl⟩:=c;exact SeqAt.EqAt.bool_str a b t
  | _=>exact absurd (show false=true from e) Bool.false_ne_true
 | int a=>
  obtain ⟨d,rfl⟩:=f;cases x with
  | non=>cases c;exact SeqAt.EqAt.int_none a d
  | bl b=>cases c;exact SeqAt.EqAt.int_bool a d b
  | int b=>obtain ⟨t,rfl⟩:=c;exact SeqAt.EqAt.int_int a d b t
  | str b=>obtain ⟨t,rfl⟩:=c;exact SeqAt.EqAt.int_str a d b t
  | _=>exact absurd (show false=true from e) Bool.false_ne_true
 | str a=>
  obtain ⟨d,rfl⟩:=f;cases x with
  | non=>cases c;exact SeqAt.EqAt.str_none a d
  | bl b=>cases c;exact SeqAt.EqAt.str_bool a d b
  | int b=>obtain ⟨t,rfl⟩:=c;exact SeqAt.EqAt.str_int a d b t
  | str b=>obtain ⟨t,rfl⟩:=c;exact SeqAt.EqAt.str_str a d b t
  | _=>exact absurd (show false=true from e) Bool.false_ne_true
 | _=>exact absurd (show false=true from g) Bool.false_ne_true
noncomputable def eqU (x:V) (u:Value):Bool:=match u with
 | .none=>eqV .non x
 | .bool b=>eqV (.bl b) x
 | .int i _=>eqV (.int i) x
 | .str z _=>eqV (.str z) x
 | _=>false
theorem qZH {x y:V} {u:Value} (r:RelV y u) (f:qO0 y=true):eqU x u=eqV y x:=by
 cases y with
 | non=>cases r;rfl
 | bl b=>cases r;rfl
 | int i=>obtain ⟨t,rfl⟩:=r;rfl
 | str z=>obtain ⟨t,rfl⟩:=r;rfl
 | _=>exact absurd (show false=true from f) Bool.false_ne_true
theorem qLS {x:V}:∀ {xs:List V} {us:List Value},Vals xs us->xs.all qO0=true->us.any (eqU x)=xs.any fun y=>eqV y x
 | _,_,.nil,_=>rfl
 | y::xs,u::us,.cons r t,f=>by
  rw [List.all_cons,Bool.and_eq_true] at f;rw [List.any_cons,List.any_cons,qZH r f.1,qLS t f.2]
theorem qHV {A:Around} {s:Shared} {x:V} {v:Value} (rx:RelV x v) (fx:qO0 x=true):∀ {xs:List V} {us:List Value},Vals xs us->xs.all qO0=true->∀ u ∈ us,SeqAt.EqAt A s u v (eqU x u)
 | _,_,.nil,_=>fun u hu=>by cases hu
 | y::xs,u::us,.cons r t,f=>fun u' hu=>by
  rw [List.all_cons,Bool.and_eq_true] at f;rcases List.mem_cons.mp hu with rfl | hu
  ·rw [qZH r f.1];exact qdV r rx f.1 fx
  ·exact qHV rx fx t f.2 u' hu
noncomputable def inV (x:V) (xs:List V):Bool:=xs.any fun y=>eqV y x
def rIn (K:PySem.W.Frag) (neg:Bool):R2:=fun x y H Q=>∃ p xs,y=.ref p/\(SqL K H p xs\/SqT K H p xs)/\qO0 x=true/\xs.all qO0=true/\Q (.bl (if neg then !inV x xs else inV x xs)) H
theorem qC4:OpR X (compareOp .In) (rIn X.K false):=by
 intro j s σ H x y v u Q I e i h;obtain ⟨p,k,rfl,hq,f,b,q⟩:=h;cases i;rcases hq with hq | hq
 ·obtain ⟨a,r,d,g⟩:=I.list hq;refine SeqAt.in_listAt (eqU x) d.isList (fun w c=>qHV e f r b w (by simpa using c)) ⟨.bl _,H,I,rfl,?_⟩
  rw [show a.toArray.any (eqU x)=a.any (eqU x) by simp,qLS r b]
  exact q
 ·obtain ⟨a,r,d,g⟩:=I.tuple hq;refine SeqAt.in_tupleAt (eqU x) d (fun w c=>qHV e f r b w (by simpa using c)) ⟨.bl _,H,I,rfl,?_⟩
  rw [show a.toArray.any (eqU x)=a.any (eqU x) by simp,qLS r b]
  exact q
theorem qPB:OpR X (compareOp .NotIn) (rIn X.K true):=by
 intro j s σ H x y v u Q I e i h;obtain ⟨p,k,rfl,hq,f,b,q⟩:=h;cases i;rcases hq with hq | hq
 ·obtain ⟨a,r,d,g⟩:=I.list hq;refine SeqAt.notIn_listAt (eqU x) d.isList (fun w c=>qHV e f r b w (by simpa using c)) ⟨.bl _,H,I,rfl,?_⟩
  rw [show a.toArray.any (eqU x)=a.any (eqU x) by simp,qLS r b]
  exact q
 ·obtain ⟨a,r,d,g⟩:=I.tuple hq;refine SeqAt.notIn_tupleAt (eqU x) d (fun w c=>qHV e f r b w (by simpa using c)) ⟨.bl _,H,I,rfl,?_⟩
  rw [show a.toArray.any (eqU x)=a.any (eqU x) by simp,qLS r b]
  exact q
theorem qK0:OpR X (compareOp .NotIn) (fun x y H Q=>∃ i j,x=.str i/\y=.str j/\Q (.bl (!(!(Builtin.Str.occurrences j i 0 j.length 1).isEmpty))) H):=by
 intro c s σ H x y v u Q I b a h;obtain ⟨i,j,rfl,rfl,q⟩:=h;obtain ⟨t,rfl⟩:=b;obtain ⟨d,rfl⟩:=a;exact notIn_str ⟨.bl _,H,I,rfl,q⟩
theorem qA9:qD1 X (.builtin "len") (fun xs H Q=>∃ p ys,xs=[.ref p]/\(SqL X.K H p ys\/SqT X.K H p ys)/\Q (.int ys.length) H):=by
 intro g s σ H xs i Q I r h;obtain ⟨p,ys,rfl,hq,q⟩:=h;obtain ⟨u,rfl,f⟩:=qEJ r;cases f;have j:=qLA;rcases hq with hq | hq
 ·obtain ⟨d,c,b,e⟩:=I.list hq;have a:=c.length;exact Calls.call_len_list b.isList (by simp only [List.size_toArray] <;> lia) ⟨.int ys.length,H,I.tok _,⟨s.toks+1,by rw [List.size_toArray,a]⟩,q⟩
 ·obtain ⟨d,c,b,e⟩:=I.tuple hq;have a:=c.length;exact len_tuple b (by simp only [List.size_toArray] <;> lia) ⟨.int ys.length,H,I.tok _,⟨s.toks+1,by rw [List.size_toArray,a]⟩,q⟩
theorem qDA:qD1 X (.builtin "len") (fun xs H Q=>∃ z,xs=[.str z]/\z.length<=sizeLine/\Q (.int z.length) H):=by
 intro b s σ H xs a Q I r h;obtain ⟨z,rfl,c,q⟩:=h;obtain ⟨u,rfl,t,rfl⟩:=qEJ r;have d:=qLA;exact len_str (by lia) ⟨.int z.length,H,I.tok _,⟨_,rfl⟩,q⟩
theorem qFP:qD1 X (.type "list") (fun xs H Q=>∃ p ys,xs=[.ref p]/\(SqL X.K H p ys\/SqT X.K H p ys)/\∀ l,H l=none->Q (.ref l) (Af H l (.lst ys))):=by
 intro t s σ H xs x Q I r h;obtain ⟨p,ys,rfl,hq,q⟩:=h;obtain ⟨u,rfl,v⟩:=qEJ r;cases v;have c:∀ (its:List Value),Vals ys its->ys.length<=sizeLine->∀ (h':Heap) (c':Nat),(∀ b o',s.heap.get? b=some o'->h'.get? b=some o')->
   h'.get? s.heap.objs.size=some { cls:=.type "list",dict:=none,data:=.seq its.toArray c',slots:=#[] }->EP X t σ Q (.ref s.heap.objs.size) { s with heap:=h' }:=fun its a d h' c' f e=>
  ⟨.ref s.heap.objs.size,_,I.laid (t':=s.toks) f (Nat.le_refl _) (show ObjOk X.prog X.w _ h' _ (.lst ys) from ⟨d,its,c',a,e⟩),rfl,q _ (I.hok.fresh (Nat.le_refl _))⟩
 rcases hq with hq | hq
 ·obtain ⟨its,a,m,d⟩:=I.list hq;have g:=a.length;obtain ⟨o,j,i,n,k⟩:=m.isList;exact call_list_seq p (.inl rfl) j i k (fun h' c' f e=>c its a d h' c' f e) (by simp only [List.size_toArray] <;> lia)
 ·obtain ⟨its,a,m,d⟩:=I.tuple hq;have g:=a.length;obtain ⟨o,j,i,n,k⟩:=m;exact call_list_seq p (.inr rfl) j i k (fun h' c' f e=>c its a d h' c' f e) (by simp only [List.size_toArray] <;> lia)
theorem qAV:qD1 X (.type "tuple") (fun xs H Q=>∃ p ys,xs=[.ref p]/\((SqL X.K H p ys/\∀ l,H l=none->Q (.ref l) (Af H l (.tup ys)))\/(SqT X.K H p ys/\Q (.ref p) H))):=by
 intro i s σ H xs x Q I r h;obtain ⟨p,ys,rfl,h⟩:=h;obtain ⟨u,rfl,t⟩:=qEJ r;cases t;rcases h with ⟨g,q⟩ | ⟨g,q⟩
 ·obtain ⟨a,f,d,j⟩:=I.list g;have m:=f.length;refine call_tuple_list d.isList (fun c n=>?_) (by simp only [List.size_toArray] <;> lia)
  have k:Inv X i σ H { s with heap:=c }:=I.kept (t':=s.toks) n;have v:Inv X i σ (Af H c.objs.size (.tup ys)) { s with heap:=c.push { cls:=.type "tuple",data:=.seq a.toArray } }:=
   k.laid (t':=s.toks) (fun b o e=>Heap.get?_push_of_some _ e) (Nat.le_refl _) (show ObjOk X.prog X.w _ _ _ (.tup ys) from ⟨j,a,f,IsTup.new _ _⟩)
  exact ⟨.ref c.objs.size,_,v,rfl,q _ (k.hok.fresh (Nat.le_refl _))⟩
 ·obtain ⟨a,f,d,j⟩:=I.tuple g;exact call_tuple_same d ⟨.ref p,H,I,rfl,q⟩
def tyV (K:PySem.W.Frag) (T:String) (x:V) (H:Hp):Prop:=match x with
 | .str _=>T = "str"
 | .int _=>T = "int"
 | .ref p=>(T = "list"/\∃ xs,SqL K H p xs)\/(T = "tuple"/\∃ o,K.lookup p=some o/\o.cls=.type "tuple"/\o.dict=none)\/
   (T = "dict"/\((∃ Ae,H p=some (.dK Ae))\/∃ Ae,H p=some (.dT Ae)))\/(T = "set"/\∃ S n,H p=some (.set S n))
 | _=>False
theorem qYS {Aa:List (Addr × Obj)} {σ:St} {H:Hp} {s:Shared} {T:String} {x:V} {v:Value} (I:Inv X Aa σ H s) (r:RelV x v) (f:tyV X.K T x H) :
  s.TypeIs v T/\∀ a,v=.ref a->∃ ob,s.heap.get? a=some ob/\ob.dict=none:=by
 cases x with
 | str z=>
  obtain ⟨t,rfl⟩:=r;cases (show T = "str" from f);exact ⟨typeIs_str s z t,fun _ e=>nomatch e⟩
 | int i=>
  obtain ⟨t,rfl⟩:=r;cases (show T = "int" from f);exact ⟨typeIs_int s i t,fun _ e=>nomatch e⟩
 | ref p=>
  cases r;rcases f with ⟨rfl,u,q⟩ | ⟨rfl,o,b,k,g⟩ | ⟨rfl,b⟩ | ⟨rfl,S,n,b⟩
  ·obtain ⟨m,_,j,_⟩:=I.list q;refine ⟨j.isList.typeIs,fun a e=>?_⟩;cases e;obtain ⟨o,n,e,c,g,_⟩:=j;exact ⟨o,e,g⟩
  ·refine ⟨⟨o,I.kIn p o b,k⟩,fun a e=>?_⟩;cases e;exact ⟨o,I.kIn _ o b,g⟩
  ·have z:∃ o,s.heap.get? p=some o/\o.ExactDict:=by
    rcases b with ⟨l,b⟩ | ⟨l,b⟩
    ·obtain ⟨_,_,_,_,o,_,_,e,d,_⟩:=I.hok p _ b;exact ⟨o,e,d⟩
    ·obtain ⟨_,_,_,_,o,_,_,e,d,_⟩:=I.hok p _ b;exact ⟨o,e,d⟩
   obtain ⟨o,e,d⟩:=z;refine ⟨⟨o,e,d.1⟩,fun a h=>?_⟩;cases h;exact ⟨o,e,d.2.1⟩
  ·obtain ⟨o,_,_,_,e,d,_⟩:=I.hok p _ b;refine ⟨⟨o,e,d.1⟩,fun a h=>?_⟩;cases h;exact ⟨o,e,d.2.1⟩
 | _=>exact False.elim f
def tBM0 (K:PySem.W.Frag) (T:String) (r:V->List V->Hp->VK->Prop) (to:TE):TE:=fun σ H Q=>to σ H fun x H1=>tyV K T x H1/\r x [] H1 Q
def tBM (K:PySem.W.Frag) (T:String) (r:V->List V->Hp->VK->Prop) (to:TE) (t:TA):TE:=fun σ H Q=>to σ H fun x H1=>tyV K T x H1/\t σ H1 fun xs H2=>r x xs H2 Q
variable {o e:Expr} {es:List Expr} {to:TE} {t:TA} {name:Str} {apos cpos:Pos} {T id:String} {r:V->List V->Hp->VK->Prop}
theorem qd4 (j:PlainAttrs T) (c:Slot T name id) (d:typeOf (.builtin id)=pure (.type "method_descriptor")) (g:MtR X id r) (i:PE X o to)
  (a:attributeBase o name X.env (eval o X.env)=eval o X.env:=by rfl) (b:(apos.endLine == cpos.line)=true:=by rfl):PE X (.Call (.Attribute o name apos) [] [] cpos) (tBM0 X.K T r to):=by
 intro e s σ H Q I h;refine wpAny_Call_method0_late a b (thn (i e s σ H _ I h) fun v s1 ⟨x,H1,I1,r1,ty,q1⟩=>?_);obtain ⟨f,k⟩:=qYS I1 r1 ty;exact ⟨T,id,j,c,d,f,k,Calls.callWith_builtin rfl (PySem.evalArgs_none (g e s1 σ H1 x [] v [] Q I1 r1 .nil q1))⟩
theorem qCI (p:PlainAttrs T) (f:Slot T name id) (i:typeOf (.builtin id)=pure (.type "method_descriptor")) (l:MtR X id r) (n:PE X o to) (q:PA X (e::es) t)
  (b:attributeBase o name X.env (eval o X.env)=eval o X.env:=by rfl)
  (d:((backTo cpos (starEach (e::es) X.env)).all (fun x=>!x.1) && (backToKw cpos (keywordEach [] X.env)).all (fun x=>x.1.isSome)
   && decide ((e::es).length+([]:List Keyword).length+(if ([]:List Keyword).isEmpty then 0 else 1)<30))=true:=by rfl)
  (c:(apos.endLine == cpos.line)=true:=by rfl) (m:starEach (e::es) X.env=(false,eval e X.env)::starEach es X.env:=by rfl) (a:(backTo cpos (starEach es X.env)).any (·.1)=false:=by rfl) :
  PE X (.Call (.Attribute o name apos) (e::es) [] cpos) (tBM X.K T r to t):=by
 intro g s σ H Q I h;refine wpAny_Call_method_late b d c rfl (thn (n g s σ H _ I h) fun v s1 ⟨x,H1,I1,r1,ty,q1⟩=>?_);obtain ⟨k,u⟩:=qYS I1 r1 ty;refine ⟨T,id,p,f,i,k,u,?_⟩;have j:=q cpos g s1 σ H1 _ I1 q1;rw [m] at j ⊢;refine Calls.callWith_builtin (by show (false || (backTo cpos (starEach es X.env)).any (·.1))=false;rw [a] <;> rfl) (Calls.evalArgs_plain ?_)
 exact thn j fun us s2 ⟨vs,H2,I2,r2,q2⟩=>l g s2 σ H2 x vs v us Q I2 r1 r2 q2
end
end L2
namespace L2
open PySem PySem.Spec PyProof.Rows
def MtM (X:Cx) (id:String) (r:V->List V->Hp->VK->Prop):Prop:=
 ∀ (Aa:List (Addr × Obj)) (s:Shared) (σ:St) (H:Hp) (x:V) (xs:List V) (v:Value) (us:List Value) (Q:VK),Inv X Aa σ H s->RelV x v->Vals xs us->r x xs H Q->
  wpAny (model X.prog X.w) X.A (call (.builtin id) (v::us)) (EP X Aa σ Q) X.xe s
theorem Vals.one:∀ {x:V} {us:List Value},Vals [x] us->∃ u,us=[u]/\RelV x u
 | _,_,.cons r .nil=>⟨_,rfl,r⟩
theorem Vals.two:∀ {x y:V} {us:List Value},Vals [x,y] us->∃ u v,us=[u,v]/\RelV x u/\RelV y v
 | _,_,_,.cons r (.cons q .nil)=>⟨_,_,rfl,r,q⟩
theorem Vals.eraseIdx:∀ {xs:List V} {us:List Value} (i:Nat),Vals xs us->Vals (xs.eraseIdx i) (us.eraseIdx i)
 | _,_,_,.nil=>.nil
 | _,_,0,.cons _ t=>t
 | _,_,i+1,.cons r t=>.cons r (Vals.eraseIdx i t)
theorem Vals.rep {xs:List V} {us:List Value} (h:Vals xs us):∀ k:Nat,Vals (List.replicate k xs).flatten (List.replicate k us).flatten
 | 0=>.nil
 | k+1=>by
  rw [List.replicate_succ,List.replicate_succ,List.flatten_cons,List.flatten_cons];exact Vals.append h (Vals.rep h k)
theorem qPI {α:Type}:∀ (l:List α) (i:Nat),(l.eraseIdx i).length<=l.length
 | [],_=>Nat.le_refl _
 | _::_,0=>Nat.le_succ _
 | _::r,i+1=>Nat.succ_le_succ (qPI r i)
theorem qPN (its:List Value):∀ (k:Nat) (acc:List Value),
  List.foldl (fun x1 x2=>x1++x2) acc.toArray (List.replicate k its.toArray)=(acc++(List.replicate k its).flatten).toArray
 | 0,acc=>by simp
 | k+1,acc=>by
  have e:acc.toArray++its.toArray=(acc++its).toArray:=by simp
  have e2:(acc++its)++(List.replicate k its).flatten=acc++(List.replicate (k+1) its).flatten:=by
   rw [List.replicate_succ,List.flatten_cons,List.append_assoc]
  rw [<- e2,<- qPN its k (acc++its),<- e,List.replicate_succ,List.foldl_cons]
section
variable {X:Cx} {Aa:List (Addr × Obj)} {σ:St} {H:Hp} {s:Shared} {l b:Addr} {xs ys zs:List V}
theorem Inv.lset {a its':List Value} {n:Nat} {f:Array Value->Array Value} {t':Nat} (I:Inv X Aa σ H s) (g:H l=some (.lst xs))
  (e:s.heap.get? l=some { cls:=.type "list",data:=.seq a.toArray n }) (c:f a.toArray=its'.toArray) (b:Vals ys its') (d:ys.length<=sizeLine) :
  Inv X Aa σ (Af H l (.lst ys)) { s with heap:=s.heap.update l (Obj.mapSeq f),toks:=t' }:=by
 have q:=PySem.IsL.update e f;rw [c] at q;refine I.write (x:=l) (e:=l) (by rw [g];exact trivial) (.inl rfl) (fun j u h i=>(Heap.get?_update_other s.heap (Obj.mapSeq f) (Ne.symm h)).trans i) ⟨_,q⟩ ?_
 exact ⟨d,its',_,b,q⟩
theorem Inv.lnew {a:List Value} {t':Nat} (I:Inv X Aa σ H s) (b:Vals ys a) (c:ys.length<=sizeLine) :
  Inv X Aa σ (Af H s.heap.objs.size (.lst ys)) { s with heap:=s.heap.push { cls:=.type "list",data:=.seq a.toArray },toks:=t' }:=
 I.laid (fun _ _ q=>Heap.get?_push_of_some _ q) (Nat.le_refl _) ⟨c,a,0,b,Heap.get?_push_size _ rfl⟩
theorem Inv.fresh (I:Inv X Aa σ H s):H s.heap.objs.size=none:=I.hok.fresh (Nat.le_refl _)
theorem Inv.lstM (I:Inv X Aa σ H s) (a:H l=some (.lst xs)):xs.length<=sizeLine/\∃ (its:List Value) (n:Nat),Vals xs its/\xs.length=its.length/\s.heap.get? l=some { cls:=.type "list",data:=.seq its.toArray n }:=by
 obtain ⟨z,its,n,r,e⟩:=I.hok l _ a;exact ⟨z,its,n,r,r.length,e⟩
theorem qRY {n:Nat} (h:n<=sizeLine):Builtin.List.listTooLong n=false:=by
 unfold Builtin.List.listTooLong;exact decide_eq_false (by lia)
end
section
variable {X:Cx}
def qaH:V->List V->Hp->VK->Prop:=fun x vs H Q=>∃ l xs y,x=.ref l/\vs=[y]/\H l=some (.lst xs)/\xs.length<sizeLine/\Q .non (Af H l (.lst (xs++[y])))
theorem qBQ:MtM X "list.append" qaH:=by
 intro g s σ H x i v k Q I c f h;obtain ⟨l,o,y,rfl,rfl,b,j,q⟩:=h;cases c;obtain ⟨u,rfl,d⟩:=f.one;obtain ⟨z,a,n,r,m,e⟩:=I.lstM b;refine call_meets F.slot_list_append ⟨_,e,rfl⟩ F.entry_list_append (F.args_list_append_2 _ _) (PySem.list_append l a.toArray n u (by rw [List.size_toArray];lia)) ⟨e,?_⟩
 refine ⟨.non,_,I.lset (its':=a++[u]) b e (by simp) (r.append (.cons d .nil)) ?_,rfl,q⟩
 rw [List.length_append,List.length_singleton]
 lia
def qaG:V->List V->Hp->VK->Prop:=fun x vs H Q=>∃ l b xs zs,x=.ref l/\vs=[.ref b]/\H l=some (.lst xs)/\H b=some (.lst zs)/\xs.length+zs.length<=sizeLine/\Q .non (Af H l (.lst (xs++zs)))
theorem qVB:MtM X "list.extend" qaG:=by
 intro Aa s σ H x vs v us Q I i m h;obtain ⟨l,b,xs,y,rfl,rfl,g,p,hz,q⟩:=h;cases i;obtain ⟨u,rfl,w⟩:=m.one;cases w;obtain ⟨z,c,n,r,hl,e⟩:=I.lstM g;obtain ⟨z2,a,t,j,o,k⟩:=I.lstM p;have f:c.toArray.size+a.toArray.size<=sizeLine:=by rw [List.size_toArray,List.size_toArray];lia
 have d:¬ (!c.toArray.isEmpty && Builtin.List.listTooLong (c.toArray.size+a.toArray.size))=true:=by
  rw [qRY f,Bool.and_false];exact Bool.false_ne_true
 refine call_meets F.slot_list_extend ⟨_,e,rfl⟩ F.entry_list_extend (F.args_list_extend_2 _ _)
  (AutoSeq1.list_extend_list_list_0 l c.toArray n b a.toArray t d (by rw [List.size_toArray];lia) (by lia)) ⟨e,k,?_⟩
 refine ⟨.non,_,I.lset (its':=c++a) g e (by simp) (r.append j) ?_,rfl,q⟩
 rw [List.length_append]
 lia
def qd1:V->List V->Hp->VK->Prop:=fun x vs H Q=>∃ l xs i k y,x=.ref l/\vs=[.int i]/\H l=some (.lst xs)/\-(2 ^ 63)<=i/\i<2 ^ 63/\seqIndex? i xs.length=some k/\xs[k]?=some y/\Q y (Af H l (.lst (xs.eraseIdx k)))
theorem qKJ:MtM X "list.pop" qd1:=by
 intro Aa s σ H x vs v us Q I f rv h;obtain ⟨l,m,i,k,y,rfl,rfl,c,d,h2,g,p,q⟩:=h;cases f;obtain ⟨u,rfl,o⟩:=rv.one;obtain ⟨t,rfl⟩:=o;obtain ⟨z,a,n,r,j,e⟩:=I.lstM c;obtain ⟨w,hw,b⟩:=r.get p;refine call_meets F.slot_list_pop ⟨_,e,rfl⟩ F.entry_list_pop (F.args_list_pop_2 _ _)
  (MeetsSeq.list_pop_at l a.toArray n i t k w (fitsIndex_both d h2) (by rw [List.size_toArray,<- j];exact g) (by rw [<- Array.getElem?_toList];exact hw) (by rw [List.size_toArray];lia)) ⟨e,?_⟩
 refine ⟨y,_,I.lset (its':=a.eraseIdx k) c e ?_ (r.eraseIdx k) ?_,b,q⟩
 ·show a.toArray.eraseIdxIfInBounds k=(a.eraseIdx k).toArray;rw [List.eraseIdxIfInBounds_toArray]
 ·have:=qPI m k
  lia
def rCat:R2:=fun x y H Q=>∃ l b xs zs,x=.ref l/\y=.ref b/\H l=some (.lst xs)/\H b=some (.lst zs)/\xs.length+zs.length<=sizeLine/\∀ p,H p=none->Q (.ref p) (Af H p (.lst (xs++zs)))
theorem qHO:OpR X (binaryOp .Add) rCat:=by
 intro p s σ H x y v u Q I i o h;obtain ⟨l,b,xs,zs,rfl,rfl,j,f,t,q⟩:=h;cases i;cases o;obtain ⟨z,c,n,r,hl,e⟩:=I.lstM j;obtain ⟨w,a,n2,k,d,m⟩:=I.lstM f;refine PySem.P.add_list e m ?_ (by rw [List.size_toArray,List.size_toArray];lia)
 have g:c.toArray++a.toArray=(c++a).toArray:=by simp
 rw [g];exact ⟨.ref _,_,I.lnew (t':=s.toks) (r.append k) (by rw [List.length_append];lia),rfl,q _ I.fresh⟩
def rRep:R2:=fun x y H Q=>∃ l k xs,x=.ref l/\y=.int k/\H l=some (.lst xs)/\-(2 ^ 63)<=k/\k<2 ^ 63/\xs.length * k.toNat<=sizeLine/\
 ∀ p,H p=none->Q (.ref p) (Af H p (.lst (List.replicate k.toNat xs).flatten))
theorem qb9 {α:Type} (xs:List α) (k:Nat):(List.replicate k xs).flatten.length=k * xs.length:=by
 induction k with
 | zero=>simp
 | succ k ih=>rw [List.replicate_succ,List.flatten_cons,List.length_append,ih,Nat.succ_mul,Nat.add_comm]
theorem qZ5:OpR X (binaryOp .Mult) rRep:=by
 intro Aa s σ H x y v u Q I w ry h;obtain ⟨l,k,xs,rfl,rfl,hH,h1,h2,p,q⟩:=h;cases w;obtain ⟨t,rfl⟩:=ry;obtain ⟨z,b,n,r,hl,e⟩:=I.lstM hH;have f:b.toArray.size * k.toNat<=sizeLine:=by rw [List.size_toArray,<- hl];exact p
 have d:¬ b.toArray.size * k.toNat > (2 ^ 63 - 1) / 8:=by
  have:(sizeLine:Nat)<=(2 ^ 63 - 1) / 8:=by decide
  lia
 have g:¬ (!Builtin.List.listFitsIndex k)=true:=by
  rw [fitsIndex_both h1 h2];exact Bool.false_ne_true
 have c:¬ Builtin.List.listTooLong (b.toArray.size * k.toNat)=true:=by
  rw [qRY f];exact Bool.false_ne_true
 have i:List.foldl (fun j o=>j++o) #[] (List.replicate (if b.toArray.isEmpty=true then 0 else k.toNat) b.toArray)=(List.replicate k.toNat b).flatten.toArray:=by
  have f0:∀ m:Nat,List.foldl (fun j o=>j++o) #[] (List.replicate m b.toArray)=(List.replicate m b).flatten.toArray:=fun m=>by
   have:=qPN b m [];rw [List.nil_append] at this;exact this
  rw [f0];cases b with
  | nil=>simp
  | cons a r'=>rw [if_neg (by simp)]
 refine wpAny_binaryOp_repeat_ref (T:="list") (U:="int") (by decide) ⟨_,e,rfl⟩ (fun s'=>typeIs_int s' k t) noFill_list_mul F.fills_int_mul F.slot_int_rmul repeat_list F.slot_int_index.lookup
  (call_meets F.slot_int_rmul (typeIs_int s k t) F.entry_int_rmul (F.args_int_rmul_2 _ _) (int___rmul___int_list k t l b.toArray n)
   ⟨e,rfl,⟨_,e,rfl⟩,call_meets F.slot_list_mul ⟨_,e,rfl⟩ F.entry_list_mul (F.args_list_mul_2 _ _) (AutoListH.list___mul___list_int_3 l b.toArray n k t g d c) ⟨e,?_⟩⟩)
 rw [i];exact ⟨.ref _,_,I.lnew (t':=s.toks) (r.rep k.toNat) (by rw [qb9,Nat.mul_comm];exact p),rfl,q _ I.fresh⟩
end
section
variable {prog:Program} {w:World} {A:Around} {E:Value->Shared->Prop} {s:Shared}
set_option maxRecDepth 100000 in
end
section
variable {X:Cx}
end
end L2
namespace Att
open PySem PySem.W PySem.Calls PyProof.Rows
theorem qLE {P:Params} {h:Heap}:∀ (ns:List Int) (vs:List Value),WellAll P h vs (ns.map WData.int)->IntsAre vs ns:=by
 intro ns
 induction ns with
 | nil=>
  intro vs w;rw [List.map_nil] at w;cases w;exact .nil
 | cons n ns ih=>
  intro vs w;rw [List.map_cons] at w;cases w with
  | cons a b=>
   cases a;exact .cons _ _ (ih _ b)
theorem qUL {l:OpenLaw} {n:Nat} (s:l.most=some n) {P:Params} {h:Heap} {args:List WData} {c:List Value}
  (b:l.row.toRowW.claim.pre args=true) (j:WellAll P h c args) :
  ∃ a vs ns,c=[Value.ref a]/\args=[WData.list (ns.map WData.int)]/\h.get? a=some { cls:=.type "list",data:=.seq vs.toArray }/\IntsAre vs ns/\ns.length<=n:=by
 have i:WShape.hasAll [] args [.list .int]=true:=(pre_splitW b).1;have k:l.pre.holds [] { args:=args }=true:=(pre_splitW b).2;obtain ⟨d,r,rfl,m,t⟩:=hasAllW_cons i;obtain rfl:=hasAllW_nil t;obtain ⟨u,rfl,o⟩:=hasW_list m;obtain ⟨ns,rfl⟩:=items_int o;have e:ns.length<=n:=by
  unfold OpenLaw.pre at k;have g:(WTm.not (.lt (.lit (.int (n:Int))) (.len (.arg 0)))).holds [] { args:=[.list (ns.map .int)] }=true:=by
   have g:=(holds_andW k).1;rw [s] at g;exact g
  have f:=condW_of g (w_not (w_lt w_lit (w_len_list (w_arg rfl))));rw [List.length_map] at f;refine Nat.le_of_not_lt fun q=>?_;have p:(n:Int)<((ns.length:Nat):Int):=by lia
  first
   | (rw [decide_eq_true p] at f;exact absurd f (by decide))
   | (simp at f;lia)
 cases j with
 | cons w1 w2=>
  cases w2;cases w1 with
  | list ho hall=>exact ⟨_,_,ns,rfl,rfl,ho,qLE ns _ hall,e⟩
theorem qUU (l:OpenLaw) (args:List WData):l.row.toRowW.claim.post args (.bool true) args=true:=
 postW_of (r:=l.row.toRowW) (X:=(true == true))
  (show WShape.has [] (.bool true) .bool=true by first | rfl | decide | simp [WShape.has,WShape.arms,WShape.armsAll])
  (show (WTm.eq .res (.lit (.bool true))).value [] { args:=args,res:=some (.bool true),after:=args }=some (.bool (true == true)) from w_eq_bool (w_res rfl) w_lit) rfl
theorem attach_call {l:OpenLaw} {n:Nat} {q:Program} {b:List Str} {XP:(Str->Option Value)->Heap->Prop} {YP:World->Heap->Prop} {d:DefRec}
  (hn:l.most=some n) (p:d.params.defaults=[])
  (i:∀ (w:World) (s₀ s₁:Shared) (mg mb:Str->Option Value) (fa:Addr) (o:Obj) (pm cd doc:Value) (a:Addr) (vs:List Value) (ns:List Int),
   Ground q b [] XP w s₀ mg mb s₁.heap->YP w s₁.heap->
   s₁.heap.get? fa=some o->o.data=.func (docDef d.name d.params d.body d.scope pm cd doc)->s₁.heap.CodeRec cd d.name->mg d.name=some (.ref fa)->
   s₁.heap.get? a=some { cls:=.type "list",data:=.seq vs.toArray }->IntsAre vs ns->ns.length<=n->s₁.gens=#[]->
   codeAny (model l.prog w) callerA (.call (.ref fa) ⟨[.ref a],[]⟩) (fun r s'=>r=.ok (.ret (.bool true))/\OldK s₁.heap s'.heap/\s'.os=s₁.os/\AllBare s'.gens) s₁) :
  WalkO q b XP YP l.row.toRowW d [] (fun f vs=>PySem.call f vs):=by
 intro w s₀ s₁ mg mb G Y fa o pm cd doc dV kV z hd j t k x v u as e s y m a0;obtain rfl:dV=.none:=Dflts.none t p;obtain rfl:kV=.none:=Dflts.noKw t;obtain ⟨a,vs,ns,rfl,rfl,h,c,g⟩:=qUL hn e m;refine enter_call (codeAny_mono (i w s₀ s₁ mg mb fa o pm cd doc a vs ns G Y z (fd_plain hd) j k h c g x) fun r s' hq=>?_);obtain ⟨rfl,h2,h3,h4⟩:=hq;exact ⟨.inl ⟨.bool true,.bool true,[],rfl,fun _=>rfl,.bool true,qUU l _,fun _=>⟨List.Pairwise.nil,fun _ hm=>(nomatch hm)⟩⟩,h2,h3,h4⟩
section
variable {prog:Program} {w:World} {A:Around} {E:Value->Shared->Prop} {s:Shared} {K:Frag}
end
end Att
namespace L2
open PySem PySem.Spec PyProof.Rows
theorem qKX:∀ {vs:List Value} {ns:List Int},IntsAre vs ns->Vals (ns.map V.int) vs
 | _,_,.nil=>.nil
 | _,_,.cons n t h=>.cons ⟨t,rfl⟩ (qKX h)
def Only (H:Hp):Prop:=∀ b,H b=none\/∃ o xs,H b=some (.frz o (.lst xs))
theorem law_call {P:Program} {w:World} {K:PySem.W.Frag} {mg mb:Str->Option Value} {CX:CXT} {k:Nat} {fa a:Addr} {fd:FuncData} {x:Str} {sp:Sp} {c:Shared} {vs:List Value} {ns:List Int}
  (KX:K.In c.heap) (a4:c.heap.Ns mainGlobals mg) (g:c.heap.Ns builtinsNs mb) (a6:∀ x:Str,x ≠ "__name__"->mb x=bootBuiltins x) (a3:c.heap.NoLimit) (hg:c.gens=#[])
  (ha:c.heap.get? a=some { cls:=.type "list",data:=.seq vs.toArray }) (hi:IntsAre vs ns) (hl:ns.length<=sizeLine) (hr:Room k callerA)
  (F:∀ base:Heap,K.In base->base.Ns mainGlobals mg->FnOk P w K mg base CX k fa fd [x] sp) (l:∀ (s:Shared) (u:Value),BindsTo s fd ⟨[u],[]⟩ [(x,u)])
  (a7:∀ H:Hp,Only H->SqL K H a (ns.map V.int)->sp [.ref a] H (fun v _=>v=.bl true) fun _ _ _=>False)
  (a8:∀ H e s',CX [] H c (fun _ _ _=>False) e s'->False) :
  codeAny (model P w) callerA (.call (.ref fa) ⟨[.ref a],[]⟩) (fun r s'=>r=.ok (.ret (.bool true))/\OldK c.heap s'.heap/\s'.os=c.os/\AllBare s'.gens) c:=by
 have rv:=qKX hi;have a1:=hi.length
 -- from an abstract heap in which nothing but the script may be tracked
 have j:∀ H:Hp,Only H->SqL K H a (ns.map V.int)->HOk P w H c.heap->(∀ b,H b ≠ none->b=a)->(H a ≠ none->K.lookup a=none)->
   codeAny (model P w) callerA (.call (.ref fa) ⟨[.ref a],[]⟩) (fun r s'=>r=.ok (.ret (.bool true))/\OldK c.heap s'.heap/\s'.os=c.os/\AllBare s'.gens) c:=by
  intro H hO hS a0 hA hK;have f:∀ {b:Addr} {o:Obj},c.heap.get? b=some o->H b=none->(hidT c.heap H).get? b=some o:=fun e n=>qY6 e n;have a5:∀ {b:Addr} {o:Obj} {es:Array DictEntry} {ep:Nat},c.heap.get? b=some o->o.data=.dict es ep->H b=none:=fun {b o es ep} e d=>by
   cases q:H b with
   | none=>rfl
   | some u=>
    have e':b=a:=hA b (by rw [q];simp)
    subst e';rw [ha] at e;cases e;have d':Data.seq vs.toArray _=Data.dict es ep:=d;cases d'
  have i:∀ {b:Addr} {m:Str->Option Value},c.heap.Ns b m->(hidT c.heap H).Ns b m:=fun {b m} ⟨o,es,ep,e,d,r⟩=>⟨o,es,ep,f e (a5 e d),d,r⟩;have y:K.In (hidT c.heap H):=fun b o e=>f (KX b o e) (by
   cases q:H b with
   | none=>rfl
   | some u=>
    have e':b=a:=hA b (by rw [q];simp)
    subst e';rw [hK (by rw [q];simp)] at e;cases e)
  have hM:Mod K mg (hidT c.heap H):=⟨y,i a4,⟨mb,i g,a6⟩,let ⟨mc,h1,h2⟩:=a3;⟨mc,i h1,h2⟩⟩
  have e0:Env0 P w K mg (hidT c.heap H) callerA [] c H:=⟨rfl,hM,fun b o e=>qaU e,Nat.le_of_eq (qVS _ _),trivial,fun b g=>absurd (show b ∈ ([]:List Addr) from g) (by simp),a0,.of_eq hg⟩
  refine codeAny_mono ((F _ y (i a4)).run callerA [] c H ⟨[.ref a],[]⟩ [.ref a] [.ref a] _ _ hr e0 (l c (.ref a)) (.cons rfl .nil) (a7 H hO hS)) fun r s' h=>?_;cases r with
  | error e=>exact (a8 H e s' h).elim
  | ok fl=>
   cases fl with
   | next=>exact False.elim h
   | brk=>exact False.elim h
   | cont=>exact False.elim h
   | ret u=>
    obtain ⟨v,H',os,a2,un,p,r',q⟩:=h;have q':v=.bl true:=q;subst q';obtain rfl:u=Value.bool true:=r';refine ⟨rfl,OldK.of_keep fun b o e=>?_,os,a2⟩;cases q:H b with
    | none=>exact un.keep b o e q (by intro z;exact absurd (show b ∈ ([]:List Addr) from z) (by simp)) (by simp)
    | some u=>
     rcases hO b with z | ⟨ob,xs,z⟩
     ·rw [q] at z;cases z
     ·have z2:=un.frzs b ob _ z;obtain ⟨e1,_⟩:=a0 b _ z;obtain ⟨e2,_⟩:=p b _ z2;rw [e] at e1;cases e1;exact e2
 cases hk:K.lookup a with
 | some o=>
  -- the script is one of the module's own objects
  have e:=KX a o hk;rw [ha] at e;cases e;refine j (fun _=>none) (fun _=>.inl rfl) (.inr ⟨_,vs.toArray,_,hk,rfl,rfl,rfl,by rw [List.size_toArray,a1];exact hl,by simpa using rv⟩) (fun b u z=>by have t:(none:Option HO)=some u:=z;cases t) (fun b z=>absurd rfl z) fun z=>absurd rfl z
 | none=>
  refine j (fun b=>if b=a then some (.frz { cls:=.type "list",data:=.seq vs.toArray } (.lst (ns.map V.int))) else none) (fun b=>?_) (.inl (.inr ⟨{ cls:=.type "list",data:=.seq vs.toArray },if_pos rfl⟩)) (fun b u z=>?_) (fun b z=>?_) fun _=>hk
  ·by_cases g:b=a
   ·exact .inr ⟨_,_,if_pos g⟩
   ·exact .inl (if_neg g)
  ·by_cases g:b=a
   ·have t:=(if_pos g).symm.trans z;cases t;subst g;exact ⟨ha,by rw [List.length_map];exact hl,vs,_,rv,ha⟩
   ·have t:=(if_neg g).symm.trans z;cases t
  ·by_cases g:b=a
   ·exact g
   ·exact absurd (if_neg g) z
end L2
namespace L2
open PySem PySem.Spec PyProof.Rows
theorem walk_of {l:PySem.W.OpenLaw} {n k:Nat} {q:Program} {j:List Str} {XP:(Str->Option Value)->Heap->Prop} {YP:World->Heap->Prop} {d:DefRec} {K:Params->PySem.W.Frag} {CX:World->CXT} {sp:World->Sp} {x:Str}
  (hn:l.most=some n) (z:n<=sizeLine) (y:d.params.defaults=[]) (hr:Room k callerA)
  (hY:∀ (w:World) (h:Heap),YP w h->(K w.params).In h)
  (F:∀ (w:World) (mg:Str->Option Value) (fa:Addr) (h:Heap),(K w.params).In h->h.Ns mainGlobals mg->mg d.name=some (.ref fa)->
   ∃ fd:FuncData,(∀ (s:Shared) (u:Value),BindsTo s fd ⟨[u],[]⟩ [(x,u)])/\
    ∀ base:Heap,(K w.params).In base->base.Ns mainGlobals mg->FnOk l.prog w (K w.params) mg base (CX w) k fa fd [x] (sp w))
  (p:∀ (w:World) (H:Hp) (a:Addr) (ns:List Int),ns.length<=n->Only H->SqL (K w.params) H a (ns.map V.int)->sp w [.ref a] H (fun v _=>v=.bl true) fun _ _ _=>False)
  (t:∀ (w:World) (H:Hp) (s:Shared) (e:Value) (s':Shared),CX w [] H s (fun _ _ _=>False) e s'->False) :
  PySem.W.WalkO q j XP YP l.row.toRowW d [] (fun f vs=>PySem.call f vs):=by
 refine Att.attach_call hn y fun w s₀ s₁ mg mb fa o pm cd a1 a vs ns G Y ho hd a0 r m i c hg=>?_;have KX:=hY w _ Y;obtain ⟨fd,hb,hF⟩:=F w mg fa _ KX G.T.g r;exact law_call KX G.T.g G.T.b G.T.builtins G.T.nolimit hg m i (Nat.le_trans c z) hr hF hb (fun H hO hS=>p w H a ns c hO hS) fun H e s'=>t w H s₁ e s'
end L2
namespace L2
open PySem PySem.Spec PyProof.Rows
noncomputable def qCT (s:Stmt):Arguments:=match s with
 | .FunctionDef _ a _ _ _ _ _ _ _ _=>a
 | _=>{ posonlyargs:=[],args:=[],vararg:=none,kwonlyargs:=[],kw_defaults:=[],kwarg:=none,defaults:=[] }
noncomputable def qBT (s:Stmt):List Stmt:=match s with
 | .FunctionDef _ _ b _ _ _ _ _ _ _=>b
 | _=>[]
noncomputable def qAB (s:Stmt):Scope:=match s with
 | .FunctionDef _ _ _ _ _ _ sc _ _ _=>sc
 | _=>{ kind:=.function,names:=[],isGenerator:=false,isCoroutine:=false }
abbrev CX0:CXT:=fun _ _ _ _ _ _=>False
abbrev E0:XK:=fun _ _ _=>False
theorem qQQ {X:Cx}:qMX CX0 X E0:=fun _ _ _ _ _ _ _ h=>h.elim
structure Fun (K:PySem.W.Frag) (x qual:Str) (st:Stmt) (f:Addr) (fd:FuncData):Prop where
 ex:∃ (oc:Value) (od:Option Addr) (kV doc pm:Value) (an:Option Addr) (cdv ct:Value) (osl:Array (Option Value)),
  fd=PySem.W.fnOf x qual (qCT st) (qBT st) (qAB st) .none kV doc pm an cdv ct/\K.lookup f=some ⟨oc,od,.func fd,osl⟩/\PySem.W.codeIn K cdv qual=true
 kp:PySem.W.keepIn K (.ref f)=true
section
variable {P:Program} {w:World} {K:PySem.W.Frag} {mg:Str->Option Value} {base:Heap}
theorem Fun.ok {x a:Str} {st:Stmt} {f:Addr} {g:FuncData} {N ps:List Str} {k:Nat} {sp:Sp} (F:Fun K x a st f g) (S:FnScope N ps (qAB st)) (d:∀ vs H Q E,sp vs H Q E->vs.length=ps.length)
  (b:∀ (cdv:Value) (A:Around) (outer:List Env) (s:Shared) (H:Hp) (vs:List V) (Q:VK) (E:XK),Room k (A.deeper (envOfC a (qAB st) s.heap.objs.size f cdv))->sp vs H Q E->
   ∃ t,PSs (cxOf CX0 P w K mg base N a (qAB st) f cdv A outer s H E).nox (qBT st) t/\t { nx:=fun _ H'=>Q .non H',rt:=Q } (qLX N vs) H):FnOk P w K mg base CX0 (k+1) f g ps sp:=by
 obtain ⟨o,p,n,l,u,v,cdv,r,j,rfl,i,e⟩:=F.ex;refine qdT i e S d fun A outer s H vs Q E m c=>?_;obtain ⟨t,h,q⟩:=b cdv A outer s H vs Q E m c;exact ⟨t,h.nox,q⟩
theorem Fun.binds {x a:Str} {st:Stmt} {f:Addr} {b:FuncData} {ps:List Str} (F:Fun K x a st f b)
  (h:∀ (kV doc pm:Value) (an:Option Addr) (cdv ct:Value) (us:List Value),us.length=ps.length->bindArgs (PySem.W.fnOf x a (qCT st) (qBT st) (qAB st) .none kV doc pm an cdv ct) ⟨us,[]⟩=pure (ps.zip us)):Binds K b ps []:=by
 obtain ⟨i,e,kV,doc,pm,an,cdv,ct,c,rfl,g,d⟩:=F.ex;exact .all (h kV doc pm an cdv ct)
theorem fun_mk {x a:Str} {st:Stmt} {f:Addr} {m:Value} {od j:Option Addr} {e:Array (Option Value)} {g d i b h:Value} (l:K.lookup f=some ⟨m,od,.func (PySem.W.fnOf x a (qCT st) (qBT st) (qAB st) .none g d i j b h),e⟩)
  (c:PySem.W.codeIn K b a=true) (k:PySem.W.keepIn K (.ref f)=true):Fun K x a st f (PySem.W.fnOf x a (qCT st) (qBT st) (qAB st) .none g d i j b h):=⟨⟨m,od,g,d,i,j,b,h,e,rfl,l,c⟩,k⟩
end
theorem qVQ {A:Around} {k:Nat} (a:Room k A):A.units+1<cLine:=Nat.lt_of_le_of_lt (Nat.add_le_add_left (by decide:1<=64) _) a.units
theorem qBK {n:Nat} (h:n<=1000):n<sizeLine:=Nat.lt_of_le_of_lt h (by decide)
section
variable {X:Cx}
theorem pv (i:Nat) {x:Str} {a:Pos} (d:X.N[i]?=some x:=by rfl) (c:Vis X.env.scope x:=by first | exact Or.inl rfl | exact Or.inr (Or.inl rfl) | exact Or.inr (Or.inr rfl)) (e:(x == ("__debug__" : Str))=false:=by decide)
  (b:(x == ("__classdict__" : Str))=false:=by decide):PE X (.Name x a) (tVar i):=qd2 d c e b
end
theorem iteF {A B:Prop} (h:B):if false=true then A else B:=by
 rw [if_neg Bool.false_ne_true];exact h
theorem iteT {A B:Prop} (h:A):if true=true then A else B:=by
 rw [if_pos rfl];exact h
theorem ite2 {c A B:Prop} [Decidable c] (a:c->A) (b:¬ c->B):if c then A else B:=by
 by_cases h:c
 ·rw [if_pos h];exact a h
 ·rw [if_neg h];exact b h
def Same (H H':Hp):Prop:=∀ b o,H b=some o->H' b=some o
theorem Same.refl (H:Hp):Same H H:=fun _ _ h=>h
theorem Same.trans {H H1 H2:Hp} (a:Same H H1) (b:Same H1 H2):Same H H2:=fun c o h=>b c o (a c o h)
theorem Same.free {H H':Hp} (e:Same H H') {l:Addr} (h:H' l=Option.none):H l=Option.none:=by
 cases q:H l with
 | none=>rfl
 | some o=>
  rw [e l o q] at h;cases h
end L2
namespace L2
open PySem PySem.Spec PyProof.Rows
section
variable {κ:Type} [DecidableEq κ]
noncomputable def valV (Ae:List (κ × V)) (k:κ):Option V:=(Ae.find? fun kv=>decide (kv.1=k)).map (·.2)
noncomputable def putK (Ae:List (κ × V)) (k:κ) (v:V):List (κ × V):=
 if (Ae.any fun kv=>decide (kv.1=k))=true then Ae.map (fun kv=>if kv.1=k then (kv.1,v) else kv) else Ae++[(k,v)]
theorem qFT {p:κ × V} {r:List (κ × V)} {k:κ} (e:p.1=k):valV (p::r) k=some p.2:=by simp [valV,List.find?_cons,e]
theorem qHC {p:κ × V} {r:List (κ × V)} {k:κ} (e:¬ p.1=k):valV (p::r) k=valV r k:=by simp [valV,List.find?_cons,e]
theorem qN2 (k:κ):∀ Ae:List (κ × V),(Ae.any fun kv=>decide (kv.1=k))=(valV Ae k).isSome
 | []=>rfl
 | p::r=>by
  rw [List.any_cons];by_cases e:p.1=k
  ·simp only [qFT e,decide_eq_true e,Bool.true_or,Option.isSome_some]
  ·rw [qHC e,decide_eq_false e,Bool.false_or];exact qN2 k r
theorem qGV (Ae:List (κ × V)) (k:κ) (v:V):(putK Ae k v).length<=Ae.length+1:=by
 unfold putK
 split
 ·rw [List.length_map];lia
 ·rw [List.length_append,List.length_cons,List.length_nil];lia
theorem RelO.isSome_eq {o:Option V} {u:Option Value} (r:RelO o u):o.isSome=u.isSome:=by
 cases o with
 | none=>cases u with
  | none=>rfl
  | some _=>exact (show False from r).elim
 | some _=>cases u with
  | none=>exact (show False from r).elim
  | some _=>rfl
theorem KV.val {Ae:List (κ × V)} {vs:List (κ × Value)} (r:KV Ae vs) (k:κ):RelO (valV Ae k) (valueAt vs k):=by
 unfold KV at r
 induction r with
 | nil=>exact True.intro
 | @cons p q ps qs h t ih=>
  obtain ⟨c,d⟩:=h;by_cases e:p.1=k
  ·have a:q.1=k:=c.symm.trans e;have b:valueAt (q::qs) k=some q.2:=by simp [valueAt,List.find?_cons,a]
   rw [qFT e,b];exact d
  ·have a:¬ q.1=k:=fun z=>e (c.trans z);have b:valueAt (q::qs) k=valueAt qs k:=by simp [valueAt,List.find?_cons,a]
   rw [qHC e,b];exact ih
theorem KV.any {Ae:List (κ × V)} {vs:List (κ × Value)} (r:KV Ae vs) (k:κ):(Ae.any fun kv=>decide (kv.1=k))=vs.any fun kv=>decide (kv.1=k):=by
 unfold KV at r
 induction r with
 | nil=>rfl
 | cons h t ih=>rw [List.any_cons,List.any_cons,ih,h.1]
theorem KV.repl {Ae:List (κ × V)} {vs:List (κ × Value)} (r:KV Ae vs) (k:κ) {y:V} {u:Value} (b:RelV y u) :
  KV (Ae.map fun kv=>if kv.1=k then (kv.1,y) else kv) (vs.map fun kv=>if kv.1=k then (kv.1,u) else kv):=by
 unfold KV at r ⊢
 induction r with
 | nil=>exact .nil
 | @cons p q ps qs h t ih=>
  rw [List.map_cons,List.map_cons];refine .cons ?_ ih;obtain ⟨a,c⟩:=h;by_cases e:p.1=k
  ·rw [if_pos e,if_pos (a.symm.trans e)];exact ⟨a,b⟩
  ·rw [if_neg e,if_neg (fun z=>e (a.trans z))];exact ⟨a,c⟩
theorem KV.put {Ae:List (κ × V)} {vs:List (κ × Value)} (r:KV Ae vs) (k:κ) {y:V} {u:Value} (a:RelV y u):KV (putK Ae k y) (stored vs k u):=by
 unfold putK stored;rw [r.any k];by_cases e:(vs.any fun b=>decide (b.1=k))=true
 ·rw [if_pos e,if_pos e];exact r.repl k a
 ·rw [if_neg e,if_neg e];exact Paired.snoc r ⟨rfl,a⟩
theorem KV.length {Ae:List (κ × V)} {vs:List (κ × Value)} (r:KV Ae vs):Ae.length=vs.length:=Paired.length r
end
theorem qVJ {P:Program} {w:World} {k:Key} {u:Value} (r:RelV (kV k) u):(qCJ P w).is k u=true:=by
 cases k with
 | inl i=>obtain ⟨t,e⟩:=(show ∃ t,u=Value.int i t from r);subst e;exact qQU P w i t
 | inr x=>obtain ⟨t,e⟩:=(show ∃ t,u=Value.str x t from r);subst e;exact qQT P w x t
theorem qPL {P:Program} {w:World}:∀ {ks:List Key} {us:List Value},Vals (ks.map kV) us->ItemsAre (qCJ P w) ks us
 | [],_,r=>by rw [List.map_nil] at r;cases r;exact .nil
 | k::ks,_,r=>by
  rw [List.map_cons] at r;cases r with
  | cons h t=>exact .cons (qVJ h) (qPL t)
abbrev KT (H:Hp):List (List Key × V)->List (List Key × Addr × Value)->Prop:=Paired fun p q=>p.1=q.1/\H q.2.1=some (.tup (p.1.map kV))/\RelV p.2 q.2.2
theorem KT.val {H:Hp} {Ae:List (List Key × V)} {xs:List (List Key × Addr × Value)} (r:KT H Ae xs) (k:List Key):RelO (valV Ae k) ((atKey xs k).map (·.2)):=by
 induction r with
 | nil=>exact True.intro
 | @cons p q ps qs h t ih=>
  obtain ⟨c,_,d⟩:=h;by_cases e:p.1=k
  ·have a:q.1=k:=c.symm.trans e;have b:atKey (q::qs) k=some q.2:=by simp [atKey,List.find?_cons,a]
   rw [qFT e,b];exact d
  ·have a:¬ q.1=k:=fun z=>e (c.trans z);have b:atKey (q::qs) k=atKey qs k:=by simp [atKey,List.find?_cons,a]
   rw [qHC e,b];exact ih
theorem KT.repl {H:Hp} {Ae:List (List Key × V)} {xs:List (List Key × Addr × Value)} (r:KT H Ae xs) (k:List Key) {y:V} {u:Value} (c:RelV y u) :
  KT H (Ae.map fun kv=>if kv.1=k then (kv.1,y) else kv) (xs.map (putAt k u)):=by
 induction r with
 | nil=>exact .nil
 | @cons p q ps qs h t ih=>
  rw [List.map_cons,List.map_cons];refine .cons ?_ ih;obtain ⟨a,b,d⟩:=h;unfold putAt;by_cases e:p.1=k
  ·rw [if_pos e,if_pos (a.symm.trans e)];exact ⟨a,b,c⟩
  ·rw [if_neg e,if_neg (fun z=>e (a.trans z))];exact ⟨a,b,d⟩
theorem KT.put {H:Hp} {Ae:List (List Key × V)} {xs:List (List Key × Addr × Value)} (r:KT H Ae xs) (k:List Key) {b:Addr} {y:V} {u:Value} (d:H b=some (.tup (k.map kV))) (a:RelV y u) :
  KT H (putK Ae k y) (storedH xs k b u):=by
 have e:(Ae.any fun c=>decide (c.1=k))=(atKey xs k).isSome:=by
  rw [qN2,(r.val k).isSome_eq,Option.isSome_map]
 unfold putK storedH;rw [e];by_cases q:(atKey xs k).isSome=true
 ·rw [if_pos q,if_pos q];exact r.repl k a
 ·rw [if_neg q,if_neg q];exact Paired.snoc r ⟨rfl,d,a⟩
theorem KT.keeps {H H':Hp} {Ae:List (List Key × V)} {xs:List (List Key × Addr × Value)} (r:KT H Ae xs) (a:∀ b ys,H b=some (.tup ys)->H' b=some (.tup ys)):KT H' Ae xs:=
 Paired.mapP r fun _ _ z=>⟨z.1,a _ _ z.2.1,z.2.2⟩
section
variable {P:Program} {w:World} {H:Hp} {h:Heap} {a:Addr}
theorem qcZ {u:HO} (ok:HOk P w H h) (e:Rd H a u):ObjOk P w H h a u:=e.ok ok
theorem qYG {Ae:List (Key × V)} (b:HOk P w H h) (e:Rd H a (.dK Ae)):Ae.length<=sizeLine/\(a == sysModules)=false/\∃ vs,KV Ae vs/\h.DictOf (qCJ P w) a vs:=
 show ObjOk P w H h a (.dK Ae) from qcZ b e
theorem qbO {Ae:List (Key × V)} (b:HOk P w H h) (e:H a=some (.dK Ae)):Ae.length<=sizeLine/\(a == sysModules)=false/\∃ vs,KV Ae vs/\h.DictOf (qCJ P w) a vs:=qYG b (.inl e)
theorem qS8 {ks:List Key} (f:HOk P w H h) (e:H a=some (.tup (ks.map kV))):(tupleKind (qCJ P w)).is h ks a:=by
 obtain ⟨_,b,r,o,c,g,n,d⟩:=(show ObjOk P w H h a (.tup (ks.map kV)) from f a _ e);exact ⟨o,b.toArray,n,c,g,d,by simpa using qPL r⟩
theorem qYF {Ae:List (List Key × V)} (c:HOk P w H h) (e:Rd H a (.dT Ae)):Ae.length<=sizeLine/\(a == sysModules)=false/\
  ∃ xs,KT H Ae xs/\h.DictOfH (tupleKind (qCJ P w)) a xs:=by
 obtain ⟨z,y,xs,r,o,j,k,d,n,f,i,g⟩:=(show ObjOk P w H h a (.dT Ae) from qcZ c e);refine ⟨z,y,xs,r,o,j,k,d,n,f,i,fun x hx=>?_,g⟩;have b:∀ {l:List (List Key × V)} {m:List (List Key × Addr × Value)},KT H l m->∀ x ∈ m,(tupleKind (qCJ P w)).is h x.1 x.2.1:=by
  intro l m q
  induction q with
  | nil=>intro x hx;exact nomatch hx
  | @cons p q ps qs hq t ih=>
   intro x hx;rcases List.mem_cons.mp hx with e | hx
   ·subst e;exact qS8 c (by rw [<- hq.1];exact hq.2.1)
   ·exact ih x hx
 exact b r x hx
theorem qeY {Ae:List (List Key × V)} (b:HOk P w H h) (e:H a=some (.dT Ae)):Ae.length<=sizeLine/\(a == sysModules)=false/\
  ∃ xs,KT H Ae xs/\h.DictOfH (tupleKind (qCJ P w)) a xs:=qYF b (.inl e)
end
def DGet (H:Hp) (a:Addr) (y:V) (r:Option V):Prop:=
 (∃ Ae k,Rd H a (.dK Ae)/\y=kV k/\r=valV Ae k)\/∃ Ae k b,Rd H a (.dT Ae)/\y=.ref b/\H b=some (.tup (k.map kV))/\r=valV Ae k
def DPut (H:Hp) (a:Addr) (y v:V) (H':Hp):Prop:=
 (∃ Ae k,H a=some (.dK Ae)/\y=kV k/\Ae.length<sizeLine/\H'=Af H a (.dK (putK Ae k v)))\/
 ∃ Ae k b,H a=some (.dT Ae)/\y=.ref b/\H b=some (.tup (k.map kV))/\Ae.length<sizeLine/\H'=Af H a (.dT (putK Ae k v))
theorem DGet.k {H:Hp} {a:Addr} {Ae:List (Key × V)} {k:Key} (e:H a=some (.dK Ae)):DGet H a (kV k) (valV Ae k):=.inl ⟨Ae,k,.inl e,rfl,rfl⟩
theorem DPut.k {H:Hp} {a:Addr} {Ae:List (Key × V)} {k:Key} {v:V} (e:H a=some (.dK Ae)) (b:Ae.length<sizeLine):DPut H a (kV k) v (Af H a (.dK (putK Ae k v))):=.inl ⟨Ae,k,e,rfl,b,rfl⟩
section
variable {X:Cx} {Aa:List (Addr × Obj)} {σ:St} {H:Hp} {s:Shared} {a:Addr} {y v:V} {u r:Value} {o:Option V} {A:Around} {E:Value->Shared->Prop}
theorem Inv.big (I:Inv X Aa σ H s):sysModules<s.heap.objs.size:=by
 have h:mainGlobals<s.heap.objs.size:=(I.mod.glob.keeps I.bk).lt;exact Nat.lt_trans (by decide) h
theorem qWF {Q:Value->Shared->Prop} (hu:A.units+1<cLine) (I:Inv X Aa σ H s) (g:DGet H a y (some v)) (n:RelV y u) (h:∀ w' s',Inv X Aa σ H s'->RelV v w'->Q w' s') :
  wpAny (model X.prog X.w) A (getItem (.ref a) u) Q E s:=by
 rcases g with ⟨x,k,e,f,l⟩ | ⟨x,k,b,e,f,q,l⟩
 ·subst f;obtain ⟨z,hd,r,c,i⟩:=qYG I.hok e;obtain ⟨w',m,d⟩:=RelO.some_of (v:=v) (o:=valueAt r k) (by rw [l];exact c.val k)
  exact wpAny_getItem_of (qVJ n) i.mapOf m (h w' _ (I.tok _) d)
 ·subst f;cases (show u=Value.ref b from n);obtain ⟨z,hd,xs,c,i⟩:=qYF I.hok e;obtain ⟨w',m,d⟩:=RelO.some_of (v:=v) (o:=(atKey xs k).map (·.2)) (by rw [l];exact c.val k)
  obtain ⟨p,t,j⟩:=Option.map_eq_some_iff.mp m;refine wpAny_getItem_heap (tupleKind_room_in1 hu) (qS8 I.hok q) i t ?_;rw [j];exact h w' _ (I.tok _) d
theorem d_in {Q:Value->Shared->Prop} (p:A.units+1<cLine) (I:Inv X Aa σ H s) (g:DGet H a y o) (j:RelV y u) (h:∀ s',Inv X Aa σ H s'->Q (.bool o.isSome) s') :
  wpAny (model X.prog X.w) A (compareOp .In u (.ref a)) Q E s:=by
 rcases g with ⟨n,k,e,d,l⟩ | ⟨n,k,b,e,d,m,l⟩
 ·subst d;obtain ⟨z,i,r,c,f⟩:=qYG I.hok e;refine wpAny_in_of (qVJ j) i f.mapOf ?_;rw [<- (c.val k).isSome_eq,<- l];exact h _ (I.tok _)
 ·subst d;cases (show u=Value.ref b from j);obtain ⟨z,i,t,c,f⟩:=qYF I.hok e;refine wpAny_in_heap (tupleKind_room_in1 p) (qS8 I.hok m) i f ?_;have q:=(c.val k).isSome_eq;rw [Option.isSome_map] at q;rw [<- q,<- l];exact h _ (I.tok _)
theorem qRC {h':Heap} {t':Nat} {d:HO} (I:Inv X Aa σ H s) (g:Mut (H a)) (f:Heap.SameBut a s.heap h') (i:∃ q,h'.get? a=some q) (c:ObjOk X.prog X.w (Af H a d) h' a d) :
  Inv X Aa σ (Af H a d) { s with heap:=h',toks:=t' }:=
 I.write (x:=a) (e:=a) g (.inl rfl) (fun b q h z=>(f.2 b h).trans z) i c
theorem qZI {P:Program} {w:World} {H':Hp} {h':Heap} {Ae:List (Key × V)} {vs:List (Key × Value)} (z:Ae.length<=sizeLine) (d:(a == sysModules)=false) (b:KV Ae vs) (c:h'.DictOf (qCJ P w) a vs) :
  ObjOk P w H' h' a (.dK Ae):=⟨z,d,vs,b,c⟩
theorem qWE {H':Hp} {Q:Unit->Shared->Prop} (hu:A.units+1<cLine) (I:Inv X Aa σ H s) (g:DPut H a y v H') (ry:RelV y u) (rv:RelV v r) (h:∀ s',Inv X Aa σ H' s'->Q () s') :
  wpAny (model X.prog X.w) A (setItem (.ref a) u r) Q E s:=by
 rcases g with ⟨i,k,e,j,l,p⟩ | ⟨i,k,b,e,j,eb,l,p⟩
 ·subst j p;obtain ⟨z,n,vs,d,m⟩:=qbO I.hok e;have x:vs.length<=sizeLine:=by rw [<- d.length];exact z
  have o:(putK i k v).length<=sizeLine:=by have:=qGV i k v;lia
  refine wpAny_setItem_pairs (hsz:=x) (qVJ ry) m fun h' f t=>h _ ?_;have he:∃ q,h'.get? a=some q:=let ⟨q,_,_,hq,_⟩:=f;⟨q,hq⟩
  exact qRC I (by rw [e];exact True.intro) t he (qZI o n (d.put k rv) f)
 ·subst j p;cases (show u=Value.ref b from ry);obtain ⟨z,n,xs,d,m⟩:=qeY I.hok e;have x:xs.length<=sizeLine:=by rw [<- Paired.length d];exact z
  have o:(putK i k v).length<=sizeLine:=by have:=qGV i k v;lia
  refine wpAny_setItem_heap (hsz:=x) (tupleKind_room_in1 hu) (qS8 I.hok eb) m fun h' f t=>h _ ?_;obtain ⟨q,es,ep,hq,h2,h3,h4,_,h5⟩:=f;refine qRC I (by rw [e];exact True.intro) t ⟨q,hq⟩ ⟨o,n,_,(d.put k eb rv).keeps fun c ys ec=>?_,q,es,ep,hq,h2,h3,h4,h5⟩
  rw [qA8 (qDZ ec e (fun z=>nomatch z))];exact ec
end
section
variable {X:Cx} {Aa:List (Addr × Obj)} {σ:St} {H:Hp} {s:Shared} {a:Addr} {Ae:List (Key × V)} {k:Key} {u:Value} {A:Around} {E:Value->Shared->Prop}
end
def NoSl (i:Expr):Prop:=∀ ov iv,subscripted i false ov iv=operate [ov,iv] (getItem ov iv)
theorem qZZ {prog:Program} {w:World} {A:Around} {E:Value->Shared->Prop} {s:Shared} {env:Env} {b a:Expr} {e:Pos} {T id:String} {Q:Value->Shared->Prop}
  (l:typeLookup (.type T) "__getitem__" = pure (some (.builtin id))) (j:NoSl a)
  (h:wpAny (model prog w) A (eval b env) (fun o s₁=>wpAny (model prog w) A (eval a env) (fun i s₂=>s₂.TypeIs o T/\wpAny (model prog w) A (getItem o i) Q E s₂) E s₁) E s) :
  wpAny (model prog w) A (eval (.Subscript b a e) env) Q E s:=by
 refine Subscript_ (wpAny_mono h (fun o s₁ m=>wpAny_mono m (fun i s₂ d=>?_) fun _ _ x=>x) fun _ _ x=>x);obtain ⟨f,d⟩:=d;unfold subscriptTail;refine wpAny_bind ?_;rw [getitemInPython_of_ne f.not_modules];refine wpAny_bind (wpAny_specialOf f l ?_);have c:wpAny (model prog w) A (subscripted a false o i) (fun r g=>wpAny (model prog w) A (letTemporaryGo b o r >>= fun _=>pure r) Q E g) E s₂:=by
  rw [j o i];exact wpAny_operating (wpAny_mono d (fun r g k=>wpAny_bind (wpAny_letTemporaryGo (wpAny_pure k))) fun _ _ x=>x)
 first
  | exact wpAny_pure (wpAny_bind c)
  | exact wpAny_bind (wpAny_pure (wpAny_bind c))
  | exact wpAny_bind c
theorem qR9 {X:Cx} {Aa:List (Addr × Obj)} {σ:St} {H:Hp} {s:Shared} {a:Addr} {y:V} {o:Option V} (I:Inv X Aa σ H s) (g:DGet H a y o):s.TypeIs (.ref a) "dict":=by
 rcases g with ⟨d,k,e,_,_⟩ | ⟨d,k,b,e,_,_,_⟩
 ·obtain ⟨_,_,h,_,c⟩:=qYG I.hok e;exact c.typeIs
 ·obtain ⟨_,_,f,_,c⟩:=qYF I.hok e;exact c.typeIs
def qeF (td ty:TE):TE:=fun σ H Q=>td σ H fun x H1=>ty σ H1 fun y H2=>∃ a v,x=.ref a/\DGet H2 a y (some v)/\Q v H2
def tDIn (ty td:TE):TE:=fun σ H Q=>ty σ H fun y H1=>td σ H1 fun x H2=>∃ a o,x=.ref a/\DGet H2 a y o/\Q (.bl o.isSome) H2
def qeJ (td ty tv:TE):TS:=fun D σ H=>tv σ H fun v H1=>td σ H1 fun x H2=>ty σ H2 fun y H3=>∃ a H4,x=.ref a/\DPut H3 a y v H4/\D.nx σ H4
section
variable {X:Cx} {o i e value:Expr} {pos pos' tpos:Pos} {td ty tv:TE}
theorem qJ4 (j:X.A.units+1<cLine) (e:PE X o td) (hi:PE X i ty) (d:NoSl i):PE X (.Subscript o i pos) (qeF td ty):=by
 intro c s σ H Q I h;refine qZZ PySem.F.slot_dict_getitem.lookup d (thn (e c s σ H _ I h) fun u s1 ⟨x,H1,I1,rx,q1⟩=>thn (hi c s1 σ H1 _ I1 q1) fun iv s2 ⟨y,H2,I2,ry,a,v,ex,g,q2⟩=>?_);subst ex;obtain rfl:u=Value.ref a:=rx;exact ⟨qR9 I2 g,qWF j I2 g ry fun k l f b=>⟨v,H2,f,b,q2⟩⟩
theorem qV3 (e:X.A.units+1<cLine) (hi:PE X i ty) (c:PE X o td):PC X .In i o (tDIn ty td):=by
 intro b s σ H Q I h;refine thn (hi b s σ H _ I h) fun iv s1 ⟨y,H1,I1,ry,q1⟩=>thn (c b s1 σ H1 _ I1 q1) fun u s2 ⟨x,H2,I2,rx,a,ov,ex,g,q2⟩=>?_;subst ex;obtain rfl:u=Value.ref a:=rx;exact d_in e I2 g ry fun f d=>⟨.bl ov.isSome,H2,d,rfl,q2⟩
theorem qUT (j:X.A.units+1<cLine) (f:PE X o td) (hi:PE X i ty) (c:PE X value tv) (e:swapsWith value (some (.Subscript o i pos')) pos.line X.env=pure false) :
  PS X (.Assign [.Subscript o i pos'] value pos) (qeJ td ty tv):=by
 intro b s σ H D I h;refine wpAny_Assign_Subscript (thn (c b s σ H _ I h) fun r s1 ⟨v,H1,I1,rv,q1⟩=>thn (f b s1 σ H1 _ I1 q1) fun u s2 ⟨x,H2,I2,rx,q2⟩=>thn (hi b s2 σ H2 _ I2 q2) fun iv s3 ⟨y,H3,I3,ry,a,H4,ex,g,q3⟩=>?_) e;subst ex;obtain rfl:u=Value.ref a:=rx;exact qWE j I3 g ry rv fun k d=>⟨σ,H4,d,q3⟩
end
theorem qSJ {P:Program} {w:World} {H:Hp} (h:Heap) (a:sysModules<h.objs.size):ObjOk P w H (h.push { cls:=.type "dict",data:=.dict #[] }) h.objs.size (.dK []):=
 ⟨Nat.zero_le _,beq_eq_false_iff_ne.mpr (Ne.symm (Nat.ne_of_lt a)),[],.nil,Heap.DictOf.new h⟩
def qcH:TE:=fun _ H Q=>∀ p,H p=none->Q (.ref p) (Af H p (.dK []))
section
variable {X:Cx} {pos:Pos}
theorem qXU:PE X (.Dict [] [] pos) qcH:=fun b s σ H Q I h=>
 wpAny_Dict_empty ⟨.ref s.heap.objs.size,_,I.laid (a:=s.heap.objs.size) (o:=.dK []) (t':=s.toks) (fun _ _ q=>Heap.get?_push_of_some _ q) (Nat.le_refl _) (qSJ s.heap I.big),rfl,h _ (I.hok.fresh (Nat.le_refl _))⟩
end
def qU5:List (TE × TE)->St->Hp->(List (V × V)->Hp->Prop)->Prop
 | [],_,H,Q=>Q [] H
 | (tk,tv)::r,σ,H,Q=>tk σ H fun x H1=>tv σ H1 fun y H2=>qU5 r σ H2 fun ps H3=>Q ((x,y)::ps) H3
abbrev VV:List (V × V)->List (Value × Value)->Prop:=Paired fun p q=>RelV p.1 q.1/\RelV p.2 q.2
def PPs (X:Cx) (pos:Pos) (keys:List (Option Expr)) (values:List Expr) (trs:List (TE × TE)):Prop:=
 ∀ (Aa:List (Addr × Obj)) (s:Shared) (σ:St) (H:Hp) (Q:List (V × V)->Hp->Prop),Inv X Aa σ H s->qU5 trs σ H Q->
  wpAny (model X.prog X.w) X.A (evalPairs (pairTrees keys values X.env pos)) (fun vs s'=>∃ ps H',Inv X Aa σ H' s'/\VV ps vs/\Q ps H') X.xe s
theorem qaL {X:Cx} {a:Pos}:PPs X a [] [] []:=fun b s σ H Q I h=>pairTrees_nil_walk ⟨[],H,I,.nil,h⟩
theorem qRR {X:Cx} {b:Pos} {k v:Expr} {ks:List (Option Expr)} {vs:List Expr} {e f:TE} {a:List (TE × TE)} (j:PE X k e) (i:PE X v f) (l:PPs X b ks vs a) :
  PPs X b (some k::ks) (v::vs) ((e,f)::a):=fun c s σ H Q I h=>
 pairTrees_cons_walk (thn (j c s σ H _ I h) fun u s1 ⟨x,H1,I1,rx,q1⟩=>thn (i c s1 σ H1 _ I1 q1) fun w2 s2 ⟨y,H2,I2,ry,q2⟩=>
  thn (l c s2 σ H2 _ I2 q2) fun ws s3 ⟨ps,H3,I3,rel,q3⟩=>⟨(x,y)::ps,H3,I3,.cons ⟨rx,ry⟩ rel,q3⟩)
noncomputable def qL8 (Ae more:List (Key × V)):List (Key × V):=more.foldl (fun d g=>putK d g.1 g.2) Ae
theorem KV.merge:∀ {more:List (Key × V)} {rs:List (Key × Value)} {Ae:List (Key × V)} {vs:List (Key × Value)},KV more rs->KV Ae vs->KV (qL8 Ae more) (merged vs rs):=by
 intro more rs Ae vs r;unfold KV at r
 induction r generalizing Ae vs with
 | nil=>intro q;exact q
 | @cons p q ps qs h t ih=>
  intro a;have e:KV (putK Ae p.1 p.2) (stored vs q.1 q.2):=by
   have:=a.put p.1 h.2;rw [<- h.1];exact this
  exact ih e
theorem qHX:∀ (more Ae:List (Key × V)),(qL8 Ae more).length<=Ae.length+more.length
 | [],Ae=>by show Ae.length<=Ae.length+0;lia
 | p::r,Ae=>by
  have h1:=qHX r (putK Ae p.1 p.2);have h2:=qGV Ae p.1 p.2;show (qL8 (putK Ae p.1 p.2) r).length<=_;rw [List.length_cons];lia
theorem qMU {P:Program} {w:World}:∀ {Ae:List (Key × V)} {ws:List (Value × Value)},VV (Ae.map fun kv=>(kV kv.1,kv.2)) ws->∃ rs,Carries (qCJ P w) ws rs/\KV Ae rs
 | [],_,r=>by rw [List.map_nil] at r;cases r;exact ⟨[],True.intro,.nil⟩
 | p::Ae,_,r=>by
  rw [List.map_cons] at r;cases r with
  | @cons a b as bs h t=>
   obtain ⟨rs,c,q⟩:=qMU (P:=P) (w:=w) t;obtain ⟨b1,b2⟩:=b;exact ⟨(p.1,b2)::rs,⟨qVJ h.1,rfl,c⟩,.cons ⟨rfl,h.2⟩ q⟩
def qeE (trs:List (TE × TE)):TE:=fun σ H Q=>∀ p,H p=none->qU5 trs σ (Af H p (.dK [])) fun ps H2=>H2 p=some (.dK [])/\∃ Ae:List (Key × V),ps=Ae.map (fun kv=>(kV kv.1,kv.2))/\Ae.length<=15/\Q (.ref p) (Af H2 p (.dK (qL8 [] Ae)))
theorem qaQ {X:Cx} {g:Pos} {b:List (Option Expr)} {d:List Expr} {f:List (TE × TE)} (h:PPs X g b d f) (i:b.all (·.isSome)=true) (r:b.length=d.length) (h0:b ≠ [])
  (k:b.length<=15):PE X (.Dict b d g) (qeE f):=by
 intro u s σ H Q I q;have t:=I.hok.fresh (Nat.le_refl s.heap.objs.size);have I1:=I.laid (a:=s.heap.objs.size) (o:=.dK []) (h':=s.heap.push { cls:=.type "dict",data:=.dict #[] }) (t':=s.toks) (fun _ _ q=>Heap.get?_push_of_some _ q) (Nat.le_refl _) (qSJ s.heap I.big);refine wpAny_Dict_walk (knd:=qCJ X.prog X.w) i r h0 k (thn (h u _ σ _ _ I1 (q _ t)) fun ws s2 ⟨ps,H2,I2,rel,e,Ae,ep,lk,q2⟩=>?_);subst ep;obtain ⟨rs,c,m⟩:=qMU (P:=X.prog) (w:=X.w) rel;obtain ⟨z,p,x,l,n⟩:=qbO I2.hok e;cases l;refine ⟨rs,c,n,fun h' j v=>⟨.ref s.heap.objs.size,_,?_,rfl,q2⟩⟩;have hz:(qL8 [] Ae).length<=sizeLine:=by
  have y:=qHX Ae [];rw [List.length_nil] at y;rw [sizeLine_eq];lia
 have he:∃ q,h'.get? s.heap.objs.size=some q:=let ⟨q,_,_,hq,_⟩:=j;⟨q,hq⟩
 exact qRC I2 (by rw [e];exact True.intro) v he (qZI hz p (m.merge .nil) j)
structure M1 (X:Cx) (o:Expr) (m:Str) (apos:Pos) (e:Expr) (cpos:Pos):Prop where
 base:attributeBase o m X.env (eval o X.env)=eval o X.env
 few:((backTo cpos (starEach [e] X.env)).all (fun x=>!x.1) && (backToKw cpos (keywordEach [] X.env)).all (fun x=>x.1.isSome)
  && decide (([e]:List Expr).length+([]:List Keyword).length+(if ([]:List Keyword).isEmpty then 0 else 1)<30))=true
 line:(apos.endLine == cpos.line)=true
 trees:backTo cpos (starEach [e] X.env)=[(false,eval e X.env)]
structure M2 (X:Cx) (o:Expr) (m:Str) (apos:Pos) (e f:Expr) (cpos:Pos):Prop where
 base:attributeBase o m X.env (eval o X.env)=eval o X.env
 few:((backTo cpos (starEach [e,f] X.env)).all (fun x=>!x.1) && (backToKw cpos (keywordEach [] X.env)).all (fun x=>x.1.isSome)
  && decide (([e,f]:List Expr).length+([]:List Keyword).length+(if ([]:List Keyword).isEmpty then 0 else 1)<30))=true
 line:(apos.endLine == cpos.line)=true
 trees:backTo cpos (starEach [e,f] X.env)=[(false,eval e X.env),(false,eval f X.env)]
section
variable {X:Cx} {Aa:List (Addr × Obj)} {σ:St} {H:Hp} {s:Shared} {a:Addr} {y d:V} {u r:Value} {o:Option V} {A:Around} {E:Value->Shared->Prop}
end
section
variable {X:Cx} {o e f:Expr} {apos cpos:Pos} {td ty tx:TE}
end
section
variable {X:Cx} {Aa:List (Addr × Obj)} {σ:St} {H:Hp} {s:Shared} {a:Addr} {Ae:List (Key × V)} {A:Around} {E:Value->Shared->Prop}
end
section
variable {X:Cx} {Aa:List (Addr × Obj)} {σ:St} {H:Hp} {s:Shared} {a:Addr} {y:V} {u:Value} {A:Around} {E:Value->Shared->Prop}
end
end L2
namespace L2
open PySem PySem.Spec PyProof.Rows
section
variable {X:Cx}
end
section
variable {κ:Type} [DecidableEq κ]
theorem qGU:∀ {l:List κ} {k:κ},l.Nodup->¬ k ∈ l->(l++[k]).Nodup
 | [],k,_,_=>by simp
 | a::r,k,h,hk=>by
  obtain ⟨h1,h2⟩:=List.nodup_cons.mp h;show (a::(r++[k])).Nodup;refine List.nodup_cons.mpr ⟨fun m=>?_,qGU h2 fun m=>hk (List.mem_cons.mpr (Or.inr m))⟩;rcases List.mem_append.mp m with q | q
  ·exact h1 q
  ·exact hk (List.mem_cons.mpr (Or.inl (List.mem_singleton.mp q).symm))
end
end L2
namespace L2
open PySem PySem.Spec PyProof.Rows
def noX:Value->Shared->Prop:=fun _ _=>False
noncomputable def qKA (env:Env):List (Str × NameKind)->List (Str × Addr)->List (Str × Addr)
 | [],acc=>acc
 | (n,k)::r,acc=>qKA env r (if (k == NameKind.free)=true then (n,(env.cells.lookup n).getD 0)::acc else acc)
theorem qLO {env:Env}:∀ {names:List (Str × NameKind)} {acc:List (Str × Addr)},(∀ x,(x,NameKind.free) ∈ names->∃ c,env.cells.lookup x=some c)->(∀ x c,acc.lookup x=some c->env.cells.lookup x=some c)->
  ∀ x c,(qKA env names acc).lookup x=some c->env.cells.lookup x=some c
 | [],acc,_,ha,x,c,h=>ha x c h
 | (n,k)::r,acc,hf,ha,x,c,h=>by
  refine qLO (names:=r) (fun y hy=>hf y (List.mem_cons_of_mem _ hy)) (fun y d hd=>?_) x c h
  split at hd
  ·rename_i hk
   have hk':k=NameKind.free:=by simpa using hk
   subst hk';obtain ⟨e,he⟩:=hf n List.mem_cons_self;by_cases hyn:y=n
   ·subst hyn;rw [List.lookup_cons_self,he] at hd;rw [he];exact hd
   ·rw [List.lookup_cons,beq_eq_false_iff_ne.mpr hyn] at hd;exact ha y d hd
  ·exact ha y d hd
theorem qLP {env:Env}:∀ {names:List (Str × NameKind)} {acc:List (Str × Addr)} {x:Str},((x,NameKind.free) ∈ names\/∃ c,acc.lookup x=some c)->∃ c,(qKA env names acc).lookup x=some c
 | [],acc,x,h=>by
  rcases h with h | h
  ·exact absurd h (by simp)
  ·exact h
 | (n,k)::r,acc,x,h=>by
  refine qLP (names:=r) ?_;rcases h with h | ⟨c,h⟩
  ·rcases List.mem_cons.mp h with e | h
   ·cases e;refine .inr ⟨(env.cells.lookup n).getD 0,?_⟩;rw [if_pos (by rfl),List.lookup_cons_self]
   ·exact .inl h
  ·refine .inr ?_
   split
   ·by_cases hyn:x=n
    ·subst hyn;exact ⟨_,List.lookup_cons_self⟩
    ·refine ⟨c,?_⟩;rw [List.lookup_cons,beq_eq_false_iff_ne.mpr hyn];exact h
   ·exact ⟨c,h⟩
theorem qLN {env:Env} (f:Str × NameKind->List (Str × Addr)->Sem (ForInStep (List (Str × Addr))))
  (hf:∀ n k c,f (n,k) c=(if (k == NameKind.free)=true then (do let a <- cellOf env n;pure (ForInStep.yield ((n,a)::c))) else pure (ForInStep.yield c))) :
  ∀ (names:List (Str × NameKind)) (acc:List (Str × Addr)),(∀ x,(x,NameKind.free) ∈ names->∃ c,env.cells.lookup x=some c)->forIn names acc f=(pure (qKA env names acc):Sem _)
 | [],acc,_=>rfl
 | (n,k)::r,acc,h=>by
  have ih:=fun acc=>qLN f hf r acc fun x hx=>h x (List.mem_cons_of_mem _ hx);rw [List.forIn_cons,hf];by_cases hk:(k == NameKind.free)=true
  ·have hk':k=NameKind.free:=by simpa using hk
   subst hk';obtain ⟨c,hc⟩:=h n List.mem_cons_self;rw [if_pos hk];unfold cellOf qKA;rw [hc,if_pos hk];exact ih _
  ·rw [if_neg hk];unfold qKA;rw [if_neg hk];exact ih _
theorem qTJ {a:Scope} {env:Env} (h:∀ x,(x,NameKind.free) ∈ a.names->∃ c,env.cells.lookup x=some c):closureFor a env=pure (qKA env a.names []):=by
 unfold closureFor;dsimp only;rw [qLN (env:=env) _ (fun n k c=>?_) a.names [] h]
 ·rfl
 ·rfl
theorem qEG {env:Env} {x:Str}:∀ {names:List (Str × NameKind)},
  (names.map fun (n,k)=>if (k == NameKind.free && env.scope.kind == .function && env.kindOf n == some .cell)=true then (n,NameKind.cell) else (n,k)).lookup x =
   (names.lookup x).map fun k=>if (k == NameKind.free && env.scope.kind == .function && env.kindOf x == some .cell)=true then NameKind.cell else k
 | []=>rfl
 | (n,k)::r=>by
  have ih:=@qEG env x r;rw [List.map_cons];by_cases hx:x=n
  ·subst hx;dsimp only;rw [List.lookup_cons_self (b:=k),Option.map_some]
   split
   ·rw [List.lookup_cons_self]
   ·rw [List.lookup_cons_self]
  ·have hb:(x == n)=false:=beq_eq_false_iff_ne.mpr hx;dsimp only;rw [List.lookup_cons (k:=n) (b:=k),hb];dsimp only;rw [<- ih]
   split
   ·rw [List.lookup_cons,hb]
   ·rw [List.lookup_cons,hb]
structure LcZ where
 L:Addr
 cl:List (Str × Addr)
 ex:List Addr
 s₀:Shared
 H₀:Hp
noncomputable def lcCx (X:Cx) (scope:Scope) (own:List Str) (fv:List Nat) (z:LcZ):Cx where
 prog:=X.prog
 w:=X.w
 K:=X.K
 mg:=X.mg
 base:=X.base
 A:=X.A
 N:=own++fv.map fun i=>X.N.getD i Str.empty
 s₀:=z.s₀
 H₀:=z.H₀
 env:=compEnvC scope z.cl z.L X.env
 outer:=X.stack
 stack:=X.stack
 ex:=z.ex
 fn:=fun _=>false
 calm:=X.calm
 pn:=[]
 xe:=noX
structure LcScope (X:Cx) (scope:Scope) (own:List Str) (fv:List Nat):Prop where
 kind:scope.kind=.function
 nocell:∀ y ∈ scope.names,y.2 ≠ .cell
 names:∀ y ∈ scope.names,y.2=.local->scope.names.lookup y.1=some .local
 free:∀ y ∈ scope.names,y.2=.free->X.env.kindOf y.1=some .cell\/X.env.kindOf y.1=some .free
 nd:(own++fv.map fun i=>X.N.getD i Str.empty).Nodup
 fvs:∀ i ∈ fv,i<X.N.length/\scope.names.lookup (X.N.getD i Str.empty)=some .free
noncomputable def qLD (own:List Str) (fv:List Nat) (σ:St):St:=(own.map fun _=>none)++fv.map fun i=>(σ[i]?).join
theorem qPU {prog:Program} {w:World} {A:Around} {R:Result->Shared->Prop} {s:Shared} {f a e:Expr} {g:List Expr} {b:Scope} {j:Pos} {k acc:Value} {env:Env} (I:Nat->Shared->Prop)
  (i:∀ n s,I n s->wpAny (model prog w) A (pyNext k) (fun r s₁=>match r with
   | none=>R (.ok .next) s₁
   | some v=>wpAny (model prog w) A (letOwnedTupleGo a k v) (fun _ s₁=>wpAny (model prog w) A (assign a env v) (fun _ s₂=>
     wpAny (model prog w) A (forIn g true fun c r=>if r=true then do let ok <- isTrue c env (eval c env);pure (ForInStep.yield ok) else pure (ForInStep.yield r)) (fun ok s₃=>
      if ok=true then wpAny (model prog w) A (eval f env) (fun x s₄=>
       wpAny (model prog w) A (call (.builtin "list.append") [acc,x]) (fun _ s₅=>∃ m,m<n/\I m s₅) noX s₄) noX s₃
      else ∃ m,m<n/\I m s₃) noX s₂) noX s₁) noX s₁) noX s)
  (n:Nat) (h:I n s) :
  codeAny (model prog w) A (.compLoop (.ListComp f [⟨a,e,g,0⟩] b j) 0 k acc env) R s:=by
 refine codeAny_loop rfl I (fun n s u=>?_) n h;show wpAny _ A ((compTurn (.ListComp f [⟨a,e,g,0⟩] b j) 0 k acc env).onRaise (fun x=>do noteFrame x env;theTreesLotGoes x)) _ _ s
 refine wpAny_noted ?_;rw [compTurn_list];refine wpAny_bind (wpAny_standAt (wpAny_bind (wpAny_mono (i n s u) (fun r s₁ l=>?_) fun _ _ d=>d.elim)));cases r with
 | none=>exact wpAny_pure l
 | some v=>
  refine wpAny_bind (wpAny_mono l (fun _ s₁ l=>?_) fun _ _ d=>d.elim);refine wpAny_bind (wpAny_mono l (fun _ s₂ p=>wpAny_bind (wpAny_mono p (fun ok s₃ o=>?_) fun _ _ d=>d.elim)) fun _ _ d=>d.elim);cases ok with
  | false=>exact wpAny_pure ⟨rfl,o⟩
  | true=>
   exact wpAny_bind (wpAny_bind (wpAny_mono o (fun x s₄ q=>wpAny_bind (wpAny_mono q (fun _ s₅ t=>wpAny_pure (wpAny_pure ⟨rfl,t⟩)) fun _ _ d=>d.elim)) fun _ _ d=>d.elim))
section
variable {X:Cx} {Aa:List (Addr × Obj)} {σ:St} {H:Hp} {s:Shared}
theorem Inv.other {h':Heap} {L:Addr} {n:Nat} (I:Inv X Aa σ H s) (a:X.s₀.heap.objs.size<=L) (f:H L=none) (d:L ≠ X.env.locals) (h:∀ x c,X.env.cells.lookup x=some c->c ≠ L) (g:∀ p ∈ X.pn++Aa,p.1 ≠ L)
  (k:Heap.SameBut L s.heap h'):Inv X Aa σ H { s with heap:=h' }:=
 I.turned (t':=s.toks) (fun b o a e=>(k.2 b a).trans e) f d (.inr a) h g
theorem qdD {a:Scope} {own:List Str} {fv:List Nat} {j:List Addr} (I:Inv X Aa σ H s) (S:LcScope X a own fv) (i:∀ b ∈ j,FpOk X Aa H b) (hsz:∀ b ∈ j,b<s.heap.objs.size) :
  (lcCx X a own fv ⟨s.heap.objs.size,qKA X.env a.names [],j,s,H⟩).Ok:=by
 have l:∀ x,(x,NameKind.free) ∈ a.names->∃ c,X.env.cells.lookup x=some c:=fun x h=>I.ok.has x (S.free _ h rfl);have f:=qLO (env:=X.env) (names:=a.names) (acc:=[]) l (fun x c z=>by simp at z)
 refine ⟨I.ok.mod,S.kind,I.ok.glob,I.ok.blt,Nat.le_refl _,fun x y c p r=>I.ok.inj x y c (f _ _ p) (f _ _ r),fun x h=>?_,fun x c h=>?_,I.ok.hd,I.ok.frames,.inl rfl,fun b g=>⟨?_,fun x c e=>?_⟩,I.bs,Nat.le_trans I.ok.bsz I.sz,fun b o e g=>?_,fun b g m=>?_,I.stack,I.stkFree⟩
 ·refine qLP (.inl ?_);have d:(relabel a X.env).names.lookup x=some .cell\/(relabel a X.env).names.lookup x=some .free:=h;unfold relabel at d;rw [qEG] at d;cases e:a.names.lookup x with
  | none=>rw [e] at d;simp at d
  | some k=>
   have n:=PySem.mem_of_lookup e;have q:=S.nocell _ n;rw [e] at d;simp only [Option.map_some,Option.some.injEq] at d;cases k with
   | free=>exact n
   | cell=>exact absurd rfl q
   | _=>simp at d
 ·cases h
 ·exact Nat.ne_of_lt (hsz b g)
 ·exact (i b g).2.2.2.2.1 x c (f _ _ e)
 ·rcases (i b g).2.2.2.1 with z | z
  ·exact I.ok.noex b o e z
  ·exact absurd (Nat.lt_of_lt_of_le (Heap.lt_size (I.ok.bs b o e).1) z) (Nat.lt_irrefl _)
 ·rcases List.mem_cons.mp (I.stkSub b m) with z | z
  ·exact (i b g).2.1 z
  ·exact (i b g).2.2.1 z
theorem qY2 {a:Scope} {own:List Str} {fv:List Nat} {fp:List Addr} {h₁:Heap} {tk:Nat} (I:Inv X Aa σ H s) (S:LcScope X a own fv) (hf:∀ b ∈ fp,FpOk X Aa H b) (hsz:∀ b ∈ fp,b<s.heap.objs.size)
  (a1:h₁.Ns s.heap.objs.size (fun _=>none)) (t:∀ b o,s.heap.get? b=some o->h₁.get? b=some o) :
  Inv (lcCx X a own fv ⟨s.heap.objs.size,qKA X.env a.names [],fp,s,H⟩) [] (qLD own fv σ) H { s with heap:=h₁,toks:=tk }:=by
 have a2:∀ x,(x,NameKind.free) ∈ a.names->∃ c,X.env.cells.lookup x=some c:=fun x hx=>I.ok.has x (S.free _ hx rfl);have h:=qLO (env:=X.env) (names:=a.names) (acc:=[]) a2 (fun x c z=>by simp at z)
 refine ⟨qdD I S hf hsz,rfl,I.bare,Un.kept t,⟨_,a1,fun i x v f d h3=>?_⟩,fun x c e=>?_,I.hok.fresh (Nat.le_refl _),fun x c e=>I.freeC x c (h _ _ e),fun p hp=>absurd (show p ∈ ([]:List (Addr × Obj)) from hp) (by simp),I.hok.kept t,?_⟩
 ·have f:(own++fv.map fun i=>X.N.getD i Str.empty)[i]?=some x:=f;unfold qLD at d;have r:own.length<=i:=by
   apply Nat.le_of_not_lt;intro r;rw [List.getElem?_append_left (by simpa using r),List.getElem?_map] at d
   cases e:own[i]? with
   | none=>rw [e] at d;cases d
   | some z=>rw [e] at d;cases d
  rw [List.getElem?_append_right (by simpa using r),List.length_map,List.getElem?_map] at d
  rw [List.getElem?_append_right r,List.getElem?_map] at f;cases e:fv[i - own.length]? with
  | none=>rw [e] at f;cases f
  | some j=>
   rw [e] at f d;have hj:=S.fvs j (List.mem_of_getElem? e);have f:X.N.getD j Str.empty=x:=Option.some.inj f;have d:(σ[j]?).join=some v:=Option.some.inj d;have a0:σ[j]?=some (some v):=by
    cases q:σ[j]? with
    | none=>rw [q] at d;cases d
    | some y=>rw [q] at d;exact congrArg some d
   have hx:X.N[j]?=some x:=by
    rw [List.getD_eq_getElem?_getD] at f;rw [List.getElem?_eq_getElem hj.1] at f ⊢;exact congrArg some f
   have n:a.names.lookup x=some .free:=f ▸ hj.2;have g:=PySem.mem_of_lookup n;obtain ⟨m,hn,hl⟩:=id I.loc;have k:=S.free _ g rfl;obtain ⟨u,ru,lk⟩:=hl j x v hx a0 (by
    rcases k with z | z
    ·exact .inr (.inl z)
    ·exact .inr (.inr z))
   refine ⟨u,ru,?_⟩;rcases lk with ⟨z,_⟩ | ⟨_,c,e1,z⟩
   ·rcases k with y | y
    ·have l:X.env.kindOf x=some .cell:=y;rw [z] at l;cases l
    ·have l:X.env.kindOf x=some .free:=y;rw [z] at l;cases l
   ·obtain ⟨c',e2⟩:=qLP (env:=X.env) (names:=a.names) (acc:=[]) (x:=x) (.inl g);have e3:=h _ _ e2;rw [e1] at e3;cases e3;obtain ⟨o,w,hd⟩:=z;refine .inr ⟨?_,c,e2,o,t _ _ w,hd⟩;show (relabel a X.env).names.lookup x=some .cell\/(relabel a X.env).names.lookup x=some .free;unfold relabel;rw [qEG,n,Option.map_some]
    split
    ·exact .inl rfl
    ·exact .inr rfl
 ·obtain ⟨v,o,w,hd⟩:=I.cell x c (h _ _ e);exact ⟨v,o,t _ _ w,hd⟩
 ·unfold qLD;show _=(own++fv.map fun i=>X.N.getD i Str.empty).length;rw [List.length_append,List.length_append,List.length_map,List.length_map,List.length_map]
theorem qbB {a:Scope} {own:List Str} {fv:List Nat} {f:List Addr} {c:List (Addr × Obj)} {σ':St} {H':Hp} {s':Shared} {g:List (Str × Addr)} (I:Inv X Aa σ H s) (d:∀ b ∈ f,FpOk X Aa H b)
  (J:Inv (lcCx X a own fv ⟨s.heap.objs.size,g,f,s,H⟩) c σ' H' s'):Inv X Aa σ H' s':=
 I.call' (ch:=f) J.os J.base J.hok J.bare fun b e=>⟨(d b e).2.2.2.1,(d b e).2.1,(d b e).2.2.2.2.1,(d b e).2.2.2.2.2⟩
end
def PTs (X:Cx) (ifs:List Expr) (t:TT):Prop:=
 ∀ (Aa:List (Addr × Obj)) (s:Shared) (σ:St) (H:Hp) (Q:Bool->Hp->Prop),Inv X Aa σ H s->t σ H Q->
  wpAny (model X.prog X.w) X.A (forIn ifs true fun c r=>if r=true then do let ok <- isTrue c X.env (eval c X.env);pure (ForInStep.yield ok) else pure (ForInStep.yield r)) (TP X Aa σ Q) X.xe s
def qcF:TT:=fun _ H Q=>Q true H
theorem qCQ {X:Cx}:PTs X [] qcF:=fun a s σ H Q I h=>wpAny_tests_nil ⟨H,I,h⟩
theorem qQN {X:Cx} {c:Expr} {t:TT} (h:PT X c t):PTs X [c] t:=fun a s σ H Q I b=>wpAny_tests_one (h a s σ H Q I b)
def qdE (own:List Str) (fv:List Nat) (wi:TI) (g:TG) (tc:TT) (te:TE) (K:Addr->Hp->Prop):St->Hp->Prop:=fun σ H=>wi σ H fun J H1=>∀ p,H1 p=none->
 ∃ W:Nat->Nat->St->Hp->Prop,(∃ m,W 0 m (qLD own fv σ) (Af H1 p (.lst [])))/\∀ i m σ H,W i m σ H->
  (J.stop i H/\K p H)\/(J.go i H/\∃ N:St->Hp->Prop,(∀ σ' H',N σ' H'->∃ m',m'<m/\W (i+1) m' σ' H')/\∀ x H',J.yld i H x H'->g x σ H' fun σ2 H2=>tc σ2 H2 fun b H3=>
   if b=true then te σ2 H3 fun y H4=>∃ ys,H4 p=some (.lst ys)/\ys.length<sizeLine/\N σ2 (Af H4 p (.lst (ys++[y])))
   else N σ2 H3)
def tLc (own:List Str) (fv:List Nat) (wi:TI) (g:TG) (tc:TT) (te:TE):TE:=fun σ H Q=>qdE own fv wi g tc te (fun p H'=>Q (.ref p) H') σ H
section
variable {X:Cx} {tg iter elt:Expr} {ifs:List Expr} {scope:Scope} {pos:Pos} {own:List Str} {fv:List Nat} {wi:TI} {g:TG} {tc:TT} {te:TE}
theorem qVF {Aa:List (Addr × Obj)} {s:Shared} {σ:St} {H:Hp} {K:Addr->Hp->Prop} {use:Option (Value->Sem Unit)} {Q:Value->Shared->Prop} {E:Value->Shared->Prop} (hc:X.calm=true) (S:LcScope X scope own fv) (hi:PI X tg iter wi)
  (hg:∀ z,PG (lcCx X scope own fv z) tg g) (ht:∀ z,PTs (lcCx X scope own fv z) ifs tc) (he:∀ z,PE (lcCx X scope own fv z) elt te)
  (I:Inv X Aa σ H s) (h:qdE own fv wi g tc te K σ H) (ah:∀ e s,X.xe e s->E e s)
  (ak:∀ (p:Addr) (L:Addr) (H':Hp) (s':Shared) (m:Str->Option Value),Inv X Aa σ H' s'->K p H'->s'.heap.Ns L m->X.s₀.heap.objs.size<=L->H' L=none->L ≠ X.env.locals->(∀ x c,X.env.cells.lookup x=some c->c ≠ L)->(∀ q ∈ X.pn++Aa,q.1 ≠ L)->
   compPost (model X.prog X.w) X.A E use Q (.ref p) L (.ok .next) s') (hs:∀ x,foldedSetIterable iter X.env x=pure x:=by intro _;rfl) :
  wpAny (model X.prog X.w) X.A (comprehension (.ListComp elt [⟨tg,iter,ifs,0⟩] scope pos) scope X.env (firstIterPos [⟨tg,iter,ifs,0⟩] pos) (newList []) false (eval iter X.env) use) Q E s:=by
 have ao:∀ x,(x,NameKind.free) ∈ scope.names->∃ c,X.env.cells.lookup x=some c:=fun x hx=>I.ok.has x (S.free _ hx rfl);refine wpAny_comprehension_free rfl hs (qTJ ao) S.kind S.names (wpAny_mono (hi Aa s σ H _ I h) (fun v s1 h1=>wpAny_mono h1 (fun ap j h2=>?_) ah) ah);obtain ⟨it,k,tn,J,H2,e,I2,T,ab,f2,q2⟩:=h2;subst e
 -- the list
 refine wpAny_newObj_type ?_;have a3:H2 j.heap.objs.size=none:=I2.hok.fresh (Nat.le_refl _);have I3:Inv X Aa σ (Af H2 j.heap.objs.size (.lst [])) { j with heap:=j.heap.push { cls:=.type "list",dict:=none,data:=.seq ([]:List Value).toArray } }:=
  I2.laid (t':=j.toks) (fun b u e=>Heap.get?_push_of_some _ e) (Nat.le_refl _) ⟨Nat.zero_le _,[],0,.nil,Heap.get?_push_size _ rfl⟩
 obtain ⟨W,⟨m0,w0⟩,ac⟩:=q2 j.heap.objs.size a3;have a8:∀ b ∈ k,b<j.heap.objs.size:=fun b a=>by
  obtain ⟨o,e,_⟩:=T.obj 0 _ ab b a;exact Heap.lt_size e
 have f3:∀ b ∈ k,FpOk X Aa (Af H2 j.heap.objs.size (.lst [])) b:=fun b a=>⟨by rw [qA8 (Nat.ne_of_lt (a8 b a))];exact (f2 b a).1,(f2 b a).2⟩
 generalize hp:j.heap.objs.size=p at *;generalize hH3:Af H2 p (.lst [])=H3 at *;have am:tn 0 (j.heap.push { cls:=.type "list",dict:=none,data:=.seq ([]:List Value).toArray }):=T.keep _ _ _ ab fun b _ o e=>Heap.get?_push_of_some _ e;have al:∀ b ∈ k,b<(j.heap.push { cls:=.type "list",dict:=none,data:=.seq ([]:List Value).toArray }).objs.size:=fun b a=>by
  rw [Heap.size_push];have:=a8 b a;rw [hp];exact Nat.lt_succ_of_lt this
 generalize hs3:({ j with heap:=j.heap.push { cls:=.type "list",dict:=none,data:=.seq ([]:List Value).toArray } }:Shared)=f at *;have af:tn 0 f.heap:=by rw [<- hs3];exact am
 have a6:∀ b ∈ k,b<f.heap.objs.size:=by rw [<- hs3];exact al
 -- the block's frame
 refine wpAny_newFunctionEnv S.nocell (by intro y hy;simp at hy) (fun h₁ ae ag=>?_) S.kind
 have a1:∀ b o,f.heap.get? b=some o->h₁.get? b=some o:=fun b o e=>ag.extBut b o (Nat.ne_of_lt (Heap.lt_size e)) (Heap.get?_push_of_some _ e);have J0:Inv (lcCx X scope own fv ⟨f.heap.objs.size,qKA X.env scope.names [],k,f,H3⟩) [] (qLD own fv σ) H3 { f with heap:=h₁,toks:=f.toks+([]:List (Str × Value)).length }:=qY2 I3 S f3 a6 ae a1;have a7:=qdD I3 S f3 a6;generalize hz:(⟨f.heap.objs.size,qKA X.env scope.names [],k,f,H3⟩:LcZ)=z at *;have t:tn 0 h₁:=T.keep _ _ _ af fun b _ o e=>a1 b o e;have a2:∀ b ∈ k,H3 b=none:=fun b a=>(f3 b a).1;have l:∀ {H':Hp},(∀ b ∈ k,H' b=none)->∀ b ∈ k,FpOk (lcCx X scope own fv z) [] H' b:=fun hn b a=>by
  subst hz;refine ⟨hn b a,(a7.exf b a).1,a7.exfs b a,.inl a,(a7.exf b a).2,fun q hq=>absurd (show q ∈ ([]:List (Addr × Obj)) from hq) (by simp)⟩
 have a9:({ newEnv scope f.heap.objs.size X.env.globals (qKA X.env scope.names []) X.env.qual none .none (some X.env) builtinsNs with scope:=relabel scope X.env }:Env)=(lcCx X scope own fv z).env:=by
  subst hz
  rfl
 have a5:∀ sA:Shared,sA={ f with heap:=h₁,toks:=f.toks+([]:List (Str × Value)).length }->codeAny (model X.prog X.w) X.A (.compLoop (.ListComp elt [⟨tg,iter,ifs,0⟩] scope pos) 0 (.ref it) (.ref p) (lcCx X scope own fv z).env)
   (compPost (model X.prog X.w) X.A E use Q (.ref p) f.heap.objs.size) sA:=by
  rintro sA rfl;refine qPU (fun n s'=>∃ i σ' H',Inv (lcCx X scope own fv z) [] σ' H' s'/\tn i s'.heap/\(∀ b ∈ k,H' b=none)/\W i n σ' H') ?_ m0 ⟨0,_,H3,J0,t,a2,w0⟩;rintro n s4 ⟨i,σ4,H4,I4,t,a2,w4⟩;rcases ac i n σ4 H4 w4 with ⟨ad,qn⟩ | ⟨go,Nx,ai,aa⟩
  ·refine thn (T.done (lcCx X scope own fv z) rfl rfl rfl hc i [] s4 σ4 H4 noX I4 (l a2) t ad) fun r s5 ⟨hr,I5⟩=>?_;subst hr;subst hz;have I6:Inv X Aa σ H4 s5:=qbB I3 f3 I5;obtain ⟨m,hn,_⟩:=id I5.loc;have a4:=I3.fpOk (H':=H4) (b:=f.heap.objs.size) (Nat.le_refl _) I5.free;refine ak p f.heap.objs.size H4 s5 m I6 qn hn I3.sz a4.1 a4.2.1 a4.2.2.2.2.1 a4.2.2.2.2.2
  ·refine thn (T.item (lcCx X scope own fv z) rfl rfl rfl hc i [] s4 σ4 H4 noX I4 (l a2) t go) fun r s5 ⟨u,hr,h5⟩=>?_;subst hr;refine thn h5 fun _ s6 ⟨x,H6,I6,r6,y6,st6,fr6⟩=>?_;have an:=I6.pinned (l fr6) (T.obj _ _ st6);have a0:∀ {σ7:St} {H7:Hp} {s7:Shared} {m':Nat},m'<n->Inv (lcCx X scope own fv z) ([]++qPA k s6.heap) σ7 H7 s7->W (i+1) m' σ7 H7->
     ∃ m,m<n/\∃ i σ' H',Inv (lcCx X scope own fv z) [] σ' H' s7/\tn i s7.heap/\(∀ b ∈ k,H' b=none)/\W i m σ' H':=fun {σ7 H7 s7 m'} hm I7 w7=>by
    refine ⟨m',hm,i+1,σ7,H7,I7.unpinned,T.keep _ _ _ st6 fun b a o e=>(I7.pin (b,o) (List.mem_append_right _ (List.mem_append_right _ (qG3 a e)))).1,fun b a=>?_,w7⟩;obtain ⟨o,e,d⟩:=T.obj _ _ st6 b a;exact (I7.pin (b,o) (List.mem_append_right _ (List.mem_append_right _ (qG3 a e)))).2.1
   refine thn (hg z _ s6 σ4 H6 x u _ an r6 (aa x H6 y6)) fun _ s7 ⟨σ7,H7,I7,q7⟩=>?_;refine thn (ht z _ s7 σ7 H7 _ I7 q7) fun b s8 ⟨H8,I8,q8⟩=>?_;cases b with
   | false=>
    obtain ⟨m',hm,w8⟩:=ai _ _ q8;exact a0 hm I8 w8
   | true=>
    refine thn (he z _ s8 σ7 H8 _ I8 q8) fun v s9 ⟨y,H9,I9,r9,ys,ep,hl,w9⟩=>?_;refine thn (qBQ (X:=lcCx X scope own fv z) _ s9 σ7 H9 (.ref p) [y] (.ref p) [v] (fun _ H'=>Nx σ7 H') I9 rfl (.cons r9 .nil) ⟨p,ys,y,rfl,rfl,ep,hl,w9⟩) fun _ s10 ⟨_,H10,I10,_,q10⟩=>?_;obtain ⟨m',hm,aj⟩:=ai _ _ q10;exact a0 hm I10 aj
 rw [a9];exact codeAny_compStart_list (a5 _ rfl) (T.self _ _ _ _ _ t (a5 _ rfl))
theorem qJ3 (d:X.calm=true) (S:LcScope X scope own fv) (hi:PI X tg iter wi) (e:∀ z,PG (lcCx X scope own fv z) tg g) (f:∀ z,PTs (lcCx X scope own fv z) ifs tc) (t:∀ z,PE (lcCx X scope own fv z) elt te)
  (j:∀ x,foldedSetIterable iter X.env x=pure x:=by intro _;rfl):PE X (.ListComp elt [⟨tg,iter,ifs,0⟩] scope pos) (tLc own fv wi g tc te):=by
 intro v s σ H Q I h;rw [eval_ListComp];refine qVF (use:=none) (K:=fun p b=>Q (.ref p) b) d S hi e f t I h (fun _ _ q=>q) (fun p L b y m l q u c r i o k=>?_) j;exact ⟨m,u,fun w a=>⟨.ref p,b,l.other (n:=0) c r i o k a,rfl,q⟩⟩
theorem qUS {i:Nat} {x:Str} {b c:Pos} (hN:X.N.Nodup) (hx:X.N[i]?=some x) (o:X.env.scope.names.lookup x=some .local) (hc:X.calm=true) (S:LcScope X scope own fv) (hi:PI X tg iter wi) (u:∀ z,PG (lcCx X scope own fv z) tg g)
  (ht:∀ z,PTs (lcCx X scope own fv z) ifs tc) (he:∀ z,PE (lcCx X scope own fv z) elt te) (f:swapsWith (.ListComp elt [⟨tg,iter,ifs,0⟩] scope pos) (some (.Name x b)) c.line X.env=pure true)
  (hs:∀ x,foldedSetIterable iter X.env x=pure x:=by intro _;rfl):PS X (.Assign [.Name x b] (.ListComp elt [⟨tg,iter,ifs,0⟩] scope pos) c) (tAsg (tLc own fv wi g tc te) (qQZ i)):=by
 intro Aa s σ H D I h;rw [exec_Assign_Name_used _ _ _ _ f];refine wpAny_bind (wpAny_standAt (wpAny_bind ?_));show wpAny _ X.A (do let _ <- comprehension (.ListComp elt [⟨tg,iter,ifs,0⟩] scope pos) scope X.env _ (newList []) false (eval iter X.env) (some (assign (.Name x b) X.env))) _ _ s
 refine wpAny_bind (wpAny_mono (qVF (use:=some (assign (.Name x b) X.env)) (K:=fun p d=>D.nx (σ.set i (some (.ref p))) d) (Q:=fun _ k=>SP X Aa D .next k) (E:=X.xe) hc S hi u ht he I h (fun _ _ q=>q) (fun p L d k m I' q w h1 h2 t r h5=>?_) hs)
  (fun _ k hq=>wpAny_pure (wpAny_pure hq)) fun _ _ e=>e)
 show wpAny _ X.A (assign (.Name x b) X.env (.ref p)) _ _ _;refine wpAny_assign_Name (qOV (v:=.ref p) I' hN hx (.inl o) rfl (fun s2 I2 ⟨a,hsb,ha⟩=>?_) (.inr o));have l:L ≠ a:=by
  rcases ha with z | z
  ·rw [z];exact t
  ·exact fun y=>r x a z y.symm
 exact ⟨m,w.sameBut hsb l,fun h' j=>⟨_,d,I2.other (n:=0) h1 h2 t r h5 j,q⟩⟩
end
abbrev LcG (I:It) (g:TG) (tc:TT) (te:TE) (Kf:Hp->Prop) (σ0:St) (H0:Hp) (p:Addr):Prop:=∃ W:Nat->Nat->St->Hp->Prop,(∃ m,W 0 m σ0 H0)/\∀ i m σ H,W i m σ H->(I.stop i H/\Kf H)\/(I.go i H/\∃ N:St->Hp->Prop,(∀ σ' H',N σ' H'->∃ m',m'<m/\W (i+1) m' σ' H')/\∀ x H',I.yld i H x H'->g x σ H' fun σ2 H2=>tc σ2 H2 fun b H3=>if b=true then te σ2 H3 fun y H4=>∃ ys,H4 p=some (.lst ys)/\ys.length<sizeLine/\N σ2 (Af H4 p (.lst (ys++[y]))) else N σ2 H3)
theorem qG4 {lo:Int} {n:Nat} {g:TG} {d:TT} {c:TE} {Kf:Hp->Prop} {σ0:St} {H0:Hp} {p:Addr} (Pv:Nat->St->Hp->Prop) (f:Pv 0 σ0 H0)
  (h:∀ i σ H,i<n->Pv i σ H->g (.int (lo+i)) σ H fun σ2 H2=>d σ2 H2 fun b H3=>if b=true then c σ2 H3 fun y H4=>∃ ys,H4 p=some (.lst ys)/\ys.length<sizeLine/\Pv (i+1) σ2 (Af H4 p (.lst (ys++[y]))) else Pv (i+1) σ2 H3)
  (k:∀ σ H,Pv n σ H->Kf H) :
  LcG (Itr lo n) g d c Kf σ0 H0 p:=by
 refine ⟨fun i m σ H=>m=n - i/\i<=n/\Pv i σ H,⟨n,by simp,Nat.zero_le _,f⟩,?_⟩
 rintro i m σ H ⟨rfl,hi,q⟩;by_cases a:i<n
 ·refine .inr ⟨a,Pv (i+1),fun σ' l j=>⟨n - (i+1),by omega,rfl,a,j⟩,fun x l y=>?_⟩
  obtain ⟨e,y⟩:=y;subst e y;exact h i σ _ a q
 ·have e:i=n:=by omega
  subst e;exact .inl ⟨Nat.le_refl _,k σ H q⟩
theorem qLC {K:PySem.W.Frag} {a:Addr} {xs:List V} {g:TG} {h:TT} {f:TE} {Kf:Hp->Prop} {σ0:St} {H0:Hp} {p:Addr} (Pv:Nat->St->Hp->Prop) (j:Pv 0 σ0 H0) (o:∀ i σ H,i<=xs.length->Pv i σ H->SqL K H a xs)
  (k:∀ i x σ H,xs[i]?=some x->Pv i σ H->g x σ H fun σ2 H2=>h σ2 H2 fun b H3=>if b=true then f σ2 H3 fun y H4=>∃ ys,H4 p=some (.lst ys)/\ys.length<sizeLine/\Pv (i+1) σ2 (Af H4 p (.lst (ys++[y]))) else Pv (i+1) σ2 H3)
  (n:∀ σ H,Pv xs.length σ H->Kf H) :
  LcG (Itl K a) g h f Kf σ0 H0 p:=by
 refine ⟨fun i m σ H=>m=xs.length - i/\i<=xs.length/\Pv i σ H,⟨xs.length,by simp,Nat.zero_le _,j⟩,?_⟩
 rintro i m σ H ⟨rfl,hi,q⟩;have d:=o i σ H hi q;by_cases c:i<xs.length
 ·refine .inr ⟨⟨xs,xs[i],d,by simp [c]⟩,Pv (i+1),fun σ' r l=>⟨xs.length - (i+1),by omega,rfl,c,l⟩,fun x r y=>?_⟩
  obtain ⟨e,y⟩:=y;subst e;exact k i x σ _ (y xs d) q
 ·have e:i=xs.length:=by omega
  subst e;exact .inl ⟨⟨xs,d,Nat.le_refl _⟩,n σ H q⟩
theorem qZA {K:PySem.W.Frag} {a:Addr} {xs:List V} {g:TG} {h:TT} {f:TE} {Kf:Hp->Prop} {σ0:St} {H0:Hp} {p:Addr} (Pv:Nat->St->Hp->Prop) (j:Pv 0 σ0 H0) (o:∀ i σ H,i<=xs.length->Pv i σ H->SqT K H a xs)
  (k:∀ i x σ H,xs[i]?=some x->Pv i σ H->g x σ H fun σ2 H2=>h σ2 H2 fun b H3=>if b=true then f σ2 H3 fun y H4=>∃ ys,H4 p=some (.lst ys)/\ys.length<sizeLine/\Pv (i+1) σ2 (Af H4 p (.lst (ys++[y]))) else Pv (i+1) σ2 H3)
  (n:∀ σ H,Pv xs.length σ H->Kf H) :
  LcG (Itt K a) g h f Kf σ0 H0 p:=by
 refine ⟨fun i m σ H=>m=xs.length - i/\i<=xs.length/\Pv i σ H,⟨xs.length,by simp,Nat.zero_le _,j⟩,?_⟩
 rintro i m σ H ⟨rfl,hi,q⟩;have d:=o i σ H hi q;by_cases c:i<xs.length
 ·refine .inr ⟨⟨xs,xs[i],d,by simp [c]⟩,Pv (i+1),fun σ' r l=>⟨xs.length - (i+1),by omega,rfl,c,l⟩,fun x r y=>?_⟩
  obtain ⟨e,y⟩:=y;subst e;exact k i x σ _ (y xs d) q
 ·have e:i=xs.length:=by omega
  subst e;exact .inl ⟨⟨xs,d,Nat.le_refl _⟩,n σ H q⟩
noncomputable def qVG (scope:Scope) (own:List Str) (fv:List Nat) (osc:Scope) (N:List Str):Bool:=
 decide (scope.kind=.function) && scope.names.all (fun y=>decide (y.2 ≠ .cell)) && scope.names.all (fun y=>decide (y.2 ≠ .local) || decide (scope.names.lookup y.1=some .local)) &&
 scope.names.all (fun y=>decide (y.2 ≠ .free) || (decide (osc.names.lookup y.1=some .cell) || decide (osc.names.lookup y.1=some .free))) && decide ((own++fv.map fun i=>N.getD i Str.empty).Nodup) &&
 fv.all fun i=>decide (i<N.length) && decide (scope.names.lookup (N.getD i Str.empty)=some .free)
theorem lcs {X:Cx} {a:Scope} {own:List Str} {fv:List Nat} (h:qVG a own fv X.env.scope X.N=true):LcScope X a own fv:=by
 unfold qVG at h;simp only [Bool.and_eq_true,decide_eq_true_eq,List.all_eq_true,Bool.or_eq_true] at h;obtain ⟨⟨⟨⟨⟨c,j⟩,f⟩,i⟩,g⟩,d⟩:=h;exact ⟨c,j,fun y b e=>(f y b).resolve_left fun z=>z e,fun y b e=>(i y b).resolve_left fun z=>z e,g,d⟩
theorem qeP {N:List Str} (h:decide N.Nodup=true):N.Nodup:=of_decide_eq_true h
theorem qaO {X:Cx} {K:PySem.W.Frag} {es:List Expr} {k n:Nat} {t:TGs} {b:Pos} (d:X.K=K) (c:X.calm=true) (h:PGs X es t) (e:(assignEach es X.env).length=n) (a:(assignEach es X.env).findIdx? (·.1)=none):PG X (.Tuple es k b) (gTup K n t):=by
 subst d e;exact qL4 c h rfl a
theorem qaN {X:Cx} {K:PySem.W.Frag} {d l:Expr} {a:TE} (c:X.K=K) (b:PE X l a):PI X d l (iTup K a):=by subst c;exact qUZ b
theorem qSB {X:Cx} {K:PySem.W.Frag} (a:X.K=K):IxR X (rIxL K):=by subst a;exact qAM
theorem qZ6 {X:Cx} {K:PySem.W.Frag} (a:X.K=K):OpR X (compareOp .In) (rIn K false):=by subst a;exact qC4
theorem qWO {X:Cx} {K:PySem.W.Frag} (a:X.K=K):qD1 X (.builtin "len") (fun xs H Q=>∃ p ys,xs=[.ref p]/\(SqL K H p ys\/SqT K H p ys)/\Q (.int ys.length) H):=by subst a;exact qA9
theorem qLQ {X:Cx} {K:PySem.W.Frag} (a:X.K=K):qD1 X (.type "tuple") (fun xs H Q=>∃ p ys,xs=[.ref p]/\((SqL K H p ys/\∀ l,H l=none->Q (.ref l) (Af H l (.tup ys)))\/(SqT K H p ys/\Q (.ref p) H))):=by subst a;exact qAV
end L2
namespace L2
open PySem PySem.Spec PyProof.Rows
theorem qOF {xs:Array Nat} {j:Nat} (up:∀ a b,a<b->b<xs.size->xs.getD a j<xs.getD b j):∀ (fuel lo hi:Nat),lo<=hi->hi<=xs.size->hi - lo<=fuel->(∀ i,i<lo->xs.getD i j<j)->(∀ i,hi<=i->i<xs.size->j<=xs.getD i j)->
  SetTable.below.go xs j fuel lo hi<=xs.size/\(∀ i,i<SetTable.below.go xs j fuel lo hi->xs.getD i j<j)/\(∀ i,SetTable.below.go xs j fuel lo hi<=i->i<xs.size->j<=xs.getD i j)
 | 0,lo,hi,h1,h2,h3,a,b=>by
  have e:lo=hi:=by lia
  subst e;exact ⟨h2,a,b⟩
 | fuel+1,lo,hi,h1,h2,h3,a,b=>by
  unfold SetTable.below.go;by_cases hlt:lo<hi
  ·rw [if_pos hlt];dsimp only;have hm1:lo<=(lo+hi) / 2:=by lia
   have hm2:(lo+hi) / 2<hi:=by lia
   by_cases hc:xs.getD ((lo+hi) / 2) j<j
   ·rw [if_pos hc];refine qOF up fuel _ _ (by lia) h2 (by lia) (fun i hi'=>?_) b
    by_cases e:i=(lo+hi) / 2
    ·rw [e];exact hc
    ·exact Nat.lt_trans (up i ((lo+hi) / 2) (by lia) (by lia)) hc
   ·rw [if_neg hc];refine qOF up fuel _ _ (by lia) (by lia) (by lia) a (fun i hi' hs=>?_)
    by_cases e:i=(lo+hi) / 2
    ·rw [e];lia
    ·have:=up ((lo+hi) / 2) i (by lia) hs
     lia
  ·rw [if_neg hlt];have e:lo=hi:=by lia
   subst e;exact ⟨h2,a,b⟩
theorem qX8 {xs:Array Nat} (j:Nat) (h:xs.toList.Pairwise (·<·)):∀ a b,a<b->b<xs.size->xs.getD a j<xs.getD b j:=fun a b c d=>by
 have:=List.pairwise_iff_getElem.mp h a b (by simpa using Nat.lt_trans c d) (by simpa using d) c
 rw [Array.getD_eq_getD_getElem?,Array.getD_eq_getD_getElem?,Array.getElem?_eq_getElem (Nat.lt_trans c d),Array.getElem?_eq_getElem d];simpa using this
theorem qEV {xs:Array Nat} {j:Nat} (h:xs.toList.Pairwise (·<·)):SetTable.below xs j<=xs.size/\(∀ i,i<SetTable.below xs j->xs.getD i j<j)/\(∀ i,SetTable.below xs j<=i->i<xs.size->j<=xs.getD i j):=by
 unfold SetTable.below;exact qOF (qX8 j h) xs.size 0 xs.size (Nat.zero_le _) (Nat.le_refl _) (by lia) (fun i a=>absurd a (by lia)) (fun i a b=>absurd b (by lia))
theorem qBC {α:Type} (xs:Array α) (p:Nat) (x:α):(SetTable.insertAt xs p x).toList=xs.toList.take p++x::xs.toList.drop p:=by
 unfold SetTable.insertAt;simp [Array.toList_extract,List.take_of_length_le]
structure T7 (byText:Bool) (t:SetTable) (n:Nat):Prop where
 mask:t.mask=7
 dum:t.dummies=#[]
 plain:t.plain=true
 led:t.led=!byText
 size:t.place.size=n
 up:t.place.toList.Pairwise (·<·)
 le:∀ j ∈ t.place.toList,j<=7
section
variable {byText:Bool} {t:SetTable} {n:Nat}
theorem T7.slot (T:T7 byText t n) (j:Nat):(t.slot j=.empty/\j ∉ t.place.toList)\/(∃ i,t.slot j=.live i/\j ∈ t.place.toList):=by
 unfold SetTable.slot;dsimp only;have h:SetTable.has t.dummies j=false:=by rw [T.dum];rfl
 obtain ⟨o,g,l⟩:=qEV (j:=j) T.up;by_cases b:t.place[SetTable.below t.place j]?=some j
 ·rw [if_pos (by rw [b];simp)]
  exact .inr ⟨_,rfl,by rw [<- Array.mem_def];exact Array.mem_of_getElem? b⟩
 ·rw [if_neg (by simpa using b),h,if_neg (by simp)]
  refine .inl ⟨rfl,fun f=>?_⟩;obtain ⟨i,e,c⟩:=List.mem_iff_getElem.mp f;have a:i<t.place.size:=by simpa using e
  have k:t.place.getD i j=j:=by
   rw [Array.getD_eq_getD_getElem?,Array.getElem?_eq_getElem a];simpa using c
  have d:¬ i<SetTable.below t.place j:=fun z=>by have:=g i z;lia
  have m:SetTable.below t.place j=i:=by
   apply Nat.le_antisymm (Nat.le_of_not_lt d);apply Nat.le_of_not_lt;intro z;have:=l (SetTable.below t.place j) (Nat.le_refl _) (by lia)
   have:=qX8 j T.up _ _ z a
   lia
  apply b;rw [m,Array.getElem?_eq_getElem a];simpa using c
def pr (i pt:Nat):SetTable.Probe:={ j:=i,more:=0,i:=i,perturb:=pt,dummy:=none }
theorem T7.adv (T:T7 byText t n) (i a:Nat):t.advance (pr i a)=pr ((i * 5+1+a / 32) % 8) (a / 32):=by
 unfold SetTable.advance pr SetTable.leap SetTable.runEnd;rw [T.mask];dsimp only;rw [if_neg (by lia),if_neg (by lia),Nat.sub_self]
theorem T7.go1 (T:T7 byText t n) (h:Int) (f i a:Nat) :
  (SetTable.probe.go t (fun _=>h+1) h (f+1) (pr i a)=some (.empty i none)/\i ∉ t.place.toList)\/
  (SetTable.probe.go t (fun _=>h+1) h (f+1) (pr i a)=SetTable.probe.go t (fun _=>h+1) h f (pr ((i * 5+1+a / 32) % 8) (a / 32))/\i ∈ t.place.toList):=by
 rcases T.slot i with ⟨e,m⟩ | ⟨k,e,m⟩
 ·left
  refine ⟨?_,m⟩;unfold SetTable.probe.go;rw [show (pr i a).j=i from rfl,e]
  rfl
 ·right
  refine ⟨?_,m⟩;rw [SetTable.probe.go];rw [show (pr i a).j=i from rfl,e];dsimp only;rw [if_neg (by simp;lia),T.adv]
def F8 (i:Nat):Nat:=(i * 5+1) % 8
def F8n:Nat->Nat->Nat
 | 0,i=>i
 | m+1,i=>F8n m (F8 i)
theorem T7.go0 (T:T7 byText t n) (h:Int) (f:Nat):∀ (m i:Nat),(∃ j,SetTable.probe.go t (fun _=>h+1) h (m+f) (pr i 0)=some (.empty j none)/\j ∉ t.place.toList/\∃ q,q<m/\j=F8n q i)\/(∀ q,q<m->F8n q i ∈ t.place.toList)
 | 0,i=>.inr fun q hq=>absurd hq (by lia)
 | m+1,i=>by
  rcases T.go1 h (m+f) i 0 with ⟨e,z⟩ | ⟨e,z⟩
  ·exact .inl ⟨i,by rw [show m+1+f=m+f+1 by lia];exact e,z,0,by lia,rfl⟩
  ·rw [show m+1+f=m+f+1 by lia,e]
   have e2:(i * 5+1+0 / 32) % 8=F8 i:=by unfold F8;lia
   rw [e2];rcases T.go0 h f m (F8 i) with ⟨j,e3,z3,q,hq,e4⟩ | e3
   ·exact .inl ⟨j,e3,z3,q+1,by lia,e4⟩
   ·refine .inr fun q hq=>?_;cases q with
    | zero=>exact z
    | succ q=>exact e3 q (by lia)
theorem qdZ:∀ i:_root_.Fin 8,∀ j:_root_.Fin 8,∃ q:_root_.Fin 8,F8n q.1 i.1=j.1:=by decide
theorem qdY:∀ (q i:Nat),i<8->F8n q i<8
 | 0,i,h=>h
 | q+1,i,h=>qdY q (F8 i) (Nat.mod_lt _ (by decide))
theorem T7.goK (T:T7 byText t n) (hn:n<=7) (h:Int) (f:Nat):∀ (k i pt:Nat),i<8->pt<32 ^ k->∃ j,SetTable.probe.go t (fun _=>h+1) h (k+(8+f)) (pr i pt)=some (.empty j none)/\j ∉ t.place.toList/\j<=7
 | 0,i,pt,hi,hp=>by
  have e:pt=0:=by lia
  subst e;rw [Nat.zero_add];rcases T.go0 h f 8 i with ⟨j,e,z,q,hq,e2⟩ | e
  ·exact ⟨j,e,z,by have:=qdY q i hi;lia⟩
  ·exfalso
   have sub:[0,1,2,3,4,5,6,7] ⊆ t.place.toList:=fun j hj=>by
    have hj8:j<8:=by
     simp at hj
     lia
    obtain ⟨q,hq⟩:=qdZ ⟨i,hi⟩ ⟨j,hj8⟩;rw [<- show F8n q.1 i=j from hq];exact e q.1 q.2
   have:=List.Nodup.length_le_of_subset (by decide:[0,1,2,3,4,5,6,7].Nodup) sub
   have hs:=T.size;simp at this
   lia
 | k+1,i,pt,hi,hp=>by
  rw [show k+1+(8+f)=k+(8+f)+1 by lia]
  rcases T.go1 h (k+(8+f)) i pt with ⟨e,z⟩ | ⟨e,z⟩
  ·exact ⟨i,e,z,by lia⟩
  ·rw [e];refine T.goK hn h f k _ _ (Nat.mod_lt _ (by decide)) ?_
   rw [Nat.pow_succ] at hp
   lia
theorem T7.free (T:T7 byText t n) (d:n<=7) (h:Int):∃ j,t.freeSlot h=some (j,false)/\j ∉ t.place.toList/\j<=7:=by
 have c:SetTable.bits h<32 ^ 13:=by
  unfold SetTable.bits;have b:0<=h % (2 ^ 64:Int):=Int.emod_nonneg _ (by decide)
  have f:h % (2 ^ 64:Int)<2 ^ 64:=Int.emod_lt_of_pos _ (by decide)
  have:((2:Int) ^ 64)=18446744073709551616:=by decide
  rw [this] at b f ⊢;have g:(32:Nat) ^ 13=36893488147419103232:=by decide
  lia
 obtain ⟨j,e,z,l⟩:=T.goK d h 199 13 (SetTable.bits h % 8) (SetTable.bits h) (Nat.mod_lt _ (by decide)) c
 refine ⟨j,?_,z,l⟩;have a:t.probeStart h=pr (SetTable.bits h % 8) (SetTable.bits h):=by
  unfold SetTable.probeStart pr SetTable.runEnd;rw [T.mask];dsimp only;rw [if_neg (by lia),Nat.sub_self]
 unfold SetTable.freeSlot SetTable.probe;rw [a,show 10 * SetTable.turns t.mask=13+(8+199) by rw [T.mask];rfl,e]
 rfl
theorem T7.lay (T:T7 byText t n) (hn:n<=3) {es:Array (Int × Value)} (he:es.size=n) (h:Int) (x:Value) :
  ∃ p t',layNew t es h x=(SetTable.insertAt es p (h,x),t',false,false)/\T7 byText t' (n+1)/\t'.tooFull=false/\p<=es.size:=by
 obtain ⟨j,e,z,l⟩:=T.free (by lia) h
 obtain ⟨o,w,b3⟩:=qEV (j:=j) T.up;have hd:SetTable.has t.dummies j=false:=by rw [T.dum];rfl
 have g:(SetTable.insertAt t.place (SetTable.below t.place j) j).toList=t.place.toList.take (SetTable.below t.place j)++j::t.place.toList.drop (SetTable.below t.place j):=qBC _ _ _;have q:(SetTable.insertAt t.place (SetTable.below t.place j) j).size=n+1:=by
  rw [<- Array.length_toList,g,List.length_append,List.length_cons,List.length_take,List.length_drop,Array.length_toList,T.size];rw [T.size] at o
  lia
 have y:T7 byText { t with place:=SetTable.insertAt t.place (SetTable.below t.place j) j,dummies:=t.dummies } (n+1):=by
  refine ⟨T.mask,T.dum,T.plain,T.led,q,?_,?_⟩
  ·show (SetTable.insertAt t.place (SetTable.below t.place j) j).toList.Pairwise (·<·);rw [g];have s:∀ i,i<t.place.size->t.place.getD i j=t.place.toList.getD i j:=fun i hi=>by
    rw [Array.getD_eq_getD_getElem?,List.getD_eq_getElem?_getD,Array.getElem?_toList]
   have r:∀ a ∈ t.place.toList.take (SetTable.below t.place j),a<j:=fun a f=>by
    obtain ⟨i,hi,c⟩:=List.mem_iff_getElem.mp f;rw [List.length_take,Array.length_toList] at hi;have k:i<SetTable.below t.place j:=by lia
    have d:i<t.place.size:=by lia
    have:=w i k;rw [Array.getD_eq_getD_getElem?,Array.getElem?_eq_getElem d] at this;rw [List.getElem_take] at c;rw [<- c];simpa using this
   have hi:∀ a ∈ t.place.toList.drop (SetTable.below t.place j),j<a:=fun a f=>by
    have u:a ∈ t.place.toList:=List.mem_of_mem_drop f;obtain ⟨i,hi,c⟩:=List.mem_iff_getElem.mp f;rw [List.length_drop,Array.length_toList] at hi;have d:SetTable.below t.place j+i<t.place.size:=by lia
    have:=b3 _ (Nat.le_add_right _ i) d;rw [Array.getD_eq_getD_getElem?,Array.getElem?_eq_getElem d] at this;rw [List.getElem_drop] at c;have v:j<=a:=by
     rw [<- c];simpa using this
    rcases Nat.lt_or_eq_of_le v with h4 | h4
    ·exact h4
    ·exact absurd (h4 ▸ u) z
   refine List.pairwise_append.mpr ⟨T.up.sublist (List.take_sublist _ _),List.pairwise_cons.mpr ⟨hi,T.up.sublist (List.drop_sublist _ _)⟩,fun a f b hb=>?_⟩;rcases List.mem_cons.mp hb with e | hb
   ·rw [e];exact r a f
   ·exact Nat.lt_trans (r a f) (hi b hb)
  ·show ∀ i ∈ (SetTable.insertAt t.place (SetTable.below t.place j) j).toList,i<=7;rw [g];intro i hi;rcases List.mem_append.mp hi with hi | hi
   ·exact T.le i (List.mem_of_mem_take hi)
   ·rcases List.mem_cons.mp hi with e | hi
    ·lia
    ·exact T.le i (List.mem_of_mem_drop hi)
 have fits:SetTable.fits { t with place:=SetTable.insertAt t.place (SetTable.below t.place j) j,dummies:=t.dummies } (n+1)=true:=by
  unfold SetTable.fits SetTable.fill;dsimp only;rw [q,T.dum,T.mask];have:((#[]:Array Nat)).size=0:=rfl;simp only [this,beq_self_eq_true,Bool.true_and,decide_eq_true_eq]
  lia
 have m:(SetTable.insertAt es (SetTable.below t.place j) (h,x)).size=n+1:=by
  rw [<- Array.length_toList,qBC,List.length_append,List.length_cons,List.length_take,List.length_drop,Array.length_toList];rw [T.size] at o
  lia
 refine ⟨SetTable.below t.place j,{ t with place:=SetTable.insertAt t.place (SetTable.below t.place j) j,dummies:=t.dummies },?_,y,?_,by rw [he,<- T.size];exact o⟩
 ·unfold layNew;rw [e];dsimp only;unfold SetTable.put;rw [hd];dsimp only;rw [m];unfold SetTable.orStandIn;simp only [Bool.false_eq_true,if_false];rw [fits];simp
 ·unfold SetTable.tooFull SetTable.fill;dsimp only;rw [q,T.dum,T.mask];have:((#[]:Array Nat)).size=0:=rfl;rw [this];exact decide_eq_false (by lia)
end
end L2
namespace L2
open PySem PySem.Spec PyProof.Rows
theorem qMR {α:Type}:∀ (l:List α) (i:Nat) (h:i<l.length),(l[i]::l.eraseIdx i).Perm l
 | [],i,h=>absurd h (by simp)
 | a::r,0,h=>.refl _
 | a::r,i+1,h=>by
  have hi:i<r.length:=by simpa using h
  have ih:=qMR r i hi;show (r[i]::a::r.eraseIdx i).Perm (a::r);exact (List.Perm.swap _ _ _).trans (ih.cons a)
theorem qUY {α:Type} (next:Nat->Nat):∀ (fuel k:Nat) (left:List α) (out:Array α),fuel=left.length->(pickOrder.go next fuel k left out).toList.Perm (out.toList++left)
 | 0,k,left,out,h=>by
  have:left=[]:=List.length_eq_zero_iff.mp h.symm;subst this;unfold pickOrder.go;simp
 | fuel+1,k,left,out,h=>by
  have hl:0<left.length:=by lia
  have hm:next k % left.length<left.length:=Nat.mod_lt _ hl;unfold pickOrder.go;rw [List.getElem?_eq_getElem hm];dsimp only;refine (qUY next fuel (k+1) _ _ (by rw [List.length_eraseIdx_of_lt hm];lia)).trans ?_
  rw [Array.toList_push,List.append_assoc];exact List.Perm.append_left _ (qMR left _ hm)
theorem qUX {α:Type} (next:Nat->Nat) (xs:Array α):(pickOrder next xs).toList.Perm xs.toList:=by
 unfold pickOrder;have:=qUY next xs.size 0 xs.toList #[] (by simp)
 simpa using this
abbrev Ents:List Int->List (Int × Value)->Prop:=Paired fun k e=>∃ tk,e=(hashInt k,Value.int k tk)
theorem Ents.perm:∀ {es es':List (Int × Value)} {ks:List Int},Ents ks es->es'.Perm es->∃ ks',Ents ks' es'/\ks'.Perm ks:=by
 intro es es' ks h p;have d:∀ {a b:List (Int × Value)},a.Perm b->∀ ks,Ents ks b->∃ ks',Ents ks' a/\ks'.Perm ks:=by
  intro a b p
  induction p with
  | nil=>intro ks h;exact ⟨ks,h,.refl _⟩
  | cons x p ih=>
   intro ks h;cases h with
   | cons r t=>
    obtain ⟨ks',c,e⟩:=ih _ t;exact ⟨_::ks',.cons r c,e.cons _⟩
  | swap x y l=>
   intro ks h;cases h with
   | cons r t=>
    cases t with
    | cons r' t'=>exact ⟨_,.cons r' (.cons r t'),.swap _ _ _⟩
  | trans p q ih1 ih2=>
   intro ks h;obtain ⟨g,c,e⟩:=ih2 ks h;obtain ⟨j,f,i⟩:=ih1 g c;exact ⟨j,f,i.trans e⟩
 exact d p ks h
theorem Ents.elems {prog:Program} {w:World} {es:List (Int × Value)} {ks:List Int} (h:Ents ks es):ElemsOf (intKind prog w) es:=by
 intro e a;have b:∀ {ks:List Int} {es:List (Int × Value)},Ents ks es->∀ e ∈ es,∃ k tk,e=(hashInt k,Value.int k tk):=by
  intro ks es h
  induction h with
  | nil=>intro e a;cases a
  | cons r t ih=>
   intro e a;rcases List.mem_cons.mp a with z | z
   ·subst z;obtain ⟨tk,e⟩:=r;exact ⟨_,tk,e⟩
   ·exact ih e z
 obtain ⟨k,tk,rfl⟩:=b h e a;exact ⟨⟨k,by simp [intKind,Value.isInt],rfl⟩,rfl⟩
theorem Ents.find {prog:Program} {w:World} {k:Int}:∀ {es:List (Int × Value)} {ks:List Int},Ents ks es->((List.findIdx? (fun e=>(intKind prog w).is k e.2) es).isSome=true ↔ k ∈ ks)
 | _,_,.nil=>by simp
 | _,_,.cons r t=>by
  obtain ⟨tk,rfl⟩:=r
  rename_i k' ks' es'
  have ih:=Ents.find (prog:=prog) (w:=w) (k:=k) t;rw [List.findIdx?_cons,List.mem_cons];have hi:(intKind prog w).is k (Value.int k' tk)=decide (k=k'):=by
   by_cases e:k=k'
   ·simp [intKind,Value.isInt,e]
   ·have e':¬ k'=k:=fun z=>e z.symm;simp [intKind,Value.isInt,e,e']
  dsimp only;rw [hi];by_cases e:k=k'
  ·simp [e]
  ·simp only [e,decide_false,Bool.false_eq_true,if_false,false_or,Option.isSome_map];exact ih
noncomputable def byT (w:World):Bool:=w.params.followText "set-order"
def SetI (w:World) (a:Addr) (zs:List Int) (h:Heap):Prop:=
 ∃ (es:Array (Int × Value)) (ep:Nat) (t:SetTable) (ks:List Int),h.get? a=some { cls:=.type "set",data:=.set es ep t }/\T7 (byT w) t es.size/\Ents ks es.toList/\ks.Perm zs/\zs.Nodup/\zs.length<=4
theorem SetI.at {w:World} {a:Addr} {zs:List Int} {h h':Heap} (x:SetI w a zs h) (k:∀ o,h.get? a=some o->h'.get? a=some o):SetI w a zs h':=
 let ⟨es,ep,t,ks,h1,r⟩:=x;⟨es,ep,t,ks,k _ h1,r⟩
theorem T7.fits {b:Bool} {t:SetTable} {n:Nat} (T:T7 b t n) (a:n<=7):t.fits n=true:=by
 unfold SetTable.fits SetTable.fill;rw [T.size,T.dum,T.mask];have:((#[]:Array Nat)).size=0:=rfl;simp only [this,beq_self_eq_true,Bool.true_and,decide_eq_true_eq]
 lia
noncomputable def addI (zs:List Int) (k:Int):List Int:=if k ∈ zs then zs else zs++[k]
section
variable {prog:Program} {w:World} {A:Around} {E:Value->Shared->Prop} {s:Shared}
theorem SetI.size {a:Addr} {zs:List Int} {h:Heap} {es:Array (Int × Value)} {ks:List Int} (c:Ents ks es.toList) (b:ks.Perm zs):es.size=zs.length:=by
 rw [<- b.length_eq,Paired.length c,Array.length_toList]
theorem qXE {a:Addr} {zs:List Int} {k:Int} {c:Tok} {Q:Bool->Shared->Prop} (hS:SetI w a zs s.heap) (g:zs.length<=3\/k ∈ zs)
  (h:∀ h',Heap.SameBut a s.heap h'->SetI w a (addI zs k) h'->∀ b,Q b { s with heap:=h' }):wpAny (model prog w) A (setAddHashed a (.int k c) (hashInt k)) Q E s:=by
 obtain ⟨es,ep,t,ks,q,T,r,o,u,a0⟩:=id hS;have l:es.size=zs.length:=SetI.size (a:=a) (h:=s.heap) r o;have n:ElemsOf (intKind prog w) es.toList:=r.elems;have hb:es.size<scanBound:=by rw [l];unfold scanBound;lia
 have hf:t.fits es.size=true:=T.fits (by lia)
 unfold setAddHashed setAddHashedIn;refine wpAny_holding (wpAny_bind (wpAny_setState_of q rfl hf ?_));dsimp only;rw [byScan_of (knd:=intKind prog w) (x:=.int k c) rfl hb n];simp only [↓reduceIte];unfold setAddByScan;refine wpAny_bind ?_;refine wpAny_bind (wpAny_rule ?_);refine wpAny_bind (wpAny_setScan_of (knd:=intKind prog w) (k:=k) (intKind_is _ _ _ _) q rfl hf n ?_);have d:=Ents.find (prog:=prog) (w:=w) (k:=k) r;cases hr:List.findIdx? (fun e=>(intKind prog w).is k e.2) es.toList with
 | some j=>
  dsimp only;rw [hr] at d;have i:k ∈ zs:=o.mem_iff.mp (d.mp rfl);refine wpAny_pure (wpAny_pure ?_);have e:s={ s with heap:=s.heap }:=by cases s;rfl
  rw [e];refine h s.heap (Heap.SameBut.refl a s.heap) ?_ _;unfold addI;rw [if_pos i];exact hS
 | none=>
  dsimp only;rw [hr] at d;have i:¬ k ∈ zs:=fun z=>by have:=d.mpr (o.mem_iff.mpr z);cases this
  have h3:zs.length<=3:=g.resolve_right i;obtain ⟨p,m,e1,T',tf,a1⟩:=T.lay (by lia) rfl (hashInt k) (.int k c)
  rw [e1];dsimp only;refine wpAny_bind (wpAny_pure ?_);rw [T'.plain];simp only [↓reduceIte];rw [hashByValue_scannable 8 (x:=.int k c) rfl];refine wpAny_bind (wpAny_pure ?_);have f:(SetTable.insertAt es p (hashInt k,Value.int k c)).size=es.size+1:=by
   rw [<- Array.length_toList,qBC,List.length_append,List.length_cons,List.length_take,List.length_drop,Array.length_toList]
   lia
  rw [show plainKind (Value.int k c)=true from rfl];simp only [↓reduceIte];show wpAny _ _ (storeSet a (SetTable.insertAt es p (hashInt k,.int k c)) m >>= _) _ _ _;refine wpAny_bind (wpAny_storeSet_of q rfl ?_ (by rw [f,l,sizeLine_eq];lia))
  rw [tf];simp only [Bool.and_false,Bool.false_eq_true,↓reduceIte];refine wpAny_pure (wpAny_pure ?_);refine h _ (Heap.SameBut.update s.heap a _) ?_ _;have hg:(s.heap.update a (Obj.putSet (SetTable.insertAt es p (hashInt k,.int k c)) m)).get? a=some { cls:=.type "set",data:=.set (SetTable.insertAt es p (hashInt k,.int k c)) (ep+1) m }:=by
   have:=Heap.get?_update_self (Obj.putSet (SetTable.insertAt es p (hashInt k,.int k c)) m) q (by rw [putSet_of _ _ (ep:=ep) (es:=es) (t:=t) rfl];rfl)
   rw [putSet_of _ _ (ep:=ep) (es:=es) (t:=t) rfl] at this;exact this
  have v:(SetTable.insertAt es p (hashInt k,Value.int k c)).toList.Perm (es.toList++[(hashInt k,.int k c)]):=by
   rw [qBC];have e3:es.toList++[(hashInt k,Value.int k c)]=es.toList.take p++(es.toList.drop p++[(hashInt k,Value.int k c)]):=by
    rw [<- List.append_assoc,List.take_append_drop]
   rw [e3];exact List.Perm.append_left _ (List.perm_append_singleton _ _).symm
  obtain ⟨y,h4,h5⟩:=Ents.perm (ks:=ks++[k]) (Paired.snoc r ⟨c,rfl⟩) v;refine ⟨_,_,m,y,hg,by rw [f];exact T',h4,?_,?_,?_⟩
  ·unfold addI;rw [if_neg i];exact h5.trans (o.append_right _)
  ·unfold addI;rw [if_neg i];exact qGU u i
  ·unfold addI;rw [if_neg i,List.length_append,List.length_singleton]
   lia
end
noncomputable def dedI:List Int->List Int:=fun l=>l.foldl addI []
theorem qYN (zs:List Int) (k:Int):(addI zs k).length<=zs.length+1:=by
 unfold addI
 split <;> simp
theorem qCK:∀ (l zs:List Int),(l.foldl addI zs).length<=zs.length+l.length
 | [],zs=>by simp
 | k::r,zs=>by
  have h1:=qCK r (addI zs k);have h2:=qYN zs k;rw [List.foldl_cons,List.length_cons]
  lia
section
variable {prog:Program} {w:World} {A:Around} {R:Result->Shared->Prop} {I:Addr} {fp wr:List Addr} {G:Array GenState->Array GenState->Prop} {n:Nat} {P:Nat->Value->Prop} {St:Nat->Shared->Prop}
theorem qP2 (W:WalksS prog w A.in1 I fp wr G n P St) (S:Addr) (m:S ∉ fp) (ns:List Int) (a3:ns.length=n) (h4:n<=4) (y:∀ i v,P i v->∃ t,v=.int (ns.getD i 0) t) :
  ∀ (k i:Nat) (s:Shared),n - i=k->i<=n->St i s->SetI w S (dedI (ns.take i)) s.heap->
   (∀ s',Moved (S::wr) G s s'->SetI w S (dedI ns) s'.heap->R (.ok (.ret .none)) s')->
   codeAny (model prog w) A (.builtin "set.update.loop" ⟨[.ref S,.ref I],[]⟩) R s:=by
 have r:S ∉ wr:=fun h=>m (W.sub _ h);have a:∀ b ∈ wr,b ∈ S::wr:=fun b l=>List.mem_cons_of_mem _ l;intro k
 induction k with
 | zero=>
  intro i s hk hi d hS hR;have a1:i=n:=by lia
  subst a1;refine codeAny_builtin F.entry_set_update_loop ?_;rw [Around.under_plainId F.plain_set_update_loop _];show wpAny _ A.in1 (pyNext (.ref I) >>= _) _ _ s;refine wpAny_bind (W.done s _ _ d fun s' x=>?_);show wpAny _ A.in1 (ret Value.none) _ _ s';rw [List.take_of_length_le (by lia)] at hS
  exact wpAny_pure (hR s' (x.mono a) (hS.at fun o e=>x.heap S _ r e))
 | succ k ih=>
  intro i s hk hi d hS hR;have p:i<n:=by lia
  refine codeAny_builtin F.entry_set_update_loop ?_;rw [Around.under_plainId F.plain_set_update_loop _];show wpAny _ A.in1 (pyNext (.ref I) >>= _) _ _ s;refine wpAny_bind (W.item i s _ _ p d fun v s' hP g x=>?_);obtain ⟨t,rfl⟩:=y i v hP;have a2:SetI w S (dedI (ns.take i)) s'.heap:=hS.at fun o e=>x.heap S _ r e;show wpAny _ A.in1 (holding [Value.int (ns.getD i 0) t] (setAdd S (.int (ns.getD i 0) t)) >>= _) _ _ s';refine wpAny_bind (wpAny_holding ?_);unfold setAdd;refine wpAny_holding ?_;refine wpAny_bind ((intKind prog w).pyHash (k:=ns.getD i 0) (intKind_is _ _ _ _) ?_);have c:(dedI (ns.take i)).length<=3:=by
   have:=qCK (ns.take i) [];rw [List.length_take] at this;unfold dedI;simp at this
   lia
  refine qXE (s:={ s' with toks:=s'.toks+1 }) a2 (.inl c) fun h' q f b=>?_;have e2:addI (dedI (ns.take i)) (ns.getD i 0)=dedI (ns.take (i+1)):=by
   have u:i<ns.length:=by lia
   rw [List.take_add_one,List.getElem?_eq_getElem u,Option.toList_some];unfold dedI;rw [List.foldl_append,List.foldl_cons,List.foldl_nil,List.getD_eq_getElem?_getD,List.getElem?_eq_getElem u,Option.getD_some]
  rw [e2] at f;refine wpAny_pure ⟨plainId_quiet F.plain_set_update_loop _,ih (i+1) _ (by lia) p (W.frame _ s' _ _ g (Nat.le_succ _) fun b l o e=>?_) f fun a0 j z=>?_⟩
  ·rw [q.2 b (fun h:b=S=>m (by rw [<- h];exact l))];exact e
  ·refine hR a0 (Moved.trans W.gtrans ((x.mono a).then_heap (Nat.le_succ _) fun b o l e=>?_) j) z;rw [q.2 b (fun h:b=S=>l (by rw [h];exact List.mem_cons_self))];exact e
end
end L2
namespace L2
open PySem PySem.Spec PyProof.Rows
noncomputable abbrev freshSet (w:World):Obj:={ cls:=.type "set",dict:=none,data:=.set #[] 0 (.fresh 0 0 (!byT w)) }
section
variable {prog:Program} {w:World} {A:Around} {E:Value->Shared->Prop} {s:Shared}
theorem qL0 (a:Value) {Q₁:Value->Shared->Prop} (h:Q₁ (.ref s.heap.objs.size) { s with heap:=s.heap.push (freshSet w) }) :
  codeAny (model prog w) A (.call (.builtin "set.__new__") ⟨[.type "set",a],[]⟩) (wants Q₁ E) s:=by
 refine codeAny_of_tree ?_;show wpAny _ A.in1 (do checkBuiltinCall "set.__new__" ⟨[.type "set",a],[]⟩;again (.builtin "set.__new__" ⟨[.type "set",a],[]⟩)) _ _ s
 refine wpAny_bind (wpAny_of_eq (F.newCall_set_1 a) (wpAny_pure ⟨plainId_quiet F.plain_set_new _,codeAny_builtin F.entry_set_new ?_⟩));rw [Around.under_plainId F.plain_set_new _];unfold Builtin.«set.__new__» Builtin.Frozenset.newClass;have b:=sub_set_self;obtain ⟨f,g,d,e,c⟩:=s;dsimp only
 wp_walk
 refine wpAny_askSetting (wpAny_pure ?_);dsimp only;simp only [newObj];refine wpAny_bind (wpAny_alloc (wpAny_pure ?_));exact wpAny_pure h
theorem SetI.fresh {a:Addr} {h:Heap} (e:h.get? a=some (freshSet w)):SetI w a [] h:=
 ⟨#[],0,_,[],e,⟨rfl,rfl,rfl,rfl,rfl,.nil,fun _ z=>nomatch z⟩,.nil,.refl _,.nil,Nat.zero_le _⟩
set_option maxHeartbeats 3200000 in
theorem qTL {l:Addr} {Ad:Array Value} {ns:List Int} {Q:Value->Shared->Prop} (hh:A.handled=none) (hl:s.heap.IsList l Ad) (hi:IntsAre Ad.toList ns) (h4:Ad.size<=4)
  (h:∀ (h':Heap) (tk:Nat),SetI w s.heap.objs.size (dedI ns) h'->(∀ b o,s.heap.get? b=some o->h'.get? b=some o)->Q (.ref s.heap.objs.size) { s with heap:=h',toks:=tk }) :
  wpAny (model prog w) A (call (.type "set") [.ref l]) Q E s:=by
 have j:ns.length=Ad.size:=by have:=IntsAre.length hi;simpa using this.symm
 obtain ⟨c,tl,aa⟩:=F.called_set.mro;have a4:=F.called_set.made;have ad:=F.called_set.sub;refine wpAny_call (codeAny_of_tree ?_);show wpAny _ _ (callAny (.type "set") _) _ _ _;refine wpAny_pure ⟨Code.quiet_builtin _ (by decide +kernel),codeAny_builtin F.entry_type_call ?_⟩
 rw [Around.under_plain (weight_type_call_type "set" [.ref l] []) rfl];have h1:=F.called_set.notType;have h2:=F.called_set.canCreate;have ag:=F.typeCall_set_1 (.ref l)
 repeat (any_goals (first | assumption | wp_step))
 refine codeAny_mono (qL0 (.ref l) (E:=E) (Q₁:=fun n s₁=>n=.ref s.heap.objs.size/\s₁={ s with heap:=s.heap.push (freshSet w) }) ⟨rfl,rfl⟩) fun r s₁ k=>?_;cases r with
 | error e=>exact k
 | ok fl=>
  cases fl with
  | ret n=>
   obtain ⟨rfl,rfl⟩:=k;have hS:(s.heap.push (freshSet w)).get? s.heap.objs.size=some (freshSet w):=Heap.get?_push_size _ rfl;have hT:Shared.TypeIs { s with heap:=s.heap.push (freshSet w) } (.ref s.heap.objs.size) "set":=⟨_,hS,rfl⟩;have ah:=F.called_set.init.lookup;have af:=F.called_set.init.bind (.ref s.heap.objs.size)
   repeat (any_goals (first | assumption | wp_step))
   refine codeAny_mono (codeAny_call_builtin (R:=wants (fun r s₂=>r=.none/\∃ h' tk,s₂={ s with heap:=h',toks:=tk }/\SetI w s.heap.objs.size (dedI ns) h'/\
     (∀ b o,s.heap.get? b=some o->h'.get? b=some o)) E) F.called_set.init.plain F.entry_set_init (check_set_init_1 hT ?_)) fun r₂ s₂ a=>?_
   ·obtain ⟨ol,x,m,nl,z⟩:=hl;obtain ⟨ae,g,a9,d⟩:=ol;simp only at m z;subst m;subst z;have q:(s.heap.push (freshSet w)).get? l=some { cls:=.type "list",dict:=g,data:=.seq Ad nl,slots:=d }:=Heap.get?_push_of_some _ x;have ac:=F.sub_list_set;have ab:=F.sub_list_frozenset;have ai:(Value.type "list" == Value.type "dict")=false:=by decide
    have p:(s.heap.push (freshSet w)).IsList l Ad:=⟨_,q,rfl,nl,rfl⟩;unfold Builtin.«set.__init__» noKeywords Builtin.Frozenset.updateFrom;generalize hPI:pyIter=PI
    wp_walk
    subst hPI;refine wpAny_pyIter_list p ?_;refine wpAny_bind (wpAny_runValue ?_);have y:l<s.heap.objs.size:=Heap.lt_size x;have a2:A.in1.in1.in1.handled=none:=by simp [hh]
    have u:l ≠ (s.heap.push (freshSet w)).objs.size:=by
     rw [Heap.size_push];exact Nat.ne_of_lt (Nat.lt_succ_of_lt y)
    have a3:s.heap.objs.size ∉ [(s.heap.push (freshSet w)).objs.size,l]:=by
     rw [Heap.size_push];simp only [List.mem_cons,List.mem_singleton,List.not_mem_nil,or_false,not_or];exact ⟨Nat.ne_of_lt (Nat.lt_succ_self _),Nat.ne_of_gt y⟩
    have a0:∀ (i:Nat) (v:Value),Ad[i]?=some v->∃ t,v=.int (ns.getD i 0) t:=fun i v hv=>
     PyProof.Rows.IntsAre.int_at hi i v (by rw [Array.getElem?_toList];exact hv)
    refine qP2 ((Walks.list a2 _ l u Ad).toS) s.heap.objs.size a3 ns j h4 a0 (Ad.size - 0) 0 _ (by lia) (Nat.zero_le _)
     ⟨⟨_,Heap.get?_push_size _ rfl,rfl,rfl⟩,(p.push _)⟩ ?hS0 ?hR
    case hS0=>exact SetI.fresh (Heap.get?_push_of_some _ hS)
    case hR=>
     intro s' hm f;obtain ⟨h',g',d',a6,a7⟩:=s';have eg:g'=s.gens:=hm.gens;have ed:d'=s.drawn:=hm.drawn;have eo:a7=s.os:=hm.os;subst eg;subst ed;subst eo;show wpAny _ _ _ _ _ _;refine wpAny_pure ?_;show wpAny _ _ (ret Value.none) _ _ _;refine wpAny_pure ⟨rfl,h',a6,rfl,f,fun b o e=>?_⟩;have hb:=Heap.lt_size e;have a8:b ≠ s.heap.objs.size:=Nat.ne_of_lt hb;have a1:b ≠ (s.heap.push (freshSet w)).objs.size:=by
      rw [Heap.size_push];exact Nat.ne_of_lt (Nat.lt_succ_of_lt hb)
     exact hm.heap b o (by simp only [List.mem_cons,List.mem_singleton,List.not_mem_nil,or_false,not_or];exact ⟨a8,a1⟩) (Heap.get?_push_of_some _ (Heap.get?_push_of_some _ e))
   ·cases r₂ with
    | error e=>exact a
    | ok fl₂=>
     cases fl₂ with
     | ret r=>
      obtain ⟨rfl,h',tk,rfl,f,a5⟩:=a
      repeat (any_goals (first | assumption | wp_step))
      exact h _ _ f a5
     | next=>exact a
     | brk=>exact a
     | cont=>exact a
  | next=>exact k
  | brk=>exact k
  | cont=>exact k
end
end L2
namespace L2
open PySem PySem.Spec PyProof.Rows
theorem slot_si_next:Slot "set_iterator" "__next__" "set_iterator.__next__":=
 .of (owner:="set_iterator") (n:="__next__") (by rw [typeLookup_type,builtinLookup_eq_fast];kernel_rfl) (by decide +kernel) (by decide +kernel) (by decide +kernel)
  (by first | exact .inl (by decide +kernel) | exact .inr (by decide +kernel)) (by rw [isSubtype_type];kernel_rfl)
theorem qJV:Slot "set_iterator" "__iter__" "set_iterator.__iter__":=
 .of (owner:="set_iterator") (n:="__iter__") (by rw [typeLookup_type,builtinLookup_eq_fast];kernel_rfl) (by decide +kernel) (by decide +kernel) (by decide +kernel)
  (by first | exact .inl (by decide +kernel) | exact .inr (by decide +kernel)) (by rw [isSubtype_type];kernel_rfl)
theorem qIB:entryFor table "set_iterator.__next__" = some Builtin.«set_iterator.__next__»:=entryFor_of_tree (by kernel_rfl)
theorem qO5:entryFor table "set_iterator.__iter__" = some Builtin.«dict_keyiterator.__iter__»:=
 entryFor_alias (id':="dict_keyiterator.__iter__") (by kernel_rfl) rfl (by decide +kernel) (by kernel_rfl)
theorem qM8:entryFor table "set.__iter__" = some Builtin.«frozenset.__iter__»:=
 entryFor_alias (id':="frozenset.__iter__") (by kernel_rfl) rfl (by decide +kernel) (by kernel_rfl)
theorem qRU:Manifest.owners.lookup (String.ofList "set_iterator".toList.reverse.reverse)=some Manifest.sig_set_iterator:=by kernel_rfl
theorem qK3 (a:Value):argsOk "set_iterator.__next__" ⟨[a],[]⟩:=by
 unfold argsOk;rw [signature?_of (id:="set_iterator.__next__") (n:="__next__".toList.reverse) (o:="set_iterator".toList.reverse) (by kernel_rfl) qRU];kernel_rfl
theorem qQ7 (a:Value):argsOk "set_iterator.__iter__" ⟨[a],[]⟩:=by
 unfold argsOk;rw [signature?_of (id:="set_iterator.__iter__") (n:="__iter__".toList.reverse) (o:="set_iterator".toList.reverse) (by kernel_rfl) qRU];kernel_rfl
noncomputable def qFF (w:World) (a:Addr) (ep:Nat) (es:Array (Int × Value)):List (Int × Value):=if byT w=true then (pickOrder (w.params.setOrder a ep) es).toList else es.toList
noncomputable def qFG (w:World) (t:SetTable) (i:Nat):Nat:=if byT w=true then 0 else if i=0 then 0 else t.place.getD (i - 1) 0+1
theorem qFE (w:World) (a:Addr) (ep:Nat) (es:Array (Int × Value)):(qFF w a ep es).Perm es.toList:=by
 unfold qFF
 split
 ·exact qUX _ _
 ·exact .refl _
theorem T7.below_at {b:Bool} {t:SetTable} {n:Nat} (T:T7 b t n) (i:Nat) (hi:i<=n):SetTable.below t.place (if i=0 then 0 else t.place.getD (i - 1) 0+1)=i:=by
 obtain ⟨h,e,g⟩:=qEV (j:=if i=0 then 0 else t.place.getD (i - 1) 0+1) T.up
 have o:=T.size;have k:∀ a c d,a<t.place.size->t.place.getD a c=t.place.getD a d:=fun a c d l=>by
  rw [Array.getD_eq_getD_getElem?,Array.getD_eq_getD_getElem?,Array.getElem?_eq_getElem l]
  rfl
 by_cases f:i=0
 ·rw [if_pos f] at h e g ⊢;subst f;apply Nat.eq_zero_of_not_pos;intro z;have:=e 0 z;omega
 ·rw [if_neg f] at h e g ⊢;have m:¬ SetTable.below t.place (t.place.getD (i - 1) 0+1)<i:=fun z=>by
   have:=g (i - 1) (by omega) (by omega)
   rw [k (i - 1) (t.place.getD (i - 1) 0+1) 0 (by omega)] at this
   omega
  have p:¬ i<SetTable.below t.place (t.place.getD (i - 1) 0+1):=fun z=>by
   have q:=e i z;have:=qX8 0 T.up (i - 1) i (by omega) (by omega)
   rw [k i (t.place.getD (i - 1) 0+1) 0 (by omega)] at q
   omega
  omega
def SetIt (w:World) (a I:Addr) (es:Array (Int × Value)) (ep:Nat) (t:SetTable) (i:Nat) (h:Heap):Prop:=
 (∃ o,h.get? I=some o/\o.cls=.type "set_iterator"/\o.data=.fields #[.int (qFG w t i) 0,.int i 0,.ref a,.int es.size 0,.int ep 0])/\h.get? a=some { cls:=.type "set",data:=.set es ep t }
section
variable {prog:Program} {w:World} {A:Around} {E:Value->Shared->Prop} {s:Shared} {a I:Addr} {es:Array (Int × Value)} {ep:Nat} {t:SetTable} {i:Nat}
theorem SetIt.typeIs (x:SetIt w a I es ep t i s.heap):s.TypeIs (.ref I) "set_iterator":=let ⟨⟨o,h1,h2,_⟩,_⟩:=x;⟨o,h1,h2⟩
theorem qP4 {Q:Option (Value × Nat)->Shared->Prop} (T:T7 (byT w) t es.size) (k:es.size<=7) (f:s.heap.get? a=some { cls:=.type "set",data:=.set es ep t }) (hi:i<=es.size)
  (h:Q (match (qFF w a ep es)[i]? with | some e=>some (e.2,qFG w t (i+1)) | none=>none) s):wpAny (model prog w) A (setNext a (qFG w t i) i ep) Q E s:=by
 have d:=T.fits k;unfold setNext;refine wpAny_bind (wpAny_setState_of f rfl d ?_);dsimp only;unfold setsByText;refine wpAny_bind (wpAny_bind (wpAny_askSetting (wpAny_pure ?_)));show wpAny _ _ (if byT w=true then _ else _) _ _ _
 cases hb:byT w with
 | true=>
  rw [if_pos rfl];simp only [bne_self_eq_false,Bool.false_eq_true,if_false];refine wpAny_bind ?_;unfold setWalk;refine wpAny_bind (wpAny_setState_of f rfl d ?_);dsimp only;unfold setsByText;refine wpAny_bind (wpAny_bind (wpAny_askSetting (wpAny_pure ?_)));show wpAny _ _ (if byT w=true then _ else _) _ _ _
  rw [hb,if_pos rfl];refine wpAny_bind (wpAny_askSetting (wpAny_pure (wpAny_pure ?_)));have e:qFF w a ep es=(pickOrder (w.params.setOrder a ep) es).toList:=by unfold qFF;rw [if_pos hb]
  have c:∀ j,qFG w t j=0:=fun j=>by unfold qFG;rw [if_pos hb]
  rw [e,Array.getElem?_toList,c] at h;rw [c];show Q (Option.map _ (pickOrder (w.params.setOrder a ep) es)[i]?) s;cases hx:(pickOrder (w.params.setOrder a ep) es)[i]? with
  | none=>rw [hx] at h;exact h
  | some v=>rw [hx] at h;exact h
 | false=>
  rw [if_neg (by simp)]
  show wpAny _ _ (if (!t.plain && decide (es.size > 1))=true then _ else _) _ _ _
  rw [T.plain];simp only [Bool.not_true,Bool.false_and,Bool.false_eq_true,if_false];refine wpAny_bind ?_;show wpAny _ _ (if (!t.led && !es.isEmpty)=true then _ else _) _ _ _
  rw [T.led,hb];simp only [Bool.not_false,Bool.not_true,Bool.false_and,Bool.false_eq_true,if_false];refine wpAny_pure (wpAny_pure ?_);have e:qFF w a ep es=es.toList:=by unfold qFF;rw [if_neg (by rw [hb];simp)]
  have c:∀ j,qFG w t j=if j=0 then 0 else t.place.getD (j - 1) 0+1:=fun j=>by unfold qFG;rw [if_neg (by rw [hb];simp)]
  rw [e,Array.getElem?_toList] at h;rw [c,T.below_at i hi];cases hx:es[i]? with
  | none=>rw [hx] at h;exact h
  | some v=>
   rw [hx] at h;have b:i<t.place.size:=by rw [T.size];exact (Array.getElem?_eq_some_iff.mp hx).1
   rw [Array.getElem?_eq_getElem b];dsimp only at h ⊢;have g:qFG w t (i+1)=t.place[i]+1:=by
    rw [c,if_neg (by omega),Nat.add_sub_cancel,Array.getD_eq_getD_getElem?,Array.getElem?_eq_getElem b]
    rfl
   rw [g] at h;exact h
theorem qaA {Q:Option Value->Shared->Prop} (T:T7 (byT w) t es.size) (l:es.size<=7) (c:SetIt w a I es ep t i s.heap) (d:a ≠ I) {e:Int × Value} (n:(qFF w a ep es)[i]?=some e)
  (v:∀ h',SetIt w a I es ep t (i+1) h'->(∀ b o,b ≠ I->s.heap.get? b=some o->h'.get? b=some o)->Q (some e.2) { s with heap:=h' }):wpAny (model prog w) A (pyNext (.ref I)) Q E s:=by
 obtain ⟨⟨o,h,r,f⟩,g⟩:=id c;have p:i<es.size:=by
  have:=(List.getElem?_eq_some_iff.mp n).1;rw [(qFE w a ep es).length_eq,Array.length_toList] at this;exact this
 unfold pyNext;refine wpAny_bind (wpAny_attempt (wpAny_callSpecial?_slot (name:=Str.ofString "__next__") c.typeIs slot_si_next (wpAny_call_entry slot_si_next c.typeIs qIB ?_ (qK3 _))));unfold Builtin.«set_iterator.__next__»;refine wpAny_bind (wpAny_pure ?_);refine wpAny_bind (wpAny_fieldsOf h f ?_);dsimp only;unfold setEntries;refine wpAny_bind (wpAny_bind (wpAny_setState_of g rfl (T.fits l) (wpAny_pure ?_)));rw [if_neg (by simp)]
 simp only [Int.toNat_natCast];refine wpAny_bind (qP4 T l g (Nat.le_of_lt p) ?_);rw [n];dsimp only;show wpAny _ _ (setField (.ref I) 0 (rawInt _) >>= _) _ _ s;refine wpAny_bind (wpAny_setField h f (by simp) ?_)
 have k:=Heap.get?_update_self (Obj.mapFields (·.setIfInBounds 0 (rawInt ((qFG w t (i+1):Nat):Int)))) h (Obj.isFreed_of_fields (Obj.data_mapFields f _));have j:=Obj.data_mapFields f (·.setIfInBounds 0 (rawInt ((qFG w t (i+1):Nat):Int)));refine wpAny_bind (wpAny_setField k j (by simp) ?_)
 have u:=Heap.get?_update_self (Obj.mapFields (·.setIfInBounds 1 (rawInt ((i:Int)+1)))) k (Obj.isFreed_of_fields (Obj.data_mapFields j _));have q:=Obj.data_mapFields j (·.setIfInBounds 1 (rawInt ((i:Int)+1)));refine wpAny_pure ⟨_,rfl,wpAny_pure (v _ ⟨⟨_,u,(Obj.cls_mapFields ..).trans ((Obj.cls_mapFields ..).trans r),?_⟩,?_⟩ fun b x m e=>?_)⟩
 ·rw [q];simp [rawInt]
 ·exact (Heap.get?_update_other _ _ (Ne.symm d)).trans ((Heap.get?_update_other _ _ (Ne.symm d)).trans g)
 ·exact (Heap.get?_update_other _ _ (Ne.symm m)).trans ((Heap.get?_update_other _ _ (Ne.symm m)).trans e)
theorem qcV {Q:Option Value->Shared->Prop} (h:A.handled=none) (T:T7 (byT w) t es.size) (f:es.size<=7) (c:SetIt w a I es ep t es.size s.heap)
  (i:∀ h',(∀ b o,b ≠ I->s.heap.get? b=some o->h'.get? b=some o)->Q none { s with heap:=h' }):wpAny (model prog w) A (pyNext (.ref I)) Q E s:=by
 obtain ⟨⟨o,e,k,g⟩,d⟩:=id c;unfold pyNext;refine wpAny_bind (wpAny_attempt (wpAny_callSpecial?_slot (name:=Str.ofString "__next__") c.typeIs slot_si_next (wpAny_call_entry slot_si_next c.typeIs qIB ?_ (qK3 _))));unfold Builtin.«set_iterator.__next__»;refine wpAny_bind (wpAny_pure ?_);refine wpAny_bind (wpAny_fieldsOf e g ?_);dsimp only;unfold setEntries;refine wpAny_bind (wpAny_bind (wpAny_setState_of d rfl (T.fits f) (wpAny_pure ?_)));rw [if_neg (by simp)]
 simp only [Int.toNat_natCast];have j:(qFF w a ep es)[es.size]?=none:=List.getElem?_eq_none (by rw [(qFE w a ep es).length_eq,Array.length_toList];exact Nat.le_refl _)
 refine wpAny_bind (qP4 T f d (Nat.le_refl _) ?_);rw [j];dsimp only;show wpAny _ _ (setField (.ref I) 2 .none >>= _) _ _ s;refine wpAny_bind (wpAny_setField e g (by simp) ?_)
 show wpAny _ _ (newExc (.type "StopIteration") [] >>= _) _ _ _;refine wpAny_bind ?_;simp only [newExc,newTuple];refine wpAny_bind (wpAny_newObj_type ?_ (by size_fits))
 refine wpAny_bind (m:=firstArgMember _ _) (wpAny_of_eq (a:=Value.none) (by first | rfl | (simp only [firstArgMember];rfl)) ?_)
 refine wpAny_newObj_type ?_ (by size_fits)
 simp only [raiseNew];refine wpAny_bind (wpAny_handled ?_);rw [show A.in1.handled=none from h];refine wpAny_bind (wpAny_pure (wpAny_throw ?_));refine wpAny_bind (wpAny_isInstance (T:="StopIteration") (b:=true) ⟨_,Heap.get?_push_size _ rfl,rfl⟩ isSubtype_stop ?_);exact wpAny_pure (i _ (((Heap.SameBut.update ..).extBut.push _).push _))
theorem qa9 {Q:Value->Shared->Prop} (b:SetIt w a I es ep t i s.heap) (h:Q (.ref I) s):wpAny (model prog w) A (pyIter (.ref I)) Q E s:=by
 refine wpAny_pyIter_slot b.typeIs qJV (wpAny_call_entry qJV b.typeIs qO5 ?_ (qQ7 _));show wpAny _ _ (ret (.ref I)) _ _ s;exact wpAny_pure ⟨_,rfl,"set_iterator",_,b.typeIs,slot_si_next.lookup,h⟩
theorem qcU {Q:Value->Shared->Prop} (T:T7 (byT w) t es.size) (e:es.size<=7) (b:s.heap.get? a=some { cls:=.type "set",data:=.set es ep t })
  (f:Q (.ref s.heap.objs.size) { s with heap:=s.heap.push { cls:=.type "set_iterator",data:=.fields #[.int 0 0,.int 0 0,.ref a,.int es.size 0,.int ep 0] } }):wpAny (model prog w) A (pyIter (.ref a)) Q E s:=by
 have d:s.TypeIs (.ref a) "set":=⟨_,b,rfl⟩;have c:=T.fits e;refine wpAny_pyIter_slot d F.slot_set_iter (wpAny_call_entry F.slot_set_iter d qM8 ?_ (F.args_set_iter_1 _));unfold Builtin.«frozenset.__iter__» Builtin.Frozenset.slot0 Builtin.Frozenset.sizeOf setEntries;refine wpAny_bind (wpAny_bind (wpAny_pure ?_));show wpAny _ _ (pure a) _ _ s;refine wpAny_pure ?_;refine wpAny_bind (wpAny_bind (wpAny_bind (wpAny_setState_of b rfl c (wpAny_pure (wpAny_pure ?_)))));unfold setDrawn setsByText;refine wpAny_bind (wpAny_bind (wpAny_setState_of b rfl c ?_));dsimp only;refine wpAny_bind (wpAny_bind (wpAny_askSetting (wpAny_pure (wpAny_pure ?_))));show wpAny _ _ (if (!byT w && (!t.plain && decide (es.size > 1)))=true then _ else _) _ _ _
 rw [T.plain];simp only [Bool.not_true,Bool.false_and,Bool.and_false,Bool.false_eq_true,if_false];refine wpAny_bind (wpAny_pure ?_);unfold setEpoch;refine wpAny_bind (wpAny_bind (wpAny_setState_of b rfl c (wpAny_pure ?_)));refine wpAny_bind (wpAny_newObj_type (wpAny_pure ⟨_,rfl,"set_iterator",_,⟨_,Heap.get?_push_size _ rfl,rfl⟩,slot_si_next.lookup,?_⟩));simpa [rawInt] using f
theorem qaB {Q:Bool->Shared->Prop} (d:s.TypeIs (.ref a) "set") (h:Q false s):wpAny (model prog w) A (Builtin.List.listLengthHint (.ref a)) Q E s:=by
 unfold Builtin.List.listLengthHint;refine wpAny_bind (wpAny_specialOf d PySem.F.slot_set_len.lookup ?_);generalize hid:("set.__len__" : String)=e
 wp_delta
 rw [show splitId e=some ("set","__len__") from by subst hid;decide +kernel]
 subst hid;refine wpAny_bind (wpAny_isInstance (T:="set") (b:=true) d (by rw [isSubtype_type];kernel_rfl) ?_)
 refine wpAny_ite_split (fun c=>absurd c (by decide)) (fun _=>?_)
 refine wpAny_ite_split (fun _=>?_) (fun c=>absurd (by decide +kernel) c)
 refine wpAny_bind (wpAny_typeOf d ?_);exact wpAny_pure h
theorem qcT (T:T7 (byT w) t es.size) (m:es.size<=7):PySem.W.KdlSrc prog w "set" a a es.size (fun i v=>∃ e,(qFF w a ep es)[i]?=some e/\v=e.2) (fun h=>h.get? a=some { cls:=.type "set",data:=.set es ep t }) where
 type:=fun s h=>⟨_,h,rfl⟩
 there:=fun h x=>⟨Heap.lt_size x,Heap.lt_size x⟩
 keep:=fun h f x k=>k a (.inl rfl) _ x
 notList:=by decide
 notTuple:=by decide
 hint:=fun A E s Q x q=>qaB ⟨_,x,rfl⟩ q
 iter:=fun A s r x=>by
  have l:a ≠ s.heap.objs.size:=Nat.ne_of_lt (Heap.lt_size x);refine ⟨_,fun i h=>SetIt w a s.heap.objs.size es ep t i h,fun E Q q=>qcU T m x q,?_,⟨⟨_,Heap.get?_push_size _ rfl,rfl,?_⟩,Heap.get?_push_of_some _ x⟩⟩
  ·refine ⟨fun b d=>?_,fun i h f c k=>?_,fun i g Q E u c q=>?_,fun g Q E c q=>?_,fun i g Q E c q=>qa9 c q⟩
   ·have e:b=s.heap.objs.size:=by simpa using d
    simp [e]
   ·obtain ⟨⟨o,p,h2,y⟩,h4⟩:=c;exact ⟨⟨o,k _ (by simp) _ p,h2,y⟩,k _ (by simp) _ h4⟩
   ·have n:i<(qFF w a ep es).length:=by rw [(qFE w a ep es).length_eq,Array.length_toList];exact u
    refine qaA T m c l (List.getElem?_eq_getElem n) fun f j k=>?_;exact q _ f g.toks ⟨_,List.getElem?_eq_getElem n,rfl⟩ j fun b o d e=>k b o (fun z=>d (by simp [z])) e
   ·refine qcV r T m c fun f k=>?_;exact q f g.toks fun b o d e=>k b o (fun z=>d (by simp [z])) e
  ·unfold qFG
   split <;> rfl
end
end L2
namespace L2
open PySem PySem.Spec PyProof.Rows
theorem qDR {ns:List Int}:∀ {us:List Value},Vals (ns.map V.int) us->IntsAre us ns:=by
 induction ns with
 | nil=>intro us h;cases h;exact .nil
 | cons n r ih=>
  intro us h;cases h with
  | cons r1 r2=>
   obtain ⟨t,rfl⟩:=r1;exact IntsAre.cons _ _ (ih r2)
theorem qJU:∀ {us:List Value} {ns:List Int},IntsAre us ns->Vals (ns.map V.int) us:=qKX
section
variable {X:Cx}
def SetO (w:World) (a:Addr) (zs:List Int):HO:=.ext (SetI w a zs)
theorem qOB (m:X.calm=true):qD1 X (.type "set") (fun xs H Q=>∃ p ns,xs=[.ref p]/\SqL X.K H p (ns.map V.int)/\ns.length<=4/\∀ a,H a=none->Q (.ref a) (Af H a (SetO X.w a (dedI ns)))):=by
 intro o s σ H xs us Q I r h;obtain ⟨p,ns,rfl,i,v,q⟩:=h;obtain ⟨u,rfl,f⟩:=qEJ r;cases f;obtain ⟨g,d,j,hz⟩:=I.list i;have b:=d.length;rw [List.length_map] at b;refine qTL (ns:=ns) (I.ok.hd m) j.isList (by simpa using qDR d) (by simp;lia) fun h' l c n=>?_
 refine ⟨.ref s.heap.objs.size,_,I.laid (t':=l) n (Nat.le_refl _) ?_,rfl,q _ (I.hok.fresh (Nat.le_refl _))⟩;obtain ⟨z,ep,t,y,e,_⟩:=id c;exact ⟨c,⟨_,e⟩,fun h1 h2 x k=>x.at k⟩
theorem Inv.track {Aa:List (Addr × Obj)} {s:Shared} {σ:St} {H:Hp} {T:Addr} {o:HO} (I:Inv X Aa σ H s) (j:H T=none) (i:X.s₀.heap.objs.size<=T) (h2:T ≠ X.env.locals) (l:∀ x c,X.env.cells.lookup x=some c->c ≠ T) (y:∀ p ∈ X.pn++Aa,p.1 ≠ T)
  (d:ObjOk X.prog X.w (Af H T o) s.heap T o):Inv X Aa σ (Af H T o) s:=by
 have f:∀ b ob,X.s₀.heap.get? b=some ob->b ≠ T:=fun b ob e=>Nat.ne_of_lt (Nat.lt_of_lt_of_le (Heap.lt_size e) i);have a:∀ b u,H b=some u->(Af H T o) b=some u:=fun b u e=>by rw [qA8 (qA4 e j)];exact e
 refine ⟨I.ok,I.os,I.bare,⟨I.base.keep,I.base.slot,fun b ob e n hx=>?_,I.base.there,fun b z e=>a _ _ (I.base.tups b z e),fun b ob u e=>a _ _ (I.base.frzs b ob u e),fun b m e=>?_⟩,I.loc,I.cell,?_,fun x c e=>?_,fun p g=>?_,fun b u e=>?_,I.len⟩
 ·rw [qA8 (f b ob e)];exact I.base.free b ob e n hx
 ·exact a _ _ (I.base.tbls b m e)
 ·rw [qA8 (Ne.symm h2)];exact I.free
 ·rw [qA8 (l x c e)];exact I.freeC x c e
 ·obtain ⟨k,n,r⟩:=I.pin p g;exact ⟨k,by rw [qA8 (y p g)];exact n,r⟩
 ·by_cases h:b=T
  ·subst h;rw [qA1] at e;cases e;exact d
  ·rw [qA8 h] at e;exact (I.hok b u e).stay (fun c v _ q=>q) (fun c q=>a _ _ q) (fun c ys q=>a _ _ q) fun c t q=>a _ _ q
theorem qXC {Aa:List (Addr × Obj)} {s:Shared} {σ:St} {H:Hp} {Q:VK} {A:Around} {E:Value->Shared->Prop} {vs:List Value} {ns:List Int} {D:Addr} (I:Inv X Aa σ (Af H D (.lst (ns.map V.int))) s) (v:H D=none) (j:ns.length<64)
  (q:∀ ns':List Int,ns'.Perm ns->ns'.Pairwise (·<=·)->Q (.ref D) (Af H D (.lst (ns'.map V.int)))) :
  wpAny (model X.prog X.w) A (call (.builtin "list.sort") [.ref D]) (fun _ s'=>EP X Aa σ Q (.ref D) s') E s:=by
 obtain ⟨z,g,n,i,t,e⟩:=I.lstM qA1;have r:=qDR i;have c:=i.length;rw [List.length_map] at c;refine wpAny_call_entry slot_list_sort ⟨_,e,rfl⟩ entry_list_sort (list_sort_tree (ns:=ns) (n:=n) e r (by lia) fun out ns' p h o=>⟨_,rfl,?_⟩) (args_list_sort _)
 have a:=sortedHeap_at (vs:=g) (out:=out) e;obtain ⟨l,a⟩:=a;refine ⟨.ref D,Af H D (.lst (ns'.map V.int)),?_,rfl,q ns' h o⟩;have k:Af (Af H D (.lst (ns.map V.int))) D (.lst (ns'.map V.int))=Af H D (.lst (ns'.map V.int)):=qQ9;rw [<- k];refine I.write (x:=D) (e:=D) (t':=s.toks) (by rw [qA1];exact trivial) (.inl rfl) (fun b u m d=>?_) ⟨_,a⟩ ?_
 ·rw [sortedHeap_old m (Heap.lt_size d)];exact d
 ·refine ⟨?_,out.toList,l,qJU p,by simpa using a⟩
  rw [List.length_map,h.length_eq,<- List.length_map (f:=V.int)];exact z
theorem qT5 {Aa:List (Addr × Obj)} {s:Shared} {σ:St} {H:Hp} {vs:List Value} {ns:List Int} (I:Inv X Aa σ H s) (a:IntsAre vs ns) (b:ns.length<=sizeLine) :
  Inv X Aa σ (Af H s.heap.objs.size (.lst (ns.map V.int))) { s with heap:=s.heap.push { cls:=.type "list",data:=.seq vs.toArray } }:=
 I.lnew (t':=s.toks) (qJU a) (by rw [List.length_map];exact b)
theorem qFA (hc:X.calm=true):qD1 X (.builtin "sorted") (fun xs H Q=>∃ p ns,xs=[.ref p]/\(SqL X.K H p (ns.map V.int)\/SqT X.K H p (ns.map V.int)\/H p=some (SetO X.w p ns))/\ns.length<64/\
  ∀ (a:Addr) (ns':List Int),H a=none->ns'.Perm ns->ns'.Pairwise (·<=·)->Q (.ref a) (Af H a (.lst (ns'.map V.int)))):=by
 intro Aa s σ H xs us Q I r h;obtain ⟨p,ns,rfl,hq,a2,q⟩:=h;obtain ⟨u,rfl,rx⟩:=qEJ r;cases rx;refine Calls.call_function_entry kind_sorted plain_sorted entry_sorted (args_sorted1 _) ?_;unfold Builtin.«sorted»;refine wpAny_bind (m:=checkCount "sorted" 1 1 _) (wpAny_pure ?_);have c:∀ (s1:Shared) (vs:List Value) (zs:List Int),Inv X Aa σ H s1->IntsAre vs zs->zs.Perm ns->wpAny (model X.prog X.w) X.A.in1 (do
   let l <- newList vs
   let _ <- holding [l] (call (.builtin "list.sort") [l] [])
   ret l) (fun c s'=>∃ r,c=.done (.ret r)/\EP X Aa σ Q r s') X.xe s1:=by
  intro s1 vs zs I1 k g;have d:=IntsAre.length k;have hz:zs.length<=sizeLine:=by rw [g.length_eq,sizeLine_eq];lia
  refine wpAny_bind (wpAny_newList ?_ (by rw [d];exact hz))
  have hf:=I1.hok.fresh (Nat.le_refl s1.heap.objs.size);refine wpAny_bind (wpAny_holding (wpAny_mono (qXC (E:=X.xe) (vs:=vs) (qT5 I1 k hz) hf (by rw [g.length_eq];exact a2) fun ns' a b=>q _ ns' hf (a.trans g) b) (fun _ s' x=>?_) fun _ _ e=>e))
  exact wpAny_pure ⟨_,rfl,x⟩
 rcases hq with hq | hq | hq
 ·obtain ⟨a1,y,pl,hz⟩:=I.list hq;obtain ⟨o,ho,f,n,hd⟩:=pl.isList;have d:=y.length;refine wpAny_bind (wpAny_collect_seq p (.inl rfl) ho f hd (fun h' hk=>?_) (by simp;lia))
  exact c _ _ ns (I.kept (t':=s.toks) hk) (by simpa using qDR y) (.refl _)
 ·obtain ⟨a1,y,pl,hz⟩:=I.tuple hq;obtain ⟨o,ho,f,n,hd⟩:=pl;have d:=y.length;refine wpAny_bind (wpAny_collect_seq p (.inr rfl) ho f hd (fun h' hk=>?_) (by simp;lia))
  exact c _ _ ns (I.kept (t':=s.toks) hk) (by simpa using qDR y) (.refl _)
 ·obtain ⟨hS,_,_⟩:=(show ObjOk X.prog X.w H s.heap p (.ext (SetI X.w p ns)) from I.hok p _ hq);obtain ⟨es,ep,t,ks,e,T,z,g,a6,h4⟩:=hS;have a0:es.size=ns.length:=SetI.size (a:=p) (h:=s.heap) z g;obtain ⟨a5,h1,h2⟩:=z.perm (qFE X.w p ep es);refine wpAny_bind (PySem.W.kdu_collect (A:=X.A.in1) (qcT (ep:=ep) T (by lia)) (I.ok.hd hc) e (by rw [a0,sizeLine_eq];lia) fun h' tk a4 hk j=>?_)
  refine c _ _ a5 (I.kept (t':=tk) hk) ?_ (h2.trans g);obtain ⟨l1,l2⟩:=j;have a3:∀ {ks:List Int} {l:List (Int × Value)},Ents ks l->∀ vs:List Value,vs.length=l.length->(∀ (i:Nat) (v:Value),vs[i]?=some v->∃ e:Int × Value,l[i]?=some e/\v=e.2)->IntsAre vs ks:=by
   intro ks l h
   induction h with
   | nil=>
    intro vs hl _;have:vs=[]:=List.length_eq_zero_iff.mp hl;subst this;exact .nil
   | cons r t ih=>
    intro vs hl k;cases vs with
    | nil=>simp at hl
    | cons v vs=>
     obtain ⟨tk,rfl⟩:=r;obtain ⟨e,z,rfl⟩:=k 0 v rfl;simp at z;subst z;exact IntsAre.cons _ _ (ih vs (by simpa using hl) fun i v hi=>by simpa using k (i+1) v (by simpa using hi))
  refine a3 h1 a4.toList ?_ fun i v hi=>l2 i v (by rw [<- Array.getElem?_toList];exact hi)
  rw [Array.length_toList,l1,(qFE X.w p ep es).length_eq,Array.length_toList]
end
end L2
namespace L2
open PySem PySem.Spec PyProof.Rows
section
variable {X:Cx}
noncomputable def qJX (lo hi:Int):List V:=(List.range (hi - lo).toNat).map fun (i:Nat)=>V.int (lo+i)
theorem qWM:qD1 X (.type "range") (fun xs H Q=>∃ i j,xs=[.int i,.int j]/\∀ p,H p=none->Q (.ref p) (Af H p (.rng i j))):=by
 intro c s σ H xs a Q I r h;obtain ⟨i,j,rfl,q⟩:=h;obtain ⟨u,v,rfl,⟨t,rfl⟩,⟨d,rfl⟩⟩:=qOT r;refine call_range_2 ⟨.ref s.heap.objs.size,_,I.laid (fun b o e=>Heap.get?_push_of_some _ e) (Nat.le_refl _) ?_,rfl,q _ (I.hok.fresh (Nat.le_refl _))⟩;exact ⟨_,_,_,Heap.get?_push_size _ rfl⟩
theorem qXK {lo hi:Int} {n:Nat} {acc:List Value} (f:n=(hi - lo).toNat) (a:acc.length=n) (h:∀ (i:Nat) (v:Value),acc[i]?=some v->∃ t,v=.int (lo+i * 1) t):Vals (qJX lo hi) acc:=by
 have b:∀ (m:Nat) (acc:List Value),acc.length=m->∀ lo:Int,(∀ (i:Nat) (v:Value),acc[i]?=some v->∃ t,v=.int (lo+i) t)->Vals ((List.range m).map fun (i:Nat)=>V.int (lo+i)) acc:=by
  intro m
  induction m with
  | zero=>
   intro acc a lo h;have:acc=[]:=List.length_eq_zero_iff.mp a;subst this;exact .nil
  | succ m ih=>
   intro acc a lo h;cases acc with
   | nil=>simp at a
   | cons v acc=>
    rw [List.range_succ_eq_map,List.map_cons,List.map_map];have d:=h 0 v rfl;refine .cons d ?_;have c:=ih acc (by simpa using a) (lo+1) fun i v hi=>by
     have:=h (i+1) v (by simpa using hi)
     obtain ⟨t,e⟩:=this;refine ⟨t,?_⟩;rw [e];congr 1
     push_cast
     lia
    have e:((fun (i:Nat)=>V.int (lo+i)) ∘ Nat.succ)=fun (i:Nat)=>V.int (lo+1+i):=by
     funext i
     simp only [Function.comp];congr 1
     push_cast
     lia
    rw [e];exact c
 unfold qJX;rw [<- f];refine b n acc a lo fun i v hi=>?_;obtain ⟨t,e⟩:=h i v hi;exact ⟨t,by rw [e,Int.mul_one]⟩
theorem qSY (lo hi:Int):(qJX lo hi).length=(hi - lo).toNat:=by unfold qJX;simp
theorem qeK {lo hi:Int}:Builtin.Range.rangeSize lo hi 1=((hi - lo).toNat:Nat):=by rw [rangeSize_one];split <;> lia
theorem qOA {prog:Program} {w:World} {A:Around} {E:Value->Shared->Prop} {s:Shared} {R:List Value->Shared->Prop} {r:Addr} {a b:Int} {t u v:Tok} {n:Nat} (hh:A.handled=none) (hr:IsRange s.heap r a b 1 t u v) (g:Builtin.Range.small a b 1=true)
  (hn:Builtin.Range.rangeSize a b 1=n) (k:n<=2 ^ 24)
  (h:∀ (h':Heap) (tk:Nat) (acc:Array Value),(∀ b o,s.heap.get? b=some o->h'.get? b=some o)->ItemsOf (fun i v=>∃ t,v=.int (a+i * 1) t) acc n->R acc.toList { s with heap:=h',toks:=tk }) :
  wpAny (model prog w) A (collect (.ref r)) R E s:=by
 unfold collect;refine wpAny_bind (wpAny_runValue (codeAny_builtin entry_proto_collect' ?_));rw [Around.under_plainId PySem.F.plain_proto_collect _];show wpAny _ A.in1 (newList [] >>= fun l=>again (.builtin "list.__iadd__" ⟨[l,.ref r],[]⟩)) _ _ s;refine wpAny_bind (wpAny_newObj_type ?_);refine wpAny_pure ⟨plainId_quiet PySem.F.plain_list_iadd _,codeAny_builtin entry_list_iadd' ?_⟩;rw [Around.under_plainId PySem.F.plain_list_iadd _];have z:(s.heap.push { cls:=.type "list",data:=.seq ([]:List Value).toArray }).get? s.heap.objs.size=some { cls:=.type "list",data:=.seq #[] }:=Heap.get?_push_size _ rfl;show wpAny _ A.in1 (Builtin.List.listExtendWith (.ref s.heap.objs.size) (.ref r) (.ref s.heap.objs.size)) _ _ _;have p:=wpAny_extend_range (prog:=prog) (w:=w) (A:=A) (s:={ s with heap:=s.heap.push { cls:=.type "list",data:=.seq ([]:List Value).toArray } })
  (R:=fun (q:Result) (s':Shared)=>∃ (h':Heap) (tk:Nat) (acc':Array Value) (c':Nat),q=.ok (.ret (.ref s.heap.objs.size))/\s'={ s with heap:=h',toks:=tk }/\
   (∀ b o,s.heap.get? b=some o->h'.get? b=some o)/\h'.get? s.heap.objs.size=some { cls:=.type "list",dict:=none,data:=.seq acc' c',slots:=#[] }/\ItemsOf (fun i v=>∃ t,v=.int (a+i * 1) t) acc' n)
  hh (Heap.get?_push_of_some _ hr) g hn k s.heap.objs.size (.ref s.heap.objs.size) 0 z
  (fun h' tk acc' c' j d c=>⟨h',tk,acc',c',rfl,rfl,fun b o e=>j b o (Nat.ne_of_lt (Heap.lt_size e)) (Heap.get?_push_of_some _ e),d,c⟩)
 refine wpAny_mono p (fun m s' x=>?_) fun e s' x=>?_
 ·cases m with
  | done f=>
   obtain ⟨h',tk,acc',c',e,rfl,j,d,c⟩:=x;cases e;show wpAny _ A (load s.heap.objs.size >>= _) _ _ _;refine wpAny_bind (wpAny_load d ?_);exact wpAny_pure (h h' tk acc' j c)
  | again c₁=>
   refine ⟨x.1,codeAny_mono x.2 fun q s₂ y=>?_⟩;obtain ⟨h',tk,acc',c',rfl,rfl,j,d,c⟩:=y;show wpAny _ A (load s.heap.objs.size >>= _) _ _ _;refine wpAny_bind (wpAny_load d ?_);exact wpAny_pure (h h' tk acc' j c)
 ·obtain ⟨_,_,_,_,e',_⟩:=x;cases e'
theorem qQA {prog:Program} {w:World} {A:Around} {E:Value->Shared->Prop} {s:Shared} {Q:Value->Shared->Prop} {r:Addr} {a b:Int} {t u v:Tok} {n:Nat} (y:A.handled=none) (x:IsRange s.heap r a b 1 t u v) (d:Builtin.Range.small a b 1=true)
  (hn:Builtin.Range.rangeSize a b 1=n) (k:n<=2 ^ 24)
  (h:∀ (h':Heap) (tk:Nat) (acc:Array Value),(∀ b o,s.heap.get? b=some o->h'.get? b=some o)->ItemsOf (fun i v=>∃ t,v=.int (a+i * 1) t) acc n->Q (.ref h'.objs.size) { s with heap:=h'.push { cls:=.type "tuple",data:=.seq acc },toks:=tk }) :
  wpAny (model prog w) A (call (.type "tuple") [.ref r]) Q E s:=by
 have j:codeAny (model prog w) A.in1 (.call (.builtin "tuple.__new__") ⟨[.type "tuple",.ref r],[]⟩) (wants (fun c g=>g.TypeIs c "tuple"/\Q c g) E) s:=by
  refine codeAny_of_tree ?_;show wpAny _ A.in1.in1 (do checkBuiltinCall "tuple.__new__" ⟨[.type "tuple",.ref r],[]⟩;again (.builtin "tuple.__new__" ⟨[.type "tuple",.ref r],[]⟩)) _ _ s
  refine wpAny_bind (wpAny_of_eq (F.newCall_tuple_1 _) (wpAny_pure ⟨plainId_quiet F.plain_tuple_new _,codeAny_builtin F.entry_tuple_new ?_⟩));rw [Around.under_plainId F.plain_tuple_new _];have q:=sub_tuple_self;have l:=init_tuple_lookup;have a0:=madeHere_tuple;have p:s.TypeIs (.ref r) "range":=⟨_,x,rfl⟩
  wp_walk using wpAny_typeOf p,qOA (prog:=prog) (w:=w) (A:=A.in1.in1) y x d hn k
  intro h' tk acc z f;show wpAny _ _ (Builtin.Tuple.tupleExact acc.toList.toArray >>= fun v=>ret v) _ _ _;unfold Builtin.Tuple.tupleExact;refine wpAny_bind (wpAny_newObj_type ?_ (by show acc.toList.toArray.size<=sizeLine;simp only [Array.toArray_toList];rw [f.1,sizeLine_eq];lia))
  refine wpAny_pure ?_;have e:acc.toList.toArray=acc:=by simp
  rw [e];exact ⟨⟨_,Heap.get?_push_size _ rfl,rfl⟩,h h' tk acc z f⟩
 refine callType_codes (Q₁:=fun c g=>g.TypeIs c "tuple"/\Q c g) F.called_tuple (F.typeCall_tuple_1 _) F.entry_object_init j fun c g m=>?_;exact ⟨m.1,F.args_object_init_2 c _,object_init_meets F.called_tuple.init.lookup F.called_tuple.made (by decide) prog w A.in1 _ g ⟨m.1,rfl,m.2⟩⟩
theorem qMB (k:X.calm=true):qD1 X (.type "tuple") (fun xs H Q=>∃ p lo hi,xs=[.ref p]/\H p=some (.rng lo hi)/\-1000000<=lo/\lo<=1000000/\-1000000<=hi/\hi<=1000000/\∀ l,H l=none->Q (.ref l) (Af H l (.tup (qJX lo hi)))):=by
 intro j s σ H xs us Q I r h;obtain ⟨p,lo,hi,rfl,m,l1,l2,l3,l4,q⟩:=h;obtain ⟨u,rfl,x⟩:=qEJ r;cases x;obtain ⟨t,u,v,e⟩:=(show ∃ t u v,s.heap.get? p=some { cls:=.type "range",data:=.fields #[.int lo t,.int hi u,.int 1 v] } from I.hok p _ m);refine qQA (n:=(hi - lo).toNat) (I.ok.hd k) (show IsRange s.heap p lo hi 1 t u v from e) (small_one (by lia) (by lia) (by lia) (by lia)) qeK (by lia) fun d g c z a=>?_
 obtain ⟨a1,y⟩:=a;have f:Inv X j σ H { s with heap:=d,toks:=g }:=I.kept z;refine ⟨.ref d.objs.size,_,f.laid (t':=g) (fun b o e=>Heap.get?_push_of_some _ e) (Nat.le_refl _) (show ObjOk X.prog X.w _ _ _ (.tup (qJX lo hi)) from ⟨?_,c.toList,qXK rfl (by simpa using a1) fun i v hi=>y i v (by rw [<- Array.getElem?_toList];exact hi),?_⟩),rfl,q _ (f.hok.fresh (Nat.le_refl _))⟩
 ·rw [qSY,sizeLine_eq]
  lia
 ·have:=IsTup.new d c;simpa using this
theorem qSX:∀ (bs:List Bool),((List.range bs.length).all fun i=>(bs[i]?).getD true)=bs.all id:=by
 intro bs;rw [Bool.eq_iff_iff,List.all_eq_true,List.all_eq_true]
 constructor
 ·intro h b d;obtain ⟨i,c,e⟩:=List.mem_iff_getElem.mp d;have:=h i (List.mem_range.mpr c);rw [List.getElem?_eq_getElem c,e] at this;exact this
 ·intro h i c;have a:=List.mem_range.mp c;rw [List.getElem?_eq_getElem a];exact h _ (List.getElem_mem a)
theorem qKM (y:X.calm=true):qD1 X (.builtin "all") (fun xs H Q=>∃ (p:Addr) (bs:List Bool),xs=[.ref p]/\SqL X.K H p (bs.map V.bl)/\Q (.bl (bs.all id)) H):=by
 intro Aa s σ H xs us Q I r h;obtain ⟨p,bs,rfl,o,q⟩:=h;obtain ⟨u,rfl,n⟩:=qEJ r;cases n;obtain ⟨c,k,w,hz⟩:=I.list o;have f:=w.isList;have g:p<s.heap.objs.size:=by obtain ⟨_,e,_⟩:=f;exact Heap.lt_size e
 have a:=k.length;rw [List.length_map] at a;refine call_all_walk (wpAny_pyIter_list f ?_);refine ⟨s.heap.objs.size,[s.heap.objs.size,p],[s.heap.objs.size],c.toArray.size,_,_,fun i=>(bs[i]?).getD true,rfl,Walks.list (A:=X.A.in1) (I.ok.hd y) _ p (Nat.ne_of_lt g) c.toArray,
  ⟨⟨_,Heap.get?_push_size _ rfl,rfl,rfl⟩,f.push _⟩,fun i v s' Q' E' t j=>?_,fun h' tk hk=>?_⟩
 ·have d:c[i]?=some v:=by simpa using t
  have m:i<bs.length:=by rw [a];exact (List.getElem?_eq_some_iff.mp d).1
  obtain ⟨u,l,ru⟩:=k.get (i:=i) (x:=.bl bs[i]) (by rw [List.getElem?_map,List.getElem?_eq_getElem m];rfl)
  rw [d] at l;cases l;cases ru;dsimp only at j;rw [List.getElem?_eq_getElem m,Option.getD_some] at j;exact wpAny_truthy_bool j
 ·have e:((List.range c.toArray.size).all fun i=>(bs[i]?).getD true)=bs.all id:=by
   rw [List.size_toArray,<- a];exact qSX bs
  refine ⟨.bl (bs.all id),H,I.kept fun b x e=>hk b x (fun z=>by rw [List.mem_singleton.mp z] at e;exact Nat.lt_irrefl _ (Heap.lt_size e)) (Heap.get?_push_of_some _ e),?_,q⟩
  rw [e]
  rfl
theorem qC7:qD1 X (.builtin "isinstance") (fun xs H Q=>∃ x T t b,xs=[x,.ty T]/\TyOf X.K H x t/\PySem.W.kitOne X.K t (.type T)=some b/\Q (.bl b) H):=by
 intro f s σ H xs i Q I r h;obtain ⟨x,T,t,b,rfl,a,d,q⟩:=h;obtain ⟨u,v,rfl,c,e⟩:=qOT r;cases e;exact qVN I c a d fun g=>⟨.bl b,H,I.tok _,rfl,q⟩
theorem qHN (g:X.A.units<cLine):OpR X (compareOp .Eq) (fun x y H Q=>∃ p l xs,x=.ref p/\y=.ref l/\SqL X.K H p xs/\SqL X.K H l []/\Q (.bl xs.isEmpty) H):=by
 intro z s σ H x y v u Q I m k h;obtain ⟨p,l,xs,rfl,rfl,i,t,q⟩:=h;cases m;cases k;obtain ⟨o,b,d,w⟩:=I.list i;obtain ⟨c,n,f,z2⟩:=I.list t;cases n;cases xs with
 | nil=>
  cases b;exact SeqAt.eq_listAt (e:=fun _=>true) d.isList f.isList rfl g (fun j h _=>absurd h (by simp)) ⟨.bl true,H,I,rfl,q⟩
 | cons a r=>
  cases b;exact SeqAt.eq_list_lengthsAt d.isList f.isList (by simp) g ⟨.bl false,H,I,rfl,q⟩
end
theorem qPV {X:Cx} {K:PySem.W.Frag} {w:World} (d:X.K=K) (b:X.w=w) (c:X.calm=true):qD1 X (.builtin "sorted") (fun xs H Q=>∃ p ns,xs=[.ref p]/\(SqL K H p (ns.map V.int)\/SqT K H p (ns.map V.int)\/H p=some (SetO w p ns))/\ns.length<64/\
  ∀ (a:Addr) (ns':List Int),H a=none->ns'.Perm ns->ns'.Pairwise (·<=·)->Q (.ref a) (Af H a (.lst (ns'.map V.int)))):=by subst d b;exact qFA c
theorem qWK {X:Cx} {K:PySem.W.Frag} {w:World} (d:X.K=K) (b:X.w=w) (c:X.calm=true):qD1 X (.type "set") (fun xs H Q=>∃ p ns,xs=[.ref p]/\SqL K H p (ns.map V.int)/\ns.length<=4/\∀ a,H a=none->Q (.ref a) (Af H a (SetO w a (dedI ns)))):=by subst d b;exact qOB c
end L2
namespace L2
open PySem PySem.Spec PyProof.Rows
def Ite (K:PySem.W.Frag) (l:Addr):It:=
 ⟨fun i H=>∃ xs x,SqL K H l xs/\xs[i]?=some x,fun i H v H'=>∃ T x,H T=none/\v=.ref T/\H'=Af H T (.tup [.int (i:Int),x])/\∀ xs,SqL K H l xs->xs[i]?=some x,fun i H=>∃ xs,SqL K H l xs/\xs.length<=i⟩
section
variable {X:Cx}
theorem Inv.turnedL {Aa:List (Addr × Obj)} {s:Shared} {σ:St} {H:Hp} {h':Heap} {t':Nat} {ch:List Addr} (I:Inv X Aa σ H s) (k:∀ b o,b ∉ ch->s.heap.get? b=some o->h'.get? b=some o) (d:∀ b ∈ ch,FpOk X Aa H b):Inv X Aa σ H { s with heap:=h',toks:=t' }:=by
 have f:∀ b u,H b=some u->b ∉ ch:=fun b u e z=>by rw [(d b z).1] at e;cases e
 refine I.step (g':=s.gens) (d':=s.drawn) (ch:=ch) (fun b g=>⟨(d b g).2.2.2.1,(d b g).2.1,(d b g).2.2.2.2.1,(d b g).2.2.2.2.2⟩) (fun b o _ _ a e _=>k b o a e) (fun b o _ _ a e _=>⟨o.slots,k b o a e⟩) (fun _ _ _ _ n=>n)
  (fun b o a e=>⟨o,k b o a e⟩) (fun _ _ e=>e) (fun _ _ _ e=>e) (fun _ _ e=>e) (fun m h=>?_) (fun b u e=>?_) I.bare
 ·obtain ⟨o,j,l,i,r⟩:=h;exact ⟨o,j,l,k _ o (fun z=>(d _ z).2.1 rfl) i,r⟩
 ·refine (I.hok b u e).stay (fun c v a q=>k c v ?_ q) (fun _ q=>q) fun _ _ q=>q;rcases a with z | z
  ·rw [z];exact f b u e
  ·exact f c _ z
theorem qU4 {P:Program} {w:World} {K:PySem.W.Frag} {j:List Expr} {k:Nat} {a6:Pos} (l c e:Addr) (m:e ≠ c):Turn P w K (.Tuple j k a6) (Ite K l) [e,c] e (fun i h=>(∃ old,IsEnum h e c i old)/\h.IsListIter c l i) where
 mem:=by simp
 obj:=fun i h g b f=>by
  obtain ⟨⟨old,d⟩,o,a,_,h4⟩:=g;have e':b=e\/b=c:=by simpa using f
  rcases e' with rfl | rfl
  ·exact ⟨_,d,fun v z=>by
    have z':Data.fields _=Data.cell v:=z;cases z'⟩
  ·exact ⟨o,a,fun v z=>by rw [h4] at z;cases z⟩
 keep:=fun i h h' g kk=>by
  obtain ⟨⟨old,d⟩,a⟩:=g;exact ⟨⟨old,kk e (by simp) _ d⟩,a.at fun o q=>kk c (by simp) o q⟩
 item:=by
  intro X hP hw hK hc i Aa s σ H E I y g hg;subst hP hw hK;obtain ⟨xs,x,t,hx⟩:=hg;obtain ⟨a7,rv,p,hz⟩:=I.list t;obtain ⟨u,hu,ru⟩:=rv.get hx;obtain ⟨⟨old,d⟩,a⟩:=g;refine wpAny_pyNext_enum_item d a p.isList (x:=u) (by simpa using hu) m fun h' a1 a2 a3 a4 a5=>?_
  refine ⟨_,rfl,wpAny_letOwnedTupleGo_enum a1 fun a b1 b2=>?_⟩;have r:e<s.heap.objs.size:=Heap.lt_size d;have I1:Inv X Aa σ H { s with heap:=a,toks:=s.toks+1 }:=I.turnedL (ch:=[e,c]) (fun b o f q=>by
   have n:b ≠ e:=fun z=>f (by simp [z])
   have a0:b ≠ c:=fun z=>f (by simp [z])
   exact (b2.2 b n).trans (a5 b o n a0 q)) y
  have hT:H s.heap.objs.size=none:=I.hok.fresh (Nat.le_refl _);have fT:=I.fpOk (H':=H) (b:=s.heap.objs.size) (Nat.le_refl _) hT;have gT:a.get? s.heap.objs.size=some { cls:=.type "tuple",data:=.seq #[.int i s.toks,u] }:=(b2.2 _ (Nat.ne_of_gt r)).trans a3;refine ⟨.ref s.heap.objs.size,Af H s.heap.objs.size (.tup [.int (i:Int),x]),I1.track hT I.sz fT.2.1 fT.2.2.2.2.1 fT.2.2.2.2.2 ⟨by simp only [List.length_cons,List.length_nil];rw [sizeLine_eq];decide,[.int (i:Int) s.toks,u],.cons ⟨_,rfl⟩ (.cons ru .nil),⟨_,gT,rfl,_,rfl⟩⟩,rfl,
   ⟨_,x,hT,rfl,rfl,fun ys hy=>by rw [I.list_inj hy t];exact hx⟩,⟨⟨_,b1⟩,a2.at fun o q=>(b2.2 c (Ne.symm m)).trans q⟩,fun b f=>?_⟩
  have a8:b<s.heap.objs.size:=by
   have e':b=e\/b=c:=by simpa using f
   rcases e' with rfl | rfl
   ·exact r
   ·obtain ⟨o,q,_⟩:=a;exact Heap.lt_size (by assumption)
  rw [qA8 (Nat.ne_of_lt a8)];exact (y b f).1
 done:=by
  intro X hP hw hK hc i Aa s σ H E I y g hg;subst hP hw hK;obtain ⟨xs,t,hx⟩:=hg;obtain ⟨a7,rv,p,hz⟩:=I.list t;have hl:=rv.length;obtain ⟨⟨old,d⟩,a⟩:=g;exact wpAny_pyNext_enum_end (I.ok.hd hc) d a p.isList (by simp;lia) fun h' eb=>⟨rfl,I.turnedL (t':=s.toks) (ch:=[e,c]) (fun b o f q=>eb b o (fun z=>f (by simp [z])) q) y⟩
 self:=fun _ _ _ _ _ g h=>by
  obtain ⟨⟨old,d⟩,a⟩:=g;exact wpAny_pyIter_enum d h
def qeW (K:PySem.W.Frag) (ta:TA):TI:=fun σ H R=>ta σ H fun vs H1=>∃ l,vs=[.ref l]/\(∃ xs,SqL K H1 l xs)/\R (Ite K l) H1
theorem qQP {d:List Expr} {k:Nat} {f:Pos} {a:Expr} {j:TA} {p c:Pos} (n:Gl X "enumerate") (hm:X.mg "enumerate" = none) (x:bootBuiltins "enumerate" = some (.type "enumerate")) (ha:PA X [a] j) (y:starEach [a] X.env=[(false,eval a X.env)]:=by rfl) :
  PI X (.Tuple d k f) (.Call (.Name "enumerate" p) [a] [] c) (qeW X.K j):=by
 intro g s σ H R I h;refine Call_ (qMO I n hm x (PyProof.Rows.callWith_type1 (thn (ha c g s σ H _ I h) fun us s1 ⟨vs,H1,I1,r1,q1⟩=>?_) y rfl));obtain ⟨l,e,⟨xs,v⟩,q⟩:=q1;subst e;obtain ⟨u,rfl,o⟩:=qEJ r1;cases o;obtain ⟨t,rv,z,hz⟩:=I1.list v;refine call_enumerate_list z.isList fun h' i hi m hk=>?_;refine wpAny_pyIter_enum i ?_;have I2:Inv X g σ H1 { s1 with heap:=h' }:=I1.kept (t':=s1.toks) hk;refine ⟨s1.heap.objs.size+1,[s1.heap.objs.size+1,s1.heap.objs.size],_,_,H1,rfl,I2,qU4 l s1.heap.objs.size (s1.heap.objs.size+1) (Nat.succ_ne_self _),⟨⟨_,i⟩,hi⟩,fun b r=>?_,q⟩;have w:b=s1.heap.objs.size+1\/b=s1.heap.objs.size:=by simpa using r
 rcases w with rfl | rfl
 ·exact I1.fpOk (Nat.le_succ _) (I1.hok.fresh (Nat.le_succ _))
 ·exact I1.fpOk (Nat.le_refl _) (I1.hok.fresh (Nat.le_refl _))
end
theorem qbA {K:PySem.W.Frag} {a:Addr} {xs:List V} {g:TG} {h:TT} {f:TE} {Kf:Hp->Prop} {σ0:St} {H0:Hp} {p:Addr} (Pv:Nat->St->Hp->Prop) (j:Pv 0 σ0 H0) (t:∀ i σ H,i<=xs.length->Pv i σ H->SqL K H a xs)
  (l:∀ i x σ H T,xs[i]?=some x->Pv i σ H->H T=none->g (.ref T) σ (Af H T (.tup [.int (i:Int),x])) fun σ2 H2=>h σ2 H2 fun b H3=>if b=true then f σ2 H3 fun y H4=>∃ ys,H4 p=some (.lst ys)/\ys.length<sizeLine/\Pv (i+1) σ2 (Af H4 p (.lst (ys++[y]))) else Pv (i+1) σ2 H3)
  (r:∀ σ H,Pv xs.length σ H->Kf H) :
  LcG (Ite K a) g h f Kf σ0 H0 p:=by
 refine ⟨fun i m σ H=>m=xs.length - i/\i<=xs.length/\Pv i σ H,⟨xs.length,by simp,Nat.zero_le _,j⟩,?_⟩
 rintro i m σ H ⟨rfl,hi,q⟩;have d:=t i σ H hi q;by_cases c:i<xs.length
 ·refine .inr ⟨⟨xs,xs[i],d,by simp [c]⟩,Pv (i+1),fun σ' u n=>⟨xs.length - (i+1),by lia,rfl,c,n⟩,fun v u y=>?_⟩
  obtain ⟨T,x,s,k,o,y⟩:=y;subst k o;exact l i x σ H T (y xs d) q s
 ·have e:i=xs.length:=by lia
  subst e;exact .inl ⟨⟨xs,d,Nat.le_refl _⟩,r σ H q⟩
end L2
namespace L2
open PySem PySem.Spec PyProof.Rows
theorem qJB {prog:Program} {w:World} {A:Around} {E:Value->Shared->Prop} {s:Shared} {b t:Addr} {i:Nat} {Ad:Array Value} {x:Value} {Q:Value->Shared->Prop} (a:s.heap.IsTupleIter b t i) (h:s.heap.IsTuple t Ad) (k:Ad[i]?=some x)
  (j:∀ h':Heap,h'.IsTupleIter b t (i+1)->Heap.SameBut b s.heap h'->Q x { s with heap:=h' }):wpAny (model prog w) A (Builtin.SmallTypes.nextOf (.ref b)) Q E s:=by
 obtain ⟨o,d,g,c⟩:=id a;obtain ⟨m,f,_,l,e⟩:=h;refine wpAny_bind (wpAny_callSpecial?_slot a.typeIs F.slot_tuple_iterator_next (wpAny_call_entry F.slot_tuple_iterator_next a.typeIs F.entry_tuple_iterator_next ?_ (F.args_tuple_iterator_next_1 _)));show wpAny _ _ (field (.ref b) 0 >>= _) _ _ _;refine wpAny_bind (wpAny_field d c rfl ?_);refine wpAny_ite_false rfl ?_;show wpAny _ _ (field (.ref b) 1 >>= _) _ _ _;refine wpAny_bind (wpAny_field d c rfl ?_);show wpAny _ _ (seqItems? (.ref t) >>= _) _ _ _;refine wpAny_bind (wpAny_seqItems f e ?_);show wpAny _ _ (match Ad[i]? with | some x=>_ | none=>_) _ _ _
 rw [k];refine wpAny_bind (wpAny_setField d c (by simp) ?_)
 refine wpAny_pure ⟨x,rfl,wpAny_pure (j _ ⟨_,Heap.get?_update_self _ d (Obj.isFreed_of_fields (Obj.data_mapFields c _)),(Obj.cls_mapFields o _).trans g,?_⟩ (Heap.SameBut.update _ _ _))⟩;rw [Obj.data_mapFields c];simp
 rfl
theorem qK8 {prog:Program} {w:World} {A:Around} {E:Value->Shared->Prop} {s:Shared} {c t:Addr} {i:Nat} {Ad:Array Value} {Q:Value->Shared->Prop} (j:A.handled=none) (b:s.heap.IsTupleIter c t i) (k:s.heap.IsTuple t Ad) (l:Ad[i]?=none)
  (n:∀ (h':Heap) (e:Addr),Heap.ExtBut c s.heap h'->(∃ o,h'.get? e=some o/\o.cls=.type "StopIteration")->E (.ref e) { s with heap:=h' }):wpAny (model prog w) A (Builtin.SmallTypes.nextOf (.ref c)) Q E s:=by
 obtain ⟨o,d,p,f⟩:=id b;obtain ⟨r,h,_,q,g⟩:=k;refine wpAny_bind (wpAny_callSpecial?_slot b.typeIs F.slot_tuple_iterator_next (wpAny_call_entry F.slot_tuple_iterator_next b.typeIs F.entry_tuple_iterator_next ?_ (F.args_tuple_iterator_next_1 _)));show wpAny _ _ (field (.ref c) 0 >>= _) _ _ _;refine wpAny_bind (wpAny_field d f rfl ?_);refine wpAny_ite_false rfl ?_;show wpAny _ _ (field (.ref c) 1 >>= _) _ _ _;refine wpAny_bind (wpAny_field d f rfl ?_);show wpAny _ _ (seqItems? (.ref t) >>= _) _ _ _;refine wpAny_bind (wpAny_seqItems h g ?_);show wpAny _ _ (match Ad[i]? with | some x=>_ | none=>_) _ _ _
 rw [l];refine wpAny_bind (wpAny_rule ?_);refine wpAny_bind (wpAny_setField d f (by simp) ?_)
 show wpAny _ _ (newExc (.type "StopIteration") [] >>= _) _ _ _;refine wpAny_bind ?_;simp only [newExc,newTuple];refine wpAny_bind (wpAny_newObj_type ?_ (by size_fits))
 refine wpAny_bind (m:=firstArgMember _ _) (wpAny_of_eq (a:=Value.none) (by first | rfl | (simp only [firstArgMember];rfl)) ?_)
 refine wpAny_newObj_type ?_ (by size_fits)
 simp only [raiseNew];refine wpAny_bind (wpAny_handled ?_);rw [show A.in1.handled=none from j];refine wpAny_bind (wpAny_pure (wpAny_throw ?_));exact n _ _ (((Heap.SameBut.update ..).extBut.push _).push _) ⟨_,Heap.get?_push_size _ rfl,rfl⟩
def SIt (b:Bool) (h:Heap) (it l:Addr) (i:Nat):Prop:=match b with | true=>h.IsTupleIter it l i | false=>h.IsListIter it l i
def SSq (b:Bool) (h:Heap) (l:Addr) (xs:Array Value):Prop:=match b with | true=>h.IsTuple l xs | false=>h.IsList l xs
theorem SIt.at {b:Bool} {h h':Heap} {a l:Addr} {i:Nat} (q:SIt b h a l i) (k:∀ o,h.get? a=some o->h'.get? a=some o):SIt b h' a l i:=by
 cases b
 ·exact Heap.IsListIter.at q k
 ·exact Heap.IsTupleIter.at q k
theorem SSq.at {b:Bool} {h h':Heap} {l:Addr} {xs:Array Value} (q:SSq b h l xs) (k:∀ o,h.get? l=some o->h'.get? l=some o):SSq b h' l xs:=by
 cases b
 ·obtain ⟨o,e,r⟩:=q;exact ⟨o,k o e,r⟩
 ·obtain ⟨o,e,r⟩:=q;exact ⟨o,k o e,r⟩
theorem qGT {b:Bool} {prog:Program} {w:World} {A:Around} {E:Value->Shared->Prop} {s:Shared} {c t:Addr} {i:Nat} {Ad:Array Value} {x:Value} {Q:Value->Shared->Prop} (a:SIt b s.heap c t i) (d:SSq b s.heap t Ad) (f:Ad[i]?=some x)
  (e:∀ h':Heap,SIt b h' c t (i+1)->Heap.SameBut c s.heap h'->Q x { s with heap:=h' }):wpAny (model prog w) A (Builtin.SmallTypes.nextOf (.ref c)) Q E s:=by
 cases b
 ·exact wpAny_nextOf_list_item a d f e
 ·exact qJB a d f e
theorem qMN {b:Bool} {prog:Program} {w:World} {A:Around} {E:Value->Shared->Prop} {s:Shared} {c t:Addr} {i:Nat} {Ad:Array Value} {Q:Value->Shared->Prop} (d:A.handled=none) (a:SIt b s.heap c t i) (f:SSq b s.heap t Ad) (g:Ad[i]?=none)
  (h:∀ (h':Heap) (e:Addr),Heap.ExtBut c s.heap h'->(∃ o,h'.get? e=some o/\o.cls=.type "StopIteration")->E (.ref e) { s with heap:=h' }):wpAny (model prog w) A (Builtin.SmallTypes.nextOf (.ref c)) Q E s:=by
 cases b
 ·exact wpAny_nextOf_list_end d a f g h
 ·exact qK8 d a f g h
theorem qTR {b b':Bool} {prog:Program} {w:World} {A:Around} {E:Value->Shared->Prop} {s:Shared} {z TI TO f g j l:Addr} {k1 k2:Nat} {xs ys:Array Value} {x y a c:Value} {Q:Value->Shared->Prop} (D:ZipApart z TI TO f g j l) (r:IsZip s.heap z TI TO .none) (a2:IsPair s.heap TI (.ref f) (.ref g)) (a0:IsPair s.heap TO a c)
  (h1:SIt b s.heap f j k1) (h2:SIt b' s.heap g l k2) (a4:SSq b s.heap j xs) (aa:SSq b' s.heap l ys) (hx:xs[k1]?=some x) (hy:ys[k2]?=some y)
  (hQ:∀ h':Heap,IsZip h' z TI TO (rawInt (s.heap.objs.size:Int))->IsPair h' TO x y->SIt b h' f j (k1+1)->SIt b' h' g l (k2+1)->IsPair h' s.heap.objs.size x y->h'.objs.size=s.heap.objs.size+1->
   (∀ (c:Addr) (o:Obj),c ≠ z->c ≠ TO->c ≠ f->c ≠ g->s.heap.get? c=some o->h'.get? c=some o)->Q (.ref s.heap.objs.size) { s with heap:=h' }) :
  wpAny (model prog w) A (Builtin.«zip.__next__» { pos:=[.ref z] }) (fun fin s'=>∃ v,fin=.done (.ret v)/\Q v s') E s:=by
 show wpAny _ _ (field (.ref z) 2 >>= _) _ _ _;refine wpAny_bind (wpAny_field r rfl rfl ?_);show wpAny _ _ (field (.ref z) 3 >>= _) _ _ _;refine wpAny_bind (wpAny_field r rfl rfl ?_);refine wpAny_bind (wpAny_seqItems a2 rfl ?_);show wpAny _ _ (Builtin.SmallTypes.ownedTupleIsFree (.ref z) >>= _) _ _ _;refine wpAny_bind ?_;show wpAny _ _ (field (.ref z) 0 >>= _) _ _ _;refine wpAny_bind (wpAny_field r rfl rfl (wpAny_pure ?_));refine wpAny_ite_true rfl ?_;refine wpAny_bind (wpAny_rule ?_);refine wpAny_bind (wpAny_field r rfl rfl ?_);refine wpAny_bind (wpAny_setField_rec r (by simp) fun hA gz h=>?_)
 refine wpAny_bind ?_;show wpAny _ _ (forIn [(Value.ref f,0),(Value.ref g,1)] _ _) _ _ _;rw [List.forIn_cons];refine wpAny_bind ?_;dsimp only;refine wpAny_bind (wpAny_onRaise ?_);have e:((#[Value.none,Value.bool false,Value.bool false,Value.ref TI,Value.ref TO][2] == Value.bool true)=false):=rfl;rw [e];have a1:SIt b hA f j k1:=h1.at fun o q=>(h.2 _ D.i1z).trans q;have a5:SSq b hA j xs:=a4.at fun o q=>(h.2 _ D.l1z).trans q;refine wpAny_bind (qGT (s:={ s with heap:=hA }) a1 a5 hx fun hB nB k=>?_);refine wpAny_pure ?_;have tB:IsPair hB TO a c:=(k.2 _ D.TOi1).trans ((h.2 _ D.TOz).trans a0);refine wpAny_bind (wpAny_seqItems tB rfl ?_);refine wpAny_bind (wpAny_updateSeq_pair tB fun hC tC i=>?_);refine wpAny_bind (wpAny_letGo (wpAny_pure ?_));dsimp only;rw [List.forIn_cons];refine wpAny_bind ?_;refine wpAny_bind (wpAny_onRaise ?_);have a7:SIt b' hC g l k2:=h2.at fun o q=>(i.2 _ (Ne.symm D.TOi2)).trans ((k.2 _ (Ne.symm D.i12)).trans ((h.2 _ D.i2z).trans q));have a3:SSq b' hC l ys:=aa.at fun o q=>(i.2 _ D.l2TO).trans ((k.2 _ D.l2i1).trans ((h.2 _ D.l2z).trans q));refine wpAny_bind (qGT (s:={ s with heap:=hC }) a7 a3 hy fun hD nD sD=>?_);refine wpAny_pure ?_;have tD:IsPair hD TO x c:=(sD.2 _ D.TOi2).trans tC;refine wpAny_bind (wpAny_seqItems tD rfl ?_);refine wpAny_bind (wpAny_updateSeq_pair tD fun d tF m=>?_);refine wpAny_bind (wpAny_letGo (wpAny_pure ?_));dsimp only;rw [List.forIn_nil];refine wpAny_pure ?_;dsimp only;have u:IsPair d TO x y:=tF;refine wpAny_bind (wpAny_seqItems u rfl ?_);refine wpAny_bind (wpAny_newTuple ?_ (by show 2<=sizeLine;decide))
 have t:d.get? z=some { cls:=.type "zip",data:=.fields #[.ellipsis,.bool false,.bool false,.ref TI,.ref TO] }:=(m.2 _ (Ne.symm D.TOz)).trans ((sD.2 _ (Ne.symm D.i2z)).trans ((i.2 _ (Ne.symm D.TOz)).trans ((k.2 _ (Ne.symm D.i1z)).trans gz)));have ab:d.objs.size=s.heap.objs.size:=m.1.trans (sD.1.trans (i.1.trans (k.1.trans h.1)));have a9:z<d.objs.size:=Heap.lt_size t;have a8:(d.push { cls:=.type "tuple",data:=.seq #[x,y] }).get? z=some { cls:=.type "zip",data:=.fields #[.ellipsis,.bool false,.bool false,.ref TI,.ref TO] }:=Heap.get?_push_of_some _ t;refine wpAny_bind ?_;show wpAny _ _ (setField (.ref z) 0 (rawInt _) >>= _) _ _ _;refine wpAny_bind (wpAny_setField_rec a8 (by simp) fun hG gG sG=>?_)
 refine wpAny_setField_rec gG (by simp) fun p gI sI=>?_
 refine wpAny_pure ⟨_,rfl,?_⟩;have o4:∀ (c:Addr) (o:Obj),c ≠ z->c ≠ TO->c ≠ f->c ≠ g->s.heap.get? c=some o->p.get? c=some o:=fun c o n1 n2 n3 n4 e=>
  (sI.2 _ n1).trans ((sG.2 _ n1).trans (Heap.get?_push_of_some _ ((m.2 _ n2).trans ((sD.2 _ n4).trans ((i.2 _ n2).trans ((k.2 _ n3).trans ((h.2 _ n1).trans e)))))))
 have nz:d.objs.size ≠ z:=Nat.ne_of_gt a9;have gT:p.get? d.objs.size=some { cls:=.type "tuple",data:=.seq #[x,y] }:=(sI.2 _ nz).trans ((sG.2 _ nz).trans (Heap.get?_push_size _ rfl));have a6:p.objs.size=d.objs.size+1:=sI.1.trans (sG.1.trans (Heap.size_push ..));have pz:∀ {c:Addr} {o:Obj},c ≠ z->d.get? c=some o->p.get? c=some o:=fun n e=>(sI.2 _ n).trans ((sG.2 _ n).trans (Heap.get?_push_of_some _ e));have q:=hQ p;rw [<- ab] at q;refine q gI (pz D.TOz u) (nB.at fun o e=>pz D.i1z ((m.2 _ (Ne.symm D.TOi1)).trans ((sD.2 _ D.i12).trans ((i.2 _ (Ne.symm D.TOi1)).trans e)))) (nD.at fun o e=>pz D.i2z ((m.2 _ (Ne.symm D.TOi2)).trans e)) gT a6 o4
theorem qX2 {b:Bool} {prog:Program} {w:World} {A:Around} {E:Value->Shared->Prop} {s:Shared} {z TI TO a l d l2:Addr} {r:Nat} {xs:Array Value} {Q:PySem.Fin->Shared->Prop} (hh:A.handled=none) (D:ZipApart z TI TO a l d l2) (f:IsZip s.heap z TI TO .none) (j:IsPair s.heap TI (.ref a) (.ref l))
  (h1:SIt b s.heap a d r) (m:SSq b s.heap d xs) (hx:xs[r]?=none)
  (y:∀ (h':Heap) (e:Addr),(∀ (c:Addr) (o:Obj),c ≠ z->c ≠ a->s.heap.get? c=some o->h'.get? c=some o)->(∃ o,h'.get? e=some o/\o.cls=.type "StopIteration")->E (.ref e) { s with heap:=h' }) :
  wpAny (model prog w) A (Builtin.«zip.__next__» { pos:=[.ref z] }) Q E s:=by
 show wpAny _ _ (field (.ref z) 2 >>= _) _ _ _;refine wpAny_bind (wpAny_field f rfl rfl ?_);show wpAny _ _ (field (.ref z) 3 >>= _) _ _ _;refine wpAny_bind (wpAny_field f rfl rfl ?_);refine wpAny_bind (wpAny_seqItems j rfl ?_);show wpAny _ _ (Builtin.SmallTypes.ownedTupleIsFree (.ref z) >>= _) _ _ _;refine wpAny_bind ?_;show wpAny _ _ (field (.ref z) 0 >>= _) _ _ _;refine wpAny_bind (wpAny_field f rfl rfl (wpAny_pure ?_));refine wpAny_ite_true rfl ?_;refine wpAny_bind (wpAny_rule ?_);refine wpAny_bind (wpAny_field f rfl rfl ?_);refine wpAny_bind (wpAny_setField_rec f (by simp) fun k x i=>?_)
 refine wpAny_bind ?_;show wpAny _ _ (forIn [(Value.ref a,0),(Value.ref l,1)] _ _) _ _ _;rw [List.forIn_cons];refine wpAny_bind ?_;dsimp only;refine wpAny_bind (wpAny_onRaise ?_);have e:((#[Value.none,Value.bool false,Value.bool false,Value.ref TI,Value.ref TO][2] == Value.bool true)=false):=rfl;rw [e];have h:SIt b k a d r:=h1.at fun o q=>(i.2 _ D.i1z).trans q;have n:SSq b k d xs:=m.at fun o q=>(i.2 _ D.l1z).trans q;refine wpAny_bind (qMN (s:={ s with heap:=k }) hh h n hx fun hB ea xB ⟨ob,gb,cb⟩=>?_);have g:=xB z _ (Ne.symm D.i1z) x;refine wpAny_setField_rec g (by simp) fun v gC t=>?_
 have p:ea ≠ z:=fun q=>by
  rw [q,g] at gb;cases gb;exact absurd (show Value.type "zip" = Value.type "StopIteration" from cb) (by decide)
 exact y v ea (fun c o u n2 q=>(t.2 _ u).trans (xB c o n2 ((i.2 _ u).trans q))) ⟨ob,(t.2 _ p).trans gb,cb⟩
theorem qTS {b b':Bool} {prog:Program} {w:World} {A:Around} {E:Value->Shared->Prop} {s:Shared} {z TI TO d g h k:Addr} {k1 k2:Nat} {xs ys:Array Value} {x a c:Value} {Q:PySem.Fin->Shared->Prop} (hh:A.handled=none) (D:ZipApart z TI TO d g h k) (l:IsZip s.heap z TI TO .none) (t:IsPair s.heap TI (.ref d) (.ref g)) (p:IsPair s.heap TO a c)
  (h1:SIt b s.heap d h k1) (h2:SIt b' s.heap g k k2) (y:SSq b s.heap h xs) (a3:SSq b' s.heap k ys) (hx:xs[k1]?=some x) (hy:ys[k2]?=none)
  (hE:∀ (h':Heap) (e:Addr),(∀ (c:Addr) (o:Obj),c ≠ z->c ≠ TO->c ≠ d->c ≠ g->s.heap.get? c=some o->h'.get? c=some o)->(∃ o,h'.get? e=some o/\o.cls=.type "StopIteration")->E (.ref e) { s with heap:=h' }) :
  wpAny (model prog w) A (Builtin.«zip.__next__» { pos:=[.ref z] }) Q E s:=by
 show wpAny _ _ (field (.ref z) 2 >>= _) _ _ _;refine wpAny_bind (wpAny_field l rfl rfl ?_);show wpAny _ _ (field (.ref z) 3 >>= _) _ _ _;refine wpAny_bind (wpAny_field l rfl rfl ?_);refine wpAny_bind (wpAny_seqItems t rfl ?_);show wpAny _ _ (Builtin.SmallTypes.ownedTupleIsFree (.ref z) >>= _) _ _ _;refine wpAny_bind ?_;show wpAny _ _ (field (.ref z) 0 >>= _) _ _ _;refine wpAny_bind (wpAny_field l rfl rfl (wpAny_pure ?_));refine wpAny_ite_true rfl ?_;refine wpAny_bind (wpAny_rule ?_);refine wpAny_bind (wpAny_field l rfl rfl ?_);refine wpAny_bind (wpAny_setField_rec l (by simp) fun v gz f=>?_)
 refine wpAny_bind ?_;show wpAny _ _ (forIn [(Value.ref d,0),(Value.ref g,1)] _ _) _ _ _;rw [List.forIn_cons];refine wpAny_bind ?_;dsimp only;refine wpAny_bind (wpAny_onRaise ?_);have e:((#[Value.none,Value.bool false,Value.bool false,Value.ref TI,Value.ref TO][2] == Value.bool true)=false):=rfl;rw [e];have r:SIt b v d h k1:=h1.at fun o q=>(f.2 _ D.i1z).trans q;have a0:SSq b v h xs:=y.at fun o q=>(f.2 _ D.l1z).trans q;refine wpAny_bind (qGT (s:={ s with heap:=v }) r a0 hx fun hB nB i=>?_);refine wpAny_pure ?_;have tB:IsPair hB TO a c:=(i.2 _ D.TOi1).trans ((f.2 _ D.TOz).trans p);refine wpAny_bind (wpAny_seqItems tB rfl ?_);refine wpAny_bind (wpAny_updateSeq_pair tB fun n tC m=>?_);refine wpAny_bind (wpAny_letGo (wpAny_pure ?_));dsimp only;rw [List.forIn_cons];refine wpAny_bind ?_;refine wpAny_bind (wpAny_onRaise ?_);have a1:SIt b' n g k k2:=h2.at fun o q=>(m.2 _ (Ne.symm D.TOi2)).trans ((i.2 _ (Ne.symm D.i12)).trans ((f.2 _ D.i2z).trans q));have u:SSq b' n k ys:=a3.at fun o q=>(m.2 _ D.l2TO).trans ((i.2 _ D.l2i1).trans ((f.2 _ D.l2z).trans q));refine wpAny_bind (qMN (s:={ s with heap:=n }) hh a1 u hy fun hD ea xD ⟨ob,gb,cb⟩=>?_);have a4:n.get? z=some { cls:=.type "zip",data:=.fields #[.ellipsis,.bool false,.bool false,.ref TI,.ref TO] }:=(m.2 _ (Ne.symm D.TOz)).trans ((i.2 _ (Ne.symm D.i1z)).trans gz);have j:=xD z _ (Ne.symm D.i2z) a4;refine wpAny_setField_rec j (by simp) fun hF gF sF=>?_
 have a2:ea ≠ z:=fun q=>by
  rw [q,j] at gb;cases gb;exact absurd (show Value.type "zip" = Value.type "StopIteration" from cb) (by decide)
 exact hE hF ea (fun c o n1 n2 n3 n4 q=>(sF.2 _ n1).trans (xD c o n4 ((m.2 _ n2).trans ((i.2 _ n3).trans ((f.2 _ n1).trans q))))) ⟨ob,(sF.2 _ a2).trans gb,cb⟩
section
variable {b b':Bool} {prog:Program} {w:World} {A:Around} {E:Value->Shared->Prop} {s:Shared} {z TI TO i1 i2 l1 l2:Addr} {k1 k2:Nat} {xs ys:Array Value}
theorem qK6 {x y a c:Value} {Q:Option Value->Shared->Prop} (D:ZipApart z TI TO i1 i2 l1 l2) (i:IsZip s.heap z TI TO .none) (e:IsPair s.heap TI (.ref i1) (.ref i2)) (d:IsPair s.heap TO a c)
  (m:SIt b s.heap i1 l1 k1) (l:SIt b' s.heap i2 l2 k2) (f:SSq b s.heap l1 xs) (g:SSq b' s.heap l2 ys) (hx:xs[k1]?=some x) (q:ys[k2]?=some y)
  (p:∀ h':Heap,IsZip h' z TI TO (rawInt (s.heap.objs.size:Int))->IsPair h' TO x y->SIt b h' i1 l1 (k1+1)->SIt b' h' i2 l2 (k2+1)->IsPair h' s.heap.objs.size x y->h'.objs.size=s.heap.objs.size+1->
   (∀ (c:Addr) (o:Obj),c ≠ z->c ≠ TO->c ≠ i1->c ≠ i2->s.heap.get? c=some o->h'.get? c=some o)->Q (some (.ref s.heap.objs.size)) { s with heap:=h' }) :
  wpAny (model prog w) A (pyNext (.ref z)) Q E s:=by
 have h:s.TypeIs (.ref z) "zip":=⟨_,i,rfl⟩;unfold pyNext;refine wpAny_bind (wpAny_attempt (wpAny_callSpecial?_slot (name:=Str.ofString "__next__") h F.slot_zip_next (wpAny_call_entry F.slot_zip_next h F.entry_zip_next ?_ (F.args_zip_next_1 _))));exact qTR (Q:=fun v r=>wpAny (model prog w) A (pure (some v)) Q E r) D i e d m l f g hx q fun h' j k n q4 u t q7=>wpAny_pure (p h' j k n q4 u t q7)
theorem qL2 {Q:Option Value->Shared->Prop} (j:A.handled=none) (D:ZipApart z TI TO i1 i2 l1 l2) (f:IsZip s.heap z TI TO .none) (d:IsPair s.heap TI (.ref i1) (.ref i2))
  (i:SIt b s.heap i1 l1 k1) (a:SSq b s.heap l1 xs) (m:xs[k1]?=none)
  (l:∀ h':Heap,(∀ (c:Addr) (o:Obj),c ≠ z->c ≠ i1->s.heap.get? c=some o->h'.get? c=some o)->Q none { s with heap:=h' }) :
  wpAny (model prog w) A (pyNext (.ref z)) Q E s:=by
 have h:s.TypeIs (.ref z) "zip":=⟨_,f,rfl⟩;unfold pyNext;refine wpAny_bind (wpAny_attempt (wpAny_callSpecial?_slot (name:=Str.ofString "__next__") h F.slot_zip_next (wpAny_call_entry F.slot_zip_next h F.entry_zip_next ?_ (F.args_zip_next_1 _))));refine qX2 j D f d i a m fun h' e k ⟨o,g,c⟩=>?_;refine wpAny_bind (wpAny_isInstance (T:="StopIteration") (b:=true) ⟨_,g,c⟩ isSubtype_stop ?_);exact wpAny_pure (l h' k)
theorem qK7 {x a c:Value} {Q:Option Value->Shared->Prop} (n:A.handled=none) (D:ZipApart z TI TO i1 i2 l1 l2) (j:IsZip s.heap z TI TO .none) (i:IsPair s.heap TI (.ref i1) (.ref i2)) (h:IsPair s.heap TO a c)
  (m:SIt b s.heap i1 l1 k1) (t:SIt b' s.heap i2 l2 k2) (f:SSq b s.heap l1 xs) (d:SSq b' s.heap l2 ys) (r:xs[k1]?=some x) (q:ys[k2]?=none)
  (p:∀ h':Heap,(∀ (c:Addr) (o:Obj),c ≠ z->c ≠ TO->c ≠ i1->c ≠ i2->s.heap.get? c=some o->h'.get? c=some o)->Q none { s with heap:=h' }) :
  wpAny (model prog w) A (pyNext (.ref z)) Q E s:=by
 have l:s.TypeIs (.ref z) "zip":=⟨_,j,rfl⟩;unfold pyNext;refine wpAny_bind (wpAny_attempt (wpAny_callSpecial?_slot (name:=Str.ofString "__next__") l F.slot_zip_next (wpAny_call_entry F.slot_zip_next l F.entry_zip_next ?_ (F.args_zip_next_1 _))));refine qTS n D j i h m t f d r q fun h' e k ⟨o,g,c⟩=>?_;refine wpAny_bind (wpAny_isInstance (T:="StopIteration") (b:=true) ⟨_,g,c⟩ isSubtype_stop ?_);exact wpAny_pure (p h' k)
end
noncomputable abbrev itObj (b:Bool) (l:Addr):Obj:={ cls:=.type (match b with | true=>"tuple_iterator" | false=>"list_iterator"),data:=.fields #[.ref l,.int 0 0] }
theorem qMH {b:Bool} {prog:Program} {w:World} {A:Around} {E:Value->Shared->Prop} {s:Shared} {l:Addr} {xs:Array Value} {Q:Value->Shared->Prop} (h:SSq b s.heap l xs) (a:Q (.ref s.heap.objs.size) { s with heap:=s.heap.push (itObj b l) }):wpAny (model prog w) A (pyIter (.ref l)) Q E s:=by
 cases b
 ·exact wpAny_pyIter_list h a
 ·exact wpAny_pyIter_tuple h a
noncomputable abbrev zb1 (b:Bool) (h:Heap) (l1:Addr):Heap:=h.push (itObj b l1)
noncomputable abbrev zb2 (b b':Bool) (h:Heap) (l1 l2:Addr):Heap:=(zb1 b h l1).push (itObj b' l2)
noncomputable abbrev zb3 (b b':Bool) (h:Heap) (l1 l2:Addr):Heap:=(zb2 b b' h l1 l2).push { cls:=.type "tuple",data:=.seq #[.ref h.objs.size,.ref (zb1 b h l1).objs.size] }
noncomputable abbrev zb4 (b b':Bool) (h:Heap) (l1 l2:Addr):Heap:=(zb3 b b' h l1 l2).push { cls:=.type "tuple",data:=.seq #[.none,.none] }
noncomputable abbrev zb5 (b b':Bool) (h:Heap) (l1 l2:Addr):Heap:=(zb4 b b' h l1 l2).push { cls:=.type "zip",data:=.fields #[.none,.bool false,.bool false,.ref (zb2 b b' h l1 l2).objs.size,.ref (zb3 b b' h l1 l2).objs.size] }
theorem qX1 (b b':Bool) (c a:Addr) (xs ys:Array Value):Meets (Builtin.«zip.__new__» { pos:=[.type "zip",.ref c,.ref a] }) fun _ R s=>
  SSq b s.heap c xs/\SSq b' s.heap a ys/\R (.ok (.ret (.ref (zb4 b b' s.heap c a).objs.size))) { s with heap:=zb5 b b' s.heap c a }:=by
 refine Meets.of_wp fun j w A R s h=>?_;obtain ⟨k,g,d,m,l⟩:=s;obtain ⟨f,e,h⟩:=h;have i:SSq b' (k.push (itObj b c)) a ys:=SSq.at e fun o q=>Heap.get?_push_of_some _ q;refine wpAny_bind ?_;refine wpAny_bind (wpAny_pure ?_);refine wpAny_ite_false rfl ?_;refine wpAny_bind (wpAny_of_eq sub_zip ?_);refine wpAny_ite_false rfl ?_;refine wpAny_pure ?_;refine wpAny_ite_false rfl ?_;refine wpAny_bind ?_;refine wpAny_bind ?_;show wpAny _ _ (forIn [Value.ref c,Value.ref a] #[] _) _ _ _;rw [List.forIn_cons];refine wpAny_bind (wpAny_bind (wpAny_holding (qMH f (wpAny_pure ?_))));dsimp only;rw [List.forIn_cons];refine wpAny_bind (wpAny_bind (wpAny_holding (qMH i (wpAny_pure ?_))));dsimp only;rw [List.forIn_nil];refine wpAny_pure (wpAny_pure ?_);refine wpAny_bind (wpAny_newTuple ?_ (by show 2<=sizeLine;decide))
 refine wpAny_bind (wpAny_newTuple ?_ (by show 2<=sizeLine;decide))
 refine wpAny_bind ?_;unfold Builtin.SmallTypes.newRecord;dsimp only;refine wpAny_newObj_type ?_ (by first | rfl | (show (5:Nat)<=_;decide) | (show (5:Nat)<=sizeLine+2;rw [sizeLine_eq];decide))
 refine wpAny_pure ⟨_,rfl,h⟩
end L2
namespace L2
open PySem PySem.Spec PyProof.Rows
theorem qWJ {b b':Bool} {prog:Program} {w:World} {A:Around} {E:Value->Shared->Prop} {s:Shared} {a d:Addr} {xs ys:Array Value} {Q:Value->Shared->Prop} (g:SSq b s.heap a xs) (f:SSq b' s.heap d ys)
  (x:∀ (h':Heap) (z TI TO i1 i2:Addr),ZipApart z TI TO i1 i2 a d->IsZip h' z TI TO .none->IsPair h' TI (.ref i1) (.ref i2)->IsPair h' TO .none .none->SIt b h' i1 a 0->SIt b' h' i2 d 0->(∀ c ∈ [z,TI,TO,i1,i2],s.heap.objs.size<=c)->
   (∀ (c:Addr) (o:Obj),s.heap.get? c=some o->h'.get? c=some o)->Q (.ref z) { s with heap:=h' }) :
  wpAny (model prog w) A (call (.type "zip") [.ref a,.ref d]) Q E s:=by
 refine callType_new F.called_zip (by decide) (F.typeCall_zip_2 _ _) (F.newCall_zip_2 _ _) (fun h=>F.args_object_init_3 h _ _) F.entry_zip_new (qX1 b b' a d xs ys) ⟨g,f,?_⟩
 have i:(zb1 b s.heap a).objs.size=s.heap.objs.size+1:=Heap.size_push ..;have k:(zb2 b b' s.heap a d).objs.size=s.heap.objs.size+2:=(Heap.size_push ..).trans (by rw [i])
 have j:(zb3 b b' s.heap a d).objs.size=s.heap.objs.size+3:=(Heap.size_push ..).trans (by rw [k])
 have z4:(zb4 b b' s.heap a d).objs.size=s.heap.objs.size+4:=(Heap.size_push ..).trans (by rw [j])
 have r:(zb5 b b' s.heap a d).get? (zb4 b b' s.heap a d).objs.size=some { cls:=.type "zip",data:=.fields #[.none,.bool false,.bool false,.ref (zb2 b b' s.heap a d).objs.size,.ref (zb3 b b' s.heap a d).objs.size] }:=Heap.get?_push_size _ rfl;have g4:(zb5 b b' s.heap a d).get? (zb3 b b' s.heap a d).objs.size=some { cls:=.type "tuple",data:=.seq #[.none,.none] }:=Heap.get?_push_of_some _ (Heap.get?_push_size _ rfl);have y:(zb5 b b' s.heap a d).get? (zb2 b b' s.heap a d).objs.size=some { cls:=.type "tuple",data:=.seq #[.ref s.heap.objs.size,.ref (zb1 b s.heap a).objs.size] }:=Heap.get?_push_of_some _ (Heap.get?_push_of_some _ (Heap.get?_push_size _ rfl));have p:(zb5 b b' s.heap a d).get? (zb1 b s.heap a).objs.size=some (itObj b' d):=Heap.get?_push_of_some _ (Heap.get?_push_of_some _ (Heap.get?_push_of_some _ (Heap.get?_push_size _ rfl)));have m:(zb5 b b' s.heap a d).get? s.heap.objs.size=some (itObj b a):=Heap.get?_push_of_some _ (Heap.get?_push_of_some _ (Heap.get?_push_of_some _ (Heap.get?_push_of_some _ (Heap.get?_push_size _ rfl))));have t:∀ {b:Bool} {l:Addr} {zs:Array Value},SSq b s.heap l zs->l<s.heap.objs.size:=fun {b l zs} q=>by
  cases b
  ·obtain ⟨o,e,_⟩:=q;exact Heap.lt_size e
  ·obtain ⟨o,e,_⟩:=q;exact Heap.lt_size e
 refine ⟨⟨_,r,rfl⟩,?_⟩;have D:=zipApart_new (n:=s.heap.objs.size) (t g) (t f);rw [<- z4,<- j,<- k,<- i] at D;refine x _ _ _ _ _ _ D r y g4 ?_ ?_ ?_ fun c o e=>Heap.get?_push_of_some _ (Heap.get?_push_of_some _ (Heap.get?_push_of_some _ (Heap.get?_push_of_some _ (Heap.get?_push_of_some _ e))))
 ·cases b
  ·exact ⟨_,m,rfl,rfl⟩
  ·exact ⟨_,m,rfl,rfl⟩
 ·cases b'
  ·exact ⟨_,p,rfl,rfl⟩
  ·exact ⟨_,p,rfl,rfl⟩
 ·intro c v;have u:c=(zb4 b b' s.heap a d).objs.size\/c=(zb2 b b' s.heap a d).objs.size\/c=(zb3 b b' s.heap a d).objs.size\/c=s.heap.objs.size\/c=(zb1 b s.heap a).objs.size:=by simpa using v
  rcases u with rfl | rfl | rfl | rfl | rfl
  ·lia
  ·lia
  ·lia
  ·exact Nat.le_refl _
  ·lia
def SqB (b:Bool) (K:PySem.W.Frag) (H:Hp) (a:Addr) (xs:List V):Prop:=match b with | true=>SqT K H a xs | false=>SqL K H a xs
def Itz2 (K:PySem.W.Frag) (b b':Bool) (l1 l2:Addr):It:=
 ⟨fun i H=>∃ xs ys x y,SqB b K H l1 xs/\SqB b' K H l2 ys/\xs[i]?=some x/\ys[i]?=some y,fun i H v H'=>∃ T x y,H T=none/\v=.ref T/\H'=Af H T (.tup [x,y])/\∀ xs ys,SqB b K H l1 xs->SqB b' K H l2 ys->xs[i]?=some x/\ys[i]?=some y,fun i H=>∃ xs,SqB b K H l1 xs/\(xs.length<=i\/∃ ys x,SqB b' K H l2 ys/\xs[i]?=some x/\ys.length<=i)⟩
section
variable {X:Cx}
theorem Inv.seqB {b:Bool} {Aa:List (Addr × Obj)} {s:Shared} {σ:St} {H:Hp} {a:Addr} {xs:List V} (I:Inv X Aa σ H s) (h:SqB b X.K H a xs):∃ its:List Value,Vals xs its/\SSq b s.heap a its.toArray:=by
 cases b
 ·obtain ⟨its,c,p,_⟩:=I.list h;exact ⟨its,c,p.isList⟩
 ·obtain ⟨its,c,p,_⟩:=I.tuple h;exact ⟨its,c,p⟩
theorem Inv.seqB_inj {b:Bool} {Aa:List (Addr × Obj)} {s:Shared} {σ:St} {H:Hp} {a:Addr} {xs ys:List V} (I:Inv X Aa σ H s) (h:SqB b X.K H a xs) (h':SqB b X.K H a ys):xs=ys:=by
 cases b
 ·exact I.list_inj h h'
 ·exact I.tuple_inj h h'
theorem qX9 {P:Program} {w:World} {K:PySem.W.Frag} {a8:List Expr} {k:Nat} {ab:Pos} {b b':Bool} {z TI TO f g l1 l2:Addr} (D:ZipApart z TI TO f g l1 l2):Turn P w K (.Tuple a8 k ab) (Itz2 K b b' l1 l2) [z,TI,TO,f,g] z (fun i h=>IsZip h z TI TO .none/\IsPair h TI (.ref f) (.ref g)/\(∃ a c,IsPair h TO a c)/\SIt b h f l1 i/\SIt b' h g l2 i) where
 mem:=by simp
 obj:=fun i h ⟨h1,h2,⟨a,c,h3⟩,h4,h5⟩ d hd=>by
  have it:∀ {b:Bool} {j l:Addr},SIt b h j l i->∃ o,h.get? j=some o/\∀ v,o.data ≠ .cell v:=fun {b j l} q=>by
   cases b
   ·obtain ⟨o,e,_,q⟩:=q;exact ⟨o,e,fun v z=>by rw [q] at z;cases z⟩
   ·obtain ⟨o,e,_,q⟩:=q;exact ⟨o,e,fun v z=>by rw [q] at z;cases z⟩
  have e':d=z\/d=TI\/d=TO\/d=f\/d=g:=by simpa using hd
  rcases e' with rfl | rfl | rfl | rfl | rfl
  ·exact ⟨_,h1,fun v z=>by
    have z':Data.fields _=Data.cell v:=z;cases z'⟩
  ·exact ⟨_,h2,fun v z=>by
    have z':Data.seq _=Data.cell v:=z;cases z'⟩
  ·exact ⟨_,h3,fun v z=>by
    have z':Data.seq _=Data.cell v:=z;cases z'⟩
  ·exact it h4
  ·exact it h5
 keep:=fun i h h' ⟨h1,h2,⟨a,c,h3⟩,h4,h5⟩ kk=>⟨kk z (by simp) _ h1,kk TI (by simp) _ h2,⟨a,c,kk TO (by simp) _ h3⟩,h4.at fun o q=>kk f (by simp) o q,h5.at fun o q=>kk g (by simp) o q⟩
 item:=by
  intro X hP hw hK hc i Aa s σ H E I hf st hg;subst hP hw hK;obtain ⟨xs,ys,x,y,a0,m,hx,hy⟩:=hg;obtain ⟨ac,rv,p1⟩:=I.seqB a0;obtain ⟨ad,r,p2⟩:=I.seqB m;obtain ⟨u,hu,ru⟩:=rv.get hx;obtain ⟨v,hv,ae⟩:=r.get hy;obtain ⟨h1,h2,⟨a,c,h3⟩,h4,h5⟩:=st;refine qK6 D h1 h2 h3 h4 h5 p1 p2 (x:=u) (y:=v) (by simpa using hu) (by simpa using hv) fun h' a1 a2 a3 a4 a5 a6 a7=>?_
  refine ⟨_,rfl,wpAny_letOwnedTupleGo_zip a1 fun aa b1 t=>?_⟩;have a9:z<s.heap.objs.size:=Heap.lt_size h1;have nz:s.heap.objs.size ≠ z:=Nat.ne_of_gt a9;have I1:Inv X Aa σ H { s with heap:=aa,toks:=s.toks }:=I.turnedL (ch:=[z,TI,TO,f,g]) (fun d o hd q=>by
   have e1:d ≠ z:=fun q=>hd (by simp [q])
   exact (t.2 d e1).trans (a7 d o e1 (fun q=>hd (by simp [q])) (fun q=>hd (by simp [q])) (fun q=>hd (by simp [q])) q)) hf
  have hT:H s.heap.objs.size=none:=I.hok.fresh (Nat.le_refl _);have fT:=I.fpOk (H':=H) (b:=s.heap.objs.size) (Nat.le_refl _) hT;have gT:aa.get? s.heap.objs.size=some { cls:=.type "tuple",data:=.seq #[u,v] }:=(t.2 _ nz).trans a5;refine ⟨.ref s.heap.objs.size,Af H s.heap.objs.size (.tup [x,y]),I1.track hT I.sz fT.2.1 fT.2.2.2.2.1 fT.2.2.2.2.2 ⟨by simp only [List.length_cons,List.length_nil];rw [sizeLine_eq];decide,[u,v],.cons ru (.cons ae .nil),⟨_,gT,rfl,_,rfl⟩⟩,rfl,
   ⟨_,x,y,hT,rfl,rfl,fun ai ah e1 e2=>by rw [I.seqB_inj e1 a0,I.seqB_inj e2 m];exact ⟨hx,hy⟩⟩,⟨b1,(t.2 _ D.TIz).trans (a7 _ _ D.TIz D.TITO D.TIi1 D.TIi2 h2),⟨u,v,(t.2 _ D.TOz).trans a2⟩,a3.at fun o q=>(t.2 _ D.i1z).trans q,a4.at fun o q=>(t.2 _ D.i2z).trans q⟩,fun d hd=>?_⟩
  have af:d<s.heap.objs.size:=by
   have it:∀ {b:Bool} {j l:Addr} {n:Nat},SIt b s.heap j l n->j<s.heap.objs.size:=fun {b j l n} q=>by
    cases b
    ·obtain ⟨o,e,_,q⟩:=q;exact Heap.lt_size e
    ·obtain ⟨o,e,_,q⟩:=q;exact Heap.lt_size e
   have e':d=z\/d=TI\/d=TO\/d=f\/d=g:=by simpa using hd
   rcases e' with rfl | rfl | rfl | rfl | rfl
   ·exact a9
   ·exact Heap.lt_size h2
   ·exact Heap.lt_size h3
   ·exact it h4
   ·exact it h5
  rw [qA8 (Nat.ne_of_lt af)];exact (hf d hd).1
 done:=by
  intro X hP hw hK hc i Aa s σ H E I hf st hg;subst hP hw hK;obtain ⟨xs,hq,hx⟩:=hg;obtain ⟨ac,rv,p⟩:=I.seqB hq;have hl:=rv.length;obtain ⟨h1,h2,⟨a,c,h3⟩,h4,h5⟩:=st;rcases hx with hx | ⟨ys,x,m,hxx,hy⟩
  rotate_left
  ·obtain ⟨ad,r,p2⟩:=I.seqB m;have ag:=r.length;obtain ⟨u,hu,ru⟩:=rv.get hxx;exact qK7 (I.ok.hd hc) D h1 h2 h3 h4 h5 p p2 (x:=u) (by simpa using hu) (by simp;lia) fun h' eb=>⟨rfl,I.turnedL (t':=s.toks) (ch:=[z,TI,TO,f,g]) (fun d o hd q=>eb d o (fun z=>hd (by simp [z])) (fun z=>hd (by simp [z])) (fun z=>hd (by simp [z])) (fun z=>hd (by simp [z])) q) hf⟩
  exact qL2 (I.ok.hd hc) D h1 h2 h4 p (by simp;lia) fun h' eb=>⟨rfl,I.turnedL (t':=s.toks) (ch:=[z,TI,TO,f,g]) (fun d o hd q=>eb d o (fun z=>hd (by simp [z])) (fun z=>hd (by simp [z])) q) hf⟩
 self:=fun _ _ _ _ _ ⟨h1,_⟩ h=>wpAny_pyIter_zip h1 h
theorem qbX {a:List Expr} {k:Nat} {d:Pos} {Aa:List (Addr × Obj)} {σ:St} {R:It->Hp->Prop} {f:Shared} {H1:Hp} {b b':Bool} {l m:Addr} {xs ys:List V} (I1:Inv X Aa σ H1 f) (x:SqB b X.K H1 l xs) (n:SqB b' X.K H1 m ys) (q:R (Itz2 X.K b b' l m) H1) :
  wpAny (model X.prog X.w) X.A (call (.type "zip") [.ref l,.ref m]) (fun v s=>wpAny (model X.prog X.w) X.A (pyIter v) (PIE X Aa σ (.Tuple a k d) R) X.xe s) X.xe f:=by
 obtain ⟨u,rv,pl⟩:=I1.seqB x;obtain ⟨a0,a1,pm⟩:=I1.seqB n;refine qWJ pl pm fun h' z TI r t y D p j i g h e hk=>?_;refine wpAny_pyIter_zip p ?_;have I2:Inv X Aa σ H1 { f with heap:=h' }:=I1.kept (t':=f.toks) hk;exact ⟨z,[z,TI,r,t,y],_,_,H1,rfl,I2,qX9 D,⟨p,j,⟨_,_,i⟩,g,h⟩,fun c o=>I1.fpOk (e c o) (I1.hok.fresh (e c o)),q⟩
def qeT (K:PySem.W.Frag) (ta:TA):TI:=fun σ H R=>ta σ H fun vs H1=>∃ b b' l m,vs=[.ref l,.ref m]/\(∃ xs,SqB b K H1 l xs)/\(∃ xs,SqB b' K H1 m xs)/\R (Itz2 K b b' l m) H1
theorem qaM {d:List Expr} {k:Nat} {f:Pos} {a b:Expr} {j:TA} {p c:Pos} (n:Gl X "zip") (z:X.mg "zip" = none) (w:bootBuiltins "zip" = some (.type "zip")) (y:PA X [a,b] j) (x:starEach [a,b] X.env=[(false,eval a X.env),(false,eval b X.env)]:=by rfl) (g:starEach [b] X.env=[(false,eval b X.env)]:=by rfl) :
  PI X (.Tuple d k f) (.Call (.Name "zip" p) [a,b] [] c) (qeT X.K j):=by
 intro t s σ H R I h;refine Call_ (qMO I n z w (PyProof.Rows.callWith_type1 (thn (y c t s σ H _ I h) fun us s1 ⟨vs,H1,I1,r1,q1⟩=>?_) (by rw [x,g]) (by rw [g];rfl)))
 obtain ⟨bb,bc,l,m,e,⟨xs,r⟩,⟨ys,i⟩,q⟩:=q1;subst e;obtain ⟨u,v,rfl,o,ry⟩:=qOT r1;cases o;cases ry;exact qbX I1 r i q
end
theorem qY9 {K:PySem.W.Frag} {b b':Bool} {l m:Addr} {xs ys:List V} {g:TG} {f:TS} {D:Ends} {σ0:St} {H0:Hp} (h:xs.length=ys.length) (Pv:Nat->St->Hp->Prop) (j:Pv 0 σ0 H0) (u:∀ i σ H,i<=xs.length->Pv i σ H->SqB b K H l xs/\SqB b' K H m ys)
  (o:∀ i x y σ H T,xs[i]?=some x->ys[i]?=some y->Pv i σ H->H T=none->g (.ref T) σ (Af H T (.tup [x,y])) fun σ2 H2=>f { D with nx:=Pv (i+1),ct:=Pv (i+1),bk:=D.nx } σ2 H2)
  (s:∀ σ H,Pv xs.length σ H->D.nx σ H) :
  ∃ W:Nat->Nat->St->Hp->Prop,(∃ m,W 0 m σ0 H0)/\∀ i n σ H,W i n σ H->
   ((Itz2 K b b' l m).stop i H/\D.nx σ H)\/((Itz2 K b b' l m).go i H/\∃ N:St->Hp->Prop,(∀ σ' H',N σ' H'->∃ m',m'<n/\W (i+1) m' σ' H')/\∀ x H',(Itz2 K b b' l m).yld i H x H'->g x σ H' fun σ2 H2=>f { D with nx:=N,ct:=N,bk:=D.nx } σ2 H2):=by
 refine ⟨fun i n σ H=>n=xs.length - i/\i<=xs.length/\Pv i σ H,⟨xs.length,by simp,Nat.zero_le _,j⟩,?_⟩
 rintro i n σ H ⟨rfl,hi,q⟩;have a:=u i σ H hi q;by_cases c:i<xs.length
 ·refine .inr ⟨⟨xs,ys,xs[i],ys[i]'(by lia),a.1,a.2,by simp [c],List.getElem?_eq_getElem _⟩,Pv (i+1),fun σ' H' p=>⟨xs.length - (i+1),by lia,rfl,c,p⟩,fun v H' y=>?_⟩
  obtain ⟨T,x,y,t,k,r,d⟩:=y;subst k r;exact o i x y σ H T (d xs ys a.1 a.2).1 (d xs ys a.1 a.2).2 q t
 ·have e:i=xs.length:=by lia
  subst e;exact .inl ⟨⟨xs,a.1,.inl (Nat.le_refl _)⟩,s σ H q⟩
end L2
namespace L2
open PySem PySem.Spec PyProof.Rows
section
variable {X:Cx}
end
end L2
namespace L2
open PySem
section
variable {es:List Expr} {env:Env} {p:Pos}
end
end L2
namespace L2
open PySem
@[irreducible] def cst (i:Int) (p:Pos):Expr:=.Constant (.int i) 0 p
end L2
namespace L2
open PySem
end L2
namespace L2
open PySem
@[elab_as_elim] theorem us0 {α:Type} {P:List α->Prop} (us:List α) (a:us.length=0) (h:P []):P us:=by
 match us,a with
 | [],_=>exact h
@[elab_as_elim] theorem us1 {α:Type} {P:List α->Prop} (us:List α) (b:us.length=1) (h:∀ a,P [a]):P us:=by
 match us,b with
 | [a],_=>exact h a
@[elab_as_elim] theorem us2 {α:Type} {P:List α->Prop} (us:List α) (c:us.length=2) (h:∀ a b,P [a,b]):P us:=by
 match us,c with
 | [a,b],_=>exact h a b
@[elab_as_elim] theorem us3 {α:Type} {P:List α->Prop} (us:List α) (d:us.length=3) (h:∀ a b c,P [a,b,c]):P us:=by
 match us,d with
 | [a,b,c],_=>exact h a b c
@[elab_as_elim] theorem us4 {α:Type} {P:List α->Prop} (us:List α) (e:us.length=4) (h:∀ a b c d,P [a,b,c,d]):P us:=by
 match us,e with
 | [a,b,c,d],_=>exact h a b c d
end L2
namespace L2
open PySem PySem.Spec PyProof.Rows
section
variable {prog:Program} {w:World} {A:Around} {E:Value->Shared->Prop} {s:Shared}
end
section
variable {X:Cx}
theorem qbC {κ:Type}:∀ {Ae:List (κ × V)} {vs:List (κ × Value)},KV Ae vs->Ae.map (·.1)=vs.map (·.1):=by
 intro Ae vs r;unfold KV at r
 induction r with
 | nil=>rfl
 | cons h t ih=>rw [List.map_cons,List.map_cons,ih,h.1]
theorem qFK (f:X.A.units<cLine):OpR X (compareOp .NotEq) (fun x y H Q=>∃ p l xs,x=.ref p/\y=.ref l/\SqL X.K H p xs/\SqL X.K H l []/\Q (.bl (!xs.isEmpty)) H):=by
 intro z s σ H x y v u Q I m i h;obtain ⟨p,l,xs,rfl,rfl,g,t,q⟩:=h;cases m;cases i;obtain ⟨o,k,c,w⟩:=I.list g;obtain ⟨b,n,d,z2⟩:=I.list t;cases n;cases k with
 | nil=>exact PySem.SeqAt.RcNeAt.lists (e:=fun _=>true) c.isList d.isList rfl f (fun j h _=>absurd h (by simp)) _ _ _ _ ⟨.bl false,H,I,rfl,q⟩
 | cons a r=>exact PySem.SeqAt.RcNeAt.lists_lengths c.isList d.isList (by simp) f _ _ _ _ ⟨.bl true,H,I,rfl,q⟩
end
end L2
namespace L2
open PySem PySem.Spec PyProof.Rows
open PySem.AutoSeq1 in
section
variable {X:Cx}
end
end L2
namespace L2
open PySem PySem.Spec PyProof.Rows
section
variable {prog:Program} {w:World} {A:Around} {R:Result->Shared->Prop} {I:Addr} {fp wr:List Addr} {n:Nat} {P:Nat->Value->Prop} {St:Nat->Heap->Prop}
end
section
variable {prog:Program} {w:World} {A:Around} {E:Value->Shared->Prop} {s:Shared}
end
section
variable {X:Cx}
end
end L2
namespace L2
open PySem PySem.Spec PyProof.Rows
section
variable {prog:Program} {w:World} {A:Around} {E:Value->Shared->Prop} {s:Shared}
end
section
variable {prog:Program} {w:World} {A:Around} {R:Result->Shared->Prop} {I:Addr} {fp wr:List Addr} {n:Nat} {P:Nat->Value->Prop} {St:Nat->Heap->Prop}
end
section
variable {prog:Program} {w:World} {A:Around} {E:Value->Shared->Prop} {s:Shared}
end
section
variable {X:Cx}
end
end L2
namespace L2
open PySem PySem.Spec PyProof.Rows
section
variable {X:Cx}
end
theorem qSF {K:PySem.W.Frag} {a:Addr} {xs:List V} {g:TG} {d:TS} {D:Ends} {σ0:St} {H0:Hp} (Pv:Nat->St->Hp->Prop) (f:Pv 0 σ0 H0) (p:∀ i σ H,i<=xs.length->Pv i σ H->SqL K H a xs)
  (j:∀ i x σ H T,xs[i]?=some x->Pv i σ H->H T=none->g (.ref T) σ (Af H T (.tup [.int (i:Int),x])) fun σ2 H2=>d { D with nx:=Pv (i+1),ct:=Pv (i+1),bk:=D.nx } σ2 H2)
  (n:∀ σ H,Pv xs.length σ H->D.nx σ H) :
  ∃ W:Nat->Nat->St->Hp->Prop,(∃ m,W 0 m σ0 H0)/\∀ i m σ H,W i m σ H->
   ((Ite K a).stop i H/\D.nx σ H)\/((Ite K a).go i H/\∃ N:St->Hp->Prop,(∀ σ' H',N σ' H'->∃ m',m'<m/\W (i+1) m' σ' H')/\∀ x H',(Ite K a).yld i H x H'->g x σ H' fun σ2 H2=>d { D with nx:=N,ct:=N,bk:=D.nx } σ2 H2):=by
 refine ⟨fun i m σ H=>m=xs.length - i/\i<=xs.length/\Pv i σ H,⟨xs.length,by simp,Nat.zero_le _,f⟩,?_⟩
 rintro i m σ H ⟨rfl,hi,q⟩;have c:=p i σ H hi q;by_cases b:i<xs.length
 ·refine .inr ⟨⟨xs,xs[i],c,by simp [b]⟩,Pv (i+1),fun σ' H' k=>⟨xs.length - (i+1),by lia,rfl,b,k⟩,fun v H' y=>?_⟩
  obtain ⟨T,x,o,h,l,y⟩:=y;subst h l;exact j i x σ H T (y xs c) q o
 ·have e:i=xs.length:=by lia
  subst e;exact .inl ⟨⟨xs,c,Nat.le_refl _⟩,n σ H q⟩
end L2
namespace L2
open PySem
noncomputable def g5:Nat->Nat
 | 0=>0
 | n+1=>5 * g5 n+1
theorem qRS:∀ n:Nat,5 ^ n=4 * g5 n+1
 | 0=>rfl
 | n+1=>by
  rw [Nat.pow_succ,qRS n,g5]
  lia
theorem qVU (m:Nat):∀ n:Nat,g5 (m+n)=5 ^ n * g5 m+g5 n
 | 0=>by simp [g5]
 | n+1=>by
  rw [<- Nat.add_assoc,g5,qVU m n,g5,Nat.pow_succ,Nat.mul_add,<- Nat.mul_assoc,Nat.mul_comm 5 (5 ^ n)]
  lia
theorem qZG (n:Nat):g5 (n+n)=2 * (g5 n * (2 * g5 n+1)):=by
 rw [qVU,qRS,Nat.add_mul,Nat.mul_add (g5 n),Nat.mul_add 2];have a:4 * g5 n * g5 n=2 * (g5 n * (2 * g5 n)):=by
  rw [Nat.mul_left_comm (g5 n) 2,<- Nat.mul_assoc 2 2,Nat.mul_assoc 4]
 rw [a]
 lia
theorem qQS (k m:Nat) (h:m % 2=1):Nat.Coprime (2 ^ k) m:=by
 refine Nat.Coprime.pow_left k ?_;have:Nat.gcd 2 m=1:=by
  rw [Nat.gcd_rec,h]
  rfl
 exact this
theorem qZF:∀ (k n:Nat),2 ^ k ∣ g5 n->2 ^ k ∣ n
 | 0,n,_=>by simp
 | k+1,n,h=>by
  rcases Nat.mod_two_eq_zero_or_one n with e | e
  ·obtain ⟨m,rfl⟩:∃ m,n=m+m:=⟨n / 2,by lia⟩
   rw [qZG,Nat.pow_succ,Nat.mul_comm (2 ^ k)] at h;have h2:2 ^ k ∣ g5 m * (2 * g5 m+1):=Nat.dvd_of_mul_dvd_mul_left (by decide) h
   have h3:2 ^ k ∣ g5 m:=(qQS k (2 * g5 m+1) (by lia)).dvd_of_dvd_mul_right h2
   obtain ⟨c,hc⟩:=qZF k m h3;exact ⟨c,by rw [Nat.pow_succ,Nat.mul_comm (2 ^ k) 2,Nat.mul_assoc,<- hc];lia⟩
  ·obtain ⟨m,rfl⟩:∃ m,n=m+m+1:=⟨n / 2,by lia⟩
   exfalso
   rw [g5,qZG] at h;have h2:2 ∣ 5 * (2 * (g5 m * (2 * g5 m+1)))+1:=Nat.dvd_trans ⟨2 ^ k,by rw [Nat.pow_succ,Nat.mul_comm]⟩ h
   lia
def it5 (i n:Nat):Nat:=5 ^ n * i+g5 n
theorem qSC (i n:Nat):it5 i (n+1)=5 * it5 i n+1:=by
 unfold it5;rw [Nat.pow_succ,g5,Nat.mul_add,<- Nat.mul_assoc,Nat.mul_comm 5 (5 ^ n)]
 lia
theorem qbD {k i n d:Nat} (c:0<d) (a:d<2 ^ k) (h:it5 i n % 2 ^ k=it5 i (n+d) % 2 ^ k):False:=by
 have e:it5 i (n+d)=it5 i n+5 ^ n * (g5 d * (4 * i+1)):=by
  unfold it5;rw [Nat.add_comm n d,qVU d n,Nat.pow_add,qRS d,Nat.mul_add (g5 d),Nat.mul_one,Nat.mul_add (5 ^ n)];have:(4 * g5 d+1) * 5 ^ n * i=5 ^ n * i+5 ^ n * (g5 d * (4 * i)):=by
   rw [Nat.add_mul,Nat.one_mul,Nat.add_mul,Nat.add_comm];congr 1;rw [Nat.mul_comm 4,Nat.mul_assoc,Nat.mul_assoc,Nat.mul_left_comm (5 ^ n),Nat.mul_left_comm 4 (5 ^ n)]
  rw [this]
  lia
 have g:2 ^ k ∣ 5 ^ n * (g5 d * (4 * i+1)):=by
  rw [e] at h;have:=(Nat.dvd_iff_mod_eq_zero ..).mpr (Nat.sub_mod_eq_zero_of_mod_eq h.symm)
  rwa [Nat.add_sub_cancel_left] at this
 have b:2 ^ k ∣ g5 d * (4 * i+1):=(qQS k (5 ^ n) (by rw [qRS];lia)).dvd_of_dvd_mul_left g
 have f:2 ^ k ∣ g5 d:=(qQS k (4 * i+1) (by lia)).dvd_of_dvd_mul_right b
 have j:=Nat.le_of_dvd c (qZF k d f)
 lia
theorem qVM {k i j:Nat} (f:j<2 ^ k):∃ n,n<2 ^ k/\it5 i n % 2 ^ k=j:=by
 apply Classical.byContradiction;intro g;have p:((List.range (2 ^ k)).map fun n=>it5 i n % 2 ^ k).Nodup:=by
  rw [List.nodup_iff_pairwise_ne,List.pairwise_map];refine List.pairwise_lt_range.imp_of_mem fun {a b} t m l e=>?_;have h:=List.mem_range.mp m;refine qbD (k:=k) (i:=i) (n:=a) (d:=b - a) (by lia) (by lia) ?_
  rw [show a+(b - a)=b by lia]
  exact e
 have c:((List.range (2 ^ k)).map fun n=>it5 i n % 2 ^ k) ⊆ (List.range (2 ^ k)).filter fun x=>decide (x ≠ j):=fun x q=>by
  obtain ⟨n,o,e⟩:=List.mem_map.mp q;refine List.mem_filter.mpr ⟨List.mem_range.mpr (by rw [<- e];exact Nat.mod_lt _ (Nat.two_pow_pos k)),decide_eq_true fun z=>g ⟨n,List.mem_range.mp o,e.trans z⟩⟩
 have r:=List.Nodup.length_le_of_subset p c;have s:((List.range (2 ^ k)).filter fun x=>decide (x ≠ j)).length<(List.range (2 ^ k)).length:=by
  refine List.length_filter_lt_length_iff_exists.mpr ⟨j,List.mem_range.mpr f,by simp⟩
 rw [List.length_map] at r
 lia
end L2
namespace L2
open PySem PySem.Spec PyProof.Rows
structure TabG (byText:Bool × Bool) (t:SetTable) (n:Nat):Prop where
 pow:∃ k,3<=k/\t.mask+1=2 ^ k
 dum:t.dummies=#[]
 plain:t.plain=byText.2
 led:t.led=!byText.1
 size:t.place.size=n
 up:t.place.toList.Pairwise (·<·)
 le:∀ j ∈ t.place.toList,j<=t.mask
def qL7 (mask i pt:Nat):SetTable.Probe:={ j:=i,more:=SetTable.runEnd mask i - i,i:=i,perturb:=pt,dummy:=none }
theorem qP5 {mask i:Nat} (h:i<=mask):SetTable.runEnd mask i<=mask/\i<=SetTable.runEnd mask i/\SetTable.runEnd mask i<=i+9:=by
 unfold SetTable.runEnd
 split <;> lia
section
variable {byText:Bool × Bool} {t:SetTable} {n:Nat}
theorem TabG.slot (T:TabG byText t n) (j:Nat):(t.slot j=.empty/\j ∉ t.place.toList)\/(∃ i,t.slot j=.live i/\j ∈ t.place.toList):=by
 have h:SetTable.has t.dummies j=false:=by rw [T.dum];rfl
 obtain ⟨o,g,l⟩:=qEV (j:=j) T.up;unfold SetTable.slot;dsimp only;by_cases b:t.place[SetTable.below t.place j]?=some j
 ·rw [if_pos (by rw [b];simp)]
  exact .inr ⟨_,rfl,by rw [<- Array.mem_def];exact Array.mem_of_getElem? b⟩
 ·rw [if_neg (by simpa using b),h,if_neg (by simp)]
  refine .inl ⟨rfl,fun f=>b ?_⟩;obtain ⟨i,e,c⟩:=List.mem_iff_getElem.mp f;have a:i<t.place.size:=by simpa using e
  have k:t.place.getD i j=j:=by
   rw [Array.getD_eq_getD_getElem?,Array.getElem?_eq_getElem a];simpa using c
  have d:¬ i<SetTable.below t.place j:=fun z=>by have:=g i z;lia
  have m:SetTable.below t.place j=i:=by
   apply Nat.le_antisymm (Nat.le_of_not_lt d);apply Nat.le_of_not_lt;intro z;have:=l (SetTable.below t.place j) (Nat.le_refl _) (by lia)
   have:=qX8 j T.up _ _ z a
   lia
  rw [m,Array.getElem?_eq_getElem a];simpa using c
theorem TabG.run (T:TabG byText t n) (h:Int) (i a:Nat):∀ (more j f:Nat),(∃ j',SetTable.probe.go t (fun _=>h+1) h (more+1+f) { j:=j,more:=more,i:=i,perturb:=a,dummy:=none }=some (.empty j' none)/\j' ∉ t.place.toList/\j'<=j+more)\/
  (SetTable.probe.go t (fun _=>h+1) h (more+1+f) { j:=j,more:=more,i:=i,perturb:=a,dummy:=none }=SetTable.probe.go t (fun _=>h+1) h f (qL7 t.mask ((i * 5+1+a / 32) % (t.mask+1)) (a / 32))/\j ∈ t.place.toList):=by
 intro more
 induction more with
 | zero=>
  intro j f;rw [Nat.zero_add,Nat.add_comm 1 f];rcases T.slot j with ⟨e,m⟩ | ⟨k,e,m⟩
  ·left
   refine ⟨j,?_,m,Nat.le_refl _⟩;unfold SetTable.probe.go;dsimp only;rw [e]
  ·right
   refine ⟨?_,m⟩;rw [SetTable.probe.go];dsimp only;rw [e];dsimp only;rw [if_neg (by simp;lia)]
   rfl
 | succ more ih=>
  intro j f;rw [show more+1+1+f=more+1+f+1 by lia]
  rcases T.slot j with ⟨e,m⟩ | ⟨k,e,m⟩
  ·left
   refine ⟨j,?_,m,Nat.le_add_right _ _⟩;unfold SetTable.probe.go;dsimp only;rw [e]
  ·have d:SetTable.probe.go t (fun _=>h+1) h (more+1+f+1) { j:=j,more:=more+1,i:=i,perturb:=a,dummy:=none }=SetTable.probe.go t (fun _=>h+1) h (more+1+f) { j:=j+1,more:=more,i:=i,perturb:=a,dummy:=none }:=by
    rw [SetTable.probe.go];dsimp only;rw [e];dsimp only;rw [if_neg (by simp;lia)]
    unfold SetTable.advance;dsimp only;rw [if_pos (by lia)]
    rfl
   rw [d];rcases ih (j+1) f with ⟨j',b,c,g⟩ | ⟨b,_⟩
   ·exact .inl ⟨j',b,c,by lia⟩
   ·exact .inr ⟨b,m⟩
theorem TabG.leap (T:TabG byText t n) (h:Int) (i a F:Nat) (hi:i<=t.mask) (j:10<=F):(∃ j',SetTable.probe.go t (fun _=>h+1) h F (qL7 t.mask i a)=some (.empty j' none)/\j' ∉ t.place.toList/\j'<=t.mask)\/
  (∃ F',F<=F'+10/\SetTable.probe.go t (fun _=>h+1) h F (qL7 t.mask i a)=SetTable.probe.go t (fun _=>h+1) h F' (qL7 t.mask ((i * 5+1+a / 32) % (t.mask+1)) (a / 32))/\i ∈ t.place.toList):=by
 obtain ⟨f,g,k⟩:=qP5 hi;have e:F=(SetTable.runEnd t.mask i - i)+1+(F - 1 - (SetTable.runEnd t.mask i - i)):=by lia
 rcases T.run h i a (SetTable.runEnd t.mask i - i) i (F - 1 - (SetTable.runEnd t.mask i - i)) with ⟨j',b,c,d⟩ | ⟨b,c⟩
 ·refine .inl ⟨j',?_,c,by lia⟩
  rw [e];exact b
 ·refine .inr ⟨F - 1 - (SetTable.runEnd t.mask i - i),by lia,?_,c⟩
  conv=>lhs;rw [e]
  exact b
theorem TabG.go0 (T:TabG byText t n) (h:Int):∀ (m q i F:Nat),i<=t.mask->10 * m<=F->(∃ j',SetTable.probe.go t (fun _=>h+1) h F (qL7 t.mask (it5 i q % (t.mask+1)) 0)=some (.empty j' none)/\j' ∉ t.place.toList/\j'<=t.mask)\/(∀ c,c<m->it5 i (q+c) % (t.mask+1) ∈ t.place.toList)
 | 0,q,i,F,hi,hF=>.inr fun c hc=>absurd hc (by lia)
 | m+1,q,i,F,hi,hF=>by
  have lt:it5 i q % (t.mask+1)<t.mask+1:=Nat.mod_lt _ (by lia)
  rcases T.leap h (it5 i q % (t.mask+1)) 0 F (by lia) (by lia) with ok | ⟨F',hF',e,z⟩
  ·exact .inl ok
  ·have e2:((it5 i q % (t.mask+1)) * 5+1+0 / 32) % (t.mask+1)=it5 i (q+1) % (t.mask+1):=by
    rw [qSC,Nat.zero_div,Nat.add_zero,Nat.mul_comm,Nat.add_mod,Nat.mul_mod,Nat.mod_mod,<- Nat.mul_mod,<- Nat.add_mod]
   rw [e2,Nat.zero_div] at e;rw [e];rcases T.go0 h m (q+1) i F' hi (by lia) with ok | all
   ·exact .inl ok
   ·refine .inr fun c hc=>?_;cases c with
    | zero=>exact z
    | succ c=>
     have:=all c (by lia)
     rw [show q+(c+1)=q+1+c by lia]
     exact this
theorem TabG.goK (T:TabG byText t n) (hn:n<=t.mask) (h:Int):∀ (k i pt F:Nat),i<=t.mask->pt<32 ^ k->10 * (k+(t.mask+1))<=F->∃ j',SetTable.probe.go t (fun _=>h+1) h F (qL7 t.mask i pt)=some (.empty j' none)/\j' ∉ t.place.toList/\j'<=t.mask
 | 0,i,pt,F,hi,hp,hF=>by
  have e:pt=0:=by lia
  subst e;have e0:it5 i 0 % (t.mask+1)=i:=by
   unfold it5 g5;rw [Nat.pow_zero,Nat.one_mul,Nat.add_zero,Nat.mod_eq_of_lt (by lia)]
  have q:=T.go0 h (t.mask+1) 0 i F hi (by lia)
  rw [e0] at q;rcases q with ok | all
  ·exact ok
  ·exfalso
   obtain ⟨k,_,hk⟩:=T.pow;have sub:List.range (t.mask+1) ⊆ t.place.toList:=fun j hj=>by
    have hj':=List.mem_range.mp hj;rw [hk] at hj';obtain ⟨m,hm,e⟩:=qVM (i:=i) hj';rw [<- hk] at hm e;have:=all m hm;rw [Nat.zero_add,e] at this;exact this
   have:=List.Nodup.length_le_of_subset List.nodup_range sub;have hs:=T.size;simp at this
   lia
 | k+1,i,pt,F,hi,hp,hF=>by
  rcases T.leap h i pt F hi (by lia) with ok | ⟨F',hF',e,z⟩
  ·exact ok
  ·rw [e];have lt:(i * 5+1+pt / 32) % (t.mask+1)<t.mask+1:=Nat.mod_lt _ (by lia)
   refine T.goK hn h k _ _ F' (by lia) ?_ (by lia)
   rw [Nat.pow_succ] at hp
   lia
theorem qWR (h:Int):SetTable.bits h<32 ^ 13:=by
 unfold SetTable.bits;have a:0<=h % (2 ^ 64:Int):=Int.emod_nonneg _ (by decide)
 have b:h % (2 ^ 64:Int)<2 ^ 64:=Int.emod_lt_of_pos _ (by decide)
 have:((2:Int) ^ 64)=18446744073709551616:=by decide
 rw [this] at a b ⊢;have c:(32:Nat) ^ 13=36893488147419103232:=by decide
 lia
theorem TabG.free (T:TabG byText t n) (b:n<=t.mask) (h:Int):∃ j,t.freeSlot h=some (j,false)/\j ∉ t.place.toList/\j<=t.mask:=by
 have c:SetTable.bits h % (t.mask+1)<t.mask+1:=Nat.mod_lt _ (by lia)
 obtain ⟨j,e,z,l⟩:=T.goK b h 13 (SetTable.bits h % (t.mask+1)) (SetTable.bits h) (10 * SetTable.turns t.mask) (by lia) (qWR h) (by unfold SetTable.turns;lia)
 refine ⟨j,?_,z,l⟩;unfold SetTable.freeSlot SetTable.probe;have a:t.probeStart h=qL7 t.mask (SetTable.bits h % (t.mask+1)) (SetTable.bits h):=rfl;rw [a,e]
 rfl
theorem TabG.lay (T:TabG byText t n) (hn:n<t.mask) {es:Array (Int × Value)} (y:es.size=n) (h:Int) (x:Value) :
  ∃ p t',layNew t es h x=(SetTable.insertAt es p (h,x),t',false,false)/\TabG byText t' (n+1)/\t'.mask=t.mask/\p<=es.size:=by
 obtain ⟨j,e,z,l⟩:=T.free (by lia) h
 obtain ⟨m,u,b3⟩:=qEV (j:=j) T.up;have w:SetTable.has t.dummies j=false:=by rw [T.dum];rfl
 have g:(SetTable.insertAt t.place (SetTable.below t.place j) j).toList=t.place.toList.take (SetTable.below t.place j)++j::t.place.toList.drop (SetTable.below t.place j):=qBC _ _ _;have q:(SetTable.insertAt t.place (SetTable.below t.place j) j).size=n+1:=by
  rw [<- Array.length_toList,g,List.length_append,List.length_cons,List.length_take,List.length_drop,Array.length_toList,T.size];rw [T.size] at m
  lia
 have v:TabG byText { t with place:=SetTable.insertAt t.place (SetTable.below t.place j) j,dummies:=t.dummies } (n+1):=by
  refine ⟨T.pow,T.dum,T.plain,T.led,q,?_,?_⟩
  ·show (SetTable.insertAt t.place (SetTable.below t.place j) j).toList.Pairwise (·<·);rw [g];have o:∀ a ∈ t.place.toList.take (SetTable.below t.place j),a<j:=fun a f=>by
    obtain ⟨i,hi,c⟩:=List.mem_iff_getElem.mp f;rw [List.length_take,Array.length_toList] at hi;have d:i<t.place.size:=by lia
    have:=u i (by lia)
    rw [Array.getD_eq_getD_getElem?,Array.getElem?_eq_getElem d] at this;rw [List.getElem_take] at c;rw [<- c];simpa using this
   have hi:∀ a ∈ t.place.toList.drop (SetTable.below t.place j),j<a:=fun a f=>by
    have r:a ∈ t.place.toList:=List.mem_of_mem_drop f;obtain ⟨i,hi,c⟩:=List.mem_iff_getElem.mp f;rw [List.length_drop,Array.length_toList] at hi;have d:SetTable.below t.place j+i<t.place.size:=by lia
    have:=b3 _ (Nat.le_add_right _ i) d;rw [Array.getD_eq_getD_getElem?,Array.getElem?_eq_getElem d] at this;rw [List.getElem_drop] at c;have s:j<=a:=by
     rw [<- c];simpa using this
    rcases Nat.lt_or_eq_of_le s with h4 | h4
    ·exact h4
    ·exact absurd (h4 ▸ r) z
   refine List.pairwise_append.mpr ⟨T.up.sublist (List.take_sublist _ _),List.pairwise_cons.mpr ⟨hi,T.up.sublist (List.drop_sublist _ _)⟩,fun a f b hb=>?_⟩;rcases List.mem_cons.mp hb with e | hb
   ·rw [e];exact o a f
   ·exact Nat.lt_trans (o a f) (hi b hb)
  ·show ∀ i ∈ (SetTable.insertAt t.place (SetTable.below t.place j) j).toList,i<=t.mask;rw [g];intro i hi;rcases List.mem_append.mp hi with hi | hi
   ·exact T.le i (List.mem_of_mem_take hi)
   ·rcases List.mem_cons.mp hi with e | hi
    ·lia
    ·exact T.le i (List.mem_of_mem_drop hi)
 have fits:SetTable.fits { t with place:=SetTable.insertAt t.place (SetTable.below t.place j) j,dummies:=t.dummies } (n+1)=true:=by
  unfold SetTable.fits SetTable.fill;dsimp only;rw [q,T.dum];have:((#[]:Array Nat)).size=0:=rfl;simp only [this,beq_self_eq_true,Bool.true_and,decide_eq_true_eq]
  lia
 have k:(SetTable.insertAt es (SetTable.below t.place j) (h,x)).size=n+1:=by
  rw [<- Array.length_toList,qBC,List.length_append,List.length_cons,List.length_take,List.length_drop,Array.length_toList];rw [T.size] at m
  lia
 refine ⟨SetTable.below t.place j,{ t with place:=SetTable.insertAt t.place (SetTable.below t.place j) j,dummies:=t.dummies },?_,v,rfl,by rw [y,<- T.size];exact m⟩
 unfold layNew;rw [e];dsimp only;unfold SetTable.put;rw [w];dsimp only;rw [k];unfold SetTable.orStandIn;simp only [Bool.false_eq_true,if_false];rw [fits];simp
end
end L2
namespace L2
open PySem PySem.Spec PyProof.Rows
theorem qV1 {α:Type}:∀ {l m:List α},l.Nodup->m.Nodup->(∀ x,x ∈ l ↔ x ∈ m)->l.Perm m
 | [],[],_,_,_=>.refl _
 | [],y::m,_,_,h=>absurd ((h y).mpr List.mem_cons_self) (by simp)
 | x::l,m,hl,hm,h=>by
  obtain ⟨s,t,rfl⟩:=List.append_of_mem ((h x).mp List.mem_cons_self);have l1:=List.nodup_cons.mp hl;have m1:(x::(s++t)).Nodup:=(List.perm_middle.nodup_iff).mp hm;have m2:=List.nodup_cons.mp m1;refine ((qV1 l1.2 m2.2 fun y=>?_).cons x).trans List.perm_middle.symm;have key:=h y;rw [List.mem_cons,List.perm_middle.mem_iff,List.mem_cons] at key
  constructor
  ·intro hy;rcases key.mp (.inr hy) with e | e
   ·exact absurd (e ▸ hy) l1.1
   ·exact e
  ·intro hy;rcases key.mpr (.inr hy) with e | e
   ·exact absurd (e ▸ hy) m2.1
   ·exact e
theorem qJW:∀ (fuel k n:Nat),3<=k->n<2 ^ k * 2 ^ fuel->∃ k',3<=k'/\SetTable.sizeAbove.go n fuel (2 ^ k)=2 ^ k'/\n<2 ^ k'
 | 0,k,n,hk,h=>⟨k,hk,rfl,by simpa using h⟩
 | fuel+1,k,n,hk,h=>by
  rw [SetTable.sizeAbove.go];by_cases c:2 ^ k<=n
  ·rw [if_pos c,<- Nat.pow_succ];exact qJW fuel (k+1) n (by lia) (by rw [Nat.pow_succ,Nat.mul_assoc,<- Nat.pow_succ'];exact h)
  ·rw [if_neg c];exact ⟨k,hk,rfl,by lia⟩
theorem qOY {n:Nat} (h:n<=1000000):∃ k,3<=k/\SetTable.sizeAbove n=2 ^ k/\n<2 ^ k:=by
 unfold SetTable.sizeAbove;exact qJW 64 3 n (Nat.le_refl _) (Nat.lt_of_le_of_lt h (by decide))
section
variable {mask:Nat} {owner:Array (Option Nat)}
theorem qdR (i a F:Nat) (hi:i<=mask):(∃ j,SetTable.layClean.free mask owner (F+1) i a=some j/\owner.getD j (some 0)=none/\j<=mask)\/
  (SetTable.layClean.free mask owner (F+1) i a=SetTable.layClean.free mask owner F ((i * 5+1+a / 32) % (mask+1)) (a / 32)/\owner.getD i (some 0) ≠ none):=by
 obtain ⟨c,d,f⟩:=qP5 hi;cases e:(List.range (SetTable.runEnd mask i+1 - i)).find? fun k=>(owner.getD (i+k) (some 0)).isNone with
 | some k=>
  left
  have b:=List.find?_some e;have g:=List.mem_range.mp (List.mem_of_find?_eq_some e);refine ⟨i+k,?_,by simpa using b,by lia⟩
  rw [SetTable.layClean.free,e]
 | none=>
  right
  refine ⟨?_,?_⟩
  ·rw [SetTable.layClean.free,e]
   rfl
  ·have:=List.find?_eq_none.mp e 0 (List.mem_range.mpr (by lia))
   simpa using this
theorem qdS:∀ (m q i F:Nat),i<=mask->m<=F->(∃ j,SetTable.layClean.free mask owner F (it5 i q % (mask+1)) 0=some j/\owner.getD j (some 0)=none/\j<=mask)\/(∀ c,c<m->owner.getD (it5 i (q+c) % (mask+1)) (some 0) ≠ none)
 | 0,q,i,F,hi,hF=>.inr fun c hc=>absurd hc (by lia)
 | m+1,q,i,F,hi,hF=>by
  have lt:it5 i q % (mask+1)<mask+1:=Nat.mod_lt _ (by lia)
  obtain ⟨F',rfl⟩:∃ F',F=F'+1:=⟨F - 1,by lia⟩
  rcases qdR (mask:=mask) (owner:=owner) (it5 i q % (mask+1)) 0 F' (by lia) with ok | ⟨e,z⟩
  ·exact .inl ok
  ·have e2:((it5 i q % (mask+1)) * 5+1+0 / 32) % (mask+1)=it5 i (q+1) % (mask+1):=by
    rw [qSC,Nat.zero_div,Nat.add_zero,Nat.mul_comm,Nat.add_mod,Nat.mul_mod,Nat.mod_mod,<- Nat.mul_mod,<- Nat.add_mod]
   rw [e2,Nat.zero_div] at e;rw [e];rcases qdS m (q+1) i F' hi (by lia) with ok | all
   ·exact .inl ok
   ·refine .inr fun c hc=>?_;cases c with
    | zero=>exact z
    | succ c=>
     have:=all c (by lia)
     rw [show q+(c+1)=q+1+c by lia]
     exact this
theorem qdQ {p:Nat} (hp:mask+1=2 ^ p) {j0:Nat} (h0:j0<=mask) (hj0:owner.getD j0 (some 0)=none):∀ (k i pt F:Nat),i<=mask->pt<32 ^ k->k+(mask+1)<=F->∃ j,SetTable.layClean.free mask owner F i pt=some j/\owner.getD j (some 0)=none/\j<=mask
 | 0,i,pt,F,hi,hpt,hF=>by
  have e:pt=0:=by lia
  subst e;have e0:it5 i 0 % (mask+1)=i:=by
   unfold it5 g5;rw [Nat.pow_zero,Nat.one_mul,Nat.add_zero,Nat.mod_eq_of_lt (by lia)]
  have q:=qdS (mask:=mask) (owner:=owner) (mask+1) 0 i F hi (by lia)
  rw [e0] at q;rcases q with ok | all
  ·exact ok
  ·exfalso
   obtain ⟨m,hm,e⟩:=qVM (k:=p) (i:=i) (j:=j0) (by lia)
   rw [<- hp] at hm e;have:=all m hm;rw [Nat.zero_add,e] at this;exact this hj0
 | k+1,i,pt,F,hi,hpt,hF=>by
  obtain ⟨F',rfl⟩:∃ F',F=F'+1:=⟨F - 1,by lia⟩
  rcases qdR (mask:=mask) (owner:=owner) i pt F' hi with ok | ⟨e,z⟩
  ·exact ok
  ·rw [e];have lt:(i * 5+1+pt / 32) % (mask+1)<mask+1:=Nat.mod_lt _ (by lia)
   refine qdQ hp h0 hj0 k _ _ F' (by lia) ?_ (by lia)
   rw [Nat.pow_succ] at hpt
   lia
end
structure Own (N:Nat) (L:List Nat) (owner:Array (Option Nat)):Prop where
 size:owner.size=N
 nd:L.Nodup
 lt:∀ j ∈ L,j<N
 at_:∀ (m j:Nat),L[m]?=some j->owner[j]?=some (some m)
 no:∀ j,j<N->j ∉ L->owner[j]?=some none
theorem Own.put {N:Nat} {L:List Nat} {owner:Array (Option Nat)} (o:Own N L owner) {j:Nat} (d:j<N) (e:j ∉ L):Own N (L++[j]) (owner.setIfInBounds j (some L.length)):=by
 refine ⟨by simp [o.size],qGU o.nd e,fun i hi=>?_,fun m i h=>?_,fun i hi a=>?_⟩
 ·rcases List.mem_append.mp hi with hi | hi
  ·exact o.lt i hi
  ·rw [List.mem_singleton.mp hi];exact d
 ·by_cases c:m<L.length
  ·rw [List.getElem?_append_left c] at h;have b:j ≠ i:=fun z=>e (z ▸ List.mem_of_getElem? h);rw [Array.getElem?_setIfInBounds_ne b];exact o.at_ m i h
  ·rw [List.getElem?_append_right (by lia)] at h
   have f:m=L.length:=by
    have:=(List.getElem?_eq_some_iff.mp h).1;simp at this
    lia
   subst f;rw [Nat.sub_self] at h;cases h;rw [Array.getElem?_setIfInBounds_self_of_lt (by rw [o.size];exact d)]
 ·have b:j ≠ i:=fun z=>a (List.mem_append.mpr (.inr (by rw [z];exact List.mem_singleton.mpr rfl)))
  rw [Array.getElem?_setIfInBounds_ne b];exact o.no i hi fun z=>a (List.mem_append.mpr (.inl z))
theorem qRV {mask p:Nat} (hp:mask+1=2 ^ p):∀ (hs:List Int) (L:List Nat) (owner:Array (Option Nat)),Own (mask+1) L owner->L.length+hs.length<=mask->
  ∃ L' owner',hs.foldl (fun (acc:Option (Array (Option Nat) × Nat)) (h:Int)=>acc >>= fun x=>SetTable.layClean.free mask x.1 (SetTable.turns mask) (SetTable.bits h % (mask+1)) (SetTable.bits h) >>= fun j=>some (x.1.setIfInBounds j (some x.2),x.2+1)) (some (owner,L.length))=some (owner',L'.length)/\Own (mask+1) L' owner'/\L'.length=L.length+hs.length
 | [],L,owner,o,_=>⟨L,owner,rfl,o,by simp⟩
 | h::hs,L,owner,o,hl=>by
  rw [List.length_cons] at hl;obtain ⟨j0,hj0,hjn⟩:∃ j0,j0<mask+1/\j0 ∉ L:=by
   apply Classical.byContradiction;intro no;have sub:List.range (mask+1) ⊆ L:=fun j hj=>Classical.byContradiction fun z=>no ⟨j,List.mem_range.mp hj,z⟩;have:=List.Nodup.length_le_of_subset List.nodup_range sub;simp at this
   lia
  have g0:owner.getD j0 (some 0)=none:=by
   rw [Array.getD_eq_getD_getElem?,o.no j0 hj0 hjn]
   rfl
  have lt:SetTable.bits h % (mask+1)<mask+1:=Nat.mod_lt _ (by lia)
  obtain ⟨j,e,z,l⟩:=qdQ hp (by lia) g0 13 (SetTable.bits h % (mask+1)) (SetTable.bits h) (SetTable.turns mask) (by lia) (qWR h) (by unfold SetTable.turns;lia)
  have jn:j ∉ L:=fun hm=>by
   obtain ⟨m,hm⟩:=List.getElem?_of_mem hm;rw [Array.getD_eq_getD_getElem?,o.at_ m j hm] at z;cases z
  have st:=o.put (show j<mask+1 by lia) jn
  obtain ⟨L',owner',e1,o',e2⟩:=qRV hp hs (L++[j]) _ st (by rw [List.length_append,List.length_singleton];lia)
  refine ⟨L',owner',?_,o',by rw [e2,List.length_append,List.length_singleton,List.length_cons];lia⟩
  rw [List.foldl_cons];have e3:((some (owner,L.length):Option (Array (Option Nat) × Nat)) >>= fun x=>SetTable.layClean.free mask x.1 (SetTable.turns mask) (SetTable.bits h % (mask+1)) (SetTable.bits h) >>= fun j=>some (x.1.setIfInBounds j (some x.2),x.2+1))=some (owner.setIfInBounds j (some L.length),(L++[j]).length):=by
   show (SetTable.layClean.free mask owner (SetTable.turns mask) (SetTable.bits h % (mask+1)) (SetTable.bits h) >>= _)=_;rw [e,List.length_append,List.length_singleton]
   rfl
  rw [e3];exact e1
theorem qaT (N:Nat):Own N [] (Array.replicate N none):=⟨by simp,.nil,fun _ h=>(nomatch h),fun m j h=>by simp at h,fun j a _=>by simp [a]⟩
theorem qQV {mask p:Nat} (c:mask+1=2 ^ p) (a:Array Int) (d:a.size<=mask):∃ L owner,SetTable.layClean mask a=some owner/\Own (mask+1) L owner/\L.length=a.size:=by
 obtain ⟨L,owner,e,o,l⟩:=qRV c a.toList [] _ (qaT (mask+1)) (by simpa using d)
 refine ⟨L,owner,?_,o,by simpa using l⟩
 unfold SetTable.layClean;rw [<- Array.foldl_toList];have:(a.toList.foldl (fun (b:Option (Array (Option Nat) × Nat)) (h:Int)=>do
   let (owner,k) <- b
   let j <- SetTable.layClean.free mask owner (SetTable.turns mask) (SetTable.bits h % (mask+1)) (SetTable.bits h)
   pure (owner.setIfInBounds j (some k),k+1)) (some (Array.replicate (mask+1) none,0)))=some (owner,L.length):=e
 rw [this]
 rfl
theorem qP7 {α:Type}:∀ l:List α,(List.range l.length).filterMap (fun i=>l[i]?)=l
 | []=>rfl
 | a::l=>by
  rw [List.length_cons,List.range_succ_eq_map,List.filterMap_cons];show a::((List.range l.length).map Nat.succ).filterMap (fun i=>(a::l)[i]?)=a::l;rw [List.filterMap_map];congr 1;exact qP7 l
theorem qNI {b:Bool × Bool} {t:SetTable} {n:Nat} (T:TabG b t n) {es:Array (Int × Value)} (u:es.size=n) {wanted:Nat} (hw:wanted<=1000000) (hn:n<wanted) :
  ∃ es' t',relayAll t es wanted=(es',t',false)/\es'.toList.Perm es.toList/\TabG b t' n/\wanted<=t'.mask:=by
 obtain ⟨k,k3,hk,a2⟩:=qOY hw;have s:SetTable.sizeAbove wanted - 1+1=2 ^ k:=by rw [hk];have:=Nat.two_pow_pos k;lia
 have h8:8<=2 ^ k:=by
  have:=Nat.pow_le_pow_right (n:=2) (by decide) k3
  exact this
 obtain ⟨L,f,e,o,l⟩:=qQV s (es.map (·.1)) (by rw [Array.size_map,u,hk];lia)
 rw [Array.size_map,u] at l;generalize hM:SetTable.sizeAbove wanted - 1=M at *;have fa:∀ j m,(f.getD j none).map (fun x=>(j,x))=some (j,m) ↔ L[m]?=some j:=by
  intro j m;rw [Array.getD_eq_getD_getElem?];by_cases q:j<M+1
  ·by_cases p:j ∈ L
   ·obtain ⟨m',g⟩:=List.getElem?_of_mem p;rw [o.at_ m' j g]
    constructor
    ·intro z;have:m'=m:=by simpa using z
     rw [<- this];exact g
    ·intro z;have:some (some m')=some (some m):=(o.at_ m' j g).symm.trans (o.at_ m j z);cases this
     rfl
   ·rw [o.no j q p]
    constructor
    ·intro z;simp at z
    ·intro z;exact absurd (List.mem_of_getElem? z) p
  ·rw [Array.getElem?_eq_none (by rw [o.size];lia)]
   constructor
   ·intro z;simp at z
   ·intro z;exact absurd (o.lt j (List.mem_of_getElem? z)) q
 have r:∀ j x,x ∈ ((f.getD j none).map fun y=>(j,y))->x.1=j/\L[x.2]?=some j:=by
  intro j x h;have v:(f.getD j none).map (fun y=>(j,y))=some x:=h;obtain ⟨y,hy,e⟩:=Option.map_eq_some_iff.mp v;subst e;exact ⟨rfl,(fa j y).mp v⟩
 generalize hlive:(List.range (M+1)).filterMap (fun j=>(f.getD j none).map (fun x=>(j,x)))=d;have p1:d.Pairwise fun a c=>a.1<c.1:=by
  rw [<- hlive,List.pairwise_filterMap];refine List.pairwise_lt_range.imp fun {a c} w x h y hy=>?_;rw [(r a x h).1,(r c y hy).1];exact w
 have p2:d.Pairwise fun a c=>a.2 ≠ c.2:=by
  rw [<- hlive,List.pairwise_filterMap];refine List.pairwise_lt_range.imp fun {a c} w x h y hy z=>?_;have h1:=(r a x h).2;have h2:=(r c y hy).2;rw [z,h2] at h1;cases h1
  lia
 have a0:∀ m,m ∈ d.map (·.2) ↔ m ∈ List.range n:=by
  intro m;rw [List.mem_map,List.mem_range]
  constructor
  ·rintro ⟨x,h,rfl⟩;rw [<- hlive] at h;obtain ⟨j,_,q⟩:=List.mem_filterMap.mp h;have:=(List.getElem?_eq_some_iff.mp (r j x q).2).1
   lia
  ·intro hm;have g:m<L.length:=by lia
   have hL:=List.getElem?_eq_getElem g;refine ⟨(L[m],m),?_,rfl⟩;rw [<- hlive];exact List.mem_filterMap.mpr ⟨L[m],List.mem_range.mpr (o.lt _ (List.getElem_mem g)),(fa L[m] m).mpr hL⟩
 have pm:(d.map (·.2)).Perm (List.range n):=qV1 (by rw [List.nodup_iff_pairwise_ne,List.pairwise_map];exact p2) List.nodup_range a0
 have ll:d.length=n:=by have:=pm.length_eq;simpa using this
 have es':((d.map (·.2)).toArray.filterMap (fun i=>es[i]?)).toList.Perm es.toList:=by
  rw [Array.toList_filterMap];have:=pm.filterMap (fun i=>es[i]?);have e2:(List.range n).filterMap (fun i=>es[i]?)=es.toList:=by
   have:=qP7 es.toList;rw [Array.length_toList,u] at this;simpa using this
  rw [e2] at this;simpa using this
 have a1:((d.map (·.2)).toArray.filterMap (fun i=>es[i]?)).size=n:=by
  rw [<- Array.length_toList,es'.length_eq,Array.length_toList,u]
 refine ⟨(d.map (·.2)).toArray.filterMap (fun i=>es[i]?),{ mask:=M,place:=(d.map (·.1)).toArray,dummies:=#[],finger:=t.finger,led:=t.led,moves:=t.movedTo M,plain:=t.plain },?_,es',⟨⟨k,k3,s⟩,rfl,T.plain,T.led,by simp [ll],?_,?_⟩,?_⟩
 ·have er:t.relaid (es.map (·.1)) wanted=some ({ mask:=M,place:=(d.map (·.1)).toArray,dummies:=#[],finger:=t.finger,led:=t.led,moves:=t.movedTo M,plain:=t.plain },(d.map (·.2)).toArray):=by
   unfold SetTable.relaid SetTable.laid;rw [hM,e];show some _=some _;rw [<- hlive]
  unfold relayAll;rw [er];dsimp only;have c1:coversAll (d.map (·.2)).toArray es.size=true:=by
   unfold coversAll;rw [u];exact List.isPerm_iff.mpr pm
  have c2:SetTable.fits { mask:=M,place:=(d.map (·.1)).toArray,dummies:=#[],finger:=t.finger,led:=t.led,moves:=t.movedTo M,plain:=t.plain } ((d.map (·.2)).toArray.filterMap (fun i=>es[i]?)).size=true:=by
   unfold SetTable.fits SetTable.fill;rw [a1];simp [ll]
   lia
  rw [c1,c2]
  rfl
 ·show (d.map (·.1)).toArray.toList.Pairwise (·<·);rw [List.toList_toArray,List.pairwise_map];exact p1
 ·show ∀ j ∈ (d.map (·.1)).toArray.toList,j<=M;intro j q;rw [List.toList_toArray] at q;obtain ⟨x,h,rfl⟩:=List.mem_map.mp q;rw [<- hlive] at h;obtain ⟨i,hi,h⟩:=List.mem_filterMap.mp h;rw [(r i x h).1];have:=List.mem_range.mp hi
  lia
 ·show wanted<=M
  lia
end L2
namespace L2
open PySem PySem.Spec PyProof.Rows
def SetG (w:World) (a:Addr) (zs:List Int) (h:Heap):Prop:=
 ∃ (es:Array (Int × Value)) (ep:Nat) (t:SetTable) (ks:List Int),h.get? a=some { cls:=.type "set",data:=.set es ep t }/\TabG (byT w,true) t es.size/\Ents ks es.toList/\ks.Perm zs/\zs.Nodup/\zs.length<4095/\es.size * 5<t.mask * 3
theorem SetG.at {w:World} {a:Addr} {zs:List Int} {h h':Heap} (x:SetG w a zs h) (k:∀ o,h.get? a=some o->h'.get? a=some o):SetG w a zs h':=
 let ⟨es,ep,t,ks,h1,r⟩:=x;⟨es,ep,t,ks,k _ h1,r⟩
theorem TabG.fits {b:Bool × Bool} {t:SetTable} {n:Nat} (T:TabG b t n) (a:n<=t.mask):t.fits n=true:=by
 unfold SetTable.fits SetTable.fill;rw [T.size,T.dum];have:((#[]:Array Nat)).size=0:=rfl;simp only [this,beq_self_eq_true,Bool.true_and,decide_eq_true_eq]
 lia
theorem TabG.mask7 {b:Bool × Bool} {t:SetTable} {n:Nat} (T:TabG b t n):7<=t.mask:=by
 obtain ⟨k,a,c⟩:=T.pow;have:=Nat.pow_le_pow_right (n:=2) (by decide) a
 lia
theorem insertAt_perm {es:Array (Int × Value)} {p:Nat} {x:Int × Value}:(SetTable.insertAt es p x).toList.Perm (es.toList++[x]):=by
 rw [qBC];have a:es.toList++[x]=es.toList.take p++(es.toList.drop p++[x]):=by
  rw [<- List.append_assoc,List.take_append_drop]
 rw [a];exact List.Perm.append_left _ (List.perm_append_singleton _ _).symm
section
variable {prog:Program} {w:World} {A:Around} {E:Value->Shared->Prop} {s:Shared}
theorem qMI {a:Addr} {es es':Array (Int × Value)} {ep:Nat} {t t':SetTable} {h:Heap} (b:h.get? a=some { cls:=.type "set",data:=.set es ep t }) :
  (h.update a (Obj.putSet es' t')).get? a=some { cls:=.type "set",data:=.set es' (ep+1) t' }:=by
 have:=Heap.get?_update_self (Obj.putSet es' t') b (by rw [putSet_of _ _ (ep:=ep) (es:=es) (t:=t) rfl];rfl)
 rw [putSet_of _ _ (ep:=ep) (es:=es) (t:=t) rfl] at this;exact this
theorem qXF {a:Addr} {zs:List Int} {k:Int} {f:Tok} {Q:Bool->Shared->Prop} (hS:SetG w a zs s.heap) (a3:zs.length<4094)
  (h:∀ h',Heap.SameBut a s.heap h'->SetG w a (addI zs k) h'->∀ b,Q b { s with heap:=h' }):wpAny (model prog w) A (setAddHashed a (.int k f) (hashInt k)) Q E s:=by
 obtain ⟨d,ep,t,ks,v,T,y,u,a1,a4,a0⟩:=id hS;have i:d.size=zs.length:=SetI.size (a:=a) (h:=s.heap) y u;have o:ElemsOf (intKind prog w) d.toList:=y.elems;have h7:=T.mask7;have hb:d.size<scanBound:=by rw [i];unfold scanBound;lia
 have hf:t.fits d.size=true:=T.fits (by lia)
 unfold setAddHashed setAddHashedIn;refine wpAny_holding (wpAny_bind (wpAny_setState_of v rfl hf ?_));dsimp only;rw [byScan_of (knd:=intKind prog w) (x:=.int k f) rfl hb o];simp only [↓reduceIte];unfold setAddByScan;refine wpAny_bind ?_;refine wpAny_bind (wpAny_rule ?_);refine wpAny_bind (wpAny_setScan_of (knd:=intKind prog w) (k:=k) (intKind_is _ _ _ _) v rfl hf o ?_);have g:=Ents.find (prog:=prog) (w:=w) (k:=k) y;cases hr:List.findIdx? (fun e=>(intKind prog w).is k e.2) d.toList with
 | some j=>
  dsimp only;rw [hr] at g;have l:k ∈ zs:=u.mem_iff.mp (g.mp rfl);refine wpAny_pure (wpAny_pure ?_);have e:s={ s with heap:=s.heap }:=by cases s;rfl
  rw [e];refine h s.heap (Heap.SameBut.refl a s.heap) ?_ _;unfold addI;rw [if_pos l];exact hS
 | none=>
  dsimp only;rw [hr] at g;have l:¬ k ∈ zs:=fun z=>by have:=g.mpr (u.mem_iff.mpr z);cases this
  obtain ⟨p,t',e1,n,tm,a5⟩:=T.lay (by lia) rfl (hashInt k) (.int k f)
  rw [e1];dsimp only;refine wpAny_bind (wpAny_pure ?_);rw [show t'.plain=true from n.plain];simp only [↓reduceIte];rw [hashByValue_scannable 8 (x:=.int k f) rfl];refine wpAny_bind (wpAny_pure ?_);have c:(SetTable.insertAt d p (hashInt k,Value.int k f)).size=d.size+1:=by
   rw [<- Array.length_toList,insertAt_perm.length_eq,List.length_append,Array.length_toList]
   rfl
  rw [show plainKind (Value.int k f)=true from rfl];simp only [↓reduceIte];show wpAny _ _ (storeSet a (SetTable.insertAt d p (hashInt k,.int k f)) t' >>= _) _ _ _;refine wpAny_bind (wpAny_storeSet_of v rfl ?_ (by rw [c,i,sizeLine_eq];lia))
  have m:∀ (es2:Array (Int × Value)) (ep2:Nat) (t2:SetTable) (h2:Heap),h2.get? a=some { cls:=.type "set",data:=.set es2 ep2 t2 }->es2.toList.Perm (SetTable.insertAt d p (hashInt k,Value.int k f)).toList->TabG (byT w,true) t2 (d.size+1)->(d.size+1) * 5<t2.mask * 3->SetG w a (addI zs k) h2:=by
   intro es2 ep2 t2 h2 g2 pm T2 q;obtain ⟨a2,h4,h5⟩:=Ents.perm (ks:=ks++[k]) (Paired.snoc y ⟨f,rfl⟩) (pm.trans insertAt_perm);have r:es2.size=d.size+1:=by rw [<- c,<- Array.length_toList,pm.length_eq,Array.length_toList]
   refine ⟨es2,ep2,t2,a2,g2,by rw [r];exact T2,h4,?_,?_,?_,by rw [r];exact q⟩
   ·unfold addI;rw [if_neg l];exact h5.trans (u.append_right _)
   ·unfold addI;rw [if_neg l];exact qGU a1 l
   ·unfold addI;rw [if_neg l,List.length_append,List.length_singleton]
    lia
  have hg:=qMI (es':=SetTable.insertAt d p (hashInt k,.int k f)) (t':=t') v;have fill:t'.fill=d.size+1:=by
   unfold SetTable.fill;rw [n.size,n.dum]
   rfl
  cases tf:t'.tooFull with
  | false=>
   simp only [Bool.and_false,Bool.false_eq_true,↓reduceIte];refine wpAny_pure (wpAny_pure ?_);refine h _ (Heap.SameBut.update s.heap a _) (m _ _ _ _ hg (.refl _) n ?_) _;unfold SetTable.tooFull at tf;rw [fill] at tf;have:=of_decide_eq_false tf
   lia
  | true=>
   simp only [Bool.not_false,Bool.and_self,↓reduceIte];rw [c];have gr:SetTable.grown (d.size+1)=(d.size+1) * 4:=by
    unfold SetTable.grown;rw [if_neg (by lia)]
   obtain ⟨es2,t2,e2,p2,T2,m2⟩:=qNI n c (wanted:=SetTable.grown (d.size+1)) (by rw [gr];lia) (by rw [gr];lia)
   rw [gr] at m2;rw [e2];dsimp only;refine wpAny_bind (wpAny_pure ?_);refine wpAny_bind (wpAny_storeSet_of hg rfl ?_ (by rw [<- Array.length_toList,p2.length_eq,Array.length_toList,c,i,sizeLine_eq];lia))
   refine wpAny_pure (wpAny_pure ?_);exact h _ ((Heap.SameBut.update s.heap a _).trans (Heap.SameBut.update _ a _)) (m _ _ _ _ (qMI hg) p2 T2 (by lia)) _
end
section
variable {prog:Program} {w:World} {A:Around} {R:Result->Shared->Prop} {I:Addr} {fp wr:List Addr} {G:Array GenState->Array GenState->Prop} {n:Nat} {P:Nat->Value->Prop} {St:Nat->Shared->Prop}
theorem qP3 (W:WalksS prog w A.in1 I fp wr G n P St) (S:Addr) (m:S ∉ fp) (ns:List Int) (a3:ns.length=n) (h4:n<=4000) (y:∀ i v,P i v->∃ t,v=.int (ns.getD i 0) t) :
  ∀ (k i:Nat) (s:Shared),n - i=k->i<=n->St i s->SetG w S (dedI (ns.take i)) s.heap->
   (∀ s',Moved (S::wr) G s s'->SetG w S (dedI ns) s'.heap->R (.ok (.ret .none)) s')->
   codeAny (model prog w) A (.builtin "set.update.loop" ⟨[.ref S,.ref I],[]⟩) R s:=by
 have r:S ∉ wr:=fun h=>m (W.sub _ h);have a:∀ b ∈ wr,b ∈ S::wr:=fun b l=>List.mem_cons_of_mem _ l;intro k
 induction k with
 | zero=>
  intro i s hk hi d hS hR;have a1:i=n:=by lia
  subst a1;refine codeAny_builtin F.entry_set_update_loop ?_;rw [Around.under_plainId F.plain_set_update_loop _];show wpAny _ A.in1 (pyNext (.ref I) >>= _) _ _ s;refine wpAny_bind (W.done s _ _ d fun s' x=>?_);show wpAny _ A.in1 (ret Value.none) _ _ s';rw [List.take_of_length_le (by lia)] at hS
  exact wpAny_pure (hR s' (x.mono a) (hS.at fun o e=>x.heap S _ r e))
 | succ k ih=>
  intro i s hk hi d hS hR;have p:i<n:=by lia
  refine codeAny_builtin F.entry_set_update_loop ?_;rw [Around.under_plainId F.plain_set_update_loop _];show wpAny _ A.in1 (pyNext (.ref I) >>= _) _ _ s;refine wpAny_bind (W.item i s _ _ p d fun v s' hP g x=>?_);obtain ⟨t,rfl⟩:=y i v hP;have a2:SetG w S (dedI (ns.take i)) s'.heap:=hS.at fun o e=>x.heap S _ r e;show wpAny _ A.in1 (holding [Value.int (ns.getD i 0) t] (setAdd S (.int (ns.getD i 0) t)) >>= _) _ _ s';refine wpAny_bind (wpAny_holding ?_);unfold setAdd;refine wpAny_holding ?_;refine wpAny_bind ((intKind prog w).pyHash (k:=ns.getD i 0) (intKind_is _ _ _ _) ?_);have c:(dedI (ns.take i)).length<4094:=by
   have:=qCK (ns.take i) [];rw [List.length_take] at this;unfold dedI;simp at this
   lia
  refine qXF (s:={ s' with toks:=s'.toks+1 }) a2 c fun h' q f b=>?_;have e2:addI (dedI (ns.take i)) (ns.getD i 0)=dedI (ns.take (i+1)):=by
   have u:i<ns.length:=by lia
   rw [List.take_add_one,List.getElem?_eq_getElem u,Option.toList_some];unfold dedI;rw [List.foldl_append,List.foldl_cons,List.foldl_nil,List.getD_eq_getElem?_getD,List.getElem?_eq_getElem u,Option.getD_some]
  rw [e2] at f;refine wpAny_pure ⟨plainId_quiet F.plain_set_update_loop _,ih (i+1) _ (by lia) p (W.frame _ s' _ _ g (Nat.le_succ _) fun b l o e=>?_) f fun a0 j z=>?_⟩
  ·rw [q.2 b (fun h:b=S=>m (by rw [<- h];exact l))];exact e
  ·refine hR a0 (Moved.trans W.gtrans ((x.mono a).then_heap (Nat.le_succ _) fun b o l e=>?_) j) z;rw [q.2 b (fun h:b=S=>l (by rw [h];exact List.mem_cons_self))];exact e
end
section
variable {prog:Program} {w:World} {A:Around} {E:Value->Shared->Prop} {s:Shared}
theorem SetG.fresh {a:Addr} {h:Heap} (e:h.get? a=some (freshSet w)):SetG w a [] h:=
 ⟨#[],0,_,[],e,⟨⟨3,Nat.le_refl _,rfl⟩,rfl,rfl,rfl,rfl,.nil,fun _ z=>nomatch z⟩,.nil,.refl _,.nil,by decide,by show 0 * 5<7 * 3;decide⟩
theorem qTM {l:Addr} {Ad:Array Value} {ns:List Int} {Q:Value->Shared->Prop} (hh:A.handled=none) (hl:s.heap.IsList l Ad) (hi:IntsAre Ad.toList ns) (h4:Ad.size<=4000)
  (h:∀ (h':Heap) (tk:Nat),SetG w s.heap.objs.size (dedI ns) h'->(∀ b o,s.heap.get? b=some o->h'.get? b=some o)->Q (.ref s.heap.objs.size) { s with heap:=h',toks:=tk }) :
  wpAny (model prog w) A (call (.type "set") [.ref l]) Q E s:=by
 have j:ns.length=Ad.size:=by have:=IntsAre.length hi;simpa using this.symm
 obtain ⟨c,tl,aa⟩:=F.called_set.mro;have a4:=F.called_set.made;have ad:=F.called_set.sub;refine wpAny_call (codeAny_of_tree ?_);show wpAny _ _ (callAny (.type "set") _) _ _ _;refine wpAny_pure ⟨Code.quiet_builtin _ (by decide +kernel),codeAny_builtin F.entry_type_call ?_⟩
 rw [Around.under_plain (weight_type_call_type "set" [.ref l] []) rfl];have h1:=F.called_set.notType;have h2:=F.called_set.canCreate;have ag:=F.typeCall_set_1 (.ref l)
 repeat (any_goals (first | assumption | wp_step))
 refine codeAny_mono (qL0 (.ref l) (E:=E) (Q₁:=fun n s₁=>n=.ref s.heap.objs.size/\s₁={ s with heap:=s.heap.push (freshSet w) }) ⟨rfl,rfl⟩) fun r s₁ k=>?_;cases r with
 | error e=>exact k
 | ok fl=>
  cases fl with
  | ret n=>
   obtain ⟨rfl,rfl⟩:=k;have hS:(s.heap.push (freshSet w)).get? s.heap.objs.size=some (freshSet w):=Heap.get?_push_size _ rfl;have hT:Shared.TypeIs { s with heap:=s.heap.push (freshSet w) } (.ref s.heap.objs.size) "set":=⟨_,hS,rfl⟩;have ah:=F.called_set.init.lookup;have af:=F.called_set.init.bind (.ref s.heap.objs.size)
   repeat (any_goals (first | assumption | wp_step))
   refine codeAny_mono (codeAny_call_builtin (R:=wants (fun r s₂=>r=.none/\∃ h' tk,s₂={ s with heap:=h',toks:=tk }/\SetG w s.heap.objs.size (dedI ns) h'/\
     (∀ b o,s.heap.get? b=some o->h'.get? b=some o)) E) F.called_set.init.plain F.entry_set_init (check_set_init_1 hT ?_)) fun r₂ s₂ a=>?_
   ·obtain ⟨ol,x,m,nl,z⟩:=hl;obtain ⟨ae,g,a9,d⟩:=ol;simp only at m z;subst m;subst z;have q:(s.heap.push (freshSet w)).get? l=some { cls:=.type "list",dict:=g,data:=.seq Ad nl,slots:=d }:=Heap.get?_push_of_some _ x;have ac:=F.sub_list_set;have ab:=F.sub_list_frozenset;have ai:(Value.type "list" == Value.type "dict")=false:=by decide
    have p:(s.heap.push (freshSet w)).IsList l Ad:=⟨_,q,rfl,nl,rfl⟩;unfold Builtin.«set.__init__» noKeywords Builtin.Frozenset.updateFrom;generalize hPI:pyIter=PI
    wp_walk
    subst hPI;refine wpAny_pyIter_list p ?_;refine wpAny_bind (wpAny_runValue ?_);have y:l<s.heap.objs.size:=Heap.lt_size x;have a2:A.in1.in1.in1.handled=none:=by simp [hh]
    have u:l ≠ (s.heap.push (freshSet w)).objs.size:=by
     rw [Heap.size_push];exact Nat.ne_of_lt (Nat.lt_succ_of_lt y)
    have a3:s.heap.objs.size ∉ [(s.heap.push (freshSet w)).objs.size,l]:=by
     rw [Heap.size_push];simp only [List.mem_cons,List.mem_singleton,List.not_mem_nil,or_false,not_or];exact ⟨Nat.ne_of_lt (Nat.lt_succ_self _),Nat.ne_of_gt y⟩
    have a0:∀ (i:Nat) (v:Value),Ad[i]?=some v->∃ t,v=.int (ns.getD i 0) t:=fun i v hv=>
     PyProof.Rows.IntsAre.int_at hi i v (by rw [Array.getElem?_toList];exact hv)
    refine qP3 ((Walks.list a2 _ l u Ad).toS) s.heap.objs.size a3 ns j h4 a0 (Ad.size - 0) 0 _ (by lia) (Nat.zero_le _)
     ⟨⟨_,Heap.get?_push_size _ rfl,rfl,rfl⟩,(p.push _)⟩ ?hS0 ?hR
    case hS0=>exact SetG.fresh (Heap.get?_push_of_some _ hS)
    case hR=>
     intro s' hm f;obtain ⟨h',g',d',a6,a7⟩:=s';have eg:g'=s.gens:=hm.gens;have ed:d'=s.drawn:=hm.drawn;have eo:a7=s.os:=hm.os;subst eg;subst ed;subst eo;show wpAny _ _ _ _ _ _;refine wpAny_pure ?_;show wpAny _ _ (ret Value.none) _ _ _;refine wpAny_pure ⟨rfl,h',a6,rfl,f,fun b o e=>?_⟩;have hb:=Heap.lt_size e;have a8:b ≠ s.heap.objs.size:=Nat.ne_of_lt hb;have a1:b ≠ (s.heap.push (freshSet w)).objs.size:=by
      rw [Heap.size_push];exact Nat.ne_of_lt (Nat.lt_succ_of_lt hb)
     exact hm.heap b o (by simp only [List.mem_cons,List.mem_singleton,List.not_mem_nil,or_false,not_or];exact ⟨a8,a1⟩) (Heap.get?_push_of_some _ (Heap.get?_push_of_some _ e))
   ·cases r₂ with
    | error e=>exact a
    | ok fl₂=>
     cases fl₂ with
     | ret r=>
      obtain ⟨rfl,h',tk,rfl,f,a5⟩:=a
      repeat (any_goals (first | assumption | wp_step))
      exact h _ _ f a5
     | next=>exact a
     | brk=>exact a
     | cont=>exact a
  | next=>exact k
  | brk=>exact k
  | cont=>exact k
end
section
variable {prog:Program} {w:World} {A:Around} {E:Value->Shared->Prop} {s:Shared} {a I:Addr} {es:Array (Int × Value)} {ep:Nat} {t:SetTable} {i:Nat}
end
section
variable {X:Cx}
def SetM (w:World) (a:Addr) (zs:List Int):HO:=.ext (SetG w a zs)
theorem qWL (m:X.calm=true):qD1 X (.type "set") (fun xs H Q=>∃ p ns,xs=[.ref p]/\SqL X.K H p (ns.map V.int)/\ns.length<=4000/\∀ a,H a=none->Q (.ref a) (Af H a (SetM X.w a (dedI ns)))):=by
 intro o s σ H xs us Q I r h;obtain ⟨p,ns,rfl,i,v,q⟩:=h;obtain ⟨u,rfl,f⟩:=qEJ r;cases f;obtain ⟨g,d,j,hz⟩:=I.list i;have b:=d.length;rw [List.length_map] at b;refine qTM (ns:=ns) (I.ok.hd m) j.isList (by simpa using qDR d) (by simp;lia) fun h' l c n=>?_
 refine ⟨.ref s.heap.objs.size,_,I.laid (t':=l) n (Nat.le_refl _) ?_,rfl,q _ (I.hok.fresh (Nat.le_refl _))⟩;obtain ⟨z,ep,t,y,e,_⟩:=id c;exact ⟨c,⟨_,e⟩,fun h1 h2 x k=>x.at k⟩
end
end L2
namespace L2
open PySem PySem.Spec PyProof.Rows
section
variable {X:Cx}
end
section
variable {prog:Program} {w:World} {A:Around} {E:Value->Shared->Prop} {s:Shared}
end
section
variable {X:Cx}
end
end L2
namespace L2
open PySem PySem.Spec PyProof.Rows
structure Ex (B:Heap) (l:List Env) (e:Addr) (cls:Value) (dd:Option Addr) (nt:Bool) (h:Heap):Prop where
 stays:B.StaysIn h
 new:B.get? e=none
 frames:h.FunFrames B l
 rec_:∃ (oe:Obj) (vs:Array Value) (x1:Value),h.get? e=some oe/\oe.cls=cls/\oe.dict=dd/\oe.data=.fields vs/\vs[1]?=some x1/\
  ((x1=.none/\nt=false)\/∃ (T:Addr) (oT:Obj) (ts:Array Value) (x3:Value),x1=.ref T/\B.get? T=none/\T ≠ e/\h.get? T=some oT/\oT.data=.fields ts/\ts[3]?=some x3)
theorem Ex.tail {B:Heap} {env:Env} {l:List Env} {e:Addr} {a:Value} {b:Option Addr} {c:Bool} {h:Heap} (x:Ex B (env::l) e a b c h):Ex B l e a b c h:=⟨x.stays,x.new,x.frames.2.2,x.rec_⟩
section
variable {M:Model} {A:Around} {E:Value->Shared->Prop} {s:Shared} {B:Heap} {env:Env} {outer l:List Env} {L e:Addr} {cls:Value} {dd:Option Addr} {nt:Bool} {Q:Unit->Shared->Prop}
theorem qSI {t:Obj} {vs:Array Value} {p:Value} {l:Bool} (aa:A.frames=some (env::outer)) (hl:s.heap.FunFrames B (env::outer)) (hf:env.frame=some L)
  (he:s.heap.get? e=some t) (a1:B.StaysIn s.heap) (w:B.get? e=none) (hd:t.data=.fields vs) (hsz:1<vs.size)
  (h:∀ h',Ex B (env::outer) e t.cls t.dict true h'->s.heap.UpToSlots h'->Q () { s with heap:=h' }) :
  wpAny M A (do let a <- frameOf env;let pl <- entryPlaceOf L l;let b <- EntryCells.newEntry p a .none (rawInt L) .none pl;setField (.ref e) 1 b) Q E s:=by
 have y:e ∉ (env::outer).filterMap (·.frame):=fun hm=>by
  obtain ⟨_,o,ho,i⟩:=hl.mem hm;rw [he] at ho
  injection ho with ho
  subst ho;exact i vs hd
 refine wpAny_bind (wpAny_frameOf_fun aa hl hf fun j n=>?_);refine wpAny_bind (wpAny_entryPlaceOf fun pl a4=>?_);unfold EntryCells.newEntry newFields;refine wpAny_bind (wpAny_newObj_type ?_ (a4.sizeOk5 _ _ _ _ _));have v:j.get? e=some t:=(n.2.1 e y).trans he;have u:B.StaysIn j:=fun b o g=>(n.2.1 b fun hm=>by rw [(hl.mem hm).1] at g;cases g).trans (a1 b o g)
 generalize ht:({ cls:=.type "traceback",dict:=none,data:=.fields ([p,.ref L,.none,rawInt L,.none]++(if pl.isEmpty then List.replicate 6 Value.none else pl)).toArray }:Obj)=r
 have a5:∃ ts:Array Value,r.data=.fields ts/\∃ x3,ts[3]?=some x3:=by
  subst ht;exact ⟨_,rfl,rawInt L,by simp⟩
 have a8:r.isFreed=false:=by subst ht;rfl
 have x:=Heap.get?_push_of_some (h:=j) r v;refine wpAny_setField x hd hsz ?_;have z:j.objs.size ≠ e:=Nat.ne_of_gt (Heap.lt_size v);have a0:=Obj.data_mapFields hd (·.setIfInBounds 1 (Value.ref j.objs.size));have a2:=Heap.get?_update_self (Obj.mapFields (·.setIfInBounds 1 (Value.ref j.objs.size))) x (Obj.isFreed_of_fields a0);have a3:=(Heap.get?_update_other (j.push r) (Obj.mapFields (·.setIfInBounds 1 (Value.ref j.objs.size))) (Ne.symm z)).trans (Heap.get?_push_size j a8);have m:∀ b o,b ≠ e->j.get? b=some o->((j.push r).update e (Obj.mapFields (·.setIfInBounds 1 (Value.ref j.objs.size)))).get? b=some o:=fun b o a9 k=>by
  rw [Heap.get?_update_other _ _ (Ne.symm a9)];exact Heap.get?_push_of_some _ k
 have f:∀ b o,s.heap.get? b=some o->(∀ vs,o.data ≠ .fields vs)->b ≠ e:=fun b o k i q=>by
  rw [q,he] at k
  injection k with k
  subst k;exact i vs hd
 obtain ⟨ts,a7,x3,a6⟩:=a5;refine h _ ⟨fun b o g=>m b o (fun q=>by rw [q,w] at g;cases g) (u b o g),w,hl.of_keeps fun b o k i=>?_,?_⟩ fun b o k i=>?_
 ·obtain ⟨sl,hs⟩:=n.2.2 b o k;exact ⟨_,m b _ (f b o k i) hs,rfl⟩
 ·refine ⟨_,_,_,a2,Obj.cls_mapFields _ _,?_,a0,?_,.inr ⟨j.objs.size,r,ts,x3,rfl,u.fresh,z,a3,a7,a6⟩⟩
  ·obtain ⟨c,d,dt,sl⟩:=t;cases dt <;> rfl
  ·simp [hsz]
 ·obtain ⟨sl,hs⟩:=n.2.2 b o k;exact ⟨sl,m b _ (f b o k i) hs⟩
theorem qR8 (m:A.frames=some (env::outer)) (u:env.frame=some L) (x:Ex B (env::outer) e cls dd nt s.heap) (h:∀ h',Ex B (env::outer) e cls dd true h'->s.heap.UpToSlots h'->Q () { s with heap:=h' }) :
  wpAny M A (noteFrame (.ref e) env) Q E s:=by
 obtain ⟨oe,t,y,r,rfl,rfl,n,v,hx⟩:=x.rec_;have j:1<t.size:=(Array.getElem?_eq_some_iff.mp v).1;unfold noteFrame;simp only [u];refine wpAny_bind (wpAny_field r n v ?_);rcases hx with ⟨rfl,_⟩ | ⟨T,oT,z,x3,rfl,k,l,p,g,w⟩
 ·rw [if_neg (by decide)]
  exact qSI m x.frames u r x.stays x.new n j h
 ·rw [if_pos (show (Value.ref T != Value.none)=true from by simp)]
  refine wpAny_bind (wpAny_field p g w ?_);refine wpAny_ite_split (fun _=>?_) (fun _=>?_)
  ·exact wpAny_pure (h _ ⟨x.stays,x.new,x.frames,oe,t,_,r,rfl,rfl,n,v,.inr ⟨T,oT,z,x3,rfl,k,l,p,g,w⟩⟩ (Heap.UpToSlots.refl _))
  ·refine wpAny_bind (wpAny_setField p g (Array.getElem?_eq_some_iff.mp w).1 ?_);have c:∀ b,b ≠ T->(s.heap.update T (Obj.mapFields (·.setIfInBounds 3 Value.none))).get? b=s.heap.get? b:=fun b f=>Heap.get?_update_other _ _ (Ne.symm f);have a:∀ b o,s.heap.get? b=some o->(∀ t,o.data ≠ .fields t)->b ≠ T:=fun b o f d q=>by
    rw [q,p] at f
    injection f with f
    subst f;exact d z g
   refine qSI m (x.frames.of_keeps fun b o f d=>⟨o,(c b (a b o f d)).trans f,rfl⟩) u ((c e (Ne.symm l)).trans r)
    (fun b o i=>(c b fun q=>by rw [q,k] at i;cases i).trans (x.stays b o i)) x.new n j
    fun h' y x2=>h h' y fun b o f d=>x2 b o ((c b (a b o f d)).trans f) d
theorem qFO {f:Option Addr} (x:Ex B l e cls dd true s.heap) (h:∀ h',Ex B l e cls dd true h'->s.heap.UpToSlots h'->Q () { s with heap:=h' }):wpAny M A (setFlight (.ref e) f) Q E s:=by
 obtain ⟨y,r,x1,v,rfl,rfl,t,u,hx⟩:=x.rec_;rcases hx with ⟨_,z⟩ | ⟨T,oT,w,x3,rfl,m,n,p,i,h3⟩
 ·cases z
 have j:3<w.size:=(Array.getElem?_eq_some_iff.mp h3).1;unfold setFlight;refine wpAny_bind (wpAny_field v t u ?_);rw [if_pos (show (Value.ref T != Value.none)=true from by simp)]
 have c:∀ b,b ≠ T->(s.heap.update T (Obj.mapFields (·.setIfInBounds 3 (f.elim Value.none fun f=>rawInt f)))).get? b=s.heap.get? b:=fun b d=>Heap.get?_update_other _ _ (Ne.symm d);have a:∀ b o,s.heap.get? b=some o->(∀ r,o.data ≠ .fields r)->b ≠ T:=fun b o d g q=>by
  rw [q,p] at d
  injection d with d
  subst d;exact g w i
 refine wpAny_setField p i j (h _ ⟨fun b o k=>(c b fun q=>by rw [q,m] at k;cases k).trans (x.stays b o k),x.new,
  x.frames.of_keeps fun b o d g=>⟨o,(c b (a b o d g)).trans d,rfl⟩,y,r,_,(c e (Ne.symm n)).trans v,rfl,rfl,t,u,.inr ⟨T,_,_,f.elim Value.none (fun f=>rawInt f),rfl,m,n,Heap.get?_update_self _ p (Obj.isFreed_of_fields (Obj.data_mapFields i _)),Obj.data_mapFields i _,by simp [j]⟩⟩
  fun b o d g=>⟨o.slots,(c b (a b o d g)).trans d⟩)
theorem qYE (a:A.frames=some (env::outer)) (d:env.frame=some L) (x:Ex B (env::outer) e cls dd nt s.heap) (h:∀ h',Ex B outer e cls dd true h'->s.heap.UpToSlots h'->Q () { s with heap:=h' }) :
  wpAny M A (leaving env (.ref e)) Q E s:=by
 unfold leaving;refine wpAny_bind (qR8 a d x fun b g c=>?_);exact qFO (s:={ s with heap:=b }) g fun j i f=>h j i.tail (c.trans f)
theorem qbL (x:Ex B l e cls dd true s.heap) (h:∀ h',Ex B l e cls dd true h'->s.heap.UpToSlots h'->E (.ref e) { s with heap:=h' }):cameBackBy M A env E (.ref e) s:=by
 obtain ⟨r,j,n,g,_,_,c,a,i⟩:=x.rec_;rcases i with ⟨_,z⟩ | ⟨T,m,q,o,rfl,f,d,p,b,k⟩
 ·cases z
 unfold cameBackBy;refine wpAny_bind (wpAny_field g c a ?_);rw [if_neg (show ¬ ((Value.ref T == Value.none)=true) from by simp)]
 exact qFO x h
end
end L2
namespace L2
open PySem PySem.Spec PyProof.Rows
theorem ObjOk.has {P:Program} {w:World} {H:Hp} {h:Heap} {a:Addr} {o:HO} (x:ObjOk P w H h a o):∃ u,h.get? a=some u:=by
 cases o with
 | lst xs=>obtain ⟨_,_,_,_,e⟩:=x;exact ⟨_,e⟩
 | tup xs=>obtain ⟨_,_,_,b,e,_⟩:=x;exact ⟨_,e⟩
 | dK Ae=>obtain ⟨_,_,_,_,o,_,_,e,_⟩:=x;exact ⟨_,e⟩
 | dT Ae=>obtain ⟨_,_,_,_,o,_,_,e,_⟩:=x;exact ⟨_,e⟩
 | set S n=>obtain ⟨o,_,_,_,e,_⟩:=x;exact ⟨_,e⟩
 | ins C dx fs=>obtain ⟨_,_,_,e,_⟩:=x;exact ⟨_,e⟩
 | own y=>obtain ⟨_,e⟩:=x;exact ⟨_,e⟩
 | xd fs=>obtain ⟨_,⟨_,_,_,e,_⟩,_⟩:=x;exact ⟨_,e⟩
 | rng lo hi=>obtain ⟨_,_,_,e⟩:=x;exact ⟨_,e⟩
 | frz b u=>exact ⟨_,x.1⟩
 | tbl t=>
  cases t with
  | tab q=>obtain ⟨_,e,_⟩:=x;exact ⟨_,e⟩
  | cod q=>obtain ⟨c,o,_,_,e,g,_⟩:=x;cases e;exact ⟨_,g⟩
 | met f y=>exact ⟨_,show h.get? a=some (PySem.W.methodObj (.ref f) (.ref y)) from x⟩
 | ext φ=>exact x.2.1
def Kp (outer:List Env) (H':Hp) (h0:Heap) (b:Addr):Prop:=(∃ o,H' b=some o)\/((∃ o,h0.get? b=some o)/\b ∉ frs outer)
structure XD (P:Program) (w:World) (outer l:List Env) (H:Hp) (h0:Heap) (e:Addr) (cls:Value) (dd:Option Addr) (H':Hp) (B:Heap) (nt:Bool) (h:Heap):Prop where
 un:Un (frs outer) [] H H' h0 h
 hok:HOk P w H' h
 ex:Ex B l e cls dd nt h
 kp:∀ b o,h.get? b=some o->Kp outer H' h0 b->B.get? b=some o
 ne:H' e=none
 ge:h0.objs.size<=e
theorem XD.step {P:Program} {w:World} {c l l':List Env} {H:Hp} {y:Heap} {e:Addr} {f:Value} {dd:Option Addr} {H':Hp} {B:Heap} {nt s:Bool} {h h':Heap} (x:XD P w c l H y e f dd H' B nt h)
  (ex:Ex B l' e f dd s h') (u:h.UpToSlots h') (hs:∀ b ∈ frs c,b ∈ frs l):XD P w c l' H y e f dd H' B s h':=by
 have t:∀ b o,h.get? b=some o->Kp c H' y b->h'.get? b=some o:=fun b o q k=>ex.stays b o (x.kp b o q k);have j:∀ b,Kp c H' y b->∃ o,h.get? b=some o:=fun b k=>by
  rcases k with ⟨o,q⟩ | ⟨⟨o,q⟩,_⟩
  ·exact (x.hok b o q).has
  ·exact x.un.there b o q (by simp)
 have fr:∀ b o,h.get? b=some o->b ∈ frs c->∃ sl,h'.get? b=some { o with slots:=sl }:=fun b o q m=>by
  obtain ⟨_,o',p,hd⟩:=x.ex.frames.mem (hs b m);rw [q] at p;cases p;exact u b o q hd
 refine ⟨⟨fun b o q n nf i=>t b o (x.un.keep b o q n nf i) (.inr ⟨⟨o,q⟩,nf⟩),fun b o q n m i=>?_,x.un.free,fun b o q i=>?_,x.un.tups,x.un.frzs,x.un.tbls⟩,fun a o q=>?_,ex,fun b o q k=>?_,x.ne,x.ge⟩
 ·obtain ⟨sl,d⟩:=x.un.slot b o q n m i;obtain ⟨a0,q2⟩:=fr b _ d m;exact ⟨a0,q2⟩
 ·obtain ⟨g,d⟩:=x.un.there b o q i;by_cases m:b ∈ frs c
  ·obtain ⟨sl,q2⟩:=fr b g d m;exact ⟨_,q2⟩
  ·exact ⟨g,t b g d (.inr ⟨⟨o,q⟩,m⟩)⟩
 ·refine (x.hok a o q).stay (fun b v hb r=>t b v r ?_) (fun _ z=>z) fun _ _ z=>z;rcases hb with rfl | hb
  ·exact .inl ⟨o,q⟩
  ·exact .inl ⟨_,hb⟩
 ·obtain ⟨g,d⟩:=j b k;have:=t b g d k;rw [q] at this;cases this;exact x.kp b o d k
def CX1 (P:Program) (w:World):CXT:=fun outer H s E ev s'=>∃ (e:Addr) (cls:Value) (dd:Option Addr) (H':Hp) (B:Heap) (nt:Bool),ev=.ref e/\s'.os=s.os/\AllBare s'.gens/\XD P w outer outer H s.heap e cls dd H' B nt s'.heap/\E cls dd H'
def XP (X:Cx) (G:XK) (ev:Value) (s':Shared):Prop:=X.A.frames=some X.stack/\∃ (e:Addr) (cls:Value) (dd:Option Addr) (H':Hp) (B:Heap) (nt:Bool),ev=.ref e/\s'.os=X.s₀.os/\AllBare s'.gens/\XD X.prog X.w X.outer X.stack X.H₀ X.s₀.heap e cls dd H' B nt s'.heap/\G cls dd H'
section
variable {X:Cx} {E:XK} {G:XK} {Aa:List (Addr × Obj)} {σ:St} {H:Hp} {s s':Shared}
theorem PassesOwn.xp (a:X.stack=X.env::X.outer) (d:X.env.frame=some X.env.locals):PassesOwn (model X.prog X.w) X.A X.env (XP X G):=by
 rintro ev s1 ⟨hfr,e,cls,dd,H',B,nt,rfl,ho,hg,x,g⟩;have k:∀ b ∈ frs X.outer,b ∈ frs X.stack:=fun b h=>by
  rw [a];unfold frs at h ⊢;rw [List.filterMap_cons,d];exact List.mem_cons_of_mem _ h
 have c:=x.ex;rw [a] at c;unfold notedBy;refine qR8 (hfr.trans (by rw [a])) d c fun i l j=>?_
 refine qbL (s:={ s1 with heap:=i }) l fun n f m=>?_;rw [<- a] at f;exact ⟨hfr,e,cls,dd,H',B,true,rfl,ho,hg,x.step f (j.trans m) k,g⟩
end
section
variable {P:Program} {w:World} {K:PySem.W.Frag} {mg:Str->Option Value} {base:Heap}
theorem qe4 {N:List Str} {d:Str} {a:Scope} {f:Addr} {h:Value} {A:Around} {c:List Env} {s:Shared} {H:Hp} {E:XK} {k:Value} {s':Shared}
  (q:XP (cxOf (CX1 P w) P w K mg base N d a f h A c s H E) E k s'):(cxOf (CX1 P w) P w K mg base N d a f h A c s H E).xe k s':=by
 obtain ⟨j,e,i,p,t,B,v,rfl,o,m,x,g⟩:=q;refine qYE (L:=s.heap.objs.size) j rfl x.ex fun u n l=>?_;exact ⟨e,i,p,t,B,true,rfl,o,m,x.step n l fun b r=>List.mem_cons_of_mem _ r,g⟩
noncomputable abbrev cxX (P:Program) (w:World) (K:PySem.W.Frag) (mg:Str->Option Value) (base:Heap) (N:List Str) (d:Str) (a:Scope) (f:Addr) (h:Value) (A:Around) (c:List Env) (s:Shared) (H:Hp) (E:XK):Cx:=
 (cxOf (CX1 P w) P w K mg base N d a f h A c s H E).wish (XP (cxOf (CX1 P w) P w K mg base N d a f h A c s H E) E)
theorem Fun.okX {x a:Str} {st:Stmt} {f:Addr} {g:FuncData} {N ps:List Str} {k:Nat} {sp:Sp} (F:Fun K x a st f g) (S:FnScope N ps (qAB st)) (e:∀ vs H Q E,sp vs H Q E->vs.length=ps.length)
  (b:∀ (cdv:Value) (A:Around) (outer:List Env) (s:Shared) (H:Hp) (vs:List V) (Q:VK) (E:XK),Room k (A.deeper (envOfC a (qAB st) s.heap.objs.size f cdv))->sp vs H Q E->
   ∃ t,PSs (cxX P w K mg base N a (qAB st) f cdv A outer s H E) (qBT st) t/\t { nx:=fun _ H'=>Q .non H',rt:=Q } (qLX N vs) H):FnOk P w K mg base (CX1 P w) (k+1) f g ps sp:=by
 obtain ⟨y,od,kV,o,pm,v,cdv,ct,m,rfl,l,c⟩:=F.ex;refine qdT l c S e fun A outer s H vs Q E i d=>?_;obtain ⟨t,h,q⟩:=b cdv A outer s H vs Q E i d;exact ⟨t,fun j p σ r D I n=>wpAny_mono (h j p σ r D (I.wish _) n) (fun _ _ q=>q.unwish) fun z u q=>qe4 q,q⟩
theorem own1 {N:List Str} {c:Str} {a:Scope} {f:Addr} {d:Value} {A:Around} {b:List Env} {s:Shared} {H:Hp} {E:XK}:PassesOwn (model (cxX P w K mg base N c a f d A b s H E).prog (cxX P w K mg base N c a f d A b s H E).w) (cxX P w K mg base N c a f d A b s H E).A (cxX P w K mg base N c a f d A b s H E).env (cxX P w K mg base N c a f d A b s H E).xe:=
 PassesOwn.xp (X:=cxOf (CX1 P w) P w K mg base N c a f d A b s H E) rfl rfl
end
end L2
namespace L2
open PySem PySem.Spec PyProof.Rows
def ExcO (e:Addr) (cls:Value) (dd:Option Addr):HO:=.ext fun h=>∃ (oe:Obj) (vs:Array Value),h.get? e=some oe/\oe.cls=cls/\oe.dict=dd/\oe.data=.fields vs
theorem qbK {P:Program} {w:World} {H:Hp} {h:Heap} {e:Addr} {g:Value} {j:Option Addr} {f:Obj} {vs:Array Value} (i:h.get? e=some f) (n:f.cls=g) (l:f.dict=j) (m:f.data=.fields vs):ObjOk P w H h e (ExcO e g j):=
 ⟨⟨f,vs,i,n,l,m⟩,⟨f,i⟩,fun _ _ ⟨o,ws,a,b,c,d⟩ k=>⟨o,ws,k _ a,b,c,d⟩⟩
noncomputable abbrev Cx.held (X:Cx) (ev:Value):Cx:={ X with A:=X.A.mark (some ev),calm:=false }
section
variable {X:Cx} {Aa:List (Addr × Obj)} {σ:St} {H:Hp} {s:Shared} {ev:Value}
theorem Inv.held (I:Inv X Aa σ H s) (a:Value):Inv (X.held a) Aa σ H s:=
 ⟨⟨I.ok.mod,I.ok.kind,I.ok.glob,I.ok.blt,I.ok.above,I.ok.inj,I.ok.has,I.ok.cab,(fun z=>nomatch z),I.ok.frames,I.ok.stk,I.ok.exf,I.ok.bs,I.ok.bsz,I.ok.noex,I.ok.exfs,I.ok.funs,I.ok.frf⟩,I.os,I.bare,I.base,I.loc,I.cell,I.free,I.freeC,I.pin,I.hok,I.len⟩
theorem Inv.unheld (a:X.Ok) (I:Inv (X.held ev) Aa σ H s):Inv X Aa σ H s:=⟨a,I.os,I.bare,I.base,I.loc,I.cell,I.free,I.freeC,I.pin,I.hok,I.len⟩
theorem Inv.goes {M:Model} {A:Around} {E:Value->Shared->Prop} {j:Nat} {n:Str} {a0:Pos} {Q:Unit->Shared->Prop} (I:Inv X Aa σ H s) (hN:X.N.Nodup) (hj:X.N[j]?=some n) (g:X.env.scope.names.lookup n=some .local)
  (h:∀ s',Inv X Aa (σ.set j none) H s'->Q () s'):wpAny M A (do bindName X.env n .none;unbindBehindTheSuite X.env n a0) Q E s:=by
 refine wpAny_bind (wpAny_bindName (qKD (v:=.non) I hN hj (.inl g) rfl (fun s1 a=>?_) (.inr g)));unfold unbindBehindTheSuite;refine wpAny_onRaise ?_;obtain ⟨m,hn,x⟩:=id a.loc;have t:j<σ.length:=by rw [I.len];exact (List.getElem?_eq_some_iff.mp hj).1
 have hv:∃ v,m n=some v:=by
  obtain ⟨u,_,z | ⟨z,_⟩⟩:=x j n .non hj (by rw [List.getElem?_set_self t]) (.inl g)
  ·exact ⟨u,z.2⟩
  ·have:X.env.scope.names.lookup n=some .cell\/X.env.scope.names.lookup n=some .free:=z;rw [g] at this;rcases this with z | z <;> cases z
 obtain ⟨v,hv⟩:=hv;have l:(X.env.scope.kind == .class || (X.env.scope.kind == .module && X.env.locals != X.env.globals))=false:=by rw [I.ok.kind];rfl
 refine wpAny_unbindName_local g hn hv l fun h' u i f=>h _ ?_;obtain ⟨oL,es,ep,a4,r⟩:=id hn;obtain ⟨a3,_,_,a2,_⟩:=id i;have lo:∀ b ob,X.s₀.heap.get? b=some ob->b ≠ X.env.locals:=fun b ob e=>Nat.ne_of_lt (Nat.lt_of_lt_of_le (Heap.lt_size e) I.ok.above);refine ⟨a.ok,a.os,a.bare,⟨fun b o e n' hb hx=>?_,fun b o e n' hb hx=>?_,a.base.free,fun b o e hx=>?_,a.base.tups,a.base.frzs,a.base.tbls⟩,⟨_,i,fun k y v' d e2 e3=>?_⟩,fun y c e=>?_,a.free,a.freeC,fun p hp=>?_,fun b ob e=>?_,by simpa using I.len⟩
 ·exact (f.2 b (lo b o e)).trans (a.base.keep b o e n' hb hx)
 ·obtain ⟨sl,d⟩:=a.base.slot b o e n' hb hx;exact ⟨sl,(f.2 b (lo b o e)).trans d⟩
 ·obtain ⟨o',d⟩:=a.base.there b o e hx;exact ⟨o',(f.2 b (lo b o e)).trans d⟩
 ·by_cases hk:k=j
  ·subst hk;rw [List.getElem?_set_self t] at e2;cases e2
  ·rw [List.getElem?_set_ne (Ne.symm hk)] at e2;obtain ⟨u',r',q⟩:=x k y v' d (by rw [List.getElem?_set_ne (Ne.symm hk)];exact e2) e3
   refine ⟨u',r',?_⟩;have a1:y ≠ n:=fun z=>hk ((List.getElem?_inj (List.getElem?_eq_some_iff.mp d).1 hN).mp (by rw [d,hj,z]))
   rcases q with ⟨q1,q2⟩ | ⟨q1,c,q2,w⟩
   ·exact .inl ⟨q1,(if_neg a1).trans q2⟩
   ·obtain ⟨oc,w,q4⟩:=w;exact .inr ⟨q1,c,q2,oc,(f.2 c (I.cne y c q2)).trans w,q4⟩
 ·obtain ⟨v,oc,w,q4⟩:=a.cell y c e;exact ⟨v,oc,(f.2 c (I.cne y c e)).trans w,q4⟩
 ·obtain ⟨d,n1,n2,r⟩:=a.pin p hp;exact ⟨(f.2 p.1 n2).trans d,n1,n2,r⟩
 ·refine (a.hok b ob e).stay (fun c w' hc q=>(f.2 c ?_).trans q) (fun _ q=>q) fun _ _ q=>q;rintro rfl;rcases hc with rfl | hc
  ·rw [a.free] at e;cases e
  ·rw [a.free] at hc;cases hc
theorem Inv.lands {Q:Unit->Shared->Prop} {EE:Value->Shared->Prop} {E:XK} {G:XK} {H1:Hp} {i d:Shared} (I:Inv X Aa σ H1 i) (a:X.stack=X.env::X.outer) (l:X.env.frame=some X.env.locals) (q:CX1 X.prog X.w X.stack H1 i G ev d)
  (h:∀ e cls dd H2 B s3,ev=.ref e->Inv X Aa σ H2 s3->XD X.prog X.w X.stack X.stack H1 i.heap e cls dd H2 B true s3.heap->G cls dd H2->Q () s3) :
  wpAny (model X.prog X.w) X.A (noteFrame ev X.env) (fun _ s3=>wpAny (model X.prog X.w) X.A (setFlight ev none) Q EE s3) EE d:=by
 obtain ⟨e,cls,dd,H2,B,u,rfl,p,m,x,g⟩:=q;have c:=x.ex;rw [a] at c;refine qR8 (I.ok.frames.trans (by rw [a])) l c fun n r k=>?_
 refine qFO (s:={ d with heap:=n }) r fun t j o=>?_;rw [<- a] at j;have y:=x.step j (k.trans o) fun b f=>f;exact h e cls dd H2 B _ rfl (I.call' (s':={ d with heap:=t }) p y.un y.hok m fun b f=>absurd f (by simp)) y g
theorem Inv.caught {H1 H2:Hp} {g:Heap} {e:Addr} {a:Value} {h:Option Addr} {B:Heap} {n:Bool} (I:Inv X Aa σ H2 s) (I0:∃ s1,Inv X Aa σ H1 s1/\s1.heap=g) (x:XD X.prog X.w X.stack X.stack H1 g e a h H2 B n s.heap):Inv X Aa σ (Af H2 e (ExcO e a h)) s:=by
 obtain ⟨s1,d,rfl⟩:=I0;obtain ⟨oe,vs,x1,u,j,r,l,_⟩:=x.ex.rec_;have f:∀ b ob,s1.heap.get? b=some ob->b ≠ e:=fun b ob q=>Nat.ne_of_lt (Nat.lt_of_lt_of_le (Heap.lt_size q) x.ge);refine I.track x.ne (Nat.le_trans d.sz x.ge) (fun z=>?_) (fun y c q z=>?_) (fun p i z=>?_) (qbK u j r l)
 ·obtain ⟨m,⟨o,_,_,k,_⟩,_⟩:=d.loc;exact f _ _ k z.symm
 ·obtain ⟨v,oc,t,_⟩:=d.cell y c q;exact f _ _ t z
 ·exact f _ _ (d.pin p i).1 z
end
section
variable {X:Cx}
def Ends.off (D:Ends):Option Nat->Ends
 | none=>D
 | some j=>{ nx:=fun σ H=>D.nx (σ.set j none) H,rt:=D.rt,bk:=fun σ H=>D.bk (σ.set j none) H,ct:=fun σ H=>D.ct (σ.set j none) H }
noncomputable def onE (σ:St) (e:Addr):Option Nat->St
 | none=>σ
 | some j=>σ.set j (some (.ref e))
theorem SP.back {Aa:List (Addr × Obj)} {D:Ends} {f:Flow} {s':Shared} {c:Value} (b:X.Ok) (h:SP (X.held c).nox Aa D f s'):SP X Aa D f s':=by
 cases f with
 | next=>obtain ⟨σ',a,I,q⟩:=h;exact ⟨σ',a,I.unwish.unheld b,q⟩
 | brk=>obtain ⟨σ',a,I,q⟩:=h;exact ⟨σ',a,I.unwish.unheld b,q⟩
 | cont=>obtain ⟨σ',a,I,q⟩:=h;exact ⟨σ',a,I.unwish.unheld b,q⟩
 | ret u=>obtain ⟨v,σ',a,I,r,q⟩:=h;exact ⟨v,σ',a,I.unwish.unheld b,r,q⟩
end
end L2
namespace L2
open PySem PySem.Spec PyProof.Rows
noncomputable def bmV:List Value:=[.type "ValueError",.type "Exception",.type "BaseException",.type "object"]
noncomputable def xcIn (K:PySem.W.Frag) (C:Addr) (init:Option Value):Bool:=match K.lookup C with
 | some ⟨.type "type",_,.cls cd,sl⟩=>(match cd.mro,sl.toList with
  | .ref C'::bm,[_,_,_,_,some (.builtin n),_]=>C' == C && n == "ValueError.__new__" && !cd.hasDel && cd.hasDict && PySem.W.tailIn K bmV bm && PySem.W.nsOkIn K cd.ns && PySem.W.nsIn K cd.ns "__init__" == some init
  | _,_=>false)
 | _=>false
structure XCls (K:PySem.W.Frag) (C:Addr) (init:Option Value):Prop where
 cls:xcIn K C init=true
 set:PySem.W.findIn K (.ref C) "__setattr__" = some (some (.builtin "object.__setattr__"))
 kp:PySem.W.keepIn K (.ref C)=true
theorem qT3 {K:PySem.W.Frag} {h:Heap} {N:Addr} {mg:Str->Option Value} {n:Str} {v:Value} (X:K.In h) (G:h.Ns N mg) (e:PySem.W.nsIn K N n=some (some v)):mg n=some v:=by
 obtain ⟨o,g,i,b,f,_,a⟩:=G;unfold PySem.W.nsIn at e
 split at e
 ·rename_i c d es' n' sl q
  have:=X _ _ q;rw [b] at this;cases this;cases f
  split at e
  ·rename_i en he
   cases e;rw [<- a];unfold nsFind findBy;rw [<- Array.find?_toList,he]
   rfl
  ·split at e
   ·cases e
   ·cases e
 ·cases e
theorem qQJ {h:Heap} {b:List Value} (a:Value) (T:OwnTail h bmV b):refuseLoop a "__setattr__" b=pure ():=by
 induction T with
 | base=>exact PySem.F.store_ValueError.passes a
 | own _ _ _ _ ih=>rw [refuseLoop_ref];exact ih
theorem qX5 {K:PySem.W.Frag} {h:Heap} {C:Addr} {a:Option Value} (X:K.In h) (q:xcIn K C a=true):∃ (bm:List Value) (N:Addr) (nm qn:Str) (bs:List Value) (sn:List Str) (sub:List Value) (ab:Bool) (col:Option Bool) (dd:Option Addr) (k0 k1 k2 k3 k5:Option Value) (mN:Str->Option Value),
  h.get? C=some (excClassObj nm qn C N bs bm true sn sub ab col dd k0 k1 k2 k3 k5 "ValueError.__new__")/\h.Ns N mN/\mN "__init__" = a/\OwnTail h bmV bm:=by
 unfold xcIn at q
 split at q
 ·rename_i dd cd sl ho
  split at q
  ·rename_i C' bm k0 k1 k2 k3 n k5 hm hs
   simp only [Bool.and_eq_true,beq_iff_eq,Bool.not_eq_true'] at q;obtain ⟨⟨⟨⟨⟨⟨rfl,rfl⟩,c⟩,e⟩,j⟩,b⟩,d⟩:=q;obtain ⟨nm,bs,i,g,qn,m,sn,sub,ab,col,k⟩:=cd;dsimp only at hm c b d e;subst hm c e;have f:sl=#[k0,k1,k2,k3,some (.builtin "ValueError.__new__"),k5]:=by
    obtain ⟨l⟩:=sl;simp only at hs;rw [hs]
   subst f;refine ⟨bm,g,nm,qn,bs,sn,sub,ab,col,dd,k0,k1,k2,k3,k5,_,X _ _ ho,.of_isNs (PySem.W.isNs_of_in X b),?_,PySem.W.tail_of_in X j⟩;cases a with
   | none=>exact PySem.W.nsMap_none_of_in X b d
   | some v=>exact qT3 X (.of_isNs (PySem.W.isNs_of_in X b)) d
  ·cases q
 ·cases q
section
variable {prog:Program} {w:World} {A:Around} {E:Value->Shared->Prop} {h:Heap} {g:Array GenState} {d:Drawn} {t:Nat} {os:OsState} {K:PySem.W.Frag} {C x:Addr} {init:Option Value} {mA:Str->Option Value} {name:Str} {v:Value} {ns:List Str}
theorem qbZ {b:Bool} {tk:Tok} {Q:PySem.Fin->Shared->Prop} (X:K.In h) (q:xcIn K C init=true) (I:h.Inst x C mA) (hw:Within mA ns) (hsz:ns.length<=1000)
  (hq:∀ h' tk',h'.Inst x C (fun y=>if y=name then some v else mA y)->
   (∀ b o,b ≠ x->(∀ o₀ dx,h.get? x=some o₀->o₀.dict=some dx->b ≠ dx)->h.get? b=some o->h'.get? b=some o)->
   (∀ o₀,h.get? x=some o₀->∃ o₁,h'.get? x=some o₁/\o₁.cls=o₀.cls/\o₁.data=o₀.data/\o₁.slots=o₀.slots/\(∀ dx,o₀.dict=some dx->o₁.dict=some dx)/\(o₀.dict=none->o₁.dict=some h.objs.size))->Q (.done (.ret .none)) ⟨h',g,d,tk',os⟩) :
  wpAny (model prog w) A (Builtin.ObjectAttr.storeInOwnDict (.ref x) (.ref C) (.str name tk) name v b) Q E ⟨h,g,d,t,os⟩:=by
 obtain ⟨bm,N,nm,qn,bs,sn,ac,ab,aa,dd,k0,k1,k2,k3,k5,mN,hC,hn,_,T⟩:=qX5 X q;obtain ⟨o,i,hc,p,hd⟩:=I;unfold Builtin.ObjectAttr.storeInOwnDict
 repeat (first | (with_reducible refine wpAny_loadPart_at i ?_;rw [hc]) | wp_step)
 rcases hd with ⟨z,a5⟩ | ⟨dx,f,m,a7⟩
 ·rw [z,if_neg (by simp [typeHasDict])]
  split
  ·rename_i hcd
   cases hcd
  split
  ·rename_i c hcd
   exact absurd hcd (p c)
  ·have s:(h.push { cls:=.type "dict",data:=.dict #[] }).get? x=some o:=Heap.get?_push_of_some _ i;have k:x ≠ h.objs.size:=Nat.ne_of_lt (Heap.lt_size i);refine wpAny_bind (wpAny_alloc' ?_);refine wpAny_bind (wpAny_update' s ?_);refine wpAny_pure ?_;have a6:((h.push { cls:=.type "dict",data:=.dict #[] }).update x fun o=>{ cls:=o.cls,dict:=some h.objs.size,data:=o.data,slots:=o.slots }).get? h.objs.size
     = some { cls:=.type "dict",data:=.dict #[] }:=
    (Heap.get?_update_ne _ _ _ _ k.symm).trans (Heap.get?_push_at rfl rfl)
   have a0:((h.push { cls:=.type "dict",data:=.dict #[] }).update x fun o=>{ cls:=o.cls,dict:=some h.objs.size,data:=o.data,slots:=o.slots }).Ns h.objs.size (fun _=>none):=
    ⟨_,#[],_,a6,rfl,fun e he=>absurd he (by simp),fun _=>rfl⟩
   show wpAny _ _ (Builtin.ObjectAttr.storeInDict h.objs.size (.str name tk) name v) _ _ _;unfold Builtin.ObjectAttr.storeInDict Builtin.ObjectAttr.newKeyGuard;refine wpAny_bind (wpAny_pure (wpAny_bind (wpAny_nsSet1 (Heap.Ns1.of_empty a0) fun h' a r=>?_)));obtain ⟨oD,a2,a4,l,j,n⟩:=a.count (Within.cons name v Within.nil);refine wpAny_bind (wpAny_lookBehind l (by rw [j];exact pastItsLine_dict (Nat.le_trans n (by rw [List.length_cons,List.length_nil,sizeLine_eq];lia))) ?_)
   wp_walk
   have u:h'.get? x=some { cls:=o.cls,dict:=some h.objs.size,data:=o.data,slots:=o.slots }:=?_;refine hq h' _ ⟨{ cls:=o.cls,dict:=some h.objs.size,data:=o.data,slots:=o.slots },u,hc,p,.inr ⟨h.objs.size,rfl,k.symm,?_⟩⟩ (fun b ob a3 _ hb=>?_)
    (fun o₀ h₀=>by obtain rfl:o=o₀:=Option.some.inj (i.symm.trans h₀);exact ⟨_,u,rfl,rfl,rfl,(fun dx e=>by rw [z] at e;cases e),fun _=>rfl⟩)
   ·obtain ⟨o',es,ep,e1,e2,e3,eu,e4⟩:=a;exact ⟨o',es,ep,e1,e2,e3,eu,fun y=>by rw [e4 y];by_cases hy:y=name <;> simp [hy,a5]⟩
   ·exact (r.2 b (Nat.ne_of_lt (Heap.lt_size hb))).trans ((Heap.get?_update_ne _ _ _ _ a3).trans (Heap.get?_push_of_some _ hb))
   ·refine (r.2 x k).trans (Heap.get?_update_self _ s ?_);have a9:=(Heap.get?_some_iff.mp i).2;obtain ⟨oc,od,a8,ad⟩:=o;cases a8 <;> first | rfl | exact a9
 ·rw [f];refine wpAny_pure ?_;show wpAny _ _ (Builtin.ObjectAttr.storeInDict dx (.str name tk) name v) _ _ _;unfold Builtin.ObjectAttr.storeInDict Builtin.ObjectAttr.newKeyGuard;refine wpAny_bind (wpAny_pure (wpAny_bind (wpAny_nsSet1 a7 fun h' a r=>?_)));obtain ⟨oD,a2,a4,l,j,n⟩:=a.count (Within.cons name v hw);refine wpAny_bind (wpAny_lookBehind l (by rw [j];exact pastItsLine_dict (Nat.le_trans n (by rw [List.length_cons,sizeLine_eq];lia))) ?_)
  wp_walk
  refine hq h' _ ⟨o,(r.2 x m.symm).trans i,hc,p,.inr ⟨dx,f,m,a⟩⟩ (fun b ob _ a1 hb=>?_)
   (fun o₀ h₀=>by
    obtain rfl:o=o₀:=Option.some.inj (i.symm.trans h₀);exact ⟨o,(r.2 x m.symm).trans h₀,rfl,rfl,rfl,(fun _ e=>e),fun e=>by rw [f] at e;cases e⟩)
  exact (r.2 b (a1 o dx i f)).trans hb
theorem xset {Q:Unit->Shared->Prop} (X:K.In h) (c:XCls K C init) (j:PySem.W.findIn K (.ref C) name=some none) (I:h.Inst x C mA) (hw:Within mA ns) (hsz:ns.length<=1000)
  (u:∀ h' tk',h'.Inst x C (fun y=>if y=name then some v else mA y)->
   (∀ b o,b ≠ x->(∀ o₀ dx,h.get? x=some o₀->o₀.dict=some dx->b ≠ dx)->h.get? b=some o->h'.get? b=some o)->
   (∀ o₀,h.get? x=some o₀->∃ o₁,h'.get? x=some o₁/\o₁.cls=o₀.cls/\o₁.data=o₀.data/\o₁.slots=o₀.slots/\(∀ dx,o₀.dict=some dx->o₁.dict=some dx)/\(o₀.dict=none->o₁.dict=some h.objs.size))->Q () ⟨h',g,d,tk',os⟩) :
  wpAny (model prog w) A (setAttr (.ref x) name v) Q E ⟨h,g,d,t,os⟩:=by
 obtain ⟨m,N,nm,qn,bs,sn,z,ab,n,dd,k0,k1,k2,k3,k5,mN,l,hn,_,T⟩:=qX5 X c.cls;obtain ⟨o,hx,hc,a0,hd⟩:=id I;have a:=PySem.F.store_ValueError;have i:PySem.W.Looks (model prog w) h (typeOf (.ref x)) (.ref C):=by
  rw [<- hc];exact (PySem.W.Looks.ld hx).andThen .now
 have hm:PySem.W.Looks (model prog w) h (mroOf (.ref C)) (.ref C::m):=fun A Q E s k q=>by
  obtain ⟨p,g,d,tk,os⟩:=s;exact wpAny_mroOf_exc (k _ _ l) q
 have f:PySem.W.Looks (model prog w) h (isInstance (.ref x) (.type "object")) true:=i.andThen fun A Q E s k q=>by
  obtain ⟨p,g,d,tk,os⟩:=s;refine wpAny_isSubtype_exc (k _ _ l) ?_;have:(Value.ref C::m).contains (.type "object")=true:=by rw [List.contains_cons,T.hasType (X:="object") (b:=true) (by decide +kernel),Bool.or_true]
  rw [this];exact q
 refine wpAny_bind (wpAny_mkText (wpAny_bind (wpAny_bind (wpAny_bind (i _ _ _ _ (fun _ _ e=>e) (PySem.W.looks_findIn X c.set _ _ _ _ (fun _ _ e=>e) (wpAny_holding ?_)))))));rw [PySem.F.store_object.slot.bind];refine wpAny_bind (wpAny_pure (wpAny_bind (wpAny_call ?_)));refine codeAny_call_builtin a.slot.plain a.entry (@PySem.W.check_slot (model prog w) _ _ _ "object.__setattr__" "object" "__setattr__" (.ref x) [.str name t,v] [] _ a.kind a.split f (a.args (.ref x) (.str name t) v) ?_);show wpAny (model prog w) A.in1 (Builtin.«object.__setattr__» ⟨[.ref x,.str name t,v],[]⟩) _ _ ⟨h,g,d,t+1,os⟩;rw [PySem.W.osa_eq,refuse_eq];refine wpAny_bind (wpAny_bind (i.here (wpAny_bind (hm.here ?_))));rw [refuseLoop_ref,qQJ _ T];refine wpAny_pure (wpAny_bind (i.here (wpAny_bind ((PySem.W.looks_findIn X j).here (wpAny_bind (wpAny_pure ?_))))));refine qbZ X c.cls I hw hsz fun h' tk' r i2 i3=>?_;exact wpAny_pure (wpAny_pure (u h' tk' r i2 i3))
end
end L2
namespace L2
open PySem PySem.Spec PyProof.Rows
noncomputable abbrev excObj (C t:Addr) (dd:Option Addr):Obj:={ cls:=.ref C,dict:=dd,data:=.fields #[.ref t,.none,.none,.none,.bool false,.none] }
noncomputable abbrev argObj (rest:List Value):Obj:={ cls:=.type "tuple",data:=.seq rest.toArray }
section
variable {prog:Program} {w:World} {A:Around} {R:Result->Shared->Prop} {h:Heap} {g:Array GenState} {d:Drawn} {t:Nat} {os:OsState} {K:PySem.W.Frag} {C fI:Addr} {rest:List Value}
theorem qe3 (X:K.In h) (q:xcIn K C (some (.ref fI))=true) (hf:PySem.W.typeIn K (.ref fI)=some (.type "function")) (c:rest.length<=sizeLine)
  (s:codeAny (model prog w) (A.under (.builtin "type.__call__" ⟨.ref C::rest,[]⟩)) (.call (.ref fI) ⟨.ref (h.objs.size+1)::rest,[]⟩) (PySem.W.InitBack (h.objs.size+1) R) ⟨(h.push (argObj rest)).push (excObj C h.objs.size none),g,d,t,os⟩) :
  codeAny (model prog w) A (.call (.ref C) ⟨rest,[]⟩) R ⟨h,g,d,t,os⟩:=by
 obtain ⟨x,N,nm,qn,bs,sn,y,ab,n,dd,k0,k1,k2,k3,k5,mN,a,p,k,T⟩:=qX5 X q;have F:=PySem.F.excBase_ValueError;have f1:=tc_lookup;have f2:=tc_bind (.ref C);have hT:(⟨h,g,d,t,os⟩:Shared).TypeIs (.ref C) "type":=⟨_,a,rfl⟩;refine codeAny_of_tree ?_;show wpAny _ _ (callAny (.ref C) _) _ _ _
 repeat (any_goals (first | assumption | with_reducible refine wpAny_loadPart_at a ?_ | wp_step))
 refine ⟨rfl,?_⟩;show codeAny (model prog w) A (.call (.builtin "type.__call__") ⟨.ref C::rest,[]⟩) R ⟨h,g,d,t,os⟩;refine codeAny_call_builtin_at (Code.quiet_builtin _ (by decide +kernel)) entry_typeCall (wpAny_check_type_call_sub a ?_)
 repeat (first | with_reducible refine wpAny_loadPart_at a ?_ | with_reducible refine wpAny_madeBy_exc a ?_ | wp_step)
 refine codeAny_call_builtin_code (Code.quiet_builtin _ F.quiet) (wpAny_check_new_subT F T a ?_);refine codeAny_exc_new_subT F T a ?_ c;show wpAny _ _ _ _ _ _;have j:∀ b o,h.get? b=some o->((h.push (argObj rest)).push (excObj C h.objs.size none)).get? b=some o:=fun b o e=>Heap.get?_push_of_some _ (Heap.get?_push_of_some _ e);have f:=j _ _ a;have l:((h.push (argObj rest)).push (excObj C h.objs.size none)).Ns N mN:=let ⟨o,es,ep,e,r⟩:=p;⟨o,es,ep,j _ _ e,r⟩
 have i:((h.push (argObj rest)).push (excObj C h.objs.size none)).get? (h.objs.size+1)=some { cls:=.ref C,data:=.fields #[.ref h.objs.size,.none,.none,.none,.bool false,.none] }:=by heap_get
 have m:(Value.ref C::x).contains (.ref C)=true:=by simp
 have u:=T.keeps j;unfold isInstance
 repeat (first | with_reducible refine wpAny_loadPart_at i ?_ | (with_reducible refine wpAny_isSubtype_exc f ?_;rw [m]) | wp_step)
 show wpAny _ _ (typeLookup (.ref C) _) _ _ _;refine wpAny_typeLookup_tail f l u F.mroIs F.init.lookup ?_;rw [k];have b1:=(PySem.W.bind_fn (M:=model prog w) X (.ref (h.objs.size+1)) hf).keeps j;refine wpAny_holding (wpAny_bind (b1.here (wpAny_bind (wpAny_call (codeAny_mono s fun r s' z=>?_)))));rcases r with e | (v | _ | _ | _) <;> first | exact z | exact z.elim | skip;obtain ⟨rfl,z⟩:=z;exact wpAny_pure (wpAny_pure z)
end
section
variable {M:Model} {A:Around} {E:Value->Shared->Prop} {env:Env} {K:PySem.W.Frag} {C:Addr} {init:Option Value}
theorem qc0 {s:Shared} {x:Sem Value} {Q:Flow->Shared->Prop} (q:A.handled=none) (c:xcIn K C init=true)
  (h:wpAny M A x (fun v s₁=>∃ e t dd,v=.ref e/\K.In s₁.heap/\s₁.heap.get? e=some (excObj C t dd)/\E (.ref e) s₁) E s) :
  wpAny M A (raiseStmt env (some x) none) Q E s:=by
 unfold raiseStmt;refine wpAny_bind (wpAny_mono h (fun v s₁ m=>?_) fun _ _ x=>x);obtain ⟨e,t,u,rfl,X,r,p⟩:=m;obtain ⟨n,N,nm,y,bs,sn,o,ab,j,dd,k0,k1,k2,k3,k5,mN,i,z,k,T⟩:=qX5 X c;have f:(Value.ref C::n).contains (.type "BaseException")=true:=by rw [List.contains_cons,T.hasType (X:="BaseException") (b:=true) (by decide +kernel),Bool.or_true]
 obtain ⟨l,g,d,tk,w⟩:=s₁;have a:l.get? e=some { cls:=.ref C,dict:=u,data:=.fields #[.ref t,.none,.none,.none,.bool false,.none] }:=r
 repeat (first | with_reducible refine wpAny_loadPart_at a ?_ | with_reducible refine wpAny_loadPart_at i ?_ | (with_reducible refine wpAny_isSubtype_exc i ?_;rw [f]) | wp_step)
 exact wpAny_raiseNew_none q p
end
def ExcN (x C:Addr) (dd:Option Addr):HO:=.ext fun h=>∃ t,h.get? x=some (excObj C t dd)
theorem qW3 {P:Program} {w:World} {H:Hp} {h:Heap} {x C t:Addr} {b:Option Addr} (e:h.get? x=some (excObj C t b)):ObjOk P w H h x (ExcN x C b):=⟨⟨t,e⟩,⟨_,e⟩,fun _ _ ⟨t,a⟩ k=>⟨t,k _ a⟩⟩
def XDic (dx:Addr) (fs:List (Str × V)):HO:=.ext fun h=>∃ mA,h.Ns1 dx mA/\(∀ f,RelO (fs.lookup f) (mA f))/\PySem.Within mA (fs.map (·.1))
theorem qTT {P:Program} {w:World} {H:Hp} {h:Heap} {c:Addr} {d:List (Str × V)} {mA:Str->Option Value} (e:h.Ns1 c mA) (r:∀ f,RelO (d.lookup f) (mA f)) (g:PySem.Within mA (d.map (·.1))):ObjOk P w H h c (XDic c d):=by
 obtain ⟨o,_,_,i,_⟩:=id e;refine ⟨⟨mA,e,r,g⟩,⟨o,i⟩,?_⟩;rintro h1 h2 ⟨mB,⟨o1,es,ep,a,b⟩,r1,w1⟩ k;exact ⟨mB,⟨o1,es,ep,k _ a,b⟩,r1,w1⟩
section
variable {X:Cx} {Aa:List (Addr × Obj)} {σ:St} {H:Hp} {s:Shared}
theorem Inv.untrack {e:Addr} {φ:Heap->Prop} (I:Inv X Aa σ (Af H e (.ext φ)) s) (i:H e=none):Inv X Aa σ H s:=by
 have g:∀ b,(Af H e (.ext φ)) b=none->H b=none:=fun b q=>by
  by_cases f:b=e
  ·rw [f];exact i
  ·rw [qA8 f] at q;exact q
 have d:∀ b u,(Af H e (.ext φ)) b=some u->(∀ ψ,u ≠ .ext ψ)->H b=some u:=fun b u q n=>by
  by_cases f:b=e
  ·rw [f,qA1] at q;cases q;exact absurd rfl (n φ)
  ·rw [qA8 f] at q;exact q
 refine ⟨I.ok,I.os,I.bare,⟨I.base.keep,I.base.slot,fun b h q n m=>g _ (I.base.free b h q n m),I.base.there,fun b j q=>d _ _ (I.base.tups b j q) (fun _ z=>nomatch z),fun b h u q=>d _ _ (I.base.frzs b h u q) (fun _ z=>nomatch z),fun b o q=>?_⟩,I.loc,I.cell,g _ I.free,fun x c q=>g _ (I.freeC x c q),fun p k=>?_,fun b u q=>?_,I.len⟩
 ·exact d _ _ (I.base.tbls b o q) (fun _ z=>nomatch z)
 ·obtain ⟨a,b,c⟩:=I.pin p k;exact ⟨a,g _ b,c⟩
 ·have l:(Af H e (.ext φ)) b=some u:=by rw [qA8 (qA4 q i)];exact q
  exact (I.hok b u l).stay (fun _ _ _ z=>z) (fun c z=>d _ _ z (fun _ z=>nomatch z)) (fun c j z=>d _ _ z (fun _ z=>nomatch z)) fun c t z=>d _ _ z (fun _ z=>nomatch z)
theorem Inv.flies {e C t:Addr} {h:Option Addr} {G:XK} (I:Inv X Aa σ H s) (f:X.ex=[]) (u:s.heap.get? e=some (excObj C t h)) (l:H e=none) (d:X.s₀.heap.objs.size<=e) (n:e ∉ frs X.stack) (g:G (.ref C) h H):XP X G (.ref e) s:=by
 have r:∀ b,Kp X.outer H X.s₀.heap b->b ∉ e::frs X.stack:=fun b k p=>by
  rcases List.mem_cons.mp p with z | z
  ·rcases k with ⟨o,q⟩ | ⟨⟨o,q⟩,_⟩
   ·rw [z,l] at q;cases q
   ·rw [z] at q;exact absurd (Heap.lt_size q) (Nat.not_lt.mpr d)
  ·rcases k with ⟨o,q⟩ | ⟨⟨o,q⟩,m⟩
   ·rw [I.stkFree b z] at q;cases q
   ·rcases List.mem_cons.mp (I.stkSub b z) with z2 | z2
    ·rw [z2] at q;exact absurd (Heap.lt_size q) (Nat.not_lt.mpr I.ok.above)
    ·exact m z2
 have j:=I.base;rw [f] at j;refine ⟨I.ok.frames,e,.ref C,h,H,PySem.W.hideAll s.heap (e::frs X.stack),false,rfl,I.os,I.bare,⟨j,I.hok,⟨fun b o q=>PySem.W.of_hideAll _ q,PySem.W.hideAll_none _ (by simp),?_,_,_,.none,u,rfl,rfl,rfl,rfl,.inl ⟨rfl,rfl⟩⟩,fun b o q k=>PySem.W.hideAll_get _ q (r b k),l,d⟩,g⟩
 exact PySem.W.funFrames_hide I.stack fun i c a v=>List.mem_cons_of_mem _ (List.mem_filterMap.mpr ⟨i,c,v⟩)
end
section
variable {X:Cx}
def qZX (C:Addr) (sp:Sp) (G:XK) (t:TA):TS:=fun _ σ H=>t σ H fun vs H1=>∀ x,H1 x=none->sp (.ref x::vs) (Af H1 x (ExcN x C none)) (fun v H2=>v=.non/\∃ dd H3,H2=Af H3 x (ExcN x C dd)/\H3 x=none/\G (.ref C) dd H3) E0
theorem qP8 {G:XK} {k:Nat} {C f:Addr} {fd:FuncData} {ps:List Str} {sp:Sp} {m:Str} {pn p j:Pos} {a:Expr} {g:List Expr} {t:TA} (y:X.ex=[]) (hc:X.calm=true) (c:XCls X.K C (some (.ref f))) (hf:PySem.W.isFn X.K (.ref f)=true)
  (F:FnOk X.prog X.w X.K X.mg X.base CX0 k f fd ps sp) (hr:Room (k+1) X.A) (hg:Gl X m) (hm:X.mg m=some (.ref C)) (hb:Binds X.K fd ps []) (ha:PA X.nox (a::g) t) (a3:ps.length<=100)
  (a0:(m == ("__debug__" : Str))=false:=by decide) (he:starEach (a::g) X.env=(false,eval a X.env)::starEach g X.env:=by rfl) (a1:(backTo p (starEach g X.env)).any (·.1)=false:=by rfl) :
  PS (X.wish (XP X G)) (.Raise (some (.Call (.Name m pn) (a::g) [] p)) none j) (qZX C sp G t):=by
 intro Aa s σ H D I h;have I:=I.unwish;show wpAny (model X.prog X.w) X.A (exec (.Raise (some (.Call (.Name m pn) (a::g) [] p)) none j) X.env) _ (XP X G) s;rw [arm_exec_Raise];refine wpAny_bind (wpAny_standAt ?_);refine qc0 (K:=X.K) (I.ok.hd hc) c.cls ?_;refine wpAny_bind (wpAny_mono ?_ (fun v s₁ hv=>wpAny_bind (wpAny_standAt (wpAny_pure hv))) fun _ _ z=>z);refine wpAny_Call_Name_kw (qLB I hg hm ?_ a0);refine PySem.W.callWith_K (h₀:=X.base) I.ok.mod.kin c.kp (wpAny_mono (ha p Aa s σ H _ (I.wish _) h) (fun us s1 ⟨vs,H1,I1,r,q⟩=>⟨I1.unwish.kIn,?_⟩) fun _ _ z=>z.elim) he a1;have I1:=I1.unwish;have hq:=q (s1.heap.objs.size+1) (I1.hok.fresh (Nat.le_succ _));have n:((s1.heap.push (argObj us)).push (excObj C s1.heap.objs.size none)).get? (s1.heap.objs.size+1)=some (excObj C s1.heap.objs.size none):=by heap_get
 have I2:Inv X Aa σ (Af H1 (s1.heap.objs.size+1) (ExcN (s1.heap.objs.size+1) C none)) { s1 with heap:=(s1.heap.push (argObj us)).push (excObj C s1.heap.objs.size none) }:=
  I1.laid (t':=s1.toks) (fun b o e=>Heap.get?_push_of_some _ (Heap.get?_push_of_some _ e)) (Nat.le_succ _) (qW3 n)
 have r2:Vals (V.ref (s1.heap.objs.size+1)::vs) (Value.ref (s1.heap.objs.size+1)::us):=.cons rfl r;have hl:=F.len _ _ _ _ hq;have l:(Value.ref (s1.heap.objs.size+1)::us).length=ps.length:=by rw [<- r2.length];exact hl
 have a2:BindsTo { s1 with heap:=(s1.heap.push (argObj us)).push (excObj C s1.heap.objs.size none) } fd ⟨Value.ref (s1.heap.objs.size+1)::us,[]⟩ (ps.zip (Value.ref (s1.heap.objs.size+1)::us)):=by
  have:=hb { s1 with heap:=(s1.heap.push (argObj us)).push (excObj C s1.heap.objs.size none) } (Value.ref (s1.heap.objs.size+1)::us) I2.kIn (by rw [List.append_nil];exact l)
  rw [List.append_nil] at this;exact this
 refine wpAny_call (qe3 (fI:=f) I1.kIn c.cls (beq_iff_eq.mp hf) ?_ (codeAny_mono (F.run _ X.stack _ _ ⟨Value.ref (s1.heap.objs.size+1)::us,[]⟩ (Value.ref (s1.heap.objs.size+1)::us) _ _ E0 (hr.make C us []) (I2.env0.make C us []) a2 r2 hq) fun r s' d=>?_))
 ·rw [sizeLine_eq,List.nil_append];rw [List.length_cons] at l
  lia
 cases r with
 | error e=>exact False.elim d
 | ok fl=>
  cases fl with
  | ret u=>
   obtain ⟨v,H',x,rv,ev,dd,H3,e3,n3,g3⟩:=I2.after d;subst ev;subst e3;obtain ⟨⟨t3,i⟩,_⟩:=x.hok _ _ qA1;refine ⟨rv,s1.heap.objs.size+1,t3,dd,rfl,x.kIn,i,?_⟩;refine (x.untrack n3).flies y i n3 (Nat.le_trans I1.sz (Nat.le_succ _)) (fun z=>?_) g3;have:=x.stkFree _ z;rw [qA1] at this;cases this
  | next=>exact False.elim d
  | brk=>exact False.elim d
  | cont=>exact False.elim d
def qeI (K:PySem.W.Frag) (ta tv:TE) (f:Str) (C:Addr):TS:=fun D σ H=>tv σ H fun y H1=>ta σ H1 fun x H2=>∃ a dd,x=.ref a/\H2 a=some (ExcN a C dd)/\PySem.W.findIn K (.ref C) f=some none/\
 ((dd=none/\∀ dx,H2 dx=none->dx ≠ a->D.nx σ (Af (Af H2 dx (XDic dx [(f,y)])) a (ExcN a C (some dx))))\/∃ dx fs,dd=some dx/\dx ≠ a/\H2 dx=some (XDic dx fs)/\fs.length<1000/\D.nx σ (Af H2 dx (XDic dx (putF f y fs))))
theorem qaJ {C:Addr} {a2:Option Value} {o j:Expr} {f:Str} {a1 w:Pos} {ta tv:TE} (c:XCls X.K C a2) (ha:PE X o ta) (hv:PE X j tv) (hs:swapsWith j (some (.Attribute o f w)) a1.line X.env=pure false:=by rfl):PS X (.Assign [.Attribute o f w] j a1) (qeI X.K ta tv f C):=by
 intro Aa s σ H D I h;refine plainObj_wpAny_Assign_Attribute (thn (hv Aa s σ H _ I h) fun u s1 ⟨y,H1,I1,ry,q⟩=>thn (ha Aa s1 σ H1 _ I1 q) fun ov s2 ⟨x,H2,I2,rx,a,dd,ex,ea,hna,q2⟩=>?_) hs;subst ex;obtain rfl:ov=Value.ref a:=rx;obtain ⟨⟨t,ht⟩,_⟩:=I2.hok _ _ ea;obtain ⟨i,g2,d2,t2,a4⟩:=s2;rcases q2 with ⟨rfl,q2⟩ | ⟨dx,fs,rfl,a5,ed,hl,q2⟩
 ·refine xset (mA:=fun _=>none) (ns:=[]) I2.kIn c hna ⟨_,ht,rfl,(fun _ z=>nomatch z),.inl ⟨rfl,fun _=>rfl⟩⟩ Within.nil (by simp) fun h' n i1 i2 i3=>?_
  obtain ⟨o1,e1,e2,e3,e4,_,k⟩:=i3 _ ht;have k:=k rfl;obtain ⟨o2,f1,f2,_,f4⟩:=i1;rw [e1] at f1;cases f1;have sz:a<i.objs.size:=Heap.lt_size ht;have nd:i.objs.size ≠ a:=Nat.ne_of_gt sz;have r:h'.get? a=some (excObj C t (some i.objs.size)):=by
   rw [e1];obtain ⟨c1,c2,c3,c4⟩:=o1;simp only at e2 e3 e4 k;rw [e2,e3,e4,k]
  have v:h'.Ns1 i.objs.size (fun y=>if y=f then some u else none):=by
   rcases f4 with ⟨z,_⟩ | ⟨d,z,_,hn⟩
   ·rw [k] at z;cases z
   ·rw [k] at z;cases z;exact hn
  have fr:H2 i.objs.size=none:=I2.hok.fresh (Nat.le_refl _);have kp:∀ b ob,b ≠ a->i.get? b=some ob->h'.get? b=some ob:=fun b ob hb q=>i2 b ob hb (fun o₀ dx z1 z2=>by rw [ht] at z1;cases z1;cases z2) q
  refine ⟨σ,_,?_,q2 i.objs.size fr nd⟩;have I3:Inv X Aa σ (Af H2 a (ExcN a C (some i.objs.size))) ⟨h',g2,d2,n,a4⟩:=
   I2.write (h':=h') (t':=n) (x:=a) (e:=a) (o:=ExcN a C (some i.objs.size)) (by rw [ea];exact trivial) (.inl rfl) (fun b ob hb q=>kp b ob hb q) ⟨_,r⟩ (qW3 r)
  have na:(Af H2 a (ExcN a C (some i.objs.size))) i.objs.size=none:=by rw [qA8 nd];exact fr
  have lt:∀ b ob,i.get? b=some ob->b ≠ i.objs.size:=fun b ob q=>Nat.ne_of_lt (Heap.lt_size q);have I4:=I3.track (T:=i.objs.size) (o:=XDic i.objs.size [(f,y)]) na (Nat.le_trans I2.sz (Nat.le_refl _)) (fun z=>by
    obtain ⟨m,⟨oL,_,_,hL,_⟩,_⟩:=I2.loc;exact lt _ _ hL z.symm) (fun y' c' q z=>by
    obtain ⟨v',oc,q3,_⟩:=I2.cell y' c' q;exact lt _ _ q3 z) (fun p hp z=>lt _ _ (I2.pin p hp).1 z) (qTT v (fun g=>?_) (fun g hg=>?_))
  ·have ec:Af (Af H2 a (ExcN a C (some i.objs.size))) i.objs.size (XDic i.objs.size [(f,y)])=Af (Af H2 i.objs.size (XDic i.objs.size [(f,y)])) a (ExcN a C (some i.objs.size)):=by
    funext b
    unfold Af;by_cases a0:b=i.objs.size
    ·subst a0;simp [nd]
    ·by_cases l:b=a
     ·simp [a0,l,nd.symm]
     ·simp [a0,l]
   rw [<- ec];exact I4
  ·rw [List.lookup_cons];by_cases q:g=f
   ·subst q;simp;exact ry
   ·rw [if_neg q,show (g == f)=false from beq_eq_false_iff_ne.mpr q];trivial
  ·by_cases q:g=f
   ·subst q;simp
   ·exact absurd (if_neg q) hg
 ·obtain ⟨⟨mA,hm,hr,a3⟩,_⟩:=I2.hok _ _ ed;refine xset (mA:=mA) (ns:=fs.map (·.1)) I2.kIn c hna ⟨_,ht,rfl,(fun _ z=>nomatch z),.inr ⟨dx,rfl,a5,hm⟩⟩ a3 (by rw [List.length_map];lia) fun h' n i1 i2 i3=>?_
  obtain ⟨o1,e1,e2,e3,e4,k,_⟩:=i3 _ ht;have k:=k dx rfl;obtain ⟨o2,f1,f2,_,f4⟩:=i1;rw [e1] at f1;cases f1;have r:h'.get? a=some (excObj C t (some dx)):=by
   rw [e1];obtain ⟨c1,c2,c3,c4⟩:=o1;simp only at e2 e3 e4 k;rw [e2,e3,e4,k]
  have v:h'.Ns1 dx (fun y=>if y=f then some u else mA y):=by
   rcases f4 with ⟨z,_⟩ | ⟨d,z,_,hn⟩
   ·rw [k] at z;cases z
   ·rw [k] at z;cases z;exact hn
  refine ⟨σ,_,?_,q2⟩;refine I2.write (h':=h') (t':=n) (x:=dx) (e:=dx) (o:=XDic dx (putF f y fs)) (by rw [ed];exact trivial) (.inl rfl) (fun b ob hb q=>?_) ?_ (qTT v (fun g=>?_) fun g hg=>?_)
  ·by_cases l:b=a
   ·rw [l] at q ⊢;rw [ht] at q;cases q;exact r
   ·exact i2 b ob l (fun o₀ a6 z1 z2=>by rw [ht] at z1;cases z1;cases z2;exact hb) q
  ·obtain ⟨o,_,_,ho,_⟩:=v;exact ⟨o,ho⟩
  ·show RelO ((putF f y fs).lookup g) (if g=f then some u else mA g)
   rw [qAI];by_cases q:g=f
   ·rw [if_pos q,if_pos q];exact ry
   ·rw [if_neg q,if_neg q];exact hr g
  ·by_cases q:g=f
   ·rw [q];exact (qFL f y fs).1
   ·refine (qFL f y fs).2 g (a3 g fun z=>hg ?_);show (if g=f then some u else mA g)=none
    rw [if_neg q];exact z
end
end L2
namespace L2
open PySem PySem.Spec PyProof.Rows
structure XGet (K:PySem.W.Frag) (C:Addr):Prop where
 ga:PySem.W.findIn K (.ref C) "__getattribute__" = some (some (.builtin "BaseException.__getattribute__"))
 gt:PySem.W.findIn K (.ref C) "__getattr__" = some none
 be:PySem.W.mroIn K C (.type "BaseException")=some true
 hd:PySem.W.hasDictIn K C=true
section
variable {prog:Program} {w:World} {A:Around} {E:Value->Shared->Prop} {s:Shared} {K:PySem.W.Frag} {x C:Addr} {ox:Obj} {od:Option Obj} {name:Str} {tk:Tok}
theorem qQ6:builtinKind "BaseException.__getattribute__" = some .slot:=by decide +kernel
theorem qTN:splitId "BaseException.__getattribute__" = some ("BaseException","__getattribute__"):=by decide +kernel
theorem qTO:plainId "BaseException.__getattribute__" = true:=by decide +kernel
theorem qWS (a:Value):bindSpecial (.builtin "BaseException.__getattribute__") a=pure (.builtin "BaseException.__getattribute__",[a]):=by
 have c:withoutEnding? "BaseException.__getattribute__" "#opaque" = none:=by decide +kernel
 have b:withoutEnding? "BaseException.__getattribute__" "#data" = none:=by decide +kernel
 simp only [bindSpecial,typeOf,builtinType,c,b,qQ6];rfl
theorem qRI {R:Result->Shared->Prop} {r:Builtin.ObjectAttr.Found} (X:K.In s.heap) (I:PySem.W.InstAt s.heap x ox C od) (c:XGet K C) (i:PySem.W.findObj K C od name=some r)
  (h:match r with | .value v=>R (.ok (.ret v)) s | .bind g a=>codeAny (model prog w) A.in1 (.call g ⟨[a,.ref x,.ref C],[]⟩) (fun r s'=>match r with | .ok (.ret v)=>R (.ok (.ret v)) s' | .ok _=>False | .error e=>R (.error e) s') s | .missing=>False) :
  codeAny (model prog w) A (.call (.builtin "BaseException.__getattribute__") ⟨[.ref x,.str name tk],[]⟩) R s:=by
 have b:=I.type (M:=model prog w);have f:=PySem.W.looks_find (M:=model prog w) X I i;have d:PySem.W.Looks (model prog w) s.heap (isInstance (.ref x) (.type "BaseException")) true:=b.andThen (PySem.W.looks_mroIn X c.be);refine codeAny_call_builtin qTO PySem.F.entry_bexc_ga (@PySem.W.check_slot (model prog w) _ _ s "BaseException.__getattribute__" "BaseException" "__getattribute__" (.ref x) [.str name tk] [] _ qQ6 qTN d (PySem.F.args_bexc_ga (.ref x) (.str name tk)) ?_);unfold Builtin.«object.__getattribute__»;refine wpAny_bind (wpAny_of_eq (a:=(Value.ref x,[Value.str name tk])) rfl (wpAny_bind (wpAny_of_eq (a:=name) rfl (wpAny_bind (b.here (wpAny_bind (f.here ?_)))))));cases r with
 | value v=>exact wpAny_pure h
 | bind g a=>
  show wpAny _ _ (holding [a] (call g [a,.ref x,.ref C]) >>= ret) _ _ _;refine wpAny_bind (wpAny_holding (wpAny_call (codeAny_mono h fun r s' z=>?_)));cases r with
  | error e=>exact z
  | ok fl=>
   cases fl with
   | ret v=>exact wpAny_pure z
   | next=>exact False.elim z
   | brk=>exact False.elim z
   | cont=>exact False.elim z
 | missing=>exact h.elim
theorem qYP {b a:Bool} {Q:Value->Shared->Prop} (X:K.In s.heap) (I:PySem.W.InstAt s.heap x ox C od) (c:XGet K C)
  (h:codeAny (model prog w) A (.call (.builtin "BaseException.__getattribute__") ⟨[.ref x,.str name tk],[]⟩) (fun r s'=>match r with | .ok (.ret v)=>wpAny (model prog w) A (handedOut v) Q E s' | _=>False) s) :
  wpAny (model prog w) A (getAttrBy (.ref x) (.str name tk) b a) Q E s:=by
 have j:=I.type (M:=model prog w);have i:=PySem.W.looks_findIn (M:=model prog w) X c.ga;have g:=PySem.W.looks_findIn (M:=model prog w) X c.gt;unfold getAttrBy;refine wpAny_holding (wpAny_bind (j.here (wpAny_bind (i.here ?_))));have d:(Value.builtin "BaseException.__getattribute__" == Value.builtin "object.__getattribute__")=false:=by decide +kernel
 dsimp only;rw [d,Bool.and_false,if_neg Bool.false_ne_true];unfold getAttrByItsOwn hookBefore;refine wpAny_bind (g.here (wpAny_bind (wpAny_attempt ?_)));refine wpAny_holding ?_;unfold callGetattribute;have f:(a && onTheHeap (Value.builtin "BaseException.__getattribute__"))=false:=by cases a <;> rfl
 rw [f,if_neg Bool.false_ne_true];unfold boundAndCalled;rw [qWS];refine wpAny_bind (wpAny_pure ?_);refine wpAny_call (codeAny_mono h fun r s' z=>?_);cases r with
 | error e=>exact False.elim z
 | ok fl=>
  cases fl with
  | ret v=>exact z
  | next=>exact False.elim z
  | brk=>exact False.elim z
  | cont=>exact False.elim z
theorem qc6 {Q:Option Value->Shared->Prop} (X:K.In s.heap) (I:PySem.W.InstAt s.heap x ox C od) (c:XGet K C) (g:PySem.W.findIn K (.ref C) "__class__" = some (some (.builtin "object.__class__")))
  (f:PySem.W.specialIn K (.builtin "object.__class__") "__get__" = some (some (.builtin "getset_descriptor.__get__"))) (a:PySem.W.takesIn K (.builtin "object.__class__")=some true) (e:PySem.W.mroIn K C (.type "object")=some true)
  (h:Q (some (.ref C)) { s with toks:=s.toks+1 }):wpAny (model prog w) A (getAttr? (.ref x) "__class__") Q E s:=by
 have d:PySem.W.findObj K C od "__class__" = some (.bind (.builtin "getset_descriptor.__get__") (.builtin "object.__class__")):=by
  obtain ⟨i,b,_⟩:=PySem.W.any_some c.hd;unfold PySem.W.findObj;rw [b,g];simp only [Option.bind_some,f,a]
 unfold getAttr? getAttrBy?;refine wpAny_bind (wpAny_mkText (wpAny_bind (wpAny_attempt ?_)));refine qYP (s:={ s with toks:=s.toks+1 }) X I c (qRI (s:={ s with toks:=s.toks+1 }) X I c d ?_);refine PySem.W.class_get (s:={ s with toks:=s.toks+1 }) (ox:=ox) (od:=od) X I e ?_;exact wpAny_pure (wpAny_pure h)
theorem qX4 {a:Bool} {Q:Value->Shared->Prop} {g:Addr} {mA:Str->Option Value} {v:Value} (X:K.In s.heap) (n:s.heap.get? x=some ox) (i:ox.cls=.ref C) (e:PySem.W.notCls ox=true) (hd:ox.dict=some g) (d:s.heap.Ns1 g mA) (c:XGet K C) (o:PySem.W.findIn K (.ref C) name=some none) (j:mA name=some v) (b:PySem.W.handedIn v=true)
  (h:Q v { s with toks:=s.toks+1 }):wpAny (model prog w) A (getAttr (.ref x) name a) Q E s:=by
 obtain ⟨f,l,m⟩:=qPG d;have I:PySem.W.InstAt s.heap x ox C (some f):=⟨n,i,e,by rw [hd];exact l⟩
 have k:PySem.W.findObj K C (some f) name=some (.value v):=PySem.W.findObj_own c.hd o rfl (by rw [m,j])
 unfold getAttr;refine wpAny_bind (wpAny_mkText ?_);refine qYP (s:={ s with toks:=s.toks+1 }) X I c (qRI (s:={ s with toks:=s.toks+1 }) X I c k ?_);show wpAny _ _ (handedOut v) _ _ _;rw [PySem.W.handedOut_of b];exact wpAny_pure h
end
structure XTy (K:PySem.W.Frag) (C:Addr):Prop extends XGet K C where
 ca:PySem.W.findIn K (.ref C) "__class__" = some (some (.builtin "object.__class__"))
 cn:PySem.W.specialIn K (.builtin "object.__class__") "__get__" = some (some (.builtin "getset_descriptor.__get__"))
 ct:PySem.W.takesIn K (.builtin "object.__class__")=some true
 cm:PySem.W.mroIn K C (.type "object")=some true
section
variable {K:PySem.W.Frag}
theorem qS6 {x D:Addr} (c:XTy K D):PySem.W.KitX K (.ref x) (.ref D) (fun h=>∃ (ox:Obj) (od:Option Obj),PySem.W.InstAt h x ox D od) where
 ty:=fun _ _ _ ⟨_,_,I⟩=>I.type
 it:=fun _ _ X _=>by
  obtain ⟨b,a,_⟩:=PySem.W.any_some c.hd;unfold PySem.W.clsIn at a
  split at a
  ·rename_i c' d' cd' sl' ho
   intro l j o p k q;unfold isType loadHead;exact wpAny_bind (wpAny_loadPart (k _ _ (X _ _ ho)) (wpAny_pure q))
  ·cases a
 ne:=fun h f m g n i X d=>by
  obtain ⟨b,a,_⟩:=PySem.W.any_some c.hd;refine Bool.eq_false_iff.mpr fun q=>?_;have e:D=f:=Value.ref.inj (beq_iff_eq.mp q);subst e;unfold PySem.W.clsIn at a
  split at a
  ·rename_i c' d' cd' sl' ho
   have z:=(X _ _ ho).symm.trans d;cases z
  ·cases a
 ca:=fun X ⟨_,_,I⟩ k=>qc6 X I c.toXGet c.ca c.cn c.ct c.cm k
end
section
variable {X:Cx}
def ExcT (H:Hp) (e C:Addr) (dd:Option Addr):Prop:=H e=some (ExcO e (.ref C) dd)/\(∀ dx,dd=some dx->∃ fs,H dx=some (XDic dx fs))
theorem qSH {Aa:List (Addr × Obj)} {σ:St} {H:Hp} {s:Shared} {e C:Addr} {b:Option Addr} (I:Inv X Aa σ H s) (h:ExcT H e C b):∃ (ox:Obj) (od:Option Obj),PySem.W.InstAt s.heap e ox C od/\ox.dict=b:=by
 obtain ⟨⟨c,l,g,f,a,k⟩,_⟩:=I.hok _ _ h.1;have d:PySem.W.notCls c=true:=by unfold PySem.W.notCls;rw [k]
 cases b with
 | none=>exact ⟨c,none,⟨g,f,d,by rw [a];trivial⟩,a⟩
 | some dx=>
  obtain ⟨m,i⟩:=h.2 dx rfl;obtain ⟨⟨n,⟨od,_,_,j,_⟩,_⟩,_⟩:=I.hok _ _ i;exact ⟨c,some od,⟨g,f,d,by rw [a];exact j⟩,a⟩
theorem qSN:qD1 X (.builtin "isinstance") (fun xs H Q=>∃ e C dd y c b,xs=[.ref e,y]/\ExcT H e C dd/\XTy X.K C/\RelV y c/\(∀ c',RelV y c'->c'=c)/\PySem.W.kitOne X.K (.ref C) c=some b/\Q (.bl b) H):=by
 intro m s σ H xs o Q I r h;obtain ⟨e,C,dd,y,c,b,rfl,j,k,p,l,g,q⟩:=h;obtain ⟨u,v,rfl,f,i⟩:=qOT r;cases (show u=Value.ref e from f);cases l _ i;obtain ⟨d,a,J,_⟩:=qSH I j;exact PySem.W.kia_one (qS6 k) I.kIn ⟨d,a,J⟩ g (fun z=>nomatch z) fun n=>⟨.bl b,H,I.tok _,rfl,q⟩
theorem qUP:∀ {cs:List Addr} {its:List Value},Vals (cs.map V.ref) its->its=cs.map Value.ref
 | [],_,.nil=>rfl
 | a::l,_,.cons r t=>by
  cases (show _=Value.ref a from r);rw [qUP t]
  rfl
theorem qWP:qD1 X (.builtin "isinstance") (fun xs H Q=>∃ (e C:Addr) (dd:Option Addr) (tp:Addr) (cs:List Addr) (b:Bool),xs=[.ref e,.ref tp]/\ExcT H e C dd/\XTy X.K C/\H tp=some (.tup (cs.map V.ref))/\PySem.W.kitAny X.K (.ref C) (cs.map Value.ref)=some b/\Q (.bl b) H):=by
 intro Aa s σ H xs us Q I r h;obtain ⟨e,C,dd,tp,cs,b,rfl,t,ty,w,x,q⟩:=h;obtain ⟨u,v,rfl,g,j⟩:=qOT r;cases (show u=Value.ref e from g);cases (show v=Value.ref tp from j);obtain ⟨o,m,J,_⟩:=qSH I t;obtain ⟨_,a,k,⟨co,y,d,p⟩,i,f,n,c⟩:=I.hok _ _ w;simp only at f c;subst f c;have l:a=cs.map Value.ref:=qUP k;subst l;exact PySem.W.kia_tup (qS6 ty) I.kIn ⟨o,m,J⟩ i x (fun z=>nomatch z) fun tk=>⟨.bl b,H,I.tok _,rfl,q⟩
def qe5 (K:PySem.W.Frag) (ta:TE) (f:Str):TE:=fun σ H Q=>ta σ H fun x H1=>∃ e C dx fs v,x=.ref e/\H1 e=some (ExcO e (.ref C) (some dx))/\H1 dx=some (XDic dx fs)/\XGet K C/\PySem.W.findIn K (.ref C) f=some none/\fs.lookup f=some v/\Q v H1
theorem qaP {o:Expr} {f:Str} {a:Pos} {d:TE} (z:PE X o d) (m:attributeBase o f X.env (eval o X.env)=eval o X.env):PE X (.Attribute o f a) (qe5 X.K d f):=by
 intro i s σ H Q I h;refine qWT m (thn (z i s σ H _ I h) fun u s1 ⟨x,H1,I1,rx,e,C,dx,fs,v,ex,ee,ed,c,n,l,q⟩=>?_);subst ex;obtain rfl:u=Value.ref e:=rx;obtain ⟨⟨oe,vs,t,j,p,k⟩,_⟩:=I1.hok _ _ ee;obtain ⟨⟨r,b,y,_⟩,_⟩:=I1.hok _ _ ed;obtain ⟨u',w,g⟩:=RelO.some_of (v:=v) (o:=r f) (by rw [<- l];exact y f)
 exact qX4 I1.kIn t j (by unfold PySem.W.notCls;rw [k]) p b c n w (qPM g) ⟨v,H1,I1.tok _,g,q⟩
end
end L2
namespace L2
open PySem PySem.Spec PyProof.Rows
structure RoomH (k:Nat) (A:Around):Prop where
 dp:A.depth+3 * k+5<recursionLimit
 un:A.units+16 * k+200<cLine
structure FnOkH (P:Program) (w:World) (K:PySem.W.Frag) (mg:Str->Option Value) (base:Heap) (CX:CXT) (k:Nat) (f:Addr) (fd:FuncData) (ps:List Str) (sp:Sp):Prop where
 len:∀ vs H Q E,sp vs H Q E->vs.length=ps.length
 run:∀ (A:Around) (outer:List Env) (s:Shared) (H:Hp) (args:Args) (us:List Value) (vs:List V) (Q:VK) (E:XK),RoomH k A->Env0 P w K mg base A outer s H->BindsTo s fd args (ps.zip us)->Vals vs us->sp vs H Q E->
  codeAny (model P w) A (.call (.ref f) args) (CR CX outer P w H s Q E) s
section
variable {P:Program} {w:World} {K:PySem.W.Frag} {mg:Str->Option Value} {base:Heap}
end
section
variable {X:Cx} {CX:CXT} {k:Nat} {f C:Addr} {fd:FuncData} {ps:List Str} {sp:Sp} {dvs:List V} {ds:List Value} {E:XK} {x m:Str} {p pos apos:Pos} {e o:Expr} {es:List Expr} {ta:TE} {t:TA}
end
end L2
namespace L2
open PySem PySem.Spec PyProof.Rows
section
variable {X:Cx}
end
end L2
namespace L2
open PySem PySem.Spec PyProof.Rows
section
variable {prog:Program} {w:World} {A:Around} {E:Value->Shared->Prop} {s:Shared}
end
end L2
namespace L2
open PySem PySem.Spec PyProof.Rows
section
variable {X:Cx}
end
end L2
namespace L2
open PySem PySem.Spec PyProof.Rows
section
variable {X:Cx}
def qe6 (K:PySem.W.Frag) (ta:TA) (sp:Sp) (dvs:List V) (c:Value) (j:Option Nat) (th:TS):TS:=fun D σ H=>ta σ H fun vs H1=>
 sp (vs++dvs) H1 (fun _ H2=>D.nx σ H2) fun cls dd H2=>PySem.W.exmOne K cls c=some true/\∀ e,H2 e=none->th (D.off j) (onE σ e j) (Af H2 e (ExcO e cls dd))
end
end L2
namespace L2
open PySem PySem.Spec PyProof.Rows
structure LcScopeO (X:Cx) (scope:Scope) (own:List Str) (fv:List Nat):Prop where
 kind:scope.kind=.function
 names:∀ y ∈ scope.names,y.2=.local->scope.names.lookup y.1=some .local
 cells:∀ y ∈ scope.names,y.2=.cell->scope.names.lookup y.1=some .cell
 frees:∀ y ∈ scope.names,y.2=.free->scope.names.lookup y.1=some .free
 free:∀ y ∈ scope.names,y.2=.free->X.env.kindOf y.1=some .cell\/X.env.kindOf y.1=some .free
 nd:(own++fv.map fun i=>X.N.getD i Str.empty).Nodup
 fvs:∀ i ∈ fv,i<X.N.length/\scope.names.lookup (X.N.getD i Str.empty)=some .free
 owns:∀ x ∈ own,scope.names.lookup x=some .local\/scope.names.lookup x=some .cell
section
variable {X:Cx} {Aa:List (Addr × Obj)} {σ:St} {H:Hp} {s:Shared}
end
section
variable {X:Cx} {tg iter elt:Expr} {ifs:List Expr} {scope:Scope} {pos:Pos} {own:List Str} {fv:List Nat} {wi:TI} {g:TG} {tc:TT} {te:TE}
end
end L2
namespace L2
open PySem PySem.Spec PyProof.Rows
section
variable {prog:Program} {w:World} {A:Around} {R:Result->Shared->Prop} {I:Addr} {fp wr:List Addr} {n:Nat} {P:Nat->Value->Prop} {St:Nat->Heap->Prop}
end
section
variable {prog:Program} {w:World} {A:Around} {E:Value->Shared->Prop} {s:Shared}
end
section
variable {X:Cx}
end
end L2
namespace L2
open PySem PySem.Spec PyProof.Rows
section
variable {X:Cx}
end
end L2
namespace L2
open PySem PySem.Spec PyProof.Rows
section
variable {prog:Program} {w:World} {A:Around} {E:Value->Shared->Prop} {s:Shared}
end
section
variable {prog:Program} {w:World} {A:Around} {E:Value->Shared->Prop} {s:Shared}
end
section
variable {X:Cx}
end
end L2
namespace L2
open PySem PySem.Spec PyProof.Rows
section
variable {X:Cx}
end
end L2
namespace HT
open PySem PySem.Spec PyProof.Rows
section
variable {prog:Program} {w:World} {A:Around} {E:Value->Shared->Prop} {s:Shared}
end
end HT
namespace L2
open PySem PySem.Spec PyProof.Rows
section
variable {X:Cx}
end
section
variable {A:Around} {s:Shared}
end
section
variable {X:Cx}
end
end L2
namespace L2
open PySem PySem.Spec PyProof.Rows
section
variable {X:Cx}
end
end L2
namespace L2
open PySem PySem.Spec PyProof.Rows
section
variable {X:Cx} {e:Expr} {te:TE} {st:Option Expr} {tst:TO} {pos p2:Pos}
end
end L2
namespace L2
open PySem PySem.Spec PyProof.Rows
section
variable {X:Cx}
end
end L2
namespace L2
open PySem PySem.Spec PyProof.Rows
section
variable {prog:Program} {w:World} {A:Around} {E:Value->Shared->Prop} {s:Shared}
end
section
variable {X:Cx}
theorem qJ6 {α β:Type} {F G:α->β->Prop}:∀ {l₁:List α} {l₂:List β},Paired F l₁ l₂->(∀ a b,a ∈ l₁->F a b->G a b)->Paired G l₁ l₂:=by
 intro l₁ l₂ h f
 induction h with
 | nil=>exact .nil
 | cons r t ih=>exact .cons (f _ _ List.mem_cons_self r) (ih fun a b c=>f a b (List.mem_cons_of_mem _ c))
end
end L2
namespace L2
open PySem PySem.Spec PyProof.Rows
end L2
namespace L2
open PySem PySem.Spec PyProof.Rows
section
variable {prog:Program} {w:World} {A:Around} {R:Result->Shared->Prop} {h:Heap} {g:Array GenState} {d:Drawn} {t:Nat} {os:OsState} {K:PySem.W.Frag} {C fI:Addr} {rest:List Value}
end
end L2
namespace L2
open PySem PySem.Spec PyProof.Rows
section
variable {X:Cx}
def TB:Type:=(St->XK)->TS
end
end L2
namespace L2
open PySem PySem.Spec PyProof.Rows
section
variable {prog:Program} {w:World} {A:Around} {E:Value->Shared->Prop} {s:Shared}
end
section
variable {X:Cx} {pos:Pos}
end
end L2
namespace L2
open PySem PySem.Spec PyProof.Rows
section
variable {X:Cx} {tg:Expr}
theorem qXM {k:Key} {v:Value} (h:qPK k v=true):RelV (kV k) v:=by
 rcases qBJ h with ⟨i,t,rfl,rfl⟩ | ⟨x,t,rfl,rfl⟩
 ·exact ⟨t,rfl⟩
 ·exact ⟨t,rfl⟩
end
end L2
namespace L2
open PySem PySem.Spec PyProof.Rows
section
variable {prog:Program} {w:World} {A:Around} {E:Value->Shared->Prop} {s:Shared} {it d:Addr} {i n ep:Nat} {od:Obj} {es:Array DictEntry}
end
section
variable {X:Cx} {tg:Expr}
end
section
variable {X:Cx} {k v:Expr} {tk tv:TE} {pos:Pos}
end
end L2
namespace L2
open PySem PySem.Spec PyProof.Rows
section
variable {X:Cx} {Aa:List (Addr × Obj)} {σ:St} {H:Hp} {s:Shared}
structure LmScope (X:Cx) (scope:Scope) (p:Str) (fv:List Nat):Prop where
 kind:scope.kind=.function
 co:scope.isCoroutine=false
 gen:scope.isGenerator=false
 nocell:∀ y ∈ scope.names,y.2 ≠ .cell
 par:scope.names.lookup p=some .local
 free:∀ y ∈ scope.names,y.2=.free->X.env.kindOf y.1=some .cell\/X.env.kindOf y.1=some .free
 fvs:∀ i ∈ fv,i<X.N.length/\scope.names.lookup (X.N.getD i Str.empty)=some .free
structure LmZ where
 A:Around
 f:Addr
 cd:Value
 s₀:Shared
 H₀:Hp
 rm:Room 0 A
noncomputable def qb8 (fv:List Nat) (σ:St) (x:V):St:=some x::fv.map fun i=>(σ[i]?).join
end
end L2
namespace L2
open PySem PySem.Spec PyProof.Rows
abbrev Sm0 (H H':Hp):Prop:=∀ b o,H b=some o->H' b=some o
section
variable {X:Cx}
structure KCmp (X:Cx) (KR:Hp->V->List Int->Prop):Prop where
 mono:∀ H H' y k,Sm0 H H'->KR H y k->KR H' y k
 cmp:∀ (Aa:List (Addr × Obj)) (σ:St) (s:Shared) (H:Hp) (y y':V) (u u':Value) (k k':List Int) (Q:Value->Shared->Prop) (E:Value->Shared->Prop),Inv X Aa σ H s->RelV y u->RelV y' u'->KR H y k->KR H y' k'->Q (.bool (HT.lexLt k k')) s->
  wpAny (model X.prog X.w) X.A.in1 (richCompare .Lt u u') Q E s
structure KeyAt (X:Cx) (σ:St) (fv:List Nat) (te:TE) (KR:Hp->V->List Int->Prop) (H0:Hp) (xs:List V) (ks:List (List Int)):Prop where
 len:ks.length=xs.length
 key:∀ (i:Nat) (x:V) (k:List Int),xs[i]?=some x->ks[i]?=some k->∀ Hc,Sm0 H0 Hc->te (qb8 fv σ x) Hc fun y H'=>Sm0 Hc H'/\KR H' y k
section
variable {Aa:List (Addr × Obj)} {σ:St} {params:Arguments} {body:Expr} {scope:Scope} {p:Str} {fv:List Nat} {q:Str} {te:TE} {KR:Hp->V->List Int->Prop} {l f cc:Addr} {ctv:Value} {H0:Hp} {xs:List V} {ks:List (List Int)} {Q:VK}
end
end
end L2
namespace L2
open PySem PySem.Spec PyProof.Rows
section
variable {X:Cx}
end
structure LTab where
 x:Str
 c:Addr
 P:Addr
 q:Str
end L2
namespace L2
open PySem PySem.Spec PyProof.Rows
section
variable {prog:Program} {w:World} {A:Around} {E:Value->Shared->Prop} {s:Shared}
end
section
variable {X:Cx}
end
end L2
namespace L2
open PySem PySem.Spec PyProof.Rows
section
open PySem.SeqAt
open PySem.AutoSeq1 (wpAny_loadPart')
open PySem.MeetsSeq PySem.MeetsSeq2 PySem.MeetsSeq3
end
section
variable {X:Cx}
end
end L2
namespace L2
open PySem PySem.Spec PyProof.Rows
section
variable {X:Cx}
def qaF:V->List V->Hp->VK->Prop:=fun x vs H Q=>∃ (l:Addr) (xs:List V) (i:Int) (y:V),x=.ref l/\vs=[.int i,y]/\H l=some (.lst xs)/\0<=i/\i<=(xs.length:Int)/\xs.length<100000/\Q .non (Af H l (.lst (xs.take i.toNat++y::xs.drop i.toNat)))
theorem qHU:MtM X "list.insert" qaF:=by
 intro o s σ H x p v us Q I f k h;obtain ⟨l,xs,i,y,rfl,rfl,d,m,hk,hz,q⟩:=h;cases f;obtain ⟨u,w,rfl,j,c⟩:=k.two;obtain ⟨t,rfl⟩:=j;obtain ⟨z,a,n,r,g,e⟩:=I.lstM d;have lr:=r.length;have hs:=sizeLine_eq;have b:¬ (!Builtin.List.listFitsIndex i)=true:=by rw [fitsIndex_both (by lia) (by lia)];decide
 refine call_meets F.slot_list_insert ⟨_,e,rfl⟩ F.entry_list_insert (F.args_list_insert_3 _ _ _) (AutoSeq1.list_insert_list_int_val_1 l a.toArray n i t w b (by rw [List.size_toArray,<- g];exact z)) ⟨e,?_⟩
 refine ⟨.non,_,I.lset (its':=a.take i.toNat++w::a.drop i.toNat) d e ?_ ((r.take i.toNat).append (.cons c (r.drop i.toNat))) ?_,rfl,q⟩
 ·dsimp only;rw [if_neg (by lia),List.size_toArray,Nat.min_eq_left (by lia)]
  simp;exact List.take_of_length_le (by rw [List.length_drop];exact Nat.le_refl _)
 ·rw [List.length_append,List.length_take,List.length_cons,List.length_drop]
  lia
end
end L2
namespace L2
open PySem PySem.Spec PyProof.Rows
section
variable {X:Cx} {tg:Expr}
theorem qOR:∀ l:List (Str × Tok),Vals ((l.map (·.1)).map V.str) (strValues l)
 | []=>.nil
 | p::r=>.cons ⟨p.2,rfl⟩ (qOR r)
theorem qU7:∀ {ys:List Str} {us:List Value},Vals (ys.map V.str) us->∃ l:List (Str × Tok),us=strValues l/\l.map (·.1)=ys
 | [],_,.nil=>⟨[],rfl,rfl⟩
 | y::ys,_,.cons r t=>by
  obtain ⟨l,rfl,e⟩:=qU7 t;obtain ⟨tk,rfl⟩:=r;exact ⟨(y,tk)::l,rfl,by rw [List.map_cons,e]⟩
def qd0:V->List V->Hp->VK->Prop:=fun x vs H Q=>∃ z y:Str,x=.str z/\vs=[.str y]/\(y.length == 0)=false/\z.length+2<=sizeLine/\∀ l,H l=none->Q (.ref l) (Af H l (.lst ((Txt.split z y).map V.str)))
theorem qF5:MtR X "str.split" qd0:=by
 intro f s σ H x m v n Q I i k h;obtain ⟨z,y,rfl,rfl,d,g,q⟩:=h;obtain ⟨t,rfl⟩:=i;obtain ⟨u,rfl,c,rfl⟩:=qEJ k;have a:∀ (l:List (Str × Tok)) (tk:Nat),l.map (·.1)=Txt.split z y->EP X f σ Q (.ref s.heap.objs.size) { s with heap:=s.heap.push { cls:=.type "list",data:=.seq (strValues l).toArray },toks:=tk }:=fun l tk e=>
  ⟨.ref s.heap.objs.size,_,I.laid (t':=tk) (o:=.lst ((Txt.split z y).map V.str)) (fun b o e=>Heap.get?_push_of_some _ e) (Nat.le_refl _) ⟨by rw [List.length_map];exact Nat.le_trans (split_le z y) g,strValues l,0,by rw [<- e];exact qOR l,Heap.get?_push_size _ rfl⟩,rfl,q _ (I.hok.fresh (Nat.le_refl _))⟩
 have j:(Builtin.Str.partsBetween z (Builtin.Str.occurrences z y 0 z.length (z.length+1)) y.length).length<=sizeLine:=by
  have:=StrLaws.occ_length_le z y 0 z.length (z.length+1);rw [length_partsBetween]
  lia
 cases h1:(decide (z.length<y.length) || decide (Builtin.Str.strKind z<Builtin.Str.strKind y))
 ·cases hf:(Builtin.Str.occurrences z y 0 z.length (z.length+1)).isEmpty
  ·refine call_meets F.slot_str_split (typeIs_str ..) F.entry_str_split (F.args_str_split_2 ..) (meets_str_split_sep z y t c h1 d hf (by lia) j) ?_
   have:=a (numbered s.toks (Builtin.Str.partsBetween z (Builtin.Str.occurrences z y 0 z.length (z.length+1)) y.length)) (s.toks+(Builtin.Str.partsBetween z (Builtin.Str.occurrences z y 0 z.length (z.length+1)) y.length).length) ((numbered_texts ..).trans (by unfold Txt.split;rw [if_neg (by rw [h1];decide),if_neg (by rw [hf];decide)]))
   rw [<- strsFrom_eq] at this;exact this
  ·exact call_meets F.slot_str_split (typeIs_str ..) F.entry_str_split (F.args_str_split_2 ..) (meets_str_split_not_found z y t c h1 d hf) (a [(z,t)] s.toks (by unfold Txt.split;rw [if_neg (by rw [h1];decide),if_pos hf];rfl))
 ·exact call_meets F.slot_str_split (typeIs_str ..) F.entry_str_split (F.args_str_split_2 ..) (meets_str_split_cannot_occur z y t c h1) (a [(z,t)] s.toks (by unfold Txt.split;rw [if_pos h1];rfl))
def qeM (K:PySem.W.Frag):V->List V->Hp->VK->Prop:=fun x vs H Q=>∃ (z:Str) (p:Addr) (ys:List Str),x=.str z/\vs=[.ref p]/\SqL K H p (ys.map V.str)/\(ys.map (·.length)).sum+ys.length * z.length<=10000000/\Q (.str (Str.join z ys)) H
theorem qSG (k:Nat):∀ (ys:List Str) (n:Nat),ys.foldl (fun a y=>a+y.length+k) n=n+((ys.map (·.length)).sum+ys.length * k)
 | [],n=>by simp
 | y::ys,n=>by
  rw [List.foldl_cons,qSG k ys,List.map_cons,List.sum_cons,List.length_cons,Nat.succ_mul]
  lia
theorem qJC:MtR X "str.join" (qeM X.K):=by
 intro d s σ H x y v us Q I f m h;obtain ⟨z,p,w,rfl,rfl,o,hz,q⟩:=h;obtain ⟨t,rfl⟩:=f;obtain ⟨u,rfl,j⟩:=qEJ m;cases j;obtain ⟨k,r,i,_⟩:=I.list o;obtain ⟨l,rfl,rfl⟩:=qU7 r;have g:Builtin.Str.tooLong ((l.map (·.1)).toArray.foldl (·+·.length+z.length) 0)=false:=by
  have e:(l.map (·.1)).toArray.foldl (·+·.length+z.length) 0=0+(((l.map (·.1)).map (·.length)).sum+(l.map (·.1)).length * z.length):=by
   rw [<- qSG];simp
  rw [e];have:=sizeLine_eq;exact decide_eq_false (by lia)
 have n:(Str.join z (l.map (·.1))).length<=sizeLine:=by
  have:=StrLaws.join_length_le z (l.map (·.1));have:=sizeLine_eq
  lia
 refine call_meets F.slot_str_join (typeIs_str ..) F.entry_str_join (F.args_str_join_2 ..) (meets_str_join_list z t p l g) ⟨i.isList,?_⟩;have c:∀ tk,EP X d σ Q (.str (Str.join z (l.map (·.1))) tk) { s with toks:=s.toks+1 }:=fun tk=>⟨.str _,H,I.tok _,⟨tk,rfl⟩,q⟩;cases l with
 | nil=>exact ⟨Nat.zero_le _,c _⟩
 | cons a l=>
  cases l with
  | nil=>exact ⟨.str _,H,I,⟨a.2,rfl⟩,q⟩
  | cons b l=>
   have e:joinMade z (a::b::l)=.str (Builtin.Str.glued z ((a::b::l).map (·.1))):=rfl;rw [e,StrLaws.glued_eq_join];exact ⟨n,c _⟩
theorem qT6:MtR X "str.isdigit" (fun x vs H Q=>∃ z:Str,x=.str z/\vs=[]/\Q (.bl (Txt.isdigit z)) H):=by
 intro d s σ H x vs v c Q I b a h;obtain ⟨z,rfl,rfl,q⟩:=h;obtain ⟨t,rfl⟩:=b;cases a;exact SC.isdigit ⟨.bl _,H,I,rfl,q⟩
theorem qLR:qD1 X (.type "int") (fun xs H Q=>∃ (z:Str) (n:Int),xs=[.str z]/\intText? z=some n/\z.length<=640/\Q (.int n) H):=by
 intro d s σ H xs c Q I r h;obtain ⟨z,n,rfl,b,a,q⟩:=h;obtain ⟨u,rfl,t,rfl⟩:=qEJ r;exact PySem.W.KIN.call_text b a ⟨.int n,H,I.tok _,⟨_,rfl⟩,q⟩
theorem qJ8:OpR X (binaryOp .Mult) (fun x y H Q=>∃ (z:Str) (n:Int),x=.str z/\y=.int n/\0<=n/\n<=100/\z.length<=1000/\Q (.str (Txt.mul z n)) H):=by
 intro g s σ H x y v u Q I c d h;obtain ⟨z,n,rfl,rfl,f,e,b,q⟩:=h;obtain ⟨t,rfl⟩:=c;obtain ⟨a,rfl⟩:=d;refine SB.mul ⟨?_,fun _ _=>?_,fun _ _=>?_⟩ fun a k=>⟨.str _,H,I.tok _,⟨_,rfl⟩,q⟩
 ·rw [decide_eq_false (by lia),decide_eq_false (by lia)];rfl
 ·have:(2 ^ 63 - 1:Int) / 100<=(2 ^ 63 - 1) / n:=by
   refine Int.le_ediv_of_mul_le (by lia) ?_
   have:(2 ^ 63 - 1:Int) / 100 * n<=(2 ^ 63 - 1) / 100 * 100:=Int.mul_le_mul_of_nonneg_left e (by decide)
   lia
  have:(1000:Int)<(2 ^ 63 - 1) / 100:=by decide
  lia
 ·unfold Builtin.Str.tooLong;have:z.length * n.toNat<=1000 * 100:=Nat.mul_le_mul b (by lia)
  have:=sizeLine_eq;simp
  lia
theorem qHM:OpR X (compareOp .LtE) (fun x y H Q=>∃ i j:Str,x=.str i/\y=.str j/\Q (.bl (!(decide (j.cps.toList<i.cps.toList)))) H):=by
 intro c s σ H x y v u Q I b a h;obtain ⟨i,j,rfl,rfl,q⟩:=h;obtain ⟨t,rfl⟩:=b;obtain ⟨d,rfl⟩:=a;exact P.le_str ⟨.bl _,H,I,rfl,q⟩
def Its (z:Str):It:=⟨fun i _=>i<z.length,fun i H x H'=>H'=H/\∃ c,z.cps[i]?=some c/\x=.str ⟨#[c]⟩,fun i _=>z.length<=i⟩
theorem qRJ {P:Program} {w:World} {K:PySem.W.Frag} {tg:Expr} {n:String} (a:Addr) (z:Str) (t:Tok) (hn:["enumerate","zip","dict_itemiterator","dict_reverseitemiterator","odict_iterator","itertools.zip_longest","itertools.pairwise"].contains n=false)
  (W:∀ A:Around,A.handled=none->Walks P w A a [a] [a] z.cps.size (SignAt z) (fun i h=>h.IsStrIter a n z t i))
  (S:∀ (A:Around) (i:Nat) (s:Shared) (Q:Value->Shared->Prop) (E:Value->Shared->Prop),s.heap.IsStrIter a n z t i->Q (.ref a) s->wpAny (model P w) A (pyIter (.ref a)) Q E s):Turn P w K tg (Its z) [a] a (fun i h=>h.IsStrIter a n z t i/\i<=z.length) where
 mem:=by simp
 obj:=fun i h f b g=>by
  have e:b=a:=by simpa using g
  subst e;obtain ⟨⟨o,e,c,d⟩,_⟩:=f;exact ⟨o,e,fun v z=>by rw [d] at z;cases z⟩
 keep:=fun i h h' ⟨⟨o,e,c,d⟩,l⟩ k=>⟨⟨o,k a (by simp) o e,c,d⟩,l⟩
 item:=by
  intro X x y hK hc i Aa s σ H E I p f m;subst x y hK;obtain ⟨f0,q,f2,f3,f4,r⟩:=p a (by simp)
  refine (W X.A (I.ok.hd hc)).item i s _ _ m f.1 fun v h' tk hv j kk=>?_;obtain ⟨c,u,a0,rfl⟩:=hv;have I1:Inv X Aa σ H { s with heap:=h',toks:=tk }:=I.turned (fun b o g e=>kk b o (by simpa using g) e) f0 q f3 f4 r
  obtain ⟨o,e,cl,d⟩:=id j;exact ⟨_,rfl,qY7 (s:={ s with heap:=h',toks:=tk }) e cl d hn ⟨.str ⟨#[c]⟩,H,I1,⟨u,rfl⟩,⟨rfl,c,a0,rfl⟩,⟨j,m⟩,fun b g=>(p b g).1⟩⟩
 done:=by
  intro X x y hK hc i Aa s σ H E I p f m;subst x y hK;obtain ⟨f0,q,f2,f3,f4,r⟩:=p a (by simp)
  have e:i=z.cps.size:=Nat.le_antisymm f.2 m;subst e;exact (W X.A (I.ok.hd hc)).done s _ _ f.1 fun h' tk kk=>⟨rfl,I.turned (fun b o g e=>kk b o (by simpa using g) e) f0 q f3 f4 r⟩
 self:=fun A i s Q E f h=>S A i s Q E f.1 h
def iStr (tl:TE):TI:=fun σ H R=>tl σ H fun x H1=>∃ z,x=.str z/\R (Its z) H1
theorem qRT {l:Expr} {d:TE} (i:PE X l d):PI X tg l (iStr d):=by
 intro g s σ H R I h;refine thn (i g s σ H _ I h) fun v s1 ⟨x,H1,I1,r1,q1⟩=>?_;obtain ⟨z,e,q⟩:=q1;subst e;obtain ⟨t,rfl⟩:=r1;have f:∀ b ∈ [s1.heap.objs.size],FpOk X g H1 b:=fun b j=>by
  have e:b=s1.heap.objs.size:=by simpa using j
  subst e;exact I1.fpOk (Nat.le_refl _) (I1.hok.fresh (Nat.le_refl _))
 cases ha:z.cps.all (·<128)
 ·exact wpAny_pyIter_wide ha ⟨s1.heap.objs.size,[s1.heap.objs.size],_,_,H1,rfl,I1.kept (t':=s1.toks) fun b o e=>Heap.get?_push_of_some _ e,qRJ _ z t (n:="str_iterator") (by decide) (fun A a=>Walks.strWide a _ z t) (fun _ _ _ _ _ c h=>wpAny_pyIter_striter_wide c h),⟨⟨_,Heap.get?_push_size _ rfl,rfl,rfl⟩,Nat.zero_le _⟩,f,q⟩
 ·exact wpAny_pyIter_ascii ha ⟨s1.heap.objs.size,[s1.heap.objs.size],_,_,H1,rfl,I1.kept (t':=s1.toks) fun b o e=>Heap.get?_push_of_some _ e,qRJ _ z t (n:="str_ascii_iterator") (by decide) (fun A a=>Walks.strAscii a _ z t) (fun _ _ _ _ _ c h=>wpAny_pyIter_striter_ascii c h),⟨⟨_,Heap.get?_push_size _ rfl,rfl,rfl⟩,Nat.zero_le _⟩,f,q⟩
theorem qS5 {z:Str} {g:TG} {f:TT} {d:TE} {Kf:Hp->Prop} {σ0:St} {H0:Hp} {p:Addr} (Pv:Nat->St->Hp->Prop) (j:Pv 0 σ0 H0)
  (k:∀ i c σ H,z.cps[i]?=some c->Pv i σ H->g (.str ⟨#[c]⟩) σ H fun σ2 H2=>f σ2 H2 fun b H3=>if b=true then d σ2 H3 fun y H4=>∃ ys,H4 p=some (.lst ys)/\ys.length<sizeLine/\Pv (i+1) σ2 (Af H4 p (.lst (ys++[y]))) else Pv (i+1) σ2 H3)
  (o:∀ σ H,Pv z.length σ H->Kf H) :
  LcG (Its z) g f d Kf σ0 H0 p:=by
 refine ⟨fun i m σ H=>m=z.length - i/\i<=z.length/\Pv i σ H,⟨z.length,by simp,Nat.zero_le _,j⟩,?_⟩
 rintro i m σ H ⟨rfl,hi,q⟩;by_cases a:i<z.length
 ·refine .inr ⟨a,Pv (i+1),fun σ' r l=>⟨z.length - (i+1),by lia,rfl,a,l⟩,fun x r y=>?_⟩
  obtain ⟨e,c,h,n⟩:=y;subst e n;exact k i c σ _ h q
 ·have e:i=z.length:=by lia
  subst e;exact .inl ⟨Nat.le_refl _,o σ H q⟩
theorem qRD {prog:Program} {w:World} {A:Around} {E:Value->Shared->Prop} {s:Shared} {R:List Value->Shared->Prop} {T:String} {r d:Addr} {n:Nat} {P:Nat->Value->Prop} {OK:Heap->Prop} (K:PySem.W.KdlSrc prog w T r d n P OK) (t:A.handled=none) (j:OK s.heap) (v:n<=sizeLine)
  (h:∀ (h':Heap) (tk:Nat) (acc:Array Value),(∀ b o,s.heap.get? b=some o->h'.get? b=some o)->ItemsOf P acc n->R acc.toList { s with heap:=h',toks:=tk }):wpAny (model prog w) A (collect (.ref r)) R E s:=by
 unfold collect;refine wpAny_bind (wpAny_runValue (codeAny_builtin entry_proto_collect' ?_));rw [Around.under_plainId PySem.F.plain_proto_collect _];show wpAny _ A.in1 (newList [] >>= fun l=>again (.builtin "list.__iadd__" ⟨[l,.ref r],[]⟩)) _ _ s;refine wpAny_bind (wpAny_newObj_type ?_);refine wpAny_pure ⟨plainId_quiet PySem.F.plain_list_iadd _,codeAny_builtin entry_list_iadd' ?_⟩;rw [Around.under_plainId PySem.F.plain_list_iadd _];have p:(s.heap.push { cls:=.type "list",data:=.seq ([]:List Value).toArray }).get? s.heap.objs.size=some { cls:=.type "list",data:=.seq #[] }:=Heap.get?_push_size _ rfl;have g:=K.there _ j;show wpAny _ A.in1 (Builtin.List.listExtendWith (.ref s.heap.objs.size) (.ref r) (.ref s.heap.objs.size)) _ _ _;have m:=PySem.W.kdl_extend (A:=A) (s:={ s with heap:=s.heap.push { cls:=.type "list",data:=.seq ([]:List Value).toArray } })
  (R:=fun (q:Result) (s':Shared)=>∃ (h':Heap) (tk:Nat) (acc':Array Value) (c':Nat),q=.ok (.ret (.ref s.heap.objs.size))/\s'={ s with heap:=h',toks:=tk }/\
   (∀ b o,s.heap.get? b=some o->h'.get? b=some o)/\h'.get? s.heap.objs.size=some { cls:=.type "list",dict:=none,data:=.seq acc' c',slots:=#[] }/\ItemsOf P acc' n)
  K t (K.keep _ _ j fun b _ o e=>Heap.get?_push_of_some _ e) s.heap.objs.size (Nat.ne_of_gt g.1) (Nat.ne_of_gt g.2) (.ref s.heap.objs.size) 0 p
  (fun h' tk acc' c' i c a=>⟨h',tk,acc',c',rfl,rfl,fun b o e=>i b o (Nat.ne_of_lt (Heap.lt_size e)) (Heap.get?_push_of_some _ e),c,a⟩) v
 refine wpAny_mono m (fun k s' x=>?_) fun e s' x=>?_
 ·cases k with
  | done f=>
   obtain ⟨h',tk,acc',c',e,rfl,i,c,a⟩:=x;cases e;show wpAny _ A (load s.heap.objs.size >>= _) _ _ _;refine wpAny_bind (wpAny_load c ?_);exact wpAny_pure (h h' tk acc' i a)
  | again c₁=>
   refine ⟨x.1,codeAny_mono x.2 fun q z y=>?_⟩;obtain ⟨h',tk,acc',c',rfl,rfl,i,c,a⟩:=y;show wpAny _ A (load s.heap.objs.size >>= _) _ _ _;refine wpAny_bind (wpAny_load c ?_);exact wpAny_pure (h h' tk acc' i a)
 ·obtain ⟨_,_,_,_,u,_⟩:=x;cases u
theorem qSU {prog:Program} {w:World} {A:Around} {E:Value->Shared->Prop} {s:Shared} {Q:Value->Shared->Prop} {r d:Addr} {n:Nat} {P:Nat->Value->Prop} {OK:Heap->Prop} (K:PySem.W.KdlSrc prog w "dict" r d n P OK) (q:A.handled=none) (i:OK s.heap) (p:n<=sizeLine)
  (h:∀ (h':Heap) (tk:Nat) (acc:Array Value),(∀ b o,s.heap.get? b=some o->h'.get? b=some o)->ItemsOf P acc n->Q (.ref h'.objs.size) { s with heap:=h'.push { cls:=.type "tuple",data:=.seq acc },toks:=tk }) :
  wpAny (model prog w) A (call (.type "tuple") [.ref r]) Q E s:=by
 have g:codeAny (model prog w) A.in1 (.call (.builtin "tuple.__new__") ⟨[.type "tuple",.ref r],[]⟩) (wants (fun a f=>f.TypeIs a "tuple"/\Q a f) E) s:=by
  refine codeAny_of_tree ?_;show wpAny _ A.in1.in1 (do checkBuiltinCall "tuple.__new__" ⟨[.type "tuple",.ref r],[]⟩;again (.builtin "tuple.__new__" ⟨[.type "tuple",.ref r],[]⟩)) _ _ s
  refine wpAny_bind (wpAny_of_eq (F.newCall_tuple_1 _) (wpAny_pure ⟨plainId_quiet F.plain_tuple_new _,codeAny_builtin F.entry_tuple_new ?_⟩));rw [Around.under_plainId F.plain_tuple_new _];have m:=sub_tuple_self;have j:=init_tuple_lookup;have u:=madeHere_tuple;have l:s.TypeIs (.ref r) "dict":=K.type s i
  wp_walk using wpAny_typeOf l,qRD (prog:=prog) (w:=w) (A:=A.in1.in1) K q i p
  intro h' tk acc t c;show wpAny _ _ (Builtin.Tuple.tupleExact acc.toList.toArray >>= fun v=>ret v) _ _ _;unfold Builtin.Tuple.tupleExact;refine wpAny_bind (wpAny_newObj_type ?_ (by show acc.toList.toArray.size<=sizeLine;simp only [Array.toArray_toList];rw [c.1];exact p))
  refine wpAny_pure ?_;have e:acc.toList.toArray=acc:=by simp
  rw [e];exact ⟨⟨_,Heap.get?_push_size _ rfl,rfl⟩,h h' tk acc t c⟩
 refine callType_codes (Q₁:=fun a f=>f.TypeIs a "tuple"/\Q a f) F.called_tuple (F.typeCall_tuple_1 _) F.entry_object_init g fun a f k=>?_;exact ⟨k.1,F.args_object_init_2 a _,object_init_meets F.called_tuple.init.lookup F.called_tuple.made (by decide) prog w A.in1 _ f ⟨k.1,rfl,k.2⟩⟩
theorem qOS:∀ {Ae:List (Key × V)} {us:List Value},us.length=Ae.length->(∀ (i:Nat) (v:Value),us[i]?=some v->∃ k x,Ae[i]?=some (k,x)/\qPK k v=true)->Vals (Ae.map fun p=>kV p.1) us
 | [],[],_,_=>.nil
 | (k,x)::Ae,u::us,hl,h=>by
  obtain ⟨k',x',e,hk⟩:=h 0 u rfl;cases e;exact .cons (qXM hk) (qOS (by simpa using hl) fun i v hv=>h (i+1) v hv)
theorem qRE (hc:X.calm=true):qD1 X (.type "tuple") (fun xs H Q=>∃ (d:Addr) (Ae:List (Key × V)),xs=[.ref d]/\H d=some (.dK Ae)/\∀ l,H l=none->Q (.ref l) (Af H l (.tup (Ae.map fun p=>kV p.1)))):=by
 intro Aa s σ H xs us Q I r h;obtain ⟨d,Ae,rfl,hq,q⟩:=h;obtain ⟨u,rfl,z⟩:=qEJ r;cases z;obtain ⟨t,hd,vs,a,dd⟩:=qbO I.hok hq;obtain ⟨ep,da⟩:=dd.dictAt;have w:vs.length=Ae.length:=a.length.symm;refine qSU (PySem.W.kdl_dict (ep:=ep) hd) (I.ok.hd hc) da (by rw [w];exact t) fun j n g hk c=>?_
 obtain ⟨a1,a2⟩:=c;have m:Inv X Aa σ H { s with heap:=j,toks:=n }:=I.kept hk;refine ⟨.ref j.objs.size,_,m.laid (t':=n) (o:=.tup (Ae.map fun p=>kV p.1)) (fun b o e=>Heap.get?_push_of_some _ e) (Nat.le_refl _) ⟨by rw [List.length_map];exact t,g.toList,qOS (by rw [Array.length_toList,a1,w]) fun i v hv=>?_,by have:=IsTup.new j g;simpa using this⟩,rfl,q _ (m.hok.fresh (Nat.le_refl _))⟩
 obtain ⟨k,x,y,e2⟩:=a2 i v (by rw [<- Array.getElem?_toList];exact hv)
 have f:(Ae.map (·.1))[i]?=some k:=by rw [qbC a,List.getElem?_map,y];rfl
 rw [List.getElem?_map] at f;cases en:Ae[i]? with
 | none=>rw [en] at f;cases f
 | some p=>
  rw [en] at f;cases f;exact ⟨p.1,p.2,rfl,e2⟩
end
end L2
namespace L2
open PySem PySem.Spec PyProof.Rows
def scs:List Expr->List Str->Bool
 | [],[]=>true
 | _::_,[]=>false
 | .Constant (.str x) _ _::es,y::ys=>decide (x=y) && scs es ys
 | _,_=>false
def tPre (t:TA):List Str->TA
 | []=>t
 | w::ws=>qcI (tC (.str w)) (tPre t ws)
section
variable {X:Cx}
theorem qV4 {t:TA}:∀ {ws:List Str} {es r:List Expr},scs es ws=true->PA X r t->PA X (es++r) (tPre t ws)
 | [],[],r,_,hr=>hr
 | [],e::es,r,h,hr=>by unfold scs at h;cases h
 | w::ws,[],r,h,hr=>by cases h
 | w::ws,.Constant (.str x) j p::es,r,h,hr=>by
  have h2:(decide (x=w) && scs es ws)=true:=h;rw [Bool.and_eq_true] at h2;have e:x=w:=of_decide_eq_true h2.1;subst e;exact qA0 qAC (qV4 h2.2 hr) rfl
theorem qV5 {t:TA} {n:Nat} {ws:List Str} {es:List Expr} (h:scs (es.take n) ws=true) (a:PA X (es.drop n) t):PA X es (tPre t ws):=by
 have:=qV4 h a;rw [List.take_append_drop] at this;exact this
end
end L2
namespace L2
open PySem PySem.Spec PyProof.Rows
abbrev EntsS (w:World):List Str->List (Int × Value)->Prop:=Paired fun k e=>∃ tk,e=(hashStr w k,Value.str k tk)
theorem EntsS.perm {w:World}:∀ {es es':List (Int × Value)} {ks:List Str},EntsS w ks es->es'.Perm es->∃ ks',EntsS w ks' es'/\ks'.Perm ks:=by
 intro es es' ks h p;have d:∀ {a b:List (Int × Value)},a.Perm b->∀ ks,EntsS w ks b->∃ ks',EntsS w ks' a/\ks'.Perm ks:=by
  intro a b p
  induction p with
  | nil=>intro ks h;exact ⟨ks,h,.refl _⟩
  | cons x p ih=>
   intro ks h;cases h with
   | cons r t=>
    obtain ⟨ks',c,e⟩:=ih _ t;exact ⟨_::ks',.cons r c,e.cons _⟩
  | swap x y l=>
   intro ks h;cases h with
   | cons r t=>
    cases t with
    | cons r' t'=>exact ⟨_,.cons r' (.cons r t'),.swap _ _ _⟩
  | trans p q ih1 ih2=>
   intro ks h;obtain ⟨g,c,e⟩:=ih2 ks h;obtain ⟨j,f,i⟩:=ih1 g c;exact ⟨j,f,i.trans e⟩
 exact d p ks h
theorem EntsS.elems {prog:Program} {w:World} {es:List (Int × Value)} {ks:List Str} (h:EntsS w ks es):ElemsOf (PySem.strKind prog w) es:=by
 intro e a;have b:∀ {ks:List Str} {es:List (Int × Value)},EntsS w ks es->∀ e ∈ es,∃ k tk,e=(hashStr w k,Value.str k tk):=by
  intro ks es h
  induction h with
  | nil=>intro e a;cases a
  | cons r t ih=>
   intro e a;rcases List.mem_cons.mp a with z | z
   ·subst z;obtain ⟨tk,e⟩:=r;exact ⟨_,tk,e⟩
   ·exact ih e z
 obtain ⟨k,tk,rfl⟩:=b h e a;exact ⟨⟨k,by simp [PySem.strKind,Value.isStrOf],rfl⟩,rfl⟩
theorem EntsS.find {prog:Program} {w:World} {k:Str}:∀ {es:List (Int × Value)} {ks:List Str},EntsS w ks es->((List.findIdx? (fun e=>(PySem.strKind prog w).is k e.2) es).isSome=true ↔ k ∈ ks)
 | _,_,.nil=>by simp
 | _,_,.cons r t=>by
  obtain ⟨tk,rfl⟩:=r
  rename_i k' ks' es'
  have ih:=EntsS.find (prog:=prog) (w:=w) (k:=k) t;rw [List.findIdx?_cons,List.mem_cons];have hi:(PySem.strKind prog w).is k (Value.str k' tk)=decide (k=k'):=by
   by_cases e:k=k'
   ·simp [PySem.strKind,Value.isStrOf,e]
   ·have e':¬ k'=k:=fun z=>e z.symm;simp [PySem.strKind,Value.isStrOf,e,e']
  dsimp only;rw [hi];by_cases e:k=k'
  ·simp [e]
  ·simp only [e,decide_false,Bool.false_eq_true,if_false,false_or,Option.isSome_map];exact ih
def addS (zs:List Str) (k:Str):List Str:=if k ∈ zs then zs else zs++[k]
def dedS:List Str->List Str:=fun l=>l.foldl addS []
theorem qEH:∀ (l zs:List Str),(l.foldl addS zs).length<=zs.length+l.length
 | [],zs=>Nat.le_refl _
 | k::l,zs=>by
  have h1:=qEH l (addS zs k);have h2:(addS zs k).length<=zs.length+1:=by
   unfold addS
   split
   ·lia
   ·rw [List.length_append];exact Nat.le_refl _
  rw [List.foldl_cons,List.length_cons]
  lia
theorem qXA {ns:List Str} {us:List Value} (h:Vals (ns.map V.str) us) {i:Nat} {v:Value} (c:us[i]?=some v):∃ t,v=.str (ns.getD i Str.empty) t:=by
 have a:i<ns.length:=by
  have:=h.length;rw [List.length_map] at this;rw [this];exact (List.getElem?_eq_some_iff.mp c).1
 obtain ⟨u,b,r⟩:=h.get (i:=i) (x:=.str ns[i]) (by rw [List.getElem?_map,List.getElem?_eq_getElem a];rfl)
 rw [c] at b;cases b;obtain ⟨d,e⟩:=r;exact ⟨d,by rw [List.getD_eq_getElem?_getD,List.getElem?_eq_getElem a];exact e⟩
def SetS (w:World) (a:Addr) (zs:List Str) (h:Heap):Prop:=
 ∃ (es:Array (Int × Value)) (ep:Nat) (t:SetTable) (ks:List Str),h.get? a=some { cls:=.type "set",data:=.set es ep t }/\(∃ pl,TabG (byT w,pl) t es.size)/\EntsS w ks es.toList/\ks.Perm zs/\zs.Nodup/\zs.length<4095/\es.size * 5<t.mask * 3
theorem SetS.at {w:World} {a:Addr} {zs:List Str} {h h':Heap} (x:SetS w a zs h) (k:∀ o,h.get? a=some o->h'.get? a=some o):SetS w a zs h':=
 let ⟨es,ep,t,ks,h1,r⟩:=x;⟨es,ep,t,ks,k _ h1,r⟩
section
variable {prog:Program} {w:World} {A:Around} {E:Value->Shared->Prop} {s:Shared}
theorem qXD {a:Addr} {zs:List Str} {k:Str} {g:Tok} {Q:Bool->Shared->Prop} (hS:SetS w a zs s.heap) (a3:zs.length<4094)
  (h:∀ h',Heap.SameBut a s.heap h'->SetS w a (addS zs k) h'->∀ b,Q b { s with heap:=h' }):wpAny (model prog w) A (setAddHashed a (.str k g) (hashStr w k)) Q E s:=by
 obtain ⟨d,ep,t,ks,ho,⟨pl,T⟩,he,hp,a0,a4,a2⟩:=id hS;have i:d.size=zs.length:=by rw [<- hp.length_eq,Paired.length he,Array.length_toList]
 have a1:ElemsOf (PySem.strKind prog w) d.toList:=he.elems;have h7:=T.mask7;have hb:d.size<scanBound:=by rw [i];unfold scanBound;lia
 have hf:t.fits d.size=true:=T.fits (by lia)
 unfold setAddHashed setAddHashedIn;refine wpAny_holding (wpAny_bind (wpAny_setState_of ho rfl hf ?_));dsimp only;rw [byScan_of (knd:=PySem.strKind prog w) (x:=.str k g) rfl hb a1];simp only [↓reduceIte];unfold setAddByScan;refine wpAny_bind ?_;refine wpAny_bind (wpAny_rule ?_);refine wpAny_bind (wpAny_setScan_of (knd:=PySem.strKind prog w) (k:=k) (strKind_is _ _ _ _) ho rfl hf a1 ?_);have r:=EntsS.find (prog:=prog) (w:=w) (k:=k) he;cases hr:List.findIdx? (fun e=>(PySem.strKind prog w).is k e.2) d.toList with
 | some j=>
  dsimp only;rw [hr] at r;have q:k ∈ zs:=hp.mem_iff.mp (r.mp rfl);refine wpAny_pure (wpAny_pure ?_);have e:s={ s with heap:=s.heap }:=by cases s;rfl
  rw [e];refine h s.heap (Heap.SameBut.refl a s.heap) ?_ _;unfold addS;rw [if_pos q];exact hS
 | none=>
  dsimp only;rw [hr] at r;have q:¬ k ∈ zs:=fun z=>by have:=r.mpr (hp.mem_iff.mpr z);cases this
  obtain ⟨p,t',e1,f,tm,a5⟩:=T.lay (by lia) rfl (hashStr w k) (.str k g)
  rw [e1];dsimp only;refine wpAny_bind (wpAny_pure ?_);have c:(SetTable.insertAt d p (hashStr w k,Value.str k g)).size=d.size+1:=by
   rw [<- Array.length_toList,insertAt_perm.length_eq,List.length_append,Array.length_toList]
   rfl
  cases pl with
  | true=>
   rw [show t'.plain=true from f.plain];simp only [↓reduceIte];rw [hashByValue_scannable 8 (x:=.str k g) rfl];refine wpAny_bind (wpAny_pure ?_);rw [show plainKind (Value.str k g)=false from rfl];simp only [Bool.false_eq_true,↓reduceIte];have T1:TabG (byT w,false) { t' with plain:=false } (d.size+1):=⟨f.pow,f.dum,rfl,f.led,f.size,f.up,f.le⟩;generalize hg:({ mask:=t'.mask,place:=t'.place,dummies:=t'.dummies,finger:=t'.finger,led:=t'.led,moves:=t'.moves,plain:=false }:SetTable)=o at T1 ⊢;have tm:o.mask=t.mask:=by rw [<- hg];exact tm
   have f:=T1;show wpAny _ _ (storeSet a (SetTable.insertAt d p (hashStr w k,.str k g)) o >>= _) _ _ _;refine wpAny_bind (wpAny_storeSet_of ho rfl ?_ (by rw [c,i,sizeLine_eq];lia))
   have l:∀ (es2:Array (Int × Value)) (ep2:Nat) (t2:SetTable) (h2:Heap),h2.get? a=some { cls:=.type "set",data:=.set es2 ep2 t2 }->es2.toList.Perm (SetTable.insertAt d p (hashStr w k,Value.str k g)).toList->TabG (byT w,false) t2 (d.size+1)->(d.size+1) * 5<t2.mask * 3->SetS w a (addS zs k) h2:=by
    intro es2 ep2 t2 h2 g2 pm y m;obtain ⟨v,h4,h5⟩:=EntsS.perm (ks:=ks++[k]) (Paired.snoc he ⟨g,rfl⟩) (pm.trans insertAt_perm);have n:es2.size=d.size+1:=by rw [<- c,<- Array.length_toList,pm.length_eq,Array.length_toList]
    refine ⟨es2,ep2,t2,v,g2,⟨_,by rw [n];exact y⟩,h4,?_,?_,?_,by rw [n];exact m⟩
    ·unfold addS;rw [if_neg q];exact h5.trans (hp.append_right _)
    ·unfold addS;rw [if_neg q];exact qGU a0 q
    ·unfold addS;rw [if_neg q,List.length_append,List.length_singleton]
     lia
   have hg:=qMI (es':=SetTable.insertAt d p (hashStr w k,.str k g)) (t':=o) ho;have fill:o.fill=d.size+1:=by
    unfold SetTable.fill;rw [f.size,f.dum]
    rfl
   cases tf:o.tooFull with
   | false=>
    simp only [Bool.and_false,Bool.false_eq_true,↓reduceIte];refine wpAny_pure (wpAny_pure ?_);refine h _ (Heap.SameBut.update s.heap a _) (l _ _ _ _ hg (.refl _) f ?_) _;unfold SetTable.tooFull at tf;rw [fill] at tf;have:=of_decide_eq_false tf
    lia
   | true=>
    simp only [Bool.not_false,Bool.and_self,↓reduceIte];rw [c];have u:SetTable.grown (d.size+1)=(d.size+1) * 4:=by
     unfold SetTable.grown;rw [if_neg (by lia)]
    obtain ⟨es2,t2,e2,p2,y,m2⟩:=qNI f c (wanted:=SetTable.grown (d.size+1)) (by rw [u];lia) (by rw [u];lia)
    rw [u] at m2;rw [e2];dsimp only;refine wpAny_bind (wpAny_pure ?_);refine wpAny_bind (wpAny_storeSet_of hg rfl ?_ (by rw [<- Array.length_toList,p2.length_eq,Array.length_toList,c,i,sizeLine_eq];lia))
    refine wpAny_pure (wpAny_pure ?_);exact h _ ((Heap.SameBut.update s.heap a _).trans (Heap.SameBut.update _ a _)) (l _ _ _ _ (qMI hg) p2 y (by lia)) _
  | false=>
   rw [show t'.plain=false from f.plain];simp only [Bool.false_eq_true,↓reduceIte];refine wpAny_bind (wpAny_pure ?_);simp only [↓reduceIte];have T1:=f;generalize hg:t'=o at T1 tm ⊢;have f:=T1;show wpAny _ _ (storeSet a (SetTable.insertAt d p (hashStr w k,.str k g)) o >>= _) _ _ _;refine wpAny_bind (wpAny_storeSet_of ho rfl ?_ (by rw [c,i,sizeLine_eq];lia))
   have l:∀ (es2:Array (Int × Value)) (ep2:Nat) (t2:SetTable) (h2:Heap),h2.get? a=some { cls:=.type "set",data:=.set es2 ep2 t2 }->es2.toList.Perm (SetTable.insertAt d p (hashStr w k,Value.str k g)).toList->TabG (byT w,false) t2 (d.size+1)->(d.size+1) * 5<t2.mask * 3->SetS w a (addS zs k) h2:=by
    intro es2 ep2 t2 h2 g2 pm y m;obtain ⟨v,h4,h5⟩:=EntsS.perm (ks:=ks++[k]) (Paired.snoc he ⟨g,rfl⟩) (pm.trans insertAt_perm);have n:es2.size=d.size+1:=by rw [<- c,<- Array.length_toList,pm.length_eq,Array.length_toList]
    refine ⟨es2,ep2,t2,v,g2,⟨_,by rw [n];exact y⟩,h4,?_,?_,?_,by rw [n];exact m⟩
    ·unfold addS;rw [if_neg q];exact h5.trans (hp.append_right _)
    ·unfold addS;rw [if_neg q];exact qGU a0 q
    ·unfold addS;rw [if_neg q,List.length_append,List.length_singleton]
     lia
   have hg:=qMI (es':=SetTable.insertAt d p (hashStr w k,.str k g)) (t':=o) ho;have fill:o.fill=d.size+1:=by
    unfold SetTable.fill;rw [f.size,f.dum]
    rfl
   cases tf:o.tooFull with
   | false=>
    simp only [Bool.and_false,Bool.false_eq_true,↓reduceIte];refine wpAny_pure (wpAny_pure ?_);refine h _ (Heap.SameBut.update s.heap a _) (l _ _ _ _ hg (.refl _) f ?_) _;unfold SetTable.tooFull at tf;rw [fill] at tf;have:=of_decide_eq_false tf
    lia
   | true=>
    simp only [Bool.not_false,Bool.and_self,↓reduceIte];rw [c];have u:SetTable.grown (d.size+1)=(d.size+1) * 4:=by
     unfold SetTable.grown;rw [if_neg (by lia)]
    obtain ⟨es2,t2,e2,p2,y,m2⟩:=qNI f c (wanted:=SetTable.grown (d.size+1)) (by rw [u];lia) (by rw [u];lia)
    rw [u] at m2;rw [e2];dsimp only;refine wpAny_bind (wpAny_pure ?_);refine wpAny_bind (wpAny_storeSet_of hg rfl ?_ (by rw [<- Array.length_toList,p2.length_eq,Array.length_toList,c,i,sizeLine_eq];lia))
    refine wpAny_pure (wpAny_pure ?_);exact h _ ((Heap.SameBut.update s.heap a _).trans (Heap.SameBut.update _ a _)) (l _ _ _ _ (qMI hg) p2 y (by lia)) _
end
section
variable {prog:Program} {w:World} {A:Around} {R:Result->Shared->Prop} {I:Addr} {fp wr:List Addr} {G:Array GenState->Array GenState->Prop} {n:Nat} {P:Nat->Value->Prop} {St:Nat->Shared->Prop}
theorem qP1 (W:WalksS prog w A.in1 I fp wr G n P St) (S:Addr) (m:S ∉ fp) (ns:List Str) (a3:ns.length=n) (h4:n<=4000) (y:∀ i v,P i v->∃ t,v=.str (ns.getD i Str.empty) t) :
  ∀ (k i:Nat) (s:Shared),n - i=k->i<=n->St i s->SetS w S (dedS (ns.take i)) s.heap->
   (∀ s',Moved (S::wr) G s s'->SetS w S (dedS ns) s'.heap->R (.ok (.ret .none)) s')->
   codeAny (model prog w) A (.builtin "set.update.loop" ⟨[.ref S,.ref I],[]⟩) R s:=by
 have r:S ∉ wr:=fun h=>m (W.sub _ h);have a:∀ b ∈ wr,b ∈ S::wr:=fun b l=>List.mem_cons_of_mem _ l;intro k
 induction k with
 | zero=>
  intro i s hk hi d hS hR;have a1:i=n:=by lia
  subst a1;refine codeAny_builtin F.entry_set_update_loop ?_;rw [Around.under_plainId F.plain_set_update_loop _];show wpAny _ A.in1 (pyNext (.ref I) >>= _) _ _ s;refine wpAny_bind (W.done s _ _ d fun s' x=>?_);show wpAny _ A.in1 (ret Value.none) _ _ s';rw [List.take_of_length_le (by lia)] at hS
  exact wpAny_pure (hR s' (x.mono a) (hS.at fun o e=>x.heap S _ r e))
 | succ k ih=>
  intro i s hk hi d hS hR;have p:i<n:=by lia
  refine codeAny_builtin F.entry_set_update_loop ?_;rw [Around.under_plainId F.plain_set_update_loop _];show wpAny _ A.in1 (pyNext (.ref I) >>= _) _ _ s;refine wpAny_bind (W.item i s _ _ p d fun v s' hP g x=>?_);obtain ⟨t,rfl⟩:=y i v hP;have a2:SetS w S (dedS (ns.take i)) s'.heap:=hS.at fun o e=>x.heap S _ r e;show wpAny _ A.in1 (holding [Value.str (ns.getD i Str.empty) t] (setAdd S (.str (ns.getD i Str.empty) t)) >>= _) _ _ s';refine wpAny_bind (wpAny_holding ?_);unfold setAdd;refine wpAny_holding ?_;refine wpAny_bind ((PySem.strKind prog w).pyHash (k:=ns.getD i Str.empty) (strKind_is _ _ _ _) ?_);have c:(dedS (ns.take i)).length<4094:=by
   have:=qEH (ns.take i) [];rw [List.length_take] at this;unfold dedS;simp at this
   lia
  refine qXD (s:={ s' with toks:=s'.toks+1 }) a2 c fun h' q f b=>?_;have e2:addS (dedS (ns.take i)) (ns.getD i Str.empty)=dedS (ns.take (i+1)):=by
   have u:i<ns.length:=by lia
   rw [List.take_add_one,List.getElem?_eq_getElem u,Option.toList_some];unfold dedS;rw [List.foldl_append,List.foldl_cons,List.foldl_nil,List.getD_eq_getElem?_getD,List.getElem?_eq_getElem u,Option.getD_some]
  rw [e2] at f;refine wpAny_pure ⟨plainId_quiet F.plain_set_update_loop _,ih (i+1) _ (by lia) p (W.frame _ s' _ _ g (Nat.le_succ _) fun b l o e=>?_) f fun a0 j z=>?_⟩
  ·rw [q.2 b (fun h:b=S=>m (by rw [<- h];exact l))];exact e
  ·refine hR a0 (Moved.trans W.gtrans ((x.mono a).then_heap (Nat.le_succ _) fun b o l e=>?_) j) z;rw [q.2 b (fun h:b=S=>l (by rw [h];exact List.mem_cons_self))];exact e
end
section
variable {prog:Program} {w:World} {A:Around} {E:Value->Shared->Prop} {s:Shared}
theorem SetS.fresh {a:Addr} {h:Heap} (e:h.get? a=some (freshSet w)):SetS w a [] h:=
 ⟨#[],0,_,[],e,⟨true,⟨⟨3,Nat.le_refl _,rfl⟩,rfl,rfl,rfl,rfl,.nil,fun _ z=>nomatch z⟩⟩,.nil,.refl _,.nil,by decide,by show 0 * 5<7 * 3;decide⟩
theorem qTK {l:Addr} {Ad:Array Value} {ns:List Str} {Q:Value->Shared->Prop} (hh:A.handled=none) (hl:s.heap.IsList l Ad) (hi:Vals (ns.map V.str) Ad.toList) (h4:Ad.size<=4000)
  (h:∀ (h':Heap) (tk:Nat),SetS w s.heap.objs.size (dedS ns) h'->(∀ b o,s.heap.get? b=some o->h'.get? b=some o)->Q (.ref s.heap.objs.size) { s with heap:=h',toks:=tk }) :
  wpAny (model prog w) A (call (.type "set") [.ref l]) Q E s:=by
 have j:ns.length=Ad.size:=by have:=hi.length;simpa using this
 obtain ⟨c,tl,aa⟩:=F.called_set.mro;have a4:=F.called_set.made;have ad:=F.called_set.sub;refine wpAny_call (codeAny_of_tree ?_);show wpAny _ _ (callAny (.type "set") _) _ _ _;refine wpAny_pure ⟨Code.quiet_builtin _ (by decide +kernel),codeAny_builtin F.entry_type_call ?_⟩
 rw [Around.under_plain (weight_type_call_type "set" [.ref l] []) rfl];have h1:=F.called_set.notType;have h2:=F.called_set.canCreate;have ag:=F.typeCall_set_1 (.ref l)
 repeat (any_goals (first | assumption | wp_step))
 refine codeAny_mono (qL0 (.ref l) (E:=E) (Q₁:=fun n s₁=>n=.ref s.heap.objs.size/\s₁={ s with heap:=s.heap.push (freshSet w) }) ⟨rfl,rfl⟩) fun r s₁ k=>?_;cases r with
 | error e=>exact k
 | ok fl=>
  cases fl with
  | ret n=>
   obtain ⟨rfl,rfl⟩:=k;have hS:(s.heap.push (freshSet w)).get? s.heap.objs.size=some (freshSet w):=Heap.get?_push_size _ rfl;have hT:Shared.TypeIs { s with heap:=s.heap.push (freshSet w) } (.ref s.heap.objs.size) "set":=⟨_,hS,rfl⟩;have ah:=F.called_set.init.lookup;have af:=F.called_set.init.bind (.ref s.heap.objs.size)
   repeat (any_goals (first | assumption | wp_step))
   refine codeAny_mono (codeAny_call_builtin (R:=wants (fun r s₂=>r=.none/\∃ h' tk,s₂={ s with heap:=h',toks:=tk }/\SetS w s.heap.objs.size (dedS ns) h'/\
     (∀ b o,s.heap.get? b=some o->h'.get? b=some o)) E) F.called_set.init.plain F.entry_set_init (check_set_init_1 hT ?_)) fun r₂ s₂ a=>?_
   ·obtain ⟨ol,x,m,nl,z⟩:=hl;obtain ⟨ae,g,a9,d⟩:=ol;simp only at m z;subst m;subst z;have q:(s.heap.push (freshSet w)).get? l=some { cls:=.type "list",dict:=g,data:=.seq Ad nl,slots:=d }:=Heap.get?_push_of_some _ x;have ac:=F.sub_list_set;have ab:=F.sub_list_frozenset;have ai:(Value.type "list" == Value.type "dict")=false:=by decide
    have p:(s.heap.push (freshSet w)).IsList l Ad:=⟨_,q,rfl,nl,rfl⟩;unfold Builtin.«set.__init__» noKeywords Builtin.Frozenset.updateFrom;generalize hPI:pyIter=PI
    wp_walk
    subst hPI;refine wpAny_pyIter_list p ?_;refine wpAny_bind (wpAny_runValue ?_);have y:l<s.heap.objs.size:=Heap.lt_size x;have a2:A.in1.in1.in1.handled=none:=by simp [hh]
    have u:l ≠ (s.heap.push (freshSet w)).objs.size:=by
     rw [Heap.size_push];exact Nat.ne_of_lt (Nat.lt_succ_of_lt y)
    have a3:s.heap.objs.size ∉ [(s.heap.push (freshSet w)).objs.size,l]:=by
     rw [Heap.size_push];simp only [List.mem_cons,List.mem_singleton,List.not_mem_nil,or_false,not_or];exact ⟨Nat.ne_of_lt (Nat.lt_succ_self _),Nat.ne_of_gt y⟩
    have a0:∀ (i:Nat) (v:Value),Ad[i]?=some v->∃ t,v=.str (ns.getD i Str.empty) t:=fun i v hv=>
     qXA hi (by rw [Array.getElem?_toList];exact hv)
    refine qP1 ((Walks.list a2 _ l u Ad).toS) s.heap.objs.size a3 ns j h4 a0 (Ad.size - 0) 0 _ (by lia) (Nat.zero_le _)
     ⟨⟨_,Heap.get?_push_size _ rfl,rfl,rfl⟩,(p.push _)⟩ ?hS0 ?hR
    case hS0=>exact SetS.fresh (Heap.get?_push_of_some _ hS)
    case hR=>
     intro s' hm f;obtain ⟨h',g',d',a6,a7⟩:=s';have eg:g'=s.gens:=hm.gens;have ed:d'=s.drawn:=hm.drawn;have eo:a7=s.os:=hm.os;subst eg;subst ed;subst eo;show wpAny _ _ _ _ _ _;refine wpAny_pure ?_;show wpAny _ _ (ret Value.none) _ _ _;refine wpAny_pure ⟨rfl,h',a6,rfl,f,fun b o e=>?_⟩;have hb:=Heap.lt_size e;have a8:b ≠ s.heap.objs.size:=Nat.ne_of_lt hb;have a1:b ≠ (s.heap.push (freshSet w)).objs.size:=by
      rw [Heap.size_push];exact Nat.ne_of_lt (Nat.lt_succ_of_lt hb)
     exact hm.heap b o (by simp only [List.mem_cons,List.mem_singleton,List.not_mem_nil,or_false,not_or];exact ⟨a8,a1⟩) (Heap.get?_push_of_some _ (Heap.get?_push_of_some _ e))
   ·cases r₂ with
    | error e=>exact a
    | ok fl₂=>
     cases fl₂ with
     | ret r=>
      obtain ⟨rfl,h',tk,rfl,f,a5⟩:=a
      repeat (any_goals (first | assumption | wp_step))
      exact h _ _ f a5
     | next=>exact a
     | brk=>exact a
     | cont=>exact a
  | next=>exact k
  | brk=>exact k
  | cont=>exact k
end
def SetT (w:World) (a:Addr) (zs:List Str):HO:=.ext (SetS w a zs)
section
variable {X:Cx}
theorem qPW (m:X.calm=true):qD1 X (.type "set") (fun xs H Q=>∃ p ns,xs=[.ref p]/\SqL X.K H p (ns.map V.str)/\ns.length<=4000/\∀ a,H a=none->Q (.ref a) (Af H a (SetT X.w a (dedS ns)))):=by
 intro v s σ H xs us Q I r h;obtain ⟨p,ns,rfl,j,x,q⟩:=h;obtain ⟨u,rfl,g⟩:=qEJ r;cases g;obtain ⟨i,e,k,hz⟩:=I.list j;have c:=e.length;rw [List.length_map] at c;refine qTK (I.ok.hd m) k.isList (by simpa using e) (by simp;lia) fun h' l d n=>?_
 refine ⟨.ref s.heap.objs.size,_,I.laid (t':=l) (o:=SetT X.w s.heap.objs.size (dedS ns)) n (Nat.le_refl _) ⟨d,?_,fun h1 h2 a b=>a.at b⟩,rfl,q _ (I.hok.fresh (Nat.le_refl _))⟩;obtain ⟨z,ep,t,y,f,_⟩:=d;exact ⟨_,f⟩
theorem qPZ:qD1 X (.builtin "len") (fun xs H Q=>∃ p zs,xs=[V.ref p]/\H p=some (SetT X.w p zs)/\Q (.int (zs.length:Nat)) H):=by
 intro j s σ H xs m Q I r h;obtain ⟨p,zs,rfl,i,q⟩:=h;obtain ⟨u,rfl,f⟩:=qEJ r;cases f;obtain ⟨c,_⟩:=(show ObjOk X.prog X.w H s.heap p (SetT X.w p zs) from I.hok p _ i);obtain ⟨g,k,t,n,d,⟨o,T⟩,a,e,v,x,l⟩:=c;have b:g.size=zs.length:=by
  have:=Paired.length a;simp at this;rw [<- e.length_eq,<- this]
 refine call_len_set d ⟨rfl,rfl,rfl⟩ rfl (T.fits (by lia)) (by lia) ?_
 rw [b];exact ⟨.int zs.length,H,I.tok _,⟨_,rfl⟩,q⟩
end
end L2
namespace L2
open PySem PySem.Spec PyProof.Rows
section
variable {X:Cx}
theorem qdC {E:Value->Shared->Prop} {Aa:List (Addr × Obj)} {s:Shared} {σ:St} {H:Hp} {x:Str} {i:Nat} {f:Addr} {d:Pos} {Q:Value->Shared->Prop} (I:Inv X Aa σ H s) (n:X.N[i]?=some x) (k:Vis X.env.scope x) (e:σ[i]?=some (some (.ref f))) (h:Q (.ref f) s)
  (b:(x == ("__debug__" : Str))=false:=by decide) (g:(x == ("__classdict__" : Str))=false:=by decide):wpAny (model X.prog X.w) X.A (eval (.Name x d) X.env) Q E s:=by
 obtain ⟨m,q,p⟩:=I.loc;obtain ⟨u,r,l⟩:=p i x _ n e k;obtain rfl:u=.ref f:=r;rcases l with ⟨hk,o⟩ | ⟨hk,c,j,a⟩
 ·exact wpAny_Name (wpAny_loadName_local I.ok.kind hk q o h) b
 ·rcases hk with hk | hk
  ·exact wpAny_Name (wpAny_loadName_cell I.ok.kind hk j a h) b
  ·exact wpAny_Name (wpAny_loadName_free I.ok.kind hk j a h g) b
def qcE (i:Nat) (f:Addr) (K:PySem.W.Frag) (ta:TA) (sp:Sp) (dvs:List V) (c:Value) (j:Option Nat) (th:TS):TS:=fun D σ H=>σ[i]?=some (some (.ref f))/\qe6 K ta sp dvs c j th D σ H
theorem qXQ {i:Nat} {fn cn:Str} {a:Expr} {as:List Expr} {pf pc pa pC ph pt:Pos} {b₀:Stmt} {l:List Stmt} {ta:TA} {th:TS} {c:Value} {nm:Option Str} {j:Option Nat} {k:Nat} {f:Addr} {fd:FuncData} {ps:List Str} {sp:Sp} {p:List V} {ds:List Value}
  (a9:X.stack=X.env::X.outer) (a7:X.env.frame=some X.env.locals) (hN:X.N.Nodup)
  (F:FnOk X.prog X.w X.K X.mg X.base (CX1 X.prog X.w) k f fd ps sp) (hr:Room k X.A) (hi:X.N[i]?=some fn) (hv:Vis X.env.scope fn) (hk:PySem.W.keepIn X.K (.ref f)=true) (o:Binds X.K fd ps ds) (hd:Vals p ds)
  (ha:PA X.nox (a::as) ta) (a4:Gl X cn) (a8:X.mg cn=some c)
  (hj:match j,nm with | none,none=>True | some j,some n=>X.N[j]?=some n/\X.env.scope.names.lookup n=some .local | _,_=>False)
  (hh:∀ ev,PSs (X.held ev).nox (b₀::l) th)
  (hs:swapsWith (.Call (.Name fn pf) (a::as) [] pc) none pa.line X.env=pure false:=by rfl)
  (a3:(fn == ("__debug__" : Str))=false:=by decide) (ab:(fn == ("__classdict__" : Str))=false:=by decide) (a5:(cn == ("__debug__" : Str))=false:=by decide)
  (he:starEach (a::as) X.env=(false,eval a X.env)::starEach as X.env:=by rfl) (a6:(backTo pc (starEach as X.env)).any (·.1)=false:=by rfl) :
  PS X (.Try [.Expr (.Call (.Name fn pf) (a::as) [] pc) pa] [.ExceptHandler (some (.Name cn pC)) nm (b₀::l) ph] [] [] pt) (qcE i f X.K ta sp p c j th):=by
 intro Aa s σ H D I h;obtain ⟨hσ,h⟩:=h;rw [arm_exec_Try];refine wpAny_bind (wpAny_standAt ?_);refine wpAny_tryStmt_except ?_;refine wpAny_execs_cons ?_;refine wpAny_Expr_any ?_ I.quiet hs;refine wpAny_Call_Name_kw (qdC I hi hv hσ ?_ a3 ab);refine PySem.W.callWith_K (h₀:=X.base) I.ok.mod.kin hk (wpAny_mono (ha pc Aa s σ H _ (I.wish _) h) (fun us s1 ⟨vs,H1,I1,r,q⟩=>?_) fun _ _ z=>z.elim) he a6;have I1:=I1.unwish;refine ⟨I1.kIn,?_⟩;have r2:Vals (vs++p) (us++ds):=r.append hd;have hl:(us++ds).length=ps.length:=by rw [<- r2.length];exact F.len _ _ _ _ q
 refine wpAny_call (codeAny_mono (F.run X.A X.stack s1 H1 ⟨us,[]⟩ (us++ds) (vs++p) _ _ hr I1.env0 (o s1 us I1.kIn hl) r2 q) fun aa s2 hq=>?_);cases aa with
 | ok fl=>
  cases fl with
  | ret u=>
   obtain ⟨v,H2,I2,rv,q2⟩:=I1.after hq;exact wpAny_execs_nil (wpAny_execs_nil ⟨_,H2,I2,q2⟩)
  | next=>exact False.elim hq
  | brk=>exact False.elim hq
  | cont=>exact False.elim hq
 | error ev=>
  refine I1.lands (E:=fun _ _ _=>True) a9 a7 hq fun e ac dd H2 B s3 ee x y g=>?_;subst ee;obtain ⟨hc,g⟩:=g;obtain ⟨oe,ae,ad,a1,a2,_⟩:=y.ex.rec_;have LT:PySem.W.Looks (model X.prog X.w) s3.heap (typeOf (.ref e)) ac:=by
   subst a2;exact (PySem.W.Looks.ld a1).andThen .now
  refine wpAny_handleBy_cons (codeAny_handlers_test ?_) (by intro z;cases z)
  have J3:=x.held (.ref e);refine qLB J3 a4 a8 ?_ a5;refine (PySem.W.exm_one x.kIn LT hc).here ?_;have a0:=x.ok;cases nm with
  | none=>
   cases j with
   | some j=>exact hj.elim
   | none=>
    refine codeAny_handlers_suite (qFO y.ex fun h4 x4 u4=>?_);have y4:=y.step x4 u4 fun b o=>o;have I4:Inv X Aa σ H2 { s3 with heap:=h4 }:=I1.call' (s':={ s3 with heap:=h4 }) (x.os.trans I1.os.symm) y4.un y4.hok x.bare fun b o=>absurd o (by simp)
    have I5:=I4.caught ⟨s1,I1,rfl⟩ y4;exact wpAny_mono (hh (.ref e) Aa _ σ _ D ((I5.held _).wish _) (g e y.ne)) (fun fl s5 t=>SP.back a0 t) fun _ _ z=>z.elim
  | some n=>
   cases j with
   | none=>exact hj.elim
   | some j=>
    obtain ⟨m,d⟩:=hj;refine codeAny_handlers_suite_as (qFO y.ex fun h4 x4 u4=>?_);have y4:=y.step x4 u4 fun b o=>o;have I4:Inv X Aa σ H2 { s3 with heap:=h4 }:=I1.call' (s':={ s3 with heap:=h4 }) (x.os.trans I1.os.symm) y4.un y4.hok x.bare fun b o=>absurd o (by simp)
    have I5:=I4.caught ⟨s1,I1,rfl⟩ y4;refine qKD (v:=.ref e) I5 hN m (.inl d) rfl (fun s6 I6=>?_) (.inr d);refine wpAny_mono (hh (.ref e) Aa _ _ _ _ ((I6.held _).wish _) (g e y.ne)) (fun fl s5 t=>?_) fun _ _ z=>z.elim;have t:=SP.back a0 t;cases fl with
    | next=>obtain ⟨σ7,H7,I7,q7⟩:=t;exact I7.goes hN m d fun s8 I8=>⟨_,H7,I8,q7⟩
    | brk=>obtain ⟨σ7,H7,I7,q7⟩:=t;exact I7.goes hN m d fun s8 I8=>⟨_,H7,I8,q7⟩
    | cont=>obtain ⟨σ7,H7,I7,q7⟩:=t;exact I7.goes hN m d fun s8 I8=>⟨_,H7,I8,q7⟩
    | ret u=>obtain ⟨v7,σ7,H7,I7,r7,q7⟩:=t;exact I7.goes hN m d fun s8 I8=>⟨v7,_,H7,I8,r7,q7⟩
end
end L2
namespace L2
open PySem PySem.Spec PyProof.Rows
section
variable {X:Cx}
theorem qWN:qD1 X (.builtin "len") (fun xs H Q=>∃ p zs,xs=[V.ref p]/\H p=some (SetM X.w p zs)/\Q (.int (zs.length:Nat)) H):=by
 intro j s σ H xs m Q I r h;obtain ⟨p,zs,rfl,i,q⟩:=h;obtain ⟨u,rfl,f⟩:=qEJ r;cases f;obtain ⟨c,_⟩:=(show ObjOk X.prog X.w H s.heap p (SetM X.w p zs) from I.hok p _ i);obtain ⟨g,k,t,n,d,T,a,e,o,v,l⟩:=c;have b:g.size=zs.length:=by
  have:=Paired.length a;simp at this;rw [<- e.length_eq,<- this]
 refine call_len_set d ?_ rfl (T.fits (by lia)) (by lia) ?_
 ·exact ⟨rfl,rfl,rfl⟩
 ·rw [b];exact ⟨.int zs.length,H,I.tok _,⟨_,rfl⟩,q⟩
end
end L2
namespace L2
open PySem PySem.Spec PyProof.Rows
structure Clb (P:Program) (w:World) (K:PySem.W.Frag) (mg:Str->Option Value) (base:Heap) (n:Nat) (f:Addr) (fd:FuncData) (x:Str) (ps:List Str) (sp:Sp):Prop where
 G:FnOk P w K mg base CX0 n f fd ps sp
 b:Binds K fd ps []
 k:PySem.W.keepIn K (.ref f)=true
 m:mg x=some (.ref f)
theorem qAQ {X:Cx} {n k:Nat} {f:Addr} {i:FuncData} {x:Str} {ps:List Str} {sp:Sp} {e:Expr} {es:List Expr} {t:TA} {p a:Pos} (C:Clb X.prog X.w X.K X.mg X.base n f i x ps sp) (l:Room k X.A) (h:Gl X x)
  (o:PA X (e::es) t) (g:n<=k:=by decide) (c:(x == ("__debug__" : Str))=false:=by decide) (j:starEach (e::es) X.env=(false,eval e X.env)::starEach es X.env:=by rfl) (d:(backTo a (starEach es X.env)).any (·.1)=false:=by rfl) :
  PE X (.Call (.Name x p) (e::es) [] a) (qcJ sp [] E0 t):=qaR C.G (l.mono g) h C.m C.k C.b .nil qQQ o c j d
theorem nmD {i:Nat} {t u:TS} {D:Ends} {x:V} {σ:St} {H:Hp} (h:∀ D':Ends,(∀ σ H,D.nx σ H->D'.nx σ H)->(∀ v H,D.rt v H->D'.rt v H)->tSeq t u D' (σ.set i (some x)) H):qQZ i x σ H fun σ2 H2=>tSeq t u D σ2 H2:=h D (fun _ _ z=>z) fun _ _ z=>z
theorem nmI {g:TG} {c:TT} {t u:TS} {D:Ends} {x:V} {σ:St} {H:Hp} (h:∀ D':Ends,(∀ σ H,D.nx σ H->D'.nx σ H)->(∀ v H,D.rt v H->D'.rt v H)->g x σ H fun σ2 H2=>tIfS c t u D' σ2 H2):g x σ H fun σ2 H2=>tIfS c t u D σ2 H2:=h D (fun _ _ z=>z) fun _ _ z=>z
end L2
namespace L2
open PySem PySem.Spec PyProof.Rows
def Tf (K:PySem.W.Frag) (x:Str) (s:Stmt) (f:Addr):Prop:=PySem.W.nsIn K mainGlobals x=some (some (.ref f))/\∃ fd,Fun K x x s f fd
theorem Tf.use {K:PySem.W.Frag} {h:Heap} {mg:Str->Option Value} {x:Str} {s:Stmt} {f:Addr} (X:K.In h) (G:h.Ns mainGlobals mg) (T:Tf K x s f):∃ fd,Fun K x x s f fd/\mg x=some (.ref f):=
 let ⟨a,fd,F⟩:=T
 ⟨fd,F,PySem.W.mg_of X G a⟩
theorem Tf.clb {P:Program} {w:World} {K:PySem.W.Frag} {h base:Heap} {mg:Str->Option Value} {x:Str} {s:Stmt} {f:Addr} {n:Nat} {ps:List Str} {sp:Sp} (X:K.In h) (G:h.Ns mainGlobals mg) (T:Tf K x s f) (a:∀ fd,Fun K x x s f fd->FnOk P w K mg base CX0 n f fd ps sp)
  (b:∀ (kV doc pm:Value) (an:Option Addr) (cdv ct:Value) (us:List Value),us.length=ps.length->bindArgs (PySem.W.fnOf x x (qCT s) (qBT s) (qAB s) .none kV doc pm an cdv ct) ⟨us,[]⟩=pure (ps.zip us)):∃ fd,Clb P w K mg base n f fd x ps sp:=
 let ⟨fd,F,m⟩:=T.use X G
 ⟨fd,a fd F,F.binds b,F.kp,m⟩
def Zs (K:PySem.W.Frag):List Str->Prop
 | []=>True
 | x::r=>PySem.W.nsIn K mainGlobals x=some none/\Zs K r
def Zm (mg:Str->Option Value):List Str->Prop
 | []=>True
 | x::r=>mg x=none/\Zm mg r
theorem Zs.mg {K:PySem.W.Frag} {h:Heap} {mg:Str->Option Value} (X:K.In h) (G:h.Ns mainGlobals mg):∀ {l:List Str},Zs K l->Zm mg l
 | [],_=>trivial
 | _::_,⟨a,b⟩=>⟨PySem.W.mg_none_of X G a,Zs.mg X G b⟩
theorem qC1 {N P:List Str} {a:Scope} (b:a.kind=.function:=by rfl) (h:a.isCoroutine=false:=by rfl) (d:a.isGenerator=false:=by rfl) (f:N.Nodup:=by decide +kernel) (e:N.take P.length=P:=by rfl) (c:∀ x ∈ P,a.names.lookup x=some .local\/a.names.lookup x=some .cell:=by decide +kernel) (g:∀ y ∈ a.names,y.2 ≠ .free:=by decide +kernel):FnScope N P a:=⟨b,h,d,f,e,c,g⟩
section
variable {P:Program} {w:World} {K:PySem.W.Frag} {mg:Str->Option Value} {base:Heap}
theorem Fun.okA {x a:Str} {st:Stmt} {f:Addr} {d:FuncData} {N ps:List Str} {k:Nat} {sp:Sp} (F:Fun K x a st f d) (S:FnScope N ps (qAB st))
  (b:∀ (cdv:Value) (A:Around) (outer:List Env) (s:Shared) (H:Hp) (vs:List V) (Q:VK) (E:XK),Room k (A.deeper (envOfC a (qAB st) s.heap.objs.size f cdv))->sp vs H Q E->
   ∃ t,PSs (cxOf CX0 P w K mg base N a (qAB st) f cdv A outer s H E).nox (qBT st) t/\t { nx:=fun _ H'=>Q .non H',rt:=Q } (qLX N vs) H)
  (c:∀ vs H Q E,sp vs H Q E->vs.length=ps.length:=by intro vs H Q E h;(repeat (obtain ⟨_,h⟩:=h));subst_vars;rfl):FnOk P w K mg base CX0 (k+1) f d ps sp:=F.ok S c b
@[elab_as_elim] theorem us5 {α:Type} {P:List α->Prop} (us:List α) (f:us.length=5) (h:∀ a b c d e,P [a,b,c,d,e]):P us:=by
 match us,f with
 | [a,b,c,d,e],_=>exact h a b c d e
def Bs (P:Program) (w:World) (base:Heap):Prop:=P=P/\w=w/\base=base
theorem Tf.c {h:Heap} {x:Str} {s:Stmt} {f:Addr} {n:Nat} {ps:List Str} {sp:Sp} (X:K.In h) (G:h.Ns mainGlobals mg) (B:Bs P w base) (T:Tf K x s f) (a:∀ fd,Fun K x x s f fd->FnOk P w K mg base CX0 n f fd ps sp)
  (b:∀ (kV doc pm:Value) (an:Option Addr) (cdv ct:Value) (us:List Value),us.length=ps.length->bindArgs (PySem.W.fnOf x x (qCT s) (qBT s) (qAB s) .none kV doc pm an cdv ct) ⟨us,[]⟩=pure (ps.zip us):=by
   intro _ _ _ _ _ _ us hl;first | exact us1 us hl (fun _=>rfl) | exact us2 us hl (fun _ _=>rfl) | exact us3 us hl (fun _ _ _=>rfl) | exact us4 us hl (fun _ _ _ _=>rfl) | exact us5 us hl (fun _ _ _ _ _=>rfl) | exact us0 us hl rfl):∃ fd,Clb P w K mg base n f fd x ps sp:=T.clb X G a b
end
section
variable {X:Cx} {pos:Pos}
theorem qF2 {x:Str} (i:Nat) (b:X.N.Nodup:=by exact qeP (by kernel_rfl)) (hi:X.N[i]?=some x:=by rfl) (a:Loc X.env.scope x:=by exact Or.inl rfl) (c:X.fn x=true\/X.env.scope.names.lookup x=some .local:=by first | exact .inl rfl | exact .inr rfl | assumption):PG X (.Name x pos) (qQZ i):=qBS b hi a c
end
end L2
namespace Fw
open PySem L2
theorem qAO:bootBuiltins "len" = some (.builtin "len"):=by decide +kernel
theorem qZN:bootBuiltins "min" = some (.builtin "min"):=by decide +kernel
theorem qZO:bootBuiltins "max" = some (.builtin "max"):=by decide +kernel
theorem qIK:bootBuiltins "sorted" = some (.builtin "sorted"):=by decide +kernel
theorem qWQ:bootBuiltins "divmod" = some (.builtin "divmod"):=by decide +kernel
theorem qSP:bootBuiltins "all" = some (.builtin "all"):=by decide +kernel
theorem qB2:bootBuiltins "isinstance" = some (.builtin "isinstance"):=by decide +kernel
theorem qMW:bootBuiltins "int" = some (.type "int"):=by decide +kernel
theorem qbR:bootBuiltins "bool" = some (.type "bool"):=by decide +kernel
theorem qSO:bootBuiltins "str" = some (.type "str"):=by decide +kernel
theorem qOD:bootBuiltins "list" = some (.type "list"):=by decide +kernel
theorem qBD:bootBuiltins "tuple" = some (.type "tuple"):=by decide +kernel
theorem qMV:bootBuiltins "set" = some (.type "set"):=by decide +kernel
theorem qYK:bootBuiltins "range" = some (.type "range"):=by decide +kernel
theorem qFQ:bootBuiltins "enumerate" = some (.type "enumerate"):=by decide +kernel
structure StAt (H:Hp) (d c:Addr) (t:Int) (ns:List Int):Prop where
 dict:H d=some (.dK [(Sum.inr "cells",.ref c),(Sum.inr "turn",.int t)])
 list:H c=some (.lst (ns.map V.int))
 ne:0<ns.length
 len:ns.length<=63
 pos:0<=t
def Keep (d c:Addr) (H H':Hp):Prop:=∀ b o,H b=some o->b ≠ d->b ≠ c->H' b=some o
theorem Keep.refl {d c:Addr} {H:Hp}:Keep d c H H:=fun _ _ h _ _=>h
theorem Keep.trans {d c:Addr} {H H1 H2:Hp} (a:Keep d c H H1) (b:Keep d c H1 H2):Keep d c H H2:=fun x o h n m=>b x o (a x o h n m) n m
theorem Keep.of_same {d c:Addr} {H H':Hp} (h:Same H H'):Keep d c H H':=fun b o e _ _=>h b o e
theorem qA3 {H:Hp} {p:Addr} (h:H p=none) (o:HO):Same H (Af H p o):=fun b u q=>by rw [qA8 (qA4 q h)];exact q
theorem qCA {d c:Addr} {H:Hp} {p:Addr} (h:H p=none) (o:HO):Keep d c H (Af H p o):=.of_same (qA3 h o)
theorem StAt.ndc {H:Hp} {d c:Addr} {t:Int} {ns:List Int} (S:StAt H d c t ns):d ≠ c:=qDZ S.dict S.list (by intro z;cases z)
theorem StAt.same {H H':Hp} {d c:Addr} {t:Int} {ns:List Int} (S:StAt H d c t ns) (h:Same H H'):StAt H' d c t ns:=⟨h _ _ S.dict,h _ _ S.list,S.ne,S.len,S.pos⟩
theorem StAt.new {H:Hp} {d c p:Addr} {t:Int} {ns:List Int} (S:StAt H d c t ns) (h:H p=none) (o:HO):StAt (Af H p o) d c t ns:=S.same (qA3 h o)
theorem s_cs:¬ (Str.ofString "cells" = Str.ofString "turn"):=by decide +kernel
theorem s_ct:¬ ((Sum.inr (Str.ofString "cells"):Key)=Sum.inr (Str.ofString "turn")):=fun h=>s_cs (Sum.inr.inj h)
theorem qbP {H:Hp} {d c:Addr} {t:Int} {ns:List Int} (S:StAt H d c t ns):DGet H d (.str "turn") (some (.int t)):=by
 have h:=DGet.k (k:=Sum.inr "turn") S.dict;rw [qHC s_ct,qFT rfl] at h;exact h
theorem qO7 {H:Hp} {d c:Addr} {t:Int} {ns:List Int} (S:StAt H d c t ns):DGet H d (.str "cells") (some (.ref c)):=by
 have h:=DGet.k (k:=Sum.inr "cells") S.dict;rw [qFT rfl] at h;exact h
theorem qXN (c:Addr) (t u:Int):putK [((Sum.inr "cells" : Key),V.ref c),(Sum.inr "turn",V.int t)] (Sum.inr "turn") (V.int u)=[((Sum.inr "cells" : Key),V.ref c),(Sum.inr "turn",V.int u)]:=by
 unfold putK;simp [s_cs]
theorem qbN {H:Hp} {d c:Addr} {t u:Int} {ns:List Int} (S:StAt H d c t ns):DPut H d (.str "turn") (.int u) (Af H d (.dK [(Sum.inr "cells",.ref c),(Sum.inr "turn",.int u)])):=by
 have h:=DPut.k (k:=Sum.inr "turn") (v:=.int u) S.dict (by rw [sizeLine_eq];exact (by decide:2<16777216))
 rw [qXN] at h;exact h
theorem StAt.turn {H:Hp} {d c:Addr} {t u:Int} {ns:List Int} (S:StAt H d c t ns) (h:0<=u):StAt (Af H d (.dK [(Sum.inr "cells",.ref c),(Sum.inr "turn",.int u)])) d c u ns:=
 ⟨qA1,by rw [qA8 (Ne.symm S.ndc)];exact S.list,S.ne,S.len,h⟩
theorem StAt.put {H:Hp} {d c:Addr} {t:Int} {ns a:List Int} (S:StAt H d c t ns) (h:a.length=ns.length):StAt (Af H c (.lst (a.map V.int))) d c t a:=
 ⟨by rw [qA8 S.ndc];exact S.dict,qA1,by rw [h];exact S.ne,by rw [h];exact S.len,S.pos⟩
abbrev TB:Int:=1000000000
def qG8:Sp:=fun vs H Q _=>∃ d c t ns m,vs=[.ref d,.int m]/\StAt H d c t ns/\t<=TB/\1<=m/\m<=1000000/\∀ k ns' H',0<=k->k<m->StAt H' d c (t+1) ns'->Keep d c H H'->Q (.int k) H'
def qUI (K:PySem.W.Frag):Sp:=fun vs H Q _=>∃ (a:Addr) (ns:List Int),vs=[.ref a]/\SqL K H a (ns.map V.int)/\ns.length<=63/\∀ d c ms H',StAt H' d c 0 ms->Same H H'->H d=none->H c=none->Q (.ref d) H'
noncomputable def cutI {α:Type} (xs:List α) (lo hi:Option Int):List α:=(xs.drop (HT.sIx xs.length 0 lo)).take (HT.sIx xs.length xs.length hi - HT.sIx xs.length 0 lo)
theorem qG6 {α:Type} (f:α->V) (xs:List α) (lo hi:Option Int):cutV (xs.map f) lo hi=(cutI xs lo hi).map f:=by
 unfold cutV cutI;rw [List.length_map,<- List.map_drop,<- List.map_take]
theorem qYJ {α:Type} (xs:List α) (lo hi:Option Int):(cutI xs lo hi).length<=xs.length:=by
 unfold cutI;rw [List.length_take,List.length_drop]
 lia
theorem qZ7 (c:Addr) (t:Int):qL8 [] [((Sum.inr (Str.ofString "cells"):Key),V.ref c),(Sum.inr (Str.ofString "turn"),V.int t)]=[((Sum.inr (Str.ofString "cells"):Key),V.ref c),(Sum.inr (Str.ofString "turn"),V.int t)]:=by
 unfold qL8;simp only [List.foldl_cons,List.foldl_nil];unfold putK;simp [s_cs]
theorem qJG {xs:List V} {j:Nat} (h:j<xs.length):ixN xs.length (j:Int)=some j:=by
 unfold ixN;rw [if_pos (by lia),if_pos (by lia),Int.toNat_natCast]
def qXB (K:PySem.W.Frag):Sp:=fun vs H Q _=>∃ (a:Addr) (ns:List Int),vs=[.ref a]/\SqL K H a (ns.map V.int)/\ns.length<=63/\∀ H',Q (.bl true) H'
theorem cut {t u:TS} {D:Ends} {σ:St} {H:Hp} (h:∀ N:St->Hp->Prop,(∀ σ H,u D σ H->N σ H)->t { D with nx:=N } σ H):tSeq t u D σ H:=h _ fun _ _ z=>z
theorem opq {A:Prop} (h:∀ G:Prop,(A->G)->G):A:=h A id
structure Rise (k:Int) (zs:List Int):Prop where
 up:zs.Pairwise (·<·)
 in_:∀ x ∈ zs,0<=x/\x<k
theorem Rise.nil {k:Int}:Rise k []:=⟨.nil,fun _ h=>nomatch h⟩
theorem Rise.mono {j k:Int} {zs:List Int} (h:Rise j zs) (l:j<=k):Rise k zs:=⟨h.up,fun x a=>⟨(h.in_ x a).1,by have:=(h.in_ x a).2;lia⟩⟩
theorem Rise.sub {k:Int} {zs ys:List Int} (h:Rise k zs) (s:ys.Sublist zs):Rise k ys:=⟨h.up.sublist s,fun x a=>h.in_ x (s.subset a)⟩
theorem Rise.snoc {k:Int} {zs:List Int} (h:Rise k zs) (e:0<=k):Rise (k+1) (zs++[k]):=by
 refine ⟨List.pairwise_append.mpr ⟨h.up,List.pairwise_singleton _ _,fun a d b c=>?_⟩,fun x hx=>?_⟩
 ·rw [List.mem_singleton.mp c];exact (h.in_ a d).2
 ·rcases List.mem_append.mp hx with hx | hx
  ·have:=h.in_ x hx;lia
  ·rw [List.mem_singleton.mp hx];lia
theorem Rise.shift {k j:Int} {zs:List Int} (h:Rise k zs) (g:0<=j):Rise (k+j) (zs.map (·+j)):=by
 refine ⟨List.pairwise_map.mpr (h.up.imp fun {a b} f=>by lia),fun x d=>?_⟩
 obtain ⟨y,c,e⟩:=List.mem_map.mp d;have:=h.in_ y c
 lia
theorem Rise.nodup {k:Int} {zs:List Int} (h:Rise k zs):zs.Nodup:=h.up.imp fun {a b} c=>by lia
theorem Rise.len {zs:List Int} {k:Nat} (h:Rise (k:Int) zs):zs.length<=k:=by
 have a:zs ⊆ (List.range k).map fun (i:Nat)=>(i:Int):=fun x b=>by
  have:=h.in_ x b;exact List.mem_map.mpr ⟨x.toNat,List.mem_range.mpr (by lia),by lia⟩
 have:=List.Nodup.length_le_of_subset h.nodup a;simpa using this
theorem qXZ {zs:List Int} {k x:Int}:x ∈ addI zs k ↔ x ∈ zs\/x=k:=by
 unfold addI
 split
 ·rename_i h
  constructor
  ·exact .inl
  ·rintro (z | rfl)
   ·exact z
   ·exact h
 ·simp
theorem qaZ {zs:List Int} {k:Int} (h:zs.Nodup):(addI zs k).Nodup:=by
 unfold addI
 split
 ·exact h
 ·rename_i hk
  exact qGU h hk
theorem qWA:∀ (l zs:List Int),zs.Nodup->(l.foldl addI zs).Nodup/\∀ x,x ∈ l.foldl addI zs ↔ x ∈ zs\/x ∈ l
 | [],zs,h=>⟨h,fun x=>by simp⟩
 | k::r,zs,h=>by
  obtain ⟨a,b⟩:=qWA r (addI zs k) (qaZ h);refine ⟨a,fun x=>?_⟩;rw [List.foldl_cons,b x,qXZ,List.mem_cons,or_assoc]
theorem qTI (l:List Int):(dedI l).Nodup:=(qWA l [] .nil).1
theorem mem_dedI {l:List Int} {x:Int}:x ∈ dedI l ↔ x ∈ l:=by
 have:=(qWA l [] .nil).2 x;unfold dedI;rw [this];simp
theorem qIC (l:List Int):(dedI l).length<=l.length:=by
 have:=qCK l [];simpa [dedI] using this
theorem qPF {zs:List Int} (c:zs.Pairwise (·<=·)) (e:zs.Nodup):zs.Pairwise (·<·):=by
 have d:zs.Pairwise (fun a b=>a<=b/\a ≠ b):=List.pairwise_and_iff.mpr ⟨c,e⟩;exact d.imp fun {a b} ⟨x,y⟩=>by lia
theorem qNH {k:Int} {a zs:List Int} (b:zs.Perm (dedI a)) (c:zs.Pairwise (·<=·)) (h:∀ x ∈ a,0<=x/\x<k):Rise k zs:=
 ⟨qPF c (b.nodup_iff.mpr (qTI a)),fun x d=>h x (mem_dedI.mp (b.mem_iff.mp d))⟩
noncomputable def qJY (lo hi:Int):List Int:=(List.range (hi - lo).toNat).map fun (i:Nat)=>lo+i
theorem qQK (lo hi:Int):qJX lo hi=(qJY lo hi).map V.int:=by
 unfold qJX qJY;rw [List.map_map]
 rfl
theorem mem_rangeI {lo hi x:Int}:x ∈ qJY lo hi ↔ lo<=x/\x<hi:=by
 unfold qJY;rw [List.mem_map]
 constructor
 ·rintro ⟨i,a,e⟩;have:=List.mem_range.mp a
  lia
 ·intro h;exact ⟨(x - lo).toNat,List.mem_range.mpr (by lia),by lia⟩
theorem qUQ (lo hi:Int):(qJY lo hi).Pairwise (·<·):=by
 unfold qJY;exact List.pairwise_map.mpr (List.pairwise_lt_range.imp fun {a b} h=>by lia)
theorem qQL {lo hi:Int} (h:0<=lo):Rise hi (qJY lo hi):=⟨qUQ _ _,fun x a=>by have:=mem_rangeI.mp a;lia⟩
theorem qLM {α:Type} (xs:List α) (k:Nat) (h:k<=xs.length):cutI xs (some (k:Int)) none=xs.drop k:=by
 unfold cutI;rw [HT.sIx_nat,HT.sIx_none,Nat.min_eq_left h];exact List.take_of_length_le (by rw [List.length_drop];exact Nat.le_refl _)
theorem qWG {α:Type} (xs:List α) (k:Nat):cutI xs none (some (k:Int))=xs.take k:=by
 unfold cutI;rw [HT.sIx_nat,HT.sIx_none,List.drop_zero,Nat.sub_zero];rcases Nat.le_total k xs.length with h | h
 ·rw [Nat.min_eq_left h]
 ·rw [Nat.min_eq_right h,List.take_of_length_le h,List.take_of_length_le (Nat.le_refl _)]
abbrev NetL (H:Hp):List Addr->List (List Int)->Prop:=Paired fun r zs=>H r=some (.tup (zs.map V.int))
theorem NetL.keep {d c:Addr} {H H':Hp} {rs:List Addr} {a:List (List Int)} (h:NetL H rs a) (b:∀ r zs,H r=some (.tup zs)->r ≠ d/\r ≠ c) (k:Keep d c H H'):NetL H' rs a:=by
 induction h with
 | nil=>exact .nil
 | cons r t ih=>exact .cons (k _ _ r (b _ _ r).1 (b _ _ r).2) ih
theorem NetL.same {H H':Hp} {rs:List Addr} {a:List (List Int)} (h:NetL H rs a) (k:∀ r zs,H r=some (.tup zs)->H' r=some (.tup zs)):NetL H' rs a:=by
 induction h with
 | nil=>exact .nil
 | cons r t ih=>exact .cons (k _ _ r) ih
theorem NetL.get {H:Hp}:∀ {rs:List Addr} {net:List (List Int)} {i:Nat} {zs:List Int},NetL H rs net->net[i]?=some zs->∃ r,rs[i]?=some r/\H r=some (.tup (zs.map V.int))
 | _,_,_,_,.nil,e=>by simp at e
 | _,_,0,_,.cons r _,e=>by simp at e;subst e;exact ⟨_,rfl,r⟩
 | _,_,i+1,zs,.cons _ t,e=>by
  obtain ⟨r,h1,h2⟩:=NetL.get (i:=i) (zs:=zs) t (by simpa using e)
  exact ⟨r,by simpa using h1,h2⟩
def NetAt (H:Hp) (a:Addr) (net:List (List Int)):Prop:=∃ rs:List Addr,H a=some (.tup (rs.map V.ref))/\NetL H rs net
theorem StAt.tup {H:Hp} {d c:Addr} {t:Int} {ns:List Int} (S:StAt H d c t ns) {r:Addr} {zs:List V} (h:H r=some (.tup zs)):r ≠ d/\r ≠ c:=
 ⟨qDZ h S.dict (by intro z;cases z),qDZ h S.list (by intro z;cases z)⟩
theorem NetAt.keep {H H':Hp} {d c:Addr} {t:Int} {ns:List Int} (S:StAt H d c t ns) {a:Addr} {b:List (List Int)} (h:NetAt H a b) (k:Keep d c H H'):NetAt H' a b:=by
 obtain ⟨g,f,i⟩:=h;exact ⟨g,k _ _ f (S.tup f).1 (S.tup f).2,i.keep (fun r j e=>S.tup e) k⟩
theorem NetAt.len {H:Hp} {rs:List Addr} {a:List (List Int)} (h:NetL H rs a):rs.length=a.length:=Paired.length h
def WFn (net:List (List Int)):Prop:=∀ (i:Nat) zs,net[i]?=some zs->Rise (i:Int) zs
theorem WFn.snoc {a:List (List Int)} {zs:List Int} (h:WFn a) (c:Rise (a.length:Int) zs):WFn (a++[zs]):=by
 intro i b e;rcases Nat.lt_trichotomy i a.length with l | l | l
 ·rw [List.getElem?_append_left l] at e;exact h i b e
 ·subst l;simp at e;subst e;exact c
 ·rw [List.getElem?_eq_none (by rw [List.length_append,List.length_singleton];lia)] at e
  cases e
theorem WFn.nil:WFn []:=fun i a e=>by simp at e
theorem qE3 {α β:Type} {F:α->β->Prop} {a:α} {b:β} {c:List α} {l₂:List β} (h:Paired F c l₂) (r:F a b):Paired F (c++[a]) (l₂++[b]):=Paired.snoc h r
def qQD:Sp:=fun vs H Q _=>∃ d c t ns k,vs=[.ref d,.int k]/\StAt H d c t ns/\t<=TB - 20/\0<=k/\k<=1000/\
 ∀ r zs t' ns' H',StAt H' d c t' ns'->t<=t'->t'<=t+9->Keep d c H H'->H' r=some (.tup (zs.map V.int))->Rise k zs->Q (.ref r) H'
def qcN:Sp:=fun vs H Q _=>∃ d c t ns m,vs=[.ref d,.int m]/\StAt H d c t ns/\t<=TB - 10000/\1<=m/\m<=400/\
 ∀ a net t' ns' H',StAt H' d c t' ns'->t<=t'->t'<=t+10 * m+10->Keep d c H H'->NetAt H' a net->WFn net->(net.length:Int)=m->Q (.ref a) H'
def qYU:Sp:=fun vs H Q _=>∃ d c t ns m,vs=[.ref d,.int m]/\StAt H d c t ns/\t<=TB - 1000/\1<=m/\m<=400/\
 ∀ a net t' ns' H',StAt H' d c t' ns'->t<=t'->t'<=t+m->Keep d c H H'->NetAt H' a net->WFn net->(net.length:Int)=m->Q (.ref a) H'
theorem qeO {a b k:Int} (d:0<=k) (c:k<4):∃ v,atI [V.int a,V.int b] (k / 3)=some (.int v)/\(v=a\/v=b):=by
 rcases (by lia:k=0\/k=1\/k=2\/k=3) with rfl | rfl | rfl | rfl
 ·exact ⟨a,rfl,.inl rfl⟩
 ·exact ⟨a,rfl,.inl rfl⟩
 ·exact ⟨a,rfl,.inl rfl⟩
 ·exact ⟨b,rfl,.inr rfl⟩
theorem qeN {k:Int} (b:0<=k) (a:k<6):∃ v,atI [V.int 0,V.int 0,V.int 1,V.int 2,V.int 2,V.int 3] k=some (.int v)/\0<=v/\v<=3:=by
 rcases (by lia:k=0\/k=1\/k=2\/k=3\/k=4\/k=5) with rfl | rfl | rfl | rfl | rfl | rfl
 all_goals exact ⟨_,rfl,by decide,by decide⟩
theorem qFW {H Hc:Hp} {p:Addr} {o:HO} (h:Same H Hc) (a:H p=none):Same H (Af Hc p o):=fun b u e=>by rw [qA8 (qA4 e a)];exact h b u e
theorem qS9 {d c:Addr} {H Hc:Hp} {p:Addr} {o:HO} (h:Keep d c H Hc) (g:H p=none):Keep d c H (Af Hc p o):=fun b u e f a=>by rw [qA8 (qA4 e g)];exact h b u e f a
theorem qG2 {H:Hp} {p:Addr} {xs:List V} {o:HO} {rs:List Addr} {a:List (List Int)} (h:NetL H rs a) (b:H p=some (.lst xs)):NetL (Af H p o) rs a:=
 h.same fun r c e=>by rw [qA8 (qDZ e b (by intro z;cases z))];exact e
theorem qF6 (rs:List Addr) (r:Addr):rs.map V.ref++[V.ref r]=(rs++[r]).map V.ref:=by rw [List.map_append];rfl
theorem qcY (b:Bool) (x:Int):(List.replicate (if b=true then (1:Int) else 0).toNat [V.int x]).flatten=(if b=true then [x] else []).map V.int:=by cases b <;> rfl
theorem qJ7 {α β:Type} {F:α->β->Prop}:∀ {l₁:List α} {l₂:List β} {i:Nat} {a:α},Paired F l₁ l₂->l₁[i]?=some a->∃ b,l₂[i]?=some b/\F a b
 | _,_,_,_,.nil,e=>by simp at e
 | _,_,0,_,.cons r _,e=>by simp at e;subst e;exact ⟨_,rfl,r⟩
 | _,_,i+1,a,.cons _ t,e=>by
  obtain ⟨b,h1,h2⟩:=qJ7 (i:=i) (a:=a) t (by simpa using e)
  exact ⟨b,by simpa using h1,h2⟩
theorem qBG {α β:Type} {F G:α->β->Prop} {c:List α} {l₂:List β} (h:Paired F c l₂) (k:∀ a b,F a b->G a b):Paired G c l₂:=by
 induction h with
 | nil=>exact .nil
 | cons r t ih=>exact .cons (k _ _ r) ih
theorem qVT {rs:List Addr} {i:Nat} {x:V} (h:(rs.map V.ref)[i]?=some x):∃ r,rs[i]?=some r/\x=.ref r:=by
 rw [List.getElem?_map] at h;cases e:rs[i]? with
 | none=>rw [e] at h;cases h
 | some r=>rw [e] at h;exact ⟨r,rfl,(Option.some.inj h).symm⟩
theorem qbF {zs:List Int} {i:Nat} {x:V} (h:(zs.map V.int)[i]?=some x):∃ z,zs[i]?=some z/\x=.int z:=by
 rw [List.getElem?_map] at h;cases e:zs[i]? with
 | none=>rw [e] at h;cases h
 | some r=>rw [e] at h;exact ⟨r,rfl,(Option.some.inj h).symm⟩
theorem qRO {α:Type} {l:List α} {a b:α} {j:Nat} (h:(l++[a])[j]?=some b):l[j]?=some b\/(j=l.length/\b=a):=by
 rcases Nat.lt_trichotomy j l.length with z | z | z
 ·rw [List.getElem?_append_left z] at h;exact .inl h
 ·subst z;simp at h;exact .inr ⟨rfl,h.symm⟩
 ·rw [List.getElem?_eq_none (by rw [List.length_append,List.length_singleton];lia)] at h
  cases h
noncomputable def qc8 (ns st:List Int) (rooms wk:Int):V:=if wk ∈ st then .str "there" else if ∀ x ∈ ns,x ∈ st then (if rooms<=(st.length:Int) then .str "full" else .non) else .str "needs"
noncomputable def qTY (st:List Int) (wk:Int):V:=if wk ∈ st then .non else .str "empty"
noncomputable def qc7 (ns st:List Int) (rooms:Int) (Ab:Str) (wk:Int):V:=if Ab = "do" then qc8 ns st rooms wk else qTY st wk
theorem qSD {xs:List V} {i:Int} {x:V} (a:0<=i) (h:xs[i.toNat]?=some x):atI xs i=some x:=by
 have e:i=((i.toNat:Nat):Int):=by lia
 rw [e];exact qAN (by simpa using h)
theorem qdW:bootBuiltins "zip" = some (.type "zip"):=by decide +kernel
def seqO (b:Bool) (xs:List V):HO:=match b with | true=>.tup xs | false=>.lst xs
theorem SqB.of {b:Bool} {K:PySem.W.Frag} {H:Hp} {a:Addr} {xs:List V} (h:H a=some (seqO b xs)):SqB b K H a xs:=by
 cases b
 ·exact SqL.of h
 ·exact SqT.of h
noncomputable def tyOf (b:Bool):Value:=match b with | true=>.type "tuple" | false=>.type "list"
section
variable {K:PySem.W.Frag}
theorem qZB (b:Bool):PySem.W.kitOne K (tyOf b) (.type "tuple")=some b:=by cases b <;> rfl
theorem qdH:PySem.W.kitOne K (.type "str") (.type "tuple")=some false:=by rfl
theorem qdJ:PySem.W.kitOne K (.type "int") (.type "list")=some false:=by rfl
theorem qS7:PySem.W.kitOne K (.type "int") (.type "tuple")=some false:=by rfl
theorem qdI:PySem.W.kitOne K (.type "int") (.type "str")=some false:=by rfl
theorem qdK:PySem.W.kitOne K (.type "int") (.type "int")=some true:=by rfl
theorem qdL:PySem.W.kitOne K (.type "int") (.type "bool")=some false:=by rfl
end
abbrev MovL (H:Hp):List Addr->List (Str × Int)->Prop:=Paired fun r m=>H r=some (.tup [.str m.1,.int m.2])
noncomputable def wd (net:List (List Int)) (st:List Int) (rooms:Int) (m:Str × Int):V:=qc7 ((net[m.2.toNat]?).getD []) st rooms m.1 m.2
structure Cnt (n:Nat) (cs:List Int) (seen:List Int):Prop where
 len:cs.length=n
 at_:∀ x:Nat,x<n->∃ c,cs[x]?=some c/\0<=c/\(c=0 ↔ (x:Int) ∉ seen)
inductive Nd (net:List (List Int)) (Ac:List Int):Int->Prop
 | ask {x:Int}:x ∈ Ac->Nd net Ac x
 | need {w y:Int} {zs:List Int}:Nd net Ac w->net[w.toNat]?=some zs->y ∈ zs->Nd net Ac y
structure KeysI (Ae:List (Key × V)) (ks:List Int):Prop where
 keys:Ae.map (·.1)=ks.map Sum.inl
 nd:ks.Nodup
structure Fnd (net:List (List Int)) (Ac ks:List Int) (j:Int):Prop where
 in_:∀ x ∈ ks,(0<=x/\x<(net.length:Int))/\Nd net Ac x
 ask:∀ x ∈ Ac,x ∈ ks
 clo:∀ (w:Nat) zs,j<=(w:Int)->(w:Int) ∈ ks->net[w]?=some zs->∀ y ∈ zs,y ∈ ks
abbrev Mv:=Str × Int
def nd (net:List (List Int)) (w:Int):List Int:=(net[w.toNat]?).getD []
def qdF (net:List (List Int)) (zs:List Int) (j:Nat) (x:Int):Prop:=∃ v ∈ zs.drop j,x ∈ nd net v
instance (net:List (List Int)) (zs:List Int) (j:Nat) (x:Int):Decidable (qdF net zs j x):=by unfold qdF;infer_instance
inductive Run (net:List (List Int)) (rooms:Int):List Int->List Mv->List Int->Prop
 | nil {s:List Int}:Run net rooms s [] s
 | do_ {s s' t:List Int} {w:Int} {ms:List Mv}:w ∉ s->(∀ y ∈ nd net w,y ∈ s)->(s.length:Int)<rooms->s'.Perm (s++[w])->s'.Pairwise (·<·)->Run net rooms s' ms t->Run net rooms s (("do",w)::ms) t
 | clear {s t:List Int} {w:Int} {ms:List Mv}:w ∈ s->Run net rooms (s.filter fun x=>decide (x ≠ w)) ms t->Run net rooms s (("clear",w)::ms) t
section
variable {net:List (List Int)} {Ac zs:List Int}
end
def qdX (H:Hp) (l:Addr) (ms:List Mv):Prop:=∃ rs:List Addr,H l=some (.lst (rs.map V.ref))/\MovL H rs ms
theorem qOE:bootBuiltins "ValueError" = some (.type "ValueError"):=by decide +kernel
theorem qN3 {H:Hp} {x a:Addr} {o o' u:HO} (h:a ≠ x):Af (Af (Af H x o) a u) x o'=Af (Af H a u) x o':=by
 funext b
 unfold Af;by_cases c:b=x
 ·simp [c]
 ·simp [c]
def Beh (st st':List Int) (Ab:Str) (wk:Int):Prop:=(Ab = "do"->st'.Perm (st++[wk])/\st'.Pairwise (·<=·))/\(Ab = "clear"->st'=st.filter fun x=>decide (x ≠ wk))
theorem qY3 {K:PySem.W.Frag} {C:Addr}:PySem.W.kitOne K (.ref C) (.ref C)=some true:=by
 unfold PySem.W.kitOne;rw [if_pos (by simp)]
inductive Play (net:List (List Int)) (rooms:Int):List Int->List Mv->List (List Int)->V->Prop
 | nil {st}:Play net rooms st [] [] .non
 | stop {st m ms w0}:wd net st rooms m=.str w0->Play net rooms st (m::ms) [] (.str w0)
 | go {st st' m ms sts v}:wd net st rooms m=.non->Beh st st' m.1 m.2->Play net rooms st' ms sts v->Play net rooms st (m::ms) (st'::sts) v
def MvOk (net:List (List Int)) (ms:List Mv):Prop:=∀ m ∈ ms,(m.1 = "do"\/m.1 = "clear")/\0<=m.2/\m.2<(net.length:Int)
def qYO (H:Hp) (l:Addr) (sts:List (List Int)):Prop:=∃ rs:List Addr,H l=some (.lst (rs.map V.ref))/\NetL H rs sts
structure YNa (K:PySem.W.Frag) (C:Addr):Prop where
 net:NoAttr K C "net"
 rooms:NoAttr K C "rooms"
 made:NoAttr K C "made"
 stands:NoAttr K C "stands"
noncomputable def yfs (a:Addr) (rooms:Int) (lm ls:Addr):List (Str × V):=putF "stands" (.ref ls) (putF "made" (.ref lm) (putF "rooms" (.int rooms) (putF "net" (.ref a) [])))
structure YardAt (C:Addr) (H:Hp) (y a lm ls:Addr) (net:List (List Int)) (rooms:Int) (ms:List Mv) (sts:List (List Int)):Prop where
 obj:∃ dx,H y=some (.ins C dx (yfs a rooms lm ls))
 nat:NetAt H a net
 wf:WFn net
 n400:net.length<=400
 r0:0<=rooms
 r62:rooms<=62
 made:qdX H lm ms
 ok:MvOk net ms
 len:ms.length<=10000
 stands:qYO H ls ([]::sts)
 play:Play net rooms [] ms sts .non
 ne:lm ≠ ls
def KeepL (xs:List Addr) (H H':Hp):Prop:=∀ b o,H b=some o->b ∉ xs->H' b=some o
theorem KeepL.of_same {xs:List Addr} {H H':Hp} (h:Same H H'):KeepL xs H H':=fun b o e _=>h b o e
theorem KeepL.trans {xs:List Addr} {H H1 H2:Hp} (a:KeepL xs H H1) (b:KeepL xs H1 H2):KeepL xs H H2:=fun x o h n=>b x o (a x o h n) n
theorem qC6 {xs:List Addr} {H:Hp} {p:Addr} {o:HO} (h:p ∈ xs):KeepL xs H (Af H p o):=fun b u e n=>by
 rw [qA8 (show b ≠ p from fun z=>n (by rw [z];exact h))]
 exact e
def qB4 (lo hi c:Nat):Bool:=decide (lo<=c) && decide (c<=hi)
def isNm (x:Str):Bool:=decide (x.length<=8) && x.cps.toList.all (qB4 97 122)
def asc (x:Str):Bool:=x.cps.toList.all (qB4 32 126)
theorem qNT {a b:Nat}:(!(decide (([b]:List Nat)<[a])))=decide (a<=b):=by
 by_cases h:a<=b
 ·rw [decide_eq_true h,decide_eq_false]
  ·rfl
  ·intro z;cases z with
   | rel z=>exact absurd (show b<a from z) (by lia)
   | cons z=>cases z
 ·rw [decide_eq_false h,decide_eq_true (show ([b]:List Nat)<[a] from List.Lex.rel (show b<a by lia))]
  rfl
def nmF:Nat->List Str->Str->Option Int
 | _,[],_=>none
 | k,x::r,w=>if x=w then some (k:Int) else nmF (k+1) r w
def numD:Nat->List Str->List (Key × V)
 | _,[]=>[]
 | k,x::r=>(Sum.inr x,.int (k:Int))::numD (k+1) r
theorem qRX:∀ (k:Nat) (ns:List Str),(numD k ns).length=ns.length
 | _,[]=>rfl
 | k,x::r=>by unfold numD;rw [List.length_cons,List.length_cons,qRX]
theorem qPD:∀ (k:Nat) (ns:List Str),(numD k ns).map (fun p=>kV p.1)=ns.map V.str
 | _,[]=>rfl
 | k,x::r=>by unfold numD;rw [List.map_cons,List.map_cons,qPD];rfl
theorem qHT:∀ (k:Nat) (ns:List Str) (w:Str),valV (numD k ns) (Sum.inr w)=(nmF k ns w).map V.int
 | _,[],_=>rfl
 | k,x::r,w=>by
  unfold numD nmF;by_cases e:x=w
  ·rw [qFT (by rw [e]),if_pos e];rfl
  ·rw [qHC (fun z=>e (Sum.inr.inj z)),if_neg e,qHT]
theorem nmF_none:∀ {k:Nat} {ns:List Str} {w:Str},nmF k ns w=none ↔ w ∉ ns
 | _,[],_=>by simp [nmF]
 | k,x::r,w=>by
  unfold nmF;by_cases e:x=w
  ·rw [if_pos e];simp [e]
  ·rw [if_neg e,nmF_none,List.mem_cons,not_or];exact ⟨fun h=>⟨fun z=>e z.symm,h⟩,fun h=>h.2⟩
theorem qXX {k:Nat}:∀ {ns:List Str} {w:Str},w ∉ ns->putK (numD k ns) (Sum.inr w) (.int ((k+ns.length:Nat):Int))=numD k (ns++[w]):=by
 intro ns w h;have e:numD k (ns++[w])=numD k ns++[(Sum.inr w,.int ((k+ns.length:Nat):Int))]:=by
  clear h
  induction ns generalizing k with
  | nil=>rfl
  | cons x r ih=>
   show (Sum.inr x,V.int k)::numD (k+1) (r++[w])=(Sum.inr x,V.int k)::(numD (k+1) r++_);rw [ih,show k+1+r.length=k+(x::r).length by rw [List.length_cons];lia]
 rw [e];unfold putK;rw [if_neg];rw [qN2,qHT,nmF_none.mpr h]
 decide
def wkF (ns ws:List Str):Option (List Int):=if (∀ x ∈ ws,(nmF 0 ns x).isSome=true)/\(ws.filterMap (nmF 0 ns)).Nodup then some (ws.filterMap (nmF 0 ns)) else none
def askF (ns ws:List Str):Option (List Int):=if 1<=ws.length/\ws.length<=4 then wkF ns ws else none
def rmF (x:Str):Option Int:=if Txt.isdigit x=true/\¬ x.cps[0]?=some 48 then (match intText? x with | some n=>if n > 99 then none else some n | none=>none) else none
def DgOk (x:Str):Prop:=x.length<=200/\(Txt.isdigit x=true->(∃ n,intText? x=some n)/\∃ c,x.cps[0]?=some c)
inductive Dd where
 | al (w:Str) | on (w:Str) (n:Int) | so (w:Str) (ks:List Int) | st (r:Int) (ks:List Int)
def qBI:List Str:=["back","stand","moves","count"]
def oneL:List Str:=["do","clear","tree","cut"]
def qDE:List Str:=["plain","few","stair"]
def qKZ (ns:List Str):List Str->Option Dd
 | _::x::r=>match rmF x,askF ns r with
  | some n,some ks=>some (.st n ks)
  | _,_=>none
 | _=>none
def oneF (ns:List Str) (w:Str):List Str->Option Dd
 | [x]=>(nmF 0 ns x).map (.on w)
 | _=>none
def qW9 (ns:List Str):List Str->Option Dd
 | []=>none
 | w::r=>if w ∈ qBI then (if r=[] then some (.al w) else none)
  else if w ∈ oneL then oneF ns w r
  else if w ∈ qDE then (askF ns r).map (.so w)
  else if w = "steps" then qKZ ns (w::r) else none
def TupOf (H:Hp) (t:Addr) (ks:List Int):Prop:=∃ zs:List Int,H t=some (.tup (zs.map V.int))/\zs.Perm ks/\zs.Pairwise (·<=·)
theorem TupOf.imp {H H':Hp} {t:Addr} {ks:List Int} (h:TupOf H t ks) (s:∀ b xs,H b=some (.tup xs)->H' b=some (.tup xs)):TupOf H' t ks:=by
 obtain ⟨a,c,d⟩:=h;exact ⟨a,s _ _ c,d⟩
def RsN (H:Hp) (r:Option (List Int)) (v:V):Prop:=match r with
 | none=>v=.non
 | some ks=>∃ t,v=.ref t/\TupOf H t ks
def DeedAt (H:Hp) (v:V):Dd->Prop
 | .al w=>∃ p,v=.ref p/\H p=some (.tup [.str w])
 | .on w n=>∃ p,v=.ref p/\H p=some (.tup [.str w,.int n])
 | .so w ks=>∃ p t,v=.ref p/\H p=some (.tup [.str w,.ref t])/\TupOf H t ks
 | .st r ks=>∃ p t,v=.ref p/\H p=some (.tup [.str "steps",.int r,.ref t])/\TupOf H t ks
theorem DeedAt.imp {H H':Hp} {v:V} {d:Dd} (h:DeedAt H v d) (s:∀ b xs,H b=some (.tup xs)->H' b=some (.tup xs)):DeedAt H' v d:=by
 cases d with
 | al w=>obtain ⟨p,e,h⟩:=h;exact ⟨p,e,s _ _ h⟩
 | on w n=>obtain ⟨p,e,h⟩:=h;exact ⟨p,e,s _ _ h⟩
 | so w ks=>obtain ⟨p,t,e,h,g⟩:=h;exact ⟨p,t,e,s _ _ h,g.imp s⟩
 | st r ks=>obtain ⟨p,t,e,h,g⟩:=h;exact ⟨p,t,e,s _ _ h,g.imp s⟩
def RsD (H:Hp) (r:Option Dd) (v:V):Prop:=match r with
 | none=>v=.non
 | some d=>DeedAt H v d
def optV:Option Int->V
 | none=>.non
 | some n=>.int n
def qYY:Sp:=fun vs H Q _=>∃ x:Str,vs=[.str x]/\x.length<=100000/\∀ H',Same H H'->Q (.bl (isNm x)) H'
def qUD:Sp:=fun vs H Q _=>∃ x:Str,vs=[.str x]/\DgOk x/\Q (optV (rmF x)) H
def qU8:Sp:=fun vs H Q _=>∃ (p d:Addr) (ws ns:List Str),vs=[.ref p,.ref d]/\H p=some (.lst (ws.map V.str))/\H d=some (.dK (numD 0 ns))/\ws.length<=300/\ns.length<=40/\∀ v H',Same H H'->RsN H' (wkF ns ws) v->Q v H'
def qUJ:Sp:=fun vs H Q _=>∃ (p d:Addr) (ws ns:List Str),vs=[.ref p,.ref d]/\H p=some (.lst (ws.map V.str))/\H d=some (.dK (numD 0 ns))/\ws.length<=300/\ns.length<=40/\∀ v H',Same H H'->RsN H' (askF ns ws) v->Q v H'
def qYW:Sp:=fun vs H Q _=>∃ (p d:Addr) (ws ns:List Str),vs=[.ref p,.ref d]/\H p=some (.lst (ws.map V.str))/\H d=some (.dK (numD 0 ns))/\ws.length<=300/\ns.length<=40/\(∀ x ∈ ws,DgOk x)/\∀ v H',Same H H'->RsD H' (qKZ ns ws) v->Q v H'
def qUH:Sp:=fun vs H Q _=>∃ (p d:Addr) (ws ns:List Str),vs=[.ref p,.ref d]/\H p=some (.lst (ws.map V.str))/\H d=some (.dK (numD 0 ns))/\ws.length<=300/\ns.length<=40/\(∀ x ∈ ws,DgOk x)/\ws ≠ []/\
 ∀ v H',Same H H'->RsD H' (qW9 ns ws) v->Q v H'
structure Sh where
 rooms:Option Int
 names:List Str
 net:List (List Int)
 deeds:List Dd
def qP6 (s:Sh):List Str->Option Sh
 | [a,b]=>if a = "rooms" then (rmF b).map fun n=>{ s with rooms:=some n } else none
 | _=>none
def qOP (s:Sh):List Str->Option Sh
 | _::x::r=>if s.deeds.isEmpty=false\/s.net.length=40\/isNm x=false\/x ∈ s.names then none else (wkF s.names r).map fun ks=>{ s with names:=s.names++[x],net:=s.net++[ks] }
 | _=>none
def qRB (s:Sh) (ws:List Str):Option Sh:=if s.net.isEmpty=true then none else (qW9 s.names ws).map fun d=>{ s with deeds:=s.deeds++[d] }
def qKW (s:Sh) (ws:List Str):Option Sh:=if s.rooms=none then qP6 s ws else if ws.head?=some (Str.ofString "work") then qOP s ws else qRB s ws
def rowT (s:Sh) (row:Str):Option Sh:=if row = "" then some s else if row.length<=200/\asc row=true then (if ("" : Str) ∈ Txt.split row " " then none else qKW s (Txt.split row " ")) else none
def sfs (r:V) (a b c:Addr):List (Str × V):=putF "deeds" (.ref c) (putF "net" (.ref b) (putF "numbers" (.ref a) (putF "rooms" r [])))
theorem qN8 {r:V} {a b c:Addr}:(sfs r a b c).lookup (Str.ofString "deeds")=some (.ref c):=by unfold sfs;rw [qAI,if_pos rfl]
theorem qMG {r:V} {a b c:Addr}:(sfs r a b c).lookup (Str.ofString "net")=some (.ref b):=by unfold sfs;rw [qAI,if_neg (by decide +kernel),qAI,if_pos rfl]
theorem qEK {r:V} {a b c:Addr}:(sfs r a b c).lookup (Str.ofString "numbers")=some (.ref a):=by unfold sfs;rw [qAI,if_neg (by decide +kernel),qAI,if_neg (by decide +kernel),qAI,if_pos rfl]
theorem qN7 {r:V} {a b c:Addr}:(sfs r a b c).lookup (Str.ofString "rooms")=some r:=by unfold sfs;rw [qAI,if_neg (by decide +kernel),qAI,if_neg (by decide +kernel),qAI,if_neg (by decide +kernel),qAI,if_pos rfl]
theorem s4:(Str.ofString "rooms" = Str.ofString "numbers")=False/\(Str.ofString "rooms" = Str.ofString "net")=False/\(Str.ofString "rooms" = Str.ofString "deeds")=False/\(Str.ofString "numbers" = Str.ofString "net")=False/\(Str.ofString "numbers" = Str.ofString "deeds")=False/\(Str.ofString "net" = Str.ofString "deeds")=False:=by
 refine ⟨?_,?_,?_,?_,?_,?_⟩ <;> exact eq_false (by decide +kernel)
theorem qQF (r:V) (a b c:Addr):sfs r a b c=[((Str.ofString "rooms"),r),(Str.ofString "numbers",.ref a),(Str.ofString "net",.ref b),(Str.ofString "deeds",.ref c)]:=by
 obtain ⟨e,g,d,i,h,f⟩:=s4;unfold sfs;simp [putF,e,g,d,i,h,f]
theorem qZ1 (r u:V) (a b c:Addr):putF "rooms" u (sfs r a b c)=sfs u a b c:=by rw [qQF,qQF];simp [putF]
theorem qcW (r:V) (a b c:Addr):(sfs r a b c).length=4:=by rw [qQF];rfl
structure SNa (K:PySem.W.Frag) (C:Addr):Prop where
 rooms:NoAttr K C "rooms"
 numbers:NoAttr K C "numbers"
 net:NoAttr K C "net"
 deeds:NoAttr K C "deeds"
structure ShAt (C:Addr) (H:Hp) (y dx a b c:Addr) (s:Sh):Prop where
 obj:H y=some (.ins C dx (sfs (optV s.rooms) a b c))
 num:H a=some (.dK (numD 0 s.names))
 net:∃ rs:List Addr,H b=some (.lst (rs.map V.ref))/\Paired (TupOf H) rs s.net
 deeds:∃ vs:List V,H c=some (.lst vs)/\Paired (DeedAt H) vs s.deeds
 ne:b ≠ c
 nl:s.names.length=s.net.length
 n40:s.net.length<=40
theorem ShAt.next {C:Addr} {H H':Hp} {y d a b c:Addr} {s:Sh} (S:ShAt C H y d a b c s) (k:Same H H'):ShAt C H' y d a b c s:=by
 obtain ⟨h,e,l⟩:=S.net;obtain ⟨f,g,i⟩:=S.deeds;exact ⟨k _ _ S.obj,k _ _ S.num,⟨h,k _ _ e,qBG l fun _ _ z=>z.imp fun b j=>k b _⟩,⟨f,k _ _ g,qBG i fun _ _ z=>z.imp fun b j=>k b _⟩,S.ne,S.nl,S.n40⟩
abbrev SEnd (C:Addr) (H:Hp) (y dx a b c:Addr) (s:Sh) (r:Option Sh) (Q:VK):Prop:=∀ H',KeepL [y,a,b,c] H H'->ShAt C H' y dx a b c (r.getD s)->Q (.bl r.isSome) H'
def qUC (C:Addr):Sp:=fun vs H Q _=>∃ (y dx:Addr),vs=[.ref y]/\H y=some (.ins C dx [])/\∀ a b c H',KeepL [y] H H'->H a=none->H b=none->H c=none->ShAt C H' y dx a b c ⟨none,[],[],[]⟩->Q .non H'
def qRL (C:Addr):Sp:=fun vs H Q _=>∃ (y dx a b c p:Addr) (s:Sh) (ws:List Str),vs=[.ref y,.ref p]/\ShAt C H y dx a b c s/\H p=some (.lst (ws.map V.str))/\(∀ x ∈ ws,DgOk x)/\s.rooms=none/\SEnd C H y dx a b c s (qP6 s ws) Q
def qU9 (C:Addr):Sp:=fun vs H Q _=>∃ (y dx a b c p:Addr) (s:Sh) (ws:List Str),vs=[.ref y,.ref p]/\ShAt C H y dx a b c s/\H p=some (.lst (ws.map V.str))/\(∀ x ∈ ws,DgOk x)/\ws.length<=300/\SEnd C H y dx a b c s (qOP s ws) Q
def qUA (C:Addr):Sp:=fun vs H Q _=>∃ (y dx a b c p:Addr) (s:Sh) (ws:List Str),vs=[.ref y,.ref p]/\ShAt C H y dx a b c s/\H p=some (.lst (ws.map V.str))/\(∀ x ∈ ws,DgOk x)/\ws ≠ []/\ws.length<=300/\s.deeds.length<=1000/\SEnd C H y dx a b c s (qRB s ws) Q
def qRK (C:Addr):Sp:=fun vs H Q _=>∃ (y dx a b c p:Addr) (s:Sh) (ws:List Str),vs=[.ref y,.ref p]/\ShAt C H y dx a b c s/\H p=some (.lst (ws.map V.str))/\(∀ x ∈ ws,DgOk x)/\ws ≠ []/\ws.length<=300/\s.deeds.length<=1000/\SEnd C H y dx a b c s (qKW s ws) Q
def qYV (C:Addr):Sp:=fun vs H Q _=>∃ (y dx a b c:Addr) (s:Sh) (row:Str),vs=[.ref y,.str row]/\ShAt C H y dx a b c s/\row.length<=100000/\s.deeds.length<=1000/\SEnd C H y dx a b c s (rowT s row) Q
theorem qMF {z:Str} {lo hi i c:Nat} (h:z.cps[i]?=some c):((z.cps.toList.take i).map (qB4 lo hi)).map V.bl++[V.bl (qB4 lo hi c)]=((z.cps.toList.take (i+1)).map (qB4 lo hi)).map V.bl:=by
 rw [List.take_add_one,Array.getElem?_toList,h,Option.toList_some,List.map_append,List.map_append]
 rfl
theorem qP0 {z:Str} {lo hi:Nat}:((z.cps.toList.take z.length).map (qB4 lo hi)).all id=z.cps.toList.all (qB4 lo hi):=by
 rw [List.take_of_length_le (by rw [Array.length_toList];exact Nat.le_refl _),List.all_map]
 rfl
theorem qOZ {z:Str} {lo hi i:Nat}:(((z.cps.toList.take i).map (qB4 lo hi)).map V.bl).length<=z.length:=by
 rw [List.length_map,List.length_map,List.length_take,Array.length_toList];exact Nat.min_le_right _ _
theorem qUK {c:Nat}:decide (V.str (⟨#[c]⟩:Str)=V.str (Str.ofString "0"))=decide (c=48):=by
 have e:Str.ofString "0" = (⟨#[48]⟩:Str):=by decide
 rw [e];by_cases h:c=48
 ·subst h;simp
 ·simp [h]
theorem qSK:∀ (l zs:List Int),(l.foldl addI zs).length=zs.length+l.length ↔ l.Nodup/\∀ x ∈ l,x ∉ zs
 | [],zs=>by simp
 | k::l,zs=>by
  show (l.foldl addI (addI zs k)).length=zs.length+(l.length+1) ↔ _;by_cases c:k ∈ zs
  ·have e:addI zs k=zs:=by unfold addI;rw [if_pos c]
   rw [e];have:=qCK l zs;exact ⟨fun h=>by lia,fun h=>absurd c (h.2 k List.mem_cons_self)⟩
  ·have e:addI zs k=zs++[k]:=by unfold addI;rw [if_neg c]
   have ih:=qSK l (zs++[k]);rw [List.length_append,List.length_singleton] at ih;rw [e,show zs.length+(l.length+1)=zs.length+1+l.length by lia,ih,List.nodup_cons]
   constructor
   ·rintro ⟨h1,h2⟩;refine ⟨⟨fun z=>h2 k z (by simp),h1⟩,fun x hx=>?_⟩
    rcases List.mem_cons.mp hx with rfl | hx
    ·exact c
    ·exact fun z=>h2 x hx (List.mem_append_left _ z)
   ·rintro ⟨⟨h1,h2⟩,h3⟩;refine ⟨h2,fun x hx z=>?_⟩;rcases List.mem_append.mp z with z | z
    ·exact h3 x (List.mem_cons_of_mem _ hx) z
    ·exact h1 (List.mem_singleton.mp z ▸ hx)
theorem ded_len {l:List Int}:(dedI l).length=l.length ↔ l.Nodup:=by
 have:=qSK l [];rw [List.length_nil,Nat.zero_add] at this;show (l.foldl addI []).length=l.length ↔ _;rw [this];exact ⟨fun h=>h.1,fun h=>⟨h,fun x _=>by simp⟩⟩
theorem qbH {ws:List Str} {f:Str->Option Int} {i:Nat} {x:Str} (h:ws[i]?=some x):(ws.take (i+1)).filterMap f=(ws.take i).filterMap f++(f x).toList:=by
 rw [List.take_add_one,h,Option.toList_some,List.filterMap_append];cases e:f x with
 | none=>simp [e]
 | some v=>simp [e]
theorem qVV {f:Str->Option Int}:∀ {ws:List Str},(ws.filterMap f).length<=ws.length/\((ws.filterMap f).length=ws.length ↔ ∀ x ∈ ws,(f x).isSome=true)
 | []=>by simp
 | x::ws=>by
  obtain ⟨h1,h2⟩:=qVV (f:=f) (ws:=ws);cases e:f x with
  | none=>
   rw [List.filterMap_cons_none e];refine ⟨by rw [List.length_cons];lia,fun h=>?_,fun h=>?_⟩
   ·rw [List.length_cons] at h;lia
   ·have:=h x (List.mem_cons_self ..);rw [e] at this;cases this
  | some v=>
   rw [List.filterMap_cons_some e,List.length_cons,List.length_cons];refine ⟨by lia,fun h=>?_,fun h=>?_⟩
   ·have h3:=h2.mp (by lia)
    intro y hy;rcases List.mem_cons.mp hy with rfl | hy
    ·rw [e];rfl
    ·exact h3 y hy
   ·rw [h2.mpr fun y hy=>h y (List.mem_cons_of_mem _ hy)]
theorem qS1:∀ {k:Nat} {ns:List Str} {w:Str} {n:Int},nmF k ns w=some n->(k:Int)<=n/\n<k+ns.length
 | _,[],_,_,h=>by cases h
 | k,x::r,w,n,h=>by
  unfold nmF at h;rw [List.length_cons]
  split at h
  ·cases h;lia
  ·have:=qS1 h
   lia
theorem qdU {ns ws:List Str} (h:(ws.filterMap (nmF 0 ns)).Nodup):(ws.filterMap (nmF 0 ns)).length<=ns.length:=by
 have a:ws.filterMap (nmF 0 ns) ⊆ (List.range ns.length).map fun (i:Nat)=>(i:Int):=fun x b=>by
  obtain ⟨y,_,e⟩:=List.mem_filterMap.mp b;have:=qS1 e;exact List.mem_map.mpr ⟨x.toNat,List.mem_range.mpr (by lia),by lia⟩
 have:=List.Nodup.length_le_of_subset h a;simpa using this
theorem qCM (a:Str) (zs:List Str):inV (.str a) (zs.map V.str)=decide (a ∈ zs):=by
 unfold inV
 induction zs with
 | nil=>simp
 | cons z r ih=>
  rw [List.map_cons,List.any_cons,ih];have e:eqV (.str z) (.str a)=decide (a=z):=by
   by_cases h:z=a
   ·subst h;simp [eqV]
   ·have b:¬ a=z:=fun q=>h q.symm;have c:¬ z.cps=a.cps:=fun q=>h (by cases z;cases a;simp_all)
    simp [eqV,h,b,c]
  rw [e];simp [List.mem_cons]
theorem qI8 (zs:List Str):(zs.map V.str).all qO0=true:=by
 rw [List.all_eq_true];intro x a;obtain ⟨z,_,rfl⟩:=List.mem_map.mp a
 rfl
theorem qEA {xs:List Str} {k:Nat} (h:k<=xs.length):cutV (xs.map V.str) (some (k:Int)) none=(xs.drop k).map V.str:=by rw [qG6,qLM _ _ h]
def lj (c:Nat):List (List Nat)->List Nat
 | []=>[]
 | [x]=>x
 | x::y::r=>x++c::lj c (y::r)
theorem qN4 {x y:Str} (h:x.cps.toList=y.cps.toList):x=y:=by
 cases x;cases y;simp only [Array.toList_inj] at h;rw [h]
theorem qED (x y:Str):(x++y).cps.toList=x.cps.toList++y.cps.toList:=by
 show (x.cps++y.cps).toList=_;simp
theorem qD9 (c:Nat):∀ ps:List Str,(Str.join ⟨#[c]⟩ ps).cps.toList=lj c (ps.map (·.cps.toList))
 | []=>rfl
 | [x]=>rfl
 | x::y::r=>by
  show (x++⟨#[c]⟩++Str.join ⟨#[c]⟩ (y::r)).cps.toList=x.cps.toList++c::lj c ((y::r).map (·.cps.toList));rw [qED,qED,qD9 c (y::r)];simp
theorem qZL {c:Nat}:∀ {a b l1 l2:List Nat},c ∉ a->c ∉ b->a++c::l1=b++c::l2->a=b/\l1=l2
 | [],[],_,_,_,_,h=>⟨rfl,(List.cons.inj h).2⟩
 | [],y::b,_,_,_,hb,h=>absurd (List.cons.inj h).1 fun z=>hb (by rw [z];simp)
 | x::a,[],_,_,ha,_,h=>absurd (List.cons.inj h).1 fun z=>ha (by rw [z];simp)
 | x::a,y::b,l1,l2,ha,hb,h=>by
  obtain ⟨e1,e2⟩:=List.cons.inj h;obtain ⟨h1,h2⟩:=qZL (fun z=>ha (List.mem_cons_of_mem _ z)) (fun z=>hb (List.mem_cons_of_mem _ z)) e2;exact ⟨by rw [e1,h1],h2⟩
theorem qZ9 {c:Nat}:∀ {A B:List (List Nat)},A ≠ []->B ≠ []->(∀ a ∈ A,c ∉ a)->(∀ b ∈ B,c ∉ b)->lj c A=lj c B->A=B
 | [],_,hA,_,_,_,_=>absurd rfl hA
 | _,[],_,hB,_,_,_=>absurd rfl hB
 | [a],[b],_,_,_,_,h=>by rw [show a=b from h]
 | [a],b::b'::B,_,_,h1,_,h=>absurd (show c ∈ a by rw [show a=b++c::lj c (b'::B) from h];simp) (h1 a (by simp))
 | a::a'::A,[b],_,_,_,h2,h=>absurd (show c ∈ b by rw [show b=a++c::lj c (a'::A) from h.symm];simp) (h2 b (by simp))
 | a::a'::A,b::b'::B,_,_,h1,h2,h=>by
  obtain ⟨e1,e2⟩:=qZL (h1 a (by simp)) (h2 b (by simp)) h
  rw [e1,qZ9 (by simp) (by simp) (fun x hx=>h1 x (List.mem_cons_of_mem _ hx)) (fun x hx=>h2 x (List.mem_cons_of_mem _ hx)) e2]
theorem qFU {c:Nat} {ps:List Str} (j:ps ≠ []) (h:∀ p ∈ ps,c ∉ p.cps.toList):Txt.split (Str.join ⟨#[c]⟩ ps) ⟨#[c]⟩=ps:=by
 have e:=StrLaws.join_split (Str.join ⟨#[c]⟩ ps) ⟨#[c]⟩;have g:=congrArg (fun x=>x.cps.toList) e;simp only [qD9] at g;have inj:∀ {A B:List Str},A.map (·.cps.toList)=B.map (·.cps.toList)->A=B:=by
  intro A
  induction A with
  | nil=>intro B h;cases B with
   | nil=>rfl
   | cons _ _=>cases h
  | cons a A ih=>intro B h;cases B with
   | nil=>cases h
   | cons b B=>
    rw [List.map_cons,List.map_cons] at h;obtain ⟨i,k⟩:=List.cons.inj h;rw [qN4 i,ih k]
 refine inj (qZ9 ?_ (by simpa using j) (fun a f=>?_) (fun a f=>?_) g)
 ·have:=PyProof.Rows.split_pos (Str.join ⟨#[c]⟩ ps) ⟨#[c]⟩;intro z;rw [List.map_eq_nil_iff] at z;rw [z] at this;cases this
 ·obtain ⟨p,d,rfl⟩:=List.mem_map.mp f;exact StrLaws.split_free _ c p d
 ·obtain ⟨p,d,rfl⟩:=List.mem_map.mp f;exact h p d
theorem qZ8 {c:Nat}:∀ {A:List (List Nat)} {a:List Nat} {x:Nat},a ∈ A->x ∈ a->x ∈ lj c A
 | [b],a,x,ha,hx=>by rw [List.mem_singleton.mp ha] at hx;exact hx
 | b::b'::B,a,x,ha,hx=>by
  show x ∈ b++c::lj c (b'::B);rcases List.mem_cons.mp ha with rfl | ha
  ·exact List.mem_append_left _ hx
  ·exact List.mem_append_right _ (List.mem_cons_of_mem _ (qZ8 ha hx))
theorem qPC {c:Nat}:∀ {A:List (List Nat)} {x:Nat},x ∈ lj c A->x=c\/∃ a ∈ A,x ∈ a
 | [b],x,h=>.inr ⟨b,by simp,h⟩
 | b::b'::B,x,h=>by
  rcases List.mem_append.mp (show x ∈ b++c::lj c (b'::B) from h) with h | h
  ·exact .inr ⟨b,by simp,h⟩
  ·rcases List.mem_cons.mp h with h | h
   ·exact .inl h
   ·rcases qPC h with h | ⟨a,ha,h⟩
    ·exact .inl h
    ·exact .inr ⟨a,List.mem_cons_of_mem _ ha,h⟩
theorem qGF {c:Nat} {x p:Str} (h:p ∈ Txt.split x ⟨#[c]⟩):∀ k ∈ p.cps.toList,k ∈ x.cps.toList:=by
 intro k a;have e:=congrArg (fun x=>x.cps.toList) (StrLaws.join_split x ⟨#[c]⟩);simp only [qD9] at e;rw [<- e];exact qZ8 (List.mem_map.mpr ⟨p,h,rfl⟩) a
theorem qW6:∀ c:Nat,c<127->Unicode.isDigit c=true->48<=c/\c<=57:=by decide +kernel
theorem qCN:(" " : Str)=⟨#[32]⟩:=by decide
theorem qeZ {x:Str} (e:x.length<=200) (h:∀ k ∈ x.cps.toList,k<127):DgOk x:=by
 refine ⟨e,fun b=>?_⟩;unfold Txt.isdigit at b;rw [Bool.and_eq_true] at b;have a:0<x.length:=of_decide_eq_true b.1;have f:x.cps.toList ≠ []:=fun z=>by
  have:x.cps.toList.length=x.length:=Array.length_toList;rw [z] at this;rw [<- this] at a;cases a
 refine ⟨⟨_,intText_digits (fun c d=>?_) f (by lia)⟩,x.cps[0]'(a),by rw [Array.getElem?_eq_getElem a]⟩
 have g:Unicode.isDigit c=true:=by
  have:=(Array.all_eq_true_iff_forall_mem.mp b.2) c (by simpa using d)
  exact this
 exact qW6 c (h c d) g
theorem qYH {row:Str} (b:row.length<=200) (c:asc row=true):∀ x ∈ Txt.split row " ",DgOk x:=by
 intro x a;rw [qCN] at a;refine qeZ (Nat.le_trans (PyProof.Rows.part_short a) b) fun k d=>?_;have:=List.all_eq_true.mp c k (qGF a k d);unfold qB4 at this;rw [Bool.and_eq_true] at this;have:=of_decide_eq_true this.2
 lia
theorem qJ5 {α β:Type} {F:α->β->Prop} {a:List α} {l₂:List β} (h:Paired F a l₂):a.isEmpty=l₂.isEmpty:=by cases h <;> rfl
theorem qaI {H:Hp} {y:Addr} {o o':HO} (a:H y=some o):KeepL [y] H (Af H y o')/\(Af H y o') y=some o'/\∀ b,(Af H y o') b=none->H b=none:=
 ⟨qC6 (by simp),qA1,fun b z=>by
  by_cases e:b=y
  ·rw [e,qA1] at z;cases z
  ·rw [qA8 e] at z;exact z⟩
theorem ShAt.tups {C:Addr} {H H':Hp} {y e a b c:Addr} {s:Sh} (S:ShAt C H y e a b c s) (k:KeepL [y,a,b,c] H H'):∀ t xs,H t=some (.tup xs)->H' t=some (.tup xs):=by
 intro t xs h;obtain ⟨i,d,_⟩:=S.net;obtain ⟨g,f,_⟩:=S.deeds;refine k t _ h fun z=>?_;simp only [List.mem_cons,List.not_mem_nil,or_false] at z;rcases z with rfl | rfl | rfl | rfl
 ·rw [S.obj] at h;cases h
 ·rw [S.num] at h;cases h
 ·rw [d] at h;cases h
 ·rw [f] at h;cases h
theorem ShAt.putR {C:Addr} {H:Hp} {y d a b c:Addr} {s:Sh} (S:ShAt C H y d a b c s) (r:Option Int):ShAt C (Af H y (.ins C d (putF "rooms" (optV r) (sfs (optV s.rooms) a b c)))) y d a b c { s with rooms:=r }:=by
 obtain ⟨i,e,k⟩:=S.net;obtain ⟨h,f,j⟩:=S.deeds;have g:=S.tups (qC6 (H:=H) (p:=y) (o:=.ins C d (putF "rooms" (optV r) (sfs (optV s.rooms) a b c))) (xs:=[y,a,b,c]) (by simp))
 refine ⟨by rw [qA1,qZ1],by rw [qA8 (qDZ S.num S.obj (by intro z;cases z))];exact S.num,⟨i,by rw [qA8 (qDZ e S.obj (by intro z;cases z))];exact e,qBG k fun _ _ z=>z.imp g⟩,⟨h,by rw [qA8 (qDZ f S.obj (by intro z;cases z))];exact f,qBG j fun _ _ z=>z.imp g⟩,S.ne,S.nl,S.n40⟩
theorem ShAt.putD {C:Addr} {H:Hp} {y g a b c:Addr} {s:Sh} (S:ShAt C H y g a b c s) {vs:List V} {v:V} {d:Dd} (f:H c=some (.lst vs)) (k:Paired (DeedAt H) vs s.deeds) (j:DeedAt H v d):ShAt C (Af H c (.lst (vs++[v]))) y g a b c { s with deeds:=s.deeds++[d] }:=by
 obtain ⟨i,h,l⟩:=S.net;have e:=S.tups (qC6 (H:=H) (p:=c) (o:=.lst (vs++[v])) (xs:=[y,a,b,c]) (by simp))
 exact ⟨by rw [qA8 (qDZ S.obj f (by intro z;cases z))];exact S.obj,by rw [qA8 (qDZ S.num f (by intro z;cases z))];exact S.num,⟨i,by rw [qA8 S.ne];exact h,qBG l fun _ _ z=>z.imp e⟩,⟨_,qA1,Paired.snoc (qBG k fun _ _ z=>z.imp e) (j.imp e)⟩,S.ne,S.nl,S.n40⟩
theorem ShAt.putW {C:Addr} {H:Hp} {y j a b c:Addr} {s:Sh} (S:ShAt C H y j a b c s) {rs:List Addr} {t:Addr} {ks:List Int} {x:Str} (f:H b=some (.lst (rs.map V.ref))) (r:Paired (TupOf H) rs s.net) (l:TupOf H t ks) (u:s.net.length<40) :
  ShAt C (Af (Af H a (.dK (numD 0 (s.names++[x])))) b (.lst (rs.map V.ref++[V.ref t]))) y j a b c { s with names:=s.names++[x],net:=s.net++[ks] }:=by
 obtain ⟨m,g,p⟩:=S.deeds;have d:b ≠ a:=qDZ f S.num (by intro z;cases z)
 have e:=S.tups (H':=Af (Af H a (.dK (numD 0 (s.names++[x])))) b (.lst (rs.map V.ref++[V.ref t]))) ((qC6 (by simp)).trans (qC6 (by simp)))
 have i:∀ {q o},H q=some o->q ≠ a->q ≠ b->(Af (Af H a (.dK (numD 0 (s.names++[x])))) b (.lst (rs.map V.ref++[V.ref t]))) q=some o:=fun h k n=>by rw [qA8 n,qA8 k];exact h
 refine ⟨i S.obj (qDZ S.obj S.num (by intro z;cases z)) (qDZ S.obj f (by intro z;cases z)),by rw [qA8 d.symm,qA1],⟨rs++[t],by rw [qA1,List.map_append];rfl,Paired.snoc (qBG r fun _ _ z=>z.imp e) (l.imp e)⟩,⟨m,i g (qDZ g S.num (by intro z;cases z)) S.ne.symm,qBG p fun _ _ z=>z.imp e⟩,S.ne,?_,?_⟩
 ·rw [List.length_append,List.length_append,S.nl];rfl
 ·rw [List.length_append,List.length_singleton];lia
def qR0:Sh->List Str->Option Sh
 | s,[]=>some s
 | s,r::rs=>(rowT s r).bind fun s'=>qR0 s' rs
theorem qPO:∀ {rs:List Str} {s:Sh} {r:Str},qR0 s (rs++[r])=(qR0 s rs).bind fun s'=>rowT s' r
 | [],s,r=>by
  show (rowT s r).bind (fun s'=>some s')=rowT s r;cases rowT s r <;> rfl
 | x::rs,s,r=>by
  show (rowT s x).bind (fun s'=>qR0 s' (rs++[r]))=((rowT s x).bind fun s'=>qR0 s' rs).bind fun s'=>rowT s' r;cases rowT s x with
  | none=>rfl
  | some s'=>exact qPO
abbrev sh0:Sh:=⟨none,[],[],[]⟩
theorem qRA {s s':Sh} {ws:List Str} (h:qKW s ws=some s'):s'.deeds.length<=s.deeds.length+1:=by
 unfold qKW at h
 split at h
 ·unfold qP6 at h
  split at h
  ·split at h
   ·obtain ⟨n,_,rfl⟩:=Option.map_eq_some_iff.mp h;exact Nat.le_succ _
   ·cases h
  ·cases h
 ·split at h
  ·unfold qOP at h
   split at h
   ·split at h
    ·cases h
    ·obtain ⟨n,_,rfl⟩:=Option.map_eq_some_iff.mp h;exact Nat.le_succ _
   ·cases h
  ·unfold qRB at h
   split at h
   ·cases h
   ·obtain ⟨n,_,rfl⟩:=Option.map_eq_some_iff.mp h;dsimp only;rw [List.length_append];exact Nat.le_refl _
theorem qW7 {s s':Sh} {r:Str} (h:rowT s r=some s'):s'.deeds.length<=s.deeds.length+1:=by
 unfold rowT at h
 split at h
 ·cases h;exact Nat.le_succ _
 ·split at h
  ·split at h
   ·cases h
   ·exact qRA h
  ·cases h
theorem qMS:∀ {rs:List Str} {s s':Sh},qR0 s rs=some s'->s'.deeds.length<=s.deeds.length+rs.length
 | [],s,s',h=>by cases h;exact Nat.le_refl _
 | x::rs,s,s',h=>by
  obtain ⟨s1,h1,h2⟩:=Option.bind_eq_some_iff.mp h;have:=qW7 h1;have:=qMS h2;rw [List.length_cons]
  lia
def w16:List Str:=["do","rooms","work","clear","back","stand","moves","count","tree","cut","plain","few","steps","stair","abcdefgh","zzzzzzzz"]
def w13:List Str:=["do","do","clear","back","stand","moves","count","tree","cut","plain","few","steps","stair"]
theorem qa0:Txt.split "do rooms work clear back stand moves count tree cut plain few steps stair abcdefgh zzzzzzzz" " " = w16:=by
 have e:Str.ofString "do rooms work clear back stand moves count tree cut plain few steps stair abcdefgh zzzzzzzz" = Str.join ⟨#[32]⟩ w16:=by decide +kernel
 rw [e,qCN];exact qFU (by decide) (by decide +kernel)
theorem qa7:Txt.split "do do clear back stand moves count tree cut plain few steps stair" " " = w13:=by
 have e:Str.ofString "do do clear back stand moves count tree cut plain few steps stair" = Str.join ⟨#[32]⟩ w13:=by decide +kernel
 rw [e,qCN];exact qFU (by decide) (by decide +kernel)
def qHW (f k:Nat):Str:=Txt.mul ⟨#[97+(f+k) % 26]⟩ (1+((k / 26:Nat):Int))
theorem qEQ {f k:Nat} (h:k<40):(qHW f k).cps.toList=List.replicate (1+k / 26) (97+(f+k) % 26):=by
 unfold qHW;rcases (by lia:k / 26=0\/k / 26=1) with e | e
 ·rw [e];rfl
 ·rw [e];rfl
structure NmOk (nm:List Str):Prop where
 nd:nm.Nodup
 ok:∀ x ∈ nm,isNm x=true/\0<x.length
 sum:(nm.map (·.length)).sum<=156
theorem qDD (x:Str):x.length=x.cps.toList.length:=(Array.length_toList).symm
theorem qYQ:∀ w ∈ w16,isNm w=true/\0<w.length/\¬ w.cps.toList=List.replicate 1 (w.cps.toList.headD 0)/\¬ w.cps.toList=List.replicate 2 (w.cps.toList.headD 0):=by decide +kernel
theorem qcA:w16.Nodup:=by decide +kernel
theorem qZV:(w16.map (·.length)).sum=76:=by decide +kernel
theorem qNL {c l₂:List Nat} (h:c.Perm l₂):c.sum=l₂.sum:=by
 induction h with
 | nil=>rfl
 | cons a _ ih=>rw [List.sum_cons,List.sum_cons,ih]
 | swap a b l=>rw [List.sum_cons,List.sum_cons,List.sum_cons,List.sum_cons];lia
 | trans _ _ h1 h2=>rw [h1,h2]
theorem qVC {f j k:Nat} (b:j<40) (c:k<40) (h:qHW f j=qHW f k):j=k:=by
 have e:=congrArg (fun x=>x.cps.toList) h;simp only [qEQ b,qEQ c] at e;have a:=congrArg List.length e;rw [List.length_replicate,List.length_replicate] at a;rw [a] at e;rw [Nat.add_comm 1,List.replicate_succ,List.replicate_succ] at e;have d:=(List.cons.inj e).1
 lia
theorem qXY {f:Nat} {v us ws:List Str} {i:List Nat} (h:v.Perm (us++i.map (qHW f))) (p:(us++ws).Perm w16) (t:i.Pairwise (·<·)) (g:∀ j ∈ i,j<40):NmOk v:=by
 have q:(us++ws).Nodup:=p.nodup_iff.mpr qcA;have s:us.Nodup:=(List.nodup_append.mp q).1;have w:∀ u ∈ us,u ∈ w16:=fun u k=>p.mem_iff.mp (List.mem_append_left _ k);have o:(i.map (qHW f)).Nodup:=by
  rw [List.Nodup,List.pairwise_map];refine t.imp_of_mem fun {a b} r m a0 e=>?_;have:=qVC (g a r) (g b m) e
  lia
 have lj:i.length<=40:=by
  have n:i ⊆ List.range 40:=fun x hx=>List.mem_range.mpr (g x hx);have:=List.Nodup.length_le_of_subset (t.imp fun {a b} h=>Nat.ne_of_lt h) n;simpa using this
 refine ⟨h.nodup_iff.mpr (List.nodup_append.mpr ⟨s,o,fun a r b m e=>?_⟩),fun x hx=>?_,?_⟩
 ·obtain ⟨j,d,rfl⟩:=List.mem_map.mp m;obtain ⟨_,_,h1,z⟩:=qYQ a (w a r);rw [e] at h1 z;have l:=qEQ (f:=f) (g j d);rcases (by have:=g j d;lia:j / 26=0\/j / 26=1) with e | e
  ·rw [e] at l;exact h1 (by rw [l];rfl)
  ·rw [e] at l;exact z (by rw [l];rfl)
 ·rcases List.mem_append.mp (h.mem_iff.mp hx) with hx | hx
  ·have:=qYQ x (w x hx);exact ⟨this.1,this.2.1⟩
  ·obtain ⟨j,d,rfl⟩:=List.mem_map.mp hx;have l:=qEQ (f:=f) (g j d);have l2:=g j d;have a1:(qHW f j).length=1+j / 26:=by rw [qDD,l,List.length_replicate]
   refine ⟨?_,by lia⟩
   unfold isNm;rw [l,decide_eq_true (by lia),Bool.true_and,List.all_eq_true]
   intro c hc;rw [List.eq_of_mem_replicate hc];unfold qB4;rw [decide_eq_true (by lia),decide_eq_true (by lia)]
   rfl
 ·rw [qNL (h.map _),List.map_append,List.sum_append];have e1:(us.map (·.length)).sum<=76:=by
   have:=qNL (p.map (·.length));rw [List.map_append,List.sum_append,qZV] at this
   lia
  have e2:∀ l:List Nat,(∀ j ∈ l,j<40)->((l.map (qHW f)).map (·.length)).sum<=2 * l.length:=by
   intro l
   induction l with
   | nil=>intro _;exact Nat.le_refl _
   | cons a l ih=>
    intro y;have:=ih fun j g=>y j (List.mem_cons_of_mem _ g);have l2:=y a (List.mem_cons_self ..);rw [List.map_cons,List.map_cons,List.sum_cons,List.length_cons,qDD,qEQ l2,List.length_replicate]
    lia
  have:=e2 i g
  lia
def nmAt (nm:List Str) (z:Int):Str:=nm.getD z.toNat (Str.ofString "")
theorem qVA:∀ {k j:Nat} {ns:List Str} {x:Str},ns.Nodup->ns[j]?=some x->nmF k ns x=some ((k+j:Nat):Int)
 | k,0,y::r,x,nd,h=>by cases h;unfold nmF;rw [if_pos rfl];rfl
 | k,j+1,y::r,x,nd,h=>by
  obtain ⟨h1,h2⟩:=List.nodup_cons.mp nd;have hx:r[j]?=some x:=h;unfold nmF;rw [if_neg (fun z=>h1 (by rw [z];exact List.mem_of_getElem? hx)),qVA h2 hx,show k+1+j=k+(j+1) by lia]
theorem qE2 {nm:List Str} {z:Int} (b:0<=z) (a:z<nm.length):nm[z.toNat]?=some (nmAt nm z):=by
 unfold nmAt;rw [List.getD_eq_getElem?_getD,List.getElem?_eq_getElem (by lia)]
 rfl
theorem qU6 {f:Str->Nat}:∀ {l₁ l₂:List Str},l₁.Nodup->l₁ ⊆ l₂->(l₁.map f).sum<=(l₂.map f).sum
 | [],_,_,_=>Nat.zero_le _
 | a::l,l₂,nd,hs=>by
  obtain ⟨h1,h2⟩:=List.nodup_cons.mp nd;have ha:a ∈ l₂:=hs (List.mem_cons_self ..);have p:=List.perm_cons_erase ha;have e:=qNL (p.map f);rw [List.map_cons,List.sum_cons] at e;have:=qU6 (f:=f) h2 (l₂:=l₂.erase a) fun x hx=>(List.mem_erase_of_ne fun z=>h1 (by rw [<- z];exact hx)).mpr (hs (List.mem_cons_of_mem _ hx))
  rw [List.map_cons,List.sum_cons]
  lia
def WdOk (x:Str):Prop:=0<x.length/\∀ c ∈ x.cps.toList,33<=c/\c<=126
theorem qTZ {x:Str} (h:isNm x=true/\0<x.length):WdOk x:=by
 refine ⟨h.2,fun c a=>?_⟩;have:=h.1;unfold isNm at this;rw [Bool.and_eq_true] at this;have:=List.all_eq_true.mp this.2 c a;unfold qB4 at this;rw [Bool.and_eq_true] at this;have b:=of_decide_eq_true this.1;have d:=of_decide_eq_true this.2
 lia
theorem qI2 {c:Nat}:∀ {ws:List Str},ws ≠ []->(Str.join ⟨#[c]⟩ ws).length+1=(ws.map (·.length)).sum+ws.length
 | [],h=>absurd rfl h
 | [x],_=>by simp [Str.join]
 | x::y::r,_=>by
  have ih:=qI2 (c:=c) (ws:=y::r) (by simp)
  show (x++⟨#[c]⟩++Str.join ⟨#[c]⟩ (y::r)).length+1=_;rw [qDD,qED,qED,List.length_append,List.length_append,<- qDD,<- qDD,<- qDD,List.map_cons,List.sum_cons,List.length_cons];have:(⟨#[c]⟩:Str).length=1:=rfl
  lia
theorem qL1:∀ n:Nat,n<100->1<=n->rmF (Str.ofString (toString (n:Int)))=some (n:Int)/\WdOk (Str.ofString (toString (n:Int)))/\(Str.ofString (toString (n:Int))).length<=2:=by
 have e:∀ n:Nat,n<100->1<=n->rmF (Str.ofString (toString (n:Int)))=some (n:Int)/\(0<(Str.ofString (toString (n:Int))).length/\(Str.ofString (toString (n:Int))).cps.toList.all (fun c=>decide (33<=c) && decide (c<=126))=true)/\(Str.ofString (toString (n:Int))).length<=2:=by decide +kernel
 intro n f h;obtain ⟨a,⟨b,c⟩,d⟩:=e n f h;refine ⟨a,⟨b,fun x g=>?_⟩,d⟩;have:=List.all_eq_true.mp c x g;rw [Bool.and_eq_true] at this;exact ⟨of_decide_eq_true this.1,of_decide_eq_true this.2⟩
def dw (nm:List Str):Dd->List Str
 | .al w=>[w]
 | .on w n=>[w,nmAt nm n]
 | .so w ks=>w::ks.map (nmAt nm)
 | .st r ks=>Str.ofString "steps" :: Str.ofString (toString r)::ks.map (nmAt nm)
def KsOk (n:Nat) (ks:List Int):Prop:=ks.Nodup/\(∀ k ∈ ks,0<=k/\k<(n:Int))/\1<=ks.length/\ks.length<=4
def DdOk (n:Nat):Dd->Prop
 | .al w=>w ∈ qBI
 | .on w k=>w ∈ oneL/\0<=k/\k<(n:Int)
 | .so w ks=>w ∈ qDE/\KsOk n ks
 | .st r ks=>1<=r/\r<=99/\KsOk n ks
def DPm:Dd->Dd->Prop
 | .so w ks,.so w' ks'=>w=w'/\ks.Perm ks'
 | .st r ks,.st r' ks'=>r=r'/\ks.Perm ks'
 | d,d'=>d=d'
theorem KsOk.perm {n:Nat} {ks a:List Int} (h:KsOk n a) (p:ks.Perm a):KsOk n ks:=⟨p.nodup_iff.mpr h.1,fun k b=>h.2.1 k (p.mem_iff.mp b),by rw [p.length_eq];exact h.2.2.1,by rw [p.length_eq];exact h.2.2.2⟩
theorem DdOk.perm {n:Nat} {d d':Dd} (h:DdOk n d') (p:DPm d d'):DdOk n d:=by
 cases d <;> cases d' <;> first
  | (obtain ⟨rfl,q⟩:=p;exact ⟨h.1,h.2.perm q⟩)
  | (obtain ⟨rfl,q⟩:=p;exact ⟨h.1,h.2.1,h.2.2.perm q⟩)
  | (cases p <;> exact h)
theorem qeR:∀ w ∈ qBI++oneL++qDE++[Str.ofString "steps",Str.ofString "work",Str.ofString "rooms"],(0<w.length/\w.cps.toList.all (fun c=>decide (33<=c) && decide (c<=126))=true)/\w.length<=5:=by decide +kernel
theorem qQW {w:Str} (h:w ∈ qBI++oneL++qDE++[Str.ofString "steps",Str.ofString "work",Str.ofString "rooms"]):WdOk w/\w.length<=5:=by
 obtain ⟨⟨a,b⟩,c⟩:=qeR w h;refine ⟨⟨a,fun x d=>?_⟩,c⟩;have:=List.all_eq_true.mp b x d;rw [Bool.and_eq_true] at this;exact ⟨of_decide_eq_true this.1,of_decide_eq_true this.2⟩
theorem qKY:Str.ofString "steps" ∉ qBI/\Str.ofString "steps" ∉ oneL/\Str.ofString "steps" ∉ qDE:=by decide +kernel
theorem qNR:∀ w ∈ qBI++oneL++qDE++[Str.ofString "steps"],¬ w=Str.ofString "work":=by decide +kernel
section
variable {nm:List Str}
theorem qT4 (ok:NmOk nm) {z:Int} (b:0<=z) (a:z<nm.length):WdOk (nmAt nm z)/\(nmAt nm z).length<=8:=by
 have:=ok.ok _ (List.mem_of_getElem? (qE2 b a));refine ⟨qTZ this,?_⟩;have:=this.1;unfold isNm at this;rw [Bool.and_eq_true] at this;exact of_decide_eq_true this.1
theorem qdG (e:NmOk nm) {ks:List Int} (h:KsOk nm.length ks):(∀ x ∈ ks.map (nmAt nm),WdOk x)/\((ks.map (nmAt nm)).map (·.length)).sum+(ks.map (nmAt nm)).length<=36:=by
 refine ⟨fun x f=>?_,?_⟩
 ·obtain ⟨k,b,rfl⟩:=List.mem_map.mp f;exact (qT4 e (h.2.1 k b).1 (h.2.1 k b).2).1
 ·have c:∀ l:List Int,(∀ k ∈ l,0<=k/\k<(nm.length:Int))->((l.map (nmAt nm)).map (·.length)).sum+(l.map (nmAt nm)).length<=9 * l.length:=by
   intro l
   induction l with
   | nil=>intro _;exact Nat.le_refl _
   | cons a l ih=>
    intro d;have:=ih fun k b=>d k (List.mem_cons_of_mem _ b);have g:=(qT4 e (d a (List.mem_cons_self ..)).1 (d a (List.mem_cons_self ..)).2).2;rw [List.map_cons,List.map_cons,List.sum_cons,List.length_cons,List.length_cons]
    lia
  have:=c ks h.2.1;have:=h.2.2.2
  lia
theorem qbM (b:NmOk nm) {d:Dd} (h:DdOk nm.length d):dw nm d ≠ []/\(∀ x ∈ dw nm d,WdOk x)/\((dw nm d).map (·.length)).sum+(dw nm d).length<=201/\∃ w r,dw nm d=w::r/\¬ w=Str.ofString "work":=by
 cases d with
 | al w=>
  have k:=qQW (w:=w) (by simp [show w ∈ qBI from h])
  refine ⟨by simp [dw],fun x hx=>by rw [List.mem_singleton.mp hx];exact k.1,?_,w,[],rfl,qNR w (by simp [show w ∈ qBI from h])⟩
  simp [dw]
  lia
 | on w n=>
  have k:=qQW (w:=w) (by simp [h.1])
  have a:=qT4 b h.2.1 h.2.2;refine ⟨by simp [dw],fun x hx=>?_,?_,w,_,rfl,qNR w (by simp [h.1])⟩
  ·rcases List.mem_cons.mp hx with e | hx
   ·rw [e];exact k.1
   ·rw [List.mem_singleton.mp hx];exact a.1
  ·simp [dw]
   lia
 | so w ks=>
  have k:=qQW (w:=w) (by simp [h.1])
  have a:=qdG b h.2;refine ⟨by simp [dw],fun x hx=>?_,?_,w,_,rfl,qNR w (by simp [h.1])⟩
  ·rcases List.mem_cons.mp hx with e | hx
   ·rw [e];exact k.1
   ·exact a.1 x hx
  ·show (w.length::((ks.map (nmAt nm)).map (·.length))).sum+(ks.map (nmAt nm)).length+1<=201;rw [List.sum_cons]
   lia
 | st r ks=>
  have k:=qQW (w:=Str.ofString "steps") (by simp)
  have a:=qdG b h.2.2;have c:=qL1 r.toNat (by have:=h.2.1;lia) (by have:=h.1;lia)
  rw [show ((r.toNat:Nat):Int)=r by have:=h.1;lia] at c
  refine ⟨by simp [dw],fun x hx=>?_,?_,_,_,rfl,qNR _ (by simp)⟩
  ·rcases List.mem_cons.mp hx with e | hx
   ·rw [e];exact k.1
   ·rcases List.mem_cons.mp hx with e | hx
    ·rw [e];exact c.2.1
    ·exact a.1 x hx
  ·show ((Str.ofString "steps").length::(Str.ofString (toString r)).length::((ks.map (nmAt nm)).map (·.length))).sum+(ks.map (nmAt nm)).length+1+1<=201;rw [List.sum_cons,List.sum_cons]
   lia
def drow (nm:List Str) (d:Dd):Str:=Str.join (Str.ofString " ") (dw nm d)
def wrow (nm:List Str) (k:Nat) (qs:List Int):Str:=Str.join (Str.ofString " ") (Str.ofString "work" :: nmAt nm (k:Int)::qs.map (nmAt nm))
def wr (nm:List Str):Nat->List (List Int)->List Str
 | _,[]=>[]
 | k,q::r=>wrow nm k q::wr nm (k+1) r
theorem qTU {nm:List Str} {q:List Int}:∀ {k:Nat} {qss:List (List Int)},wr nm k (qss++[q])=wr nm k qss++[wrow nm (k+qss.length) q]
 | _,[]=>rfl
 | k,p::r=>by
  show wrow nm k p::wr nm (k+1) (r++[q])=wrow nm k p::(wr nm (k+1) r++_);rw [qTU,show k+1+r.length=k+(p::r).length by rw [List.length_cons];lia]
def hrow (r:Int):Str:=Str.ofString "rooms " ++ Str.ofString (toString r)
theorem qVR (r:Int):hrow r=Str.join (Str.ofString " ") [Str.ofString "rooms",Str.ofString (toString r)]:=by
 unfold hrow;rw [show Str.ofString "rooms " = Str.ofString "rooms" ++ Str.ofString " " by decide +kernel]
 rfl
theorem qTX (h:NmOk nm) {k:Nat} {d:List Int} (hk:k<nm.length) (t:nm.length<=40) (j:∀ q ∈ d,0<=q/\q<(k:Int)) (p:d.Nodup):(∀ x ∈ Str.ofString "work" :: nmAt nm (k:Int)::d.map (nmAt nm),WdOk x)/\((Str.ofString "work" :: nmAt nm (k:Int)::d.map (nmAt nm)).map (·.length)).sum+(Str.ofString "work" :: nmAt nm (k:Int)::d.map (nmAt nm)).length<=201:=by
 have v:=qQW (w:=Str.ofString "work") (by simp)
 have k1:=qT4 h (z:=(k:Int)) (by lia) (by lia)
 refine ⟨fun x hx=>?_,?_⟩
 ·rcases List.mem_cons.mp hx with e | hx
  ·rw [e];exact v.1
  ·rcases List.mem_cons.mp hx with e | hx
   ·rw [e];exact k1.1
   ·obtain ⟨q,hm,rfl⟩:=List.mem_map.mp hx;have:=j q hm;exact (qT4 h this.1 (by lia)).1
 ·have nd:((k:Int)::d).Nodup:=List.nodup_cons.mpr ⟨fun z=>by have:=j _ z;lia,p⟩
  have inj:∀ a b:Int,0<=a->a<(nm.length:Int)->0<=b->b<(nm.length:Int)->nmAt nm a=nmAt nm b->a=b:=fun a b a0 a1 u b1 e=>by
   have n:=qVA (k:=0) h.nd (qE2 a0 a1);have y:=qVA (k:=0) h.nd (qE2 u b1);rw [e,y] at n;have:=Option.some.inj n
   lia
  have c:∀ q ∈ (k:Int)::d,0<=q/\q<(nm.length:Int):=fun q hm=>by
   rcases List.mem_cons.mp hm with e | hm
   ·lia
   ·have:=j q hm;lia
  have m:(((k:Int)::d).map (nmAt nm)).Nodup:=by
   rw [List.Nodup,List.pairwise_map];exact nd.imp_of_mem fun {a b} r o l e=>l (inj a b (c a r).1 (c a r).2 (c b o).1 (c b o).2 e)
  have g:((k:Int)::d).map (nmAt nm) ⊆ nm:=fun x hx=>by
   obtain ⟨q,hm,rfl⟩:=List.mem_map.mp hx;exact List.mem_of_getElem? (qE2 (c q hm).1 (c q hm).2)
  have sm:=qU6 (f:=(·.length)) m g;have s:=h.sum;have lq:d.length<=k:=by
   have g:d ⊆ (List.range k).map fun (i:Nat)=>(i:Int):=fun x hx=>by
    have:=j x hx;exact List.mem_map.mpr ⟨x.toNat,List.mem_range.mpr (by lia),by lia⟩
   have:=List.Nodup.length_le_of_subset p g;simpa using this
  rw [List.map_cons,List.map_cons,List.sum_cons] at sm;rw [List.map_cons,List.map_cons,List.sum_cons,List.sum_cons,List.length_cons,List.length_cons,List.length_map];have:(Str.ofString "work").length=4:=by decide
  lia
def qZR (nm:List Str) (rooms:Int) (net:List (List Int)) (ds:List Dd) (rows:List Str):Prop:=
 rows.length<=100/\∃ qss ds',Paired List.Perm qss net/\Paired DPm ds' ds/\rows.filter (fun r=>!decide (r=Str.ofString ""))=hrow rooms::(wr nm 0 qss++ds'.map (drow nm))
theorem qFJ {α β:Type} {F:α->β->Prop} {i:Nat} {a:α}:∀ {l₁:List α} {l₂:List β},Paired F l₁ l₂->l₁[i]?=some a->∃ b,l₂[i]?=some b/\F a b:=by
 intro l₁ l₂ h
 induction h generalizing i with
 | nil=>intro e;simp at e
 | cons r t ih=>
  cases i with
  | zero=>intro e;cases e;exact ⟨_,rfl,r⟩
  | succ i=>intro e;exact ih (by simpa using e)
theorem qJ6 {α β:Type} {F:α->β->Prop} {a:α} {c:List α} {l₂:List β} (h:Paired F c l₂) (f:a ∈ c):∃ b ∈ l₂,F a b:=by
 obtain ⟨i,d⟩:=List.getElem?_of_mem f;obtain ⟨b,e,g⟩:=qFJ h d;exact ⟨b,List.mem_of_getElem? e,g⟩
theorem qTV {x:Str}:∀ {k:Nat} {qss:List (List Int)},x ∈ wr nm k qss->∃ i qs,qss[i]?=some qs/\x=wrow nm (k+i) qs
 | k,q::r,h=>by
  rcases List.mem_cons.mp h with e | h
  ·exact ⟨0,q,rfl,e⟩
  ·obtain ⟨i,qs,h1,h2⟩:=qTV h;exact ⟨i+1,qs,h1,by rw [h2,show k+1+i=k+(i+1) by lia]⟩
end
def DeedX (H:Hp) (v:V):Dd->Prop
 | .al w=>∃ p,v=.ref p/\H p=some (.tup [.str w])
 | .on w n=>∃ p,v=.ref p/\H p=some (.tup [.str w,.int n])
 | .so w ks=>∃ p t,v=.ref p/\H p=some (.tup [.str w,.ref t])/\H t=some (.tup (ks.map V.int))/\ks.Pairwise (·<·)
 | .st r ks=>∃ p t,v=.ref p/\H p=some (.tup [.str "steps",.int r,.ref t])/\H t=some (.tup (ks.map V.int))/\ks.Pairwise (·<·)
theorem DeedX.imp {H H':Hp} {v:V} {d:Dd} (h:DeedX H v d) (s:∀ b xs,H b=some (.tup xs)->H' b=some (.tup xs)):DeedX H' v d:=by
 cases d with
 | al w=>obtain ⟨p,e,h⟩:=h;exact ⟨p,e,s _ _ h⟩
 | on w n=>obtain ⟨p,e,h⟩:=h;exact ⟨p,e,s _ _ h⟩
 | so w ks=>obtain ⟨p,t,e,h,g,u⟩:=h;exact ⟨p,t,e,s _ _ h,s _ _ g,u⟩
 | st r ks=>obtain ⟨p,t,e,h,g,u⟩:=h;exact ⟨p,t,e,s _ _ h,s _ _ g,u⟩
def qUF:Sp:=fun vs H Q _=>∃ d c t ns m,vs=[.ref d,.int m]/\StAt H d c t ns/\t<=TB - 1000/\1<=m/\m<=40/\
 ∀ l nm t' ns' H',StAt H' d c t' ns'->t<=t'->t'<=t+100->Keep d c H H'->H l=none->H' l=some (.lst (nm.map V.str))->NmOk nm->(nm.length:Int)=m->Q (.ref l) H'
def qQE (K:PySem.W.Frag):Sp:=fun vs H Q _=>∃ (d c:Addr) (t:Int) (ns:List Int) (p:Addr) (xs:List V),vs=[.ref d,.ref p]/\StAt H d c t ns/\t<=TB - 1000/\(SqL K H p xs\/SqT K H p xs)/\xs.length<=60/\
 ∀ l ys t' ns' H',StAt H' d c t' ns'->t<=t'->t'<=t+60->Keep d c H H'->H l=none->H' l=some (.lst ys)->ys.Perm xs->Q (.ref l) H'
def qYZ:Sp:=fun vs H Q _=>∃ (d c:Addr) (t:Int) (ns:List Int) (ln a:Addr) (nm:List Str) (net:List (List Int)) (r:Int),vs=[.ref d,.ref ln,.ref a,.int r]/\StAt H d c t ns/\t<=TB - 10000/\H ln=some (.lst (nm.map V.str))/\ln ≠ c/\NetAt H a net/\WFn net/\net.length=nm.length/\nm.length<=40/\NmOk nm/\1<=r/\r<=99/\
 ∀ l qss t' ns' H',StAt H' d c t' ns'->t<=t'->t'<=t+2400->Keep d c H H'->H l=none->H' l=some (.lst ((hrow r::wr nm 0 qss).map V.str))->Paired List.Perm qss net->Q (.ref l) H'
def qRN:Sp:=fun vs H Q _=>∃ (ln:Addr) (v:V) (nm:List Str) (dd:Dd),vs=[.ref ln,v]/\H ln=some (.lst (nm.map V.str))/\DeedX H v dd/\DdOk nm.length dd/\∀ l H',Same H H'->H l=none->H' l=some (.lst ((dw nm dd).map V.str))->Q (.ref l) H'
def qOW:Sp:=fun vs H Q _=>∃ (d c:Addr) (t:Int) (ns:List Int) (a:Addr) (net:List (List Int)),vs=[.ref d,.ref a]/\StAt H d c t ns/\t<=TB - 1000/\NetAt H a net/\1<=net.length/\net.length<=40/\
 ∀ v dd t' ns' H',StAt H' d c t' ns'->t<=t'->t'<=t+20->Keep d c H H'->DeedX H' v dd->DdOk net.length dd->Q v H'
def qYX:Sp:=fun vs H Q _=>∃ (d c:Addr) (t:Int) (ns:List Int) (ln a ld:Addr) (nm:List Str) (net:List (List Int)) (r:Int) (us:List V) (ds:List Dd),vs=[.ref d,.ref ln,.ref a,.int r,.ref ld]/\StAt H d c t ns/\t<=TB - 20000/\H ln=some (.lst (nm.map V.str))/\ln ≠ c/\NetAt H a net/\WFn net/\net.length=nm.length/\nm.length<=40/\NmOk nm/\1<=r/\r<=99/\
 H ld=some (.lst us)/\ld ≠ c/\Paired (DeedX H) us ds/\(∀ d ∈ ds,DdOk nm.length d)/\ds.length<=40/\
 ∀ l rows t' ns' H',StAt H' d c t' ns'->t<=t'->t'<=t+10000->Keep d c H H'->H l=none->H' l=some (.lst (rows.map V.str))->qZR nm r net ds rows->Q (.ref l) H'
theorem qYM {i:Int} (b:0<=i) (c:i<26):atI (Str.ofString "abcdefghijklmnopqrstuvwxyz").cps.toList i=some (97+i.toNat):=by
 have a:∀ k:Nat,k<26->(Str.ofString "abcdefghijklmnopqrstuvwxyz").cps.toList[k]?=some (97+k):=by decide +kernel
 have:=qAN (j:=i.toNat) (a i.toNat (by lia))
 rw [show ((i.toNat:Nat):Int)=i by lia] at this
 exact this
theorem qWU:(Str.ofString "abcdefghijklmnopqrstuvwxyz").length<=sizeLine:=by rw [sizeLine_eq];decide +kernel
theorem qML {α:Type} {xs:List α} {k:Nat} {y:α} (h:xs[k]?=some y):(y::xs.eraseIdx k).Perm xs:=by
 induction xs generalizing k with
 | nil=>simp at h
 | cons a xs ih=>
  cases k with
  | zero=>cases h;exact .refl _
  | succ k=>exact (List.Perm.swap a y _).trans ((ih (by simpa using h)).cons a)
theorem qN9 {i:Int} {n:Nat} (b:0<=i) (a:i<(n:Int)):seqIndex? i n=some i.toNat:=PySem.StrLaws.seqIndex_nonneg b a
theorem qV0 {ys:List V} {ws:List Str} (h:ys.Perm (ws.map V.str)):∃ zs:List Str,ys=zs.map V.str/\zs.Perm ws:=by
 have c:∀ y ∈ ys,∃ z,y=V.str z:=fun y b=>by
  obtain ⟨z,_,e⟩:=List.mem_map.mp (h.mem_iff.mp b);exact ⟨z,e.symm⟩
 have f:∀ l:List V,(∀ y ∈ l,∃ z,y=V.str z)->∃ zs:List Str,l=zs.map V.str:=by
  intro l
  induction l with
  | nil=>intro _;exact ⟨[],rfl⟩
  | cons a l ih=>
   intro d;obtain ⟨z,rfl⟩:=d a (List.mem_cons_self ..);obtain ⟨zs,rfl⟩:=ih fun y b=>d y (List.mem_cons_of_mem _ b);exact ⟨z::zs,rfl⟩
 obtain ⟨zs,rfl⟩:=f ys c;refine ⟨zs,rfl,?_⟩;have:=h.map (fun v=>match v with | V.str z=>z | _=>Str.ofString "")
 rw [List.map_map,List.map_map] at this;have e:((fun v=>match v with | V.str z=>z | _=>Str.ofString "") ∘ V.str:Str->Str)=id:=by funext z;rfl
 rw [e,List.map_id,List.map_id] at this;exact this
theorem qV2 {ys:List V} {ws:List Int} (h:ys.Perm (ws.map V.int)):∃ zs:List Int,ys=zs.map V.int/\zs.Perm ws:=by
 have c:∀ y ∈ ys,∃ z,y=V.int z:=fun y b=>by
  obtain ⟨z,_,e⟩:=List.mem_map.mp (h.mem_iff.mp b);exact ⟨z,e.symm⟩
 have f:∀ l:List V,(∀ y ∈ l,∃ z,y=V.int z)->∃ zs:List Int,l=zs.map V.int:=by
  intro l
  induction l with
  | nil=>intro _;exact ⟨[],rfl⟩
  | cons a l ih=>
   intro d;obtain ⟨z,rfl⟩:=d a (List.mem_cons_self ..);obtain ⟨zs,rfl⟩:=ih fun y b=>d y (List.mem_cons_of_mem _ b);exact ⟨z::zs,rfl⟩
 obtain ⟨zs,rfl⟩:=f ys c;refine ⟨zs,rfl,?_⟩;have:=h.map (fun v=>match v with | V.int z=>z | _=>0)
 rw [List.map_map,List.map_map] at this;have e:((fun v=>match v with | V.int z=>z | _=>0) ∘ V.int:Int->Int)=id:=by funext z;rfl
 rw [e,List.map_id,List.map_id] at this;exact this
theorem qL5 {α β:Type} {f:α->β}:∀ {l:List α} {ws:List β},ws.Perm (l.map f)->∃ l':List α,l'.Perm l/\ws=l'.map f:=by
 intro l ws h;generalize e:l.map f=m at h
 induction h generalizing l with
 | nil=>exact ⟨l,.refl _,e.symm⟩
 | cons x h ih=>
  cases l with
  | nil=>cases e
  | cons a l=>
   obtain ⟨rfl,c⟩:=List.cons.inj e;obtain ⟨l',p,rfl⟩:=ih c;exact ⟨a::l',p.cons a,rfl⟩
 | swap x y r=>
  cases l with
  | nil=>cases e
  | cons a l=>
   cases l with
   | nil=>cases e
   | cons b l=>
    obtain ⟨rfl,c⟩:=List.cons.inj e;obtain ⟨rfl,rfl⟩:=List.cons.inj c;exact ⟨b::a::l,.swap a b l,rfl⟩
 | trans h1 h2 i1 i2=>
  obtain ⟨j,d,rfl⟩:=i2 e;obtain ⟨g,i,rfl⟩:=i1 rfl;exact ⟨g,i.trans d,rfl⟩
theorem qIA {α β:Type} {f:α->β}:∀ {xs:List α} {k:Nat},(xs.map f).eraseIdx k=(xs.eraseIdx k).map f
 | [],_=>rfl
 | _::_,0=>rfl
 | x::xs,k+1=>by
  show f x::(xs.map f).eraseIdx k=f x::(xs.eraseIdx k).map f;rw [qIA]
def qZS (H:Hp) (w:Str) (nm:List Str) (x:V) (ws:List Str):Prop:=
 (∃ t ks,x=.ref t/\H t=some (.tup (ks.map V.int))/\ws=ks.map (nmAt nm)/\KsOk nm.length ks)\/(∃ n:Int,x=.int n/\w=Str.ofString "steps"/\ws=[Str.ofString (toString n)]/\1<=n/\n<=99)\/∃ n:Int,x=.int n/\¬ w=Str.ofString "steps"/\ws=[nmAt nm n]/\0<=n/\n<(nm.length:Int)
theorem qTG {H:Hp} {v:V} {nm:List Str} {b:Dd} (h:DeedX H v b) (a:DdOk nm.length b):∃ p w xs wds,v=.ref p/\H p=some (.tup (.str w::xs))/\Paired (qZS H w nm) xs wds/\dw nm b=w::wds.flatten/\xs.length<=2:=by
 cases b with
 | al w=>obtain ⟨p,e,h⟩:=h;exact ⟨p,w,[],[],e,h,.nil,rfl,by decide⟩
 | on w n=>
  obtain ⟨p,e,h⟩:=h;refine ⟨p,w,[.int n],[[nmAt nm n]],e,h,.cons (.inr (.inr ⟨n,rfl,fun z=>?_,rfl,a.2⟩)) .nil,rfl,by simp⟩
  rw [z] at a;exact qKY.2.1 a.1
 | so w ks=>
  obtain ⟨p,t,e,h,g,u⟩:=h;exact ⟨p,w,[.ref t],[ks.map (nmAt nm)],e,h,.cons (.inl ⟨t,ks,rfl,g,rfl,a.2⟩) .nil,by simp [dw],by simp⟩
 | st r ks=>
  obtain ⟨p,t,e,h,g,u⟩:=h;exact ⟨p,Str.ofString "steps",[.int r,.ref t],[[Str.ofString (toString r)],ks.map (nmAt nm)],e,h,.cons (.inr (.inl ⟨r,rfl,rfl,rfl,a.1,a.2.1⟩)) (.cons (.inl ⟨t,ks,rfl,g,rfl,a.2.2⟩) .nil),by simp [dw],by simp⟩
theorem qVZ {a:List (List Str)} {i:Nat} {ws:List Str} (h:a[i]?=some ws):(a.take (i+1)).flatten=(a.take i).flatten++ws:=by
 rw [List.take_add_one,h,Option.toList_some,List.flatten_append];simp
theorem qOU {a:List Int} {nm:List Str} {i:Nat} {z:Int} (h:a[i]?=some z):((a.take i).map (nmAt nm)).map V.str++[V.str (nmAt nm z)]=((a.take (i+1)).map (nmAt nm)).map V.str:=by
 rw [List.take_add_one,h,Option.toList_some,List.map_append,List.map_append]
 rfl
theorem qPH {r:Int} (b:1<=r) (a:r<=99):r.natAbs.log2<1920:=by
 have:r.natAbs.log2<7:=(Nat.log2_lt (by lia)).mpr (show r.natAbs<2 ^ 7 by lia)
 lia
theorem qaX {r:Int} (b:1<=r) (a:r<=99):(Str.ofString (toString r)).length<=2:=by
 have:=(qL1 r.toNat (by lia) (by lia)).2.2
 rw [show ((r.toNat:Nat):Int)=r by lia] at this
 exact this
theorem qJZ {α β:Type} {F:α->β->Prop} {i:Nat} {a:α} {b:β} {c:List α} {l₂:List β} (h:Paired F c (l₂.take i)) (d:l₂[i]?=some b) (r:F a b):Paired F (c++[a]) (l₂.take (i+1)):=by
 rw [List.take_add_one,d,Option.toList_some];exact Paired.snoc h r
theorem qU2:∀ w ∈ w13,w ∈ qBI\/w ∈ oneL\/w ∈ qDE\/w=Str.ofString "steps":=by decide +kernel
theorem qW8 {H:Hp} {v:V} {nm:List Str} {c:Dd} (h:DeedX H v c):∃ p xs y hd tl,v=.ref p/\H p=some (.tup xs)/\atI xs (-1)=some y/\dw nm c=hd++tl/\(((∃ w,y=.str w)\/∃ n,y=.int n)/\tl=[]\/∃ t zs,y=.ref t/\H t=some (.tup zs)/\zs.length=tl.length)/\∀ tl':List Str,tl'.Perm tl->∃ dd',DPm dd' c/\dw nm dd'=hd++tl':=by
 cases c with
 | al w=>
  obtain ⟨p,e,h⟩:=h;exact ⟨p,_,.str w,[w],[],e,h,qG7 [] _,rfl,.inl ⟨.inl ⟨w,rfl⟩,rfl⟩,fun tl' b=>⟨.al w,rfl,by rw [List.perm_nil.mp b];rfl⟩⟩
 | on w n=>
  obtain ⟨p,e,h⟩:=h;exact ⟨p,_,.int n,[w,nmAt nm n],[],e,h,qG7 [.str w] _,rfl,.inl ⟨.inr ⟨n,rfl⟩,rfl⟩,fun tl' b=>⟨.on w n,rfl,by rw [List.perm_nil.mp b];rfl⟩⟩
 | so w ks=>
  obtain ⟨p,t,e,h,g,u⟩:=h;refine ⟨p,_,.ref t,[w],ks.map (nmAt nm),e,h,qG7 [.str w] _,rfl,.inr ⟨t,_,rfl,g,by rw [List.length_map,List.length_map]⟩,fun tl' b=>?_⟩
  obtain ⟨a,d,rfl⟩:=qL5 b;exact ⟨.so w a,⟨rfl,d⟩,rfl⟩
 | st r ks=>
  obtain ⟨p,t,e,h,g,u⟩:=h;refine ⟨p,_,.ref t,[Str.ofString "steps",Str.ofString (toString r)],ks.map (nmAt nm),e,h,qG7 [.str (Str.ofString "steps"),.int r] _,rfl,.inr ⟨t,_,rfl,g,by rw [List.length_map,List.length_map]⟩,fun tl' b=>?_⟩
  obtain ⟨a,d,rfl⟩:=qL5 b;exact ⟨.st r a,⟨rfl,d⟩,rfl⟩
theorem qQX {ws:List Str} (a:ws ≠ []) (b:∀ x ∈ ws,WdOk x):¬ Str.join (Str.ofString " ") ws=Str.ofString "":=by
 intro e;rw [qCN] at e;have:=qI2 (c:=32) a;rw [e] at this;cases ws with
 | nil=>exact a rfl
 | cons x r=>
  have d:=(b x (List.mem_cons_self ..)).1;rw [List.map_cons,List.sum_cons,List.length_cons] at this;have:(Str.ofString "").length=0:=by decide
  lia
theorem qTW {nm:List Str}:∀ {k:Nat} {l:List (List Int)},(wr nm k l).length=l.length
 | _,[]=>rfl
 | k,q::r=>by show (wr nm (k+1) r).length+1=_;rw [qTW];rfl
theorem qUN {nm:List Str} {c:Int} {h f:List (List Int)} {t j:List Dd} (n:NmOk nm) (h1:1<=c) (h2:c<=99) (wf:WFn h) (nl:h.length=nm.length) (m:nm.length<=40) (w:∀ d ∈ t,DdOk nm.length d) (o:Paired List.Perm f h) (p2:Paired DPm j t) :
  (hrow c::(wr nm 0 f++j.map (drow nm))).filter (fun r=>!decide (r=Str.ofString ""))=hrow c::(wr nm 0 f++j.map (drow nm)):=by
 rw [List.filter_eq_self];have lq:f.length=h.length:=Paired.length o;intro r hr;have l:¬ r=Str.ofString "":=by
  rcases List.mem_cons.mp hr with e | hr
  ·rw [e,qVR];refine qQX (by simp) fun x hx=>?_
   rcases List.mem_cons.mp hx with z | hx
   ·rw [z];exact (qQW (by simp)).1
   ·have p:=qL1 c.toNat (by lia) (by lia)
    rw [show ((c.toNat:Nat):Int)=c by lia] at p
    rw [List.mem_singleton.mp hx];exact p.2.1
  ·rcases List.mem_append.mp hr with hr | hr
   ·obtain ⟨i,qs,g,rfl⟩:=qTV hr;obtain ⟨v,u,s⟩:=qFJ o g;have li:i<f.length:=(List.getElem?_eq_some_iff.mp g).1;have r:=wf i v u;exact qQX (by simp) (qTX n (k:=0+i) (by lia) m (fun q y=>by have:=r.in_ q (s.mem_iff.mp y);lia) (s.nodup_iff.mpr r.nodup)).1
   ·obtain ⟨d,hm,rfl⟩:=List.mem_map.mp hr;obtain ⟨d2,h3,h4⟩:=qJ6 p2 hm;obtain ⟨a,b,_⟩:=qbM n ((w d2 h3).perm h4);exact qQX a b
 simp [l]
theorem qTC {a:List Str} {k:Nat}:(a.take k++Str.ofString "" :: a.drop k).filter (fun r=>!decide (r=Str.ofString ""))=a.filter fun r=>!decide (r=Str.ofString ""):=by
 rw [List.filter_append,List.filter_cons_of_neg (by simp),<- List.filter_append,List.take_append_drop]
theorem qLK {xs:List Str} {k:Nat}:cutV (xs.map V.str) none (some (k:Int))=(xs.take k).map V.str:=by rw [qG6,qWG]
end Fw
namespace Fw
open PySem L2 PySem.NumText
def digs (x:Str):Bool:=x.cps.toList.all (qB4 48 57)
def plnF (x:Str):Int:=if 1<=x.length/\x.length<=2/\digs x=true/\¬ x.cps[0]?=some 48 then (intText? x).getD 0 else 0
theorem qO6:∀ (l:List Nat) (a:Nat),l.foldl (fun acc c=>acc * 10+(c - 48)) a=a * 10 ^ l.length+l.foldl (fun acc c=>acc * 10+(c - 48)) 0
 | [],a=>by simp
 | c::l,a=>by
  rw [List.foldl_cons,List.foldl_cons,qO6 l (a * 10+(c - 48)),qO6 l (0 * 10+(c - 48)),List.length_cons,Nat.pow_succ,Nat.add_mul,Nat.zero_mul,Nat.zero_add];rw [Nat.mul_assoc,Nat.mul_comm 10,Nat.add_assoc]
theorem qW5 {x:Str} (h:digs x=true):∀ c ∈ x.cps.toList,48<=c/\c<=57:=fun c a=>by
 have:=List.all_eq_true.mp h c a;unfold qB4 at this;rw [Bool.and_eq_true] at this;exact ⟨of_decide_eq_true this.1,of_decide_eq_true this.2⟩
theorem qY4 {x:Str} (h:∀ k ∈ x.cps.toList,k<127):Txt.isdigit x=(decide (0<x.length) && digs x):=by
 unfold Txt.isdigit digs;congr 1;have a:∀ c:Nat,c<127->Unicode.isDigit c=qB4 48 57 c:=by decide +kernel
 rw [<- Array.all_toList];rw [Bool.eq_iff_iff,List.all_eq_true,List.all_eq_true]
 constructor
 ·intro g c b;rw [<- a c (h c b)];exact g c b
 ·intro g c b;rw [a c (h c b)];exact g c b
theorem qYA {x:Str} {c:Nat} {l:List Nat} (h:x.cps.toList=c::l):x.cps[0]?=some c:=by
 rw [<- Array.getElem?_toList,h];rfl
theorem qL3 {x:Str} (v:x.length<=200) (h:∀ k ∈ x.cps.toList,k<127):decide (0<plnF x)=(rmF x).isSome:=by
 have g:=qY4 h;unfold plnF rmF;by_cases a:digs x=true
 ·cases e:x.cps.toList with
  | nil=>
   have r:x.length=0:=by rw [qDD,e];rfl
   rw [if_neg (fun z=>by lia),if_neg (fun z=>by rw [g,r] at z;simp at z)]
   rfl
  | cons c l=>
   have l1:x.length=l.length+1:=by rw [qDD,e];rfl
   have f:=qYA e;have m:=qW5 a;have u:=m c (by rw [e];simp)
   have s:=intText_digits m (by rw [e];simp) (by lia)
   have q:Txt.isdigit x=true:=by rw [g,a,decide_eq_true (by lia)];rfl
   by_cases i:c=48
   ·rw [if_neg (fun z=>z.2.2.2 (by rw [f,i])),if_neg (fun z=>z.2 (by rw [f,i]))]
    rfl
   ·have n:¬ x.cps[0]?=some 48:=by rw [f];exact fun z=>i (Option.some.inj z)
    rw [if_pos (show Txt.isdigit x=true/\_ from ⟨q,n⟩),s];have b:digitsVal x.cps.toList=(c - 48) * 10 ^ l.length+l.foldl (fun j c=>j * 10+(c - 48)) 0:=by
     rw [e];unfold digitsVal;rw [List.foldl_cons,qO6,Nat.zero_mul,Nat.zero_add]
    by_cases t:l.length<=1
    ·rw [if_pos ⟨by lia,by lia,a,n⟩]
     have d:digitsVal x.cps.toList<=99/\1<=digitsVal x.cps.toList:=by
      match l,t with
      | [],_=>rw [b];simp;lia
      | [y],_=>
       have w:=m y (by rw [e];simp)
       rw [b];simp
       lia
     dsimp only;rw [if_neg (by lia),Option.getD_some,decide_eq_true (by lia)]
     rfl
    ·rw [if_neg (fun z=>by lia)]
     have o:100<=digitsVal x.cps.toList:=by
      rw [b];have p:10 ^ 2<=10 ^ l.length:=Nat.pow_le_pow_right (by decide) (by lia)
      have:1 * 10 ^ 2<=(c - 48) * 10 ^ l.length:=Nat.mul_le_mul (by lia) p
      lia
     dsimp only;rw [if_pos (by lia)]
     rfl
 ·rw [if_neg (fun z=>a z.2.2.1),if_neg (fun z=>a (by have:=z.1;rw [g,Bool.and_eq_true] at this;exact this.2))]
  rfl
theorem qUW {x:Str} (h:1<=x.length/\x.length<=2/\digs x=true/\¬ x.cps[0]?=some 48):intText? x=some (plnF x):=by
 unfold plnF;rw [if_pos h];have a:=intText_digits (qW5 h.2.2.1) (fun z=>by have:=qDD x;rw [z] at this;rw [this] at h;exact absurd h.1 (by decide)) (by lia)
 rw [a]
 rfl
def qQY (x:Str):Bool:=isNm x && decide (1<=x.length)
def askL (nm ws:List Str):Bool:=decide (1<=ws.length/\ws.length<=4) && (decide ws.Nodup && ws.all fun x=>decide (x ∈ nm))
theorem qNS {nm:List Str} (x:Str):(nmF 0 nm x).isSome=decide (x ∈ nm):=by
 by_cases h:x ∈ nm
 ·rw [decide_eq_true h];cases e:nmF 0 nm x with
  | none=>exact absurd h (nmF_none.mp e)
  | some _=>rfl
 ·rw [decide_eq_false h,nmF_none.mpr h];rfl
theorem qaY {nm:List Str} {x y:Str} {k:Nat} {n:Int} (b:nmF k nm x=some n) (c:nmF k nm y=some n):x=y:=by
 induction nm generalizing k with
 | nil=>cases b
 | cons a r ih=>
  unfold nmF at b c
  split at b
  ·rename_i e1
   split at c
   ·rename_i e2
    rw [<- e1,e2]
   ·cases b;have:=(qS1 c).1
    lia
  ·split at c
   ·cases c;have:=(qS1 b).1
    lia
   ·exact ih b c
theorem qc9 {nm ws:List Str}:(wkF nm ws).isSome=(decide ws.Nodup && ws.all fun x=>decide (x ∈ nm)):=by
 unfold wkF;by_cases h:∀ x ∈ ws,(nmF 0 nm x).isSome=true
 ·have c:(ws.all fun x=>decide (x ∈ nm))=true:=List.all_eq_true.mpr fun x f=>by rw [<- qNS];exact h x f
  rw [c,Bool.and_true];have d:(ws.filterMap (nmF 0 nm)).Nodup ↔ ws.Nodup:=by
   clear c
   induction ws with
   | nil=>simp
   | cons a ws ih=>
    have j:=ih fun x f=>h x (List.mem_cons_of_mem _ f);have k:=h a (List.mem_cons_self ..);cases e:nmF 0 nm a with
    | none=>rw [e] at k;cases k
    | some n=>
     rw [List.filterMap_cons_some e,List.nodup_cons,List.nodup_cons,j]
     constructor
     ·rintro ⟨i,c⟩;exact ⟨fun z=>i (List.mem_filterMap.mpr ⟨a,z,e⟩),c⟩
     ·rintro ⟨i,c⟩;refine ⟨fun z=>?_,c⟩;obtain ⟨b,m,l⟩:=List.mem_filterMap.mp z;exact i (qaY e l ▸ m)
  by_cases g:ws.Nodup
  ·rw [if_pos ⟨h,d.mpr g⟩,decide_eq_true g];rfl
  ·rw [if_neg (fun z=>g (d.mp z.2)),decide_eq_false g];rfl
 ·have c:(ws.all fun x=>decide (x ∈ nm))=false:=by
   rw [Bool.eq_false_iff];intro z;exact h fun x f=>by rw [qNS];exact List.all_eq_true.mp z x f
  rw [if_neg (fun z=>h z.1),c,Bool.and_false]
  rfl
theorem qZP {nm ws:List Str}:(askF nm ws).isSome=askL nm ws:=by
 unfold askF askL;by_cases h:1<=ws.length/\ws.length<=4
 ·rw [if_pos h,decide_eq_true h,Bool.true_and,qc9]
 ·rw [if_neg h,decide_eq_false h,Bool.false_and];rfl
def qQ8 (nm:List Str):List Str->Bool
 | []=>false
 | x::r=>qQY x && (decide (x ∉ nm) && (decide (nm.length<40) && (decide r.Nodup && r.all fun y=>decide (y ∈ nm))))
def oneB (nm:List Str):List Str->Bool
 | [x]=>decide (x ∈ nm)
 | _=>false
def stpB (nm:List Str):List Str->Bool
 | x::y::q=>decide (0<plnF x) && askL nm (y::q)
 | _=>false
def qTH (nm:List Str):List Str->Bool
 | []=>false
 | w::r=>if w ∈ qBI then r.isEmpty else if w ∈ oneL then oneB nm r else if w=Str.ofString "steps" then stpB nm r else decide (w ∈ qDE) && askL nm r
theorem qbQ {nm ws:List Str} (e:∀ x ∈ ws,x.length<=200/\∀ k ∈ x.cps.toList,k<127):(qW9 nm ws).isSome=qTH nm ws:=by
 cases ws with
 | nil=>rfl
 | cons w r=>
  show (if w ∈ qBI then (if r=[] then some (Dd.al w) else none) else if w ∈ oneL then oneF nm w r else if w ∈ qDE then (askF nm r).map (.so w) else if w=Str.ofString "steps" then qKZ nm (w::r) else none).isSome=(if w ∈ qBI then r.isEmpty else if w ∈ oneL then oneB nm r else if w=Str.ofString "steps" then stpB nm r else decide (w ∈ qDE) && askL nm r)
  by_cases c:w ∈ qBI
  ·rw [if_pos c,if_pos c];cases r <;> rfl
  rw [if_neg c,if_neg c];by_cases d:w ∈ oneL
  ·rw [if_pos d,if_pos d]
   match r with
   | []=>rfl
   | [x]=>
    show ((nmF 0 nm x).map (Dd.on w)).isSome=_;rw [Option.isSome_map,qNS]
    rfl
   | _::_::_=>rfl
  rw [if_neg d,if_neg d];by_cases b:w ∈ qDE
  ·have a:¬ w=Str.ofString "steps":=fun z=>qKY.2.2 (z ▸ b);rw [if_pos b,if_neg a,decide_eq_true b,Bool.true_and,Option.isSome_map,qZP]
  rw [if_neg b];by_cases a:w=Str.ofString "steps"
  ·rw [if_pos a,if_pos a]
   match r,e with
   | [],_=>rfl
   | [x],_=>
    unfold qKZ;dsimp only;have:askF nm []=none:=by unfold askF;rw [if_neg (by simp)]
    rw [this];cases rmF x <;> rfl
   | x::y::q,e=>
    have f:=e x (by simp)
    unfold qKZ;dsimp only;show _=(decide (0<plnF x) && askL nm (y::q));rw [qL3 f.1 f.2,<- qZP];cases rmF x <;> cases askF nm (y::q) <;> rfl
  ·rw [if_neg a,if_neg a,decide_eq_false b,Bool.false_and]
   rfl
def rmsB:List Str->Bool
 | [a,b]=>decide (a=Str.ofString "rooms") && decide (0<plnF b)
 | _=>false
def qO1 (bg:Bool) (nm:List Str) (dn:Nat) (ws:List Str):Bool:=
 if bg=false then rmsB ws
 else if ws.head?=some (Str.ofString "work") then decide (dn=0) && qQ8 nm ws.tail else !nm.isEmpty && qTH nm ws
structure Sim (s:Sh) (bg:Bool) (nm:List Str) (dn:Nat):Prop where
 rooms:s.rooms.isSome=bg
 names:s.names=nm
 deeds:s.deeds.isEmpty=decide (dn=0)
 len:s.names.length=s.net.length
 n40:s.net.length<=40
 ne:Str.ofString "" ∉ nm
theorem qYI {nm ws:List Str} (d:Str.ofString "" ∉ nm) (h:Str.ofString "" ∈ ws):qTH nm ws=false:=by
 have a:∀ l,Str.ofString "" ∈ l->askL nm l=false:=fun l g=>by
  unfold askL;have:(l.all fun x=>decide (x ∈ nm))=false:=by
   rw [Bool.eq_false_iff];intro z;exact d (of_decide_eq_true (List.all_eq_true.mp z _ g))
  rw [this,Bool.and_false,Bool.and_false]
 have i:∀ w ∈ qBI++oneL++qDE++[Str.ofString "steps"],¬ w=Str.ofString "":=by decide +kernel
 cases ws with
 | nil=>cases h
 | cons w r=>
  show (if w ∈ qBI then r.isEmpty else if w ∈ oneL then oneB nm r else if w=Str.ofString "steps" then stpB nm r else decide (w ∈ qDE) && askL nm r)=false
  rcases List.mem_cons.mp h with e | h
  ·have k:=fun (z:w ∈ qBI++oneL++qDE++[Str.ofString "steps"])=>i w z e.symm;rw [if_neg fun z=>k (by simp [z]),if_neg fun z=>k (by simp [z]),if_neg fun z=>k (by simp [z]),decide_eq_false fun z=>k (by simp [z]),Bool.false_and]
  ·by_cases b:w ∈ qBI
   ·rw [if_pos b];cases r with
    | nil=>cases h
    | cons _ _=>rfl
   rw [if_neg b];by_cases f:w ∈ oneL
   ·rw [if_pos f]
    match r,h with
    | [x],h=>exact decide_eq_false fun z=>d (by rw [List.mem_singleton.mp h];exact z)
    | _::_::_,_=>rfl
   rw [if_neg f];by_cases c:w=Str.ofString "steps"
   ·rw [if_pos c]
    match r,h with
    | [x],_=>rfl
    | x::y::q,h=>
     show (decide (0<plnF x) && askL nm (y::q))=false;rcases List.mem_cons.mp h with e | h
     ·rw [<- e,show plnF (Str.ofString "")=0 by decide +kernel];rfl
     ·rw [a _ h,Bool.and_false]
   ·rw [if_neg c,a r h,Bool.and_false]
theorem qX6 {nm ws:List Str} (a:Str.ofString "" ∉ nm) (h:Str.ofString "" ∈ ws):qQ8 nm ws=false:=by
 cases ws with
 | nil=>rfl
 | cons x r=>
  show (qQY x && (decide (x ∉ nm) && (decide (nm.length<40) && (decide r.Nodup && r.all fun y=>decide (y ∈ nm)))))=false;rcases List.mem_cons.mp h with e | h
  ·rw [<- e,show qQY (Str.ofString "")=false by decide +kernel,Bool.false_and]
  ·have:(r.all fun x=>decide (x ∈ nm))=false:=by
    rw [Bool.eq_false_iff];intro z;exact a (of_decide_eq_true (List.all_eq_true.mp z _ h))
   rw [this,Bool.and_false,Bool.and_false,Bool.and_false,Bool.and_false]
theorem qXJ {s:Sh} {m:Bool} {nm:List Str} {g:Nat} {row:Str} (S:Sim s m nm g) (h0:¬ row=Str.ofString "") (q:row.length<=200) (v:asc row=true):(rowT s row).isSome=qO1 m nm g (Txt.split row " "):=by
 have d:∀ x ∈ Txt.split row (Str.ofString " "),x.length<=200/\∀ k ∈ x.cps.toList,k<127:=fun x p=>by
  rw [show Str.ofString " " = (⟨#[32]⟩:Str) from qCN] at p;refine ⟨Nat.le_trans (PyProof.Rows.part_short p) q,fun k hk=>?_⟩;have:=List.all_eq_true.mp v k (qGF p k hk);unfold qB4 at this;rw [Bool.and_eq_true] at this;have:=of_decide_eq_true this.2
  lia
 unfold rowT;rw [if_neg h0,if_pos ⟨q,v⟩];generalize hws:Txt.split row (Str.ofString " ")=a at d ⊢;have c:qO1 false nm g a=rmsB a:=rfl;have f:qO1 true nm g a=if a.head?=some (Str.ofString "work") then decide (g=0) && qQ8 nm a.tail else !nm.isEmpty && qTH nm a:=rfl
 by_cases b:Str.ofString "" ∈ a
 ·rw [if_pos b];show false=_;cases m with
  | false=>
   rw [c];clear c f
   match a,b with
   | [],h=>rfl
   | [x],h=>rfl
   | x::y::z::r,h=>rfl
   | [x,y],h=>
    show false=(decide (x=Str.ofString "rooms") && decide (0<plnF y));rcases List.mem_cons.mp h with e | h
    ·rw [<- e,decide_eq_false (by decide +kernel),Bool.false_and]
    ·rw [<- List.mem_singleton.mp h,show plnF (Str.ofString "")=0 by decide +kernel]
     simp
  | true=>
   rw [f];clear c f
   split
   ·rename_i e
    cases a with
    | nil=>cases b
    | cons w r=>
     have ew:w=Str.ofString "work":=Option.some.inj e;rw [List.tail_cons,qX6 S.ne ?_,Bool.and_false];rcases List.mem_cons.mp b with z | z
     ·rw [ew] at z;exact absurd z (by decide +kernel)
     ·exact z
   ·rw [qYI S.ne b,Bool.and_false]
 ·rw [if_neg b];unfold qKW;have n:=S.rooms;cases m with
  | false=>
   rw [if_pos (show s.rooms=none by cases e:s.rooms with | none=>rfl | some _=>rw [e] at n;cases n),c]
   clear c f
   match a,d with
   | [],_=>rfl
   | [x],_=>rfl
   | x::y::z::r,_=>rfl
   | [x,y],d=>
    show (if x=Str.ofString "rooms" then (rmF y).map _ else none).isSome=(decide (x=Str.ofString "rooms") && decide (0<plnF y))
    by_cases o:x=Str.ofString "rooms"
    ·rw [if_pos o,decide_eq_true o,Bool.true_and,Option.isSome_map,qL3 (d y (by simp)).1 (d y (by simp)).2]
    ·rw [if_neg o,decide_eq_false o,Bool.false_and];rfl
  | true=>
   rw [if_neg (show ¬ s.rooms=none by intro z;rw [z] at n;cases n),f]
   clear c f;by_cases e:a.head?=some (Str.ofString "work")
   ·rw [if_pos e,if_pos e];cases a with
    | nil=>cases e
    | cons w r=>
     rw [List.tail_cons];cases r with
     | nil=>rw [show qQ8 nm []=false from rfl,Bool.and_false];rfl
     | cons x r=>
      show (if s.deeds.isEmpty=false\/s.net.length=40\/isNm x=false\/x ∈ s.names then none else (wkF s.names r).map _).isSome=_
      have nx:1<=x.length:=by
       have:¬ x=Str.ofString "":=fun z=>b (by rw [<- z];simp)
       rcases Nat.eq_zero_or_pos x.length with z | z
       ·exact absurd (qN4 (by rw [qDD] at z;rw [List.length_eq_zero_iff.mp z];decide +kernel)) this
       ·exact z
      rw [show qQ8 nm (x::r)=(isNm x && decide (1<=x.length) && (decide (x ∉ nm) && (decide (nm.length<40) && (decide r.Nodup && r.all fun y=>decide (y ∈ nm))))) from rfl];rw [S.names,decide_eq_true nx,Bool.and_true];have u:nm.length=s.net.length:=by rw [<- S.names];exact S.len
      have n40:=S.n40;by_cases j:g=0
      ·rw [decide_eq_true j,Bool.true_and];have i:=S.deeds;rw [decide_eq_true j] at i;by_cases t:s.net.length=40
       ·rw [if_pos (.inr (.inl t)),decide_eq_false (show ¬ nm.length<40 by lia),Bool.false_and,Bool.and_false,Bool.and_false];rfl
       rw [decide_eq_true (show nm.length<40 by lia),Bool.true_and]
       cases h3:isNm x with
       | false=>rw [if_pos (.inr (.inr (.inl rfl)))];rfl
       | true=>
        by_cases l:x ∈ nm
        ·rw [if_pos (.inr (.inr (.inr l))),decide_eq_false (fun z=>z l),Bool.false_and];rfl
        ·rw [decide_eq_true l,if_neg,Option.isSome_map,qc9]
         ·rfl
         ·rintro (z | z | z | z)
          ·rw [i] at z;cases z
          ·exact t z
          ·cases z
          ·exact l z
      ·have i:=S.deeds;rw [decide_eq_false j] at i;rw [if_pos (.inl i),decide_eq_false j,Bool.false_and];rfl
   ·rw [if_neg e,if_neg e];unfold qRB;rw [S.names];have u:s.net.isEmpty=nm.isEmpty:=by
     have:=S.len;rw [S.names] at this;cases hn:nm <;> cases hs:s.net <;> simp_all
    rw [u];cases hn:nm.isEmpty with
    | true=>rw [if_pos rfl];rfl
    | false=>
     rw [if_neg (by decide),Option.isSome_map,qbQ d]
     rfl
theorem qXI {s s':Sh} {c:Bool} {nm:List Str} {f:Nat} {row:Str} (S:Sim s c nm f) (i:¬ row=Str.ofString "") (a:rowT s row=some s') :
  Sim s' true (if c=true/\(Txt.split row " ").head?=some (Str.ofString "work") then nm++[(Txt.split row " " ++ [Str.ofString ""]).getD 1 (Str.ofString "")] else nm) (if c=true/\¬ (Txt.split row " ").head?=some (Str.ofString "work") then f+1 else f):=by
 unfold rowT at a;rw [if_neg i] at a
 split at a
 ·split at a
  ·cases a
  ·rename_i he
   generalize Txt.split row (Str.ofString " ")=j at a he ⊢;have b:=S.rooms;unfold qKW at a;cases c with
   | false=>
    rw [if_pos (show s.rooms=none by cases e:s.rooms with | none=>rfl | some _=>rw [e] at b;cases b)] at a
    unfold qP6 at a;rw [if_neg (by simp),if_neg (by simp)]
    split at a
    ·split at a
     ·obtain ⟨n,_,rfl⟩:=Option.map_eq_some_iff.mp a;exact ⟨rfl,S.names,S.deeds,S.len,S.n40,S.ne⟩
     ·cases a
    ·cases a
   | true=>
    rw [if_neg (show ¬ s.rooms=none by intro z;rw [z] at b;cases b)] at a
    split at a
    ·rename_i e
     rw [if_pos ⟨rfl,e⟩,if_neg (fun z=>z.2 e)];unfold qOP at a
     split at a
     ·rename_i w x r
      split at a
      ·cases a
      ·rename_i hno
       obtain ⟨h,_,rfl⟩:=Option.map_eq_some_iff.mp a;have l:=S.len;have n40:=S.n40;have g:((w::x::r)++[Str.ofString ""]).getD 1 (Str.ofString "")=x:=rfl;refine ⟨b,?_,S.deeds,?_,?_,?_⟩
       ·show s.names++[x]=_;rw [S.names,g]
       ·show (s.names++[x]).length=(s.net++[h]).length;rw [List.length_append,List.length_append,l];rfl
       ·show (s.net++[h]).length<=40;rw [List.length_append,List.length_singleton];have:¬ s.net.length=40:=fun z=>hno (.inr (.inl z))
        lia
       ·rw [g];intro z;rcases List.mem_append.mp z with z | z
        ·exact S.ne z
        ·exact he (by rw [List.mem_singleton.mp z];simp)
     ·cases a
    ·rename_i e
     rw [if_neg (fun z=>e z.2),if_pos ⟨rfl,e⟩];unfold qRB at a
     split at a
     ·cases a
     ·obtain ⟨d,_,rfl⟩:=Option.map_eq_some_iff.mp a;refine ⟨b,S.names,?_,S.len,S.n40,S.ne⟩;show (s.deeds++[d]).isEmpty=_;cases s.deeds <;> simp
 ·cases a
def fltF:Nat->Sh->List Str->Option Nat
 | k,s,[]=>if s.net.isEmpty=true then some k else none
 | k,s,r::rs=>if k=100 then some 100 else match rowT s r with
  | none=>some k
  | some s'=>fltF (k+1) s' rs
def optN:Option Nat->V
 | none=>.non
 | some n=>.int (n:Int)
def qTQ (r:Str):Prop:=r.length<=200/\asc r=true
end Fw
namespace Fw
open PySem L2 PySem.NumText
def asc7 (x:Str):Prop:=x.length<=200/\∀ k ∈ x.cps.toList,k<127
theorem qV9:∀ c:Nat,c<127->(Builtin.Str.occurrences (Str.ofString "0123456789") ⟨#[c]⟩ 0 (Str.ofString "0123456789").length 1).isEmpty=!qB4 48 57 c:=by decide +kernel
theorem qT2:∀ c:Nat,c<127->(Builtin.Str.occurrences (Str.ofString "abcdefghijklmnopqrstuvwxyz") ⟨#[c]⟩ 0 (Str.ofString "abcdefghijklmnopqrstuvwxyz").length 1).isEmpty=!qB4 97 122 c:=by decide +kernel
def oddS (lo hi:Nat) (l:List Nat):List V:=(l.filter fun c=>!qB4 lo hi c).map fun c=>V.str ⟨#[c]⟩
theorem qXW {z:Str} {lo hi i c:Nat} (h:z.cps[i]?=some c):oddS lo hi (z.cps.toList.take (i+1))=oddS lo hi (z.cps.toList.take i)++(if qB4 lo hi c=true then [] else [V.str ⟨#[c]⟩]):=by
 unfold oddS;rw [List.take_add_one,Array.getElem?_toList,h,Option.toList_some,List.filter_append,List.map_append];congr 1;cases e:qB4 lo hi c <;> simp [e]
theorem qaV {z:Str} {lo hi i:Nat}:(oddS lo hi (z.cps.toList.take i)).length<=z.length:=by
 unfold oddS;rw [List.length_map,qDD];exact Nat.le_trans (List.length_filter_le _ _) (by rw [List.length_take];lia)
theorem qV7 {z:Str} {lo hi:Nat}:(oddS lo hi (z.cps.toList.take z.length)).isEmpty=z.cps.toList.all (qB4 lo hi):=by
 rw [qDD,List.take_length];unfold oddS;rw [List.isEmpty_map,Bool.eq_iff_iff,List.isEmpty_iff,List.filter_eq_nil_iff,List.all_eq_true]
 constructor
 ·intro h x a;have:=h x a;cases e:qB4 lo hi x
  ·rw [e] at this;exact absurd rfl this
  ·rfl
 ·intro h x a;rw [h x a]
  decide
theorem qdA {z:Str} {i c:Nat} (h:z.cps[i]?=some c):c ∈ z.cps.toList:=by
 rw [<- Array.getElem?_toList] at h;exact List.mem_of_getElem? h
def oddI (x:Str) (lo hi:Nat) (H:Hp) (p:Addr) (i:Nat) (σ:St) (Hi:Hp):Prop:=∃ v,σ=[v]/\Same H Hi/\Hi p=some (.lst (oddS lo hi (x.cps.toList.take i)))
theorem qRW {x j:Str} {lo hi:Nat} {H:Hp} {p:Addr} (q:x.length<=200) (n:∀ k ∈ x.cps.toList,k<127) (g:∀ c:Nat,c<127->(Builtin.Str.occurrences j ⟨#[c]⟩ 0 j.length 1).isEmpty=!qB4 lo hi c) (l:H p=none) (i c:Nat) (σ:St) (Hi:Hp) (f:x.cps[i]?=some c) (m:oddI x lo hi H p i σ Hi) :
  qQZ 0 (.str ⟨#[c]⟩) σ Hi fun σ2 H2=>qZW (tOp (fun x y H Q=>∃ i j,x=V.str i/\y=V.str j/\Q (V.bl !!(Builtin.Str.occurrences j i 0 j.length 1).isEmpty) H) (tVar 0) (tC (.str j))) σ2 H2 fun b H3=>if b=true then tVar 0 σ2 H3 fun y H4=>∃ ys,H4 p=some (.lst ys)/\ys.length<sizeLine/\oddI x lo hi H p (i+1) σ2 (Af H4 p (.lst (ys++[y]))) else oddI x lo hi H p (i+1) σ2 H3:=by
 have o:=sizeLine_eq;obtain ⟨v,rfl,d,a⟩:=m;refine ⟨_,rfl,_,_,rfl,rfl,_,rfl,?_⟩;rw [g c (n c (qdA f)),Bool.not_not];have e:=qXW (lo:=lo) (hi:=hi) f;cases h:qB4 lo hi c with
 | true=>
  rw [h,if_pos rfl,List.append_nil] at e;exact ⟨_,rfl,d,by rw [e];exact a⟩
 | false=>
  rw [h,if_neg (by decide)] at e
  refine ⟨_,rfl,_,a,?_,_,rfl,fun b u z=>by rw [qA8 (qA4 z l)];exact d b u z,by rw [qA1,e]⟩
  have:=qaV (z:=x) (lo:=lo) (hi:=hi) (i:=i)
  lia
def qUE:Sp:=fun vs H Q _=>∃ x:Str,vs=[.str x]/\asc7 x/\∀ H',Same H H'->Q (.int (plnF x)) H'
def qcM:Sp:=fun vs H Q _=>∃ x:Str,vs=[.str x]/\asc7 x/\∀ H',Same H H'->Q (.bl (qQY x)) H'
def qZ0:Sp:=fun vs H Q _=>∃ (p q:Addr) (nm ws:List Str),vs=[.ref p,.ref q]/\H p=some (.lst (nm.map V.str))/\H q=some (.lst (ws.map V.str))/\nm.length<=300/\ws.length<=300/\∀ H',Same H H'->Q (.bl (askL nm ws)) H'
def qcP:Sp:=fun vs H Q _=>∃ (p q:Addr) (nm ws:List Str),vs=[.ref p,.ref q]/\H p=some (.lst (nm.map V.str))/\H q=some (.lst (ws.map V.str))/\nm.length<=300/\ws.length<=300/\ws ≠ []/\(∀ x ∈ ws,asc7 x)/\∀ H',Same H H'->Q (.bl (qTH nm ws)) H'
def qcK:Sp:=fun vs H Q _=>∃ (p q:Addr) (nm ws:List Str),vs=[.ref p,.ref q]/\H p=some (.lst (nm.map V.str))/\H q=some (.lst (ws.map V.str))/\nm.length<=300/\ws.length<=300/\(∀ x ∈ ws,asc7 x)/\∀ H',Same H H'->Q (.bl (qQ8 nm ws)) H'
def qcO:Sp:=fun vs H Q _=>∃ x:Str,vs=[.str x]/\x.length<=90000/\(∀ r ∈ Txt.split x "\n",qTQ r)/\∀ H',Same H H'->Q (optN (fltF 0 sh0 (Txt.split x "\n"))) H'
def xrow (n:Nat):List (Str × V):=[("row",.int (n:Int))]
def qUG (C:Addr):Sp:=fun vs H Q _=>∃ (x:Addr) (a:V),vs=[.ref x,a]/\H x=some (ExcN x C none)/\∀ dx,H dx=none->dx ≠ x->Q .non (Af (Af H dx (XDic dx [("row",a)])) x (ExcN x C (some dx)))
def qQC (C:Addr):Sp:=fun vs H Q E=>∃ x:Str,vs=[.str x]/\x.length<=90000/\
 (fltF 0 sh0 (Txt.split x "\n")=none->∀ v H',Same H H'->Q v H')/\
 (∀ n dx H',fltF 0 sh0 (Txt.split x "\n")=some n->Same H H'->H' dx=some (XDic dx (xrow n))->E (.ref C) (some dx) H')
def qcL (f:Addr):Sp:=fun vs H Q _=>∃ x:Str,vs=[.ref f,.str x]/\x.length<=90000/\∀ H',Same H H'->Q (optN (fltF 0 sh0 (Txt.split x "\n"))) H'
def qUB:Sp:=fun vs H Q _=>∃ o:Option Nat,vs=[optN o,optN o]/\∀ H',Same H H'->Q (.bl true) H'
theorem qSL:∀ (l zs:List Str),zs.Nodup->((l.foldl addS zs).length=zs.length+l.length ↔ (zs++l).Nodup)
 | [],zs,h=>by simp [h]
 | k::l,zs,h=>by
  rw [List.foldl_cons];unfold addS;by_cases e:k ∈ zs
  ·rw [if_pos e];have:=qEH l zs;rw [List.length_cons]
   constructor
   ·intro z;unfold addS at this;lia
   ·intro z;rw [List.nodup_append] at z;exact absurd rfl (z.2.2 k e k (List.mem_cons_self ..))
  ·rw [if_neg e];have h2:(zs++[k]).Nodup:=by
    rw [List.nodup_append];refine ⟨h,by simp,fun a ha b hb=>?_⟩
    rw [List.mem_singleton.mp hb];exact fun z=>e (z ▸ ha)
   have ih:=qSL l (zs++[k]) h2;unfold addS at ih;rw [List.length_append,List.length_singleton,List.append_assoc,List.singleton_append] at ih;rw [<- ih,List.length_cons]
   lia
theorem qMT {l:List Str}:decide (V.int ((dedS l).length:Nat)=V.int (l.length:Int))=decide l.Nodup:=by
 have:=qSL l [] .nil;rw [List.length_nil,Nat.zero_add,List.nil_append] at this;rw [decide_eq_decide,<- this];unfold dedS
 constructor
 ·intro h;have:=V.int.inj h;lia
 ·intro h;rw [h]
def inI (nm ws:List Str) (a:Addr) (H:Hp) (p:Addr) (i:Nat) (σ:St) (Hi:Hp):Prop:=∃ v,σ=[v,some (.ref a)]/\Same H Hi/\Hi p=some (.lst (((ws.take i).map fun x=>decide (x ∈ nm)).map V.bl))
theorem qVP {K:PySem.W.Frag} {nm ws:List Str} {a p:Addr} {H:Hp} (l:ws.length<=300) (k:H a=some (.lst (nm.map V.str))) (h:H p=none) (i:Nat) (f:V) (σ:St) (Hi:Hp) (d:(ws.map V.str)[i]?=some f) (j:inI nm ws a H p i σ Hi) :
  qQZ 0 f σ Hi fun σ2 H2=>qcF σ2 H2 fun b H3=>if b=true then tOp (rIn K false) (tVar 0) (tVar 1) σ2 H3 fun y H4=>∃ ys,H4 p=some (.lst ys)/\ys.length<sizeLine/\inI nm ws a H p (i+1) σ2 (Af H4 p (.lst (ys++[y]))) else inI nm ws a H p (i+1) σ2 H3:=by
 have m:=sizeLine_eq;obtain ⟨v,rfl,e,c⟩:=j;rw [List.getElem?_map] at d;obtain ⟨x,g,rfl⟩:=Option.map_eq_some_iff.mp d;refine ⟨_,rfl,_,rfl,a,_,rfl,.inl (SqL.of (e _ _ k)),rfl,qI8 nm,?_⟩;rw [qCM];refine ⟨_,c,?_,_,rfl,fun b u z=>by rw [qA8 (qA4 z h)];exact e b u z,?_⟩
 ·rw [List.length_map,List.length_map,List.length_take];lia
 ·rw [qA1,List.take_add_one,g,Option.toList_some,List.map_append,List.map_append];rfl
theorem qZD {nm ws:List Str} {n:Nat} (h:n=ws.length):((ws.take n).map fun x=>decide (x ∈ nm)).all id=ws.all fun x=>decide (x ∈ nm):=by
 rw [h,List.take_length,List.all_map]
 rfl
theorem qX7 {r:Str} (h:qTQ r):∀ x ∈ Txt.split r (Str.ofString " "),asc7 x:=fun x a=>by
 rw [show Str.ofString " " = (⟨#[32]⟩:Str) from qCN] at a;refine ⟨Nat.le_trans (PyProof.Rows.part_short a) h.1,fun k b=>?_⟩;have:=List.all_eq_true.mp h.2 k (qGF a k b);unfold qB4 at this;rw [Bool.and_eq_true] at this;have:=of_decide_eq_true this.2
 lia
theorem qVY {s:Sh} {r:Str} {rs:List Str}:fltF 100 s (r::rs)=some 100:=by unfold fltF;rw [if_pos rfl]
theorem qVX {i:Nat} {s:Sh} {r:Str} {rs:List Str} (h:¬ i=100) (e:rowT s r=none):fltF i s (r::rs)=some i:=by unfold fltF;rw [if_neg h,e]
theorem qVW {i:Nat} {s s':Sh} {r:Str} {rs:List Str} (h:¬ i=100) (e:rowT s r=some s'):fltF i s (r::rs)=fltF (i+1) s' rs:=by rw [fltF,if_neg h,e]
theorem qW4 {a:List Str} {i:Nat} {r:Str} (h:a[i]?=some r):a.drop i=r::a.drop (i+1):=by
 obtain ⟨b,e⟩:=List.getElem?_eq_some_iff.mp h;rw [List.drop_eq_getElem_cons b,e]
theorem sim0:Sim sh0 false [] 0:=⟨rfl,rfl,rfl,rfl,by show 0<=40;decide,by simp⟩
theorem qaE {s:Sh}:rowT s (Str.ofString "")=some s:=by unfold rowT;rw [if_pos rfl]
end Fw
namespace Fw
open PySem L2 PySem.NumText
def wdB (x:Str):Prop:=x.length<=9/\∀ c ∈ x.cps.toList,33<=c/\c<=126
def RW (n:Nat) (r:Str):Prop:=∃ ws:List Str,ws ≠ []/\ws.length<=n/\(∀ x ∈ ws,wdB x)/\r=Str.join (Str.ofString " ") ws
theorem qOQ:∀ {ws:List Str},(∀ x ∈ ws,wdB x)->(ws.map (·.length)).sum<=9 * ws.length
 | [],_=>Nat.le_refl _
 | x::ws,h=>by
  have h1:=(h x (List.mem_cons_self ..)).1;have h2:=qOQ (ws:=ws) fun y hy=>h y (List.mem_cons_of_mem _ hy);rw [List.map_cons,List.sum_cons,List.length_cons]
  lia
theorem RW.mono {m n:Nat} {r:Str} (h:RW m r) (l:m<=n):RW n r:=by
 obtain ⟨d,a,b,c⟩:=h;exact ⟨d,a,Nat.le_trans b l,c⟩
theorem RW.words {n:Nat} {r:Str} (h:RW n r):(Txt.split r (Str.ofString " ")).length<=n/\∀ x ∈ Txt.split r (Str.ofString " "),wdB x:=by
 obtain ⟨e,a,b,c,rfl⟩:=h;rw [show Str.ofString " " = (⟨#[32]⟩:Str) from qCN,qFU a fun p d z=>by have:=(c p d).2 32 z;lia]
 exact ⟨b,c⟩
theorem RW.len {n:Nat} {r:Str} (h:RW n r):r.length+1<=10 * n:=by
 obtain ⟨d,a,b,c,rfl⟩:=h;rw [show Str.ofString " " = (⟨#[32]⟩:Str) from qCN,qI2 a];have:=qOQ c
 lia
theorem RW.signs {n:Nat} {r:Str} (h:RW n r):∀ k ∈ r.cps.toList,32<=k/\k<=126:=by
 obtain ⟨f,a,b,c,rfl⟩:=h;intro k d;rw [show Str.ofString " " = (⟨#[32]⟩:Str) from qCN,qD9] at d;rcases qPC d with rfl | ⟨y,hy,d⟩
 ·decide
 ·obtain ⟨x,e,rfl⟩:=List.mem_map.mp hy;have:=(c x e).2 k d
  lia
theorem RW.row {n:Nat} {r:Str} (h:RW n r) (l:n<=20):qTQ r:=by
 refine ⟨by have:=h.len;lia,?_⟩
 unfold asc;rw [List.all_eq_true];intro k a;have:=h.signs k a;unfold qB4;rw [decide_eq_true this.1,decide_eq_true this.2]
 rfl
theorem RW.of {n:Nat} {ws:List Str} (a:1<=n) (c:ws.length<=n) (h:∀ x ∈ ws,wdB x):RW n (Str.join (Str.ofString " ") ws):=by
 cases ws with
 | nil=>exact ⟨[Str.ofString ""],by simp,a,fun x b=>by rw [List.mem_singleton.mp b];exact ⟨by decide,by decide⟩,by decide +kernel⟩
 | cons x r=>exact ⟨x::r,by simp,c,h,rfl⟩
theorem RW.nil {n:Nat} (a:1<=n):RW n (Str.ofString ""):=⟨[Str.ofString ""],by simp,a,fun x b=>by rw [List.mem_singleton.mp b];exact ⟨by decide,by decide⟩,by decide +kernel⟩
theorem qU0 {x:Str} (h:WdOk x) (l:x.length<=9):wdB x:=⟨l,h.2⟩
theorem qUO {n:Nat} {a:List Str} (l:n<=20) (b:1<=n) (h:∀ r ∈ a,RW n r):∀ r ∈ Txt.split (Str.join (Str.ofString "\n") a) (Str.ofString "\n"),qTQ r:=by
 cases a with
 | nil=>
  rw [show Txt.split (Str.join (Str.ofString "\n") []) (Str.ofString "\n")=[Str.ofString ""] by decide +kernel]
  intro r e;rw [List.mem_singleton.mp e];exact (RW.nil b).row l
 | cons x r=>
  rw [show Str.ofString "\n" = (⟨#[10]⟩:Str) by decide +kernel,qFU (by simp) fun p c z=>by have:=(h p c).signs 10 z;lia]
  exact fun y d=>(h y d).row l
theorem qYR:∀ {zs:List Int} {lo k:Int},zs.Pairwise (·<·)->(∀ x ∈ zs,lo<=x/\x<k)->(zs.length:Int)<=max 0 (k - lo)
 | [],lo,k,_,_=>by simp;lia
 | z::zs,lo,k,h,hb=>by
  obtain ⟨h1,h2⟩:=List.pairwise_cons.mp h;have hz:=hb z (List.mem_cons_self ..);have:=qYR (zs:=zs) (lo:=z+1) (k:=k) h2 fun x hx=>⟨by have:=h1 x hx;lia,(hb x (List.mem_cons_of_mem _ hx)).2⟩
  rw [List.length_cons]
  lia
theorem qXL {k:Nat} {zs:List Int} (h:Rise (k:Int) zs):zs.length<=k:=by
 have:=qYR (lo:=0) h.up h.in_
 lia
section
variable {nm:List Str}
theorem qb0 (ok:NmOk nm):∀ x ∈ nm,wdB x:=fun x c=>by
 obtain ⟨a,b⟩:=ok.ok x c;refine qU0 (qTZ ⟨a,b⟩) ?_;unfold isNm at a;rw [Bool.and_eq_true] at a;have:=of_decide_eq_true a.1
 lia
theorem qYL (e:NmOk nm) {z:Int} (d:0<=z) (c:z<nm.length):wdB (nmAt nm z):=by
 obtain ⟨a,b⟩:=qT4 e d c;exact qU0 a (by lia)
theorem kw_b {w:Str} (h:w ∈ qBI++oneL++qDE++[Str.ofString "steps",Str.ofString "work",Str.ofString "rooms"]):wdB w:=by
 obtain ⟨a,b⟩:=qQW h;exact qU0 a (by lia)
theorem dw_b (e:NmOk nm) {d:Dd} (h:DdOk nm.length d):(dw nm d).length<=10/\∀ x ∈ dw nm d,wdB x:=by
 have c:∀ {c:List Int},KsOk nm.length c->∀ x ∈ c.map (nmAt nm),wdB x:=fun k x hx=>by
  obtain ⟨z,f,rfl⟩:=List.mem_map.mp hx;have:=k.2.1 z f;exact qYL e this.1 this.2
 cases d with
 | al w=>
  have h:w ∈ qBI:=h;exact ⟨by show 1<=10;decide,fun x hx=>by rw [List.mem_singleton.mp hx];exact kw_b (by simp [h])⟩
 | on w k=>
  have h:w ∈ oneL/\0<=k/\k<(nm.length:Int):=h;refine ⟨by show 2<=10;decide,fun x hx=>?_⟩
  rcases List.mem_cons.mp hx with rfl | hx
  ·exact kw_b (by simp [h.1])
  ·rw [List.mem_singleton.mp hx];exact qYL e h.2.1 h.2.2
 | so w k=>
  have h:w ∈ qDE/\KsOk nm.length k:=h;refine ⟨?_,fun x hx=>?_⟩
  ·show (w::k.map (nmAt nm)).length<=10;have:=h.2.2.2.2;rw [List.length_cons,List.length_map]
   lia
  rcases List.mem_cons.mp hx with rfl | hx
  ·exact kw_b (by simp [h.1])
  ·exact c h.2 x hx
 | st r k=>
  have h:1<=r/\r<=99/\KsOk nm.length k:=h;refine ⟨?_,fun x hx=>?_⟩
  ·show (Str.ofString "steps" :: Str.ofString (toString r)::k.map (nmAt nm)).length<=10;have:=h.2.2.2.2.2;rw [List.length_cons,List.length_cons,List.length_map]
   lia
  rcases List.mem_cons.mp hx with rfl | hx
  ·exact kw_b (by simp)
  rcases List.mem_cons.mp hx with rfl | hx
  ·obtain ⟨n,rfl⟩:∃ n:Nat,r=(n:Int):=⟨r.toNat,by lia⟩
   obtain ⟨_,a,b⟩:=qL1 n (by lia) (by lia)
   exact qU0 a (by lia)
  ·exact c h.2.2 x hx
theorem qaD (j:NmOk nm) {c:Int} {g:List (List Int)} {p:List Dd} {f:List Str} (R:qZR nm c g p f) (h1:1<=c) (h2:c<=99) (wf:WFn g) (nl:g.length=nm.length) (n8:nm.length<=8) (t:∀ d ∈ p,DdOk nm.length d):∀ r ∈ f,RW 10 r:=by
 obtain ⟨_,a0,v,w,p2,e⟩:=R;intro r u;by_cases m:r=Str.ofString ""
 ·rw [m];exact RW.nil (by decide)
 have hm:r ∈ f.filter fun r=>!decide (r=Str.ofString ""):=List.mem_filter.mpr ⟨u,by rw [decide_eq_false m];rfl⟩
 rw [e] at hm;rcases List.mem_cons.mp hm with rfl | hm
 ·rw [qVR];refine RW.of (by decide) (by show 2<=10;decide) fun x hx=>?_
  rcases List.mem_cons.mp hx with rfl | hx
  ·exact kw_b (by simp)
  ·rw [List.mem_singleton.mp hx];obtain ⟨n,rfl⟩:∃ n:Nat,c=(n:Int):=⟨c.toNat,by lia⟩
   obtain ⟨_,a,b⟩:=qL1 n (by lia) (by lia)
   exact qU0 a (by lia)
 rcases List.mem_append.mp hm with hm | hm
 ·obtain ⟨i,qs,ei,rfl⟩:=qTV hm;obtain ⟨s,o,q⟩:=qFJ w ei;have l:=wf i s o;have li:i<g.length:=(List.getElem?_eq_some_iff.mp o).1;have lz:=qXL l;have lq:=q.length_eq;refine RW.of (by decide) ?_ fun x hx=>?_
  ·rw [List.length_cons,List.length_cons,List.length_map];lia
  rcases List.mem_cons.mp hx with rfl | hx
  ·exact kw_b (by simp)
  rcases List.mem_cons.mp hx with rfl | hx
  ·exact qYL j (by lia) (by lia)
  ·obtain ⟨z,hz,rfl⟩:=List.mem_map.mp hx;have:=l.in_ z (q.mem_iff.mp hz);exact qYL j this.1 (by lia)
 ·obtain ⟨d,h,rfl⟩:=List.mem_map.mp hm;obtain ⟨d2,k,y⟩:=qJ6 p2 h;obtain ⟨a,b⟩:=dw_b j ((t d2 k).perm y);exact RW.of (by decide) a b
end
def qT1:List Str:=["","rooms","work","a","0","00","07","100","99","1.","-1","A","abcdefghi","do","steps","+7","1_0","+","_5","5_","never","back"]
theorem qV8:∀ x ∈ qT1,x.length<=9/\x.cps.toList.all (fun c=>decide (33<=c) && decide (c<=126))=true:=by decide +kernel
theorem qaW:∀ x ∈ qT1,wdB x:=fun x e=>by
 obtain ⟨a,b⟩:=qV8 x e;refine ⟨a,fun c d=>?_⟩;have:=List.all_eq_true.mp b c d;rw [Bool.and_eq_true] at this;exact ⟨of_decide_eq_true this.1,of_decide_eq_true this.2⟩
def qRM:Sp:=fun vs H Q _=>∃ (d c:Addr) (t:Int) (ns:List Int) (l ln:Addr) (rows nm:List Str) (n:Nat),vs=[.ref d,.ref l,.ref ln]/\StAt H d c t ns/\t<=TB - 1000/\H l=some (.lst (rows.map V.str))/\l ≠ c/\rows ≠ []/\rows.length<=150/\(∀ r ∈ rows,RW n r)/\6<=n/\n<=19/\H ln=some (.lst (nm.map V.str))/\ln ≠ c/\nm ≠ []/\nm.length<=40/\(∀ x ∈ nm,wdB x)/\
 ∀ (l':Addr) (rows':List Str) (t':Int) (ms':List Int) (H':Hp),StAt H' d c t' ms'->t<=t'->t'<=t+10->Keep d c H H'->H l'=none->H' l'=some (.lst (rows'.map V.str))->rows'.length<=rows.length+1->(∀ r ∈ rows',RW (n+1) r)->Q (.ref l') H'
theorem qVD {c:Nat} {b:List Nat}:∀ {A:List (List Nat)},A ≠ []->lj c (A++[b])=lj c A++c::b
 | [],h=>absurd rfl h
 | [a],_=>rfl
 | a::a'::A,_=>by
  show a++c::lj c ((a'::A)++[b])=(a++c::lj c (a'::A))++c::b;rw [qVD (by simp),List.append_assoc]
  rfl
theorem qaK {a x:Str} {ps:List Str} (b:ps ≠ []) (e:a=Str.join (Str.ofString " ") ps++Str.ofString " "):a++x=Str.join (Str.ofString " ") (ps++[x]):=by
 rw [e];apply qN4;rw [qED,qED,show Str.ofString " " = (⟨#[32]⟩:Str) from qCN,qD9,qD9,List.map_append,List.map_singleton,qVD (by simpa using b),List.append_assoc]
 rfl
theorem qUV {ws:List Str} (a:ws ≠ []):Str.ofString "plain " ++ Str.join (Str.ofString " ") ws=Str.join (Str.ofString " ") (Str.ofString "plain" :: ws):=by
 rw [show Str.ofString "plain " = Str.ofString "plain" ++ Str.ofString " " by decide +kernel]
 apply qN4;rw [qED,qED,show Str.ofString " " = (⟨#[32]⟩:Str) from qCN,qD9,qD9];cases ws with
 | nil=>exact absurd rfl a
 | cons x r=>
  show (_++[32])++lj 32 _=_++32::lj 32 _;rw [List.append_assoc]
  rfl
def qdB:List (Str × List Str):=[(" ",["",""]),("work",["work"]),("rooms 3",["rooms","3"]),("steps 3",["steps","3"]),("few",["few"]),("do",["do"]),("rooms +3",["rooms","+3"]),("rooms 1_0",["rooms","1_0"])]
theorem qVE:∀ p ∈ qdB,p.2 ≠ []/\p.2.length<=6/\(∀ x ∈ p.2,x.length<=9/\x.cps.toList.all (fun c=>decide (33<=c) && decide (c<=126))=true)/\p.1=Str.join (Str.ofString " ") p.2:=by decide +kernel
theorem qU1 {x:Str} (h:x.length<=9/\x.cps.toList.all (fun c=>decide (33<=c) && decide (c<=126))=true):wdB x:=⟨h.1,fun c a=>by
 have:=List.all_eq_true.mp h.2 c a;rw [Bool.and_eq_true] at this;exact ⟨of_decide_eq_true this.1,of_decide_eq_true this.2⟩⟩
theorem qG9 {r:Str} {ws:List Str} (h:(r,ws) ∈ qdB):RW 6 r:=by
 obtain ⟨a,b,c,d⟩:=qVE _ h;exact ⟨ws,a,b,fun x e=>qU1 (c x e),d⟩
theorem qQB {e x:Str} {ps:List Str} (h:(e,ps) ∈ [(Str.ofString "steps 0 ",[Str.ofString "steps","0"]),("steps 1_0 ",["steps","1_0"]),("steps +9 ",["steps","+9"])]) (f:wdB x):RW 6 (e++x):=by
 have all:∀ p ∈ [(Str.ofString "steps 0 ",[Str.ofString "steps","0"]),("steps 1_0 ",["steps","1_0"]),("steps +9 ",["steps","+9"])],p.2 ≠ []/\p.2.length<=2/\(∀ x ∈ p.2,x.length<=9/\x.cps.toList.all (fun c=>decide (33<=c) && decide (c<=126))=true)/\p.1=Str.join (Str.ofString " ") p.2++Str.ofString " ":=by decide +kernel
 obtain ⟨a,b,c,d⟩:=all _ h;rw [qaK a d];refine RW.of (by decide) (by rw [List.length_append,List.length_singleton];have:ps.length<=2:=b;lia) fun y hy=>?_
 rcases List.mem_append.mp hy with hy | hy
 ·exact qU1 (c y hy)
 ·rw [List.mem_singleton.mp hy];exact f
theorem qXR {ws:List Str} (a:ws ≠ []) (c:ws.length<=5) (b:∀ x ∈ ws,wdB x):RW 6 (Str.ofString "plain " ++ Str.join (Str.ofString " ") ws):=by
 rw [qUV a];refine RW.of (by decide) (by rw [List.length_cons];lia) fun y hy=>?_
 rcases List.mem_cons.mp hy with rfl | hy
 ·exact qU1 (by decide +kernel)
 ·exact b y hy
end Fw
namespace Fw
open PySem L2
section
variable {P:Program} {w:World} {K:PySem.W.Frag} {mg:Str->Option Value} {base:Heap} {f:Addr} {fd:FuncData} {qDV qF8 qH3 qDL c_ALONE c_OF_ONE c_OF_SOME qG5 qDM qH2 c_Sheet qAU qAX qAY qAT qLI qLH qKL qR7 qF9 qKK qFN qJL qJK qJM qAE qO4 qW2 qO3 qH4 qR6 qLJ qEI qJJ qAW qR5:Addr} {qDK qM6 qPQ qGB qLF qGD qPP qDU qE7 qE8 qDT qTE qTD qPS qYD qM7 qPR qO2 qR3 qR2 qR4 qW1 qbI qW0 qPT qYC qTF qLG qR1 qCB qYB:FuncData} {tk_MOST_LETTERS tk_MOST_ROOMS tk_MOST_ASKED tk_MOST_WORKS tk_MOST_SIGNS:Tok}
theorem sc_Lbegin:FnScope ["_law_script","_law_cells"] ["_law_script"] (qAB qKH):=qC1
theorem ok_Lbegin (F:Fun K "_law_begin" "_law_begin" qKH f fd) (o:mg "list" = none):FnOk P w K mg base CX0 1 f fd ["_law_script"] (qUI K):=by
 refine F.okA sc_Lbegin fun a0 A t s H vs Q E hr h=>?_;obtain ⟨a,n,rfl,hS,z,q⟩:=h;have hu:=qVQ hr;have y:=hr.units0;refine ⟨_,(qA5 (qAG (i:=1) sc_Lbegin.nd rfl (Or.inl rfl) (qAK qFP rfl o qOD (qA0 (qBN qCV (pv 0) qCS (qCR qA7)) qA2))) (qA5 (qAZ (qAD (qHN y) (pv 1) (qB8 qA2) (qAH _)) (qA6 (qAG (i:=1) sc_Lbegin.nd rfl (Or.inl rfl) (qB8 (qA0 qA7 qA2)))) qAJ) (qA6 (qAF (qaQ (qRR qAC (pv 1) (qRR qAC qA7 qaL)) rfl rfl (by simp) (by decide)))))),?_⟩
 try dsimp only [Cx.nox,Cx.wish,cxOf]
 refine ⟨_,rfl,_,rfl,a,_,rfl,hS,fun p hp=>?_⟩;rw [qG6];have hl:(cutI n none (some 63)).length<=63:=Nat.le_trans (qYJ _ _ _) z;refine ⟨p,_,rfl,.inl (SqL.of qA1),fun c hc=>?_⟩;have s1:Same H (Af (Af H p (.lst ((cutI n none (some 63)).map V.int))) c (.lst ((cutI n none (some 63)).map V.int))):=(qA3 hp _).trans (qA3 hc _);refine ⟨_,rfl,(by show 0<=sizeLine;decide),fun e m=>?_⟩
 have l:c ≠ e:=qA4 qA1 m;refine ⟨c,e,_,rfl,rfl,SqL.of (by rw [qA8 l];exact qA1),SqL.of qA1,_,rfl,?_⟩
 have j:=s1.trans (qA3 m (.lst []));cases hm:cutI n none (some 63) with
 | nil=>
  rw [hm] at j m;refine iteT ?_;refine ⟨(by show 1<=sizeLine;decide),fun v k=>?_⟩
  have u:=j.trans (qA3 k (.lst [.int 7]));intro d g;refine ⟨_,rfl,?_⟩;have s4:=u.trans (qA3 g (.dK []));refine ⟨qA1,[(Sum.inr (Str.ofString "cells"),.ref v),(Sum.inr (Str.ofString "turn"),.int 0)],rfl,(by show 2<=15;decide),?_⟩
  have b:v ≠ d:=qA4 qA1 g;refine q d v [7] _ ⟨?_,?_,by decide,by decide,by decide⟩ ?_ ?_ ?_
  ·rw [qA1,qZ7]
  ·rw [qA8 b,qA8 b];exact qA1
  ·rw [qQ9];exact u.trans (qA3 g _)
  ·exact u.free g
  ·exact j.free k
 | cons x r=>
  rw [hm] at j m hl;refine iteF ?_;intro d g;refine ⟨_,rfl,?_⟩;refine ⟨qA1,[(Sum.inr (Str.ofString "cells"),.ref c),(Sum.inr (Str.ofString "turn"),.int 0)],rfl,(by show 2<=15;decide),?_⟩
  have gc:(Af (Af (Af H p (.lst ((x::r).map V.int))) c (.lst ((x::r).map V.int))) e (.lst [])) c=some (.lst ((x::r).map V.int)):=by rw [qA8 l];exact qA1
  have b:c ≠ d:=qA4 gc g;refine q d c (x::r) _ ⟨?_,?_,by simp,hl,by decide⟩ ?_ ?_ ?_
  ·rw [qA1,qZ7]
  ·rw [qA8 b,qA8 b];exact gc
  ·rw [qQ9];exact j.trans (qA3 g _)
  ·exact j.free g
  ·rw [hm] at hc;exact (qA3 hp _).free hc
theorem sc_Ltake:FnScope ["_law_state","_law_many","_law_turn","_law_place","_law_cell","_law_digit","_law_mixed_here"] ["_law_state","_law_many"] (qAB qND):=qC1
theorem ok_Ltake (F:Fun K "_law_take" "_law_take" qND f fd) (qAP:mg "len" = none) (a1:mg "divmod" = none):FnOk P w K mg base CX0 1 f fd ["_law_state","_law_many"] qG8:=by
 refine F.okA sc_Ltake fun a6 A a0 s H vs Q E hr h=>?_;obtain ⟨d,c,t,g,m,rfl,S,ht,a4,a8,q⟩:=h;have v:=qVQ hr;refine ⟨_,(qA5 (qAG (i:=2) sc_Ltake.nd rfl (Or.inl rfl) (qAR qD8 (qJ4 v (pv 0) qAC (fun _ _=>rfl)) qA7)) (qA5 (qUT v (pv 0) qAC (pv 2) rfl) (qA5 (qAG (i:=3) sc_Ltake.nd rfl (Or.inl rfl) (qAR qHL (pv 2) (qAA qA9 rfl qAP qAO (qA0 (qJ4 v (pv 0) qAC (fun _ _=>rfl)) qA2)))) (qA5 (qAG (i:=4) sc_Ltake.nd rfl (Or.inl rfl) (qBB qAM (qJ4 v (pv 0) qAC (fun _ _=>rfl)) (pv 3) (fun _ _=>rfl))) (qA5 (qAZ (qAD qXV (pv 4) (qAR qd5 qA7 qA7) (qAH _)) (qA5 (qMJ (qAA qRF rfl a1 qWQ (qA0 (pv 4) (qA0 (pv 1) qA2))) (qL4 rfl (qBU (qMK (qJ4 v (pv 0) qAC (fun _ _=>rfl)) (pv 3) qFV) (qBU (qBS (i:=5) sc_Ltake.nd rfl (Or.inl rfl)) qGN)))) (qA6 (qAF (pv 5)))) qAJ) (qA5 (qAG (i:=6) sc_Ltake.nd rfl (Or.inl rfl) (qAR qHL (qAR qMM (qAR qD8 (qAR qD8 (qAR qHL (pv 4) qA7) (qAR qMM (qAR qMM (pv 2) (pv 2)) qA7)) qA7) qA7) qA7)) (qA5 (qAG (i:=6) sc_Ltake.nd rfl (Or.inl rfl) (qAR qHL (qAR qMM (pv 6) (pv 6)) qA7)) (qA6 (qAF (qAR qHL (qAR qNO (qAR qHL (qAR qMM (qAR qD8 (pv 6) (qAR qMM (pv 2) qA7)) qA7) qA7) qA7) (pv 1))))))))))),?_⟩
 try dsimp only [Cx.nox,Cx.wish,cxOf]
 have a2:=S.pos;have a7:=S.ne;have a5:t<=1000000000:=ht;refine ⟨_,rfl,d,_,rfl,qbP S,_,_,rfl,rfl,?_⟩;refine ⟨_,rfl,_,rfl,d,_,rfl,qbN S,?_⟩;have l:=S.turn (u:=t+1) (by lia)
 have k1:Keep d c H (Af H d (.dK [(Sum.inr (Str.ofString "cells"),.ref c),(Sum.inr (Str.ofString "turn"),.int (t+1))])):=fun b o e n _=>by rw [qA8 n];exact e
 generalize Af H d (.dK [(Sum.inr (Str.ofString "cells"),.ref c),(Sum.inr (Str.ofString "turn"),.int (t+1))])=H1 at l k1;have k:(((g.map V.int).length:Nat):Int)=(g.length:Int):=by rw [List.length_map]
 refine ⟨_,rfl,_,rfl,d,_,rfl,qO7 l,c,_,rfl,.inl (SqL.of l.list),_,_,rfl,rfl,(by rw [k];lia),?_⟩
 have p0:0<=(t+1) % (((g.map V.int).length:Nat):Int):=Int.emod_nonneg _ (by rw [k];lia)
 have p1:(t+1) % (((g.map V.int).length:Nat):Int)<(g.length:Int):=by
  have:=Int.emod_lt_of_pos (t+1) (b:=(((g.map V.int).length:Nat):Int)) (by rw [k];lia)
  rw [k] at this ⊢;exact this
 dsimp only;generalize (t+1) % (((g.map V.int).length:Nat):Int)=pl at p0 p1;obtain ⟨j,rfl⟩:∃ j:Nat,pl=(j:Int):=⟨pl.toNat,by lia⟩
 have hj:j<g.length:=by lia
 have r:atI (g.map V.int) (j:Int)=some (.int g[j]):=qAN (by rw [List.getElem?_map,List.getElem?_eq_getElem hj];rfl)
 refine ⟨_,rfl,d,_,rfl,qO7 l,_,rfl,c,_,_,_,rfl,rfl,SqL.of l.list,r,?_⟩;generalize hx:g[j]=x at r ⊢;refine ⟨_,rfl,_,_,rfl,rfl,⟨by decide,by decide,by decide⟩,_,_,rfl,rfl,_,rfl,?_⟩
 refine ite2 (fun _=>?_) (fun _=>?_)
 ·-- a great cell
  refine ⟨_,rfl,_,rfl,x,m,rfl,⟨by lia,by lia⟩,fun p hp=>?_⟩
  have S2:=l.new hp (.tup [.int (x / m),.int (x % m)]);have a3:p ≠ c:=(qA4 l.list hp).symm;refine ⟨p,_,rfl,SqT.of qA1,rfl,_,_,rfl,?_⟩;refine ⟨_,rfl,d,_,rfl,qO7 S2,_,rfl,c,_,_,j,rfl,rfl,S2.list,qJG (by rw [List.length_map];exact hj),?_⟩
  refine ⟨_,_,rfl,rfl,?_⟩;refine ⟨_,rfl,?_⟩;have e1:(g.map V.int).set j (.int (x / m))=(g.set j (x / m)).map V.int:=by rw [List.map_set]
  rw [e1];refine q (x % m) (g.set j (x / m)) _ (Int.emod_nonneg _ (by lia)) (Int.emod_lt_of_pos _ (by lia)) (S2.put (by rw [List.length_set])) ?_
  have k2:=k1.trans (qCA (d:=d) (c:=c) hp (.tup [.int (x / m),.int (x % m)]));exact fun b o e n1 n2=>by rw [qA8 n2];exact k2 b o e n1 n2
 ·have b1:0<=x % 2147483629:=Int.emod_nonneg _ (by decide)
  have b2:x % 2147483629<2147483629:=Int.emod_lt_of_pos _ (by decide)
  refine ⟨_,rfl,_,_,rfl,rfl,(by show (0:Int)<2147483629;decide),_,rfl,_,rfl,_,_,rfl,rfl,.inl ⟨by lia,by lia⟩,_,_,rfl,rfl,.inr ⟨by decide,by decide⟩,_,_,rfl,rfl,_,_,rfl,rfl,_,_,rfl,rfl,.inr ⟨by decide,by decide⟩,_,_,rfl,rfl,(by show (0:Int)<2147483647;decide),?_⟩
  have c1:=Int.emod_nonneg ((x % 2147483629+(t+1) * (t+1) * 7919+11) * 48271) (b:=2147483647) (by decide)
  have c2:=Int.emod_lt_of_pos ((x % 2147483629+(t+1) * (t+1) * 7919+11) * 48271) (b:=2147483647) (by decide)
  dsimp only;generalize ((x % 2147483629+(t+1) * (t+1) * 7919+11) * 48271) % 2147483647=y at c1 c2;refine ⟨_,rfl,_,rfl,_,_,rfl,rfl,.inl ⟨by lia,by lia⟩,_,_,rfl,rfl,(by show (0:Int)<2147483587;decide),?_⟩
  dsimp only;generalize y * y % 2147483587=z;refine ⟨_,rfl,_,rfl,_,_,rfl,rfl,.inr ⟨by decide,by decide⟩,_,_,rfl,rfl,_,_,rfl,rfl,.inr ⟨by decide,by decide⟩,_,_,rfl,rfl,(by show (0:Int)<2147483629;decide),_,_,rfl,rfl,⟨by decide,by decide⟩,_,rfl,_,_,rfl,rfl,(by lia),?_⟩
  exact q _ g _ (Int.emod_nonneg _ (by lia)) (Int.emod_lt_of_pos _ (by lia)) l k1
theorem sc_Lsome_needs:FnScope ["_law_state","_law_k","_law_found","_law_turn","_law_far"] ["_law_state","_law_k"] (qAB qDI):=qC1
theorem ok_Lsome_needs (F:Fun K "_law_some_needs" "_law_some_needs" qDI f fd) (qAL:Clb P w K mg base 1 qDV qDK "_law_take" ["_law_state","_law_many"] qG8)
  (qBL:mg "range" = none) (ad:mg "min" = none) (qB5:mg "tuple" = none) (ag:mg "sorted" = none) (ac:mg "set" = none):FnOk P w K mg base CX0 2 f fd ["_law_state","_law_k"] qQD:=by
 refine F.okA sc_Lsome_needs fun ar A af s H vs Q E hr h=>?_;obtain ⟨d,c,t,ns,k,rfl,S,ht,as,ao,q⟩:=h;have aq:t<=1000000000 - 20:=ht;have au:Room 1 _:=hr;refine ⟨_,(qA5 (qAG (i:=2) sc_Lsome_needs.nd rfl (Or.inl rfl) (qB8 qA2)) (qA5 (qFI PassesOwn.never rfl (qC3 rfl qBL (qA0 (qAQ qAL hr rfl (qA0 (pv 0) (qA0 qA7 qA2))) qA2)) (qBS (i:=3) sc_Lsome_needs.nd rfl (Or.inl rfl)) (qA5 (qAG (i:=4) sc_Lsome_needs.nd rfl (Or.inl rfl) (qBB qAM (qB8 (qA0 (qAA (qPX rfl) rfl ad qZN (qA0 (pv 1) (qA0 qA7 qA2))) (qA0 (pv 1) qA2))) (qAR qNO (qAQ qAL hr rfl (qA0 (pv 0) (qA0 qA7 qA2))) qA7) (fun _ _=>rfl))) (qA6 (qAZ (qAD qNN (pv 1) qA7 (qAH _)) (qA6 (qBR (qCI PySem.F.plainAttrs_list PySem.F.slot_list_append PySem.F.type_list_append qBQ (pv 2) (qA0 (qAR qEP (qAR qEP (pv 1) qA7) (qAQ qAL hr rfl (qA0 (pv 0) (qA0 (pv 4) qA2)))) qA2)))) qAJ)))) (qA6 (qAF (qAK qAV rfl qB5 qBD (qA0 (qAA (qFA rfl) rfl ag qIK (qA0 (qAK (qOB rfl) rfl ac qMV (qA0 (pv 2) qA2)) qA2)) qA2)))))),?_⟩
 try dsimp only [Cx.nox,Cx.wish,cxOf]
 refine cut fun N0 aa=>?_;refine ⟨(by show 0<=sizeLine;decide),fun l g=>?_⟩
 have S1:=S.new g (.lst []);have nd:l ≠ d:=(qA4 S.dict g).symm;have nc:l ≠ c:=(qA4 S.list g).symm;refine aa _ _ (cut fun N1 aj=>?_);refine ⟨_,rfl,d,c,t,ns,5,rfl,S1,(by show t<=1000000000;lia),by decide,by decide,fun j ah H1 j0 j5 S2 K2=>?_⟩
 refine ⟨j,rfl,by lia,by lia,qFM (lo:=0) (n:=j.toNat) (fun i σ Hc=>∃ (t':Int) (ms fs:List Int) (v1 v2:Option V),σ=[some (.ref d),some (.int k),some (.ref l),v1,v2]/\StAt Hc d c t' ms/\t<=t'/\t'<=t+1+2 * i/\Keep d c H Hc/\
  Hc l=some (.lst (fs.map V.int))/\fs.length<=i/\∀ x ∈ fs,0<=x/\x<k)
  ⟨t+1,ah,[],none,none,rfl,S2,by lia,by lia,(qCA g _).trans K2,K2 _ _ qA1 nd nc,Nat.le_refl _,fun _ z=>nomatch z⟩ ?_ ?_⟩
 ·refine fun i σ Hc hi y=>opq fun am a0=>?_;obtain ⟨t',ms,fs,v1,v2,rfl,S3,a1,a2,K3,h3,l3,m3⟩:=y;refine a0 ?_;have an:(i:Int)<5:=by lia
  -- far
  refine nmD fun D1 d1 dr=>cut fun M0 ab=>?_;refine ⟨_,rfl,k,4,rfl,_,rfl,(by show 2<=sizeLine;decide),fun p m=>?_⟩
  have S4:=S3.new m (.lst [.int (if (4:Int)<k then 4 else k),.int k])
  have ai:p ≠ d:=(qA4 S3.dict m).symm;have ae:p ≠ c:=(qA4 S3.list m).symm;refine ⟨_,rfl,d,c,t',ms,4,rfl,S4,(by show t'<=1000000000;lia),by decide,by decide,fun k2 a6 H2 g0 g4 S5 K5=>?_⟩
  obtain ⟨far,a7,ef⟩:=qeO (a:=if (4:Int)<k then 4 else k) (b:=k) g0 g4
  have al:far<=k:=by rcases ef with e | e <;> (subst e;first | lia | (split <;> lia))
  have v:0<k->1<=far:=fun hk=>by rcases ef with e | e <;> (subst e;first | lia | (split <;> lia))
  refine ⟨_,_,rfl,rfl,⟨by decide,by decide⟩,p,_,_,_,rfl,rfl,SqL.of (K5 _ _ qA1 ai ae),a7,?_⟩
  have K6:=K3.trans ((qCA (d:=d) (c:=c) m (.lst [.int (if (4:Int)<k then 4 else k),.int k])).trans K5)
  have h6:H2 l=some (.lst (fs.map V.int)):=K5 _ _ (by rw [qA8 (qA4 h3 m)];exact h3) nd nc
  refine ab _ _ ?_;refine ⟨_,rfl,_,_,rfl,rfl,_,rfl,?_⟩;refine ite2 (fun ck=>?_) (fun ck=>?_)
  ·have hk:0<k:=of_decide_eq_true ck;refine ⟨_,rfl,.inl ⟨rfl,_,SqL.of h6⟩,_,rfl,_,_,rfl,rfl,_,rfl,_,rfl,d,c,t'+1,a6,far,rfl,S5,(by show t'+1<=1000000000;lia),v hk,by lia,fun k3 a3 H3 c0 c1 S6 K7=>?_⟩
   have h7:=K7 _ _ h6 nd nc;refine ⟨_,_,rfl,rfl,l,_,_,rfl,rfl,h7,qBK (by rw [List.length_map];lia),?_⟩
   have S8:StAt (Af H3 l (.lst (fs.map V.int++[.int (k - 1 - k3)]))) d c (t'+1+1) a3:=⟨by rw [qA8 (Ne.symm nd)];exact S6.dict,by rw [qA8 (Ne.symm nc)];exact S6.list,S6.ne,S6.len,S6.pos⟩
   have hH:H l=none:=g;refine d1 _ _ ⟨t'+1+1,a3,fs++[k - 1 - k3],_,_,rfl,S8,by lia,by lia,fun b o e n1 n2=>?_,?_,?_,fun x hx=>?_⟩
   ·rw [qA8 (qA4 e hH)];exact (K6.trans K7) b o e n1 n2
   ·rw [qA1,List.map_append];rfl
   ·rw [List.length_append,List.length_singleton];lia
   ·rcases List.mem_append.mp hx with hx | hx
    ·exact m3 x hx
    ·rw [List.mem_singleton.mp hx];lia
  ·exact d1 _ _ ⟨t'+1,a6,fs,_,_,rfl,S5,by lia,by lia,K6,h6,by lia,m3⟩
 ·refine fun σ Hc u=>opq fun ap a5=>?_;obtain ⟨t',ms,fs,v1,v2,rfl,S3,a1,a2,K3,h3,l3,m3⟩:=u;refine a5 ?_;refine aj _ _ ?_;refine ⟨_,rfl,l,fs,rfl,SqL.of h3,by lia,fun a ha=>?_⟩
  have a8:=qA3 ha (SetO w a (dedI fs));refine ⟨a,dedI fs,rfl,.inr (.inr qA1),Nat.lt_of_le_of_lt (qIC fs) (by lia),fun b zs hb m hs=>?_⟩
  have a9:=a8.trans (qA3 hb (.lst (zs.map V.int)));refine ⟨b,_,rfl,.inl ⟨SqL.of qA1,fun r ak=>?_⟩⟩;have a4:=a9.trans (qA3 ak (.tup (zs.map V.int)));exact q r zs t' ms _ (S3.same a4) (by lia) (by lia) (K3.trans (.of_same a4)) qA1 (qNH m hs m3)
theorem sc_Ltree_net:FnScope ["_law_state","_law_many","_law_open_ones","_law_found","_law_k","_law_so_many"] ["_law_state","_law_many"] (qAB qEZ):=qC1
theorem ok_Ltree_net (F:Fun K "_law_tree_net" "_law_tree_net" qEZ f fd) (qAL:Clb P w K mg base 1 qDV qDK "_law_take" ["_law_state","_law_many"] qG8)
  (qBL:mg "range" = none) (an:mg "min" = none) (qB5:mg "tuple" = none) (qAP:mg "len" = none):FnOk P w K mg base CX0 2 f fd ["_law_state","_law_many"] qYU:=by
 refine F.okA sc_Ltree_net fun b1 A ar s H vs Q E hr h=>?_;obtain ⟨d,c,t,ns,m,rfl,S,ht,az,ay,q⟩:=h;have b0:t<=1000000000 - 1000:=ht;have b3:Room 1 _:=hr;refine ⟨_,(qA5 (qAG (i:=2) sc_Ltree_net.nd rfl (Or.inl rfl) (qB8 qA2)) (qA5 (qAG (i:=3) sc_Ltree_net.nd rfl (Or.inl rfl) (qB8 qA2)) (qA5 (qFI PassesOwn.never rfl (qC3 rfl qBL (qA0 (qAR qEP (pv 1) qA7) qA2)) (qBS (i:=4) sc_Ltree_net.nd rfl (Or.inl rfl)) (qA5 (qAG (i:=5) sc_Ltree_net.nd rfl (Or.inl rfl) (qAA (qPX rfl) rfl an qZN (qA0 (qAA qA9 rfl qAP qAO (qA0 (pv 2) qA2)) (qA0 (qBB qAM (qB8 (qA0 qA7 (qA0 qA7 (qA0 qA7 (qA0 qA7 (qA0 qA7 (qA0 qA7 qA2))))))) (qAQ qAL hr rfl (qA0 (pv 0) (qA0 qA7 qA2))) (fun _ _=>rfl)) qA2)))) (qA5 (qBR (qCI PySem.F.plainAttrs_list PySem.F.slot_list_append PySem.F.type_list_append qBQ (pv 3) (qA0 (qAK qAV rfl qB5 qBD (qA0 (qBN qCV (pv 2) (qCR (qAR qEP (qAA qA9 rfl qAP qAO (qA0 (pv 2) qA2)) (pv 5))) qCS) qA2)) qA2))) (qA6 (qAG (i:=2) sc_Ltree_net.nd rfl (Or.inl rfl) (qAR qHO (qBN qCV (pv 2) qCS (qCR (qAR qEP (qAA qA9 rfl qAP qAO (qA0 (pv 2) qA2)) (pv 5)))) (qB8 (qA0 (pv 4) qA2)))))))) (qA6 (qAF (qAK qAV rfl qB5 qBD (qA0 (qAR qHO (pv 3) (qB8 (qA0 (qAK qAV rfl qB5 qBD (qA0 (pv 2) qA2)) qA2))) qA2))))))),?_⟩
 try dsimp only [Cx.nox,Cx.wish,cxOf]
 refine cut fun N0 ag=>?_;refine ⟨(by show 0<=sizeLine;decide),fun o0 a5=>?_⟩
 refine ag _ _ (cut fun N1 av=>?_);have S1:=S.new a5 (.lst []);refine ⟨(by show 0<=sizeLine;decide),fun j y=>?_⟩
 have S2:=S1.new y (.lst []);have nd:j ≠ d:=(qA4 S1.dict y).symm;have nc:j ≠ c:=(qA4 S1.list y).symm;have ab:o0 ≠ j:=qA4 qA1 y;have hF:H j=none:=(qA3 a5 _).free y;refine av _ _ (cut fun N2 ao=>?_);refine ⟨_,rfl,_,_,rfl,rfl,m - 1,rfl,by lia,by lia,qFM (lo:=0) (n:=(m - 1).toNat) (fun i σ Hc=>∃ (t':Int) (ms os:List Int) (o:Addr) (rs:List Addr) (net:List (List Int)) (v1 v2:Option V),σ=[some (.ref d),some (.int m),some (.ref o),some (.ref j),v1,v2]/\StAt Hc d c t' ms/\t<=t'/\t'<=t+i/\Keep d c H Hc/\
  Hc o=some (.lst (os.map V.int))/\(o ≠ j/\o ≠ c)/\Hc j=some (.lst (rs.map V.ref))/\NetL Hc rs net/\net.length=i/\WFn net/\Rise (i:Int) os)
  ⟨t,ns,[],o0,[],[],none,none,rfl,S2,by lia,by lia,(qCA a5 _).trans (qCA y _),by rw [qA8 ab];exact qA1,⟨ab,(qA4 S.list a5).symm⟩,qA1,.nil,rfl,WFn.nil,Rise.nil⟩ ?_ ?_⟩
 ·refine fun i σ Hc hi ac=>opq fun ax a9=>?_;obtain ⟨t',ms,os,o,rs,net,v1,v2,rfl,S3,a1,a2,K3,h3,⟨n3,ae⟩,f3,N3,l3,w3,r3⟩:=ac;refine a9 ?_;have b4:os.length<=i:=r3.len;refine nmD fun D1 d1 dr=>cut fun M0 aj=>?_;refine ⟨_,rfl,o,_,rfl,.inl (SqL.of h3),(by show 6<=sizeLine;decide),fun p hp=>?_⟩
  have S4:=S3.new hp (.lst [.int 0,.int 0,.int 1,.int 2,.int 2,.int 3]);have au:p ≠ d:=(qA4 S3.dict hp).symm;have aq:p ≠ c:=(qA4 S3.list hp).symm;refine ⟨_,rfl,d,c,t',ms,6,rfl,S4,(by show t'<=1000000000;lia),by decide,by decide,fun k2 ad H2 g0 g6 S5 K5=>?_⟩
  obtain ⟨v,hv,v0,v3⟩:=qeN g0 g6;refine ⟨p,_,_,_,rfl,rfl,SqL.of (K5 _ _ qA1 au aq),hv,?_⟩;have sm:Same Hc (Af Hc p (.lst [.int 0,.int 0,.int 1,.int 2,.int 2,.int 3])):=qA3 hp _;have K6:=(Keep.of_same (d:=d) (c:=c) sm).trans K5;have aw:o ≠ d:=qDZ h3 S3.dict (by intro z;cases z)
  have h6:H2 o=some (.lst (os.map V.int)):=K6 _ _ h3 aw ae;have f6:H2 j=some (.lst (rs.map V.ref)):=K6 _ _ f3 nd nc;have N6:NetL H2 rs net:=N3.keep (fun r zs e=>S3.tup e) K6;refine ⟨_,_,rfl,?_⟩;dsimp only;have ai:0<=(if v<(((os.map V.int).length:Nat):Int) then v else (((os.map V.int).length:Nat):Int)):=by split <;> lia
  have af:(if v<(((os.map V.int).length:Nat):Int) then v else (((os.map V.int).length:Nat):Int))<=(os.length:Int):=by rw [List.length_map];split <;> lia
  generalize (if v<(((os.map V.int).length:Nat):Int) then v else (((os.map V.int).length:Nat):Int))=so at ai af
  obtain ⟨g,ek⟩:∃ g:Nat,(os.length:Int) - so=(g:Int):=⟨((os.length:Int) - so).toNat,by lia⟩
  have a8:(((os.map V.int).length:Nat):Int) - so=(g:Int):=by rw [List.length_map];exact ek
  have ah:g<=os.length:=by lia
  -- found.append(tuple(open_ones[len(open_ones) - so_many:]))
  refine aj _ _ (cut fun M1 al=>?_);refine ⟨_,rfl,.inl ⟨rfl,_,SqL.of f6⟩,_,rfl,_,rfl,o,_,rfl,.inl (SqL.of h6),_,rfl,_,_,rfl,rfl,_,rfl,o,_,rfl,SqL.of h6,fun p1 as=>?_⟩;refine ⟨p1,_,rfl,.inl ⟨SqL.of qA1,fun r a3=>?_⟩⟩;rw [a8,qG6,qLM _ _ ah] at a3 ⊢;have l:=(qA3 as (.lst ((os.drop g).map V.int))).trans (qA3 a3 (.tup ((os.drop g).map V.int)));have f7:=l _ _ f6;have h7:=l _ _ h6;have N7:NetL _ (rs++[r]) (net++[os.drop g]):=qE3 (N6.same fun r zs e=>l _ _ e) (show (Af (Af H2 p1 (.lst ((os.drop g).map V.int))) r (.tup ((os.drop g).map V.int))) r=some (.tup ((os.drop g).map V.int)) from qA1);have S7:=S5.same l;have K7:=K6.trans (.of_same l);generalize (Af (Af H2 p1 (.lst ((os.drop g).map V.int))) r (.tup ((os.drop g).map V.int)))=H7 at f7 h7 N7 S7 K7 ⊢;refine ⟨j,_,_,rfl,rfl,f7,qBK (by rw [List.length_map,NetAt.len N3];lia),?_⟩
  have e8:rs.map V.ref++[V.ref r]=(rs++[r]).map V.ref:=by rw [List.map_append];rfl
  rw [e8];have S8:StAt (Af H7 j (.lst ((rs++[r]).map V.ref))) d c (t'+1) ad:=⟨by rw [qA8 (Ne.symm nd)];exact S7.dict,by rw [qA8 (Ne.symm nc)];exact S7.list,S7.ne,S7.len,S7.pos⟩
  have h8:(Af H7 j (.lst ((rs++[r]).map V.ref))) o=some (.lst (os.map V.int)):=by rw [qA8 n3];exact h7
  have N8:NetL (Af H7 j (.lst ((rs++[r]).map V.ref))) (rs++[r]) (net++[os.drop g]):=N7.same fun r' zs e=>by rw [qA8 (qDZ e f7 (by intro z;cases z))];exact e
  have K8:Keep d c H (Af H7 j (.lst ((rs++[r]).map V.ref))):=fun b u e n1 n2=>by rw [qA8 (qA4 e hF)];exact (K3.trans K7) b u e n1 n2
  have f8:(Af H7 j (.lst ((rs++[r]).map V.ref))) j=some (.lst ((rs++[r]).map V.ref)):=qA1;generalize Af H7 j (.lst ((rs++[r]).map V.ref))=H8 at S8 h8 N8 K8 f8 ⊢
  -- open_ones=open_ones[:len(open_ones) - so_many]+[k]
  refine al _ _ ?_;refine ⟨_,rfl,_,rfl,o,_,rfl,.inl (SqL.of h8),_,rfl,_,_,rfl,rfl,_,rfl,o,_,rfl,SqL.of h8,fun p2 a0=>?_⟩;rw [a8,qG6,qWG];refine ⟨_,rfl,(by show 1<=sizeLine;decide),fun p3 a4=>?_⟩
  have am:p2 ≠ p3:=qA4 qA1 a4;refine ⟨p2,p3,_,_,rfl,rfl,by rw [qA8 am];exact qA1,qA1,Nat.le_of_lt (qBK (by rw [List.length_map,List.length_take,List.length_singleton];lia)),fun p4 a6=>?_⟩
  have x:=((qA3 a0 (.lst ((os.take g).map V.int))).trans (qA3 a4 (.lst [.int (0+(i:Int))]))).trans (qA3 a6 (.lst ((os.take g).map V.int++[.int (0+(i:Int))])));have e9:(os.take g).map V.int++[V.int (0+(i:Int))]=(os.take g++[(i:Int)]).map V.int:=by rw [List.map_append,Int.zero_add];rfl
  have ak:p4 ≠ j:=(qA4 ((qA3 a4 _) _ _ ((qA3 a0 _) _ _ f8)) a6).symm;have ap:p4 ≠ c:=(qA4 ((qA3 a4 _) _ _ ((qA3 a0 _) _ _ S8.list)) a6).symm;refine d1 _ _ ⟨t'+1,ad,os.take g++[(i:Int)],p4,rs++[r],net++[os.drop g],_,_,rfl,S8.same x,by lia,by lia,K8.trans (.of_same x),by rw [<- e9];exact qA1,⟨ak,ap⟩,x _ _ f8,N8.same fun r' zs e=>x _ _ e,by rw [List.length_append,List.length_singleton,l3],w3.snoc ?_,?_⟩
  ·rw [l3];exact r3.sub (List.drop_sublist _ _)
  ·have:=(r3.sub (List.take_sublist g os)).snoc (by lia)
   rw [show ((i+1:Nat):Int)=(i:Int)+1 by lia]
   exact this
 ·refine fun σ Hc aa=>opq fun b2 a7=>?_;obtain ⟨t',ms,os,o,rs,net,v1,v2,rfl,S3,a1,a2,K3,h3,⟨n3,ae⟩,f3,N3,l3,w3,r3⟩:=aa;refine a7 ?_;refine ao _ _ ?_;refine ⟨_,rfl,_,rfl,o,_,rfl,.inl ⟨SqL.of h3,fun r a3=>?_⟩⟩;refine ⟨(by show 1<=sizeLine;decide),fun p hp=>?_⟩
  have l:=(qA3 a3 (.tup (os.map V.int))).trans (qA3 hp (.lst [.ref r]));refine ⟨j,p,_,_,rfl,rfl,l _ _ f3,qA1,Nat.le_of_lt (qBK (by rw [List.length_map,NetAt.len N3,List.length_singleton];lia)),fun p2 a0=>?_⟩
  refine ⟨p2,_,rfl,.inl ⟨SqL.of qA1,fun a ha=>?_⟩⟩;have x:=(l.trans (qA3 a0 (.lst (rs.map V.ref++[.ref r])))).trans (qA3 ha (.tup (rs.map V.ref++[.ref r])));have gr:=(qA3 ha (.tup (rs.map V.ref++[.ref r]))) _ _ ((qA3 a0 (.lst (rs.map V.ref++[.ref r]))) _ _ ((qA3 hp (.lst [.ref r])) r _ (qA1 (H:=Hc) (o:=.tup (os.map V.int)))));have e8:rs.map V.ref++[V.ref r]=(rs++[r]).map V.ref:=by rw [List.map_append];rfl
  refine q a (net++[os]) t' ms _ (S3.same x) (by lia) (by lia) (K3.trans (.of_same x)) ⟨rs++[r],by rw [<- e8];exact qA1,qE3 (N3.same fun r' zs e=>x _ _ e) gr⟩ (w3.snoc (by rw [l3];exact r3)) ?_
  rw [List.length_append,List.length_singleton,l3]
  lia
theorem sc_Lnet:FnScope ["_law_state","_law_many","_law_way","_law_wide","_law_some","_law_half"] ["_law_state","_law_many"] (qAB qRP):=qC1
theorem ok_Lnet (F:Fun K "_law_net" "_law_net" qRP f fd) (qAL:Clb P w K mg base 1 qDV qDK "_law_take" ["_law_state","_law_many"] qG8)
  (bp:Clb P w K mg base 2 qF8 qM6 "_law_some_needs" ["_law_state","_law_k"] qQD)
  (cc:Clb P w K mg base 2 qH3 qPQ "_law_tree_net" ["_law_state","_law_many"] qYU)
  (qBL:mg "range" = none) (c6:mg "max" = none) (br:mg "int" = none) (qD2:mg "enumerate" = none) (qB5:mg "tuple" = none) (cg:mg "sorted" = none) (ca:mg "set" = none):FnOk P w K mg base CX0 3 f fd ["_law_state","_law_many"] qcN:=by
 refine F.okA sc_Lnet fun d4 A cf s H vs Q E hr h=>?_;obtain ⟨d,c,t,ns,m,rfl,S,ht,c4,bv,q⟩:=h;have d2:t<=1000000000 - 10000:=ht;have d6:Room 2 _:=hr;have cx:Room 2 _:=hr;refine ⟨_,(qA5 (qAG (i:=2) sc_Lnet.nd rfl (Or.inl rfl) (qAQ qAL hr rfl (qA0 (pv 0) (qA0 qA7 qA2)))) (qA5 (qAG (i:=3) sc_Lnet.nd rfl (Or.inr rfl) (qAR qD8 qA7 (qAQ qAL hr rfl (qA0 (pv 0) (qA0 qA7 qA2))))) (qA5 (qAZ (qAD qC5 (pv 2) qA7 (qAH _)) (qA6 (qAF (qAK qAV rfl qB5 qBD (qA0 (qJ3 rfl (lcs (own:=["_law_k"]) (fv:=[3]) (by kernel_rfl)) (qC3 rfl qBL (qA0 (pv 1) qA2)) (fun z1=>qF2 0) (fun z1=>qCQ) (fun z1=>(qAK (qMB rfl) rfl qB5 qBD (qA0 (qAK qWM rfl qBL qYK (qA0 (qAA (qPY rfl) rfl c6 qZO (qA0 qA7 (qA0 (qAR qEP (pv 0) (pv 1)) qA2))) (qA0 (pv 0) qA2))) qA2)))) qA2)))) qAJ) (qA5 (qAZ (qAD qC5 (pv 2) qA7 (qAH _)) (qA5 (qUS (i:=4) sc_Lnet.nd rfl rfl rfl (lcs (own:=["_law_k"]) (fv:=[3]) (by kernel_rfl)) (qC3 rfl qBL (qA0 (pv 1) qA2)) (fun z2=>qF2 0) (fun z2=>qCQ) (fun z2=>(qAR qHO (qAR qZ5 (qB8 (qA0 (qAR qEP (pv 0) (pv 1)) qA2)) (qAK qQ0 rfl br qMW (qA0 (qBF qXV (pv 0) (pv 1) (qAH _)) qA2))) (qAR qZ5 (qB8 (qA0 (qAR qEP (pv 0) qA7) qA2)) (qAK qQ0 rfl br qMW (qA0 (qBF qNN (qAR qHL (pv 0) (pv 1)) qA7 (qAH _)) qA2))))) (by kernel_rfl)) (qA6 (qAF (qAK qAV rfl qB5 qBD (qA0 (qJ3 rfl (lcs (own:=["_law_needs"]) (fv:=[]) (by kernel_rfl)) (qGM (pv 4)) (fun z3=>qF2 0) (fun z3=>qCQ) (fun z3=>(qAK (qLQ (K:=K) rfl) rfl qB5 qBD (qA0 (qAA (qPV (K:=K) (w:=w) rfl rfl rfl) rfl cg qIK (qA0 (qAK (qWK (K:=K) (w:=w) rfl rfl rfl) rfl ca qMV (qA0 (pv 0) qA2)) qA2)) qA2)))) qA2))))) qAJ) (qA5 (qAZ (qAD qC5 (pv 2) qA7 (qAH _)) (qA6 (qAF (qAQ cc hr rfl (qA0 (pv 0) (qA0 (pv 1) qA2))))) qAJ) (qA5 (qAZ (qAD qC5 (pv 2) qA7 (qAH _)) (qA5 (qAG (i:=5) sc_Lnet.nd rfl (Or.inr rfl) (qAR qNO (pv 1) qA7)) (qA5 (qUS (i:=4) sc_Lnet.nd rfl rfl rfl (lcs (own:=["_law_k"]) (fv:=[0,5]) (by kernel_rfl)) (qC3 rfl qBL (qA0 (pv 1) qA2)) (fun z4=>qF2 0) (fun z4=>qCQ) (fun z4=>(qAQ bp hr rfl (qA0 (pv 1) (qA0 (qF3 (qAD qNM (pv 0) (pv 2) (qAH _)) (pv 0) (qAR qEP (pv 0) (pv 2))) qA2)))) (by kernel_rfl)) (qA6 (qAF (qAK qAV rfl qB5 qBD (qA0 (qJ3 rfl (lcs (own:=["_law_k","_law_needs"]) (fv:=[5]) (by kernel_rfl)) (qQP rfl qD2 qFQ (qA0 (pv 4) qA2)) (fun z5=>qaO (K:=K) (n:=2) rfl rfl (qBU (qF2 0) (qBU (qF2 1) qGN)) rfl rfl) (fun z5=>qCQ) (fun z5=>(qF3 (qAD qNM (pv 0) (pv 2) (qAH _)) (pv 1) (qAK (qLQ (K:=K) rfl) rfl qB5 qBD (qA0 (qJ3 (X:=lcCx _ _ _ _ z5) rfl (lcs (own:=["_law_n"]) (fv:=[2]) (by kernel_rfl)) (qaN (K:=K) rfl (pv 1)) (fun z6=>qF2 0) (fun z6=>qCQ) (fun z6=>(qAR qD8 (pv 0) (pv 1)))) qA2))))) qA2)))))) qAJ) (qA6 (qAF (qAK qAV rfl qB5 qBD (qA0 (qJ3 rfl (lcs (own:=["_law_k"]) (fv:=[0]) (by kernel_rfl)) (qC3 rfl qBL (qA0 (pv 1) qA2)) (fun z7=>qF2 0) (fun z7=>qCQ) (fun z7=>(qAQ bp hr rfl (qA0 (pv 1) (qA0 (pv 0) qA2))))) qA2)))))))))),?_⟩
 try dsimp only [Cx.nox,Cx.wish,cxOf]
 refine cut fun N1 cj=>?_;refine ⟨_,rfl,d,c,t,ns,8,rfl,S,(by show t<=1000000000;lia),by decide,by decide,fun cw ch H1 w0 w8 S1 K1=>?_⟩
 refine cj _ _ (cut fun N2 cd=>?_);refine ⟨_,rfl,d,c,t+1,ch,4,rfl,S1,(by show t+1<=1000000000;lia),by decide,by decide,fun wd ac H2 cs cz S2 K2=>⟨_,_,rfl,rfl,?_⟩⟩
 dsimp only;have ae:=K1.trans K2;generalize hwide:(1:Int)+wd=g;have d7:1<=g:=by lia
 have d0:g<=4:=by lia
 refine cd _ _ (cut fun N3 cl=>?_);refine ⟨_,rfl,rfl,_,rfl,?_⟩;refine ite2 (fun _=>?_) (fun _=>?_)
 ·refine ⟨_,rfl,m,rfl,by lia,by lia,fun p hp=>?_⟩
  refine qG4 (p:=p) (lo:=0) (n:=m.toNat) (fun i σ Hc=>∃ (v:Option V) (rs:List Addr) (net:List (List Int)),σ=[v,some (.int g)]/\Same H2 Hc/\Hc p=some (.lst (rs.map V.ref))/\NetL Hc rs net/\net.length=i/\WFn net) ?_ ?_ ?_
  ·exact ⟨none,[],[],rfl,qA3 hp _,qA1,.nil,rfl,WFn.nil⟩
  ·refine fun i σ Hc hi b5=>opq fun cv be=>?_;obtain ⟨v,rs,net,rfl,sm,o,N,hl,wf⟩:=b5;refine be ?_;refine ⟨_,rfl,_,rfl,_,_,rfl,rfl,0,_,rfl,_,rfl,_,_,rfl,fun p1 bq=>?_⟩;refine ⟨p1,_,_,rfl,qA1,by split <;> lia,by split <;> lia,by lia,by lia,fun r a8=>?_⟩
   have c3:0<=(if (0+(i:Int)) - g > 0 then (0+(i:Int)) - g else 0):=by split <;> lia
   have bg:=qQL (hi:=0+(i:Int)) c3;dsimp only;rw [qQK];generalize qJY (if (0+(i:Int)) - g > 0 then (0+(i:Int)) - g else 0) (0+(i:Int))=l at bg ⊢
   generalize HO.rng (if (0+(i:Int)) - g > 0 then (0+(i:Int)) - g else 0) (0+(i:Int))=ho at bq a8 ⊢
   have u:=(qA3 bq ho).trans (qA3 a8 (.tup (l.map V.int)));have g1:=u _ _ o;refine ⟨_,g1,qBK (by rw [List.length_map,NetAt.len N];lia),?_⟩
   rw [qF6];refine ⟨_,rs++[r],net++[l],rfl,qFW (sm.trans u) hp,qA1,qG2 (qE3 (N.same fun r' ys e=>u _ _ e) qA1) g1,by rw [List.length_append,List.length_singleton,hl],wf.snoc ?_⟩
   rw [hl];exact bg.mono (by lia)
  ·refine fun σ Hc b4=>opq fun d1 bs=>?_;obtain ⟨v,rs,net,rfl,sm,o,N,hl,wf⟩:=b4;refine bs ?_;refine ⟨p,_,rfl,.inl ⟨SqL.of o,fun a ha=>?_⟩⟩;have u:=qA3 ha (.tup (rs.map V.ref));exact q a net (t+1+1) ac _ (S2.same (sm.trans u)) (by lia) (by lia) (ae.trans (.of_same (sm.trans u))) ⟨rs,qA1,N.same fun r ys e=>u _ _ e⟩ wf (by rw [hl];lia)
 refine cl _ _ (cut fun N4 bx=>?_);refine ⟨_,rfl,rfl,_,rfl,?_⟩;refine ite2 (fun _=>?_) (fun _=>?_)
 ·refine ⟨_,rfl,m,rfl,by lia,by lia,fun p hp=>?_⟩
  refine qG4 (p:=p) (lo:=0) (n:=m.toNat) (fun i σ Hc=>∃ (v:Option V) (rs:List Addr) (ls:List (List Int)),σ=[v,some (.int g)]/\Same H2 Hc/\Hc p=some (.lst (rs.map V.ref))/\Paired (fun r l=>r ≠ p/\Hc r=some (.lst (l.map V.int))) rs ls/\ls.length=i/\
   ∀ (j:Nat) l,ls[j]?=some l->l.length<=2/\∀ x ∈ l,0<=x/\x<(j:Int)) ?_ ?_ ?_
  ·exact ⟨none,[],[],rfl,qA3 hp _,qA1,.nil,rfl,fun j l e=>by simp at e⟩
  ·refine fun i σ Hc hi bn=>opq fun cu bd=>?_;obtain ⟨v,rs,ls,rfl,sm,o,N,hl,wf⟩:=bn;refine bd ?_;refine ⟨_,rfl,_,rfl,_,_,rfl,rfl,(by show 1<=sizeLine;decide),fun a1 ce=>?_⟩
   refine ⟨_,rfl,_,rfl,_,_,rfl,rfl,.inr ⟨_,rfl,?_⟩⟩;refine ⟨a1,_,_,rfl,rfl,qA1,by split <;> decide,by split <;> decide,?_,fun a2 bz=>?_⟩
   ·have:∀ b:Bool,[V.int (0+(i:Int) - g)].length * (if b=true then (1:Int) else 0).toNat<=sizeLine:=by intro b;cases b <;> simp [sizeLine_eq]
    exact this _
   dsimp only;rw [qcY];refine ⟨_,rfl,_,_,rfl,rfl,(by show 1<=sizeLine;decide),fun a3 bt=>?_⟩
   refine ⟨_,rfl,_,rfl,_,_,rfl,rfl,(by show 0<g;lia),_,_,rfl,rfl,.inr ⟨_,rfl,?_⟩⟩
   refine ⟨a3,_,_,rfl,rfl,qA1,by split <;> decide,by split <;> decide,?_,fun a4 bi=>?_⟩
   ·have:∀ b:Bool,[V.int (0+(i:Int) - 1)].length * (if b=true then (1:Int) else 0).toNat<=sizeLine:=by intro b;cases b <;> simp [sizeLine_eq]
    exact this _
   dsimp only;rw [qcY];have b1:∀ x ∈ (if decide (g<=0+(i:Int))=true then [0+(i:Int) - g] else []),0<=x/\x<(i:Int):=by
    intro x hx
    split at hx
    ·rename_i hd
     have:=of_decide_eq_true hd;rw [List.mem_singleton.mp hx];lia
    ·cases hx
   have b2:∀ x ∈ (if decide (0<(0+(i:Int)) % g)=true then [0+(i:Int) - 1] else []),0<=x/\x<(i:Int):=by
    intro x hx
    split at hx
    ·rename_i hd
     have bc:=of_decide_eq_true hd;have:(i:Int) ≠ 0:=by
      intro e;rw [e] at bc;simp at bc
     rw [List.mem_singleton.mp hx];lia
    ·cases hx
   have c1:(if decide (g<=0+(i:Int))=true then [0+(i:Int) - g] else []).length<=1:=by split <;> simp
   have c2:(if decide (0<(0+(i:Int)) % g)=true then [0+(i:Int) - 1] else []).length<=1:=by split <;> simp
   generalize (if decide (g<=0+(i:Int))=true then [0+(i:Int) - g] else [])=z1 at b1 c1 bt bi ⊢
   generalize (if decide (0<(0+(i:Int)) % g)=true then [0+(i:Int) - 1] else [])=z2 at b2 c2 ⊢
   have s2:=(qA3 bt (.lst [.int (0+(i:Int) - 1)])).trans (qA3 bi (.lst (z2.map V.int)));refine ⟨a2,a4,_,_,rfl,rfl,s2 _ _ qA1,qA1,Nat.le_of_lt (qBK (by rw [List.length_map,List.length_map];lia)),fun a5 bb=>?_⟩
   have u:=(qA3 ce (.lst [.int (0+(i:Int) - g)])).trans (qA3 bz (.lst (z1.map V.int)));have s3:=(u.trans s2).trans (qA3 bb (.lst (z1.map V.int++z2.map V.int)));have e5:z1.map V.int++z2.map V.int=(z1++z2).map V.int:=by rw [List.map_append]
   rw [e5] at s3 ⊢;have g1:=s3 _ _ o;have n5:a5 ≠ p:=(qA4 ((u.trans s2) _ _ o) bb).symm;refine ⟨_,g1,qBK (by rw [List.length_map,Paired.length N];lia),?_⟩
   rw [qF6];refine ⟨_,rs++[a5],ls++[z1++z2],rfl,qFW (sm.trans s3) hp,qA1,Paired.snoc (qBG N fun r l e=>⟨e.1,by rw [qA8 e.1];exact s3 _ _ e.2⟩) ⟨n5,by rw [qA8 n5];exact qA1⟩,by rw [List.length_append,List.length_singleton,hl],fun j l e=>?_⟩
   rcases qRO e with e | ⟨rfl,rfl⟩
   ·exact wf j l e
   ·rw [hl];refine ⟨by rw [List.length_append];lia,fun x hx=>?_⟩
    rcases List.mem_append.mp hx with hx | hx
    ·exact b1 x hx
    ·exact b2 x hx
  ·refine fun σ Hc bh=>opq fun d5 b7=>?_;obtain ⟨v,rs,ls,rfl,sm,o,N,hl,wf⟩:=bh;refine b7 ?_;refine ⟨_,rfl,p,rfl,⟨_,SqL.of o⟩,fun p' ab=>?_⟩;refine qLC (p:=p') (a:=p) (xs:=rs.map V.ref) (fun i σ Hd=>∃ (v:Option V) (rs':List Addr) (net:List (List Int)),σ=[v]/\Same Hc Hd/\Hd p'=some (.lst (rs'.map V.ref))/\NetL Hd rs' net/\net.length=i/\WFn net) ?_ ?_ ?_ ?_
   ·exact ⟨none,[],[],rfl,qA3 ab _,qA1,.nil,rfl,WFn.nil⟩
   ·rintro i σ Hd hi ⟨v,rs',net,rfl,sm2,_⟩;exact SqL.of (sm2 _ _ o)
   ·refine fun i x σ Hd hx b9=>opq fun d3 b6=>?_;obtain ⟨v,rs',net,rfl,sm2,aa,N2,a0,a9⟩:=b9;obtain ⟨r,a8,rfl⟩:=qVT hx;obtain ⟨l,hz,_,ar⟩:=qJ7 N a8;obtain ⟨l2,m2⟩:=wf i l hz;refine b6 ?_;refine ⟨_,rfl,r,l,rfl,SqL.of (sm2 _ _ ar),by lia,fun a ha=>?_⟩
    refine ⟨a,dedI l,rfl,.inr (.inr qA1),Nat.lt_of_le_of_lt (qIC l) (by lia),fun b ys hb c9 hs=>?_⟩
    refine ⟨b,_,rfl,.inl ⟨SqL.of qA1,fun r2 ax=>?_⟩⟩;have u:=((qA3 ha (SetO w a (dedI l))).trans (qA3 hb (.lst (ys.map V.int)))).trans (qA3 ax (.tup (ys.map V.int)));have g1:=u _ _ aa;have c5:rs.length=m.toNat:=by rw [Paired.length N,hl]
    have hi:i<rs.length:=(List.getElem?_eq_some_iff.mp a8).1;refine ⟨_,g1,qBK (by rw [List.length_map,NetAt.len N2];lia),?_⟩
    rw [qF6];refine ⟨_,rs'++[r2],net++[ys],rfl,qFW (sm2.trans u) ab,qA1,qG2 (qE3 (N2.same fun r' bk e=>u _ _ e) qA1) g1,by rw [List.length_append,List.length_singleton,a0],a9.snoc ?_⟩
    rw [a0];exact qNH c9 hs m2
   ·refine fun σ Hd bu=>opq fun cy ba=>?_;obtain ⟨v,rs',net,rfl,sm2,aa,N2,a0,a9⟩:=bu;refine ba ?_;refine ⟨p',_,rfl,.inl ⟨SqL.of aa,fun a ha=>?_⟩⟩;have u:=qA3 ha (.tup (rs'.map V.ref));refine q a net (t+1+1) ac _ (S2.same ((sm.trans sm2).trans u)) (by lia) (by lia) (ae.trans (.of_same ((sm.trans sm2).trans u))) ⟨rs',qA1,N2.same fun r ys e=>u _ _ e⟩ a9 ?_
    rw [a0,List.length_map,Paired.length N,hl]
    lia
 refine bx _ _ (cut fun N5 c8=>?_);refine ⟨_,rfl,rfl,_,rfl,?_⟩;refine ite2 (fun _=>?_) (fun _=>?_)
 ·refine ⟨_,rfl,_,rfl,d,c,t+1+1,ac,m,rfl,S2,?_,c4,bv,fun a net t' ms H' a1 a2 a3 a4 a5 a6 a7=>?_⟩
  ·show t+1+1<=1000000000 - 1000;lia
  ·exact q a net t' ms H' a1 (by lia) (by lia) (ae.trans a4) a5 a6 a7
 refine c8 _ _ (cut fun N6 cb=>?_);refine ⟨_,rfl,rfl,_,rfl,?_⟩;refine ite2 (fun _=>?_) (fun _=>?_)
 ·refine ⟨_,rfl,_,_,rfl,rfl,⟨by decide,by decide⟩,?_⟩
  dsimp only;have bl:0<=m / 2:=by lia
  have c0:m / 2<=m:=by lia
  generalize m / 2=k at bl c0;refine ⟨_,rfl,m,rfl,by lia,by lia,fun p hp=>?_⟩
  refine qG4 (p:=p) (lo:=0) (n:=m.toNat) (fun i σ Hc=>∃ (v:Option V) (t':Int) (ms:List Int) (rs:List Addr) (net:List (List Int)),σ=[v,some (.ref d),some (.int k)]/\StAt Hc d c t' ms/\t+2<=t'/\t'<=t+2+9 * i/\Keep d c H2 Hc/\Hc p=some (.lst (rs.map V.ref))/\NetL Hc rs net/\net.length=i/\
   ∀ (j:Nat) l,net[j]?=some l->Rise (if (j:Int)<k then (j:Int) else (j:Int) - k) l) ?_ ?_ ?_
  ·exact ⟨none,t+1+1,ac,[],[],rfl,S2.new hp _,by lia,by lia,qCA hp _,qA1,.nil,rfl,fun j l e=>by simp at e⟩
  ·refine fun i σ Hc hi bo=>opq fun ct bm=>?_;obtain ⟨v,t',ms,rs,net,rfl,S3,b1,b2,k3,o,N,hl,wf⟩:=bo;refine bm ?_;have ag:p ≠ d:=(qA4 S2.dict hp).symm;have af:p ≠ c:=(qA4 S2.list hp).symm;have nx:∀ (kk:Int),kk=(if (i:Int)<k then (i:Int) else (i:Int) - k)->qQD [.ref d,.int kk] Hc (fun y H4=>∃ ys,H4 p=some (.lst ys)/\ys.length<sizeLine/\∃ (v:Option V) (t':Int) (ms:List Int) (rs:List Addr) (net:List (List Int)),[some (V.int (0+(i:Int))),some (.ref d),some (.int k)]=[v,some (.ref d),some (.int k)]/\StAt (Af H4 p (.lst (ys++[y]))) d c t' ms/\t+2<=t'/\t'<=t+2+9 * (i+1:Nat)/\Keep d c H2 (Af H4 p (.lst (ys++[y])))/\(Af H4 p (.lst (ys++[y]))) p=some (.lst (rs.map V.ref))/\NetL (Af H4 p (.lst (ys++[y]))) rs net/\net.length=i+1/\
     ∀ (j:Nat) l,net[j]?=some l->Rise (if (j:Int)<k then (j:Int) else (j:Int) - k) l) E0:=by
    intro kk ek;refine ⟨d,c,t',ms,kk,rfl,S3,(by show t'<=1000000000 - 20;lia),by rw [ek];split <;> lia,by rw [ek];split <;> lia,fun r l aq az H3 e1 e2 e3 e4 e5 e6=>?_⟩
    have g1:=e4 _ _ o ag af;refine ⟨_,g1,qBK (by rw [List.length_map,NetAt.len N];lia),?_⟩
    rw [qF6];refine ⟨_,aq,az,rs++[r],net++[l],rfl,⟨by rw [qA8 (Ne.symm ag)];exact e1.dict,by rw [qA8 (Ne.symm af)];exact e1.list,e1.ne,e1.len,e1.pos⟩,by lia,by lia,qS9 (k3.trans e4) hp,qA1,qG2 (qE3 (N.keep (fun r ys e=>S3.tup e) e4) e5) g1,by rw [List.length_append,List.length_singleton,hl],fun j ys e=>?_⟩
    rcases qRO e with e | ⟨rfl,rfl⟩
    ·exact wf j ys e
    ·rw [hl,<- ek];exact e6
   refine ⟨_,rfl,_,rfl,_,rfl,_,_,rfl,rfl,_,rfl,?_⟩;refine ite2 (fun ck=>?_) (fun ck=>?_)
   ·have ad:0+(i:Int)<k:=of_decide_eq_true ck;exact ⟨_,rfl,nx _ (by rw [if_pos (by lia)];lia)⟩
   ·have ad:¬ 0+(i:Int)<k:=of_decide_eq_false (Bool.eq_false_iff.mpr ck);exact ⟨_,rfl,_,rfl,_,_,rfl,rfl,nx _ (by rw [if_neg (by lia)];lia)⟩
  ·refine fun σ Hc bj=>opq fun d8 b8=>?_;obtain ⟨v,t',ms,rs,net,rfl,S3,b1,b2,k3,o,N,hl,wf⟩:=bj;refine b8 ?_;have c5:rs.length=m.toNat:=by rw [Paired.length N,hl]
   refine ⟨_,rfl,p,rfl,⟨_,SqL.of o⟩,fun p' ab=>?_⟩;refine qbA (p:=p') (a:=p) (xs:=rs.map V.ref) (fun i σ Hd=>∃ (v1 v2:Option V) (rs':List Addr) (net':List (List Int)),σ=[v1,v2,some (.int k)]/\Same Hc Hd/\Hd p'=some (.lst (rs'.map V.ref))/\NetL Hd rs' net'/\net'.length=i/\WFn net') ?_ ?_ ?_ ?_
   ·exact ⟨none,none,[],[],rfl,qA3 ab _,qA1,.nil,rfl,WFn.nil⟩
   ·rintro i σ Hd hi ⟨v1,v2,rs',net',rfl,sm2,_⟩;exact SqL.of (sm2 _ _ o)
   ·refine fun i x σ Hd T hx an hT=>opq fun co am=>?_;obtain ⟨v1,v2,rs',net',rfl,sm2,aa,N2,a0,a9⟩:=an;obtain ⟨r,a8,rfl⟩:=qVT hx;obtain ⟨l,hz,ar⟩:=qJ7 N a8;refine am ?_;have hi:i<rs.length:=(List.getElem?_eq_some_iff.mp a8).1;have rz:=wf i l hz;have sT:=qA3 hT (.tup [.int (i:Int),.ref r]);have ai:=sT _ _ (sm2 _ _ ar);have aj:=sT _ _ aa;have NT:=N2.same fun r' bk e=>sT _ _ e;have ay:=sm2.trans sT;have gT:SqT K (Af Hd T (.tup [.int (i:Int),.ref r])) T [.int (i:Int),.ref r]:=SqT.of qA1;generalize Af Hd T (.tup [.int (i:Int),.ref r])=c7 at ai aj NT ay gT ⊢;refine ⟨T,_,rfl,gT,rfl,_,_,rfl,_,_,rfl,rfl,?_⟩;refine ⟨_,rfl,_,rfl,_,_,rfl,rfl,_,rfl,?_⟩;refine ite2 (fun ck=>?_) (fun ck=>?_)
    ·have ad:(i:Int)<k:=of_decide_eq_true ck;rw [if_pos ad] at rz;refine ⟨_,rfl,_,aj,qBK (by rw [List.length_map,NetAt.len N2];lia),?_⟩
     rw [qF6];refine ⟨_,_,rs'++[r],net'++[l],rfl,qFW ay ab,qA1,qG2 (qE3 NT ai) aj,by rw [List.length_append,List.length_singleton,a0],a9.snoc ?_⟩
     rw [a0];exact rz
    ·have ad:¬ (i:Int)<k:=of_decide_eq_false (Bool.eq_false_iff.mpr ck);rw [if_neg ad] at rz;have lz:l.length<=i:=by
      have e:((i:Int) - k)=(((i:Int) - k).toNat:Nat):=by lia
      rw [e] at rz;have:=rz.len
      lia
     refine ⟨_,rfl,r,rfl,⟨_,SqT.of ai⟩,fun p2 bf=>?_⟩;refine qZA (p:=p2) (a:=r) (xs:=l.map V.int) (fun j σ He=>∃ (v:Option V),σ=[v,some (.int k)]/\Same c7 He/\He p2=some (.lst (((l.take j).map (·+k)).map V.int))) ?_ ?_ ?_ ?_
     ·exact ⟨none,rfl,qA3 bf _,qA1⟩
     ·rintro j σ He hj ⟨v,rfl,sm3,_⟩;exact SqT.of (sm3 _ _ ai)
     ·refine fun j x σ He bw au=>opq fun cp al=>?_;obtain ⟨v,rfl,sm3,ah⟩:=au;obtain ⟨z,ci,rfl⟩:=qbF bw;refine al ?_;refine ⟨_,rfl,_,rfl,_,_,rfl,rfl,_,ah,qBK (by rw [List.length_map,List.length_map,List.length_take];lia),_,rfl,qFW sm3 bf,?_⟩
      rw [qA1,List.take_add_one,ci,Option.toList_some,List.map_append,List.map_append]
      rfl
     ·refine fun σ He as=>opq fun cq ao=>?_;obtain ⟨v,rfl,sm3,ah⟩:=as;refine ao ?_;rw [List.length_map,List.take_of_length_le (Nat.le_refl _)] at ah;refine ⟨p2,_,rfl,.inl ⟨SqL.of ah,fun r2 ax=>?_⟩⟩;have u:=qA3 ax (.tup ((l.map (·+k)).map V.int));have s2:=sm3.trans u;have g1:=s2 _ _ aj;refine ⟨_,g1,qBK (by rw [List.length_map,NetAt.len N2];lia),?_⟩
      rw [qF6];refine ⟨_,_,rs'++[r2],net'++[l.map (·+k)],rfl,qFW (ay.trans s2) ab,qA1,qG2 (qE3 (NT.same fun r' bk e=>s2 _ _ e) qA1) g1,by rw [List.length_append,List.length_singleton,a0],a9.snoc ?_⟩
      rw [a0];have:=rz.shift bl;rw [show (i:Int) - k+k=(i:Int) by lia] at this
      exact this
   ·refine fun σ Hd av=>opq fun cn b3=>?_;obtain ⟨v1,v2,rs',net',rfl,sm2,aa,N2,a0,a9⟩:=av;refine b3 ?_;refine ⟨p',_,rfl,.inl ⟨SqL.of aa,fun a ha=>?_⟩⟩;have u:=qA3 ha (.tup (rs'.map V.ref));refine q a net' t' ms _ (S3.same (sm2.trans u)) (by lia) (by lia) (ae.trans (k3.trans (.of_same (sm2.trans u)))) ⟨rs',qA1,N2.same fun r ys e=>u _ _ e⟩ a9 ?_
    rw [a0,List.length_map,Paired.length N,hl]
    lia
 refine cb _ _ ?_;refine ⟨_,rfl,m,rfl,by lia,by lia,fun p hp=>?_⟩
 refine qG4 (p:=p) (lo:=0) (n:=m.toNat) (fun i σ Hc=>∃ (v:Option V) (t':Int) (ms:List Int) (rs:List Addr) (net:List (List Int)),σ=[v,some (.ref d)]/\StAt Hc d c t' ms/\t+2<=t'/\t'<=t+2+9 * i/\Keep d c H2 Hc/\Hc p=some (.lst (rs.map V.ref))/\NetL Hc rs net/\net.length=i/\WFn net) ?_ ?_ ?_
 ·exact ⟨none,t+1+1,ac,[],[],rfl,S2.new hp _,by lia,by lia,qCA hp _,qA1,.nil,rfl,WFn.nil⟩
 ·refine fun i σ Hc hi ak=>opq fun cr aw=>?_;obtain ⟨v,t',ms,rs,net,rfl,S3,b1,b2,k3,o,N,hl,wf⟩:=ak;refine aw ?_;have ag:p ≠ d:=(qA4 S2.dict hp).symm;have af:p ≠ c:=(qA4 S2.list hp).symm;refine ⟨_,rfl,_,rfl,d,c,t',ms,0+(i:Int),rfl,S3,(by show t'<=1000000000 - 20;lia),by lia,by lia,fun r l aq az H3 e1 e2 e3 e4 e5 e6=>?_⟩
  have g1:=e4 _ _ o ag af;refine ⟨_,g1,qBK (by rw [List.length_map,NetAt.len N];lia),?_⟩
  rw [qF6];refine ⟨_,aq,az,rs++[r],net++[l],rfl,⟨by rw [qA8 (Ne.symm ag)];exact e1.dict,by rw [qA8 (Ne.symm af)];exact e1.list,e1.ne,e1.len,e1.pos⟩,by lia,by lia,qS9 (k3.trans e4) hp,qA1,qG2 (qE3 (N.keep (fun r ys e=>S3.tup e) e4) e5) g1,by rw [List.length_append,List.length_singleton,hl],wf.snoc ?_⟩
  rw [hl];exact e6.mono (by lia)
 ·refine fun σ Hc b0=>opq fun cm ap=>?_;obtain ⟨v,t',ms,rs,net,rfl,S3,b1,b2,k3,o,N,hl,wf⟩:=b0;refine ap ?_;refine ⟨p,_,rfl,.inl ⟨SqL.of o,fun a ha=>?_⟩⟩;have u:=qA3 ha (.tup (rs.map V.ref));exact q a net t' ms _ (S3.same u) (by lia) (by lia) (ae.trans (k3.trans (.of_same u))) ⟨rs,qA1,N.same fun r ys e=>u _ _ e⟩ wf (by rw [hl];lia)
theorem qXG:FnScope ["_law_found","_law_due"] ["_law_found","_law_due"] (qAB qNE):=qC1
theorem ok_Lsame (F:Fun K "_law_same" "_law_same" qNE f fd) (a:mg "isinstance" = none) (d:mg "list" = none) (qB5:mg "tuple" = none) (b:mg "str" = none) (g:mg "int" = none) (c:mg "bool" = none):FnOk P w K mg base CX0 1 f fd ["_law_found","_law_due"] qUB:=by
 refine F.okA qXG fun k A i s H l Q E m h=>?_;obtain ⟨o,rfl,q⟩:=h;refine ⟨_,(qA5 (qAZ (qFH (qHK (pv 1))) (qA6 (qAF (qZ4 (qHK (pv 0))))) qAJ) (qA5 (qAZ (PW.pt (qF1 (qD4 (qAA qC7 rfl a qB2 (qA0 (pv 1) (qA0 (qF4 (v:=.ty "list") rfl d qOD rfl) qA2)))) (qEL (qD4 (qAA qC7 rfl a qB2 (qA0 (pv 1) (qA0 (qF4 (v:=.ty "tuple") rfl qB5 qBD rfl) qA2))))))) qUR qAJ) (qA5 (qAZ (qD4 (qAA qC7 rfl a qB2 (qA0 (pv 1) (qA0 (qF4 (v:=.ty "str") rfl b qSO rfl) qA2)))) (qA6 (qAF (qD7 (qAA qC7 rfl a qB2 (qA0 (pv 0) (qA0 (qF4 (v:=.ty "str") rfl b qSO rfl) qA2))) (qEN (qBF qC5 (pv 0) (pv 1) (qAH _)))))) qAJ) (qA6 (qAF (qD7 (qAA qC7 rfl a qB2 (qA0 (pv 0) (qA0 (qF4 (v:=.ty "int") rfl g qMW rfl) qA2))) (qD7 (qd3 (qAA qC7 rfl a qB2 (qA0 (pv 0) (qA0 (qF4 (v:=.ty "bool") rfl c qbR rfl) qA2)))) (qEN (qBF qC5 (pv 0) (pv 1) (qAH _)))))))))),?_⟩
 try dsimp only [Cx.nox,Cx.wish,cxOf]
 cases o with
 | none=>exact ⟨_,rfl,_,rfl,iteT ⟨_,rfl,q H (Same.refl H)⟩⟩
 | some n=>
  refine ⟨_,rfl,_,rfl,?_⟩;refine ⟨_,rfl,_,"list",_,false,rfl,TyOf.int (n:Int),qdJ,_,rfl,?_⟩;refine ⟨_,rfl,_,"tuple",_,false,rfl,TyOf.int (n:Int),qS7,_,rfl,?_⟩;refine ⟨_,rfl,_,"str",_,false,rfl,TyOf.int (n:Int),qdI,_,rfl,?_⟩;refine ⟨_,rfl,_,"int",_,true,rfl,TyOf.int (n:Int),qdK,_,rfl,?_⟩;refine ⟨_,rfl,_,"bool",_,false,rfl,TyOf.int (n:Int),qdL,_,rfl,_,rfl,?_⟩;refine ⟨_,rfl,_,rfl,rfl,?_⟩;have e:decide (V.int (n:Int)=V.int (n:Int))=true:=decide_eq_true rfl;have j:Q (.bl (decide (V.int (n:Int)=V.int (n:Int)))) H:=by rw [e];exact q H (Same.refl H)
  exact j
theorem qSW:FnScope ["word"] ["word"] (qAB qHF):=qC1
theorem ok_is_name (F:Fun K "is_name" "is_name" qHF f fd) (d:mg "MOST_LETTERS" = some (.int 8 tk_MOST_LETTERS)) (qAP:mg "len" = none) (qON:mg "all" = none):FnOk P w K mg base CX0 1 f fd ["word"] qYY:=by
 refine F.okA qSW fun a1 A r s H vs Q E hr h=>?_;obtain ⟨x,rfl,hx,q⟩:=h;refine ⟨_,(qA6 (qAF (qD7 (qBF qQR (qAA qDA rfl qAP qAO (qA0 (pv 0) qA2)) (qCH (v:=.int (8)) rfl d ⟨_,rfl⟩) (qAH _)) (qEN (qAA (qKM rfl) rfl qON qSP (qA0 (qJ3 rfl (lcs (own:=["sign"]) (fv:=[]) (by kernel_rfl)) (qRT (pv 0)) (fun z1=>qF2 0) (fun z1=>qCQ) (fun z1=>(qKI qHM qHM qAC (pv 0) qAC))) qA2)))))),?_⟩
 try dsimp only [Cx.nox,Cx.wish,cxOf]
 have hs:=sizeLine_eq;refine ⟨_,rfl,_,rfl,by lia,_,_,rfl,rfl,_,rfl,?_⟩
 refine ite2 (fun c=>?_) fun c=>?_
 ·have c':x.length<=8:=by have:=of_decide_eq_true c;lia
  refine ⟨_,rfl,x,rfl,fun p hp=>qS5 (fun i σ g=>∃ v,σ=[v]/\Same H g/\g p=some (.lst (((x.cps.toList.take i).map (qB4 97 122)).map V.bl))) ⟨none,rfl,qA3 hp _,qA1⟩ ?_ ?_⟩
  ·refine fun i c σ g ec m=>opq fun a2 n=>?_;obtain ⟨v,rfl,y,j⟩:=m;refine n ?_;refine ⟨_,rfl,_,_,rfl,rfl,_,rfl,?_⟩;have l1:=qNT (a:=97) (b:=c);have l2:=qNT (a:=c) (b:=122);have k:∀ b,b=qB4 97 122 c->∃ ys,g p=some (.lst ys)/\ys.length<sizeLine/\∃ v,[some (V.str ⟨#[c]⟩)]=[v]/\Same H (Af g p (.lst (ys++[V.bl b])))/\(Af g p (.lst (ys++[V.bl b]))) p=some (.lst (((x.cps.toList.take (i+1)).map (qB4 97 122)).map V.bl)):=fun b e=>⟨_,j,by have:=qOZ (z:=x) (lo:=97) (hi:=122) (i:=i);lia,_,rfl,fun b u e=>by rw [qA8 (qA4 e hp)];exact y b u e,by rw [qA1,e,qMF ec]⟩
   rw [show (Str.ofString "a").cps.toList=[97] by decide,show (⟨#[c]⟩:Str).cps.toList=[c] from rfl,l1]
   refine ite2 (fun t=>?_) fun t=>?_
   ·refine ⟨_,_,rfl,rfl,?_⟩;rw [show (Str.ofString "z").cps.toList=[122] by decide,show (⟨#[c]⟩:Str).cps.toList=[c] from rfl,l2]
    exact k _ (by unfold qB4;rw [t,Bool.true_and])
   ·exact k _ (by unfold qB4;rw [Bool.eq_false_iff.mpr t,Bool.false_and])
  ·refine fun σ g l=>opq fun a0 o=>?_;obtain ⟨v,rfl,y,j⟩:=l;refine o ?_;refine ⟨p,_,rfl,SqL.of j,?_⟩;rw [qP0];have:=q g y;unfold isNm at this;rw [decide_eq_true c',Bool.true_and] at this;exact this
 ·have:=q H (Same.refl H);unfold isNm at this;rw [decide_eq_false (by have:=of_decide_eq_false (Bool.eq_false_iff.mpr c);lia),Bool.false_and] at this
  exact this
theorem qQG:FnScope ["word"] ["word"] (qAB qFX):=qC1
theorem ok_rooms_in (F:Fun K "rooms_in" "rooms_in" qFX f fd) (a:mg "MOST_ROOMS" = some (.int 99 tk_MOST_ROOMS)) (b:mg "int" = none):FnOk P w K mg base CX0 1 f fd ["word"] qUD:=by
 refine F.okA qQG fun o A i s H r Q E u h=>?_;obtain ⟨x,rfl,⟨y,p⟩,q⟩:=h;refine ⟨_,(qA5 (qAZ (PW.pt (qF1 (qEM (qD4 (qd4 PySem.F.plainAttrs_str PySem.F.slot_str_isdigit PySem.F.type_str_isdigit qT6 (pv 0)))) (qF1 (qAD qC5 (qBB qVK (pv 0) qA7 (fun _ _=>rfl)) qAC (qAH _)) (qEL (qAD qNN (qAK qLR rfl b qMW (qA0 (pv 0) qA2)) (qCH (v:=.int (99)) rfl a ⟨_,rfl⟩) (qAH _)))))) (qA6 (qAF qEO)) qAJ) (qA6 (qAF (qAK qLR rfl b qMW (qA0 (pv 0) qA2))))),?_⟩
 try dsimp only [Cx.nox,Cx.wish,cxOf]
 have t:=sizeLine_eq;unfold rmF at q;refine ⟨_,rfl,rfl,_,rfl,rfl,_,rfl,?_⟩;cases hi:Txt.isdigit x with
 | false=>
  rw [hi] at q;exact q
 | true=>
  obtain ⟨⟨n,k⟩,c,g⟩:=p hi;rw [hi,k] at q;have m:atI x.cps.toList 0=some c:=qAN (j:=0) (by rw [Array.getElem?_toList];exact g)
  refine ⟨_,rfl,_,_,_,rfl,rfl,by lia,m,rfl,_,rfl,?_⟩
  rw [qUK];refine ite2 (fun d=>?_) fun d=>?_
  ·have e:c=48:=of_decide_eq_true d;rw [if_neg (by rw [g,e];simp)] at q
   exact q
  ·have e:¬ c=48:=fun z=>d (decide_eq_true z);rw [if_pos ⟨rfl,by rw [g];exact fun z=>e (Option.some.inj z)⟩] at q
   refine ⟨_,rfl,_,_,rfl,k,by lia,_,_,rfl,rfl,_,rfl,?_⟩
   refine ite2 (fun l=>?_) fun l=>?_
   ·dsimp only at q;rw [if_pos (of_decide_eq_true l)] at q;exact q
   ·dsimp only at q;rw [if_neg (fun z=>l (decide_eq_true z))] at q;exact ⟨_,rfl,_,_,rfl,k,by lia,q⟩
theorem sc_works_named:FnScope ["words","numbers","works"] ["words","numbers"] (qAB qDG):=qC1
theorem ok_works_named (F:Fun K "works_named" "works_named" qDG f fd) (qAP:mg "len" = none) (a4:mg "set" = none) (qB5:mg "tuple" = none) (a3:mg "sorted" = none):FnOk P w K mg base CX0 1 f fd ["words","numbers"] qU8:=by
 refine F.okA sc_works_named fun a6 A a2 s H vs Q E hr h=>?_;obtain ⟨p,d,ws,j,rfl,hp,hd,l1,l2,q⟩:=h;have hu:=qVQ hr;refine ⟨_,(qA5 (qUS (i:=2) sc_works_named.nd rfl rfl rfl (lcs (own:=["word"]) (fv:=[1]) (by kernel_rfl)) (qGM (pv 0)) (fun z1=>qF2 0) (fun z1=>(qQN (qFH (qV3 hu (pv 0) (pv 1))))) (fun z1=>(qJ4 hu (pv 1) (pv 0) (fun _ _=>rfl))) (by kernel_rfl)) (qA5 (qAZ (PW.pt (qF1 (qAD qNM (qAA qA9 rfl qAP qAO (qA0 (pv 2) qA2)) (qAA qA9 rfl qAP qAO (qA0 (pv 0) qA2)) (qAH _)) (qEL (qAD qNM (qAA qWN rfl qAP qAO (qA0 (qAK (qWL rfl) rfl a4 qMV (qA0 (pv 2) qA2)) qA2)) (qAA qA9 rfl qAP qAO (qA0 (pv 2) qA2)) (qAH _))))) (qA6 (qAF qEO)) qAJ) (qA6 (qAF (qAK qAV rfl qB5 qBD (qA0 (qAA (qFA rfl) rfl a3 qIK (qA0 (pv 2) qA2)) qA2)))))),?_⟩
 try dsimp only [Cx.nox,Cx.wish,cxOf]
 have hs:=sizeLine_eq;refine cut fun N hN=>?_;refine ⟨_,rfl,p,rfl,⟨_,SqL.of hp⟩,fun l hl=>?_⟩;refine qLC (xs:=ws.map V.str) (fun i σ m=>∃ v,σ=[v,some (.ref d)]/\Same H m/\m l=some (.lst (((ws.take i).filterMap (nmF 0 j)).map V.int))) ⟨none,rfl,qA3 hl _,qA1⟩ ?_ ?_ ?_
 ·rintro i σ m _ ⟨v,rfl,sm,_⟩;exact SqL.of (sm _ _ hp)
 ·refine fun i x' σ m ex r=>opq fun a5 y=>?_;obtain ⟨v,rfl,sm,g⟩:=r;refine y ?_;rw [List.getElem?_map] at ex;obtain ⟨x,ey,rfl⟩:=Option.map_eq_some_iff.mp ex;have dg:DGet m d (.str x) (valV (numD 0 j) (Sum.inr x)):=DGet.k (k:=Sum.inr x) (sm _ _ hd);rw [qHT] at dg;have fs:=qbH (f:=nmF 0 j) ey;refine ⟨_,rfl,_,rfl,d,_,rfl,dg,_,rfl,?_⟩;cases en:nmF 0 j x with
  | none=>
   rw [en] at fs;exact ⟨_,rfl,sm,by rw [fs];simpa using g⟩
  | some n=>
   rw [en] at fs dg;refine ⟨_,rfl,_,rfl,d,_,rfl,dg,_,g,?_,_,rfl,fun b u e=>by rw [qA8 (qA4 e hl)];exact sm b u e,?_⟩
   ·have:=(qVV (f:=nmF 0 j) (ws:=ws.take i)).1;rw [List.length_take] at this;rw [List.length_map]
    lia
   ·rw [qA1,fs,List.map_append];rfl
 ·refine fun σ m a1=>opq fun a8 o=>?_;obtain ⟨v,rfl,sm,g⟩:=a1;refine o ?_;rw [List.length_map,List.take_of_length_le (Nat.le_refl _)] at g;refine hN _ _ ?_;clear hN;obtain ⟨f1,f2⟩:=qVV (f:=nmF 0 j) (ws:=ws);unfold wkF at q;refine ⟨_,rfl,l,_,rfl,.inl (SqL.of g),_,rfl,p,_,rfl,.inl (SqL.of (sm _ _ hp)),_,_,rfl,rfl,_,rfl,?_⟩;rw [List.length_map,List.length_map];refine ite2 (fun c=>?_) fun c=>?_
  ·have c':=of_decide_eq_true c;rw [if_neg fun z=>by have:=f2.mpr z.1;lia] at q
   exact q _ m sm rfl
  ·have c':¬ _:=fun z=>c (decide_eq_true z);have c2:=f2.mp (by lia)
   refine ⟨_,rfl,l,_,rfl,SqL.of g,by lia,fun a ha=>⟨a,_,rfl,qA1,_,rfl,l,_,rfl,.inl (SqL.of (by rw [qA8 (qA4 g ha)];exact g)),_,_,rfl,rfl,_,rfl,?_⟩⟩
   rw [List.length_map];have dl:=qIC (ws.filterMap (nmF 0 j));have sa:=sm.trans (qA3 ha (SetM w a (dedI (ws.filterMap (nmF 0 j)))));have a0:(Af m a (SetM w a (dedI (ws.filterMap (nmF 0 j))))) l=_:=qA3 ha _ _ _ g;generalize Af m a (SetM w a (dedI (ws.filterMap (nmF 0 j))))=H2 at sa a0 ⊢;refine ite2 (fun d=>?_) fun d=>?_
   ·have d':=of_decide_eq_true d;rw [if_neg fun z=>by have:=ded_len.mpr z.2;lia] at q
    exact q _ _ sa rfl
   ·have d':¬ _:=fun z=>d (decide_eq_true z);have nd:=ded_len.mp (show (dedI (ws.filterMap (nmF 0 j))).length=_ by lia)
    rw [if_pos ⟨c2,nd⟩] at q;have a7:=qdU nd;refine ⟨_,rfl,l,_,rfl,.inl (SqL.of a0),by lia,fun b zs hb pm so=>⟨b,_,rfl,.inl ⟨SqL.of qA1,fun t ht=>?_⟩⟩⟩
    exact q _ _ ((sa.trans (qA3 hb _)).trans (qA3 ht _)) ⟨t,rfl,zs,qA1,pm,so⟩
theorem qM0:FnScope ["words","numbers"] ["words","numbers"] (qAB qDH):=qC1
theorem ok_asked_named (F:Fun K "asked_named" "asked_named" qDH f fd) (qCG:Clb P w K mg base 1 qDL qGB "works_named" ["words","numbers"] qU8) (a:mg "MOST_ASKED" = some (.int 4 tk_MOST_ASKED)) (qAP:mg "len" = none):FnOk P w K mg base CX0 2 f fd ["words","numbers"] qUJ:=by
 refine F.okA qM0 fun m A b s H u Q E r h=>?_;obtain ⟨p,d,g,k,rfl,i,n,t,o,q⟩:=h;refine ⟨_,(qA5 (qAZ (qEM (qXO qQR qQR qA7 (qAA qA9 rfl qAP qAO (qA0 (pv 0) qA2)) (qCH (v:=.int (4)) rfl a ⟨_,rfl⟩))) (qA6 (qAF qEO)) qAJ) (qA6 (qAF (qAQ qCG r rfl (qA0 (pv 0) (qA0 (pv 1) qA2)))))),?_⟩
 try dsimp only [Cx.nox,Cx.wish,cxOf]
 unfold askF at q;refine ⟨_,rfl,p,_,rfl,.inl (SqL.of i),_,_,rfl,rfl,_,rfl,?_⟩;rw [List.length_map];refine ite2 (fun c=>?_) fun c=>?_
 ·have j:=of_decide_eq_true c;refine ⟨_,_,rfl,rfl,_,rfl,?_⟩;cases e:decide ((g.length:Int)<=4) with
  | true=>
   have l:=of_decide_eq_true e;rw [if_pos ⟨by lia,by lia⟩] at q
   exact ⟨_,rfl,_,rfl,p,d,g,k,rfl,i,n,t,o,q⟩
  | false=>
   have l:=of_decide_eq_false e;rw [if_neg fun z=>by lia] at q
   exact q _ H (Same.refl H) rfl
 ·have j:¬ _:=fun z=>c (decide_eq_true z);rw [if_neg fun z=>by lia] at q
  exact ⟨_,rfl,q _ H (Same.refl H) rfl⟩
theorem sc_steps_ask:FnScope ["words","numbers","rooms","asked"] ["words","numbers"] (qAB qEY):=qC1
theorem ok_steps_ask (F:Fun K "steps_ask" "steps_ask" qEY f fd) (qDP:Clb P w K mg base 1 qG5 qLF "rooms_in" ["word"] qUD) (y:Clb P w K mg base 2 qDM qGD "asked_named" ["words","numbers"] qUJ) (qAP:mg "len" = none):FnOk P w K mg base CX0 3 f fd ["words","numbers"] qYW:=by
 refine F.okA sc_steps_ask fun a0 A o s H vs Q E hr h=>?_;obtain ⟨p,d,ws,l,rfl,m,hd,l1,l2,dg,q⟩:=h;refine ⟨_,(qA5 (qAZ (qAD qNM (qAA qA9 rfl qAP qAO (qA0 (pv 0) qA2)) qA7 (qAH _)) (qA6 (qAF qEO)) qAJ) (qA5 (qAG (i:=2) sc_steps_ask.nd rfl (Or.inl rfl) (qAQ qDP hr rfl (qA0 (qBB qAM (pv 0) qA7 (fun _ _=>rfl)) qA2))) (qA5 (qAG (i:=3) sc_steps_ask.nd rfl (Or.inl rfl) (qAQ y hr rfl (qA0 (qBN qCV (pv 0) (qCR qA7) qCS) (qA0 (pv 1) qA2)))) (qA5 (qAZ (PW.pt (qF1 (qFH (qHK (pv 2))) (qEL (qFH (qHK (pv 3)))))) (qA6 (qAF qEO)) qAJ) (qA6 (qAF (qD5 (qA0 qAC (qA0 (pv 2) (qA0 (pv 3) qA2)))))))))),?_⟩
 try dsimp only [Cx.nox,Cx.wish,cxOf]
 refine ⟨_,rfl,p,_,rfl,.inl (SqL.of m),_,_,rfl,rfl,_,rfl,?_⟩;rw [List.length_map];refine ite2 (fun c=>?_) fun c=>?_
 ·have e:=of_decide_eq_true c;refine q _ H (Same.refl H) ?_
  match ws,e with
  | [],_=>exact rfl
  | [_],_=>exact rfl
  | _::_::_,e=>rw [List.length_cons,List.length_cons] at e;lia
 ·have e:¬ _:=fun z=>c (decide_eq_true z)
  match ws,e with
  | [],e=>exact absurd (show ((0:Nat):Int)<2 by decide) e
  | [_],e=>exact absurd (show ((1:Nat):Int)<2 by decide) e
  | a::x::r,_=>
   refine ⟨_,rfl,p,_,_,_,rfl,rfl,SqL.of m,qAN (j:=1) rfl,_,rfl,dg x (by simp),?_⟩
   refine ⟨_,rfl,_,rfl,p,_,rfl,SqL.of m,fun p2 h2=>?_⟩;have ec:cutV ((a::x::r).map V.str) (some 2) none=((a::x::r).drop 2).map V.str:=qEA (k:=2) (by simp)
   rw [ec];have s2:=qA3 h2 (.lst (((a::x::r).drop 2).map V.str));refine ⟨_,rfl,p2,d,r,l,rfl,qA1,s2 _ _ hd,by simp at l1;lia,l2,fun v H3 s3 g=>?_⟩
   have u:=s2.trans s3;have e0:qKZ l (a::x::r)=match rmF x,askF l r with
    | some n,some ks=>some (.st n ks)
    | _,_=>none:=rfl
   rw [e0] at q;refine ⟨_,rfl,_,rfl,?_⟩;cases er:rmF x with
   | none=>
    rw [er] at q;exact q _ H3 u rfl
   | some n=>
    rw [er] at q;refine ⟨_,rfl,_,rfl,?_⟩;cases ea:askF l r with
    | none=>
     rw [ea] at q g;obtain rfl:v=.non:=g;exact q _ H3 u rfl
    | some ks=>
     rw [ea] at q g;obtain ⟨t,rfl,tu⟩:=g;refine ⟨_,rfl,_,rfl,(by show 3<=sizeLine;decide),fun p4 h4=>?_⟩
     have s5:=qA3 h4 (.tup [.str "steps",.int n,.ref t]);exact q _ _ (u.trans s5) ⟨p4,t,rfl,qA1,tu.imp fun b xs=>s5 b _⟩
theorem sc_deed_of:FnScope ["words","numbers","word","asked"] ["words","numbers"] (qAB qHG):=qC1
theorem ok_deed_of (F:Fun K "deed_of" "deed_of" qHG f fd) (a4:Clb P w K mg base 2 qDM qGD "asked_named" ["words","numbers"] qUJ) (a3:Clb P w K mg base 3 qH2 qPP "steps_ask" ["words","numbers"] qYW) (o:∀ H,SqT K H c_ALONE [.str "back",.str "stand",.str "moves",.str "count"]) (l:∀ H,SqT K H c_OF_ONE [.str "do",.str "clear",.str "tree",.str "cut"]) (a:∀ H,SqT K H c_OF_SOME [.str "plain",.str "few",.str "stair"]) (a0:mg "ALONE" = some (.ref c_ALONE)) (m:mg "OF_ONE" = some (.ref c_OF_ONE)) (g:mg "OF_SOME" = some (.ref c_OF_SOME)) (qAP:mg "len" = none):FnOk P w K mg base CX0 4 f fd ["words","numbers"] qUH:=by
 refine F.okA sc_deed_of fun a5 A a2 s H vs Q E hr h=>?_;obtain ⟨p,d,ws,u,rfl,hp,hd,l1,l2,dg,ne,q⟩:=h;have hu:=qVQ hr;refine ⟨_,(qA5 (qAG (i:=2) sc_deed_of.nd rfl (Or.inl rfl) (qBB qAM (pv 0) qA7 (fun _ _=>rfl))) (qA5 (qAZ (qAD qC4 (pv 2) (qCH (v:=.ref c_ALONE) rfl a0 rfl) (by with_unfolding_all rfl)) (qA6 (qAF (qF3 (qAD qC5 (qAA qA9 rfl qAP qAO (qA0 (pv 0) qA2)) qA7 (qAH _)) (qD5 (qA0 (pv 2) qA2)) qEO))) qAJ) (qA5 (qAZ (qAD qC4 (pv 2) (qCH (v:=.ref c_OF_ONE) rfl m rfl) (by with_unfolding_all rfl)) (qA6 (qAF (qF3 (PW.pt (qRQ (qAD qC5 (qAA qA9 rfl qAP qAO (qA0 (pv 0) qA2)) qA7 (qAH _)) (qQM (qFH (qV3 hu (qBB qAM (pv 0) qA7 (fun _ _=>rfl)) (pv 1)))))) (qD5 (qA0 (pv 2) (qA0 (qJ4 hu (pv 1) (qBB qAM (pv 0) qA7 (fun _ _=>rfl)) (fun _ _=>rfl)) qA2))) qEO))) qAJ) (qA5 (qAZ (qAD qC4 (pv 2) (qCH (v:=.ref c_OF_SOME) rfl g rfl) (by with_unfolding_all rfl)) (qA5 (qAG (i:=3) sc_deed_of.nd rfl (Or.inl rfl) (qAQ a4 hr rfl (qA0 (qBN qCV (pv 0) (qCR qA7) qCS) (qA0 (pv 1) qA2)))) (qA6 (qAF (qF3 (qFH (qHK (pv 3))) qEO (qD5 (qA0 (pv 2) (qA0 (pv 3) qA2))))))) qAJ) (qA5 (qAZ (qAD qC5 (pv 2) qAC (qAH _)) (qA6 (qAF (qAQ a3 hr rfl (qA0 (pv 0) (qA0 (pv 1) qA2))))) qAJ) (qA6 (qAF qEO))))))),?_⟩
 try dsimp only [Cx.nox,Cx.wish,cxOf]
 obtain ⟨x,r,rfl⟩:∃ x r,ws=x::r:=by
  cases ws with
  | nil=>exact absurd rfl ne
  | cons x r=>exact ⟨x,r,rfl⟩
 refine cut fun N hN=>?_;refine ⟨_,rfl,p,_,_,_,rfl,rfl,SqL.of hp,qAN (j:=0) rfl,hN _ _ ?_⟩;clear hN;have e0:qW9 u (x::r)=if x ∈ qBI then (if r=[] then some (.al x) else none) else if x ∈ oneL then oneF u x r else if x ∈ qDE then (askF u r).map (.so x) else if x = "steps" then qKZ u (x::r) else none:=rfl
 rw [e0] at q;refine ⟨_,rfl,_,[.str "back",.str "stand",.str "moves",.str "count"],rfl,.inr (o H),rfl,rfl,_,rfl,?_⟩;rw [show inV (.str x) [.str "back",.str "stand",.str "moves",.str "count"]=decide (x ∈ qBI) from qCM x qBI];refine ite2 (fun c=>?_) fun c=>?_
 ·rw [if_pos (of_decide_eq_true c)] at q;refine ⟨_,rfl,p,_,rfl,.inl (SqL.of hp),rfl,_,rfl,?_⟩;cases r with
  | nil=>
   rw [if_pos rfl] at q;refine iteT ⟨_,rfl,(by show 1<=sizeLine;decide),fun t ht=>q _ _ (qA3 ht _) ⟨t,rfl,qA1⟩⟩
  | cons y r=>
   rw [if_neg (by simp)] at q
   rw [decide_eq_false (by intro z;have:=V.int.inj z;simp at this;lia)]
   exact iteF (q _ H (Same.refl H) rfl)
 rw [if_neg (fun z=>c (decide_eq_true z))] at q;refine ⟨_,rfl,_,[.str "do",.str "clear",.str "tree",.str "cut"],rfl,.inr (l H),rfl,rfl,_,rfl,?_⟩
 rw [show inV (.str x) [.str "do",.str "clear",.str "tree",.str "cut"]=decide (x ∈ oneL) from qCM x oneL]
 refine ite2 (fun c=>?_) fun c=>?_
 ·rw [if_pos (of_decide_eq_true c)] at q;refine ⟨_,rfl,p,_,rfl,.inl (SqL.of hp),rfl,_,rfl,?_⟩
  match r with
  | []=>exact q _ H (Same.refl H) rfl
  | y::z::r=>
   rw [decide_eq_false (by intro z;have:=V.int.inj z;simp at this;lia)]
   exact q _ H (Same.refl H) rfl
  | [y]=>
   have a1:DGet H d (.str y) (valV (numD 0 u) (Sum.inr y)):=DGet.k (k:=Sum.inr y) hd;rw [qHT] at a1;refine iteT ⟨_,rfl,p,_,_,_,rfl,rfl,SqL.of hp,qAN (j:=1) rfl,_,rfl,d,_,rfl,a1,_,rfl,?_⟩;cases en:nmF 0 u y with
   | none=>exact q _ H (Same.refl H) (by show RsD H ((nmF 0 u y).map _) _;rw [en];rfl)
   | some n=>
    rw [en] at a1;refine ⟨_,rfl,_,rfl,_,rfl,p,_,_,_,rfl,rfl,SqL.of hp,qAN (j:=1) rfl,d,_,rfl,a1,(by show 2<=sizeLine;decide),fun t ht=>q _ _ (qA3 ht _) (by show RsD _ ((nmF 0 u y).map _) _;rw [en];exact ⟨t,rfl,qA1⟩)⟩
 rw [if_neg (fun z=>c (decide_eq_true z))] at q;refine ⟨_,rfl,_,[.str "plain",.str "few",.str "stair"],rfl,.inr (a H),rfl,rfl,_,rfl,?_⟩;rw [show inV (.str x) [.str "plain",.str "few",.str "stair"]=decide (x ∈ qDE) from qCM x qDE];refine ite2 (fun c=>?_) fun c=>?_
 ·rw [if_pos (of_decide_eq_true c)] at q;refine ⟨_,rfl,_,rfl,p,_,rfl,SqL.of hp,fun p2 h2=>?_⟩;have ec:cutV ((x::r).map V.str) (some 1) none=((x::r).drop 1).map V.str:=qEA (k:=1) (by simp)
  rw [ec];have s2:=qA3 h2 (.lst (((x::r).drop 1).map V.str));refine ⟨_,rfl,p2,d,r,u,rfl,qA1,s2 _ _ hd,by simp at l1;lia,l2,fun v H3 s3 rs=>?_⟩
  have s4:=s2.trans s3;refine ⟨_,rfl,_,rfl,?_⟩;cases ea:askF u r with
  | none=>
   rw [ea] at q rs;obtain rfl:v=.non:=rs;exact q _ H3 s4 rfl
  | some ks=>
   rw [ea] at q rs;obtain ⟨t,rfl,tu⟩:=rs;refine ⟨_,rfl,_,rfl,(by show 2<=sizeLine;decide),fun p4 h4=>?_⟩
   have s5:=qA3 h4 (.tup [.str x,.ref t]);exact q _ _ (s4.trans s5) ⟨p4,t,rfl,qA1,tu.imp fun b xs=>s5 b _⟩
 rw [if_neg (fun z=>c (decide_eq_true z))] at q;refine ⟨_,rfl,rfl,_,rfl,?_⟩;refine ite2 (fun c=>?_) fun c=>?_
 ·have e:x = "steps":=V.str.inj (of_decide_eq_true c);rw [if_pos e] at q;exact ⟨_,rfl,_,rfl,p,d,x::r,u,rfl,hp,hd,l1,l2,dg,q⟩
 ·rw [if_neg (fun z=>c (decide_eq_true (by rw [z])))] at q
  exact q _ H (Same.refl H) rfl
theorem qNA:FnScope ["self"] ["self"] (qAB qC2):=qC1
theorem ok_Sheet_init (F:Fun K "__init__" "Sheet.__init__" qC2 f fd) (cl_Sheet:Cls K c_Sheet) (ns_Sheet:SNa K c_Sheet):FnOk P w K mg base CX0 1 f fd ["self"] (qUC c_Sheet):=by
 refine F.okA qNA fun a0 A o s H vs Q E hr h=>?_;obtain ⟨y,d,rfl,hy,q⟩:=h;refine ⟨_,(qA5 (qP9 (pv 0) qEO rfl) (qA5 (qP9 (pv 0) qXU rfl) (qA5 (qP9 (pv 0) (qB8 qA2) rfl) (qA6 (qP9 (pv 0) (qB8 qA2) rfl))))),?_⟩
 try dsimp only [Cx.nox,Cx.wish,cxOf]
 obtain ⟨k1,n,u⟩:=qaI (o':=.ins c_Sheet d (putF "rooms" V.non [])) hy;have p1:=qDQ "rooms" V.non [];have p0:([]:List (Str × V)).length=0:=rfl;refine ⟨_,rfl,y,c_Sheet,d,_,rfl,hy,cl_Sheet,ns_Sheet.rooms,(by show 0<1000;decide),?_⟩
 generalize Af H y (.ins c_Sheet d (putF "rooms" V.non []))=H1 at k1 n u ⊢;intro a ha;have j:=qA3 ha (.dK []);obtain ⟨k2,k,f2⟩:=qaI (o':=.ins c_Sheet d (putF "numbers" (V.ref a) (putF "rooms" V.non []))) (j _ _ n);have p2:=qDQ "numbers" (V.ref a) (putF "rooms" V.non []);have r:a ≠ y:=(qA4 n ha).symm;refine ⟨_,rfl,y,c_Sheet,d,_,rfl,j _ _ n,cl_Sheet,ns_Sheet.numbers,by lia,?_⟩
 have ga:(Af (Af H1 a (.dK [])) y (.ins c_Sheet d (putF "numbers" (V.ref a) (putF "rooms" V.non [])))) a=some (.dK []):=by rw [qA8 r,qA1]
 have k3:=(k1.trans (.of_same j)).trans k2;have x:∀ b,(Af (Af H1 a (.dK [])) y (.ins c_Sheet d (putF "numbers" (V.ref a) (putF "rooms" V.non [])))) b=none->H b=none:=fun b z=>u _ (j.free (f2 _ z));generalize Af (Af H1 a (.dK [])) y (.ins c_Sheet d (putF "numbers" (V.ref a) (putF "rooms" V.non [])))=i at k ga k3 x ⊢;refine ⟨(by show 0<=sizeLine;decide),fun b p=>?_⟩
 have e:=qA3 p (.lst []);obtain ⟨k4,t,f4⟩:=qaI (o':=.ins c_Sheet d (putF "net" (V.ref b) (putF "numbers" (V.ref a) (putF "rooms" V.non [])))) (e _ _ k);have p3:=qDQ "net" (V.ref b) (putF "numbers" (V.ref a) (putF "rooms" V.non []));have nb:b ≠ y:=(qA4 k p).symm;refine ⟨_,rfl,y,c_Sheet,d,_,rfl,e _ _ k,cl_Sheet,ns_Sheet.net,by lia,?_⟩
 have gb:(Af (Af i b (.lst [])) y (.ins c_Sheet d (putF "net" (V.ref b) (putF "numbers" (V.ref a) (putF "rooms" V.non []))))) b=some (.lst []):=by rw [qA8 nb,qA1]
 have g:(Af (Af i b (.lst [])) y (.ins c_Sheet d (putF "net" (V.ref b) (putF "numbers" (V.ref a) (putF "rooms" V.non []))))) a=some (.dK []):=by rw [qA8 r];exact e _ _ ga
 have k5:=(k3.trans (.of_same e)).trans k4;have f5:∀ q,(Af (Af i b (.lst [])) y (.ins c_Sheet d (putF "net" (V.ref b) (putF "numbers" (V.ref a) (putF "rooms" V.non []))))) q=none->H q=none:=fun q z=>x _ (e.free (f4 _ z));generalize Af (Af i b (.lst [])) y (.ins c_Sheet d (putF "net" (V.ref b) (putF "numbers" (V.ref a) (putF "rooms" V.non []))))=H5 at t gb g k5 f5 ⊢;refine ⟨(by show 0<=sizeLine;decide),fun c l=>?_⟩
 have m:=qA3 l (.lst []);have nc:c ≠ y:=(qA4 t l).symm;refine ⟨_,rfl,y,c_Sheet,d,_,rfl,m _ _ t,cl_Sheet,ns_Sheet.deeds,by lia,?_⟩
 have v:b ≠ c:=qA4 gb l;exact q a b c _ ((k5.trans (.of_same m)).trans (qC6 (by simp))) (u _ ha) (x _ p) (f5 _ l) ⟨qA1,by rw [qA8 r];exact m _ _ g,⟨[],by rw [qA8 nb];exact m _ _ gb,.nil⟩,⟨[],by rw [qA8 nc,qA1],.nil⟩,v,rfl,by decide⟩
theorem qGJ:FnScope ["self","words"] ["self","words"] (qAB qB1):=qC1
theorem ok_Sheet_take_rooms (F:Fun K "take_rooms" "Sheet.take_rooms" qB1 f fd) (cl_Sheet:Cls K c_Sheet) (ns_Sheet:SNa K c_Sheet) (qDP:Clb P w K mg base 1 qG5 qLF "rooms_in" ["word"] qUD) (qAP:mg "len" = none):FnOk P w K mg base CX0 2 f fd ["self","words"] (qRL c_Sheet):=by
 refine F.okA qGJ fun u A l s H vs Q E hr h=>?_;obtain ⟨y,m,a,b,c,p,S,o,rfl,Y,d,e,v,q⟩:=h;refine ⟨_,(qA5 (qAZ (PW.pt (qF1 (qAD qd6 (qAA qA9 rfl qAP qAO (qA0 (pv 1) qA2)) qA7 (qAH _)) (qEL (qAD qd6 (qBB qAM (pv 1) qA7 (fun _ _=>rfl)) qAC (qAH _))))) (qA6 (qAF qGO)) qAJ) (qA5 (qP9 (pv 0) (qAQ qDP hr rfl (qA0 (qBB qAM (pv 1) qA7 (fun _ _=>rfl)) qA2)) rfl) (qA6 (qAF (qZ4 (qaS (qD6 (pv 0) rfl))))))),?_⟩
 try dsimp only [Cx.nox,Cx.wish,cxOf]
 refine ⟨_,rfl,p,_,rfl,.inl (SqL.of d),rfl,_,rfl,?_⟩;rw [List.length_map]
 match o,d,e,q with
 | [],d,e,q=>exact q H (KeepL.of_same (Same.refl H)) Y
 | [x],d,e,q=>exact q H (KeepL.of_same (Same.refl H)) Y
 | x::z::z2::r,d,e,q=>
  rw [decide_eq_false (by intro z;have:=V.int.inj z;simp at this;lia)]
  exact q H (KeepL.of_same (Same.refl H)) Y
 | [x,z],d,e,q=>
  have e0:qP6 S [x,z]=if x = "rooms" then (rmF z).map (fun n=>{ S with rooms:=some n }) else none:=rfl
  rw [e0] at q;refine ⟨_,rfl,p,_,_,_,rfl,rfl,SqL.of d,qAN (j:=0) rfl,rfl,_,rfl,?_⟩;by_cases i:x = "rooms"
  ·rw [if_pos i] at q;rw [decide_eq_true (by rw [i])]
   refine ⟨_,rfl,p,_,_,_,rfl,rfl,SqL.of d,qAN (j:=1) rfl,_,rfl,e z (by simp),_,rfl,y,c_Sheet,m,_,rfl,Y.obj,cl_Sheet,ns_Sheet.rooms,by rw [qcW];decide,?_⟩
   have g:=Y.putR (rmF z);refine ⟨_,rfl,y,c_Sheet,m,_,_,rfl,qA1,cl_Sheet,ns_Sheet.rooms,by rw [qZ1];exact qN7,?_⟩
   have k:=q _ (qC6 (by simp):KeepL [y,a,b,c] H (Af H y (.ins c_Sheet m (putF "rooms" (optV (rmF z)) (sfs (optV S.rooms) a b c)))))
   cases er2:rmF z with
   | none=>
    rw [er2] at k g;refine k ?_;have t:({ S with rooms:=none }:Sh)=S:=by cases S;cases v;rfl
    rw [t] at g;exact g
   | some n=>
    rw [er2] at k g;exact k g
  ·rw [if_neg i] at q;rw [decide_eq_false fun z=>i (V.str.inj z)];exact q H (KeepL.of_same (Same.refl H)) Y
theorem sc_Sheet_take_work:FnScope ["self","words","needs"] ["self","words"] (qAB qB6):=qC1
theorem ok_Sheet_take_work (F:Fun K "take_work" "Sheet.take_work" qB6 f fd) (cl_Sheet:Cls K c_Sheet) (ns_Sheet:SNa K c_Sheet) (qCG:Clb P w K mg base 1 qDL qGB "works_named" ["words","numbers"] qU8) (qIQ:Clb P w K mg base 1 qLH qTD "is_name" ["word"] qYY) (m_MOST_WORKS:mg "MOST_WORKS" = some (.int 40 tk_MOST_WORKS)) (qAP:mg "len" = none):FnOk P w K mg base CX0 2 f fd ["self","words"] (qU9 c_Sheet):=by
 refine F.okA sc_Sheet_take_work fun a8 A a4 s H vs Q E hr h=>?_;obtain ⟨y,u,a,b,c,p,S,ws,rfl,Y,l,dg,l1,q⟩:=h;have hu:=qVQ hr;refine ⟨_,(qA5 (qAZ (PW.pt (qF1 (qNJ (qD6 (pv 0) rfl) (fun _=>rfl)) (qEL (qAD qC5 (qAA qA9 rfl qAP qAO (qA0 (qD6 (pv 0) rfl) qA2)) (qCH (v:=.int (40)) rfl m_MOST_WORKS ⟨_,rfl⟩) (qAH _))))) (qA6 (qAF qGO)) qAJ) (qA5 (qAZ (PW.pt (qF1 (qAD qNM (qAA qA9 rfl qAP qAO (qA0 (pv 1) qA2)) qA7 (qAH _)) (qF1 (qEM (qD4 (qAQ qIQ hr rfl (qA0 (qBB qAM (pv 1) qA7 (fun _ _=>rfl)) qA2)))) (qEL (qFH (qV3 hu (qBB qAM (pv 1) qA7 (fun _ _=>rfl)) (qD6 (pv 0) rfl))))))) (qA6 (qAF qGO)) qAJ) (qA5 (qAG (i:=2) sc_Sheet_take_work.nd rfl (Or.inl rfl) (qAQ qCG hr rfl (qA0 (qBN qCV (pv 1) (qCR qA7) qCS) (qA0 (qD6 (pv 0) rfl) qA2)))) (qA5 (qAZ (qFH (qHK (pv 2))) (qA6 (qAF qGO)) qAJ) (qA5 (qUT hu (qD6 (pv 0) rfl) (qBB qAM (pv 1) qA7 (fun _ _=>rfl)) (qAA qA9 rfl qAP qAO (qA0 (qD6 (pv 0) rfl) qA2)) rfl) (qA5 (qBR (qCI PySem.F.plainAttrs_list PySem.F.slot_list_append PySem.F.type_list_append qBQ (qD6 (pv 0) rfl) (qA0 (pv 2) qA2))) (qA6 (qAF qGO)))))))),?_⟩
 try dsimp only [Cx.nox,Cx.wish,cxOf]
 obtain ⟨rs,hb,hn⟩:=Y.net;obtain ⟨vs,hc,hv⟩:=Y.deeds;have d:∀ H',Same H H'->qOP S ws=none->Q (.bl false) H':=fun H' sm e=>by
  have:=q H' (KeepL.of_same sm);rw [e] at this;exact this (Y.next sm)
 refine ⟨_,rfl,y,c_Sheet,u,_,_,rfl,Y.obj,cl_Sheet,ns_Sheet.deeds,qN8,_,.inl ⟨_,SqL.of hc,rfl⟩,?_⟩;have ev:vs.isEmpty=S.deeds.isEmpty:=qJ5 hv;rw [ev];have lb:(rs.map V.ref).length=S.net.length:=by rw [List.length_map];exact Paired.length hn
 cases ed:S.deeds.isEmpty with
 | false=>
  refine d H (Same.refl H) ?_;unfold qOP
  split
  ·rw [if_pos (.inl ed)]
  ·rfl
 | true=>
  refine ⟨_,rfl,y,c_Sheet,u,_,_,rfl,Y.obj,cl_Sheet,ns_Sheet.net,qMG,b,_,rfl,.inl (SqL.of hb),rfl,_,rfl,?_⟩;rw [lb];refine ite2 (fun c1=>?_) fun c1=>?_
  ·have a3:S.net.length=40:=by have:=V.int.inj (of_decide_eq_true c1);lia
   refine d H (Same.refl H) ?_;unfold qOP
   split
   ·rw [if_pos (.inr (.inl a3))]
   ·rfl
  have n40:¬ S.net.length=40:=fun z=>c1 (decide_eq_true (by rw [z];rfl))
  refine ⟨_,rfl,p,_,rfl,.inl (SqL.of l),_,_,rfl,rfl,_,rfl,?_⟩;rw [List.length_map]
  match ws,l,dg,l1,q,d with
  | [],l,dg,l1,q,d=>exact d H (Same.refl H) rfl
  | [x],l,dg,l1,q,d=>exact d H (Same.refl H) rfl
  | x0::x::r,l,dg,l1,q,d=>
   rw [decide_eq_false (by rw [List.length_cons,List.length_cons];lia)]
   have e0:qOP S (x0::x::r)=if S.deeds.isEmpty=false\/S.net.length=40\/isNm x=false\/x ∈ S.names then none else (wkF S.names r).map fun ks=>{ S with names:=S.names++[x],net:=S.net++[ks] }:=rfl
   rw [e0] at q d;have lx:=(dg x (by simp)).1
   refine ⟨_,rfl,p,_,_,_,rfl,rfl,SqL.of l,qAN (j:=1) rfl,x,rfl,by lia,fun H2 m=>⟨_,rfl,?_⟩⟩
   cases en:isNm x with
   | false=>exact d H2 m (by rw [if_pos (.inr (.inr (.inl en)))])
   | true=>
    have a0:DGet H2 a (.str x) (valV (numD 0 S.names) (Sum.inr x)):=DGet.k (k:=Sum.inr x) (m _ _ Y.num);rw [qHT] at a0;refine ⟨_,rfl,p,_,_,_,rfl,rfl,SqL.of (m _ _ l),qAN (j:=1) rfl,_,rfl,y,c_Sheet,u,_,_,rfl,m _ _ Y.obj,cl_Sheet,ns_Sheet.numbers,qEK,a,_,rfl,a0,_,rfl,?_⟩;cases em:nmF 0 S.names x with
    | some n=>
     exact d H2 m (if_pos (.inr (.inr (.inr (Classical.not_not.mp fun z=>by rw [nmF_none.mpr z] at em;cases em)))))
    | none=>
     have a1:=nmF_none.mp em;have e1:¬ (S.deeds.isEmpty=false\/S.net.length=40\/isNm x=false\/x ∈ S.names):=by
      rintro (z | z | z | z)
      ·rw [ed] at z;cases z
      ·exact n40 z
      ·rw [en] at z;cases z
      ·exact a1 z
     rw [if_neg e1] at q d;have a9:=Y.n40;have a6:=Y.nl;refine ⟨_,rfl,_,rfl,p,_,rfl,SqL.of (m _ _ l),fun p2 h2=>?_⟩;have ec:cutV ((x0::x::r).map V.str) (some 2) none=((x0::x::r).drop 2).map V.str:=qEA (k:=2) (by simp)
     rw [ec];have s3:=m.trans (qA3 h2 (.lst (((x0::x::r).drop 2).map V.str)));refine ⟨_,rfl,y,c_Sheet,u,_,_,rfl,s3 _ _ Y.obj,cl_Sheet,ns_Sheet.numbers,qEK,p2,a,r,S.names,rfl,qA1,s3 _ _ Y.num,by simp at l1;lia,by lia,fun v H4 s4 rn=>?_⟩
     have g:=s3.trans s4;refine ⟨_,rfl,_,rfl,?_⟩;cases ek:wkF S.names r with
     | none=>
      rw [ek] at rn d;obtain rfl:v=.non:=rn;exact d H4 g rfl
     | some ks=>
      rw [ek] at rn q;obtain ⟨t,rfl,tu⟩:=rn;have o:=g _ _ hb;have Y5:=Y.next g;refine ⟨_,rfl,y,c_Sheet,u,_,_,rfl,g _ _ Y.obj,cl_Sheet,ns_Sheet.net,qMG,b,_,rfl,.inl (SqL.of o),_,rfl,y,c_Sheet,u,_,_,rfl,g _ _ Y.obj,cl_Sheet,ns_Sheet.numbers,qEK,_,rfl,p,_,_,_,rfl,rfl,SqL.of (g _ _ l),qAN (j:=1) rfl,a,_,rfl,DPut.k (k:=Sum.inr x) (g _ _ Y.num) (by rw [qRX,sizeLine_eq];lia),?_⟩
      have ep:putK (numD 0 S.names) (Sum.inr x) (.int (((rs.map V.ref).length:Nat):Int))=numD 0 (S.names++[x]):=by
       have:=qXX (k:=0) a1;rw [Nat.zero_add,a6] at this;rw [lb];exact this
      rw [ep];have a5:b ≠ a:=qDZ hb Y.num (by intro z;cases z)
      have a7:y ≠ a:=qDZ Y.obj Y.num (by intro z;cases z)
      have a2:(Af H4 a (.dK (numD 0 (S.names++[x])))) b=some (.lst (rs.map V.ref)):=by rw [qA8 a5];exact o
      refine ⟨_,rfl,y,c_Sheet,u,_,_,rfl,by rw [qA8 a7];exact g _ _ Y.obj,cl_Sheet,ns_Sheet.net,qMG,.inl ⟨rfl,_,SqL.of a2⟩,_,rfl,b,_,_,rfl,rfl,a2,by rw [lb,sizeLine_eq];lia,?_⟩
      exact q _ ((KeepL.of_same g).trans ((qC6 (by simp)).trans (qC6 (by simp)))) (Y5.putW o (qBG hn fun _ _ z=>z.imp fun b xs=>g b _) tu (by lia))
theorem sc_Sheet_take_deed:FnScope ["self","words","deed"] ["self","words"] (qAB qB7):=qC1
theorem ok_Sheet_take_deed (F:Fun K "take_deed" "Sheet.take_deed" qB7 f fd) (cl_Sheet:Cls K c_Sheet) (ns_Sheet:SNa K c_Sheet) (qIR:Clb P w K mg base 4 qLI qTE "deed_of" ["words","numbers"] qUH):FnOk P w K mg base CX0 5 f fd ["self","words"] (qUA c_Sheet):=by
 refine F.okA sc_Sheet_take_deed fun a0 A m s H vs Q E hr h=>?_;obtain ⟨y,t,a,b,c,p,S,l,rfl,Y,hp,dg,ne,l1,l2,q⟩:=h;refine ⟨_,(qA5 (qAG (i:=2) sc_Sheet_take_deed.nd rfl (Or.inl rfl) (qAQ qIR hr rfl (qA0 (pv 1) (qA0 (qD6 (pv 0) rfl) qA2)))) (qA5 (qAZ (PW.pt (qF1 (qEM (qNJ (qD6 (pv 0) rfl) (fun _=>rfl))) (qEL (qFH (qHK (pv 2)))))) (qA6 (qAF qGO)) qAJ) (qA5 (qBR (qCI PySem.F.plainAttrs_list PySem.F.slot_list_append PySem.F.type_list_append qBQ (qD6 (pv 0) rfl) (qA0 (pv 2) qA2))) (qA6 (qAF qGO))))),?_⟩
 try dsimp only [Cx.nox,Cx.wish,cxOf]
 obtain ⟨rs,hb,hn⟩:=Y.net;have a1:=Y.nl;have a2:=Y.n40;refine cut fun N u=>?_;refine ⟨_,rfl,_,rfl,y,c_Sheet,t,_,_,rfl,Y.obj,cl_Sheet,ns_Sheet.numbers,qEK,p,a,l,S.names,rfl,hp,Y.num,l1,by lia,dg,ne,fun v H2 k j=>u _ _ ?_⟩
 clear u;have o:=Y.next k;have g:qRB S l=none->Q (.bl false) H2:=fun e=>by
  have:=q H2 (KeepL.of_same k);rw [e] at this;exact this o
 obtain ⟨vs,r,x⟩:=o.deeds;refine ⟨_,rfl,y,c_Sheet,t,_,_,rfl,k _ _ Y.obj,cl_Sheet,ns_Sheet.net,qMG,_,.inl ⟨_,SqL.of (k _ _ hb),rfl⟩,?_⟩;have ev:(rs.map V.ref).isEmpty=S.net.isEmpty:=by rw [<- qJ5 hn];cases rs <;> rfl
 rw [ev];unfold qRB at q g;cases ed:S.net.isEmpty with
 | true=>exact g (by rw [if_pos ed])
 | false=>
  rw [ed,if_neg Bool.false_ne_true] at q g;refine ⟨_,rfl,_,rfl,?_⟩;cases ek:qW9 S.names l with
  | none=>
   rw [ek] at j g;obtain rfl:v=.non:=j;exact g rfl
  | some d=>
   rw [ek] at j q;have nv:¬ v=.non:=by
    intro z;subst z;cases d with
    | al w=>obtain ⟨_,z,_⟩:=(show ∃ _,_/\_ from j);cases z
    | on w n=>obtain ⟨_,z,_⟩:=(show ∃ _,_/\_ from j);cases z
    | so w n=>obtain ⟨_,_,z,_⟩:=(show ∃ _ _,_/\_ from j);cases z
    | st w n=>obtain ⟨_,_,z,_⟩:=(show ∃ _ _,_/\_ from j);cases z
   rw [decide_eq_false nv];have lv:vs.length=S.deeds.length:=Paired.length x;refine ⟨_,rfl,y,c_Sheet,t,_,_,rfl,k _ _ Y.obj,cl_Sheet,ns_Sheet.deeds,qN8,.inl ⟨rfl,_,SqL.of r⟩,_,rfl,c,_,_,rfl,rfl,r,by rw [sizeLine_eq];lia,?_⟩
   exact q _ ((KeepL.of_same k).trans (qC6 (by simp))) (o.putD r x j)
theorem qGI:FnScope ["self","words"] ["self","words"] (qAB qB0):=qC1
theorem ok_Sheet_take_words (F:Fun K "take_words" "Sheet.take_words" qB0 f fd) (cl_Sheet:Cls K c_Sheet) (ns_Sheet:SNa K c_Sheet) (qBP:Meth K c_Sheet "take_rooms" qAU) (qBV:Meth K c_Sheet "take_work" qAX) (qBW:Meth K c_Sheet "take_deed" qAY)
  (qC0:FnOk P w K mg base CX0 2 qAU qDU ["self","words"] (qRL c_Sheet)) (qBY:Binds K qDU ["self","words"] [])
  (qCE:FnOk P w K mg base CX0 2 qAX qE7 ["self","words"] (qU9 c_Sheet)) (qCC:Binds K qE7 ["self","words"] [])
  (qCF:FnOk P w K mg base CX0 5 qAY qE8 ["self","words"] (qUA c_Sheet)) (qCD:Binds K qE8 ["self","words"] []):FnOk P w K mg base CX0 6 f fd ["self","words"] (qRK c_Sheet):=by
 refine F.okA qGI fun a0 A k s H vs Q E l h=>?_;obtain ⟨y,e,a,b,c,p,S,ws,rfl,Y,g,o,ne,l1,l2,q⟩:=h;have v:Room 2 _:=(l.mono (by decide))
 have u:Room 2 _:=(l.mono (by decide))
 have t:Room 5 _:=(l.mono (by decide))
 refine ⟨_,(qA5 (qAZ (qFH (qHK (qD6 (pv 0) rfl))) (qA6 (qAF (qL6 (pv 0) cl_Sheet qBP qC0 v qBY .nil qQQ (qA0 (pv 1) qA2)))) qAJ) (qA5 (qAZ (qAD qC5 (qBB qAM (pv 1) qA7 (fun _ _=>rfl)) qAC (qAH _)) (qA6 (qAF (qL6 (pv 0) cl_Sheet qBV qCE u qCC .nil qQQ (qA0 (pv 1) qA2)))) qAJ) (qA6 (qAF (qL6 (pv 0) cl_Sheet qBW qCF t qCD .nil qQQ (qA0 (pv 1) qA2)))))),?_⟩
 try dsimp only [Cx.nox,Cx.wish,cxOf]
 refine ⟨_,rfl,y,c_Sheet,e,_,_,rfl,Y.obj,cl_Sheet,ns_Sheet.rooms,qN7,_,rfl,?_⟩;obtain ⟨x,r,rfl⟩:∃ x r,ws=x::r:=by
  cases ws with
  | nil=>exact absurd rfl ne
  | cons x r=>exact ⟨x,r,rfl⟩
 unfold qKW at q;have d:∀ m:Str,m ≠ "rooms"->m ≠ "numbers"->m ≠ "net"->m ≠ "deeds"->(sfs (optV S.rooms) a b c).lookup m=none:=fun m h1 h2 h3 h4=>by
  unfold sfs;rw [qAI,if_neg h4,qAI,if_neg h3,qAI,if_neg h2,qAI,if_neg h1]
  rfl
 cases er:S.rooms with
 | none=>
  rw [if_pos er] at q;exact ⟨_,rfl,y,e,_,rfl,Y.obj,d _ (by decide) (by decide) (by decide) (by decide),_,rfl,y,e,a,b,c,p,S,_,rfl,Y,g,o,er,q⟩
 | some n=>
  rw [if_neg (by rw [er];intro z;cases z)] at q
  rw [List.head?_cons] at q;refine ⟨_,rfl,p,_,_,_,rfl,rfl,SqL.of g,qAN (j:=0) rfl,rfl,_,rfl,?_⟩;by_cases i:x = "work"
  ·rw [if_pos (by rw [i])] at q
   rw [decide_eq_true (by rw [i])]
   exact ⟨_,rfl,y,e,_,rfl,Y.obj,d _ (by decide) (by decide) (by decide) (by decide),_,rfl,y,e,a,b,c,p,S,_,rfl,Y,g,o,l1,q⟩
  ·rw [if_neg (fun z=>i (Option.some.inj z))] at q;rw [decide_eq_false fun z=>i (V.str.inj z)];exact ⟨_,rfl,y,e,_,rfl,Y.obj,d _ (by decide) (by decide) (by decide) (by decide),_,rfl,y,e,a,b,c,p,S,_,rfl,Y,g,o,ne,l1,l2,q⟩
theorem sc_Sheet_take_row:FnScope ["self","row","words"] ["self","row"] (qAB qBA):=qC1
theorem ok_Sheet_take_row (F:Fun K "take_row" "Sheet.take_row" qBA f fd) (cl_Sheet:Cls K c_Sheet) (ns_Sheet:SNa K c_Sheet) (qBO:Meth K c_Sheet "take_words" qAT)
  (qBZ:FnOk P w K mg base CX0 6 qAT qDT ["self","words"] (qRK c_Sheet)) (qBX:Binds K qDT ["self","words"] []) (m_MOST_SIGNS:mg "MOST_SIGNS" = some (.int 200 tk_MOST_SIGNS)) (qAP:mg "len" = none) (qON:mg "all" = none):FnOk P w K mg base CX0 7 f fd ["self","row"] (qYV c_Sheet):=by
 refine F.okA sc_Sheet_take_row fun a5 A a2 s H vs Q E hr h=>?_;obtain ⟨y,dx,a,b,c,S,d,rfl,Y,l1,l2,q⟩:=h;have a3:Room 6 _:=(hr.mono (by decide))
 refine ⟨_,(qA5 (qAZ (qAD qC5 (pv 1) qAC (qAH _)) (qA6 (qAF qGO)) qAJ) (qA5 (qAZ (PW.pt (qF1 (qAD qNN (qAA qDA rfl qAP qAO (qA0 (pv 1) qA2)) (qCH (v:=.int (200)) rfl m_MOST_SIGNS ⟨_,rfl⟩) (qAH _)) (qEL (qEM (qD4 (qAA (qKM rfl) rfl qON qSP (qA0 (qJ3 rfl (lcs (own:=["sign"]) (fv:=[]) (by kernel_rfl)) (qRT (pv 1)) (fun z1=>qF2 0) (fun z1=>qCQ) (fun z1=>(qKI qHM qHM qAC (pv 0) qAC))) qA2))))))) (qA6 (qAF qGO)) qAJ) (qA5 (qAG (i:=2) sc_Sheet_take_row.nd rfl (Or.inl rfl) (qCI PySem.F.plainAttrs_str PySem.F.slot_str_split PySem.F.type_str_split qF5 (pv 1) (qA0 qAC qA2))) (qA6 (qAF (qD7 (qBF qPB qAC (pv 2) (by with_unfolding_all rfl)) (qEN (qL6 (pv 0) cl_Sheet qBO qBZ a3 qBX .nil qQQ (qA0 (pv 2) qA2))))))))),?_⟩
 try dsimp only [Cx.nox,Cx.wish,cxOf]
 have hs:=sizeLine_eq;have a1:∀ m:Str,m ≠ "rooms"->m ≠ "numbers"->m ≠ "net"->m ≠ "deeds"->(sfs (optV S.rooms) a b c).lookup m=none:=fun m h1 h2 h3 h4=>by
  unfold sfs;rw [qAI,if_neg h4,qAI,if_neg h3,qAI,if_neg h2,qAI,if_neg h1]
  rfl
 unfold rowT at q;refine ⟨_,rfl,rfl,_,rfl,?_⟩;by_cases e0:d = ""
 ·rw [if_pos e0] at q;rw [decide_eq_true (by rw [e0])]
  exact q H (KeepL.of_same (Same.refl H)) Y
 rw [if_neg e0] at q;rw [decide_eq_false fun z=>e0 (V.str.inj z)];refine ⟨_,rfl,_,rfl,by lia,_,_,rfl,rfl,_,rfl,?_⟩
 refine ite2 (fun c1=>?_) fun c1=>?_
 ·rw [if_neg (fun z=>by have:=of_decide_eq_true c1;lia)] at q
  exact q H (KeepL.of_same (Same.refl H)) Y
 have n:d.length<=200:=by
  have:¬ _:=fun z=>c1 (decide_eq_true z)
  lia
 refine ⟨_,rfl,d,rfl,fun g hg=>qS5 (fun i σ l=>∃ v,σ=[v]/\Same H l/\l g=some (.lst (((d.cps.toList.take i).map (qB4 32 126)).map V.bl))) ⟨none,rfl,qA3 hg _,qA1⟩ ?_ ?_⟩
 ·refine fun i k σ l ec t=>opq fun a6 x=>?_;obtain ⟨v,rfl,sm,o⟩:=t;refine x ?_;refine ⟨_,rfl,_,_,rfl,rfl,_,rfl,?_⟩;have l1:=qNT (a:=32) (b:=k);have l2:=qNT (a:=k) (b:=126);have p:∀ b,b=qB4 32 126 k->∃ ys,l g=some (.lst ys)/\ys.length<sizeLine/\∃ v,[some (V.str ⟨#[k]⟩)]=[v]/\Same H (Af l g (.lst (ys++[V.bl b])))/\(Af l g (.lst (ys++[V.bl b]))) g=some (.lst (((d.cps.toList.take (i+1)).map (qB4 32 126)).map V.bl)):=fun b e=>⟨_,o,by have:=qOZ (z:=d) (lo:=32) (hi:=126) (i:=i);lia,_,rfl,fun b u e=>by rw [qA8 (qA4 e hg)];exact sm b u e,by rw [qA1,e,qMF ec]⟩
  rw [show (Str.ofString " ").cps.toList=[32] by decide,show (⟨#[k]⟩:Str).cps.toList=[k] from rfl,l1]
  refine ite2 (fun h1=>?_) fun h1=>?_
  ·refine ⟨_,_,rfl,rfl,?_⟩;rw [show (Str.ofString "~").cps.toList=[126] by decide,show (⟨#[k]⟩:Str).cps.toList=[k] from rfl,l2]
   exact p _ (by unfold qB4;rw [h1,Bool.true_and])
  ·exact p _ (by unfold qB4;rw [Bool.eq_false_iff.mpr h1,Bool.false_and])
 ·refine fun σ l r=>opq fun a4 a0=>?_;obtain ⟨v,rfl,sm,o⟩:=r;refine a0 ?_;refine ⟨g,_,rfl,SqL.of o,_,rfl,?_⟩;rw [qP0];cases ea:d.cps.toList.all (qB4 32 126) with
  | false=>
   rw [if_neg (fun z=>by have:=z.2;unfold asc at this;rw [ea] at this;cases this)] at q
   exact q l (KeepL.of_same sm) (Y.next sm)
  | true=>
   rw [if_pos ⟨n,ea⟩] at q;refine ⟨_,rfl,rfl,_,_,rfl,rfl,by decide,by lia,fun g2 h2=>?_⟩
   have s2:=sm.trans (qA3 h2 (.lst ((Txt.split d (Str.ofString " ")).map V.str)));refine ⟨_,rfl,g2,_,rfl,.inl (SqL.of qA1),rfl,qI8 _,_,rfl,?_⟩;rw [show inV (.str (Str.ofString "")) ((Txt.split d (Str.ofString " ")).map V.str)=decide (Str.ofString "" ∈ Txt.split d (Str.ofString " ")) from qCM _ _];by_cases j:Str.ofString "" ∈ Txt.split d (Str.ofString " ")
   ·rw [if_pos j] at q;rw [decide_eq_true j];exact q _ (KeepL.of_same s2) (Y.next s2)
   ·rw [if_neg j] at q;rw [decide_eq_false j];have Y2:=Y.next s2;have ls:=PyProof.Rows.split_le d (Str.ofString " ");refine ⟨_,rfl,y,dx,_,rfl,Y2.obj,a1 _ (by decide) (by decide) (by decide) (by decide),_,rfl,y,dx,a,b,c,g2,S,_,rfl,Y2,qA1,qYH n ea,fun z=>?_,by lia,l2,fun H' k Y'=>q H' ((KeepL.of_same s2).trans k) Y'⟩
    have:=PyProof.Rows.split_pos d (Str.ofString " ");rw [z] at this;cases this
theorem sc_Lnames:FnScope ["_law_state","_law_many","_law_some","_law_first","_law_way","_law_found","_law_k","_law_name"] ["_law_state","_law_many"] (qAB qKF):=qC1
theorem ok_Lnames (F:Fun K "_law_names" "_law_names" qKF f fd) (qAL:Clb P w K mg base 1 qDV qDK "_law_take" ["_law_state","_law_many"] qG8) (qBL:mg "range" = none) (qAP:mg "len" = none):FnOk P w K mg base CX0 2 f fd ["_law_state","_law_many"] qUF:=by
 refine F.okA sc_Lnames fun az A ao s H vs Q E hr h=>?_;obtain ⟨d,c,t,ns,m,rfl,S,ht,av,au,q⟩:=h;have aq:=hr.units0;refine ⟨_,(qA5 (qAG (i:=2) sc_Lnames.nd rfl (Or.inl rfl) (qCI PySem.F.plainAttrs_str PySem.F.slot_str_split PySem.F.type_str_split qF5 qAC (qA0 qAC qA2))) (qA5 (qAG (i:=3) sc_Lnames.nd rfl (Or.inl rfl) (qAQ qAL hr rfl (qA0 (pv 0) (qA0 qA7 qA2)))) (qA5 (qAG (i:=4) sc_Lnames.nd rfl (Or.inl rfl) (qAQ qAL hr rfl (qA0 (pv 0) (qA0 qA7 qA2)))) (qA5 (qAG (i:=5) sc_Lnames.nd rfl (Or.inl rfl) (qB8 qA2)) (qA5 (qFI PassesOwn.never rfl (qC3 rfl qBL (qA0 (pv 1) qA2)) (qBS (i:=6) sc_Lnames.nd rfl (Or.inl rfl)) (qA5 (qAG (i:=7) sc_Lnames.nd rfl (Or.inl rfl) (qAR qJ8 (qBB qVK qAC (qAR qHL (qAR qD8 (pv 3) (pv 6)) qA7) (fun _ _=>rfl)) (qAR qD8 qA7 (qAR qNO (pv 6) qA7)))) (qA5 (qAZ (PW.pt (qRQ (qAD qNN (pv 4) qA7 (qAH _)) (qRQ (qAD qC5 (qAR qHL (pv 6) qA7) (qAR qEP (pv 4) qA7) (qAH _)) (qQM (qAD (qFK aq) (pv 2) (qB8 qA2) (qAH _)))))) (qA6 (qAG (i:=7) sc_Lnames.nd rfl (Or.inl rfl) (qCI PySem.F.plainAttrs_list PySem.F.slot_list_pop PySem.F.type_list_pop qKJ (pv 2) (qA0 (qAQ qAL hr rfl (qA0 (pv 0) (qA0 (qAA qA9 rfl qAP qAO (qA0 (pv 2) qA2)) qA2))) qA2)))) qAJ) (qA6 (qBR (qCI PySem.F.plainAttrs_list PySem.F.slot_list_append PySem.F.type_list_append qBQ (pv 5) (qA0 (pv 7) qA2))))))) (qA6 (qAF (pv 5)))))))),?_⟩
 try dsimp only [Cx.nox,Cx.wish,cxOf]
 have hs:=sizeLine_eq;have ax:t<=1000000000 - 1000:=ht;refine cut fun N0 ac=>?_;refine ⟨rfl,_,_,rfl,rfl,by decide,by rw [hs];decide +kernel,fun l a0=>ac _ _ ?_⟩
 rw [qa0];clear ac;have S1:=S.new a0 (.lst (w16.map V.str));refine cut fun N1 aj=>?_;refine ⟨_,rfl,d,c,t,ns,26,rfl,S1,(by show t<=1000000000;lia),by decide,by decide,fun f1 ap H1 f0 ay S2 K2=>aj _ _ (cut fun N2 ah=>?_)⟩
 clear aj;refine ⟨_,rfl,d,c,t+1,ap,3,rfl,S2,(by show t+1<=1000000000;lia),by decide,by decide,fun wy al H2 w0 w3 S3 K3=>ah _ _ (cut fun N3 ak=>?_)⟩
 clear ah;have a8:l ≠ d:=(qA4 S.dict a0).symm;have a9:l ≠ c:=(qA4 S.list a0).symm;have K4:Keep d c (Af H l (.lst (w16.map V.str))) H2:=K2.trans K3;have gl:H2 l=some (.lst (w16.map V.str)):=K4 _ _ qA1 a8 a9;have K5:Keep d c H H2:=(qCA a0 _).trans K4;refine ⟨(by show 0<=sizeLine;decide),fun r g=>ak _ _ (cut fun N4 am=>?_)⟩
 clear ak;have a7:r ≠ d:=(qA4 S3.dict g).symm;have a6:r ≠ c:=(qA4 S3.list g).symm;have a4:l ≠ r:=qA4 gl g;have ae:H r=none:=by
  cases e:H r with
  | none=>rfl
  | some o=>rw [K5 _ _ e a7 a6] at g;cases g
 obtain ⟨p,rfl⟩:∃ p:Nat,f1=(p:Int):=⟨f1.toNat,by lia⟩
 refine ⟨_,rfl,m,rfl,by lia,by lia,qFM (lo:=0) (n:=m.toNat) (fun i σ Hc=>∃ (t':Int) (ms:List Int) (ws fs us:List Str) (js:List Nat) (v6 v7:Option V),σ=[some (.ref d),some (.int m),some (.ref l),some (.int (p:Int)),some (.int wy),some (.ref r),v6,v7]/\StAt Hc d c t' ms/\t<=t'/\t'<=t+2+i/\Keep d c H Hc/\
  Hc l=some (.lst (ws.map V.str))/\Hc r=some (.lst (fs.map V.str))/\fs.length=i/\fs.Perm (us++js.map (qHW p))/\(us++ws).Perm w16/\js.Pairwise (·<·)/\∀ j ∈ js,j<i)
  ⟨t+1+1,al,w16,[],[],[],none,none,rfl,S3.new g _,by lia,by lia,K5.trans (qCA g _),by rw [qA8 a4];exact gl,qA1,rfl,.refl _,.refl _,.nil,fun _ z=>nomatch z⟩ ?_ ?_⟩
 ·refine fun i σ Hc hi ab=>opq fun as ad=>?_;obtain ⟨t',ms,ws,fs,us,js,v6,v7,rfl,S4,a1,a2,K6,g1,g2,l1,p1,p2,up,jb⟩:=ab;refine ad ?_;have b0:i<40:=by lia
  refine nmD fun D1 d1 dr=>cut fun M0 af=>?_;refine ⟨_,rfl,_,rfl,_,_,rfl,rfl,_,_,rfl,rfl,(by show (0:Int)<26;decide),_,_,_,rfl,rfl,qWU,qYM (Int.emod_nonneg _ (by decide)) (Int.emod_lt_of_pos _ (by decide)),_,rfl,_,_,rfl,rfl,⟨by decide,by decide⟩,_,_,rfl,rfl,_,_,rfl,rfl,by lia,by lia,(by show 1<=1000;decide),af _ _ ?_⟩
  clear af;have en:Txt.mul ⟨#[97+(((p:Int)+(0+(i:Int))) % 26).toNat]⟩ (1+(0+(i:Int)) / 26)=qHW p i:=by
   unfold qHW;have e1:(((p:Int)+(0+(i:Int))) % 26).toNat=(p+i) % 26:=by lia
   have e2:(0+(i:Int)) / 26=((i / 26:Nat):Int):=by lia
   rw [e1,e2]
  rw [en];refine cut fun M1 ag=>?_;have ar:∀ {Hx:Hp} {x:Str} {u:List V},StAt Hx d c t' ms->Hx r=some (.lst u)->True:=fun _ _=>trivial;have a5:∀ (x:Str) (t2:Int) (ms2:List Int) (ws2 us2:List Str) (js2:List Nat) (H3:Hp),StAt H3 d c t2 ms2->t<=t2->t2<=t+2+(i+1)->Keep d c H H3->H3 l=some (.lst (ws2.map V.str))->H3 r=some (.lst (fs.map V.str))->(fs++[x]).Perm (us2++js2.map (qHW p))->(us2++ws2).Perm w16->js2.Pairwise (·<·)->(∀ j ∈ js2,j<i+1)->
    M1 [some (.ref d),some (.int m),some (.ref l),some (.int (p:Int)),some (.int wy),some (.ref r),some (.int (0+(i:Int))),some (.str x)] H3:=fun x t2 ms2 ws2 us2 js2 H3 b1 b2 b3 b4 b5 b6 b7 b8 b9 an=>by
   refine ag _ _ ⟨_,rfl,.inl ⟨rfl,_,SqL.of b6⟩,_,rfl,r,_,_,rfl,rfl,b6,by rw [List.length_map];lia,d1 _ _ ?_⟩
   refine ⟨t2,ms2,ws2,fs++[x],us2,js2,_,_,rfl,⟨by rw [qA8 a7.symm];exact b1.dict,by rw [qA8 a6.symm];exact b1.list,b1.ne,b1.len,b1.pos⟩,b2,by lia,fun b o e n1 n2=>by rw [qA8 (qA4 e ae)];exact b4 b o e n1 n2,by rw [qA8 a4];exact b5,by rw [qA1,List.map_append];rfl,by rw [List.length_append,l1];rfl,b7,b8,b9,an⟩
  clear ag;have v:M1 [some (.ref d),some (.int m),some (.ref l),some (.int (p:Int)),some (.int wy),some (.ref r),some (.int (0+(i:Int))),some (.str (qHW p i))] Hc:=by
   refine a5 _ t' ms ws us (js++[i]) Hc S4 a1 (by lia) K6 g1 g2 ?_ p2 ?_ fun j hj=>?_
   ·rw [List.map_append,<- List.append_assoc];exact p1.append_right _
   ·exact List.pairwise_append.mpr ⟨up,List.pairwise_singleton _ _,fun a ha b hb=>by rw [List.mem_singleton.mp hb];exact jb a ha⟩
   ·rcases List.mem_append.mp hj with hj | hj
    ·have:=jb j hj;lia
    ·rw [List.mem_singleton.mp hj];lia
  refine ⟨_,rfl,_,_,rfl,rfl,_,rfl,?_⟩;refine ite2 (fun c1=>?_) fun c1=>iteF v;refine ⟨_,rfl,_,_,rfl,rfl,(by show (0:Int)<3;decide),_,rfl,_,_,rfl,rfl,rfl,_,rfl,?_⟩
  refine ite2 (fun c2=>?_) fun c2=>iteF v;refine ⟨_,rfl,(by show 0<=sizeLine;decide),fun e he=>⟨l,e,_,rfl,rfl,SqL.of (by rw [qA8 (qA4 g1 he)];exact g1),SqL.of qA1,_,rfl,?_⟩⟩
  have se:=qA3 he (.lst []);have Se:=S4.same se;have ge:=se _ _ g1;have gf:=se _ _ g2;have Ke:=K6.trans (.of_same (d:=d) (c:=c) se);generalize Af Hc e (.lst [])=H5 at Se ge gf Ke ⊢;have a3:M1 [some (.ref d),some (.int m),some (.ref l),some (.int (p:Int)),some (.int wy),some (.ref r),some (.int (0+(i:Int))),some (.str (qHW p i))] H5:=by
   refine a5 _ t' ms ws us (js++[i]) H5 Se a1 (by lia) Ke ge gf ?_ p2 ?_ fun j hj=>?_
   ·rw [List.map_append,<- List.append_assoc];exact p1.append_right _
   ·exact List.pairwise_append.mpr ⟨up,List.pairwise_singleton _ _,fun a ha b hb=>by rw [List.mem_singleton.mp hb];exact jb a ha⟩
   ·rcases List.mem_append.mp hj with hj | hj
    ·have:=jb j hj;lia
    ·rw [List.mem_singleton.mp hj];lia
  cases ws with
  | nil=>exact a3
  | cons w0' ws0=>
   have lw:(w0'::ws0).length<=16:=by
    have:=p2.length_eq;rw [List.length_append] at this;have:w16.length=16:=rfl
    lia
   refine ⟨_,rfl,.inl ⟨rfl,_,SqL.of ge⟩,_,rfl,_,rfl,l,_,rfl,.inl (SqL.of ge),d,c,t',ms,_,rfl,Se,(by show t'<=1000000000;lia),by simp;lia,by rw [List.length_map];lia,fun k ms2 H6 k0 k1 S6 K7=>?_⟩
   rw [List.length_map] at k1;have g6:=K7 _ _ ge a8 a9;have hk:k.toNat<(w0'::ws0).length:=by lia
   have hy:(w0'::ws0)[k.toNat]?=some ((w0'::ws0)[k.toNat]):=List.getElem?_eq_getElem hk;generalize (w0'::ws0)[k.toNat]=y at hy;refine ⟨l,_,k,k.toNat,.str y,rfl,rfl,g6,by lia,by lia,qN9 k0 (by rw [List.length_map];exact k1),by rw [List.getElem?_map,hy];rfl,?_⟩
   have pe:=qML hy;refine a5 y (t'+1) ms2 ((w0'::ws0).eraseIdx k.toNat) (us++[y]) js _ ⟨by rw [qA8 a8.symm];exact S6.dict,by rw [qA8 a9.symm];exact S6.list,S6.ne,S6.len,S6.pos⟩ (by lia) (by lia) (fun b o e n1 n2=>?_) ?_ (by rw [qA8 a4.symm];exact K7 _ _ gf a7 a6) ?_ ?_ up fun j hj=>by have:=jb j hj;lia
   ·have hb:b ≠ l:=qA4 e a0;rw [qA8 hb];exact (Ke.trans K7) b o e n1 n2
   ·rw [qA1,qIA]
   ·rw [List.append_assoc];exact (p1.append_right [y]).trans (by rw [List.append_assoc];exact (List.perm_append_comm).append_left us)
   ·rw [List.append_assoc];exact (pe.append_left us).trans p2
 ·refine fun σ Hc aa=>opq fun aw ai=>?_;obtain ⟨t',ms,ws,fs,us,js,v6,v7,rfl,S4,a1,a2,K6,g1,g2,l1,p1,p2,up,jb⟩:=aa;refine ai ?_;refine am _ _ ?_;exact ⟨_,rfl,q r fs t' ms Hc S4 a1 (by lia) K6 ae g2 (qXY p1 p2 up fun j hj=>by have:=jb j hj;lia) (by lia)⟩
theorem sc_Lmixed:FnScope ["_law_state","_law_some","_law_rest","_law_found"] ["_law_state","_law_some"] (qAB qKG):=qC1
theorem ok_Lmixed (F:Fun K "_law_mixed" "_law_mixed" qKG f fd) (qAL:Clb P w K mg base 1 qDV qDK "_law_take" ["_law_state","_law_many"] qG8) (a9:mg "list" = none) (qAP:mg "len" = none):FnOk P w K mg base CX0 2 f fd ["_law_state","_law_some"] (qQE K):=by
 refine F.okA sc_Lmixed fun ah A aa s H vs Q E hr h=>?_;obtain ⟨d,c,t,ns,p,r,rfl,S,ht,hp,hl,q⟩:=h;have ae:=hr.units0;refine ⟨_,(qA5 (qAG (i:=2) sc_Lmixed.nd rfl (Or.inl rfl) (qAK qFP rfl a9 qOD (qA0 (pv 1) qA2))) (qA5 (qAG (i:=3) sc_Lmixed.nd rfl (Or.inl rfl) (qB8 qA2)) (qA5 (qXP PassesOwn.never (qAD (qFK ae) (pv 2) (qB8 qA2) (qAH _)) (qA6 (qBR (qCI PySem.F.plainAttrs_list PySem.F.slot_list_append PySem.F.type_list_append qBQ (pv 3) (qA0 (qCI PySem.F.plainAttrs_list PySem.F.slot_list_pop PySem.F.type_list_pop qKJ (pv 2) (qA0 (qAQ qAL hr rfl (qA0 (pv 0) (qA0 (qAA qA9 rfl qAP qAO (qA0 (pv 2) qA2)) qA2))) qA2)) qA2))))) (qA6 (qAF (pv 3)))))),?_⟩
 try dsimp only [Cx.nox,Cx.wish,cxOf]
 have hs:=sizeLine_eq;have ag:t<=1000000000 - 1000:=ht;refine cut fun N0 a4=>?_;refine ⟨_,rfl,p,r,rfl,hp,fun a j=>a4 _ _ (cut fun N1 a7=>?_)⟩;clear a4;have s1:=qA3 j (.lst r);refine ⟨(by show 0<=sizeLine;decide),fun g m=>a7 _ _ (cut fun N2 af=>?_)⟩
 clear a7;have g1:(Af H a (.lst r)) a=some (.lst r):=qA1;have x:a ≠ g:=qA4 g1 m;have v:a ≠ d:=(qA4 S.dict j).symm;have a3:a ≠ c:=(qA4 S.list j).symm;have l:H g=none:=s1.free m;have a6:g ≠ d:=(qA4 S.dict l).symm;have a5:g ≠ c:=(qA4 S.list l).symm;have s2:=s1.trans (qA3 m (.lst []));refine ⟨fun n σ u=>∃ (t':Int) (ms:List Int) (rs ys:List V),σ=[some (.ref d),some (.ref p),some (.ref a),some (.ref g)]/\n=rs.length/\StAt u d c t' ms/\t<=t'/\t'=t+ys.length/\Keep d c H u/\u a=some (.lst rs)/\u g=some (.lst ys)/\(ys++rs).Perm r,
  ⟨_,t,ns,r,[],rfl,rfl,S.same s2,by lia,by simp,.of_same s2,qA3 m _ _ _ g1,qA1,.refl _⟩,?_⟩
 refine fun n σ u a8=>opq fun ai a0=>?_;obtain ⟨t',ms,rs,ys,rfl,rfl,S3,a1,a2,K3,g3,g4,pm⟩:=a8;refine a0 ?_;have ab:ys.length+rs.length<=60:=by
  have:=pm.length_eq;rw [List.length_append] at this
  lia
 refine ⟨_,rfl,(by show 0<=sizeLine;decide),fun e he=>⟨a,e,_,rfl,rfl,SqL.of (by rw [qA8 (qA4 g3 he)];exact g3),SqL.of qA1,_,rfl,?_⟩⟩
 have se:=qA3 he (.lst []);have Se:=S3.same se;have ge:=se _ _ g3;have gf:=se _ _ g4;have Ke:=K3.trans (.of_same (d:=d) (c:=c) se);generalize Af u e (.lst [])=H5 at Se ge gf Ke ⊢;cases rs with
 | nil=>
  refine iteF (af _ _ ⟨_,rfl,q g ys t' ms H5 Se a1 (by lia) Ke l gf (by simpa using pm)⟩)
 | cons x0 rs0=>
  refine iteT ⟨fun σ' z=>∃ (t':Int) (ms:List Int) (rs ys:List V),σ'=[some (.ref d),some (.ref p),some (.ref a),some (.ref g)]/\rs.length=rs0.length/\StAt z d c t' ms/\t<=t'/\t'=t+ys.length/\Keep d c H z/\z a=some (.lst rs)/\z g=some (.lst ys)/\(ys++rs).Perm r,fun σ' z ⟨t',ms,rs,ys,e1,e2,h⟩=>⟨rs.length,by rw [e2];exact Nat.lt_succ_self _,t',ms,rs,ys,e1,rfl,h⟩,?_⟩
  rw [List.length_cons] at ab;refine ⟨_,rfl,.inl ⟨rfl,_,SqL.of gf⟩,_,rfl,.inl ⟨rfl,_,SqL.of ge⟩,_,rfl,_,rfl,a,_,rfl,.inl (SqL.of ge),d,c,t',ms,_,rfl,Se,(by show t'<=1000000000;lia),by rw [List.length_cons];lia,by rw [List.length_cons];lia,fun k ac H6 k0 k1 S6 K7=>?_⟩
  have g6:=K7 _ _ ge v a3;have hk:k.toNat<(x0::rs0).length:=by lia
  have k2:k<61:=by rw [List.length_cons] at k1;lia
  have hy:(x0::rs0)[k.toNat]?=some ((x0::rs0)[k.toNat]):=List.getElem?_eq_getElem hk;generalize (x0::rs0)[k.toNat]=y at hy;refine ⟨a,_,k,k.toNat,y,rfl,rfl,g6,by lia,by lia,qN9 k0 k1,hy,?_⟩
  have pe:=qML hy;have ad:=K7 _ _ gf a6 a5;refine ⟨g,_,_,rfl,rfl,by rw [qA8 x.symm];exact ad,by lia,?_⟩
  refine ⟨t'+1,ac,(x0::rs0).eraseIdx k.toNat,ys++[y],rfl,by rw [List.length_eraseIdx_of_lt hk,List.length_cons];rfl,⟨by rw [qA8 a6.symm,qA8 v.symm];exact S6.dict,by rw [qA8 a5.symm,qA8 a3.symm];exact S6.list,S6.ne,S6.len,S6.pos⟩,by lia,by rw [List.length_append,List.length_singleton];lia,fun b o e n1 n2=>?_,?_,qA1,?_⟩
  ·rw [qA8 (qA4 e l),qA8 (qA4 e j)];exact (Ke.trans K7) b o e n1 n2
  ·rw [qA8 x];exact qA1
  ·rw [List.append_assoc];exact (pe.append_left ys).trans pm
theorem sc_Lhead:FnScope ["_law_state","_law_names_here","_law_net_here","_law_rooms","_law_found","_law_name","_law_needs"] ["_law_state","_law_names_here","_law_net_here","_law_rooms"] (qAB qNG):=qC1
theorem ok_Lhead (F:Fun K "_law_head" "_law_head" qNG f fd) (ar:Clb P w K mg base 2 qKL qPS "_law_mixed" ["_law_state","_law_some"] (qQE K)) (as:mg "str" = none) (ax:mg "zip" = none):FnOk P w K mg base CX0 3 f fd ["_law_state","_law_names_here","_law_net_here","_law_rooms"] qYZ:=by
 refine F.okA sc_Lhead fun ba A ay s H vs Q E hr h=>?_;obtain ⟨d,c,t,ns,ln,a,nm,y,r,rfl,S,ht,a0,a4,hA,wf,nl,av,ok,r0,r1,q⟩:=h;refine ⟨_,(qA5 (qAG (i:=4) sc_Lhead.nd rfl (Or.inl rfl) (qB8 (qA0 (qAR qDO qAC (qAK qK2 rfl as qSO (qA0 (pv 3) qA2))) qA2))) (qA5 (qFI PassesOwn.never rfl (qaM rfl ax qdW (qA0 (pv 1) (qA0 (pv 2) qA2))) (qL4 rfl (qBU (qBS (i:=5) sc_Lhead.nd rfl (Or.inl rfl)) (qBU (qBS (i:=6) sc_Lhead.nd rfl (Or.inl rfl)) qGN))) (qA6 (qBR (qCI PySem.F.plainAttrs_list PySem.F.slot_list_append PySem.F.type_list_append qBQ (pv 4) (qA0 (qCI PySem.F.plainAttrs_str PySem.F.slot_str_join PySem.F.type_str_join qJC qAC (qA0 (qAR qHO (qB8 (qA0 qAC (qA0 (pv 5) qA2))) (qJ3 rfl (lcs (own:=["_law_need"]) (fv:=[1]) (by kernel_rfl)) (qGM (qAQ ar hr rfl (qA0 (pv 0) (qA0 (pv 6) qA2)))) (fun z1=>qF2 0) (fun z1=>qCQ) (fun z1=>(qBB (qSB (K:=K) rfl) (pv 1) (pv 0) (fun _ _=>rfl))))) qA2)) qA2))))) (qA6 (qAF (pv 4))))),?_⟩
 try dsimp only [Cx.nox,Cx.wish,cxOf]
 have hs:=sizeLine_eq;have b8:t<=1000000000 - 10000:=ht;have a3:ln ≠ d:=qDZ a0 S.dict (by intro z;cases z)
 obtain ⟨rs,p,ak⟩:=hA;have b6:=NetAt.len ak;refine cut fun N0 a9=>?_;refine ⟨_,rfl,r,rfl,qPH r0 r1,_,_,rfl,rfl,?_,(by show 1<=sizeLine;decide),fun fo m=>a9 _ _ (cut fun N1 b3=>?_)⟩
 ·have:=qaX r0 r1;have:(Str.ofString "rooms ").length=6:=by decide
  lia
 clear a9;have ai:fo ≠ d:=(qA4 S.dict m).symm;have ah:fo ≠ c:=(qA4 S.list m).symm;have s1:=qA3 m (.lst [.str (hrow r)]);refine ⟨_,rfl,_,rfl,false,true,ln,a,rfl,⟨_,SqB.of (b:=false) (s1 _ _ a0)⟩,⟨_,SqB.of (b:=true) (s1 _ _ p)⟩,qY9 (b:=false) (b':=true) (xs:=nm.map V.str) (ys:=rs.map V.ref) (by rw [List.length_map,List.length_map];lia) (fun i σ Hc=>∃ (t':Int) (ms:List Int) (qss:List (List Int)) (v5 v6:Option V),σ=[some (.ref d),some (.ref ln),some (.ref a),some (.int r),some (.ref fo),v5,v6]/\StAt Hc d c t' ms/\t<=t'/\t'<=t+60 * i/\Keep d c H Hc/\Hc fo=some (.lst ((hrow r::wr nm 0 qss).map V.str))/\Paired List.Perm qss (y.take i))
  ⟨t,ns,[],none,none,rfl,S.same s1,by lia,by lia,.of_same s1,qA1,by rw [List.take_zero];exact .nil⟩ ?_ ?_ ?_⟩
 ·refine fun i σ Hc _ a7=>opq fun b5 af=>?_;obtain ⟨t',ms,qss,v5,v6,rfl,S2,_,_,K2,_,_⟩:=a7;refine af ?_;exact ⟨SqB.of (b:=false) (K2 _ _ a0 a3 a4),SqB.of (b:=true) (K2 _ _ p (S.tup p).1 (S.tup p).2)⟩
 ·refine fun i x' y' σ Hc T ex ey a6 hT=>opq fun b7 ap=>?_;obtain ⟨t',ms,qss,v5,v6,rfl,S2,a1,a2,K2,g2,pm⟩:=a6;refine ap ?_;rw [List.getElem?_map] at ex ey;obtain ⟨x,e1,rfl⟩:=Option.map_eq_some_iff.mp ex;obtain ⟨b,e2,rfl⟩:=Option.map_eq_some_iff.mp ey;have li:i<nm.length:=(List.getElem?_eq_some_iff.mp e1).1;have hz:y[i]?=some (y[i]'(by lia)):=List.getElem?_eq_getElem (by lia)
  generalize y[i]'(by lia)=zs at hz
  obtain ⟨b',e3,gb⟩:=ak.get hz;rw [e2] at e3;cases e3;have rz:=wf i zs hz;have au:=K2 _ _ gb (S.tup gb).1 (S.tup gb).2;have nx:nmAt nm (i:Int)=x:=by
   have:=qE2 (nm:=nm) (z:=(i:Int)) (by lia) (by lia)
   rw [Int.toNat_natCast,e1] at this;exact (Option.some.inj this).symm
  refine ⟨T,_,rfl,SqT.of qA1,rfl,_,_,rfl,_,_,rfl,rfl,?_⟩;have sT:=qA3 hT (.tup [.str x,.ref b]);have S3:=S2.same sT;have K3:=K2.trans (.of_same (d:=d) (c:=c) sT);have g3:=sT _ _ g2;have aj:=sT _ _ au;generalize Af Hc T (.tup [.str x,.ref b])=H3 at S3 K3 g3 aj ⊢;refine ⟨_,rfl,.inl ⟨rfl,_,SqL.of g3⟩,rfl,_,rfl,(by show 2<=sizeLine;decide),fun p1 a5=>?_⟩
  have s4:=qA3 a5 (.lst [.str (Str.ofString "work"),.str x]);have S4:=S3.same s4;have a8:p1 ≠ d:=(qA4 S3.dict a5).symm;have ao:p1 ≠ c:=(qA4 S3.list a5).symm;have K4:=K3.trans (.of_same (d:=d) (c:=c) s4);have g4:=s4 _ _ g3;have h1:(Af H3 p1 (.lst [.str (Str.ofString "work"),.str x])) p1=_:=qA1;have ae:=s4 _ _ aj;generalize Af H3 p1 (.lst [.str (Str.ofString "work"),.str x])=H4 at S4 K4 g4 h1 ae ⊢;have lz:=rz.len;refine ⟨_,rfl,_,rfl,d,c,t',ms,b,zs.map V.int,rfl,S4,(by show t'<=1000000000 - 1000;lia),.inr (SqT.of ae),by rw [List.length_map];lia,fun l ys t2 b0 H5 S5 b1 b2 K5 fl gl py=>?_⟩
  obtain ⟨n,rfl,pq⟩:=qV2 py;have hq:∀ q ∈ n,0<=q/\q<(i:Int):=fun q hm=>rz.in_ q (pq.mem_iff.mp hm);have az:n.Nodup:=pq.nodup_iff.mpr rz.nodup;have lq:n.length<=i:=by rw [pq.length_eq];exact lz
  have ab:H5 ln=some (.lst (nm.map V.str)):=K5 _ _ (K4 _ _ a0 a3 a4) a3 a4;have g5:=K5 _ _ g4 ai ah;have aw:=K5 _ _ h1 a8 ao;have K6:=K4.trans K5;refine ⟨l,rfl,⟨_,SqL.of gl⟩,fun p3 ag=>qLC (xs:=n.map V.int) (fun j σ Hi=>∃ v,σ=[v,some (.ref ln)]/\Same H5 Hi/\Hi p3=some (.lst (((n.take j).map (nmAt nm)).map V.str))) ⟨none,rfl,qA3 ag _,qA1⟩ ?_ ?_ ?_⟩
  ·rintro j σ Hi _ ⟨v,rfl,sm,_⟩;exact SqL.of (sm _ _ gl)
  ·refine fun j z' σ Hi ez al=>opq fun bb ac=>?_;obtain ⟨v,rfl,sm,g⟩:=al;refine ac ?_;rw [List.getElem?_map] at ez;obtain ⟨z,e5,rfl⟩:=Option.map_eq_some_iff.mp ez;have zb:=hq z (List.mem_of_getElem? e5);refine ⟨_,rfl,_,rfl,ln,_,_,_,rfl,rfl,SqL.of (sm _ _ ab),qSD zb.1 (by rw [List.getElem?_map,qE2 zb.1 (by lia)];rfl),_,g,?_,_,rfl,fun b u e=>by rw [qA8 (qA4 e ag)];exact sm b u e,by rw [qA1,qOU e5]⟩
   rw [List.length_map,List.length_map,List.length_take]
   lia
  ·refine fun σ Hi an=>opq fun b4 am=>?_;obtain ⟨v,rfl,sm,g⟩:=an;refine am ?_;rw [List.length_map,List.take_of_length_le (Nat.le_refl _)] at g;obtain ⟨w1,w2⟩:=qTX ok (k:=i) li av hq az;refine ⟨p1,p3,_,_,rfl,rfl,sm _ _ aw,g,?_,fun p4 aq=>?_⟩
   ·rw [List.length_map,List.length_map];show 2+n.length<=sizeLine
    lia
   have s7:=sm.trans (qA3 aq (.lst ([.str (Str.ofString "work"),.str x]++(n.map (nmAt nm)).map V.str)));refine ⟨_,p4,Str.ofString "work" :: nmAt nm (i:Int)::n.map (nmAt nm),rfl,rfl,SqL.of (by rw [nx];exact qA1),?_,?_⟩
   ·have:(Str.ofString " ").length=1:=by decide
    rw [this,Nat.mul_one]
    lia
   have g7:=s7 _ _ g5;have lr:qss.length=i:=by
    have:=Paired.length pm;rw [List.length_take] at this
    lia
   refine ⟨fo,_,_,rfl,rfl,g7,?_,?_⟩
   ·have lw:∀ k (l:List (List Int)),(wr nm k l).length=l.length:=fun k l=>by
     induction l generalizing k with
     | nil=>rfl
     | cons q r ih=>show (wr nm (k+1) r).length+1=_;rw [ih];rfl
    rw [List.length_map,List.length_cons,lw]
    lia
   have S7:=S5.same s7;refine ⟨t2,b0,qss++[n],_,_,rfl,⟨by rw [qA8 ai.symm];exact S7.dict,by rw [qA8 ah.symm];exact S7.list,S7.ne,S7.len,S7.pos⟩,by lia,by lia,fun b o e n1 n2=>?_,?_,qJZ pm hz pq⟩
   ·rw [qA8 (qA4 e m)];exact s7 _ _ (K6 b o e n1 n2)
   ·rw [qA1,qTU,lr,Nat.zero_add];show some (HO.lst (_++[V.str (wrow nm i n)]))=_;rw [<- List.cons_append,List.map_append]
    rfl
 ·refine fun σ Hc ad=>opq fun b9 aa=>?_;obtain ⟨t',ms,qss,v5,v6,rfl,S2,a1,a2,K2,g2,pm⟩:=ad;refine aa ?_;rw [List.length_map] at pm a2;rw [List.take_of_length_le (by lia)] at pm
  exact b3 _ _ ⟨_,rfl,q fo qss t' ms Hc S2 a1 (by lia) K2 m g2 pm⟩
theorem sc_Ldeed_words:FnScope ["_law_names_here","_law_deed","_law_words","_law_part"] ["_law_names_here","_law_deed"] (qAB qDJ):=qC1
theorem ok_Ldeed_words (F:Fun K "_law_deed_words" "_law_deed_words" qDJ f fd) (ah:mg "isinstance" = none) (qB5:mg "tuple" = none) (af:mg "str" = none):FnOk P w K mg base CX0 1 f fd ["_law_names_here","_law_deed"] qRN:=by
 refine F.okA sc_Ldeed_words fun ap A ai s H vs Q E hr h=>?_;obtain ⟨ln,v,nm,dd,rfl,ae,hd,ok,q⟩:=h;refine ⟨_,(qA5 (qAG (i:=2) sc_Ldeed_words.nd rfl (Or.inl rfl) (qB8 (qA0 (qBB qSA (pv 1) qA7 (fun _ _=>rfl)) qA2))) (qA5 (qFI PassesOwn.never rfl (qUZ (qBN qcQ (pv 1) (qCR qA7) qCS)) (qBS (i:=3) sc_Ldeed_words.nd rfl (Or.inl rfl)) (qA6 (qAZ (qD4 (qAA qC7 rfl ah qB2 (qA0 (pv 3) (qA0 (qF4 (v:=.ty "tuple") rfl qB5 qBD rfl) qA2)))) (qA6 (qBR (qCI PySem.F.plainAttrs_list PySem.F.slot_list_extend PySem.F.type_list_extend qVB (pv 2) (qA0 (qJ3 rfl (lcs (own:=["_law_work"]) (fv:=[0]) (by kernel_rfl)) (qUZ (pv 3)) (fun z2=>qF2 0) (fun z2=>qCQ) (fun z2=>(qBB (qSB (K:=K) rfl) (pv 1) (pv 0) (fun _ _=>rfl)))) qA2)))) (qA6 (qAZ (qAD qC5 (qBB qSA (pv 1) qA7 (fun _ _=>rfl)) qAC (qAH _)) (qA6 (qBR (qCI PySem.F.plainAttrs_list PySem.F.slot_list_append PySem.F.type_list_append qBQ (pv 2) (qA0 (qAK qK2 rfl af qSO (qA0 (pv 3) qA2)) qA2)))) (qA6 (qBR (qCI PySem.F.plainAttrs_list PySem.F.slot_list_append PySem.F.type_list_append qBQ (pv 2) (qA0 (qBB qAM (pv 0) (pv 3) (fun _ _=>rfl)) qA2))))))))) (qA6 (qAF (pv 2))))),?_⟩
 try dsimp only [Cx.nox,Cx.wish,cxOf]
 have hs:=sizeLine_eq;obtain ⟨p,d,xs,a,rfl,hp,pp,e0,l2⟩:=qTG hd ok;rw [e0] at q;refine cut fun N0 a9=>?_;refine ⟨_,rfl,p,_,_,_,rfl,rfl,SqT.of hp,qAN (j:=0) rfl,(by show 1<=sizeLine;decide),fun c a0=>a9 _ _ (cut fun N1 ak=>?_)⟩
 clear a9;have s1:=qA3 a0 (.lst [.str d]);refine ⟨_,rfl,_,rfl,p,_,rfl,SqT.of (s1 _ _ hp),?_,fun p2 ab=>?_⟩
 ·intro z;have:=z.1;rw [show (1:Int)=((1:Nat):Int) from rfl,HT.sIx_nat,List.length_cons] at this
  lia
 have ec:cutV (V.str d::xs) (some 1) none=xs:=by
  have:=qG6 id (V.str d::xs) (some ((1:Nat):Int)) none;rw [qLM _ 1 (by simp),List.map_id,List.map_id] at this
  exact this
 rw [ec];have s2:=s1.trans (qA3 ab (.tup xs));have gp:(Af (Af H c (.lst [.str d])) p2 (.tup xs)) p2=_:=qA1;have gl:(Af (Af H c (.lst [.str d])) p2 (.tup xs)) c=some (.lst [.str d]):=qA3 ab _ _ _ qA1;generalize Af (Af H c (.lst [.str d])) p2 (.tup xs)=H2 at s2 gp gl ⊢;refine ⟨p2,rfl,⟨_,SqT.of gp⟩,qbG (xs:=xs) (fun i σ y=>∃ (v3:Option V),σ=[some (.ref ln),some (.ref p),some (.ref c),v3]/\KeepL [c] H2 y/\y c=some (.lst ((d::(a.take i).flatten).map V.str))) ⟨none,rfl,KeepL.of_same (Same.refl _),gl⟩ ?_ ?_ ?_⟩
 ·rintro i σ y _ ⟨v3,rfl,k,_⟩;exact SqT.of (k _ _ gp (by intro z;rw [List.mem_singleton.mp z,gl] at gp;cases gp))
 ·refine fun i x σ y ex ad=>opq fun ao ac=>?_;obtain ⟨v3,rfl,k,g⟩:=ad;obtain ⟨ws,ew,pk⟩:=qFJ pp ex;refine ac ?_;have fs:=qVZ ew;have li:i<xs.length:=(List.getElem?_eq_some_iff.mp ex).1;have up:∀ b o,H b=some o->y b=some o:=fun b o e=>k _ _ (s2 _ _ e) (by intro z;rw [List.mem_singleton.mp z,a0] at e;cases e)
  have ag:∀ j,j<=2->j<=i+1->((a.take j).flatten).length<=8:=by
   intro j hj _;have aj:∀ (l:List V) (m:List (List Str)),Paired (qZS H d nm) l m->m.flatten.length<=4 * m.length:=by
    intro l m h
    induction h with
    | nil=>exact Nat.le_refl _
    | @cons a1 b1 _ _ r t ih=>
     rw [List.flatten_cons,List.length_append,List.length_cons];have:b1.length<=4:=by
      rcases r with ⟨t,ks,_,_,rfl,kk⟩ | ⟨n,_,_,rfl,_⟩ | ⟨n,_,_,rfl,_⟩
      ·rw [List.length_map];exact kk.2.2.2
      ·exact (by decide:1<=4)
      ·exact (by decide:1<=4)
     lia
   have h2:=aj _ _ pp;have l3:a.length<=2:=by rw [<- Paired.length pp];exact l2
   have:((a.take j).flatten).length<=a.flatten.length:=by
    have e:a.flatten=(a.take j).flatten++(a.drop j).flatten:=by rw [<- List.flatten_append,List.take_append_drop]
    rw [e,List.length_append]
    lia
   lia
  have f1:=ag i (by lia) (by lia)
  have a5:∀ (Hx:Hp) (ys:List V),KeepL [c] H2 Hx->ys=ws.map V.str->∃ v3,[some (.ref ln),some (.ref p),some (.ref c),some x]=[some (.ref ln),some (.ref p),some (.ref c),v3]/\KeepL [c] H2 (Af Hx c (.lst ((d::(a.take i).flatten).map V.str++ys)))/\(Af Hx c (.lst ((d::(a.take i).flatten).map V.str++ys))) c=some (.lst ((d::(a.take (i+1)).flatten).map V.str)):=fun Hx ys kx e=>⟨_,rfl,kx.trans (qC6 (by simp)),by rw [qA1,e,fs,<- List.map_append];rfl⟩
  refine nmI fun D1 d1 dr=>?_;rcases pk with ⟨t,ks,rfl,gt,rfl,kk⟩ | ⟨n,rfl,e1,rfl,n0,n1⟩ | ⟨n,rfl,e1,rfl,n0,n1⟩
  ·refine ⟨_,rfl,_,"tuple",_,true,rfl,TyOf.tup (up _ _ gt),qZB true,_,rfl,iteT ?_⟩;refine ⟨_,rfl,.inl ⟨rfl,_,SqL.of g⟩,_,rfl,t,rfl,⟨_,SqT.of (up _ _ gt)⟩,fun p3 aa=>qZA (xs:=ks.map V.int) (fun j σ Hi=>∃ v,σ=[v,some (.ref ln)]/\Same y Hi/\Hi p3=some (.lst (((ks.take j).map (nmAt nm)).map V.str))) ⟨none,rfl,qA3 aa _,qA1⟩ ?_ ?_ ?_⟩
   ·rintro j σ Hi _ ⟨v,rfl,sm,_⟩;exact SqT.of (sm _ _ (up _ _ gt))
   ·refine fun j z' σ Hi ez a6=>opq fun an a2=>?_;obtain ⟨v,rfl,sm,g5⟩:=a6;refine a2 ?_;rw [List.getElem?_map] at ez;obtain ⟨z,e5,rfl⟩:=Option.map_eq_some_iff.mp ez;have zb:=kk.2.1 z (List.mem_of_getElem? e5);have k4:=kk.2.2.2;refine ⟨_,rfl,_,rfl,ln,_,_,_,rfl,rfl,SqL.of (sm _ _ (up _ _ ae)),qSD zb.1 (by rw [List.getElem?_map,qE2 zb.1 zb.2];rfl),_,g5,?_,_,rfl,fun b u e=>by rw [qA8 (qA4 e aa)];exact sm b u e,by rw [qA1,qOU e5]⟩
    rw [List.length_map,List.length_map,List.length_take]
    lia
   ·refine fun σ Hi a4=>opq fun am a3=>?_;obtain ⟨v,rfl,sm,g5⟩:=a4;refine a3 ?_;rw [List.length_map,List.take_of_length_le (Nat.le_refl _)] at g5;have k4:=kk.2.2.2;exact ⟨c,p3,_,_,rfl,rfl,sm _ _ g,g5,by rw [List.length_map,List.length_map,List.length_map,List.length_cons];lia,d1 _ _ (a5 Hi _ (k.trans (.of_same sm)) rfl)⟩
  ·refine ⟨_,rfl,_,"tuple",_,false,rfl,TyOf.int n,qS7,_,rfl,iteF ?_⟩;refine ⟨_,rfl,p,_,_,_,rfl,rfl,SqT.of (up _ _ hp),qAN (j:=0) rfl,rfl,_,rfl,?_⟩;rw [decide_eq_true (by rw [e1])]
   refine iteT ⟨_,rfl,.inl ⟨rfl,_,SqL.of g⟩,_,rfl,n,rfl,qPH n0 n1,c,_,_,rfl,rfl,g,by rw [List.length_map,List.length_cons];lia,d1 _ _ (a5 y _ k rfl)⟩
  ·refine ⟨_,rfl,_,"tuple",_,false,rfl,TyOf.int n,qS7,_,rfl,iteF ?_⟩;refine ⟨_,rfl,p,_,_,_,rfl,rfl,SqT.of (up _ _ hp),qAN (j:=0) rfl,rfl,_,rfl,?_⟩;rw [decide_eq_false fun z=>e1 (V.str.inj z)];refine iteF ⟨_,rfl,.inl ⟨rfl,_,SqL.of g⟩,_,rfl,_,rfl,ln,_,_,_,rfl,rfl,SqL.of (up _ _ ae),qSD n0 (by rw [List.getElem?_map,qE2 n0 n1];rfl),c,_,_,rfl,rfl,g,by rw [List.length_map,List.length_cons];lia,d1 _ _ (a5 y _ k rfl)⟩
 ·refine fun σ y a8=>opq fun al a7=>?_;obtain ⟨v3,rfl,k,g⟩:=a8;refine a7 ?_;have l3:a.length=xs.length:=(Paired.length pp).symm;rw [List.take_of_length_le (by lia)] at g
  exact ak _ _ ⟨_,rfl,q c y (fun b o e=>k _ _ (s2 _ _ e) (by intro z;rw [List.mem_singleton.mp z,a0] at e;cases e)) a0 g⟩
theorem sc_Lany_deed:FnScope ["_law_state","_law_net_here","_law_word","_law_works"] ["_law_state","_law_net_here"] (qAB qF0):=qC1
theorem ok_Lany_deed (F:Fun K "_law_any_deed" "_law_any_deed" qF0 f fd) (qAL:Clb P w K mg base 1 qDV qDK "_law_take" ["_law_state","_law_many"] qG8) (qAP:mg "len" = none) (qBL:mg "range" = none) (qB5:mg "tuple" = none) (b0:mg "sorted" = none) (au:mg "set" = none):FnOk P w K mg base CX0 2 f fd ["_law_state","_law_net_here"] qOW:=by
 refine F.okA sc_Lany_deed fun bb A az s H vs Q E hr h=>?_;obtain ⟨d,c,t,ns,a,ad,rfl,S,ht,hA,n1,b7,q⟩:=h;refine ⟨_,(qA5 (qAG (i:=2) sc_Lany_deed.nd rfl (Or.inl rfl) (qBB qAM (qCI PySem.F.plainAttrs_str PySem.F.slot_str_split PySem.F.type_str_split qF5 qAC (qA0 qAC qA2)) (qAQ qAL hr rfl (qA0 (pv 0) (qA0 qA7 qA2))) (fun _ _=>rfl))) (qA5 (qAZ (qAD qC4 (pv 2) (qD5 (qA0 qAC (qA0 qAC (qA0 qAC (qA0 qAC qA2))))) (by with_unfolding_all rfl)) (qA6 (qAF (qD5 (qA0 (pv 2) qA2)))) qAJ) (qA5 (qAZ (qAD qC4 (pv 2) (qD5 (qA0 qAC (qA0 qAC (qA0 qAC (qA0 qAC qA2))))) (by with_unfolding_all rfl)) (qA6 (qAF (qD5 (qA0 (pv 2) (qA0 (qAQ qAL hr rfl (qA0 (pv 0) (qA0 (qAA qA9 rfl qAP qAO (qA0 (pv 1) qA2)) qA2))) qA2))))) qAJ) (qA5 (qAG (i:=3) sc_Lany_deed.nd rfl (Or.inl rfl) (qAK qAV rfl qB5 qBD (qA0 (qAA (qFA rfl) rfl b0 qIK (qA0 (qAK (qOB rfl) rfl au qMV (qA0 (qJ3 rfl (lcs (own:=["_law_turn"]) (fv:=[0,1]) (by kernel_rfl)) (qC3 rfl qBL (qA0 (qAR qD8 qA7 (qAQ qAL hr rfl (qA0 (pv 0) (qA0 qA7 qA2)))) qA2)) (fun z1=>qF2 0) (fun z1=>qCQ) (fun z1=>(qAQ qAL hr rfl (qA0 (pv 1) (qA0 (qAA (qWO (K:=K) rfl) rfl qAP qAO (qA0 (pv 2) qA2)) qA2))))) qA2)) qA2)) qA2))) (qA5 (qAZ (qAD qC5 (pv 2) qAC (qAH _)) (qA6 (qAF (qD5 (qA0 (pv 2) (qA0 (qBB qAM (qB8 (qA0 (qAR qD8 qA7 (qAQ qAL hr rfl (qA0 (pv 0) (qA0 qA7 qA2)))) (qA0 (qAR qD8 qA7 (qAQ qAL hr rfl (qA0 (pv 0) (qA0 qA7 qA2)))) qA2))) (qAQ qAL hr rfl (qA0 (pv 0) (qA0 qA7 qA2))) (fun _ _=>rfl)) (qA0 (pv 3) qA2)))))) qAJ) (qA6 (qAF (qD5 (qA0 (pv 2) (qA0 (pv 3) qA2)))))))))),?_⟩
 try dsimp only [Cx.nox,Cx.wish,cxOf]
 have hs:=sizeLine_eq;have ba:t<=1000000000 - 1000:=ht;obtain ⟨rs,ab,aq⟩:=hA;have b8:=NetAt.len aq;have nA:=S.tup ab;refine cut fun N0 aa=>?_;refine ⟨rfl,_,_,rfl,rfl,by decide,by rw [hs];decide +kernel,fun ls a0=>?_⟩
 rw [qa7];have aw:ls ≠ d:=(qA4 S.dict a0).symm;have ax:ls ≠ c:=(qA4 S.list a0).symm;refine ⟨_,rfl,d,c,t,ns,13,rfl,S.new a0 (.lst (w13.map V.str)),(by show t<=1000000000;lia),by decide,by decide,fun k a6 H1 k0 bc S1 K1=>?_⟩
 have g1:=K1 _ _ (qA1 (H:=H) (o:=.lst (w13.map V.str))) aw ax;have K2:Keep d c H H1:=(qCA a0 _).trans K1;have hk:k.toNat<w13.length:=by have:w13.length=13:=rfl;lia
 have hw:w13[k.toNat]?=some (w13[k.toNat]):=List.getElem?_eq_getElem hk;generalize w13[k.toNat]=g at hw;have a3:=qU2 g (List.mem_of_getElem? hw);refine ⟨ls,_,_,_,rfl,rfl,SqL.of g1,qSD k0 (by rw [List.getElem?_map,hw];rfl),aa _ _ ?_⟩
 clear aa hw hk g1;have gA:=K2 _ _ ab nA.1 nA.2;refine ⟨_,rfl,(by show 4<=sizeLine;decide),fun p j=>⟨p,[.str "back",.str "stand",.str "moves",.str "count"],rfl,.inr (SqT.of qA1),rfl,rfl,_,rfl,?_⟩⟩
 rw [show inV (.str g) [.str "back",.str "stand",.str "moves",.str "count"]=decide (g ∈ qBI) from qCM g qBI];have sp:=qA3 j (.tup [.str "back",.str "stand",.str "moves",.str "count"]);have S2:=S1.same sp;have K3:=K2.trans (.of_same (d:=d) (c:=c) sp);have a4:=sp _ _ gA;generalize Af H1 p (.tup [.str "back",.str "stand",.str "moves",.str "count"])=H2 at S2 K3 a4 ⊢;clear sp j gA K2 S1 K1;refine ite2 (fun c1=>?_) fun c1=>?_
 ·refine ⟨_,rfl,(by show 1<=sizeLine;decide),fun o ho=>?_⟩
  have so:=qA3 ho (.tup [.str g]);exact q _ (.al g) (t+1) a6 _ (S2.same so) (by lia) (by lia) (K3.trans (.of_same so)) ⟨o,rfl,qA1⟩ (show g ∈ qBI from of_decide_eq_true c1)
 have ao:g ∉ qBI:=fun z=>c1 (decide_eq_true z);refine ⟨_,rfl,(by show 4<=sizeLine;decide),fun p j=>⟨p,[.str "do",.str "clear",.str "tree",.str "cut"],rfl,.inr (SqT.of qA1),rfl,rfl,_,rfl,?_⟩⟩
 rw [show inV (.str g) [.str "do",.str "clear",.str "tree",.str "cut"]=decide (g ∈ oneL) from qCM g oneL]
 have sp:=qA3 j (.tup [.str "do",.str "clear",.str "tree",.str "cut"])
 have S3:=S2.same sp;have K4:=K3.trans (.of_same (d:=d) (c:=c) sp);have a5:=sp _ _ a4;generalize Af H2 p (.tup [.str "do",.str "clear",.str "tree",.str "cut"])=H3 at S3 K4 a5 ⊢
 clear sp j a4 K3 S2;refine ite2 (fun c2=>?_) fun c2=>?_
 ·refine ⟨_,rfl,_,rfl,_,rfl,a,_,rfl,.inr (SqT.of a5),d,c,t+1,a6,_,rfl,S3,(by show t+1<=1000000000;lia),by rw [List.length_map];lia,by rw [List.length_map];lia,fun n ms H4 n0 nn S4 K5=>⟨(by show 2<=sizeLine;decide),fun o ho=>?_⟩⟩
  rw [List.length_map] at nn;have so:=qA3 ho (.tup [.str g,.int n]);exact q _ (.on g n) (t+1+1) ms _ (S4.same so) (by lia) (by lia) ((K4.trans K5).trans (.of_same so)) ⟨o,rfl,qA1⟩ ⟨of_decide_eq_true c2,n0,by lia⟩
 have as:g ∉ oneL:=fun z=>c2 (decide_eq_true z);have k3:g ∈ qDE\/g=Str.ofString "steps":=by
  rcases a3 with z | z | z
  ·exact absurd z ao
  ·exact absurd z as
  ·exact z
 refine ⟨_,rfl,d,c,t+1,a6,4,rfl,S3,(by show t+1<=1000000000;lia),by decide,by decide,fun n an H4 n0 n4 S4 K5=>?_⟩
 have K6:=K4.trans K5;have ak:=K5 _ _ a5 nA.1 nA.2;refine ⟨_,_,rfl,rfl,1+n,rfl,by lia,by lia,fun p j=>qG4 (p:=p) (lo:=0) (n:=(1+n).toNat) (fun i σ Hc=>∃ (t':Int) (ms fs:List Int) (v:Option V),σ=[v,some (.ref d),some (.ref a)]/\StAt Hc d c t' ms/\t<=t'/\t'<=t+2+i/\Keep d c H4 Hc/\Hc p=some (.lst (fs.map V.int))/\fs.length=i/\∀ x ∈ fs,0<=x/\x<(ad.length:Int)) ?_ ?_ ?_⟩
 ·exact ⟨t+1+1,an,[],none,rfl,S4.new j _,by lia,by lia,qCA j _,qA1,rfl,fun _ z=>nomatch z⟩
 ·refine fun i σ Hc hi a9=>opq fun b5 ac=>?_;obtain ⟨t',ms,fs,v,rfl,S5,a1,a2,K7,gp,lf,fb⟩:=a9;refine ac ?_;have ah:p ≠ d:=(qA4 S4.dict j).symm;have af:p ≠ c:=(qA4 S4.list j).symm;refine ⟨_,rfl,_,rfl,a,_,rfl,.inr (SqT.of (K7 _ _ ak nA.1 nA.2)),d,c,t',ms,_,rfl,S5,(by show t'<=1000000000;lia),by rw [List.length_map];lia,by rw [List.length_map];lia,fun x a7 H6 x0 x1 m K8=>⟨_,K8 _ _ gp ah af,by rw [List.length_map];lia,?_⟩⟩
  rw [List.length_map] at x1;refine ⟨t'+1,a7,fs++[x],_,rfl,⟨by rw [qA8 ah.symm];exact m.dict,by rw [qA8 af.symm];exact m.list,m.ne,m.len,m.pos⟩,by lia,by lia,fun b o e e1 e2=>by rw [qA8 (qA4 e j)];exact (K7.trans K8) b o e e1 e2,by rw [qA1,List.map_append];rfl,by rw [List.length_append,lf];rfl,fun y hy=>?_⟩
  rcases List.mem_append.mp hy with hy | hy
  ·exact fb y hy
  ·rw [List.mem_singleton.mp hy];lia
 ·refine fun σ Hc a8=>opq fun b9 ai=>?_;obtain ⟨t',ms,fs,v,rfl,S5,a1,a2,K7,gp,lf,fb⟩:=a8;refine ai ?_;refine ⟨p,fs,rfl,SqL.of gp,by lia,fun sa ha=>⟨sa,dedI fs,rfl,.inr (.inr qA1),Nat.lt_of_le_of_lt (qIC fs) (by lia),fun b u hb pm so=>⟨b,_,rfl,.inl ⟨SqL.of qA1,fun r b1=>?_⟩⟩⟩⟩
  have sm:=((qA3 ha (SetO w sa (dedI fs))).trans (qA3 hb (.lst (u.map V.int)))).trans (qA3 b1 (.tup (u.map V.int)));have rz:=qNH pm so fb;have kz:KsOk ad.length u:=by
   refine ⟨rz.nodup,rz.in_,?_,?_⟩
   ·cases fs with
    | nil=>rw [List.length_nil] at lf;lia
    | cons x fs=>
     have:x ∈ u:=pm.mem_iff.mpr (mem_dedI.mpr (List.mem_cons_self ..));exact List.length_pos_of_mem this
   ·have:=qIC fs;rw [pm.length_eq]
    lia
  have m:=S5.same sm;have K8:=(K6.trans K7).trans (.of_same (d:=d) (c:=c) sm);have gr:(Af (Af (Af Hc sa (SetO w sa (dedI fs))) b (.lst (u.map V.int))) r (.tup (u.map V.int))) r=_:=qA1;generalize Af (Af (Af Hc sa (SetO w sa (dedI fs))) b (.lst (u.map V.int))) r (.tup (u.map V.int))=H7 at m K8 gr ⊢;refine ⟨_,rfl,rfl,_,rfl,?_⟩;by_cases es:g=Str.ofString "steps"
  ·rw [decide_eq_true (by rw [es])]
   refine ⟨_,rfl,_,rfl,d,c,t',ms,9,rfl,m,(by show t'<=1000000000;lia),by decide,by decide,fun x a7 H8 x0 x9 S7 K9=>⟨_,_,rfl,rfl,_,rfl,d,c,t'+1,a7,99,rfl,S7,(by show t'+1<=1000000000;lia),by decide,by decide,fun y ap H9 y0 b6 S8 am=>⟨_,_,rfl,rfl,(by show 2<=sizeLine;decide),fun l hl=>?_⟩⟩⟩
   have b3:l ≠ d:=(qA4 S8.dict hl).symm;have av:l ≠ c:=(qA4 S8.list hl).symm;refine ⟨_,rfl,d,c,t'+1+1,ap,2,rfl,S8.new hl _,(by show t'+1+1<=1000000000;lia),by decide,by decide,fun z ar b4 z0 z2 S9 ag=>?_⟩
   obtain ⟨rm,b2,aj⟩:∃ rm:Int,atI [V.int (1+x),V.int (1+y)] z=some (.int rm)/\1<=rm/\rm<=99:=by
    rcases (by lia:z=0\/z=1) with rfl | rfl
    ·exact ⟨_,rfl,by lia,by lia⟩
    ·exact ⟨_,rfl,by lia,by lia⟩
   refine ⟨l,_,_,_,rfl,rfl,SqL.of (ag _ _ qA1 b3 av),b2,_,rfl,(by show 3<=sizeLine;decide),fun o ho=>?_⟩
   have ae:=((K9.trans am).trans (qCA hl _)).trans ag;have ay:=ae _ _ gr (m.tup gr).1 (m.tup gr).2;have so:=qA3 ho (.tup [.str g,.int rm,.ref r]);exact q _ (.st rm u) (t'+1+1+1) ar _ (S9.same so) (by lia) (by lia) ((K8.trans ae).trans (.of_same so)) ⟨o,r,rfl,by rw [qA1,es],so _ _ ay,rz.up⟩ ⟨aj.1,aj.2,kz⟩
  ·rw [decide_eq_false fun z=>es (V.str.inj z)];refine ⟨_,rfl,_,rfl,(by show 2<=sizeLine;decide),fun o ho=>?_⟩
   have so:=qA3 ho (.tup [.str g,.ref r]);refine q _ (.so g u) t' ms _ (m.same so) (by lia) (by lia) (K8.trans (.of_same so)) ⟨o,r,rfl,qA1,so _ _ gr,rz.up⟩ ⟨?_,kz⟩
   rcases k3 with z | z
   ·exact z
   ·exact absurd z es
theorem sc_Lrows:FnScope ["_law_state","_law_names_here","_law_net_here","_law_rooms","_law_deeds","_law_found","_law_deed","_law_words","_law_many","_law_turn"] ["_law_state","_law_names_here","_law_net_here","_law_rooms","_law_deeds"] (qAB qNF):=qC1
theorem ok_Lrows (F:Fun K "_law_rows" "_law_rows" qNF f fd) (qAL:Clb P w K mg base 1 qDV qDK "_law_take" ["_law_state","_law_many"] qG8) (bi:Clb P w K mg base 2 qKL qPS "_law_mixed" ["_law_state","_law_some"] (qQE K)) (bs:Clb P w K mg base 3 qR7 qYD "_law_head" ["_law_state","_law_names_here","_law_net_here","_law_rooms"] qYZ) (bg:Clb P w K mg base 1 qF9 qM7 "_law_deed_words" ["_law_names_here","_law_deed"] qRN) (qAP:mg "len" = none) (qBL:mg "range" = none) (qB5:mg "tuple" = none) (bm:mg "isinstance" = none):FnOk P w K mg base CX0 4 f fd ["_law_state","_law_names_here","_law_net_here","_law_rooms","_law_deeds"] qYX:=by
 refine F.okA sc_Lrows fun c7 A bq s H vs Q E hr h=>?_;obtain ⟨d,c,t,ns,ln,a,ld,nm,aq,r,us,ds,rfl,S,ht,ae,b6,hA,wf,nl,ar,ok,r0,r1,ab,b8,pd,ao,c8,q⟩:=h;refine ⟨_,(qA5 (qAG (i:=5) sc_Lrows.nd rfl (Or.inl rfl) (qAQ bs hr rfl (qA0 (pv 0) (qA0 (pv 1) (qA0 (pv 2) (qA0 (pv 3) qA2)))))) (qA5 (qFI PassesOwn.never rfl (qGM (pv 4)) (qBS (i:=6) sc_Lrows.nd rfl (Or.inl rfl)) (qA5 (qAG (i:=7) sc_Lrows.nd rfl (Or.inl rfl) (qAQ bg hr rfl (qA0 (pv 1) (qA0 (pv 6) qA2)))) (qA5 (qAG (i:=8) sc_Lrows.nd rfl (Or.inl rfl) (qAA qA9 rfl qAP qAO (qA0 (pv 7) qA2))) (qA5 (qAZ (qD4 (qAA qC7 rfl bm qB2 (qA0 (qBB qSA (pv 6) (qT0 qMD qA7) (fun _ _=>rfl)) (qA0 (qF4 (v:=.ty "tuple") rfl qB5 qBD rfl) qA2)))) (qA6 (qAG (i:=8) sc_Lrows.nd rfl (Or.inl rfl) (qAR qEP (qAA qA9 rfl qAP qAO (qA0 (pv 7) qA2)) (qAA qA9 rfl qAP qAO (qA0 (qBB qSA (pv 6) (qT0 qMD qA7) (fun _ _=>rfl)) qA2))))) qAJ) (qA6 (qBR (qCI PySem.F.plainAttrs_list PySem.F.slot_list_append PySem.F.type_list_append qBQ (pv 5) (qA0 (qCI PySem.F.plainAttrs_str PySem.F.slot_str_join PySem.F.type_str_join qJC qAC (qA0 (qAR qHO (qBN qCV (pv 7) qCS (qCR (pv 8))) (qAQ bi hr rfl (qA0 (pv 0) (qA0 (qBN qCV (pv 7) (qCR (pv 8)) qCS) qA2)))) qA2)) qA2)))))))) (qA5 (qFI PassesOwn.never rfl (qC3 rfl qBL (qA0 (qAQ qAL hr rfl (qA0 (pv 0) (qA0 qA7 qA2))) qA2)) (qBS (i:=9) sc_Lrows.nd rfl (Or.inl rfl)) (qA6 (qBR (qCI PySem.F.plainAttrs_list PySem.F.slot_list_insert PySem.F.type_list_insert qHU (pv 5) (qA0 (qAQ qAL hr rfl (qA0 (pv 0) (qA0 (qAR qD8 (qAA qA9 rfl qAP qAO (qA0 (pv 5) qA2)) qA7) qA2))) (qA0 qAC qA2)))))) (qA6 (qAF (pv 5)))))),?_⟩
 try dsimp only [Cx.nox,Cx.wish,cxOf]
 have hs:=sizeLine_eq;have c5:t<=1000000000 - 20000:=ht;have bn:ln ≠ d:=qDZ ae S.dict (by intro z;cases z)
 have bc:ld ≠ d:=qDZ ab S.dict (by intro z;cases z)
 have c4:us.length=ds.length:=Paired.length pd;refine cut fun N0 af=>?_;refine ⟨_,rfl,_,rfl,_,rfl,_,rfl,d,c,t,ns,ln,a,nm,aq,r,rfl,S,(by show t<=1000000000 - 10000;lia),ae,b6,hA,wf,nl,ar,ok,r0,r1,fun u j t1 br H1 S1 a1 a2 K1 a0 g1 pq=>af _ _ (cut fun N1 bb=>?_)⟩
 clear af;have lq:j.length=aq.length:=Paired.length pq;have a5:u ≠ d:=(qA4 S.dict a0).symm;have a4:u ≠ c:=(qA4 S.list a0).symm;have ad:∀ b xs,H b=some (.tup xs)->∀ Hc,Keep d c H Hc->Hc b=some (.tup xs):=fun b xs e Hc k=>k _ _ e (S.tup e).1 (S.tup e).2;refine ⟨_,rfl,ld,rfl,⟨_,SqL.of (K1 _ _ ab bc b8)⟩,qSE (xs:=us) (fun i σ Hc=>∃ (t':Int) (ms:List Int) (ds':List Dd) (v6 v7 v8 v9:Option V),σ=[some (.ref d),some (.ref ln),some (.ref a),some (.int r),some (.ref ld),some (.ref u),v6,v7,v8,v9]/\StAt Hc d c t' ms/\t<=t'/\t'<=t+2400+60 * i/\Keep d c H Hc/\Hc u=some (.lst ((hrow r::(wr nm 0 j++ds'.map (drow nm))).map V.str))/\Paired DPm ds' (ds.take i))
  ⟨t1,br,[],none,none,none,none,rfl,S1,a1,by lia,K1,by rw [List.map_nil,List.append_nil];exact g1,by rw [List.take_zero];exact .nil⟩ ?_ ?_ ?_⟩
 ·rintro i σ Hc _ ⟨t',ms,ds',v6,v7,v8,v9,rfl,_,_,_,K2,_,_⟩;exact SqL.of (K2 _ _ ab bc b8)
 ·refine fun i x σ Hc ex as=>opq fun c9 ai=>?_;obtain ⟨t',ms,ds',v6,v7,v8,v9,rfl,S2,b1,b2,K2,g2,pm⟩:=as;refine ai ?_;have li:i<us.length:=(List.getElem?_eq_some_iff.mp ex).1;obtain ⟨dd,ed,dx⟩:=qFJ pd ex;have a3:=ao dd (List.mem_of_getElem? ed);have bh:DeedX Hc x dd:=dx.imp fun b xs e=>ad b xs e Hc K2;refine nmD fun D1 d1 dr=>cut fun M0 au=>?_;refine ⟨_,rfl,_,rfl,ln,x,nm,dd,rfl,K2 _ _ ae bn b6,bh,a3,fun lw H3 s3 bz g3=>au _ _ (cut fun M1 ax=>?_)⟩;clear au;obtain ⟨p,xs,y,g,m,rfl,hp,hy,a7,a8,aw⟩:=qW8 (nm:=nm) dx;have ap:=s3 _ _ (ad _ _ hp Hc K2);rw [a7] at g3;refine ⟨_,rfl,lw,_,rfl,.inl (SqL.of g3),ax _ _ (cut fun M2 av=>?_)⟩;clear ax;rw [List.length_map];have a9:M2 [some (.ref d),some (.ref ln),some (.ref a),some (.int r),some (.ref ld),some (.ref u),some (.ref p),some (.ref lw),some (.int (g.length:Int)),v9] H3:=by
   refine av _ _ ?_;have ba:=s3 _ _ g2;have S3:=S2.same s3;have K3:=K2.trans (.of_same (d:=d) (c:=c) s3);refine ⟨_,rfl,.inl ⟨rfl,_,SqL.of ba⟩,rfl,_,rfl,_,rfl,_,rfl,lw,_,rfl,SqL.of g3,fun p5 h5=>?_⟩;have e5:cutV ((g++m).map V.str) none (some (g.length:Int))=g.map V.str:=by rw [qLK,List.take_left'];rfl
   rw [e5];have s5:=qA3 h5 (.lst (g.map V.str));have aj:p5 ≠ d:=(qA4 S3.dict h5).symm;have b7:p5 ≠ c:=(qA4 S3.list h5).symm;refine ⟨_,rfl,_,rfl,_,rfl,_,rfl,lw,_,rfl,SqL.of (s5 _ _ g3),fun p6 h6=>?_⟩;have e6:cutV ((g++m).map V.str) (some (g.length:Int)) none=m.map V.str:=by rw [qEA (by rw [List.length_append];lia),List.drop_left'];rfl
   rw [e6];have s6:=s5.trans (qA3 h6 (.lst (m.map V.str)));obtain ⟨wa,wb,wc,_⟩:=qbM ok a3;have bk:(g++m).length<=201:=by rw [<- a7];lia
   rw [List.length_append] at bk;have bf:m.length<=60:=by
    rcases a8 with ⟨_,z⟩ | ⟨t0,zs,rfl,az,z⟩
    ·rw [z];decide
    ·cases dd with
     | al w=>obtain ⟨_,e,h⟩:=dx;cases e;rw [h] at hp;cases hp;cases hy
     | on w n=>obtain ⟨_,e,h⟩:=dx;cases e;rw [h] at hp;cases hp;cases hy
     | so w ks=>
      have:(w::ks.map (nmAt nm)).length=g.length+m.length:=by rw [<- List.length_append,<- a7];rfl
      have k4:=a3.2.2.2.2;rw [List.length_cons,List.length_map] at this
      lia
     | st w ks=>
      have:(Str.ofString "steps" :: Str.ofString (toString w)::ks.map (nmAt nm)).length=g.length+m.length:=by rw [<- List.length_append,<- a7];rfl
      have k4:=a3.2.2.2.2.2;rw [List.length_cons,List.length_cons,List.length_map] at this
      lia
   refine ⟨d,c,t',ms,p6,m.map V.str,rfl,S3.same s6,(by show t'<=1000000000 - 1000;lia),.inl (SqL.of qA1),by rw [List.length_map];exact bf,fun l ys t2 ac H7 S7 c1 c2 K7 fl gl py=>?_⟩
   obtain ⟨b5,rfl,pt⟩:=qV0 py;obtain ⟨a6,ah,b0⟩:=aw b5 pt;have bl:H7 p5=some (.lst (g.map V.str)):=K7 _ _ (qA3 h6 _ _ _ qA1) aj b7;have bu:=pt.length_eq;refine ⟨p5,l,_,_,rfl,rfl,bl,gl,by rw [List.length_map,List.length_map];lia,fun p7 h7=>?_⟩
   have b9:=a3.perm ah;obtain ⟨bx,c3,bw,_⟩:=qbM ok b9;have s7:=qA3 h7 (.lst (g.map V.str++b5.map V.str));refine ⟨_,p7,dw nm a6,rfl,rfl,SqL.of (by rw [b0,List.map_append];exact qA1),?_,?_⟩
   ·have:(Str.ofString " ").length=1:=by decide
    rw [this,Nat.mul_one]
    lia
   have K8:=(K3.trans (.of_same (d:=d) (c:=c) s6)).trans K7;have g7:=s7 _ _ (K7 _ _ (s6 _ _ ba) a5 a4);have bo:ds'.length=i:=by
    have:=Paired.length pm;rw [List.length_take] at this
    lia
   refine ⟨u,_,_,rfl,rfl,g7,?_,d1 _ _ ?_⟩
   ·rw [List.length_map,List.length_cons,List.length_append,qTW,List.length_map]
    lia
   have S8:=S7.same s7;refine ⟨t2,ac,ds'++[a6],_,_,_,_,rfl,⟨by rw [qA8 a5.symm];exact S8.dict,by rw [qA8 a4.symm];exact S8.list,S8.ne,S8.len,S8.pos⟩,by lia,by lia,fun b o e n1 n2=>?_,?_,qJZ pm ed ah⟩
   ·rw [qA8 (qA4 e a0)];exact s7 _ _ (K8 b o e n1 n2)
   ·rw [qA1];show some (HO.lst (_++[V.str (drow nm a6)]))=_;have e9:hrow r::(wr nm 0 j++(ds'++[a6]).map (drow nm))=(hrow r::(wr nm 0 j++ds'.map (drow nm)))++[drow nm a6]:=by rw [List.map_append,List.cons_append,List.append_assoc];rfl
    rw [e9,List.map_append]
    rfl
  clear av;refine ⟨_,rfl,_,rfl,p,_,_,_,rfl,rfl,SqT.of ap,hy,?_⟩;rcases a8 with ⟨z,e⟩ | ⟨t0,zs,rfl,az,e⟩
  ·have an:∀ (Hx:Hp),Hx=H3->M2 [some (.ref d),some (.ref ln),some (.ref a),some (.int r),some (.ref ld),some (.ref u),some (.ref p),some (.ref lw),some (.int ((g++m).length:Int)),v9] Hx:=fun Hx ex=>by
    rw [ex,e,List.append_nil];exact a9
   rcases z with ⟨w',rfl⟩ | ⟨n,rfl⟩
   ·exact ⟨_,"tuple",_,false,rfl,TyOf.str w',qdH,_,rfl,iteF (an _ rfl)⟩
   ·exact ⟨_,"tuple",_,false,rfl,TyOf.int n,qS7,_,rfl,iteF (an _ rfl)⟩
  ·have ay:=s3 _ _ (ad _ _ az Hc K2);refine ⟨_,"tuple",_,true,rfl,TyOf.tup ay,qZB true,_,rfl,iteT ⟨_,rfl,lw,_,rfl,.inl (SqL.of g3),_,rfl,_,rfl,p,_,_,_,rfl,rfl,SqT.of ap,hy,t0,_,rfl,.inr (SqT.of ay),_,_,rfl,rfl,?_⟩⟩;rw [List.length_map,e,List.length_append];dsimp only;rw [show (((g.length+m.length:Nat):Int) - (m.length:Int))=(g.length:Int) by lia]
   exact a9
 ·refine fun σ Hc b4=>opq fun bv b3=>?_;obtain ⟨t',ms,ds',v6,v7,v8,v9,rfl,S2,b1,b2,K2,g2,pm⟩:=b4;refine b3 ?_;rw [List.take_of_length_le (by lia)] at pm
  have bo:=Paired.length pm;have be:=qUN ok r0 r1 wf nl ar ao pq pm;refine bb _ _ (cut fun N2 bp=>?_);clear bb;refine ⟨_,rfl,d,c,t',ms,4,rfl,S2,(by show t'<=1000000000;lia),by decide,by decide,fun n ac H3 n0 n4 S3 K3=>?_⟩
  have g3:=K3 _ _ g2 a5 a4;have bt:(hrow r::(wr nm 0 j++ds'.map (drow nm))).length<=81:=by
   rw [List.length_cons,List.length_append,qTW,List.length_map]
   lia
  refine ⟨n,rfl,by lia,by lia,qFM (lo:=0) (n:=n.toNat) (fun i σ Hx=>∃ (t2:Int) (ms:List Int) (rows:List Str) (v6 v7 v8 v9:Option V),σ=[some (.ref d),some (.ref ln),some (.ref a),some (.int r),some (.ref ld),some (.ref u),v6,v7,v8,v9]/\StAt Hx d c t2 ms/\t<=t2/\t2<=t'+1+i/\Keep d c H Hx/\Hx u=some (.lst (rows.map V.str))/\rows.length<=81+i/\rows.filter (fun r=>!decide (r=Str.ofString ""))=hrow r::(wr nm 0 j++ds'.map (drow nm)))
   ⟨t'+1,ac,_,_,_,_,_,rfl,S3,by lia,by lia,K2.trans K3,g3,by lia,be⟩ ?_ ?_⟩
  ·refine fun i σ Hx hi ak=>opq fun c6 ag=>?_;obtain ⟨t2,aa,rows,v6,v7,v8,v9,rfl,S4,c1,c2,K4,g4,l4,f4⟩:=ak;refine ag ?_;refine ⟨_,rfl,.inl ⟨rfl,_,SqL.of g4⟩,_,rfl,_,rfl,u,_,rfl,.inl (SqL.of g4),_,_,rfl,rfl,d,c,t2,aa,_,rfl,S4,(by show t2<=1000000000;lia),by rw [List.length_map];lia,by rw [List.length_map];lia,fun k bj H5 k0 k1 S5 K5=>?_⟩
   rw [List.length_map] at k1;have g5:=K5 _ _ g4 a5 a4;refine ⟨u,_,k,_,rfl,rfl,g5,k0,by rw [List.length_map];lia,by rw [List.length_map];lia,?_⟩
   refine ⟨t2+1,bj,rows.take k.toNat++Str.ofString "" :: rows.drop k.toNat,_,_,_,_,rfl,⟨by rw [qA8 a5.symm];exact S5.dict,by rw [qA8 a4.symm];exact S5.list,S5.ne,S5.len,S5.pos⟩,by lia,by lia,fun b o e n1 n2=>?_,?_,?_,by rw [qTC];exact f4⟩
   ·rw [qA8 (qA4 e a0)];exact (K4.trans K5) b o e n1 n2
   ·rw [qA1,List.map_append,List.map_cons,List.map_take,List.map_drop]
   ·rw [List.length_append,List.length_cons,List.length_take,List.length_drop]
    lia
  ·refine fun σ Hx bd=>opq fun c0 am=>?_;obtain ⟨t2,aa,rows,v6,v7,v8,v9,rfl,S4,c1,c2,K4,g4,l4,f4⟩:=bd;refine am ?_;refine bp _ _ ⟨_,rfl,q u rows t2 aa Hx S4 c1 (by lia) K4 a0 g4 ⟨by lia,j,ds',pq,pm,f4⟩⟩
theorem qUM:FnScope ["_law_word"] ["_law_word"] (qAB qKE):=qC1
theorem ok_Lplain (F:Fun K "_law_plain" "_law_plain" qKE f fd) (qAP:mg "len" = none) (m:mg "int" = none):FnOk P w K mg base CX0 1 f fd ["_law_word"] qUE:=by
 refine F.okA qUM fun a0 A k s H vs Q E hr h=>?_;obtain ⟨x,rfl,⟨hx,ha⟩,q⟩:=h;have o:=hr.units0;refine ⟨_,(qA5 (qAZ (PW.pt (qF1 (qAD qNM (qAA qDA rfl qAP qAO (qA0 (pv 0) qA2)) qA7 (qAH _)) (qF1 (qAD qNN (qAA qDA rfl qAP qAO (qA0 (pv 0) qA2)) qA7 (qAH _)) (qF1 (qAD (qFK o) (qJ3 rfl (lcs (own:=["_law_mark"]) (fv:=[]) (by kernel_rfl)) (qRT (pv 0)) (fun z1=>qF2 0) (fun z1=>(qQN (qAD qK0 (pv 0) qAC (by with_unfolding_all rfl)))) (fun z1=>(pv 0))) (qB8 qA2) (qAH _)) (qEL (qAD qC5 (qBB qVK (pv 0) qA7 (fun _ _=>rfl)) qAC (qAH _))))))) (qA6 (qAF qA7)) qAJ) (qA6 (qAF (qAK qLR rfl m qMW (qA0 (pv 0) qA2))))),?_⟩
 try dsimp only [Cx.nox,Cx.wish,cxOf]
 have hs:=sizeLine_eq;have i:∀ H',Same H H'->¬ (1<=x.length/\x.length<=2/\digs x=true/\¬ x.cps[0]?=some 48)->Q (.int 0) H':=fun H' t h=>by
  have:=q H' t;unfold plnF at this;rw [if_neg h] at this;exact this
 refine ⟨_,rfl,_,rfl,by lia,_,_,rfl,rfl,_,rfl,?_⟩
 refine ite2 (fun c=>?_) fun c=>?_
 ·exact i H (Same.refl H) fun z=>by have:=of_decide_eq_true c;lia
 refine ⟨_,rfl,_,rfl,by lia,_,_,rfl,rfl,_,rfl,?_⟩
 refine ite2 (fun n=>?_) fun n=>?_
 ·exact i H (Same.refl H) fun z=>by have:=of_decide_eq_true n;lia
 have l1:1<=x.length:=by have:=of_decide_eq_false (Bool.eq_false_iff.mpr c);lia
 have l2:x.length<=2:=by have:=of_decide_eq_false (Bool.eq_false_iff.mpr n);lia
 refine ⟨_,rfl,x,rfl,fun p v=>qS5 (oddI x 48 57 H p) ⟨none,rfl,qA3 v _,qA1⟩ (qRW hx ha qV9 v) fun σ Hi hI=>?_⟩;obtain ⟨_,_,t,gp⟩:=hI;refine ⟨(by show 0<=sizeLine;lia),fun l y=>⟨p,l,_,rfl,rfl,SqL.of (qA3 y _ _ _ gp),SqL.of qA1,_,rfl,?_⟩⟩
 have g:=t.trans (qA3 y (.lst []));generalize Af Hi l (.lst [])=r at g ⊢;rw [qV7];refine ite2 (fun a=>?_) fun a=>?_
 ·refine i r g fun z=>?_;have d:=z.2.2.1;unfold digs at d;rw [d] at a;cases a
 have hd:digs x=true:=by
  cases e:digs x with
  | true=>rfl
  | false=>unfold digs at e;rw [e] at a;exact absurd rfl a
 have b:∃ c,x.cps[0]?=some c:=⟨x.cps[0],Array.getElem?_eq_getElem l1⟩;obtain ⟨c0,b⟩:=b;have h0:atI x.cps.toList 0=some c0:=qAN (j:=0) (by rw [Array.getElem?_toList];exact b)
 refine ⟨_,rfl,_,_,_,rfl,rfl,by lia,h0,rfl,_,rfl,?_⟩
 rw [qUK];refine ite2 (fun u=>?_) fun u=>?_
 ·exact i r g fun z=>z.2.2.2 (by rw [b,of_decide_eq_true u])
 have ok:1<=x.length/\x.length<=2/\digs x=true/\¬ x.cps[0]?=some 48:=⟨l1,l2,hd,by rw [b];exact fun z=>u (decide_eq_true (Option.some.inj z))⟩
 exact ⟨_,rfl,_,_,rfl,qUW ok,by lia,q r g⟩
theorem sc_Lis_name:FnScope ["_law_word","_law_some"] ["_law_word"] (qAB qG0):=qC1
theorem ok_Lis_name (F:Fun K "_law_is_name" "_law_is_name" qG0 f fd) (qAP:mg "len" = none):FnOk P w K mg base CX0 1 f fd ["_law_word"] qcM:=by
 refine F.okA sc_Lis_name fun r A b s H vs Q E o h=>?_;obtain ⟨x,rfl,⟨hx,v⟩,q⟩:=h;have e:=o.units0;refine ⟨_,(qA5 (qUS (i:=1) sc_Lis_name.nd rfl rfl rfl (lcs (own:=["_law_mark"]) (fv:=[]) (by kernel_rfl)) (qRT (pv 0)) (fun m=>qF2 0) (fun m=>(qQN (qAD qK0 (pv 0) qAC (by with_unfolding_all rfl)))) (fun m=>(pv 0)) (by kernel_rfl)) (qA6 (qAF (qD7 (qBF (qHN e) (pv 1) (qB8 qA2) (qAH _)) (qEN (qKI qQR qQR qA7 (qAA qDA rfl qAP qAO (qA0 (pv 0) qA2)) qA7)))))),?_⟩
 try dsimp only [Cx.nox,Cx.wish,cxOf]
 have hs:=sizeLine_eq;refine ⟨_,rfl,x,rfl,fun p g=>qS5 (oddI x 97 122 H p) ⟨none,rfl,qA3 g _,qA1⟩ (qRW hx v qT2 g) fun σ y t=>?_⟩;obtain ⟨_,_,z,n⟩:=t;refine ⟨_,rfl,(by show 0<=sizeLine;lia),fun l j=>⟨p,l,_,rfl,rfl,SqL.of (qA3 j _ _ _ n),SqL.of qA1,_,rfl,?_⟩⟩
 have k:=z.trans (qA3 j (.lst []));generalize Af y l (.lst [])=u at k ⊢;rw [qV7];have a:=q u k;unfold qQY isNm at a;refine ite2 (fun c=>?_) fun c=>?_
 ·rw [c,Bool.and_true] at a;refine ⟨_,rfl,_,rfl,by lia,_,_,rfl,rfl,_,rfl,?_⟩
  refine ite2 (fun d=>?_) fun d=>?_
  ·rw [decide_eq_true (show 1<=x.length by have:=of_decide_eq_true d;lia),Bool.and_true] at a
   refine ⟨_,_,rfl,rfl,?_⟩;rw [show decide (x.length<=8)=decide ((x.length:Int)<=8) by rw [decide_eq_decide];lia] at a
   exact a
  ·rw [decide_eq_false (show ¬ 1<=x.length by have:=of_decide_eq_false (Bool.eq_false_iff.mpr d);lia),Bool.and_false] at a
   exact a
 ·rw [Bool.eq_false_iff.mpr c,Bool.and_false,Bool.false_and] at a;exact a
theorem qNB:FnScope ["_law_names_here","_law_words"] ["_law_names_here","_law_words"] (qAB qE1):=qC1
theorem ok_Lare_asked (F:Fun K "_law_are_asked" "_law_are_asked" qE1 f fd) (qAP:mg "len" = none) (r:mg "set" = none) (qON:mg "all" = none):FnOk P w K mg base CX0 1 f fd ["_law_names_here","_law_words"] qZ0:=by
 refine F.okA qNB fun a1 A n s H vs Q E hr h=>?_;obtain ⟨a,b,nm,d,rfl,ha,g,ln,lw,q⟩:=h;refine ⟨_,(qA6 (qAF (qD7 (qKI qQR qQR qA7 (qAA qA9 rfl qAP qAO (qA0 (pv 1) qA2)) qA7) (qD7 (qBF qC5 (qAA qPZ rfl qAP qAO (qA0 (qAK (qPW rfl) rfl r qMV (qA0 (pv 1) qA2)) qA2)) (qAA qA9 rfl qAP qAO (qA0 (pv 1) qA2)) (qAH _)) (qEN (qAA (qKM rfl) rfl qON qSP (qA0 (qJ3 rfl (lcs (own:=["_law_word"]) (fv:=[0]) (by kernel_rfl)) (qGM (pv 1)) (fun y=>qF2 0) (fun y=>qCQ) (fun y=>(qBF (qZ6 (K:=K) rfl) (pv 0) (pv 1) (by with_unfolding_all rfl)))) qA2))))))),?_⟩
 try dsimp only [Cx.nox,Cx.wish,cxOf]
 have hs:=sizeLine_eq;have q0:=q;unfold askL at q;refine ⟨_,rfl,b,_,rfl,.inl (SqL.of g),_,_,rfl,rfl,_,rfl,?_⟩;rw [List.length_map];refine ite2 (fun c=>?_) fun c=>?_
 ·refine ⟨_,_,rfl,rfl,_,rfl,?_⟩;refine ite2 (fun t=>?_) fun t=>?_
  ·rw [decide_eq_true (show 1<=d.length/\d.length<=4 by have:=of_decide_eq_true c;have:=of_decide_eq_true t;lia),Bool.true_and] at q
   refine ⟨_,rfl,b,d,rfl,SqL.of g,by lia,fun l x=>⟨l,_,rfl,qA1,_,rfl,b,_,rfl,.inl (SqL.of (qA3 x _ _ _ g)),rfl,_,rfl,?_⟩⟩
   rw [List.length_map,qMT];have e:=qA3 x (SetT w l (dedS d));generalize Af H l (SetT w l (dedS d))=z at e ⊢;refine ite2 (fun m=>?_) fun m=>?_
   ·rw [m,Bool.true_and] at q;refine ⟨_,rfl,b,rfl,⟨_,SqL.of (e _ _ g)⟩,fun p u=>?_⟩;refine qLC (xs:=d.map V.str) (inI nm d a z p) ⟨none,rfl,qA3 u _,qA1⟩ ?_ (qVP lw (e _ _ ha) u) ?_
    ·rintro i σ Hi _ ⟨v,rfl,sm,_⟩;exact SqL.of (sm _ _ (e _ _ g))
    ·refine fun σ Hi j=>opq fun a0 k=>?_;obtain ⟨v,rfl,sm,o⟩:=j;refine k ?_;refine ⟨p,_,rfl,SqL.of o,?_⟩;rw [qZD (List.length_map V.str)];exact q Hi (e.trans sm)
   ·rw [Bool.eq_false_iff.mpr m,Bool.false_and] at q;exact q z e
  ·rw [decide_eq_false (show ¬ (1<=d.length/\d.length<=4) by have:=of_decide_eq_false (Bool.eq_false_iff.mpr t);lia),Bool.false_and] at q
   exact q H (Same.refl H)
 ·rw [decide_eq_false (show ¬ (1<=d.length/\d.length<=4) by have:=of_decide_eq_false (Bool.eq_false_iff.mpr c);lia),Bool.false_and] at q
  exact ⟨_,rfl,q H (Same.refl H)⟩
theorem qQH:FnScope ["_law_names_here","_law_words"] ["_law_names_here","_law_words"] (qAB qFZ):=qC1
theorem ok_Lis_work (F:Fun K "_law_is_work" "_law_is_work" qFZ f fd) (a4:Clb P w K mg base 1 qJL qR3 "_law_is_name" ["_law_word"] qcM) (qAP:mg "len" = none) (a2:mg "set" = none) (qON:mg "all" = none):FnOk P w K mg base CX0 2 f fd ["_law_names_here","_law_words"] qcK:=by
 refine F.okA qQH fun a6 A a0 s H vs Q E hr h=>?_;obtain ⟨a,b,e,ws,rfl,ha,m,ln,lw,hw,q⟩:=h;have a3:=hr.units0;refine ⟨_,(qA5 (qAZ (PW.pt (qF1 (qAD (qHN a3) (pv 1) (qB8 qA2) (qAH _)) (qF1 (qEM (qD4 (qAQ a4 hr rfl (qA0 (qBB qAM (pv 1) qA7 (fun _ _=>rfl)) qA2)))) (qF1 (qAD qC4 (qBB qAM (pv 1) qA7 (fun _ _=>rfl)) (pv 0) (by with_unfolding_all rfl)) (qEL (qAD qXV (qAA qA9 rfl qAP qAO (qA0 (pv 0) qA2)) qA7 (qAH _))))))) (qA6 (qAF qGO)) qAJ) (qA6 (qAF (qD7 (qBF qC5 (qAA qPZ rfl qAP qAO (qA0 (qAK (qPW rfl) rfl a2 qMV (qA0 (qBN qCV (pv 1) (qCR qA7) qCS) qA2)) qA2)) (qAR qEP (qAA qA9 rfl qAP qAO (qA0 (pv 1) qA2)) qA7) (qAH _)) (qEN (qAA (qKM rfl) rfl qON qSP (qA0 (qJ3 rfl (lcs (own:=["_law_word"]) (fv:=[0]) (by kernel_rfl)) (qGM (qBN qCV (pv 1) (qCR qA7) qCS)) (fun z2=>qF2 0) (fun z2=>qCQ) (fun z2=>(qBF (qZ6 (K:=K) rfl) (pv 0) (pv 1) (by with_unfolding_all rfl)))) qA2))))))),?_⟩
 try dsimp only [Cx.nox,Cx.wish,cxOf]
 have hs:=sizeLine_eq;refine ⟨_,rfl,(by show 0<=sizeLine;lia),fun l hl=>⟨b,l,_,rfl,rfl,SqL.of (qA3 hl _ _ _ m),SqL.of qA1,_,rfl,?_⟩⟩
 have t0:=qA3 hl (.lst []);generalize Af H l (.lst [])=H0 at t0 ⊢;cases ws with
 | nil=>exact q H0 t0
 | cons x r=>
  have d:∀ H',Same H H'->Q (.bl (qQY x && (decide (x ∉ e) && (decide (e.length<40) && (decide r.Nodup && r.all fun y=>decide (y ∈ e)))))) H':=q;clear q;refine ⟨_,rfl,b,_,_,_,rfl,rfl,SqL.of (t0 _ _ m),qAN (j:=0) rfl,x,rfl,hw x (List.mem_cons_self ..),fun t s1=>?_⟩;refine ⟨_,rfl,?_⟩;have g:=t0.trans s1;cases h1:qQY x with
  | false=>
   rw [h1,Bool.false_and] at d;exact d t g
  | true=>
  rw [h1,Bool.true_and] at d;refine ⟨_,rfl,b,_,_,_,rfl,rfl,SqL.of (g _ _ m),qAN (j:=0) rfl,_,rfl,a,_,rfl,.inl (SqL.of (g _ _ ha)),rfl,qI8 e,_,rfl,?_⟩;rw [qCM];refine ite2 (fun c=>?_) fun c=>?_
  ·rw [decide_eq_false (fun z=>z (of_decide_eq_true c)),Bool.false_and] at d;exact d t g
  rw [decide_eq_true (show ¬ x ∈ e from fun z=>c (decide_eq_true z)),Bool.true_and] at d;refine ⟨_,rfl,a,_,rfl,.inl (SqL.of (g _ _ ha)),_,_,rfl,rfl,_,rfl,?_⟩;rw [List.length_map];refine ite2 (fun c=>?_) fun c=>?_
  ·rw [decide_eq_false (show ¬ e.length<40 by have:=of_decide_eq_true c;lia),Bool.false_and] at d
   exact d t g
  rw [decide_eq_true (show e.length<40 by have:=of_decide_eq_false (Bool.eq_false_iff.mpr c);lia),Bool.true_and] at d
  have ec:cutV ((x::r).map V.str) (some 1) none=r.map V.str:=qEA (k:=1) (by simp)
  have lr:r.length<=300:=by rw [List.length_cons] at lw;lia
  refine ⟨_,rfl,_,rfl,b,_,rfl,SqL.of (g _ _ m),fun p2 h2=>?_⟩;rw [ec];have t2:=g.trans (qA3 h2 (.lst (r.map V.str)));have g2:(Af t p2 (.lst (r.map V.str))) p2=_:=qA1;generalize Af t p2 (.lst (r.map V.str))=H2 at t2 g2 ⊢;refine ⟨p2,r,rfl,SqL.of g2,by lia,fun s3 h3=>⟨s3,_,rfl,qA1,?_⟩⟩
  have n:=t2.trans (qA3 h3 (SetT w s3 (dedS r)));generalize Af H2 s3 (SetT w s3 (dedS r))=H3 at n ⊢;refine ⟨_,rfl,b,_,rfl,.inl (SqL.of (n _ _ m)),_,_,rfl,rfl,rfl,_,rfl,?_⟩;rw [show decide (V.int ((dedS r).length:Nat)=V.int ((((x::r).map V.str).length:Nat) - 1))=decide r.Nodup by rw [<- qMT,List.length_map,List.length_cons,show ((r.length+1:Nat):Int) - 1=r.length by lia]]
  refine ite2 (fun c3=>?_) fun c3=>?_
  ·rw [c3,Bool.true_and] at d;refine ⟨_,rfl,_,rfl,b,_,rfl,SqL.of (n _ _ m),fun p4 h4=>?_⟩;rw [ec];have t4:=n.trans (qA3 h4 (.lst (r.map V.str)));have g4:(Af H3 p4 (.lst (r.map V.str))) p4=_:=qA1;generalize Af H3 p4 (.lst (r.map V.str))=H4 at t4 g4 ⊢;refine ⟨p4,rfl,⟨_,SqL.of g4⟩,fun p hp=>?_⟩;refine qLC (xs:=r.map V.str) (inI e r a H4 p) ⟨none,rfl,qA3 hp _,qA1⟩ ?_ (qVP lr (t4 _ _ ha) hp) ?_
   ·rintro i σ Hi _ ⟨v,rfl,sm,_⟩;exact SqL.of (sm _ _ g4)
   ·refine fun σ Hi u=>opq fun a5 o=>?_;obtain ⟨v,rfl,sm,a1⟩:=u;refine o ?_;refine ⟨p,_,rfl,SqL.of a1,?_⟩;rw [qZD (List.length_map V.str)];exact d Hi (t4.trans sm)
  ·rw [Bool.eq_false_iff.mpr c3,Bool.false_and] at d;exact d H3 n
theorem qQI:FnScope ["_law_names_here","_law_words"] ["_law_names_here","_law_words"] (qAB qG1):=qC1
theorem ok_Lis_deed (F:Fun K "_law_is_deed" "_law_is_deed" qG1 f fd) (a1:Clb P w K mg base 1 qKK qPR "_law_plain" ["_law_word"] qUE) (n:Clb P w K mg base 1 qFN qO2 "_law_are_asked" ["_law_names_here","_law_words"] qZ0) (qAP:mg "len" = none):FnOk P w K mg base CX0 2 f fd ["_law_names_here","_law_words"] qcP:=by
 refine F.okA qQI fun a2 A a0 s H vs Q E hr h=>?_;obtain ⟨a,b,l,ws,rfl,ha,hb,ln,lw,ne,hw,q⟩:=h;refine ⟨_,(qA5 (qAZ (qAD qC4 (qBB qAM (pv 1) qA7 (fun _ _=>rfl)) (qD5 (qA0 qAC (qA0 qAC (qA0 qAC (qA0 qAC qA2))))) (by with_unfolding_all rfl)) (qA6 (qAF (qBF qC5 (qAA qA9 rfl qAP qAO (qA0 (pv 1) qA2)) qA7 (qAH _)))) qAJ) (qA5 (qAZ (qAD qC4 (qBB qAM (pv 1) qA7 (fun _ _=>rfl)) (qD5 (qA0 qAC (qA0 qAC (qA0 qAC (qA0 qAC qA2))))) (by with_unfolding_all rfl)) (qA6 (qAF (qD7 (qBF qC5 (qAA qA9 rfl qAP qAO (qA0 (pv 1) qA2)) qA7 (qAH _)) (qEN (qBF qC4 (qBB qAM (pv 1) qA7 (fun _ _=>rfl)) (pv 0) (by with_unfolding_all rfl)))))) qAJ) (qA5 (qAZ (qAD qC5 (qBB qAM (pv 1) qA7 (fun _ _=>rfl)) qAC (qAH _)) (qA6 (qAF (qD7 (qBF qNN (qAA qA9 rfl qAP qAO (qA0 (pv 1) qA2)) qA7 (qAH _)) (qD7 (qBF qNN (qAQ a1 hr rfl (qA0 (qBB qAM (pv 1) qA7 (fun _ _=>rfl)) qA2)) qA7 (qAH _)) (qEN (qAQ n hr rfl (qA0 (pv 0) (qA0 (qBN qCV (pv 1) (qCR qA7) qCS) qA2)))))))) qAJ) (qA6 (qAF (qD7 (qBF qC4 (qBB qAM (pv 1) qA7 (fun _ _=>rfl)) (qD5 (qA0 qAC (qA0 qAC (qA0 qAC qA2)))) (by with_unfolding_all rfl)) (qEN (qAQ n hr rfl (qA0 (pv 0) (qA0 (qBN qCV (pv 1) (qCR qA7) qCS) qA2)))))))))),?_⟩
 try dsimp only [Cx.nox,Cx.wish,cxOf]
 have hs:=sizeLine_eq;cases ws with
 | nil=>exact absurd rfl ne
 | cons x r=>
  have d:∀ H',Same H H'->Q (.bl (if x ∈ qBI then r.isEmpty else if x ∈ oneL then oneB l r else if x=Str.ofString "steps" then stpB l r else decide (x ∈ qDE) && askL l r)) H':=q
  clear q;have g:∀ {H1:Hp},Same H H1->SqL K H1 b ((x::r).map V.str):=fun t=>SqL.of (t _ _ hb);refine ⟨_,rfl,b,_,_,_,rfl,rfl,g (Same.refl H),qAN (j:=0) rfl,(by show 4<=sizeLine;lia),fun T1 g1=>⟨T1,[.str "back",.str "stand",.str "moves",.str "count"],rfl,.inr (SqT.of qA1),rfl,rfl,_,rfl,?_⟩⟩
  rw [show inV (.str x) [.str "back",.str "stand",.str "moves",.str "count"]=decide (x ∈ qBI) from qCM x qBI];have m:=qA3 g1 (.tup [.str "back",.str "stand",.str "moves",.str "count"]);generalize Af H T1 (.tup [.str "back",.str "stand",.str "moves",.str "count"])=H1 at m ⊢;refine ite2 (fun c=>?_) fun c=>?_
  ·rw [if_pos (of_decide_eq_true c)] at d;refine ⟨_,rfl,b,_,rfl,.inl (g m),rfl,?_⟩;have:=d H1 m;cases r with
   | nil=>exact this
   | cons y r=>rw [decide_eq_false (by intro z;have:=V.int.inj z;simp at this;lia)];exact this
  rw [if_neg (fun z=>c (decide_eq_true z))] at d;clear c;refine ⟨_,rfl,b,_,_,_,rfl,rfl,g m,qAN (j:=0) rfl,(by show 4<=sizeLine;lia),fun T2 g2=>⟨T2,[.str "do",.str "clear",.str "tree",.str "cut"],rfl,.inr (SqT.of qA1),rfl,rfl,_,rfl,?_⟩⟩
  rw [show inV (.str x) [.str "do",.str "clear",.str "tree",.str "cut"]=decide (x ∈ oneL) from qCM x oneL]
  have e:=m.trans (qA3 g2 (.tup [.str "do",.str "clear",.str "tree",.str "cut"]))
  generalize Af H1 T2 (.tup [.str "do",.str "clear",.str "tree",.str "cut"])=u at e ⊢
  refine ite2 (fun c=>?_) fun c=>?_
  ·rw [if_pos (of_decide_eq_true c)] at d;refine ⟨_,rfl,b,_,rfl,.inl (g e),rfl,_,rfl,?_⟩;have:=d u e
   match r with
   | []=>exact this
   | y::z::r=>rw [decide_eq_false (by intro z;have:=V.int.inj z;simp at this;lia)];exact this
   | [y]=>
    refine iteT ⟨_,rfl,b,_,_,_,rfl,rfl,g e,qAN (j:=1) rfl,_,rfl,a,_,rfl,.inl (SqL.of (e _ _ ha)),rfl,qI8 l,?_⟩;rw [qCM];exact this
  rw [if_neg (fun z=>c (decide_eq_true z))] at d;clear c;refine ⟨_,rfl,b,_,_,_,rfl,rfl,g e,qAN (j:=0) rfl,rfl,_,rfl,?_⟩;refine ite2 (fun c=>?_) fun c=>?_
  ·rw [if_pos (V.str.inj (of_decide_eq_true c))] at d;refine ⟨_,rfl,b,_,rfl,.inl (g e),_,_,rfl,rfl,_,rfl,?_⟩
   match r with
   | []=>exact d u e
   | [y]=>exact d u e
   | y::z::r=>
    have p:∀ H',Same H H'->Q (.bl (decide (0<plnF y) && askL l (z::r))) H':=d;clear d;rw [decide_eq_true (by show (2:Int)<((x::y::z::r).map V.str).length;simp;lia)]
    refine iteT ⟨_,rfl,b,_,_,_,rfl,rfl,g e,qAN (j:=1) rfl,y,rfl,hw y (by simp),fun v s3=>⟨_,_,rfl,rfl,_,rfl,?_⟩⟩
    have i:=e.trans s3;refine ite2 (fun c2=>?_) fun c2=>?_
    ·rw [c2,Bool.true_and] at p;refine ⟨_,rfl,_,rfl,_,rfl,b,_,rfl,g i,fun p4 h4=>?_⟩;have ec:cutV ((x::y::z::r).map V.str) (some 2) none=(z::r).map V.str:=qEA (k:=2) (by simp)
     rw [ec];have o:=i.trans (qA3 h4 (.lst ((z::r).map V.str)));exact ⟨a,p4,l,z::r,rfl,o _ _ ha,qA1,ln,by simp at lw ⊢;lia,fun H5 s5=>p H5 (o.trans s5)⟩
    ·rw [Bool.eq_false_iff.mpr c2,Bool.false_and] at p;exact p v i
  rw [if_neg (fun z=>c (decide_eq_true (by rw [z])))] at d
  clear c;refine ⟨_,rfl,b,_,_,_,rfl,rfl,g e,qAN (j:=0) rfl,(by show 3<=sizeLine;lia),fun T3 g3=>⟨T3,[.str "plain",.str "few",.str "stair"],rfl,.inr (SqT.of qA1),rfl,rfl,_,rfl,?_⟩⟩
  rw [show inV (.str x) [.str "plain",.str "few",.str "stair"]=decide (x ∈ qDE) from qCM x qDE];have i:=e.trans (qA3 g3 (.tup [.str "plain",.str "few",.str "stair"]));generalize Af u T3 (.tup [.str "plain",.str "few",.str "stair"])=v at i ⊢;refine ite2 (fun c=>?_) fun c=>?_
  ·have c':decide (x ∈ qDE)=true:=c;rw [c',Bool.true_and] at d;refine ⟨_,rfl,_,rfl,_,rfl,b,_,rfl,g i,fun p4 h4=>?_⟩;have ec:cutV ((x::r).map V.str) (some 1) none=r.map V.str:=qEA (k:=1) (by simp)
   rw [ec];have o:=i.trans (qA3 h4 (.lst (r.map V.str)));exact ⟨a,p4,l,r,rfl,o _ _ ha,qA1,ln,by simp at lw ⊢;lia,fun H5 s5=>d H5 (o.trans s5)⟩
  ·have c':decide (x ∈ qDE)=false:=Bool.eq_false_iff.mpr c;rw [c',Bool.false_and] at d;exact d v i
theorem sc_Lfirst_fault:FnScope ["_law_text","_law_names_here","_law_begun","_law_deeds","_law_rows_here","_law_k","_law_row","_law_words","_law_fine"] ["_law_text"] (qAB qD3):=qC1
theorem ok_Lfirst_fault (F:Fun K "_law_first_fault" "_law_first_fault" qD3 f fd) (aq:Clb P w K mg base 1 qKK qPR "_law_plain" ["_law_word"] qUE) (an:Clb P w K mg base 2 qJK qR2 "_law_is_work" ["_law_names_here","_law_words"] qcK) (ao:Clb P w K mg base 2 qJM qR4 "_law_is_deed" ["_law_names_here","_law_words"] qcP) (qD2:mg "enumerate" = none) (qAP:mg "len" = none):FnOk P w K mg base CX0 3 f fd ["_law_text"] qcO:=by
 refine F.okA sc_Lfirst_fault fun aw A ap s H vs Q E hr h=>?_;obtain ⟨x,rfl,lx,ok,q⟩:=h;have ah:=hr.units0;refine ⟨_,(qA5 (qAG (i:=1) sc_Lfirst_fault.nd rfl (Or.inl rfl) (qB8 qA2)) (qA5 (qMJ (qD5 (qA0 qGO (qA0 qA7 qA2))) (qL4 rfl (qBU (qBS (i:=2) sc_Lfirst_fault.nd rfl (Or.inl rfl)) (qBU (qBS (i:=3) sc_Lfirst_fault.nd rfl (Or.inl rfl)) qGN)))) (qA5 (qAG (i:=4) sc_Lfirst_fault.nd rfl (Or.inl rfl) (qCI PySem.F.plainAttrs_str PySem.F.slot_str_split PySem.F.type_str_split qF5 (pv 0) (qA0 qAC qA2))) (qA5 (qFI PassesOwn.never rfl (qQP rfl qD2 qFQ (qA0 (pv 4) qA2)) (qL4 rfl (qBU (qBS (i:=5) sc_Lfirst_fault.nd rfl (Or.inl rfl)) (qBU (qBS (i:=6) sc_Lfirst_fault.nd rfl (Or.inl rfl)) qGN))) (qA5 (qAG (i:=7) sc_Lfirst_fault.nd rfl (Or.inl rfl) (qCI PySem.F.plainAttrs_str PySem.F.slot_str_split PySem.F.type_str_split qF5 (pv 6) (qA0 qAC qA2))) (qA5 (qAZ (qAD qXV (pv 5) qA7 (qAH _)) (qA6 (qAF qA7)) qAJ) (qA5 (qAZ (qAD qC5 (pv 6) qAC (qAH _)) (qA6 qQO) qAJ) (qA5 (qAZ (qEM (qD4 (pv 2))) (qA5 (qAG (i:=8) sc_Lfirst_fault.nd rfl (Or.inl rfl) (qD7 (qBF qC5 (qAA qA9 rfl qAP qAO (qA0 (pv 7) qA2)) qA7 (qAH _)) (qD7 (qBF qC5 (qBB qAM (pv 7) qA7 (fun _ _=>rfl)) qAC (qAH _)) (qEN (qBF qNN (qAQ aq hr rfl (qA0 (qBB qAM (pv 7) qA7 (fun _ _=>rfl)) qA2)) qA7 (qAH _)))))) (qA6 (qAG (i:=2) sc_Lfirst_fault.nd rfl (Or.inl rfl) qGO))) (qA6 (qAZ (qAD qC5 (qBB qAM (pv 7) qA7 (fun _ _=>rfl)) qAC (qAH _)) (qA5 (qAG (i:=8) sc_Lfirst_fault.nd rfl (Or.inl rfl) (qD7 (qBF qC5 (pv 3) qA7 (qAH _)) (qEN (qAQ an hr rfl (qA0 (pv 1) (qA0 (qBN qCV (pv 7) (qCR qA7) qCS) qA2)))))) (qA6 (qBR (qCI PySem.F.plainAttrs_list PySem.F.slot_list_append PySem.F.type_list_append qBQ (pv 1) (qA0 (qBB qAM (qAR qHO (pv 7) (qB8 (qA0 qAC qA2))) qA7 (fun _ _=>rfl)) qA2))))) (qA5 (qAG (i:=8) sc_Lfirst_fault.nd rfl (Or.inl rfl) (qD7 (qBF (qFK ah) (pv 1) (qB8 qA2) (qAH _)) (qEN (qAQ ao hr rfl (qA0 (pv 1) (qA0 (pv 7) qA2)))))) (qA6 (qAG (i:=3) sc_Lfirst_fault.nd rfl (Or.inl rfl) (qAR qD8 (pv 3) qA7))))))) (qA6 (qAZ (qEM (qD4 (pv 8))) (qA6 (qAF (pv 5))) qAJ))))))) (qA6 (qAF (qF3 (qAD (qHN ah) (pv 1) (qB8 qA2) (qAH _)) (qAA qA9 rfl qAP qAO (qA0 (pv 4) qA2)) qEO))))))),?_⟩
 try dsimp only [Cx.nox,Cx.wish,cxOf]
 have hs:=sizeLine_eq;refine cut fun N0 a7=>?_;refine ⟨(by show 0<=sizeLine;lia),fun p hp=>a7 _ _ ?_⟩
 clear a7;have s0:=qA3 hp (.lst []);have g0:(Af H p (.lst [])) p=some (.lst (([]:List Str).map V.str)):=qA1;generalize Af H p (.lst [])=H0 at s0 g0 ⊢;refine cut fun N1 ai=>?_;refine ⟨(by show 2<=sizeLine;lia),fun T hT=>⟨T,_,rfl,SqT.of qA1,rfl,_,_,rfl,_,_,rfl,rfl,ai _ _ ?_⟩⟩
 clear ai;have s1:=s0.trans (qA3 hT (.tup [.bl false,.int 0]));have g1:=qA3 hT (.tup [.bl false,.int 0]) _ _ g0;generalize Af H0 T (.tup [.bl false,.int 0])=H1 at s1 g1 ⊢;refine cut fun N2 ae=>?_;have ls:=PyProof.Rows.split_le x (Str.ofString "\n");refine ⟨_,rfl,rfl,_,_,rfl,rfl,by decide,by lia,fun l hl=>ae _ _ ?_⟩
 clear ae;have s2:=s1.trans (qA3 hl (.lst ((Txt.split x (Str.ofString "\n")).map V.str)));have g2:=qA3 hl (.lst ((Txt.split x (Str.ofString "\n")).map V.str)) _ _ g1;have gl:(Af H1 l (.lst ((Txt.split x (Str.ofString "\n")).map V.str))) l=_:=qA1;have am:l ≠ p:=fun z=>by rw [z,g1] at hl;cases hl
 generalize Txt.split x (Str.ofString "\n")=d at s2 g2 gl ok q ls ⊢;generalize Af H1 l (.lst (d.map V.str))=H2 at s2 g2 gl ⊢;have a0:∀ {Hc:Hp},KeepL [p] H2 Hc->Same H Hc:=fun k b o e=>k _ _ (s2 _ _ e) fun z=>by rw [List.mem_singleton.mp z,hp] at e;cases e
 have gp:∀ {Hc:Hp},KeepL [p] H2 Hc->Hc l=some (.lst (d.map V.str)):=fun k=>k _ _ gl fun z=>am (List.mem_singleton.mp z);refine cut fun N3 aj=>?_;refine ⟨_,rfl,l,rfl,⟨_,SqL.of gl⟩,qSF (a:=l) (xs:=d.map V.str) (fun i σ Hc=>∃ v5 v6 v7 v8 bg nm dn si,σ=[some (.str x),some (.ref p),some (.bl bg),some (.int ((dn:Nat):Int)),some (.ref l),v5,v6,v7,v8]/\KeepL [p] H2 Hc/\Hc p=some (.lst (nm.map V.str))/\Sim si bg nm dn/\fltF 0 sh0 d=fltF i si (d.drop i)/\i<=100) ⟨none,none,none,none,false,[],0,sh0,rfl,KeepL.of_same (Same.refl _),g2,sim0,rfl,Nat.zero_le _⟩ ?_ ?_ ?_⟩
 ·rintro i σ Hc _ ⟨v5,v6,v7,v8,bg,nm,dn,si,rfl,k,_⟩;exact SqL.of (gp k)
 ·refine fun i x' σ Hc T2 ex a6 a9=>opq fun av ag=>?_;obtain ⟨v5,v6,v7,v8,bg,nm,dn,si,rfl,k,gn,S,fe,as⟩:=a6;refine ag ?_;rw [List.getElem?_map] at ex;obtain ⟨r,er,rfl⟩:=Option.map_eq_some_iff.mp ex;rw [qW4 er] at fe;have a2:=ok r (List.mem_of_getElem? er);refine ⟨T2,_,rfl,SqT.of qA1,rfl,_,_,rfl,_,_,rfl,rfl,?_⟩;have k1:=k.trans (KeepL.of_same (qA3 a9 (.tup [.int (i:Int),.str r])));have n1:=qA3 a9 (.tup [.int (i:Int),.str r]) _ _ gn;generalize Af Hc T2 (.tup [.int (i:Int),.str r])=H3 at k1 n1 ⊢;refine cut fun M0 ab=>?_;have wl:=PyProof.Rows.split_le r (Str.ofString " ");have wp:=PyProof.Rows.split_pos r (Str.ofString " ");have a3:=qX7 a2;have ar:=a2.1;have rf:=fun h0=>qXJ S (row:=r) h0 a2.1 a2.2;have rn:=fun h0 s'=>qXI (s':=s') S (row:=r) h0;refine ⟨_,rfl,rfl,_,_,rfl,rfl,by decide,by lia,fun v a1=>ab _ _ ?_⟩
  clear ab;have k2:=k1.trans (KeepL.of_same (qA3 a1 (.lst ((Txt.split r (Str.ofString " ")).map V.str))));have n2:=qA3 a1 (.lst ((Txt.split r (Str.ofString " ")).map V.str)) _ _ n1;have gw:(Af H3 v (.lst ((Txt.split r (Str.ofString " ")).map V.str))) v=_:=qA1;have ax:v ≠ p:=fun z=>by rw [z,n1] at a1;cases a1
  generalize Txt.split r (Str.ofString " ")=ws at k2 n2 gw wl wp a3 rf rn ⊢;generalize Af H3 v (.lst (ws.map V.str))=H4 at k2 n2 gw ⊢;refine ⟨_,rfl,_,_,rfl,rfl,_,rfl,?_⟩;refine ite2 (fun c=>?_) fun c=>?_
  ·have e:i=100:=by have:=of_decide_eq_true c;lia
   subst e;rw [qVY] at fe;rw [fe] at q;exact q H4 (a0 k2)
  have a5:¬ i=100:=by have:=of_decide_eq_false (Bool.eq_false_iff.mpr c);lia
  refine ⟨_,rfl,rfl,_,rfl,?_⟩;refine ite2 (fun c2=>?_) fun c2=>?_
  ·have e:r=Str.ofString "":=V.str.inj (of_decide_eq_true c2);subst e;rw [qVW a5 qaE] at fe;exact ⟨_,_,_,_,bg,nm,dn,si,rfl,k2,n2,S,fe,by lia⟩
  have h0:¬ r=Str.ofString "":=fun z=>c2 (decide_eq_true (by rw [z]))
  have rf:=rf h0;have rn:=rn h0;refine cut fun M9 ad=>ad _ _ ?_;clear ad;refine cut fun M1 ac=>?_;have g:∀ (bg':Bool) (nm':List Str) (dn':Nat) (fb:Bool) (H5:Hp),KeepL [p] H2 H5->H5 p=some (.lst (nm'.map V.str))->fb=qO1 bg nm dn ws->(∀ s',rowT si r=some s'->Sim s' bg' nm' dn')->M1 [some (.str x),some (.ref p),some (.bl bg'),some (.int ((dn':Nat):Int)),some (.ref l),some (.int (i:Int)),some (.str r),some (.ref v),some (.bl fb)] H5:=by
   intro bg' nm' dn' fb H5 k5 n5 t S5;refine ac _ _ ?_;rw [<- t] at rf;refine ⟨_,rfl,_,rfl,?_⟩;cases fb with
   | false=>
    have e:=qVX (rs:=d.drop (i+1)) a5 (Option.isSome_eq_false_iff.mp rf |> Option.isNone_iff_eq_none.mp);rw [fe,e] at q;exact ⟨_,rfl,q H5 (a0 k5)⟩
   | true=>
    obtain ⟨s',e⟩:=Option.isSome_iff_exists.mp rf;rw [qVW a5 e] at fe;exact ⟨_,_,_,_,bg',nm',dn',s',rfl,k5,n5,S5 s' e,fe,by lia⟩
  clear ac;have a4:nm.length<=300:=by
   have:=S.len;have:=S.n40;rw [S.names] at *
   lia
  cases bg with
  | false=>
   refine ⟨_,rfl,_,rfl,iteT ?_⟩;refine cut fun M2 u=>?_;have r2:∀ (fb:Bool) (H5:Hp),Same H4 H5->fb=qO1 false nm dn ws->M2 [some (.str x),some (.ref p),some (.bl false),some (.int (dn:Int)),some (.ref l),some (.int (i:Int)),some (.str r),some (.ref v),some (.bl fb)] H5:=fun fb H5 m e=>u _ _ (g true nm dn fb H5 (k2.trans (KeepL.of_same m)) (m _ _ n2) e fun s' z=>by
    have:=rn s' z;rw [if_neg (fun z=>by cases z.1),if_neg (fun z=>by cases z.1)] at this
    exact this)
   clear u g;refine ⟨_,rfl,v,_,rfl,.inl (SqL.of gw),rfl,_,rfl,?_⟩;rcases ws with _ | ⟨a,_ | ⟨b,_ | ⟨c,r⟩⟩⟩
   ·exact absurd wp (by decide)
   ·exact iteF (r2 false H4 (Same.refl _) rfl)
   ·refine iteT ⟨_,rfl,v,_,_,_,rfl,rfl,SqL.of gw,qAN (j:=0) rfl,rfl,_,rfl,?_⟩;have t:qO1 false nm dn [a,b]=(decide (a=Str.ofString "rooms") && decide (0<plnF b)):=rfl;refine ite2 (fun c=>?_) fun c=>?_
    ·rw [decide_eq_true (V.str.inj (of_decide_eq_true c)),Bool.true_and] at t;exact ⟨_,rfl,v,_,_,_,rfl,rfl,SqL.of gw,qAN (j:=1) rfl,b,rfl,a3 b (by simp),fun H5 m=>⟨_,_,rfl,rfl,r2 _ H5 m t.symm⟩⟩
    ·rw [decide_eq_false (fun z=>c (decide_eq_true (by rw [z]))),Bool.false_and] at t
     exact r2 false H4 (Same.refl _) t.symm
   ·rw [decide_eq_false (by intro z;have:=V.int.inj z;simp at this;lia)]
    exact iteF (r2 false H4 (Same.refl _) rfl)
  | true=>
   refine ⟨_,rfl,_,rfl,iteF ?_⟩;rcases ws with _ | ⟨w0,wr⟩
   ·exact absurd wp (by decide)
   have al:wr.length<=300:=by rw [List.length_cons] at wl;lia
   have t:qO1 true nm dn (w0::wr)=if w0=Str.ofString "work" then decide (dn=0) && qQ8 nm wr else !nm.isEmpty && qTH nm (w0::wr):=by
    show (if some w0=some (Str.ofString "work") then _ else _)=_
    by_cases e:w0=Str.ofString "work"
    ·rw [if_pos e,if_pos (by rw [e])];rfl
    ·rw [if_neg e,if_neg (fun z=>e (Option.some.inj z))]
   refine ⟨_,rfl,v,_,_,_,rfl,rfl,SqL.of gw,qAN (j:=0) rfl,rfl,_,rfl,?_⟩;refine ite2 (fun c=>?_) fun c=>?_
   ·have ew:w0=Str.ofString "work":=V.str.inj (of_decide_eq_true c);rw [if_pos ew] at t;refine cut fun M2 u=>?_;have r2:∀ (fb:Bool) (H5:Hp),Same H4 H5->fb=qO1 true nm dn (w0::wr)->M2 [some (.str x),some (.ref p),some (.bl true),some (.int (dn:Int)),some (.ref l),some (.int (i:Int)),some (.str r),some (.ref v),some (.bl fb)] H5:=fun fb H5 m e=>u _ _ (by
     have g5:=m _ _ gw;have n5:=m _ _ n2;refine ⟨_,rfl,.inl ⟨rfl,_,SqL.of n5⟩,_,rfl,(by show 1<=sizeLine;lia),fun l6 h6=>⟨v,l6,_,_,rfl,rfl,qA3 h6 _ _ _ g5,qA1,?_,fun l7 h7=>?_⟩⟩
     ·rw [List.length_map];show _+1<=sizeLine
      lia
     have s7:=(qA3 h6 (.lst [.str (Str.ofString "")])).trans (qA3 h7 (.lst ((w0::wr).map V.str++[.str (Str.ofString "")])));refine ⟨l7,_,_,.str (((w0::wr)++[Str.ofString ""]).getD 1 (Str.ofString "")),rfl,rfl,SqL.of qA1,qAN (j:=1) (by cases wr <;> rfl),p,_,_,rfl,rfl,s7 _ _ n5,by rw [List.length_map];lia,?_⟩
     refine g true (nm++[((w0::wr)++[Str.ofString ""]).getD 1 (Str.ofString "")]) dn fb _ (((k2.trans (KeepL.of_same m)).trans (KeepL.of_same s7)).trans fun b o z n=>by rw [qA8 (fun y=>n (by rw [y];simp))];exact z) (by rw [qA1,List.map_append];rfl) e fun s' z=>?_
     have:=rn s' z;rw [if_pos ⟨rfl,by rw [ew];rfl⟩,if_neg (fun z=>z.2 (by rw [ew];rfl))] at this
     exact this)
    clear u g;refine ⟨_,rfl,rfl,_,rfl,?_⟩;refine ite2 (fun c2=>?_) fun c2=>?_
    ·rw [decide_eq_true (show dn=0 by have:=V.int.inj (of_decide_eq_true c2);lia),Bool.true_and] at t
     refine ⟨_,rfl,_,rfl,_,rfl,v,_,rfl,SqL.of gw,fun p5 h5=>?_⟩;have ec:cutV ((w0::wr).map V.str) (some 1) none=wr.map V.str:=qEA (k:=1) (by simp)
     rw [ec];have m:=qA3 h5 (.lst (wr.map V.str));exact ⟨p,p5,nm,wr,rfl,m _ _ n2,qA1,a4,al,fun y hy=>a3 y (List.mem_cons_of_mem _ hy),fun H6 s6=>r2 _ H6 (m.trans s6) t.symm⟩
    ·rw [decide_eq_false (show ¬ dn=0 from fun z=>c2 (decide_eq_true (by rw [z];rfl))),Bool.false_and] at t
     exact r2 false H4 (Same.refl _) t.symm
   ·have ew:¬ w0=Str.ofString "work":=fun z=>c (decide_eq_true (by rw [z]))
    rw [if_neg ew] at t;have nw:¬ (w0::wr).head?=some (Str.ofString "work"):=fun z=>ew (Option.some.inj z);refine cut fun M2 u=>?_;have r2:∀ (fb:Bool) (H5:Hp),Same H4 H5->fb=qO1 true nm dn (w0::wr)->M2 [some (.str x),some (.ref p),some (.bl true),some (.int (dn:Int)),some (.ref l),some (.int (i:Int)),some (.str r),some (.ref v),some (.bl fb)] H5:=fun fb H5 m e=>u _ _ ⟨_,rfl,_,_,rfl,rfl,g true nm (dn+1) fb H5 (k2.trans (KeepL.of_same m)) (m _ _ n2) e fun s' z=>by
     have:=rn s' z;rw [if_neg (fun z=>nw z.2),if_pos ⟨rfl,nw⟩] at this;exact this⟩
    clear u g;refine ⟨_,rfl,(by show 0<=sizeLine;lia),fun l5 h5=>⟨p,l5,_,rfl,rfl,SqL.of (qA3 h5 _ _ _ n2),SqL.of qA1,_,rfl,?_⟩⟩
    have m:=qA3 h5 (.lst []);generalize Af H4 l5 (.lst [])=H5 at m ⊢;rw [List.isEmpty_map];refine ite2 (fun c2=>?_) fun c2=>?_
    ·rw [c2,Bool.true_and] at t;exact ⟨_,rfl,_,rfl,p,v,nm,w0::wr,rfl,m _ _ n2,m _ _ gw,a4,by lia,(by simp),a3,fun H6 s6=>r2 _ H6 (m.trans s6) t.symm⟩
    ·rw [Bool.eq_false_iff.mpr c2,Bool.false_and] at t;exact r2 false H5 m t.symm
 ·refine fun σ Hc af=>opq fun au a8=>?_;obtain ⟨v5,v6,v7,v8,bg,nm,dn,si,rfl,k,gn,S,fe,_⟩:=af;refine a8 ?_;refine aj _ _ ?_;clear aj;rw [List.length_map,List.drop_length] at fe;have ak:fltF d.length si []=if si.net.isEmpty=true then some d.length else none:=rfl
  have ln:si.net.isEmpty=nm.isEmpty:=by
   have:=S.len;rw [S.names] at this;cases h:nm <;> cases h2:si.net <;> rw [h,h2] at this <;> first | rfl | cases this
  rw [fe,ak,ln] at q;refine ⟨_,rfl,(by show 0<=sizeLine;lia),fun l2 aa=>⟨p,l2,_,rfl,rfl,SqL.of (qA3 aa _ _ _ gn),SqL.of qA1,_,rfl,?_⟩⟩
  have k3:=k.trans (KeepL.of_same (qA3 aa (.lst [])));generalize Af Hc l2 (.lst [])=H5 at k3 ⊢;rw [List.isEmpty_map];cases h:nm.isEmpty with
  | true=>
   rw [h,if_pos rfl] at q;refine iteT ⟨_,rfl,l,_,rfl,.inl (SqL.of (gp k3)),?_⟩;rw [List.length_map];exact q H5 (a0 k3)
  | false=>
   rw [h,if_neg (by decide)] at q
   exact iteF (q H5 (a0 k3))
section
variable {P:Program} {w:World} {K:PySem.W.Frag} {mg:Str->Option Value} {base:Heap} {f:Addr} {fd:FuncData} {c_Sheet qAE qB9 qBH qB3:Addr} {qGC qI9 qET:FuncData} {tk_MOST_ROWS:Tok}
theorem qLZ:FnScope ["self","row"] ["self","row"] (qAB qBM):=qC1
theorem ok_init_BadRow (F:Fun K "__init__" "BadRow.__init__" qBM f fd) (qDF:XCls K qAE (some (.ref f))) (n_row:PySem.W.findIn K (.ref qAE) "row" = some none):FnOk P w K mg base CX0 1 f fd ["self","row"] (qUG qAE):=by
 refine F.okA qLZ fun d A b s H j Q E k h=>?_;obtain ⟨x,a,rfl,g,q⟩:=h;refine ⟨_,(qA6 (qaJ qDF (pv 0) (pv 1))),?_⟩
 try dsimp only [Cx.nox,Cx.wish,cxOf]
 exact ⟨_,rfl,_,rfl,x,none,rfl,g,n_row,.inl ⟨rfl,fun i c e=>q i c e⟩⟩
theorem sc_read_sheet:FnScope ["text","rows","sheet","number","row"] ["text"] (qAB qE0):=qC1
theorem ok_read_sheet (F:Fun K "read_sheet" "read_sheet" qE0 f fd) (cl_Sheet:Cls K c_Sheet) (ns_Sheet:SNa K c_Sheet) (mk_Sheet:Mk K c_Sheet qBH) (m_Sheet:mg "Sheet" = some (.ref c_Sheet)) (qC9:Meth K c_Sheet "take_row" qB3)
  (qEF:FnOk P w K mg base CX0 1 qBH qI9 ["self"] (qUC c_Sheet)) (qEE:Binds K qI9 ["self"] [])
  (qCP:FnOk P w K mg base CX0 7 qB3 qET ["self","row"] (qYV c_Sheet)) (qCO:Binds K qET ["self","row"] []) (m_MOST_ROWS:mg "MOST_ROWS" = some (.int 100 tk_MOST_ROWS)) (qDF:XCls K qAE (some (.ref qB9))) (qDS:PySem.W.isFn K (.ref qB9)=true) (qF7:mg "BadRow" = some (.ref qAE))
  (qD0:FnOk P w K mg base CX0 1 qB9 qGC ["self","row"] (qUG qAE)) (qCZ:Binds K qGC ["self","row"] []) (qAP:mg "len" = none) (qD2:mg "enumerate" = none) (qB5:mg "tuple" = none):FnOk P w K mg base (CX1 P w) 8 f fd ["text"] (qQC qAE):=by
 refine F.okX sc_read_sheet (fun vs H Q E h=>?_) (fun ai A ae s H vs Q E hr h=>?_)
 ·obtain ⟨x,rfl,_⟩:=h
  rfl
 obtain ⟨x,rfl,lx,q,qE⟩:=h;have a5:Room 2 _:=(hr.mono (by decide))
 have aa:Room 2 _:=(hr.mono (by decide))
 have ab:Room 7 _:=(hr.mono (by decide))
 refine ⟨_,(qA5 (qAG (i:=1) sc_read_sheet.nd rfl (Or.inl rfl) (qCI PySem.F.plainAttrs_str PySem.F.slot_str_split PySem.F.type_str_split qF5 (pv 0) (qA0 qAC qA2))) (qA5 (qAG (i:=2) sc_read_sheet.nd rfl (Or.inl rfl) (qXT mk_Sheet qEF aa rfl m_Sheet qEE .nil qQQ)) (qA5 (qFI own1 rfl (qQP rfl qD2 qFQ (qA0 (pv 1) qA2)) (qL4 rfl (qBU (qBS (i:=3) sc_read_sheet.nd rfl (Or.inl rfl)) (qBU (qBS (i:=4) sc_read_sheet.nd rfl (Or.inl rfl)) qGN))) (qA6 (qAZ (PW.pt (qF1 (qAD qC5 (pv 3) (qCH (v:=.int (100)) rfl m_MOST_ROWS ⟨_,rfl⟩) (qAH _)) (qEL (qEM (qD4 (qL6 (pv 2) cl_Sheet qC9 qCP ab qCO .nil qQQ (qA0 (pv 4) qA2))))))) (qA6 (qP8 rfl rfl qDF qDS qD0 a5 rfl qF7 qCZ (qA0 (pv 3) qA2) (by decide))) qAJ))) (qA5 (qAZ (qEM (qNJ (qD6 (pv 2) rfl) (fun _=>rfl))) (qA6 (qP8 rfl rfl qDF qDS qD0 a5 rfl qF7 qCZ (qA0 (qAA qA9 rfl qAP qAO (qA0 (pv 1) qA2)) qA2) (by decide))) qAJ) (qA6 (qAF (qD5 (qA0 (qD6 (pv 2) rfl) (qA0 (qAK (qRE rfl) rfl qB5 qBD (qA0 (qD6 (pv 2) rfl) qA2)) (qA0 (qAK qAV rfl qB5 qBD (qA0 (qD6 (pv 2) rfl) qA2)) (qA0 (qD6 (pv 2) rfl) qA2))))))))))),?_⟩
 try dsimp only [Cx.nox,Cx.wish,cxOf]
 have hs:=sizeLine_eq;have ls:=PyProof.Rows.split_le x (Str.ofString "\n");refine cut fun N0 a1=>?_;refine ⟨_,rfl,rfl,_,_,rfl,rfl,by decide,by lia,fun p hp=>a1 _ _ (cut fun N1 a8=>?_)⟩
 clear a1;have s0:=qA3 hp (.lst ((Txt.split x (Str.ofString "\n")).map V.str));have g0:(Af H p (.lst ((Txt.split x (Str.ofString "\n")).map V.str))) p=_:=qA1;generalize hrows:Txt.split x (Str.ofString "\n")=d at s0 g0 q qE ls ⊢;have rl:∀ r ∈ d,r.length<=x.length:=fun r hr=>PyProof.Rows.part_short (by rw [hrows];exact hr)
 generalize Af H p (.lst (d.map V.str))=H0 at s0 g0 ⊢;intro y g hy j n;have s1:Same H0 (Af (Af H0 g (.own y)) y (.ins c_Sheet g [])):=(qA3 j _).trans (qA3 (by rw [qA8 n.symm];exact hy) _)
 refine ⟨y,g,rfl,qA1,fun a b c H1 k1 ha hb hc Y=>⟨rfl,a8 _ _ ?_⟩⟩;clear a8;have fr:∀ q,(Af (Af H0 g (.own y)) y (.ins c_Sheet g [])) q=none->H q=none:=fun q z=>s0.free (s1.free z);have s2:Same H0 H1:=fun q o e=>k1 _ _ (s1 _ _ e) fun z=>by rw [List.mem_singleton.mp z,hy] at e;cases e
 have ny:H y=none:=s0.free hy;have s3:=s0.trans s2;have gp:=s2 _ _ g0;refine cut fun N2 ac=>?_;have np:∀ q,H q=none->H0 q=none->p ≠ q:=fun q _ z e=>by rw [<- e,g0] at z;cases z
 have u:∀ H2,KeepL [y,a,b,c] H1 H2->Same H0 H2:=fun H2 k q o e=>k _ _ (s2 _ _ e) fun z=>by
  simp only [List.mem_cons,List.not_mem_nil,or_false] at z;rcases z with rfl | rfl | rfl | rfl
  ·rw [hy] at e;cases e
  ·rw [s1.free ha] at e;cases e
  ·rw [s1.free hb] at e;cases e
  ·rw [s1.free hc] at e;cases e
 refine ⟨_,rfl,p,rfl,⟨_,SqL.of gp⟩,qSF (a:=p) (xs:=d.map V.str) (fun i σ Hc=>∃ v3 v4 si,σ=[some (.str x),some (.ref p),some (.ref y),v3,v4]/\KeepL [y,a,b,c] H1 Hc/\qR0 sh0 (d.take i)=some si/\fltF 0 sh0 d=fltF i si (d.drop i)/\i<=100/\ShAt c_Sheet Hc y g a b c si) ⟨none,none,sh0,rfl,KeepL.of_same (Same.refl _),by rw [List.take_zero];rfl,rfl,Nat.zero_le _,Y⟩ ?_ ?_ ?_⟩
 ·rintro i σ Hc _ ⟨v3,v4,si,rfl,k,_,_,_,_⟩;exact SqL.of (u _ k _ _ g0)
 ·refine fun i x' σ Hc T m a0 hT=>opq fun ah a7=>?_;obtain ⟨v3,v4,si,rfl,k,fi,t,af,Yi⟩:=a0;refine a7 ?_;rw [List.getElem?_map] at m;obtain ⟨r,er,rfl⟩:=Option.map_eq_some_iff.mp m;rw [qW4 er] at t;have li:i<d.length:=(List.getElem?_eq_some_iff.mp er).1;refine ⟨T,_,rfl,SqT.of qA1,rfl,_,_,rfl,_,_,rfl,rfl,?_⟩;have sT:=qA3 hT (.tup [.int (i:Int),.str r]);have Yt:=Yi.next sT;have kT:=k.trans (.of_same sT);generalize Af Hc T (.tup [.int (i:Int),.str r])=H2 at sT Yt kT ⊢;have a3:∀ {H3:Hp},KeepL [y,a,b,c] H1 H3->fltF 0 sh0 d=some i->∀ m,H3 m=none->∀ g,(Af H3 m (ExcN m qAE none)) g=none->g ≠ m->E (.ref qAE) (some g) (Af H3 g (XDic g (xrow i))):=fun k3 e3 m l g j n=>by
   rw [qA8 n] at j;exact qE i g _ e3 ((s0.trans (u _ k3)).trans (qA3 j _)) qA1
  refine ⟨_,rfl,rfl,_,rfl,?_⟩;refine ite2 (fun c1=>?_) fun c1=>?_
  ·have e:i=100:=by have:=V.int.inj (of_decide_eq_true c1);lia
   subst e;rw [qVY] at t;refine ⟨_,rfl,fun m l=>⟨m,_,rfl,qA1,fun g j n=>⟨rfl,some g,_,qN3 n,?_,a3 kT t m l g j n⟩⟩⟩;rw [qA8 n.symm];exact l
  have a4:¬ i=100:=fun z=>c1 (decide_eq_true (by rw [z];rfl))
  have ld:=qMS fi;have lr:=rl r (List.mem_of_getElem? er);have ad:(sfs (optV si.rooms) a b c).lookup (Str.ofString "take_row")=none:=by
   unfold sfs;rw [qAI,if_neg (by decide),qAI,if_neg (by decide),qAI,if_neg (by decide),qAI,if_neg (by decide)]
   rfl
  refine ⟨_,rfl,y,g,_,rfl,Yt.obj,ad,_,rfl,y,g,a,b,c,si,r,rfl,Yt,by lia,?_,?_⟩
  ·rw [List.length_take] at ld;show si.deeds.length<=1000;have:sh0.deeds.length=0:=rfl
   lia
  intro H3 k3 Y3;have kk:=kT.trans k3;cases er3:rowT si r with
  | none=>
   have fb:=qVX (rs:=d.drop (i+1)) a4 er3;rw [<- t] at fb;refine ⟨_,rfl,?_⟩;refine ⟨_,rfl,fun m l=>⟨m,_,rfl,qA1,fun g j n=>⟨rfl,some g,_,qN3 n,?_,a3 kk fb m l g j n⟩⟩⟩;rw [qA8 n.symm];exact l
  | some s'=>
   rw [qVW a4 er3] at t;rw [er3] at Y3;refine ⟨_,rfl,_,_,s',rfl,kk,?_,t,by lia,Y3⟩
   rw [List.take_add_one,er,Option.toList_some,qPO,fi];exact er3
 ·refine fun σ Hc a6=>opq fun ag a2=>?_;obtain ⟨v3,v4,si,rfl,k,fi,t,_,Yi⟩:=a6;refine a2 ?_;refine ac _ _ ?_;rw [List.length_map,List.drop_length] at t;have a9:fltF d.length si []=if si.net.isEmpty=true then some d.length else none:=rfl
  rw [a9] at t;obtain ⟨rs,g1,g2⟩:=Yi.net;obtain ⟨vs,g3,g4⟩:=Yi.deeds;refine ⟨_,rfl,y,c_Sheet,g,_,_,rfl,Yi.obj,cl_Sheet,ns_Sheet.net,qMG,_,.inl ⟨_,SqL.of g1,rfl⟩,?_⟩;have er:(rs.map V.ref).isEmpty=si.net.isEmpty:=by
   rw [List.isEmpty_map,qJ5 g2]
  rw [er];cases en:si.net.isEmpty with
  | true=>
   rw [en,if_pos rfl] at t;refine ⟨_,rfl,p,_,rfl,.inl (SqL.of (u _ k _ _ g0)),fun m l=>⟨m,_,rfl,qA1,fun g j n=>⟨rfl,some g,_,qN3 n,?_,?_⟩⟩⟩
   ·rw [qA8 n.symm];exact l
   ·rw [qA8 n] at j;rw [List.length_map];exact qE _ g _ t ((s0.trans (u _ k)).trans (qA3 j _)) qA1
  | false=>
   rw [en,if_neg (by decide)] at t
   refine ⟨_,rfl,y,c_Sheet,g,_,_,rfl,Yi.obj,cl_Sheet,ns_Sheet.rooms,qN7,_,rfl,y,c_Sheet,g,_,_,rfl,Yi.obj,cl_Sheet,ns_Sheet.numbers,qEK,a,_,rfl,Yi.num,fun t1 h1=>?_⟩;rw [qPD];have q1:=qA3 h1 (.tup (si.names.map V.str));refine ⟨_,rfl,y,c_Sheet,g,_,_,rfl,q1 _ _ Yi.obj,cl_Sheet,ns_Sheet.net,qMG,b,_,rfl,.inl ⟨SqL.of (q1 _ _ g1),fun t2 h2=>?_⟩⟩;have q2:=q1.trans (qA3 h2 (.tup (rs.map V.ref)));refine ⟨_,rfl,y,c_Sheet,g,_,_,rfl,q2 _ _ Yi.obj,cl_Sheet,ns_Sheet.deeds,qN8,(by show 4<=sizeLine;decide),fun t3 h3=>?_⟩
   exact q t _ _ ((s0.trans (u _ k)).trans (q2.trans (qA3 h3 _)))
end
section
variable {P:Program} {w:World} {K:PySem.W.Frag} {mg:Str->Option Value} {base:Heap} {f:Addr} {fd:FuncData} {qCY qAE qCX qCW qC8 qDY qAW:Addr} {qCB:FuncData}
theorem sc_Lrefused:FnScope ["_law_call","_law_text","_law_caught","error"] ["_law_call","_law_text"] (qAB qFY):=qC1
theorem ok_Lrefused (F:Fun K "_law_refused" "_law_refused" qFY f fd) (a:XTy K qAE) (n_row:PySem.W.findIn K (.ref qAE) "row" = some none)
  (ab:mg "Barred" = some (.ref qCY)) (qF7:mg "BadRow" = some (.ref qAE)) (a8:mg "NoMove" = some (.ref qCX)) (aa:mg "NoTree" = some (.ref qCW)) (a7:mg "TooMany" = some (.ref qC8))
  (c:PySem.W.kitAny K (.ref qAE) [.ref qCY,.ref qCX,.ref qCW,.ref qC8]=some false) (b:PySem.W.kitOne K (.ref qAE) (.type "ValueError")=some true)
  (a5:PySem.W.exmOne K (.ref qAE) (.ref qDY)=some true) (a9:mg "RoomError" = some (.ref qDY))
  (qDC:FnOk P w K mg base (CX1 P w) 8 qAW qCB ["text"] (qQC qAE)) (qDB:Binds K qCB ["text"] []) (qE4:PySem.W.keepIn K (.ref qAW)=true) (qCU:mg "read_sheet" = some (.ref qAW)) (m:mg "isinstance" = none) (a2:mg "ValueError" = none):FnOk P w K mg base CX0 9 f fd ["_law_call","_law_text"] (qcL qAW):=by
 refine F.okA sc_Lrefused fun ac A a3 s H vs Q E hr h=>?_;obtain ⟨x,rfl,lx,q⟩:=h;have a0:Room 8 _:=hr;refine ⟨_,(qA5 (qAG (i:=2) sc_Lrefused.nd rfl (Or.inl rfl) qEO) (qA5 (qXQ (i:=0) (j:=some 3) rfl rfl sc_Lrefused.nd qDC a0 rfl (Or.inl rfl) qE4 qDB .nil (qA0 (pv 1) qA2) rfl a9 ⟨rfl,rfl⟩ (fun ev=>(qA6 (qAG (i:=2) sc_Lrefused.nd rfl (Or.inl rfl) (pv 3))))) (qA5 (qAZ (qFH (qHK (pv 2))) (qA6 (qAF qEO)) qAJ) (qA5 (qAZ (PW.pt (qF1 (qEM (qD4 (qAA qSN rfl m qB2 (qA0 (pv 2) (qA0 (qCH (v:=.ref qAE) rfl qF7 rfl) qA2))))) (qEL (qD4 (qAA qWP rfl m qB2 (qA0 (pv 2) (qA0 (qD5 (qA0 (qCH (v:=.ref qCY) rfl ab rfl) (qA0 (qCH (v:=.ref qCX) rfl a8 rfl) (qA0 (qCH (v:=.ref qCW) rfl aa rfl) (qA0 (qCH (v:=.ref qC8) rfl a7 rfl) qA2))))) qA2))))))) (qA6 (qAF (qT0 qMD qA7))) qAJ) (qA6 (qAF (qF3 (qD4 (qAA qSN rfl m qB2 (qA0 (pv 2) (qA0 (qF4 (v:=.ty "ValueError") rfl a2 qOE rfl) qA2)))) (qaP (pv 2) rfl) (qT0 qMD qA7)))))))),?_⟩
 try dsimp only [Cx.nox,Cx.wish,cxOf]
 refine cut fun N0 p=>p _ _ ?_;clear p;refine cut fun N1 l=>?_;refine ⟨rfl,_,rfl,x,rfl,lx,fun e v u s3=>l _ _ ?_,fun n k u e s3 a4=>⟨a5,fun g a1=>⟨_,rfl,l _ _ ?_⟩⟩⟩
 ·clear l;rw [e] at q;exact ⟨_,rfl,_,rfl,iteT (q u s3)⟩
 ·clear l;rw [e] at q;have sx:=qA3 a1 (ExcO g (.ref qAE) (some k));have y:(Af u g (ExcO g (.ref qAE) (some k))) g=some (ExcO g (.ref qAE) (some k)):=qA1;have gd:=sx _ _ a4;have s4:=s3.trans sx;generalize Af u g (ExcO g (.ref qAE) (some k))=H4 at y gd s4 ⊢;have xt:ExcT H4 g qAE (some k):=⟨y,fun d z=>by cases z;exact ⟨_,gd⟩⟩
  refine ⟨_,rfl,_,rfl,iteF ?_⟩;refine ⟨_,rfl,g,qAE,some k,_,.ref qAE,true,rfl,xt,a,rfl,fun c' z=>z,qY3,_,rfl,?_⟩;refine ⟨_,rfl,(by show 4<=sizeLine;decide),fun T2 a6=>?_⟩
  have o:=qA3 a6 (.tup [.ref qCY,.ref qCX,.ref qCW,.ref qC8]);have r:(Af H4 T2 (.tup [.ref qCY,.ref qCX,.ref qCW,.ref qC8])) T2=some (.tup ([qCY,qCX,qCW,qC8].map V.ref)):=qA1;generalize Af H4 T2 (.tup [.ref qCY,.ref qCX,.ref qCW,.ref qC8])=H5 at o r ⊢;have t:ExcT H5 g qAE (some k):=⟨o _ _ y,fun d z=>by cases z;exact ⟨_,o _ _ gd⟩⟩
  refine ⟨g,qAE,some k,T2,[qCY,qCX,qCW,qC8],false,rfl,t,a,r,c,_,rfl,?_⟩;refine ⟨_,rfl,g,qAE,some k,_,.type "ValueError",true,rfl,t,a,rfl,fun c' z=>z,b,_,rfl,?_⟩;exact ⟨_,rfl,g,qAE,k,_,_,rfl,o _ _ y,o _ _ gd,a.toXGet,n_row,rfl,q H5 (s4.trans o)⟩
end
theorem sc_Lspoilt:FnScope ["_law_state","_law_rows_here","_law_names_here","_law_found","_law_at","_law_words","_law_k","_law_odd","_law_way","_law_other","_law_some"] ["_law_state","_law_rows_here","_law_names_here"] (qAB qHH):=qC1
theorem ok_Lspoilt (F:Fun K "_law_spoilt" "_law_spoilt" qHH f fd) (qAL:Clb P w K mg base 1 qDV qDK "_law_take" ["_law_state","_law_many"] qG8) (dw:mg "list" = none) (qAP:mg "len" = none) (dq:mg "max" = none):FnOk P w K mg base CX0 2 f fd ["_law_state","_law_rows_here","_law_names_here"] qRM:=by
 refine F.okA sc_Lspoilt fun ed A dx s H vs Q E hr h=>?_;obtain ⟨d,c,t,ns,l,ln,g,nm,n,rfl,S,ht,hl,ee,ne,lr,ok,n6,ei,d6,ba,bt,eh,b2,q⟩:=h;refine ⟨_,(qA5 (qAG (i:=3) sc_Lspoilt.nd rfl (Or.inl rfl) (qAK qFP rfl dw qOD (qA0 (pv 1) qA2))) (qA5 (qAG (i:=4) sc_Lspoilt.nd rfl (Or.inl rfl) (qAQ qAL hr rfl (qA0 (pv 0) (qA0 (qAA qA9 rfl qAP qAO (qA0 (pv 3) qA2)) qA2)))) (qA5 (qAG (i:=5) sc_Lspoilt.nd rfl (Or.inl rfl) (qCI PySem.F.plainAttrs_str PySem.F.slot_str_split PySem.F.type_str_split qF5 (qBB qAM (pv 3) (pv 4) (fun _ _=>rfl)) (qA0 qAC qA2))) (qA5 (qAG (i:=6) sc_Lspoilt.nd rfl (Or.inl rfl) (qAQ qAL hr rfl (qA0 (pv 0) (qA0 (qAA qA9 rfl qAP qAO (qA0 (pv 5) qA2)) qA2)))) (@qA5 _ _ _ _ _ (@qAG _ _ 7 _ _ _ _ sc_Lspoilt.nd rfl (Or.inl rfl) (@qB8 _ _ _ _ (@qV5 _ _ 15 ["","rooms","work","a","0","00","07","100","99","1.","-1","A","abcdefghi","do","steps"] _ (by kernel_rfl) qA2)) (by rfl) (by first | exact .inl rfl | exact .inr rfl)) (qA5 (qAG (i:=7) sc_Lspoilt.nd rfl (Or.inl rfl) (qAR qHO (pv 7) (qB8 (qV5 (n:=5) (ws:=["+7","1_0","+","_5","5_"]) (by kernel_rfl) qA2)))) (qA5 (qAG (i:=7) sc_Lspoilt.nd rfl (Or.inl rfl) (qAR qHO (pv 7) (qB8 (qA0 qAC (qA0 qAC (qA0 (qBB qAM (pv 5) qA7 (fun _ _=>rfl)) (qA0 (qBB qAM (pv 5) (qT0 qMD qA7) (fun _ _=>rfl)) (qA0 (qBB qAM (pv 2) (qAQ qAL hr rfl (qA0 (pv 0) (qA0 (qAA qA9 rfl qAP qAO (qA0 (pv 2) qA2)) qA2))) (fun _ _=>rfl)) qA2)))))))) (qA5 (qAG (i:=8) sc_Lspoilt.nd rfl (Or.inl rfl) (qAQ qAL hr rfl (qA0 (pv 0) (qA0 qA7 qA2)))) (qA5 (qAZ (qAD qNM (pv 8) qA7 (qAH _)) (qA6 (qMJ (qBB qAM (pv 7) (qAQ qAL hr rfl (qA0 (pv 0) (qA0 (qAA qA9 rfl qAP qAO (qA0 (pv 7) qA2)) qA2))) (fun _ _=>rfl)) (qMK (pv 5) (pv 6) qFV))) (qA6 (qAZ (qAD qC5 (pv 8) qA7 (qAH _)) (qA6 (qBR (qCI PySem.F.plainAttrs_list PySem.F.slot_list_insert PySem.F.type_list_insert qHU (pv 5) (qA0 (pv 6) (qA0 (qBB qAM (pv 7) (qAQ qAL hr rfl (qA0 (pv 0) (qA0 (qAA qA9 rfl qAP qAO (qA0 (pv 7) qA2)) qA2))) (fun _ _=>rfl)) qA2))))) (qA6 (qAZ (qAD qC5 (pv 8) qA7 (qAH _)) (qA6 (qBR (qCI PySem.F.plainAttrs_list PySem.F.slot_list_pop PySem.F.type_list_pop qKJ (pv 5) (qA0 (pv 6) qA2)))) (qA6 (qAZ (qAD qC5 (pv 8) qA7 (qAH _)) (qA6 (qBR (qCI PySem.F.plainAttrs_list PySem.F.slot_list_pop PySem.F.type_list_pop qKJ (pv 3) (qA0 (pv 4) qA2)))) (qA6 (qAZ (qAD qC5 (pv 8) qA7 (qAH _)) (qA6 (qBR (qCI PySem.F.plainAttrs_list PySem.F.slot_list_insert PySem.F.type_list_insert qHU (pv 3) (qA0 (qAQ qAL hr rfl (qA0 (pv 0) (qA0 (qAR qD8 (qAA qA9 rfl qAP qAO (qA0 (pv 3) qA2)) qA7) qA2))) (qA0 (qCI PySem.F.plainAttrs_str PySem.F.slot_str_join PySem.F.type_str_join qJC qAC (qA0 (pv 5) qA2)) qA2))))) (qA6 (qAZ (qAD qC5 (pv 8) qA7 (qAH _)) (qA5 (qAG (i:=9) sc_Lspoilt.nd rfl (Or.inl rfl) (qAQ qAL hr rfl (qA0 (pv 0) (qA0 (qAA qA9 rfl qAP qAO (qA0 (pv 3) qA2)) qA2)))) (qA6 (qMJ (qD5 (qA0 (qBB qAM (pv 3) (pv 9) (fun _ _=>rfl)) (qA0 (qBB qAM (pv 3) (pv 4) (fun _ _=>rfl)) qA2))) (qL4 rfl (qBU (qMK (pv 3) (pv 4) qFV) (qBU (qMK (pv 3) (pv 9) qFV) qGN)))))) (qA6 (qAZ (qAD qC5 (pv 8) qA7 (qAH _)) (qA5 (qAG (i:=10) sc_Lspoilt.nd rfl (Or.inl rfl) (qB8 (qV5 (n:=4) (ws:=[" ","work","rooms 3","steps 3"]) (by kernel_rfl) (qA0 (qAR qDO qAC (qBB qAM (pv 2) qA7 (fun _ _=>rfl))) (qA0 qAC (qA0 qAC (qA0 (qAR qDO qAC (qCI PySem.F.plainAttrs_str PySem.F.slot_str_join PySem.F.type_str_join qJC qAC (qA0 (qBN qCV (pv 2) qCS (qCR qA7)) qA2))) qA2))))))) (qA5 (qAG (i:=10) sc_Lspoilt.nd rfl (Or.inl rfl) (qAR qHO (pv 10) (qB8 (qA0 qAC (qA0 (qAR qDO qAC (qBB qAM (pv 2) qA7 (fun _ _=>rfl))) (qA0 (qAR qDO qAC (qBB qAM (pv 2) (qT0 qMD qA7) (fun _ _=>rfl))) qA2)))))) (qA5 (qMJ (qBB qAM (qB8 (qA0 (qBB qAM (pv 3) qA7 (fun _ _=>rfl)) (qA0 qAC (qA0 qAC (qA0 qAC qA2))))) (qAA (qPY rfl) rfl dq qZO (qA0 qA7 (qA0 (qAR qEP (qAQ qAL hr rfl (qA0 (pv 0) (qA0 qA7 qA2))) qA7) qA2))) (fun _ _=>rfl)) (qMK (pv 3) qA7 qFV)) (qA6 (qBR (qCI PySem.F.plainAttrs_list PySem.F.slot_list_insert PySem.F.type_list_insert qHU (pv 3) (qA0 (qAQ qAL hr rfl (qA0 (pv 0) (qA0 (qAR qD8 (qAA qA9 rfl qAP qAO (qA0 (pv 3) qA2)) qA7) qA2))) (qA0 (qBB qAM (pv 10) (qAQ qAL hr rfl (qA0 (pv 0) (qA0 (qAA qA9 rfl qAP qAO (qA0 (pv 10) qA2)) qA2))) (fun _ _=>rfl)) qA2)))))))) qAJ))))))))))))) (qA5 (qAZ (qAD qNM (pv 8) qA7 (qAH _)) (qA6 (qMJ (qCI PySem.F.plainAttrs_str PySem.F.slot_str_join PySem.F.type_str_join qJC qAC (qA0 (pv 5) qA2)) (qMK (pv 3) (pv 4) qFV))) qAJ) (qA6 (qAF (pv 3))))))))))))),?_⟩
 try dsimp only [Cx.nox,Cx.wish,cxOf]
 have hs:=sizeLine_eq;have ea:t<=1000000000 - 1000:=ht;have bh:ln ≠ d:=fun z=>by have:=S.dict;rw [<- z,d6] at this;cases this
 have e4:1<=g.length:=List.length_pos_iff.mpr ne;have eg:1<=nm.length:=List.length_pos_iff.mpr bt;refine cut fun N0 bx=>?_;refine ⟨_,rfl,l,_,rfl,.inl (SqL.of hl),fun fo a9=>bx _ _ (cut fun N1 d3=>?_)⟩;clear bx;have s0:=qA3 a9 (.lst (g.map V.str));have g0:(Af H fo (.lst (g.map V.str))) fo=_:=qA1;have S0:=S.same s0;have K0:Keep d c H (Af H fo (.lst (g.map V.str))):=.of_same s0;have p:fo ≠ d:=(qA4 S.dict a9).symm;have m:fo ≠ c:=(qA4 S.list a9).symm;generalize Af H fo (.lst (g.map V.str))=H0 at g0 S0 K0 ⊢;refine ⟨_,rfl,_,rfl,fo,_,rfl,.inl (SqL.of g0),d,c,t,ns,_,rfl,S0,(by show t<=1000000000;lia),by rw [List.length_map];lia,by rw [List.length_map];lia,fun a db H1 a0 a1 S1 K1=>d3 _ _ (cut fun N2 cv=>?_)⟩
 clear d3;rw [List.length_map] at a1;obtain ⟨j,rfl⟩:∃ j:Nat,a=(j:Int):=⟨a.toNat,by lia⟩
 have hj:j<g.length:=by lia
 have er:g[j]?=some g[j]:=List.getElem?_eq_getElem hj;generalize g[j]=r at er;have g1:=K1 _ _ g0 p m;have K1:=K0.trans K1;have bn:=ok r (List.mem_of_getElem? er);obtain ⟨wl,af⟩:=bn.words;have wp:=PyProof.Rows.split_pos r (Str.ofString " ");have rl:=bn.len;refine ⟨_,rfl,_,rfl,fo,_,_,.str r,rfl,rfl,SqL.of g1,qAN (j:=j) (by rw [List.getElem?_map,er];rfl),rfl,_,_,rfl,rfl,by decide,by lia,fun lw ai=>cv _ _ (cut fun N3 d5=>?_)⟩
 clear cv;generalize Txt.split r (Str.ofString " ")=ws at wl af wp ⊢;have s2:=qA3 ai (.lst (ws.map V.str));have S2:=S1.same s2;have K2:=K1.trans (.of_same (d:=d) (c:=c) s2);have g2:=s2 _ _ g1;have w2:(Af H1 lw (.lst (ws.map V.str))) lw=_:=qA1;have a2:lw ≠ d:=(qA4 S1.dict ai).symm;have a4:lw ≠ c:=(qA4 S1.list ai).symm;have ae:lw ≠ fo:=fun z=>by rw [z,g1] at ai;cases ai
 generalize Af H1 lw (.lst (ws.map V.str))=H2 at S2 K2 g2 w2 ⊢;have bd:H lw=none:=by
  cases e:H lw with
  | none=>rfl
  | some o=>rw [K1 _ _ e a2 a4] at ai;cases ai
 clear S1 K1 g1 S0 s0 s2 ai;refine ⟨_,rfl,_,rfl,lw,_,rfl,.inl (SqL.of w2),d,c,_,db,_,rfl,S2,(by show t+1<=1000000000;lia),by rw [List.length_map];lia,by rw [List.length_map];lia,fun b dm H3 b0 b1 S3 K3=>d5 _ _ (cut fun N4 cg=>?_)⟩
 clear d5;rw [List.length_map] at b1;obtain ⟨k,rfl⟩:∃ k:Nat,b=(k:Int):=⟨b.toNat,by lia⟩
 have g3:=K3 _ _ g2 p m;have w3:=K3 _ _ w2 a2 a4;have K3:=K2.trans K3;clear S2 g2 w2;refine ⟨(by show 15<=sizeLine;lia),fun lo d8=>cg _ _ (cut fun N5 cp=>?_)⟩
 clear cg;have s4:=qA3 d8 (.lst [.str "",.str "rooms",.str "work",.str "a",.str "0",.str "00",.str "07",.str "100",.str "99",.str "1.",.str "-1",.str "A",.str "abcdefghi",.str "do",.str "steps"])
 have o4:(Af H3 lo (.lst [.str "",.str "rooms",.str "work",.str "a",.str "0",.str "00",.str "07",.str "100",.str "99",.str "1.",.str "-1",.str "A",.str "abcdefghi",.str "do",.str "steps"])) lo=some (.lst [.str "",.str "rooms",.str "work",.str "a",.str "0",.str "00",.str "07",.str "100",.str "99",.str "1.",.str "-1",.str "A",.str "abcdefghi",.str "do",.str "steps"]):=qA1
 have S4:=S3.same s4;have K4:=K3.trans (.of_same (d:=d) (c:=c) s4);have g4:=s4 _ _ g3;have w4:=s4 _ _ w3;generalize Af H3 lo (.lst [.str "",.str "rooms",.str "work",.str "a",.str "0",.str "00",.str "07",.str "100",.str "99",.str "1.",.str "-1",.str "A",.str "abcdefghi",.str "do",.str "steps"])=H4 at s4 o4 S4 K4 g4 w4 ⊢
 refine ⟨_,rfl,(by show 5<=sizeLine;lia),fun l5 h5=>⟨lo,l5,_,_,rfl,rfl,qA3 h5 _ _ _ o4,qA1,(by show 15+5<=sizeLine;lia),fun l6 h6=>cp _ _ (cut fun N6 cu=>?_)⟩⟩
 clear cp;have s5:=qA3 h5 (.lst [.str "+7",.str "1_0",.str "+",.str "_5",.str "5_"]);have s6:=s5.trans (qA3 h6 (.lst ([.str "",.str "rooms",.str "work",.str "a",.str "0",.str "00",.str "07",.str "100",.str "99",.str "1.",.str "-1",.str "A",.str "abcdefghi",.str "do",.str "steps"]++[.str "+7",.str "1_0",.str "+",.str "_5",.str "5_"])))
 have e6:(Af (Af H4 l5 (.lst [.str "+7",.str "1_0",.str "+",.str "_5",.str "5_"])) l6 (.lst ([.str "",.str "rooms",.str "work",.str "a",.str "0",.str "00",.str "07",.str "100",.str "99",.str "1.",.str "-1",.str "A",.str "abcdefghi",.str "do",.str "steps"]++[.str "+7",.str "1_0",.str "+",.str "_5",.str "5_"]))) l6=some (.lst ([.str "",.str "rooms",.str "work",.str "a",.str "0",.str "00",.str "07",.str "100",.str "99",.str "1.",.str "-1",.str "A",.str "abcdefghi",.str "do",.str "steps"]++[.str "+7",.str "1_0",.str "+",.str "_5",.str "5_"])):=qA1
 have f6:H4 l6=none:=s5.free h6;have S6:=S4.same s6;have K6:=K4.trans (.of_same (d:=d) (c:=c) s6);have g6:=s6 _ _ g4;have w6:=s6 _ _ w4;have dt:l6 ≠ d:=(qA4 S4.dict f6).symm;have cq:l6 ≠ c:=(qA4 S4.list f6).symm;generalize Af (Af H4 l5 (.lst [.str "+7",.str "1_0",.str "+",.str "_5",.str "5_"])) l6 (.lst ([.str "",.str "rooms",.str "work",.str "a",.str "0",.str "00",.str "07",.str "100",.str "99",.str "1.",.str "-1",.str "A",.str "abcdefghi",.str "do",.str "steps"]++[.str "+7",.str "1_0",.str "+",.str "_5",.str "5_"]))=H6 at s6 e6 S6 K6 g6 w6 ⊢
 clear s4 o4 S4 K4 g4 w4 s6 s5 S3 g3 w3 h5 h6 d8 K3 f6;have bo:=K6 _ _ d6 bh ba;obtain ⟨w0,d9⟩:∃ w0,ws[0]?=some w0:=⟨_,List.getElem?_eq_getElem (by lia)⟩
 obtain ⟨wz,c4⟩:∃ wz,ws.getLast?=some wz:=⟨_,List.getLast?_eq_some_getLast (by intro z;rw [z] at wp;cases wp)⟩
 have dl:atI (ws.map V.str) (-1)=some (.str wz):=by
  obtain ⟨ys,rfl⟩:=List.getLast?_eq_some_iff.mp c4;rw [List.map_append];exact qG7 _ _
 refine ⟨_,rfl,_,rfl,lw,_,_,_,rfl,rfl,SqL.of w6,qAN (j:=0) (by rw [List.getElem?_map,d9];rfl),_,rfl,_,rfl,lw,_,_,_,rfl,rfl,SqL.of w6,dl,_,rfl,_,rfl,_,rfl,ln,_,rfl,.inl (SqL.of bo),d,c,_,dm,_,rfl,S6,(by show t+1+1<=1000000000;lia),by rw [List.length_map];lia,by rw [List.length_map];lia,fun z dh H7 z0 z1 S7 K7=>?_⟩
 rw [List.length_map] at z1;obtain ⟨zn,rfl⟩:∃ zn:Nat,z=(zn:Int):=⟨z.toNat,by lia⟩
 obtain ⟨nz,c5⟩:∃ nz,nm[zn]?=some nz:=⟨_,List.getElem?_eq_getElem (by lia)⟩
 have n7:=K7 _ _ bo bh ba;have e7:=K7 _ _ e6 dt cq;have g7:=K7 _ _ g6 p m;have w7:=K7 _ _ w6 a2 a4;have K7:=K6.trans K7;refine ⟨ln,_,_,_,rfl,rfl,SqL.of n7,qAN (j:=zn) (by rw [List.getElem?_map,c5];rfl),(by show 5<=sizeLine;lia),fun l8 h8=>⟨l6,l8,_,_,rfl,rfl,qA3 h8 _ _ _ e7,qA1,(by show 20+5<=sizeLine;lia),fun l9 h9=>cu _ _ (cut fun N7 d4=>?_)⟩⟩
 clear cu;have s8:=qA3 h8 (.lst [.str "never",.str "back",.str w0,.str wz,.str nz]);have s9:=s8.trans (qA3 h9 (.lst ([.str "",.str "rooms",.str "work",.str "a",.str "0",.str "00",.str "07",.str "100",.str "99",.str "1.",.str "-1",.str "A",.str "abcdefghi",.str "do",.str "steps"]++[.str "+7",.str "1_0",.str "+",.str "_5",.str "5_"]++[.str "never",.str "back",.str w0,.str wz,.str nz])))
 have o9:(Af (Af H7 l8 (.lst [.str "never",.str "back",.str w0,.str wz,.str nz])) l9 (.lst ([.str "",.str "rooms",.str "work",.str "a",.str "0",.str "00",.str "07",.str "100",.str "99",.str "1.",.str "-1",.str "A",.str "abcdefghi",.str "do",.str "steps"]++[.str "+7",.str "1_0",.str "+",.str "_5",.str "5_"]++[.str "never",.str "back",.str w0,.str wz,.str nz]))) l9=some (.lst ((qT1++[w0,wz,nz]).map V.str)):=qA1
 have f9:H7 l9=none:=s8.free h9;have S9:=S7.same s9;have K9:=K7.trans (.of_same (d:=d) (c:=c) s9);have g9:=s9 _ _ g7;have w9:=s9 _ _ w7;have n9:=s9 _ _ n7;have bs:l9 ≠ d:=(qA4 S7.dict f9).symm;have b9:l9 ≠ c:=(qA4 S7.list f9).symm;have ef:l9 ≠ fo:=fun z=>by rw [z,g7] at f9;cases f9
 have e0:l9 ≠ lw:=fun z=>by rw [z,w7] at f9;cases f9
 generalize Af (Af H7 l8 (.lst [.str "never",.str "back",.str w0,.str wz,.str nz])) l9 (.lst ([.str "",.str "rooms",.str "work",.str "a",.str "0",.str "00",.str "07",.str "100",.str "99",.str "1.",.str "-1",.str "A",.str "abcdefghi",.str "do",.str "steps"]++[.str "+7",.str "1_0",.str "+",.str "_5",.str "5_"]++[.str "never",.str "back",.str w0,.str wz,.str nz]))=H9 at s9 o9 S9 K9 g9 w9 n9 ⊢
 clear s8 s9 h8 h9 f9 S7 K7 g7 w7 n7 e7 S6 K6 g6 w6 bo e6;have ob:∀ x ∈ qT1++[w0,wz,nz],wdB x:=fun x hx=>by
  rcases List.mem_append.mp hx with hx | hx
  ·exact qaW x hx
  simp only [List.mem_cons,List.not_mem_nil,or_false] at hx;rcases hx with rfl | rfl | rfl
  ·exact af _ (List.mem_of_getElem? d9)
  ·exact af _ (List.mem_of_getLast? c4)
  ·exact b2 _ (List.mem_of_getElem? c5)
 have ol:(qT1++[w0,wz,nz]).length=25:=rfl;generalize qT1++[w0,wz,nz]=od at o9 ob ol;refine ⟨_,rfl,d,c,_,dh,9,rfl,S9,(by show t+1+1+1<=1000000000;lia),by decide,by decide,fun wy a8 b8 y0 y1 ab a3=>d4 _ _ (cut fun M0 ci=>?_)⟩
 clear d4;have b6:=a3 _ _ o9 bs b9;have a6:=a3 _ _ g9 p m;have ac:=a3 _ _ w9 a2 a4;have bq:=a3 _ _ n9 bh ba;have a3:=K9.trans a3;clear S9 o9 g9 w9 n9;have a7:∀ (rows' ws':List Str) (v9 v10:Option V) (t':Int) (ms':List Int) (H':Hp),StAt H' d c t' ms'->t<=t'->t'<=t+10->Keep d c H H'->H' fo=some (.lst (rows'.map V.str))->H' lw=some (.lst (ws'.map V.str))->(wy<4->rows'=g/\ws'.length<=n+1/\∀ x ∈ ws',wdB x)->(¬ wy<4->rows'.length<=g.length+1/\∀ r ∈ rows',RW (n+1) r)->M0 [some (.ref d),some (.ref l),some (.ref ln),some (.ref fo),some (.int (j:Int)),some (.ref lw),some (.int (k:Int)),some (.ref l9),some (.int wy),v9,v10] H':=by
  intro rows' ws' v9 v10 t' ms' H' S' t1 t2 K' g' w' h4 h5;refine ci _ _ ?_;refine ⟨_,rfl,_,_,rfl,rfl,_,rfl,?_⟩;refine ite2 (fun c=>?_) fun c=>?_
  ·obtain ⟨rfl,dz,wb⟩:=h4 (of_decide_eq_true c);have:=qOQ wb;refine ⟨rfl,_,rfl,_,lw,ws',rfl,rfl,SqL.of w',?_,?_⟩
   ·rw [show (Str.ofString " ").length=1 by decide,Nat.mul_one];lia
   refine ⟨_,rfl,_,rfl,fo,_,_,j,rfl,rfl,g',?_,?_⟩
   ·exact qJG (by rw [List.length_map];exact hj)
   rw [<- List.map_set];refine ⟨_,rfl,q fo _ t' ms' _ ⟨by rw [qA8 p.symm];exact S'.dict,by rw [qA8 m.symm];exact S'.list,S'.ne,S'.len,S'.pos⟩ t1 t2 (fun b o e n1 n2=>by rw [qA8 (qA4 e a9)];exact K' b o e n1 n2) a9 qA1 (by rw [List.length_set];lia) fun x hx=>?_⟩
   rcases List.mem_or_eq_of_mem_set hx with hx | rfl
   ·exact (ok x hx).mono (by lia)
   ·exact RW.of (by lia) dz wb
  ·obtain ⟨a5,b5⟩:=h5 (of_decide_eq_false (Bool.eq_false_iff.mpr c));exact ⟨_,rfl,q fo rows' t' ms' H' S' t1 t2 K' a9 g' a5 b5⟩
 clear ci;have ag:∀ {Hx:Hp} {tx:Int} {mx:List Int} {x:Addr} (o:HO),x ≠ d->x ≠ c->StAt Hx d c tx mx->StAt (Af Hx x o) d c tx mx:=fun o n1 n2 S'=>⟨by rw [qA8 n1.symm];exact S'.dict,by rw [qA8 n2.symm];exact S'.list,S'.ne,S'.len,S'.pos⟩
 have ah:∀ {Hx:Hp} {x:Addr} (o:HO),H x=none->Keep d c H Hx->Keep d c H (Af Hx x o):=fun o hx K' b u e n1 n2=>by rw [qA8 (qA4 e hx)];exact K' b u e n1 n2
 refine ⟨_,rfl,_,_,rfl,rfl,_,rfl,?_⟩;refine ite2 (fun c1=>?_) fun c1=>?_
 ·have y2:wy<2:=of_decide_eq_true c1;refine ⟨_,rfl,_,rfl,_,rfl,l9,_,rfl,.inl (SqL.of b6),d,c,_,a8,_,rfl,ab,(by show t+1+1+1+1<=1000000000;lia),by rw [List.length_map];lia,by rw [List.length_map];lia,fun i aa al i0 i1 am y=>?_⟩
  rw [List.length_map] at i1;obtain ⟨iN,rfl⟩:∃ iN:Nat,i=(iN:Int):=⟨i.toNat,by lia⟩
  obtain ⟨ov,ak⟩:∃ ov,od[iN]?=some ov:=⟨_,List.getElem?_eq_getElem (by lia)⟩
  have aj:=y _ _ ac a2 a4;refine ⟨l9,_,_,_,rfl,rfl,SqL.of (y _ _ b6 bs b9),qAN (j:=iN) (by rw [List.getElem?_map,ak];rfl),_,rfl,_,rfl,lw,_,_,k,rfl,rfl,aj,qJG (by rw [List.length_map];lia),?_⟩
  rw [<- List.map_set];refine a7 g (ws.set k ov) _ _ _ aa _ (ag _ a2 a4 am) (by lia) (by lia) (ah _ bd (a3.trans y)) (by rw [qA8 ae.symm];exact y _ _ a6 p m) qA1 (fun _=>⟨rfl,by rw [List.length_set];lia,fun x hx=>?_⟩) fun z=>absurd (show wy<4 by lia) z
  rcases List.mem_or_eq_of_mem_set hx with hx | rfl
  ·exact af x hx
  ·exact ob _ (List.mem_of_getElem? ak)
 have y2:¬ wy<2:=fun z=>c1 (decide_eq_true z);clear c1;refine ⟨_,rfl,rfl,_,rfl,?_⟩;refine ite2 (fun c1=>?_) fun c1=>?_
 ·have e2:wy=2:=V.int.inj (of_decide_eq_true c1);refine ⟨_,rfl,.inl ⟨rfl,_,SqL.of ac⟩,_,rfl,_,rfl,_,rfl,_,rfl,l9,_,rfl,.inl (SqL.of b6),d,c,_,a8,_,rfl,ab,(by show t+1+1+1+1<=1000000000;lia),by rw [List.length_map];lia,by rw [List.length_map];lia,fun i aa al i0 i1 am y=>?_⟩
  rw [List.length_map] at i1;obtain ⟨iN,rfl⟩:∃ iN:Nat,i=(iN:Int):=⟨i.toNat,by lia⟩
  obtain ⟨ov,ak⟩:∃ ov,od[iN]?=some ov:=⟨_,List.getElem?_eq_getElem (by lia)⟩
  have aj:=y _ _ ac a2 a4;refine ⟨l9,_,_,_,rfl,rfl,SqL.of (y _ _ b6 bs b9),qAN (j:=iN) (by rw [List.getElem?_map,ak];rfl),lw,_,_,_,rfl,rfl,aj,b0,by rw [List.length_map];lia,by rw [List.length_map];lia,?_⟩
  refine a7 g (ws.take k++ov::ws.drop k) _ _ _ aa _ (ag _ a2 a4 am) (by lia) (by lia) (ah _ bd (a3.trans y)) (by rw [qA8 ae.symm];exact y _ _ a6 p m) (by rw [qA1,List.map_append,List.map_cons,List.map_take,List.map_drop];rfl) (fun _=>⟨rfl,?_,fun x hx=>?_⟩) fun z=>absurd (show wy<4 by lia) z
  ·rw [List.length_append,List.length_cons,List.length_take,List.length_drop];lia
  rcases List.mem_append.mp hx with hx | hx
  ·exact af x (List.mem_of_mem_take hx)
  rcases List.mem_cons.mp hx with rfl | hx
  ·exact ob _ (List.mem_of_getElem? ak)
  ·exact af x (List.mem_of_mem_drop hx)
 have y3:¬ wy=2:=fun z=>c1 (decide_eq_true (by rw [z]))
 clear c1;refine ⟨_,rfl,rfl,_,rfl,?_⟩;refine ite2 (fun c1=>?_) fun c1=>?_
 ·have e2:wy=3:=V.int.inj (of_decide_eq_true c1);obtain ⟨wk,du⟩:∃ wk,ws[k]?=some wk:=⟨_,List.getElem?_eq_getElem (by lia)⟩
  refine ⟨_,rfl,.inl ⟨rfl,_,SqL.of ac⟩,_,rfl,lw,_,_,k,.str wk,rfl,rfl,ac,by lia,by lia,by rw [List.length_map];exact qN9 b0 b1,by rw [List.getElem?_map,du];rfl,?_⟩
  rw [qIA];exact a7 g (ws.eraseIdx k) _ _ _ a8 _ (ag _ a2 a4 ab) (by lia) (by lia) (ah _ bd a3) (by rw [qA8 ae.symm];exact a6) qA1 (fun _=>⟨rfl,by have:=List.length_eraseIdx_le (l:=ws) (i:=k);lia,fun x hx=>af x (List.mem_of_mem_eraseIdx hx)⟩) fun z=>absurd (show wy<4 by lia) z
 have y4:¬ wy=3:=fun z=>c1 (decide_eq_true (by rw [z]))
 clear c1;have n4:¬ wy<4:=by lia
 refine ⟨_,rfl,rfl,_,rfl,?_⟩;refine ite2 (fun c1=>?_) fun c1=>?_
 ·refine ⟨_,rfl,.inl ⟨rfl,_,SqL.of a6⟩,_,rfl,fo,_,_,j,.str r,rfl,rfl,a6,by lia,by lia,by rw [List.length_map];exact qN9 a0 a1,by rw [List.getElem?_map,er];rfl,?_⟩
  rw [qIA];exact a7 (g.eraseIdx j) ws _ _ _ a8 _ (ag _ p m ab) (by lia) (by lia) (ah _ a9 a3) qA1 (by rw [qA8 ae];exact ac) (fun z=>absurd z n4) fun _=>⟨by have:=List.length_eraseIdx_le (l:=g) (i:=j);lia,fun x hx=>(ok x (List.mem_of_mem_eraseIdx hx)).mono (by lia)⟩
 clear c1;refine ⟨_,rfl,rfl,_,rfl,?_⟩;refine ite2 (fun c1=>?_) fun c1=>?_
 ·refine ⟨_,rfl,.inl ⟨rfl,_,SqL.of a6⟩,_,rfl,_,rfl,fo,_,rfl,.inl (SqL.of a6),_,_,rfl,rfl,d,c,_,a8,_,rfl,ab,(by show t+1+1+1+1<=1000000000;lia),by rw [List.length_map];lia,by rw [List.length_map];lia,fun i aa al i0 i1 am y=>?_⟩
  rw [List.length_map] at i1;obtain ⟨iN,rfl⟩:∃ iN:Nat,i=(iN:Int):=⟨i.toNat,by lia⟩
  have ap:=y _ _ a6 p m;have aj:=y _ _ ac a2 a4;have:=qOQ af;refine ⟨rfl,_,rfl,_,lw,ws,rfl,rfl,SqL.of aj,?_,fo,_,_,_,rfl,rfl,ap,i0,by rw [List.length_map];lia,by rw [List.length_map];lia,?_⟩
  ·rw [show (Str.ofString " ").length=1 by decide,Nat.mul_one];lia
  refine a7 (g.take iN++Str.join (Str.ofString " ") ws::g.drop iN) ws _ _ _ aa _ (ag _ p m am) (by lia) (by lia) (ah _ a9 (a3.trans y)) (by rw [qA1,List.map_append,List.map_cons,List.map_take,List.map_drop];rfl) (by rw [qA8 ae];exact aj) (fun z=>absurd z n4) fun _=>⟨?_,fun x hx=>?_⟩
  ·rw [List.length_append,List.length_cons,List.length_take,List.length_drop];lia
  rcases List.mem_append.mp hx with hx | hx
  ·exact (ok x (List.mem_of_mem_take hx)).mono (by lia)
  rcases List.mem_cons.mp hx with rfl | hx
  ·exact RW.of (by lia) (by lia) af
  ·exact (ok x (List.mem_of_mem_drop hx)).mono (by lia)
 clear c1;refine ⟨_,rfl,rfl,_,rfl,?_⟩;refine ite2 (fun c1=>?_) fun c1=>?_
 ·refine cut fun M1 au=>?_;refine ⟨_,rfl,_,rfl,fo,_,rfl,.inl (SqL.of a6),d,c,_,a8,_,rfl,ab,(by show t+1+1+1+1<=1000000000;lia),by rw [List.length_map];lia,by rw [List.length_map];lia,fun i aa al i0 i1 am y=>au _ _ ?_⟩
  clear au;rw [List.length_map] at i1;obtain ⟨iN,rfl⟩:∃ iN:Nat,i=(iN:Int):=⟨i.toNat,by lia⟩
  have ap:=y _ _ a6 p m;have aj:=y _ _ ac a2 a4;obtain ⟨ri,c9⟩:∃ ri,g[iN]?=some ri:=⟨_,List.getElem?_eq_getElem (by lia)⟩
  refine ⟨_,rfl,_,rfl,fo,_,_,_,rfl,rfl,SqL.of ap,qAN (j:=iN) (by rw [List.getElem?_map,c9];rfl),_,rfl,_,rfl,fo,_,_,_,rfl,rfl,SqL.of ap,qAN (j:=j) (by rw [List.getElem?_map,er];rfl),(by show 2<=sizeLine;lia),fun T hT=>?_⟩
  have sT:=qA3 hT (.tup [.str ri,.str r]);have gT:(Af al T (.tup [.str ri,.str r])) T=some (.tup [.str ri,.str r]):=qA1;have cb:=am.same sT;have ct:=(a3.trans y).trans (.of_same (d:=d) (c:=c) sT);have d2:=sT _ _ ap;have ch:=sT _ _ aj;generalize Af al T (.tup [.str ri,.str r])=ej at gT cb ct d2 ch ⊢;refine ⟨T,_,rfl,SqT.of gT,rfl,_,_,rfl,_,rfl,_,rfl,fo,_,_,j,rfl,rfl,d2,qJG (by rw [List.length_map];exact hj),_,_,rfl,_,rfl,_,rfl,fo,_,_,iN,rfl,rfl,qA1,qJG (by rw [List.length_set,List.length_map];lia),rfl,?_⟩
  rw [<- List.map_set,<- List.map_set];refine a7 ((g.set j ri).set iN r) ws _ _ _ aa _ (ag _ p m (ag _ p m cb)) (by lia) (by lia) (ah _ a9 (ah _ a9 ct)) qA1 (by rw [qA8 ae,qA8 ae];exact ch) (fun z=>absurd z n4) fun _=>⟨by rw [List.length_set,List.length_set];lia,fun x hx=>?_⟩
  rcases List.mem_or_eq_of_mem_set hx with hx | rfl
  ·rcases List.mem_or_eq_of_mem_set hx with hx | rfl
   ·exact (ok x hx).mono (by lia)
   ·exact (ok _ (List.mem_of_getElem? c9)).mono (by lia)
  ·exact bn.mono (by lia)
 clear c1;refine ⟨_,rfl,rfl,_,rfl,?_⟩;refine ite2 (fun c1=>?_) fun c1=>?_
 ·refine cut fun M1 au=>?_;obtain ⟨n0,ck⟩:∃ n0,nm[0]?=some n0:=⟨_,List.getElem?_eq_getElem (by lia)⟩
  obtain ⟨nL,cx⟩:∃ nL,nm.getLast?=some nL:=⟨_,List.getLast?_eq_some_getLast bt⟩;have c2:atI (nm.map V.str) (-1)=some (.str nL):=by
   obtain ⟨ys,e⟩:=List.getLast?_eq_some_iff.mp cx;rw [e,List.map_append];exact qG7 _ _
  have br:=b2 _ (List.mem_of_getElem? ck);have bu:=b2 _ (List.mem_of_getLast? cx);have bb:atI (nm.map V.str) 0=some (.str n0):=qAN (j:=0) (by rw [List.getElem?_map,ck];rfl)
  have l0:=br.1;have lL:=bu.1;have cc:∀ x ∈ nm.take 5,wdB x:=fun x hx=>b2 x (List.mem_of_mem_take hx);have e3:=qOQ cc;have ds:(nm.take 5).length<=5:=by rw [List.length_take];lia
  have cl:nm.take 5 ≠ []:=fun z=>by have:=congrArg List.length z;rw [List.length_take,List.length_nil] at this;lia
  have pr:=qXR cl ds cc;have eb:(Str.join (Str.ofString " ") (nm.take 5)).length<=100:=by
   have:=qI2 (c:=32) cl;rw [<- qCN] at this
   lia
  refine ⟨_,rfl,ln,_,_,_,rfl,rfl,SqL.of bq,bb,_,_,rfl,rfl,?_,rfl,_,rfl,_,rfl,ln,_,rfl,SqL.of bq,fun p5 h5=>?_⟩
  ·show 8+n0.length<=sizeLine;lia
  have ec:cutV (nm.map V.str) none (some 5)=(nm.take 5).map V.str:=qLK (k:=5);rw [ec];have s5:=qA3 h5 (.lst ((nm.take 5).map V.str));refine ⟨_,p5,nm.take 5,rfl,rfl,SqL.of qA1,?_,_,_,rfl,rfl,?_,(by show 8<=sizeLine;lia),fun b4 bv=>au _ _ (cut fun M2 cj=>?_)⟩
  ·rw [show (Str.ofString " ").length=1 by decide,Nat.mul_one];lia
  ·show 6+_<=sizeLine;lia
  clear au;have aq:=s5.trans (qA3 bv (.lst [.str " ",.str "work",.str "rooms 3",.str "steps 3",.str (Str.ofString "steps 0 " ++ n0),.str "few",.str "do",.str (Str.ofString "plain " ++ Str.join (Str.ofString " ") (nm.take 5))]))
  have bc:(Af (Af b8 p5 (.lst ((nm.take 5).map V.str))) b4 (.lst [.str " ",.str "work",.str "rooms 3",.str "steps 3",.str (Str.ofString "steps 0 " ++ n0),.str "few",.str "do",.str (Str.ofString "plain " ++ Str.join (Str.ofString " ") (nm.take 5))])) b4=some (.lst [.str " ",.str "work",.str "rooms 3",.str "steps 3",.str (Str.ofString "steps 0 " ++ n0),.str "few",.str "do",.str (Str.ofString "plain " ++ Str.join (Str.ofString " ") (nm.take 5))]):=qA1
  generalize Af (Af b8 p5 (.lst ((nm.take 5).map V.str))) b4 (.lst [.str " ",.str "work",.str "rooms 3",.str "steps 3",.str (Str.ofString "steps 0 " ++ n0),.str "few",.str "do",.str (Str.ofString "plain " ++ Str.join (Str.ofString " ") (nm.take 5))])=al at aq bc ⊢
  have bk:=aq _ _ bq;refine ⟨_,rfl,_,rfl,ln,_,_,_,rfl,rfl,SqL.of bk,bb,_,_,rfl,rfl,(by show 10+n0.length<=sizeLine;lia),_,rfl,_,rfl,ln,_,_,_,rfl,rfl,SqL.of bk,c2,_,_,rfl,rfl,(by show 9+nL.length<=sizeLine;lia),(by show 3<=sizeLine;lia),fun bi aw=>⟨b4,bi,_,_,rfl,rfl,qA3 aw _ _ _ bc,qA1,(by show 8+3<=sizeLine;lia),fun ad bg=>cj _ _ (cut fun M3 cf=>?_)⟩⟩
  clear cj;have ax:b8 ad=none:=aq.free ((qA3 aw (.lst [.str "rooms +3",.str (Str.ofString "steps 1_0 " ++ n0),.str (Str.ofString "steps +9 " ++ nL)])).free bg);have av:=aq.trans ((qA3 aw (.lst [.str "rooms +3",.str (Str.ofString "steps 1_0 " ++ n0),.str (Str.ofString "steps +9 " ++ nL)])).trans (qA3 bg (.lst ([.str " ",.str "work",.str "rooms 3",.str "steps 3",.str (Str.ofString "steps 0 " ++ n0),.str "few",.str "do",.str (Str.ofString "plain " ++ Str.join (Str.ofString " ") (nm.take 5))]++[.str "rooms +3",.str (Str.ofString "steps 1_0 " ++ n0),.str (Str.ofString "steps +9 " ++ nL)]))))
  have bl:(Af (Af al bi (.lst [.str "rooms +3",.str (Str.ofString "steps 1_0 " ++ n0),.str (Str.ofString "steps +9 " ++ nL)])) ad (.lst ([.str " ",.str "work",.str "rooms 3",.str "steps 3",.str (Str.ofString "steps 0 " ++ n0),.str "few",.str "do",.str (Str.ofString "plain " ++ Str.join (Str.ofString " ") (nm.take 5))]++[.str "rooms +3",.str (Str.ofString "steps 1_0 " ++ n0),.str (Str.ofString "steps +9 " ++ nL)]))) ad=some (.lst (([Str.ofString " ","work","rooms 3","steps 3",Str.ofString "steps 0 " ++ n0,"few","do",Str.ofString "plain " ++ Str.join (Str.ofString " ") (nm.take 5),"rooms +3",Str.ofString "steps 1_0 " ++ n0,Str.ofString "steps +9 " ++ nL]).map V.str)):=qA1
  generalize Af (Af al bi (.lst [.str "rooms +3",.str (Str.ofString "steps 1_0 " ++ n0),.str (Str.ofString "steps +9 " ++ nL)])) ad (.lst ([.str " ",.str "work",.str "rooms 3",.str "steps 3",.str (Str.ofString "steps 0 " ++ n0),.str "few",.str "do",.str (Str.ofString "plain " ++ Str.join (Str.ofString " ") (nm.take 5))]++[.str "rooms +3",.str (Str.ofString "steps 1_0 " ++ n0),.str (Str.ofString "steps +9 " ++ nL)]))=c7 at av bl ⊢
  have b7:∀ x ∈ [Str.ofString " ","work","rooms 3","steps 3",Str.ofString "steps 0 " ++ n0,"few","do",Str.ofString "plain " ++ Str.join (Str.ofString " ") (nm.take 5),"rooms +3",Str.ofString "steps 1_0 " ++ n0,Str.ofString "steps +9 " ++ nL],RW 6 x:=fun x hx=>by
   simp only [List.mem_cons,List.not_mem_nil,or_false] at hx;rcases hx with rfl | rfl | rfl | rfl | rfl | rfl | rfl | rfl | rfl | rfl | rfl
   ·exact qG9 (ws:=["",""]) (by decide +kernel)
   ·exact qG9 (ws:=["work"]) (by decide +kernel)
   ·exact qG9 (ws:=["rooms","3"]) (by decide +kernel)
   ·exact qG9 (ws:=["steps","3"]) (by decide +kernel)
   ·exact qQB (ps:=["steps","0"]) (by simp) br
   ·exact qG9 (ws:=["few"]) (by decide +kernel)
   ·exact qG9 (ws:=["do"]) (by decide +kernel)
   ·exact pr
   ·exact qG9 (ws:=["rooms","+3"]) (by decide +kernel)
   ·exact qQB (ps:=["steps","1_0"]) (by simp) br
   ·exact qQB (ps:=["steps","+9"]) (by simp) bu
  have l7:([Str.ofString " ","work","rooms 3","steps 3",Str.ofString "steps 0 " ++ n0,"few","do",Str.ofString "plain " ++ Str.join (Str.ofString " ") (nm.take 5),"rooms +3",Str.ofString "steps 1_0 " ++ n0,Str.ofString "steps +9 " ++ nL]).length=11:=rfl
  generalize [Str.ofString " ","work","rooms 3","steps 3",Str.ofString "steps 0 " ++ n0,"few","do",Str.ofString "plain " ++ Str.join (Str.ofString " ") (nm.take 5),"rooms +3",Str.ofString "steps 1_0 " ++ n0,Str.ofString "steps +9 " ++ nL]=so at bl b7 l7
  have bm:ad ≠ d:=(qA4 ab.dict ax).symm;have bf:ad ≠ c:=(qA4 ab.list ax).symm;have dn:ad ≠ fo:=fun z=>by rw [z,a6] at ax;cases ax
  have bp:=ab.same av;have dc:=a3.trans (.of_same (d:=d) (c:=c) av);have c8:=av _ _ a6;have dj:=av _ _ ac;clear aq bc bk bv aw bg s5 h5 bb c2;obtain ⟨r0,co⟩:∃ r0,g[0]?=some r0:=⟨_,List.getElem?_eq_getElem (by lia)⟩
  have de:=(ok _ (List.mem_of_getElem? co)).mono (show n<=n+1 by lia)
  refine ⟨_,rfl,fo,_,_,_,rfl,rfl,SqL.of c8,qAN (j:=0) (by rw [List.getElem?_map,co];rfl),(by show 4<=sizeLine;lia),fun ao bj=>?_⟩
  have an:=qA3 bj (.lst [.str r0,.str "rooms +3",.str "rooms 1_0",.str "rooms 3"]);have c3:(Af c7 ao (.lst [.str r0,.str "rooms +3",.str "rooms 1_0",.str "rooms 3"])) ao=some (.lst [.str r0,.str "rooms +3",.str "rooms 1_0",.str "rooms 3"]):=qA1;have cw:ao ≠ d:=(qA4 bp.dict bj).symm;have ce:ao ≠ c:=(qA4 bp.list bj).symm;have ca:=bp.same an;have cd:=dc.trans (.of_same (d:=d) (c:=c) an);have cy:=an _ _ c8;have cr:=an _ _ dj;have bz:=an _ _ bl;generalize Af c7 ao (.lst [.str r0,.str "rooms +3",.str "rooms 1_0",.str "rooms 3"])=e8 at an c3 ca cd cy cr bz ⊢;refine ⟨_,rfl,d,c,_,a8,12,rfl,ca,(by show t+1+1+1+1<=1000000000;lia),by decide,by decide,fun u d1 az u0 u1 dk as=>⟨_,_,rfl,rfl,_,_,rfl,?_⟩⟩
  obtain ⟨x0,dd,dy⟩:∃ x0,atI [V.str r0,.str "rooms +3",.str "rooms 1_0",.str "rooms 3"] (if u - 8 > 0 then u - 8 else 0)=some (.str x0)/\RW (n+1) x0:=by
   rcases (by lia:u - 8<=0\/u=9\/u=10\/u=11) with h | rfl | rfl | rfl
   ·rw [if_neg (by lia)];exact ⟨r0,rfl,de⟩
   ·exact ⟨_,rfl,(qG9 (ws:=["rooms","+3"]) (by decide +kernel)).mono (by lia)⟩
   ·exact ⟨_,rfl,(qG9 (ws:=["rooms","1_0"]) (by decide +kernel)).mono (by lia)⟩
   ·exact ⟨_,rfl,(qG9 (ws:=["rooms","3"]) (by decide +kernel)).mono (by lia)⟩
  have dv:=as _ _ cy p m;have dg:=as _ _ cr a2 a4;have dr:=as _ _ bz bm bf;refine ⟨ao,_,_,_,rfl,rfl,SqL.of (as _ _ c3 cw ce),dd,_,rfl,fo,_,_,0,rfl,rfl,dv,qJG (j:=0) (by rw [List.length_map];lia),cf _ _ ?_⟩
  clear cf;rw [<- List.map_set];have d0:(g.set 0 x0).length=g.length:=List.length_set;have be:∀ x ∈ g.set 0 x0,RW (n+1) x:=fun x hx=>by
   rcases List.mem_or_eq_of_mem_set hx with hx | rfl
   ·exact (ok x hx).mono (by lia)
   ·exact dy
  have ar:(Af az fo (.lst ((g.set 0 x0).map V.str))) fo=some (.lst ((g.set 0 x0).map V.str)):=qA1;have cs:(Af az fo (.lst ((g.set 0 x0).map V.str))) lw=_:=(qA8 ae).trans dg;have cz:(Af az fo (.lst ((g.set 0 x0).map V.str))) ad=_:=(qA8 dn).trans dr;have cm:=ag (.lst ((g.set 0 x0).map V.str)) p m dk;have c6:=ah (.lst ((g.set 0 x0).map V.str)) a9 (cd.trans as);generalize Af az fo (.lst ((g.set 0 x0).map V.str))=e5 at ar cs cz cm c6 ⊢;generalize g.set 0 x0=c0 at d0 be ar ⊢;refine ⟨_,rfl,.inl ⟨rfl,_,SqL.of ar⟩,_,rfl,_,rfl,fo,_,rfl,.inl (SqL.of ar),_,_,rfl,rfl,d,c,_,d1,_,rfl,cm,(by show t+1+1+1+1+1<=1000000000;lia),by rw [List.length_map];lia,by rw [List.length_map];lia,fun i bw e9 i0 i1 di ay=>?_⟩
  rw [List.length_map] at i1;obtain ⟨iN,rfl⟩:∃ iN:Nat,i=(iN:Int):=⟨i.toNat,by lia⟩
  have dp:=ay _ _ ar p m;have df:=ay _ _ cs a2 a4;have cn:=ay _ _ cz bm bf;refine ⟨_,rfl,_,rfl,_,rfl,ad,_,rfl,.inl (SqL.of cn),d,c,_,bw,_,rfl,di,(by show t+1+1+1+1+1+1<=1000000000;lia),by rw [List.length_map];lia,by rw [List.length_map];lia,fun v d7 e1 v0 v1 da b3=>?_⟩
  rw [List.length_map] at v1;obtain ⟨vN,rfl⟩:∃ vN:Nat,v=(vN:Int):=⟨v.toNat,by lia⟩
  obtain ⟨ov,ak⟩:∃ ov,so[vN]?=some ov:=⟨_,List.getElem?_eq_getElem (by lia)⟩
  refine ⟨ad,_,_,_,rfl,rfl,SqL.of (b3 _ _ cn bm bf),qAN (j:=vN) (by rw [List.getElem?_map,ak];rfl),fo,_,_,_,rfl,rfl,b3 _ _ dp p m,i0,by rw [List.length_map];lia,by rw [List.length_map];lia,?_⟩
  refine a7 (c0.take iN++ov::c0.drop iN) ws _ _ _ d7 _ (ag _ p m da) (by lia) (by lia) (ah _ a9 ((c6.trans ay).trans b3)) (by rw [qA1,List.map_append,List.map_cons,List.map_take,List.map_drop];rfl) (by rw [qA8 ae];exact b3 _ _ df a2 a4) (fun z=>absurd z n4) fun _=>⟨?_,fun x hx=>?_⟩
  ·rw [List.length_append,List.length_cons,List.length_take,List.length_drop];lia
  rcases List.mem_append.mp hx with hx | hx
  ·exact be x (List.mem_of_mem_take hx)
  rcases List.mem_cons.mp hx with rfl | hx
  ·exact (b7 _ (List.mem_of_getElem? ak)).mono (by lia)
  ·exact be x (List.mem_of_mem_drop hx)
 ·exact a7 g ws _ _ _ a8 _ ab (by lia) (by lia) a3 a6 ac (fun z=>absurd z n4) fun _=>⟨by lia,fun x hx=>(ok x hx).mono (by lia)⟩
theorem qcB {n:Nat} {a:List Str} (l:n<=20) (b:1<=n) (h:∀ r ∈ a,RW n r) (d:a.length<=110):(a.map (·.length)).sum+a.length * (Str.ofString "\n").length<=10000000/\(Str.join (Str.ofString "\n") a).length<=90000/\∀ r ∈ Txt.split (Str.join (Str.ofString "\n") a) "\n",qTQ r:=by
 have s:(a.map (·.length)).sum<=200 * a.length:=by
  clear d
  induction a with
  | nil=>exact Nat.le_refl _
  | cons x r ih=>
   have b:=(h x (List.mem_cons_self ..)).len;have f:=ih fun y e=>h y (List.mem_cons_of_mem _ e);rw [List.map_cons,List.sum_cons,List.length_cons]
   lia
 refine ⟨?_,?_,qUO l b h⟩
 ·rw [show (Str.ofString "\n").length=1 by decide];lia
 ·cases a with
  | nil=>decide +kernel
  | cons x r=>
   have:=qI2 (c:=10) (ws:=x::r) (by simp)
   rw [show Str.ofString "\n" = (⟨#[10]⟩:Str) by decide +kernel]
   lia
def okB (x:Str):Bool:=decide (x.length<=90000) && (Txt.split x "\n").all fun r=>decide (r.length<=200) && asc r
theorem qd7 {x:Str} (h:okB x=true):x.length<=90000/\∀ r ∈ Txt.split x "\n",qTQ r:=by
 unfold okB at h;rw [Bool.and_eq_true] at h;refine ⟨of_decide_eq_true h.1,fun r a=>?_⟩;have:=List.all_eq_true.mp h.2 r a;rw [Bool.and_eq_true] at this;exact ⟨of_decide_eq_true this.1,this.2⟩
def six (k:Nat):List Str:=[Txt.mul "\n" (k:Int),Str.ofString "rooms 3" ++ Txt.mul "\n" (k:Int)," ","rooms 3\nback","work a","rooms 3\nwork a\nwork b b"]
theorem qcS:∀ k:Nat,k<5->∀ x ∈ six k,okB x=true:=by decide +kernel
theorem qa8:∀ k:Nat,k<5->(Str.ofString "rooms 3").length+(Txt.mul "\n" (k:Int)).length<=100:=by decide +kernel
theorem sc_law:FnScope ["_law_script","_law_state","_law_many","_law_net_here","_law_names_here","_law_deeds","_law_rows_here","_law_turn","_law_some","_law_text","_law_empty"] ["_law_script"] (qAB qM1):=qC1
theorem ok_law (F:Fun K "law" "law" qM1 f fd) (qKQ:Clb P w K mg base 1 qO4 qW1 "_law_begin" ["_law_script"] (qUI K)) (qAL:Clb P w K mg base 1 qDV qDK "_law_take" ["_law_state","_law_many"] qG8) (qSQ:Clb P w K mg base 3 qW2 qbI "_law_net" ["_law_state","_law_many"] qcN) (qKO:Clb P w K mg base 2 qO3 qW0 "_law_names" ["_law_state","_law_many"] qUF) (qFC:Clb P w K mg base 2 qH4 qPT "_law_any_deed" ["_law_state","_law_net_here"] qOW) (qOL:Clb P w K mg base 4 qR6 qYC "_law_rows" ["_law_state","_law_names_here","_law_net_here","_law_rooms","_law_deeds"] qYX) (qFR:Clb P w K mg base 2 qLJ qTF "_law_spoilt" ["_law_state","_law_rows_here","_law_names_here"] qRM) (qCL:Clb P w K mg base 3 qEI qLG "_law_first_fault" ["_law_text"] qcO) (qEW:Clb P w K mg base 9 qJJ qR1 "_law_refused" ["_law_call","_law_text"] (qcL qAW)) (qDC:FnOk P w K mg base (CX1 P w) 8 qAW qCB ["text"] (qQC qAE)) (qDB:Binds K qCB ["text"] []) (qE4:PySem.W.keepIn K (.ref qAW)=true) (qCU:mg "read_sheet" = some (.ref qAW)) (qLW:Clb P w K mg base 1 qR5 qYB "_law_same" ["_law_found","_law_due"] qUB)
  (qBL:mg "range" = none):FnOk P w K mg base CX0 10 f fd ["_law_script"] (qXB K):=by
 refine F.okA sc_law fun cx A cc s H vs Q E l h=>?_;obtain ⟨sc,ns,rfl,hS,cg,q⟩:=h;have cf:=l.units0;refine ⟨_,(qA5 (qAG (i:=1) sc_law.nd rfl (Or.inr rfl) (qAQ qKQ l rfl (qA0 (pv 0) qA2))) (qA5 (qAG (i:=2) sc_law.nd rfl (Or.inl rfl) (qAR qD8 qA7 (qAQ qAL l rfl (qA0 (pv 1) (qA0 qA7 qA2))))) (qA5 (qAG (i:=3) sc_law.nd rfl (Or.inr rfl) (qAQ qSQ l rfl (qA0 (pv 1) (qA0 (pv 2) qA2)))) (qA5 (qAG (i:=4) sc_law.nd rfl (Or.inl rfl) (qAQ qKO l rfl (qA0 (pv 1) (qA0 (pv 2) qA2)))) (qA5 (qUS (i:=5) sc_law.nd rfl rfl rfl (lcs (own:=["_law_turn"]) (fv:=[1,3]) (by kernel_rfl)) (qC3 rfl qBL (qA0 (qAQ qAL l rfl (qA0 (pv 1) (qA0 qA7 qA2))) qA2)) (fun z1=>qF2 0) (fun z1=>qCQ) (fun z1=>(qAQ qFC l rfl (qA0 (pv 1) (qA0 (pv 2) qA2)))) (by kernel_rfl)) (qA5 (qAG (i:=6) sc_law.nd rfl (Or.inl rfl) (qAQ qOL l rfl (qA0 (pv 1) (qA0 (pv 4) (qA0 (pv 3) (qA0 (qAR qD8 qA7 (qAQ qAL l rfl (qA0 (pv 1) (qA0 qA7 qA2)))) (qA0 (pv 5) qA2))))))) (qA5 (qFI PassesOwn.never rfl (qC3 rfl qBL (qA0 qA7 qA2)) (qBS (i:=7) sc_law.nd rfl (Or.inl rfl)) (qA5 (qAG (i:=8) sc_law.nd rfl (Or.inl rfl) (qAQ qFR l rfl (qA0 (pv 1) (qA0 (pv 6) (qA0 (pv 4) qA2))))) (qA5 (qAZ (PW.pt (qRQ (qAD qC5 (qAQ qAL l rfl (qA0 (pv 1) (qA0 qA7 qA2))) qA7 (qAH _)) (qQM (qAD (qFK cf) (pv 8) (qB8 qA2) (qAH _))))) (qA6 (qAG (i:=8) sc_law.nd rfl (Or.inl rfl) (qAQ qFR l rfl (qA0 (pv 1) (qA0 (pv 8) (qA0 (pv 4) qA2)))))) qAJ) (qA5 (qAG (i:=9) sc_law.nd rfl (Or.inl rfl) (qCI PySem.F.plainAttrs_str PySem.F.slot_str_join PySem.F.type_str_join qJC qAC (qA0 (pv 8) qA2))) (qA6 (qAZ (qEM (qD4 (qAQ qLW l rfl (qA0 (qAQ qEW l rfl (qA0 (qCH (v:=.ref qAW) rfl qCU rfl) (qA0 (pv 9) qA2))) (qA0 (qAQ qCL l rfl (qA0 (pv 9) qA2)) qA2))))) (qA6 (qAF qGO)) qAJ)))))) (qA5 (qAG (i:=10) sc_law.nd rfl (Or.inl rfl) (qAQ qAL l rfl (qA0 (pv 1) (qA0 qA7 qA2)))) (qA5 (qFI PassesOwn.never rfl (qGM (qB8 (qA0 (qAR qJ8 qAC (pv 10)) (qA0 (qAR qDO qAC (qAR qJ8 qAC (pv 10))) (qA0 qAC (qA0 qAC (qA0 qAC (qA0 qAC qA2)))))))) (qBS (i:=9) sc_law.nd rfl (Or.inl rfl)) (qA6 (qAZ (qEM (qD4 (qAQ qLW l rfl (qA0 (qAQ qEW l rfl (qA0 (qCH (v:=.ref qAW) rfl qCU rfl) (qA0 (pv 9) qA2))) (qA0 (qAQ qCL l rfl (qA0 (pv 9) qA2)) qA2))))) (qA6 (qAF qGO)) qAJ))) (qA6 (qAF qGO))))))))))),?_⟩
 try dsimp only [Cx.nox,Cx.wish,cxOf]
 have hs:=sizeLine_eq;refine cut fun N0 aq=>?_;refine ⟨_,rfl,sc,ns,rfl,hS,cg,fun d c ms H1 S1 _ _ _=>aq _ _ (cut fun N1 bv=>?_)⟩;clear aq;refine ⟨_,rfl,d,c,0,ms,8,rfl,S1,by decide,by decide,by decide,fun k1 ag H2 k0 k8 S2 K2=>⟨_,_,rfl,rfl,bv _ _ (cut fun N2 bq=>?_)⟩⟩
 clear bv;have m1:1<=1+k1/\1+k1<=8:=by lia
 refine ⟨_,rfl,_,rfl,d,c,_,ag,1+k1,rfl,S2,by decide,m1.1,by lia,fun a ac t6 c6 H6 S6 _ b6 _ hA wf nl=>bq _ _ (cut fun N4 b8=>?_)⟩
 clear bq;have cr:t6<=500:=by lia
 refine ⟨_,rfl,_,rfl,d,c,t6,c6,1+k1,rfl,S6,(by show t6<=1000000000 - 1000;lia),m1.1,by lia,fun ln nm t7 c4 H7 S7 _ b7 K7 ai bh ab am=>b8 _ _ (cut fun N5 bk=>?_)⟩
 clear b8;have bm:=hA.keep S6 K7;have t:ln ≠ c:=(qA4 S6.list ai).symm;have a3:ln ≠ d:=(qA4 S6.dict ai).symm;clear S6 K7 hA ai;refine ⟨_,rfl,d,c,t7,c4,12,rfl,S7,(by show t7<=1000000000;lia),by decide,by decide,fun n ch H8 n0 cn S8 K8=>?_⟩
 have ak:=bm.keep S7 K8;have bi:=K8 _ _ bh a3 t;clear S7 K8 bm bh;have t8:t7+1<=1000:=by lia
 have cd:=S8.pos;generalize t7+1=au at S8 t8 cd;refine ⟨n,rfl,by lia,by lia,fun ld a0=>qG4 (p:=ld) (lo:=0) (n:=n.toNat) (fun i σ Hc=>∃ (t':Int) (ms:List Int) (us:List V) (ds:List Dd) (v:Option V),σ=[v,some (.ref d),some (.ref a)]/\StAt Hc d c t' ms/\au<=t'/\t'<=au+2+20 * i/\Keep d c H8 Hc/\Hc ld=some (.lst us)/\Paired (DeedX Hc) us ds/\ds.length=i/\∀ d ∈ ds,DdOk ac.length d) ?_ ?_ ?_⟩
 ·exact ⟨_,ch,[],[],none,rfl,S8.new a0 _,by lia,by lia,qCA a0 _,qA1,.nil,rfl,fun _ z=>nomatch z⟩
 ·refine fun i σ Hc hi ap=>opq fun co b4=>?_;obtain ⟨t',ms,us,ds,v,rfl,u,a1,a2,a5,gd,pd,bo,a4⟩:=ap;refine b4 ?_;have a8:ld ≠ d:=(qA4 S8.dict a0).symm;have a6:ld ≠ c:=(qA4 S8.list a0).symm;refine ⟨_,rfl,_,rfl,d,c,t',ms,a,ac,rfl,u,(by show t'<=1000000000 - 1000;lia),ak.keep S8 a5,by lia,by lia,fun v2 dd t2 al y m c1 c2 g dx dk=>⟨_,g _ _ gd a8 a6,by have:=Paired.length pd;lia,?_⟩⟩
  have tp:∀ b xs,Hc b=some (.tup xs)->y b=some (.tup xs):=fun b xs e=>g _ _ e (u.tup e).1 (u.tup e).2;have bb:=g _ _ gd a8 a6;have bz:∀ b xs,y b=some (.tup xs)->(Af y ld (.lst (us++[v2]))) b=some (.tup xs):=fun b xs e=>by rw [qA8 (qDZ e bb (by intro z;cases z))];exact e
  refine ⟨t2,al,us++[v2],ds++[dd],_,rfl,⟨by rw [qA8 a8.symm];exact m.dict,by rw [qA8 a6.symm];exact m.list,m.ne,m.len,m.pos⟩,by lia,by lia,fun b o e n1 n2=>by rw [qA8 (qA4 e a0)];exact (a5.trans g) b o e n1 n2,qA1,Paired.snoc (qBG pd fun _ _ z=>(z.imp tp).imp bz) (dx.imp bz),by rw [List.length_append,bo];rfl,fun x hx=>?_⟩
  rcases List.mem_append.mp hx with hx | hx
  ·exact a4 x hx
  ·rw [List.mem_singleton.mp hx];exact dk
 ·refine fun σ Hc ao=>opq fun cv bu=>?_;obtain ⟨t',ms,us,ds,v,rfl,u,a1,a2,a5,gd,pd,bo,a4⟩:=ao;refine bu ?_;have a8:ld ≠ d:=(qA4 S8.dict a0).symm;have a6:ld ≠ c:=(qA4 S8.list a0).symm;refine bk _ _ (cut fun N7 bw=>?_);clear bk;have ae:=ak.keep S8 a5;have a9:=a5 _ _ bi a3 t;have aa:ac.length=nm.length:=by lia
  rw [aa] at a4;have ct:t'<=2000:=by lia
  clear ak bi S8 a5 a0;have ay:∀ y,Keep d c Hc y->Paired (DeedX y) us ds:=fun y g=>qBG pd fun _ _ z=>z.imp fun b xs e=>g _ _ e (u.tup e).1 (u.tup e).2;refine ⟨_,rfl,_,rfl,_,rfl,_,rfl,d,c,t',ms,99,rfl,u,(by show t'<=1000000000;lia),by decide,by decide,fun rm bl y r0 r1 m g=>⟨_,_,rfl,rfl,_,rfl,d,c,_,bl,ln,a,ld,nm,ac,1+rm,us,ds,rfl,m,(by show t'+1<=1000000000 - 20000;lia),g _ _ a9 a3 t,t,ae.keep u g,wf,aa,by lia,ab,by lia,by lia,g _ _ gd a8 a6,a6,ay _ g,a4,by lia,fun lr ad t2 al be c5 c1 c2 as ah ce R=>bw _ _ (cut fun N8 bg=>?_)⟩⟩
  clear bw ay;have af:=as _ _ (g _ _ a9 a3 t) a3 t;have b0:lr ≠ c:=(qA4 m.list ah).symm;have c0:lr ≠ d:=(qA4 m.dict ah).symm;have bt:=qaD ab R (by lia) (by lia) wf aa (by lia) a4
  have cm:=R.1;have c8:ad ≠ []:=fun z=>by
   obtain ⟨_,_,_,_,_,e⟩:=R;rw [z] at e;cases e
  have cl:t2<=20000:=by lia
  have an:nm ≠ []:=fun z=>by rw [z] at am;have:(0:Int)=1+k1:=am;lia
  have bs:=qb0 ab;have ck:nm.length<=8:=by lia
  clear g as m u ae a9 gd pd R wf a4 ab ah aa nl am;refine ⟨8,rfl,by decide,by decide,qFM (lo:=0) (n:=8) (fun i σ Hc=>∃ (t':Int) (ms:List Int) (v7 v8 v9:Option V),σ=[some (.ref sc),some (.ref d),some (.int (1+k1)),some (.ref a),some (.ref ln),some (.ref ld),some (.ref lr),v7,v8,v9,none]/\StAt Hc d c t' ms/\t'<=t2+30 * i/\Keep d c be Hc) ⟨t2,al,none,none,none,rfl,c5,by lia,.refl⟩ ?_ ?_⟩
  ·refine fun i σ Hi hi br=>opq fun cp az=>?_;obtain ⟨t',ms,v7,v8,v9,rfl,Si,b,Ki⟩:=br;refine az ?_;refine nmD fun D1 d1 dr=>cut fun M0 ba=>?_;refine ⟨_,rfl,_,rfl,_,rfl,d,c,t',ms,lr,ln,ad,nm,10,rfl,Si,(by show t'<=1000000000 - 1000;lia),Ki _ _ ce c0 b0,b0,c8,by lia,bt,by decide,by decide,Ki _ _ af a3 t,t,an,by lia,bs,fun l1 j t1 ag H1 S1 b1 b2 K1 f1 g1 ci aj=>ba _ _ ?_⟩
   clear ba;have bp:l1 ≠ c:=(qA4 Si.list f1).symm;have ca:l1 ≠ d:=(qA4 Si.dict f1).symm;refine cut fun M1 bf=>?_;have a7:∀ (l':Addr) (rows':List Str) (t3:Int) (ms3:List Int) (H3:Hp),StAt H3 d c t3 ms3->t3<=t'+30->Keep d c be H3->H3 l'=some (.lst (rows'.map V.str))->rows'.length<=110->(∀ r ∈ rows',RW 12 r)->M1 [some (.ref sc),some (.ref d),some (.int (1+k1)),some (.ref a),some (.ref ln),some (.ref ld),some (.ref lr),some (.int (0+(i:Int))),some (.ref l'),v9,none] H3:=by
    intro l' rows' t3 ms3 H3 S3 b3 K3 g3 bn c3;obtain ⟨x1,x2,x3⟩:=qcB (by decide) (by decide) c3 bn
    refine bf _ _ (cut fun M2 c7=>?_);refine ⟨rfl,_,rfl,_,l',rows',rfl,rfl,SqL.of g3,x1,c7 _ _ ?_⟩;generalize Str.join (Str.ofString "\n") rows'=x at x2 x3 ⊢;refine ⟨_,rfl,x,rfl,x2,fun H4 s4=>⟨_,rfl,x,rfl,x2,x3,fun H5 s5=>⟨_,rfl,fun H6 s6=>⟨_,rfl,iteF (d1 _ _ ⟨t3,ms3,_,_,_,rfl,S3.same ((s4.trans s5).trans s6),by lia,K3.trans (.of_same ((s4.trans s5).trans s6))⟩)⟩⟩⟩⟩
   clear bf d1 dr;have bc:=Ki.trans K1;refine ⟨_,rfl,d,c,t1,ag,3,rfl,S1,(by show t1<=1000000000;lia),by decide,by decide,fun x ms3 H3 x0 x3 S3 K3=>⟨rfl,_,rfl,?_⟩⟩
   have g3:=K3 _ _ g1 ca bp;by_cases e:x=0
   ·rw [decide_eq_true (by rw [e])]
    refine iteT ⟨_,rfl,(by show 0<=sizeLine;decide),fun l2 h2=>⟨l1,l2,_,rfl,rfl,SqL.of (qA3 h2 _ _ _ g3),SqL.of qA1,_,rfl,?_⟩⟩
    have s2:=qA3 h2 (.lst []);have S4:=S3.same s2;have K4:=(bc.trans K3).trans (.of_same (d:=d) (c:=c) s2);have g4:=s2 _ _ g3;generalize Af H3 l2 (.lst [])=H4 at S4 K4 g4 ⊢;dsimp only;by_cases r0:j=[]
    ·rw [show (!(List.map V.str j).isEmpty)=false by rw [r0];rfl]
     exact iteF (a7 _ _ _ _ _ S4 (by lia) K4 g4 (by lia) fun r l=>(aj r l).mono (by decide))
    ·rw [show (!(List.map V.str j).isEmpty)=true by cases j;exact absurd rfl r0;rfl]
     exact iteT ⟨_,rfl,_,rfl,_,rfl,d,c,_,ms3,l1,ln,j,nm,11,rfl,S4,(by show t1+1<=1000000000 - 1000;lia),g4,bp,r0,by lia,aj,by decide,by decide,K4 _ _ af a3 t,t,an,by lia,bs,fun l3 c9 t4 cs H5 S5 b5 b6 K5 f5 g5 cj cb=>a7 _ _ _ _ _ S5 (by lia) (K4.trans K5) g5 (by lia) cb⟩
   ·rw [decide_eq_false fun z=>e (V.int.inj z)];exact iteF (a7 _ _ _ _ _ S3 (by lia) (bc.trans K3) g3 (by lia) fun r l=>(aj r l).mono (by decide))
  ·refine fun σ Hi b9=>opq fun cy av=>?_;obtain ⟨t',ms,v7,v8,v9,rfl,Si,b,Ki⟩:=b9;refine av ?_;refine bg _ _ (cut fun N9 bd=>?_);clear bg;refine ⟨_,rfl,d,c,t',ms,5,rfl,Si,(by show t'<=1000000000;lia),by decide,by decide,fun e ms3 H3 e0 e5 S3 K3=>bd _ _ (cut fun cu bj=>?_)⟩
   clear bd;obtain ⟨k,rfl⟩:∃ k:Nat,e=(k:Int):=⟨e.toNat,by lia⟩
   have k5:k<5:=by lia
   refine ⟨_,rfl,_,_,rfl,rfl,by lia,by lia,by decide,_,rfl,_,_,rfl,rfl,by lia,by lia,by decide,_,_,rfl,rfl,by have:=qa8 k k5;lia,(by show 6<=sizeLine;decide),fun l6 h6=>?_⟩
   have g6:(Af H3 l6 (.lst ((six k).map V.str))) l6=_:=qA1;refine ⟨l6,rfl,⟨_,SqL.of qA1⟩,qSE (xs:=(six k).map V.str) (fun i σ Hc=>∃ v9:Option V,σ=[some (.ref sc),some (.ref d),some (.int (1+k1)),some (.ref a),some (.ref ln),some (.ref ld),some (.ref lr),v7,v8,v9,some (.int (k:Int))]/\Same (Af H3 l6 (.lst ((six k).map V.str))) Hc) ⟨v9,rfl,Same.refl _⟩ ?_ ?_ ?_⟩
   ·rintro i σ Hc _ ⟨v9,rfl,sm⟩;exact SqL.of (sm _ _ g6)
   ·refine fun i x' σ Hc ex aw=>opq fun cw ar=>?_;obtain ⟨v9,rfl,sm⟩:=aw;refine ar ?_;rw [List.getElem?_map] at ex;obtain ⟨x,ey,rfl⟩:=Option.map_eq_some_iff.mp ex;obtain ⟨x2,x3⟩:=qd7 (qcS k k5 x (List.mem_of_getElem? ey));refine nmI fun D1 d1 dr=>?_;exact ⟨_,rfl,x,rfl,x2,fun H4 s4=>⟨_,rfl,x,rfl,x2,x3,fun H5 s5=>⟨_,rfl,fun H6 s6=>⟨_,rfl,iteF (d1 _ _ ⟨_,rfl,((sm.trans s4).trans s5).trans s6⟩)⟩⟩⟩⟩
   ·refine fun σ Hc bx=>opq fun cq ax=>?_;obtain ⟨v9,rfl,sm⟩:=bx;refine ax ?_;exact bj _ _ (q _)
end
theorem all_mk {l:PySem.W.OpenLaw} {w:World} {K:PySem.W.Frag} {h:Heap} {mg:Str->Option Value} {fa z q o k a b5 br b9 bi bb aa ex f1 ek f0 eo gd e5 dc d9 g1 df da d7 bz ew c3 fk co cw d3 cb ev c0 g4 cg dy db ay af ao al ai am ak:Addr} (X:K.In h) (G:h.Ns mainGlobals mg) (fq:mg "law" = some (.ref fa))
  {bv dw ey bq f5 e7 fr gc eq ff fy fh di cj ef es:Option Addr} {cv et fi en fs bu c2 dn:Array (Option Value)} {cp e6 d0 gb bn f6 fu bm bf b6 ax bp c9 fn bx dv b3 ee dq eb e3 ga b7 ed f2 fg dg fc bh ei f7 e4 ft d1 bo er em e8 d8 c1 b8 ec e0 cf cz du bc g5:Value}
  {dp cu ez d4 dd eg ce g8 ep cq fm g3 dr dk:Nat} {bw dt cd:Array (Option Value)}
  (ah:PySem.W.nsIn K mainGlobals "ALONE" = some (some (.ref z)))
  (ac:PySem.W.nsIn K mainGlobals "OF_ONE" = some (some (.ref q)))
  (a9:PySem.W.nsIn K mainGlobals "OF_SOME" = some (some (.ref o)))
  (ck:PySem.W.nsIn K mainGlobals "BadRow" = some (some (.ref k)))
  (an:PySem.W.nsIn K mainGlobals "Sheet" = some (some (.ref a)))
  (dj:PySem.W.nsIn K mainGlobals "Barred" = some (some (.ref b5)))
  (ej:PySem.W.nsIn K mainGlobals "NoMove" = some (some (.ref br)))
  (cc:PySem.W.nsIn K mainGlobals "NoTree" = some (some (.ref b9)))
  (f8:PySem.W.nsIn K mainGlobals "RoomError" = some (some (.ref bi)))
  (fw:PySem.W.nsIn K mainGlobals "TooMany" = some (some (.ref bb)))
  {y:Tok} (a0:PySem.W.nsIn K mainGlobals "MOST_ASKED" = some (some (.int (4) y)))
  {p:Tok} (r:PySem.W.nsIn K mainGlobals "MOST_LETTERS" = some (some (.int (8) p)))
  {x:Tok} (a4:PySem.W.nsIn K mainGlobals "MOST_ROOMS" = some (some (.int (99) x)))
  {a2:Tok} (a5:PySem.W.nsIn K mainGlobals "MOST_ROWS" = some (some (.int (100) a2)))
  {t:Tok} (a3:PySem.W.nsIn K mainGlobals "MOST_SIGNS" = some (some (.int (200) t)))
  {u:Tok} (a1:PySem.W.nsIn K mainGlobals "MOST_WORKS" = some (some (.int (40) u)))
  (h1:PySem.W.findIn K (.ref k) "__init__" = some (some (.ref aa)))
  (bl:PySem.W.findIn K (.ref a) "__init__" = some (some (.ref af))) (bj:PySem.W.isFn K (.ref af)=true)
  (cs:PySem.W.findIn K (.ref a) "take_rooms" = some (some (.ref ao))) (f9:PySem.W.isFn K (.ref ao)=true)
  (ca:PySem.W.findIn K (.ref a) "take_work" = some (some (.ref al))) (cm:PySem.W.isFn K (.ref al)=true)
  (fb:PySem.W.findIn K (.ref a) "take_deed" = some (some (.ref ai))) (fx:PySem.W.isFn K (.ref ai)=true)
  (dx:PySem.W.findIn K (.ref a) "take_words" = some (some (.ref am))) (de:PySem.W.isFn K (.ref am)=true)
  (g0:PySem.W.findIn K (.ref a) "take_row" = some (some (.ref ak))) (e9:PySem.W.isFn K (.ref ak)=true)
  (fo:K.lookup aa=some ⟨cp,bv,.func (PySem.W.fnOf "__init__" "BadRow.__init__" (qCT qBM) (qBT qBM) (qAB qBM) .none e6 d0 gb dw bn f6),cv⟩) (fp:PySem.W.codeIn K bn "BadRow.__init__" = true) (d2:PySem.W.keepIn K (.ref aa)=true)
  (T_is_name:Tf K "is_name" qHF ex)
  (T_rooms_in:Tf K "rooms_in" qFX f1)
  (T_works_named:Tf K "works_named" qDG ek)
  (T_asked_named:Tf K "asked_named" qDH f0)
  (T_steps_ask:Tf K "steps_ask" qEY eo)
  (T_deed_of:Tf K "deed_of" qHG gd)
  (T_read_sheet:Tf K "read_sheet" qE0 e5)
  (T_Lbegin:Tf K "_law_begin" qKH dc)
  (T_Ltake:Tf K "_law_take" qND d9)
  (T_Lsame:Tf K "_law_same" qNE g1)
  (T_Lsome_needs:Tf K "_law_some_needs" qDI df)
  (T_Ltree_net:Tf K "_law_tree_net" qEZ da)
  (T_Lnet:Tf K "_law_net" qRP d7)
  (T_Lnames:Tf K "_law_names" qKF bz)
  (T_Lmixed:Tf K "_law_mixed" qKG ew)
  (T_Lhead:Tf K "_law_head" qNG c3)
  (T_Ldeed_words:Tf K "_law_deed_words" qDJ fk)
  (T_Lany_deed:Tf K "_law_any_deed" qF0 co)
  (T_Lrows:Tf K "_law_rows" qNF cw)
  (T_Lplain:Tf K "_law_plain" qKE d3)
  (T_Lis_name:Tf K "_law_is_name" qG0 cb)
  (T_Lare_asked:Tf K "_law_are_asked" qE1 ev)
  (T_Lis_deed:Tf K "_law_is_deed" qG1 c0)
  (T_Lis_work:Tf K "_law_is_work" qFZ g4)
  (T_Lfirst_fault:Tf K "_law_first_fault" qD3 cg)
  (T_Lrefused:Tf K "_law_refused" qFY dy)
  (T_Lspoilt:Tf K "_law_spoilt" qHH db)
  (g2:PySem.W.nsIn K mainGlobals "law" = some (some (.ref ay))) (ea:K.lookup ay=some ⟨fu,ey,.func (PySem.W.fnOf "law" "law" (qCT qM1) (qBT qM1) (qAB qM1) .none bm bf b6 bq ax bp),et⟩) (g9:PySem.W.codeIn K ax "law" = true) (c4:PySem.W.keepIn K (.ref ay)=true)
  (fj:K.lookup af=some ⟨c9,f5,.func (PySem.W.fnOf "__init__" "Sheet.__init__" (qCT qC2) (qBT qC2) (qAB qC2) .none fn bx dv e7 b3 ee),fi⟩) (eu:PySem.W.codeIn K b3 "Sheet.__init__" = true) (bs:PySem.W.keepIn K (.ref af)=true)
  (g6:K.lookup ao=some ⟨dq,fr,.func (PySem.W.fnOf "take_rooms" "Sheet.take_rooms" (qCT qB1) (qBT qB1) (qAB qB1) .none eb e3 ga gc b7 ed),en⟩) (f4:PySem.W.codeIn K b7 "Sheet.take_rooms" = true) (b4:PySem.W.keepIn K (.ref ao)=true)
  (ch:K.lookup al=some ⟨f2,eq,.func (PySem.W.fnOf "take_work" "Sheet.take_work" (qCT qB6) (qBT qB6) (qAB qB6) .none fg dg fc ff bh ei),fs⟩) (ct:PySem.W.codeIn K bh "Sheet.take_work" = true) (be:PySem.W.keepIn K (.ref al)=true)
  (dm:K.lookup ai=some ⟨f7,fy,.func (PySem.W.fnOf "take_deed" "Sheet.take_deed" (qCT qB7) (qBT qB7) (qAB qB7) .none e4 ft d1 fh bo er),bu⟩) (fz:PySem.W.codeIn K bo "Sheet.take_deed" = true) (bg:PySem.W.keepIn K (.ref ai)=true)
  (e1:K.lookup am=some ⟨em,di,.func (PySem.W.fnOf "take_words" "Sheet.take_words" (qCT qB0) (qBT qB0) (qAB qB0) .none e8 d8 c1 cj b8 ec),c2⟩) (dh:PySem.W.codeIn K b8 "Sheet.take_words" = true) (ba:PySem.W.keepIn K (.ref am)=true)
  (f3:K.lookup ak=some ⟨e0,ef,.func (PySem.W.fnOf "take_row" "Sheet.take_row" (qCT qBA) (qBT qBA) (qAB qBA) .none cf cz du es bc g5),dn⟩) (ds:PySem.W.codeIn K bc "Sheet.take_row" = true) (bk:PySem.W.keepIn K (.ref ak)=true)
  (ad:K.lookup z=some ⟨.type "tuple",none,.seq #[.str "back" dp,.str "stand" cu,.str "moves" ez,.str "count" d4] dd,bw⟩)
  (a8:K.lookup q=some ⟨.type "tuple",none,.seq #[.str "do" eg,.str "clear" ce,.str "tree" g8,.str "cut" ep] cq,dt⟩)
  (a6:K.lookup o=some ⟨.type "tuple",none,.seq #[.str "plain" fm,.str "few" g3,.str "stair" dr] dk,cd⟩)
  (d6:PySem.W.plainGet K a Str.empty=true)
  (cl:PySem.W.hasDictIn K a=true)
  (dl:PySem.W.plainOver K a=true)
  (cn:PySem.W.findIn K (.ref a) "__setattr__" = some (some (.builtin "object.__setattr__")))
  (fe:PySem.W.makesIn K a=true)
  (cr:PySem.W.keepIn K (.ref a)=true)
  (ae:PySem.W.findIn K (.ref a) "rooms" = some none)
  (a7:PySem.W.findIn K (.ref a) "numbers" = some none)
  (ar:PySem.W.findIn K (.ref a) "net" = some none)
  (ab:PySem.W.findIn K (.ref a) "deeds" = some none)
  (bt:xcIn K k (some (.ref aa))=true)
  (c5:PySem.W.findIn K (.ref k) "__setattr__" = some (some (.builtin "object.__setattr__")))
  (cy:PySem.W.keepIn K (.ref k)=true)
  (qDS:PySem.W.isFn K (.ref aa)=true)
  (n_row:PySem.W.findIn K (.ref k) "row" = some none)
  (av:PySem.W.kitAny K (.ref k) [.ref b5,.ref br,.ref b9,.ref bb]=some false)
  (aj:PySem.W.kitOne K (.ref k) (.type "ValueError")=some true)
  (gz:PySem.W.exmOne K (.ref k) (.ref bi)=some true)
  (ci:PySem.W.findIn K (.ref k) "__getattribute__" = some (some (.builtin "BaseException.__getattribute__")))
  (d5:PySem.W.findIn K (.ref k) "__getattr__" = some none)
  (c7:PySem.W.mroIn K k (.type "BaseException")=some true)
  (g7:PySem.W.hasDictIn K k=true)
  (eh:PySem.W.findIn K (.ref k) "__class__" = some (some (.builtin "object.__class__")))
  (c6:PySem.W.specialIn K (.builtin "object.__class__") "__get__" = some (some (.builtin "getset_descriptor.__get__")))
  (e2:PySem.W.takesIn K (.builtin "object.__class__")=some true)
  (dz:PySem.W.mroIn K k (.type "object")=some true)
  (Z:Zs K ["ValueError","all","bool","divmod","enumerate","int","isinstance","len","list","max","min","range","set","sorted","str","tuple","zip"])
  : ∃ fd:FuncData,(∀ (s:Shared) (v:Value),BindsTo s fd ⟨[v],[]⟩ [("_law_script",v)])/\∀ base:Heap,K.In base->base.Ns mainGlobals mg->FnOk l.prog w K mg base CX0 10 fa fd ["_law_script"] (qXB K):=by
 have e:=fq.symm.trans (PySem.W.mg_of X G g2);cases e;have m:=fun_mk (st:=qBM) fo fp d2;have qCZ:=m.binds (ps:=["self","row"]) fun _ _ _ _ _ _ us hl=>us2 us hl (fun _ _=>rfl);obtain ⟨gt,b,qCU⟩:=T_read_sheet.use X G;have qDB:=b.binds (ps:=["text"]) fun _ _ _ _ _ _ us hl=>us1 us hl (fun _=>rfl);have qE4:=b.kp;have cx:=fun_mk (st:=qM1) ea g9 c4;have n:=fun_mk (st:=qC2) fj eu bs;have qEE:=n.binds (ps:=["self"]) fun _ _ _ _ _ _ us hl=>us1 us hl (fun _=>rfl);have gx:Meth K a "__init__" af:=⟨bl,bj,bs⟩;have d:=fun_mk (st:=qB1) g6 f4 b4;have qBY:=d.binds (ps:=["self","words"]) fun _ _ _ _ _ _ us hl=>us2 us hl (fun _ _=>rfl);have qBP:Meth K a "take_rooms" ao:=⟨cs,f9,b4⟩;have i:=fun_mk (st:=qB6) ch ct be;have qCC:=i.binds (ps:=["self","words"]) fun _ _ _ _ _ _ us hl=>us2 us hl (fun _ _=>rfl);have qBV:Meth K a "take_work" al:=⟨ca,cm,be⟩;have g:=fun_mk (st:=qB7) dm fz bg;have qCD:=g.binds (ps:=["self","words"]) fun _ _ _ _ _ _ us hl=>us2 us hl (fun _ _=>rfl);have qBW:Meth K a "take_deed" ai:=⟨fb,fx,bg⟩;have f:=fun_mk (st:=qB0) e1 dh ba;have qBX:=f.binds (ps:=["self","words"]) fun _ _ _ _ _ _ us hl=>us2 us hl (fun _ _=>rfl);have qBO:Meth K a "take_words" am:=⟨dx,de,ba⟩;have j:=fun_mk (st:=qBA) f3 ds bk;have qCO:=j.binds (ps:=["self","row"]) fun _ _ _ _ _ _ us hl=>us2 us hl (fun _ _=>rfl);have qC9:Meth K a "take_row" ak:=⟨g0,e9,bk⟩;have bd:=PySem.W.mg_of X G ah;have b2:=PySem.W.mg_of X G ac;have aw:=PySem.W.mg_of X G a9;have qF7:=PySem.W.mg_of X G ck;have m_Sheet:=PySem.W.mg_of X G an;have gy:=PySem.W.mg_of X G dj;have gj:=PySem.W.mg_of X G ej;have gu:=PySem.W.mg_of X G cc;have h4:=PySem.W.mg_of X G f8;have gh:=PySem.W.mg_of X G fw;have ap:=PySem.W.mg_of X G a0;have ag:=PySem.W.mg_of X G r;have aq:=PySem.W.mg_of X G a4;have m_MOST_ROWS:=PySem.W.mg_of X G a5;have m_MOST_SIGNS:=PySem.W.mg_of X G a3;have m_MOST_WORKS:=PySem.W.mg_of X G a1;have b0:∀ H,SqT K H z [.str "back",.str "stand",.str "moves",.str "count"]:=fun H=>.inr ⟨_,_,_,ad,rfl,rfl,(by show 4<=sizeLine;decide),.cons ⟨_,rfl⟩ (.cons ⟨_,rfl⟩ (.cons ⟨_,rfl⟩ (.cons ⟨_,rfl⟩ (.nil))))⟩
 have az:∀ H,SqT K H q [.str "do",.str "clear",.str "tree",.str "cut"]:=fun H=>.inr ⟨_,_,_,a8,rfl,rfl,(by show 4<=sizeLine;decide),.cons ⟨_,rfl⟩ (.cons ⟨_,rfl⟩ (.cons ⟨_,rfl⟩ (.cons ⟨_,rfl⟩ (.nil))))⟩
 have au:∀ H,SqT K H o [.str "plain",.str "few",.str "stair"]:=fun H=>.inr ⟨_,_,_,a6,rfl,rfl,(by show 3<=sizeLine;decide),.cons ⟨_,rfl⟩ (.cons ⟨_,rfl⟩ (.cons ⟨_,rfl⟩ (.nil)))⟩
 have cl_Sheet:Cls K a:=⟨d6,cl,dl,cn⟩;have mk_Sheet:Mk K a af:=⟨fe,bl,bj,cr⟩;have ns_Sheet:SNa K a:=⟨ae,a7,ar,ab⟩;have qDF:XCls K k (some (.ref aa)):=⟨bt,c5,cy⟩;have b1:XTy K k:=⟨⟨ci,d5,c7,g7⟩,eh,c6,e2,dz⟩;obtain ⟨gf,c8,gn,gk,fv,gs,h8,as,ge,gg,ha,fl,gm,gw,h5,el,h0,_⟩:=Z.mg X G;refine ⟨PySem.W.fnOf "law" "law" (qCT qM1) (qBT qM1) (qAB qM1) .none bm bf b6 bq ax bp,fun s v=>.of_eq rfl,fun base _ _=>?_⟩;have B:Bs l.prog w base:=⟨rfl,rfl,rfl⟩;have qD0:=ok_init_BadRow (P:=l.prog) (w:=w) (mg:=mg) (base:=base) (F:=m) (qDF:=qDF) (n_row:=n_row);obtain ⟨_,qIQ⟩:=T_is_name.c X G B fun _ F=>by apply ok_is_name <;> assumption
 obtain ⟨_,qDP⟩:=T_rooms_in.c X G B fun _ F=>by apply ok_rooms_in <;> assumption
 obtain ⟨_,qCG⟩:=T_works_named.c X G B fun _ F=>by apply ok_works_named <;> assumption
 obtain ⟨_,gr⟩:=T_asked_named.c X G B fun _ F=>by apply ok_asked_named <;> assumption
 obtain ⟨_,go⟩:=T_steps_ask.c X G B fun _ F=>by apply ok_steps_ask <;> assumption
 obtain ⟨_,qIR⟩:=T_deed_of.c X G B fun _ F=>by apply ok_deed_of <;> assumption
 obtain ⟨_,qKQ⟩:=T_Lbegin.c X G B fun _ F=>by apply ok_Lbegin <;> assumption
 obtain ⟨_,qAL⟩:=T_Ltake.c X G B fun _ F=>by apply ok_Ltake <;> assumption
 obtain ⟨_,qLW⟩:=T_Lsame.c X G B fun _ F=>by apply ok_Lsame <;> assumption
 obtain ⟨_,h6⟩:=T_Lsome_needs.c X G B fun _ F=>by apply ok_Lsome_needs <;> assumption
 obtain ⟨_,h3⟩:=T_Ltree_net.c X G B fun _ F=>by apply ok_Ltree_net <;> assumption
 obtain ⟨_,qSQ⟩:=T_Lnet.c X G B fun _ F=>by apply ok_Lnet <;> assumption
 obtain ⟨_,qKO⟩:=T_Lnames.c X G B fun _ F=>by apply ok_Lnames <;> assumption
 obtain ⟨_,gp⟩:=T_Lmixed.c X G B fun _ F=>by apply ok_Lmixed <;> assumption
 obtain ⟨_,h9⟩:=T_Lhead.c X G B fun _ F=>by apply ok_Lhead <;> assumption
 obtain ⟨_,gi⟩:=T_Ldeed_words.c X G B fun _ F=>by apply ok_Ldeed_words <;> assumption
 obtain ⟨_,qFC⟩:=T_Lany_deed.c X G B fun _ F=>by apply ok_Lany_deed <;> assumption
 obtain ⟨_,qOL⟩:=T_Lrows.c X G B fun _ F=>by apply ok_Lrows <;> assumption
 obtain ⟨_,h7⟩:=T_Lplain.c X G B fun _ F=>by apply ok_Lplain <;> assumption
 obtain ⟨_,gl⟩:=T_Lis_name.c X G B fun _ F=>by apply ok_Lis_name <;> assumption
 obtain ⟨_,gq⟩:=T_Lare_asked.c X G B fun _ F=>by apply ok_Lare_asked <;> assumption
 obtain ⟨_,h2⟩:=T_Lis_deed.c X G B fun _ F=>by apply ok_Lis_deed <;> assumption
 obtain ⟨_,gv⟩:=T_Lis_work.c X G B fun _ F=>by apply ok_Lis_work <;> assumption
 obtain ⟨_,qCL⟩:=T_Lfirst_fault.c X G B fun _ F=>by apply ok_Lfirst_fault <;> assumption
 obtain ⟨_,qFR⟩:=T_Lspoilt.c X G B fun _ F=>by apply ok_Lspoilt <;> assumption
 have qEF:=ok_Sheet_init (P:=l.prog) (w:=w) (mg:=mg) (base:=base) (F:=n) (cl_Sheet:=cl_Sheet) (ns_Sheet:=ns_Sheet);have qC0:=ok_Sheet_take_rooms (P:=l.prog) (w:=w) (mg:=mg) (base:=base) (F:=d) (qDP:=qDP) (qAP:=as) (cl_Sheet:=cl_Sheet) (ns_Sheet:=ns_Sheet);have qCE:=ok_Sheet_take_work (P:=l.prog) (w:=w) (mg:=mg) (base:=base) (F:=i) (qIQ:=qIQ) (qCG:=qCG) (qAP:=as) (cl_Sheet:=cl_Sheet) (ns_Sheet:=ns_Sheet) (m_MOST_WORKS:=m_MOST_WORKS);have qCF:=ok_Sheet_take_deed (P:=l.prog) (w:=w) (mg:=mg) (base:=base) (F:=g) (qIR:=qIR) (cl_Sheet:=cl_Sheet) (ns_Sheet:=ns_Sheet);have qBZ:=ok_Sheet_take_words (P:=l.prog) (w:=w) (mg:=mg) (base:=base) (F:=f) (qC0:=qC0) (qBY:=qBY) (qBP:=qBP) (qCE:=qCE) (qCC:=qCC) (qBV:=qBV) (qCF:=qCF) (qCD:=qCD) (qBW:=qBW) (cl_Sheet:=cl_Sheet) (ns_Sheet:=ns_Sheet);have qCP:=ok_Sheet_take_row (P:=l.prog) (w:=w) (mg:=mg) (base:=base) (F:=j) (qBZ:=qBZ) (qBX:=qBX) (qBO:=qBO) (qON:=c8) (qAP:=as) (cl_Sheet:=cl_Sheet) (ns_Sheet:=ns_Sheet) (m_MOST_SIGNS:=m_MOST_SIGNS);have qDC:=ok_read_sheet (P:=l.prog) (w:=w) (mg:=mg) (base:=base) (F:=b) (qEF:=qEF) (qEE:=qEE) (qCP:=qCP) (qCO:=qCO) (qC9:=qC9) (qD2:=fv) (qAP:=as) (qB5:=el) (qD0:=qD0) (qCZ:=qCZ) (cl_Sheet:=cl_Sheet) (ns_Sheet:=ns_Sheet) (mk_Sheet:=mk_Sheet) (m_Sheet:=m_Sheet) (m_MOST_ROWS:=m_MOST_ROWS) (qDF:=qDF) (qDS:=qDS) (qF7:=qF7);obtain ⟨_,qEW⟩:=T_Lrefused.c X G B fun _ F=>by apply ok_Lrefused <;> assumption
 exact ok_law (P:=l.prog) (w:=w) (mg:=mg) (base:=base) (F:=cx) (qKQ:=qKQ) (qAL:=qAL) (qSQ:=qSQ) (qKO:=qKO) (qFC:=qFC) (qOL:=qOL) (qFR:=qFR) (qLW:=qLW) (qCL:=qCL) (qEW:=qEW) (qDC:=qDC) (qDB:=qDB) (qE4:=b.kp) (qCU:=qCU) (qBL:=fl)
theorem walk {l:PySem.W.OpenLaw} {q:Program} {b:List Str} {XP:(Str->Option Value)->Heap->Prop} {YP:World->Heap->Prop} {d:DefRec} {K:Params->PySem.W.Frag} (m:l.most=some 63) (c:d.params.defaults=[])
  (i:∀ (w:World) (h:Heap),YP w h->(K w.params).In h)
  (F:∀ (w:World) (mg:Str->Option Value) (fa:Addr) (h:Heap),(K w.params).In h->h.Ns mainGlobals mg->mg d.name=some (.ref fa)->
   ∃ fd:FuncData,(∀ (s:Shared) (u:Value),BindsTo s fd ⟨[u],[]⟩ [("_law_script",u)])/\∀ base:Heap,(K w.params).In base->base.Ns mainGlobals mg->FnOk l.prog w (K w.params) mg base CX0 10 fa fd ["_law_script"] (qXB (K w.params))) :
  PySem.W.WalkO q b XP YP l.row.toRowW d [] (fun f vs=>PySem.call f vs):=
 L2.walk_of (n:=63) (k:=10) (x:="_law_script") (CX:=fun _=>CX0) (sp:=fun w=>qXB (K w.params)) m (by decide) c ⟨rfl,by decide,by decide,rfl⟩ i F (fun _ _ a e j _ g=>⟨a,e,rfl,g,j,fun _=>rfl⟩) fun _ _ _ _ _ z=>z
end Fw
open PySem PySem.W PyProof.Rows
set_option maxRecDepth 100000 in
set_option maxHeartbeats 0 in
theorem PySem.Challenge.cw_fewrooms_k71_rows_at_fault_holds : PySem.Challenge.rw_fewrooms_k71_rows_at_fault.Holds := by
 w_on;refine holds_law Fw.hpSaid fun said=>?_
 refine holds_open (q:=Fw.hpQ) (Xt:=Fw.hpX) (XP:=XL Fw.hpQ []) (YP:=(kHook Fw.hpK Fw.hpA Fw.hpE).says)
  Fw.hpLeft (kHook Fw.hpK Fw.hpA Fw.hpE).of (kHook Fw.hpK Fw.hpA Fw.hpE).keeps (fun s e=>xl_of s (Bool.and_eq_true_iff.mp e).1) XL.keeps
  (by rfl) (by rfl) (by rfl) (fun s e=>recFacts_of (Bool.and_eq_true_iff.mp e).2) (by rfl)
  (by first | assumption | decide +kernel) (by decide +kernel) ⟨rfl,rfl,rfl,rfl,rfl,by decide +kernel⟩ ?hw ?hc
 case hw=>w_witness2
 k_fill
 refine Fw.walk (l:=PySem.Challenge.rw_fewrooms_k71_rows_at_fault) rfl rfl (fun w h Y=>PySem.W.kIn_of Y) ?F
 case F=>
  intro w mg fa h KX G hmg;refine' Fw.all_mk KX G hmg ?a_ALONE ?a_OF_ONE ?a_OF_SOME ?qOK ?a_Sheet ?qOJ ?qOI ?qOH ?qHB ?qLT ?_ ?_ ?_ ?_ ?_ ?_ ?qIN ?_ ?_ ?_ ?_ ?_ ?_ ?_ ?_ ?_ ?_ ?_ ?_ ?_ ?_ ?_ ?_ ?_ ?_ ?_ ?_ ?_ ?_ ?_ ?_ ?_ ?_ ?_ ?_ ?_ ?_ ?_ ?_ ?_ ?_ ?_ ?_ ?_ ?_ ?_ ?_ ?_ ?_ ?_ ?_ ?_ ?_ ?_ ?_ ?_ ?_ ?_ ?_ ?_ ?_ ?_ ?_ ?_ ?_ ?_ ?_ ?_ ?_ ?_ ?_ ?lk_ALONE ?lk_OF_ONE ?lk_OF_SOME ?ypg ?yhd ?ypo ?ysa ?ymk ?ykp ?na_rooms ?na_numbers ?na_net ?na_deeds ?qKV ?qKT ?qKU ?qDS ?n_row ?ki_others ?ki_ValueError ?qE9 ?qIV ?qIU ?qJ0 ?qIT ?qIZ ?qIX ?qIW ?qIY ?_
  (case a_ALONE=>k_is)
  (case a_OF_ONE=>k_is)
  (case a_OF_SOME=>k_is)
  (case qOK=>k_is)
  (case a_Sheet=>k_is)
  (case qOJ=>k_is)
  (case qOI=>k_is)
  (case qOH=>k_is)
  (case qHB=>k_is)
  (case qLT=>k_is)
  (case qIN=>k_is)
  (case lk_ALONE=>k_is)
  (case lk_OF_ONE=>k_is)
  (case lk_OF_SOME=>k_is)
  (case ypg=>k_is)
  (case yhd=>k_is)
  (case ypo=>k_is)
  (case ysa=>k_is)
  (case ymk=>k_is)
  (case ykp=>k_is)
  (case na_rooms=>k_is)
  (case na_numbers=>k_is)
  (case na_net=>k_is)
  (case na_deeds=>k_is)
  (case qKV=>kernel_rfl)
  (case qKT=>k_is)
  (case qKU=>k_is)
  (case qDS=>k_is)
  (case n_row=>k_is)
  (case ki_others=>kernel_rfl)
  (case ki_ValueError=>kernel_rfl)
  (case qE9=>kernel_rfl)
  (case qIV=>k_is)
  (case qIU=>k_is)
  (case qJ0=>k_is)
  (case qIT=>k_is)
  (case qIZ=>k_is)
  (case qIX=>k_is)
  (case qIW=>k_is)
  (case qIY=>k_is)
  any_goals first | exact ⟨by k_is,_,L2.fun_mk (by k_is) (by k_is) (by k_is)⟩ | k_is | kernel_rfl
  any_goals (repeat (refine ⟨by k_is,?_⟩))
  any_goals exact trivial

