import PyProof.Rows.All
import Wide.All
import OpenK.AllK
import Wide.FinOn
import Lean
import PyProof.EqAt
import PyProof.EqKinds
import PyProof.TupleCall
import PySem.Challenge.RW_fewrooms_k72_sheets_at_their_bounds
noncomputable section
set_option Elab.async false
set_option linter.all false
set_option maxRecDepth 100000
set_option maxHeartbeats 0
namespace Fw
open PySem
noncomputable def inCl (s:Stmt) (j:Nat):Stmt:=match s with
 | .ClassDef _ _ _ body _ _ _ _ _ _ _=>body.getD j (.Pass ⟨0,0,0,0⟩)
 | _=>.Pass ⟨0,0,0,0⟩
noncomputable def top (i:Nat):Stmt:=PySem.Challenge.pw_fewrooms_k72_sheets_at_their_bounds.main.body.getD i (.Pass ⟨0,0,0,0⟩)
abbrev s_is_name:Stmt:=top 17
abbrev qCP:Stmt:=top 18
abbrev qBO:Stmt:=top 19
abbrev qBP:Stmt:=top 20
abbrev qCA:Stmt:=top 21
abbrev s_deed_of:Stmt:=top 22
abbrev qBU:Stmt:=top 24
noncomputable abbrev s_Lbegin:Stmt:=top 26
noncomputable abbrev s_Ltake:Stmt:=top 27
abbrev s_Lsame:Stmt:=top 28
noncomputable abbrev s_Lsome_needs:Stmt:=top 29
noncomputable abbrev s_Ltree_net:Stmt:=top 30
noncomputable abbrev s_Lnet:Stmt:=top 31
abbrev s_Lnames:Stmt:=top 32
abbrev s_Lmixed:Stmt:=top 33
abbrev s_Lhead:Stmt:=top 34
abbrev s_Lplain:Stmt:=top 36
abbrev qCS:Stmt:=top 37
abbrev qBW:Stmt:=top 38
abbrev qCT:Stmt:=top 39
abbrev qCR:Stmt:=top 40
abbrev qBI:Stmt:=top 41
abbrev qCQ:Stmt:=top 42
abbrev qBV:Stmt:=top 43
abbrev s_Lasks:Stmt:=top 44
noncomputable abbrev s_law:Stmt:=top 45
abbrev s_init_Barred:Stmt:=inCl (top 2) 0
abbrev qB0:Stmt:=inCl (top 6) 0
abbrev qB5:Stmt:=inCl (top 23) 0
abbrev qAL:Stmt:=inCl (top 23) 1
abbrev qAP:Stmt:=inCl (top 23) 2
abbrev qAQ:Stmt:=inCl (top 23) 3
abbrev qAK:Stmt:=inCl (top 23) 4
abbrev qAR:Stmt:=inCl (top 23) 5
end Fw
namespace Fw
open PySem
noncomputable def dA (s:Stmt):Arguments:=match s with
 | .FunctionDef _ a _ _ _ _ _ _ _ _=>a
 | _=>{ posonlyargs:=[],args:=[],vararg:=none,kwonlyargs:=[],kw_defaults:=[],kwarg:=none,defaults:=[] }
noncomputable def dB (s:Stmt):List Stmt:=match s with
 | .FunctionDef _ _ b _ _ _ _ _ _ _=>b
 | _=>[]
noncomputable def dS (s:Stmt):Scope:=match s with
 | .FunctionDef _ _ _ _ _ _ sc _ _ _=>sc
 | _=>{ kind:=.function,names:=[],isGenerator:=false,isCoroutine:=false }
noncomputable abbrev so (s:String):Str:=PySem.Str.ofString s
noncomputable abbrev kh (P:Params) (s:Str):Int:=PySem.PyData.keyHash P s
noncomputable abbrev hde (P:Params) (s:String) (n:Nat) (v:Value):DictEntry:=⟨kh P (so s),.str (so s) n,v⟩
noncomputable abbrev hvs (s:String) (n:Nat):Value:=.str (so s) n
noncomputable abbrev hcut (n:Nat):Value:=hvs "/claim/cut.py" n
noncomputable abbrev hfd (x q:String) (s:Stmt) (a b c d:Value) (e:Option Addr) (f g:Value) (i:Addr):FuncData:=⟨so x,so q,dA s,.stmts (dB s),dS s,3,[],a,b,c,d,e,f,g,i⟩
noncomputable abbrev htp (d:Data) (s:Array (Option Value)):Obj:=⟨.type "tuple",none,d,s⟩
noncomputable abbrev hcd (d:Data) (s:Array (Option Value)):Obj:=⟨.type "code",none,d,s⟩
noncomputable abbrev hfn (d:Data) (s:Array (Option Value)):Obj:=⟨.type "function",none,d,s⟩
noncomputable abbrev ht0:Obj:=htp (.seq #[]) #[]
noncomputable def hvl:List String→Nat→List Value
 | [],_=>[]
 | x::r,n=>hvs x n::hvl r (n+1)
noncomputable abbrev hts (l:List String) (n:Nat):Obj:=htp (.seq (hvl l n).toArray) #[]
noncomputable abbrev hco (x:String) (t:Nat) (ln ac fl:Int) (b:Nat) (md e:Int) (n:Nat):Obj:=hcd (.fields #[hvs x t,hvs x (t+1),hcut (t+2),.int ln 0,.int ac 0,.int 0 0,.int 0 0,.int fl 0,.ref b,.bool .true,.int md 0,.ref (b+1),.none,.ref (b+2),.ref (b+3),.ref (b+4),.int e 0,.int ln 0,hcut n]) #[]
noncomputable abbrev hcp (x:String) (t:Nat) (ln ac:Int) (b:Nat) (md e:Int):Obj:=hcd (.fields #[hvs x t,hvs x (t+1),hcut (t+2),.int ln 0,.int ac 0,.int 0 0,.int 0 0,.int 3 0,.ref b,.bool .true,.int md 0,.ref (b+1),.none,.none,.none,.ref (b+2),.int e 0,.int ln 0,hcut (t+4)]) #[]
noncomputable abbrev hfo (x:String) (s:Stmt) (m:String) (t c:Nat):Obj:=hfn (.func (hfd x x s .none .none .none (hvs m t) .none (.ref c) .none 0)) #[]
noncomputable def hpK:Params→PySem.W.Frag:=fun P=>
 (nat_lit 2,Obj.mk .none .none (.dict #[]) #[]) ::
 (nat_lit 3,Obj.mk (.type "dict") .none (.dict #[hde P "__name__" 165 (hvs "law_fewrooms_k72_sheets_at_their_bounds" 464),hde P "__doc__" 166 .none,hde P "__package__" 167 .none,hde P "__loader__" 168 (.builtin "__main__.__loader__#opaque"),hde P "__spec__" 169 .none,hde P "__annotations__" 170 (.ref 6),hde P "__builtins__" 171 (.ref 4),hde P "__file__" 173 (hcut 172),hde P "__cached__" 174 .none,hde P "RoomError" 206 (.ref 24),hde P "Barred" 233 (.ref 44),hde P "NoMove" 249 (.ref 56),hde P "NoTree" 265 (.ref 68),hde P "TooMany" 281 (.ref 80),hde P "BadRow" 306 (.ref 99),hde P "MOST_ROWS" 310 (.int 100 309),hde P "MOST_SIGNS" 312 (.int 200 311),hde P "MOST_WORKS" 314 (.int 40 313),hde P "MOST_LETTERS" 316 (.int 8 315),hde P "MOST_ASKED" 318 (.int 4 317),hde P "MOST_ROOMS" 320 (.int 99 319),hde P "ALONE" 325 (.ref 102),hde P "OF_ONE" 330 (.ref 103),hde P "OF_SOME" 334 (.ref 104),hde P "is_name" 340 (.ref 109),hde P "rooms_in" 347 (.ref 116),hde P "works_named" 353 (.ref 121),hde P "asked_named" 361 (.ref 128),hde P "steps_ask" 371 (.ref 135),hde P "deed_of" 381 (.ref 142),hde P "Sheet" 452 (.ref 192),hde P "read_sheet" 463 (.ref 203),hde P "_law_begin" 473 (.ref 210),hde P "_law_take" 486 (.ref 217),hde P "_law_same" 492 (.ref 222),hde P "_law_some_needs" 503 (.ref 229),hde P "_law_tree_net" 515 (.ref 236),hde P "_law_net" 521 (.ref 241),hde P "_law_names" 535 (.ref 248),hde P "_law_mixed" 545 (.ref 255),hde P "_law_head" 551 (.ref 260),hde P "_law_deed_words" 557 (.ref 265),hde P "_law_plain" 563 (.ref 270),hde P "_law_is_name" 569 (.ref 275),hde P "_law_are_asked" 575 (.ref 280),hde P "_law_is_deed" 583 (.ref 287),hde P "_law_is_work" 589 (.ref 292),hde P "_law_first_fault" 604 (.ref 299),hde P "_law_refused" 614 (.ref 306),hde P "_law_many_rows" 627 (.ref 313),hde P "_law_asks" 639 (.ref 320),hde P "law" 645 (.ref 325)] 52) #[]) ::
 (nat_lit 15,htp (.seq #[.type "ValueError"]) #[]) ::
 (nat_lit 22,ht0) ::
 (nat_lit 23,Obj.mk (.type "dict") .none (.dict #[hde P "__module__" 196 (hvs "fewrooms.errors" 187),hde P "__firstlineno__" 200 (.int 2 199),hde P "__static_attributes__" 201 (.ref 22),hde P "__weakref__" 203 (.ref 25),hde P "__doc__" 204 .none] 3) #[]) ::
 (nat_lit 24,Obj.mk (.type "type") .none (.cls (ClassData.mk (so "RoomError") [.type "ValueError"] [.ref 24,.type "ValueError",.type "Exception",.type "BaseException",.type "object"] 23 (so "RoomError") .true [] [.ref 44,.ref 56,.ref 68,.ref 80,.ref 99] .false .none .false)) #[Option.some (.ref 15),.none,Option.some (hvs "RoomError" 189),Option.some (hvs "RoomError" 197),Option.some (.builtin "ValueError.__new__"),Option.some (.bool .true)]) ::
 (nat_lit 25,Obj.mk (.type "getset_descriptor") .none (.fields #[hvs "__weakref__" 202,.ref 24,.builtin "ExceptionGroup.__weakref__",.none]) #[]) ::
 (nat_lit 28,htp (.seq #[.ref 24]) #[]) ::
 (nat_lit 35,ht0) ::
 (nat_lit 37,hts ["self","move","word"] 222) ::
 (nat_lit 38,ht0) ::
 (nat_lit 40,hcd (.fields #[hvs "__init__" 219,hvs "Barred.__init__" 220,hcut 221,.int 6 0,.int 3 0,.int 0 0,.int 0 0,.int 3 0,.ref 35,.bool .true,.int 181 0,.ref 36,.none,.ref 37,.ref 38,.ref 39,.int 225 0,.int 6 0,hcut 226]) #[]) ::
 (nat_lit 41,hfn (.func (hfd "__init__" "Barred.__init__" s_init_Barred .none .none .none (hvs "fewrooms.errors" 187) .none (.ref 40) .none 0)) #[]) ::
 (nat_lit 42,hts ["move","word"] 228) ::
 (nat_lit 43,Obj.mk (.type "dict") .none (.dict #[hde P "__module__" 214 (hvs "fewrooms.errors" 187),hde P "__firstlineno__" 218 (.int 4 217),hde P "__init__" 227 (.ref 41),hde P "__static_attributes__" 230 (.ref 42),hde P "__doc__" 231 .none] 2) #[]) ::
 (nat_lit 44,Obj.mk (.type "type") .none (.cls (ClassData.mk (so "Barred") [.ref 24] [.ref 44,.ref 24,.type "ValueError",.type "Exception",.type "BaseException",.type "object"] 43 (so "Barred") .true [] [] .false .none .false)) #[Option.some (.ref 28),.none,Option.some (hvs "Barred" 207),Option.some (hvs "Barred" 215),Option.some (.builtin "ValueError.__new__"),Option.some (.bool .true)]) ::
 (nat_lit 47,htp (.seq #[.ref 24]) #[]) ::
 (nat_lit 54,ht0) ::
 (nat_lit 55,Obj.mk (.type "dict") .none (.dict #[hde P "__module__" 241 (hvs "fewrooms.errors" 187),hde P "__firstlineno__" 245 (.int 9 244),hde P "__static_attributes__" 246 (.ref 54),hde P "__doc__" 247 .none] 2) #[]) ::
 (nat_lit 56,Obj.mk (.type "type") .none (.cls (ClassData.mk (so "NoMove") [.ref 24] [.ref 56,.ref 24,.type "ValueError",.type "Exception",.type "BaseException",.type "object"] 55 (so "NoMove") .true [] [] .false .none .false)) #[Option.some (.ref 47),.none,Option.some (hvs "NoMove" 234),Option.some (hvs "NoMove" 242),Option.some (.builtin "ValueError.__new__"),Option.some (.bool .true)]) ::
 (nat_lit 59,htp (.seq #[.ref 24]) #[]) ::
 (nat_lit 66,ht0) ::
 (nat_lit 67,Obj.mk (.type "dict") .none (.dict #[hde P "__module__" 257 (hvs "fewrooms.errors" 187),hde P "__firstlineno__" 261 (.int 11 260),hde P "__static_attributes__" 262 (.ref 66),hde P "__doc__" 263 .none] 2) #[]) ::
 (nat_lit 68,Obj.mk (.type "type") .none (.cls (ClassData.mk (so "NoTree") [.ref 24] [.ref 68,.ref 24,.type "ValueError",.type "Exception",.type "BaseException",.type "object"] 67 (so "NoTree") .true [] [] .false .none .false)) #[Option.some (.ref 59),.none,Option.some (hvs "NoTree" 250),Option.some (hvs "NoTree" 258),Option.some (.builtin "ValueError.__new__"),Option.some (.bool .true)]) ::
 (nat_lit 71,htp (.seq #[.ref 24]) #[]) ::
 (nat_lit 78,ht0) ::
 (nat_lit 79,Obj.mk (.type "dict") .none (.dict #[hde P "__module__" 273 (hvs "fewrooms.errors" 187),hde P "__firstlineno__" 277 (.int 13 276),hde P "__static_attributes__" 278 (.ref 78),hde P "__doc__" 279 .none] 2) #[]) ::
 (nat_lit 80,Obj.mk (.type "type") .none (.cls (ClassData.mk (so "TooMany") [.ref 24] [.ref 80,.ref 24,.type "ValueError",.type "Exception",.type "BaseException",.type "object"] 79 (so "TooMany") .true [] [] .false .none .false)) #[Option.some (.ref 71),.none,Option.some (hvs "TooMany" 266),Option.some (hvs "TooMany" 274),Option.some (.builtin "ValueError.__new__"),Option.some (.bool .true)]) ::
 (nat_lit 83,htp (.seq #[.ref 24]) #[]) ::
 (nat_lit 90,ht0) ::
 (nat_lit 92,hts ["self","row"] 297) ::
 (nat_lit 93,ht0) ::
 (nat_lit 95,hcd (.fields #[hvs "__init__" 294,hvs "BadRow.__init__" 295,hcut 296,.int 17 0,.int 2 0,.int 0 0,.int 0 0,.int 3 0,.ref 90,.bool .true,.int 181 0,.ref 91,.none,.ref 92,.ref 93,.ref 94,.int 299 0,.int 17 0,hcut 300]) #[]) ::
 (nat_lit 96,hfn (.func (hfd "__init__" "BadRow.__init__" qB0 .none .none .none (hvs "fewrooms.errors" 187) .none (.ref 95) .none 0)) #[]) ::
 (nat_lit 97,hts ["row"] 302) ::
 (nat_lit 98,Obj.mk (.type "dict") .none (.dict #[hde P "__module__" 289 (hvs "fewrooms.errors" 187),hde P "__firstlineno__" 293 (.int 15 292),hde P "__init__" 301 (.ref 96),hde P "__static_attributes__" 303 (.ref 97),hde P "__doc__" 304 .none] 2) #[]) ::
 (nat_lit 99,Obj.mk (.type "type") .none (.cls (ClassData.mk (so "BadRow") [.ref 24] [.ref 99,.ref 24,.type "ValueError",.type "Exception",.type "BaseException",.type "object"] 98 (so "BadRow") .true [] [] .false .none .false)) #[Option.some (.ref 83),.none,Option.some (hvs "BadRow" 282),Option.some (hvs "BadRow" 290),Option.some (.builtin "ValueError.__new__"),Option.some (.bool .true)]) ::
 (nat_lit 102,hts ["back","stand","moves","count"] 321) ::
 (nat_lit 103,hts ["do","clear","tree","cut"] 326) ::
 (nat_lit 104,hts ["plain","few","stair"] 331) ::
 (nat_lit 105,ht0) ::
 (nat_lit 108,hcp "is_name" 335 29 1 105 181 338) ::
 (nat_lit 109,hfo "is_name" s_is_name "fewrooms.sheetrows" 307 108) ::
 (nat_lit 110,ht0) ::
 (nat_lit 112,hts ["word"] 344) ::
 (nat_lit 113,ht0) ::
 (nat_lit 115,hco "rooms_in" 341 31 1 3 110 181 345 346) ::
 (nat_lit 116,hfo "rooms_in" qCP "fewrooms.sheetrows" 307 115) ::
 (nat_lit 117,ht0) ::
 (nat_lit 120,hcp "works_named" 348 35 2 117 181 351) ::
 (nat_lit 121,hfo "works_named" qBO "fewrooms.sheetrows" 307 120) ::
 (nat_lit 122,ht0) ::
 (nat_lit 124,hts ["words","numbers"] 357) ::
 (nat_lit 125,ht0) ::
 (nat_lit 127,hco "asked_named" 354 40 2 3 122 181 359 360) ::
 (nat_lit 128,hfo "asked_named" qBP "fewrooms.sheetrows" 307 127) ::
 (nat_lit 129,ht0) ::
 (nat_lit 131,hts ["words","numbers","rooms","asked"] 365) ::
 (nat_lit 132,ht0) ::
 (nat_lit 134,hco "steps_ask" 362 44 2 3 129 181 369 370) ::
 (nat_lit 135,hfo "steps_ask" qCA "fewrooms.sheetrows" 307 134) ::
 (nat_lit 136,ht0) ::
 (nat_lit 138,hts ["words","numbers","word","asked"] 375) ::
 (nat_lit 139,ht0) ::
 (nat_lit 141,hco "deed_of" 372 52 2 3 136 181 379 380) ::
 (nat_lit 142,hfo "deed_of" s_deed_of "fewrooms.sheetrows" 307 141) ::
 (nat_lit 150,ht0) ::
 (nat_lit 152,hts ["self"] 397) ::
 (nat_lit 153,ht0) ::
 (nat_lit 155,hcd (.fields #[hvs "__init__" 394,hvs "Sheet.__init__" 395,hcut 396,.int 66 0,.int 1 0,.int 0 0,.int 0 0,.int 3 0,.ref 150,.bool .true,.int 181 0,.ref 151,.none,.ref 152,.ref 153,.ref 154,.int 398 0,.int 66 0,hcut 399]) #[]) ::
 (nat_lit 156,hfn (.func (hfd "__init__" "Sheet.__init__" qB5 .none .none .none (hvs "fewrooms.sheetrows" 307) .none (.ref 155) .none 0)) #[]) ::
 (nat_lit 157,ht0) ::
 (nat_lit 159,hts ["self","words"] 404) ::
 (nat_lit 160,ht0) ::
 (nat_lit 162,hcd (.fields #[hvs "take_rooms" 401,hvs "Sheet.take_rooms" 402,hcut 403,.int 72 0,.int 2 0,.int 0 0,.int 0 0,.int 3 0,.ref 157,.bool .true,.int 181 0,.ref 158,.none,.ref 159,.ref 160,.ref 161,.int 406 0,.int 72 0,hcut 407]) #[]) ::
 (nat_lit 163,hfn (.func (hfd "take_rooms" "Sheet.take_rooms" qAL .none .none .none (hvs "fewrooms.sheetrows" 307) .none (.ref 162) .none 0)) #[]) ::
 (nat_lit 164,ht0) ::
 (nat_lit 166,hts ["self","words","needs"] 412) ::
 (nat_lit 167,ht0) ::
 (nat_lit 169,hcd (.fields #[hvs "take_work" 409,hvs "Sheet.take_work" 410,hcut 411,.int 78 0,.int 2 0,.int 0 0,.int 0 0,.int 3 0,.ref 164,.bool .true,.int 181 0,.ref 165,.none,.ref 166,.ref 167,.ref 168,.int 415 0,.int 78 0,hcut 416]) #[]) ::
 (nat_lit 170,hfn (.func (hfd "take_work" "Sheet.take_work" qAP .none .none .none (hvs "fewrooms.sheetrows" 307) .none (.ref 169) .none 0)) #[]) ::
 (nat_lit 171,ht0) ::
 (nat_lit 173,hts ["self","words","deed"] 421) ::
 (nat_lit 174,ht0) ::
 (nat_lit 176,hcd (.fields #[hvs "take_deed" 418,hvs "Sheet.take_deed" 419,hcut 420,.int 90 0,.int 2 0,.int 0 0,.int 0 0,.int 3 0,.ref 171,.bool .true,.int 181 0,.ref 172,.none,.ref 173,.ref 174,.ref 175,.int 424 0,.int 90 0,hcut 425]) #[]) ::
 (nat_lit 177,hfn (.func (hfd "take_deed" "Sheet.take_deed" qAQ .none .none .none (hvs "fewrooms.sheetrows" 307) .none (.ref 176) .none 0)) #[]) ::
 (nat_lit 178,ht0) ::
 (nat_lit 180,hts ["self","words"] 430) ::
 (nat_lit 181,ht0) ::
 (nat_lit 183,hcd (.fields #[hvs "take_words" 427,hvs "Sheet.take_words" 428,hcut 429,.int 97 0,.int 2 0,.int 0 0,.int 0 0,.int 3 0,.ref 178,.bool .true,.int 181 0,.ref 179,.none,.ref 180,.ref 181,.ref 182,.int 432 0,.int 97 0,hcut 433]) #[]) ::
 (nat_lit 184,hfn (.func (hfd "take_words" "Sheet.take_words" qAK .none .none .none (hvs "fewrooms.sheetrows" 307) .none (.ref 183) .none 0)) #[]) ::
 (nat_lit 185,ht0) ::
 (nat_lit 188,hcd (.fields #[hvs "take_row" 435,hvs "Sheet.take_row" 436,hcut 437,.int 104 0,.int 2 0,.int 0 0,.int 0 0,.int 3 0,.ref 185,.bool .true,.int 181 0,.ref 186,.none,.none,.none,.ref 187,.int 438 0,.int 104 0,hcut 439]) #[]) ::
 (nat_lit 189,hfn (.func (hfd "take_row" "Sheet.take_row" qAR .none .none .none (hvs "fewrooms.sheetrows" 307) .none (.ref 188) .none 0)) #[]) ::
 (nat_lit 190,hts ["deeds","net","numbers","rooms"] 441) ::
 (nat_lit 191,Obj.mk (.type "dict") .none (.dict #[hde P "__module__" 389 (hvs "fewrooms.sheetrows" 307),hde P "__firstlineno__" 393 (.int 64 392),hde P "__init__" 400 (.ref 156),hde P "take_rooms" 408 (.ref 163),hde P "take_work" 417 (.ref 170),hde P "take_deed" 426 (.ref 177),hde P "take_words" 434 (.ref 184),hde P "take_row" 440 (.ref 189),hde P "__static_attributes__" 445 (.ref 190),hde P "__dict__" 447 (.ref 193),hde P "__weakref__" 449 (.ref 194),hde P "__doc__" 450 .none] 4) #[]) ::
 (nat_lit 192,Obj.mk (.type "type") .none (.cls (ClassData.mk (so "Sheet") [.type "object"] [.ref 192,.type "object"] 191 (so "Sheet") .true [] [] .false .none .false)) #[.none,.none,Option.some (hvs "Sheet" 382),Option.some (hvs "Sheet" 390),Option.some (.builtin "object.__new__"),Option.some (.bool .true)]) ::
 (nat_lit 193,Obj.mk (.type "getset_descriptor") .none (.fields #[hvs "__dict__" 446,.ref 192,.builtin "function.__dict__",.builtin "function.__dict__#set"]) #[]) ::
 (nat_lit 194,Obj.mk (.type "getset_descriptor") .none (.fields #[hvs "__weakref__" 448,.ref 192,.builtin "ExceptionGroup.__weakref__",.none]) #[]) ::
 (nat_lit 197,ht0) ::
 (nat_lit 199,hts ["text","rows","sheet","number","row"] 456) ::
 (nat_lit 200,ht0) ::
 (nat_lit 202,hco "read_sheet" 453 111 1 3 197 181 461 462) ::
 (nat_lit 203,hfo "read_sheet" qBU "fewrooms.sheetrows" 307 202) ::
 (nat_lit 204,ht0) ::
 (nat_lit 206,hts ["_law_script","_law_cells"] 469) ::
 (nat_lit 207,ht0) ::
 (nat_lit 209,hco "_law_begin" 466 121 1 3 204 181 471 472) ::
 (nat_lit 210,hfo "_law_begin" s_Lbegin "law_fewrooms_k72_sheets_at_their_bounds" 464 209) ::
 (nat_lit 211,ht0) ::
 (nat_lit 213,hts ["_law_state","_law_many","_law_turn","_law_place","_law_cell","_law_digit","_law_mixed_here"] 477) ::
 (nat_lit 214,ht0) ::
 (nat_lit 216,hco "_law_take" 474 126 2 3 211 181 484 485) ::
 (nat_lit 217,hfo "_law_take" s_Ltake "law_fewrooms_k72_sheets_at_their_bounds" 464 216) ::
 (nat_lit 218,ht0) ::
 (nat_lit 221,hcp "_law_same" 487 137 2 218 181 490) ::
 (nat_lit 222,hfo "_law_same" s_Lsame "law_fewrooms_k72_sheets_at_their_bounds" 464 221) ::
 (nat_lit 223,ht0) ::
 (nat_lit 225,hts ["_law_state","_law_k","_law_found","_law_turn","_law_far"] 496) ::
 (nat_lit 226,ht0) ::
 (nat_lit 228,hco "_law_some_needs" 493 149 2 3 223 181 501 502) ::
 (nat_lit 229,hfo "_law_some_needs" s_Lsome_needs "law_fewrooms_k72_sheets_at_their_bounds" 464 228) ::
 (nat_lit 230,ht0) ::
 (nat_lit 232,hts ["_law_state","_law_many","_law_open_ones","_law_found","_law_k","_law_so_many"] 507) ::
 (nat_lit 233,ht0) ::
 (nat_lit 235,hco "_law_tree_net" 504 156 2 3 230 181 513 514) ::
 (nat_lit 236,hfo "_law_tree_net" s_Ltree_net "law_fewrooms_k72_sheets_at_their_bounds" 464 235) ::
 (nat_lit 237,ht0) ::
 (nat_lit 240,hcp "_law_net" 516 164 2 237 181 519) ::
 (nat_lit 241,hfo "_law_net" s_Lnet "law_fewrooms_k72_sheets_at_their_bounds" 464 240) ::
 (nat_lit 242,ht0) ::
 (nat_lit 244,hts ["_law_state","_law_many","_law_some","_law_first","_law_way","_law_found","_law_k","_law_name"] 525) ::
 (nat_lit 245,ht0) ::
 (nat_lit 247,hco "_law_names" 522 179 2 3 242 181 533 534) ::
 (nat_lit 248,hfo "_law_names" s_Lnames "law_fewrooms_k72_sheets_at_their_bounds" 464 247) ::
 (nat_lit 249,ht0) ::
 (nat_lit 251,hts ["_law_state","_law_some","_law_rest","_law_found"] 539) ::
 (nat_lit 252,ht0) ::
 (nat_lit 254,hco "_law_mixed" 536 190 2 3 249 181 543 544) ::
 (nat_lit 255,hfo "_law_mixed" s_Lmixed "law_fewrooms_k72_sheets_at_their_bounds" 464 254) ::
 (nat_lit 256,ht0) ::
 (nat_lit 259,hcp "_law_head" 546 196 4 256 181 549) ::
 (nat_lit 260,hfo "_law_head" s_Lhead "law_fewrooms_k72_sheets_at_their_bounds" 464 259) ::
 (nat_lit 266,ht0) ::
 (nat_lit 269,hcp "_law_plain" 558 211 1 266 181 561) ::
 (nat_lit 270,hfo "_law_plain" s_Lplain "law_fewrooms_k72_sheets_at_their_bounds" 464 269) ::
 (nat_lit 271,ht0) ::
 (nat_lit 274,hcp "_law_is_name" 564 215 1 271 181 567) ::
 (nat_lit 275,hfo "_law_is_name" qCS "law_fewrooms_k72_sheets_at_their_bounds" 464 274) ::
 (nat_lit 276,ht0) ::
 (nat_lit 279,hcp "_law_are_asked" 570 218 2 276 181 573) ::
 (nat_lit 280,hfo "_law_are_asked" qBW "law_fewrooms_k72_sheets_at_their_bounds" 464 279) ::
 (nat_lit 281,ht0) ::
 (nat_lit 283,hts ["_law_names_here","_law_words"] 579) ::
 (nat_lit 284,ht0) ::
 (nat_lit 286,hco "_law_is_deed" 576 220 2 3 281 181 581 582) ::
 (nat_lit 287,hfo "_law_is_deed" qCT "law_fewrooms_k72_sheets_at_their_bounds" 464 286) ::
 (nat_lit 288,ht0) ::
 (nat_lit 291,hcp "_law_is_work" 584 228 2 288 181 587) ::
 (nat_lit 292,hfo "_law_is_work" qCR "law_fewrooms_k72_sheets_at_their_bounds" 464 291) ::
 (nat_lit 293,ht0) ::
 (nat_lit 295,hts ["_law_text","_law_names_here","_law_begun","_law_deeds","_law_rows","_law_k","_law_row","_law_words","_law_fine"] 593) ::
 (nat_lit 296,ht0) ::
 (nat_lit 298,hco "_law_first_fault" 590 232 1 3 293 181 602 603) ::
 (nat_lit 299,hfo "_law_first_fault" qBI "law_fewrooms_k72_sheets_at_their_bounds" 464 298) ::
 (nat_lit 300,ht0) ::
 (nat_lit 302,hts ["_law_call","_law_text","_law_caught","error"] 608) ::
 (nat_lit 303,ht0) ::
 (nat_lit 305,hco "_law_refused" 605 254 2 3 300 181 612 613) ::
 (nat_lit 306,hfo "_law_refused" qCQ "law_fewrooms_k72_sheets_at_their_bounds" 464 305) ::
 (nat_lit 307,ht0) ::
 (nat_lit 309,hts ["_law_state","_law_names_here","_law_net_here","_law_rows","_law_many","_law_deeds","_law_at"] 618) ::
 (nat_lit 310,ht0) ::
 (nat_lit 312,hco "_law_many_rows" 615 265 3 3 307 181 625 626) ::
 (nat_lit 313,hfo "_law_many_rows" qBV "law_fewrooms_k72_sheets_at_their_bounds" 464 312) ::
 (nat_lit 314,ht0) ::
 (nat_lit 316,hts ["_law_state","_law_names_here","_law_found","_law_turn","_law_words","_law_word"] 631) ::
 (nat_lit 317,ht0) ::
 (nat_lit 319,hco "_law_asks" 628 275 2 3 314 181 637 638) ::
 (nat_lit 320,hfo "_law_asks" s_Lasks "law_fewrooms_k72_sheets_at_their_bounds" 464 319) ::
 (nat_lit 321,ht0) ::
 (nat_lit 324,hcp "law" 640 282 1 321 181 643) ::
 (nat_lit 325,hfo "law" s_law "law_fewrooms_k72_sheets_at_their_bounds" 464 324) ::
 []
noncomputable def hpA:List Addr:=[2,3,15,22,23,24,25,28,35,37,38,40,41,42,43,44,47,54,55,56,59,66,67,68,71,78,79,80,83,90,92,93,95,96,97,98,99,102,103,104,105,108,109,110,112,113,115,116,117,120,121,122,124,125,127,128,129,131,132,134,135,136,138,139,141,142,150,152,153,155,156,157,159,160,162,163,164,166,167,169,170,171,173,174,176,177,178,180,181,183,184,185,188,189,190,191,192,193,194,197,199,200,202,203,204,206,207,209,210,211,213,214,216,217,218,221,222,223,225,226,228,229,230,232,233,235,236,237,240,241,242,244,245,247,248,249,251,252,254,255,256,259,260,266,269,270,271,274,275,276,279,280,281,283,284,286,287,288,291,292,293,295,296,298,299,300,302,303,305,306,307,309,310,312,313,314,316,317,319,320,321,324,325]
noncomputable def hpQ:Program:=PySem.W.view PySem.Challenge.pw_fewrooms_k72_sheets_at_their_bounds [1,2,3,4,5,6,8,9,10,11,12,13,14,15,16,17,18,19,20,21,22,23,24,26,27,28,29,30,31,32,33,34,35,36,37,38,39,40,41,42,43,44,45]
def hpN:Nat:=5388
theorem hpE (P:Params):hpA=(hpK P).map (·.1):=by kernel_rfl
noncomputable def hpX (s:Shared):Bool:=PySem.W.xlAt hpQ [] s && PySem.W.recOk (PySem.W.RowW.records (PySem.W.OpenRow.toRowW (PySem.W.OpenLaw.row PySem.Challenge.rw_fewrooms_k72_sheets_at_their_bounds))) s
theorem hpLeft:PySem.W.LeftO PySem.Challenge.pw_fewrooms_k72_sheets_at_their_bounds hpQ [] hpX (PySem.W.kHook hpK hpA hpE).obs (PySem.W.kHook hpK hpA hpE).val hpN:=fun w=>by kernel_rfl
theorem hpSaid:PySem.W.OpenLaw.wellSaid PySem.Challenge.rw_fewrooms_k72_sheets_at_their_bounds=true:=by kernel_rfl
end Fw
namespace L2
open PySem PySem.Spec PyProof.Rows
abbrev Key:=Sum Int Str
noncomputable def keyIs:Key→Value→Bool
 | .inl k,v=>Value.isInt k v
 | .inr x,v=>Value.isStrOf x v
noncomputable def keyH (w:World):Key→Int
 | .inl k=>hashInt k
 | .inr x=>hashStr w x
theorem qAZ:∀ {k:Key} {v:Value},keyIs k v=true→(∃ i t,k=Sum.inl i∧v=Value.int i t)∨(∃ x t,k=Sum.inr x∧v=Value.str x t)
 | .inl i,v,h=>by
  obtain ⟨t,e⟩:=Value.isInt_shape (k:=i) (v:=v) h
  exact .inl ⟨i,t,rfl,e⟩
 | .inr x,v,h=>by
  obtain ⟨t,e⟩:=Value.isStrOf_shape (x:=x) (v:=v) h
  exact .inr ⟨x,t,rfl,e⟩
theorem keyIs_int (i:Int) (t:Tok):keyIs (.inl i) (.int i t)=true:=by simp [keyIs,Value.isInt]
theorem keyIs_str (x:Str) (t:Tok):keyIs (.inr x) (.str x t)=true:=by simp [keyIs,Value.isStrOf]
theorem key_ll (a b:Int):decide ((Sum.inl a:Key)=Sum.inl b)=(a == b):=by
 by_cases e:a=b
 ·subst e;simp
 ·have h:¬ (Sum.inl a:Key)=Sum.inl b:=fun q=>e (Sum.inl.inj q)
  rw [decide_eq_false h]
  exact (beq_eq_false_iff_ne.mpr e).symm
theorem key_rr (a b:Str):decide ((Sum.inr a:Key)=Sum.inr b)=decide (a=b):=by
 by_cases e:a=b
 ·subst e;simp
 ·have h:¬ (Sum.inr a:Key)=Sum.inr b:=fun q=>e (Sum.inr.inj q)
  rw [decide_eq_false h,decide_eq_false e]
theorem key_lr (a:Int) (b:Str):decide ((Sum.inl a:Key)=Sum.inr b)=false:=decide_eq_false (fun q=>nomatch q)
theorem key_rl (a:Str) (b:Int):decide ((Sum.inr a:Key)=Sum.inl b)=false:=decide_eq_false (fun q=>nomatch q)
noncomputable def mixKind (prog:Program) (w:World):PySem.KeyKind prog w Key where
 is:=keyIs
 hash:=keyH w
 inj:=fun v a b ha hb=>by
  rcases qAZ ha with ⟨i,t,rfl,rfl⟩ | ⟨x,t,rfl,rfl⟩
  ·rcases qAZ hb with ⟨j,u,rfl,e⟩ | ⟨y,u,rfl,e⟩
   ·injection e with e1 _;rw [e1]
   ·exact nomatch e
  ·rcases qAZ hb with ⟨j,u,rfl,e⟩ | ⟨y,u,rfl,e⟩
   ·exact nomatch e
   ·injection e with e1 _;rw [e1]
 byValue:=fun k v h=>by
  rcases qAZ h with ⟨i,t,rfl,rfl⟩ | ⟨x,t,rfl,rfl⟩ <;> rfl
 pyHash:=fun hv h=>by
  rcases qAZ hv with ⟨i,t,rfl,rfl⟩ | ⟨x,t,rfl,rfl⟩
  ·exact wpAny_pyHash_int h
  ·exact wpAny_pyHash_str h
 eqBool:=fun hu hv h=>by
  rcases qAZ hu with ⟨i,t,rfl,rfl⟩ | ⟨x,t,rfl,rfl⟩
  ·rcases qAZ hv with ⟨j,u,rfl,rfl⟩ | ⟨y,u,rfl,rfl⟩
   ·rw [key_ll] at h;exact wpAny_eqBool_int h
   ·rw [key_lr] at h;exact SeqAt.EqAt.int_str i t y u _ _ _ _ h
  ·rcases qAZ hv with ⟨j,u,rfl,rfl⟩ | ⟨y,u,rfl,rfl⟩
   ·rw [key_rl] at h;exact SeqAt.EqAt.str_int x t j u _ _ _ _ h
   ·rw [key_rr] at h;exact wpAny_eqBool_str h
 «strs»:=fun k x t v h=>by
  rcases qAZ h with ⟨i,u,rfl,e⟩ | ⟨y,u,rfl,e⟩
  ·exact nomatch e
  ·injection e with e1 _
   subst e1
   cases v <;> rfl
theorem mixKind_int (prog:Program) (w:World) (i:Int) (t:Tok):(mixKind prog w).is (.inl i) (.int i t)=true:=keyIs_int i t
theorem mixKind_str (prog:Program) (w:World) (x:Str) (t:Tok):(mixKind prog w).is (.inr x) (.str x t)=true:=keyIs_str x t
end L2
namespace L2
open PySem PySem.Spec PyProof.Rows
inductive V where
 | non | bl (b:Bool) | int (i:Int) | str (x:Str) | byt (b:Array UInt8) | flt (b:UInt64) | ref (a:Addr) | ty (n:String)
 deriving DecidableEq
def RelV:V→Value→Prop
 | .non,u=>u=Value.none
 | .bl b,u=>u=Value.bool b
 | .int i,u=>∃ t,u=Value.int i t
 | .str x,u=>∃ t,u=Value.str x t
 | .byt b,u=>∃ t,u=Value.bytes b t
 | .flt b,u=>∃ t,u=Value.float b t
 | .ref a,u=>u=Value.ref a
 | .ty n,u=>u=Value.type n
abbrev Vals:List V→List Value→Prop:=Paired RelV
theorem Vals.length {xs:List V} {us:List Value} (r:Vals xs us):xs.length=us.length:=Paired.length r
theorem Vals.get:∀ {xs:List V} {us:List Value} {i:Nat} {x:V},Vals xs us→xs[i]?=some x→∃ u,us[i]?=some u∧RelV x u
 | _,_,_,_,.nil,e=>by simp at e
 | _,_,0,_,.cons r _,e=>by simp at e;subst e;exact ⟨_,rfl,r⟩
 | _,_,i+1,x,.cons _ t,e=>by
  obtain ⟨u,h1,h2⟩:=Vals.get (i:=i) (x:=x) t (by simpa using e)
  exact ⟨u,by simpa using h1,h2⟩
theorem Vals.set {x:V} {u:Value} (r:RelV x u):∀ {xs:List V} {us:List Value} (i:Nat),Vals xs us→Vals (xs.set i x) (us.set i u)
 | _,_,_,.nil=>.nil
 | _,_,0,.cons _ t=>.cons r t
 | _,_,i+1,.cons q t=>.cons q (Vals.set r i t)
theorem Vals.append:∀ {xs ys:List V} {us ws:List Value},Vals xs us→Vals ys ws→Vals (xs++ys) (us++ws)
 | _,_,_,_,.nil,s=>s
 | _,_,_,_,.cons r t,s=>.cons r (Vals.append t s)
theorem Vals.take:∀ {xs:List V} {us:List Value} (n:Nat),Vals xs us→Vals (xs.take n) (us.take n)
 | _,_,0,_=>.nil
 | _,_,_+1,.nil=>.nil
 | _,_,n+1,.cons r t=>.cons r (Vals.take n t)
theorem Vals.drop:∀ {xs:List V} {us:List Value} (n:Nat),Vals xs us→Vals (xs.drop n) (us.drop n)
 | _,_,0,r=>r
 | _,_,_+1,.nil=>.nil
 | _,_,n+1,.cons _ t=>Vals.drop n t
def RelO:Option V→Option Value→Prop
 | some v,some u=>RelV v u
 | none,none=>True
 | _,_=>False
def KV {κ:Type}:List (κ × V)→List (κ × Value)→Prop:=Paired fun (p:κ × V) (q:κ × Value)=>p.1=q.1∧RelV p.2 q.2
inductive CTb where
 | tab (q:Str)
 | cod (q:Str)
noncomputable def kV:Key→V
 | .inl i=>.int i
 | .inr x=>.str x
inductive HO where
 /-- a list -/
 | lst (xs:List V)
 /-- a tuple (never changes) -/
 | tup (xs:List V)
 /-- a dict whose keys are ints and texts;one whose keys are tuples of ints and texts (the empty one is both) -/
 | dK (kvs:List (Key × V)) | dT (kvs:List (List Key × V))
 /-- a set of ints: its members,its size -/
 | set (S:Int→Bool) (n:Nat)
 /-- an instance of the class at C,its dict at dx,its attributes -/
 | ins (C dx:Addr) (fs:List (Str × V))
 /-- the dict of the instance at x -/
 | own (x:Addr)
 /-- the dict of an exception -/
 | xd (fs:List (Str × V))
 /-- a bound method,f of x -/
 | met (f x:Addr)
 /-- a range object lo,lo+1,.. below hi -/
 | rng (lo hi:Int)
 /-- a thing that is known to the object (the script;a dict while a loop walks it): read,never written while it is so -/
 | frz (o:Obj) (u:HO)
 /-- a code object's table -/
 | tbl (t:CTb)
 /-- any other thing,by what is true of its one object (a def of one's own: SetO a S n:=HO.ext fun h=>..) -/
 | ext (φ:Heap→Prop)
abbrev Hp:=Addr→Option HO
noncomputable def upd (H:Hp) (a:Addr) (o:HO):Hp:=fun b=>if b=a then some o else H b
theorem qA1 {H:Hp} {a:Addr} {o:HO}:upd H a o a=some o:=by unfold upd;rw [if_pos rfl]
theorem qA7 {H:Hp} {a b:Addr} {o:HO} (h:b ≠ a):upd H a o b=H b:=by unfold upd;rw [if_neg h]
theorem upd_upd {H:Hp} {a:Addr} {o u:HO}:upd (upd H a o) a u=upd H a u:=by
 funext b;unfold upd;split <;> rfl
theorem ne_of {H:Hp} {a b:Addr} {o u:HO} (h:H a=some o) (h':H b=some u) (d:o ≠ u):a ≠ b:=by
 intro e;subst e;rw [h] at h';exact d (Option.some.inj h')
theorem qA2 {H:Hp} {a b:Addr} {o:HO} (h:H a=some o) (h':H b=none):a ≠ b:=by
 intro e;subst e;rw [h] at h';cases h'
section
variable (P:Program) (w:World)
def ObjOk (H:Hp) (h:Heap) (a:Addr):HO→Prop
 | .lst xs=>xs.length≤sizeLine∧∃ (its:List Value) (n:Nat),Vals xs its∧h.get? a=some { cls:=.type "list",data:=.seq its.toArray n }
 | .tup xs=>xs.length≤sizeLine∧∃ its:List Value,Vals xs its∧IsTup h a its.toArray
 | .dK kvs=>kvs.length≤sizeLine∧(a == sysModules)=false∧∃ vs,KV kvs vs∧h.DictOf (mixKind P w) a vs
 | .dT kvs=>kvs.length≤sizeLine∧(a == sysModules)=false∧∃ xs:List (List Key × Addr × Value),
   Paired (fun (p:List Key × V) (q:List Key × Addr × Value)=>p.1=q.1∧H q.2.1=some (.tup (p.1.map kV))∧RelV p.2 q.2.2) kvs xs∧
   ∃ o es ep,h.get? a=some o∧o.ExactDict∧o.data=.dict es ep∧es.toList=xs.map (entryOfKey (tupleKind (mixKind P w)))∧(xs.map (·.1)).Nodup
 | .set S n=>h.SetOf (intKind P w) a S n
 | .ins C dx fs=>H dx=some (.own a)∧fs.length≤1000∧dx ≠ a∧h.get? a=some (PySem.W.instObj C dx)∧
   ∃ mA,h.Ns1 dx mA∧(∀ f,RelO (fs.lookup f) (mA f))∧PySem.Within mA (fs.map (·.1))
 | .own _=>∃ o,h.get? a=some o
 | .xd fs=>∃ mA,h.Ns1 a mA∧∀ f,RelO (fs.lookup f) (mA f)
 | .rng lo hi=>∃ t u v,h.get? a=some { cls:=.type "range",data:=.fields #[.int lo t,.int hi u,.int 1 v] }
 | .frz o u=>h.get? a=some o∧ObjOk H h a u
 | .tbl (.tab q)=>∃ more:Array Value,h.get? a=some { cls:=.none,data:=.fields more }∧TriplesOk more.toList∧∀ pos cv,codeAmong pos more.toList=some cv→∃ c,cv=.ref c∧H c=some (.tbl (.cod q))
 | .tbl (.cod q)=>h.CodeRec (.ref a) q
 | .met f x=>h.get? a=some (PySem.W.methodObj (.ref f) (.ref x))
 | .ext φ=>φ h∧(∃ o,h.get? a=some o)∧∀ h1 h2:Heap,φ h1→(∀ o,h1.get? a=some o→h2.get? a=some o)→φ h2
def HOk (H:Hp) (h:Heap):Prop:=∀ a o,H a=some o→ObjOk P w H h a o
end
section
variable {P:Program} {w:World} {H H':Hp} {h h':Heap} {a:Addr} {o:HO}
theorem ObjOk.lt (x:ObjOk P w H h a o):a<h.objs.size:=by
 cases o with
 | lst xs=>obtain ⟨_,_,_,_,e⟩:=x;exact Heap.lt_size e
 | tup xs=>obtain ⟨_,_,_,p⟩:=x;exact p.lt
 | dK kvs=>obtain ⟨_,_,_,_,o,_,_,e,_⟩:=x;exact Heap.lt_size e
 | dT kvs=>obtain ⟨_,_,_,_,o,_,_,e,_⟩:=x;exact Heap.lt_size e
 | set S n=>obtain ⟨o,_,_,_,e,_⟩:=x;exact Heap.lt_size e
 | ins C dx fs=>obtain ⟨_,_,_,e,_⟩:=x;exact Heap.lt_size e
 | own y=>obtain ⟨_,e⟩:=x;exact Heap.lt_size e
 | xd fs=>obtain ⟨_,⟨_,_,_,e,_⟩,_⟩:=x;exact Heap.lt_size e
 | rng lo hi=>obtain ⟨_,_,_,e⟩:=x;exact Heap.lt_size e
 | frz ob u=>obtain ⟨e,_⟩:=x;exact Heap.lt_size e
 | tbl t=>
  cases t with
  | tab q=>obtain ⟨_,e,_⟩:=x;exact Heap.lt_size e
  | cod q=>obtain ⟨c,o,_,_,e,g,_⟩:=x;cases e;exact Heap.lt_size g
 | met f y=>exact Heap.lt_size (show h.get? a=some _ from x)
 | ext φ=>obtain ⟨_,⟨_,e⟩,_⟩:=x;exact Heap.lt_size e
theorem Paired.mapP {α β:Type} {F G:α→β→Prop}:∀ {l₁:List α} {l₂:List β},Paired F l₁ l₂→(∀ a b,F a b→G a b)→Paired G l₁ l₂
 | _,_,.nil,_=>.nil
 | _,_,.cons r t,f=>.cons (f _ _ r) (Paired.mapP t f)
theorem ObjOk.stay (x:ObjOk P w H h a o) (k:∀ b u,(b=a∨H b=some (.own a))→h.get? b=some u→h'.get? b=some u)
  (ho:∀ b,H b=some (.own a)→H' b=some (.own a)) (ht:∀ b xs,H b=some (.tup xs)→H' b=some (.tup xs)) (hb:∀ b t,H b=some (.tbl t)→H' b=some (.tbl t):=by exact fun _ _ q=>q):ObjOk P w H' h' a o:=by
 induction o with
 | lst xs=>obtain ⟨z,its,n,r,e⟩:=x;exact ⟨z,its,n,r,k _ _ (.inl rfl) e⟩
 | tup xs=>obtain ⟨z,its,r,ob,e,c⟩:=x;exact ⟨z,its,r,ob,k _ _ (.inl rfl) e,c⟩
 | dK kvs=>obtain ⟨z,y,vs,r,ob,es,ep,e,c⟩:=x;exact ⟨z,y,vs,r,ob,es,ep,k _ _ (.inl rfl) e,c⟩
 | dT kvs=>
  obtain ⟨z,y,xs,r,ob,es,ep,e,c⟩:=x
  exact ⟨z,y,xs,Paired.mapP r fun p q z=>⟨z.1,ht _ _ z.2.1,z.2.2⟩,ob,es,ep,k _ _ (.inl rfl) e,c⟩
 | set S n=>obtain ⟨ob,es,ep,t,e,c⟩:=x;exact ⟨ob,es,ep,t,k _ _ (.inl rfl) e,c⟩
 | ins C dx fs=>
  obtain ⟨d,z,ne,e,mA,⟨od,es,ep,e2,c⟩,r⟩:=x
  exact ⟨ho _ d,z,ne,k _ _ (.inl rfl) e,mA,⟨od,es,ep,k _ _ (.inr d) e2,c⟩,r⟩
 | own y=>obtain ⟨ob,e⟩:=x;exact ⟨ob,k _ _ (.inl rfl) e⟩
 | xd fs=>obtain ⟨mA,⟨od,es,ep,e,c⟩,r⟩:=x;exact ⟨mA,⟨od,es,ep,k _ _ (.inl rfl) e,c⟩,r⟩
 | rng lo hi=>obtain ⟨t,u,v,e⟩:=x;exact ⟨t,u,v,k _ _ (.inl rfl) e⟩
 | frz ob u ih=>obtain ⟨e,q⟩:=x;exact ⟨k _ _ (.inl rfl) e,ih q⟩
 | tbl t=>
  cases t with
  | tab q=>obtain ⟨m,e,tr,c⟩:=x;exact ⟨m,k a _ (.inl rfl) e,tr,fun pos cv z=>let ⟨c',e1,e2⟩:=c pos cv z;⟨c',e1,hb _ _ e2⟩⟩
  | cod q=>obtain ⟨c,o,vs,t,e,g,r⟩:=x;cases e;exact ⟨a,o,vs,t,rfl,k a _ (.inl rfl) g,r⟩
 | met f y=>
  have e:h.get? a=some (PySem.W.methodObj (.ref f) (.ref y)):=x
  show h'.get? a=some (PySem.W.methodObj (.ref f) (.ref y))
  exact k a _ (.inl rfl) e
 | ext φ=>obtain ⟨p,⟨o,e⟩,st⟩:=x;exact ⟨st _ _ p fun o q=>k _ _ (.inl rfl) q,⟨o,k _ _ (.inl rfl) e⟩,st⟩
theorem HOk.lt (x:HOk P w H h) (e:H a=some o):a<h.objs.size:=(x a o e).lt
theorem HOk.fresh (x:HOk P w H h) (e:h.objs.size≤a):H a=none:=by
 cases q:H a with
 | none=>rfl
 | some u=>exact absurd (Nat.lt_of_lt_of_le (x.lt q) e) (Nat.lt_irrefl _)
theorem HOk.kept (x:HOk P w H h) (k:∀ b u,h.get? b=some u→h'.get? b=some u):HOk P w H h':=fun a o e=>
 (x a o e).stay (fun b u _ q=>k b u q) (fun _ q=>q) fun _ _ q=>q
theorem HOk.laid (x:HOk P w H h) (k:∀ b u,h.get? b=some u→h'.get? b=some u) (hp:h.objs.size≤a) (new:ObjOk P w (upd H a o) h' a o):HOk P w (upd H a o) h':=fun b u e=>by
 have hn:=x.fresh hp
 by_cases hb:b=a
 ·subst hb;rw [qA1] at e;cases e;exact new
 ·rw [qA7 hb] at e
  exact (x b u e).stay (fun c v _ q=>k c v q) (fun c q=>by rw [qA7 (qA2 q hn)];exact q) (fun c xs q=>by rw [qA7 (qA2 q hn)];exact q) fun c t q=>by rw [qA7 (qA2 q hn)];exact q
end
def Rd (H:Hp) (a:Addr) (u:HO):Prop:=H a=some u∨∃ o,H a=some (.frz o u)
theorem Rd.ok {P:Program} {w:World} {H:Hp} {h:Heap} {a:Addr} {u:HO} (r:Rd H a u) (x:HOk P w H h):ObjOk P w H h a u:=by
 rcases r with r | ⟨o,r⟩
 ·exact x a u r
 ·obtain ⟨_,q⟩:=x a _ r
  exact q
def Mut:Option HO→Prop
 | some (.lst _)=>True
 | some (.dK _)=>True
 | some (.dT _)=>True
 | some (.set _ _)=>True
 | some (.ins _ _ _)=>True
 | some (.ext _)=>True
 | _=>False
section
variable {P:Program} {w:World} {H:Hp} {h h':Heap} {x e:Addr} {o':HO}
theorem HOk.write (ok:HOk P w H h) (mu:Mut (H x)) (he:e=x∨H e=some (.own x)) (k:∀ b u,b ≠ e→h.get? b=some u→h'.get? b=some u) (heo:∃ u,h'.get? e=some u)
  (new:ObjOk P w (upd H x o') h' x o'):HOk P w (upd H x o') h':=fun b u q=>by
 have nown:∀ c y,H c=some (.own y)→c ≠ x:=fun c y r z=>by subst z;rw [r] at mu;exact mu
 have ntup:∀ c xs,H c=some (.tup xs)→c ≠ x:=fun c xs r z=>by subst z;rw [r] at mu;exact mu
 by_cases hb:b=x
 ·subst hb;rw [qA1] at q;cases q;exact new
 ·rw [qA7 hb] at q
  by_cases hbe:b=e
  ·have q':H b=some (.own x):=by
    rcases he with z | z
    ·exact absurd (hbe.trans z) hb
    ·rw [hbe];exact z
   rw [q] at q';cases q'
   obtain ⟨v,hv⟩:=heo
   exact ⟨v,by rw [hbe];exact hv⟩
  ·refine (ok b u q).stay (fun c v hc r=>k c v ?_ r) (fun c r=>by rw [qA7 (nown c b r)];exact r) (fun c xs r=>by rw [qA7 (ntup c xs r)];exact r) fun c t r=>by rw [qA7 (fun z=>by subst z;rw [r] at mu;exact mu)];exact r
   rcases hc with rfl | hc
   ·exact hbe
   ·rintro rfl
    rcases he with z | z
    ·exact nown c b hc z
    ·rw [hc] at z;cases z;exact hb rfl
end
structure Un (fs ex:List Addr) (H H':Hp) (h h':Heap):Prop where
 keep:∀ b o,h.get? b=some o→H b=none→b ∉ fs→b ∉ ex→h'.get? b=some o
 slot:∀ b o,h.get? b=some o→H b=none→b ∈ fs→b ∉ ex→∃ sl,h'.get? b=some { o with slots:=sl }
 free:∀ b o,h.get? b=some o→H b=none→b ∉ ex→H' b=none
 there:∀ b o,h.get? b=some o→b ∉ ex→∃ o',h'.get? b=some o'
 tups:∀ b xs,H b=some (.tup xs)→H' b=some (.tup xs)
 frzs:∀ b o u,H b=some (.frz o u)→H' b=some (.frz o u)
 tbls:∀ b ps,H b=some (.tbl ps)→H' b=some (.tbl ps)
section
variable {fs fs' ex ex':List Addr} {H H1 H2:Hp} {h h1 h2 h':Heap} {a x e:Addr} {o:HO}
theorem Un.any (u:Un fs ex H H1 h h1) {b:Addr} {ob:Obj} (q:h.get? b=some ob) (n:H b=none) (hx:b ∉ ex):∃ sl,h1.get? b=some { ob with slots:=sl }:=by
 by_cases hb:b ∈ fs
 ·exact u.slot b ob q n hb hx
 ·exact ⟨ob.slots,u.keep b ob q n hb hx⟩
theorem Un.kept (k:∀ b u,h.get? b=some u→h'.get? b=some u):Un fs ex H H h h':=
 ⟨fun b ob q _ _ _=>k b ob q,fun b ob q _ _ _=>⟨ob.slots,k b ob q⟩,fun _ _ _ n _=>n,fun b ob q _=>⟨ob,k b ob q⟩,fun _ _ q=>q,fun _ _ _ q=>q,fun _ _ q=>q⟩
theorem Un.refl:Un fs ex H H h h:=Un.kept fun _ _ q=>q
theorem Un.laid (k:∀ b u,h.get? b=some u→h'.get? b=some u) (hp:h.objs.size≤a) (hn:H a=none):Un fs ex H (upd H a o) h h' where
 keep:=fun b u q _ _ _=>k b u q
 slot:=fun b u q _ _ _=>⟨u.slots,k b u q⟩
 free:=fun b u q n _=>by rw [qA7 (Nat.ne_of_lt (Nat.lt_of_lt_of_le (Heap.lt_size q) hp))];exact n
 there:=fun b u q _=>⟨u,k b u q⟩
 tups:=fun b xs q=>by rw [qA7 (qA2 q hn)];exact q
 frzs:=fun b u xs q=>by rw [qA7 (qA2 q hn)];exact q
 tbls:=fun b ps q=>by rw [qA7 (qA2 q hn)];exact q
theorem Un.write (mu:Mut (H x)) (he:e=x∨H e=some (.own x)) (k:∀ b u,b ≠ e→h.get? b=some u→h'.get? b=some u) (heo:∃ u,h'.get? e=some u):Un fs ex H (upd H x o) h h':=by
 have hx:∀ b,H b=none→b ≠ x:=fun b n z=>by subst z;rw [n] at mu;exact mu
 have hb:∀ b,H b=none→b ≠ e:=fun b n z=>by
  subst z
  rcases he with r | r
  ·exact hx b n r
  ·rw [n] at r;cases r
 have hm:∀ b u,H b=some u→¬ Mut (some u)→b ≠ x:=fun b u q nm z=>by subst z;rw [q] at mu;exact nm mu
 refine ⟨fun b u q n _ _=>k b u (hb b n) q,fun b u q n _ _=>⟨u.slots,k b u (hb b n) q⟩,fun b u q n _=>by rw [qA7 (hx b n)];exact n,fun b u q _=>?_,
  fun b xs q=>by rw [qA7 (hm b _ q fun z=>z)];exact q,fun b u xs q=>by rw [qA7 (hm b _ q fun z=>z)];exact q,fun b ps q=>by rw [qA7 (hm b _ q fun z=>z)];exact q⟩
 by_cases hbe:b=e
 ·subst hbe;exact heo
 ·exact ⟨u,k b u hbe q⟩
end
noncomputable def trk (h:Heap) (H:Hp):List Addr:=(List.range h.objs.size).filter fun a=>(H a).isSome
noncomputable def hidT (h:Heap) (H:Hp):Heap:=PySem.W.hideAll h (trk h H)
theorem hidT_size (h:Heap) (H:Hp):(hidT h H).objs.size=h.objs.size:=PySem.W.hideAll_size _ _
theorem hidT_get {h:Heap} {H:Hp} {b:Addr} {o:Obj} (e:h.get? b=some o) (n:H b=none):(hidT h H).get? b=some o:=
 PySem.W.hideAll_get _ e fun hm=>by
  have q:(H b).isSome=true:=(List.mem_filter.mp hm).2
  rw [n] at q;simp at q
theorem of_hidT {h:Heap} {H:Hp} {b:Addr} {o:Obj} (e:(hidT h H).get? b=some o):h.get? b=some o∧H b=none:=by
 have e':h.get? b=some o:=PySem.W.of_hideAll (trk h H) e
 refine ⟨e',?_⟩
 cases q:H b with
 | none=>rfl
 | some x=>
  have hm:b ∈ trk h H:=List.mem_filter.mpr ⟨List.mem_range.mpr (Heap.lt_size e'),by simp [q]⟩
  have z:(hidT h H).get? b=none:=PySem.W.hideAll_none (trk h H) hm
  rw [z] at e;cases e
noncomputable def allNews (g h:Heap) (L:Addr):List (Addr × Obj):=(List.range h.objs.size).filterMap fun a=>if a=L∨(g.get? a).isSome=true then none else (h.get? a).map fun o=>(a,o)
noncomputable def rest (g h:Heap) (L d:Addr):List (Addr × Obj):=(allNews g h L).filter fun p=>decide (p.1 ≠ d)
end L2
namespace L2
open PySem PySem.Spec PyProof.Rows
structure Mod (K:PySem.W.Frag) (mg:Str→Option Value) (base:Heap):Prop where
 kin:K.In base
 glob:base.Ns mainGlobals mg
 blt:∃ mb,base.Ns builtinsNs mb∧∀ x:Str,x ≠ "__name__"→mb x=bootBuiltins x
 nolimit:base.NoLimit
structure Cx where
 prog:Program
 w:World
 K:PySem.W.Frag
 mg:Str→Option Value
 base:Heap
 A:Around
 N:List Str
 s₀:Shared
 H₀:Hp
 env:Env
 outer:List Env
 stack:List Env
 ex:List Addr
 fn:Str→Bool
 calm:Bool
 pn:List (Addr × Obj)
 xe:Value→Shared→Prop
noncomputable def frs (l:List Env):List Addr:=l.filterMap (·.frame)
noncomputable abbrev Cx.fs (X:Cx):List Addr:=frs X.outer
def Vis (sc:Scope) (x:Str):Prop:=sc.names.lookup x=some .local∨sc.names.lookup x=some .cell∨sc.names.lookup x=some .free
def Loc (sc:Scope) (x:Str):Prop:=sc.names.lookup x=some .local∨sc.names.lookup x=some .cell
def Look (env:Env) (h:Heap) (m:Str→Option Value) (x:Str) (u:Value):Prop:=
 (env.kindOf x=some .local∧m x=some u)∨((env.kindOf x=some .cell∨env.kindOf x=some .free)∧∃ c,env.cells.lookup x=some c∧h.IsCell c (some u))
structure Cx.Ok (X:Cx):Prop where
 mod:Mod X.K X.mg X.base
 kind:X.env.scope.kind=.function
 glob:X.env.globals=mainGlobals
 blt:X.env.builtins=builtinsNs
 above:X.s₀.heap.objs.size≤X.env.locals
 inj:∀ x y c,X.env.cells.lookup x=some c→X.env.cells.lookup y=some c→x=y
 has:∀ x,(X.env.kindOf x=some .cell∨X.env.kindOf x=some .free)→∃ c,X.env.cells.lookup x=some c
 cab:∀ x c,X.fn x=true→X.env.cells.lookup x=some c→X.s₀.heap.objs.size≤c
 hd:X.calm=true→X.A.handled=none
 frames:X.A.frames=some X.stack
 stk:X.stack=X.outer∨(X.stack=X.env::X.outer∧X.env.frame=some X.env.locals)
 exf:∀ b ∈ X.ex,b ≠ X.env.locals∧∀ x c,X.env.cells.lookup x=some c→c ≠ b
 bs:∀ b o,X.base.get? b=some o→X.s₀.heap.get? b=some o∧X.H₀ b=none
 bsz:X.base.objs.size≤X.s₀.heap.objs.size
 noex:∀ b o,X.base.get? b=some o→b ∉ X.ex
 exfs:∀ b ∈ X.ex,b ∉ X.fs
 funs:X.s₀.heap.FunFrames X.base X.outer
 frf:∀ b ∈ X.fs,X.H₀ b=none
structure Inv (X:Cx) (pins:List (Addr × Obj)) (σ:List (Option V)) (H:Hp) (s:Shared):Prop where
 ok:X.Ok
 os:s.os=X.s₀.os
 bare:AllBare s.gens
 base:Un X.fs X.ex X.H₀ H X.s₀.heap s.heap
 loc:∃ m,s.heap.Ns X.env.locals m∧∀ (i:Nat) (x:Str) (v:V),X.N[i]?=some x→σ[i]?=some (some v)→Vis X.env.scope x→∃ u,RelV v u∧Look X.env s.heap m x u
 cell:∀ x c,X.env.cells.lookup x=some c→∃ v,s.heap.IsCell c v
 free:H X.env.locals=none
 freeC:∀ x c,X.env.cells.lookup x=some c→H c=none
 pin:∀ p ∈ X.pn++pins,s.heap.get? p.1=some p.2∧H p.1=none∧p.1 ≠ X.env.locals∧p.1 ∉ X.fs∧∀ v,p.2.data ≠ .cell v
 hok:HOk X.prog X.w H s.heap
 len:σ.length=X.N.length
section
variable {X:Cx} {pins:List (Addr × Obj)} {σ:List (Option V)} {H H':Hp} {s:Shared} {h':Heap}
theorem Cx.Ok.nofr (ok:X.Ok) {b:Addr} {o:Obj} (e:X.base.get? b=some o):b ∉ X.fs:=fun hb=>by
 have:=(ok.funs.mem hb).1
 rw [e] at this;cases this
theorem Inv.bs (I:Inv X pins σ H s):∀ b o,X.base.get? b=some o→s.heap.get? b=some o∧H b=none:=fun b o e=>
 ⟨I.base.keep b o (I.ok.bs b o e).1 (I.ok.bs b o e).2 (I.ok.nofr e) (I.ok.noex b o e),I.base.free b o (I.ok.bs b o e).1 (I.ok.bs b o e).2 (I.ok.noex b o e)⟩
theorem Inv.bk (I:Inv X pins σ H s):∀ b o,X.base.get? b=some o→s.heap.get? b=some o:=fun b o e=>(I.bs b o e).1
theorem Inv.mod (I:Inv X pins σ H s):Mod X.K X.mg X.base:=I.ok.mod
theorem Inv.kIn (I:Inv X pins σ H s):X.K.In s.heap:=I.ok.mod.kin.keeps I.bk
theorem Inv.lt (I:Inv X pins σ H s):X.env.locals<s.heap.objs.size:=let ⟨_,hn,_⟩:=I.loc;hn.lt
theorem Inv.sz (I:Inv X pins σ H s):X.s₀.heap.objs.size≤s.heap.objs.size:=Nat.le_trans I.ok.above (Nat.le_of_lt I.lt)
theorem Inv.nofs (I:Inv X pins σ H s) {a:Addr} (h:s.heap.objs.size≤a):a ∉ X.fs:=fun hb=>by
 obtain ⟨_,o,ho,_⟩:=I.ok.funs.mem hb
 exact absurd (Nat.lt_of_lt_of_le (Heap.lt_size ho) (Nat.le_trans I.sz h)) (Nat.lt_irrefl _)
theorem Inv.cne (I:Inv X pins σ H s):∀ x c,X.env.cells.lookup x=some c→c ≠ X.env.locals:=fun x c e z=>by
 obtain ⟨v,o,ho,hd⟩:=I.cell x c e
 obtain ⟨m,⟨o',es,ep,ho',hd',_⟩,_⟩:=I.loc
 rw [z,ho'] at ho;cases ho;rw [hd'] at hd;cases hd
theorem Inv.funs (I:Inv X pins σ H s):s.heap.FunFrames X.base X.outer:=by
 have all:∀ (l:List Env),(∀ b ∈ frs l,b ∈ X.fs)→X.s₀.heap.FunFrames X.base l→s.heap.FunFrames X.base l:=by
  intro l
  induction l with
  | nil=>intro _ _;trivial
  | cons env r ih=>
   intro hs hl
   obtain ⟨hk,⟨L,o,hf,hn,ho,hd⟩,hr⟩:=hl
   have hL:L ∈ X.fs:=hs L (by unfold frs;rw [List.filterMap_cons,hf];exact List.mem_cons_self)
   obtain ⟨sl,e⟩:=I.base.slot L o ho (I.ok.frf L hL) hL fun z=>I.ok.exfs L z hL
   exact ⟨hk,⟨L,_,hf,hn,e,hd⟩,ih (fun b hb=>hs b (by unfold frs;rw [List.filterMap_cons,hf];exact List.mem_cons_of_mem _ hb)) hr⟩
 exact all X.outer (fun _ hb=>hb) I.ok.funs
theorem Inv.stack (I:Inv X pins σ H s):s.heap.FunFrames X.base X.stack:=by
 rcases I.ok.stk with e | ⟨e,hf⟩
 ·rw [e];exact I.funs
 ·rw [e]
  obtain ⟨m,hn,_⟩:=I.loc
  refine .cons (by rw [I.ok.kind];decide) hf hn ?_ I.funs
  exact Heap.get?_none_of_le (Nat.le_trans I.ok.bsz I.ok.above)
theorem Inv.stkSub (I:Inv X pins σ H s):∀ b ∈ frs X.stack,b ∈ X.env.locals::X.fs:=fun b hb=>by
 rcases I.ok.stk with e | ⟨e,hf⟩
 ·rw [e] at hb;exact List.mem_cons_of_mem _ hb
 ·rw [e] at hb
  unfold frs at hb
  rw [List.filterMap_cons,hf] at hb
  exact hb
theorem Inv.stkFree (I:Inv X pins σ H s):∀ b ∈ frs X.stack,H b=none:=fun b hb=>by
 rcases List.mem_cons.mp (I.stkSub b hb) with e | hb
 ·rw [e];exact I.free
 ·obtain ⟨_,o,ho,_⟩:=I.ok.funs.mem hb
  exact I.base.free b o ho (I.ok.frf b hb) fun z=>I.ok.exfs b z hb
theorem Inv.step {g':Array GenState} {t':Nat} {d':Drawn} {ch:List Addr} (I:Inv X pins σ H s)
  (hch:∀ b ∈ ch,(b ∈ X.ex∨X.s₀.heap.objs.size≤b)∧b ≠ X.env.locals∧(∀ x c,X.env.cells.lookup x=some c→c ≠ b)∧∀ p ∈ X.pn++pins,p.1 ≠ b)
  (keep:∀ b o,b ≠ X.env.locals→b ∉ X.fs→b ∉ ch→s.heap.get? b=some o→H b=none→h'.get? b=some o)
  (slot:∀ b o,b ≠ X.env.locals→b ∈ X.fs→b ∉ ch→s.heap.get? b=some o→H b=none→∃ sl,h'.get? b=some { o with slots:=sl }) (free:∀ b o,b ∉ ch→s.heap.get? b=some o→H b=none→H' b=none)
  (there:∀ b o,b ∉ ch→s.heap.get? b=some o→∃ o',h'.get? b=some o')
  (tups:∀ b xs,H b=some (.tup xs)→H' b=some (.tup xs)) (frzs:∀ b o u,H b=some (.frz o u)→H' b=some (.frz o u)) (tbls:∀ b ps,H b=some (.tbl ps)→H' b=some (.tbl ps))
  (ns:∀ m,s.heap.Ns X.env.locals m→h'.Ns X.env.locals m) (hok:HOk X.prog X.w H' h') (hg:AllBare g') :
  Inv X pins σ H' { s with heap:=h',gens:=g',drawn:=d',toks:=t' }:=by
 have neL:∀ b o,X.s₀.heap.get? b=some o→b ≠ X.env.locals:=fun b o e=>Nat.ne_of_lt (Nat.lt_of_lt_of_le (Heap.lt_size e) I.ok.above)
 have neC:∀ b o,X.s₀.heap.get? b=some o→b ∉ X.ex→b ∉ ch:=fun b o e hx hb=>by
  rcases (hch b hb).1 with z | z
  ·exact hx z
  ·exact absurd (Nat.lt_of_lt_of_le (Heap.lt_size e) z) (Nat.lt_irrefl _)
 have cellK:∀ x c,X.env.cells.lookup x=some c→∀ v,s.heap.IsCell c v→h'.IsCell c v:=fun x c e v ⟨o,ho,hd⟩=>by
  have nch:c ∉ ch:=fun z=>(hch c z).2.2.1 x c e rfl
  by_cases hc:c ∈ X.fs
  ·obtain ⟨sl,q⟩:=slot c o (I.cne x c e) hc nch ho (I.freeC x c e)
   exact ⟨_,q,hd⟩
  ·exact ⟨o,keep c o (I.cne x c e) hc nch ho (I.freeC x c e),hd⟩
 refine ⟨I.ok,I.os,hg,⟨fun b o e n hb hx=>?_,fun b o e n hb hx=>?_,fun b o e n hx=>?_,fun b o e hx=>?_,fun b xs e=>tups b xs (I.base.tups b xs e),fun b o xs e=>frzs b o xs (I.base.frzs b o xs e),fun b ps e=>?_⟩,?_,fun x c e=>?_,?_,fun x c e=>?_,fun p hp=>?_,hok,I.len⟩
 ·exact keep b o (neL b o e) hb (neC b o e hx) (I.base.keep b o e n hb hx) (I.base.free b o e n hx)
 ·obtain ⟨sl,e1⟩:=I.base.slot b o e n hb hx
  obtain ⟨sl',e2⟩:=slot b _ (neL b o e) hb (neC b o e hx) e1 (I.base.free b o e n hx)
  exact ⟨sl',e2⟩
 ·obtain ⟨o',e1⟩:=I.base.there b o e hx
  exact free b o' (neC b o e hx) e1 (I.base.free b o e n hx)
 ·obtain ⟨o',e1⟩:=I.base.there b o e hx
  exact there b o' (neC b o e hx) e1
 ·exact tbls b ps (I.base.tbls b ps e)
 ·obtain ⟨m,hn,hl⟩:=I.loc
  refine ⟨m,ns m hn,fun i x v e1 e2 e3=>?_⟩
  obtain ⟨u,r,l⟩:=hl i x v e1 e2 e3
  refine ⟨u,r,?_⟩
  rcases l with l | ⟨k,c,e,z⟩
  ·exact .inl l
  ·exact .inr ⟨k,c,e,cellK x c e _ z⟩
 ·obtain ⟨v,z⟩:=I.cell x c e
  exact ⟨v,cellK x c e v z⟩
 ·obtain ⟨m,⟨o,_,_,ho,_⟩,_⟩:=I.loc
  exact free _ o (fun z=>(hch _ z).2.1 rfl) ho I.free
 ·obtain ⟨v,o,ho,hd⟩:=I.cell x c e
  exact free c o (fun z=>(hch c z).2.2.1 x c e rfl) ho (I.freeC x c e)
 ·obtain ⟨e,n,ne,nf,d⟩:=I.pin p hp
  have nch:p.1 ∉ ch:=fun z=>(hch p.1 z).2.2.2 p hp rfl
  exact ⟨keep p.1 p.2 ne nf nch e n,free p.1 p.2 nch e n,ne,nf,d⟩
theorem Inv.un {t':Nat} (I:Inv X pins σ H s) (u:Un X.fs [] H H' s.heap h') (hok:HOk X.prog X.w H' h'):Inv X pins σ H' { s with heap:=h',toks:=t' }:=by
 obtain ⟨m,⟨o,es,ep,ho,r⟩,_⟩:=id I.loc
 obtain ⟨sl,hL⟩:=u.any ho I.free (by simp)
 exact I.step (g':=s.gens) (d':=s.drawn) (ch:=[]) (fun _ z=>nomatch z) (fun b o _ hb _ e n=>u.keep b o e n hb (by simp)) (fun b o _ hb _ e n=>u.slot b o e n hb (by simp)) (fun b o _ e n=>u.free b o e n (by simp)) (fun b o _ e=>u.there b o e (by simp)) u.tups u.frzs u.tbls (fun m' hm=>by
  obtain ⟨o',es',ep',ho',r'⟩:=hm
  rw [ho] at ho';cases ho'
  exact ⟨_,es',ep',hL,r'⟩) hok I.bare
theorem Inv.call {g':Array GenState} {t':Nat} {d':Drawn} {ch:List Addr} (I:Inv X pins σ H s) (u:Un (frs X.stack) ch H H' s.heap h') (hok:HOk X.prog X.w H' h') (hg:AllBare g')
  (hch:∀ b ∈ ch,(b ∈ X.ex∨X.s₀.heap.objs.size≤b)∧b ≠ X.env.locals∧(∀ x c,X.env.cells.lookup x=some c→c ≠ b)∧∀ p ∈ X.pn++pins,p.1 ≠ b) :
  Inv X pins σ H' { s with heap:=h',gens:=g',drawn:=d',toks:=t' }:=by
 obtain ⟨m,⟨o,es,ep,ho,r⟩,_⟩:=id I.loc
 obtain ⟨sl,hL⟩:=u.any ho I.free fun z=>(hch _ z).2.1 rfl
 exact I.step (ch:=ch) hch (fun b o hL hb hc e n=>u.keep b o e n (fun z=>(List.mem_cons.mp (I.stkSub b z)).elim hL hb) hc) (fun b o _ _ hc e n=>u.any e n hc) (fun b o hc e n=>u.free b o e n hc) (fun b o hc e=>u.there b o e hc) u.tups u.frzs u.tbls (fun m' hm=>by
  obtain ⟨o',es',ep',ho',r'⟩:=hm
  rw [ho] at ho';cases ho'
  exact ⟨_,es',ep',hL,r'⟩) hok hg
theorem Inv.turned {t':Nat} {it:Addr} (I:Inv X pins σ H s) (k:∀ b o,b ≠ it→s.heap.get? b=some o→h'.get? b=some o) (hn:H it=none) (hL:it ≠ X.env.locals)
  (h1:it ∈ X.ex∨X.s₀.heap.objs.size≤it) (h2:∀ x c,X.env.cells.lookup x=some c→c ≠ it) (h3:∀ p ∈ X.pn++pins,p.1 ≠ it):Inv X pins σ H { s with heap:=h',toks:=t' }:=by
 have nit:∀ b u,H b=some u→b ≠ it:=fun b u e z=>by rw [z,hn] at e;cases e
 refine I.step (g':=s.gens) (d':=s.drawn) (ch:=[it]) (fun b hb=>?_) (fun b o _ _ hc e _=>k b o (fun z=>hc (by simp [z])) e) (fun b o _ _ hc e _=>⟨o.slots,k b o (fun z=>hc (by simp [z])) e⟩) (fun _ _ _ _ n=>n)
  (fun b o hc e=>⟨o,k b o (fun z=>hc (by simp [z])) e⟩) (fun _ _ e=>e) (fun _ _ _ e=>e) (fun _ _ e=>e) (fun m hm=>?_) (fun b u e=>?_) I.bare
 ·have e:b=it:=by simpa using hb
  subst e
  exact ⟨h1,hL,h2,h3⟩
 ·obtain ⟨o,es,ep,ho,r⟩:=hm
  exact ⟨o,es,ep,k _ o (Ne.symm hL) ho,r⟩
 ·refine (I.hok b u e).stay (fun c v hc q=>k c v ?_ q) (fun _ q=>q) fun _ _ q=>q
  rcases hc with z | z
  ·rw [z];exact nit b u e
  ·exact nit c _ z
theorem Inv.tok (I:Inv X pins σ H s) (t:Nat):Inv X pins σ H { s with toks:=t }:=I.un (h':=s.heap) (t':=t) Un.refl I.hok
theorem Inv.kept {t':Nat} (I:Inv X pins σ H s) (k:∀ b u,s.heap.get? b=some u→h'.get? b=some u):Inv X pins σ H { s with heap:=h',toks:=t' }:=I.un (Un.kept k) (I.hok.kept k)
theorem Inv.laid {a:Addr} {o:HO} {t':Nat} (I:Inv X pins σ H s) (k:∀ b u,s.heap.get? b=some u→h'.get? b=some u) (hp:s.heap.objs.size≤a) (new:ObjOk X.prog X.w (upd H a o) h' a o) :
  Inv X pins σ (upd H a o) { s with heap:=h',toks:=t' }:=I.un (Un.laid k hp (I.hok.fresh hp)) (I.hok.laid k hp new)
theorem Inv.write {x e:Addr} {o:HO} {t':Nat} (I:Inv X pins σ H s) (mu:Mut (H x)) (he:e=x∨H e=some (.own x)) (k:∀ b u,b ≠ e→s.heap.get? b=some u→h'.get? b=some u) (heo:∃ u,h'.get? e=some u)
  (new:ObjOk X.prog X.w (upd H x o) h' x o):Inv X pins σ (upd H x o) { s with heap:=h',toks:=t' }:=I.un (Un.write mu he k heo) (I.hok.write mu he k heo new)
theorem Inv.pins_of {pins':List (Addr × Obj)} (I:Inv X pins σ H s) (h:∀ p ∈ pins',s.heap.get? p.1=some p.2∧H p.1=none∧p.1 ≠ X.env.locals∧p.1 ∉ X.fs∧∀ v,p.2.data ≠ .cell v):Inv X pins' σ H s:=
 ⟨I.ok,I.os,I.bare,I.base,I.loc,I.cell,I.free,I.freeC,fun p hp=>(List.mem_append.mp hp).elim (fun z=>I.pin p (List.mem_append_left _ z)) (h p),I.hok,I.len⟩
theorem nodup_ix {N:List Str} (hN:N.Nodup) {i j:Nat} {x:Str} (a:N[i]?=some x) (b:N[j]?=some x):i=j:=by
 obtain ⟨h1,e1⟩:=List.getElem?_eq_some_iff.mp a
 obtain ⟨h2,e2⟩:=List.getElem?_eq_some_iff.mp b
 exact (List.getElem_inj hN).mp (e1.trans e2.symm)
theorem store_ok2 {M:Model} {A:Around} {E:Value→Shared→Prop} {i:Nat} {x:Str} {v:V} {u:Value} {Q:Unit→Shared→Prop} (I:Inv X pins σ H s) (hN:X.N.Nodup) (hi:X.N[i]?=some x) (hx:Loc X.env.scope x) (r:RelV v u)
  (h:∀ s',Inv X pins (σ.set i (some v)) H s'→(∃ a,Heap.SameBut a s.heap s'.heap∧(a=X.env.locals∨X.env.cells.lookup x=some a))→Q () s') (hf:X.fn x=true∨X.env.scope.names.lookup x=some .local:=by first | exact .inl rfl | exact .inr rfl | assumption):wpAny M A (storeName X.env x u) Q E s:=by
 obtain ⟨m,hn,hl⟩:=id I.loc
 have hcls:(X.env.scope.kind == .class || (X.env.scope.kind == .module && X.env.locals != X.env.globals))=false:=by rw [I.ok.kind];rfl
 have hiσ:i<σ.length:=by rw [I.len];exact (List.getElem?_eq_some_iff.mp hi).1
 have cne:=I.cne
 have tracked:∀ {a:Addr} {h':Heap},(∃ o,s.heap.get? a=some o∧H a=none)→Heap.SameBut a s.heap h'→HOk X.prog X.w H h':=fun {a h'} ha hs b ob e=>by
  obtain ⟨_,_,hfree⟩:=ha
  refine (I.hok b ob e).stay (fun c w' hc q=>(hs.2 c ?_).trans q) (fun _ q=>q) fun _ _ q=>q
  rintro rfl
  rcases hc with rfl | hc
  ·rw [hfree] at e;cases e
  ·rw [hfree] at hc;cases hc
 rcases hx with hk | hk
 ·refine wpAny_storeName_local hk hn (fun h' hn' hs=>?_) hcls
  obtain ⟨oL,_,_,hoL,_⟩:=id hn
  refine h _ ⟨I.ok,I.os,I.bare,⟨fun b o e n hb hx=>?_,fun b o e n hb hx=>?_,I.base.free,fun b o e hx=>?_,I.base.tups,I.base.frzs,I.base.tbls⟩,⟨_,hn',fun j y v' e1 e2 e3=>?_⟩,fun y c e=>?_,I.free,I.freeC,fun p hp=>?_,tracked ⟨oL,hoL,I.free⟩ hs,by simpa using I.len⟩ ⟨_,hs,.inl rfl⟩
  ·exact (hs.2 b (Nat.ne_of_lt (Nat.lt_of_lt_of_le (Heap.lt_size e) I.ok.above))).trans (I.base.keep b o e n hb hx)
  ·obtain ⟨sl,e1⟩:=I.base.slot b o e n hb hx
   exact ⟨sl,(hs.2 b (Nat.ne_of_lt (Nat.lt_of_lt_of_le (Heap.lt_size e) I.ok.above))).trans e1⟩
  ·obtain ⟨o',e1⟩:=I.base.there b o e hx
   exact ⟨o',(hs.2 b (Nat.ne_of_lt (Nat.lt_of_lt_of_le (Heap.lt_size e) I.ok.above))).trans e1⟩
  ·by_cases hj:j=i
   ·subst hj
    rw [hi] at e1;cases e1
    rw [List.getElem?_set_self hiσ] at e2
    cases e2
    exact ⟨u,r,.inl ⟨hk,by simp⟩⟩
   ·rw [List.getElem?_set_ne (Ne.symm hj)] at e2
    obtain ⟨u',r',q⟩:=hl j y v' e1 e2 e3
    refine ⟨u',r',?_⟩
    rcases q with ⟨k,e⟩ | ⟨k,c,e,z⟩
    ·refine .inl ⟨k,?_⟩
     have:y ≠ x:=fun e=>hj (nodup_ix hN e1 (e ▸ hi))
     simp [this,e]
    ·exact .inr ⟨k,c,e,z.sameBut hs (cne y c e)⟩
  ·obtain ⟨w',z⟩:=I.cell y c e
   exact ⟨w',z.sameBut hs (cne y c e)⟩
  ·obtain ⟨e,n,ne,nf,d⟩:=I.pin p hp
   exact ⟨(hs.2 p.1 ne).trans e,n,ne,nf,d⟩
 ·have hfn:X.fn x=true:=by
   rcases hf with z | z
   ·exact z
   ·rw [z] at hk;cases hk
  obtain ⟨c,hc⟩:=I.ok.has x (.inl hk)
  obtain ⟨w',z⟩:=I.cell x c hc
  refine wpAny_storeName_cell I.ok.kind hk hc z (fun h' hc' hs=>?_)
  obtain ⟨oc,hoc,hocd⟩:=id z
  refine h { s with heap:=h' } ⟨I.ok,I.os,I.bare,⟨fun b o e n hb hx=>?_,fun b o e n hb hx=>?_,I.base.free,fun b o e hx=>?_,I.base.tups,I.base.frzs,I.base.tbls⟩,⟨m,hn.sameBut hs (Ne.symm (cne x c hc)),fun j y v' e1 e2 e3=>?_⟩,fun y c' e=>?_,I.free,I.freeC,fun p hp=>?_,tracked ⟨oc,hoc,I.freeC x c hc⟩ hs,by simpa using I.len⟩ ⟨c,hs,.inr hc⟩
  ·exact (hs.2 b (Nat.ne_of_lt (Nat.lt_of_lt_of_le (Heap.lt_size e) (I.ok.cab x c hfn hc)))).trans (I.base.keep b o e n hb hx)
  ·obtain ⟨sl,e1⟩:=I.base.slot b o e n hb hx
   exact ⟨sl,(hs.2 b (Nat.ne_of_lt (Nat.lt_of_lt_of_le (Heap.lt_size e) (I.ok.cab x c hfn hc)))).trans e1⟩
  ·obtain ⟨o',e1⟩:=I.base.there b o e hx
   exact ⟨o',(hs.2 b (Nat.ne_of_lt (Nat.lt_of_lt_of_le (Heap.lt_size e) (I.ok.cab x c hfn hc)))).trans e1⟩
  ·by_cases hj:j=i
   ·subst hj
    rw [hi] at e1;cases e1
    rw [List.getElem?_set_self hiσ] at e2
    cases e2
    exact ⟨u,r,.inr ⟨.inl hk,c,hc,hc'⟩⟩
   ·rw [List.getElem?_set_ne (Ne.symm hj)] at e2
    obtain ⟨u',r',q⟩:=hl j y v' e1 e2 e3
    refine ⟨u',r',?_⟩
    rcases q with q | ⟨k,c',e,z'⟩
    ·exact .inl q
    ·refine .inr ⟨k,c',e,z'.sameBut hs ?_⟩
     rintro rfl
     exact hj (nodup_ix hN e1 (I.ok.inj _ _ _ e hc ▸ hi))
  ·by_cases hcc:c'=c
   ·subst hcc;exact ⟨_,hc'⟩
   ·obtain ⟨w2,z2⟩:=I.cell y c' e
    exact ⟨w2,z2.sameBut hs hcc⟩
  ·obtain ⟨e,n,ne,nf,d⟩:=I.pin p hp
   refine ⟨(hs.2 p.1 ?_).trans e,n,ne,nf,d⟩
   intro q
   rw [q,hoc] at e
   have q':oc=p.2:=Option.some.inj e
   exact d w' (by rw [← q'];exact hocd)
theorem store_ok {M:Model} {A:Around} {E:Value→Shared→Prop} {i:Nat} {x:Str} {v:V} {u:Value} {Q:Unit→Shared→Prop} (I:Inv X pins σ H s) (hN:X.N.Nodup) (hi:X.N[i]?=some x) (hx:Loc X.env.scope x) (r:RelV v u)
  (h:∀ s',Inv X pins (σ.set i (some v)) H s'→Q () s') (hf:X.fn x=true∨X.env.scope.names.lookup x=some .local:=by first | exact .inl rfl | exact .inr rfl | assumption):wpAny M A (storeName X.env x u) Q E s:=
 store_ok2 I hN hi hx r (fun s' I' _=>h s' I') hf
theorem Inv.call' {s':Shared} {ch:List Addr} (I:Inv X pins σ H s) (ho:s'.os=s.os) (u:Un (frs X.stack) ch H H' s.heap s'.heap) (hok:HOk X.prog X.w H' s'.heap) (hg:AllBare s'.gens)
  (hch:∀ b ∈ ch,(b ∈ X.ex∨X.s₀.heap.objs.size≤b)∧b ≠ X.env.locals∧(∀ x c,X.env.cells.lookup x=some c→c ≠ b)∧∀ p ∈ X.pn++pins,p.1 ≠ b):Inv X pins σ H' s':=by
 obtain ⟨h',g',d',t',o'⟩:=s'
 have e:o'=s.os:=ho
 subst e
 exact I.call (g':=g') (t':=t') (d':=d') u hok hg hch
end
abbrev XK:=Value→Option Addr→Hp→Prop
abbrev St:=List (Option V)
abbrev VK:=V→Hp→Prop
abbrev TE:=St→Hp→VK→Prop
abbrev TT:=St→Hp→(Bool→Hp→Prop)→Prop
abbrev TA:=St→Hp→(List V→Hp→Prop)→Prop
structure Ends where
 nx:St→Hp→Prop
 rt:VK
 bk:St→Hp→Prop:=fun _ _=>False
 ct:St→Hp→Prop:=fun _ _=>False
abbrev TS:=Ends→St→Hp→Prop
def EP (X:Cx) (pins:List (Addr × Obj)) (σ:St) (Q:VK) (u:Value) (s':Shared):Prop:=∃ v H',Inv X pins σ H' s'∧RelV v u∧Q v H'
def TP (X:Cx) (pins:List (Addr × Obj)) (σ:St) (Q:Bool→Hp→Prop) (b:Bool) (s':Shared):Prop:=∃ H',Inv X pins σ H' s'∧Q b H'
def AP (X:Cx) (pins:List (Addr × Obj)) (σ:St) (Q:List V→Hp→Prop) (us:List Value) (s':Shared):Prop:=∃ vs H',Inv X pins σ H' s'∧Vals vs us∧Q vs H'
def SP (X:Cx) (pins:List (Addr × Obj)) (D:Ends) (f:Flow) (s':Shared):Prop:=
 match f with
 | .next=>∃ σ' H',Inv X pins σ' H' s'∧D.nx σ' H'
 | .brk=>∃ σ' H',Inv X pins σ' H' s'∧D.bk σ' H'
 | .cont=>∃ σ' H',Inv X pins σ' H' s'∧D.ct σ' H'
 | .ret u=>∃ v σ' H',Inv X pins σ' H' s'∧RelV v u∧D.rt v H'
def PE (X:Cx) (e:Expr) (t:TE):Prop:=
 ∀ (pins:List (Addr × Obj)) (s:Shared) (σ:St) (H:Hp) (Q:VK),Inv X pins σ H s→t σ H Q→wpAny (model X.prog X.w) X.A (eval e X.env) (EP X pins σ Q) X.xe s
def PT (X:Cx) (e:Expr) (t:TT):Prop:=
 ∀ (pins:List (Addr × Obj)) (s:Shared) (σ:St) (H:Hp) (Q:Bool→Hp→Prop),Inv X pins σ H s→t σ H Q→wpAny (model X.prog X.w) X.A (isTrue e X.env (eval e X.env)) (TP X pins σ Q) X.xe s
def PW (X:Cx) (e:Expr) (t:TT):Prop:=
 ∀ (whole:Sem Value) (pins:List (Addr × Obj)) (s:Shared) (σ:St) (H:Hp) (Q:Bool→Hp→Prop),Inv X pins σ H s→t σ H Q→wpAny (model X.prog X.w) X.A (isTrue e X.env whole) (TP X pins σ Q) X.xe s
theorem PW.pt {X:Cx} {e:Expr} {t:TT} (h:PW X e t):PT X e t:=h _
def PA (X:Cx) (es:List Expr) (t:TA):Prop:=
 ∀ (pos:Pos) (pins:List (Addr × Obj)) (s:Shared) (σ:St) (H:Hp) (Q:List V→Hp→Prop),Inv X pins σ H s→t σ H Q→wpAny (model X.prog X.w) X.A (spliced (backTo pos (starEach es X.env))) (AP X pins σ Q) X.xe s
def PS (X:Cx) (st:Stmt) (t:TS):Prop:=
 ∀ (pins:List (Addr × Obj)) (s:Shared) (σ:St) (H:Hp) (D:Ends),Inv X pins σ H s→t D σ H→wpAny (model X.prog X.w) X.A (exec st X.env) (SP X pins D) X.xe s
def PSs (X:Cx) (st:List Stmt) (t:TS):Prop:=
 ∀ (pins:List (Addr × Obj)) (s:Shared) (σ:St) (H:Hp) (D:Ends),Inv X pins σ H s→t D σ H→wpAny (model X.prog X.w) X.A (execs st X.env) (SP X pins D) X.xe s
theorem thn {α:Type} {t:Sem α} {Q Q':α→Shared→Prop} {M:Model} {A:Around} {E:Value→Shared→Prop} {s:Shared} (h:wpAny M A t Q E s) (hQ:∀ a s,Q a s→Q' a s):wpAny M A t Q' E s:=wpAny_mono h hQ fun _ _ x=>x
end L2
namespace L2
open PySem PySem.Spec PyProof.Rows
section
variable {X:Cx}
theorem bin {a b:Expr} {ta tb:TE} (ha:PE X a ta) (hb:PE X b tb) {pins:List (Addr × Obj)} {s:Shared} {σ:St} {H:Hp} {R:V→V→Hp→Prop} (I:Inv X pins σ H s) (h:ta σ H fun x H1=>tb σ H1 fun y H2=>R x y H2)
  {α:Type} {Q:α→Shared→Prop} {f:Value→Value→Sem α}
  (hf:∀ v u s2 x y H2,Inv X pins σ H2 s2→RelV x v→RelV y u→R x y H2→wpAny (model X.prog X.w) X.A (f v u) Q X.xe s2) :
  wpAny (model X.prog X.w) X.A (eval a X.env) (fun v s₁=>wpAny (model X.prog X.w) X.A (eval b X.env) (fun u s₂=>wpAny (model X.prog X.w) X.A (f v u) Q X.xe s₂) X.xe s₁) X.xe s:=by
 refine thn (ha pins s σ H _ I h) fun v s1 ⟨x,H1,I1,r1,q1⟩=>?_
 refine thn (hb pins s1 σ H1 _ I1 q1) fun u s2 ⟨y,H2,I2,r2,q2⟩=>?_
 exact hf v u s2 x y H2 I2 r1 r2 q2
def tVar (i:Nat):TE:=fun σ H Q=>∃ v,σ[i]?=some (some v)∧Q v H
def tC (v:V):TE:=fun _ H Q=>Q v H
theorem pe_var {i:Nat} {x:Str} {pos:Pos} (hN:X.N[i]?=some x) (hv:Vis X.env.scope x) (hd:(x == ("__debug__" : Str))=false:=by decide) (hcd:(x == ("__classdict__" : Str))=false:=by decide):PE X (.Name x pos) (tVar i):=by
 intro pins s σ H Q I h
 obtain ⟨v,e,h⟩:=h
 obtain ⟨m,hn,hl⟩:=I.loc
 obtain ⟨u,r,l⟩:=hl i x v hN e hv
 have fin:EP X pins σ Q u s:=⟨v,H,I,r,h⟩
 rcases l with ⟨hk,hm⟩ | ⟨hk,c,hc,hcell⟩
 ·exact wpAny_Name (wpAny_loadName_local I.ok.kind hk hn hm fin) hd
 ·rcases hk with hk | hk
  ·exact wpAny_Name (wpAny_loadName_cell I.ok.kind hk hc hcell fin) hd
  ·exact wpAny_Name (wpAny_loadName_free I.ok.kind hk hc hcell fin hcd) hd
theorem qA6 {i j pos}:PE X (.Constant (.int i) j pos) (tC (.int i)):=fun _ _ _ H _ I h=>wpAny_Constant_int ⟨.int i,H,I.tok _,⟨_,rfl⟩,h⟩
theorem pe_bl {b j pos}:PE X (.Constant (.bool b) j pos) (tC (.bl b)):=fun _ _ _ H _ I h=>Constant_bool ⟨.bl b,H,I,rfl,h⟩
theorem qC7 {j pos}:PE X (.Constant .none j pos) (tC .non):=fun _ _ _ H _ I h=>Constant_none ⟨.non,H,I,rfl,h⟩
theorem qAE {x j pos}:PE X (.Constant (.str x) j pos) (tC (.str x)):=fun _ _ _ H _ I h=>Calls.Constant_str ⟨.str x,H,I.tok _,⟨_,rfl⟩,h⟩
def Gl (X:Cx) (x:Str):Prop:=X.env.kindOf x=some .globalImplicit
theorem ld_glob {E:Value→Shared→Prop} {pins:List (Addr × Obj)} {s:Shared} {σ:St} {H:Hp} {x:Str} {u:Value} {pos:Pos} {Q:Value→Shared→Prop} (I:Inv X pins σ H s) (hg:Gl X x) (hm:X.mg x=some u) (h:Q u s)
  (hd:(x == ("__debug__" : Str))=false:=by decide):wpAny (model X.prog X.w) X.A (eval (.Name x pos) X.env) Q E s:=
 Calls.Name_function_global I.ok.kind hg (Calls.loadGlobal_global (by rw [I.ok.glob];exact I.mod.glob.keeps I.bk) hm h) hd
theorem ld_blt {E:Value→Shared→Prop} {pins:List (Addr × Obj)} {s:Shared} {σ:St} {H:Hp} {x:Str} {u:Value} {pos:Pos} {Q:Value→Shared→Prop} (I:Inv X pins σ H s) (hg:Gl X x) (hm:X.mg x=none) (hv:bootBuiltins x=some u) (h:Q u s)
  (hn:x ≠ "__name__":=by decide) (hd:(x == ("__debug__" : Str))=false:=by decide):wpAny (model X.prog X.w) X.A (eval (.Name x pos) X.env) Q E s:=by
 obtain ⟨mb,h1,h2⟩:=I.mod.blt
 exact Calls.Name_function_global I.ok.kind hg (Calls.loadGlobal_builtin (by rw [I.ok.glob];exact I.mod.glob.keeps I.bk) hm (by rw [I.ok.blt];exact h1.keeps I.bk) ((h2 x hn).trans hv) h) hd
theorem qBD {x:Str} {v:V} {u:Value} {pos:Pos} (hg:Gl X x) (hm:X.mg x=some u) (r:RelV v u) (hd:(x == ("__debug__" : Str))=false:=by decide):PE X (.Name x pos) (tC v):=
 fun _ _ _ H _ I h=>ld_glob I hg hm ⟨v,H,I,r,h⟩ hd
theorem qD2 {x:Str} {v:V} {u:Value} {pos:Pos} (hg:Gl X x) (hm:X.mg x=none) (hv:bootBuiltins x=some u) (r:RelV v u) (hn:x ≠ "__name__":=by decide) (hd:(x == ("__debug__" : Str))=false:=by decide):PE X (.Name x pos) (tC v):=
 fun _ _ _ H _ I h=>ld_blt I hg hm hv ⟨v,H,I,r,h⟩ hn hd
variable {a b:Expr} {ta tb:TE} {pos:Pos}
def PC (X:Cx) (op:CmpOp) (a b:Expr) (t:TE):Prop:=
 ∀ (pins:List (Addr × Obj)) (s:Shared) (σ:St) (H:Hp) (Q:VK),Inv X pins σ H s→t σ H Q→
  wpAny (model X.prog X.w) X.A (eval a X.env) (fun v s₁=>wpAny (model X.prog X.w) X.A (eval b X.env) (fun u s₂=>wpAny (model X.prog X.w) X.A (compareOp op v u) (EP X pins σ Q) X.xe s₂) X.xe s₁) X.xe s
theorem nobehind (b:Expr) {op:CmpOp} (h:op ≠ .In) (h2:op ≠ .NotIn):behindInMarks op b=false:=by
 have e1:(op == CmpOp.In)=false:=by cases op <;> first | rfl | exact absurd rfl h
 have e2:(op == CmpOp.NotIn)=false:=by cases op <;> first | rfl | exact absurd rfl h2
 cases b <;> simp [behindInMarks,e1,e2]
def tIsN (ta:TE):TE:=fun σ H Q=>ta σ H fun x H1=>Q (.bl (decide (x=.non))) H1
def tNotN (ta:TE):TE:=fun σ H Q=>ta σ H fun x H1=>Q (.bl (!decide (x=.non))) H1
theorem RelV.none_iff {x:V} {v:Value} (r:RelV x v):(v == Value.none)=decide (x=.non):=by
 cases x with
 | non=>cases r;rfl
 | bl _=>cases r;rfl
 | int _=>obtain ⟨t,rfl⟩:=r;rfl
 | str _=>obtain ⟨t,rfl⟩:=r;rfl
 | byt _=>obtain ⟨t,rfl⟩:=r;rfl
 | flt _=>obtain ⟨t,rfl⟩:=r;rfl
 | ref _=>cases r;rfl
 | ty _=>cases r;rfl
theorem qCY {j pos'} (ha:PE X a ta):PC X .Is a (.Constant .none j pos') (tIsN ta):=by
 intro pins s σ H Q I h
 refine thn (ha pins s σ H _ I h) fun v s1 ⟨x,H1,I1,r1,q1⟩=>?_
 exact Constant_none (is_none_gen ⟨.bl _,H1,I1,by rw [r1.none_iff];rfl,q1⟩)
theorem pc_notN {j pos'} (ha:PE X a ta):PC X .IsNot a (.Constant .none j pos') (tNotN ta):=by
 intro pins s σ H Q I h
 refine thn (ha pins s σ H _ I h) fun v s1 ⟨x,H1,I1,r1,q1⟩=>?_
 exact Constant_none (isnot_none_gen ⟨.bl _,H1,I1,by rw [r1.none_iff];rfl,q1⟩)
def tB (t:TE):TT:=fun σ H Q=>t σ H fun x H1=>∃ c,x=.bl c∧Q c H1
theorem pe_cmp {op:CmpOp} {t:TE} (h:PC X op a b t) (h1:behindInMarks op b=false:=by first | exact nobehind _ (by decide) (by decide) | rfl):PE X (.Compare a [op] [b] pos) t:=fun pins s σ H Q I hw=>wpAny_Compare1 (h pins s σ H Q I hw) h1
theorem qCF {op:CmpOp} {t:TE} (h:PC X op a b t) (h1:behindInMarks op b=false:=by first | exact nobehind _ (by decide) (by decide) | rfl):PT X (.Compare a [op] [b] pos) (tB t):=by
 intro pins s σ H Q I hw
 refine wpAny_isTrue_Compare1 (thn (h pins s σ H _ I hw) fun v s1 h1=>thn h1 fun u s2 h2=>thn h2 fun c s3 ⟨x,H1,I1,r1,q1⟩=>?_) h1
 obtain ⟨d,rfl,q⟩:=q1
 cases r1
 exact wpAny_truthy_bool ⟨H1,I1,q⟩
theorem qBX {e:Expr} {t:TE} (h:PE X e t) (he:∀ whole,isTrue e X.env whole=(do let v ← whole;standAt e.pos;holding [v] (truthy v)):=by intro _;rfl):PT X e (tB t):=by
 intro pins s σ H Q I hw
 refine isTrue_plain (thn (h pins s σ H _ I hw) fun v s1 ⟨x,H1,I1,r1,q1⟩=>?_) (he _)
 obtain ⟨d,rfl,q⟩:=q1
 cases r1
 exact wpAny_truthy_bool ⟨H1,I1,q⟩
variable {tA tB':TT} {rest:List Expr}
def tAnd (t u:TT):TT:=fun σ H Q=>t σ H fun c H1=>if c=true then u σ H1 Q else Q false H1
def tOr (t u:TT):TT:=fun σ H Q=>t σ H fun c H1=>if c=true then Q true H1 else u σ H1 Q
def tNot (t:TT):TT:=fun σ H Q=>t σ H fun c H1=>Q (!c) H1
theorem pw_and1 (ha:PT X a tA):PW X (.BoolOp .And [a] pos) tA:=by
 intro wh pins s σ H Q I h
 refine isTrue_and (thn (ha pins s σ H Q I h) fun c s1 e=>?_)
 cases c with
 | true=>exact isTrue_and_nil e
 | false=>exact e
theorem qC5 (ha:PT X a tA):PW X (.BoolOp .Or [a] pos) tA:=by
 intro wh pins s σ H Q I h
 refine isTrue_or (thn (ha pins s σ H Q I h) fun c s1 e=>?_)
 cases c with
 | false=>exact isTrue_or_nil e
 | true=>exact e
theorem pw_and (ha:PT X a tA) (hb:PW X (.BoolOp .And (b::rest) pos) tB'):PW X (.BoolOp .And (a::b::rest) pos) (tAnd tA tB'):=by
 intro wh pins s σ H Q I h
 refine isTrue_and (thn (ha pins s σ H _ I h) fun c s1 ⟨H1,I1,q1⟩=>?_)
 cases c with
 | true=>exact hb wh pins s1 σ H1 Q I1 q1
 | false=>exact ⟨H1,I1,q1⟩
theorem pw_or (ha:PT X a tA) (hb:PW X (.BoolOp .Or (b::rest) pos) tB'):PW X (.BoolOp .Or (a::b::rest) pos) (tOr tA tB'):=by
 intro wh pins s σ H Q I h
 refine isTrue_or (thn (ha pins s σ H _ I h) fun c s1 ⟨H1,I1,q1⟩=>?_)
 cases c with
 | true=>exact ⟨H1,I1,q1⟩
 | false=>exact hb wh pins s1 σ H1 Q I1 q1
theorem qCE (ha:PT X a tA):PT X (.UnaryOp .Not a pos) (tNot tA):=by
 intro pins s σ H Q I h
 exact isTrue_not (ha pins s σ H (fun c H1=>Q (!c) H1) I h)
def tAndV (ta tb:TE):TE:=fun σ H Q=>ta σ H fun x H1=>∃ c,x=.bl c∧if c=true then tb σ H1 Q else Q (.bl false) H1
def tNotV (ta:TE):TE:=fun σ H Q=>ta σ H fun x H1=>∃ c,x=.bl c∧Q (.bl (!c)) H1
theorem qC6 {op} {t:TE} (h:PE X a t):PE X (.BoolOp op [a] pos) t:=fun pins s σ H Q I hw=>BoolOp_one (h pins s σ H Q I hw)
theorem qBM (ha:PE X a ta) (hb:PE X (.BoolOp .And (b::rest) pos) tb):PE X (.BoolOp .And (a::b::rest) pos) (tAndV ta tb):=by
 intro pins s σ H Q I h
 refine BoolOp_and (thn (ha pins s σ H _ I h) fun v s1 ⟨x,H1,I1,r1,q1⟩=>?_)
 obtain ⟨c,rfl,q1⟩:=q1
 cases r1
 refine wpAny_truthy_bool ?_
 cases c with
 | true=>exact hb pins s1 σ H1 Q I1 q1
 | false=>exact ⟨.bl false,H1,I1,rfl,q1⟩
theorem pe_not (ha:PE X a ta):PE X (.UnaryOp .Not a pos) (tNotV ta):=by
 intro pins s σ H Q I h
 refine UnaryOp_ (thn (ha pins s σ H _ I h) fun v s1 ⟨x,H1,I1,r1,q1⟩=>?_)
 obtain ⟨c,rfl,q1⟩:=q1
 cases r1
 exact not_of (wpAny_truthy_bool ⟨.bl (!c),H1,I1,rfl,q1⟩)
def tIf (t:TT) (ta tb:TE):TE:=fun σ H Q=>t σ H fun c H1=>if c=true then ta σ H1 Q else tb σ H1 Q
theorem qBY {c:Expr} (hc:PT X c tA) (ha:PE X a ta) (hb:PE X b tb):PE X (.IfExp c a b pos) (tIf tA ta tb):=by
 intro pins s σ H Q I h
 refine wpAny_IfExp (thn (hc pins s σ H _ I h) fun d s1 ⟨H1,I1,q1⟩=>?_)
 cases d with
 | true=>exact ha pins s1 σ H1 Q I1 q1
 | false=>exact hb pins s1 σ H1 Q I1 q1
end
end L2
namespace L2
open PySem PySem.Spec PyProof.Rows
def SqL (K:PySem.W.Frag) (H:Hp) (a:Addr) (xs:List V):Prop:=
 Rd H a (.lst xs)∨
  ∃ (o:Obj) (its:Array Value) (n:Nat),K.lookup a=some o∧o.cls=.type "list"∧o.dict=none∧o.data=.seq its n∧its.size≤sizeLine∧Vals xs its.toList
def SqT (K:PySem.W.Frag) (H:Hp) (a:Addr) (xs:List V):Prop:=
 Rd H a (.tup xs)∨
  ∃ (o:Obj) (its:Array Value) (n:Nat),K.lookup a=some o∧o.cls=.type "tuple"∧o.data=.seq its n∧its.size≤sizeLine∧Vals xs its.toList
noncomputable def absV:Value→Option V
 | .none=>some .non
 | .bool b=>some (.bl b)
 | .int i _=>some (.int i)
 | .str x _=>some (.str x)
 | .bytes b _=>some (.byt b)
 | .float b _=>some (.flt b)
 | .ref a=>some (.ref a)
 | .type n=>some (.ty n)
 | _=>none
theorem RelV.abs {x:V} {u:Value} (r:RelV x u):absV u=some x:=by
 cases x with
 | non=>cases r;rfl
 | bl _=>cases r;rfl
 | int _=>obtain ⟨t,rfl⟩:=r;rfl
 | str _=>obtain ⟨t,rfl⟩:=r;rfl
 | byt _=>obtain ⟨t,rfl⟩:=r;rfl
 | flt _=>obtain ⟨t,rfl⟩:=r;rfl
 | ref _=>cases r;rfl
 | ty _=>cases r;rfl
theorem RelV.inj {x y:V} {u:Value} (r:RelV x u) (q:RelV y u):x=y:=Option.some.inj (r.abs.symm.trans q.abs)
theorem Vals.inj:∀ {xs ys:List V} {us:List Value},Vals xs us→Vals ys us→xs=ys
 | _,_,_,.nil,.nil=>rfl
 | _,_,_,.cons r t,.cons r' t'=>by rw [r.inj r',Vals.inj t t']
section
variable {X:Cx} {pins:List (Addr × Obj)} {σ:St} {H:Hp} {s:Shared} {a:Addr} {xs ys:List V}
theorem SqL.of {K:PySem.W.Frag} (h:H a=some (.lst xs)):SqL K H a xs:=.inl (.inl h)
theorem SqT.of {K:PySem.W.Frag} (h:H a=some (.tup xs)):SqT K H a xs:=.inl (.inl h)
theorem Inv.list (I:Inv X pins σ H s) (h:SqL X.K H a xs):∃ its:List Value,Vals xs its∧PlainL s.heap a its.toArray∧xs.length≤sizeLine:=by
 rcases h with h | ⟨o,its,n,hk,hc,hd,hs,hz,r⟩
 ·obtain ⟨z,its,n,r,e⟩:=h.ok I.hok
  exact ⟨its,r,⟨_,n,e,rfl,rfl,rfl⟩,z⟩
 ·refine ⟨its.toList,r,⟨o,n,I.kIn a o hk,hc,hd,by simpa using hs⟩,?_⟩
  have e:=r.length
  simp only [Array.length_toList] at e
  lia
theorem Inv.tuple (I:Inv X pins σ H s) (h:SqT X.K H a xs):∃ its:List Value,Vals xs its∧IsTup s.heap a its.toArray∧xs.length≤sizeLine:=by
 rcases h with h | ⟨o,its,n,hk,hc,hs,hz,r⟩
 ·obtain ⟨z,its,r,p⟩:=h.ok I.hok
  exact ⟨its,r,p,z⟩
 ·refine ⟨its.toList,r,⟨o,I.kIn a o hk,hc,n,by simpa using hs⟩,?_⟩
  have e:=r.length
  simp only [Array.length_toList] at e
  lia
theorem Inv.list_inj (I:Inv X pins σ H s) (h:SqL X.K H a xs) (h':SqL X.K H a ys):xs=ys:=by
 obtain ⟨its,r,⟨o,n,e,_,_,d⟩,_⟩:=I.list h
 obtain ⟨its',r',⟨o',n',e',_,_,d'⟩,_⟩:=I.list h'
 rw [e] at e';cases e'
 rw [d] at d'
 injection d' with d1 _
 have:its=its':=by simpa using congrArg Array.toList d1
 subst this
 exact r.inj r'
theorem Inv.tuple_inj (I:Inv X pins σ H s) (h:SqT X.K H a xs) (h':SqT X.K H a ys):xs=ys:=by
 obtain ⟨its,r,⟨o,e,_,n,d⟩,_⟩:=I.tuple h
 obtain ⟨its',r',⟨o',e',_,n',d'⟩,_⟩:=I.tuple h'
 rw [e] at e';cases e'
 rw [d] at d'
 injection d' with d1 _
 have:its=its':=by simpa using congrArg Array.toList d1
 subst this
 exact r.inj r'
end
noncomputable abbrev Cx.wish (X:Cx) (E:Value→Shared→Prop):Cx:={ X with xe:=E }
noncomputable abbrev Cx.nox (X:Cx):Cx:=X.wish fun _ _=>False
theorem Cx.Ok.wish {X:Cx} (ok:X.Ok) (E:Value→Shared→Prop):(X.wish E).Ok:=
 ⟨ok.mod,ok.kind,ok.glob,ok.blt,ok.above,ok.inj,ok.has,ok.cab,ok.hd,ok.frames,ok.stk,ok.exf,ok.bs,ok.bsz,ok.noex,ok.exfs,ok.funs,ok.frf⟩
theorem Cx.Ok.unwish {X:Cx} {E:Value→Shared→Prop} (ok:(X.wish E).Ok):X.Ok:=
 ⟨ok.mod,ok.kind,ok.glob,ok.blt,ok.above,ok.inj,ok.has,ok.cab,ok.hd,ok.frames,ok.stk,ok.exf,ok.bs,ok.bsz,ok.noex,ok.exfs,ok.funs,ok.frf⟩
section
variable {X:Cx} {pins:List (Addr × Obj)} {σ:St} {H:Hp} {s:Shared} {E:Value→Shared→Prop}
theorem Inv.wish (I:Inv X pins σ H s) (E:Value→Shared→Prop):Inv (X.wish E) pins σ H s:=⟨I.ok.wish E,I.os,I.bare,I.base,I.loc,I.cell,I.free,I.freeC,I.pin,I.hok,I.len⟩
theorem Inv.unwish (I:Inv (X.wish E) pins σ H s):Inv X pins σ H s:=⟨I.ok.unwish,I.os,I.bare,I.base,I.loc,I.cell,I.free,I.freeC,I.pin,I.hok,I.len⟩
theorem SP.unwish {D:Ends} {f:Flow} {s':Shared} (h:SP (X.wish E) pins D f s'):SP X pins D f s':=by
 cases f with
 | next=>obtain ⟨σ',H',I,q⟩:=h;exact ⟨σ',H',I.unwish,q⟩
 | brk=>obtain ⟨σ',H',I,q⟩:=h;exact ⟨σ',H',I.unwish,q⟩
 | cont=>obtain ⟨σ',H',I,q⟩:=h;exact ⟨σ',H',I.unwish,q⟩
 | ret u=>obtain ⟨v,σ',H',I,r,q⟩:=h;exact ⟨v,σ',H',I.unwish,r,q⟩
theorem PSs.nox {st:List Stmt} {t:TS} (h:PSs X.nox st t):PSs X st t:=fun pins s σ H D I hw=>
 wpAny_mono (h pins s σ H D (I.wish _) hw) (fun _ _ q=>q.unwish) fun _ _ z=>False.elim z
end
section
variable {X:Cx} {st:Stmt} {rest:List Stmt} {t u:TS} {e:Expr} {te:TE} {pos:Pos}
def tNext:TS:=fun D σ H=>D.nx σ H
def tSeq (t u:TS):TS:=fun D σ H=>t { D with nx:=u D } σ H
theorem qAG:PSs X [] tNext:=fun _ _ σ H _ I h=>wpAny_execs_nil ⟨σ,H,I,h⟩
theorem qA5 (h1:PS X st t) (h2:PSs X rest u):PSs X (st::rest) (tSeq t u):=by
 intro pins s σ H D I h
 refine wpAny_execs_cons (thn (h1 pins s σ H { D with nx:=u D } I h) fun f s1 q=>?_)
 cases f with
 | next=>
  obtain ⟨σ',H',I',q⟩:=q
  exact h2 pins s1 σ' H' D I' q
 | ret v=>exact q
 | brk=>exact q
 | cont=>exact q
theorem qA8 (h1:PS X st t):PSs X [st] t:=by
 intro pins s σ H D I h
 refine wpAny_execs_cons (thn (h1 pins s σ H D I h) fun f s1 q=>?_)
 cases f with
 | next=>exact wpAny_execs_nil q
 | ret v=>exact q
 | brk=>exact q
 | cont=>exact q
def tCont:TS:=fun D σ H=>D.ct σ H
theorem ps_continue:PS X (.Continue pos) tCont:=fun _ _ σ H _ I h=>wpAny_Continue ⟨σ,H,I,h⟩
theorem Inv.quiet {pins:List (Addr × Obj)} {σ:St} {H:Hp} {s:Shared} (I:Inv X pins σ H s):interactive X.env=false:=by simp [interactive,I.ok.kind]
def tDrop (te:TE):TS:=fun D σ H=>te σ H fun _ H1=>D.nx σ H1
theorem qBG (he:PE X e te) (hs:swapsWith e none pos.line X.env=pure false:=by rfl):PS X (.Expr e pos) (tDrop te):=by
 intro pins s σ H D I h
 exact wpAny_Expr_any (thn (he pins s σ H _ I h) fun v s1 ⟨x,H1,I1,r1,q1⟩=>⟨σ,H1,I1,q1⟩) I.quiet hs
def tRet (te:TE):TS:=fun D σ H=>te σ H D.rt
theorem qAD (he:PE X e te):PS X (.Return (some e) pos) (tRet te):=by
 intro pins s σ H D I h
 exact wpAny_Return_some (thn (he pins s σ H _ I h) fun v s1 ⟨x,H1,I1,r1,q1⟩=>⟨x,σ,H1,I1,r1,q1⟩)
def tIfS (c:TT) (t u:TS):TS:=fun D σ H=>c σ H fun b H1=>if b=true then t D σ H1 else u D σ H1
theorem ps_if {c:Expr} {a b:List Stmt} {tc:TT} (hc:PT X c tc) (ha:PSs X a t) (hb:PSs X b u):PS X (.If c a b pos) (tIfS tc t u):=by
 intro pins s σ H D I h
 refine wpAny_If (thn (hc pins s σ H _ I h) fun d s1 ⟨H1,I1,q1⟩=>?_)
 cases d with
 | true=>exact ha pins s1 σ H1 D I1 q1
 | false=>exact hb pins s1 σ H1 D I1 q1
def tNever:TS:=fun _ _ _=>False
theorem pss_never {sts:List Stmt}:PSs X sts tNever:=fun _ _ _ _ _ _ h=>h.elim
end
abbrev TG:=V→St→Hp→(St→Hp→Prop)→Prop
abbrev TGs:=List V→St→Hp→(St→Hp→Prop)→Prop
def PG (X:Cx) (target:Expr) (t:TG):Prop:=
 ∀ (pins:List (Addr × Obj)) (s:Shared) (σ:St) (H:Hp) (v:V) (u:Value) (Q:St→Hp→Prop),Inv X pins σ H s→RelV v u→t v σ H Q→
  wpAny (model X.prog X.w) X.A (assign target X.env u) (fun _ s'=>∃ σ' H',Inv X pins σ' H' s'∧Q σ' H') X.xe s
def PGs (X:Cx) (ts:List Expr) (t:TGs):Prop:=
 ∀ (pins:List (Addr × Obj)) (s:Shared) (σ:St) (H:Hp) (vs:List V) (us:List Value) (Q:St→Hp→Prop),Inv X pins σ H s→Vals vs us→t vs σ H Q→
  wpAny (model X.prog X.w) X.A (assignInOrder ((assignEach ts X.env).map (·.2)) us) (fun _ s'=>∃ σ' H',Inv X pins σ' H' s'∧Q σ' H') X.xe s
abbrev TSet:=V→V→V→Hp→(Hp→Prop)→Prop
def PSet (X:Cx) (t:TSet):Prop:=
 ∀ (pins:List (Addr × Obj)) (s:Shared) (σ:St) (H:Hp) (o i v:V) (ov iv u:Value) (Q:Hp→Prop),Inv X pins σ H s→RelV o ov→RelV i iv→RelV v u→t o i v H Q→
  wpAny (model X.prog X.w) X.A (setItem ov iv u) (fun _ s'=>∃ H',Inv X pins σ H' s'∧Q H') X.xe s
section
variable {X:Cx} {pos:Pos}
def gName (i:Nat):TG:=fun v σ H Q=>Q (σ.set i (some v)) H
theorem qB7 {i:Nat} {x:Str} (hN:X.N.Nodup) (hi:X.N[i]?=some x) (hx:Loc X.env.scope x) (hf:X.fn x=true∨X.env.scope.names.lookup x=some .local:=by first | exact .inl rfl | exact .inr rfl | assumption):PG X (.Name x pos) (gName i):=by
 intro pins s σ H v u Q I r h
 exact wpAny_assign_Name (store_ok I hN hi hx r (fun s' I'=>⟨_,H,I',h⟩) hf)
def gNil:TGs:=fun vs σ H Q=>vs=[]∧Q σ H
def gCons (t:TG) (u:TGs):TGs:=fun vs σ H Q=>∃ v r,vs=v::r∧t v σ H fun σ' H'=>u r σ' H' Q
theorem pgs_nil:PGs X [] gNil:=by
 intro pins s σ H vs us Q I r h
 obtain ⟨e,h⟩:=h
 subst e
 cases r
 exact assignInOrder_nil ⟨σ,H,I,h⟩
theorem qBA {e:Expr} {es:List Expr} {t:TG} {u:TGs} (h1:PG X e t) (h2:PGs X es u)
  (hs:(assignEach (e::es) X.env).map (·.2)=assign e X.env::(assignEach es X.env).map (·.2):=by rfl):PGs X (e::es) (gCons t u):=by
 intro pins s σ H vs us Q I r h
 obtain ⟨v,vr,e1,h⟩:=h
 subst e1
 cases r with
 | cons r rr=>
  rw [hs]
  refine assignInOrder_cons (thn (h1 pins s σ H _ _ _ I r h) fun _ s1 ⟨σ1,H1,I1,q1⟩=>?_)
  exact h2 pins s1 σ1 H1 _ _ Q I1 rr q1
def gTup (K:PySem.W.Frag) (n:Nat) (t:TGs):TG:=fun v σ H Q=>∃ a xs,v=.ref a∧SqT K H a xs∧xs.length=n∧t xs σ H Q
theorem pg_tup {es:List Expr} {k:Nat} {t:TGs} {n:Nat} (hc:X.calm=true) (h:PGs X es t)
  (hn:(assignEach es X.env).length=n:=by rfl) (hst:(assignEach es X.env).findIdx? (·.1)=none:=by rfl):PG X (.Tuple es k pos) (gTup X.K n t):=by
 intro pins s σ H v u Q I r hw
 obtain ⟨a,xs,e1,hq,hl,hw⟩:=hw
 subst e1
 cases r
 obtain ⟨its,rv,ht,hz⟩:=I.tuple hq
 refine assign_Tuple_tuple (I.ok.hd hc) ht (by simp [hn,← hl,rv.length]) hst fun h' hx=>?_
 have I1:Inv X pins σ H { s with heap:=h' }:=I.kept (t':=s.toks) fun b o e=>hx b o (Nat.ne_of_lt (Heap.lt_size e)) e
 exact h pins _ σ H xs _ Q I1 (by simpa using rv) hw
def gSub (to ti:TE) (t:TSet):TG:=fun v σ H Q=>to σ H fun o H1=>ti σ H1 fun i H2=>t o i v H2 fun H3=>Q σ H3
theorem pg_sub {o i:Expr} {to ti:TE} {t:TSet} (ho:PE X o to) (hi:PE X i ti) (hs:PSet X t)
  (ha:∀ v,assign (.Subscript o i pos) X.env v=(do
   let ov ← holding [v] (eval o X.env)
   let iv ← holding [v,ov] (eval i X.env)
   standAt pos
   holding [v,ov,iv] (setItem ov iv v)
   release [v,ov,iv] []):=by intro _;rfl):PG X (.Subscript o i pos) (gSub to ti t):=by
 intro pins s σ H v u Q I r h
 rw [ha]
 refine wpAny_bind (wpAny_holding (thn (ho pins s σ H _ I h) fun ov s1 ⟨x,H1,I1,r1,q1⟩=>?_))
 refine wpAny_bind (wpAny_holding (thn (hi pins s1 σ H1 _ I1 q1) fun iv s2 ⟨y,H2,I2,r2,q2⟩=>?_))
 refine wpAny_bind (wpAny_standAt (wpAny_bind (wpAny_holding (thn (hs pins s2 σ H2 x y v ov iv u _ I2 r1 r2 r q2) fun _ s3 ⟨H3,I3,q3⟩=>?_))))
 exact wpAny_release ⟨σ,H3,I3,q3⟩
def tAsg (te:TE) (g:TG):TS:=fun D σ H=>te σ H fun x H1=>g x σ H1 D.nx
theorem ps_asg {tg e:Expr} {te:TE} {g:TG} (he:PE X e te) (hg:PG X tg g) (hs:swapsWithSole [tg] e pos.line X.env=pure false:=by rfl) (hw:swappedStores [tg] e X.env=pure none:=by rfl)
  (h1:(assignEach [tg] X.env).map (·.2)=[assign tg X.env]:=by rfl):PS X (.Assign [tg] e pos) (tAsg te g):=by
 intro pins s σ H D I h
 refine wpAny_Assign_stores (thn (he pins s σ H _ I h) fun v s1 ⟨x,H1,I1,r1,q1⟩=>?_) hs hw
 rw [h1]
 exact thn (hg pins s1 σ H1 x v _ I1 r1 q1) fun _ s2 q=>q
theorem qAF {i:Nat} {x:Str} {e:Expr} {te:TE} {pos':Pos} (hN:X.N.Nodup) (hi:X.N[i]?=some x) (hx:Loc X.env.scope x) (he:PE X e te) (hs:swapsWith e (some (.Name x pos')) pos.line X.env=pure false:=by rfl) (hf:X.fn x=true∨X.env.scope.names.lookup x=some .local:=by first | exact .inl rfl | exact .inr rfl | assumption) :
  PS X (.Assign [.Name x pos'] e pos) (tAsg te (gName i)):=by
 intro pins s σ H D I h
 refine wpAny_Assign_Name (thn (he pins s σ H _ I h) fun v s1 ⟨y,H1,I1,r1,q1⟩=>?_) hs
 exact store_ok I1 hN hi hx r1 (fun s2 I2=>⟨_,H1,I2,q1⟩) hf
end
section
variable {X:Cx} {pos:Pos}
def tWhile (c:TT) (tb:TS):TS:=fun D σ H=>∃ W:Nat→St→Hp→Prop,(∃ m,W m σ H)∧∀ m σ H,W m σ H→
 c σ H fun b H1=>if b=true then ∃ N:St→Hp→Prop,(∀ σ' H',N σ' H'→∃ m',m'<m∧W m' σ' H')∧tb { D with nx:=N,ct:=N,bk:=D.nx } σ H1 else D.nx σ H1
theorem ps_while {c:Expr} {body:List Stmt} {tc:TT} {tb:TS} (hp:PassesOwn (model X.prog X.w) X.A X.env X.xe) (hc:PT X c tc) (hb:PSs X body tb):PS X (.While c body [] pos) (tWhile tc tb):=by
 intro pins s σ H D I h
 obtain ⟨W,⟨m0,w0⟩,turn⟩:=h
 refine wpAny_While (codeAny_whileLoop (fun n s'=>∃ σ' H',Inv X pins σ' H' s'∧W n σ' H') ?_ m0 ⟨σ,H,I,w0⟩)
 rintro n s1 ⟨σ1,H1,I1,w1⟩
 refine wpAny_passesOwn hp (thn (hc pins s1 σ1 H1 _ I1 (turn n σ1 H1 w1)) fun b s2 ⟨H2,I2,q2⟩=>?_)
 cases b with
 | true=>
  obtain ⟨N,hN,q2⟩:=q2
  rw [if_pos rfl]
  refine wpAny_passesOwn hp (thn (hb pins s2 σ1 H2 _ I2 q2) fun f s3 q3=>?_)
  cases f with
  | next=>
   obtain ⟨σ3,H3,I3,n3⟩:=q3
   obtain ⟨m',hm,w3⟩:=hN σ3 H3 n3
   exact ⟨m',hm,σ3,H3,I3,w3⟩
  | cont=>
   obtain ⟨σ3,H3,I3,n3⟩:=q3
   obtain ⟨m',hm,w3⟩:=hN σ3 H3 n3
   exact ⟨m',hm,σ3,H3,I3,w3⟩
  | brk=>exact q3
  | ret v=>exact q3
 | false=>
  rw [if_neg Bool.false_ne_true]
  exact wpAny_execs_nil ⟨σ1,H2,I2,q2⟩
end
structure It where
 go:Nat→Hp→Prop
 yld:Nat→Hp→V→Hp→Prop
 stop:Nat→Hp→Prop
def FpOk (X:Cx) (pins:List (Addr × Obj)) (H:Hp) (b:Addr):Prop:=
 H b=none∧b ≠ X.env.locals∧b ∉ X.fs∧(b ∈ X.ex∨X.s₀.heap.objs.size≤b)∧(∀ x c,X.env.cells.lookup x=some c→c ≠ b)∧∀ p ∈ X.pn++pins,p.1 ≠ b
theorem Inv.fpOk {X:Cx} {pins:List (Addr × Obj)} {σ:St} {H H':Hp} {s:Shared} {b:Addr} (I:Inv X pins σ H s) (hb:s.heap.objs.size≤b) (hn:H' b=none):FpOk X pins H' b:=by
 refine ⟨hn,Nat.ne_of_gt (Nat.lt_of_lt_of_le I.lt hb),I.nofs hb,.inr (Nat.le_trans I.sz hb),fun x c e z=>?_,fun p hp z=>?_⟩
 ·obtain ⟨v,q⟩:=I.cell x c e
  exact absurd (Nat.lt_of_lt_of_le q.lt (by rw [z];exact hb)) (Nat.lt_irrefl _)
 ·exact absurd (Nat.lt_of_lt_of_le (Heap.lt_size (I.pin p hp).1) (by rw [z];exact hb)) (Nat.lt_irrefl _)
structure Turn (P:Program) (w:World) (K:PySem.W.Frag) (tg:Expr) (J:It) (fp:List Addr) (it:Addr) (tn:Nat→Heap→Prop):Prop where
 mem:it ∈ fp
 obj:∀ i h,tn i h→∀ b ∈ fp,∃ o,h.get? b=some o∧∀ v,o.data ≠ .cell v
 keep:∀ i h h',tn i h→(∀ b ∈ fp,∀ o,h.get? b=some o→h'.get? b=some o)→tn i h'
 item:∀ (X:Cx),X.prog=P→X.w=w→X.K=K→X.calm=true→∀ (i:Nat) (pins:List (Addr × Obj)) (s:Shared) (σ:St) (H:Hp) (E:Value→Shared→Prop),Inv X pins σ H s→(∀ b ∈ fp,FpOk X pins H b)→tn i s.heap→J.go i H→
  wpAny (model P w) X.A (pyNext (.ref it)) (fun r s1=>∃ u,r=some u∧
   wpAny (model P w) X.A (letOwnedTupleGo tg (.ref it) u) (fun _ s2=>∃ x H',Inv X pins σ H' s2∧RelV x u∧J.yld i H x H'∧tn (i+1) s2.heap∧∀ b ∈ fp,H' b=none) E s1) E s
 done:∀ (X:Cx),X.prog=P→X.w=w→X.K=K→X.calm=true→∀ (i:Nat) (pins:List (Addr × Obj)) (s:Shared) (σ:St) (H:Hp) (E:Value→Shared→Prop),Inv X pins σ H s→(∀ b ∈ fp,FpOk X pins H b)→tn i s.heap→J.stop i H→
  wpAny (model P w) X.A (pyNext (.ref it)) (fun r s1=>r=none∧Inv X pins σ H s1) E s
 self:∀ (A:Around) (i:Nat) (s:Shared) (Q:Value→Shared→Prop) (E:Value→Shared→Prop),tn i s.heap→Q (.ref it) s→wpAny (model P w) A (pyIter (.ref it)) Q E s
abbrev TI:=St→Hp→(It→Hp→Prop)→Prop
def PIE (X:Cx) (pins:List (Addr × Obj)) (σ:St) (tg:Expr) (R:It→Hp→Prop) (itv:Value) (s2:Shared):Prop:=
 ∃ (it:Addr) (fp:List Addr) (tn:Nat→Heap→Prop) (J:It) (H':Hp),itv=.ref it∧Inv X pins σ H' s2∧Turn X.prog X.w X.K tg J fp it tn∧tn 0 s2.heap∧(∀ b ∈ fp,FpOk X pins H' b)∧R J H'
def PI (X:Cx) (tg iter:Expr) (wi:TI):Prop:=
 ∀ (pins:List (Addr × Obj)) (s:Shared) (σ:St) (H:Hp) (R:It→Hp→Prop),Inv X pins σ H s→wi σ H R→
  wpAny (model X.prog X.w) X.A (eval iter X.env) (fun v s1=>wpAny (model X.prog X.w) X.A (pyIter v) (PIE X pins σ tg R) X.xe s1) X.xe s
theorem go_of {M:Model} {A:Around} {E:Value→Shared→Prop} {s:Shared} {tg:Expr} {it:Addr} {u:Value} {o:Obj} {n:String} {vs:Array Value} {Q:Unit→Shared→Prop} (ho:s.heap.get? it=some o) (hc:o.cls=.type n) (hd:o.data=.fields vs)
  (hn:["enumerate","zip","dict_itemiterator","dict_reverseitemiterator","odict_iterator","itertools.zip_longest","itertools.pairwise"].contains n=false) (hQ:Q () s):wpAny M A (letOwnedTupleGo tg (.ref it) u) Q E s:=by
 unfold letOwnedTupleGo
 cases tg <;> first
  | exact wpAny_pure hQ
  | (cases u <;> first
    | exact wpAny_pure hQ
    | (refine wpAny_bind (wpAny_load ho ?_)
       rw [hc,hd]
       show wpAny M A (if (["enumerate","zip","dict_itemiterator","dict_reverseitemiterator","odict_iterator","itertools.zip_longest","itertools.pairwise"].contains n && vs[0]? == some (rawInt _))=true then _ else _) Q E s
       rw [if_neg (by intro h;rw [hn,Bool.false_and] at h;cases h)]
       exact wpAny_pure hQ))
def Itl (K:PySem.W.Frag) (a:Addr):It:=
 ⟨fun i H=>∃ xs x,SqL K H a xs∧xs[i]?=some x,fun i H x H'=>H'=H∧∀ xs,SqL K H a xs→xs[i]?=some x,fun i H=>∃ xs,SqL K H a xs∧xs.length≤i⟩
def Itt (K:PySem.W.Frag) (a:Addr):It:=
 ⟨fun i H=>∃ xs x,SqT K H a xs∧xs[i]?=some x,fun i H x H'=>H'=H∧∀ xs,SqT K H a xs→xs[i]?=some x,fun i H=>∃ xs,SqT K H a xs∧xs.length≤i⟩
def Itr (lo:Int) (n:Nat):It:=⟨fun i _=>i<n,fun i H x H'=>H'=H∧x=.int (lo+i),fun i _=>n≤i⟩
theorem turn_list {P:Program} {w:World} {K:PySem.W.Frag} {tg:Expr} (a it:Addr):Turn P w K tg (Itl K a) [it] it (fun i h=>h.IsListIter it a i) where
 mem:=by simp
 obj:=fun i h st b hb=>by
  have e:b=it:=by simpa using hb
  subst e
  obtain ⟨o,e,c,d⟩:=st
  exact ⟨o,e,fun v z=>by rw [d] at z;cases z⟩
 keep:=fun i h h' st k=>st.at fun o e=>k it (by simp) o e
 item:=by
  intro X hP hw hK hc i pins s σ H E I hf st hg
  subst hP hw hK
  obtain ⟨xs,x,hq,hx⟩:=hg
  obtain ⟨its,rv,p,hz⟩:=I.list hq
  obtain ⟨u,hu,ru⟩:=rv.get hx
  obtain ⟨f0,f1,f2,f3,f4,f5⟩:=hf it (by simp)
  refine wpAny_pyNext_list_item st p.isList (x:=u) (by simpa using hu) fun h' st' sb=>?_
  have I1:Inv X pins σ H { s with heap:=h' }:=I.turned (t':=s.toks) (fun b o hb e=>(sb.2 b hb).trans e) f0 f1 f3 f4 f5
  obtain ⟨o,e,c,d⟩:=id st'
  exact ⟨u,rfl,go_of (s:={ s with heap:=h' }) e c d (by decide) ⟨x,H,I1,ru,⟨rfl,fun ys hy=>by rw [I.list_inj hy hq];exact hx⟩,st',fun b hb=>(hf b hb).1⟩⟩
 done:=by
  intro X hP hw hK hc i pins s σ H E I hf st hg
  subst hP hw hK
  obtain ⟨xs,hq,hx⟩:=hg
  obtain ⟨its,rv,p,hz⟩:=I.list hq
  obtain ⟨f0,f1,f2,f3,f4,f5⟩:=hf it (by simp)
  have hl:=rv.length
  exact wpAny_pyNext_list_end (I.ok.hd hc) st p.isList (by simp;lia) fun h' eb=>⟨rfl,I.turned (t':=s.toks) (fun b o hb e=>eb b o hb e) f0 f1 f3 f4 f5⟩
 self:=fun _ _ _ _ _ st h=>wpAny_pyIter_listiter st h
theorem turn_tuple {P:Program} {w:World} {K:PySem.W.Frag} {tg:Expr} (a it:Addr):Turn P w K tg (Itt K a) [it] it (fun i h=>h.IsTupleIter it a i) where
 mem:=by simp
 obj:=fun i h st b hb=>by
  have e:b=it:=by simpa using hb
  subst e
  obtain ⟨o,e,c,d⟩:=st
  exact ⟨o,e,fun v z=>by rw [d] at z;cases z⟩
 keep:=fun i h h' st k=>st.at fun o e=>k it (by simp) o e
 item:=by
  intro X hP hw hK hc i pins s σ H E I hf st hg
  subst hP hw hK
  obtain ⟨xs,x,hq,hx⟩:=hg
  obtain ⟨its,rv,p,hz⟩:=I.tuple hq
  obtain ⟨u,hu,ru⟩:=rv.get hx
  obtain ⟨f0,f1,f2,f3,f4,f5⟩:=hf it (by simp)
  refine wpAny_pyNext_tuple_item st (show s.heap.IsTuple a its.toArray from p) (x:=u) (by simpa using hu) fun h' st' sb=>?_
  have I1:Inv X pins σ H { s with heap:=h' }:=I.turned (t':=s.toks) (fun b o hb e=>(sb.2 b hb).trans e) f0 f1 f3 f4 f5
  obtain ⟨o,e,c,d⟩:=id st'
  exact ⟨u,rfl,go_of (s:={ s with heap:=h' }) e c d (by decide) ⟨x,H,I1,ru,⟨rfl,fun ys hy=>by rw [I.tuple_inj hy hq];exact hx⟩,st',fun b hb=>(hf b hb).1⟩⟩
 done:=by
  intro X hP hw hK hc i pins s σ H E I hf st hg
  subst hP hw hK
  obtain ⟨xs,hq,hx⟩:=hg
  obtain ⟨its,rv,p,hz⟩:=I.tuple hq
  obtain ⟨f0,f1,f2,f3,f4,f5⟩:=hf it (by simp)
  have hl:=rv.length
  exact wpAny_pyNext_tuple_end (I.ok.hd hc) st (show s.heap.IsTuple a its.toArray from p) (by simp;lia) fun h' eb=>⟨rfl,I.turned (t':=s.toks) (fun b o hb e=>eb b o hb e) f0 f1 f3 f4 f5⟩
 self:=fun _ _ _ _ _ st h=>wpAny_pyIter_tupleiter st h
theorem turn_range {P:Program} {w:World} {K:PySem.W.Frag} {tg:Expr} (it:Addr) (lo:Int) (n:Nat):Turn P w K tg (Itr lo n) [it] it (fun i h=>IsRangeIter h it (lo+(i:Nat) * 1) ((n:Int) - (i:Nat)) 1) where
 mem:=by simp
 obj:=fun i h st b hb=>by
  have e:b=it:=by simpa using hb
  subst e
  exact ⟨_,st,fun v z=>by
   have z':Data.fields _=Data.cell v:=z
   cases z'⟩
 keep:=fun i h h' st k=>k it (by simp) _ st
 item:=by
  intro X hP hw hK hc i pins s σ H E I hf st hg
  subst hP hw hK
  obtain ⟨f0,f1,f2,f3,f4,f5⟩:=hf it (by simp)
  have W:=Walks.range (prog:=X.prog) (w:=X.w) (I.ok.hd hc) it lo 1 n
  refine W.item i s _ _ hg st fun v h' tk hv st' kk=>?_
  obtain ⟨t,rfl⟩:=hv
  have I1:Inv X pins σ H { s with heap:=h',toks:=tk }:=I.turned (fun b o hb e=>kk b o (by simpa using hb) e) f0 f1 f3 f4 f5
  refine ⟨_,rfl,go_of (s:={ s with heap:=h',toks:=tk }) (n:="range_iterator") st' rfl rfl (by decide) ⟨.int (lo+i),H,I1,⟨t,?_⟩,⟨rfl,rfl⟩,st',fun b hb=>(hf b hb).1⟩⟩
  rw [Int.mul_one]
 done:=by
  intro X hP hw hK hc i pins s σ H E I hf st hg
  subst hP hw hK
  obtain ⟨f0,f1,f2,f3,f4,f5⟩:=hf it (by simp)
  exact wpAny_pyNext_range_end (I.ok.hd hc) st (by have:n≤i:=hg;lia) fun h' eb=>⟨rfl,I.turned (t':=s.toks) (fun b o hb e=>eb b o hb e) f0 f1 f3 f4 f5⟩
 self:=fun _ _ _ _ _ st h=>wpAny_pyIter_rangeiter st h
end L2
namespace L2
open PySem PySem.Spec PyProof.Rows
section
variable {X:Cx} {tg:Expr}
def iList (K:PySem.W.Frag) (tl:TE):TI:=fun σ H R=>tl σ H fun x H1=>∃ a,x=.ref a∧(∃ xs,SqL K H1 a xs)∧R (Itl K a) H1
def iTup (K:PySem.W.Frag) (tl:TE):TI:=fun σ H R=>tl σ H fun x H1=>∃ a,x=.ref a∧(∃ xs,SqT K H1 a xs)∧R (Itt K a) H1
theorem qC2 {l:Expr} {tl:TE} (hl:PE X l tl):PI X tg l (iList X.K tl):=by
 intro pins s σ H R I h
 refine thn (hl pins s σ H _ I h) fun v s1 ⟨x,H1,I1,r1,q1⟩=>?_
 obtain ⟨a,e,⟨xs,hq⟩,q⟩:=q1
 subst e
 cases r1
 obtain ⟨its,rv,p,hz⟩:=I1.list hq
 refine wpAny_pyIter_list p.isList ?_
 refine ⟨s1.heap.objs.size,[s1.heap.objs.size],_,_,H1,rfl,I1.kept (t':=s1.toks) fun b o e=>Heap.get?_push_of_some _ e,turn_list a _,⟨_,Heap.get?_push_size _ rfl,rfl,rfl⟩,fun b hb=>?_,q⟩
 have e:b=s1.heap.objs.size:=by simpa using hb
 subst e
 exact I1.fpOk (Nat.le_refl _) (I1.hok.fresh (Nat.le_refl _))
theorem pi_tup {l:Expr} {tl:TE} (hl:PE X l tl):PI X tg l (iTup X.K tl):=by
 intro pins s σ H R I h
 refine thn (hl pins s σ H _ I h) fun v s1 ⟨x,H1,I1,r1,q1⟩=>?_
 obtain ⟨a,e,⟨xs,hq⟩,q⟩:=q1
 subst e
 cases r1
 obtain ⟨its,rv,p,hz⟩:=I1.tuple hq
 refine wpAny_pyIter_tuple (show s1.heap.IsTuple a its.toArray from p) ?_
 refine ⟨s1.heap.objs.size,[s1.heap.objs.size],_,_,H1,rfl,I1.kept (t':=s1.toks) fun b o e=>Heap.get?_push_of_some _ e,turn_tuple a _,⟨_,Heap.get?_push_size _ rfl,rfl,rfl⟩,fun b hb=>?_,q⟩
 have e:b=s1.heap.objs.size:=by simpa using hb
 subst e
 exact I1.fpOk (Nat.le_refl _) (I1.hok.fresh (Nat.le_refl _))
theorem range_it {pins:List (Addr × Obj)} {σ:St} {H:Hp} {s:Shared} {R:It→Hp→Prop} {E:Value→Shared→Prop} {lo hi:Int} {t u v:Tok} {tk:Nat} (I:Inv X pins σ H s) (h1 : -(2 ^ 62)≤lo) (h2:lo<2 ^ 62) (h3 : -(2 ^ 62)≤hi) (h4:hi<2 ^ 62)
  (q:R (Itr lo (hi - lo).toNat) H):wpAny (model X.prog X.w) X.A (pyIter (.ref s.heap.objs.size)) (PIE X pins σ tg R) E { s with heap:=s.heap.push { cls:=.type "range",data:=.fields #[.int lo t,.int hi u,.int 1 v] },toks:=tk }:=by
 refine wpAny_pyIter_range (IsRange.new ..) (small_one h1 h2 h3 h4) ?_
 have I1:Inv X pins σ H { s with heap:=s.heap.push { cls:=.type "range",data:=.fields #[.int lo t,.int hi u,.int 1 v] },toks:=tk }:=I.kept fun b o e=>Heap.get?_push_of_some _ e
 refine ⟨(s.heap.push { cls:=.type "range",data:=.fields #[.int lo t,.int hi u,.int 1 v] }).objs.size,[(s.heap.push { cls:=.type "range",data:=.fields #[.int lo t,.int hi u,.int 1 v] }).objs.size],_,_,H,rfl,
  I1.kept (t':=tk) fun b o e=>Heap.get?_push_of_some _ e,turn_range _ lo (hi - lo).toNat,?_,fun b hb=>?_,q⟩
 ·have e1:lo+((0:Nat):Int) * 1=lo:=by simp
  have e2:(((hi - lo).toNat:Nat):Int) - ((0:Nat):Int)=Builtin.Range.rangeSize lo hi 1:=by rw [rangeSize_one];split <;> lia
  show IsRangeIter _ _ (lo+((0:Nat):Int) * 1) ((((hi - lo).toNat:Nat):Int) - ((0:Nat):Int)) 1
  rw [e1,e2]
  exact Heap.get?_push_size _ rfl
 ·have e:b=(s.heap.push { cls:=.type "range",data:=.fields #[.int lo t,.int hi u,.int 1 v] }).objs.size:=by simpa using hb
  subst e
  exact I1.fpOk (Nat.le_refl _) (I1.hok.fresh (Nat.le_refl _))
def iRng1 (ta:TA):TI:=fun σ H R=>ta σ H fun vs H1=>∃ j:Int,vs=[.int j]∧-(2 ^ 62)≤j∧j<2 ^ 62∧R (Itr 0 j.toNat) H1
def iRng2 (ta:TA):TI:=fun σ H R=>ta σ H fun vs H1=>∃ i j:Int,vs=[.int i,.int j]∧(-(2 ^ 62)≤i∧i<2 ^ 62∧-(2 ^ 62)≤j∧j<2 ^ 62)∧R (Itr i (j - i).toNat) H1
theorem qBK {a:Expr} {ta:TA} {p pos:Pos} (hg:Gl X "range") (hm:X.mg "range" = none) (ha:PA X [a] ta) (hs:starEach [a] X.env=[(false,eval a X.env)]:=by rfl):PI X tg (.Call (.Name "range" p) [a] [] pos) (iRng1 ta):=by
 intro pins s σ H R I h
 refine Call_ (ld_blt I hg hm boot_range (PyProof.Rows.callWith_type1 (thn (ha pos pins s σ H _ I h) fun us s1 ⟨vs,H1,I1,r1,q1⟩=>?_) hs rfl))
 obtain ⟨j,e,q1,q2,q⟩:=q1
 subst e
 cases r1 with
 | cons r rr=>
  cases rr
  obtain ⟨t,rfl⟩:=r
  exact call_range_1 (range_it I1 (by lia) (by lia) q1 q2 (by simpa using q))
theorem pi_range2 {a b:Expr} {ta:TA} {p pos:Pos} (hg:Gl X "range") (hm:X.mg "range" = none) (ha:PA X [a,b] ta) (hs:starEach [a,b] X.env=[(false,eval a X.env),(false,eval b X.env)]:=by rfl) (hs2:starEach [b] X.env=[(false,eval b X.env)]:=by rfl) :
  PI X tg (.Call (.Name "range" p) [a,b] [] pos) (iRng2 ta):=by
 intro pins s σ H R I h
 refine Call_ (ld_blt I hg hm boot_range (PyProof.Rows.callWith_type1 (thn (ha pos pins s σ H _ I h) fun us s1 ⟨vs,H1,I1,r1,q1⟩=>?_) (by rw [hs,hs2]) (by rw [hs2];rfl)))
 obtain ⟨i,j,e,⟨q1,q2,q3,q4⟩,q⟩:=q1
 subst e
 cases r1 with
 | cons r rr=>
  cases rr with
  | cons r' rr=>
   cases rr
   obtain ⟨t,rfl⟩:=r
   obtain ⟨t',rfl⟩:=r'
   exact call_range_2 (range_it I1 q1 q2 q3 q4 q)
def tFor (wi:TI) (g:TG) (tb:TS):TS:=fun D σ H=>wi σ H fun J H1=>∃ W:Nat→Nat→St→Hp→Prop,(∃ m,W 0 m σ H1)∧∀ i m σ H,W i m σ H→
 (J.stop i H∧D.nx σ H)∨(J.go i H∧∃ N:St→Hp→Prop,(∀ σ' H',N σ' H'→∃ m',m'<m∧W (i+1) m' σ' H')∧∀ x H',J.yld i H x H'→g x σ H' fun σ2 H2=>tb { D with nx:=N,ct:=N,bk:=D.nx } σ2 H2)
noncomputable def pinsAt (fp:List Addr) (h:Heap):List (Addr × Obj):=fp.filterMap fun b=>(h.get? b).map fun o=>(b,o)
theorem qCV {fp:List Addr} {h:Heap} {b:Addr} {o:Obj} (hb:b ∈ fp) (e:h.get? b=some o):(b,o) ∈ pinsAt fp h:=List.mem_filterMap.mpr ⟨b,hb,by rw [e];rfl⟩
theorem of_pinsAt {fp:List Addr} {h:Heap} {p:Addr × Obj} (hp:p ∈ pinsAt fp h):p.1 ∈ fp∧h.get? p.1=some p.2:=by
 obtain ⟨b,hb,e⟩:=List.mem_filterMap.mp hp
 cases q:h.get? b with
 | none=>rw [q] at e;cases e
 | some o=>
  rw [q] at e
  have e':(b,o)=p:=Option.some.inj e
  subst e'
  exact ⟨hb,q⟩
theorem Inv.pinned {pins:List (Addr × Obj)} {σ:St} {H:Hp} {s:Shared} {fp:List Addr} (I:Inv X pins σ H s) (hf:∀ b ∈ fp,FpOk X pins H b) (ho:∀ b ∈ fp,∃ o,s.heap.get? b=some o∧∀ v,o.data ≠ .cell v):Inv X (pins++pinsAt fp s.heap) σ H s:=
 I.pins_of fun p hp=>(List.mem_append.mp hp).elim (fun z=>I.pin p (List.mem_append_right _ z)) fun z=>by
  obtain ⟨hb,e⟩:=of_pinsAt z
  obtain ⟨f0,f1,f2,_⟩:=hf p.1 hb
  obtain ⟨o,e',d⟩:=ho p.1 hb
  rw [e] at e';cases e'
  exact ⟨e,f0,f1,f2,d⟩
theorem Inv.unpinned {pins pl:List (Addr × Obj)} {σ:St} {H:Hp} {s:Shared} (I:Inv X (pins++pl) σ H s):Inv X pins σ H s:=I.pins_of fun p hp=>I.pin p (List.mem_append_right _ (List.mem_append_left _ hp))
theorem ps_for {iter:Expr} {body:List Stmt} {wi:TI} {g:TG} {tb:TS} {pos:Pos} (hp:PassesOwn (model X.prog X.w) X.A X.env X.xe) (hc:X.calm=true) (hi:PI X tg iter wi) (hg:PG X tg g) (hb:PSs X body tb)
  (hs:∀ x,foldedSetIterable iter X.env x=pure x:=by intro _;rfl):PS X (.For tg iter body [] pos) (tFor wi g tb):=by
 intro pins s σ H D I h
 refine wpAny_For (thn (hi pins s σ H _ I h) fun v s1 h1=>thn h1 fun itv s2 h2=>?_) hs
 obtain ⟨it,fp,tn,J,H2,e,I2,T,st2,f2,W,⟨m0,w0⟩,turn⟩:=h2
 subst e
 -- what stays true of the iterator's objects through the loop
 have stat:∀ {H':Hp},(∀ b ∈ fp,H' b=none)→∀ b ∈ fp,FpOk X pins H' b:=fun hn b hb=>⟨hn b hb,(f2 b hb).2⟩
 refine codeAny_forLoop_any (fun n s'=>∃ i σ' H',Inv X pins σ' H' s'∧tn i s'.heap∧(∀ b ∈ fp,H' b=none)∧W i n σ' H') ?_ m0 ⟨0,σ,H2,I2,st2,fun b hb=>(f2 b hb).1,w0⟩
 rintro n s3 ⟨i,σ3,H3,I3,st3,fr3,w3⟩
 rcases turn i n σ3 H3 w3 with ⟨stop,qn⟩ | ⟨go,N,hN,step⟩
 ·refine wpAny_passesOwn hp (thn (T.done X rfl rfl rfl hc i pins s3 σ3 H3 X.xe I3 (stat fr3) st3 stop) fun r s4 ⟨hr,I4⟩=>?_)
  subst hr
  exact wpAny_execs_nil ⟨σ3,H3,I4,qn⟩
 ·refine wpAny_passesOwn hp (thn (T.item X rfl rfl rfl hc i pins s3 σ3 H3 X.xe I3 (stat fr3) st3 go) fun r s4 ⟨u,hr,h4⟩=>?_)
  subst hr
  refine wpAny_passesOwn hp (thn h4 fun _ s5 ⟨x,H5,I5,r5,y5,st5,fr5⟩=>?_)
  have I5':=I5.pinned (stat fr5) (T.obj _ _ st5)
  refine wpAny_passesOwn hp (thn (hg _ s5 σ3 H5 x u _ I5' r5 (step x H5 y5)) fun _ s6 ⟨σ6,H6,I6,q6⟩=>?_)
  refine wpAny_passesOwn hp (thn (hb _ s6 σ6 H6 _ I6 q6) fun f s7 q7=>?_)
  have again:∀ {σ7:St} {H7:Hp},Inv X (pins++pinsAt fp s5.heap) σ7 H7 s7→N σ7 H7→∃ m,m<n∧∃ i σ' H',Inv X pins σ' H' s7∧tn i s7.heap∧(∀ b ∈ fp,H' b=none)∧W i m σ' H':=fun {σ7 H7} I7 n7=>by
   obtain ⟨m',hm,w7⟩:=hN σ7 H7 n7
   refine ⟨m',hm,i+1,σ7,H7,I7.unpinned,T.keep _ _ _ st5 fun b hb o e=>(I7.pin (b,o) (List.mem_append_right _ (List.mem_append_right _ (qCV hb e)))).1,fun b hb=>?_,w7⟩
   obtain ⟨o,e,d⟩:=T.obj _ _ st5 b hb
   exact (I7.pin (b,o) (List.mem_append_right _ (List.mem_append_right _ (qCV hb e)))).2.1
  cases f with
  | next=>obtain ⟨σ7,H7,I7,n7⟩:=q7;exact again I7 n7
  | cont=>obtain ⟨σ7,H7,I7,n7⟩:=q7;exact again I7 n7
  | brk=>obtain ⟨σ7,H7,I7,q7⟩:=q7;exact ⟨σ7,H7,I7.unpinned,q7⟩
  | ret v=>obtain ⟨x7,σ7,H7,I7,r7,q7⟩:=q7;exact ⟨x7,σ7,H7,I7.unpinned,r7,q7⟩
end
abbrev ForG (I:It) (g:TG) (tb:TS) (D:Ends) (σ:St) (H:Hp):Prop:=∃ W:Nat→Nat→St→Hp→Prop,(∃ m,W 0 m σ H)∧∀ i m σ H,W i m σ H→(I.stop i H∧D.nx σ H)∨(I.go i H∧∃ N:St→Hp→Prop,(∀ σ' H',N σ' H'→∃ m',m'<m∧W (i+1) m' σ' H')∧∀ x H',I.yld i H x H'→g x σ H' fun σ2 H2=>tb { D with nx:=N,ct:=N,bk:=D.nx } σ2 H2)
theorem for_list {K:PySem.W.Frag} {a:Addr} {xs:List V} {g:TG} {tb:TS} {D:Ends} {σ:St} {H:Hp} (Pv:Nat→St→Hp→Prop) (h0:Pv 0 σ H) (hl:∀ i σ H,i≤xs.length→Pv i σ H→SqL K H a xs)
  (hs:∀ i x σ H,xs[i]?=some x→Pv i σ H→g x σ H fun σ2 H2=>tb { D with nx:=Pv (i+1),ct:=Pv (i+1),bk:=D.nx } σ2 H2) (hd:∀ σ H,Pv xs.length σ H→D.nx σ H) :
  ForG (Itl K a) g tb D σ H:=by
 refine ⟨fun i m σ H=>m=xs.length - i∧i≤xs.length∧Pv i σ H,⟨xs.length,by simp,Nat.zero_le _,h0⟩,?_⟩
 rintro i m σ H ⟨rfl,hi,p⟩
 have q:=hl i σ H hi p
 by_cases hlt:i<xs.length
 ·refine .inr ⟨⟨xs,xs[i],q,by simp [hlt]⟩,Pv (i+1),fun σ' H' p'=>⟨xs.length - (i+1),by lia,rfl,hlt,p'⟩,fun x H' y=>?_⟩
  obtain ⟨e,y⟩:=y
  subst e
  exact hs i x σ _ (y xs q) p
 ·have e:i=xs.length:=by lia
  subst e
  exact .inl ⟨⟨xs,q,Nat.le_refl _⟩,hd σ H p⟩
theorem qCK {lo:Int} {n:Nat} {g:TG} {tb:TS} {D:Ends} {σ:St} {H:Hp} (Pv:Nat→St→Hp→Prop) (h0:Pv 0 σ H)
  (hs:∀ i σ H,i<n→Pv i σ H→g (.int (lo+i)) σ H fun σ2 H2=>tb { D with nx:=Pv (i+1),ct:=Pv (i+1),bk:=D.nx } σ2 H2) (hd:∀ σ H,Pv n σ H→D.nx σ H) :
  ForG (Itr lo n) g tb D σ H:=by
 refine ⟨fun i m σ H=>m=n - i∧i≤n∧Pv i σ H,⟨n,by simp,Nat.zero_le _,h0⟩,?_⟩
 rintro i m σ H ⟨rfl,hi,p⟩
 by_cases hlt:i<n
 ·refine .inr ⟨hlt,Pv (i+1),fun σ' H' p'=>⟨n - (i+1),by lia,rfl,hlt,p'⟩,fun x H' y=>?_⟩
  obtain ⟨e,y⟩:=y
  subst e y
  exact hs i σ _ hlt p
 ·have e:i=n:=by lia
  subst e
  exact .inl ⟨Nat.le_refl _,hd σ H p⟩
end L2
namespace L2
open PySem PySem.Spec PyProof.Rows
abbrev R2:=V→V→Hp→VK→Prop
def OpR (X:Cx) (f:Value→Value→Sem Value) (r:R2):Prop:=
 ∀ (pins:List (Addr × Obj)) (s:Shared) (σ:St) (H:Hp) (x y:V) (v u:Value) (Q:VK),Inv X pins σ H s→RelV x v→RelV y u→r x y H Q→
  wpAny (model X.prog X.w) X.A (f v u) (EP X pins σ Q) X.xe s
def UnR (X:Cx) (f:Value→Sem Value) (r:V→Hp→VK→Prop):Prop:=
 ∀ (pins:List (Addr × Obj)) (s:Shared) (σ:St) (H:Hp) (x:V) (v:Value) (Q:VK),Inv X pins σ H s→RelV x v→r x H Q→
  wpAny (model X.prog X.w) X.A (f v) (EP X pins σ Q) X.xe s
def CallR (X:Cx) (f:Value) (r:List V→Hp→VK→Prop):Prop:=
 ∀ (pins:List (Addr × Obj)) (s:Shared) (σ:St) (H:Hp) (xs:List V) (us:List Value) (Q:VK),Inv X pins σ H s→Vals xs us→r xs H Q→
  wpAny (model X.prog X.w) X.A (call f us) (EP X pins σ Q) X.xe s
def TruR (X:Cx) (r:V→Hp→(Bool→Hp→Prop)→Prop):Prop:=
 ∀ (pins:List (Addr × Obj)) (s:Shared) (σ:St) (H:Hp) (x:V) (v:Value) (Q:Bool→Hp→Prop),Inv X pins σ H s→RelV x v→r x H Q→
  wpAny (model X.prog X.w) X.A (truthy v) (TP X pins σ Q) X.xe s
def tOp (r:R2) (ta tb:TE):TE:=fun σ H Q=>ta σ H fun x H1=>tb σ H1 fun y H2=>r x y H2 Q
def tUn (r:V→Hp→VK→Prop) (ta:TE):TE:=fun σ H Q=>ta σ H fun x H1=>r x H1 Q
def rI (C:Int→Int→Prop) (g:Int→Int→V):R2:=fun x y H Q=>∃ i j,x=.int i∧y=.int j∧C i j∧Q (g i j) H
def rI0 (g:Int→Int→V):R2:=fun x y H Q=>∃ i j,x=.int i∧y=.int j∧Q (g i j) H
def rU (g:Int→V):V→Hp→VK→Prop:=fun x H Q=>∃ i,x=.int i∧Q (g i) H
section
variable {X:Cx} {a b c:Expr} {ta tb tc:TE} {pos:Pos}
theorem binT (ha:PE X a ta) (hb:PE X b tb) {pins:List (Addr × Obj)} {s:Shared} {σ:St} {H:Hp} {R:V→V→Hp→Prop} (I:Inv X pins σ H s)
  (h:ta σ H fun x H1=>tb σ H1 fun y H2=>R x y H2) {Q:Value→Shared→Prop} {f:Value→Value→Sem Value}
  (hf:∀ v u s2 x y H2,Inv X pins σ H2 s2→RelV x v→RelV y u→R x y H2→wpAny (model X.prog X.w) X.A (f v u) Q X.xe s2) :
  wpAny (model X.prog X.w) X.A (eval a X.env) (fun v s₁=>wpAny (model X.prog X.w) X.A (eval b X.env) (fun u s₂=>wpAny (model X.prog X.w) X.A (f v u) Q X.xe s₂) X.xe s₁) X.xe s:=by
 refine thn (ha pins s σ H _ I h) fun v s1 ⟨x,H1,I1,r1,q1⟩=>?_
 refine thn (hb pins s1 σ H1 _ I1 q1) fun u s2 ⟨y,H2,I2,r2,q2⟩=>?_
 exact hf v u s2 x y H2 I2 r1 r2 q2
theorem pe_op {op:Operator} {r:R2} (ho:OpR X (binaryOp op) r) (ha:PE X a ta) (hb:PE X b tb):PE X (.BinOp a op b pos) (tOp r ta tb):=by
 intro pins s σ H Q I h
 exact wpAny_BinOp (binT ha hb I h fun v u s2 x y H2 I2 rx ry q=>ho pins s2 σ H2 x y v u Q I2 rx ry q)
theorem pe_un {op:UnaryOp} {r:V→Hp→VK→Prop} (ho:UnR X (unaryOp op) r) (ha:PE X a ta):PE X (.UnaryOp op a pos) (tUn r ta):=by
 intro pins s σ H Q I h
 exact UnaryOp_ (thn (ha pins s σ H _ I h) fun v s1 ⟨x,H1,I1,r1,q1⟩=>ho pins s1 σ H1 x v Q I1 r1 q1)
theorem opI {f:Value→Value→Sem Value} {C:Int→Int→Prop} {g:Int→Int→Int}
  (rule:∀ (i j:Int) (t u:Tok) (s:Shared) (Q:Value→Shared→Prop) (E:Value→Shared→Prop),C i j→Q (.int (g i j) s.toks) { s with toks:=s.toks+1 }→wpAny (model X.prog X.w) X.A (f (.int i t) (.int j u)) Q E s) :
  OpR X f (rI C fun i j=>.int (g i j)):=by
 intro pins s σ H x y v u Q I rx ry h
 obtain ⟨i,j,rfl,rfl,hc,q⟩:=h
 obtain ⟨t,rfl⟩:=rx
 obtain ⟨t',rfl⟩:=ry
 exact rule i j t t' s _ _ hc ⟨.int (g i j),H,I.tok _,⟨_,rfl⟩,q⟩
theorem opI0 {f:Value→Value→Sem Value} {g:Int→Int→Int}
  (rule:∀ (i j:Int) (t u:Tok) (s:Shared) (Q:Value→Shared→Prop) (E:Value→Shared→Prop),Q (.int (g i j) s.toks) { s with toks:=s.toks+1 }→wpAny (model X.prog X.w) X.A (f (.int i t) (.int j u)) Q E s) :
  OpR X f (rI0 fun i j=>.int (g i j)):=by
 intro pins s σ H x y v u Q I rx ry h
 obtain ⟨i,j,rfl,rfl,q⟩:=h
 obtain ⟨t,rfl⟩:=rx
 obtain ⟨t',rfl⟩:=ry
 exact rule i j t t' s _ _ ⟨.int (g i j),H,I.tok _,⟨_,rfl⟩,q⟩
theorem opB0 {f:Value→Value→Sem Value} {g:Int→Int→Bool}
  (rule:∀ (i j:Int) (t u:Tok) (s:Shared) (Q:Value→Shared→Prop) (E:Value→Shared→Prop),Q (.bool (g i j)) s→wpAny (model X.prog X.w) X.A (f (.int i t) (.int j u)) Q E s) :
  OpR X f (rI0 fun i j=>.bl (g i j)):=by
 intro pins s σ H x y v u Q I rx ry h
 obtain ⟨i,j,rfl,rfl,q⟩:=h
 obtain ⟨t,rfl⟩:=rx
 obtain ⟨t',rfl⟩:=ry
 exact rule i j t t' s _ _ ⟨.bl (g i j),H,I,rfl,q⟩
def CDiv (i j:Int):Prop:=0<j∧j<1073741824
def CPow (i j:Int):Prop:=0≤j∧j≤1000000∧i.natAbs<2 ^ 64
def CMul (i j:Int):Prop:=(-(2 ^ 64)<i∧i<2 ^ 64)∨(-(2 ^ 64)<j∧j<2 ^ 64)
theorem CMul.ok {i j:Int} (h:CMul i j):IntMulOk i j:=by
 rcases h with ⟨h1,h2⟩ | ⟨h1,h2⟩
 ·exact .of_left (intBits_le_64 h1 h2)
 ·exact .of_right (intBits_le_64 h1 h2)
theorem qBN:OpR X (binaryOp .Add) (rI0 fun i j=>.int (i+j)):=opI0 fun _ _ _ _ _ _ _ q=>add_int q
theorem qC8:OpR X (binaryOp .Sub) (rI0 fun i j=>.int (i - j)):=opI0 fun _ _ _ _ _ _ _ q=>sub_int q
theorem op_mul:OpR X (binaryOp .Mult) (rI CMul fun i j=>.int (i * j)):=opI fun _ _ _ _ _ _ _ hc q=>mul_int q hc.ok
theorem op_fdiv:OpR X (binaryOp .FloorDiv) (rI CDiv fun i j=>.int (i / j)):=opI fun i j _ _ _ _ _ hc q=>by
 have h1:(0:Int)<j:=hc.1
 have h2:j<1073741824:=hc.2
 exact floordiv_int (by lia) (by rw [Int.fdiv_eq_ediv_of_nonneg i (by lia)];exact q) (.inl (PyProof.noPylong_small (by lia)))
theorem op_mod:OpR X (binaryOp .Mod) (rI (fun _ j=>0<j) fun i j=>.int (i % j)):=opI fun i j _ _ _ _ _ hc q=>by
 have h1:(0:Int)<j:=hc
 exact mod_int' (by lia) (by rw [Int.fmod_eq_emod_of_nonneg i (by lia)];exact q)
theorem op_pow:OpR X (binaryOp .Pow) (rI CPow fun i j=>.int (i ^ j.toNat)):=opI fun _ _ _ _ _ _ _ hc q=>pow_int_small hc.1 hc.2.1 hc.2.2 q
theorem unI {f:Value→Sem Value} {g:Int→Int}
  (rule:∀ (i:Int) (t:Tok) (s:Shared) (Q:Value→Shared→Prop) (E:Value→Shared→Prop),Q (.int (g i) s.toks) { s with toks:=s.toks+1 }→wpAny (model X.prog X.w) X.A (f (.int i t)) Q E s) :
  UnR X f (rU fun i=>.int (g i)):=by
 intro pins s σ H x v Q I rx h
 obtain ⟨i,rfl,q⟩:=h
 obtain ⟨t,rfl⟩:=rx
 exact rule i t s _ _ ⟨.int (g i),H,I.tok _,⟨_,rfl⟩,q⟩
theorem un_neg:UnR X (unaryOp .USub) (rU fun i=>.int (-i)):=unI fun _ _ _ _ _ q=>neg_int q
end
noncomputable def scal:V→V→Bool
 | .non,.non=>true | .non,.int _=>true | .int _,.non=>true | .non,.bl _=>true | .bl _,.non=>true | .non,.str _=>true | .str _,.non=>true
 | .int _,.int _=>true | .bl _,.bl _=>true | .str _,.str _=>true | .byt _,.byt _=>true
 | .int _,.str _=>true | .str _,.int _=>true | .bl _,.str _=>true | .str _,.bl _=>true
 | _,_=>false
def rEq:R2:=fun x y H Q=>scal x y=true∧Q (.bl (decide (x=y))) H
def rNe:R2:=fun x y H Q=>scal x y=true∧Q (.bl (!decide (x=y))) H
theorem dec_int {i j:Int}:decide (V.int i=V.int j)=(i == j):=by
 rw [Bool.eq_iff_iff]
 simp
theorem dec_bl {i j:Bool}:decide (V.bl i=V.bl j)=(i == j):=by
 rw [Bool.eq_iff_iff]
 simp
theorem dec_str {i j:Str}:decide (V.str i=V.str j)=(i == j):=by
 rw [Bool.eq_iff_iff]
 simp
theorem dec_byt {i j:Array UInt8}:decide (V.byt i=V.byt j)=(i.toList == j.toList):=by
 rw [Bool.eq_iff_iff]
 cases i
 cases j
 simp
section
variable {X:Cx} {a b c:Expr} {ta tb tc:TE} {pos:Pos}
theorem qAW {pins:List (Addr × Obj)} {σ:St} {H:Hp} {s:Shared} {Q:VK} {k k':Bool} (I:Inv X pins σ H s) (q:Q (.bl k) H) (e:k=k'):EP X pins σ Q (.bool k') s:=by
 subst e
 exact ⟨.bl k,H,I,rfl,q⟩
theorem op_eq:OpR X (compareOp .Eq) rEq:=by
 intro pins s σ H x y v u Q I rx ry h
 obtain ⟨hs,q⟩:=h
 cases x with
 | non=>
  cases rx
  cases y with
  | non=>cases ry;exact PySem.EqNone.eq_none_none (qAW I q (by simp))
  | bl j=>cases ry;exact PySem.EqNone.eq_none_bool (qAW I q (by simp))
  | int j=>obtain ⟨t',rfl⟩:=ry;exact PySem.EqNone.eq_none_int (qAW I q (by simp))
  | str j=>obtain ⟨t',rfl⟩:=ry;exact PySem.EqNone.eq_none_str (qAW I q (by simp))
  | _=>exact absurd (show false=true from hs) Bool.false_ne_true
 | bl i=>
  cases rx
  cases y with
  | non=>cases ry;exact PySem.EqNone.eq_bool_none (qAW I q (by simp))
  | bl j=>cases ry;exact eq_bool (qAW I q dec_bl)
  | str j=>obtain ⟨t',rfl⟩:=ry;exact PySem.EqMixed.eq_bool_str (qAW I q (by simp))
  | _=>exact absurd (show false=true from hs) Bool.false_ne_true
 | int i=>
  obtain ⟨t,rfl⟩:=rx
  cases y with
  | non=>cases ry;exact PySem.EqNone.eq_int_none (qAW I q (by simp))
  | int j=>obtain ⟨t',rfl⟩:=ry;exact eq_int (qAW I q dec_int)
  | str j=>obtain ⟨t',rfl⟩:=ry;exact PySem.EqMixed.eq_int_str (qAW I q (by simp))
  | _=>exact absurd (show false=true from hs) Bool.false_ne_true
 | str i=>
  obtain ⟨t,rfl⟩:=rx
  cases y with
  | non=>cases ry;exact PySem.EqNone.eq_str_none (qAW I q (by simp))
  | bl j=>cases ry;exact PySem.EqMixed.eq_str_bool (qAW I q (by simp))
  | int j=>obtain ⟨t',rfl⟩:=ry;exact PySem.EqMixed.eq_str_int (qAW I q (by simp))
  | str j=>obtain ⟨t',rfl⟩:=ry;exact eq_str (qAW I q dec_str)
  | _=>exact absurd (show false=true from hs) Bool.false_ne_true
 | byt i=>
  obtain ⟨t,rfl⟩:=rx
  cases y with
  | byt j=>obtain ⟨t',rfl⟩:=ry;exact PySem.W.eq_bytes (qAW I q dec_byt)
  | _=>exact absurd (show false=true from hs) Bool.false_ne_true
 | _=>cases y <;> exact absurd (show false=true from hs) Bool.false_ne_true
theorem op_ne:OpR X (compareOp .NotEq) rNe:=by
 intro pins s σ H x y v u Q I rx ry h
 obtain ⟨hs,q⟩:=h
 cases x with
 | non=>
  cases rx
  cases y with
  | non=>cases ry;exact PySem.EqNone.ne_none_none (qAW I q (by simp))
  | bl j=>cases ry;exact PySem.EqNone.ne_none_bool (qAW I q (by simp))
  | int j=>obtain ⟨t',rfl⟩:=ry;exact PySem.EqNone.ne_none_int (qAW I q (by simp))
  | str j=>obtain ⟨t',rfl⟩:=ry;exact PySem.EqNone.ne_none_str (qAW I q (by simp))
  | _=>exact absurd (show false=true from hs) Bool.false_ne_true
 | bl i=>
  cases rx
  cases y with
  | non=>cases ry;exact PySem.EqNone.ne_bool_none (qAW I q (by simp))
  | bl j=>cases ry;exact ne_bool (qAW I q (congrArg not dec_bl))
  | str j=>obtain ⟨t',rfl⟩:=ry;exact PySem.EqMixed.ne_bool_str (qAW I q (by simp))
  | _=>exact absurd (show false=true from hs) Bool.false_ne_true
 | int i=>
  obtain ⟨t,rfl⟩:=rx
  cases y with
  | non=>cases ry;exact PySem.EqNone.ne_int_none (qAW I q (by simp))
  | int j=>obtain ⟨t',rfl⟩:=ry;exact ne_int (qAW I q (congrArg not dec_int))
  | str j=>obtain ⟨t',rfl⟩:=ry;exact PySem.EqMixed.ne_int_str (qAW I q (by simp))
  | _=>exact absurd (show false=true from hs) Bool.false_ne_true
 | str i=>
  obtain ⟨t,rfl⟩:=rx
  cases y with
  | non=>cases ry;exact PySem.EqNone.ne_str_none (qAW I q (by simp))
  | bl j=>cases ry;exact PySem.EqMixed.ne_str_bool (qAW I q (by simp))
  | int j=>obtain ⟨t',rfl⟩:=ry;exact PySem.EqMixed.ne_str_int (qAW I q (by simp))
  | str j=>obtain ⟨t',rfl⟩:=ry;exact ne_str (qAW I q (congrArg not dec_str))
  | _=>exact absurd (show false=true from hs) Bool.false_ne_true
 | byt i=>
  obtain ⟨t,rfl⟩:=rx
  cases y with
  | byt j=>obtain ⟨t',rfl⟩:=ry;exact PySem.W.ne_bytes (qAW I q (congrArg not dec_byt))
  | _=>exact absurd (show false=true from hs) Bool.false_ne_true
 | _=>cases y <;> exact absurd (show false=true from hs) Bool.false_ne_true
theorem op_lt:OpR X (compareOp .Lt) (rI0 fun i j=>.bl (decide (i<j))):=opB0 fun _ _ _ _ _ _ _ q=>lt_int q
theorem op_le:OpR X (compareOp .LtE) (rI0 fun i j=>.bl (decide (i≤j))):=opB0 fun _ _ _ _ _ _ _ q=>le_int q
theorem op_gt:OpR X (compareOp .Gt) (rI0 fun i j=>.bl (decide (j<i))):=opB0 fun _ _ _ _ _ _ _ q=>gt_int q
theorem op_ge:OpR X (compareOp .GtE) (rI0 fun i j=>.bl (decide (j≤i))):=opB0 fun _ _ _ _ _ _ _ q=>ge_int q
theorem nomark (b:Expr) {op:CmpOp} (h:op ≠ .In:=by decide) (h2:op ≠ .NotIn:=by decide):behindInMarks op b=false:=by
 have e1:(op == CmpOp.In)=false:=by cases op <;> first | rfl | exact absurd rfl h
 have e2:(op == CmpOp.NotIn)=false:=by cases op <;> first | rfl | exact absurd rfl h2
 cases b <;> simp [behindInMarks,e1,e2]
theorem qAX {op:CmpOp} {r:R2} (ho:OpR X (compareOp op) r) (ha:PE X a ta) (hb:PE X b tb) (hm:behindInMarks op b=false):PE X (.Compare a [op] [b] pos) (tOp r ta tb):=by
 intro pins s σ H Q I h
 exact wpAny_Compare1 (binT ha hb I h fun v u s2 x y H2 I2 rx ry q=>ho pins s2 σ H2 x y v u Q I2 rx ry q) hm
def tTest (t:TE):TT:=fun σ H Q=>t σ H fun x H'=>∃ k,x=.bl k∧Q k H'
theorem qAB {op:CmpOp} {r:R2} (ho:OpR X (compareOp op) r) (ha:PE X a ta) (hb:PE X b tb) (hm:behindInMarks op b=false):PT X (.Compare a [op] [b] pos) (tTest (tOp r ta tb)):=by
 intro pins s σ H Q I h
 refine wpAny_isTrue_Compare1 (thn (ha pins s σ H _ I h) fun v s1 ⟨x,H1,I1,r1,q1⟩=>thn (hb pins s1 σ H1 _ I1 q1) fun u s2 ⟨y,H2,I2,r2,q2⟩=>
  thn (ho pins s2 σ H2 x y v u _ I2 r1 r2 q2) fun c s3 ⟨z,H3,I3,r3,k,e,q3⟩=>?_) hm
 subst e
 cases r3
 exact wpAny_truthy_bool ⟨H3,I3,q3⟩
def tChain (r r':R2) (ta tb tc:TE):TE:=fun σ H Q=>ta σ H fun x H1=>tb σ H1 fun y H2=>r x y H2 fun z H3=>∃ k,z=.bl k∧
 (if k=true then tc σ H3 fun w' H4=>r' y w' H4 Q else Q (.bl false) H3)
theorem pe_chain {op op':CmpOp} {r r':R2} (ho:OpR X (compareOp op) r) (ho':OpR X (compareOp op') r') (ha:PE X a ta) (hb:PE X b tb) (hc:PE X c tc)
  (hm:lastMarks [op,op'] [b,c]=false:=by with_unfolding_all rfl):PE X (.Compare a [op,op'] [b,c] pos) (tChain r r' ta tb tc):=by
 intro pins s σ H Q I h
 refine Compare_chain (thn (ha pins s σ H _ I h) fun v s1 ⟨x,H1,I1,r1,q1⟩=>chain_link (thn (hb pins s1 σ H1 _ I1 q1) fun u s2 ⟨y,H2,I2,r2,q2⟩=>
  thn (ho pins s2 σ H2 x y v u _ I2 r1 r2 q2) fun d s3 ⟨z,H3,I3,r3,k,e,q3⟩=>?_)) hm
 subst e
 cases r3
 refine wpAny_truthy_bool ?_
 cases k with
 | false=>exact ite_ff ⟨.bl false,H3,I3,rfl,q3⟩
 | true=>exact ite_tt (chain_last (thn (hc pins s3 σ H3 _ I3 q3) fun w' s4 ⟨z',H4,I4,r4,q4⟩=>ho' pins s4 σ H4 y z' u w' Q I4 r2 r4 q4))
theorem pt_chain {op op':CmpOp} {r r':R2} (ho:OpR X (compareOp op) r) (ho':OpR X (compareOp op') r') (ha:PE X a ta) (hb:PE X b tb) (hc:PE X c tc)
  (hm:lastMarks [op,op'] [b,c]=false:=by with_unfolding_all rfl):PT X (.Compare a [op,op'] [b,c] pos) (tTest (tChain r r' ta tb tc)):=by
 intro pins s σ H Q I h
 refine isTrue_chain (thn (ha pins s σ H _ I h) fun v s1 ⟨x,H1,I1,r1,q1⟩=>test_link (thn (hb pins s1 σ H1 _ I1 q1) fun u s2 ⟨y,H2,I2,r2,q2⟩=>
  thn (ho pins s2 σ H2 x y v u _ I2 r1 r2 q2) fun d s3 ⟨z,H3,I3,r3,k,e,q3⟩=>?_)) hm
 subst e
 cases r3
 refine wpAny_truthy_bool ?_
 cases k with
 | false=>
  obtain ⟨k',e',q'⟩:=q3
  cases e'
  exact ite_ff ⟨H3,I3,q'⟩
 | true=>
  refine ite_tt (test_last (thn (hc pins s3 σ H3 _ I3 q3) fun w' s4 ⟨z',H4,I4,r4,q4⟩=>thn (ho' pins s4 σ H4 y z' u w' _ I4 r2 r4 q4) fun d' s5 ⟨z2,H5,I5,r5,k2,e2,q5⟩=>?_))
  subst e2
  cases r5
  exact wpAny_truthy_bool ⟨H5,I5,q5⟩
def TruV (K:PySem.W.Frag) (x:V) (H:Hp) (k:Bool):Prop:=
 match x with
 | .non=>k=false
 | .bl b=>k=b
 | .int i=>k=(i != 0)
 | .str y=>y.length≤sizeLine∧k=((y.length:Int) != 0)
 | .byt y=>y.size≤sizeLine∧k=((y.size:Int) != 0)
 | .ref p=>(∃ xs,SqL K H p xs∧k=!xs.isEmpty)∨(∃ xs,SqT K H p xs∧k=!xs.isEmpty)∨∃ kvs,H p=some (.dK kvs)∧k=!kvs.isEmpty
 | _=>False
theorem isEmpty_kv {κ:Type} {kvs:List (κ × V)} {vs:List (κ × Value)} (r:KV kvs vs):(!vs.isEmpty)=!kvs.isEmpty:=by
 cases r <;> rfl
theorem isEmpty_of {xs:List V} {its:List Value} (r:Vals xs its):(!its.toArray.isEmpty)=!xs.isEmpty:=by
 cases r <;> simp
theorem line63:(sizeLine:Nat)<2 ^ 63:=by rw [sizeLine_eq];decide
theorem tru_ok:TruR X (fun x H Q=>∃ k,TruV X.K x H k∧Q k H):=by
 intro pins s σ H x v Q I rx h
 obtain ⟨k,e,q⟩:=h
 have hl:=line63
 have hs:sizeLine=16777216:=sizeLine_eq
 cases x with
 | non=>
  cases rx
  have e':k=false:=e
  subst e'
  exact truthy_none ⟨H,I,q⟩
 | bl b=>
  cases rx
  have e':k=b:=e
  subst e'
  exact wpAny_truthy_bool ⟨H,I,q⟩
 | int i=>
  obtain ⟨t,rfl⟩:=rx
  have e':k=(i != 0):=e
  subst e'
  exact PySem.P.truthy_int ⟨H,I,q⟩
 | str y=>
  obtain ⟨t,rfl⟩:=rx
  obtain ⟨hy,e'⟩:y.length≤sizeLine∧k=((y.length:Int) != 0):=e
  subst e'
  exact PySem.P.truthy_str (by lia) ⟨H,I.tok _,q⟩
 | byt y=>
  obtain ⟨t,rfl⟩:=rx
  obtain ⟨hy,e'⟩:y.size≤sizeLine∧k=((y.size:Int) != 0):=e
  subst e'
  exact PySem.W.truthy_bytes (by lia) ⟨H,I.tok _,q⟩
 | ref p=>
  cases rx
  have e':(∃ xs,SqL X.K H p xs∧k=!xs.isEmpty)∨(∃ xs,SqT X.K H p xs∧k=!xs.isEmpty)∨∃ kvs,H p=some (.dK kvs)∧k=!kvs.isEmpty:=e
  rcases e' with ⟨xs,hx,e'⟩ | ⟨xs,hx,e'⟩ | ⟨kvs,hx,e'⟩
  ·subst e'
   obtain ⟨its,r,pl,hz⟩:=I.list hx
   have hlen:=r.length
   exact wpAny_truthy_list pl.isList (by simp only [List.size_toArray];lia) ⟨H,I.tok _,by rw [isEmpty_of r];exact q⟩
  ·subst e'
   obtain ⟨its,r,pl,hz⟩:=I.tuple hx
   have hlen:=r.length
   exact truthy_tuple pl (by simp only [List.size_toArray];lia) ⟨H,I.tok _,by rw [isEmpty_of r];exact q⟩
  ·subst e'
   obtain ⟨hz,hS,vs,r,m⟩:kvs.length≤sizeLine∧(p == sysModules)=false∧∃ vs,KV kvs vs∧s.heap.DictOf (mixKind X.prog X.w) p vs:=I.hok p _ hx
   have hlen:kvs.length=vs.length:=Paired.length r
   exact wpAny_truthy_dict hS m (by lia) ⟨H,I.tok _,by rw [isEmpty_kv r];exact q⟩
 | _=>exact (show False from e).elim
theorem pt_truth (ha:PE X a ta) (he:∀ whole,isTrue a X.env whole=(do let v ← whole;standAt a.pos;holding [v] (truthy v))) :
  PT X a (fun σ H Q=>ta σ H fun x H'=>∃ k,TruV X.K x H' k∧Q k H'):=by
 intro pins s σ H Q I h
 exact isTrue_plain (thn (ha pins s σ H _ I h) fun v s1 ⟨x,H1,I1,r1,q1⟩=>tru_ok pins s1 σ H1 x v Q I1 r1 q1) (he _)
theorem qBR:OpR X (binaryOp .Add) (fun x y H Q=>∃ i j,x=.str i∧y=.str j∧i.length+j.length≤sizeLine∧Q (.str (i++j)) H):=by
 intro pins s σ H x y v u Q I rx ry h
 obtain ⟨i,j,rfl,rfl,hz,q⟩:=h
 obtain ⟨t,rfl⟩:=rx
 obtain ⟨t',rfl⟩:=ry
 exact add_str (fun t' tk=>⟨.str (i++j),H,I.tok _,⟨_,rfl⟩,q⟩) hz
theorem vals1 {x:V} {us:List Value} (r:Vals [x] us):∃ u,us=[u]∧RelV x u:=by
 cases r with
 | cons r1 r2=>cases r2;exact ⟨_,rfl,r1⟩
theorem vals2 {x y:V} {us:List Value} (r:Vals [x,y] us):∃ u w',us=[u,w']∧RelV x u∧RelV y w':=by
 cases r with
 | cons r1 r2=>
  cases r2 with
  | cons r3 r4=>cases r4;exact ⟨_,_,rfl,r1,r3⟩
theorem call_max2 (hc:X.calm=true):CallR X (.builtin "max") (fun xs H Q=>∃ i j,xs=[.int i,.int j]∧Q (.int (if j > i then j else i)) H):=by
 intro pins s σ H xs us Q I r h
 obtain ⟨i,j,rfl,q⟩:=h
 obtain ⟨u,w',rfl,⟨t,rfl⟩,⟨t',rfl⟩⟩:=vals2 r
 refine max_two_ints (I.ok.hd hc) fun h' tk k=>⟨_,H,I.kept k,?_,q⟩
 by_cases hj:j > i
 ·rw [if_pos hj,if_pos hj];exact ⟨_,rfl⟩
 ·rw [if_neg hj,if_neg hj];exact ⟨_,rfl⟩
theorem call_min2 (hc:X.calm=true):CallR X (.builtin "min") (fun xs H Q=>∃ i j,xs=[.int i,.int j]∧Q (.int (if j<i then j else i)) H):=by
 intro pins s σ H xs us Q I r h
 obtain ⟨i,j,rfl,q⟩:=h
 obtain ⟨u,w',rfl,⟨t,rfl⟩,⟨t',rfl⟩⟩:=vals2 r
 refine min_two_ints (I.ok.hd hc) fun h' tk k=>⟨_,H,I.kept k,?_,q⟩
 by_cases hj:j<i
 ·rw [if_pos hj,if_pos hj];exact ⟨_,rfl⟩
 ·rw [if_neg hj,if_neg hj];exact ⟨_,rfl⟩
theorem call_int1:CallR X (.type "int") (fun xs H Q=>(∃ i,xs=[.int i]∧Q (.int i) H)∨∃ k,xs=[.bl k]∧Q (.int (if k then 1 else 0)) H):=by
 intro pins s σ H xs us Q I r h
 rcases h with ⟨i,rfl,q⟩ | ⟨k,rfl,q⟩
 ·obtain ⟨u,rfl,t,rfl⟩:=vals1 r
  exact call_int_int ⟨.int i,H,I,⟨_,rfl⟩,q⟩
 ·obtain ⟨u,rfl,r1⟩:=vals1 r
  cases r1
  exact call_int_bool ⟨.int (if k then 1 else 0),H,I.tok _,⟨_,rfl⟩,q⟩
theorem call_str_int:CallR X (.type "str") (fun xs H Q=>∃ i,xs=[.int i]∧i.natAbs.log2<1920∧Q (.str (toString i)) H):=by
 intro pins s σ H xs us Q I r h
 obtain ⟨i,rfl,hz,q⟩:=h
 obtain ⟨u,rfl,t,rfl⟩:=vals1 r
 exact PySem.P.str_of_int hz ⟨.str _,H,I.tok _,⟨_,rfl⟩,q⟩
theorem call_divmod:CallR X (.builtin "divmod") (fun xs H Q=>∃ i j,xs=[.int i,.int j]∧CDiv i j∧∀ p,H p=none→Q (.ref p) (upd H p (.tup [.int (i / j),.int (i % j)]))):=by
 intro pins s σ H xs us Q I r h
 obtain ⟨i,j,rfl,⟨h1,h2⟩,q⟩:=h
 obtain ⟨u,w',rfl,⟨t,rfl⟩,⟨t',rfl⟩⟩:=vals2 r
 refine divmod_int (by lia) ?_ (.inl (PyProof.noPylong_small (by lia)))
 rw [Int.fdiv_eq_ediv_of_nonneg i (by lia),Int.fmod_eq_emod_of_nonneg i (by lia)]
 have hn:H s.heap.objs.size=none:=I.hok.fresh (Nat.le_refl _)
 refine ⟨.ref s.heap.objs.size,_,?_,rfl,q _ hn⟩
 refine I.laid (fun b o e=>Heap.get?_push_of_some _ e) (Nat.le_refl _) ⟨by simp only [List.length_cons,List.length_nil];rw [sizeLine_eq];decide,[.int (i / j) s.toks,.int (i % j) (s.toks+1)],.cons ⟨_,rfl⟩ (.cons ⟨_,rfl⟩ .nil),?_⟩
 exact ⟨_,Heap.get?_push_size s.heap rfl,rfl,0,rfl⟩
end
end L2
namespace L2
open PySem PySem.Spec PyProof.Rows
structure ObjM (h:Heap) (x dx C:Addr) (mA:Str→Option Value):Prop where
 obj:h.get? x=some (PySem.W.instObj C dx)
 ns:h.Ns1 dx mA
 ne:dx ≠ x
theorem lookIn_ns {h:Heap} {dx:Addr} {mA:Str→Option Value} (n:h.Ns1 dx mA):∃ od,h.get? dx=some od∧∀ name,PySem.W.lookIn name od=some (mA name):=by
 obtain ⟨o,es,ep,ho,hd,hk,_,hm⟩:=n
 refine ⟨o,ho,fun name=>?_⟩
 have e:=hm name
 unfold nsFind findBy at e
 rw [← Array.find?_toList] at e
 unfold PySem.W.lookIn
 rw [hd]
 dsimp only
 split
 ·rename_i y q
  rw [q] at e
  exact congrArg some e
 ·rename_i q
  rw [q] at e
  have a:es.toList.any (·.refKey)=false:=by
   rw [List.any_eq_false]
   intro y hy
   obtain ⟨z,t,hkey⟩:=hk y (Array.mem_toList_iff.mp hy)
   simp [DictEntry.refKey,hkey]
  have a':¬ es.toList.any (·.refKey)=true:=by rw [a];exact Bool.false_ne_true
  rw [if_neg a']
  exact congrArg some e
theorem ObjM.look {h:Heap} {x dx C:Addr} {mA:Str→Option Value} (I:ObjM h x dx C mA):∃ od,PySem.W.InstAt h x (PySem.W.instObj C dx) C (some od)∧∀ name,PySem.W.lookIn name od=some (mA name):=
 let ⟨od,ho,hl⟩:=lookIn_ns I.ns
 ⟨od,⟨I.obj,rfl,rfl,ho⟩,hl⟩
section
variable {prog:Program} {w:World} {A:Around} {E:Value→Shared→Prop} {s:Shared} {K:PySem.W.Frag} {x dx C f:Addr} {mA:Str→Option Value} {name:Str} {v:Value}
theorem get_map {expr:Bool} {Q:Value→Shared→Prop} (X:K.In s.heap) (I:ObjM s.heap x dx C mA) (hg:PySem.W.plainGet K C name=true) (hh:PySem.W.hasDictIn K C=true)
  (ha:PySem.W.findIn K (.ref C) name=some none) (hv:mA name=some v) (hv':PySem.W.handedIn v=true) (h:Q v { s with toks:=s.toks+1 }) :
  wpAny (model prog w) A (getAttr (.ref x) name expr) Q E s:=by
 obtain ⟨od,J,hl⟩:=I.look
 exact PySem.W.get_value X J (PySem.W.plainGet_of hg).1 (PySem.W.findObj_own hh ha rfl (by rw [hl,hv])) hv' h
theorem get_meth {pl:Sem Bool} {Q:Value × List Value→Shared→Prop} (X:K.In s.heap) (I:ObjM s.heap x dx C mA) (hg:PySem.W.plainGet K C name=true)
  (hf:PySem.W.findIn K (.ref C) name=some (some (.ref f))) (ht:PySem.W.isFn K (.ref f)=true) (hv:mA name=none) (h:Q (.ref f,[.ref x]) s) :
  wpAny (model prog w) A (getMethod (.ref x) name pl) Q E s:=by
 obtain ⟨od,J,hl⟩:=I.look
 exact PySem.W.method_fn X J (PySem.W.plainGet_of hg).1 (PySem.W.plainGet_of hg).2 hf (beq_iff_eq.mp ht) (by show (PySem.W.lookIn name od).map (·.isSome)=some false;rw [hl,hv];rfl) h
theorem set_map {ns:List Str} {Q:Unit→Shared→Prop} (X:K.In s.heap) (I:ObjM s.heap x dx C mA)
  (hs:PySem.W.findIn K (.ref C) "__setattr__" = some (some (.builtin "object.__setattr__"))) (hp:PySem.W.plainOver K C=true) (ht:PySem.W.takerIn K C name=some none) (hh:PySem.W.hasDictIn K C=true)
  (hw:PySem.Within mA ns) (hsz:ns.length≤sizeLine)
  (h:∀ h',ObjM h' x dx C (fun y=>if y=name then some v else mA y)→Heap.SameBut dx s.heap h'→Q () { s with heap:=h',toks:=s.toks+2 }) :
  wpAny (model prog w) A (setAttr (.ref x) name v) Q E s:=by
 obtain ⟨od,J,hl⟩:=I.look
 refine PySem.W.set_plain X J hs (PySem.W.osa_open (s:={ s with toks:=s.toks+1 }) (r:=none) X J hp ht fun b=>?_)
 obtain ⟨cd,hc,hd'⟩:=PySem.W.any_some hh
 have hx:s.heap.get? x=some ⟨.ref C,some dx,.plain,#[]⟩:=I.obj
 refine wpAny_bind (wpAny_pure (wpAny_bind (wpAny_bind (wpAny_loadPart hx (wpAny_bind (PySem.W.Looks.here (s:={ s with toks:=s.toks+1 }) (PySem.W.looks_clsIn X hc) ?_))))))
 rw [hd']
 refine wpAny_pure (a:=some dx) (wpAny_bind (wpAny_pure (wpAny_bind ?_)))
 refine wpAny_nsSet1 (s:={ s with toks:=s.toks+1 }) I.ns fun h' hn2 hs2=>?_
 obtain ⟨oD,esD,epD,hoD,hdD,hcD⟩:=hn2.count (PySem.Within.cons name v hw)
 refine wpAny_bind (wpAny_lookBehind hoD (by rw [hdD];exact pastItsLine_dict (Nat.le_trans hcD (by rw [List.length_cons];lia))) ?_)
 exact wpAny_pure (h _ ⟨(hs2.2 _ (Ne.symm I.ne)).trans I.obj,hn2,I.ne⟩ hs2)
theorem make_map {R:Result→Shared→Prop} {vs:List Value} {kw:List (Str × Value)} (X:K.In s.heap) (hm:PySem.W.makesIn K C=true)
  (hi:PySem.W.findIn K (.ref C) "__init__" = some (some (.ref f))) (hf:PySem.W.typeIn K (.ref f)=some (.type "function"))
  (h:codeAny (model prog w) (A.under (.builtin "type.__call__" ⟨.ref C::vs,kw⟩)) (.call (.ref f) ⟨.ref (s.heap.objs.size+1)::vs,kw⟩) (PySem.W.InitBack (s.heap.objs.size+1) R)
   { s with heap:=(s.heap.push PySem.W.emptyDict).push (PySem.W.instObj C s.heap.objs.size) }) :
  codeAny (model prog w) A (.call (.ref C) ⟨vs,kw⟩) R s:=by
 obtain ⟨hh,g,d,t,os⟩:=s
 exact PySem.W.make_core (PySem.W.makes_of X hm) (PySem.W.looks_findIn X hi) (fun self=>PySem.W.bind_fn X self hf) (.inl rfl) h
end
noncomputable def putF (f:Str) (v:V):List (Str × V)→List (Str × V)
 | []=>[(f,v)]
 | (g,x)::r=>if g=f then (g,v)::r else (g,x)::putF f v r
theorem qAC (f g:Str) (v:V):∀ fs:List (Str × V),(putF f v fs).lookup g=if g=f then some v else fs.lookup g
 | []=>by
  show List.lookup g [(f,v)]=_
  by_cases h:g=f
  ·have hb:(g == f)=true:=beq_iff_eq.mpr h
   simp only [List.lookup,hb,if_pos h]
  ·have hb:(g == f)=false:=beq_eq_false_iff_ne.mpr h
   simp only [List.lookup,hb,if_neg h]
 | (k,x)::r=>by
  have ih:=qAC f g v r
  rw [show putF f v ((k,x)::r)=(if k=f then (k,v)::r else (k,x)::putF f v r) from rfl]
  by_cases hk:k=f
  ·rw [if_pos hk]
   by_cases h:g=k
   ·have hb:(g == k)=true:=beq_iff_eq.mpr h
    simp only [List.lookup,hb,if_pos (h.trans hk)]
   ·have hb:(g == k)=false:=beq_eq_false_iff_ne.mpr h
    simp only [List.lookup,hb,if_neg (fun e:g=f=>h (e.trans hk.symm))]
  ·rw [if_neg hk]
   by_cases h:g=k
   ·have hb:(g == k)=true:=beq_iff_eq.mpr h
    simp only [List.lookup,hb,if_neg (fun e:g=f=>hk (h.symm.trans e))]
   ·have hb:(g == k)=false:=beq_eq_false_iff_ne.mpr h
    simp only [List.lookup,hb]
    exact ih
theorem qCI (f:Str) (v:V):∀ fs:List (Str × V),f ∈ (putF f v fs).map (·.1)∧∀ g,g ∈ fs.map (·.1)→g ∈ (putF f v fs).map (·.1)
 | []=>⟨by simp [putF],fun g h=>by simp at h⟩
 | (k,x)::r=>by
  obtain ⟨i1,i2⟩:=qCI f v r
  rw [show putF f v ((k,x)::r)=(if k=f then (k,v)::r else (k,x)::putF f v r) from rfl]
  by_cases hk:k=f
  ·rw [if_pos hk]
   subst hk
   exact ⟨by simp,fun g h=>by simpa using h⟩
  ·rw [if_neg hk]
   refine ⟨?_,fun g h=>?_⟩
   ·rw [List.map_cons]
    exact List.mem_cons_of_mem _ i1
   ·rw [List.map_cons] at h ⊢
    rcases List.mem_cons.mp h with e | e
    ·exact List.mem_cons.mpr (.inl e)
    ·exact List.mem_cons_of_mem _ (i2 g e)
theorem qBS (f:Str) (v:V):∀ fs:List (Str × V),(putF f v fs).length≤fs.length+1
 | []=>by simp [putF]
 | (k,x)::r=>by
  have ih:=qBS f v r
  rw [show putF f v ((k,x)::r)=(if k=f then (k,v)::r else (k,x)::putF f v r) from rfl]
  by_cases hk:k=f
  ·rw [if_pos hk,List.length_cons,List.length_cons];lia
  ·rw [if_neg hk,List.length_cons,List.length_cons];lia
theorem RelO.some_of {v:V} {o:Option Value} (r:RelO (some v) o):∃ u,o=some u∧RelV v u:=by
 cases o with
 | none=>exact (show False from r).elim
 | some u=>exact ⟨u,rfl,r⟩
theorem RelO.none_of {o:Option Value} (r:RelO none o):o=none:=by
 cases o with
 | none=>rfl
 | some u=>exact (show False from r).elim
theorem handed_of {v:V} {u:Value} (r:RelV v u):PySem.W.handedIn u=true:=by
 cases v with
 | non=>cases (show u=Value.none from r);rfl
 | bl b=>cases (show u=Value.bool b from r);rfl
 | int i=>obtain ⟨t,e⟩:=(show ∃ t,u=Value.int i t from r);cases e;rfl
 | str x=>obtain ⟨t,e⟩:=(show ∃ t,u=Value.str x t from r);cases e;rfl
 | byt b=>obtain ⟨t,e⟩:=(show ∃ t,u=Value.bytes b t from r);cases e;rfl
 | flt b=>obtain ⟨t,e⟩:=(show ∃ t,u=Value.float b t from r);cases e;rfl
 | ref a=>cases (show u=Value.ref a from r);rfl
 | ty n=>cases (show u=Value.type n from r);rfl
section
variable {P:Program} {w:World} {H H':Hp} {h h':Heap} {a C dx:Addr} {fs fs':List (Str × V)}
theorem ins_get (hok:HOk P w H h) (e:H a=some (.ins C dx fs)):∃ mA,ObjM h a dx C mA∧(∀ f,RelO (fs.lookup f) (mA f))∧PySem.Within mA (fs.map (·.1))∧fs.length≤1000∧H dx=some (.own a):=by
 obtain ⟨d,z,ne,ob,mA,n,r,q⟩:=(show ObjOk P w H h a (.ins C dx fs) from hok a _ e)
 exact ⟨mA,⟨ob,n,ne⟩,r,q,z,d⟩
end
structure Cls (K:PySem.W.Frag) (C:Addr):Prop where
 pg:PySem.W.plainGet K C Str.empty=true
 hd:PySem.W.hasDictIn K C=true
 po:PySem.W.plainOver K C=true
 sa:PySem.W.findIn K (.ref C) "__setattr__" = some (some (.builtin "object.__setattr__"))
theorem Cls.get {K:PySem.W.Frag} {C:Addr} (c:Cls K C) (f:Str):PySem.W.plainGet K C f=true:=c.pg
def NoAttr (K:PySem.W.Frag) (C:Addr) (f:Str):Prop:=PySem.W.findIn K (.ref C) f=some none
theorem NoAttr.taker {K:PySem.W.Frag} {C:Addr} {f:Str} (n:NoAttr K C f):PySem.W.takerIn K C f=some none:=by
 unfold PySem.W.takerIn
 rw [show PySem.W.findIn K (.ref C) f=some none from n]
 rfl
structure Con (K:PySem.W.Frag) (C:Addr) (f:Str) (v:V) (u:Value):Prop where
 at_:PySem.W.findIn K (.ref C) f=some (some u)
 rel:RelV v u
 get:PySem.W.specialIn K u "__get__" = some none
 cp:PySem.W.copiedNames.contains f=false
structure Meth (K:PySem.W.Frag) (C:Addr) (m:Str) (f:Addr):Prop where
 at_:PySem.W.findIn K (.ref C) m=some (some (.ref f))
 fn:PySem.W.isFn K (.ref f)=true
 kp:PySem.W.keepIn K (.ref f)=true
section
variable {X:Cx} {pins:List (Addr × Obj)} {σ:St} {H:Hp} {s:Shared} {a C dx:Addr} {fs:List (Str × V)} {f:Str} {v:V} {A:Around} {E:Value→Shared→Prop}
theorem getattr_ok {b:Bool} {Q:Value→Shared→Prop} (I:Inv X pins σ H s) (e:H a=some (.ins C dx fs)) (c:Cls X.K C) (n:NoAttr X.K C f) (l:fs.lookup f=some v)
  (h:∀ u s',Inv X pins σ H s'→RelV v u→Q u s'):wpAny (model X.prog X.w) A (getAttr (.ref a) f b) Q E s:=by
 obtain ⟨mA,O,r,_,_,_⟩:=ins_get I.hok e
 obtain ⟨u,hu,ru⟩:=RelO.some_of (v:=v) (o:=mA f) (by rw [← l];exact r f)
 exact get_map I.kIn O (c.get f) c.hd n hu (handed_of ru) (h u _ (I.tok _) ru)
theorem getmeth_ok {m:Str} {g:Addr} {pl:Sem Bool} {Q:Value × List Value→Shared→Prop} (I:Inv X pins σ H s) (e:H a=some (.ins C dx fs)) (c:Cls X.K C) (k:Meth X.K C m g) (l:fs.lookup m=none)
  (h:Q (.ref g,[.ref a]) s):wpAny (model X.prog X.w) A (getMethod (.ref a) m pl) Q E s:=by
 obtain ⟨mA,O,r,_,_,_⟩:=ins_get I.hok e
 have hn:mA m=none:=RelO.none_of (by rw [← l];exact r m)
 exact get_meth I.kIn O (c.get m) k.at_ k.fn hn h
theorem setattr_ok {y:V} {u:Value} {Q:Unit→Shared→Prop} (I:Inv X pins σ H s) (e:H a=some (.ins C dx fs)) (c:Cls X.K C) (n:NoAttr X.K C f) (hl:fs.length<1000) (ry:RelV y u)
  (h:∀ s',Inv X pins σ (upd H a (.ins C dx (putF f y fs))) s'→Q () s'):wpAny (model X.prog X.w) A (setAttr (.ref a) f u) Q E s:=by
 obtain ⟨mA,O,r,wi,_,ho⟩:=ins_get I.hok e
 have hz:(fs.map (·.1)).length≤sizeLine:=by rw [List.length_map,sizeLine_eq];lia
 refine set_map I.kIn O c.sa c.po n.taker c.hd wi hz fun h' O' sb=>h _ ?_
 have hd:∃ o,h'.get? dx=some o:=let ⟨o,_,_,e',_⟩:=O'.ns;⟨o,e'⟩
 refine I.write (x:=a) (e:=dx) (by rw [e];exact True.intro) (.inr ho) (fun b q hb z=>(sb.2 b hb).trans z) hd ?_
 refine ⟨by rw [qA7 O.ne];exact ho,?_,O.ne,O'.obj,_,O'.ns,fun g=>?_,fun g hg=>?_⟩
 ·have:=qBS f y fs;lia
 ·show RelO ((putF f y fs).lookup g) (if g=f then some u else mA g)
  rw [qAC]
  by_cases q:g=f
  ·rw [if_pos q,if_pos q];exact ry
  ·rw [if_neg q,if_neg q];exact r g
 ·by_cases q:g=f
  ·rw [q];exact (qCI f y fs).1
  ·refine (qCI f y fs).2 g (wi g fun z=>hg ?_)
   show (if g=f then some u else mA g)=none
   rw [if_neg q];exact z
theorem Inv.made (I:Inv X pins σ H s):Inv X pins σ (upd (upd H s.heap.objs.size (.own (s.heap.objs.size+1))) (s.heap.objs.size+1) (.ins C s.heap.objs.size []))
  { s with heap:=(s.heap.push PySem.W.emptyDict).push (PySem.W.instObj C s.heap.objs.size) }:=by
 have e1:(s.heap.push PySem.W.emptyDict).get? s.heap.objs.size=some PySem.W.emptyDict:=Heap.get?_push_size s.heap rfl
 have e2:((s.heap.push PySem.W.emptyDict).push (PySem.W.instObj C s.heap.objs.size)).get? (s.heap.objs.size+1)=some (PySem.W.instObj C s.heap.objs.size):=by
  have:=Heap.get?_push_size (s.heap.push PySem.W.emptyDict) (o:=PySem.W.instObj C s.heap.objs.size) rfl
  rwa [Heap.size_push] at this
 have e3:(s.heap.push PySem.W.emptyDict).Ns s.heap.objs.size (fun _=>none):=⟨PySem.W.emptyDict,#[],_,e1,rfl,(fun e he=>absurd he (by simp)),fun _=>rfl⟩
 have I1:=I.laid (a:=s.heap.objs.size) (o:=.own (s.heap.objs.size+1)) (h':=s.heap.push PySem.W.emptyDict) (t':=s.toks) (fun b u q=>Heap.get?_push_of_some _ q) (Nat.le_refl _) ⟨_,e1⟩
 refine I1.laid (a:=s.heap.objs.size+1) (o:=.ins C s.heap.objs.size []) (t':=s.toks) (fun b u q=>Heap.get?_push_of_some _ q) (Nat.le_of_eq (Heap.size_push _ _)) ?_
 have ne:s.heap.objs.size ≠ s.heap.objs.size+1:=Nat.ne_of_lt (Nat.lt_succ_self _)
 refine ⟨by rw [qA7 ne,qA1],Nat.zero_le _,ne,e2,fun _=>none,(Heap.Ns1.of_empty e3).at fun o q=>Heap.get?_push_of_some _ q,fun _=>True.intro,fun y hy=>absurd rfl hy⟩
theorem attr_of {prog:Program} {w:World} {env:Env} {e:Expr} {f:Str} {pos:Pos} {s:Shared} {Q:Value→Shared→Prop} (hb:attributeBase e f env (eval e env)=eval e env)
  (h:wpAny (model prog w) A (eval e env) (fun o s₁=>wpAny (model prog w) A (getAttr o f true) Q E s₁) E s):wpAny (model prog w) A (eval (.Attribute e f pos) env) Q E s:=
 Attribute_any_ h (by rw [arm_eval_Attribute,hb])
end
def tFld (K:PySem.W.Frag) (ta:TE) (f:Str):TE:=fun σ H Q=>ta σ H fun x H1=>∃ a C dx fs v,x=.ref a∧H1 a=some (.ins C dx fs)∧Cls K C∧NoAttr K C f∧fs.lookup f=some v∧Q v H1
def sFld (K:PySem.W.Frag) (ta tv:TE) (f:Str):TS:=fun D σ H=>tv σ H fun y H1=>ta σ H1 fun x H2=>∃ a C dx fs,x=.ref a∧H2 a=some (.ins C dx fs)∧Cls K C∧NoAttr K C f∧fs.length<1000∧
 D.nx σ (upd H2 a (.ins C dx (putF f y fs)))
section
variable {X:Cx} {o e value:Expr} {f:Str} {pos pos' tpos:Pos} {ta tv:TE}
theorem qBL (he:PE X e ta) (hb:attributeBase e f X.env (eval e X.env)=eval e X.env):PE X (.Attribute e f pos) (tFld X.K ta f):=by
 intro pins s σ H Q I h
 refine attr_of hb (thn (he pins s σ H _ I h) fun u s1 ⟨x,H1,I1,rx,a,C,dx,fs,v,ex,ea,c,n,l,q⟩=>?_)
 subst ex
 obtain rfl:u=Value.ref a:=rx
 exact getattr_ok I1 ea c n l fun u' s2 I2 ru=>⟨v,H1,I2,ru,q⟩
theorem ps_fld (ha:PE X o ta) (hv:PE X value tv) (hs:swapsWith value (some (.Attribute o f pos')) pos.line X.env=pure false):PS X (.Assign [.Attribute o f pos'] value pos) (sFld X.K ta tv f):=by
 intro pins s σ H D I h
 refine plainObj_wpAny_Assign_Attribute (thn (hv pins s σ H _ I h) fun u s1 ⟨y,H1,I1,ry,q⟩=>thn (ha pins s1 σ H1 _ I1 q) fun ov s2 ⟨x,H2,I2,rx,a,C,dx,fs,ex,ea,c,n,l,q2⟩=>?_) hs
 subst ex
 obtain rfl:ov=Value.ref a:=rx
 exact setattr_ok I2 ea c n l ry fun s3 I3=>⟨σ,_,I3,q2⟩
theorem methcall_of {pl:Sem Bool} {m:Str} {apos:Pos} {args:List Expr} {pins:List (Addr × Obj)} {s:Shared} {σ:St} {H:Hp} {Q:Value→Shared→Prop} {te:TE} (he:PE X e te) (I:Inv X pins σ H s)
  (h:te σ H fun x H1=>∃ a C dx fs g,x=.ref a∧H1 a=some (.ins C dx fs)∧Cls X.K C∧Meth X.K C m g∧fs.lookup m=none∧
   ∀ s1,Inv X pins σ H1 s1→wpAny (model X.prog X.w) X.A (callWith pos (.ref g) [.ref a] (backTo pos (starEach args X.env)) (backToKw pos (keywordEach [] X.env))) Q X.xe s1)
  (ht:eval (.Call (.Attribute e m apos) args [] pos) X.env=(do
   let ov ← eval e X.env
   standAt apos.atName
   let (f,first) ← holding [ov] (getMethod ov m pl)
   callWith pos f first (backTo pos (starEach args X.env)) (backToKw pos (keywordEach [] X.env)))) :
  wpAny (model X.prog X.w) X.A (eval (.Call (.Attribute e m apos) args [] pos) X.env) Q X.xe s:=by
 refine PySem.W.methodCall_KW (pl:=pl) (thn (he pins s σ H _ I h) fun u s1 ⟨x,H1,I1,rx,a,C,dx,fs,g,ex,ea,c,k,l,q⟩=>?_) ht
 subst ex
 obtain rfl:u=Value.ref a:=rx
 exact getmeth_ok I1 ea c k l (q s1 I1)
end
section
variable {X:Cx} {pins:List (Addr × Obj)} {σ:St} {H:Hp} {s:Shared} {A:Around} {E:Value→Shared→Prop} {Q:Value→Shared→Prop} {c:Value} {b:Bool}
inductive TyOf (K:PySem.W.Frag) (H:Hp):V→Value→Prop where
 | non:TyOf K H .non (.type "NoneType")
 | bl (x:Bool):TyOf K H (.bl x) (.type "bool")
 | int (i:Int):TyOf K H (.int i) (.type "int")
 | str (x:Str):TyOf K H (.str x) (.type "str")
 | flt (x:UInt64):TyOf K H (.flt x) (.type "float")
 | lst {a:Addr} {xs:List V} (e:H a=some (.lst xs)):TyOf K H (.ref a) (.type "list")
 | frz {a:Addr} {o:Obj} {xs:List V} (e:H a=some (.frz o (.lst xs))):TyOf K H (.ref a) (.type "list")
 | tup {a:Addr} {xs:List V} (e:H a=some (.tup xs)):TyOf K H (.ref a) (.type "tuple")
 | dK {a:Addr} {kvs:List (Key × V)} (e:H a=some (.dK kvs)):TyOf K H (.ref a) (.type "dict")
 | dT {a:Addr} {kvs:List (List Key × V)} (e:H a=some (.dT kvs)):TyOf K H (.ref a) (.type "dict")
 | ins {a C dx:Addr} {fs:List (Str × V)} (e:H a=some (.ins C dx fs)) (cl:Cls K C) (ha:PySem.W.findIn K (.ref C) "__class__" = some (some (.builtin "object.__class__")))
   (hn:PySem.W.specialIn K (.builtin "object.__class__") "__get__" = some (some (.builtin "getset_descriptor.__get__"))) (htk:PySem.W.takesIn K (.builtin "object.__class__")=some true)
   (hm:PySem.W.mroIn K C (.type "object")=some true):TyOf K H (.ref a) (.ref C)
theorem isinst_ok {x:V} {u t:Value} (I:Inv X pins σ H s) (rx:RelV x u) (ty:TyOf X.K H x t) (e:PySem.W.kitOne X.K t c=some b) (h:∀ tk,Q (.bool b) { s with toks:=tk }) :
  wpAny (model X.prog X.w) A (call (.builtin "isinstance") [u,c]) Q E s:=by
 cases ty with
 | non=>cases (show u=Value.none from rx);exact PySem.W.kia_one PySem.W.kitx_none I.kIn True.intro e (fun z=>nomatch z) h
 | bl y=>cases (show u=Value.bool y from rx);exact PySem.W.kia_one PySem.W.kitx_bool I.kIn True.intro e (fun z=>nomatch z) h
 | int i=>obtain ⟨t,q⟩:=(show ∃ t,u=Value.int i t from rx);cases q;exact PySem.W.kia_one PySem.W.kitx_int I.kIn True.intro e (fun z=>nomatch z) h
 | str y=>obtain ⟨t,q⟩:=(show ∃ t,u=Value.str y t from rx);cases q;exact PySem.W.kia_one PySem.W.kitx_str I.kIn True.intro e (fun z=>nomatch z) h
 | flt y=>obtain ⟨t,q⟩:=(show ∃ t,u=Value.float y t from rx);cases q;exact PySem.W.kia_one PySem.W.kitx_float I.kIn True.intro e (fun z=>nomatch z) h
 | @lst a xs ea=>
  cases (show u=Value.ref a from rx)
  obtain ⟨_,_,n,_,h1⟩:=(show ObjOk X.prog X.w H s.heap a (.lst xs) from I.hok a _ ea)
  exact PySem.W.kia_one PySem.W.kitx_list I.kIn ⟨_,h1,rfl⟩ e (fun z=>nomatch z) h
 | @frz a ob xs ea=>
  cases (show u=Value.ref a from rx)
  obtain ⟨_,_,_,n,_,h1⟩:=(show ObjOk X.prog X.w H s.heap a (.frz ob (.lst xs)) from I.hok a _ ea)
  exact PySem.W.kia_one PySem.W.kitx_list I.kIn ⟨_,h1,rfl⟩ e (fun z=>nomatch z) h
 | @tup a xs ea=>
  cases (show u=Value.ref a from rx)
  obtain ⟨_,_,_,p⟩:=(show ObjOk X.prog X.w H s.heap a (.tup xs) from I.hok a _ ea)
  obtain ⟨o,h1,h2,_⟩:=p
  exact PySem.W.kia_one PySem.W.kitx_tuple I.kIn ⟨o,h1,h2⟩ e (fun z=>nomatch z) h
 | @dK a kvs ea=>
  cases (show u=Value.ref a from rx)
  obtain ⟨_,_,vs,_,p⟩:=(show ObjOk X.prog X.w H s.heap a (.dK kvs) from I.hok a _ ea)
  obtain ⟨o,es,ep,h1,h2,_⟩:=p
  exact PySem.W.kia_one PySem.W.kitx_dict I.kIn ⟨o,h1,h2.1⟩ e (fun z=>nomatch z) h
 | @dT a kvs ea=>
  cases (show u=Value.ref a from rx)
  obtain ⟨_,_,xs,_,o,es,ep,h1,h2,_⟩:=(show ObjOk X.prog X.w H s.heap a (.dT kvs) from I.hok a _ ea)
  exact PySem.W.kia_one PySem.W.kitx_dict I.kIn ⟨o,h1,h2.1⟩ e (fun z=>nomatch z) h
 | @ins a C dx fs ea cl ha hn htk hm=>
  cases (show u=Value.ref a from rx)
  obtain ⟨mA,O,_⟩:=ins_get I.hok ea
  obtain ⟨od,J,_⟩:=O.look
  exact PySem.W.kia_one (PySem.W.kitx_own (cl.get _) cl.hd ha hn htk hm) I.kIn J e (fun z=>nomatch z) h
end
end L2
namespace L2
open PySem PySem.Spec PyProof.Rows
structure Room (k:Nat) (A:Around):Prop where
 hd:A.handled=none
 dp:A.depth+3 * k+5<recursionLimit
 un:A.units+16 * k+200<cLine
 gd:A.guards=some []
theorem Room.mono {j k:Nat} {A:Around} (r:Room k A) (h:j≤k):Room j A:=⟨r.hd,by have:=r.dp;lia,by have:=r.un;lia,r.gd⟩
theorem Room.deeper {k:Nat} {A:Around} (r:Room (k+1) A) (env:Env):Room k (A.deeper env):=
 ⟨r.hd,by have:=r.dp;show A.depth+1+3 * k+5<_;lia,by have:=r.un;show A.units+3+16 * k+200<_;lia,r.gd⟩
theorem make_depth {A:Around} {C:Addr} {us:List Value} {kw:List (Str × Value)}:(A.under (.builtin "type.__call__" ⟨.ref C::us,kw⟩)).depth=A.depth+1:=by
 first | rfl | simp [Around.under,Code.weight,Code.isCreation,Code.isGuard,Code.isCaller,Code.frames,Code.isFrame,guardIds]
theorem make_units {A:Around} {C:Addr} {us:List Value} {kw:List (Str × Value)}:(A.under (.builtin "type.__call__" ⟨.ref C::us,kw⟩)).units=A.units+1:=by
 first | rfl | simp [Around.under,Code.cUnits,Code.frames,Code.isFrame]
theorem Room.make {k:Nat} {A:Around} (r:Room (k+1) A) (C:Addr) (us:List Value) (kw:List (Str × Value)):Room k (A.under (.builtin "type.__call__" ⟨.ref C::us,kw⟩)):=
 ⟨r.hd,by have:=r.dp;rw [make_depth];lia,by have:=r.un;rw [make_units];lia,by first | exact r.gd | simp [Around.under,Code.guards,Code.isGuard,pushGuards,guardIds,r.gd]⟩
theorem Room.depth {k:Nat} {A:Around} (r:Room k A):A.depth<recursionLimit:=by have:=r.dp;lia
theorem Room.units {k:Nat} {A:Around} (r:Room k A):A.units+64<cLine:=by have:=r.un;lia
theorem Room.units0 {k:Nat} {A:Around} (r:Room k A):A.units<cLine:=by have:=r.un;lia
def tNil:TA:=fun _ H Q=>Q [] H
def tCons (ta:TE) (tr:TA):TA:=fun σ H Q=>ta σ H fun x H1=>tr σ H1 fun xs H2=>Q (x::xs) H2
section
variable {X:Cx} {e:Expr} {es:List Expr} {te:TE} {t:TA} {pos:Pos}
theorem qA4:PA X [] tNil:=fun _ _ _ _ H Q I h=>Calls.spliced_nil ⟨[],H,I,.nil,h⟩
theorem qA0 (ha:PE X e te) (hr:PA X es t) (hs:starEach (e::es) X.env=(false,eval e X.env)::starEach es X.env:=by rfl):PA X (e::es) (tCons te t):=by
 intro pos pins s σ H Q I h
 rw [hs]
 show wpAny _ _ (spliced ((false,eval e X.env)::backTo pos (starEach es X.env))) _ _ s
 refine Calls.spliced_cons (thn (ha pins s σ H _ I h) fun u s1 ⟨x,H1,I1,r1,q1⟩=>?_)
 exact thn (hr pos pins s1 σ H1 _ I1 q1) fun us s2 ⟨xs,H2,I2,r2,q2⟩=>⟨x::xs,H2,I2,.cons r1 r2,q2⟩
def tTup (t:TA):TE:=fun σ H Q=>t σ H fun xs H1=>xs.length≤sizeLine∧∀ p,H1 p=none→Q (.ref p) (upd H1 p (.tup xs))
def tLst (t:TA):TE:=fun σ H Q=>t σ H fun xs H1=>xs.length≤sizeLine∧∀ p,H1 p=none→Q (.ref p) (upd H1 p (.lst xs))
theorem qCX {x1} (h:PA X es t):PE X (.Tuple es x1 pos) (tTup t):=by
 intro pins s σ H Q I hq
 refine wpAny_Tuple_spliced (thn (h pos pins s σ H _ I hq) fun us s1 ⟨xs,H1,I1,r,z,q⟩=>⟨by rw [← r.length];exact z,?_⟩)
 have hf:H1 s1.heap.objs.size=none:=I1.hok.fresh (Nat.le_refl _)
 refine ⟨.ref s1.heap.objs.size,upd H1 s1.heap.objs.size (.tup xs),I1.laid (t':=s1.toks) (fun b u e=>Heap.get?_push_of_some _ e) (Nat.le_refl _) ?_,rfl,q _ hf⟩
 exact ⟨z,us,r,⟨_,Heap.get?_push_size _ rfl,rfl,_,rfl⟩⟩
theorem qAO (h:PA X es t):PE X (.List es pos) (tLst t):=by
 intro pins s σ H Q I hq
 refine wpAny_List_spliced (thn (h pos pins s σ H _ I hq) fun us s1 ⟨xs,H1,I1,r,z,q⟩=>⟨by rw [← r.length];exact z,?_⟩)
 have hf:H1 s1.heap.objs.size=none:=I1.hok.fresh (Nat.le_refl _)
 refine ⟨.ref s1.heap.objs.size,upd H1 s1.heap.objs.size (.lst xs),I1.laid (t':=s1.toks) (fun b u e=>Heap.get?_push_of_some _ e) (Nat.le_refl _) ?_,rfl,q _ hf⟩
 exact ⟨z,us,0,r,Heap.get?_push_size _ rfl⟩
end
abbrev Sp:=List V→Hp→VK→XK→Prop
abbrev CXT:=List Env→Hp→Shared→XK→Value→Shared→Prop
structure Env0 (P:Program) (w:World) (K:PySem.W.Frag) (mg:Str→Option Value) (base:Heap) (A:Around) (outer:List Env) (s:Shared) (H:Hp):Prop where
 frames:A.frames=some outer
 mod:Mod K mg base
 bs:∀ b o,base.get? b=some o→s.heap.get? b=some o∧H b=none
 bsz:base.objs.size≤s.heap.objs.size
 funs:s.heap.FunFrames base outer
 frf:∀ b ∈ frs outer,H b=none
 hok:HOk P w H s.heap
 bare:AllBare s.gens
def CE (outer:List Env) (P:Program) (w:World) (H:Hp) (s:Shared) (Q:VK) (u:Value) (s':Shared):Prop:=
 ∃ v H',s'.os=s.os∧AllBare s'.gens∧Un (frs outer) [] H H' s.heap s'.heap∧HOk P w H' s'.heap∧RelV v u∧Q v H'
def CR (CX:CXT) (outer:List Env) (P:Program) (w:World) (H:Hp) (s:Shared) (Q:VK) (E:XK) (r:Result) (s':Shared):Prop:=
 match r with
 | .ok (.ret u)=>CE outer P w H s Q u s'
 | .ok _=>False
 | .error e=>CX outer H s E e s'
structure FnOk (P:Program) (w:World) (K:PySem.W.Frag) (mg:Str→Option Value) (base:Heap) (CX:CXT) (k:Nat) (f:Addr) (fd:FuncData) (ps:List Str) (sp:Sp):Prop where
 len:∀ vs H Q E,sp vs H Q E→vs.length=ps.length
 run:∀ (A:Around) (outer:List Env) (s:Shared) (H:Hp) (args:Args) (us:List Value) (vs:List V) (Q:VK) (E:XK),Room k A→Env0 P w K mg base A outer s H→BindsTo s fd args (ps.zip us)→Vals vs us→sp vs H Q E→
  codeAny (model P w) A (.call (.ref f) args) (CR CX outer P w H s Q E) s
theorem Env0.make {P:Program} {w:World} {K:PySem.W.Frag} {mg:Str→Option Value} {base:Heap} {A:Around} {outer:List Env} {s:Shared} {H:Hp} (e:Env0 P w K mg base A outer s H) (C:Addr) (us:List Value) (kw:List (Str × Value)) :
  Env0 P w K mg base (A.under (.builtin "type.__call__" ⟨.ref C::us,kw⟩)) outer s H:=⟨by first | exact e.frames | (simpa [Around.under,Code.envs,Code.isFrame,pushEnvs] using e.frames),e.mod,e.bs,e.bsz,e.funs,e.frf,e.hok,e.bare⟩
section
variable {X:Cx} {pins:List (Addr × Obj)} {σ:St} {H:Hp} {s s':Shared}
theorem Inv.env0 (I:Inv X pins σ H s):Env0 X.prog X.w X.K X.mg X.base X.A X.stack s H:=
 ⟨I.ok.frames,I.ok.mod,I.bs,Nat.le_trans I.ok.bsz I.sz,I.stack,I.stkFree,I.hok,I.bare⟩
theorem Inv.after {Q:VK} {u:Value} (I:Inv X pins σ H s) (h:CE X.stack X.prog X.w H s Q u s'):EP X pins σ Q u s':=by
 obtain ⟨v,H',os,bare,un,hok,r,q⟩:=h
 obtain ⟨hh,g,d,t,os'⟩:=s'
 obtain rfl:os'=s.os:=os
 exact ⟨v,H',I.call (h':=hh) (g':=g) (d':=d) (t':=t) (ch:=[]) un hok bare (fun b z=>absurd z (by simp)),r,q⟩
end
def tCall (sp:Sp) (dvs:List V) (E:XK) (t:TA):TE:=fun σ H Q=>t σ H fun vs H1=>sp (vs++dvs) H1 Q E
def tMeth (C:Addr) (m:Str) (sp:Sp) (dvs:List V) (E:XK) (ta:TE) (t:TA):TE:=fun σ H Q=>ta σ H fun x H1=>∃ a dx fs,x=.ref a∧H1 a=some (.ins C dx fs)∧fs.lookup m=none∧
 t σ H1 fun vs H2=>sp (x::(vs++dvs)) H2 Q E
def tMake (C:Addr) (sp:Sp) (dvs:List V) (E:XK) (t:TA):TE:=fun σ H Q=>t σ H fun vs H1=>∀ x dx,H1 x=none→H1 dx=none→dx ≠ x→
 sp (.ref x::(vs++dvs)) (upd (upd H1 dx (.own x)) x (.ins C dx [])) (fun v H2=>v=.non∧Q (.ref x) H2) E
def Binds (K:PySem.W.Frag) (fd:FuncData) (ps:List Str) (ds:List Value):Prop:=
 ∀ (s:Shared) (us:List Value),K.In s.heap→(us++ds).length=ps.length→BindsTo s fd ⟨us,[]⟩ (ps.zip (us++ds))
theorem Binds.all {K:PySem.W.Frag} {fd:FuncData} {ps:List Str} (h:∀ us:List Value,us.length=ps.length→bindArgs fd ⟨us,[]⟩=pure (ps.zip us)):Binds K fd ps []:=fun s us _ hl=>by
 rw [List.append_nil] at hl ⊢
 exact .of_eq (h us hl)
def Passes (CX:CXT) (X:Cx) (E:XK):Prop:=∀ (pins:List (Addr × Obj)) (σ:St) (H:Hp) (s:Shared) (e:Value) (s':Shared),Inv X pins σ H s→CX X.stack H s E e s'→X.xe e s'
section
variable {X:Cx} {CX:CXT} {k:Nat} {f C:Addr} {fd:FuncData} {ps:List Str} {sp:Sp} {dvs:List V} {ds:List Value} {E:XK} {x m:Str} {p pos apos:Pos} {e o:Expr} {es:List Expr} {ta:TE} {t:TA}
theorem run_fn {pins:List (Addr × Obj)} {σ:St} {H:Hp} {s:Shared} {Q:VK} {us:List Value} {vs:List V} (F:FnOk X.prog X.w X.K X.mg X.base CX k f fd ps sp) (hr:Room k X.A) (hb:Binds X.K fd ps ds) (hd:Vals dvs ds) (hx:Passes CX X E)
  (I:Inv X pins σ H s) (r:Vals vs us) (h:sp (vs++dvs) H Q E):wpAny (model X.prog X.w) X.A (call (.ref f) us) (EP X pins σ Q) X.xe s:=by
 have r2:Vals (vs++dvs) (us++ds):=r.append hd
 have hl:(us++ds).length=ps.length:=by rw [← r2.length];exact F.len _ _ _ _ h
 refine wpAny_call (codeAny_mono (F.run X.A X.stack s H ⟨us,[]⟩ (us++ds) (vs++dvs) Q E hr I.env0 (hb s us I.kIn hl) r2 h) fun r s' hq=>?_)
 cases r with
 | error e=>exact hx pins σ H s e s' I hq
 | ok fl=>
  cases fl with
  | ret u=>exact I.after hq
  | next=>exact False.elim hq
  | brk=>exact False.elim hq
  | cont=>exact False.elim hq
theorem pe_call (F:FnOk X.prog X.w X.K X.mg X.base CX k f fd ps sp) (hr:Room k X.A) (hg:Gl X x) (hm:X.mg x=some (.ref f)) (hk:PySem.W.keepIn X.K (.ref f)=true) (hb:Binds X.K fd ps ds) (hd:Vals dvs ds) (hx:Passes CX X E)
  (ha:PA X (e::es) t) (hdb:(x == ("__debug__" : Str))=false:=by decide) (he:starEach (e::es) X.env=(false,eval e X.env)::starEach es X.env:=by rfl) (hpl:(backTo pos (starEach es X.env)).any (·.1)=false:=by rfl) :
  PE X (.Call (.Name x p) (e::es) [] pos) (tCall sp dvs E t):=by
 intro pins s σ H Q I h
 refine wpAny_Call_Name_kw (ld_glob I hg hm ?_ hdb)
 refine PySem.W.callWith_K (h₀:=X.base) I.ok.mod.kin hk (thn (ha pos pins s σ H _ I h) fun us s1 ⟨vs,H1,I1,r,q⟩=>⟨I1.kIn,?_⟩) he hpl
 exact run_fn F hr hb hd hx I1 r q
theorem pe_meth {pl:Sem Bool} (he:PE X o ta) (c:Cls X.K C) (hm:Meth X.K C m f) (F:FnOk X.prog X.w X.K X.mg X.base CX k f fd ps sp) (hr:Room k X.A) (hb:Binds X.K fd ps ds) (hd:Vals dvs ds) (hx:Passes CX X E) (ha:PA X (e::es) t)
  (hst:starEach (e::es) X.env=(false,eval e X.env)::starEach es X.env:=by rfl) (hpl:(backTo pos (starEach es X.env)).any (·.1)=false:=by rfl)
  (ht:eval (.Call (.Attribute o m apos) (e::es) [] pos) X.env=(do
   let ov ← eval o X.env
   standAt apos.atName
   let (f,first) ← holding [ov] (getMethod ov m pl)
   callWith pos f first (backTo pos (starEach (e::es) X.env)) (backToKw pos (keywordEach [] X.env))):=by rfl) :
  PE X (.Call (.Attribute o m apos) (e::es) [] pos) (tMeth C m sp dvs E ta t):=by
 intro pins s σ H Q I h
 refine PySem.W.methodCall_KW (pl:=pl) (thn (he pins s σ H _ I h) fun u s1 ⟨x,H1,I1,rx,a,dx,fs,ex,ea,l,q⟩=>?_) ht
 subst ex
 obtain rfl:u=Value.ref a:=rx
 refine getmeth_ok I1 ea c hm l ?_
 refine PySem.W.callWith_K (first:=[.ref a]) (h₀:=X.base) I.ok.mod.kin hm.kp (thn (ha pos pins s1 σ H1 _ I1 q) fun us s2 ⟨vs,H2,I2,r,q2⟩=>⟨I2.kIn,?_⟩) hst hpl
 exact run_fn (us:=.ref a::us) (vs:=.ref a::vs) F hr hb hd hx I2 (.cons rfl r) q2
structure Mk (K:PySem.W.Frag) (C f:Addr):Prop where
 makes:PySem.W.makesIn K C=true
 init:PySem.W.findIn K (.ref C) "__init__" = some (some (.ref f))
 fn:PySem.W.isFn K (.ref f)=true
 kp:PySem.W.keepIn K (.ref C)=true
theorem run_make {pins:List (Addr × Obj)} {σ:St} {H:Hp} {s:Shared} {Q:VK} {us:List Value} {vs:List V} (M:Mk X.K C f) (F:FnOk X.prog X.w X.K X.mg X.base CX k f fd ps sp) (hr:Room (k+1) X.A) (hb:Binds X.K fd ps ds) (hd:Vals dvs ds)
  (hx:Passes CX X E) (I:Inv X pins σ H s) (r:Vals vs us)
  (h:∀ x dx,H x=none→H dx=none→dx ≠ x→sp (.ref x::(vs++dvs)) (upd (upd H dx (.own x)) x (.ins C dx [])) (fun v H2=>v=.non∧Q (.ref x) H2) E) :
  wpAny (model X.prog X.w) X.A (call (.ref C) us) (EP X pins σ Q) X.xe s:=by
 have hq:=h (s.heap.objs.size+1) s.heap.objs.size (I.hok.fresh (Nat.le_succ _)) (I.hok.fresh (Nat.le_refl _)) (Nat.ne_of_lt (Nat.lt_succ_self _))
 have I2:=Inv.made (C:=C) I
 have r2:Vals (V.ref (s.heap.objs.size+1)::(vs++dvs)) (Value.ref (s.heap.objs.size+1)::(us++ds)):=.cons rfl (r.append hd)
 have hl:(Value.ref (s.heap.objs.size+1)::us++ds).length=ps.length:=by
  have e:=r2.length
  rw [F.len _ _ _ _ hq] at e
  exact e.symm
 refine wpAny_call (make_map (f:=f) I.kIn M.makes M.init (beq_iff_eq.mp M.fn) (codeAny_mono (F.run _ X.stack _ _ ⟨Value.ref (s.heap.objs.size+1)::us,[]⟩ (Value.ref (s.heap.objs.size+1)::(us++ds)) _ _ E (hr.make C us [])
  (I2.env0.make C us []) (hb _ (Value.ref (s.heap.objs.size+1)::us) I2.kIn hl) r2 hq) fun r s' hq'=>?_))
 cases r with
 | error e=>exact hx pins σ _ _ e s' I2 hq'
 | ok fl=>
  cases fl with
  | ret u=>
   obtain ⟨v,H',I3,rv,ev,q3⟩:=I2.after hq'
   subst ev
   exact ⟨rv,⟨V.ref (s.heap.objs.size+1),H',I3,rfl,q3⟩⟩
  | next=>exact False.elim hq'
  | brk=>exact False.elim hq'
  | cont=>exact False.elim hq'
theorem pe_make0 (M:Mk X.K C f) (F:FnOk X.prog X.w X.K X.mg X.base CX k f fd ps sp) (hr:Room (k+1) X.A) (hg:Gl X x) (hm:X.mg x=some (.ref C)) (hb:Binds X.K fd ps ds) (hd:Vals dvs ds) (hx:Passes CX X E)
  (hdb:(x == ("__debug__" : Str))=false:=by decide):PE X (.Call (.Name x p) [] [] pos) (tMake C sp dvs E tNil):=by
 intro pins s σ H Q I h
 refine wpAny_Call_Name_kw (ld_glob I hg hm ?_ hdb)
 exact PySem.W.callWith_K0 I.kIn M.kp (run_make (us:=[]) M F hr hb hd hx I .nil h)
end
section
variable {X:Cx} {CX:CXT} {k:Nat} {f C:Addr} {fd:FuncData} {ps ks:List Str} {sp:Sp} {E:XK} {x m:Str} {p pos apos kpos:Pos} {e o:Expr} {es:List Expr} {kws:List Keyword} {te ta:TE} {t tk:TA} {nm:Option Str}
structure KBinds (K:PySem.W.Frag) (fd:FuncData) (ps ks:List Str) (g:List Value→List Value→List Value) (gV:List V→List V→List V):Prop where
 to:∀ (s:Shared) (us ws:List Value),K.In s.heap→(g us ws).length=ps.length→BindsTo s fd ⟨us,ks.zip ws⟩ (ps.zip (g us ws))
 rel:∀ {vs:List V} {us:List Value} {zs:List V} {ws:List Value},Vals vs us→Vals zs ws→Vals (gV vs zs) (g us ws)
variable {g:List Value→List Value→List Value} {gV:List V→List V→List V}
end
structure FnScope (N P:List Str) (sc:Scope):Prop where
 kind:sc.kind=.function
 co:sc.isCoroutine=false
 gen:sc.isGenerator=false
 nd:N.Nodup
 pre:N.take P.length=P
 par:∀ x ∈ P,sc.names.lookup x=some .local∨sc.names.lookup x=some .cell
 nofree:∀ y ∈ sc.names,y.2 ≠ .free
theorem bindL_out {kindOf:Str→Option NameKind} {x:Str}:∀ {binds:List (Str × Value)} {m:Str→Option Value},(∀ v,(x,v) ∉ binds)→bindL kindOf binds m x=m x
 | [],_,_=>rfl
 | (n,v)::r,m,h=>by
  unfold bindL
  rw [bindL_out fun w hw=>h w (List.mem_cons_of_mem _ hw)]
  split
  ·have:x ≠ n:=by rintro rfl;exact h v List.mem_cons_self
   simp [this]
  ·rfl
theorem bindC_out {kindOf:Str→Option NameKind} {x:Str}:∀ {binds:List (Str × Value)} {m:Str→Option Value},(∀ v,(x,v) ∉ binds)→bindC kindOf binds m x=m x
 | [],_,_=>rfl
 | (n,v)::r,m,h=>by
  unfold bindC
  rw [bindC_out fun w hw=>h w (List.mem_cons_of_mem _ hw)]
  split
  ·rfl
  ·have:x ≠ n:=by rintro rfl;exact h v List.mem_cons_self
   simp [this]
theorem bindL_get {kindOf:Str→Option NameKind} {x:Str} {v:Value}:∀ {P:List Str} {vs:List Value} {i:Nat} {m:Str→Option Value},P.Nodup→P[i]?=some x→vs[i]?=some v→kindOf x=some .local→
  bindL kindOf (P.zip vs) m x=some v
 | [],_,_,_,_,h,_,_=>by simp at h
 | _::_,[],_,_,_,_,h,_=>by simp at h
 | p::P,w::vs,0,m,nd,h1,h2,hk=>by
  simp at h1 h2;subst h1;subst h2
  show bindL kindOf ((p,w)::P.zip vs) m p=_
  unfold bindL
  rw [bindL_out fun v hv=>(List.nodup_cons.mp nd).1 (List.of_mem_zip hv).1,if_pos hk]
  simp
 | p::P,w::vs,i+1,m,nd,h1,h2,hk=>by
  show bindL kindOf ((p,w)::P.zip vs) m x=_
  unfold bindL
  exact bindL_get (i:=i) (List.nodup_cons.mp nd).2 (by simpa using h1) (by simpa using h2) hk
theorem bindC_get {kindOf:Str→Option NameKind} {x:Str} {v:Value}:∀ {P:List Str} {vs:List Value} {i:Nat} {m:Str→Option Value},P.Nodup→P[i]?=some x→vs[i]?=some v→kindOf x ≠ some .local→
  bindC kindOf (P.zip vs) m x=some v
 | [],_,_,_,_,h,_,_=>by simp at h
 | _::_,[],_,_,_,_,h,_=>by simp at h
 | p::P,w::vs,0,m,nd,h1,h2,hk=>by
  simp at h1 h2;subst h1;subst h2
  show bindC kindOf ((p,w)::P.zip vs) m p=_
  unfold bindC
  rw [bindC_out fun v hv=>(List.nodup_cons.mp nd).1 (List.of_mem_zip hv).1,if_neg hk]
  simp
 | p::P,w::vs,i+1,m,nd,h1,h2,hk=>by
  show bindC kindOf ((p,w)::P.zip vs) m x=_
  unfold bindC
  exact bindC_get (i:=i) (List.nodup_cons.mp nd).2 (by simpa using h1) (by simpa using h2) hk
noncomputable def start (N:List Str) (vs:List V):St:=vs.map some++List.replicate (N.length - vs.length) none
noncomputable def cxOf (CX:CXT) (P:Program) (w:World) (K:PySem.W.Frag) (mg:Str→Option Value) (base:Heap) (N:List Str) (qual:Str) (scope:Scope) (f:Addr) (cd:Value) (A:Around) (outer:List Env) (s:Shared) (H:Hp) (E:XK):Cx where
 prog:=P
 w:=w
 K:=K
 mg:=mg
 base:=base
 A:=A.deeper (envOfC qual scope s.heap.objs.size f cd)
 N:=N
 s₀:=s
 H₀:=H
 env:=envOfC qual scope s.heap.objs.size f cd
 outer:=outer
 stack:=envOfC qual scope s.heap.objs.size f cd::outer
 ex:=[]
 calm:=true
 fn:=fun _=>true
 pn:=[]
 xe:=fun e s'=>wpAny (model P w) (A.deeper (envOfC qual scope s.heap.objs.size f cd)) (leaving (envOfC qual scope s.heap.objs.size f cd) e) (fun _ s''=>CX outer H s E e s'') (fun e' s''=>CX outer H s E e' s'') s'
theorem cell_has {sc:Scope} {n:Nat} {x:Str} (h:sc.names.lookup x=some .cell):∃ c,(cellsFrom n sc.names []).lookup x=some c:=by
 have q:=PySem.W.cellsFrom_some sc.names n [] (.inl h)
 exact Option.isSome_iff_exists.mp q
theorem inv_start {CX:CXT} {P:Program} {w:World} {K:PySem.W.Frag} {mg:Str→Option Value} {base:Heap} {N ps:List Str} {qual:Str} {scope:Scope} {f:Addr} {cd:Value} {A:Around} {outer:List Env} {s s1:Shared} {H:Hp} {E:XK} {us:List Value} {vs:List V}
  (S:FnScope N ps scope) (hd:A.handled=none) (e0:Env0 P w K mg base A outer s H) (hl:vs.length=ps.length) (r:Vals vs us)
  (x:InCallC s s.heap.objs.size (bindL (envOfC qual scope s.heap.objs.size f cd).kindOf (ps.zip us) fun _=>none) (cellsFrom (s.heap.objs.size+1) scope.names []) (bindC (envOfC qual scope s.heap.objs.size f cd).kindOf (ps.zip us) fun _=>none) s1) :
  Inv (cxOf CX P w K mg base N qual scope f cd A outer s H E) [] (start N vs) H s1:=by
 have hpl:ps.length≤N.length:=by have:=congrArg List.length S.pre;rw [List.length_take] at this;lia
 obtain ⟨h1,tk,rfl,hk⟩:=x.done
 have noA:∀ b:Addr,b ∉ (cxOf CX P w K mg base N qual scope f cd A outer s H E).ex:=fun b z=>absurd (show b ∈ ([]:List Addr) from z) (by simp)
 refine ⟨⟨e0.mod,S.kind,rfl,rfl,Nat.le_refl _,fun y z c h1 h2=>?_,fun y hy=>?_,fun y c _ h=>?_,fun _=>hd,Around.frames_deeper e0.frames,.inr ⟨rfl,rfl⟩,fun b z=>absurd z (noA b),e0.bs,e0.bsz,fun b _ _=>noA b,fun b z=>absurd z (noA b),e0.funs,e0.frf⟩,
  rfl,e0.bare,Un.kept hk,⟨_,x.toInCall.ns,fun i y v h1 h2 h3=>?_⟩,fun y c h=>⟨_,x.cell y c h⟩,e0.hok.fresh (Nat.le_refl _),fun y c h=>?_,fun p hp=>absurd (show p ∈ ([]:List (Addr × Obj)) from hp) (by simp),e0.hok.kept hk,?_⟩
 ·exact name_of_addr x.apart (PySem.mem_of_lookup h1) (PySem.mem_of_lookup h2)
 ·have hy:scope.names.lookup y=some .cell∨scope.names.lookup y=some .free:=hy
  rcases hy with hy | hy
  ·exact cell_has hy
  ·exact absurd rfl (S.nofree _ (PySem.mem_of_lookup hy))
 ·exact Nat.le_of_lt (x.above y c (PySem.mem_of_lookup h))
 ·have hi:i<vs.length:=by
   unfold start at h2
   by_cases hi:i<vs.length
   ·exact hi
   ·rw [List.getElem?_append_right (by simpa using hi)] at h2
    rw [List.getElem?_replicate] at h2
    split at h2 <;> cases h2
  have ha:vs[i]?=some v:=by
   unfold start at h2
   rw [List.getElem?_append_left (by simpa using hi),List.getElem?_map] at h2
   cases e:vs[i]? with
   | none=>rw [e] at h2;cases h2
   | some a=>rw [e] at h2;cases h2;rfl
  obtain ⟨u,hu,rv⟩:=r.get ha
  have hp:ps[i]?=some y:=by
   rw [← S.pre,List.getElem?_take_of_lt (by lia)];exact h1
  have ndP:ps.Nodup:=by rw [← S.pre];exact S.nd.sublist (List.take_sublist _ _)
  refine ⟨u,rv,?_⟩
  rcases S.par y (List.mem_of_getElem? hp) with k | k
  ·exact .inl ⟨k,bindL_get ndP hp hu k⟩
  ·obtain ⟨c,e⟩:=cell_has (n:=s.heap.objs.size+1) k
   refine .inr ⟨.inl k,c,e,?_⟩
   have q:=x.cell y c e
   rw [bindC_get ndP hp hu (by show scope.names.lookup y ≠ _;rw [k];decide)] at q
   exact q
 ·exact e0.hok.fresh (Nat.le_of_lt (x.above y c (PySem.mem_of_lookup h)))
 ·unfold start
  show _=N.length
  rw [List.length_append,List.length_map,List.length_replicate]
  lia
theorem fn_of {CX:CXT} {P:Program} {w:World} {K:PySem.W.Frag} {mg:Str→Option Value} {base:Heap} {k:Nat} {f:Addr} {name qual:Str} {params:Arguments} {body:List Stmt} {scope:Scope} {dV kV doc pm cdv ct oc:Value} {an od:Option Addr}
  {osl:Array (Option Value)} {N ps:List Str} {sp:Sp} (lk:K.lookup f=some ⟨oc,od,.func (PySem.W.fnOf name qual params body scope dV kV doc pm an cdv ct),osl⟩) (hcd:PySem.W.codeIn K cdv qual=true) (S:FnScope N ps scope)
  (len:∀ vs H Q E,sp vs H Q E→vs.length=ps.length)
  (hbody:∀ (A:Around) (outer:List Env) (s:Shared) (H:Hp) (vs:List V) (Q:VK) (E:XK),Room k (A.deeper (envOfC qual scope s.heap.objs.size f cdv))→sp vs H Q E→
   ∃ t,PSs (cxOf CX P w K mg base N qual scope f cdv A outer s H E) body t∧t { nx:=fun _ H'=>Q .non H',rt:=Q } (start N vs) H) :
  FnOk P w K mg base CX (k+1) f (PySem.W.fnOf name qual params body scope dV kV doc pm an cdv ct) ps sp:=by
 refine ⟨len,fun A outer s H args us vs Q E hr e0 hb r hsp=>?_⟩
 have hl:=len _ _ _ _ hsp
 have KX:K.In s.heap:=e0.mod.kin.keeps fun b o e=>(e0.bs b o e).1
 have lim:s.heap.NoLimit:=e0.mod.nolimit.keeps fun b o e=>(e0.bs b o e).1
 have hkind:∀ y ∈ ps.zip us,scope.names.lookup y.1=some .local∨(scope.names.lookup y.1=some .cell∧((cellsFrom (s.heap.objs.size+1) scope.names []).lookup y.1).isSome=true):=fun ⟨n,v⟩ hy=>by
  rcases S.par n (List.of_mem_zip hy).1 with q | q
  ·exact .inl q
  ·exact .inr ⟨q,PySem.W.cellsFrom_some _ _ _ (.inl q)⟩
 refine codeAny_call_function hr.depth (KX _ _ lk) rfl S.co S.gen rfl (PySem.W.codeRec_of KX hcd) (hb _ _ _ _ ?_)
 refine wpAny_newFunctionEnv_cells S.kind hkind fun env he s1 x=>?_
 subst he
 refine ⟨lim.keeps x.toInCall.keep,codeAny_func ?_⟩
 obtain ⟨t,ht,hq⟩:=hbody A outer s H vs Q E (hr.deeper _) hsp
 have I:Inv (cxOf CX P w K mg base N qual scope f cdv A outer s H E) [] (start N vs) H s1:=inv_start S hr.hd e0 hl r x
 refine wpAny_mono (ht [] s1 (start N vs) H _ I hq) (fun fl s' hs=>?_) fun e s' hs=>hs
 have fin:∀ {σ':St} {H':Hp} {v:V} {u:Value},Inv (cxOf CX P w K mg base N qual scope f cdv A outer s H E) [] σ' H' s'→RelV v u→Q v H'→CE outer P w H s Q u s':=
  fun {σ' H' v u} J rv q=>⟨v,H',J.os,J.bare,J.base,J.hok,rv,q⟩
 cases fl with
 | ret u=>
  obtain ⟨v,σ',H',J,rv,q⟩:=hs
  exact fin J rv q
 | next=>
  obtain ⟨σ',H',J,q⟩:=hs
  exact fin (v:=V.non) (u:=Value.none) J rfl q
 | brk=>
  obtain ⟨_,_,_,q⟩:=hs
  exact False.elim q
 | cont=>
  obtain ⟨_,_,_,q⟩:=hs
  exact False.elim q
end L2
namespace L2
open PySem PySem.Spec PyProof.Rows
section
variable {X:Cx} {x:Str} {p pos:Pos} {e:Expr} {es:List Expr} {t:TA} {id T:String} {r:List V→Hp→VK→Prop}
def tCB (r:List V→Hp→VK→Prop) (t:TA):TE:=fun σ H Q=>t σ H fun vs H1=>r vs H1 Q
theorem qA9 (hc:CallR X (.builtin id) r) (hg:Gl X x) (hm:X.mg x=none) (hv:bootBuiltins x=some (.builtin id)) (ha:PA X (e::es) t) (hn:x ≠ "__name__":=by decide) (hdb:(x == ("__debug__" : Str))=false:=by decide)
  (he:starEach (e::es) X.env=(false,eval e X.env)::starEach es X.env:=by rfl) (hpl:(backTo pos (starEach es X.env)).any (·.1)=false:=by rfl):PE X (.Call (.Name x p) (e::es) [] pos) (tCB r t):=by
 intro pins s σ H Q I h
 refine wpAny_Call_Name_kw (ld_blt I hg hm hv ?_ hn hdb)
 exact PyProof.Rows.callWith_builtin1 (thn (ha pos pins s σ H _ I h) fun us s1 ⟨vs,H1,I1,r1,q1⟩=>hc pins s1 σ H1 vs us Q I1 r1 q1) he hpl
theorem qAH (hc:CallR X (.type T) r) (hg:Gl X x) (hm:X.mg x=none) (hv:bootBuiltins x=some (.type T)) (ha:PA X (e::es) t) (hn:x ≠ "__name__":=by decide) (hdb:(x == ("__debug__" : Str))=false:=by decide)
  (he:starEach (e::es) X.env=(false,eval e X.env)::starEach es X.env:=by rfl) (hpl:(backTo pos (starEach es X.env)).any (·.1)=false:=by rfl):PE X (.Call (.Name x p) (e::es) [] pos) (tCB r t):=by
 intro pins s σ H Q I h
 refine wpAny_Call_Name_kw (ld_blt I hg hm hv ?_ hn hdb)
 exact PyProof.Rows.callWith_type1 (thn (ha pos pins s σ H _ I h) fun us s1 ⟨vs,H1,I1,r1,q1⟩=>hc pins s1 σ H1 vs us Q I1 r1 q1) he hpl
end
end L2
namespace HT
open PySem PyProof.Rows
noncomputable def lexLt:List Int→List Int→Bool
 | [],[]=>false
 | [],_::_=>true
 | _::_,[]=>false
 | x::xs,y::ys=>if x=y then lexLt xs ys else decide (x<y)
section
open PySem.SeqAt
open PySem.AutoSeq1 (wpAny_loadPart')
open PySem.MeetsSeq PySem.MeetsSeq2 PySem.MeetsSeq3
end
section
variable {prog:Program} {w:World} {A:Around} {E:Value→Shared→Prop} {s:Shared}
noncomputable def sIx (n d:Nat):Option Int→Nat
 | none=>d
 | some v=>if v<0 then (v+(n:Int)).toNat else min v.toNat n
theorem sIx_none (n d:Nat):sIx n d none=d:=rfl
theorem sIx_nat (n d k:Nat):sIx n d (some (k:Int))=min k n:=by
 show (if (k:Int)<0 then ((k:Int)+(n:Int)).toNat else min (k:Int).toNat n)=min k n
 rw [if_neg (by lia),Int.toNat_natCast]
end
end HT
namespace L2
open PySem PySem.Spec PyProof.Rows
abbrev TO:=St→Hp→(Option Int→Hp→Prop)→Prop
def PO (X:Cx) (e:Option Expr) (t:TO):Prop:=
 ∀ (pins:List (Addr × Obj)) (s:Shared) (σ:St) (H:Hp) (Q:Option Int→Hp→Prop),Inv X pins σ H s→t σ H Q→
  wpAny (model X.prog X.w) X.A (evalPart e X.env) (fun u s'=>∃ o H',Inv X pins σ H' s'∧IsPart u o∧Q o H') X.xe s
def tNoPart:TO:=fun _ H Q=>Q none H
def tPart (t:TE):TO:=fun σ H Q=>t σ H fun x H1=>∃ i,x=.int i∧Q (some i) H1
section
variable {X:Cx} {e:Expr} {te:TE} {lo hi:Option Expr} {tl th:TO} {pos p2:Pos}
theorem qB4:PO X none tNoPart:=by
 intro pins s σ H Q I h
 rw [evalPart_none]
 exact wpAny_pure ⟨none,H,I,.none,h⟩
theorem qB3 (h:PE X e te):PO X (some e) (tPart te):=by
 intro pins s σ H Q I hw
 rw [evalPart_some]
 refine thn (h pins s σ H _ I hw) fun u s1 ⟨x,H1,I1,r1,q1⟩=>?_
 obtain ⟨i,rfl,q⟩:=q1
 obtain ⟨t,rfl⟩:=r1
 exact ⟨some i,H1,I1,.int i t,q⟩
def SlR (X:Cx) (r:V→Option Int→Option Int→Hp→VK→Prop):Prop:=
 ∀ (pins:List (Addr × Obj)) (s:Shared) (σ:St) (H:Hp) (x:V) (v vl vu:Value) (lo hi:Option Int) (sl:Addr) (Q:VK),Inv X pins σ H s→RelV x v→s.heap.IsSliceOf sl vl vu .none→IsPart vl lo→IsPart vu hi→r x lo hi H Q→
  ∃ T id,typeLookup (.type T) "__getitem__" = pure (some (.builtin id))∧s.TypeIs v T∧wpAny (model X.prog X.w) X.A (getItem v (.ref sl)) (EP X pins σ Q) X.xe s
def tSl (r:V→Option Int→Option Int→Hp→VK→Prop) (te:TE) (tl th:TO):TE:=fun σ H Q=>te σ H fun x H1=>tl σ H1 fun l H2=>th σ H2 fun u H3=>r x l u H3 Q
theorem qAU {r:V→Option Int→Option Int→Hp→VK→Prop} (hr:SlR X r) (he:PE X e te) (hl:PO X lo tl) (hu:PO X hi th):PE X (.Subscript e (.Slice lo hi none p2) pos) (tSl r te tl th):=by
 intro pins s σ H Q I h
 refine Subscript_ (thn (he pins s σ H _ I h) fun v s1 ⟨x,H1,I1,r1,q1⟩=>?_)
 refine wpAny_Slice (thn (hl pins s1 σ H1 _ I1 q1) fun vl s2 ⟨l,H2,I2,pl,q2⟩=>thn (hu pins s2 σ H2 _ I2 q2) fun vu s3 ⟨u,H3,I3,pu,q3⟩=>?_)
 rw [evalPart_none]
 refine wpAny_pure ?_
 have I4:Inv X pins σ H3 { s3 with heap:=s3.heap.push { cls:=.type "slice",data:=.fields #[vl,vu,.none] } }:=I3.kept (t':=s3.toks) fun b ob q=>Heap.get?_push_of_some _ q
 obtain ⟨T,id,hT,ht,hg⟩:=hr pins { s3 with heap:=s3.heap.push { cls:=.type "slice",data:=.fields #[vl,vu,.none] } } σ H3 x v vl vu l u s3.heap.objs.size Q I4 r1 (Heap.IsSliceOf.new ..) pl pu q3
 show wpAny (model X.prog X.w) X.A (subscriptTail e (.Slice lo hi none p2) v (.ref s3.heap.objs.size)) (EP X pins σ Q) X.xe { s3 with heap:=s3.heap.push { cls:=.type "slice",data:=.fields #[vl,vu,.none] } }
 exact tail_any (ops:=[.ref s3.heap.objs.size,v]) ht hT hg (by with_unfolding_all rfl)
noncomputable def cutV (xs:List V) (lo hi:Option Int):List V:=(xs.drop (HT.sIx xs.length 0 lo)).take (HT.sIx xs.length xs.length hi - HT.sIx xs.length 0 lo)
theorem cutV_length (xs:List V) (lo hi:Option Int):(cutV xs lo hi).length≤xs.length:=by
 unfold cutV
 rw [List.length_take,List.length_drop]
 lia
end
end L2
namespace L2
open PySem PySem.Spec PyProof.Rows
noncomputable def ixN (n:Nat) (i:Int):Option Nat:=if 0≤i then (if i<n then some i.toNat else none) else if -(n:Int)≤i then some (i+n).toNat else none
noncomputable def atI {α:Type} (xs:List α) (i:Int):Option α:=(ixN xs.length i).bind fun j=>xs[j]?
theorem ixN_seq {n:Nat} {i:Int} {j:Nat} (h:ixN n i=some j):seqIndex? i n=some j∧j<n∧-(n:Int)≤i∧i<n:=by
 unfold ixN at h
 by_cases h0:0≤i
 ·rw [if_pos h0] at h
  by_cases h1:i<n
  ·rw [if_pos h1] at h
   have e:i.toNat=j:=Option.some.inj h
   exact ⟨by rw [seqIndex_of h0 h1,e],by lia,by lia,h1⟩
  ·rw [if_neg h1] at h;cases h
 ·rw [if_neg h0] at h
  by_cases h1 : -(n:Int)≤i
  ·rw [if_pos h1] at h
   have e:(i+n).toNat=j:=Option.some.inj h
   exact ⟨by rw [seqIndex_neg (by lia) h1,e],by lia,h1,by lia⟩
  ·rw [if_neg h1] at h;cases h
theorem atI_get {α:Type} {xs:List α} {i:Int} {v:α} (h:atI xs i=some v):∃ j,seqIndex? i xs.length=some j∧xs[j]?=some v∧j<xs.length∧-(xs.length:Int)≤i∧i<xs.length:=by
 unfold atI at h
 cases e:ixN xs.length i with
 | none=>rw [e] at h;cases h
 | some j=>
  rw [e] at h
  obtain ⟨h1,h2,h3,h4⟩:=ixN_seq e
  exact ⟨j,h1,h,h2,h3,h4⟩
theorem qAN {α:Type} {xs:List α} {j:Nat} {v:α} (h:xs[j]?=some v):atI xs (j:Int)=some v:=by
 have hj:j<xs.length:=(List.getElem?_eq_some_iff.mp h).1
 have e:ixN xs.length (j:Int)=some j:=by
  unfold ixN
  rw [if_pos (by lia),if_pos (by lia)];simp
 unfold atI;rw [e];exact h
def PlainIx (b:Expr):Prop:=∀ o i,subscripted b false o i=operate [o,i] (getItem o i)
def IxR (X:Cx) (r:R2):Prop:=
 ∀ (value slice:Expr) (pins:List (Addr × Obj)) (s:Shared) (σ:St) (H:Hp) (x y:V) (v u:Value) (Q:VK),Inv X pins σ H s→RelV x v→RelV y u→r x y H Q→
  subscripted slice false v u=operate [v,u] (getItem v u)→wpAny (model X.prog X.w) X.A (subscriptTail value slice v u) (EP X pins σ Q) X.xe s
def MtR (X:Cx) (id:String) (r:V→List V→Hp→VK→Prop):Prop:=
 ∀ (pins:List (Addr × Obj)) (s:Shared) (σ:St) (H:Hp) (x:V) (xs:List V) (v:Value) (us:List Value) (Q:VK),Inv X pins σ H s→RelV x v→Vals xs us→r x xs H Q→
  wpAny (model X.prog X.w) X.A (call (.builtin id) (v::us)) (EP X pins σ Q) X.xe s
section
variable {X:Cx} {a b:Expr} {ta tb:TE} {pos:Pos}
theorem pe_ix {r:R2} (hr:IxR X r) (ha:PE X a ta) (hb:PE X b tb) (hs:PlainIx b):PE X (.Subscript a b pos) (tOp r ta tb):=by
 intro pins s σ H Q I h
 exact Subscript_ (binT ha hb I h fun v u s2 x y H2 I2 rx ry q=>hr a b pins s2 σ H2 x y v u Q I2 rx ry q (hs _ _))
def rIxL (K:PySem.W.Frag):R2:=fun x y H Q=>∃ p xs i v,x=.ref p∧y=.int i∧SqL K H p xs∧atI xs i=some v∧Q v H
def rIxT (K:PySem.W.Frag):R2:=fun x y H Q=>∃ p xs i v,x=.ref p∧y=.int i∧SqT K H p xs∧atI xs i=some v∧Q v H
def rIxS:R2:=fun x y H Q=>∃ z i c,x=.str z∧y=.int i∧z.length≤sizeLine∧atI z.cps.toList i=some c∧Q (.str ⟨#[c]⟩) H
theorem qAI:IxR X (rIxL X.K):=by
 intro value slice pins s σ H x y v u Q I rx ry h hs
 obtain ⟨p,xs,i,z,rfl,rfl,hq,he,q⟩:=h
 cases rx
 obtain ⟨t,rfl⟩:=ry
 obtain ⟨its,r,pl,hz⟩:=I.list hq
 obtain ⟨j,h1,h2,h3,h4,h5⟩:=atI_get he
 obtain ⟨w,ew,rw'⟩:=r.get h2
 have hl:=r.length
 have hn:=line63
 have fin:EP X pins σ Q w s:=⟨z,H,I,rw',q⟩
 by_cases h0:0≤i
 ·have hj:i.toNat=j:=by
   rw [seqIndex_of h0 h5] at h1
   exact Option.some.inj h1
  exact item_listR pl.isList h0 (by lia) (by rw [hj];simpa using ew) fin hs
 ·have hj:(i+(its.toArray.size:Int)).toNat=j:=by
   rw [seqIndex_neg (by lia) h4] at h1
   rw [List.size_toArray,← hl]
   exact Option.some.inj h1
  exact subscriptTail_builtinR (x:=w) pl.isList.typeIs slot_list_getitem.lookup
   (wpAny_getItem_list_neg (Q:=fun r s'=>r=w∧EP X pins σ Q r s') pl.isList (by lia) (by rw [List.size_toArray] <;> lia) (by lia) (by rw [hj];simpa using ew) ⟨rfl,fin⟩) hs
theorem ix_tup:IxR X (rIxT X.K):=by
 intro value slice pins s σ H x y v u Q I rx ry h hs
 obtain ⟨p,xs,i,z,rfl,rfl,hq,he,q⟩:=h
 cases rx
 obtain ⟨t,rfl⟩:=ry
 obtain ⟨its,r,pl,hz⟩:=I.tuple hq
 obtain ⟨j,h1,h2,h3,h4,h5⟩:=atI_get he
 obtain ⟨w,ew,rw'⟩:=r.get h2
 have hl:=r.length
 have hn:=line63
 have fin:EP X pins σ Q w s:=⟨z,H,I,rw',q⟩
 exact subscriptTail_builtinR (x:=w) pl.typeIs slot_tuple_getitem.lookup
  (getItem_tuple (j:=j) (Q:=fun r s'=>r=w∧EP X pins σ Q r s') pl (by lia) (by lia) (by rw [List.size_toArray,← hl];exact h1) (by simpa using ew) ⟨rfl,fin⟩) hs
theorem ix_str:IxR X rIxS:=by
 intro value slice pins s σ H x y v u Q I rx ry h hs
 obtain ⟨z,i,c,rfl,rfl,hz,he,q⟩:=h
 obtain ⟨t,rfl⟩:=rx
 obtain ⟨t',rfl⟩:=ry
 obtain ⟨j,h1,h2,h3,h4,h5⟩:=atI_get he
 have hl:z.cps.toList.length=z.length:=by simp [Str.length]
 rw [hl] at h1 h4 h5
 have hn:=line63
 exact tail_any (typeIs_str s z t) slot_str_getitem.lookup (getItem_str (c:=c) (by
  have e1:decide (i < -(2 ^ 63:Int))=false:=decide_eq_false (by lia)
  have e2:decide (i ≥ 2 ^ 63)=false:=decide_eq_false (by lia)
  rw [e1,e2,Bool.or_false]) (by rw [h1];simpa using h2) ⟨.str ⟨#[c]⟩,H,I.tok _,⟨_,rfl⟩,q⟩) hs
theorem mapSeq_set (its:List Value) (n j:Nat) (u:Value):Obj.mapSeq (·.setIfInBounds j u) { cls:=.type "list",data:=.seq its.toArray n }={ cls:=.type "list",data:=.seq (its.set j u).toArray n }:=by
 simp [Obj.mapSeq]
theorem Inv.lst {pins:List (Addr × Obj)} {σ:St} {H:Hp} {s:Shared} {p:Addr} {xs:List V} (I:Inv X pins σ H s) (h:H p=some (.lst xs)) :
  ∃ (its:List Value) (n:Nat),Vals xs its∧s.heap.get? p=some { cls:=.type "list",data:=.seq its.toArray n }∧xs.length≤sizeLine:=by
 obtain ⟨z,its,n,r,e⟩:=I.hok p _ h
 exact ⟨its,n,r,e,z⟩
theorem Inv.lstUpd {pins:List (Addr × Obj)} {σ:St} {H:Hp} {s:Shared} {p:Addr} {xs ys:List V} {its its':List Value} {n n':Nat} {f:Obj→Obj} (I:Inv X pins σ H s) (h:H p=some (.lst xs))
  (ho:s.heap.get? p=some { cls:=.type "list",data:=.seq its.toArray n }) (hf:f { cls:=.type "list",data:=.seq its.toArray n }={ cls:=.type "list",data:=.seq its'.toArray n' }) (r:Vals ys its') (hz:ys.length≤sizeLine) (t:Nat) :
  Inv X pins σ (upd H p (.lst ys)) { s with heap:=s.heap.update p f,toks:=t }:=by
 have e:(s.heap.update p f).get? p=some { cls:=.type "list",data:=.seq its'.toArray n' }:=by
  rw [Heap.get?_update_self f ho (by rw [hf] <;> rfl),hf]
 refine I.write (x:=p) (e:=p) (by rw [h];trivial) (.inl rfl) (fun b u hb q=>(Heap.get?_update_other _ _ (Ne.symm hb)).trans q) ⟨_,e⟩ ?_
 exact ⟨hz,its',n',r,e⟩
def rSetL:V→V→V→Hp→(Hp→Prop)→Prop:=fun o i v H Q=>∃ p xs k j,o=.ref p∧i=.int k∧H p=some (.lst xs)∧ixN xs.length k=some j∧Q (upd H p (.lst (xs.set j v)))
theorem set_list:PSet X rSetL:=by
 intro pins s σ H o i v ov iv u Q I ro ri rv h
 obtain ⟨p,xs,k,j,rfl,rfl,hp,hj,q⟩:=h
 cases ro
 obtain ⟨t,rfl⟩:=ri
 obtain ⟨its,n,r,ho,hz⟩:=I.lst hp
 obtain ⟨h1,h2,h3,h4⟩:=ixN_seq hj
 have hl:=r.length
 have hn:=line63
 have I':Inv X pins σ (upd H p (.lst (xs.set j v))) { s with heap:=s.heap.update p (Obj.mapSeq (·.setIfInBounds j u)) }:=
  I.lstUpd hp ho (mapSeq_set its n j u) (r.set rv j) (by rw [List.length_set];exact hz) s.toks
 by_cases h0:0≤k
 ·have hk:k.toNat=j:=by
   rw [seqIndex_of h0 h4] at h1
   exact Option.some.inj h1
  exact PySem.W.ki_setAt ho h0 (by lia) (by rw [List.size_toArray,← hl];exact h4) (by rw [hk];exact ⟨_,I',q⟩)
 ·have hk:(k+(its.toArray.size:Int)).toNat=j:=by
   rw [seqIndex_neg (by lia) h3] at h1
   rw [List.size_toArray,← hl]
   exact Option.some.inj h1
  exact PySem.W.ki_setBack ho (by lia) (by rw [List.size_toArray,← hl];exact h3) (by lia) (by rw [hk];exact ⟨_,I',q⟩)
theorem slice_bounds (lo hi:Option Int) (n:Nat):(sliceBounds lo hi none n).1=((HT.sIx n 0 lo:Nat):Int)∧(sliceBounds lo hi none n).2.1=((HT.sIx n n hi:Nat):Int)∧(sliceBounds lo hi none n).2.2=1:=by
 refine ⟨?_,?_,rfl⟩
 ·cases lo with
  | none=>simp [sliceBounds,HT.sIx]
  | some i=>
   simp only [sliceBounds,HT.sIx,Option.getD_none,show (1:Int) > 0 by decide,if_true]
   by_cases h:i<0
   ·simp only [h,if_true] <;> lia
   ·simp only [h,if_false] <;> lia
 ·cases hi with
  | none=>simp [sliceBounds,HT.sIx]
  | some i=>
   simp only [sliceBounds,HT.sIx,Option.getD_none,show (1:Int) > 0 by decide,if_true]
   by_cases h:i<0
   ·simp only [h,if_true] <;> lia
   ·simp only [h,if_false] <;> lia
theorem slicePick_cut (its:List Value) (lo hi:Option Int):slicePick its.toArray lo hi none=((its.drop (HT.sIx its.length 0 lo)).take (HT.sIx its.length its.length hi - HT.sIx its.length 0 lo)).toArray:=by
 obtain ⟨h1,h2,h3⟩:=slice_bounds lo hi its.toArray.size
 unfold slicePick
 rw [h1,h2,h3]
 simp only [sliceRange_one,pick_run,List.size_toArray] <;> rfl
def rSlL (K:PySem.W.Frag):V→Option Int→Option Int→Hp→VK→Prop:=fun x lo hi H Q=>∃ a xs,x=.ref a∧SqL K H a xs∧∀ p,H p=none→Q (.ref p) (upd H p (.lst (cutV xs lo hi)))
theorem qB6:SlR X (rSlL X.K):=by
 intro pins s σ H x v vl vu lo hi sl Q I rx hs pl pu h
 obtain ⟨a,xs,rfl,hx,q⟩:=h
 cases rx
 obtain ⟨its,r,ht,hz⟩:=I.list hx
 have hlen:=r.length
 refine ⟨"list",_,slot_list_getitem.lookup,ht.isList.typeIs,?_⟩
 refine wpAny_getItem_list_slice ht.isList hs pl pu .none (by simp) ?_ (by rw [List.size_toArray] <;> lia)
 rw [slicePick_cut,← hlen]
 refine ⟨.ref s.heap.objs.size,_,I.laid (t':=s.toks) (o:=.lst (cutV xs lo hi)) (fun b ob q=>Heap.get?_push_of_some _ q) (Nat.le_refl _) ?_,rfl,q _ (I.hok.fresh (Nat.le_refl _))⟩
 exact ⟨Nat.le_trans (cutV_length xs lo hi) hz,_,0,(r.drop (HT.sIx xs.length 0 lo)).take (HT.sIx xs.length xs.length hi - HT.sIx xs.length 0 lo),Heap.get?_push_size _ rfl⟩
noncomputable def flatV:V→Bool
 | .non=>true
 | .bl _=>true
 | .int _=>true
 | .str _=>true
 | _=>false
noncomputable def eqV:V→V→Bool
 | .non,.non=>true
 | .bl a,.bl b=>a == b
 | .bl a,.int b=>(if a then 1 else 0) == b
 | .int a,.bl b=>a == (if b then 1 else 0)
 | .int a,.int b=>a == b
 | .str a,.str b=>a == b
 | _,_=>false
theorem eqAt_V {A:Around} {s:Shared} {y x:V} {u v:Value} (ry:RelV y u) (rx:RelV x v) (fy:flatV y=true) (fx:flatV x=true):SeqAt.EqAt A s u v (eqV y x):=by
 cases y with
 | non=>
  cases ry
  cases x with
  | non=>cases rx;exact SeqAt.EqAt.same _
  | bl b=>cases rx;exact SeqAt.EqAt.none_bool b
  | int b=>obtain ⟨t,rfl⟩:=rx;exact SeqAt.EqAt.none_int b t
  | str b=>obtain ⟨t,rfl⟩:=rx;exact SeqAt.EqAt.none_str b t
  | _=>exact absurd (show false=true from fx) Bool.false_ne_true
 | bl a=>
  cases ry
  cases x with
  | non=>cases rx;exact SeqAt.EqAt.bool_none a
  | bl b=>cases rx;exact SeqAt.EqAt.bool_bool a b
  | int b=>obtain ⟨t,rfl⟩:=rx;exact SeqAt.EqAt.bool_int a b t
  | str b=>obtain ⟨t,rfl⟩:=rx;exact SeqAt.EqAt.bool_str a b t
  | _=>exact absurd (show false=true from fx) Bool.false_ne_true
 | int a=>
  obtain ⟨t',rfl⟩:=ry
  cases x with
  | non=>cases rx;exact SeqAt.EqAt.int_none a t'
  | bl b=>cases rx;exact SeqAt.EqAt.int_bool a t' b
  | int b=>obtain ⟨t,rfl⟩:=rx;exact SeqAt.EqAt.int_int a t' b t
  | str b=>obtain ⟨t,rfl⟩:=rx;exact SeqAt.EqAt.int_str a t' b t
  | _=>exact absurd (show false=true from fx) Bool.false_ne_true
 | str a=>
  obtain ⟨t',rfl⟩:=ry
  cases x with
  | non=>cases rx;exact SeqAt.EqAt.str_none a t'
  | bl b=>cases rx;exact SeqAt.EqAt.str_bool a t' b
  | int b=>obtain ⟨t,rfl⟩:=rx;exact SeqAt.EqAt.str_int a t' b t
  | str b=>obtain ⟨t,rfl⟩:=rx;exact SeqAt.EqAt.str_str a t' b t
  | _=>exact absurd (show false=true from fx) Bool.false_ne_true
 | _=>exact absurd (show false=true from fy) Bool.false_ne_true
noncomputable def eqU (x:V) (u:Value):Bool:=match u with
 | .none=>eqV .non x
 | .bool b=>eqV (.bl b) x
 | .int i _=>eqV (.int i) x
 | .str z _=>eqV (.str z) x
 | _=>false
theorem eqU_of {x y:V} {u:Value} (r:RelV y u) (f:flatV y=true):eqU x u=eqV y x:=by
 cases y with
 | non=>cases r;rfl
 | bl b=>cases r;rfl
 | int i=>obtain ⟨t,rfl⟩:=r;rfl
 | str z=>obtain ⟨t,rfl⟩:=r;rfl
 | _=>exact absurd (show false=true from f) Bool.false_ne_true
theorem any_eqU {x:V}:∀ {xs:List V} {us:List Value},Vals xs us→xs.all flatV=true→us.any (eqU x)=xs.any fun y=>eqV y x
 | _,_,.nil,_=>rfl
 | y::xs,u::us,.cons r t,f=>by
  rw [List.all_cons,Bool.and_eq_true] at f
  rw [List.any_cons,List.any_cons,eqU_of r f.1,any_eqU t f.2]
theorem mem_eqAt {A:Around} {s:Shared} {x:V} {v:Value} (rx:RelV x v) (fx:flatV x=true):∀ {xs:List V} {us:List Value},Vals xs us→xs.all flatV=true→∀ u ∈ us,SeqAt.EqAt A s u v (eqU x u)
 | _,_,.nil,_=>fun u hu=>by cases hu
 | y::xs,u::us,.cons r t,f=>fun u' hu=>by
  rw [List.all_cons,Bool.and_eq_true] at f
  rcases List.mem_cons.mp hu with rfl | hu
  ·rw [eqU_of r f.1];exact eqAt_V r rx f.1 fx
  ·exact mem_eqAt rx fx t f.2 u' hu
noncomputable def inV (x:V) (xs:List V):Bool:=xs.any fun y=>eqV y x
def rIn (K:PySem.W.Frag) (neg:Bool):R2:=fun x y H Q=>∃ p xs,y=.ref p∧(SqL K H p xs∨SqT K H p xs)∧flatV x=true∧xs.all flatV=true∧Q (.bl (if neg then !inV x xs else inV x xs)) H
theorem qBF:OpR X (compareOp .In) (rIn X.K false):=by
 intro pins s σ H x y v u Q I rx ry h
 obtain ⟨p,xs,rfl,hq,fx,fs,q⟩:=h
 cases ry
 rcases hq with hq | hq
 ·obtain ⟨its,r,pl,hz⟩:=I.list hq
  refine SeqAt.in_listAt (eqU x) pl.isList (fun w hw=>mem_eqAt rx fx r fs w (by simpa using hw)) ⟨.bl _,H,I,rfl,?_⟩
  rw [show its.toArray.any (eqU x)=its.any (eqU x) by simp,any_eqU r fs]
  exact q
 ·obtain ⟨its,r,pl,hz⟩:=I.tuple hq
  refine SeqAt.in_tupleAt (eqU x) pl (fun w hw=>mem_eqAt rx fx r fs w (by simpa using hw)) ⟨.bl _,H,I,rfl,?_⟩
  rw [show its.toArray.any (eqU x)=its.any (eqU x) by simp,any_eqU r fs]
  exact q
theorem op_notIn_seq:OpR X (compareOp .NotIn) (rIn X.K true):=by
 intro pins s σ H x y v u Q I rx ry h
 obtain ⟨p,xs,rfl,hq,fx,fs,q⟩:=h
 cases ry
 rcases hq with hq | hq
 ·obtain ⟨its,r,pl,hz⟩:=I.list hq
  refine SeqAt.notIn_listAt (eqU x) pl.isList (fun w hw=>mem_eqAt rx fx r fs w (by simpa using hw)) ⟨.bl _,H,I,rfl,?_⟩
  rw [show its.toArray.any (eqU x)=its.any (eqU x) by simp,any_eqU r fs]
  exact q
 ·obtain ⟨its,r,pl,hz⟩:=I.tuple hq
  refine SeqAt.notIn_tupleAt (eqU x) pl (fun w hw=>mem_eqAt rx fx r fs w (by simpa using hw)) ⟨.bl _,H,I,rfl,?_⟩
  rw [show its.toArray.any (eqU x)=its.any (eqU x) by simp,any_eqU r fs]
  exact q
theorem op_notIn_str:OpR X (compareOp .NotIn) (fun x y H Q=>∃ i j,x=.str i∧y=.str j∧Q (.bl (!(!(Builtin.Str.occurrences j i 0 j.length 1).isEmpty))) H):=by
 intro pins s σ H x y v u Q I rx ry h
 obtain ⟨i,j,rfl,rfl,q⟩:=h
 obtain ⟨t,rfl⟩:=rx
 obtain ⟨t',rfl⟩:=ry
 exact notIn_str ⟨.bl _,H,I,rfl,q⟩
theorem qAA:CallR X (.builtin "len") (fun xs H Q=>∃ p ys,xs=[.ref p]∧(SqL X.K H p ys∨SqT X.K H p ys)∧Q (.int ys.length) H):=by
 intro pins s σ H xs us Q I r h
 obtain ⟨p,ys,rfl,hq,q⟩:=h
 obtain ⟨u,rfl,rx⟩:=vals1 r
 cases rx
 have hn:=line63
 rcases hq with hq | hq
 ·obtain ⟨its,r',pl,hz⟩:=I.list hq
  have hlen:=r'.length
  exact Calls.call_len_list pl.isList (by simp only [List.size_toArray] <;> lia) ⟨.int ys.length,H,I.tok _,⟨s.toks+1,by rw [List.size_toArray,hlen]⟩,q⟩
 ·obtain ⟨its,r',pl,hz⟩:=I.tuple hq
  have hlen:=r'.length
  exact len_tuple pl (by simp only [List.size_toArray] <;> lia) ⟨.int ys.length,H,I.tok _,⟨s.toks+1,by rw [List.size_toArray,hlen]⟩,q⟩
theorem qBE:CallR X (.builtin "len") (fun xs H Q=>∃ z,xs=[.str z]∧z.length≤sizeLine∧Q (.int z.length) H):=by
 intro pins s σ H xs us Q I r h
 obtain ⟨z,rfl,hz,q⟩:=h
 obtain ⟨u,rfl,t,rfl⟩:=vals1 r
 have hn:=line63
 exact len_str (by lia) ⟨.int z.length,H,I.tok _,⟨_,rfl⟩,q⟩
theorem call_list_of:CallR X (.type "list") (fun xs H Q=>∃ p ys,xs=[.ref p]∧(SqL X.K H p ys∨SqT X.K H p ys)∧∀ l,H l=none→Q (.ref l) (upd H l (.lst ys))):=by
 intro pins s σ H xs us Q I r h
 obtain ⟨p,ys,rfl,hq,q⟩:=h
 obtain ⟨u,rfl,rx⟩:=vals1 r
 cases rx
 have fin:∀ (its:List Value),Vals ys its→ys.length≤sizeLine→∀ (h':Heap) (c':Nat),(∀ b o',s.heap.get? b=some o'→h'.get? b=some o')→
   h'.get? s.heap.objs.size=some { cls:=.type "list",dict:=none,data:=.seq its.toArray c',slots:=#[] }→EP X pins σ Q (.ref s.heap.objs.size) { s with heap:=h' }:=fun its r' hz h' c' kp e=>
  ⟨.ref s.heap.objs.size,_,I.laid (t':=s.toks) kp (Nat.le_refl _) (show ObjOk X.prog X.w _ h' _ (.lst ys) from ⟨hz,its,c',r',e⟩),rfl,q _ (I.hok.fresh (Nat.le_refl _))⟩
 rcases hq with hq | hq
 ·obtain ⟨its,r',pl,hz⟩:=I.list hq
  have hlen:=r'.length
  obtain ⟨o,ho,hc,n,hd⟩:=pl.isList
  exact call_list_seq p (.inl rfl) ho hc hd (fun h' c' kp e=>fin its r' hz h' c' kp e) (by simp only [List.size_toArray] <;> lia)
 ·obtain ⟨its,r',pl,hz⟩:=I.tuple hq
  have hlen:=r'.length
  obtain ⟨o,ho,hc,n,hd⟩:=pl
  exact call_list_seq p (.inr rfl) ho hc hd (fun h' c' kp e=>fin its r' hz h' c' kp e) (by simp only [List.size_toArray] <;> lia)
theorem qAM:CallR X (.type "tuple") (fun xs H Q=>∃ p ys,xs=[.ref p]∧((SqL X.K H p ys∧∀ l,H l=none→Q (.ref l) (upd H l (.tup ys)))∨(SqT X.K H p ys∧Q (.ref p) H))):=by
 intro pins s σ H xs us Q I r h
 obtain ⟨p,ys,rfl,h⟩:=h
 obtain ⟨u,rfl,rx⟩:=vals1 r
 cases rx
 rcases h with ⟨hq,q⟩ | ⟨hq,q⟩
 ·obtain ⟨its,r',pl,hz⟩:=I.list hq
  have hlen:=r'.length
  refine call_tuple_list pl.isList (fun h' kp=>?_) (by simp only [List.size_toArray] <;> lia)
  have I1:Inv X pins σ H { s with heap:=h' }:=I.kept (t':=s.toks) kp
  have I2:Inv X pins σ (upd H h'.objs.size (.tup ys)) { s with heap:=h'.push { cls:=.type "tuple",data:=.seq its.toArray } }:=
   I1.laid (t':=s.toks) (fun b o e=>Heap.get?_push_of_some _ e) (Nat.le_refl _) (show ObjOk X.prog X.w _ _ _ (.tup ys) from ⟨hz,its,r',IsTup.new _ _⟩)
  exact ⟨.ref h'.objs.size,_,I2,rfl,q _ (I1.hok.fresh (Nat.le_refl _))⟩
 ·obtain ⟨its,r',pl,hz⟩:=I.tuple hq
  exact call_tuple_same pl ⟨.ref p,H,I,rfl,q⟩
def tyV (K:PySem.W.Frag) (T:String) (x:V) (H:Hp):Prop:=match x with
 | .str _=>T = "str"
 | .int _=>T = "int"
 | .ref p=>(T = "list"∧∃ xs,SqL K H p xs)∨(T = "tuple"∧∃ o,K.lookup p=some o∧o.cls=.type "tuple"∧o.dict=none)∨
   (T = "dict"∧((∃ kvs,H p=some (.dK kvs))∨∃ kvs,H p=some (.dT kvs)))∨(T = "set"∧∃ S n,H p=some (.set S n))
 | _=>False
theorem tyV_is {pins:List (Addr × Obj)} {σ:St} {H:Hp} {s:Shared} {T:String} {x:V} {v:Value} (I:Inv X pins σ H s) (r:RelV x v) (ty:tyV X.K T x H) :
  s.TypeIs v T∧∀ a,v=.ref a→∃ ob,s.heap.get? a=some ob∧ob.dict=none:=by
 cases x with
 | str z=>
  obtain ⟨t,rfl⟩:=r
  cases (show T = "str" from ty)
  exact ⟨typeIs_str s z t,fun _ e=>nomatch e⟩
 | int i=>
  obtain ⟨t,rfl⟩:=r
  cases (show T = "int" from ty)
  exact ⟨typeIs_int s i t,fun _ e=>nomatch e⟩
 | ref p=>
  cases r
  rcases ty with ⟨rfl,xs,hq⟩ | ⟨rfl,o,hk,hc,hd⟩ | ⟨rfl,hk⟩ | ⟨rfl,S,n,hk⟩
  ·obtain ⟨its,_,pl,_⟩:=I.list hq
   refine ⟨pl.isList.typeIs,fun a e=>?_⟩
   cases e
   obtain ⟨o,n,e,c,hd,_⟩:=pl
   exact ⟨o,e,hd⟩
  ·refine ⟨⟨o,I.kIn p o hk,hc⟩,fun a e=>?_⟩
   cases e
   exact ⟨o,I.kIn _ o hk,hd⟩
  ·have z:∃ o,s.heap.get? p=some o∧o.ExactDict:=by
    rcases hk with ⟨kvs,hk⟩ | ⟨kvs,hk⟩
    ·obtain ⟨_,_,_,_,o,_,_,e,ex,_⟩:=I.hok p _ hk
     exact ⟨o,e,ex⟩
    ·obtain ⟨_,_,_,_,o,_,_,e,ex,_⟩:=I.hok p _ hk
     exact ⟨o,e,ex⟩
   obtain ⟨o,e,ex⟩:=z
   refine ⟨⟨o,e,ex.1⟩,fun a e2=>?_⟩
   cases e2
   exact ⟨o,e,ex.2.1⟩
  ·obtain ⟨o,_,_,_,e,ex,_⟩:=I.hok p _ hk
   refine ⟨⟨o,e,ex.1⟩,fun a e2=>?_⟩
   cases e2
   exact ⟨o,e,ex.2.1⟩
 | _=>exact False.elim ty
def tBM0 (K:PySem.W.Frag) (T:String) (r:V→List V→Hp→VK→Prop) (to:TE):TE:=fun σ H Q=>to σ H fun x H1=>tyV K T x H1∧r x [] H1 Q
def tBM (K:PySem.W.Frag) (T:String) (r:V→List V→Hp→VK→Prop) (to:TE) (t:TA):TE:=fun σ H Q=>to σ H fun x H1=>tyV K T x H1∧t σ H1 fun xs H2=>r x xs H2 Q
variable {o e:Expr} {es:List Expr} {to:TE} {t:TA} {name:Str} {apos cpos:Pos} {T id:String} {r:V→List V→Hp→VK→Prop}
theorem pe_bm0 (pa:PlainAttrs T) (slot:Slot T name id) (hty:typeOf (.builtin id)=pure (.type "method_descriptor")) (hm:MtR X id r) (ho:PE X o to)
  (hbase:attributeBase o name X.env (eval o X.env)=eval o X.env:=by rfl) (hline:(apos.endLine == cpos.line)=true:=by rfl):PE X (.Call (.Attribute o name apos) [] [] cpos) (tBM0 X.K T r to):=by
 intro pins s σ H Q I h
 refine wpAny_Call_method0_late hbase hline (thn (ho pins s σ H _ I h) fun v s1 ⟨x,H1,I1,r1,ty,q1⟩=>?_)
 obtain ⟨h1,h2⟩:=tyV_is I1 r1 ty
 exact ⟨T,id,pa,slot,hty,h1,h2,Calls.callWith_builtin rfl (PySem.evalArgs_none (hm pins s1 σ H1 x [] v [] Q I1 r1 .nil q1))⟩
theorem pe_bm (pa:PlainAttrs T) (slot:Slot T name id) (hty:typeOf (.builtin id)=pure (.type "method_descriptor")) (hm:MtR X id r) (ho:PE X o to) (ha:PA X (e::es) t)
  (hbase:attributeBase o name X.env (eval o X.env)=eval o X.env:=by rfl)
  (hfew:((backTo cpos (starEach (e::es) X.env)).all (fun x=>!x.1) && (backToKw cpos (keywordEach [] X.env)).all (fun x=>x.1.isSome)
   && decide ((e::es).length+([]:List Keyword).length+(if ([]:List Keyword).isEmpty then 0 else 1)<30))=true:=by rfl)
  (hline:(apos.endLine == cpos.line)=true:=by rfl) (hs:starEach (e::es) X.env=(false,eval e X.env)::starEach es X.env:=by rfl) (hplain:(backTo cpos (starEach es X.env)).any (·.1)=false:=by rfl) :
  PE X (.Call (.Attribute o name apos) (e::es) [] cpos) (tBM X.K T r to t):=by
 intro pins s σ H Q I h
 refine wpAny_Call_method_late hbase hfew hline rfl (thn (ho pins s σ H _ I h) fun v s1 ⟨x,H1,I1,r1,ty,q1⟩=>?_)
 obtain ⟨h1,h2⟩:=tyV_is I1 r1 ty
 refine ⟨T,id,pa,slot,hty,h1,h2,?_⟩
 have hA:=ha cpos pins s1 σ H1 _ I1 q1
 rw [hs] at hA ⊢
 refine Calls.callWith_builtin (by show (false || (backTo cpos (starEach es X.env)).any (·.1))=false;rw [hplain] <;> rfl) (Calls.evalArgs_plain ?_)
 exact thn hA fun us s2 ⟨vs,H2,I2,r2,q2⟩=>hm pins s2 σ H2 x vs v us Q I2 r1 r2 q2
end
end L2
namespace L2
open PySem PySem.Spec PyProof.Rows
def MtM (X:Cx) (id:String) (r:V→List V→Hp→VK→Prop):Prop:=
 ∀ (pins:List (Addr × Obj)) (s:Shared) (σ:St) (H:Hp) (x:V) (xs:List V) (v:Value) (us:List Value) (Q:VK),Inv X pins σ H s→RelV x v→Vals xs us→r x xs H Q→
  wpAny (model X.prog X.w) X.A (call (.builtin id) (v::us)) (EP X pins σ Q) X.xe s
theorem Vals.one:∀ {x:V} {us:List Value},Vals [x] us→∃ u,us=[u]∧RelV x u
 | _,_,.cons r .nil=>⟨_,rfl,r⟩
theorem Vals.eraseIdx:∀ {xs:List V} {us:List Value} (i:Nat),Vals xs us→Vals (xs.eraseIdx i) (us.eraseIdx i)
 | _,_,_,.nil=>.nil
 | _,_,0,.cons _ t=>t
 | _,_,i+1,.cons r t=>.cons r (Vals.eraseIdx i t)
theorem Vals.rep {xs:List V} {us:List Value} (h:Vals xs us):∀ k:Nat,Vals (List.replicate k xs).flatten (List.replicate k us).flatten
 | 0=>.nil
 | k+1=>by
  rw [List.replicate_succ,List.replicate_succ,List.flatten_cons,List.flatten_cons]
  exact Vals.append h (Vals.rep h k)
theorem len_erase {α:Type}:∀ (l:List α) (i:Nat),(l.eraseIdx i).length≤l.length
 | [],_=>Nat.le_refl _
 | _::_,0=>Nat.le_succ _
 | _::r,i+1=>Nat.succ_le_succ (len_erase r i)
theorem foldl_rep (its:List Value):∀ (k:Nat) (acc:List Value),
  List.foldl (fun x1 x2=>x1++x2) acc.toArray (List.replicate k its.toArray)=(acc++(List.replicate k its).flatten).toArray
 | 0,acc=>by simp
 | k+1,acc=>by
  have e:acc.toArray++its.toArray=(acc++its).toArray:=by simp
  have e2:(acc++its)++(List.replicate k its).flatten=acc++(List.replicate (k+1) its).flatten:=by
   rw [List.replicate_succ,List.flatten_cons,List.append_assoc]
  rw [← e2,← foldl_rep its k (acc++its),← e,List.replicate_succ,List.foldl_cons]
section
variable {X:Cx} {pins:List (Addr × Obj)} {σ:St} {H:Hp} {s:Shared} {l b:Addr} {xs ys zs:List V}
theorem Inv.lset {its its':List Value} {n:Nat} {f:Array Value→Array Value} {t':Nat} (I:Inv X pins σ H s) (hH:H l=some (.lst xs))
  (e:s.heap.get? l=some { cls:=.type "list",data:=.seq its.toArray n }) (hf:f its.toArray=its'.toArray) (hv:Vals ys its') (hz:ys.length≤sizeLine) :
  Inv X pins σ (upd H l (.lst ys)) { s with heap:=s.heap.update l (Obj.mapSeq f),toks:=t' }:=by
 have q:=PySem.IsL.update e f
 rw [hf] at q
 refine I.write (x:=l) (e:=l) (by rw [hH];exact trivial) (.inl rfl) (fun b' u hb hu=>(Heap.get?_update_other s.heap (Obj.mapSeq f) (Ne.symm hb)).trans hu) ⟨_,q⟩ ?_
 exact ⟨hz,its',_,hv,q⟩
theorem Inv.lnew {its:List Value} {t':Nat} (I:Inv X pins σ H s) (hv:Vals ys its) (hz:ys.length≤sizeLine) :
  Inv X pins σ (upd H s.heap.objs.size (.lst ys)) { s with heap:=s.heap.push { cls:=.type "list",data:=.seq its.toArray },toks:=t' }:=
 I.laid (fun _ _ q=>Heap.get?_push_of_some _ q) (Nat.le_refl _) ⟨hz,its,0,hv,Heap.get?_push_size _ rfl⟩
theorem Inv.fresh (I:Inv X pins σ H s):H s.heap.objs.size=none:=I.hok.fresh (Nat.le_refl _)
theorem Inv.lstM (I:Inv X pins σ H s) (hH:H l=some (.lst xs)):xs.length≤sizeLine∧∃ (its:List Value) (n:Nat),Vals xs its∧xs.length=its.length∧s.heap.get? l=some { cls:=.type "list",data:=.seq its.toArray n }:=by
 obtain ⟨z,its,n,r,e⟩:=I.hok l _ hH
 exact ⟨z,its,n,r,r.length,e⟩
theorem notLongL {n:Nat} (h:n≤sizeLine):Builtin.List.listTooLong n=false:=by
 unfold Builtin.List.listTooLong
 exact decide_eq_false (by lia)
end
section
variable {X:Cx}
def rAppend:V→List V→Hp→VK→Prop:=fun x vs H Q=>∃ l xs y,x=.ref l∧vs=[y]∧H l=some (.lst xs)∧xs.length<sizeLine∧Q .non (upd H l (.lst (xs++[y])))
theorem qAY:MtM X "list.append" rAppend:=by
 intro pins s σ H x vs v us Q I rx rv h
 obtain ⟨l,xs,y,rfl,rfl,hH,hz,q⟩:=h
 cases rx
 obtain ⟨u,rfl,ru⟩:=rv.one
 obtain ⟨z,its,n,r,hl,e⟩:=I.lstM hH
 refine call_meets F.slot_list_append ⟨_,e,rfl⟩ F.entry_list_append (F.args_list_append_2 _ _) (PySem.list_append l its.toArray n u (by rw [List.size_toArray];lia)) ⟨e,?_⟩
 refine ⟨.non,_,I.lset (its':=its++[u]) hH e (by simp) (r.append (.cons ru .nil)) ?_,rfl,q⟩
 rw [List.length_append,List.length_singleton]
 lia
def rPopAt:V→List V→Hp→VK→Prop:=fun x vs H Q=>∃ l xs i k y,x=.ref l∧vs=[.int i]∧H l=some (.lst xs)∧-(2 ^ 63)≤i∧i<2 ^ 63∧seqIndex? i xs.length=some k∧xs[k]?=some y∧Q y (upd H l (.lst (xs.eraseIdx k)))
theorem mt_popAt:MtM X "list.pop" rPopAt:=by
 intro pins s σ H x vs v us Q I rx rv h
 obtain ⟨l,xs,i,k,y,rfl,rfl,hH,h1,h2,hk,hy,q⟩:=h
 cases rx
 obtain ⟨u,rfl,ru⟩:=rv.one
 obtain ⟨t,rfl⟩:=ru
 obtain ⟨z,its,n,r,hl,e⟩:=I.lstM hH
 obtain ⟨w,hw,rw'⟩:=r.get hy
 refine call_meets F.slot_list_pop ⟨_,e,rfl⟩ F.entry_list_pop (F.args_list_pop_2 _ _)
  (MeetsSeq.list_pop_at l its.toArray n i t k w (fitsIndex_both h1 h2) (by rw [List.size_toArray,← hl];exact hk) (by rw [← Array.getElem?_toList];exact hw) (by rw [List.size_toArray];lia)) ⟨e,?_⟩
 refine ⟨y,_,I.lset (its':=its.eraseIdx k) hH e ?_ (r.eraseIdx k) ?_,rw',q⟩
 ·show its.toArray.eraseIdxIfInBounds k=(its.eraseIdx k).toArray
  rw [List.eraseIdxIfInBounds_toArray]
 ·have:=len_erase xs k
  lia
def rCat:R2:=fun x y H Q=>∃ l b xs zs,x=.ref l∧y=.ref b∧H l=some (.lst xs)∧H b=some (.lst zs)∧xs.length+zs.length≤sizeLine∧∀ p,H p=none→Q (.ref p) (upd H p (.lst (xs++zs)))
theorem qCH:OpR X (binaryOp .Add) rCat:=by
 intro pins s σ H x y v u Q I rx ry h
 obtain ⟨l,b,xs,zs,rfl,rfl,hH,hB,hz,q⟩:=h
 cases rx
 cases ry
 obtain ⟨z,its,n,r,hl,e⟩:=I.lstM hH
 obtain ⟨z2,its2,n2,r2,hl2,e2⟩:=I.lstM hB
 refine PySem.P.add_list e e2 ?_ (by rw [List.size_toArray,List.size_toArray];lia)
 have ea:its.toArray++its2.toArray=(its++its2).toArray:=by simp
 rw [ea]
 exact ⟨.ref _,_,I.lnew (t':=s.toks) (r.append r2) (by rw [List.length_append];lia),rfl,q _ I.fresh⟩
def rRep:R2:=fun x y H Q=>∃ l k xs,x=.ref l∧y=.int k∧H l=some (.lst xs)∧-(2 ^ 63)≤k∧k<2 ^ 63∧xs.length * k.toNat≤sizeLine∧
 ∀ p,H p=none→Q (.ref p) (upd H p (.lst (List.replicate k.toNat xs).flatten))
theorem len_rep {α:Type} (xs:List α) (k:Nat):(List.replicate k xs).flatten.length=k * xs.length:=by
 induction k with
 | zero=>simp
 | succ k ih=>rw [List.replicate_succ,List.flatten_cons,List.length_append,ih,Nat.succ_mul,Nat.add_comm]
theorem op_rep:OpR X (binaryOp .Mult) rRep:=by
 intro pins s σ H x y v u Q I rx ry h
 obtain ⟨l,k,xs,rfl,rfl,hH,h1,h2,hz,q⟩:=h
 cases rx
 obtain ⟨t,rfl⟩:=ry
 obtain ⟨z,its,n,r,hl,e⟩:=I.lstM hH
 have hlen:its.toArray.size * k.toNat≤sizeLine:=by rw [List.size_toArray,← hl];exact hz
 have hcap:¬ its.toArray.size * k.toNat > (2 ^ 63 - 1) / 8:=by
  have:(sizeLine:Nat)≤(2 ^ 63 - 1) / 8:=by decide
  lia
 have hfit:¬ (!Builtin.List.listFitsIndex k)=true:=by
  rw [fitsIndex_both h1 h2]
  exact Bool.false_ne_true
 have hlong:¬ Builtin.List.listTooLong (its.toArray.size * k.toNat)=true:=by
  rw [notLongL hlen]
  exact Bool.false_ne_true
 have hnew:List.foldl (fun x1 x2=>x1++x2) #[] (List.replicate (if its.toArray.isEmpty=true then 0 else k.toNat) its.toArray)=(List.replicate k.toNat its).flatten.toArray:=by
  have f0:∀ m:Nat,List.foldl (fun x1 x2=>x1++x2) #[] (List.replicate m its.toArray)=(List.replicate m its).flatten.toArray:=fun m=>by
   have:=foldl_rep its m []
   rw [List.nil_append] at this
   exact this
  rw [f0]
  cases its with
  | nil=>simp
  | cons a r'=>rw [if_neg (by simp)]
 refine wpAny_binaryOp_repeat_ref (T:="list") (U:="int") (by decide) ⟨_,e,rfl⟩ (fun s'=>typeIs_int s' k t) noFill_list_mul F.fills_int_mul F.slot_int_rmul repeat_list F.slot_int_index.lookup
  (call_meets F.slot_int_rmul (typeIs_int s k t) F.entry_int_rmul (F.args_int_rmul_2 _ _) (int___rmul___int_list k t l its.toArray n)
   ⟨e,rfl,⟨_,e,rfl⟩,call_meets F.slot_list_mul ⟨_,e,rfl⟩ F.entry_list_mul (F.args_list_mul_2 _ _) (AutoListH.list___mul___list_int_3 l its.toArray n k t hfit hcap hlong) ⟨e,?_⟩⟩)
 rw [hnew]
 exact ⟨.ref _,_,I.lnew (t':=s.toks) (r.rep k.toNat) (by rw [len_rep,Nat.mul_comm];exact hz),rfl,q _ I.fresh⟩
end
section
variable {prog:Program} {w:World} {A:Around} {E:Value→Shared→Prop} {s:Shared}
set_option maxRecDepth 100000 in
end
section
variable {X:Cx}
end
end L2
namespace Att
open PySem PySem.W PySem.Calls PyProof.Rows
theorem ints_of_wellAll {P:Params} {h:Heap}:∀ (ns:List Int) (vs:List Value),WellAll P h vs (ns.map WData.int)→IntsAre vs ns:=by
 intro ns
 induction ns with
 | nil=>
  intro vs w
  rw [List.map_nil] at w
  cases w
  exact .nil
 | cons n ns ih=>
  intro vs w
  rw [List.map_cons] at w
  cases w with
  | cons a b=>
   cases a
   exact .cons _ _ (ih _ b)
theorem script_of {l:OpenLaw} {n:Nat} (hn:l.most=some n) {P:Params} {h:Heap} {args:List WData} {vals:List Value}
  (hpre:l.row.toRowW.claim.pre args=true) (hwl:WellAll P h vals args) :
  ∃ a vs ns,vals=[Value.ref a]∧args=[WData.list (ns.map WData.int)]∧h.get? a=some { cls:=.type "list",data:=.seq vs.toArray }∧IntsAre vs ns∧ns.length≤n:=by
 have hsh:WShape.hasAll [] args [.list .int]=true:=(pre_splitW hpre).1
 have hc:l.pre.holds [] { args:=args }=true:=(pre_splitW hpre).2
 obtain ⟨d,r,rfl,h1,h2⟩:=hasAllW_cons hsh
 obtain rfl:=hasAllW_nil h2
 obtain ⟨xs,rfl,h3⟩:=hasW_list h1
 obtain ⟨ns,rfl⟩:=items_int h3
 have hlen:ns.length≤n:=by
  unfold OpenLaw.pre at hc
  have h4:(WTm.not (.lt (.lit (.int (n:Int))) (.len (.arg 0)))).holds [] { args:=[.list (ns.map .int)] }=true:=by
   have h4:=(holds_andW hc).1
   rw [hn] at h4
   exact h4
  have h5:=condW_of h4 (w_not (w_lt w_lit (w_len_list (w_arg rfl))))
  rw [List.length_map] at h5
  refine Nat.le_of_not_lt fun q=>?_
  have q':(n:Int)<((ns.length:Nat):Int):=by lia
  first
   | (rw [decide_eq_true q'] at h5;exact absurd h5 (by decide))
   | (simp at h5;lia)
 cases hwl with
 | cons w1 w2=>
  cases w2
  cases w1 with
  | list ho hall=>exact ⟨_,_,ns,rfl,rfl,ho,ints_of_wellAll ns _ hall,hlen⟩
theorem post_true (l:OpenLaw) (args:List WData):l.row.toRowW.claim.post args (.bool true) args=true:=
 postW_of (r:=l.row.toRowW) (X:=(true == true))
  (show WShape.has [] (.bool true) .bool=true by first | rfl | decide | simp [WShape.has,WShape.arms,WShape.armsAll])
  (show (WTm.eq .res (.lit (.bool true))).value [] { args:=args,res:=some (.bool true),after:=args }=some (.bool (true == true)) from w_eq_bool (w_res rfl) w_lit) rfl
theorem attach_call {l:OpenLaw} {n:Nat} {q:Program} {loose:List Str} {XP:(Str→Option Value)→Heap→Prop} {YP:World→Heap→Prop} {d:DefRec}
  (hn:l.most=some n) (hdf:d.params.defaults=[])
  (call:∀ (w:World) (s₀ s₁:Shared) (mg mb:Str→Option Value) (fa:Addr) (o:Obj) (pm cd doc:Value) (a:Addr) (vs:List Value) (ns:List Int),
   Ground q loose [] XP w s₀ mg mb s₁.heap→YP w s₁.heap→
   s₁.heap.get? fa=some o→o.data=.func (docDef d.name d.params d.body d.scope pm cd doc)→s₁.heap.CodeRec cd d.name→mg d.name=some (.ref fa)→
   s₁.heap.get? a=some { cls:=.type "list",data:=.seq vs.toArray }→IntsAre vs ns→ns.length≤n→s₁.gens=#[]→
   codeAny (model l.prog w) callerA (.call (.ref fa) ⟨[.ref a],[]⟩) (fun r s'=>r=.ok (.ret (.bool true))∧OldK s₁.heap s'.heap∧s'.os=s₁.os∧AllBare s'.gens) s₁) :
  WalkO q loose XP YP l.row.toRowW d [] (fun f vs=>PySem.call f vs):=by
 intro w s₀ s₁ mg mb G Y fa o pm cd doc dV kV ho hd hcd hD hmg hg args vals as hpre hlay hrd hwl hlo
 obtain rfl:dV=.none:=Dflts.none hD hdf
 obtain rfl:kV=.none:=Dflts.noKw hD
 obtain ⟨a,vs,ns,rfl,rfl,hobj,hints,hlen⟩:=script_of hn hpre hwl
 refine enter_call (codeAny_mono (call w s₀ s₁ mg mb fa o pm cd doc a vs ns G Y ho (fd_plain hd) hcd hmg hobj hints hlen hg) fun r s' hq=>?_)
 obtain ⟨rfl,h2,h3,h4⟩:=hq
 exact ⟨.inl ⟨.bool true,.bool true,[],rfl,fun _=>rfl,.bool true,post_true l _,fun _=>⟨List.Pairwise.nil,fun _ hm=>(nomatch hm)⟩⟩,h2,h3,h4⟩
section
variable {prog:Program} {w:World} {A:Around} {E:Value→Shared→Prop} {s:Shared} {K:Frag}
end
end Att
namespace L2
open PySem PySem.Spec PyProof.Rows
theorem vals_ints:∀ {vs:List Value} {ns:List Int},IntsAre vs ns→Vals (ns.map V.int) vs
 | _,_,.nil=>.nil
 | _,_,.cons n t h=>.cons ⟨t,rfl⟩ (vals_ints h)
def Only (H:Hp):Prop:=∀ b,H b=none∨∃ o xs,H b=some (.frz o (.lst xs))
theorem law_call {P:Program} {w:World} {K:PySem.W.Frag} {mg mb:Str→Option Value} {CX:CXT} {k:Nat} {fa a:Addr} {fd:FuncData} {x:Str} {sp:Sp} {s₁:Shared} {vs:List Value} {ns:List Int}
  (KX:K.In s₁.heap) (hns:s₁.heap.Ns mainGlobals mg) (hb:s₁.heap.Ns builtinsNs mb) (hbb:∀ x:Str,x ≠ "__name__"→mb x=bootBuiltins x) (hlim:s₁.heap.NoLimit) (hg:s₁.gens=#[])
  (ha:s₁.heap.get? a=some { cls:=.type "list",data:=.seq vs.toArray }) (hi:IntsAre vs ns) (hl:ns.length≤sizeLine) (hr:Room k callerA)
  (F:∀ base:Heap,K.In base→base.Ns mainGlobals mg→FnOk P w K mg base CX k fa fd [x] sp) (hbind:∀ (s:Shared) (u:Value),BindsTo s fd ⟨[u],[]⟩ [(x,u)])
  (hsp:∀ H:Hp,Only H→SqL K H a (ns.map V.int)→sp [.ref a] H (fun v _=>v=.bl true) fun _ _ _=>False)
  (hCX:∀ H e s',CX [] H s₁ (fun _ _ _=>False) e s'→False) :
  codeAny (model P w) callerA (.call (.ref fa) ⟨[.ref a],[]⟩) (fun r s'=>r=.ok (.ret (.bool true))∧OldK s₁.heap s'.heap∧s'.os=s₁.os∧AllBare s'.gens) s₁:=by
 have rv:=vals_ints hi
 have lenV:=hi.length
 -- from an abstract heap in which nothing but the script may be tracked
 have core:∀ H:Hp,Only H→SqL K H a (ns.map V.int)→HOk P w H s₁.heap→(∀ b,H b ≠ none→b=a)→(H a ≠ none→K.lookup a=none)→
   codeAny (model P w) callerA (.call (.ref fa) ⟨[.ref a],[]⟩) (fun r s'=>r=.ok (.ret (.bool true))∧OldK s₁.heap s'.heap∧s'.os=s₁.os∧AllBare s'.gens) s₁:=by
  intro H hO hS hok hA hK
  have base_of:∀ {b:Addr} {o:Obj},s₁.heap.get? b=some o→H b=none→(hidT s₁.heap H).get? b=some o:=fun e n=>hidT_get e n
  have noA:∀ {b:Addr} {o:Obj} {es:Array DictEntry} {ep:Nat},s₁.heap.get? b=some o→o.data=.dict es ep→H b=none:=fun {b o es ep} e d=>by
   cases q:H b with
   | none=>rfl
   | some u=>
    have e':b=a:=hA b (by rw [q];simp)
    subst e'
    rw [ha] at e;cases e
    have d':Data.seq vs.toArray _=Data.dict es ep:=d
    cases d'
  have nsK:∀ {b:Addr} {m:Str→Option Value},s₁.heap.Ns b m→(hidT s₁.heap H).Ns b m:=fun {b m} ⟨o,es,ep,e,d,r⟩=>⟨o,es,ep,base_of e (noA e d),d,r⟩
  have hKb:K.In (hidT s₁.heap H):=fun b o e=>base_of (KX b o e) (by
   cases q:H b with
   | none=>rfl
   | some u=>
    have e':b=a:=hA b (by rw [q];simp)
    subst e'
    rw [hK (by rw [q];simp)] at e;cases e)
  have hM:Mod K mg (hidT s₁.heap H):=⟨hKb,nsK hns,⟨mb,nsK hb,hbb⟩,let ⟨mc,h1,h2⟩:=hlim;⟨mc,nsK h1,h2⟩⟩
  have e0:Env0 P w K mg (hidT s₁.heap H) callerA [] s₁ H:=⟨rfl,hM,fun b o e=>of_hidT e,Nat.le_of_eq (hidT_size _ _),trivial,fun b hb=>absurd (show b ∈ ([]:List Addr) from hb) (by simp),hok,.of_eq hg⟩
  refine codeAny_mono ((F _ hKb (nsK hns)).run callerA [] s₁ H ⟨[.ref a],[]⟩ [.ref a] [.ref a] _ _ hr e0 (hbind s₁ (.ref a)) (.cons rfl .nil) (hsp H hO hS)) fun r s' h=>?_
  cases r with
  | error e=>exact (hCX H e s' h).elim
  | ok fl=>
   cases fl with
   | next=>exact False.elim h
   | brk=>exact False.elim h
   | cont=>exact False.elim h
   | ret u=>
    obtain ⟨v,H',os,bare,un,hok',r',q⟩:=h
    have q':v=.bl true:=q
    subst q'
    obtain rfl:u=Value.bool true:=r'
    refine ⟨rfl,OldK.of_keep fun b o e=>?_,os,bare⟩
    cases q:H b with
    | none=>exact un.keep b o e q (by intro z;exact absurd (show b ∈ ([]:List Addr) from z) (by simp)) (by simp)
    | some u=>
     rcases hO b with z | ⟨ob,xs,z⟩
     ·rw [q] at z;cases z
     ·have z2:=un.frzs b ob _ z
      obtain ⟨e1,_⟩:=hok b _ z
      obtain ⟨e2,_⟩:=hok' b _ z2
      rw [e] at e1;cases e1
      exact e2
 cases hk:K.lookup a with
 | some o=>
  -- the script is one of the module's own objects
  have e:=KX a o hk
  rw [ha] at e
  cases e
  refine core (fun _=>none) (fun _=>.inl rfl) (.inr ⟨_,vs.toArray,_,hk,rfl,rfl,rfl,by rw [List.size_toArray,lenV];exact hl,by simpa using rv⟩) (fun b u z=>by have z':(none:Option HO)=some u:=z;cases z') (fun b z=>absurd rfl z) fun z=>absurd rfl z
 | none=>
  refine core (fun b=>if b=a then some (.frz { cls:=.type "list",data:=.seq vs.toArray } (.lst (ns.map V.int))) else none) (fun b=>?_) (.inl (.inr ⟨{ cls:=.type "list",data:=.seq vs.toArray },if_pos rfl⟩)) (fun b u z=>?_) (fun b z=>?_) fun _=>hk
  ·by_cases hb:b=a
   ·exact .inr ⟨_,_,if_pos hb⟩
   ·exact .inl (if_neg hb)
  ·by_cases hb:b=a
   ·have z':=(if_pos hb).symm.trans z
    cases z'
    subst hb
    exact ⟨ha,by rw [List.length_map];exact hl,vs,_,rv,ha⟩
   ·have z':=(if_neg hb).symm.trans z
    cases z'
  ·by_cases hb:b=a
   ·exact hb
   ·exact absurd (if_neg hb) z
end L2
namespace L2
open PySem PySem.Spec PyProof.Rows
theorem walk_of {l:PySem.W.OpenLaw} {n k:Nat} {q:Program} {loose:List Str} {XP:(Str→Option Value)→Heap→Prop} {YP:World→Heap→Prop} {d:DefRec} {K:Params→PySem.W.Frag} {CX:World→CXT} {sp:World→Sp} {x:Str}
  (hn:l.most=some n) (hn2:n≤sizeLine) (hdf:d.params.defaults=[]) (hr:Room k callerA)
  (hY:∀ (w:World) (h:Heap),YP w h→(K w.params).In h)
  (F:∀ (w:World) (mg:Str→Option Value) (fa:Addr) (h:Heap),(K w.params).In h→h.Ns mainGlobals mg→mg d.name=some (.ref fa)→
   ∃ fd:FuncData,(∀ (s:Shared) (u:Value),BindsTo s fd ⟨[u],[]⟩ [(x,u)])∧
    ∀ base:Heap,(K w.params).In base→base.Ns mainGlobals mg→FnOk l.prog w (K w.params) mg base (CX w) k fa fd [x] (sp w))
  (hsp:∀ (w:World) (H:Hp) (a:Addr) (ns:List Int),ns.length≤n→Only H→SqL (K w.params) H a (ns.map V.int)→sp w [.ref a] H (fun v _=>v=.bl true) fun _ _ _=>False)
  (hCX:∀ (w:World) (H:Hp) (s:Shared) (e:Value) (s':Shared),CX w [] H s (fun _ _ _=>False) e s'→False) :
  PySem.W.WalkO q loose XP YP l.row.toRowW d [] (fun f vs=>PySem.call f vs):=by
 refine Att.attach_call hn hdf fun w s₀ s₁ mg mb fa o pm cd doc a vs ns G Y ho hd hcd hmg hobj hints hlen hg=>?_
 have KX:=hY w _ Y
 obtain ⟨fd,hb,hF⟩:=F w mg fa _ KX G.T.g hmg
 exact law_call KX G.T.g G.T.b G.T.builtins G.T.nolimit hg hobj hints (Nat.le_trans hlen hn2) hr hF hb (fun H hO hS=>hsp w H a ns hlen hO hS) fun H e s'=>hCX w H s₁ e s'
end L2
namespace L2
open PySem PySem.Spec PyProof.Rows
noncomputable def defArgs (s:Stmt):Arguments:=match s with
 | .FunctionDef _ a _ _ _ _ _ _ _ _=>a
 | _=>{ posonlyargs:=[],args:=[],vararg:=none,kwonlyargs:=[],kw_defaults:=[],kwarg:=none,defaults:=[] }
noncomputable def defBody (s:Stmt):List Stmt:=match s with
 | .FunctionDef _ _ b _ _ _ _ _ _ _=>b
 | _=>[]
noncomputable def defScope (s:Stmt):Scope:=match s with
 | .FunctionDef _ _ _ _ _ _ sc _ _ _=>sc
 | _=>{ kind:=.function,names:=[],isGenerator:=false,isCoroutine:=false }
abbrev CX0:CXT:=fun _ _ _ _ _ _=>False
abbrev E0:XK:=fun _ _ _=>False
theorem pass0 {X:Cx}:Passes CX0 X E0:=fun _ _ _ _ _ _ _ h=>h.elim
structure Fun (K:PySem.W.Frag) (x qual:Str) (st:Stmt) (f:Addr) (fd:FuncData):Prop where
 ex:∃ (oc:Value) (od:Option Addr) (kV doc pm:Value) (an:Option Addr) (cdv ct:Value) (osl:Array (Option Value)),
  fd=PySem.W.fnOf x qual (defArgs st) (defBody st) (defScope st) .none kV doc pm an cdv ct∧K.lookup f=some ⟨oc,od,.func fd,osl⟩∧PySem.W.codeIn K cdv qual=true
 kp:PySem.W.keepIn K (.ref f)=true
section
variable {P:Program} {w:World} {K:PySem.W.Frag} {mg:Str→Option Value} {base:Heap}
theorem Fun.ok {x qual:Str} {st:Stmt} {f:Addr} {fd:FuncData} {N ps:List Str} {k:Nat} {sp:Sp} (F:Fun K x qual st f fd) (S:FnScope N ps (defScope st)) (len:∀ vs H Q E,sp vs H Q E→vs.length=ps.length)
  (hbody:∀ (cdv:Value) (A:Around) (outer:List Env) (s:Shared) (H:Hp) (vs:List V) (Q:VK) (E:XK),Room k (A.deeper (envOfC qual (defScope st) s.heap.objs.size f cdv))→sp vs H Q E→
   ∃ t,PSs (cxOf CX0 P w K mg base N qual (defScope st) f cdv A outer s H E).nox (defBody st) t∧t { nx:=fun _ H'=>Q .non H',rt:=Q } (start N vs) H):FnOk P w K mg base CX0 (k+1) f fd ps sp:=by
 obtain ⟨oc,od,kV,doc,pm,an,cdv,ct,osl,rfl,lk,hcd⟩:=F.ex
 refine fn_of lk hcd S len fun A outer s H vs Q E hr hsp=>?_
 obtain ⟨t,h,q⟩:=hbody cdv A outer s H vs Q E hr hsp
 exact ⟨t,h.nox,q⟩
theorem Fun.binds {x qual:Str} {st:Stmt} {f:Addr} {fd:FuncData} {ps:List Str} (F:Fun K x qual st f fd)
  (h:∀ (kV doc pm:Value) (an:Option Addr) (cdv ct:Value) (us:List Value),us.length=ps.length→bindArgs (PySem.W.fnOf x qual (defArgs st) (defBody st) (defScope st) .none kV doc pm an cdv ct) ⟨us,[]⟩=pure (ps.zip us)):Binds K fd ps []:=by
 obtain ⟨oc,od,kV,doc,pm,an,cdv,ct,osl,rfl,lk,hcd⟩:=F.ex
 exact .all (h kV doc pm an cdv ct)
theorem fun_mk {x qual:Str} {st:Stmt} {f:Addr} {oc:Value} {od an:Option Addr} {osl:Array (Option Value)} {kV doc pm cdv ct:Value} (l:K.lookup f=some ⟨oc,od,.func (PySem.W.fnOf x qual (defArgs st) (defBody st) (defScope st) .none kV doc pm an cdv ct),osl⟩)
  (c:PySem.W.codeIn K cdv qual=true) (k:PySem.W.keepIn K (.ref f)=true):Fun K x qual st f (PySem.W.fnOf x qual (defArgs st) (defBody st) (defScope st) .none kV doc pm an cdv ct):=⟨⟨oc,od,kV,doc,pm,an,cdv,ct,osl,rfl,l,c⟩,k⟩
end
theorem hu_of {A:Around} {k:Nat} (hr:Room k A):A.units+1<cLine:=Nat.lt_of_le_of_lt (Nat.add_le_add_left (by decide:1≤64) _) hr.units
theorem small1000 {n:Nat} (h:n≤1000):n<sizeLine:=Nat.lt_of_le_of_lt h (by decide)
section
variable {X:Cx}
theorem pv (i:Nat) {x:Str} {pos:Pos} (hN:X.N[i]?=some x:=by rfl) (hv:Vis X.env.scope x:=by first | exact Or.inl rfl | exact Or.inr (Or.inl rfl) | exact Or.inr (Or.inr rfl)) (hd:(x == ("__debug__" : Str))=false:=by decide)
  (hcd:(x == ("__classdict__" : Str))=false:=by decide):PE X (.Name x pos) (tVar i):=pe_var hN hv hd hcd
end
theorem iteF {A B:Prop} (h:B):if false=true then A else B:=by
 rw [if_neg Bool.false_ne_true]
 exact h
theorem iteT {A B:Prop} (h:A):if true=true then A else B:=by
 rw [if_pos rfl]
 exact h
theorem ite2 {c A B:Prop} [Decidable c] (h1:c→A) (h2:¬ c→B):if c then A else B:=by
 by_cases h:c
 ·rw [if_pos h]
  exact h1 h
 ·rw [if_neg h]
  exact h2 h
def Same (H H':Hp):Prop:=∀ b o,H b=some o→H' b=some o
theorem Same.refl (H:Hp):Same H H:=fun _ _ h=>h
theorem Same.trans {H H1 H2:Hp} (a:Same H H1) (b:Same H1 H2):Same H H2:=fun c o h=>b c o (a c o h)
theorem Same.free {H H':Hp} (e:Same H H') {l:Addr} (h:H' l=Option.none):H l=Option.none:=by
 cases q:H l with
 | none=>rfl
 | some o=>
  rw [e l o q] at h
  cases h
end L2
namespace L2
open PySem PySem.Spec PyProof.Rows
section
variable {κ:Type} [DecidableEq κ]
noncomputable def valV (kvs:List (κ × V)) (k:κ):Option V:=(kvs.find? fun kv=>decide (kv.1=k)).map (·.2)
noncomputable def putK (kvs:List (κ × V)) (k:κ) (v:V):List (κ × V):=
 if (kvs.any fun kv=>decide (kv.1=k))=true then kvs.map (fun kv=>if kv.1=k then (kv.1,v) else kv) else kvs++[(k,v)]
theorem qCN {p:κ × V} {r:List (κ × V)} {k:κ} (e:p.1=k):valV (p::r) k=some p.2:=by simp [valV,List.find?_cons,e]
theorem valV_neg {p:κ × V} {r:List (κ × V)} {k:κ} (e:¬ p.1=k):valV (p::r) k=valV r k:=by simp [valV,List.find?_cons,e]
theorem valV_any (k:κ):∀ kvs:List (κ × V),(kvs.any fun kv=>decide (kv.1=k))=(valV kvs k).isSome
 | []=>rfl
 | p::r=>by
  rw [List.any_cons]
  by_cases e:p.1=k
  ·simp only [qCN e,decide_eq_true e,Bool.true_or,Option.isSome_some]
  ·rw [valV_neg e,decide_eq_false e,Bool.false_or];exact valV_any k r
theorem qD5 (kvs:List (κ × V)) (k:κ) (v:V):(putK kvs k v).length≤kvs.length+1:=by
 unfold putK
 split
 ·rw [List.length_map];lia
 ·rw [List.length_append,List.length_cons,List.length_nil];lia
theorem RelO.isSome_eq {o:Option V} {u:Option Value} (r:RelO o u):o.isSome=u.isSome:=by
 cases o with
 | none=>cases u with
  | none=>rfl
  | some _=>exact (show False from r).elim
 | some _=>cases u with
  | none=>exact (show False from r).elim
  | some _=>rfl
theorem KV.val {kvs:List (κ × V)} {vs:List (κ × Value)} (r:KV kvs vs) (k:κ):RelO (valV kvs k) (valueAt vs k):=by
 unfold KV at r
 induction r with
 | nil=>exact True.intro
 | @cons p q ps qs h t ih=>
  obtain ⟨h1,h2⟩:=h
  by_cases e:p.1=k
  ·have e':q.1=k:=h1.symm.trans e
   have b:valueAt (q::qs) k=some q.2:=by simp [valueAt,List.find?_cons,e']
   rw [qCN e,b];exact h2
  ·have e':¬ q.1=k:=fun z=>e (h1.trans z)
   have b:valueAt (q::qs) k=valueAt qs k:=by simp [valueAt,List.find?_cons,e']
   rw [valV_neg e,b];exact ih
theorem KV.any {kvs:List (κ × V)} {vs:List (κ × Value)} (r:KV kvs vs) (k:κ):(kvs.any fun kv=>decide (kv.1=k))=vs.any fun kv=>decide (kv.1=k):=by
 unfold KV at r
 induction r with
 | nil=>rfl
 | cons h t ih=>rw [List.any_cons,List.any_cons,ih,h.1]
theorem KV.repl {kvs:List (κ × V)} {vs:List (κ × Value)} (r:KV kvs vs) (k:κ) {y:V} {u:Value} (ry:RelV y u) :
  KV (kvs.map fun kv=>if kv.1=k then (kv.1,y) else kv) (vs.map fun kv=>if kv.1=k then (kv.1,u) else kv):=by
 unfold KV at r ⊢
 induction r with
 | nil=>exact .nil
 | @cons p q ps qs h t ih=>
  rw [List.map_cons,List.map_cons]
  refine .cons ?_ ih
  obtain ⟨h1,h2⟩:=h
  by_cases e:p.1=k
  ·rw [if_pos e,if_pos (h1.symm.trans e)];exact ⟨h1,ry⟩
  ·rw [if_neg e,if_neg (fun z=>e (h1.trans z))];exact ⟨h1,h2⟩
theorem KV.put {kvs:List (κ × V)} {vs:List (κ × Value)} (r:KV kvs vs) (k:κ) {y:V} {u:Value} (ry:RelV y u):KV (putK kvs k y) (stored vs k u):=by
 unfold putK stored
 rw [r.any k]
 by_cases e:(vs.any fun kv=>decide (kv.1=k))=true
 ·rw [if_pos e,if_pos e];exact r.repl k ry
 ·rw [if_neg e,if_neg e];exact Paired.snoc r ⟨rfl,ry⟩
theorem KV.length {kvs:List (κ × V)} {vs:List (κ × Value)} (r:KV kvs vs):kvs.length=vs.length:=Paired.length r
end
theorem kV_is {P:Program} {w:World} {k:Key} {u:Value} (r:RelV (kV k) u):(mixKind P w).is k u=true:=by
 cases k with
 | inl i=>obtain ⟨t,e⟩:=(show ∃ t,u=Value.int i t from r);subst e;exact mixKind_int P w i t
 | inr x=>obtain ⟨t,e⟩:=(show ∃ t,u=Value.str x t from r);subst e;exact mixKind_str P w x t
theorem items_are {P:Program} {w:World}:∀ {ks:List Key} {us:List Value},Vals (ks.map kV) us→ItemsAre (mixKind P w) ks us
 | [],_,r=>by rw [List.map_nil] at r;cases r;exact .nil
 | k::ks,_,r=>by
  rw [List.map_cons] at r
  cases r with
  | cons h t=>exact .cons (kV_is h) (items_are t)
abbrev KT (H:Hp):List (List Key × V)→List (List Key × Addr × Value)→Prop:=Paired fun p q=>p.1=q.1∧H q.2.1=some (.tup (p.1.map kV))∧RelV p.2 q.2.2
theorem KT.val {H:Hp} {kvs:List (List Key × V)} {xs:List (List Key × Addr × Value)} (r:KT H kvs xs) (k:List Key):RelO (valV kvs k) ((atKey xs k).map (·.2)):=by
 induction r with
 | nil=>exact True.intro
 | @cons p q ps qs h t ih=>
  obtain ⟨h1,_,h2⟩:=h
  by_cases e:p.1=k
  ·have e':q.1=k:=h1.symm.trans e
   have b:atKey (q::qs) k=some q.2:=by simp [atKey,List.find?_cons,e']
   rw [qCN e,b];exact h2
  ·have e':¬ q.1=k:=fun z=>e (h1.trans z)
   have b:atKey (q::qs) k=atKey qs k:=by simp [atKey,List.find?_cons,e']
   rw [valV_neg e,b];exact ih
theorem KT.repl {H:Hp} {kvs:List (List Key × V)} {xs:List (List Key × Addr × Value)} (r:KT H kvs xs) (k:List Key) {y:V} {u:Value} (ry:RelV y u) :
  KT H (kvs.map fun kv=>if kv.1=k then (kv.1,y) else kv) (xs.map (putAt k u)):=by
 induction r with
 | nil=>exact .nil
 | @cons p q ps qs h t ih=>
  rw [List.map_cons,List.map_cons]
  refine .cons ?_ ih
  obtain ⟨h1,h2,h3⟩:=h
  unfold putAt
  by_cases e:p.1=k
  ·rw [if_pos e,if_pos (h1.symm.trans e)];exact ⟨h1,h2,ry⟩
  ·rw [if_neg e,if_neg (fun z=>e (h1.trans z))];exact ⟨h1,h2,h3⟩
theorem KT.put {H:Hp} {kvs:List (List Key × V)} {xs:List (List Key × Addr × Value)} (r:KT H kvs xs) (k:List Key) {b:Addr} {y:V} {u:Value} (hb:H b=some (.tup (k.map kV))) (ry:RelV y u) :
  KT H (putK kvs k y) (storedH xs k b u):=by
 have e:(kvs.any fun kv=>decide (kv.1=k))=(atKey xs k).isSome:=by
  rw [valV_any,(r.val k).isSome_eq,Option.isSome_map]
 unfold putK storedH
 rw [e]
 by_cases q:(atKey xs k).isSome=true
 ·rw [if_pos q,if_pos q];exact r.repl k ry
 ·rw [if_neg q,if_neg q];exact Paired.snoc r ⟨rfl,hb,ry⟩
theorem KT.keeps {H H':Hp} {kvs:List (List Key × V)} {xs:List (List Key × Addr × Value)} (r:KT H kvs xs) (ht:∀ b ys,H b=some (.tup ys)→H' b=some (.tup ys)):KT H' kvs xs:=
 Paired.mapP r fun _ _ z=>⟨z.1,ht _ _ z.2.1,z.2.2⟩
section
variable {P:Program} {w:World} {H:Hp} {h:Heap} {a:Addr}
theorem rd_of {u:HO} (ok:HOk P w H h) (e:Rd H a u):ObjOk P w H h a u:=e.ok ok
theorem dk_rd {kvs:List (Key × V)} (ok:HOk P w H h) (e:Rd H a (.dK kvs)):kvs.length≤sizeLine∧(a == sysModules)=false∧∃ vs,KV kvs vs∧h.DictOf (mixKind P w) a vs:=
 show ObjOk P w H h a (.dK kvs) from rd_of ok e
theorem dk_of {kvs:List (Key × V)} (ok:HOk P w H h) (e:H a=some (.dK kvs)):kvs.length≤sizeLine∧(a == sysModules)=false∧∃ vs,KV kvs vs∧h.DictOf (mixKind P w) a vs:=dk_rd ok (.inl e)
theorem key_of {ks:List Key} (ok:HOk P w H h) (e:H a=some (.tup (ks.map kV))):(tupleKind (mixKind P w)).is h ks a:=by
 obtain ⟨_,its,r,o,h1,h2,n,h3⟩:=(show ObjOk P w H h a (.tup (ks.map kV)) from ok a _ e)
 exact ⟨o,its.toArray,n,h1,h2,h3,by simpa using items_are r⟩
theorem dt_rd {kvs:List (List Key × V)} (ok:HOk P w H h) (e:Rd H a (.dT kvs)):kvs.length≤sizeLine∧(a == sysModules)=false∧
  ∃ xs,KT H kvs xs∧h.DictOfH (tupleKind (mixKind P w)) a xs:=by
 obtain ⟨z,y,xs,r,o,es,ep,h1,h2,h3,h4,h5⟩:=(show ObjOk P w H h a (.dT kvs) from rd_of ok e)
 refine ⟨z,y,xs,r,o,es,ep,h1,h2,h3,h4,fun x hx=>?_,h5⟩
 have all:∀ {l:List (List Key × V)} {m:List (List Key × Addr × Value)},KT H l m→∀ x ∈ m,(tupleKind (mixKind P w)).is h x.1 x.2.1:=by
  intro l m q
  induction q with
  | nil=>intro x hx;exact nomatch hx
  | @cons p q ps qs hq t ih=>
   intro x hx
   rcases List.mem_cons.mp hx with e | hx
   ·subst e
    exact key_of ok (by rw [← hq.1];exact hq.2.1)
   ·exact ih x hx
 exact all r x hx
theorem dt_of {kvs:List (List Key × V)} (ok:HOk P w H h) (e:H a=some (.dT kvs)):kvs.length≤sizeLine∧(a == sysModules)=false∧
  ∃ xs,KT H kvs xs∧h.DictOfH (tupleKind (mixKind P w)) a xs:=dt_rd ok (.inl e)
end
def DGet (H:Hp) (a:Addr) (y:V) (r:Option V):Prop:=
 (∃ kvs k,Rd H a (.dK kvs)∧y=kV k∧r=valV kvs k)∨∃ kvs k b,Rd H a (.dT kvs)∧y=.ref b∧H b=some (.tup (k.map kV))∧r=valV kvs k
def DPut (H:Hp) (a:Addr) (y v:V) (H':Hp):Prop:=
 (∃ kvs k,H a=some (.dK kvs)∧y=kV k∧kvs.length<sizeLine∧H'=upd H a (.dK (putK kvs k v)))∨
 ∃ kvs k b,H a=some (.dT kvs)∧y=.ref b∧H b=some (.tup (k.map kV))∧kvs.length<sizeLine∧H'=upd H a (.dT (putK kvs k v))
theorem DGet.k {H:Hp} {a:Addr} {kvs:List (Key × V)} {k:Key} (e:H a=some (.dK kvs)):DGet H a (kV k) (valV kvs k):=.inl ⟨kvs,k,.inl e,rfl,rfl⟩
theorem DPut.k {H:Hp} {a:Addr} {kvs:List (Key × V)} {k:Key} {v:V} (e:H a=some (.dK kvs)) (hl:kvs.length<sizeLine):DPut H a (kV k) v (upd H a (.dK (putK kvs k v))):=.inl ⟨kvs,k,e,rfl,hl,rfl⟩
section
variable {X:Cx} {pins:List (Addr × Obj)} {σ:St} {H:Hp} {s:Shared} {a:Addr} {y v:V} {u r:Value} {o:Option V} {A:Around} {E:Value→Shared→Prop}
theorem Inv.big (I:Inv X pins σ H s):sysModules<s.heap.objs.size:=by
 have h:mainGlobals<s.heap.objs.size:=(I.mod.glob.keeps I.bk).lt
 exact Nat.lt_trans (by decide) h
theorem d_getItem {Q:Value→Shared→Prop} (hu:A.units+1<cLine) (I:Inv X pins σ H s) (g:DGet H a y (some v)) (ry:RelV y u) (h:∀ w' s',Inv X pins σ H s'→RelV v w'→Q w' s') :
  wpAny (model X.prog X.w) A (getItem (.ref a) u) Q E s:=by
 rcases g with ⟨kvs,k,e,ey,l⟩ | ⟨kvs,k,b,e,ey,eb,l⟩
 ·subst ey
  obtain ⟨z,hd,vs,rel,dd⟩:=dk_rd I.hok e
  obtain ⟨w',hw,rw'⟩:=RelO.some_of (v:=v) (o:=valueAt vs k) (by rw [l];exact rel.val k)
  exact wpAny_getItem_of (kV_is ry) dd.mapOf hw (h w' _ (I.tok _) rw')
 ·subst ey
  cases (show u=Value.ref b from ry)
  obtain ⟨z,hd,xs,rel,dd⟩:=dt_rd I.hok e
  obtain ⟨w',hw,rw'⟩:=RelO.some_of (v:=v) (o:=(atKey xs k).map (·.2)) (by rw [l];exact rel.val k)
  obtain ⟨p,hp,hp2⟩:=Option.map_eq_some_iff.mp hw
  refine wpAny_getItem_heap (tupleKind_room_in1 hu) (key_of I.hok eb) dd hp ?_
  rw [hp2]
  exact h w' _ (I.tok _) rw'
theorem d_in {Q:Value→Shared→Prop} (hu:A.units+1<cLine) (I:Inv X pins σ H s) (g:DGet H a y o) (ry:RelV y u) (h:∀ s',Inv X pins σ H s'→Q (.bool o.isSome) s') :
  wpAny (model X.prog X.w) A (compareOp .In u (.ref a)) Q E s:=by
 rcases g with ⟨kvs,k,e,ey,l⟩ | ⟨kvs,k,b,e,ey,eb,l⟩
 ·subst ey
  obtain ⟨z,hd,vs,rel,dd⟩:=dk_rd I.hok e
  refine wpAny_in_of (kV_is ry) hd dd.mapOf ?_
  rw [← (rel.val k).isSome_eq,← l]
  exact h _ (I.tok _)
 ·subst ey
  cases (show u=Value.ref b from ry)
  obtain ⟨z,hd,xs,rel,dd⟩:=dt_rd I.hok e
  refine wpAny_in_heap (tupleKind_room_in1 hu) (key_of I.hok eb) hd dd ?_
  have q:=(rel.val k).isSome_eq
  rw [Option.isSome_map] at q
  rw [← q,← l]
  exact h _ (I.tok _)
theorem d_write {h':Heap} {t':Nat} {ob:HO} (I:Inv X pins σ H s) (mu:Mut (H a)) (hs:Heap.SameBut a s.heap h') (he:∃ q,h'.get? a=some q) (new:ObjOk X.prog X.w (upd H a ob) h' a ob) :
  Inv X pins σ (upd H a ob) { s with heap:=h',toks:=t' }:=
 I.write (x:=a) (e:=a) mu (.inl rfl) (fun b q hb z=>(hs.2 b hb).trans z) he new
theorem dk_new {P:Program} {w:World} {H':Hp} {h':Heap} {kvs:List (Key × V)} {vs:List (Key × Value)} (z:kvs.length≤sizeLine) (hd:(a == sysModules)=false) (rel:KV kvs vs) (dd:h'.DictOf (mixKind P w) a vs) :
  ObjOk P w H' h' a (.dK kvs):=⟨z,hd,vs,rel,dd⟩
theorem d_setItem {H':Hp} {Q:Unit→Shared→Prop} (hu:A.units+1<cLine) (I:Inv X pins σ H s) (g:DPut H a y v H') (ry:RelV y u) (rv:RelV v r) (h:∀ s',Inv X pins σ H' s'→Q () s') :
  wpAny (model X.prog X.w) A (setItem (.ref a) u r) Q E s:=by
 rcases g with ⟨kvs,k,e,ey,l,eH⟩ | ⟨kvs,k,b,e,ey,eb,l,eH⟩
 ·subst ey eH
  obtain ⟨z,hd,vs,rel,dd⟩:=dk_of I.hok e
  have hz:vs.length≤sizeLine:=by rw [← rel.length];exact z
  have hl:(putK kvs k v).length≤sizeLine:=by have:=qD5 kvs k v;lia
  refine wpAny_setItem_pairs (hsz:=hz) (kV_is ry) dd fun h' dd' hs=>h _ ?_
  have he:∃ q,h'.get? a=some q:=let ⟨q,_,_,hq,_⟩:=dd';⟨q,hq⟩
  exact d_write I (by rw [e];exact True.intro) hs he (dk_new hl hd (rel.put k rv) dd')
 ·subst ey eH
  cases (show u=Value.ref b from ry)
  obtain ⟨z,hd,xs,rel,dd⟩:=dt_of I.hok e
  have hz:xs.length≤sizeLine:=by rw [← Paired.length rel];exact z
  have hl:(putK kvs k v).length≤sizeLine:=by have:=qD5 kvs k v;lia
  refine wpAny_setItem_heap (hsz:=hz) (tupleKind_room_in1 hu) (key_of I.hok eb) dd fun h' dd' hs=>h _ ?_
  obtain ⟨q,es,ep,hq,h2,h3,h4,_,h5⟩:=dd'
  refine d_write I (by rw [e];exact True.intro) hs ⟨q,hq⟩ ⟨hl,hd,_,(rel.put k eb rv).keeps fun c ys ec=>?_,q,es,ep,hq,h2,h3,h4,h5⟩
  rw [qA7 (ne_of ec e (fun z=>nomatch z))]
  exact ec
end
section
variable {X:Cx} {pins:List (Addr × Obj)} {σ:St} {H:Hp} {s:Shared} {a:Addr} {kvs:List (Key × V)} {k:Key} {u:Value} {A:Around} {E:Value→Shared→Prop}
end
def NoSl (i:Expr):Prop:=∀ ov iv,subscripted i false ov iv=operate [ov,iv] (getItem ov iv)
theorem subD_of {prog:Program} {w:World} {A:Around} {E:Value→Shared→Prop} {s:Shared} {env:Env} {value slice:Expr} {pos:Pos} {T id:String} {Q:Value→Shared→Prop}
  (hl:typeLookup (.type T) "__getitem__" = pure (some (.builtin id))) (hs:NoSl slice)
  (h:wpAny (model prog w) A (eval value env) (fun o s₁=>wpAny (model prog w) A (eval slice env) (fun i s₂=>s₂.TypeIs o T∧wpAny (model prog w) A (getItem o i) Q E s₂) E s₁) E s) :
  wpAny (model prog w) A (eval (.Subscript value slice pos) env) Q E s:=by
 refine Subscript_ (wpAny_mono h (fun o s₁ h₁=>wpAny_mono h₁ (fun i s₂ h₂=>?_) fun _ _ x=>x) fun _ _ x=>x)
 obtain ⟨hT,h₂⟩:=h₂
 unfold subscriptTail
 refine wpAny_bind ?_
 rw [getitemInPython_of_ne hT.not_modules]
 refine wpAny_bind (wpAny_specialOf hT hl ?_)
 have fin:wpAny (model prog w) A (subscripted slice false o i) (fun r s₃=>wpAny (model prog w) A (letTemporaryGo value o r >>= fun _=>pure r) Q E s₃) E s₂:=by
  rw [hs o i]
  exact wpAny_operating (wpAny_mono h₂ (fun r s₃ h₃=>wpAny_bind (wpAny_letTemporaryGo (wpAny_pure h₃))) fun _ _ x=>x)
 first
  | exact wpAny_pure (wpAny_bind fin)
  | exact wpAny_bind (wpAny_pure (wpAny_bind fin))
  | exact wpAny_bind fin
theorem dict_typeIs {X:Cx} {pins:List (Addr × Obj)} {σ:St} {H:Hp} {s:Shared} {a:Addr} {y:V} {o:Option V} (I:Inv X pins σ H s) (g:DGet H a y o):s.TypeIs (.ref a) "dict":=by
 rcases g with ⟨kvs,k,e,_,_⟩ | ⟨kvs,k,b,e,_,_,_⟩
 ·obtain ⟨_,_,vs,_,dd⟩:=dk_rd I.hok e
  exact dd.typeIs
 ·obtain ⟨_,_,xs,_,dd⟩:=dt_rd I.hok e
  exact dd.typeIs
def tDGet (td ty:TE):TE:=fun σ H Q=>td σ H fun x H1=>ty σ H1 fun y H2=>∃ a v,x=.ref a∧DGet H2 a y (some v)∧Q v H2
def tDIn (ty td:TE):TE:=fun σ H Q=>ty σ H fun y H1=>td σ H1 fun x H2=>∃ a o,x=.ref a∧DGet H2 a y o∧Q (.bl o.isSome) H2
def sDPut (td ty tv:TE):TS:=fun D σ H=>tv σ H fun v H1=>td σ H1 fun x H2=>ty σ H2 fun y H3=>∃ a H4,x=.ref a∧DPut H3 a y v H4∧D.nx σ H4
section
variable {X:Cx} {o i e value:Expr} {pos pos' tpos:Pos} {td ty tv:TE}
theorem pe_dget (hu:X.A.units+1<cLine) (ho:PE X o td) (hi:PE X i ty) (hs:NoSl i):PE X (.Subscript o i pos) (tDGet td ty):=by
 intro pins s σ H Q I h
 refine subD_of PySem.F.slot_dict_getitem.lookup hs (thn (ho pins s σ H _ I h) fun u s1 ⟨x,H1,I1,rx,q1⟩=>thn (hi pins s1 σ H1 _ I1 q1) fun iv s2 ⟨y,H2,I2,ry,a,v,ex,g,q2⟩=>?_)
 subst ex
 obtain rfl:u=Value.ref a:=rx
 exact ⟨dict_typeIs I2 g,d_getItem hu I2 g ry fun w' s3 I3 rw'=>⟨v,H2,I3,rw',q2⟩⟩
theorem pc_din (hu:X.A.units+1<cLine) (hi:PE X i ty) (ho:PE X o td):PC X .In i o (tDIn ty td):=by
 intro pins s σ H Q I h
 refine thn (hi pins s σ H _ I h) fun iv s1 ⟨y,H1,I1,ry,q1⟩=>thn (ho pins s1 σ H1 _ I1 q1) fun u s2 ⟨x,H2,I2,rx,a,ov,ex,g,q2⟩=>?_
 subst ex
 obtain rfl:u=Value.ref a:=rx
 exact d_in hu I2 g ry fun s3 I3=>⟨.bl ov.isSome,H2,I3,rfl,q2⟩
theorem ps_dput (hu:X.A.units+1<cLine) (ho:PE X o td) (hi:PE X i ty) (hv:PE X value tv) (hs:swapsWith value (some (.Subscript o i pos')) pos.line X.env=pure false) :
  PS X (.Assign [.Subscript o i pos'] value pos) (sDPut td ty tv):=by
 intro pins s σ H D I h
 refine wpAny_Assign_Subscript (thn (hv pins s σ H _ I h) fun r s1 ⟨v,H1,I1,rv,q1⟩=>thn (ho pins s1 σ H1 _ I1 q1) fun u s2 ⟨x,H2,I2,rx,q2⟩=>thn (hi pins s2 σ H2 _ I2 q2) fun iv s3 ⟨y,H3,I3,ry,a,H4,ex,g,q3⟩=>?_) hs
 subst ex
 obtain rfl:u=Value.ref a:=rx
 exact d_setItem hu I3 g ry rv fun s4 I4=>⟨σ,H4,I4,q3⟩
end
theorem dk_empty {P:Program} {w:World} {H:Hp} (h:Heap) (hb:sysModules<h.objs.size):ObjOk P w H (h.push { cls:=.type "dict",data:=.dict #[] }) h.objs.size (.dK []):=
 ⟨Nat.zero_le _,beq_eq_false_iff_ne.mpr (Ne.symm (Nat.ne_of_lt hb)),[],.nil,Heap.DictOf.new h⟩
def tDNewK:TE:=fun _ H Q=>∀ p,H p=none→Q (.ref p) (upd H p (.dK []))
section
variable {X:Cx} {pos:Pos}
theorem pe_dnewK:PE X (.Dict [] [] pos) tDNewK:=fun pins s σ H Q I h=>
 wpAny_Dict_empty ⟨.ref s.heap.objs.size,_,I.laid (a:=s.heap.objs.size) (o:=.dK []) (t':=s.toks) (fun _ _ q=>Heap.get?_push_of_some _ q) (Nat.le_refl _) (dk_empty s.heap I.big),rfl,h _ (I.hok.fresh (Nat.le_refl _))⟩
end
def tPairs:List (TE × TE)→St→Hp→(List (V × V)→Hp→Prop)→Prop
 | [],_,H,Q=>Q [] H
 | (tk,tv)::r,σ,H,Q=>tk σ H fun x H1=>tv σ H1 fun y H2=>tPairs r σ H2 fun ps H3=>Q ((x,y)::ps) H3
abbrev VV:List (V × V)→List (Value × Value)→Prop:=Paired fun p q=>RelV p.1 q.1∧RelV p.2 q.2
def PPs (X:Cx) (pos:Pos) (keys:List (Option Expr)) (values:List Expr) (trs:List (TE × TE)):Prop:=
 ∀ (pins:List (Addr × Obj)) (s:Shared) (σ:St) (H:Hp) (Q:List (V × V)→Hp→Prop),Inv X pins σ H s→tPairs trs σ H Q→
  wpAny (model X.prog X.w) X.A (evalPairs (pairTrees keys values X.env pos)) (fun vs s'=>∃ ps H',Inv X pins σ H' s'∧VV ps vs∧Q ps H') X.xe s
theorem pps_nil {X:Cx} {pos:Pos}:PPs X pos [] [] []:=fun pins s σ H Q I h=>pairTrees_nil_walk ⟨[],H,I,.nil,h⟩
theorem pps_cons {X:Cx} {pos:Pos} {k v:Expr} {ks:List (Option Expr)} {vs:List Expr} {tk tv:TE} {trs:List (TE × TE)} (hk:PE X k tk) (hv:PE X v tv) (hr:PPs X pos ks vs trs) :
  PPs X pos (some k::ks) (v::vs) ((tk,tv)::trs):=fun pins s σ H Q I h=>
 pairTrees_cons_walk (thn (hk pins s σ H _ I h) fun u s1 ⟨x,H1,I1,rx,q1⟩=>thn (hv pins s1 σ H1 _ I1 q1) fun w2 s2 ⟨y,H2,I2,ry,q2⟩=>
  thn (hr pins s2 σ H2 _ I2 q2) fun ws s3 ⟨ps,H3,I3,rel,q3⟩=>⟨(x,y)::ps,H3,I3,.cons ⟨rx,ry⟩ rel,q3⟩)
noncomputable def mergeK (kvs more:List (Key × V)):List (Key × V):=more.foldl (fun acc kv=>putK acc kv.1 kv.2) kvs
theorem KV.merge:∀ {more:List (Key × V)} {rs:List (Key × Value)} {kvs:List (Key × V)} {vs:List (Key × Value)},KV more rs→KV kvs vs→KV (mergeK kvs more) (merged vs rs):=by
 intro more rs kvs vs r
 unfold KV at r
 induction r generalizing kvs vs with
 | nil=>intro q;exact q
 | @cons p q ps qs h t ih=>
  intro r0
  have e:KV (putK kvs p.1 p.2) (stored vs q.1 q.2):=by
   have:=r0.put p.1 h.2
   rw [← h.1];exact this
  exact ih e
theorem length_mergeK:∀ (more kvs:List (Key × V)),(mergeK kvs more).length≤kvs.length+more.length
 | [],kvs=>by show kvs.length≤kvs.length+0;lia
 | p::r,kvs=>by
  have h1:=length_mergeK r (putK kvs p.1 p.2)
  have h2:=qD5 kvs p.1 p.2
  show (mergeK (putK kvs p.1 p.2) r).length≤_
  rw [List.length_cons];lia
theorem carries_of {P:Program} {w:World}:∀ {kvs:List (Key × V)} {ws:List (Value × Value)},VV (kvs.map fun kv=>(kV kv.1,kv.2)) ws→∃ rs,Carries (mixKind P w) ws rs∧KV kvs rs
 | [],_,r=>by rw [List.map_nil] at r;cases r;exact ⟨[],True.intro,.nil⟩
 | p::kvs,_,r=>by
  rw [List.map_cons] at r
  cases r with
  | @cons a b as bs h t=>
   obtain ⟨rs,c,q⟩:=carries_of (P:=P) (w:=w) t
   obtain ⟨b1,b2⟩:=b
   exact ⟨(p.1,b2)::rs,⟨kV_is h.1,rfl,c⟩,.cons ⟨rfl,h.2⟩ q⟩
def tDisp (trs:List (TE × TE)):TE:=fun σ H Q=>∀ p,H p=none→tPairs trs σ (upd H p (.dK [])) fun ps H2=>H2 p=some (.dK [])∧∃ kvs:List (Key × V),ps=kvs.map (fun kv=>(kV kv.1,kv.2))∧kvs.length≤15∧Q (.ref p) (upd H2 p (.dK (mergeK [] kvs)))
theorem pe_disp {X:Cx} {pos:Pos} {keys:List (Option Expr)} {values:List Expr} {trs:List (TE × TE)} (h:PPs X pos keys values trs) (hall:keys.all (·.isSome)=true) (hl:keys.length=values.length) (h0:keys ≠ [])
  (h15:keys.length≤15):PE X (.Dict keys values pos) (tDisp trs):=by
 intro pins s σ H Q I q
 have hn:=I.hok.fresh (Nat.le_refl s.heap.objs.size)
 have I1:=I.laid (a:=s.heap.objs.size) (o:=.dK []) (h':=s.heap.push { cls:=.type "dict",data:=.dict #[] }) (t':=s.toks) (fun _ _ q=>Heap.get?_push_of_some _ q) (Nat.le_refl _) (dk_empty s.heap I.big)
 refine wpAny_Dict_walk (knd:=mixKind X.prog X.w) hall hl h0 h15 (thn (h pins _ σ _ _ I1 (q _ hn)) fun ws s2 ⟨ps,H2,I2,rel,e,kvs,ep,lk,q2⟩=>?_)
 subst ep
 obtain ⟨rs,c,rk⟩:=carries_of (P:=X.prog) (w:=X.w) rel
 obtain ⟨z,hd,vs0,r0,dd⟩:=dk_of I2.hok e
 cases r0
 refine ⟨rs,c,dd,fun h' dd' hs=>⟨.ref s.heap.objs.size,_,?_,rfl,q2⟩⟩
 have hz:(mergeK [] kvs).length≤sizeLine:=by
  have h1:=length_mergeK kvs []
  rw [List.length_nil] at h1
  rw [sizeLine_eq];lia
 have he:∃ q,h'.get? s.heap.objs.size=some q:=let ⟨q,_,_,hq,_⟩:=dd';⟨q,hq⟩
 exact d_write I2 (by rw [e];exact True.intro) hs he (dk_new hz hd (rk.merge .nil) dd')
structure M1 (X:Cx) (o:Expr) (m:Str) (apos:Pos) (e:Expr) (cpos:Pos):Prop where
 base:attributeBase o m X.env (eval o X.env)=eval o X.env
 few:((backTo cpos (starEach [e] X.env)).all (fun x=>!x.1) && (backToKw cpos (keywordEach [] X.env)).all (fun x=>x.1.isSome)
  && decide (([e]:List Expr).length+([]:List Keyword).length+(if ([]:List Keyword).isEmpty then 0 else 1)<30))=true
 line:(apos.endLine == cpos.line)=true
 trees:backTo cpos (starEach [e] X.env)=[(false,eval e X.env)]
structure M2 (X:Cx) (o:Expr) (m:Str) (apos:Pos) (e f:Expr) (cpos:Pos):Prop where
 base:attributeBase o m X.env (eval o X.env)=eval o X.env
 few:((backTo cpos (starEach [e,f] X.env)).all (fun x=>!x.1) && (backToKw cpos (keywordEach [] X.env)).all (fun x=>x.1.isSome)
  && decide (([e,f]:List Expr).length+([]:List Keyword).length+(if ([]:List Keyword).isEmpty then 0 else 1)<30))=true
 line:(apos.endLine == cpos.line)=true
 trees:backTo cpos (starEach [e,f] X.env)=[(false,eval e X.env),(false,eval f X.env)]
section
variable {X:Cx} {pins:List (Addr × Obj)} {σ:St} {H:Hp} {s:Shared} {a:Addr} {y d:V} {u r:Value} {o:Option V} {A:Around} {E:Value→Shared→Prop}
end
section
variable {X:Cx} {o e f:Expr} {apos cpos:Pos} {td ty tx:TE}
end
section
variable {X:Cx} {pins:List (Addr × Obj)} {σ:St} {H:Hp} {s:Shared} {a:Addr} {kvs:List (Key × V)} {A:Around} {E:Value→Shared→Prop}
end
section
variable {X:Cx} {pins:List (Addr × Obj)} {σ:St} {H:Hp} {s:Shared} {a:Addr} {y:V} {u:Value} {A:Around} {E:Value→Shared→Prop}
end
end L2
namespace L2
open PySem PySem.Spec PyProof.Rows
section
variable {X:Cx}
end
section
variable {κ:Type} [DecidableEq κ]
theorem qD4:∀ {l:List κ} {k:κ},l.Nodup→¬ k ∈ l→(l++[k]).Nodup
 | [],k,_,_=>by simp
 | a::r,k,h,hk=>by
  obtain ⟨h1,h2⟩:=List.nodup_cons.mp h
  show (a::(r++[k])).Nodup
  refine List.nodup_cons.mpr ⟨fun m=>?_,qD4 h2 fun m=>hk (List.mem_cons.mpr (Or.inr m))⟩
  rcases List.mem_append.mp m with q | q
  ·exact h1 q
  ·exact hk (List.mem_cons.mpr (Or.inl (List.mem_singleton.mp q).symm))
end
end L2
namespace L2
open PySem PySem.Spec PyProof.Rows
def noX:Value→Shared→Prop:=fun _ _=>False
noncomputable def closL (env:Env):List (Str × NameKind)→List (Str × Addr)→List (Str × Addr)
 | [],acc=>acc
 | (n,k)::r,acc=>closL env r (if (k == NameKind.free)=true then (n,(env.cells.lookup n).getD 0)::acc else acc)
theorem closL_sub {env:Env}:∀ {names:List (Str × NameKind)} {acc:List (Str × Addr)},(∀ x,(x,NameKind.free) ∈ names→∃ c,env.cells.lookup x=some c)→(∀ x c,acc.lookup x=some c→env.cells.lookup x=some c)→
  ∀ x c,(closL env names acc).lookup x=some c→env.cells.lookup x=some c
 | [],acc,_,ha,x,c,h=>ha x c h
 | (n,k)::r,acc,hf,ha,x,c,h=>by
  refine closL_sub (names:=r) (fun y hy=>hf y (List.mem_cons_of_mem _ hy)) (fun y d hd=>?_) x c h
  split at hd
  ·rename_i hk
   have hk':k=NameKind.free:=by simpa using hk
   subst hk'
   obtain ⟨e,he⟩:=hf n List.mem_cons_self
   by_cases hyn:y=n
   ·subst hyn
    rw [List.lookup_cons_self,he] at hd
    rw [he];exact hd
   ·rw [List.lookup_cons,beq_eq_false_iff_ne.mpr hyn] at hd
    exact ha y d hd
  ·exact ha y d hd
theorem closL_has {env:Env}:∀ {names:List (Str × NameKind)} {acc:List (Str × Addr)} {x:Str},((x,NameKind.free) ∈ names∨∃ c,acc.lookup x=some c)→∃ c,(closL env names acc).lookup x=some c
 | [],acc,x,h=>by
  rcases h with h | h
  ·exact absurd h (by simp)
  ·exact h
 | (n,k)::r,acc,x,h=>by
  refine closL_has (names:=r) ?_
  rcases h with h | ⟨c,h⟩
  ·rcases List.mem_cons.mp h with e | h
   ·cases e
    refine .inr ⟨(env.cells.lookup n).getD 0,?_⟩
    rw [if_pos (by rfl),List.lookup_cons_self]
   ·exact .inl h
  ·refine .inr ?_
   split
   ·by_cases hyn:x=n
    ·subst hyn
     exact ⟨_,List.lookup_cons_self⟩
    ·refine ⟨c,?_⟩
     rw [List.lookup_cons,beq_eq_false_iff_ne.mpr hyn]
     exact h
   ·exact ⟨c,h⟩
theorem closure_run {env:Env} (f:Str × NameKind→List (Str × Addr)→Sem (ForInStep (List (Str × Addr))))
  (hf:∀ n k c,f (n,k) c=(if (k == NameKind.free)=true then (do let a ← cellOf env n;pure (ForInStep.yield ((n,a)::c))) else pure (ForInStep.yield c))) :
  ∀ (names:List (Str × NameKind)) (acc:List (Str × Addr)),(∀ x,(x,NameKind.free) ∈ names→∃ c,env.cells.lookup x=some c)→forIn names acc f=(pure (closL env names acc):Sem _)
 | [],acc,_=>rfl
 | (n,k)::r,acc,h=>by
  have ih:=fun acc=>closure_run f hf r acc fun x hx=>h x (List.mem_cons_of_mem _ hx)
  rw [List.forIn_cons,hf]
  by_cases hk:(k == NameKind.free)=true
  ·have hk':k=NameKind.free:=by simpa using hk
   subst hk'
   obtain ⟨c,hc⟩:=h n List.mem_cons_self
   rw [if_pos hk]
   unfold cellOf closL
   rw [hc,if_pos hk]
   exact ih _
  ·rw [if_neg hk]
   unfold closL
   rw [if_neg hk]
   exact ih _
theorem closure_ok {scope:Scope} {env:Env} (h:∀ x,(x,NameKind.free) ∈ scope.names→∃ c,env.cells.lookup x=some c):closureFor scope env=pure (closL env scope.names []):=by
 unfold closureFor
 dsimp only
 rw [closure_run (env:=env) _ (fun n k c=>?_) scope.names [] h]
 ·rfl
 ·rfl
theorem qC1 {env:Env} {x:Str}:∀ {names:List (Str × NameKind)},
  (names.map fun (n,k)=>if (k == NameKind.free && env.scope.kind == .function && env.kindOf n == some .cell)=true then (n,NameKind.cell) else (n,k)).lookup x =
   (names.lookup x).map fun k=>if (k == NameKind.free && env.scope.kind == .function && env.kindOf x == some .cell)=true then NameKind.cell else k
 | []=>rfl
 | (n,k)::r=>by
  have ih:=@qC1 env x r
  rw [List.map_cons]
  by_cases hx:x=n
  ·subst hx
   dsimp only
   rw [List.lookup_cons_self (b:=k),Option.map_some]
   split
   ·rw [List.lookup_cons_self]
   ·rw [List.lookup_cons_self]
  ·have hb:(x == n)=false:=beq_eq_false_iff_ne.mpr hx
   dsimp only
   rw [List.lookup_cons (k:=n) (b:=k),hb]
   dsimp only
   rw [← ih]
   split
   ·rw [List.lookup_cons,hb]
   ·rw [List.lookup_cons,hb]
structure LcZ where
 L:Addr
 cl:List (Str × Addr)
 ex:List Addr
 s₀:Shared
 H₀:Hp
noncomputable def lcCx (X:Cx) (scope:Scope) (own:List Str) (fv:List Nat) (z:LcZ):Cx where
 prog:=X.prog
 w:=X.w
 K:=X.K
 mg:=X.mg
 base:=X.base
 A:=X.A
 N:=own++fv.map fun i=>X.N.getD i Str.empty
 s₀:=z.s₀
 H₀:=z.H₀
 env:=compEnvC scope z.cl z.L X.env
 outer:=X.stack
 stack:=X.stack
 ex:=z.ex
 fn:=fun _=>false
 calm:=X.calm
 pn:=[]
 xe:=noX
structure LcScope (X:Cx) (scope:Scope) (own:List Str) (fv:List Nat):Prop where
 kind:scope.kind=.function
 nocell:∀ y ∈ scope.names,y.2 ≠ .cell
 names:∀ y ∈ scope.names,y.2=.local→scope.names.lookup y.1=some .local
 free:∀ y ∈ scope.names,y.2=.free→X.env.kindOf y.1=some .cell∨X.env.kindOf y.1=some .free
 nd:(own++fv.map fun i=>X.N.getD i Str.empty).Nodup
 fvs:∀ i ∈ fv,i<X.N.length∧scope.names.lookup (X.N.getD i Str.empty)=some .free
noncomputable def lcStart (own:List Str) (fv:List Nat) (σ:St):St:=(own.map fun _=>none)++fv.map fun i=>(σ[i]?).join
theorem compLoop_any {prog:Program} {w:World} {A:Around} {R:Result→Shared→Prop} {s:Shared} {elt target iter:Expr} {ifs:List Expr} {scope:Scope} {pos:Pos} {it acc:Value} {env:Env} (I:Nat→Shared→Prop)
  (turn:∀ n s,I n s→wpAny (model prog w) A (pyNext it) (fun r s₁=>match r with
   | none=>R (.ok .next) s₁
   | some v=>wpAny (model prog w) A (letOwnedTupleGo target it v) (fun _ s₁=>wpAny (model prog w) A (assign target env v) (fun _ s₂=>
     wpAny (model prog w) A (forIn ifs true fun c r=>if r=true then do let ok ← isTrue c env (eval c env);pure (ForInStep.yield ok) else pure (ForInStep.yield r)) (fun ok s₃=>
      if ok=true then wpAny (model prog w) A (eval elt env) (fun x s₄=>
       wpAny (model prog w) A (call (.builtin "list.append") [acc,x]) (fun _ s₅=>∃ m,m<n∧I m s₅) noX s₄) noX s₃
      else ∃ m,m<n∧I m s₃) noX s₂) noX s₁) noX s₁) noX s)
  (n:Nat) (h:I n s) :
  codeAny (model prog w) A (.compLoop (.ListComp elt [⟨target,iter,ifs,0⟩] scope pos) 0 it acc env) R s:=by
 refine codeAny_loop rfl I (fun n s hI=>?_) n h
 show wpAny _ A ((compTurn (.ListComp elt [⟨target,iter,ifs,0⟩] scope pos) 0 it acc env).onRaise (fun x=>do noteFrame x env;theTreesLotGoes x)) _ _ s
 refine wpAny_noted ?_
 rw [compTurn_list]
 refine wpAny_bind (wpAny_standAt (wpAny_bind (wpAny_mono (turn n s hI) (fun r s₁ h₁=>?_) fun _ _ h'=>h'.elim)))
 cases r with
 | none=>exact wpAny_pure h₁
 | some v=>
  refine wpAny_bind (wpAny_mono h₁ (fun _ s₁ h₁=>?_) fun _ _ h'=>h'.elim)
  refine wpAny_bind (wpAny_mono h₁ (fun _ s₂ h₂=>wpAny_bind (wpAny_mono h₂ (fun ok s₃ h₃=>?_) fun _ _ h'=>h'.elim)) fun _ _ h'=>h'.elim)
  cases ok with
  | false=>exact wpAny_pure ⟨rfl,h₃⟩
  | true=>
   exact wpAny_bind (wpAny_bind (wpAny_mono h₃ (fun x s₄ h₄=>wpAny_bind (wpAny_mono h₄ (fun _ s₅ h₅=>wpAny_pure (wpAny_pure ⟨rfl,h₅⟩)) fun _ _ h'=>h'.elim)) fun _ _ h'=>h'.elim))
section
variable {X:Cx} {pins:List (Addr × Obj)} {σ:St} {H:Hp} {s:Shared}
theorem Inv.other {h':Heap} {L:Addr} {n:Nat} (I:Inv X pins σ H s) (hb:X.s₀.heap.objs.size≤L) (h0:H L=none) (h1:L ≠ X.env.locals) (h2:∀ x c,X.env.cells.lookup x=some c→c ≠ L) (h3:∀ p ∈ X.pn++pins,p.1 ≠ L)
  (k:Heap.SameBut L s.heap h'):Inv X pins σ H { s with heap:=h' }:=
 I.turned (t':=s.toks) (fun b o hb e=>(k.2 b hb).trans e) h0 h1 (.inr hb) h2 h3
theorem lc_ok {scope:Scope} {own:List Str} {fv:List Nat} {fp:List Addr} (I:Inv X pins σ H s) (S:LcScope X scope own fv) (hf:∀ b ∈ fp,FpOk X pins H b) (hsz:∀ b ∈ fp,b<s.heap.objs.size) :
  (lcCx X scope own fv ⟨s.heap.objs.size,closL X.env scope.names [],fp,s,H⟩).Ok:=by
 have hfr:∀ x,(x,NameKind.free) ∈ scope.names→∃ c,X.env.cells.lookup x=some c:=fun x hx=>I.ok.has x (S.free _ hx rfl)
 have sub:=closL_sub (env:=X.env) (names:=scope.names) (acc:=[]) hfr (fun x c z=>by simp at z)
 refine ⟨I.ok.mod,S.kind,I.ok.glob,I.ok.blt,Nat.le_refl _,fun x y c h1 h2=>I.ok.inj x y c (sub _ _ h1) (sub _ _ h2),fun x hx=>?_,fun x c hx=>?_,I.ok.hd,I.ok.frames,.inl rfl,fun b hb=>⟨?_,fun x c e=>?_⟩,I.bs,Nat.le_trans I.ok.bsz I.sz,fun b o e hb=>?_,fun b hb hb'=>?_,I.stack,I.stkFree⟩
 ·refine closL_has (.inl ?_)
  have hx':(relabel scope X.env).names.lookup x=some .cell∨(relabel scope X.env).names.lookup x=some .free:=hx
  unfold relabel at hx'
  rw [qC1] at hx'
  cases e:scope.names.lookup x with
  | none=>rw [e] at hx';simp at hx'
  | some k=>
   have hm:=PySem.mem_of_lookup e
   have nc:=S.nocell _ hm
   rw [e] at hx'
   simp only [Option.map_some,Option.some.injEq] at hx'
   cases k with
   | free=>exact hm
   | cell=>exact absurd rfl nc
   | _=>simp at hx'
 ·cases hx
 ·exact Nat.ne_of_lt (hsz b hb)
 ·exact (hf b hb).2.2.2.2.1 x c (sub _ _ e)
 ·rcases (hf b hb).2.2.2.1 with z | z
  ·exact I.ok.noex b o e z
  ·exact absurd (Nat.lt_of_lt_of_le (Heap.lt_size (I.ok.bs b o e).1) z) (Nat.lt_irrefl _)
 ·rcases List.mem_cons.mp (I.stkSub b hb') with z | z
  ·exact (hf b hb).2.1 z
  ·exact (hf b hb).2.2.1 z
theorem lc_start {scope:Scope} {own:List Str} {fv:List Nat} {fp:List Addr} {h₁:Heap} {tk:Nat} (I:Inv X pins σ H s) (S:LcScope X scope own fv) (hf:∀ b ∈ fp,FpOk X pins H b) (hsz:∀ b ∈ fp,b<s.heap.objs.size)
  (hns:h₁.Ns s.heap.objs.size (fun _=>none)) (hk:∀ b o,s.heap.get? b=some o→h₁.get? b=some o) :
  Inv (lcCx X scope own fv ⟨s.heap.objs.size,closL X.env scope.names [],fp,s,H⟩) [] (lcStart own fv σ) H { s with heap:=h₁,toks:=tk }:=by
 have hfr:∀ x,(x,NameKind.free) ∈ scope.names→∃ c,X.env.cells.lookup x=some c:=fun x hx=>I.ok.has x (S.free _ hx rfl)
 have sub:=closL_sub (env:=X.env) (names:=scope.names) (acc:=[]) hfr (fun x c z=>by simp at z)
 refine ⟨lc_ok I S hf hsz,rfl,I.bare,Un.kept hk,⟨_,hns,fun i x v h1 h2 h3=>?_⟩,fun x c e=>?_,I.hok.fresh (Nat.le_refl _),fun x c e=>I.freeC x c (sub _ _ e),fun p hp=>absurd (show p ∈ ([]:List (Addr × Obj)) from hp) (by simp),I.hok.kept hk,?_⟩
 ·have h1:(own++fv.map fun i=>X.N.getD i Str.empty)[i]?=some x:=h1
  unfold lcStart at h2
  have hi:own.length≤i:=by
   apply Nat.le_of_not_lt
   intro hi
   rw [List.getElem?_append_left (by simpa using hi),List.getElem?_map] at h2
   cases e:own[i]? with
   | none=>rw [e] at h2;cases h2
   | some z=>rw [e] at h2;cases h2
  rw [List.getElem?_append_right (by simpa using hi),List.length_map,List.getElem?_map] at h2
  rw [List.getElem?_append_right hi,List.getElem?_map] at h1
  cases e:fv[i - own.length]? with
  | none=>rw [e] at h1;cases h1
  | some j=>
   rw [e] at h1 h2
   have hj:=S.fvs j (List.mem_of_getElem? e)
   have h1:X.N.getD j Str.empty=x:=Option.some.inj h1
   have h2:(σ[j]?).join=some v:=Option.some.inj h2
   have h2':σ[j]?=some (some v):=by
    cases q:σ[j]? with
    | none=>rw [q] at h2;cases h2
    | some y=>rw [q] at h2;exact congrArg some h2
   have hx:X.N[j]?=some x:=by
    rw [List.getD_eq_getElem?_getD] at h1
    rw [List.getElem?_eq_getElem hj.1] at h1 ⊢
    exact congrArg some h1
   have hlk:scope.names.lookup x=some .free:=h1 ▸ hj.2
   have hmem:=PySem.mem_of_lookup hlk
   obtain ⟨m,hn,hl⟩:=id I.loc
   have hkd:=S.free _ hmem rfl
   obtain ⟨u,ru,lk⟩:=hl j x v hx h2' (by
    rcases hkd with z | z
    ·exact .inr (.inl z)
    ·exact .inr (.inr z))
   refine ⟨u,ru,?_⟩
   rcases lk with ⟨z,_⟩ | ⟨_,c,e1,z⟩
   ·rcases hkd with y | y
    ·have y':X.env.kindOf x=some .cell:=y
     rw [z] at y';cases y'
    ·have y':X.env.kindOf x=some .free:=y
     rw [z] at y';cases y'
   ·obtain ⟨c',e2⟩:=closL_has (env:=X.env) (names:=scope.names) (acc:=[]) (x:=x) (.inl hmem)
    have e3:=sub _ _ e2
    rw [e1] at e3
    cases e3
    obtain ⟨o,ho,hd⟩:=z
    refine .inr ⟨?_,c,e2,o,hk _ _ ho,hd⟩
    show (relabel scope X.env).names.lookup x=some .cell∨(relabel scope X.env).names.lookup x=some .free
    unfold relabel
    rw [qC1,hlk,Option.map_some]
    split
    ·exact .inl rfl
    ·exact .inr rfl
 ·obtain ⟨v,o,ho,hd⟩:=I.cell x c (sub _ _ e)
  exact ⟨v,o,hk _ _ ho,hd⟩
 ·unfold lcStart
  show _=(own++fv.map fun i=>X.N.getD i Str.empty).length
  rw [List.length_append,List.length_append,List.length_map,List.length_map,List.length_map]
theorem lc_back {scope:Scope} {own:List Str} {fv:List Nat} {fp:List Addr} {pins':List (Addr × Obj)} {σ':St} {H':Hp} {s':Shared} {cl:List (Str × Addr)} (I:Inv X pins σ H s) (hf:∀ b ∈ fp,FpOk X pins H b)
  (J:Inv (lcCx X scope own fv ⟨s.heap.objs.size,cl,fp,s,H⟩) pins' σ' H' s'):Inv X pins σ H' s':=
 I.call' (ch:=fp) J.os J.base J.hok J.bare fun b hb=>⟨(hf b hb).2.2.2.1,(hf b hb).2.1,(hf b hb).2.2.2.2.1,(hf b hb).2.2.2.2.2⟩
end
def PTs (X:Cx) (ifs:List Expr) (t:TT):Prop:=
 ∀ (pins:List (Addr × Obj)) (s:Shared) (σ:St) (H:Hp) (Q:Bool→Hp→Prop),Inv X pins σ H s→t σ H Q→
  wpAny (model X.prog X.w) X.A (forIn ifs true fun c r=>if r=true then do let ok ← isTrue c X.env (eval c X.env);pure (ForInStep.yield ok) else pure (ForInStep.yield r)) (TP X pins σ Q) X.xe s
def tTrue:TT:=fun _ H Q=>Q true H
theorem qBC {X:Cx}:PTs X [] tTrue:=fun pins s σ H Q I h=>wpAny_tests_nil ⟨H,I,h⟩
theorem pts_one {X:Cx} {c:Expr} {t:TT} (h:PT X c t):PTs X [c] t:=fun pins s σ H Q I hq=>wpAny_tests_one (h pins s σ H Q I hq)
def lcRun (own:List Str) (fv:List Nat) (wi:TI) (g:TG) (tc:TT) (te:TE) (K:Addr→Hp→Prop):St→Hp→Prop:=fun σ H=>wi σ H fun J H1=>∀ p,H1 p=none→
 ∃ W:Nat→Nat→St→Hp→Prop,(∃ m,W 0 m (lcStart own fv σ) (upd H1 p (.lst [])))∧∀ i m σ H,W i m σ H→
  (J.stop i H∧K p H)∨(J.go i H∧∃ N:St→Hp→Prop,(∀ σ' H',N σ' H'→∃ m',m'<m∧W (i+1) m' σ' H')∧∀ x H',J.yld i H x H'→g x σ H' fun σ2 H2=>tc σ2 H2 fun b H3=>
   if b=true then te σ2 H3 fun y H4=>∃ ys,H4 p=some (.lst ys)∧ys.length<sizeLine∧N σ2 (upd H4 p (.lst (ys++[y])))
   else N σ2 H3)
def tLc (own:List Str) (fv:List Nat) (wi:TI) (g:TG) (tc:TT) (te:TE):TE:=fun σ H Q=>lcRun own fv wi g tc te (fun p H'=>Q (.ref p) H') σ H
section
variable {X:Cx} {tg iter elt:Expr} {ifs:List Expr} {scope:Scope} {pos:Pos} {own:List Str} {fv:List Nat} {wi:TI} {g:TG} {tc:TT} {te:TE}
theorem lc_core {pins:List (Addr × Obj)} {s:Shared} {σ:St} {H:Hp} {K:Addr→Hp→Prop} {use:Option (Value→Sem Unit)} {Q:Value→Shared→Prop} {E:Value→Shared→Prop} (hc:X.calm=true) (S:LcScope X scope own fv) (hi:PI X tg iter wi)
  (hg:∀ z,PG (lcCx X scope own fv z) tg g) (ht:∀ z,PTs (lcCx X scope own fv z) ifs tc) (he:∀ z,PE (lcCx X scope own fv z) elt te)
  (I:Inv X pins σ H s) (h:lcRun own fv wi g tc te K σ H) (hxe:∀ e s,X.xe e s→E e s)
  (fin:∀ (p:Addr) (L:Addr) (H':Hp) (s':Shared) (m:Str→Option Value),Inv X pins σ H' s'→K p H'→s'.heap.Ns L m→X.s₀.heap.objs.size≤L→H' L=none→L ≠ X.env.locals→(∀ x c,X.env.cells.lookup x=some c→c ≠ L)→(∀ q ∈ X.pn++pins,q.1 ≠ L)→
   compPost (model X.prog X.w) X.A E use Q (.ref p) L (.ok .next) s') (hs:∀ x,foldedSetIterable iter X.env x=pure x:=by intro _;rfl) :
  wpAny (model X.prog X.w) X.A (comprehension (.ListComp elt [⟨tg,iter,ifs,0⟩] scope pos) scope X.env (firstIterPos [⟨tg,iter,ifs,0⟩] pos) (newList []) false (eval iter X.env) use) Q E s:=by
 have hfr:∀ x,(x,NameKind.free) ∈ scope.names→∃ c,X.env.cells.lookup x=some c:=fun x hx=>I.ok.has x (S.free _ hx rfl)
 refine wpAny_comprehension_free rfl hs (closure_ok hfr) S.kind S.names (wpAny_mono (hi pins s σ H _ I h) (fun v s1 h1=>wpAny_mono h1 (fun itv s2 h2=>?_) hxe) hxe)
 obtain ⟨it,fp,tn,J,H2,e,I2,T,st2,f2,q2⟩:=h2
 subst e
 -- the list
 refine wpAny_newObj_type ?_
 have fresh2:H2 s2.heap.objs.size=none:=I2.hok.fresh (Nat.le_refl _)
 have I3:Inv X pins σ (upd H2 s2.heap.objs.size (.lst [])) { s2 with heap:=s2.heap.push { cls:=.type "list",dict:=none,data:=.seq ([]:List Value).toArray } }:=
  I2.laid (t':=s2.toks) (fun b u e=>Heap.get?_push_of_some _ e) (Nat.le_refl _) ⟨Nat.zero_le _,[],0,.nil,Heap.get?_push_size _ rfl⟩
 obtain ⟨W,⟨m0,w0⟩,turn⟩:=q2 s2.heap.objs.size fresh2
 have lt2:∀ b ∈ fp,b<s2.heap.objs.size:=fun b hb=>by
  obtain ⟨o,e,_⟩:=T.obj 0 _ st2 b hb
  exact Heap.lt_size e
 have f3:∀ b ∈ fp,FpOk X pins (upd H2 s2.heap.objs.size (.lst [])) b:=fun b hb=>⟨by rw [qA7 (Nat.ne_of_lt (lt2 b hb))];exact (f2 b hb).1,(f2 b hb).2⟩
 generalize hp:s2.heap.objs.size=p at *
 generalize hH3:upd H2 p (.lst [])=H3 at *
 have st3:tn 0 (s2.heap.push { cls:=.type "list",dict:=none,data:=.seq ([]:List Value).toArray }):=T.keep _ _ _ st2 fun b _ o e=>Heap.get?_push_of_some _ e
 have lt3:∀ b ∈ fp,b<(s2.heap.push { cls:=.type "list",dict:=none,data:=.seq ([]:List Value).toArray }).objs.size:=fun b hb=>by
  rw [Heap.size_push]
  have:=lt2 b hb
  rw [hp]
  exact Nat.lt_succ_of_lt this
 generalize hs3:({ s2 with heap:=s2.heap.push { cls:=.type "list",dict:=none,data:=.seq ([]:List Value).toArray } }:Shared)=s3 at *
 have st3':tn 0 s3.heap:=by rw [← hs3];exact st3
 have lt3':∀ b ∈ fp,b<s3.heap.objs.size:=by rw [← hs3];exact lt3
 -- the block's frame
 refine wpAny_newFunctionEnv S.nocell (by intro y hy;simp at hy) (fun h₁ hns₁ hsb₁=>?_) S.kind
 have keep1:∀ b o,s3.heap.get? b=some o→h₁.get? b=some o:=fun b o e=>hsb₁.extBut b o (Nat.ne_of_lt (Heap.lt_size e)) (Heap.get?_push_of_some _ e)
 have J0:Inv (lcCx X scope own fv ⟨s3.heap.objs.size,closL X.env scope.names [],fp,s3,H3⟩) [] (lcStart own fv σ) H3 { s3 with heap:=h₁,toks:=s3.toks+([]:List (Str × Value)).length }:=lc_start I3 S f3 lt3' hns₁ keep1
 have cOk:=lc_ok I3 S f3 lt3'
 generalize hz:(⟨s3.heap.objs.size,closL X.env scope.names [],fp,s3,H3⟩:LcZ)=z at *
 have st4:tn 0 h₁:=T.keep _ _ _ st3' fun b _ o e=>keep1 b o e
 have fr4:∀ b ∈ fp,H3 b=none:=fun b hb=>(f3 b hb).1
 have stat:∀ {H':Hp},(∀ b ∈ fp,H' b=none)→∀ b ∈ fp,FpOk (lcCx X scope own fv z) [] H' b:=fun hn b hb=>by
  subst hz
  refine ⟨hn b hb,(cOk.exf b hb).1,cOk.exfs b hb,.inl hb,(cOk.exf b hb).2,fun q hq=>absurd (show q ∈ ([]:List (Addr × Obj)) from hq) (by simp)⟩
 have envE:({ newEnv scope s3.heap.objs.size X.env.globals (closL X.env scope.names []) X.env.qual none .none (some X.env) builtinsNs with scope:=relabel scope X.env }:Env)=(lcCx X scope own fv z).env:=by
  subst hz
  rfl
 have loop:∀ sA:Shared,sA={ s3 with heap:=h₁,toks:=s3.toks+([]:List (Str × Value)).length }→codeAny (model X.prog X.w) X.A (.compLoop (.ListComp elt [⟨tg,iter,ifs,0⟩] scope pos) 0 (.ref it) (.ref p) (lcCx X scope own fv z).env)
   (compPost (model X.prog X.w) X.A E use Q (.ref p) s3.heap.objs.size) sA:=by
  rintro sA rfl
  refine compLoop_any (fun n s'=>∃ i σ' H',Inv (lcCx X scope own fv z) [] σ' H' s'∧tn i s'.heap∧(∀ b ∈ fp,H' b=none)∧W i n σ' H') ?_ m0 ⟨0,_,H3,J0,st4,fr4,w0⟩
  rintro n s4 ⟨i,σ4,H4,I4,st4,fr4,w4⟩
  rcases turn i n σ4 H4 w4 with ⟨stop,qn⟩ | ⟨go,Nx,hNx,step⟩
  ·refine thn (T.done (lcCx X scope own fv z) rfl rfl rfl hc i [] s4 σ4 H4 noX I4 (stat fr4) st4 stop) fun r s5 ⟨hr,I5⟩=>?_
   subst hr
   subst hz
   have I6:Inv X pins σ H4 s5:=lc_back I3 f3 I5
   obtain ⟨m,hn,_⟩:=id I5.loc
   have fpL:=I3.fpOk (H':=H4) (b:=s3.heap.objs.size) (Nat.le_refl _) I5.free
   refine fin p s3.heap.objs.size H4 s5 m I6 qn hn I3.sz fpL.1 fpL.2.1 fpL.2.2.2.2.1 fpL.2.2.2.2.2
  ·refine thn (T.item (lcCx X scope own fv z) rfl rfl rfl hc i [] s4 σ4 H4 noX I4 (stat fr4) st4 go) fun r s5 ⟨u,hr,h5⟩=>?_
   subst hr
   refine thn h5 fun _ s6 ⟨x,H6,I6,r6,y6,st6,fr6⟩=>?_
   have I6':=I6.pinned (stat fr6) (T.obj _ _ st6)
   have again:∀ {σ7:St} {H7:Hp} {s7:Shared} {m':Nat},m'<n→Inv (lcCx X scope own fv z) ([]++pinsAt fp s6.heap) σ7 H7 s7→W (i+1) m' σ7 H7→
     ∃ m,m<n∧∃ i σ' H',Inv (lcCx X scope own fv z) [] σ' H' s7∧tn i s7.heap∧(∀ b ∈ fp,H' b=none)∧W i m σ' H':=fun {σ7 H7 s7 m'} hm I7 w7=>by
    refine ⟨m',hm,i+1,σ7,H7,I7.unpinned,T.keep _ _ _ st6 fun b hb o e=>(I7.pin (b,o) (List.mem_append_right _ (List.mem_append_right _ (qCV hb e)))).1,fun b hb=>?_,w7⟩
    obtain ⟨o,e,d⟩:=T.obj _ _ st6 b hb
    exact (I7.pin (b,o) (List.mem_append_right _ (List.mem_append_right _ (qCV hb e)))).2.1
   refine thn (hg z _ s6 σ4 H6 x u _ I6' r6 (step x H6 y6)) fun _ s7 ⟨σ7,H7,I7,q7⟩=>?_
   refine thn (ht z _ s7 σ7 H7 _ I7 q7) fun b s8 ⟨H8,I8,q8⟩=>?_
   cases b with
   | false=>
    obtain ⟨m',hm,w8⟩:=hNx _ _ q8
    exact again hm I8 w8
   | true=>
    refine thn (he z _ s8 σ7 H8 _ I8 q8) fun v s9 ⟨y,H9,I9,r9,ys,ep,hl,w9⟩=>?_
    refine thn (qAY (X:=lcCx X scope own fv z) _ s9 σ7 H9 (.ref p) [y] (.ref p) [v] (fun _ H'=>Nx σ7 H') I9 rfl (.cons r9 .nil) ⟨p,ys,y,rfl,rfl,ep,hl,w9⟩) fun _ s10 ⟨_,H10,I10,_,q10⟩=>?_
    obtain ⟨m',hm,w10⟩:=hNx _ _ q10
    exact again hm I10 w10
 rw [envE]
 exact codeAny_compStart_list (loop _ rfl) (T.self _ _ _ _ _ st4 (loop _ rfl))
theorem pe_lc (hc:X.calm=true) (S:LcScope X scope own fv) (hi:PI X tg iter wi) (hg:∀ z,PG (lcCx X scope own fv z) tg g) (ht:∀ z,PTs (lcCx X scope own fv z) ifs tc) (he:∀ z,PE (lcCx X scope own fv z) elt te)
  (hs:∀ x,foldedSetIterable iter X.env x=pure x:=by intro _;rfl):PE X (.ListComp elt [⟨tg,iter,ifs,0⟩] scope pos) (tLc own fv wi g tc te):=by
 intro pins s σ H Q I h
 rw [eval_ListComp]
 refine lc_core (use:=none) (K:=fun p H'=>Q (.ref p) H') hc S hi hg ht he I h (fun _ _ q=>q) (fun p L H' s' m I' q hn h1 h2 h3 h4 h5=>?_) hs
 exact ⟨m,hn,fun h' hs'=>⟨.ref p,H',I'.other (n:=0) h1 h2 h3 h4 h5 hs',rfl,q⟩⟩
theorem ps_lc {i:Nat} {x:Str} {pos' spos:Pos} (hN:X.N.Nodup) (hx:X.N[i]?=some x) (hl:X.env.scope.names.lookup x=some .local) (hc:X.calm=true) (S:LcScope X scope own fv) (hi:PI X tg iter wi) (hg:∀ z,PG (lcCx X scope own fv z) tg g)
  (ht:∀ z,PTs (lcCx X scope own fv z) ifs tc) (he:∀ z,PE (lcCx X scope own fv z) elt te) (hsw:swapsWith (.ListComp elt [⟨tg,iter,ifs,0⟩] scope pos) (some (.Name x pos')) spos.line X.env=pure true)
  (hs:∀ x,foldedSetIterable iter X.env x=pure x:=by intro _;rfl):PS X (.Assign [.Name x pos'] (.ListComp elt [⟨tg,iter,ifs,0⟩] scope pos) spos) (tAsg (tLc own fv wi g tc te) (gName i)):=by
 intro pins s σ H D I h
 rw [exec_Assign_Name_used _ _ _ _ hsw]
 refine wpAny_bind (wpAny_standAt (wpAny_bind ?_))
 show wpAny _ X.A (do let _ ← comprehension (.ListComp elt [⟨tg,iter,ifs,0⟩] scope pos) scope X.env _ (newList []) false (eval iter X.env) (some (assign (.Name x pos') X.env))) _ _ s
 refine wpAny_bind (wpAny_mono (lc_core (use:=some (assign (.Name x pos') X.env)) (K:=fun p H'=>D.nx (σ.set i (some (.ref p))) H') (Q:=fun _ s'=>SP X pins D .next s') (E:=X.xe) hc S hi hg ht he I h (fun _ _ q=>q) (fun p L H' s' m I' q hn h1 h2 h3 h4 h5=>?_) hs)
  (fun _ s' hq=>wpAny_pure (wpAny_pure hq)) fun _ _ e=>e)
 show wpAny _ X.A (assign (.Name x pos') X.env (.ref p)) _ _ _
 refine wpAny_assign_Name (store_ok2 (v:=.ref p) I' hN hx (.inl hl) rfl (fun s2 I2 ⟨a,hsb,ha⟩=>?_) (.inr hl))
 have hLa:L ≠ a:=by
  rcases ha with z | z
  ·rw [z];exact h3
  ·exact fun y=>h4 x a z y.symm
 exact ⟨m,hn.sameBut hsb hLa,fun h' hs'=>⟨_,H',I2.other (n:=0) h1 h2 h3 h4 h5 hs',q⟩⟩
end
abbrev LcG (I:It) (g:TG) (tc:TT) (te:TE) (Kf:Hp→Prop) (σ0:St) (H0:Hp) (p:Addr):Prop:=∃ W:Nat→Nat→St→Hp→Prop,(∃ m,W 0 m σ0 H0)∧∀ i m σ H,W i m σ H→(I.stop i H∧Kf H)∨(I.go i H∧∃ N:St→Hp→Prop,(∀ σ' H',N σ' H'→∃ m',m'<m∧W (i+1) m' σ' H')∧∀ x H',I.yld i H x H'→g x σ H' fun σ2 H2=>tc σ2 H2 fun b H3=>if b=true then te σ2 H3 fun y H4=>∃ ys,H4 p=some (.lst ys)∧ys.length<sizeLine∧N σ2 (upd H4 p (.lst (ys++[y]))) else N σ2 H3)
theorem lc_range {lo:Int} {n:Nat} {g:TG} {tc:TT} {te:TE} {Kf:Hp→Prop} {σ0:St} {H0:Hp} {p:Addr} (Pv:Nat→St→Hp→Prop) (h0:Pv 0 σ0 H0)
  (hs:∀ i σ H,i<n→Pv i σ H→g (.int (lo+i)) σ H fun σ2 H2=>tc σ2 H2 fun b H3=>if b=true then te σ2 H3 fun y H4=>∃ ys,H4 p=some (.lst ys)∧ys.length<sizeLine∧Pv (i+1) σ2 (upd H4 p (.lst (ys++[y]))) else Pv (i+1) σ2 H3)
  (hd:∀ σ H,Pv n σ H→Kf H) :
  LcG (Itr lo n) g tc te Kf σ0 H0 p:=by
 refine ⟨fun i m σ H=>m=n - i∧i≤n∧Pv i σ H,⟨n,by simp,Nat.zero_le _,h0⟩,?_⟩
 rintro i m σ H ⟨rfl,hi,q⟩
 by_cases hlt:i<n
 ·refine .inr ⟨hlt,Pv (i+1),fun σ' H' p'=>⟨n - (i+1),by omega,rfl,hlt,p'⟩,fun x H' y=>?_⟩
  obtain ⟨e,y⟩:=y
  subst e y
  exact hs i σ _ hlt q
 ·have e:i=n:=by omega
  subst e
  exact .inl ⟨Nat.le_refl _,hd σ H q⟩
theorem qCC {K:PySem.W.Frag} {a:Addr} {xs:List V} {g:TG} {tc:TT} {te:TE} {Kf:Hp→Prop} {σ0:St} {H0:Hp} {p:Addr} (Pv:Nat→St→Hp→Prop) (h0:Pv 0 σ0 H0) (hl:∀ i σ H,i≤xs.length→Pv i σ H→SqL K H a xs)
  (hs:∀ i x σ H,xs[i]?=some x→Pv i σ H→g x σ H fun σ2 H2=>tc σ2 H2 fun b H3=>if b=true then te σ2 H3 fun y H4=>∃ ys,H4 p=some (.lst ys)∧ys.length<sizeLine∧Pv (i+1) σ2 (upd H4 p (.lst (ys++[y]))) else Pv (i+1) σ2 H3)
  (hd:∀ σ H,Pv xs.length σ H→Kf H) :
  LcG (Itl K a) g tc te Kf σ0 H0 p:=by
 refine ⟨fun i m σ H=>m=xs.length - i∧i≤xs.length∧Pv i σ H,⟨xs.length,by simp,Nat.zero_le _,h0⟩,?_⟩
 rintro i m σ H ⟨rfl,hi,q⟩
 have hq:=hl i σ H hi q
 by_cases hlt:i<xs.length
 ·refine .inr ⟨⟨xs,xs[i],hq,by simp [hlt]⟩,Pv (i+1),fun σ' H' p'=>⟨xs.length - (i+1),by omega,rfl,hlt,p'⟩,fun x H' y=>?_⟩
  obtain ⟨e,y⟩:=y
  subst e
  exact hs i x σ _ (y xs hq) q
 ·have e:i=xs.length:=by omega
  subst e
  exact .inl ⟨⟨xs,hq,Nat.le_refl _⟩,hd σ H q⟩
theorem lc_tup {K:PySem.W.Frag} {a:Addr} {xs:List V} {g:TG} {tc:TT} {te:TE} {Kf:Hp→Prop} {σ0:St} {H0:Hp} {p:Addr} (Pv:Nat→St→Hp→Prop) (h0:Pv 0 σ0 H0) (hl:∀ i σ H,i≤xs.length→Pv i σ H→SqT K H a xs)
  (hs:∀ i x σ H,xs[i]?=some x→Pv i σ H→g x σ H fun σ2 H2=>tc σ2 H2 fun b H3=>if b=true then te σ2 H3 fun y H4=>∃ ys,H4 p=some (.lst ys)∧ys.length<sizeLine∧Pv (i+1) σ2 (upd H4 p (.lst (ys++[y]))) else Pv (i+1) σ2 H3)
  (hd:∀ σ H,Pv xs.length σ H→Kf H) :
  LcG (Itt K a) g tc te Kf σ0 H0 p:=by
 refine ⟨fun i m σ H=>m=xs.length - i∧i≤xs.length∧Pv i σ H,⟨xs.length,by simp,Nat.zero_le _,h0⟩,?_⟩
 rintro i m σ H ⟨rfl,hi,q⟩
 have hq:=hl i σ H hi q
 by_cases hlt:i<xs.length
 ·refine .inr ⟨⟨xs,xs[i],hq,by simp [hlt]⟩,Pv (i+1),fun σ' H' p'=>⟨xs.length - (i+1),by omega,rfl,hlt,p'⟩,fun x H' y=>?_⟩
  obtain ⟨e,y⟩:=y
  subst e
  exact hs i x σ _ (y xs hq) q
 ·have e:i=xs.length:=by omega
  subst e
  exact .inl ⟨⟨xs,hq,Nat.le_refl _⟩,hd σ H q⟩
noncomputable def lcCheck (scope:Scope) (own:List Str) (fv:List Nat) (osc:Scope) (N:List Str):Bool:=
 decide (scope.kind=.function) && scope.names.all (fun y=>decide (y.2 ≠ .cell)) && scope.names.all (fun y=>decide (y.2 ≠ .local) || decide (scope.names.lookup y.1=some .local)) &&
 scope.names.all (fun y=>decide (y.2 ≠ .free) || (decide (osc.names.lookup y.1=some .cell) || decide (osc.names.lookup y.1=some .free))) && decide ((own++fv.map fun i=>N.getD i Str.empty).Nodup) &&
 fv.all fun i=>decide (i<N.length) && decide (scope.names.lookup (N.getD i Str.empty)=some .free)
theorem lcs {X:Cx} {scope:Scope} {own:List Str} {fv:List Nat} (h:lcCheck scope own fv X.env.scope X.N=true):LcScope X scope own fv:=by
 unfold lcCheck at h
 simp only [Bool.and_eq_true,decide_eq_true_eq,List.all_eq_true,Bool.or_eq_true] at h
 obtain ⟨⟨⟨⟨⟨h1,h2⟩,h3⟩,h4⟩,h5⟩,h6⟩:=h
 exact ⟨h1,h2,fun y hy e=>(h3 y hy).resolve_left fun z=>z e,fun y hy e=>(h4 y hy).resolve_left fun z=>z e,h5,h6⟩
theorem nd_of {N:List Str} (h:decide N.Nodup=true):N.Nodup:=of_decide_eq_true h
theorem pg_tupK {X:Cx} {K:PySem.W.Frag} {es:List Expr} {k n:Nat} {t:TGs} {pos:Pos} (hK:X.K=K) (hc:X.calm=true) (h:PGs X es t) (hn:(assignEach es X.env).length=n) (hst:(assignEach es X.env).findIdx? (·.1)=none):PG X (.Tuple es k pos) (gTup K n t):=by
 subst hK hn
 exact pg_tup hc h rfl hst
theorem pi_tupK {X:Cx} {K:PySem.W.Frag} {tg l:Expr} {tl:TE} (hK:X.K=K) (hl:PE X l tl):PI X tg l (iTup K tl):=by subst hK;exact pi_tup hl
theorem ix_listK {X:Cx} {K:PySem.W.Frag} (hK:X.K=K):IxR X (rIxL K):=by subst hK;exact qAI
theorem op_inK {X:Cx} {K:PySem.W.Frag} (hK:X.K=K):OpR X (compareOp .In) (rIn K false):=by subst hK;exact qBF
theorem call_tupleK {X:Cx} {K:PySem.W.Frag} (hK:X.K=K):CallR X (.type "tuple") (fun xs H Q=>∃ p ys,xs=[.ref p]∧((SqL K H p ys∧∀ l,H l=none→Q (.ref l) (upd H l (.tup ys)))∨(SqT K H p ys∧Q (.ref p) H))):=by subst hK;exact qAM
end L2
namespace L2
open PySem PySem.Spec PyProof.Rows
theorem below_go {xs:Array Nat} {j:Nat} (up:∀ a b,a<b→b<xs.size→xs.getD a j<xs.getD b j):∀ (fuel lo hi:Nat),lo≤hi→hi≤xs.size→hi - lo≤fuel→(∀ i,i<lo→xs.getD i j<j)→(∀ i,hi≤i→i<xs.size→j≤xs.getD i j)→
  SetTable.below.go xs j fuel lo hi≤xs.size∧(∀ i,i<SetTable.below.go xs j fuel lo hi→xs.getD i j<j)∧(∀ i,SetTable.below.go xs j fuel lo hi≤i→i<xs.size→j≤xs.getD i j)
 | 0,lo,hi,h1,h2,h3,a,b=>by
  have e:lo=hi:=by lia
  subst e
  exact ⟨h2,a,b⟩
 | fuel+1,lo,hi,h1,h2,h3,a,b=>by
  unfold SetTable.below.go
  by_cases hlt:lo<hi
  ·rw [if_pos hlt]
   dsimp only
   have hm1:lo≤(lo+hi) / 2:=by lia
   have hm2:(lo+hi) / 2<hi:=by lia
   by_cases hc:xs.getD ((lo+hi) / 2) j<j
   ·rw [if_pos hc]
    refine below_go up fuel _ _ (by lia) h2 (by lia) (fun i hi'=>?_) b
    by_cases e:i=(lo+hi) / 2
    ·rw [e];exact hc
    ·exact Nat.lt_trans (up i ((lo+hi) / 2) (by lia) (by lia)) hc
   ·rw [if_neg hc]
    refine below_go up fuel _ _ (by lia) (by lia) (by lia) a (fun i hi' hs=>?_)
    by_cases e:i=(lo+hi) / 2
    ·rw [e];lia
    ·have:=up ((lo+hi) / 2) i (by lia) hs
     lia
  ·rw [if_neg hlt]
   have e:lo=hi:=by lia
   subst e
   exact ⟨h2,a,b⟩
theorem up_of {xs:Array Nat} (j:Nat) (h:xs.toList.Pairwise (·<·)):∀ a b,a<b→b<xs.size→xs.getD a j<xs.getD b j:=fun a b hab hb=>by
 have:=List.pairwise_iff_getElem.mp h a b (by simpa using Nat.lt_trans hab hb) (by simpa using hb) hab
 rw [Array.getD_eq_getD_getElem?,Array.getD_eq_getD_getElem?,Array.getElem?_eq_getElem (Nat.lt_trans hab hb),Array.getElem?_eq_getElem hb]
 simpa using this
theorem qC9 {xs:Array Nat} {j:Nat} (h:xs.toList.Pairwise (·<·)):SetTable.below xs j≤xs.size∧(∀ i,i<SetTable.below xs j→xs.getD i j<j)∧(∀ i,SetTable.below xs j≤i→i<xs.size→j≤xs.getD i j):=by
 unfold SetTable.below
 exact below_go (up_of j h) xs.size 0 xs.size (Nat.zero_le _) (Nat.le_refl _) (by lia) (fun i hi=>absurd hi (by lia)) (fun i hi hs=>absurd hs (by lia))
theorem qAT {α:Type} (xs:Array α) (p:Nat) (x:α):(SetTable.insertAt xs p x).toList=xs.toList.take p++x::xs.toList.drop p:=by
 unfold SetTable.insertAt
 simp [Array.toList_extract,List.take_of_length_le]
structure T7 (byText:Bool) (t:SetTable) (n:Nat):Prop where
 mask:t.mask=7
 dum:t.dummies=#[]
 plain:t.plain=true
 led:t.led=!byText
 size:t.place.size=n
 up:t.place.toList.Pairwise (·<·)
 le:∀ j ∈ t.place.toList,j≤7
section
variable {byText:Bool} {t:SetTable} {n:Nat}
theorem T7.slot (T:T7 byText t n) (j:Nat):(t.slot j=.empty∧j ∉ t.place.toList)∨(∃ i,t.slot j=.live i∧j ∈ t.place.toList):=by
 unfold SetTable.slot
 dsimp only
 have hd:SetTable.has t.dummies j=false:=by rw [T.dum];rfl
 obtain ⟨b1,b2,b3⟩:=qC9 (j:=j) T.up
 by_cases hc:t.place[SetTable.below t.place j]?=some j
 ·rw [if_pos (by rw [hc];simp)]
  exact .inr ⟨_,rfl,by rw [← Array.mem_def];exact Array.mem_of_getElem? hc⟩
 ·rw [if_neg (by simpa using hc),hd,if_neg (by simp)]
  refine .inl ⟨rfl,fun hm=>?_⟩
  obtain ⟨i,hi,he⟩:=List.mem_iff_getElem.mp hm
  have hi':i<t.place.size:=by simpa using hi
  have he':t.place.getD i j=j:=by
   rw [Array.getD_eq_getD_getElem?,Array.getElem?_eq_getElem hi']
   simpa using he
  have h1:¬ i<SetTable.below t.place j:=fun z=>by have:=b2 i z;lia
  have h2:SetTable.below t.place j=i:=by
   apply Nat.le_antisymm (Nat.le_of_not_lt h1)
   apply Nat.le_of_not_lt
   intro z
   have:=b3 (SetTable.below t.place j) (Nat.le_refl _) (by lia)
   have:=up_of j T.up _ _ z hi'
   lia
  apply hc
  rw [h2,Array.getElem?_eq_getElem hi']
  simpa using he
def pr (i pt:Nat):SetTable.Probe:={ j:=i,more:=0,i:=i,perturb:=pt,dummy:=none }
theorem T7.adv (T:T7 byText t n) (i pt:Nat):t.advance (pr i pt)=pr ((i * 5+1+pt / 32) % 8) (pt / 32):=by
 unfold SetTable.advance pr SetTable.leap SetTable.runEnd
 rw [T.mask]
 dsimp only
 rw [if_neg (by lia),if_neg (by lia),Nat.sub_self]
theorem T7.go1 (T:T7 byText t n) (h:Int) (f i pt:Nat) :
  (SetTable.probe.go t (fun _=>h+1) h (f+1) (pr i pt)=some (.empty i none)∧i ∉ t.place.toList)∨
  (SetTable.probe.go t (fun _=>h+1) h (f+1) (pr i pt)=SetTable.probe.go t (fun _=>h+1) h f (pr ((i * 5+1+pt / 32) % 8) (pt / 32))∧i ∈ t.place.toList):=by
 rcases T.slot i with ⟨e,m⟩ | ⟨k,e,m⟩
 ·left
  refine ⟨?_,m⟩
  unfold SetTable.probe.go
  rw [show (pr i pt).j=i from rfl,e]
  rfl
 ·right
  refine ⟨?_,m⟩
  rw [SetTable.probe.go]
  rw [show (pr i pt).j=i from rfl,e]
  dsimp only
  rw [if_neg (by simp;lia),T.adv]
def F8 (i:Nat):Nat:=(i * 5+1) % 8
def F8n:Nat→Nat→Nat
 | 0,i=>i
 | m+1,i=>F8n m (F8 i)
theorem T7.go0 (T:T7 byText t n) (h:Int) (f:Nat):∀ (m i:Nat),(∃ j,SetTable.probe.go t (fun _=>h+1) h (m+f) (pr i 0)=some (.empty j none)∧j ∉ t.place.toList∧∃ q,q<m∧j=F8n q i)∨(∀ q,q<m→F8n q i ∈ t.place.toList)
 | 0,i=>.inr fun q hq=>absurd hq (by lia)
 | m+1,i=>by
  rcases T.go1 h (m+f) i 0 with ⟨e,z⟩ | ⟨e,z⟩
  ·exact .inl ⟨i,by rw [show m+1+f=m+f+1 by lia];exact e,z,0,by lia,rfl⟩
  ·rw [show m+1+f=m+f+1 by lia,e]
   have e2:(i * 5+1+0 / 32) % 8=F8 i:=by unfold F8;lia
   rw [e2]
   rcases T.go0 h f m (F8 i) with ⟨j,e3,z3,q,hq,e4⟩ | e3
   ·exact .inl ⟨j,e3,z3,q+1,by lia,e4⟩
   ·refine .inr fun q hq=>?_
    cases q with
    | zero=>exact z
    | succ q=>exact e3 q (by lia)
theorem F8_all:∀ i:_root_.Fin 8,∀ j:_root_.Fin 8,∃ q:_root_.Fin 8,F8n q.1 i.1=j.1:=by decide
theorem F8_lt:∀ (q i:Nat),i<8→F8n q i<8
 | 0,i,h=>h
 | q+1,i,h=>F8_lt q (F8 i) (Nat.mod_lt _ (by decide))
theorem T7.goK (T:T7 byText t n) (hn:n≤7) (h:Int) (f:Nat):∀ (k i pt:Nat),i<8→pt<32 ^ k→∃ j,SetTable.probe.go t (fun _=>h+1) h (k+(8+f)) (pr i pt)=some (.empty j none)∧j ∉ t.place.toList∧j≤7
 | 0,i,pt,hi,hp=>by
  have e:pt=0:=by lia
  subst e
  rw [Nat.zero_add]
  rcases T.go0 h f 8 i with ⟨j,e,z,q,hq,e2⟩ | e
  ·exact ⟨j,e,z,by have:=F8_lt q i hi;lia⟩
  ·exfalso
   have sub:[0,1,2,3,4,5,6,7] ⊆ t.place.toList:=fun j hj=>by
    have hj8:j<8:=by
     simp at hj
     lia
    obtain ⟨q,hq⟩:=F8_all ⟨i,hi⟩ ⟨j,hj8⟩
    rw [← show F8n q.1 i=j from hq]
    exact e q.1 q.2
   have:=List.Nodup.length_le_of_subset (by decide:[0,1,2,3,4,5,6,7].Nodup) sub
   have hs:=T.size
   simp at this
   lia
 | k+1,i,pt,hi,hp=>by
  rw [show k+1+(8+f)=k+(8+f)+1 by lia]
  rcases T.go1 h (k+(8+f)) i pt with ⟨e,z⟩ | ⟨e,z⟩
  ·exact ⟨i,e,z,by lia⟩
  ·rw [e]
   refine T.goK hn h f k _ _ (Nat.mod_lt _ (by decide)) ?_
   rw [Nat.pow_succ] at hp
   lia
theorem T7.free (T:T7 byText t n) (hn:n≤7) (h:Int):∃ j,t.freeSlot h=some (j,false)∧j ∉ t.place.toList∧j≤7:=by
 have hb:SetTable.bits h<32 ^ 13:=by
  unfold SetTable.bits
  have h1:0≤h % (2 ^ 64:Int):=Int.emod_nonneg _ (by decide)
  have h2:h % (2 ^ 64:Int)<2 ^ 64:=Int.emod_lt_of_pos _ (by decide)
  have:((2:Int) ^ 64)=18446744073709551616:=by decide
  rw [this] at h1 h2 ⊢
  have h3:(32:Nat) ^ 13=36893488147419103232:=by decide
  lia
 obtain ⟨j,e,z,l⟩:=T.goK hn h 199 13 (SetTable.bits h % 8) (SetTable.bits h) (Nat.mod_lt _ (by decide)) hb
 refine ⟨j,?_,z,l⟩
 have hst:t.probeStart h=pr (SetTable.bits h % 8) (SetTable.bits h):=by
  unfold SetTable.probeStart pr SetTable.runEnd
  rw [T.mask]
  dsimp only
  rw [if_neg (by lia),Nat.sub_self]
 unfold SetTable.freeSlot SetTable.probe
 rw [hst,show 10 * SetTable.turns t.mask=13+(8+199) by rw [T.mask];rfl,e]
 rfl
theorem T7.lay (T:T7 byText t n) (hn:n≤3) {es:Array (Int × Value)} (he:es.size=n) (h:Int) (x:Value) :
  ∃ p t',layNew t es h x=(SetTable.insertAt es p (h,x),t',false,false)∧T7 byText t' (n+1)∧t'.tooFull=false∧p≤es.size:=by
 obtain ⟨j,e,z,l⟩:=T.free (by lia) h
 obtain ⟨b1,b2,b3⟩:=qC9 (j:=j) T.up
 have hd:SetTable.has t.dummies j=false:=by rw [T.dum];rfl
 have tl:(SetTable.insertAt t.place (SetTable.below t.place j) j).toList=t.place.toList.take (SetTable.below t.place j)++j::t.place.toList.drop (SetTable.below t.place j):=qAT _ _ _
 have sz:(SetTable.insertAt t.place (SetTable.below t.place j) j).size=n+1:=by
  rw [← Array.length_toList,tl,List.length_append,List.length_cons,List.length_take,List.length_drop,Array.length_toList,T.size]
  rw [T.size] at b1
  lia
 have T':T7 byText { t with place:=SetTable.insertAt t.place (SetTable.below t.place j) j,dummies:=t.dummies } (n+1):=by
  refine ⟨T.mask,T.dum,T.plain,T.led,sz,?_,?_⟩
  ·show (SetTable.insertAt t.place (SetTable.below t.place j) j).toList.Pairwise (·<·)
   rw [tl]
   have geti:∀ i,i<t.place.size→t.place.getD i j=t.place.toList.getD i j:=fun i hi=>by
    rw [Array.getD_eq_getD_getElem?,List.getD_eq_getElem?_getD,Array.getElem?_toList]
   have lo:∀ a ∈ t.place.toList.take (SetTable.below t.place j),a<j:=fun a ha=>by
    obtain ⟨i,hi,hai⟩:=List.mem_iff_getElem.mp ha
    rw [List.length_take,Array.length_toList] at hi
    have hi1:i<SetTable.below t.place j:=by lia
    have hi2:i<t.place.size:=by lia
    have:=b2 i hi1
    rw [Array.getD_eq_getD_getElem?,Array.getElem?_eq_getElem hi2] at this
    rw [List.getElem_take] at hai
    rw [← hai]
    simpa using this
   have hi:∀ a ∈ t.place.toList.drop (SetTable.below t.place j),j<a:=fun a ha=>by
    have hm:a ∈ t.place.toList:=List.mem_of_mem_drop ha
    obtain ⟨i,hi,hai⟩:=List.mem_iff_getElem.mp ha
    rw [List.length_drop,Array.length_toList] at hi
    have hi2:SetTable.below t.place j+i<t.place.size:=by lia
    have:=b3 _ (Nat.le_add_right _ i) hi2
    rw [Array.getD_eq_getD_getElem?,Array.getElem?_eq_getElem hi2] at this
    rw [List.getElem_drop] at hai
    have h3:j≤a:=by
     rw [← hai]
     simpa using this
    rcases Nat.lt_or_eq_of_le h3 with h4 | h4
    ·exact h4
    ·exact absurd (h4 ▸ hm) z
   refine List.pairwise_append.mpr ⟨T.up.sublist (List.take_sublist _ _),List.pairwise_cons.mpr ⟨hi,T.up.sublist (List.drop_sublist _ _)⟩,fun a ha b hb=>?_⟩
   rcases List.mem_cons.mp hb with e | hb
   ·rw [e];exact lo a ha
   ·exact Nat.lt_trans (lo a ha) (hi b hb)
  ·show ∀ i ∈ (SetTable.insertAt t.place (SetTable.below t.place j) j).toList,i≤7
   rw [tl]
   intro i hi
   rcases List.mem_append.mp hi with hi | hi
   ·exact T.le i (List.mem_of_mem_take hi)
   ·rcases List.mem_cons.mp hi with e | hi
    ·lia
    ·exact T.le i (List.mem_of_mem_drop hi)
 have fits:SetTable.fits { t with place:=SetTable.insertAt t.place (SetTable.below t.place j) j,dummies:=t.dummies } (n+1)=true:=by
  unfold SetTable.fits SetTable.fill
  dsimp only
  rw [sz,T.dum,T.mask]
  have:((#[]:Array Nat)).size=0:=rfl
  simp only [this,beq_self_eq_true,Bool.true_and,decide_eq_true_eq]
  lia
 have szE:(SetTable.insertAt es (SetTable.below t.place j) (h,x)).size=n+1:=by
  rw [← Array.length_toList,qAT,List.length_append,List.length_cons,List.length_take,List.length_drop,Array.length_toList]
  rw [T.size] at b1
  lia
 refine ⟨SetTable.below t.place j,{ t with place:=SetTable.insertAt t.place (SetTable.below t.place j) j,dummies:=t.dummies },?_,T',?_,by rw [he,← T.size];exact b1⟩
 ·unfold layNew
  rw [e]
  dsimp only
  unfold SetTable.put
  rw [hd]
  dsimp only
  rw [szE]
  unfold SetTable.orStandIn
  simp only [Bool.false_eq_true,if_false]
  rw [fits]
  simp
 ·unfold SetTable.tooFull SetTable.fill
  dsimp only
  rw [sz,T.dum,T.mask]
  have:((#[]:Array Nat)).size=0:=rfl
  rw [this]
  exact decide_eq_false (by lia)
end
end L2
namespace L2
open PySem PySem.Spec PyProof.Rows
theorem erase_perm {α:Type}:∀ (l:List α) (i:Nat) (h:i<l.length),(l[i]::l.eraseIdx i).Perm l
 | [],i,h=>absurd h (by simp)
 | a::r,0,h=>.refl _
 | a::r,i+1,h=>by
  have hi:i<r.length:=by simpa using h
  have ih:=erase_perm r i hi
  show (r[i]::a::r.eraseIdx i).Perm (a::r)
  exact (List.Perm.swap _ _ _).trans (ih.cons a)
theorem pick_go {α:Type} (next:Nat→Nat):∀ (fuel k:Nat) (left:List α) (out:Array α),fuel=left.length→(pickOrder.go next fuel k left out).toList.Perm (out.toList++left)
 | 0,k,left,out,h=>by
  have:left=[]:=List.length_eq_zero_iff.mp h.symm
  subst this
  unfold pickOrder.go
  simp
 | fuel+1,k,left,out,h=>by
  have hl:0<left.length:=by lia
  have hm:next k % left.length<left.length:=Nat.mod_lt _ hl
  unfold pickOrder.go
  rw [List.getElem?_eq_getElem hm]
  dsimp only
  refine (pick_go next fuel (k+1) _ _ (by rw [List.length_eraseIdx_of_lt hm];lia)).trans ?_
  rw [Array.toList_push,List.append_assoc]
  exact List.Perm.append_left _ (erase_perm left _ hm)
theorem pick_perm {α:Type} (next:Nat→Nat) (xs:Array α):(pickOrder next xs).toList.Perm xs.toList:=by
 unfold pickOrder
 have:=pick_go next xs.size 0 xs.toList #[] (by simp)
 simpa using this
abbrev Ents:List Int→List (Int × Value)→Prop:=Paired fun k e=>∃ tk,e=(hashInt k,Value.int k tk)
theorem Ents.perm:∀ {es es':List (Int × Value)} {ks:List Int},Ents ks es→es'.Perm es→∃ ks',Ents ks' es'∧ks'.Perm ks:=by
 intro es es' ks h p
 have key:∀ {a b:List (Int × Value)},a.Perm b→∀ ks,Ents ks b→∃ ks',Ents ks' a∧ks'.Perm ks:=by
  intro a b p
  induction p with
  | nil=>intro ks h;exact ⟨ks,h,.refl _⟩
  | cons x p ih=>
   intro ks h
   cases h with
   | cons r t=>
    obtain ⟨ks',h1,h2⟩:=ih _ t
    exact ⟨_::ks',.cons r h1,h2.cons _⟩
  | swap x y l=>
   intro ks h
   cases h with
   | cons r t=>
    cases t with
    | cons r' t'=>exact ⟨_,.cons r' (.cons r t'),.swap _ _ _⟩
  | trans p q ih1 ih2=>
   intro ks h
   obtain ⟨k1,h1,h2⟩:=ih2 ks h
   obtain ⟨k2,h3,h4⟩:=ih1 k1 h1
   exact ⟨k2,h3,h4.trans h2⟩
 exact key p ks h
theorem Ents.elems {prog:Program} {w:World} {es:List (Int × Value)} {ks:List Int} (h:Ents ks es):ElemsOf (intKind prog w) es:=by
 intro e he
 have key:∀ {ks:List Int} {es:List (Int × Value)},Ents ks es→∀ e ∈ es,∃ k tk,e=(hashInt k,Value.int k tk):=by
  intro ks es h
  induction h with
  | nil=>intro e he;cases he
  | cons r t ih=>
   intro e he
   rcases List.mem_cons.mp he with z | z
   ·subst z;obtain ⟨tk,e⟩:=r;exact ⟨_,tk,e⟩
   ·exact ih e z
 obtain ⟨k,tk,rfl⟩:=key h e he
 exact ⟨⟨k,by simp [intKind,Value.isInt],rfl⟩,rfl⟩
theorem Ents.find {prog:Program} {w:World} {k:Int}:∀ {es:List (Int × Value)} {ks:List Int},Ents ks es→((List.findIdx? (fun e=>(intKind prog w).is k e.2) es).isSome=true ↔ k ∈ ks)
 | _,_,.nil=>by simp
 | _,_,.cons r t=>by
  obtain ⟨tk,rfl⟩:=r
  rename_i k' ks' es'
  have ih:=Ents.find (prog:=prog) (w:=w) (k:=k) t
  rw [List.findIdx?_cons,List.mem_cons]
  have hi:(intKind prog w).is k (Value.int k' tk)=decide (k=k'):=by
   by_cases e:k=k'
   ·simp [intKind,Value.isInt,e]
   ·have e':¬ k'=k:=fun z=>e z.symm
    simp [intKind,Value.isInt,e,e']
  dsimp only
  rw [hi]
  by_cases e:k=k'
  ·simp [e]
  ·simp only [e,decide_false,Bool.false_eq_true,if_false,false_or,Option.isSome_map]
   exact ih
noncomputable def byT (w:World):Bool:=w.params.followText "set-order"
def SetI (w:World) (a:Addr) (zs:List Int) (h:Heap):Prop:=
 ∃ (es:Array (Int × Value)) (ep:Nat) (t:SetTable) (ks:List Int),h.get? a=some { cls:=.type "set",data:=.set es ep t }∧T7 (byT w) t es.size∧Ents ks es.toList∧ks.Perm zs∧zs.Nodup∧zs.length≤4
theorem SetI.at {w:World} {a:Addr} {zs:List Int} {h h':Heap} (x:SetI w a zs h) (k:∀ o,h.get? a=some o→h'.get? a=some o):SetI w a zs h':=
 let ⟨es,ep,t,ks,h1,r⟩:=x;⟨es,ep,t,ks,k _ h1,r⟩
theorem T7.fits {b:Bool} {t:SetTable} {n:Nat} (T:T7 b t n) (hn:n≤7):t.fits n=true:=by
 unfold SetTable.fits SetTable.fill
 rw [T.size,T.dum,T.mask]
 have:((#[]:Array Nat)).size=0:=rfl
 simp only [this,beq_self_eq_true,Bool.true_and,decide_eq_true_eq]
 lia
noncomputable def addI (zs:List Int) (k:Int):List Int:=if k ∈ zs then zs else zs++[k]
section
variable {prog:Program} {w:World} {A:Around} {E:Value→Shared→Prop} {s:Shared}
theorem SetI.size {a:Addr} {zs:List Int} {h:Heap} {es:Array (Int × Value)} {ks:List Int} (he:Ents ks es.toList) (hp:ks.Perm zs):es.size=zs.length:=by
 rw [← hp.length_eq,Paired.length he,Array.length_toList]
theorem setAdd_I {a:Addr} {zs:List Int} {k:Int} {tk:Tok} {Q:Bool→Shared→Prop} (hS:SetI w a zs s.heap) (hroom:zs.length≤3∨k ∈ zs)
  (h:∀ h',Heap.SameBut a s.heap h'→SetI w a (addI zs k) h'→∀ b,Q b { s with heap:=h' }):wpAny (model prog w) A (setAddHashed a (.int k tk) (hashInt k)) Q E s:=by
 obtain ⟨es,ep,t,ks,ho,T,he,hp,hnd,hlen⟩:=id hS
 have hsz:es.size=zs.length:=SetI.size (a:=a) (h:=s.heap) he hp
 have hel:ElemsOf (intKind prog w) es.toList:=he.elems
 have hb:es.size<scanBound:=by rw [hsz];unfold scanBound;lia
 have hf:t.fits es.size=true:=T.fits (by lia)
 unfold setAddHashed setAddHashedIn
 refine wpAny_holding (wpAny_bind (wpAny_setState_of ho rfl hf ?_))
 dsimp only
 rw [byScan_of (knd:=intKind prog w) (x:=.int k tk) rfl hb hel]
 simp only [↓reduceIte]
 unfold setAddByScan
 refine wpAny_bind ?_
 refine wpAny_bind (wpAny_rule ?_)
 refine wpAny_bind (wpAny_setScan_of (knd:=intKind prog w) (k:=k) (intKind_is _ _ _ _) ho rfl hf hel ?_)
 have hfd:=Ents.find (prog:=prog) (w:=w) (k:=k) he
 cases hr:List.findIdx? (fun e=>(intKind prog w).is k e.2) es.toList with
 | some j=>
  dsimp only
  rw [hr] at hfd
  have hk:k ∈ zs:=hp.mem_iff.mp (hfd.mp rfl)
  refine wpAny_pure (wpAny_pure ?_)
  have e:s={ s with heap:=s.heap }:=by cases s;rfl
  rw [e]
  refine h s.heap (Heap.SameBut.refl a s.heap) ?_ _
  unfold addI
  rw [if_pos hk]
  exact hS
 | none=>
  dsimp only
  rw [hr] at hfd
  have hk:¬ k ∈ zs:=fun z=>by have:=hfd.mpr (hp.mem_iff.mpr z);cases this
  have h3:zs.length≤3:=hroom.resolve_right hk
  obtain ⟨p,t',e1,T',tf,hpe⟩:=T.lay (by lia) rfl (hashInt k) (.int k tk)
  rw [e1]
  dsimp only
  refine wpAny_bind (wpAny_pure ?_)
  rw [T'.plain]
  simp only [↓reduceIte]
  rw [hashByValue_scannable 8 (x:=.int k tk) rfl]
  refine wpAny_bind (wpAny_pure ?_)
  have hszE:(SetTable.insertAt es p (hashInt k,Value.int k tk)).size=es.size+1:=by
   rw [← Array.length_toList,qAT,List.length_append,List.length_cons,List.length_take,List.length_drop,Array.length_toList]
   lia
  rw [show plainKind (Value.int k tk)=true from rfl]
  simp only [↓reduceIte]
  show wpAny _ _ (storeSet a (SetTable.insertAt es p (hashInt k,.int k tk)) t' >>= _) _ _ _
  refine wpAny_bind (wpAny_storeSet_of ho rfl ?_ (by rw [hszE,hsz,sizeLine_eq];lia))
  rw [tf]
  simp only [Bool.and_false,Bool.false_eq_true,↓reduceIte]
  refine wpAny_pure (wpAny_pure ?_)
  refine h _ (Heap.SameBut.update s.heap a _) ?_ _
  have hg:(s.heap.update a (Obj.putSet (SetTable.insertAt es p (hashInt k,.int k tk)) t')).get? a=some { cls:=.type "set",data:=.set (SetTable.insertAt es p (hashInt k,.int k tk)) (ep+1) t' }:=by
   have:=Heap.get?_update_self (Obj.putSet (SetTable.insertAt es p (hashInt k,.int k tk)) t') ho (by rw [putSet_of _ _ (ep:=ep) (es:=es) (t:=t) rfl];rfl)
   rw [putSet_of _ _ (ep:=ep) (es:=es) (t:=t) rfl] at this
   exact this
  have hpm:(SetTable.insertAt es p (hashInt k,Value.int k tk)).toList.Perm (es.toList++[(hashInt k,.int k tk)]):=by
   rw [qAT]
   have e3:es.toList++[(hashInt k,Value.int k tk)]=es.toList.take p++(es.toList.drop p++[(hashInt k,Value.int k tk)]):=by
    rw [← List.append_assoc,List.take_append_drop]
   rw [e3]
   exact List.Perm.append_left _ (List.perm_append_singleton _ _).symm
  obtain ⟨ks',h4,h5⟩:=Ents.perm (ks:=ks++[k]) (Paired.snoc he ⟨tk,rfl⟩) hpm
  refine ⟨_,_,t',ks',hg,by rw [hszE];exact T',h4,?_,?_,?_⟩
  ·unfold addI
   rw [if_neg hk]
   exact h5.trans (hp.append_right _)
  ·unfold addI
   rw [if_neg hk]
   exact qD4 hnd hk
  ·unfold addI
   rw [if_neg hk,List.length_append,List.length_singleton]
   lia
end
noncomputable def dedI:List Int→List Int:=fun l=>l.foldl addI []
theorem addI_len (zs:List Int) (k:Int):(addI zs k).length≤zs.length+1:=by
 unfold addI
 split <;> simp
theorem qB9:∀ (l zs:List Int),(l.foldl addI zs).length≤zs.length+l.length
 | [],zs=>by simp
 | k::r,zs=>by
  have h1:=qB9 r (addI zs k)
  have h2:=addI_len zs k
  rw [List.foldl_cons,List.length_cons]
  lia
section
variable {prog:Program} {w:World} {A:Around} {R:Result→Shared→Prop} {I:Addr} {fp wr:List Addr} {G:Array GenState→Array GenState→Prop} {n:Nat} {P:Nat→Value→Prop} {St:Nat→Shared→Prop}
theorem set_update_I (W:WalksS prog w A.in1 I fp wr G n P St) (S:Addr) (hSf:S ∉ fp) (ns:List Int) (hnn:ns.length=n) (h4:n≤4) (hval:∀ i v,P i v→∃ t,v=.int (ns.getD i 0) t) :
  ∀ (k i:Nat) (s:Shared),n - i=k→i≤n→St i s→SetI w S (dedI (ns.take i)) s.heap→
   (∀ s',Moved (S::wr) G s s'→SetI w S (dedI ns) s'.heap→R (.ok (.ret .none)) s')→
   codeAny (model prog w) A (.builtin "set.update.loop" ⟨[.ref S,.ref I],[]⟩) R s:=by
 have hSw:S ∉ wr:=fun h=>hSf (W.sub _ h)
 have hsub:∀ b ∈ wr,b ∈ S::wr:=fun b hb=>List.mem_cons_of_mem _ hb
 intro k
 induction k with
 | zero=>
  intro i s hk hi hst hS hR
  have hin:i=n:=by lia
  subst hin
  refine codeAny_builtin F.entry_set_update_loop ?_
  rw [Around.under_plainId F.plain_set_update_loop _]
  show wpAny _ A.in1 (pyNext (.ref I) >>= _) _ _ s
  refine wpAny_bind (W.done s _ _ hst fun s' hm=>?_)
  show wpAny _ A.in1 (ret Value.none) _ _ s'
  rw [List.take_of_length_le (by lia)] at hS
  exact wpAny_pure (hR s' (hm.mono hsub) (hS.at fun o e=>hm.heap S _ hSw e))
 | succ k ih=>
  intro i s hk hi hst hS hR
  have hlt:i<n:=by lia
  refine codeAny_builtin F.entry_set_update_loop ?_
  rw [Around.under_plainId F.plain_set_update_loop _]
  show wpAny _ A.in1 (pyNext (.ref I) >>= _) _ _ s
  refine wpAny_bind (W.item i s _ _ hlt hst fun v s' hP hst' hm=>?_)
  obtain ⟨t,rfl⟩:=hval i v hP
  have hS':SetI w S (dedI (ns.take i)) s'.heap:=hS.at fun o e=>hm.heap S _ hSw e
  show wpAny _ A.in1 (holding [Value.int (ns.getD i 0) t] (setAdd S (.int (ns.getD i 0) t)) >>= _) _ _ s'
  refine wpAny_bind (wpAny_holding ?_)
  unfold setAdd
  refine wpAny_holding ?_
  refine wpAny_bind ((intKind prog w).pyHash (k:=ns.getD i 0) (intKind_is _ _ _ _) ?_)
  have hroom:(dedI (ns.take i)).length≤3:=by
   have:=qB9 (ns.take i) []
   rw [List.length_take] at this
   unfold dedI
   simp at this
   lia
  refine setAdd_I (s:={ s' with toks:=s'.toks+1 }) hS' (.inl hroom) fun h' hsb hS2 b=>?_
  have e2:addI (dedI (ns.take i)) (ns.getD i 0)=dedI (ns.take (i+1)):=by
   have hi':i<ns.length:=by lia
   rw [List.take_add_one,List.getElem?_eq_getElem hi',Option.toList_some]
   unfold dedI
   rw [List.foldl_append,List.foldl_cons,List.foldl_nil,List.getD_eq_getElem?_getD,List.getElem?_eq_getElem hi',Option.getD_some]
  rw [e2] at hS2
  refine wpAny_pure ⟨plainId_quiet F.plain_set_update_loop _,ih (i+1) _ (by lia) hlt (W.frame _ s' _ _ hst' (Nat.le_succ _) fun b hb o e=>?_) hS2 fun s'' hm'' hS''=>?_⟩
  ·rw [hsb.2 b (fun h:b=S=>hSf (by rw [← h];exact hb))];exact e
  ·refine hR s'' (Moved.trans W.gtrans ((hm.mono hsub).then_heap (Nat.le_succ _) fun b o hb e=>?_) hm'') hS''
   rw [hsb.2 b (fun h:b=S=>hb (by rw [h];exact List.mem_cons_self))];exact e
end
end L2
namespace L2
open PySem PySem.Spec PyProof.Rows
noncomputable abbrev freshSet (w:World):Obj:={ cls:=.type "set",dict:=none,data:=.set #[] 0 (.fresh 0 0 (!byT w)) }
section
variable {prog:Program} {w:World} {A:Around} {E:Value→Shared→Prop} {s:Shared}
theorem set_new_I (a:Value) {Q₁:Value→Shared→Prop} (h:Q₁ (.ref s.heap.objs.size) { s with heap:=s.heap.push (freshSet w) }) :
  codeAny (model prog w) A (.call (.builtin "set.__new__") ⟨[.type "set",a],[]⟩) (wants Q₁ E) s:=by
 refine codeAny_of_tree ?_
 show wpAny _ A.in1 (do checkBuiltinCall "set.__new__" ⟨[.type "set",a],[]⟩;again (.builtin "set.__new__" ⟨[.type "set",a],[]⟩)) _ _ s
 refine wpAny_bind (wpAny_of_eq (F.newCall_set_1 a) (wpAny_pure ⟨plainId_quiet F.plain_set_new _,codeAny_builtin F.entry_set_new ?_⟩))
 rw [Around.under_plainId F.plain_set_new _]
 unfold Builtin.«set.__new__» Builtin.Frozenset.newClass
 have hsub:=sub_set_self
 obtain ⟨hp,g,d,tk,os⟩:=s
 dsimp only
 wp_walk
 refine wpAny_askSetting (wpAny_pure ?_)
 dsimp only
 simp only [newObj]
 refine wpAny_bind (wpAny_alloc (wpAny_pure ?_))
 exact wpAny_pure h
theorem SetI.fresh {a:Addr} {h:Heap} (e:h.get? a=some (freshSet w)):SetI w a [] h:=
 ⟨#[],0,_,[],e,⟨rfl,rfl,rfl,rfl,rfl,.nil,fun _ z=>nomatch z⟩,.nil,.refl _,.nil,Nat.zero_le _⟩
set_option maxHeartbeats 3200000 in
theorem call_set_I {l:Addr} {items:Array Value} {ns:List Int} {Q:Value→Shared→Prop} (hh:A.handled=none) (hl:s.heap.IsList l items) (hi:IntsAre items.toList ns) (h4:items.size≤4)
  (h:∀ (h':Heap) (tk:Nat),SetI w s.heap.objs.size (dedI ns) h'→(∀ b o,s.heap.get? b=some o→h'.get? b=some o)→Q (.ref s.heap.objs.size) { s with heap:=h',toks:=tk }) :
  wpAny (model prog w) A (call (.type "set") [.ref l]) Q E s:=by
 have hlen:ns.length=items.size:=by have:=IntsAre.length hi;simpa using this.symm
 obtain ⟨c,tl,hmro⟩:=F.called_set.mro
 have hmade:=F.called_set.made
 have hsub:=F.called_set.sub
 refine wpAny_call (codeAny_of_tree ?_)
 show wpAny _ _ (callAny (.type "set") _) _ _ _
 refine wpAny_pure ⟨Code.quiet_builtin _ (by decide +kernel),codeAny_builtin F.entry_type_call ?_⟩
 rw [Around.under_plain (weight_type_call_type "set" [.ref l] []) rfl]
 have h1:=F.called_set.notType
 have h2:=F.called_set.canCreate
 have hct:=F.typeCall_set_1 (.ref l)
 repeat (any_goals (first | assumption | wp_step))
 refine codeAny_mono (set_new_I (.ref l) (E:=E) (Q₁:=fun obj s₁=>obj=.ref s.heap.objs.size∧s₁={ s with heap:=s.heap.push (freshSet w) }) ⟨rfl,rfl⟩) fun r s₁ hr=>?_
 cases r with
 | error e=>exact hr
 | ok fl=>
  cases fl with
  | ret obj=>
   obtain ⟨rfl,rfl⟩:=hr
   have hS:(s.heap.push (freshSet w)).get? s.heap.objs.size=some (freshSet w):=Heap.get?_push_size _ rfl
   have hT:Shared.TypeIs { s with heap:=s.heap.push (freshSet w) } (.ref s.heap.objs.size) "set":=⟨_,hS,rfl⟩
   have hli:=F.called_set.init.lookup
   have hbi:=F.called_set.init.bind (.ref s.heap.objs.size)
   repeat (any_goals (first | assumption | wp_step))
   refine codeAny_mono (codeAny_call_builtin (R:=wants (fun r s₂=>r=.none∧∃ h' tk,s₂={ s with heap:=h',toks:=tk }∧SetI w s.heap.objs.size (dedI ns) h'∧
     (∀ b o,s.heap.get? b=some o→h'.get? b=some o)) E) F.called_set.init.plain F.entry_set_init (check_set_init_1 hT ?_)) fun r₂ s₂ hr₂=>?_
   ·obtain ⟨ol,hol,hcl,nl,hdl⟩:=hl
    obtain ⟨ocls,odict,odata,oslots⟩:=ol
    simp only at hcl hdl
    subst hcl;subst hdl
    have hol':(s.heap.push (freshSet w)).get? l=some { cls:=.type "list",dict:=odict,data:=.seq items nl,slots:=oslots }:=Heap.get?_push_of_some _ hol
    have hsls:=F.sub_list_set
    have hslf:=F.sub_list_frozenset
    have hne:(Value.type "list" == Value.type "dict")=false:=by decide
    have hl1:(s.heap.push (freshSet w)).IsList l items:=⟨_,hol',rfl,nl,rfl⟩
    unfold Builtin.«set.__init__» noKeywords Builtin.Frozenset.updateFrom
    generalize hPI:pyIter=PI
    wp_walk
    subst hPI
    refine wpAny_pyIter_list hl1 ?_
    refine wpAny_bind (wpAny_runValue ?_)
    have hlS:l<s.heap.objs.size:=Heap.lt_size hol
    have hh3:A.in1.in1.in1.handled=none:=by simp [hh]
    have hneI:l ≠ (s.heap.push (freshSet w)).objs.size:=by
     rw [Heap.size_push];exact Nat.ne_of_lt (Nat.lt_succ_of_lt hlS)
    have hSf:s.heap.objs.size ∉ [(s.heap.push (freshSet w)).objs.size,l]:=by
     rw [Heap.size_push];simp only [List.mem_cons,List.mem_singleton,List.not_mem_nil,or_false,not_or]
     exact ⟨Nat.ne_of_lt (Nat.lt_succ_self _),Nat.ne_of_gt hlS⟩
    have hval:∀ (i:Nat) (v:Value),items[i]?=some v→∃ t,v=.int (ns.getD i 0) t:=fun i v hv=>
     PyProof.Rows.IntsAre.int_at hi i v (by rw [Array.getElem?_toList];exact hv)
    refine set_update_I ((Walks.list hh3 _ l hneI items).toS) s.heap.objs.size hSf ns hlen h4 hval (items.size - 0) 0 _ (by lia) (Nat.zero_le _)
     ⟨⟨_,Heap.get?_push_size _ rfl,rfl,rfl⟩,(hl1.push _)⟩ ?hS0 ?hR
    case hS0=>exact SetI.fresh (Heap.get?_push_of_some _ hS)
    case hR=>
     intro s' hm hS'
     obtain ⟨h',g',d',tk',os'⟩:=s'
     have eg:g'=s.gens:=hm.gens
     have ed:d'=s.drawn:=hm.drawn
     have eo:os'=s.os:=hm.os
     subst eg;subst ed;subst eo
     show wpAny _ _ _ _ _ _
     refine wpAny_pure ?_
     show wpAny _ _ (ret Value.none) _ _ _
     refine wpAny_pure ⟨rfl,h',tk',rfl,hS',fun b o e=>?_⟩
     have hb:=Heap.lt_size e
     have hb1:b ≠ s.heap.objs.size:=Nat.ne_of_lt hb
     have hb2:b ≠ (s.heap.push (freshSet w)).objs.size:=by
      rw [Heap.size_push];exact Nat.ne_of_lt (Nat.lt_succ_of_lt hb)
     exact hm.heap b o (by simp only [List.mem_cons,List.mem_singleton,List.not_mem_nil,or_false,not_or];exact ⟨hb1,hb2⟩) (Heap.get?_push_of_some _ (Heap.get?_push_of_some _ e))
   ·cases r₂ with
    | error e=>exact hr₂
    | ok fl₂=>
     cases fl₂ with
     | ret r=>
      obtain ⟨rfl,h',tk,rfl,hS',hk'⟩:=hr₂
      repeat (any_goals (first | assumption | wp_step))
      exact h _ _ hS' hk'
     | next=>exact hr₂
     | brk=>exact hr₂
     | cont=>exact hr₂
  | next=>exact hr
  | brk=>exact hr
  | cont=>exact hr
end
end L2
namespace L2
open PySem PySem.Spec PyProof.Rows
theorem slot_si_next:Slot "set_iterator" "__next__" "set_iterator.__next__":=
 .of (owner:="set_iterator") (n:="__next__") (by rw [typeLookup_type,builtinLookup_eq_fast];kernel_rfl) (by decide +kernel) (by decide +kernel) (by decide +kernel)
  (by first | exact .inl (by decide +kernel) | exact .inr (by decide +kernel)) (by rw [isSubtype_type];kernel_rfl)
theorem slot_si_iter:Slot "set_iterator" "__iter__" "set_iterator.__iter__":=
 .of (owner:="set_iterator") (n:="__iter__") (by rw [typeLookup_type,builtinLookup_eq_fast];kernel_rfl) (by decide +kernel) (by decide +kernel) (by decide +kernel)
  (by first | exact .inl (by decide +kernel) | exact .inr (by decide +kernel)) (by rw [isSubtype_type];kernel_rfl)
theorem entry_si_next:entryFor table "set_iterator.__next__" = some Builtin.«set_iterator.__next__»:=entryFor_of_tree (by kernel_rfl)
theorem entry_si_iter:entryFor table "set_iterator.__iter__" = some Builtin.«dict_keyiterator.__iter__»:=
 entryFor_alias (id':="dict_keyiterator.__iter__") (by kernel_rfl) rfl (by decide +kernel) (by kernel_rfl)
theorem entry_set_iter:entryFor table "set.__iter__" = some Builtin.«frozenset.__iter__»:=
 entryFor_alias (id':="frozenset.__iter__") (by kernel_rfl) rfl (by decide +kernel) (by kernel_rfl)
theorem owner_si:Manifest.owners.lookup (String.ofList "set_iterator".toList.reverse.reverse)=some Manifest.sig_set_iterator:=by kernel_rfl
theorem args_si_next (a:Value):argsOk "set_iterator.__next__" ⟨[a],[]⟩:=by
 unfold argsOk;rw [signature?_of (id:="set_iterator.__next__") (n:="__next__".toList.reverse) (o:="set_iterator".toList.reverse) (by kernel_rfl) owner_si];kernel_rfl
theorem args_si_iter (a:Value):argsOk "set_iterator.__iter__" ⟨[a],[]⟩:=by
 unfold argsOk;rw [signature?_of (id:="set_iterator.__iter__") (n:="__iter__".toList.reverse) (o:="set_iterator".toList.reverse) (by kernel_rfl) owner_si];kernel_rfl
noncomputable def walkOf (w:World) (a:Addr) (ep:Nat) (es:Array (Int × Value)):List (Int × Value):=if byT w=true then (pickOrder (w.params.setOrder a ep) es).toList else es.toList
noncomputable def slotOf (w:World) (t:SetTable) (i:Nat):Nat:=if byT w=true then 0 else if i=0 then 0 else t.place.getD (i - 1) 0+1
theorem qCG (w:World) (a:Addr) (ep:Nat) (es:Array (Int × Value)):(walkOf w a ep es).Perm es.toList:=by
 unfold walkOf
 split
 ·exact pick_perm _ _
 ·exact .refl _
theorem T7.below_at {b:Bool} {t:SetTable} {n:Nat} (T:T7 b t n) (i:Nat) (hi:i≤n):SetTable.below t.place (if i=0 then 0 else t.place.getD (i - 1) 0+1)=i:=by
 obtain ⟨b1,b2,b3⟩:=qC9 (j:=if i=0 then 0 else t.place.getD (i - 1) 0+1) T.up
 have hs:=T.size
 have gd:∀ a c d,a<t.place.size→t.place.getD a c=t.place.getD a d:=fun a c d ha=>by
  rw [Array.getD_eq_getD_getElem?,Array.getD_eq_getD_getElem?,Array.getElem?_eq_getElem ha]
  rfl
 by_cases h0:i=0
 ·rw [if_pos h0] at b1 b2 b3 ⊢
  subst h0
  apply Nat.eq_zero_of_not_pos
  intro z
  have:=b2 0 z
  omega
 ·rw [if_neg h0] at b1 b2 b3 ⊢
  have h1:¬ SetTable.below t.place (t.place.getD (i - 1) 0+1)<i:=fun z=>by
   have:=b3 (i - 1) (by omega) (by omega)
   rw [gd (i - 1) (t.place.getD (i - 1) 0+1) 0 (by omega)] at this
   omega
  have h2:¬ i<SetTable.below t.place (t.place.getD (i - 1) 0+1):=fun z=>by
   have q:=b2 i z
   have:=up_of 0 T.up (i - 1) i (by omega) (by omega)
   rw [gd i (t.place.getD (i - 1) 0+1) 0 (by omega)] at q
   omega
  omega
def SetIt (w:World) (a I:Addr) (es:Array (Int × Value)) (ep:Nat) (t:SetTable) (i:Nat) (h:Heap):Prop:=
 (∃ o,h.get? I=some o∧o.cls=.type "set_iterator"∧o.data=.fields #[.int (slotOf w t i) 0,.int i 0,.ref a,.int es.size 0,.int ep 0])∧h.get? a=some { cls:=.type "set",data:=.set es ep t }
section
variable {prog:Program} {w:World} {A:Around} {E:Value→Shared→Prop} {s:Shared} {a I:Addr} {es:Array (Int × Value)} {ep:Nat} {t:SetTable} {i:Nat}
theorem SetIt.typeIs (x:SetIt w a I es ep t i s.heap):s.TypeIs (.ref I) "set_iterator":=let ⟨⟨o,h1,h2,_⟩,_⟩:=x;⟨o,h1,h2⟩
theorem setNext_I {Q:Option (Value × Nat)→Shared→Prop} (T:T7 (byT w) t es.size) (h8:es.size≤7) (ho:s.heap.get? a=some { cls:=.type "set",data:=.set es ep t }) (hi:i≤es.size)
  (h:Q (match (walkOf w a ep es)[i]? with | some e=>some (e.2,slotOf w t (i+1)) | none=>none) s):wpAny (model prog w) A (setNext a (slotOf w t i) i ep) Q E s:=by
 have hf:=T.fits h8
 unfold setNext
 refine wpAny_bind (wpAny_setState_of ho rfl hf ?_)
 dsimp only
 unfold setsByText
 refine wpAny_bind (wpAny_bind (wpAny_askSetting (wpAny_pure ?_)))
 show wpAny _ _ (if byT w=true then _ else _) _ _ _
 cases hb:byT w with
 | true=>
  rw [if_pos rfl]
  simp only [bne_self_eq_false,Bool.false_eq_true,if_false]
  refine wpAny_bind ?_
  unfold setWalk
  refine wpAny_bind (wpAny_setState_of ho rfl hf ?_)
  dsimp only
  unfold setsByText
  refine wpAny_bind (wpAny_bind (wpAny_askSetting (wpAny_pure ?_)))
  show wpAny _ _ (if byT w=true then _ else _) _ _ _
  rw [hb,if_pos rfl]
  refine wpAny_bind (wpAny_askSetting (wpAny_pure (wpAny_pure ?_)))
  have e:walkOf w a ep es=(pickOrder (w.params.setOrder a ep) es).toList:=by unfold walkOf;rw [if_pos hb]
  have e2:∀ j,slotOf w t j=0:=fun j=>by unfold slotOf;rw [if_pos hb]
  rw [e,Array.getElem?_toList,e2] at h
  rw [e2]
  show Q (Option.map _ (pickOrder (w.params.setOrder a ep) es)[i]?) s
  cases hx:(pickOrder (w.params.setOrder a ep) es)[i]? with
  | none=>rw [hx] at h;exact h
  | some v=>rw [hx] at h;exact h
 | false=>
  rw [if_neg (by simp)]
  show wpAny _ _ (if (!t.plain && decide (es.size > 1))=true then _ else _) _ _ _
  rw [T.plain]
  simp only [Bool.not_true,Bool.false_and,Bool.false_eq_true,if_false]
  refine wpAny_bind ?_
  show wpAny _ _ (if (!t.led && !es.isEmpty)=true then _ else _) _ _ _
  rw [T.led,hb]
  simp only [Bool.not_false,Bool.not_true,Bool.false_and,Bool.false_eq_true,if_false]
  refine wpAny_pure (wpAny_pure ?_)
  have e:walkOf w a ep es=es.toList:=by unfold walkOf;rw [if_neg (by rw [hb];simp)]
  have e2:∀ j,slotOf w t j=if j=0 then 0 else t.place.getD (j - 1) 0+1:=fun j=>by unfold slotOf;rw [if_neg (by rw [hb];simp)]
  rw [e,Array.getElem?_toList] at h
  rw [e2,T.below_at i hi]
  cases hx:es[i]? with
  | none=>rw [hx] at h;exact h
  | some v=>
   rw [hx] at h
   have hlt:i<t.place.size:=by rw [T.size];exact (Array.getElem?_eq_some_iff.mp hx).1
   rw [Array.getElem?_eq_getElem hlt]
   dsimp only at h ⊢
   have e3:slotOf w t (i+1)=t.place[i]+1:=by
    rw [e2,if_neg (by omega),Nat.add_sub_cancel,Array.getD_eq_getD_getElem?,Array.getElem?_eq_getElem hlt]
    rfl
   rw [e3] at h
   exact h
theorem si_next {Q:Option Value→Shared→Prop} (T:T7 (byT w) t es.size) (h8:es.size≤7) (hit:SetIt w a I es ep t i s.heap) (hne:a ≠ I) {e:Int × Value} (hx:(walkOf w a ep es)[i]?=some e)
  (hQ:∀ h',SetIt w a I es ep t (i+1) h'→(∀ b o,b ≠ I→s.heap.get? b=some o→h'.get? b=some o)→Q (some e.2) { s with heap:=h' }):wpAny (model prog w) A (pyNext (.ref I)) Q E s:=by
 obtain ⟨⟨o,ho,hc,hd⟩,hs⟩:=id hit
 have hi:i<es.size:=by
  have:=(List.getElem?_eq_some_iff.mp hx).1
  rw [(qCG w a ep es).length_eq,Array.length_toList] at this
  exact this
 unfold pyNext
 refine wpAny_bind (wpAny_attempt (wpAny_callSpecial?_slot (name:=Str.ofString "__next__") hit.typeIs slot_si_next (wpAny_call_entry slot_si_next hit.typeIs entry_si_next ?_ (args_si_next _))))
 unfold Builtin.«set_iterator.__next__»
 refine wpAny_bind (wpAny_pure ?_)
 refine wpAny_bind (wpAny_fieldsOf ho hd ?_)
 dsimp only
 unfold setEntries
 refine wpAny_bind (wpAny_bind (wpAny_setState_of hs rfl (T.fits h8) (wpAny_pure ?_)))
 rw [if_neg (by simp)]
 simp only [Int.toNat_natCast]
 refine wpAny_bind (setNext_I T h8 hs (Nat.le_of_lt hi) ?_)
 rw [hx]
 dsimp only
 show wpAny _ _ (setField (.ref I) 0 (rawInt _) >>= _) _ _ s
 refine wpAny_bind (wpAny_setField ho hd (by simp) ?_)
 have g1:=Heap.get?_update_self (Obj.mapFields (·.setIfInBounds 0 (rawInt ((slotOf w t (i+1):Nat):Int)))) ho (Obj.isFreed_of_fields (Obj.data_mapFields hd _))
 have d1:=Obj.data_mapFields hd (·.setIfInBounds 0 (rawInt ((slotOf w t (i+1):Nat):Int)))
 refine wpAny_bind (wpAny_setField g1 d1 (by simp) ?_)
 have g2:=Heap.get?_update_self (Obj.mapFields (·.setIfInBounds 1 (rawInt ((i:Int)+1)))) g1 (Obj.isFreed_of_fields (Obj.data_mapFields d1 _))
 have d2:=Obj.data_mapFields d1 (·.setIfInBounds 1 (rawInt ((i:Int)+1)))
 refine wpAny_pure ⟨_,rfl,wpAny_pure (hQ _ ⟨⟨_,g2,(Obj.cls_mapFields ..).trans ((Obj.cls_mapFields ..).trans hc),?_⟩,?_⟩ fun b o' hb e=>?_)⟩
 ·rw [d2]
  simp [rawInt]
 ·exact (Heap.get?_update_other _ _ (Ne.symm hne)).trans ((Heap.get?_update_other _ _ (Ne.symm hne)).trans hs)
 ·exact (Heap.get?_update_other _ _ (Ne.symm hb)).trans ((Heap.get?_update_other _ _ (Ne.symm hb)).trans e)
theorem si_end {Q:Option Value→Shared→Prop} (hh:A.handled=none) (T:T7 (byT w) t es.size) (h8:es.size≤7) (hit:SetIt w a I es ep t es.size s.heap)
  (hQ:∀ h',(∀ b o,b ≠ I→s.heap.get? b=some o→h'.get? b=some o)→Q none { s with heap:=h' }):wpAny (model prog w) A (pyNext (.ref I)) Q E s:=by
 obtain ⟨⟨o,ho,hc,hd⟩,hs⟩:=id hit
 unfold pyNext
 refine wpAny_bind (wpAny_attempt (wpAny_callSpecial?_slot (name:=Str.ofString "__next__") hit.typeIs slot_si_next (wpAny_call_entry slot_si_next hit.typeIs entry_si_next ?_ (args_si_next _))))
 unfold Builtin.«set_iterator.__next__»
 refine wpAny_bind (wpAny_pure ?_)
 refine wpAny_bind (wpAny_fieldsOf ho hd ?_)
 dsimp only
 unfold setEntries
 refine wpAny_bind (wpAny_bind (wpAny_setState_of hs rfl (T.fits h8) (wpAny_pure ?_)))
 rw [if_neg (by simp)]
 simp only [Int.toNat_natCast]
 have hx:(walkOf w a ep es)[es.size]?=none:=List.getElem?_eq_none (by rw [(qCG w a ep es).length_eq,Array.length_toList];exact Nat.le_refl _)
 refine wpAny_bind (setNext_I T h8 hs (Nat.le_refl _) ?_)
 rw [hx]
 dsimp only
 show wpAny _ _ (setField (.ref I) 2 .none >>= _) _ _ s
 refine wpAny_bind (wpAny_setField ho hd (by simp) ?_)
 show wpAny _ _ (newExc (.type "StopIteration") [] >>= _) _ _ _
 refine wpAny_bind ?_
 simp only [newExc,newTuple]
 refine wpAny_bind (wpAny_newObj_type ?_ (by size_fits))
 refine wpAny_bind (m:=firstArgMember _ _) (wpAny_of_eq (a:=Value.none) (by first | rfl | (simp only [firstArgMember];rfl)) ?_)
 refine wpAny_newObj_type ?_ (by size_fits)
 simp only [raiseNew]
 refine wpAny_bind (wpAny_handled ?_)
 rw [show A.in1.handled=none from hh]
 refine wpAny_bind (wpAny_pure (wpAny_throw ?_))
 refine wpAny_bind (wpAny_isInstance (T:="StopIteration") (b:=true) ⟨_,Heap.get?_push_size _ rfl,rfl⟩ isSubtype_stop ?_)
 exact wpAny_pure (hQ _ (((Heap.SameBut.update ..).extBut.push _).push _))
theorem si_self {Q:Value→Shared→Prop} (hit:SetIt w a I es ep t i s.heap) (h:Q (.ref I) s):wpAny (model prog w) A (pyIter (.ref I)) Q E s:=by
 refine wpAny_pyIter_slot hit.typeIs slot_si_iter (wpAny_call_entry slot_si_iter hit.typeIs entry_si_iter ?_ (args_si_iter _))
 show wpAny _ _ (ret (.ref I)) _ _ s
 exact wpAny_pure ⟨_,rfl,"set_iterator",_,hit.typeIs,slot_si_next.lookup,h⟩
theorem si_new {Q:Value→Shared→Prop} (T:T7 (byT w) t es.size) (h8:es.size≤7) (hs:s.heap.get? a=some { cls:=.type "set",data:=.set es ep t })
  (hQ:Q (.ref s.heap.objs.size) { s with heap:=s.heap.push { cls:=.type "set_iterator",data:=.fields #[.int 0 0,.int 0 0,.ref a,.int es.size 0,.int ep 0] } }):wpAny (model prog w) A (pyIter (.ref a)) Q E s:=by
 have hT:s.TypeIs (.ref a) "set":=⟨_,hs,rfl⟩
 have hf:=T.fits h8
 refine wpAny_pyIter_slot hT F.slot_set_iter (wpAny_call_entry F.slot_set_iter hT entry_set_iter ?_ (F.args_set_iter_1 _))
 unfold Builtin.«frozenset.__iter__» Builtin.Frozenset.slot0 Builtin.Frozenset.sizeOf setEntries
 refine wpAny_bind (wpAny_bind (wpAny_pure ?_))
 show wpAny _ _ (pure a) _ _ s
 refine wpAny_pure ?_
 refine wpAny_bind (wpAny_bind (wpAny_bind (wpAny_setState_of hs rfl hf (wpAny_pure (wpAny_pure ?_)))))
 unfold setDrawn setsByText
 refine wpAny_bind (wpAny_bind (wpAny_setState_of hs rfl hf ?_))
 dsimp only
 refine wpAny_bind (wpAny_bind (wpAny_askSetting (wpAny_pure (wpAny_pure ?_))))
 show wpAny _ _ (if (!byT w && (!t.plain && decide (es.size > 1)))=true then _ else _) _ _ _
 rw [T.plain]
 simp only [Bool.not_true,Bool.false_and,Bool.and_false,Bool.false_eq_true,if_false]
 refine wpAny_bind (wpAny_pure ?_)
 unfold setEpoch
 refine wpAny_bind (wpAny_bind (wpAny_setState_of hs rfl hf (wpAny_pure ?_)))
 refine wpAny_bind (wpAny_newObj_type (wpAny_pure ⟨_,rfl,"set_iterator",_,⟨_,Heap.get?_push_size _ rfl,rfl⟩,slot_si_next.lookup,?_⟩))
 simpa [rawInt] using hQ
theorem si_hint {Q:Bool→Shared→Prop} (hT:s.TypeIs (.ref a) "set") (h:Q false s):wpAny (model prog w) A (Builtin.List.listLengthHint (.ref a)) Q E s:=by
 unfold Builtin.List.listLengthHint
 refine wpAny_bind (wpAny_specialOf hT PySem.F.slot_set_len.lookup ?_)
 generalize hid:("set.__len__" : String)=id0
 wp_delta
 rw [show splitId id0=some ("set","__len__") from by subst hid;decide +kernel]
 subst hid
 refine wpAny_bind (wpAny_isInstance (T:="set") (b:=true) hT (by rw [isSubtype_type];kernel_rfl) ?_)
 refine wpAny_ite_split (fun hab=>absurd hab (by decide)) (fun _=>?_)
 refine wpAny_ite_split (fun _=>?_) (fun hab=>absurd (by decide +kernel) hab)
 refine wpAny_bind (wpAny_typeOf hT ?_)
 exact wpAny_pure h
theorem si_src (T:T7 (byT w) t es.size) (h8:es.size≤7):PySem.W.KdlSrc prog w "set" a a es.size (fun i v=>∃ e,(walkOf w a ep es)[i]?=some e∧v=e.2) (fun h=>h.get? a=some { cls:=.type "set",data:=.set es ep t }) where
 type:=fun s h=>⟨_,h,rfl⟩
 there:=fun h x=>⟨Heap.lt_size x,Heap.lt_size x⟩
 keep:=fun h h' x k=>k a (.inl rfl) _ x
 notList:=by decide
 notTuple:=by decide
 hint:=fun A E s Q x q=>si_hint ⟨_,x,rfl⟩ q
 iter:=fun A s hh x=>by
  have hne:a ≠ s.heap.objs.size:=Nat.ne_of_lt (Heap.lt_size x)
  refine ⟨_,fun i h=>SetIt w a s.heap.objs.size es ep t i h,fun E Q q=>si_new T h8 x q,?_,⟨⟨_,Heap.get?_push_size _ rfl,rfl,?_⟩,Heap.get?_push_of_some _ x⟩⟩
  ·refine ⟨fun b hb=>?_,fun i h h' st k=>?_,fun i s' Q E hi st q=>?_,fun s' Q E st q=>?_,fun i s' Q E st q=>si_self st q⟩
   ·have e:b=s.heap.objs.size:=by simpa using hb
    simp [e]
   ·obtain ⟨⟨o,h1,h2,h3⟩,h4⟩:=st
    exact ⟨⟨o,k _ (by simp) _ h1,h2,h3⟩,k _ (by simp) _ h4⟩
   ·have hl:i<(walkOf w a ep es).length:=by rw [(qCG w a ep es).length_eq,Array.length_toList];exact hi
    refine si_next T h8 st hne (List.getElem?_eq_getElem hl) fun h' st' k=>?_
    exact q _ h' s'.toks ⟨_,List.getElem?_eq_getElem hl,rfl⟩ st' fun b o hb e=>k b o (fun z=>hb (by simp [z])) e
   ·refine si_end hh T h8 st fun h' k=>?_
    exact q h' s'.toks fun b o hb e=>k b o (fun z=>hb (by simp [z])) e
  ·unfold slotOf
   split <;> rfl
end
end L2
namespace L2
open PySem PySem.Spec PyProof.Rows
theorem qBT {ns:List Int}:∀ {us:List Value},Vals (ns.map V.int) us→IntsAre us ns:=by
 induction ns with
 | nil=>intro us h;cases h;exact .nil
 | cons n r ih=>
  intro us h
  cases h with
  | cons r1 r2=>
   obtain ⟨t,rfl⟩:=r1
   exact IntsAre.cons _ _ (ih r2)
theorem vals_of_ints:∀ {us:List Value} {ns:List Int},IntsAre us ns→Vals (ns.map V.int) us:=vals_ints
section
variable {X:Cx}
def SetO (w:World) (a:Addr) (zs:List Int):HO:=.ext (SetI w a zs)
theorem call_set (hc:X.calm=true):CallR X (.type "set") (fun xs H Q=>∃ p ns,xs=[.ref p]∧SqL X.K H p (ns.map V.int)∧ns.length≤4∧∀ a,H a=none→Q (.ref a) (upd H a (SetO X.w a (dedI ns)))):=by
 intro pins s σ H xs us Q I r h
 obtain ⟨p,ns,rfl,hq,h4,q⟩:=h
 obtain ⟨u,rfl,rx⟩:=vals1 r
 cases rx
 obtain ⟨its,rv,pl,hz⟩:=I.list hq
 have hlen:=rv.length
 rw [List.length_map] at hlen
 refine call_set_I (ns:=ns) (I.ok.hd hc) pl.isList (by simpa using qBT rv) (by simp;lia) fun h' tk hS hk=>?_
 refine ⟨.ref s.heap.objs.size,_,I.laid (t':=tk) hk (Nat.le_refl _) ?_,rfl,q _ (I.hok.fresh (Nat.le_refl _))⟩
 obtain ⟨es,ep,t,ks,e,_⟩:=id hS
 exact ⟨hS,⟨_,e⟩,fun h1 h2 x k=>x.at k⟩
theorem Inv.track {pins:List (Addr × Obj)} {s:Shared} {σ:St} {H:Hp} {T:Addr} {o:HO} (I:Inv X pins σ H s) (h0:H T=none) (h1:X.s₀.heap.objs.size≤T) (h2:T ≠ X.env.locals) (h3:∀ x c,X.env.cells.lookup x=some c→c ≠ T) (h4:∀ p ∈ X.pn++pins,p.1 ≠ T)
  (new:ObjOk X.prog X.w (upd H T o) s.heap T o):Inv X pins σ (upd H T o) s:=by
 have old:∀ b ob,X.s₀.heap.get? b=some ob→b ≠ T:=fun b ob e=>Nat.ne_of_lt (Nat.lt_of_lt_of_le (Heap.lt_size e) h1)
 have some':∀ b u,H b=some u→(upd H T o) b=some u:=fun b u e=>by rw [qA7 (qA2 e h0)];exact e
 refine ⟨I.ok,I.os,I.bare,⟨I.base.keep,I.base.slot,fun b ob e n hx=>?_,I.base.there,fun b xs e=>some' _ _ (I.base.tups b xs e),fun b ob u e=>some' _ _ (I.base.frzs b ob u e),fun b ps e=>?_⟩,I.loc,I.cell,?_,fun x c e=>?_,fun p hp=>?_,fun b u e=>?_,I.len⟩
 ·rw [qA7 (old b ob e)];exact I.base.free b ob e n hx
 ·exact some' _ _ (I.base.tbls b ps e)
 ·rw [qA7 (Ne.symm h2)];exact I.free
 ·rw [qA7 (h3 x c e)];exact I.freeC x c e
 ·obtain ⟨e1,n,r⟩:=I.pin p hp
  exact ⟨e1,by rw [qA7 (h4 p hp)];exact n,r⟩
 ·by_cases hb:b=T
  ·subst hb
   rw [qA1] at e
   cases e
   exact new
  ·rw [qA7 hb] at e
   exact (I.hok b u e).stay (fun c v _ q=>q) (fun c q=>some' _ _ q) (fun c ys q=>some' _ _ q) fun c t q=>some' _ _ q
theorem sort_new {pins:List (Addr × Obj)} {s:Shared} {σ:St} {H:Hp} {Q:VK} {A:Around} {E:Value→Shared→Prop} {vs:List Value} {ns:List Int} {D:Addr} (I:Inv X pins σ (upd H D (.lst (ns.map V.int))) s) (hD:H D=none) (h64:ns.length<64)
  (q:∀ ns':List Int,ns'.Perm ns→ns'.Pairwise (·≤·)→Q (.ref D) (upd H D (.lst (ns'.map V.int)))) :
  wpAny (model X.prog X.w) A (call (.builtin "list.sort") [.ref D]) (fun _ s'=>EP X pins σ Q (.ref D) s') E s:=by
 obtain ⟨z,its,n,rv,hl,e⟩:=I.lstM qA1
 have hI:=qBT rv
 have hlen:=rv.length
 rw [List.length_map] at hlen
 refine wpAny_call_entry slot_list_sort ⟨_,e,rfl⟩ entry_list_sort (list_sort_tree (ns:=ns) (n:=n) e hI (by lia) fun out ns' a1 a2 a3=>⟨_,rfl,?_⟩) (args_list_sort _)
 have hat:=sortedHeap_at (vs:=its) (out:=out) e
 obtain ⟨e2,hat⟩:=hat
 refine ⟨.ref D,upd H D (.lst (ns'.map V.int)),?_,rfl,q ns' a2 a3⟩
 have hu:upd (upd H D (.lst (ns.map V.int))) D (.lst (ns'.map V.int))=upd H D (.lst (ns'.map V.int)):=upd_upd
 rw [← hu]
 refine I.write (x:=D) (e:=D) (t':=s.toks) (by rw [qA1];exact trivial) (.inl rfl) (fun b u hb hbu=>?_) ⟨_,hat⟩ ?_
 ·rw [sortedHeap_old hb (Heap.lt_size hbu)];exact hbu
 ·refine ⟨?_,out.toList,e2,vals_of_ints a1,by simpa using hat⟩
  rw [List.length_map,a2.length_eq,← List.length_map (f:=V.int)]
  exact z
theorem newList_ok {pins:List (Addr × Obj)} {s:Shared} {σ:St} {H:Hp} {vs:List Value} {ns:List Int} (I:Inv X pins σ H s) (hv:IntsAre vs ns) (hz:ns.length≤sizeLine) :
  Inv X pins σ (upd H s.heap.objs.size (.lst (ns.map V.int))) { s with heap:=s.heap.push { cls:=.type "list",data:=.seq vs.toArray } }:=
 I.lnew (t':=s.toks) (vals_of_ints hv) (by rw [List.length_map];exact hz)
theorem qD6 (hc:X.calm=true):CallR X (.builtin "sorted") (fun xs H Q=>∃ p ns,xs=[.ref p]∧(SqL X.K H p (ns.map V.int)∨SqT X.K H p (ns.map V.int)∨H p=some (SetO X.w p ns))∧ns.length<64∧
  ∀ (a:Addr) (ns':List Int),H a=none→ns'.Perm ns→ns'.Pairwise (·≤·)→Q (.ref a) (upd H a (.lst (ns'.map V.int)))):=by
 intro pins s σ H xs us Q I r h
 obtain ⟨p,ns,rfl,hq,h64,q⟩:=h
 obtain ⟨u,rfl,rx⟩:=vals1 r
 cases rx
 refine Calls.call_function_entry kind_sorted plain_sorted entry_sorted (args_sorted1 _) ?_
 unfold Builtin.«sorted»
 refine wpAny_bind (m:=checkCount "sorted" 1 1 _) (wpAny_pure ?_)
 have fin:∀ (s1:Shared) (vs:List Value) (zs:List Int),Inv X pins σ H s1→IntsAre vs zs→zs.Perm ns→wpAny (model X.prog X.w) X.A.in1 (do
   let l ← newList vs
   let _ ← holding [l] (call (.builtin "list.sort") [l] [])
   ret l) (fun fin s'=>∃ r,fin=.done (.ret r)∧EP X pins σ Q r s') X.xe s1:=by
  intro s1 vs zs I1 hv hp
  have hlen:=IntsAre.length hv
  have hz:zs.length≤sizeLine:=by rw [hp.length_eq,sizeLine_eq];lia
  refine wpAny_bind (wpAny_newList ?_ (by rw [hlen];exact hz))
  have hf:=I1.hok.fresh (Nat.le_refl s1.heap.objs.size)
  refine wpAny_bind (wpAny_holding (wpAny_mono (sort_new (E:=X.xe) (vs:=vs) (newList_ok I1 hv hz) hf (by rw [hp.length_eq];exact h64) fun ns' a b=>q _ ns' hf (a.trans hp) b) (fun _ s' x=>?_) fun _ _ e=>e))
  exact wpAny_pure ⟨_,rfl,x⟩
 rcases hq with hq | hq | hq
 ·obtain ⟨its,rv,pl,hz⟩:=I.list hq
  obtain ⟨o,ho,hc',n,hd⟩:=pl.isList
  have hlen:=rv.length
  refine wpAny_bind (wpAny_collect_seq p (.inl rfl) ho hc' hd (fun h' hk=>?_) (by simp;lia))
  exact fin _ _ ns (I.kept (t':=s.toks) hk) (by simpa using qBT rv) (.refl _)
 ·obtain ⟨its,rv,pl,hz⟩:=I.tuple hq
  obtain ⟨o,ho,hc',n,hd⟩:=pl
  have hlen:=rv.length
  refine wpAny_bind (wpAny_collect_seq p (.inr rfl) ho hc' hd (fun h' hk=>?_) (by simp;lia))
  exact fin _ _ ns (I.kept (t':=s.toks) hk) (by simpa using qBT rv) (.refl _)
 ·obtain ⟨hS,_,_⟩:=(show ObjOk X.prog X.w H s.heap p (.ext (SetI X.w p ns)) from I.hok p _ hq)
  obtain ⟨es,ep,t,ks,e,T,he,hp,hnd,h4⟩:=hS
  have hsz:es.size=ns.length:=SetI.size (a:=p) (h:=s.heap) he hp
  obtain ⟨ks',h1,h2⟩:=he.perm (qCG X.w p ep es)
  refine wpAny_bind (PySem.W.kdu_collect (A:=X.A.in1) (si_src (ep:=ep) T (by lia)) (I.ok.hd hc) e (by rw [hsz,sizeLine_eq];lia) fun h' tk acc hk hacc=>?_)
  refine fin _ _ ks' (I.kept (t':=tk) hk) ?_ (h2.trans hp)
  obtain ⟨l1,l2⟩:=hacc
  have key:∀ {ks:List Int} {l:List (Int × Value)},Ents ks l→∀ vs:List Value,vs.length=l.length→(∀ (i:Nat) (v:Value),vs[i]?=some v→∃ e:Int × Value,l[i]?=some e∧v=e.2)→IntsAre vs ks:=by
   intro ks l h
   induction h with
   | nil=>
    intro vs hl _
    have:vs=[]:=List.length_eq_zero_iff.mp hl
    subst this
    exact .nil
   | cons r t ih=>
    intro vs hl hv
    cases vs with
    | nil=>simp at hl
    | cons v vs=>
     obtain ⟨tk,rfl⟩:=r
     obtain ⟨e,he,rfl⟩:=hv 0 v rfl
     simp at he
     subst he
     exact IntsAre.cons _ _ (ih vs (by simpa using hl) fun i v hi=>by simpa using hv (i+1) v (by simpa using hi))
  refine key h1 acc.toList ?_ fun i v hi=>l2 i v (by rw [← Array.getElem?_toList];exact hi)
  rw [Array.length_toList,l1,(qCG X.w p ep es).length_eq,Array.length_toList]
end
end L2
namespace L2
open PySem PySem.Spec PyProof.Rows
section
variable {X:Cx}
noncomputable def rangeV (lo hi:Int):List V:=(List.range (hi - lo).toNat).map fun (i:Nat)=>V.int (lo+i)
theorem call_rng2:CallR X (.type "range") (fun xs H Q=>∃ i j,xs=[.int i,.int j]∧∀ p,H p=none→Q (.ref p) (upd H p (.rng i j))):=by
 intro pins s σ H xs us Q I r h
 obtain ⟨i,j,rfl,q⟩:=h
 obtain ⟨u,v,rfl,⟨t,rfl⟩,⟨t',rfl⟩⟩:=vals2 r
 refine call_range_2 ⟨.ref s.heap.objs.size,_,I.laid (fun b o e=>Heap.get?_push_of_some _ e) (Nat.le_refl _) ?_,rfl,q _ (I.hok.fresh (Nat.le_refl _))⟩
 exact ⟨_,_,_,Heap.get?_push_size _ rfl⟩
theorem rng_vals {lo hi:Int} {n:Nat} {acc:List Value} (hn:n=(hi - lo).toNat) (hl:acc.length=n) (h:∀ (i:Nat) (v:Value),acc[i]?=some v→∃ t,v=.int (lo+i * 1) t):Vals (rangeV lo hi) acc:=by
 have key:∀ (m:Nat) (acc:List Value),acc.length=m→∀ lo:Int,(∀ (i:Nat) (v:Value),acc[i]?=some v→∃ t,v=.int (lo+i) t)→Vals ((List.range m).map fun (i:Nat)=>V.int (lo+i)) acc:=by
  intro m
  induction m with
  | zero=>
   intro acc hl lo h
   have:acc=[]:=List.length_eq_zero_iff.mp hl
   subst this
   exact .nil
  | succ m ih=>
   intro acc hl lo h
   cases acc with
   | nil=>simp at hl
   | cons v acc=>
    rw [List.range_succ_eq_map,List.map_cons,List.map_map]
    have h0:=h 0 v rfl
    refine .cons h0 ?_
    have h1:=ih acc (by simpa using hl) (lo+1) fun i v hi=>by
     have:=h (i+1) v (by simpa using hi)
     obtain ⟨t,e⟩:=this
     refine ⟨t,?_⟩
     rw [e]
     congr 1
     push_cast
     lia
    have e:((fun (i:Nat)=>V.int (lo+i)) ∘ Nat.succ)=fun (i:Nat)=>V.int (lo+1+i):=by
     funext i
     simp only [Function.comp]
     congr 1
     push_cast
     lia
    rw [e]
    exact h1
 unfold rangeV
 rw [← hn]
 refine key n acc hl lo fun i v hi=>?_
 obtain ⟨t,e⟩:=h i v hi
 exact ⟨t,by rw [e,Int.mul_one]⟩
theorem rangeV_len (lo hi:Int):(rangeV lo hi).length=(hi - lo).toNat:=by unfold rangeV;simp
theorem rsize {lo hi:Int}:Builtin.Range.rangeSize lo hi 1=((hi - lo).toNat:Nat):=by rw [rangeSize_one];split <;> lia
theorem collect_range {prog:Program} {w:World} {A:Around} {E:Value→Shared→Prop} {s:Shared} {R:List Value→Shared→Prop} {r:Addr} {a b:Int} {t u v:Tok} {n:Nat} (hh:A.handled=none) (hr:IsRange s.heap r a b 1 t u v) (hsmall:Builtin.Range.small a b 1=true)
  (hn:Builtin.Range.rangeSize a b 1=n) (hlen:n≤2 ^ 24)
  (h:∀ (h':Heap) (tk:Nat) (acc:Array Value),(∀ b o,s.heap.get? b=some o→h'.get? b=some o)→ItemsOf (fun i v=>∃ t,v=.int (a+i * 1) t) acc n→R acc.toList { s with heap:=h',toks:=tk }) :
  wpAny (model prog w) A (collect (.ref r)) R E s:=by
 unfold collect
 refine wpAny_bind (wpAny_runValue (codeAny_builtin entry_proto_collect' ?_))
 rw [Around.under_plainId PySem.F.plain_proto_collect _]
 show wpAny _ A.in1 (newList [] >>= fun l=>again (.builtin "list.__iadd__" ⟨[l,.ref r],[]⟩)) _ _ s
 refine wpAny_bind (wpAny_newObj_type ?_)
 refine wpAny_pure ⟨plainId_quiet PySem.F.plain_list_iadd _,codeAny_builtin entry_list_iadd' ?_⟩
 rw [Around.under_plainId PySem.F.plain_list_iadd _]
 have hS₁:(s.heap.push { cls:=.type "list",data:=.seq ([]:List Value).toArray }).get? s.heap.objs.size=some { cls:=.type "list",data:=.seq #[] }:=Heap.get?_push_size _ rfl
 show wpAny _ A.in1 (Builtin.List.listExtendWith (.ref s.heap.objs.size) (.ref r) (.ref s.heap.objs.size)) _ _ _
 have key:=wpAny_extend_range (prog:=prog) (w:=w) (A:=A) (s:={ s with heap:=s.heap.push { cls:=.type "list",data:=.seq ([]:List Value).toArray } })
  (R:=fun (q:Result) (s':Shared)=>∃ (h':Heap) (tk:Nat) (acc':Array Value) (c':Nat),q=.ok (.ret (.ref s.heap.objs.size))∧s'={ s with heap:=h',toks:=tk }∧
   (∀ b o,s.heap.get? b=some o→h'.get? b=some o)∧h'.get? s.heap.objs.size=some { cls:=.type "list",dict:=none,data:=.seq acc' c',slots:=#[] }∧ItemsOf (fun i v=>∃ t,v=.int (a+i * 1) t) acc' n)
  hh (Heap.get?_push_of_some _ hr) hsmall hn hlen s.heap.objs.size (.ref s.heap.objs.size) 0 hS₁
  (fun h' tk acc' c' hk hS' hacc=>⟨h',tk,acc',c',rfl,rfl,fun b o e=>hk b o (Nat.ne_of_lt (Heap.lt_size e)) (Heap.get?_push_of_some _ e),hS',hacc⟩)
 refine wpAny_mono key (fun fin s' x=>?_) fun e s' x=>?_
 ·cases fin with
  | done f=>
   obtain ⟨h',tk,acc',c',e,rfl,hk,hS',hacc⟩:=x
   cases e
   show wpAny _ A (load s.heap.objs.size >>= _) _ _ _
   refine wpAny_bind (wpAny_load hS' ?_)
   exact wpAny_pure (h h' tk acc' hk hacc)
  | again c₁=>
   refine ⟨x.1,codeAny_mono x.2 fun q s₂ y=>?_⟩
   obtain ⟨h',tk,acc',c',rfl,rfl,hk,hS',hacc⟩:=y
   show wpAny _ A (load s.heap.objs.size >>= _) _ _ _
   refine wpAny_bind (wpAny_load hS' ?_)
   exact wpAny_pure (h h' tk acc' hk hacc)
 ·obtain ⟨_,_,_,_,e',_⟩:=x
  cases e'
theorem tuple_range {prog:Program} {w:World} {A:Around} {E:Value→Shared→Prop} {s:Shared} {Q:Value→Shared→Prop} {r:Addr} {a b:Int} {t u v:Tok} {n:Nat} (hh:A.handled=none) (hr:IsRange s.heap r a b 1 t u v) (hsmall:Builtin.Range.small a b 1=true)
  (hn:Builtin.Range.rangeSize a b 1=n) (hlen:n≤2 ^ 24)
  (h:∀ (h':Heap) (tk:Nat) (acc:Array Value),(∀ b o,s.heap.get? b=some o→h'.get? b=some o)→ItemsOf (fun i v=>∃ t,v=.int (a+i * 1) t) acc n→Q (.ref h'.objs.size) { s with heap:=h'.push { cls:=.type "tuple",data:=.seq acc },toks:=tk }) :
  wpAny (model prog w) A (call (.type "tuple") [.ref r]) Q E s:=by
 have hcode:codeAny (model prog w) A.in1 (.call (.builtin "tuple.__new__") ⟨[.type "tuple",.ref r],[]⟩) (wants (fun obj s₁=>s₁.TypeIs obj "tuple"∧Q obj s₁) E) s:=by
  refine codeAny_of_tree ?_
  show wpAny _ A.in1.in1 (do checkBuiltinCall "tuple.__new__" ⟨[.type "tuple",.ref r],[]⟩;again (.builtin "tuple.__new__" ⟨[.type "tuple",.ref r],[]⟩)) _ _ s
  refine wpAny_bind (wpAny_of_eq (F.newCall_tuple_1 _) (wpAny_pure ⟨plainId_quiet F.plain_tuple_new _,codeAny_builtin F.entry_tuple_new ?_⟩))
  rw [Around.under_plainId F.plain_tuple_new _]
  have hsub:=sub_tuple_self
  have hinit:=init_tuple_lookup
  have hmh:=madeHere_tuple
  have hTI:s.TypeIs (.ref r) "range":=⟨_,hr,rfl⟩
  wp_walk using wpAny_typeOf hTI,collect_range (prog:=prog) (w:=w) (A:=A.in1.in1) hh hr hsmall hn hlen
  intro h' tk acc hk hacc
  show wpAny _ _ (Builtin.Tuple.tupleExact acc.toList.toArray >>= fun v=>ret v) _ _ _
  unfold Builtin.Tuple.tupleExact
  refine wpAny_bind (wpAny_newObj_type ?_ (by show acc.toList.toArray.size≤sizeLine;simp only [Array.toArray_toList];rw [hacc.1,sizeLine_eq];lia))
  refine wpAny_pure ?_
  have e:acc.toList.toArray=acc:=by simp
  rw [e]
  exact ⟨⟨_,Heap.get?_push_size _ rfl,rfl⟩,h h' tk acc hk hacc⟩
 refine callType_codes (Q₁:=fun obj s₁=>s₁.TypeIs obj "tuple"∧Q obj s₁) F.called_tuple (F.typeCall_tuple_1 _) F.entry_object_init hcode fun obj s₁ h₁=>?_
 exact ⟨h₁.1,F.args_object_init_2 obj _,object_init_meets F.called_tuple.init.lookup F.called_tuple.made (by decide) prog w A.in1 _ s₁ ⟨h₁.1,rfl,h₁.2⟩⟩
theorem call_tuple_rng (hc:X.calm=true):CallR X (.type "tuple") (fun xs H Q=>∃ p lo hi,xs=[.ref p]∧H p=some (.rng lo hi)∧-1000000≤lo∧lo≤1000000∧-1000000≤hi∧hi≤1000000∧∀ l,H l=none→Q (.ref l) (upd H l (.tup (rangeV lo hi)))):=by
 intro pins s σ H xs us Q I r h
 obtain ⟨p,lo,hi,rfl,hp,l1,l2,l3,l4,q⟩:=h
 obtain ⟨u,rfl,rx⟩:=vals1 r
 cases rx
 obtain ⟨t,u,v,e⟩:=(show ∃ t u v,s.heap.get? p=some { cls:=.type "range",data:=.fields #[.int lo t,.int hi u,.int 1 v] } from I.hok p _ hp)
 refine tuple_range (n:=(hi - lo).toNat) (I.ok.hd hc) (show IsRange s.heap p lo hi 1 t u v from e) (small_one (by lia) (by lia) (by lia) (by lia)) rsize (by lia) fun h' tk acc hk hacc=>?_
 obtain ⟨a1,a2⟩:=hacc
 have I1:Inv X pins σ H { s with heap:=h',toks:=tk }:=I.kept hk
 refine ⟨.ref h'.objs.size,_,I1.laid (t':=tk) (fun b o e=>Heap.get?_push_of_some _ e) (Nat.le_refl _) (show ObjOk X.prog X.w _ _ _ (.tup (rangeV lo hi)) from ⟨?_,acc.toList,rng_vals rfl (by simpa using a1) fun i v hi=>a2 i v (by rw [← Array.getElem?_toList];exact hi),?_⟩),rfl,q _ (I1.hok.fresh (Nat.le_refl _))⟩
 ·rw [rangeV_len,sizeLine_eq]
  lia
 ·have:=IsTup.new h' acc
  simpa using this
theorem range_all':∀ (bs:List Bool),((List.range bs.length).all fun i=>(bs[i]?).getD true)=bs.all id:=by
 intro bs
 rw [Bool.eq_iff_iff,List.all_eq_true,List.all_eq_true]
 constructor
 ·intro h b hb
  obtain ⟨i,hi,e⟩:=List.mem_iff_getElem.mp hb
  have:=h i (List.mem_range.mpr hi)
  rw [List.getElem?_eq_getElem hi,e] at this
  exact this
 ·intro h i hi
  have hi':=List.mem_range.mp hi
  rw [List.getElem?_eq_getElem hi']
  exact h _ (List.getElem_mem hi')
theorem call_all (hc:X.calm=true):CallR X (.builtin "all") (fun xs H Q=>∃ (p:Addr) (bs:List Bool),xs=[.ref p]∧SqL X.K H p (bs.map V.bl)∧Q (.bl (bs.all id)) H):=by
 intro pins s σ H xs us Q I r h
 obtain ⟨p,bs,rfl,hq,q⟩:=h
 obtain ⟨u,rfl,rx⟩:=vals1 r
 cases rx
 obtain ⟨its,rv,pl,hz⟩:=I.list hq
 have hl:=pl.isList
 have hlt:p<s.heap.objs.size:=by obtain ⟨_,e,_⟩:=hl;exact Heap.lt_size e
 have hlen:=rv.length
 rw [List.length_map] at hlen
 refine call_all_walk (wpAny_pyIter_list hl ?_)
 refine ⟨s.heap.objs.size,[s.heap.objs.size,p],[s.heap.objs.size],its.toArray.size,_,_,fun i=>(bs[i]?).getD true,rfl,Walks.list (A:=X.A.in1) (I.ok.hd hc) _ p (Nat.ne_of_lt hlt) its.toArray,
  ⟨⟨_,Heap.get?_push_size _ rfl,rfl,rfl⟩,hl.push _⟩,fun i v s' Q' E' hP hQ=>?_,fun h' tk hk=>?_⟩
 ·have hP':its[i]?=some v:=by simpa using hP
  have hi:i<bs.length:=by rw [hlen];exact (List.getElem?_eq_some_iff.mp hP').1
  obtain ⟨u,hu,ru⟩:=rv.get (i:=i) (x:=.bl bs[i]) (by rw [List.getElem?_map,List.getElem?_eq_getElem hi];rfl)
  rw [hP'] at hu
  cases hu
  cases ru
  dsimp only at hQ
  rw [List.getElem?_eq_getElem hi,Option.getD_some] at hQ
  exact wpAny_truthy_bool hQ
 ·have e:((List.range its.toArray.size).all fun i=>(bs[i]?).getD true)=bs.all id:=by
   rw [List.size_toArray,← hlen];exact range_all' bs
  refine ⟨.bl (bs.all id),H,I.kept fun b x e=>hk b x (fun hm=>by rw [List.mem_singleton.mp hm] at e;exact Nat.lt_irrefl _ (Heap.lt_size e)) (Heap.get?_push_of_some _ e),?_,q⟩
  rw [e]
  rfl
theorem qBH:CallR X (.builtin "isinstance") (fun xs H Q=>∃ x T t b,xs=[x,.ty T]∧TyOf X.K H x t∧PySem.W.kitOne X.K t (.type T)=some b∧Q (.bl b) H):=by
 intro pins s σ H xs us Q I r h
 obtain ⟨x,T,t,b,rfl,ht,hk,q⟩:=h
 obtain ⟨u,v,rfl,r1,r2⟩:=vals2 r
 cases r2
 exact isinst_ok I r1 ht hk fun tk=>⟨.bl b,H,I.tok _,rfl,q⟩
theorem op_eq_nil (hu:X.A.units<cLine):OpR X (compareOp .Eq) (fun x y H Q=>∃ p l xs,x=.ref p∧y=.ref l∧SqL X.K H p xs∧SqL X.K H l []∧Q (.bl xs.isEmpty) H):=by
 intro pins s σ H x y v u Q I rx ry h
 obtain ⟨p,l,xs,rfl,rfl,h1,h2,q⟩:=h
 cases rx
 cases ry
 obtain ⟨its,r1,p1,z1⟩:=I.list h1
 obtain ⟨its2,r2,p2,z2⟩:=I.list h2
 cases r2
 cases xs with
 | nil=>
  cases r1
  exact SeqAt.eq_listAt (e:=fun _=>true) p1.isList p2.isList rfl hu (fun j h _=>absurd h (by simp)) ⟨.bl true,H,I,rfl,q⟩
 | cons a r=>
  cases r1
  exact SeqAt.eq_list_lengthsAt p1.isList p2.isList (by simp) hu ⟨.bl false,H,I,rfl,q⟩
end
theorem call_sortedK {X:Cx} {K:PySem.W.Frag} {w:World} (hK:X.K=K) (hw:X.w=w) (hc:X.calm=true):CallR X (.builtin "sorted") (fun xs H Q=>∃ p ns,xs=[.ref p]∧(SqL K H p (ns.map V.int)∨SqT K H p (ns.map V.int)∨H p=some (SetO w p ns))∧ns.length<64∧
  ∀ (a:Addr) (ns':List Int),H a=none→ns'.Perm ns→ns'.Pairwise (·≤·)→Q (.ref a) (upd H a (.lst (ns'.map V.int)))):=by subst hK hw;exact qD6 hc
theorem call_setK {X:Cx} {K:PySem.W.Frag} {w:World} (hK:X.K=K) (hw:X.w=w) (hc:X.calm=true):CallR X (.type "set") (fun xs H Q=>∃ p ns,xs=[.ref p]∧SqL K H p (ns.map V.int)∧ns.length≤4∧∀ a,H a=none→Q (.ref a) (upd H a (SetO w a (dedI ns)))):=by subst hK hw;exact call_set hc
end L2
namespace L2
open PySem PySem.Spec PyProof.Rows
def Ite (K:PySem.W.Frag) (l:Addr):It:=
 ⟨fun i H=>∃ xs x,SqL K H l xs∧xs[i]?=some x,fun i H v H'=>∃ T x,H T=none∧v=.ref T∧H'=upd H T (.tup [.int (i:Int),x])∧∀ xs,SqL K H l xs→xs[i]?=some x,fun i H=>∃ xs,SqL K H l xs∧xs.length≤i⟩
section
variable {X:Cx}
theorem Inv.turnedL {pins:List (Addr × Obj)} {s:Shared} {σ:St} {H:Hp} {h':Heap} {t':Nat} {ch:List Addr} (I:Inv X pins σ H s) (k:∀ b o,b ∉ ch→s.heap.get? b=some o→h'.get? b=some o) (hc:∀ b ∈ ch,FpOk X pins H b):Inv X pins σ H { s with heap:=h',toks:=t' }:=by
 have nit:∀ b u,H b=some u→b ∉ ch:=fun b u e z=>by rw [(hc b z).1] at e;cases e
 refine I.step (g':=s.gens) (d':=s.drawn) (ch:=ch) (fun b hb=>⟨(hc b hb).2.2.2.1,(hc b hb).2.1,(hc b hb).2.2.2.2.1,(hc b hb).2.2.2.2.2⟩) (fun b o _ _ hc' e _=>k b o hc' e) (fun b o _ _ hc' e _=>⟨o.slots,k b o hc' e⟩) (fun _ _ _ _ n=>n)
  (fun b o hc' e=>⟨o,k b o hc' e⟩) (fun _ _ e=>e) (fun _ _ _ e=>e) (fun _ _ e=>e) (fun m hm=>?_) (fun b u e=>?_) I.bare
 ·obtain ⟨o,es,ep,ho,r⟩:=hm
  exact ⟨o,es,ep,k _ o (fun z=>(hc _ z).2.1 rfl) ho,r⟩
 ·refine (I.hok b u e).stay (fun c v hc' q=>k c v ?_ q) (fun _ q=>q) fun _ _ q=>q
  rcases hc' with z | z
  ·rw [z];exact nit b u e
  ·exact nit c _ z
theorem turn_enum {P:Program} {w:World} {K:PySem.W.Frag} {elts:List Expr} {k:Nat} {pos:Pos} (l it e:Addr) (hne:e ≠ it):Turn P w K (.Tuple elts k pos) (Ite K l) [e,it] e (fun i h=>(∃ old,IsEnum h e it i old)∧h.IsListIter it l i) where
 mem:=by simp
 obj:=fun i h st b hb=>by
  obtain ⟨⟨old,h1⟩,o,h2,_,h4⟩:=st
  have e':b=e∨b=it:=by simpa using hb
  rcases e' with rfl | rfl
  ·exact ⟨_,h1,fun v z=>by
    have z':Data.fields _=Data.cell v:=z
    cases z'⟩
  ·exact ⟨o,h2,fun v z=>by rw [h4] at z;cases z⟩
 keep:=fun i h h' st kk=>by
  obtain ⟨⟨old,h1⟩,h2⟩:=st
  exact ⟨⟨old,kk e (by simp) _ h1⟩,h2.at fun o q=>kk it (by simp) o q⟩
 item:=by
  intro X hP hw hK hc i pins s σ H E I hf st hg
  subst hP hw hK
  obtain ⟨xs,x,hq,hx⟩:=hg
  obtain ⟨its,rv,p,hz⟩:=I.list hq
  obtain ⟨u,hu,ru⟩:=rv.get hx
  obtain ⟨⟨old,h1⟩,h2⟩:=st
  refine wpAny_pyNext_enum_item h1 h2 p.isList (x:=u) (by simpa using hu) hne fun h' a1 a2 a3 a4 a5=>?_
  refine ⟨_,rfl,wpAny_letOwnedTupleGo_enum a1 fun h2 b1 b2=>?_⟩
  have ltE:e<s.heap.objs.size:=Heap.lt_size h1
  have I1:Inv X pins σ H { s with heap:=h2,toks:=s.toks+1 }:=I.turnedL (ch:=[e,it]) (fun b o hb q=>by
   have hb1:b ≠ e:=fun z=>hb (by simp [z])
   have hb2:b ≠ it:=fun z=>hb (by simp [z])
   exact (b2.2 b hb1).trans (a5 b o hb1 hb2 q)) hf
  have hT:H s.heap.objs.size=none:=I.hok.fresh (Nat.le_refl _)
  have fT:=I.fpOk (H':=H) (b:=s.heap.objs.size) (Nat.le_refl _) hT
  have gT:h2.get? s.heap.objs.size=some { cls:=.type "tuple",data:=.seq #[.int i s.toks,u] }:=(b2.2 _ (Nat.ne_of_gt ltE)).trans a3
  refine ⟨.ref s.heap.objs.size,upd H s.heap.objs.size (.tup [.int (i:Int),x]),I1.track hT I.sz fT.2.1 fT.2.2.2.2.1 fT.2.2.2.2.2 ⟨by simp only [List.length_cons,List.length_nil];rw [sizeLine_eq];decide,[.int (i:Int) s.toks,u],.cons ⟨_,rfl⟩ (.cons ru .nil),⟨_,gT,rfl,_,rfl⟩⟩,rfl,
   ⟨_,x,hT,rfl,rfl,fun ys hy=>by rw [I.list_inj hy hq];exact hx⟩,⟨⟨_,b1⟩,a2.at fun o q=>(b2.2 it (Ne.symm hne)).trans q⟩,fun b hb=>?_⟩
  have ltb:b<s.heap.objs.size:=by
   have e':b=e∨b=it:=by simpa using hb
   rcases e' with rfl | rfl
   ·exact ltE
   ·obtain ⟨o,q,_⟩:=h2;exact Heap.lt_size (by assumption)
  rw [qA7 (Nat.ne_of_lt ltb)]
  exact (hf b hb).1
 done:=by
  intro X hP hw hK hc i pins s σ H E I hf st hg
  subst hP hw hK
  obtain ⟨xs,hq,hx⟩:=hg
  obtain ⟨its,rv,p,hz⟩:=I.list hq
  have hl:=rv.length
  obtain ⟨⟨old,h1⟩,h2⟩:=st
  exact wpAny_pyNext_enum_end (I.ok.hd hc) h1 h2 p.isList (by simp;lia) fun h' eb=>⟨rfl,I.turnedL (t':=s.toks) (ch:=[e,it]) (fun b o hb q=>eb b o (fun z=>hb (by simp [z])) q) hf⟩
 self:=fun _ _ _ _ _ st h=>by
  obtain ⟨⟨old,h1⟩,h2⟩:=st
  exact wpAny_pyIter_enum h1 h
def iEnum (K:PySem.W.Frag) (ta:TA):TI:=fun σ H R=>ta σ H fun vs H1=>∃ l,vs=[.ref l]∧(∃ xs,SqL K H1 l xs)∧R (Ite K l) H1
theorem pi_enum {elts:List Expr} {k:Nat} {tpos:Pos} {a:Expr} {ta:TA} {p pos:Pos} (hg:Gl X "enumerate") (hm:X.mg "enumerate" = none) (hv:bootBuiltins "enumerate" = some (.type "enumerate")) (ha:PA X [a] ta) (hs:starEach [a] X.env=[(false,eval a X.env)]:=by rfl) :
  PI X (.Tuple elts k tpos) (.Call (.Name "enumerate" p) [a] [] pos) (iEnum X.K ta):=by
 intro pins s σ H R I h
 refine Call_ (ld_blt I hg hm hv (PyProof.Rows.callWith_type1 (thn (ha pos pins s σ H _ I h) fun us s1 ⟨vs,H1,I1,r1,q1⟩=>?_) hs rfl))
 obtain ⟨l,e,⟨xs,hq⟩,q⟩:=q1
 subst e
 obtain ⟨u,rfl,rx⟩:=vals1 r1
 cases rx
 obtain ⟨its,rv,pl,hz⟩:=I1.list hq
 refine call_enumerate_list pl.isList fun h' he hi hsz hk=>?_
 refine wpAny_pyIter_enum he ?_
 have I2:Inv X pins σ H1 { s1 with heap:=h' }:=I1.kept (t':=s1.toks) hk
 refine ⟨s1.heap.objs.size+1,[s1.heap.objs.size+1,s1.heap.objs.size],_,_,H1,rfl,I2,turn_enum l s1.heap.objs.size (s1.heap.objs.size+1) (Nat.succ_ne_self _),⟨⟨_,he⟩,hi⟩,fun b hb=>?_,q⟩
 have e':b=s1.heap.objs.size+1∨b=s1.heap.objs.size:=by simpa using hb
 rcases e' with rfl | rfl
 ·exact I1.fpOk (Nat.le_succ _) (I1.hok.fresh (Nat.le_succ _))
 ·exact I1.fpOk (Nat.le_refl _) (I1.hok.fresh (Nat.le_refl _))
end
theorem lc_enum {K:PySem.W.Frag} {a:Addr} {xs:List V} {g:TG} {tc:TT} {te:TE} {Kf:Hp→Prop} {σ0:St} {H0:Hp} {p:Addr} (Pv:Nat→St→Hp→Prop) (h0:Pv 0 σ0 H0) (hl:∀ i σ H,i≤xs.length→Pv i σ H→SqL K H a xs)
  (hs:∀ i x σ H T,xs[i]?=some x→Pv i σ H→H T=none→g (.ref T) σ (upd H T (.tup [.int (i:Int),x])) fun σ2 H2=>tc σ2 H2 fun b H3=>if b=true then te σ2 H3 fun y H4=>∃ ys,H4 p=some (.lst ys)∧ys.length<sizeLine∧Pv (i+1) σ2 (upd H4 p (.lst (ys++[y]))) else Pv (i+1) σ2 H3)
  (hd:∀ σ H,Pv xs.length σ H→Kf H) :
  LcG (Ite K a) g tc te Kf σ0 H0 p:=by
 refine ⟨fun i m σ H=>m=xs.length - i∧i≤xs.length∧Pv i σ H,⟨xs.length,by simp,Nat.zero_le _,h0⟩,?_⟩
 rintro i m σ H ⟨rfl,hi,q⟩
 have hq:=hl i σ H hi q
 by_cases hlt:i<xs.length
 ·refine .inr ⟨⟨xs,xs[i],hq,by simp [hlt]⟩,Pv (i+1),fun σ' H' p'=>⟨xs.length - (i+1),by lia,rfl,hlt,p'⟩,fun v H' y=>?_⟩
  obtain ⟨T,x,hT,e1,e2,y⟩:=y
  subst e1 e2
  exact hs i x σ H T (y xs hq) q hT
 ·have e:i=xs.length:=by lia
  subst e
  exact .inl ⟨⟨xs,hq,Nat.le_refl _⟩,hd σ H q⟩
end L2
namespace L2
open PySem PySem.Spec PyProof.Rows
theorem nextOf_tuple_item {prog:Program} {w:World} {A:Around} {E:Value→Shared→Prop} {s:Shared} {it t:Addr} {i:Nat} {items:Array Value} {x:Value} {Q:Value→Shared→Prop} (hit:s.heap.IsTupleIter it t i) (ht:s.heap.IsTuple t items) (hx:items[i]?=some x)
  (hQ:∀ h':Heap,h'.IsTupleIter it t (i+1)→Heap.SameBut it s.heap h'→Q x { s with heap:=h' }):wpAny (model prog w) A (Builtin.SmallTypes.nextOf (.ref it)) Q E s:=by
 obtain ⟨o,ho,hc,hd⟩:=id hit
 obtain ⟨ol,hol,_,nl,hdl⟩:=ht
 refine wpAny_bind (wpAny_callSpecial?_slot hit.typeIs F.slot_tuple_iterator_next (wpAny_call_entry F.slot_tuple_iterator_next hit.typeIs F.entry_tuple_iterator_next ?_ (F.args_tuple_iterator_next_1 _)))
 show wpAny _ _ (field (.ref it) 0 >>= _) _ _ _
 refine wpAny_bind (wpAny_field ho hd rfl ?_)
 refine wpAny_ite_false rfl ?_
 show wpAny _ _ (field (.ref it) 1 >>= _) _ _ _
 refine wpAny_bind (wpAny_field ho hd rfl ?_)
 show wpAny _ _ (seqItems? (.ref t) >>= _) _ _ _
 refine wpAny_bind (wpAny_seqItems hol hdl ?_)
 show wpAny _ _ (match items[i]? with | some x=>_ | none=>_) _ _ _
 rw [hx]
 refine wpAny_bind (wpAny_setField ho hd (by simp) ?_)
 refine wpAny_pure ⟨x,rfl,wpAny_pure (hQ _ ⟨_,Heap.get?_update_self _ ho (Obj.isFreed_of_fields (Obj.data_mapFields hd _)),(Obj.cls_mapFields o _).trans hc,?_⟩ (Heap.SameBut.update _ _ _))⟩
 rw [Obj.data_mapFields hd]
 simp
 rfl
theorem nextOf_tuple_end {prog:Program} {w:World} {A:Around} {E:Value→Shared→Prop} {s:Shared} {it t:Addr} {i:Nat} {items:Array Value} {Q:Value→Shared→Prop} (hh:A.handled=none) (hit:s.heap.IsTupleIter it t i) (ht:s.heap.IsTuple t items) (hx:items[i]?=none)
  (hE:∀ (h':Heap) (e:Addr),Heap.ExtBut it s.heap h'→(∃ o,h'.get? e=some o∧o.cls=.type "StopIteration")→E (.ref e) { s with heap:=h' }):wpAny (model prog w) A (Builtin.SmallTypes.nextOf (.ref it)) Q E s:=by
 obtain ⟨o,ho,hc,hd⟩:=id hit
 obtain ⟨ol,hol,_,nl,hdl⟩:=ht
 refine wpAny_bind (wpAny_callSpecial?_slot hit.typeIs F.slot_tuple_iterator_next (wpAny_call_entry F.slot_tuple_iterator_next hit.typeIs F.entry_tuple_iterator_next ?_ (F.args_tuple_iterator_next_1 _)))
 show wpAny _ _ (field (.ref it) 0 >>= _) _ _ _
 refine wpAny_bind (wpAny_field ho hd rfl ?_)
 refine wpAny_ite_false rfl ?_
 show wpAny _ _ (field (.ref it) 1 >>= _) _ _ _
 refine wpAny_bind (wpAny_field ho hd rfl ?_)
 show wpAny _ _ (seqItems? (.ref t) >>= _) _ _ _
 refine wpAny_bind (wpAny_seqItems hol hdl ?_)
 show wpAny _ _ (match items[i]? with | some x=>_ | none=>_) _ _ _
 rw [hx]
 refine wpAny_bind (wpAny_rule ?_)
 refine wpAny_bind (wpAny_setField ho hd (by simp) ?_)
 show wpAny _ _ (newExc (.type "StopIteration") [] >>= _) _ _ _
 refine wpAny_bind ?_
 simp only [newExc,newTuple]
 refine wpAny_bind (wpAny_newObj_type ?_ (by size_fits))
 refine wpAny_bind (m:=firstArgMember _ _) (wpAny_of_eq (a:=Value.none) (by first | rfl | (simp only [firstArgMember];rfl)) ?_)
 refine wpAny_newObj_type ?_ (by size_fits)
 simp only [raiseNew]
 refine wpAny_bind (wpAny_handled ?_)
 rw [show A.in1.handled=none from hh]
 refine wpAny_bind (wpAny_pure (wpAny_throw ?_))
 exact hE _ _ (((Heap.SameBut.update ..).extBut.push _).push _) ⟨_,Heap.get?_push_size _ rfl,rfl⟩
def SIt (b:Bool) (h:Heap) (it l:Addr) (i:Nat):Prop:=match b with | true=>h.IsTupleIter it l i | false=>h.IsListIter it l i
def SSq (b:Bool) (h:Heap) (l:Addr) (xs:Array Value):Prop:=match b with | true=>h.IsTuple l xs | false=>h.IsList l xs
theorem SIt.at {b:Bool} {h h':Heap} {it l:Addr} {i:Nat} (q:SIt b h it l i) (k:∀ o,h.get? it=some o→h'.get? it=some o):SIt b h' it l i:=by
 cases b
 ·exact Heap.IsListIter.at q k
 ·exact Heap.IsTupleIter.at q k
theorem SSq.at {b:Bool} {h h':Heap} {l:Addr} {xs:Array Value} (q:SSq b h l xs) (k:∀ o,h.get? l=some o→h'.get? l=some o):SSq b h' l xs:=by
 cases b
 ·obtain ⟨o,e,r⟩:=q;exact ⟨o,k o e,r⟩
 ·obtain ⟨o,e,r⟩:=q;exact ⟨o,k o e,r⟩
theorem qD3 {b:Bool} {prog:Program} {w:World} {A:Around} {E:Value→Shared→Prop} {s:Shared} {it t:Addr} {i:Nat} {items:Array Value} {x:Value} {Q:Value→Shared→Prop} (hit:SIt b s.heap it t i) (ht:SSq b s.heap t items) (hx:items[i]?=some x)
  (hQ:∀ h':Heap,SIt b h' it t (i+1)→Heap.SameBut it s.heap h'→Q x { s with heap:=h' }):wpAny (model prog w) A (Builtin.SmallTypes.nextOf (.ref it)) Q E s:=by
 cases b
 ·exact wpAny_nextOf_list_item hit ht hx hQ
 ·exact nextOf_tuple_item hit ht hx hQ
theorem nextOf_end {b:Bool} {prog:Program} {w:World} {A:Around} {E:Value→Shared→Prop} {s:Shared} {it t:Addr} {i:Nat} {items:Array Value} {Q:Value→Shared→Prop} (hh:A.handled=none) (hit:SIt b s.heap it t i) (ht:SSq b s.heap t items) (hx:items[i]?=none)
  (hE:∀ (h':Heap) (e:Addr),Heap.ExtBut it s.heap h'→(∃ o,h'.get? e=some o∧o.cls=.type "StopIteration")→E (.ref e) { s with heap:=h' }):wpAny (model prog w) A (Builtin.SmallTypes.nextOf (.ref it)) Q E s:=by
 cases b
 ·exact wpAny_nextOf_list_end hh hit ht hx hE
 ·exact nextOf_tuple_end hh hit ht hx hE
theorem zipB_item {b b':Bool} {prog:Program} {w:World} {A:Around} {E:Value→Shared→Prop} {s:Shared} {z TI TO i1 i2 l1 l2:Addr} {k1 k2:Nat} {xs ys:Array Value} {x y a c:Value} {Q:Value→Shared→Prop} (D:ZipApart z TI TO i1 i2 l1 l2) (hz:IsZip s.heap z TI TO .none) (hTI:IsPair s.heap TI (.ref i1) (.ref i2)) (hTO:IsPair s.heap TO a c)
  (h1:SIt b s.heap i1 l1 k1) (h2:SIt b' s.heap i2 l2 k2) (hl1:SSq b s.heap l1 xs) (hl2:SSq b' s.heap l2 ys) (hx:xs[k1]?=some x) (hy:ys[k2]?=some y)
  (hQ:∀ h':Heap,IsZip h' z TI TO (rawInt (s.heap.objs.size:Int))→IsPair h' TO x y→SIt b h' i1 l1 (k1+1)→SIt b' h' i2 l2 (k2+1)→IsPair h' s.heap.objs.size x y→h'.objs.size=s.heap.objs.size+1→
   (∀ (c:Addr) (o:Obj),c ≠ z→c ≠ TO→c ≠ i1→c ≠ i2→s.heap.get? c=some o→h'.get? c=some o)→Q (.ref s.heap.objs.size) { s with heap:=h' }) :
  wpAny (model prog w) A (Builtin.«zip.__next__» { pos:=[.ref z] }) (fun fin s'=>∃ v,fin=.done (.ret v)∧Q v s') E s:=by
 show wpAny _ _ (field (.ref z) 2 >>= _) _ _ _
 refine wpAny_bind (wpAny_field hz rfl rfl ?_)
 show wpAny _ _ (field (.ref z) 3 >>= _) _ _ _
 refine wpAny_bind (wpAny_field hz rfl rfl ?_)
 refine wpAny_bind (wpAny_seqItems hTI rfl ?_)
 show wpAny _ _ (Builtin.SmallTypes.ownedTupleIsFree (.ref z) >>= _) _ _ _
 refine wpAny_bind ?_
 show wpAny _ _ (field (.ref z) 0 >>= _) _ _ _
 refine wpAny_bind (wpAny_field hz rfl rfl (wpAny_pure ?_))
 refine wpAny_ite_true rfl ?_
 refine wpAny_bind (wpAny_rule ?_)
 refine wpAny_bind (wpAny_field hz rfl rfl ?_)
 refine wpAny_bind (wpAny_setField_rec hz (by simp) fun hA gz sb=>?_)
 refine wpAny_bind ?_
 show wpAny _ _ (forIn [(Value.ref i1,0),(Value.ref i2,1)] _ _) _ _ _
 rw [List.forIn_cons]
 refine wpAny_bind ?_
 dsimp only
 refine wpAny_bind (wpAny_onRaise ?_)
 have e:((#[Value.none,Value.bool false,Value.bool false,Value.ref TI,Value.ref TO][2] == Value.bool true)=false):=rfl
 rw [e]
 have sA1:SIt b hA i1 l1 k1:=h1.at fun o q=>(sb.2 _ D.i1z).trans q
 have sL1:SSq b hA l1 xs:=hl1.at fun o q=>(sb.2 _ D.l1z).trans q
 refine wpAny_bind (qD3 (s:={ s with heap:=hA }) sA1 sL1 hx fun hB nB sB=>?_)
 refine wpAny_pure ?_
 have tB:IsPair hB TO a c:=(sB.2 _ D.TOi1).trans ((sb.2 _ D.TOz).trans hTO)
 refine wpAny_bind (wpAny_seqItems tB rfl ?_)
 refine wpAny_bind (wpAny_updateSeq_pair tB fun hC tC sC=>?_)
 refine wpAny_bind (wpAny_letGo (wpAny_pure ?_))
 dsimp only
 rw [List.forIn_cons]
 refine wpAny_bind ?_
 refine wpAny_bind (wpAny_onRaise ?_)
 have sC2:SIt b' hC i2 l2 k2:=h2.at fun o q=>(sC.2 _ (Ne.symm D.TOi2)).trans ((sB.2 _ (Ne.symm D.i12)).trans ((sb.2 _ D.i2z).trans q))
 have sL2:SSq b' hC l2 ys:=hl2.at fun o q=>(sC.2 _ D.l2TO).trans ((sB.2 _ D.l2i1).trans ((sb.2 _ D.l2z).trans q))
 refine wpAny_bind (qD3 (s:={ s with heap:=hC }) sC2 sL2 hy fun hD nD sD=>?_)
 refine wpAny_pure ?_
 have tD:IsPair hD TO x c:=(sD.2 _ D.TOi2).trans tC
 refine wpAny_bind (wpAny_seqItems tD rfl ?_)
 refine wpAny_bind (wpAny_updateSeq_pair tD fun hF tF sF=>?_)
 refine wpAny_bind (wpAny_letGo (wpAny_pure ?_))
 dsimp only
 rw [List.forIn_nil]
 refine wpAny_pure ?_
 dsimp only
 have tF':IsPair hF TO x y:=tF
 refine wpAny_bind (wpAny_seqItems tF' rfl ?_)
 refine wpAny_bind (wpAny_newTuple ?_ (by show 2≤sizeLine;decide))
 have gzF:hF.get? z=some { cls:=.type "zip",data:=.fields #[.ellipsis,.bool false,.bool false,.ref TI,.ref TO] }:=(sF.2 _ (Ne.symm D.TOz)).trans ((sD.2 _ (Ne.symm D.i2z)).trans ((sC.2 _ (Ne.symm D.TOz)).trans ((sB.2 _ (Ne.symm D.i1z)).trans gz)))
 have szF:hF.objs.size=s.heap.objs.size:=sF.1.trans (sD.1.trans (sC.1.trans (sB.1.trans sb.1)))
 have ltz:z<hF.objs.size:=Heap.lt_size gzF
 have gzG:(hF.push { cls:=.type "tuple",data:=.seq #[x,y] }).get? z=some { cls:=.type "zip",data:=.fields #[.ellipsis,.bool false,.bool false,.ref TI,.ref TO] }:=Heap.get?_push_of_some _ gzF
 refine wpAny_bind ?_
 show wpAny _ _ (setField (.ref z) 0 (rawInt _) >>= _) _ _ _
 refine wpAny_bind (wpAny_setField_rec gzG (by simp) fun hG gG sG=>?_)
 refine wpAny_setField_rec gG (by simp) fun hI gI sI=>?_
 refine wpAny_pure ⟨_,rfl,?_⟩
 have o4:∀ (c:Addr) (o:Obj),c ≠ z→c ≠ TO→c ≠ i1→c ≠ i2→s.heap.get? c=some o→hI.get? c=some o:=fun c o n1 n2 n3 n4 e=>
  (sI.2 _ n1).trans ((sG.2 _ n1).trans (Heap.get?_push_of_some _ ((sF.2 _ n2).trans ((sD.2 _ n4).trans ((sC.2 _ n2).trans ((sB.2 _ n3).trans ((sb.2 _ n1).trans e)))))))
 have nz:hF.objs.size ≠ z:=Nat.ne_of_gt ltz
 have gT:hI.get? hF.objs.size=some { cls:=.type "tuple",data:=.seq #[x,y] }:=(sI.2 _ nz).trans ((sG.2 _ nz).trans (Heap.get?_push_size _ rfl))
 have szI:hI.objs.size=hF.objs.size+1:=sI.1.trans (sG.1.trans (Heap.size_push ..))
 have pz:∀ {c:Addr} {o:Obj},c ≠ z→hF.get? c=some o→hI.get? c=some o:=fun n e=>(sI.2 _ n).trans ((sG.2 _ n).trans (Heap.get?_push_of_some _ e))
 have q:=hQ hI
 rw [← szF] at q
 refine q gI (pz D.TOz tF') (nB.at fun o e=>pz D.i1z ((sF.2 _ (Ne.symm D.TOi1)).trans ((sD.2 _ D.i12).trans ((sC.2 _ (Ne.symm D.TOi1)).trans e)))) (nD.at fun o e=>pz D.i2z ((sF.2 _ (Ne.symm D.TOi2)).trans e)) gT szI o4
theorem zipB_end {b:Bool} {prog:Program} {w:World} {A:Around} {E:Value→Shared→Prop} {s:Shared} {z TI TO i1 i2 l1 l2:Addr} {k1:Nat} {xs:Array Value} {Q:PySem.Fin→Shared→Prop} (hh:A.handled=none) (D:ZipApart z TI TO i1 i2 l1 l2) (hz:IsZip s.heap z TI TO .none) (hTI:IsPair s.heap TI (.ref i1) (.ref i2))
  (h1:SIt b s.heap i1 l1 k1) (hl1:SSq b s.heap l1 xs) (hx:xs[k1]?=none)
  (hE:∀ (h':Heap) (e:Addr),(∀ (c:Addr) (o:Obj),c ≠ z→c ≠ i1→s.heap.get? c=some o→h'.get? c=some o)→(∃ o,h'.get? e=some o∧o.cls=.type "StopIteration")→E (.ref e) { s with heap:=h' }) :
  wpAny (model prog w) A (Builtin.«zip.__next__» { pos:=[.ref z] }) Q E s:=by
 show wpAny _ _ (field (.ref z) 2 >>= _) _ _ _
 refine wpAny_bind (wpAny_field hz rfl rfl ?_)
 show wpAny _ _ (field (.ref z) 3 >>= _) _ _ _
 refine wpAny_bind (wpAny_field hz rfl rfl ?_)
 refine wpAny_bind (wpAny_seqItems hTI rfl ?_)
 show wpAny _ _ (Builtin.SmallTypes.ownedTupleIsFree (.ref z) >>= _) _ _ _
 refine wpAny_bind ?_
 show wpAny _ _ (field (.ref z) 0 >>= _) _ _ _
 refine wpAny_bind (wpAny_field hz rfl rfl (wpAny_pure ?_))
 refine wpAny_ite_true rfl ?_
 refine wpAny_bind (wpAny_rule ?_)
 refine wpAny_bind (wpAny_field hz rfl rfl ?_)
 refine wpAny_bind (wpAny_setField_rec hz (by simp) fun hA gz sb=>?_)
 refine wpAny_bind ?_
 show wpAny _ _ (forIn [(Value.ref i1,0),(Value.ref i2,1)] _ _) _ _ _
 rw [List.forIn_cons]
 refine wpAny_bind ?_
 dsimp only
 refine wpAny_bind (wpAny_onRaise ?_)
 have e:((#[Value.none,Value.bool false,Value.bool false,Value.ref TI,Value.ref TO][2] == Value.bool true)=false):=rfl
 rw [e]
 have sA1:SIt b hA i1 l1 k1:=h1.at fun o q=>(sb.2 _ D.i1z).trans q
 have sL1:SSq b hA l1 xs:=hl1.at fun o q=>(sb.2 _ D.l1z).trans q
 refine wpAny_bind (nextOf_end (s:={ s with heap:=hA }) hh sA1 sL1 hx fun hB ea xB ⟨ob,gb,cb⟩=>?_)
 have gzB:=xB z _ (Ne.symm D.i1z) gz
 refine wpAny_setField_rec gzB (by simp) fun hC gC sC=>?_
 have nez:ea ≠ z:=fun q=>by
  rw [q,gzB] at gb
  cases gb
  exact absurd (show Value.type "zip" = Value.type "StopIteration" from cb) (by decide)
 exact hE hC ea (fun c o n1 n2 q=>(sC.2 _ n1).trans (xB c o n2 ((sb.2 _ n1).trans q))) ⟨ob,(sC.2 _ nez).trans gb,cb⟩
theorem zipB_end2 {b b':Bool} {prog:Program} {w:World} {A:Around} {E:Value→Shared→Prop} {s:Shared} {z TI TO i1 i2 l1 l2:Addr} {k1 k2:Nat} {xs ys:Array Value} {x a c:Value} {Q:PySem.Fin→Shared→Prop} (hh:A.handled=none) (D:ZipApart z TI TO i1 i2 l1 l2) (hz:IsZip s.heap z TI TO .none) (hTI:IsPair s.heap TI (.ref i1) (.ref i2)) (hTO:IsPair s.heap TO a c)
  (h1:SIt b s.heap i1 l1 k1) (h2:SIt b' s.heap i2 l2 k2) (hl1:SSq b s.heap l1 xs) (hl2:SSq b' s.heap l2 ys) (hx:xs[k1]?=some x) (hy:ys[k2]?=none)
  (hE:∀ (h':Heap) (e:Addr),(∀ (c:Addr) (o:Obj),c ≠ z→c ≠ TO→c ≠ i1→c ≠ i2→s.heap.get? c=some o→h'.get? c=some o)→(∃ o,h'.get? e=some o∧o.cls=.type "StopIteration")→E (.ref e) { s with heap:=h' }) :
  wpAny (model prog w) A (Builtin.«zip.__next__» { pos:=[.ref z] }) Q E s:=by
 show wpAny _ _ (field (.ref z) 2 >>= _) _ _ _
 refine wpAny_bind (wpAny_field hz rfl rfl ?_)
 show wpAny _ _ (field (.ref z) 3 >>= _) _ _ _
 refine wpAny_bind (wpAny_field hz rfl rfl ?_)
 refine wpAny_bind (wpAny_seqItems hTI rfl ?_)
 show wpAny _ _ (Builtin.SmallTypes.ownedTupleIsFree (.ref z) >>= _) _ _ _
 refine wpAny_bind ?_
 show wpAny _ _ (field (.ref z) 0 >>= _) _ _ _
 refine wpAny_bind (wpAny_field hz rfl rfl (wpAny_pure ?_))
 refine wpAny_ite_true rfl ?_
 refine wpAny_bind (wpAny_rule ?_)
 refine wpAny_bind (wpAny_field hz rfl rfl ?_)
 refine wpAny_bind (wpAny_setField_rec hz (by simp) fun hA gz sb=>?_)
 refine wpAny_bind ?_
 show wpAny _ _ (forIn [(Value.ref i1,0),(Value.ref i2,1)] _ _) _ _ _
 rw [List.forIn_cons]
 refine wpAny_bind ?_
 dsimp only
 refine wpAny_bind (wpAny_onRaise ?_)
 have e:((#[Value.none,Value.bool false,Value.bool false,Value.ref TI,Value.ref TO][2] == Value.bool true)=false):=rfl
 rw [e]
 have sA1:SIt b hA i1 l1 k1:=h1.at fun o q=>(sb.2 _ D.i1z).trans q
 have sL1:SSq b hA l1 xs:=hl1.at fun o q=>(sb.2 _ D.l1z).trans q
 refine wpAny_bind (qD3 (s:={ s with heap:=hA }) sA1 sL1 hx fun hB nB sB=>?_)
 refine wpAny_pure ?_
 have tB:IsPair hB TO a c:=(sB.2 _ D.TOi1).trans ((sb.2 _ D.TOz).trans hTO)
 refine wpAny_bind (wpAny_seqItems tB rfl ?_)
 refine wpAny_bind (wpAny_updateSeq_pair tB fun hC tC sC=>?_)
 refine wpAny_bind (wpAny_letGo (wpAny_pure ?_))
 dsimp only
 rw [List.forIn_cons]
 refine wpAny_bind ?_
 refine wpAny_bind (wpAny_onRaise ?_)
 have sC2:SIt b' hC i2 l2 k2:=h2.at fun o q=>(sC.2 _ (Ne.symm D.TOi2)).trans ((sB.2 _ (Ne.symm D.i12)).trans ((sb.2 _ D.i2z).trans q))
 have sL2:SSq b' hC l2 ys:=hl2.at fun o q=>(sC.2 _ D.l2TO).trans ((sB.2 _ D.l2i1).trans ((sb.2 _ D.l2z).trans q))
 refine wpAny_bind (nextOf_end (s:={ s with heap:=hC }) hh sC2 sL2 hy fun hD ea xD ⟨ob,gb,cb⟩=>?_)
 have gzC:hC.get? z=some { cls:=.type "zip",data:=.fields #[.ellipsis,.bool false,.bool false,.ref TI,.ref TO] }:=(sC.2 _ (Ne.symm D.TOz)).trans ((sB.2 _ (Ne.symm D.i1z)).trans gz)
 have gzD:=xD z _ (Ne.symm D.i2z) gzC
 refine wpAny_setField_rec gzD (by simp) fun hF gF sF=>?_
 have nez:ea ≠ z:=fun q=>by
  rw [q,gzD] at gb
  cases gb
  exact absurd (show Value.type "zip" = Value.type "StopIteration" from cb) (by decide)
 exact hE hF ea (fun c o n1 n2 n3 n4 q=>(sF.2 _ n1).trans (xD c o n4 ((sC.2 _ n2).trans ((sB.2 _ n3).trans ((sb.2 _ n1).trans q))))) ⟨ob,(sF.2 _ nez).trans gb,cb⟩
section
variable {b b':Bool} {prog:Program} {w:World} {A:Around} {E:Value→Shared→Prop} {s:Shared} {z TI TO i1 i2 l1 l2:Addr} {k1 k2:Nat} {xs ys:Array Value}
theorem pyNext_zipB_item {x y a c:Value} {Q:Option Value→Shared→Prop} (D:ZipApart z TI TO i1 i2 l1 l2) (hz:IsZip s.heap z TI TO .none) (hTI:IsPair s.heap TI (.ref i1) (.ref i2)) (hTO:IsPair s.heap TO a c)
  (h1:SIt b s.heap i1 l1 k1) (h2:SIt b' s.heap i2 l2 k2) (hl1:SSq b s.heap l1 xs) (hl2:SSq b' s.heap l2 ys) (hx:xs[k1]?=some x) (hy:ys[k2]?=some y)
  (hQ:∀ h':Heap,IsZip h' z TI TO (rawInt (s.heap.objs.size:Int))→IsPair h' TO x y→SIt b h' i1 l1 (k1+1)→SIt b' h' i2 l2 (k2+1)→IsPair h' s.heap.objs.size x y→h'.objs.size=s.heap.objs.size+1→
   (∀ (c:Addr) (o:Obj),c ≠ z→c ≠ TO→c ≠ i1→c ≠ i2→s.heap.get? c=some o→h'.get? c=some o)→Q (some (.ref s.heap.objs.size)) { s with heap:=h' }) :
  wpAny (model prog w) A (pyNext (.ref z)) Q E s:=by
 have hT:s.TypeIs (.ref z) "zip":=⟨_,hz,rfl⟩
 unfold pyNext
 refine wpAny_bind (wpAny_attempt (wpAny_callSpecial?_slot (name:=Str.ofString "__next__") hT F.slot_zip_next (wpAny_call_entry F.slot_zip_next hT F.entry_zip_next ?_ (F.args_zip_next_1 _))))
 exact zipB_item (Q:=fun v s'=>wpAny (model prog w) A (pure (some v)) Q E s') D hz hTI hTO h1 h2 hl1 hl2 hx hy fun h' q1 q2 q3 q4 q5 q6 q7=>wpAny_pure (hQ h' q1 q2 q3 q4 q5 q6 q7)
theorem pyNext_zipB_end {Q:Option Value→Shared→Prop} (hh:A.handled=none) (D:ZipApart z TI TO i1 i2 l1 l2) (hz:IsZip s.heap z TI TO .none) (hTI:IsPair s.heap TI (.ref i1) (.ref i2))
  (h1:SIt b s.heap i1 l1 k1) (hl1:SSq b s.heap l1 xs) (hx:xs[k1]?=none)
  (hQ:∀ h':Heap,(∀ (c:Addr) (o:Obj),c ≠ z→c ≠ i1→s.heap.get? c=some o→h'.get? c=some o)→Q none { s with heap:=h' }) :
  wpAny (model prog w) A (pyNext (.ref z)) Q E s:=by
 have hT:s.TypeIs (.ref z) "zip":=⟨_,hz,rfl⟩
 unfold pyNext
 refine wpAny_bind (wpAny_attempt (wpAny_callSpecial?_slot (name:=Str.ofString "__next__") hT F.slot_zip_next (wpAny_call_entry F.slot_zip_next hT F.entry_zip_next ?_ (F.args_zip_next_1 _))))
 refine zipB_end hh D hz hTI h1 hl1 hx fun h' e k ⟨o,g,c⟩=>?_
 refine wpAny_bind (wpAny_isInstance (T:="StopIteration") (b:=true) ⟨_,g,c⟩ isSubtype_stop ?_)
 exact wpAny_pure (hQ h' k)
theorem pyNext_zipB_end2 {x a c:Value} {Q:Option Value→Shared→Prop} (hh:A.handled=none) (D:ZipApart z TI TO i1 i2 l1 l2) (hz:IsZip s.heap z TI TO .none) (hTI:IsPair s.heap TI (.ref i1) (.ref i2)) (hTO:IsPair s.heap TO a c)
  (h1:SIt b s.heap i1 l1 k1) (h2:SIt b' s.heap i2 l2 k2) (hl1:SSq b s.heap l1 xs) (hl2:SSq b' s.heap l2 ys) (hx:xs[k1]?=some x) (hy:ys[k2]?=none)
  (hQ:∀ h':Heap,(∀ (c:Addr) (o:Obj),c ≠ z→c ≠ TO→c ≠ i1→c ≠ i2→s.heap.get? c=some o→h'.get? c=some o)→Q none { s with heap:=h' }) :
  wpAny (model prog w) A (pyNext (.ref z)) Q E s:=by
 have hT:s.TypeIs (.ref z) "zip":=⟨_,hz,rfl⟩
 unfold pyNext
 refine wpAny_bind (wpAny_attempt (wpAny_callSpecial?_slot (name:=Str.ofString "__next__") hT F.slot_zip_next (wpAny_call_entry F.slot_zip_next hT F.entry_zip_next ?_ (F.args_zip_next_1 _))))
 refine zipB_end2 hh D hz hTI hTO h1 h2 hl1 hl2 hx hy fun h' e k ⟨o,g,c⟩=>?_
 refine wpAny_bind (wpAny_isInstance (T:="StopIteration") (b:=true) ⟨_,g,c⟩ isSubtype_stop ?_)
 exact wpAny_pure (hQ h' k)
end
noncomputable abbrev itObj (b:Bool) (l:Addr):Obj:={ cls:=.type (match b with | true=>"tuple_iterator" | false=>"list_iterator"),data:=.fields #[.ref l,.int 0 0] }
theorem pyIter_seq {b:Bool} {prog:Program} {w:World} {A:Around} {E:Value→Shared→Prop} {s:Shared} {l:Addr} {xs:Array Value} {Q:Value→Shared→Prop} (h:SSq b s.heap l xs) (hQ:Q (.ref s.heap.objs.size) { s with heap:=s.heap.push (itObj b l) }):wpAny (model prog w) A (pyIter (.ref l)) Q E s:=by
 cases b
 ·exact wpAny_pyIter_list h hQ
 ·exact wpAny_pyIter_tuple h hQ
noncomputable abbrev zb1 (b:Bool) (h:Heap) (l1:Addr):Heap:=h.push (itObj b l1)
noncomputable abbrev zb2 (b b':Bool) (h:Heap) (l1 l2:Addr):Heap:=(zb1 b h l1).push (itObj b' l2)
noncomputable abbrev zb3 (b b':Bool) (h:Heap) (l1 l2:Addr):Heap:=(zb2 b b' h l1 l2).push { cls:=.type "tuple",data:=.seq #[.ref h.objs.size,.ref (zb1 b h l1).objs.size] }
noncomputable abbrev zb4 (b b':Bool) (h:Heap) (l1 l2:Addr):Heap:=(zb3 b b' h l1 l2).push { cls:=.type "tuple",data:=.seq #[.none,.none] }
noncomputable abbrev zb5 (b b':Bool) (h:Heap) (l1 l2:Addr):Heap:=(zb4 b b' h l1 l2).push { cls:=.type "zip",data:=.fields #[.none,.bool false,.bool false,.ref (zb2 b b' h l1 l2).objs.size,.ref (zb3 b b' h l1 l2).objs.size] }
theorem zipB_new (b b':Bool) (l1 l2:Addr) (xs ys:Array Value):Meets (Builtin.«zip.__new__» { pos:=[.type "zip",.ref l1,.ref l2] }) fun _ R s=>
  SSq b s.heap l1 xs∧SSq b' s.heap l2 ys∧R (.ok (.ret (.ref (zb4 b b' s.heap l1 l2).objs.size))) { s with heap:=zb5 b b' s.heap l1 l2 }:=by
 refine Meets.of_wp fun prog w A R s h=>?_
 obtain ⟨hp,g,d,tk,os⟩:=s
 obtain ⟨hl1,hl2,h⟩:=h
 have hL2:SSq b' (hp.push (itObj b l1)) l2 ys:=SSq.at hl2 fun o q=>Heap.get?_push_of_some _ q
 refine wpAny_bind ?_
 refine wpAny_bind (wpAny_pure ?_)
 refine wpAny_ite_false rfl ?_
 refine wpAny_bind (wpAny_of_eq sub_zip ?_)
 refine wpAny_ite_false rfl ?_
 refine wpAny_pure ?_
 refine wpAny_ite_false rfl ?_
 refine wpAny_bind ?_
 refine wpAny_bind ?_
 show wpAny _ _ (forIn [Value.ref l1,Value.ref l2] #[] _) _ _ _
 rw [List.forIn_cons]
 refine wpAny_bind (wpAny_bind (wpAny_holding (pyIter_seq hl1 (wpAny_pure ?_))))
 dsimp only
 rw [List.forIn_cons]
 refine wpAny_bind (wpAny_bind (wpAny_holding (pyIter_seq hL2 (wpAny_pure ?_))))
 dsimp only
 rw [List.forIn_nil]
 refine wpAny_pure (wpAny_pure ?_)
 refine wpAny_bind (wpAny_newTuple ?_ (by show 2≤sizeLine;decide))
 refine wpAny_bind (wpAny_newTuple ?_ (by show 2≤sizeLine;decide))
 refine wpAny_bind ?_
 unfold Builtin.SmallTypes.newRecord
 dsimp only
 refine wpAny_newObj_type ?_ (by first | rfl | (show (5:Nat)≤_;decide) | (show (5:Nat)≤sizeLine+2;rw [sizeLine_eq];decide))
 refine wpAny_pure ⟨_,rfl,h⟩
end L2
namespace L2
open PySem PySem.Spec PyProof.Rows
theorem call_zipB {b b':Bool} {prog:Program} {w:World} {A:Around} {E:Value→Shared→Prop} {s:Shared} {l1 l2:Addr} {xs ys:Array Value} {Q:Value→Shared→Prop} (hl1:SSq b s.heap l1 xs) (hl2:SSq b' s.heap l2 ys)
  (hQ:∀ (h':Heap) (z TI TO i1 i2:Addr),ZipApart z TI TO i1 i2 l1 l2→IsZip h' z TI TO .none→IsPair h' TI (.ref i1) (.ref i2)→IsPair h' TO .none .none→SIt b h' i1 l1 0→SIt b' h' i2 l2 0→(∀ c ∈ [z,TI,TO,i1,i2],s.heap.objs.size≤c)→
   (∀ (c:Addr) (o:Obj),s.heap.get? c=some o→h'.get? c=some o)→Q (.ref z) { s with heap:=h' }) :
  wpAny (model prog w) A (call (.type "zip") [.ref l1,.ref l2]) Q E s:=by
 refine callType_new F.called_zip (by decide) (F.typeCall_zip_2 _ _) (F.newCall_zip_2 _ _) (fun obj=>F.args_object_init_3 obj _ _) F.entry_zip_new (zipB_new b b' l1 l2 xs ys) ⟨hl1,hl2,?_⟩
 have z1:(zb1 b s.heap l1).objs.size=s.heap.objs.size+1:=Heap.size_push ..
 have z2:(zb2 b b' s.heap l1 l2).objs.size=s.heap.objs.size+2:=(Heap.size_push ..).trans (by rw [z1])
 have z3:(zb3 b b' s.heap l1 l2).objs.size=s.heap.objs.size+3:=(Heap.size_push ..).trans (by rw [z2])
 have z4:(zb4 b b' s.heap l1 l2).objs.size=s.heap.objs.size+4:=(Heap.size_push ..).trans (by rw [z3])
 have g5:(zb5 b b' s.heap l1 l2).get? (zb4 b b' s.heap l1 l2).objs.size=some { cls:=.type "zip",data:=.fields #[.none,.bool false,.bool false,.ref (zb2 b b' s.heap l1 l2).objs.size,.ref (zb3 b b' s.heap l1 l2).objs.size] }:=Heap.get?_push_size _ rfl
 have g4:(zb5 b b' s.heap l1 l2).get? (zb3 b b' s.heap l1 l2).objs.size=some { cls:=.type "tuple",data:=.seq #[.none,.none] }:=Heap.get?_push_of_some _ (Heap.get?_push_size _ rfl)
 have g3:(zb5 b b' s.heap l1 l2).get? (zb2 b b' s.heap l1 l2).objs.size=some { cls:=.type "tuple",data:=.seq #[.ref s.heap.objs.size,.ref (zb1 b s.heap l1).objs.size] }:=Heap.get?_push_of_some _ (Heap.get?_push_of_some _ (Heap.get?_push_size _ rfl))
 have g2:(zb5 b b' s.heap l1 l2).get? (zb1 b s.heap l1).objs.size=some (itObj b' l2):=Heap.get?_push_of_some _ (Heap.get?_push_of_some _ (Heap.get?_push_of_some _ (Heap.get?_push_size _ rfl)))
 have g1:(zb5 b b' s.heap l1 l2).get? s.heap.objs.size=some (itObj b l1):=Heap.get?_push_of_some _ (Heap.get?_push_of_some _ (Heap.get?_push_of_some _ (Heap.get?_push_of_some _ (Heap.get?_push_size _ rfl))))
 have lt:∀ {b:Bool} {l:Addr} {zs:Array Value},SSq b s.heap l zs→l<s.heap.objs.size:=fun {b l zs} q=>by
  cases b
  ·obtain ⟨o,e,_⟩:=q;exact Heap.lt_size e
  ·obtain ⟨o,e,_⟩:=q;exact Heap.lt_size e
 refine ⟨⟨_,g5,rfl⟩,?_⟩
 have D:=zipApart_new (n:=s.heap.objs.size) (lt hl1) (lt hl2)
 rw [← z4,← z3,← z2,← z1] at D
 refine hQ _ _ _ _ _ _ D g5 g3 g4 ?_ ?_ ?_ fun c o e=>Heap.get?_push_of_some _ (Heap.get?_push_of_some _ (Heap.get?_push_of_some _ (Heap.get?_push_of_some _ (Heap.get?_push_of_some _ e))))
 ·cases b
  ·exact ⟨_,g1,rfl,rfl⟩
  ·exact ⟨_,g1,rfl,rfl⟩
 ·cases b'
  ·exact ⟨_,g2,rfl,rfl⟩
  ·exact ⟨_,g2,rfl,rfl⟩
 ·intro c hc
  have e':c=(zb4 b b' s.heap l1 l2).objs.size∨c=(zb2 b b' s.heap l1 l2).objs.size∨c=(zb3 b b' s.heap l1 l2).objs.size∨c=s.heap.objs.size∨c=(zb1 b s.heap l1).objs.size:=by simpa using hc
  rcases e' with rfl | rfl | rfl | rfl | rfl
  ·lia
  ·lia
  ·lia
  ·exact Nat.le_refl _
  ·lia
def SqB (b:Bool) (K:PySem.W.Frag) (H:Hp) (a:Addr) (xs:List V):Prop:=match b with | true=>SqT K H a xs | false=>SqL K H a xs
def Itz2 (K:PySem.W.Frag) (b b':Bool) (l1 l2:Addr):It:=
 ⟨fun i H=>∃ xs ys x y,SqB b K H l1 xs∧SqB b' K H l2 ys∧xs[i]?=some x∧ys[i]?=some y,fun i H v H'=>∃ T x y,H T=none∧v=.ref T∧H'=upd H T (.tup [x,y])∧∀ xs ys,SqB b K H l1 xs→SqB b' K H l2 ys→xs[i]?=some x∧ys[i]?=some y,fun i H=>∃ xs,SqB b K H l1 xs∧(xs.length≤i∨∃ ys x,SqB b' K H l2 ys∧xs[i]?=some x∧ys.length≤i)⟩
section
variable {X:Cx}
theorem Inv.seqB {b:Bool} {pins:List (Addr × Obj)} {s:Shared} {σ:St} {H:Hp} {a:Addr} {xs:List V} (I:Inv X pins σ H s) (h:SqB b X.K H a xs):∃ its:List Value,Vals xs its∧SSq b s.heap a its.toArray:=by
 cases b
 ·obtain ⟨its,rv,p,_⟩:=I.list h;exact ⟨its,rv,p.isList⟩
 ·obtain ⟨its,rv,p,_⟩:=I.tuple h;exact ⟨its,rv,p⟩
theorem Inv.seqB_inj {b:Bool} {pins:List (Addr × Obj)} {s:Shared} {σ:St} {H:Hp} {a:Addr} {xs ys:List V} (I:Inv X pins σ H s) (h:SqB b X.K H a xs) (h':SqB b X.K H a ys):xs=ys:=by
 cases b
 ·exact I.list_inj h h'
 ·exact I.tuple_inj h h'
theorem turn_zip {P:Program} {w:World} {K:PySem.W.Frag} {elts:List Expr} {k:Nat} {pos:Pos} {b b':Bool} {z TI TO i1 i2 l1 l2:Addr} (D:ZipApart z TI TO i1 i2 l1 l2):Turn P w K (.Tuple elts k pos) (Itz2 K b b' l1 l2) [z,TI,TO,i1,i2] z (fun i h=>IsZip h z TI TO .none∧IsPair h TI (.ref i1) (.ref i2)∧(∃ a c,IsPair h TO a c)∧SIt b h i1 l1 i∧SIt b' h i2 l2 i) where
 mem:=by simp
 obj:=fun i h ⟨h1,h2,⟨a,c,h3⟩,h4,h5⟩ d hd=>by
  have it:∀ {b:Bool} {j l:Addr},SIt b h j l i→∃ o,h.get? j=some o∧∀ v,o.data ≠ .cell v:=fun {b j l} q=>by
   cases b
   ·obtain ⟨o,e,_,q⟩:=q;exact ⟨o,e,fun v z=>by rw [q] at z;cases z⟩
   ·obtain ⟨o,e,_,q⟩:=q;exact ⟨o,e,fun v z=>by rw [q] at z;cases z⟩
  have e':d=z∨d=TI∨d=TO∨d=i1∨d=i2:=by simpa using hd
  rcases e' with rfl | rfl | rfl | rfl | rfl
  ·exact ⟨_,h1,fun v z=>by
    have z':Data.fields _=Data.cell v:=z
    cases z'⟩
  ·exact ⟨_,h2,fun v z=>by
    have z':Data.seq _=Data.cell v:=z
    cases z'⟩
  ·exact ⟨_,h3,fun v z=>by
    have z':Data.seq _=Data.cell v:=z
    cases z'⟩
  ·exact it h4
  ·exact it h5
 keep:=fun i h h' ⟨h1,h2,⟨a,c,h3⟩,h4,h5⟩ kk=>⟨kk z (by simp) _ h1,kk TI (by simp) _ h2,⟨a,c,kk TO (by simp) _ h3⟩,h4.at fun o q=>kk i1 (by simp) o q,h5.at fun o q=>kk i2 (by simp) o q⟩
 item:=by
  intro X hP hw hK hc i pins s σ H E I hf st hg
  subst hP hw hK
  obtain ⟨xs,ys,x,y,hq1,hq2,hx,hy⟩:=hg
  obtain ⟨its,rv,p1⟩:=I.seqB hq1
  obtain ⟨jts,rw',p2⟩:=I.seqB hq2
  obtain ⟨u,hu,ru⟩:=rv.get hx
  obtain ⟨v,hv,rv'⟩:=rw'.get hy
  obtain ⟨h1,h2,⟨a,c,h3⟩,h4,h5⟩:=st
  refine pyNext_zipB_item D h1 h2 h3 h4 h5 p1 p2 (x:=u) (y:=v) (by simpa using hu) (by simpa using hv) fun h' a1 a2 a3 a4 a5 a6 a7=>?_
  refine ⟨_,rfl,wpAny_letOwnedTupleGo_zip a1 fun h2' b1 b2=>?_⟩
  have ltz:z<s.heap.objs.size:=Heap.lt_size h1
  have nz:s.heap.objs.size ≠ z:=Nat.ne_of_gt ltz
  have I1:Inv X pins σ H { s with heap:=h2',toks:=s.toks }:=I.turnedL (ch:=[z,TI,TO,i1,i2]) (fun d o hd q=>by
   have e1:d ≠ z:=fun q=>hd (by simp [q])
   exact (b2.2 d e1).trans (a7 d o e1 (fun q=>hd (by simp [q])) (fun q=>hd (by simp [q])) (fun q=>hd (by simp [q])) q)) hf
  have hT:H s.heap.objs.size=none:=I.hok.fresh (Nat.le_refl _)
  have fT:=I.fpOk (H':=H) (b:=s.heap.objs.size) (Nat.le_refl _) hT
  have gT:h2'.get? s.heap.objs.size=some { cls:=.type "tuple",data:=.seq #[u,v] }:=(b2.2 _ nz).trans a5
  refine ⟨.ref s.heap.objs.size,upd H s.heap.objs.size (.tup [x,y]),I1.track hT I.sz fT.2.1 fT.2.2.2.2.1 fT.2.2.2.2.2 ⟨by simp only [List.length_cons,List.length_nil];rw [sizeLine_eq];decide,[u,v],.cons ru (.cons rv' .nil),⟨_,gT,rfl,_,rfl⟩⟩,rfl,
   ⟨_,x,y,hT,rfl,rfl,fun xs' ys' e1 e2=>by rw [I.seqB_inj e1 hq1,I.seqB_inj e2 hq2];exact ⟨hx,hy⟩⟩,⟨b1,(b2.2 _ D.TIz).trans (a7 _ _ D.TIz D.TITO D.TIi1 D.TIi2 h2),⟨u,v,(b2.2 _ D.TOz).trans a2⟩,a3.at fun o q=>(b2.2 _ D.i1z).trans q,a4.at fun o q=>(b2.2 _ D.i2z).trans q⟩,fun d hd=>?_⟩
  have ltb:d<s.heap.objs.size:=by
   have it:∀ {b:Bool} {j l:Addr} {n:Nat},SIt b s.heap j l n→j<s.heap.objs.size:=fun {b j l n} q=>by
    cases b
    ·obtain ⟨o,e,_,q⟩:=q;exact Heap.lt_size e
    ·obtain ⟨o,e,_,q⟩:=q;exact Heap.lt_size e
   have e':d=z∨d=TI∨d=TO∨d=i1∨d=i2:=by simpa using hd
   rcases e' with rfl | rfl | rfl | rfl | rfl
   ·exact ltz
   ·exact Heap.lt_size h2
   ·exact Heap.lt_size h3
   ·exact it h4
   ·exact it h5
  rw [qA7 (Nat.ne_of_lt ltb)]
  exact (hf d hd).1
 done:=by
  intro X hP hw hK hc i pins s σ H E I hf st hg
  subst hP hw hK
  obtain ⟨xs,hq,hx⟩:=hg
  obtain ⟨its,rv,p⟩:=I.seqB hq
  have hl:=rv.length
  obtain ⟨h1,h2,⟨a,c,h3⟩,h4,h5⟩:=st
  rcases hx with hx | ⟨ys,x,hq2,hxx,hy⟩
  rotate_left
  ·obtain ⟨jts,rw',p2⟩:=I.seqB hq2
   have hl2:=rw'.length
   obtain ⟨u,hu,ru⟩:=rv.get hxx
   exact pyNext_zipB_end2 (I.ok.hd hc) D h1 h2 h3 h4 h5 p p2 (x:=u) (by simpa using hu) (by simp;lia) fun h' eb=>⟨rfl,I.turnedL (t':=s.toks) (ch:=[z,TI,TO,i1,i2]) (fun d o hd q=>eb d o (fun z=>hd (by simp [z])) (fun z=>hd (by simp [z])) (fun z=>hd (by simp [z])) (fun z=>hd (by simp [z])) q) hf⟩
  exact pyNext_zipB_end (I.ok.hd hc) D h1 h2 h4 p (by simp;lia) fun h' eb=>⟨rfl,I.turnedL (t':=s.toks) (ch:=[z,TI,TO,i1,i2]) (fun d o hd q=>eb d o (fun z=>hd (by simp [z])) (fun z=>hd (by simp [z])) q) hf⟩
 self:=fun _ _ _ _ _ ⟨h1,_⟩ h=>wpAny_pyIter_zip h1 h
theorem zip_go {elts:List Expr} {k:Nat} {tpos:Pos} {pins:List (Addr × Obj)} {σ:St} {R:It→Hp→Prop} {s1:Shared} {H1:Hp} {b b':Bool} {l m:Addr} {xs ys:List V} (I1:Inv X pins σ H1 s1) (hq:SqB b X.K H1 l xs) (hq2:SqB b' X.K H1 m ys) (q:R (Itz2 X.K b b' l m) H1) :
  wpAny (model X.prog X.w) X.A (call (.type "zip") [.ref l,.ref m]) (fun v s=>wpAny (model X.prog X.w) X.A (pyIter v) (PIE X pins σ (.Tuple elts k tpos) R) X.xe s) X.xe s1:=by
 obtain ⟨its,rv,pl⟩:=I1.seqB hq
 obtain ⟨jts,rw',pm⟩:=I1.seqB hq2
 refine call_zipB pl pm fun h' z TI TO i1 i2 D hz hTI hTO hi1 hi2 hfr hk=>?_
 refine wpAny_pyIter_zip hz ?_
 have I2:Inv X pins σ H1 { s1 with heap:=h' }:=I1.kept (t':=s1.toks) hk
 exact ⟨z,[z,TI,TO,i1,i2],_,_,H1,rfl,I2,turn_zip D,⟨hz,hTI,⟨_,_,hTO⟩,hi1,hi2⟩,fun c hc=>I1.fpOk (hfr c hc) (I1.hok.fresh (hfr c hc)),q⟩
def iZip2 (K:PySem.W.Frag) (ta:TA):TI:=fun σ H R=>ta σ H fun vs H1=>∃ b b' l m,vs=[.ref l,.ref m]∧(∃ xs,SqB b K H1 l xs)∧(∃ xs,SqB b' K H1 m xs)∧R (Itz2 K b b' l m) H1
theorem pi_zip2 {elts:List Expr} {k:Nat} {tpos:Pos} {a b:Expr} {ta:TA} {p pos:Pos} (hg:Gl X "zip") (hm:X.mg "zip" = none) (hv:bootBuiltins "zip" = some (.type "zip")) (ha:PA X [a,b] ta) (hs:starEach [a,b] X.env=[(false,eval a X.env),(false,eval b X.env)]:=by rfl) (hs2:starEach [b] X.env=[(false,eval b X.env)]:=by rfl) :
  PI X (.Tuple elts k tpos) (.Call (.Name "zip" p) [a,b] [] pos) (iZip2 X.K ta):=by
 intro pins s σ H R I h
 refine Call_ (ld_blt I hg hm hv (PyProof.Rows.callWith_type1 (thn (ha pos pins s σ H _ I h) fun us s1 ⟨vs,H1,I1,r1,q1⟩=>?_) (by rw [hs,hs2]) (by rw [hs2];rfl)))
 obtain ⟨bb,bc,l,m,e,⟨xs,hq⟩,⟨ys,hq2⟩,q⟩:=q1
 subst e
 obtain ⟨u,v,rfl,rx,ry⟩:=vals2 r1
 cases rx
 cases ry
 exact zip_go I1 hq hq2 q
end
theorem for_zip2 {K:PySem.W.Frag} {b b':Bool} {l m:Addr} {xs ys:List V} {g:TG} {tb:TS} {D:Ends} {σ0:St} {H0:Hp} (hlen:xs.length=ys.length) (Pv:Nat→St→Hp→Prop) (h0:Pv 0 σ0 H0) (hl:∀ i σ H,i≤xs.length→Pv i σ H→SqB b K H l xs∧SqB b' K H m ys)
  (hs:∀ i x y σ H T,xs[i]?=some x→ys[i]?=some y→Pv i σ H→H T=none→g (.ref T) σ (upd H T (.tup [x,y])) fun σ2 H2=>tb { D with nx:=Pv (i+1),ct:=Pv (i+1),bk:=D.nx } σ2 H2)
  (hd:∀ σ H,Pv xs.length σ H→D.nx σ H) :
  ∃ W:Nat→Nat→St→Hp→Prop,(∃ m,W 0 m σ0 H0)∧∀ i n σ H,W i n σ H→
   ((Itz2 K b b' l m).stop i H∧D.nx σ H)∨((Itz2 K b b' l m).go i H∧∃ N:St→Hp→Prop,(∀ σ' H',N σ' H'→∃ m',m'<n∧W (i+1) m' σ' H')∧∀ x H',(Itz2 K b b' l m).yld i H x H'→g x σ H' fun σ2 H2=>tb { D with nx:=N,ct:=N,bk:=D.nx } σ2 H2):=by
 refine ⟨fun i n σ H=>n=xs.length - i∧i≤xs.length∧Pv i σ H,⟨xs.length,by simp,Nat.zero_le _,h0⟩,?_⟩
 rintro i n σ H ⟨rfl,hi,q⟩
 have hq:=hl i σ H hi q
 by_cases hlt:i<xs.length
 ·refine .inr ⟨⟨xs,ys,xs[i],ys[i]'(by lia),hq.1,hq.2,by simp [hlt],List.getElem?_eq_getElem _⟩,Pv (i+1),fun σ' H' p'=>⟨xs.length - (i+1),by lia,rfl,hlt,p'⟩,fun v H' y=>?_⟩
  obtain ⟨T,x,y,hT,e1,e2,yy⟩:=y
  subst e1 e2
  exact hs i x y σ H T (yy xs ys hq.1 hq.2).1 (yy xs ys hq.1 hq.2).2 q hT
 ·have e:i=xs.length:=by lia
  subst e
  exact .inl ⟨⟨xs,hq.1,.inl (Nat.le_refl _)⟩,hd σ H q⟩
end L2
namespace L2
open PySem PySem.Spec PyProof.Rows
section
variable {X:Cx}
end
end L2
namespace L2
open PySem
section
variable {es:List Expr} {env:Env} {p:Pos}
end
end L2
namespace L2
open PySem
@[irreducible] def cst (i:Int) (p:Pos):Expr:=.Constant (.int i) 0 p
end L2
namespace L2
open PySem
theorem nameN {P:(St→Hp→Prop)→Prop} {B:St→Hp→Prop} (h:∀ N:St→Hp→Prop,(∀ σ H,B σ H→N σ H)→P N):∃ N:St→Hp→Prop,(∀ σ' H',N σ' H'→B σ' H')∧P N:=⟨B,fun _ _ z=>z,h B fun _ _ z=>z⟩
end L2
namespace L2
open PySem
@[elab_as_elim] theorem us0 {α:Type} {P:List α→Prop} (us:List α) (hl:us.length=0) (h:P []):P us:=by
 match us,hl with
 | [],_=>exact h
@[elab_as_elim] theorem us1 {α:Type} {P:List α→Prop} (us:List α) (hl:us.length=1) (h:∀ a,P [a]):P us:=by
 match us,hl with
 | [a],_=>exact h a
@[elab_as_elim] theorem us2 {α:Type} {P:List α→Prop} (us:List α) (hl:us.length=2) (h:∀ a b,P [a,b]):P us:=by
 match us,hl with
 | [a,b],_=>exact h a b
@[elab_as_elim] theorem us3 {α:Type} {P:List α→Prop} (us:List α) (hl:us.length=3) (h:∀ a b c,P [a,b,c]):P us:=by
 match us,hl with
 | [a,b,c],_=>exact h a b c
@[elab_as_elim] theorem us4 {α:Type} {P:List α→Prop} (us:List α) (hl:us.length=4) (h:∀ a b c d,P [a,b,c,d]):P us:=by
 match us,hl with
 | [a,b,c,d],_=>exact h a b c d
end L2
namespace L2
open PySem PySem.Spec PyProof.Rows
section
variable {prog:Program} {w:World} {A:Around} {E:Value→Shared→Prop} {s:Shared}
end
section
variable {X:Cx}
theorem keys_of {κ:Type}:∀ {kvs:List (κ × V)} {vs:List (κ × Value)},KV kvs vs→kvs.map (·.1)=vs.map (·.1):=by
 intro kvs vs r
 unfold KV at r
 induction r with
 | nil=>rfl
 | cons h t ih=>rw [List.map_cons,List.map_cons,ih,h.1]
theorem op_ne_nil (hu:X.A.units<cLine):OpR X (compareOp .NotEq) (fun x y H Q=>∃ p l xs,x=.ref p∧y=.ref l∧SqL X.K H p xs∧SqL X.K H l []∧Q (.bl (!xs.isEmpty)) H):=by
 intro pins s σ H x y v u Q I rx ry h
 obtain ⟨p,l,xs,rfl,rfl,h1,h2,q⟩:=h
 cases rx
 cases ry
 obtain ⟨its,r1,p1,z1⟩:=I.list h1
 obtain ⟨its2,r2,p2,z2⟩:=I.list h2
 cases r2
 cases r1 with
 | nil=>exact PySem.SeqAt.RcNeAt.lists (e:=fun _=>true) p1.isList p2.isList rfl hu (fun j h _=>absurd h (by simp)) _ _ _ _ ⟨.bl false,H,I,rfl,q⟩
 | cons a r=>exact PySem.SeqAt.RcNeAt.lists_lengths p1.isList p2.isList (by simp) hu _ _ _ _ ⟨.bl true,H,I,rfl,q⟩
end
end L2
namespace L2
open PySem PySem.Spec PyProof.Rows
open PySem.AutoSeq1 in
section
variable {X:Cx}
end
end L2
namespace L2
open PySem PySem.Spec PyProof.Rows
section
variable {prog:Program} {w:World} {A:Around} {R:Result→Shared→Prop} {I:Addr} {fp wr:List Addr} {n:Nat} {P:Nat→Value→Prop} {St:Nat→Heap→Prop}
end
section
variable {prog:Program} {w:World} {A:Around} {E:Value→Shared→Prop} {s:Shared}
end
section
variable {X:Cx}
end
end L2
namespace L2
open PySem PySem.Spec PyProof.Rows
section
variable {prog:Program} {w:World} {A:Around} {E:Value→Shared→Prop} {s:Shared}
end
section
variable {prog:Program} {w:World} {A:Around} {R:Result→Shared→Prop} {I:Addr} {fp wr:List Addr} {n:Nat} {P:Nat→Value→Prop} {St:Nat→Heap→Prop}
end
section
variable {prog:Program} {w:World} {A:Around} {E:Value→Shared→Prop} {s:Shared}
end
section
variable {X:Cx}
end
end L2
namespace L2
open PySem PySem.Spec PyProof.Rows
section
variable {X:Cx}
end
theorem for_enum {K:PySem.W.Frag} {a:Addr} {xs:List V} {g:TG} {tb:TS} {D:Ends} {σ0:St} {H0:Hp} (Pv:Nat→St→Hp→Prop) (h0:Pv 0 σ0 H0) (hl:∀ i σ H,i≤xs.length→Pv i σ H→SqL K H a xs)
  (hs:∀ i x σ H T,xs[i]?=some x→Pv i σ H→H T=none→g (.ref T) σ (upd H T (.tup [.int (i:Int),x])) fun σ2 H2=>tb { D with nx:=Pv (i+1),ct:=Pv (i+1),bk:=D.nx } σ2 H2)
  (hd:∀ σ H,Pv xs.length σ H→D.nx σ H) :
  ∃ W:Nat→Nat→St→Hp→Prop,(∃ m,W 0 m σ0 H0)∧∀ i m σ H,W i m σ H→
   ((Ite K a).stop i H∧D.nx σ H)∨((Ite K a).go i H∧∃ N:St→Hp→Prop,(∀ σ' H',N σ' H'→∃ m',m'<m∧W (i+1) m' σ' H')∧∀ x H',(Ite K a).yld i H x H'→g x σ H' fun σ2 H2=>tb { D with nx:=N,ct:=N,bk:=D.nx } σ2 H2):=by
 refine ⟨fun i m σ H=>m=xs.length - i∧i≤xs.length∧Pv i σ H,⟨xs.length,by simp,Nat.zero_le _,h0⟩,?_⟩
 rintro i m σ H ⟨rfl,hi,q⟩
 have hq:=hl i σ H hi q
 by_cases hlt:i<xs.length
 ·refine .inr ⟨⟨xs,xs[i],hq,by simp [hlt]⟩,Pv (i+1),fun σ' H' p'=>⟨xs.length - (i+1),by lia,rfl,hlt,p'⟩,fun v H' y=>?_⟩
  obtain ⟨T,x,hT,e1,e2,y⟩:=y
  subst e1 e2
  exact hs i x σ H T (y xs hq) q hT
 ·have e:i=xs.length:=by lia
  subst e
  exact .inl ⟨⟨xs,hq,Nat.le_refl _⟩,hd σ H q⟩
end L2
namespace L2
open PySem
noncomputable def g5:Nat→Nat
 | 0=>0
 | n+1=>5 * g5 n+1
theorem pow_g5:∀ n:Nat,5 ^ n=4 * g5 n+1
 | 0=>rfl
 | n+1=>by
  rw [Nat.pow_succ,pow_g5 n,g5]
  lia
theorem g5_add (m:Nat):∀ n:Nat,g5 (m+n)=5 ^ n * g5 m+g5 n
 | 0=>by simp [g5]
 | n+1=>by
  rw [← Nat.add_assoc,g5,g5_add m n,g5,Nat.pow_succ,Nat.mul_add,← Nat.mul_assoc,Nat.mul_comm 5 (5 ^ n)]
  lia
theorem g5_dbl (n:Nat):g5 (n+n)=2 * (g5 n * (2 * g5 n+1)):=by
 rw [g5_add,pow_g5,Nat.add_mul,Nat.mul_add (g5 n),Nat.mul_add 2]
 have e1:4 * g5 n * g5 n=2 * (g5 n * (2 * g5 n)):=by
  rw [Nat.mul_left_comm (g5 n) 2,← Nat.mul_assoc 2 2,Nat.mul_assoc 4]
 rw [e1]
 lia
theorem odd_cop (k m:Nat) (h:m % 2=1):Nat.Coprime (2 ^ k) m:=by
 refine Nat.Coprime.pow_left k ?_
 have:Nat.gcd 2 m=1:=by
  rw [Nat.gcd_rec,h]
  rfl
 exact this
theorem g5_dvd:∀ (k n:Nat),2 ^ k ∣ g5 n→2 ^ k ∣ n
 | 0,n,_=>by simp
 | k+1,n,h=>by
  rcases Nat.mod_two_eq_zero_or_one n with e | e
  ·obtain ⟨m,rfl⟩:∃ m,n=m+m:=⟨n / 2,by lia⟩
   rw [g5_dbl,Nat.pow_succ,Nat.mul_comm (2 ^ k)] at h
   have h2:2 ^ k ∣ g5 m * (2 * g5 m+1):=Nat.dvd_of_mul_dvd_mul_left (by decide) h
   have h3:2 ^ k ∣ g5 m:=(odd_cop k (2 * g5 m+1) (by lia)).dvd_of_dvd_mul_right h2
   obtain ⟨c,hc⟩:=g5_dvd k m h3
   exact ⟨c,by rw [Nat.pow_succ,Nat.mul_comm (2 ^ k) 2,Nat.mul_assoc,← hc];lia⟩
  ·obtain ⟨m,rfl⟩:∃ m,n=m+m+1:=⟨n / 2,by lia⟩
   exfalso
   rw [g5,g5_dbl] at h
   have h2:2 ∣ 5 * (2 * (g5 m * (2 * g5 m+1)))+1:=Nat.dvd_trans ⟨2 ^ k,by rw [Nat.pow_succ,Nat.mul_comm]⟩ h
   lia
def it5 (i n:Nat):Nat:=5 ^ n * i+g5 n
theorem it5_succ (i n:Nat):it5 i (n+1)=5 * it5 i n+1:=by
 unfold it5
 rw [Nat.pow_succ,g5,Nat.mul_add,← Nat.mul_assoc,Nat.mul_comm 5 (5 ^ n)]
 lia
theorem it5_inj {k i n d:Nat} (hd:0<d) (hlt:d<2 ^ k) (h:it5 i n % 2 ^ k=it5 i (n+d) % 2 ^ k):False:=by
 have e:it5 i (n+d)=it5 i n+5 ^ n * (g5 d * (4 * i+1)):=by
  unfold it5
  rw [Nat.add_comm n d,g5_add d n,Nat.pow_add,pow_g5 d,Nat.mul_add (g5 d),Nat.mul_one,Nat.mul_add (5 ^ n)]
  have:(4 * g5 d+1) * 5 ^ n * i=5 ^ n * i+5 ^ n * (g5 d * (4 * i)):=by
   rw [Nat.add_mul,Nat.one_mul,Nat.add_mul,Nat.add_comm]
   congr 1
   rw [Nat.mul_comm 4,Nat.mul_assoc,Nat.mul_assoc,Nat.mul_left_comm (5 ^ n),Nat.mul_left_comm 4 (5 ^ n)]
  rw [this]
  lia
 have h2:2 ^ k ∣ 5 ^ n * (g5 d * (4 * i+1)):=by
  rw [e] at h
  have:=(Nat.dvd_iff_mod_eq_zero ..).mpr (Nat.sub_mod_eq_zero_of_mod_eq h.symm)
  rwa [Nat.add_sub_cancel_left] at this
 have h3:2 ^ k ∣ g5 d * (4 * i+1):=(odd_cop k (5 ^ n) (by rw [pow_g5];lia)).dvd_of_dvd_mul_left h2
 have h4:2 ^ k ∣ g5 d:=(odd_cop k (4 * i+1) (by lia)).dvd_of_dvd_mul_right h3
 have h5:=Nat.le_of_dvd hd (g5_dvd k d h4)
 lia
theorem it5_all {k i j:Nat} (hj:j<2 ^ k):∃ n,n<2 ^ k∧it5 i n % 2 ^ k=j:=by
 apply Classical.byContradiction
 intro no
 have nd:((List.range (2 ^ k)).map fun n=>it5 i n % 2 ^ k).Nodup:=by
  rw [List.nodup_iff_pairwise_ne,List.pairwise_map]
  refine List.pairwise_lt_range.imp_of_mem fun {a b} ha hb hab e=>?_
  have hb':=List.mem_range.mp hb
  refine it5_inj (k:=k) (i:=i) (n:=a) (d:=b - a) (by lia) (by lia) ?_
  rw [show a+(b - a)=b by lia]
  exact e
 have sub:((List.range (2 ^ k)).map fun n=>it5 i n % 2 ^ k) ⊆ (List.range (2 ^ k)).filter fun x=>decide (x ≠ j):=fun x hx=>by
  obtain ⟨n,hn,e⟩:=List.mem_map.mp hx
  refine List.mem_filter.mpr ⟨List.mem_range.mpr (by rw [← e];exact Nat.mod_lt _ (Nat.two_pow_pos k)),decide_eq_true fun z=>no ⟨n,List.mem_range.mp hn,e.trans z⟩⟩
 have l1:=List.Nodup.length_le_of_subset nd sub
 have l2:((List.range (2 ^ k)).filter fun x=>decide (x ≠ j)).length<(List.range (2 ^ k)).length:=by
  refine List.length_filter_lt_length_iff_exists.mpr ⟨j,List.mem_range.mpr hj,by simp⟩
 rw [List.length_map] at l1
 lia
end L2
namespace L2
open PySem PySem.Spec PyProof.Rows
structure TabG (byText:Bool × Bool) (t:SetTable) (n:Nat):Prop where
 pow:∃ k,3≤k∧t.mask+1=2 ^ k
 dum:t.dummies=#[]
 plain:t.plain=byText.2
 led:t.led=!byText.1
 size:t.place.size=n
 up:t.place.toList.Pairwise (·<·)
 le:∀ j ∈ t.place.toList,j≤t.mask
def pStart (mask i pt:Nat):SetTable.Probe:={ j:=i,more:=SetTable.runEnd mask i - i,i:=i,perturb:=pt,dummy:=none }
theorem runEnd_le {mask i:Nat} (h:i≤mask):SetTable.runEnd mask i≤mask∧i≤SetTable.runEnd mask i∧SetTable.runEnd mask i≤i+9:=by
 unfold SetTable.runEnd
 split <;> lia
section
variable {byText:Bool × Bool} {t:SetTable} {n:Nat}
theorem TabG.slot (T:TabG byText t n) (j:Nat):(t.slot j=.empty∧j ∉ t.place.toList)∨(∃ i,t.slot j=.live i∧j ∈ t.place.toList):=by
 have hd:SetTable.has t.dummies j=false:=by rw [T.dum];rfl
 obtain ⟨b1,b2,b3⟩:=qC9 (j:=j) T.up
 unfold SetTable.slot
 dsimp only
 by_cases hc:t.place[SetTable.below t.place j]?=some j
 ·rw [if_pos (by rw [hc];simp)]
  exact .inr ⟨_,rfl,by rw [← Array.mem_def];exact Array.mem_of_getElem? hc⟩
 ·rw [if_neg (by simpa using hc),hd,if_neg (by simp)]
  refine .inl ⟨rfl,fun hm=>hc ?_⟩
  obtain ⟨i,hi,he⟩:=List.mem_iff_getElem.mp hm
  have hi':i<t.place.size:=by simpa using hi
  have he':t.place.getD i j=j:=by
   rw [Array.getD_eq_getD_getElem?,Array.getElem?_eq_getElem hi']
   simpa using he
  have h1:¬ i<SetTable.below t.place j:=fun z=>by have:=b2 i z;lia
  have h2:SetTable.below t.place j=i:=by
   apply Nat.le_antisymm (Nat.le_of_not_lt h1)
   apply Nat.le_of_not_lt
   intro z
   have:=b3 (SetTable.below t.place j) (Nat.le_refl _) (by lia)
   have:=up_of j T.up _ _ z hi'
   lia
  rw [h2,Array.getElem?_eq_getElem hi']
  simpa using he
theorem TabG.run (T:TabG byText t n) (h:Int) (i pt:Nat):∀ (more j f:Nat),(∃ j',SetTable.probe.go t (fun _=>h+1) h (more+1+f) { j:=j,more:=more,i:=i,perturb:=pt,dummy:=none }=some (.empty j' none)∧j' ∉ t.place.toList∧j'≤j+more)∨
  (SetTable.probe.go t (fun _=>h+1) h (more+1+f) { j:=j,more:=more,i:=i,perturb:=pt,dummy:=none }=SetTable.probe.go t (fun _=>h+1) h f (pStart t.mask ((i * 5+1+pt / 32) % (t.mask+1)) (pt / 32))∧j ∈ t.place.toList):=by
 intro more
 induction more with
 | zero=>
  intro j f
  rw [Nat.zero_add,Nat.add_comm 1 f]
  rcases T.slot j with ⟨e,m⟩ | ⟨k,e,m⟩
  ·left
   refine ⟨j,?_,m,Nat.le_refl _⟩
   unfold SetTable.probe.go
   dsimp only
   rw [e]
  ·right
   refine ⟨?_,m⟩
   rw [SetTable.probe.go]
   dsimp only
   rw [e]
   dsimp only
   rw [if_neg (by simp;lia)]
   rfl
 | succ more ih=>
  intro j f
  rw [show more+1+1+f=more+1+f+1 by lia]
  rcases T.slot j with ⟨e,m⟩ | ⟨k,e,m⟩
  ·left
   refine ⟨j,?_,m,Nat.le_add_right _ _⟩
   unfold SetTable.probe.go
   dsimp only
   rw [e]
  ·have st:SetTable.probe.go t (fun _=>h+1) h (more+1+f+1) { j:=j,more:=more+1,i:=i,perturb:=pt,dummy:=none }=SetTable.probe.go t (fun _=>h+1) h (more+1+f) { j:=j+1,more:=more,i:=i,perturb:=pt,dummy:=none }:=by
    rw [SetTable.probe.go]
    dsimp only
    rw [e]
    dsimp only
    rw [if_neg (by simp;lia)]
    unfold SetTable.advance
    dsimp only
    rw [if_pos (by lia)]
    rfl
   rw [st]
   rcases ih (j+1) f with ⟨j',e1,e2,e3⟩ | ⟨e1,_⟩
   ·exact .inl ⟨j',e1,e2,by lia⟩
   ·exact .inr ⟨e1,m⟩
theorem TabG.leap (T:TabG byText t n) (h:Int) (i pt F:Nat) (hi:i≤t.mask) (hF:10≤F):(∃ j',SetTable.probe.go t (fun _=>h+1) h F (pStart t.mask i pt)=some (.empty j' none)∧j' ∉ t.place.toList∧j'≤t.mask)∨
  (∃ F',F≤F'+10∧SetTable.probe.go t (fun _=>h+1) h F (pStart t.mask i pt)=SetTable.probe.go t (fun _=>h+1) h F' (pStart t.mask ((i * 5+1+pt / 32) % (t.mask+1)) (pt / 32))∧i ∈ t.place.toList):=by
 obtain ⟨r1,r2,r3⟩:=runEnd_le hi
 have e:F=(SetTable.runEnd t.mask i - i)+1+(F - 1 - (SetTable.runEnd t.mask i - i)):=by lia
 rcases T.run h i pt (SetTable.runEnd t.mask i - i) i (F - 1 - (SetTable.runEnd t.mask i - i)) with ⟨j',e1,e2,e3⟩ | ⟨e1,e2⟩
 ·refine .inl ⟨j',?_,e2,by lia⟩
  rw [e]
  exact e1
 ·refine .inr ⟨F - 1 - (SetTable.runEnd t.mask i - i),by lia,?_,e2⟩
  conv=>lhs;rw [e]
  exact e1
theorem TabG.go0 (T:TabG byText t n) (h:Int):∀ (m q i F:Nat),i≤t.mask→10 * m≤F→(∃ j',SetTable.probe.go t (fun _=>h+1) h F (pStart t.mask (it5 i q % (t.mask+1)) 0)=some (.empty j' none)∧j' ∉ t.place.toList∧j'≤t.mask)∨(∀ c,c<m→it5 i (q+c) % (t.mask+1) ∈ t.place.toList)
 | 0,q,i,F,hi,hF=>.inr fun c hc=>absurd hc (by lia)
 | m+1,q,i,F,hi,hF=>by
  have lt:it5 i q % (t.mask+1)<t.mask+1:=Nat.mod_lt _ (by lia)
  rcases T.leap h (it5 i q % (t.mask+1)) 0 F (by lia) (by lia) with ok | ⟨F',hF',e,z⟩
  ·exact .inl ok
  ·have e2:((it5 i q % (t.mask+1)) * 5+1+0 / 32) % (t.mask+1)=it5 i (q+1) % (t.mask+1):=by
    rw [it5_succ,Nat.zero_div,Nat.add_zero,Nat.mul_comm,Nat.add_mod,Nat.mul_mod,Nat.mod_mod,← Nat.mul_mod,← Nat.add_mod]
   rw [e2,Nat.zero_div] at e
   rw [e]
   rcases T.go0 h m (q+1) i F' hi (by lia) with ok | all
   ·exact .inl ok
   ·refine .inr fun c hc=>?_
    cases c with
    | zero=>exact z
    | succ c=>
     have:=all c (by lia)
     rw [show q+(c+1)=q+1+c by lia]
     exact this
theorem TabG.goK (T:TabG byText t n) (hn:n≤t.mask) (h:Int):∀ (k i pt F:Nat),i≤t.mask→pt<32 ^ k→10 * (k+(t.mask+1))≤F→∃ j',SetTable.probe.go t (fun _=>h+1) h F (pStart t.mask i pt)=some (.empty j' none)∧j' ∉ t.place.toList∧j'≤t.mask
 | 0,i,pt,F,hi,hp,hF=>by
  have e:pt=0:=by lia
  subst e
  have e0:it5 i 0 % (t.mask+1)=i:=by
   unfold it5 g5
   rw [Nat.pow_zero,Nat.one_mul,Nat.add_zero,Nat.mod_eq_of_lt (by lia)]
  have q:=T.go0 h (t.mask+1) 0 i F hi (by lia)
  rw [e0] at q
  rcases q with ok | all
  ·exact ok
  ·exfalso
   obtain ⟨k,_,hk⟩:=T.pow
   have sub:List.range (t.mask+1) ⊆ t.place.toList:=fun j hj=>by
    have hj':=List.mem_range.mp hj
    rw [hk] at hj'
    obtain ⟨m,hm,e⟩:=it5_all (i:=i) hj'
    rw [← hk] at hm e
    have:=all m hm
    rw [Nat.zero_add,e] at this
    exact this
   have:=List.Nodup.length_le_of_subset List.nodup_range sub
   have hs:=T.size
   simp at this
   lia
 | k+1,i,pt,F,hi,hp,hF=>by
  rcases T.leap h i pt F hi (by lia) with ok | ⟨F',hF',e,z⟩
  ·exact ok
  ·rw [e]
   have lt:(i * 5+1+pt / 32) % (t.mask+1)<t.mask+1:=Nat.mod_lt _ (by lia)
   refine T.goK hn h k _ _ F' (by lia) ?_ (by lia)
   rw [Nat.pow_succ] at hp
   lia
theorem bits_lt (h:Int):SetTable.bits h<32 ^ 13:=by
 unfold SetTable.bits
 have h1:0≤h % (2 ^ 64:Int):=Int.emod_nonneg _ (by decide)
 have h2:h % (2 ^ 64:Int)<2 ^ 64:=Int.emod_lt_of_pos _ (by decide)
 have:((2:Int) ^ 64)=18446744073709551616:=by decide
 rw [this] at h1 h2 ⊢
 have h3:(32:Nat) ^ 13=36893488147419103232:=by decide
 lia
theorem TabG.free (T:TabG byText t n) (hn:n≤t.mask) (h:Int):∃ j,t.freeSlot h=some (j,false)∧j ∉ t.place.toList∧j≤t.mask:=by
 have lt:SetTable.bits h % (t.mask+1)<t.mask+1:=Nat.mod_lt _ (by lia)
 obtain ⟨j,e,z,l⟩:=T.goK hn h 13 (SetTable.bits h % (t.mask+1)) (SetTable.bits h) (10 * SetTable.turns t.mask) (by lia) (bits_lt h) (by unfold SetTable.turns;lia)
 refine ⟨j,?_,z,l⟩
 unfold SetTable.freeSlot SetTable.probe
 have hst:t.probeStart h=pStart t.mask (SetTable.bits h % (t.mask+1)) (SetTable.bits h):=rfl
 rw [hst,e]
 rfl
theorem TabG.lay (T:TabG byText t n) (hn:n<t.mask) {es:Array (Int × Value)} (he:es.size=n) (h:Int) (x:Value) :
  ∃ p t',layNew t es h x=(SetTable.insertAt es p (h,x),t',false,false)∧TabG byText t' (n+1)∧t'.mask=t.mask∧p≤es.size:=by
 obtain ⟨j,e,z,l⟩:=T.free (by lia) h
 obtain ⟨b1,b2,b3⟩:=qC9 (j:=j) T.up
 have hd:SetTable.has t.dummies j=false:=by rw [T.dum];rfl
 have tl:(SetTable.insertAt t.place (SetTable.below t.place j) j).toList=t.place.toList.take (SetTable.below t.place j)++j::t.place.toList.drop (SetTable.below t.place j):=qAT _ _ _
 have sz:(SetTable.insertAt t.place (SetTable.below t.place j) j).size=n+1:=by
  rw [← Array.length_toList,tl,List.length_append,List.length_cons,List.length_take,List.length_drop,Array.length_toList,T.size]
  rw [T.size] at b1
  lia
 have T':TabG byText { t with place:=SetTable.insertAt t.place (SetTable.below t.place j) j,dummies:=t.dummies } (n+1):=by
  refine ⟨T.pow,T.dum,T.plain,T.led,sz,?_,?_⟩
  ·show (SetTable.insertAt t.place (SetTable.below t.place j) j).toList.Pairwise (·<·)
   rw [tl]
   have lo:∀ a ∈ t.place.toList.take (SetTable.below t.place j),a<j:=fun a ha=>by
    obtain ⟨i,hi,hai⟩:=List.mem_iff_getElem.mp ha
    rw [List.length_take,Array.length_toList] at hi
    have hi2:i<t.place.size:=by lia
    have:=b2 i (by lia)
    rw [Array.getD_eq_getD_getElem?,Array.getElem?_eq_getElem hi2] at this
    rw [List.getElem_take] at hai
    rw [← hai]
    simpa using this
   have hi:∀ a ∈ t.place.toList.drop (SetTable.below t.place j),j<a:=fun a ha=>by
    have hm:a ∈ t.place.toList:=List.mem_of_mem_drop ha
    obtain ⟨i,hi,hai⟩:=List.mem_iff_getElem.mp ha
    rw [List.length_drop,Array.length_toList] at hi
    have hi2:SetTable.below t.place j+i<t.place.size:=by lia
    have:=b3 _ (Nat.le_add_right _ i) hi2
    rw [Array.getD_eq_getD_getElem?,Array.getElem?_eq_getElem hi2] at this
    rw [List.getElem_drop] at hai
    have h3:j≤a:=by
     rw [← hai]
     simpa using this
    rcases Nat.lt_or_eq_of_le h3 with h4 | h4
    ·exact h4
    ·exact absurd (h4 ▸ hm) z
   refine List.pairwise_append.mpr ⟨T.up.sublist (List.take_sublist _ _),List.pairwise_cons.mpr ⟨hi,T.up.sublist (List.drop_sublist _ _)⟩,fun a ha b hb=>?_⟩
   rcases List.mem_cons.mp hb with e | hb
   ·rw [e];exact lo a ha
   ·exact Nat.lt_trans (lo a ha) (hi b hb)
  ·show ∀ i ∈ (SetTable.insertAt t.place (SetTable.below t.place j) j).toList,i≤t.mask
   rw [tl]
   intro i hi
   rcases List.mem_append.mp hi with hi | hi
   ·exact T.le i (List.mem_of_mem_take hi)
   ·rcases List.mem_cons.mp hi with e | hi
    ·lia
    ·exact T.le i (List.mem_of_mem_drop hi)
 have fits:SetTable.fits { t with place:=SetTable.insertAt t.place (SetTable.below t.place j) j,dummies:=t.dummies } (n+1)=true:=by
  unfold SetTable.fits SetTable.fill
  dsimp only
  rw [sz,T.dum]
  have:((#[]:Array Nat)).size=0:=rfl
  simp only [this,beq_self_eq_true,Bool.true_and,decide_eq_true_eq]
  lia
 have szE:(SetTable.insertAt es (SetTable.below t.place j) (h,x)).size=n+1:=by
  rw [← Array.length_toList,qAT,List.length_append,List.length_cons,List.length_take,List.length_drop,Array.length_toList]
  rw [T.size] at b1
  lia
 refine ⟨SetTable.below t.place j,{ t with place:=SetTable.insertAt t.place (SetTable.below t.place j) j,dummies:=t.dummies },?_,T',rfl,by rw [he,← T.size];exact b1⟩
 unfold layNew
 rw [e]
 dsimp only
 unfold SetTable.put
 rw [hd]
 dsimp only
 rw [szE]
 unfold SetTable.orStandIn
 simp only [Bool.false_eq_true,if_false]
 rw [fits]
 simp
end
end L2
namespace L2
open PySem PySem.Spec PyProof.Rows
theorem perm_of {α:Type}:∀ {l m:List α},l.Nodup→m.Nodup→(∀ x,x ∈ l ↔ x ∈ m)→l.Perm m
 | [],[],_,_,_=>.refl _
 | [],y::m,_,_,h=>absurd ((h y).mpr List.mem_cons_self) (by simp)
 | x::l,m,hl,hm,h=>by
  obtain ⟨s,t,rfl⟩:=List.append_of_mem ((h x).mp List.mem_cons_self)
  have l1:=List.nodup_cons.mp hl
  have m1:(x::(s++t)).Nodup:=(List.perm_middle.nodup_iff).mp hm
  have m2:=List.nodup_cons.mp m1
  refine ((perm_of l1.2 m2.2 fun y=>?_).cons x).trans List.perm_middle.symm
  have key:=h y
  rw [List.mem_cons,List.perm_middle.mem_iff,List.mem_cons] at key
  constructor
  ·intro hy
   rcases key.mp (.inr hy) with e | e
   ·exact absurd (e ▸ hy) l1.1
   ·exact e
  ·intro hy
   rcases key.mpr (.inr hy) with e | e
   ·exact absurd (e ▸ hy) m2.1
   ·exact e
theorem sizeAbove_go:∀ (fuel k n:Nat),3≤k→n<2 ^ k * 2 ^ fuel→∃ k',3≤k'∧SetTable.sizeAbove.go n fuel (2 ^ k)=2 ^ k'∧n<2 ^ k'
 | 0,k,n,hk,h=>⟨k,hk,rfl,by simpa using h⟩
 | fuel+1,k,n,hk,h=>by
  rw [SetTable.sizeAbove.go]
  by_cases c:2 ^ k≤n
  ·rw [if_pos c,← Nat.pow_succ]
   exact sizeAbove_go fuel (k+1) n (by lia) (by rw [Nat.pow_succ,Nat.mul_assoc,← Nat.pow_succ'];exact h)
  ·rw [if_neg c]
   exact ⟨k,hk,rfl,by lia⟩
theorem sizeAbove_ok {n:Nat} (h:n≤1000000):∃ k,3≤k∧SetTable.sizeAbove n=2 ^ k∧n<2 ^ k:=by
 unfold SetTable.sizeAbove
 exact sizeAbove_go 64 3 n (Nat.le_refl _) (Nat.lt_of_le_of_lt h (by decide))
section
variable {mask:Nat} {owner:Array (Option Nat)}
theorem free1 (i pt F:Nat) (hi:i≤mask):(∃ j,SetTable.layClean.free mask owner (F+1) i pt=some j∧owner.getD j (some 0)=none∧j≤mask)∨
  (SetTable.layClean.free mask owner (F+1) i pt=SetTable.layClean.free mask owner F ((i * 5+1+pt / 32) % (mask+1)) (pt / 32)∧owner.getD i (some 0) ≠ none):=by
 obtain ⟨r1,r2,r3⟩:=runEnd_le hi
 cases e:(List.range (SetTable.runEnd mask i+1 - i)).find? fun k=>(owner.getD (i+k) (some 0)).isNone with
 | some k=>
  left
  have h1:=List.find?_some e
  have h2:=List.mem_range.mp (List.mem_of_find?_eq_some e)
  refine ⟨i+k,?_,by simpa using h1,by lia⟩
  rw [SetTable.layClean.free,e]
 | none=>
  right
  refine ⟨?_,?_⟩
  ·rw [SetTable.layClean.free,e]
   rfl
  ·have:=List.find?_eq_none.mp e 0 (List.mem_range.mpr (by lia))
   simpa using this
theorem free0:∀ (m q i F:Nat),i≤mask→m≤F→(∃ j,SetTable.layClean.free mask owner F (it5 i q % (mask+1)) 0=some j∧owner.getD j (some 0)=none∧j≤mask)∨(∀ c,c<m→owner.getD (it5 i (q+c) % (mask+1)) (some 0) ≠ none)
 | 0,q,i,F,hi,hF=>.inr fun c hc=>absurd hc (by lia)
 | m+1,q,i,F,hi,hF=>by
  have lt:it5 i q % (mask+1)<mask+1:=Nat.mod_lt _ (by lia)
  obtain ⟨F',rfl⟩:∃ F',F=F'+1:=⟨F - 1,by lia⟩
  rcases free1 (mask:=mask) (owner:=owner) (it5 i q % (mask+1)) 0 F' (by lia) with ok | ⟨e,z⟩
  ·exact .inl ok
  ·have e2:((it5 i q % (mask+1)) * 5+1+0 / 32) % (mask+1)=it5 i (q+1) % (mask+1):=by
    rw [it5_succ,Nat.zero_div,Nat.add_zero,Nat.mul_comm,Nat.add_mod,Nat.mul_mod,Nat.mod_mod,← Nat.mul_mod,← Nat.add_mod]
   rw [e2,Nat.zero_div] at e
   rw [e]
   rcases free0 m (q+1) i F' hi (by lia) with ok | all
   ·exact .inl ok
   ·refine .inr fun c hc=>?_
    cases c with
    | zero=>exact z
    | succ c=>
     have:=all c (by lia)
     rw [show q+(c+1)=q+1+c by lia]
     exact this
theorem freeK {p:Nat} (hp:mask+1=2 ^ p) {j0:Nat} (h0:j0≤mask) (hj0:owner.getD j0 (some 0)=none):∀ (k i pt F:Nat),i≤mask→pt<32 ^ k→k+(mask+1)≤F→∃ j,SetTable.layClean.free mask owner F i pt=some j∧owner.getD j (some 0)=none∧j≤mask
 | 0,i,pt,F,hi,hpt,hF=>by
  have e:pt=0:=by lia
  subst e
  have e0:it5 i 0 % (mask+1)=i:=by
   unfold it5 g5
   rw [Nat.pow_zero,Nat.one_mul,Nat.add_zero,Nat.mod_eq_of_lt (by lia)]
  have q:=free0 (mask:=mask) (owner:=owner) (mask+1) 0 i F hi (by lia)
  rw [e0] at q
  rcases q with ok | all
  ·exact ok
  ·exfalso
   obtain ⟨m,hm,e⟩:=it5_all (k:=p) (i:=i) (j:=j0) (by lia)
   rw [← hp] at hm e
   have:=all m hm
   rw [Nat.zero_add,e] at this
   exact this hj0
 | k+1,i,pt,F,hi,hpt,hF=>by
  obtain ⟨F',rfl⟩:∃ F',F=F'+1:=⟨F - 1,by lia⟩
  rcases free1 (mask:=mask) (owner:=owner) i pt F' hi with ok | ⟨e,z⟩
  ·exact ok
  ·rw [e]
   have lt:(i * 5+1+pt / 32) % (mask+1)<mask+1:=Nat.mod_lt _ (by lia)
   refine freeK hp h0 hj0 k _ _ F' (by lia) ?_ (by lia)
   rw [Nat.pow_succ] at hpt
   lia
end
structure Own (N:Nat) (L:List Nat) (owner:Array (Option Nat)):Prop where
 size:owner.size=N
 nd:L.Nodup
 lt:∀ j ∈ L,j<N
 at_:∀ (m j:Nat),L[m]?=some j→owner[j]?=some (some m)
 no:∀ j,j<N→j ∉ L→owner[j]?=some none
theorem Own.put {N:Nat} {L:List Nat} {owner:Array (Option Nat)} (o:Own N L owner) {j:Nat} (hj:j<N) (hn:j ∉ L):Own N (L++[j]) (owner.setIfInBounds j (some L.length)):=by
 refine ⟨by simp [o.size],qD4 o.nd hn,fun i hi=>?_,fun m i h=>?_,fun i hi hni=>?_⟩
 ·rcases List.mem_append.mp hi with hi | hi
  ·exact o.lt i hi
  ·rw [List.mem_singleton.mp hi]
   exact hj
 ·by_cases c:m<L.length
  ·rw [List.getElem?_append_left c] at h
   have ne:j ≠ i:=fun z=>hn (z ▸ List.mem_of_getElem? h)
   rw [Array.getElem?_setIfInBounds_ne ne]
   exact o.at_ m i h
  ·rw [List.getElem?_append_right (by lia)] at h
   have hm:m=L.length:=by
    have:=(List.getElem?_eq_some_iff.mp h).1
    simp at this
    lia
   subst hm
   rw [Nat.sub_self] at h
   cases h
   rw [Array.getElem?_setIfInBounds_self_of_lt (by rw [o.size];exact hj)]
 ·have ne:j ≠ i:=fun z=>hni (List.mem_append.mpr (.inr (by rw [z];exact List.mem_singleton.mpr rfl)))
  rw [Array.getElem?_setIfInBounds_ne ne]
  exact o.no i hi fun z=>hni (List.mem_append.mpr (.inl z))
theorem own_fold {mask p:Nat} (hp:mask+1=2 ^ p):∀ (hs:List Int) (L:List Nat) (owner:Array (Option Nat)),Own (mask+1) L owner→L.length+hs.length≤mask→
  ∃ L' owner',hs.foldl (fun (acc:Option (Array (Option Nat) × Nat)) (h:Int)=>acc >>= fun x=>SetTable.layClean.free mask x.1 (SetTable.turns mask) (SetTable.bits h % (mask+1)) (SetTable.bits h) >>= fun j=>some (x.1.setIfInBounds j (some x.2),x.2+1)) (some (owner,L.length))=some (owner',L'.length)∧Own (mask+1) L' owner'∧L'.length=L.length+hs.length
 | [],L,owner,o,_=>⟨L,owner,rfl,o,by simp⟩
 | h::hs,L,owner,o,hl=>by
  rw [List.length_cons] at hl
  obtain ⟨j0,hj0,hjn⟩:∃ j0,j0<mask+1∧j0 ∉ L:=by
   apply Classical.byContradiction
   intro no
   have sub:List.range (mask+1) ⊆ L:=fun j hj=>Classical.byContradiction fun z=>no ⟨j,List.mem_range.mp hj,z⟩
   have:=List.Nodup.length_le_of_subset List.nodup_range sub
   simp at this
   lia
  have g0:owner.getD j0 (some 0)=none:=by
   rw [Array.getD_eq_getD_getElem?,o.no j0 hj0 hjn]
   rfl
  have lt:SetTable.bits h % (mask+1)<mask+1:=Nat.mod_lt _ (by lia)
  obtain ⟨j,e,z,l⟩:=freeK hp (by lia) g0 13 (SetTable.bits h % (mask+1)) (SetTable.bits h) (SetTable.turns mask) (by lia) (bits_lt h) (by unfold SetTable.turns;lia)
  have jn:j ∉ L:=fun hm=>by
   obtain ⟨m,hm⟩:=List.getElem?_of_mem hm
   rw [Array.getD_eq_getD_getElem?,o.at_ m j hm] at z
   cases z
  have st:=o.put (show j<mask+1 by lia) jn
  obtain ⟨L',owner',e1,o',e2⟩:=own_fold hp hs (L++[j]) _ st (by rw [List.length_append,List.length_singleton];lia)
  refine ⟨L',owner',?_,o',by rw [e2,List.length_append,List.length_singleton,List.length_cons];lia⟩
  rw [List.foldl_cons]
  have e3:((some (owner,L.length):Option (Array (Option Nat) × Nat)) >>= fun x=>SetTable.layClean.free mask x.1 (SetTable.turns mask) (SetTable.bits h % (mask+1)) (SetTable.bits h) >>= fun j=>some (x.1.setIfInBounds j (some x.2),x.2+1))=some (owner.setIfInBounds j (some L.length),(L++[j]).length):=by
   show (SetTable.layClean.free mask owner (SetTable.turns mask) (SetTable.bits h % (mask+1)) (SetTable.bits h) >>= _)=_
   rw [e,List.length_append,List.length_singleton]
   rfl
  rw [e3]
  exact e1
theorem own_new (N:Nat):Own N [] (Array.replicate N none):=⟨by simp,.nil,fun _ h=>(nomatch h),fun m j h=>by simp at h,fun j hj _=>by simp [hj]⟩
theorem layClean_ok {mask p:Nat} (hp:mask+1=2 ^ p) (hashes:Array Int) (hl:hashes.size≤mask):∃ L owner,SetTable.layClean mask hashes=some owner∧Own (mask+1) L owner∧L.length=hashes.size:=by
 obtain ⟨L,owner,e,o,l⟩:=own_fold hp hashes.toList [] _ (own_new (mask+1)) (by simpa using hl)
 refine ⟨L,owner,?_,o,by simpa using l⟩
 unfold SetTable.layClean
 rw [← Array.foldl_toList]
 have:(hashes.toList.foldl (fun (acc:Option (Array (Option Nat) × Nat)) (h:Int)=>do
   let (owner,k) ← acc
   let j ← SetTable.layClean.free mask owner (SetTable.turns mask) (SetTable.bits h % (mask+1)) (SetTable.bits h)
   pure (owner.setIfInBounds j (some k),k+1)) (some (Array.replicate (mask+1) none,0)))=some (owner,L.length):=e
 rw [this]
 rfl
theorem range_get {α:Type}:∀ l:List α,(List.range l.length).filterMap (fun i=>l[i]?)=l
 | []=>rfl
 | a::l=>by
  rw [List.length_cons,List.range_succ_eq_map,List.filterMap_cons]
  show a::((List.range l.length).map Nat.succ).filterMap (fun i=>(a::l)[i]?)=a::l
  rw [List.filterMap_map]
  congr 1
  exact range_get l
theorem relay_ok {b:Bool × Bool} {t:SetTable} {n:Nat} (T:TabG b t n) {es:Array (Int × Value)} (he:es.size=n) {wanted:Nat} (hw:wanted≤1000000) (hn:n<wanted) :
  ∃ es' t',relayAll t es wanted=(es',t',false)∧es'.toList.Perm es.toList∧TabG b t' n∧wanted≤t'.mask:=by
 obtain ⟨k,k3,hk,hlt⟩:=sizeAbove_ok hw
 have hmk:SetTable.sizeAbove wanted - 1+1=2 ^ k:=by rw [hk];have:=Nat.two_pow_pos k;lia
 have h8:8≤2 ^ k:=by
  have:=Nat.pow_le_pow_right (n:=2) (by decide) k3
  exact this
 obtain ⟨L,owner,e,o,l⟩:=layClean_ok hmk (es.map (·.1)) (by rw [Array.size_map,he,hk];lia)
 rw [Array.size_map,he] at l
 generalize hM:SetTable.sizeAbove wanted - 1=M at *
 have fa:∀ j m,(owner.getD j none).map (fun x=>(j,x))=some (j,m) ↔ L[m]?=some j:=by
  intro j m
  rw [Array.getD_eq_getD_getElem?]
  by_cases hj:j<M+1
  ·by_cases hjL:j ∈ L
   ·obtain ⟨m',hm'⟩:=List.getElem?_of_mem hjL
    rw [o.at_ m' j hm']
    constructor
    ·intro z
     have:m'=m:=by simpa using z
     rw [← this]
     exact hm'
    ·intro z
     have:some (some m')=some (some m):=(o.at_ m' j hm').symm.trans (o.at_ m j z)
     cases this
     rfl
   ·rw [o.no j hj hjL]
    constructor
    ·intro z
     simp at z
    ·intro z
     exact absurd (List.mem_of_getElem? z) hjL
  ·rw [Array.getElem?_eq_none (by rw [o.size];lia)]
   constructor
   ·intro z
    simp at z
   ·intro z
    exact absurd (o.lt j (List.mem_of_getElem? z)) hj
 have sh:∀ j x,x ∈ ((owner.getD j none).map fun y=>(j,y))→x.1=j∧L[x.2]?=some j:=by
  intro j x hx
  have hx':(owner.getD j none).map (fun y=>(j,y))=some x:=hx
  obtain ⟨y,hy,e⟩:=Option.map_eq_some_iff.mp hx'
  subst e
  exact ⟨rfl,(fa j y).mp hx'⟩
 generalize hlive:(List.range (M+1)).filterMap (fun j=>(owner.getD j none).map (fun x=>(j,x)))=live
 have p1:live.Pairwise fun a c=>a.1<c.1:=by
  rw [← hlive,List.pairwise_filterMap]
  refine List.pairwise_lt_range.imp fun {a c} hac x hx y hy=>?_
  rw [(sh a x hx).1,(sh c y hy).1]
  exact hac
 have p2:live.Pairwise fun a c=>a.2 ≠ c.2:=by
  rw [← hlive,List.pairwise_filterMap]
  refine List.pairwise_lt_range.imp fun {a c} hac x hx y hy z=>?_
  have h1:=(sh a x hx).2
  have h2:=(sh c y hy).2
  rw [z,h2] at h1
  cases h1
  lia
 have mem:∀ m,m ∈ live.map (·.2) ↔ m ∈ List.range n:=by
  intro m
  rw [List.mem_map,List.mem_range]
  constructor
  ·rintro ⟨x,hx,rfl⟩
   rw [← hlive] at hx
   obtain ⟨j,_,hj⟩:=List.mem_filterMap.mp hx
   have:=(List.getElem?_eq_some_iff.mp (sh j x hj).2).1
   lia
  ·intro hm
   have hm':m<L.length:=by lia
   have hL:=List.getElem?_eq_getElem hm'
   refine ⟨(L[m],m),?_,rfl⟩
   rw [← hlive]
   exact List.mem_filterMap.mpr ⟨L[m],List.mem_range.mpr (o.lt _ (List.getElem_mem hm')),(fa L[m] m).mpr hL⟩
 have pm:(live.map (·.2)).Perm (List.range n):=perm_of (by rw [List.nodup_iff_pairwise_ne,List.pairwise_map];exact p2) List.nodup_range mem
 have ll:live.length=n:=by have:=pm.length_eq;simpa using this
 have es':((live.map (·.2)).toArray.filterMap (fun i=>es[i]?)).toList.Perm es.toList:=by
  rw [Array.toList_filterMap]
  have:=pm.filterMap (fun i=>es[i]?)
  have e2:(List.range n).filterMap (fun i=>es[i]?)=es.toList:=by
   have:=range_get es.toList
   rw [Array.length_toList,he] at this
   simpa using this
  rw [e2] at this
  simpa using this
 have szE:((live.map (·.2)).toArray.filterMap (fun i=>es[i]?)).size=n:=by
  rw [← Array.length_toList,es'.length_eq,Array.length_toList,he]
 refine ⟨(live.map (·.2)).toArray.filterMap (fun i=>es[i]?),{ mask:=M,place:=(live.map (·.1)).toArray,dummies:=#[],finger:=t.finger,led:=t.led,moves:=t.movedTo M,plain:=t.plain },?_,es',⟨⟨k,k3,hmk⟩,rfl,T.plain,T.led,by simp [ll],?_,?_⟩,?_⟩
 ·have er:t.relaid (es.map (·.1)) wanted=some ({ mask:=M,place:=(live.map (·.1)).toArray,dummies:=#[],finger:=t.finger,led:=t.led,moves:=t.movedTo M,plain:=t.plain },(live.map (·.2)).toArray):=by
   unfold SetTable.relaid SetTable.laid
   rw [hM,e]
   show some _=some _
   rw [← hlive]
  unfold relayAll
  rw [er]
  dsimp only
  have c1:coversAll (live.map (·.2)).toArray es.size=true:=by
   unfold coversAll
   rw [he]
   exact List.isPerm_iff.mpr pm
  have c2:SetTable.fits { mask:=M,place:=(live.map (·.1)).toArray,dummies:=#[],finger:=t.finger,led:=t.led,moves:=t.movedTo M,plain:=t.plain } ((live.map (·.2)).toArray.filterMap (fun i=>es[i]?)).size=true:=by
   unfold SetTable.fits SetTable.fill
   rw [szE]
   simp [ll]
   lia
  rw [c1,c2]
  rfl
 ·show (live.map (·.1)).toArray.toList.Pairwise (·<·)
  rw [List.toList_toArray,List.pairwise_map]
  exact p1
 ·show ∀ j ∈ (live.map (·.1)).toArray.toList,j≤M
  intro j hj
  rw [List.toList_toArray] at hj
  obtain ⟨x,hx,rfl⟩:=List.mem_map.mp hj
  rw [← hlive] at hx
  obtain ⟨i,hi,hx⟩:=List.mem_filterMap.mp hx
  rw [(sh i x hx).1]
  have:=List.mem_range.mp hi
  lia
 ·show wanted≤M
  lia
end L2
namespace L2
open PySem PySem.Spec PyProof.Rows
def SetG (w:World) (a:Addr) (zs:List Int) (h:Heap):Prop:=
 ∃ (es:Array (Int × Value)) (ep:Nat) (t:SetTable) (ks:List Int),h.get? a=some { cls:=.type "set",data:=.set es ep t }∧TabG (byT w,true) t es.size∧Ents ks es.toList∧ks.Perm zs∧zs.Nodup∧zs.length<4095∧es.size * 5<t.mask * 3
theorem SetG.at {w:World} {a:Addr} {zs:List Int} {h h':Heap} (x:SetG w a zs h) (k:∀ o,h.get? a=some o→h'.get? a=some o):SetG w a zs h':=
 let ⟨es,ep,t,ks,h1,r⟩:=x;⟨es,ep,t,ks,k _ h1,r⟩
theorem TabG.fits {b:Bool × Bool} {t:SetTable} {n:Nat} (T:TabG b t n) (hn:n≤t.mask):t.fits n=true:=by
 unfold SetTable.fits SetTable.fill
 rw [T.size,T.dum]
 have:((#[]:Array Nat)).size=0:=rfl
 simp only [this,beq_self_eq_true,Bool.true_and,decide_eq_true_eq]
 lia
theorem TabG.mask7 {b:Bool × Bool} {t:SetTable} {n:Nat} (T:TabG b t n):7≤t.mask:=by
 obtain ⟨k,k3,hk⟩:=T.pow
 have:=Nat.pow_le_pow_right (n:=2) (by decide) k3
 lia
theorem insertAt_perm {es:Array (Int × Value)} {p:Nat} {x:Int × Value}:(SetTable.insertAt es p x).toList.Perm (es.toList++[x]):=by
 rw [qAT]
 have e3:es.toList++[x]=es.toList.take p++(es.toList.drop p++[x]):=by
  rw [← List.append_assoc,List.take_append_drop]
 rw [e3]
 exact List.Perm.append_left _ (List.perm_append_singleton _ _).symm
section
variable {prog:Program} {w:World} {A:Around} {E:Value→Shared→Prop} {s:Shared}
theorem put_at {a:Addr} {es es':Array (Int × Value)} {ep:Nat} {t t':SetTable} {h:Heap} (ho:h.get? a=some { cls:=.type "set",data:=.set es ep t }) :
  (h.update a (Obj.putSet es' t')).get? a=some { cls:=.type "set",data:=.set es' (ep+1) t' }:=by
 have:=Heap.get?_update_self (Obj.putSet es' t') ho (by rw [putSet_of _ _ (ep:=ep) (es:=es) (t:=t) rfl];rfl)
 rw [putSet_of _ _ (ep:=ep) (es:=es) (t:=t) rfl] at this
 exact this
theorem setAdd_G {a:Addr} {zs:List Int} {k:Int} {tk:Tok} {Q:Bool→Shared→Prop} (hS:SetG w a zs s.heap) (hroom:zs.length<4094)
  (h:∀ h',Heap.SameBut a s.heap h'→SetG w a (addI zs k) h'→∀ b,Q b { s with heap:=h' }):wpAny (model prog w) A (setAddHashed a (.int k tk) (hashInt k)) Q E s:=by
 obtain ⟨es,ep,t,ks,ho,T,he,hp,hnd,hlen,hroom2⟩:=id hS
 have hsz:es.size=zs.length:=SetI.size (a:=a) (h:=s.heap) he hp
 have hel:ElemsOf (intKind prog w) es.toList:=he.elems
 have h7:=T.mask7
 have hb:es.size<scanBound:=by rw [hsz];unfold scanBound;lia
 have hf:t.fits es.size=true:=T.fits (by lia)
 unfold setAddHashed setAddHashedIn
 refine wpAny_holding (wpAny_bind (wpAny_setState_of ho rfl hf ?_))
 dsimp only
 rw [byScan_of (knd:=intKind prog w) (x:=.int k tk) rfl hb hel]
 simp only [↓reduceIte]
 unfold setAddByScan
 refine wpAny_bind ?_
 refine wpAny_bind (wpAny_rule ?_)
 refine wpAny_bind (wpAny_setScan_of (knd:=intKind prog w) (k:=k) (intKind_is _ _ _ _) ho rfl hf hel ?_)
 have hfd:=Ents.find (prog:=prog) (w:=w) (k:=k) he
 cases hr:List.findIdx? (fun e=>(intKind prog w).is k e.2) es.toList with
 | some j=>
  dsimp only
  rw [hr] at hfd
  have hk:k ∈ zs:=hp.mem_iff.mp (hfd.mp rfl)
  refine wpAny_pure (wpAny_pure ?_)
  have e:s={ s with heap:=s.heap }:=by cases s;rfl
  rw [e]
  refine h s.heap (Heap.SameBut.refl a s.heap) ?_ _
  unfold addI
  rw [if_pos hk]
  exact hS
 | none=>
  dsimp only
  rw [hr] at hfd
  have hk:¬ k ∈ zs:=fun z=>by have:=hfd.mpr (hp.mem_iff.mpr z);cases this
  obtain ⟨p,t',e1,T',tm,hpe⟩:=T.lay (by lia) rfl (hashInt k) (.int k tk)
  rw [e1]
  dsimp only
  refine wpAny_bind (wpAny_pure ?_)
  rw [show t'.plain=true from T'.plain]
  simp only [↓reduceIte]
  rw [hashByValue_scannable 8 (x:=.int k tk) rfl]
  refine wpAny_bind (wpAny_pure ?_)
  have hszE:(SetTable.insertAt es p (hashInt k,Value.int k tk)).size=es.size+1:=by
   rw [← Array.length_toList,insertAt_perm.length_eq,List.length_append,Array.length_toList]
   rfl
  rw [show plainKind (Value.int k tk)=true from rfl]
  simp only [↓reduceIte]
  show wpAny _ _ (storeSet a (SetTable.insertAt es p (hashInt k,.int k tk)) t' >>= _) _ _ _
  refine wpAny_bind (wpAny_storeSet_of ho rfl ?_ (by rw [hszE,hsz,sizeLine_eq];lia))
  have fin:∀ (es2:Array (Int × Value)) (ep2:Nat) (t2:SetTable) (h2:Heap),h2.get? a=some { cls:=.type "set",data:=.set es2 ep2 t2 }→es2.toList.Perm (SetTable.insertAt es p (hashInt k,Value.int k tk)).toList→TabG (byT w,true) t2 (es.size+1)→(es.size+1) * 5<t2.mask * 3→SetG w a (addI zs k) h2:=by
   intro es2 ep2 t2 h2 g2 pm T2 full
   obtain ⟨ks',h4,h5⟩:=Ents.perm (ks:=ks++[k]) (Paired.snoc he ⟨tk,rfl⟩) (pm.trans insertAt_perm)
   have hs2:es2.size=es.size+1:=by rw [← hszE,← Array.length_toList,pm.length_eq,Array.length_toList]
   refine ⟨es2,ep2,t2,ks',g2,by rw [hs2];exact T2,h4,?_,?_,?_,by rw [hs2];exact full⟩
   ·unfold addI
    rw [if_neg hk]
    exact h5.trans (hp.append_right _)
   ·unfold addI
    rw [if_neg hk]
    exact qD4 hnd hk
   ·unfold addI
    rw [if_neg hk,List.length_append,List.length_singleton]
    lia
  have hg:=put_at (es':=SetTable.insertAt es p (hashInt k,.int k tk)) (t':=t') ho
  have fill:t'.fill=es.size+1:=by
   unfold SetTable.fill
   rw [T'.size,T'.dum]
   rfl
  cases tf:t'.tooFull with
  | false=>
   simp only [Bool.and_false,Bool.false_eq_true,↓reduceIte]
   refine wpAny_pure (wpAny_pure ?_)
   refine h _ (Heap.SameBut.update s.heap a _) (fin _ _ _ _ hg (.refl _) T' ?_) _
   unfold SetTable.tooFull at tf
   rw [fill] at tf
   have:=of_decide_eq_false tf
   lia
  | true=>
   simp only [Bool.not_false,Bool.and_self,↓reduceIte]
   rw [hszE]
   have gr:SetTable.grown (es.size+1)=(es.size+1) * 4:=by
    unfold SetTable.grown
    rw [if_neg (by lia)]
   obtain ⟨es2,t2,e2,p2,T2,m2⟩:=relay_ok T' hszE (wanted:=SetTable.grown (es.size+1)) (by rw [gr];lia) (by rw [gr];lia)
   rw [gr] at m2
   rw [e2]
   dsimp only
   refine wpAny_bind (wpAny_pure ?_)
   refine wpAny_bind (wpAny_storeSet_of hg rfl ?_ (by rw [← Array.length_toList,p2.length_eq,Array.length_toList,hszE,hsz,sizeLine_eq];lia))
   refine wpAny_pure (wpAny_pure ?_)
   exact h _ ((Heap.SameBut.update s.heap a _).trans (Heap.SameBut.update _ a _)) (fin _ _ _ _ (put_at hg) p2 T2 (by lia)) _
end
section
variable {prog:Program} {w:World} {A:Around} {R:Result→Shared→Prop} {I:Addr} {fp wr:List Addr} {G:Array GenState→Array GenState→Prop} {n:Nat} {P:Nat→Value→Prop} {St:Nat→Shared→Prop}
theorem set_update_G (W:WalksS prog w A.in1 I fp wr G n P St) (S:Addr) (hSf:S ∉ fp) (ns:List Int) (hnn:ns.length=n) (h4:n≤4000) (hval:∀ i v,P i v→∃ t,v=.int (ns.getD i 0) t) :
  ∀ (k i:Nat) (s:Shared),n - i=k→i≤n→St i s→SetG w S (dedI (ns.take i)) s.heap→
   (∀ s',Moved (S::wr) G s s'→SetG w S (dedI ns) s'.heap→R (.ok (.ret .none)) s')→
   codeAny (model prog w) A (.builtin "set.update.loop" ⟨[.ref S,.ref I],[]⟩) R s:=by
 have hSw:S ∉ wr:=fun h=>hSf (W.sub _ h)
 have hsub:∀ b ∈ wr,b ∈ S::wr:=fun b hb=>List.mem_cons_of_mem _ hb
 intro k
 induction k with
 | zero=>
  intro i s hk hi hst hS hR
  have hin:i=n:=by lia
  subst hin
  refine codeAny_builtin F.entry_set_update_loop ?_
  rw [Around.under_plainId F.plain_set_update_loop _]
  show wpAny _ A.in1 (pyNext (.ref I) >>= _) _ _ s
  refine wpAny_bind (W.done s _ _ hst fun s' hm=>?_)
  show wpAny _ A.in1 (ret Value.none) _ _ s'
  rw [List.take_of_length_le (by lia)] at hS
  exact wpAny_pure (hR s' (hm.mono hsub) (hS.at fun o e=>hm.heap S _ hSw e))
 | succ k ih=>
  intro i s hk hi hst hS hR
  have hlt:i<n:=by lia
  refine codeAny_builtin F.entry_set_update_loop ?_
  rw [Around.under_plainId F.plain_set_update_loop _]
  show wpAny _ A.in1 (pyNext (.ref I) >>= _) _ _ s
  refine wpAny_bind (W.item i s _ _ hlt hst fun v s' hP hst' hm=>?_)
  obtain ⟨t,rfl⟩:=hval i v hP
  have hS':SetG w S (dedI (ns.take i)) s'.heap:=hS.at fun o e=>hm.heap S _ hSw e
  show wpAny _ A.in1 (holding [Value.int (ns.getD i 0) t] (setAdd S (.int (ns.getD i 0) t)) >>= _) _ _ s'
  refine wpAny_bind (wpAny_holding ?_)
  unfold setAdd
  refine wpAny_holding ?_
  refine wpAny_bind ((intKind prog w).pyHash (k:=ns.getD i 0) (intKind_is _ _ _ _) ?_)
  have hroom:(dedI (ns.take i)).length<4094:=by
   have:=qB9 (ns.take i) []
   rw [List.length_take] at this
   unfold dedI
   simp at this
   lia
  refine setAdd_G (s:={ s' with toks:=s'.toks+1 }) hS' hroom fun h' hsb hS2 b=>?_
  have e2:addI (dedI (ns.take i)) (ns.getD i 0)=dedI (ns.take (i+1)):=by
   have hi':i<ns.length:=by lia
   rw [List.take_add_one,List.getElem?_eq_getElem hi',Option.toList_some]
   unfold dedI
   rw [List.foldl_append,List.foldl_cons,List.foldl_nil,List.getD_eq_getElem?_getD,List.getElem?_eq_getElem hi',Option.getD_some]
  rw [e2] at hS2
  refine wpAny_pure ⟨plainId_quiet F.plain_set_update_loop _,ih (i+1) _ (by lia) hlt (W.frame _ s' _ _ hst' (Nat.le_succ _) fun b hb o e=>?_) hS2 fun s'' hm'' hS''=>?_⟩
  ·rw [hsb.2 b (fun h:b=S=>hSf (by rw [← h];exact hb))];exact e
  ·refine hR s'' (Moved.trans W.gtrans ((hm.mono hsub).then_heap (Nat.le_succ _) fun b o hb e=>?_) hm'') hS''
   rw [hsb.2 b (fun h:b=S=>hb (by rw [h];exact List.mem_cons_self))];exact e
end
section
variable {prog:Program} {w:World} {A:Around} {E:Value→Shared→Prop} {s:Shared}
theorem SetG.fresh {a:Addr} {h:Heap} (e:h.get? a=some (freshSet w)):SetG w a [] h:=
 ⟨#[],0,_,[],e,⟨⟨3,Nat.le_refl _,rfl⟩,rfl,rfl,rfl,rfl,.nil,fun _ z=>nomatch z⟩,.nil,.refl _,.nil,by decide,by show 0 * 5<7 * 3;decide⟩
theorem call_set_G {l:Addr} {items:Array Value} {ns:List Int} {Q:Value→Shared→Prop} (hh:A.handled=none) (hl:s.heap.IsList l items) (hi:IntsAre items.toList ns) (h4:items.size≤4000)
  (h:∀ (h':Heap) (tk:Nat),SetG w s.heap.objs.size (dedI ns) h'→(∀ b o,s.heap.get? b=some o→h'.get? b=some o)→Q (.ref s.heap.objs.size) { s with heap:=h',toks:=tk }) :
  wpAny (model prog w) A (call (.type "set") [.ref l]) Q E s:=by
 have hlen:ns.length=items.size:=by have:=IntsAre.length hi;simpa using this.symm
 obtain ⟨c,tl,hmro⟩:=F.called_set.mro
 have hmade:=F.called_set.made
 have hsub:=F.called_set.sub
 refine wpAny_call (codeAny_of_tree ?_)
 show wpAny _ _ (callAny (.type "set") _) _ _ _
 refine wpAny_pure ⟨Code.quiet_builtin _ (by decide +kernel),codeAny_builtin F.entry_type_call ?_⟩
 rw [Around.under_plain (weight_type_call_type "set" [.ref l] []) rfl]
 have h1:=F.called_set.notType
 have h2:=F.called_set.canCreate
 have hct:=F.typeCall_set_1 (.ref l)
 repeat (any_goals (first | assumption | wp_step))
 refine codeAny_mono (set_new_I (.ref l) (E:=E) (Q₁:=fun obj s₁=>obj=.ref s.heap.objs.size∧s₁={ s with heap:=s.heap.push (freshSet w) }) ⟨rfl,rfl⟩) fun r s₁ hr=>?_
 cases r with
 | error e=>exact hr
 | ok fl=>
  cases fl with
  | ret obj=>
   obtain ⟨rfl,rfl⟩:=hr
   have hS:(s.heap.push (freshSet w)).get? s.heap.objs.size=some (freshSet w):=Heap.get?_push_size _ rfl
   have hT:Shared.TypeIs { s with heap:=s.heap.push (freshSet w) } (.ref s.heap.objs.size) "set":=⟨_,hS,rfl⟩
   have hli:=F.called_set.init.lookup
   have hbi:=F.called_set.init.bind (.ref s.heap.objs.size)
   repeat (any_goals (first | assumption | wp_step))
   refine codeAny_mono (codeAny_call_builtin (R:=wants (fun r s₂=>r=.none∧∃ h' tk,s₂={ s with heap:=h',toks:=tk }∧SetG w s.heap.objs.size (dedI ns) h'∧
     (∀ b o,s.heap.get? b=some o→h'.get? b=some o)) E) F.called_set.init.plain F.entry_set_init (check_set_init_1 hT ?_)) fun r₂ s₂ hr₂=>?_
   ·obtain ⟨ol,hol,hcl,nl,hdl⟩:=hl
    obtain ⟨ocls,odict,odata,oslots⟩:=ol
    simp only at hcl hdl
    subst hcl;subst hdl
    have hol':(s.heap.push (freshSet w)).get? l=some { cls:=.type "list",dict:=odict,data:=.seq items nl,slots:=oslots }:=Heap.get?_push_of_some _ hol
    have hsls:=F.sub_list_set
    have hslf:=F.sub_list_frozenset
    have hne:(Value.type "list" == Value.type "dict")=false:=by decide
    have hl1:(s.heap.push (freshSet w)).IsList l items:=⟨_,hol',rfl,nl,rfl⟩
    unfold Builtin.«set.__init__» noKeywords Builtin.Frozenset.updateFrom
    generalize hPI:pyIter=PI
    wp_walk
    subst hPI
    refine wpAny_pyIter_list hl1 ?_
    refine wpAny_bind (wpAny_runValue ?_)
    have hlS:l<s.heap.objs.size:=Heap.lt_size hol
    have hh3:A.in1.in1.in1.handled=none:=by simp [hh]
    have hneI:l ≠ (s.heap.push (freshSet w)).objs.size:=by
     rw [Heap.size_push];exact Nat.ne_of_lt (Nat.lt_succ_of_lt hlS)
    have hSf:s.heap.objs.size ∉ [(s.heap.push (freshSet w)).objs.size,l]:=by
     rw [Heap.size_push];simp only [List.mem_cons,List.mem_singleton,List.not_mem_nil,or_false,not_or]
     exact ⟨Nat.ne_of_lt (Nat.lt_succ_self _),Nat.ne_of_gt hlS⟩
    have hval:∀ (i:Nat) (v:Value),items[i]?=some v→∃ t,v=.int (ns.getD i 0) t:=fun i v hv=>
     PyProof.Rows.IntsAre.int_at hi i v (by rw [Array.getElem?_toList];exact hv)
    refine set_update_G ((Walks.list hh3 _ l hneI items).toS) s.heap.objs.size hSf ns hlen h4 hval (items.size - 0) 0 _ (by lia) (Nat.zero_le _)
     ⟨⟨_,Heap.get?_push_size _ rfl,rfl,rfl⟩,(hl1.push _)⟩ ?hS0 ?hR
    case hS0=>exact SetG.fresh (Heap.get?_push_of_some _ hS)
    case hR=>
     intro s' hm hS'
     obtain ⟨h',g',d',tk',os'⟩:=s'
     have eg:g'=s.gens:=hm.gens
     have ed:d'=s.drawn:=hm.drawn
     have eo:os'=s.os:=hm.os
     subst eg;subst ed;subst eo
     show wpAny _ _ _ _ _ _
     refine wpAny_pure ?_
     show wpAny _ _ (ret Value.none) _ _ _
     refine wpAny_pure ⟨rfl,h',tk',rfl,hS',fun b o e=>?_⟩
     have hb:=Heap.lt_size e
     have hb1:b ≠ s.heap.objs.size:=Nat.ne_of_lt hb
     have hb2:b ≠ (s.heap.push (freshSet w)).objs.size:=by
      rw [Heap.size_push];exact Nat.ne_of_lt (Nat.lt_succ_of_lt hb)
     exact hm.heap b o (by simp only [List.mem_cons,List.mem_singleton,List.not_mem_nil,or_false,not_or];exact ⟨hb1,hb2⟩) (Heap.get?_push_of_some _ (Heap.get?_push_of_some _ e))
   ·cases r₂ with
    | error e=>exact hr₂
    | ok fl₂=>
     cases fl₂ with
     | ret r=>
      obtain ⟨rfl,h',tk,rfl,hS',hk'⟩:=hr₂
      repeat (any_goals (first | assumption | wp_step))
      exact h _ _ hS' hk'
     | next=>exact hr₂
     | brk=>exact hr₂
     | cont=>exact hr₂
  | next=>exact hr
  | brk=>exact hr
  | cont=>exact hr
end
section
variable {prog:Program} {w:World} {A:Around} {E:Value→Shared→Prop} {s:Shared} {a I:Addr} {es:Array (Int × Value)} {ep:Nat} {t:SetTable} {i:Nat}
end
section
variable {X:Cx}
def SetM (w:World) (a:Addr) (zs:List Int):HO:=.ext (SetG w a zs)
theorem call_setG (hc:X.calm=true):CallR X (.type "set") (fun xs H Q=>∃ p ns,xs=[.ref p]∧SqL X.K H p (ns.map V.int)∧ns.length≤4000∧∀ a,H a=none→Q (.ref a) (upd H a (SetM X.w a (dedI ns)))):=by
 intro pins s σ H xs us Q I r h
 obtain ⟨p,ns,rfl,hq,h4,q⟩:=h
 obtain ⟨u,rfl,rx⟩:=vals1 r
 cases rx
 obtain ⟨its,rv,pl,hz⟩:=I.list hq
 have hlen:=rv.length
 rw [List.length_map] at hlen
 refine call_set_G (ns:=ns) (I.ok.hd hc) pl.isList (by simpa using qBT rv) (by simp;lia) fun h' tk hS hk=>?_
 refine ⟨.ref s.heap.objs.size,_,I.laid (t':=tk) hk (Nat.le_refl _) ?_,rfl,q _ (I.hok.fresh (Nat.le_refl _))⟩
 obtain ⟨es,ep,t,ks,e,_⟩:=id hS
 exact ⟨hS,⟨_,e⟩,fun h1 h2 x k=>x.at k⟩
end
end L2
namespace L2
open PySem PySem.Spec PyProof.Rows
section
variable {X:Cx}
end
section
variable {prog:Program} {w:World} {A:Around} {E:Value→Shared→Prop} {s:Shared}
end
section
variable {X:Cx}
end
end L2
namespace L2
open PySem PySem.Spec PyProof.Rows
structure Ex (B:Heap) (l:List Env) (e:Addr) (cls:Value) (dd:Option Addr) (nt:Bool) (h:Heap):Prop where
 stays:B.StaysIn h
 new:B.get? e=none
 frames:h.FunFrames B l
 rec_:∃ (oe:Obj) (vs:Array Value) (x1:Value),h.get? e=some oe∧oe.cls=cls∧oe.dict=dd∧oe.data=.fields vs∧vs[1]?=some x1∧
  ((x1=.none∧nt=false)∨∃ (T:Addr) (oT:Obj) (ts:Array Value) (x3:Value),x1=.ref T∧B.get? T=none∧T ≠ e∧h.get? T=some oT∧oT.data=.fields ts∧ts[3]?=some x3)
theorem Ex.tail {B:Heap} {env:Env} {l:List Env} {e:Addr} {cls:Value} {dd:Option Addr} {nt:Bool} {h:Heap} (x:Ex B (env::l) e cls dd nt h):Ex B l e cls dd nt h:=⟨x.stays,x.new,x.frames.2.2,x.rec_⟩
section
variable {M:Model} {A:Around} {E:Value→Shared→Prop} {s:Shared} {B:Heap} {env:Env} {outer l:List Env} {L e:Addr} {cls:Value} {dd:Option Addr} {nt:Bool} {Q:Unit→Shared→Prop}
theorem ex_entry {oe:Obj} {vs:Array Value} {head:Value} {hadNext:Bool} (hfr:A.frames=some (env::outer)) (hl:s.heap.FunFrames B (env::outer)) (hf:env.frame=some L)
  (he:s.heap.get? e=some oe) (hkb:B.StaysIn s.heap) (hen:B.get? e=none) (hd:oe.data=.fields vs) (hsz:1<vs.size)
  (h:∀ h',Ex B (env::outer) e oe.cls oe.dict true h'→s.heap.UpToSlots h'→Q () { s with heap:=h' }) :
  wpAny M A (do let a ← frameOf env;let pl ← entryPlaceOf L hadNext;let b ← EntryCells.newEntry head a .none (rawInt L) .none pl;setField (.ref e) 1 b) Q E s:=by
 have hene:e ∉ (env::outer).filterMap (·.frame):=fun hm=>by
  obtain ⟨_,o,ho,hnf⟩:=hl.mem hm
  rw [he] at ho
  injection ho with ho
  subst ho
  exact hnf vs hd
 refine wpAny_bind (wpAny_frameOf_fun hfr hl hf fun h₁ hs₁=>?_)
 refine wpAny_bind (wpAny_entryPlaceOf fun pl hpl=>?_)
 unfold EntryCells.newEntry newFields
 refine wpAny_bind (wpAny_newObj_type ?_ (hpl.sizeOk5 _ _ _ _ _))
 have he₁:h₁.get? e=some oe:=(hs₁.2.1 e hene).trans he
 have kb₁:B.StaysIn h₁:=fun b o hbo=>(hs₁.2.1 b fun hm=>by rw [(hl.mem hm).1] at hbo;cases hbo).trans (hkb b o hbo)
 generalize ht:({ cls:=.type "traceback",dict:=none,data:=.fields ([head,.ref L,.none,rawInt L,.none]++(if pl.isEmpty then List.replicate 6 Value.none else pl)).toArray }:Obj)=oT
 have hdT:∃ ts:Array Value,oT.data=.fields ts∧∃ x3,ts[3]?=some x3:=by
  subst ht
  exact ⟨_,rfl,rawInt L,by simp⟩
 have nfT:oT.isFreed=false:=by subst ht;rfl
 have he₂:=Heap.get?_push_of_some (h:=h₁) oT he₁
 refine wpAny_setField he₂ hd hsz ?_
 have hTe:h₁.objs.size ≠ e:=Nat.ne_of_gt (Heap.lt_size he₁)
 have hd₃:=Obj.data_mapFields hd (·.setIfInBounds 1 (Value.ref h₁.objs.size))
 have he₃:=Heap.get?_update_self (Obj.mapFields (·.setIfInBounds 1 (Value.ref h₁.objs.size))) he₂ (Obj.isFreed_of_fields hd₃)
 have hT₃:=(Heap.get?_update_other (h₁.push oT) (Obj.mapFields (·.setIfInBounds 1 (Value.ref h₁.objs.size))) (Ne.symm hTe)).trans (Heap.get?_push_size h₁ nfT)
 have keep:∀ b o,b ≠ e→h₁.get? b=some o→((h₁.push oT).update e (Obj.mapFields (·.setIfInBounds 1 (Value.ref h₁.objs.size)))).get? b=some o:=fun b o hbe hb=>by
  rw [Heap.get?_update_other _ _ (Ne.symm hbe)]
  exact Heap.get?_push_of_some _ hb
 have noRecord:∀ b o,s.heap.get? b=some o→(∀ vs,o.data ≠ .fields vs)→b ≠ e:=fun b o hb hnf q=>by
  rw [q,he] at hb
  injection hb with hb
  subst hb
  exact hnf vs hd
 obtain ⟨ts,hts,x3,hx3⟩:=hdT
 refine h _ ⟨fun b o hbo=>keep b o (fun q=>by rw [q,hen] at hbo;cases hbo) (kb₁ b o hbo),hen,hl.of_keeps fun b o hb hnf=>?_,?_⟩ fun b o hb hnf=>?_
 ·obtain ⟨sl,hs⟩:=hs₁.2.2 b o hb
  exact ⟨_,keep b _ (noRecord b o hb hnf) hs,rfl⟩
 ·refine ⟨_,_,_,he₃,Obj.cls_mapFields _ _,?_,hd₃,?_,.inr ⟨h₁.objs.size,oT,ts,x3,rfl,kb₁.fresh,hTe,hT₃,hts,hx3⟩⟩
  ·obtain ⟨c,d,dt,sl⟩:=oe
   cases dt <;> rfl
  ·simp [hsz]
 ·obtain ⟨sl,hs⟩:=hs₁.2.2 b o hb
  exact ⟨sl,keep b _ (noRecord b o hb hnf) hs⟩
theorem ex_note (hfr:A.frames=some (env::outer)) (hf:env.frame=some L) (x:Ex B (env::outer) e cls dd nt s.heap) (h:∀ h',Ex B (env::outer) e cls dd true h'→s.heap.UpToSlots h'→Q () { s with heap:=h' }) :
  wpAny M A (noteFrame (.ref e) env) Q E s:=by
 obtain ⟨oe,vs,x1,he,rfl,rfl,hd,h1,hx⟩:=x.rec_
 have hsz:1<vs.size:=(Array.getElem?_eq_some_iff.mp h1).1
 unfold noteFrame
 simp only [hf]
 refine wpAny_bind (wpAny_field he hd h1 ?_)
 rcases hx with ⟨rfl,_⟩ | ⟨T,oT,ts,x3,rfl,hnT,hTe,hT,hdT,h3⟩
 ·rw [if_neg (by decide)]
  exact ex_entry hfr x.frames hf he x.stays x.new hd hsz h
 ·rw [if_pos (show (Value.ref T != Value.none)=true from by simp)]
  refine wpAny_bind (wpAny_field hT hdT h3 ?_)
  refine wpAny_ite_split (fun _=>?_) (fun _=>?_)
  ·exact wpAny_pure (h _ ⟨x.stays,x.new,x.frames,oe,vs,_,he,rfl,rfl,hd,h1,.inr ⟨T,oT,ts,x3,rfl,hnT,hTe,hT,hdT,h3⟩⟩ (Heap.UpToSlots.refl _))
  ·refine wpAny_bind (wpAny_setField hT hdT (Array.getElem?_eq_some_iff.mp h3).1 ?_)
   have other:∀ b,b ≠ T→(s.heap.update T (Obj.mapFields (·.setIfInBounds 3 Value.none))).get? b=s.heap.get? b:=fun b hb=>Heap.get?_update_other _ _ (Ne.symm hb)
   have noRecord:∀ b o,s.heap.get? b=some o→(∀ vs,o.data ≠ .fields vs)→b ≠ T:=fun b o hb hnf q=>by
    rw [q,hT] at hb
    injection hb with hb
    subst hb
    exact hnf ts hdT
   refine ex_entry hfr (x.frames.of_keeps fun b o hb hnf=>⟨o,(other b (noRecord b o hb hnf)).trans hb,rfl⟩) hf ((other e (Ne.symm hTe)).trans he)
    (fun b o hbo=>(other b fun q=>by rw [q,hnT] at hbo;cases hbo).trans (x.stays b o hbo)) x.new hd hsz
    fun h' x1 x2=>h h' x1 fun b o hb hnf=>x2 b o ((other b (noRecord b o hb hnf)).trans hb) hnf
theorem qCL {f:Option Addr} (x:Ex B l e cls dd true s.heap) (h:∀ h',Ex B l e cls dd true h'→s.heap.UpToSlots h'→Q () { s with heap:=h' }):wpAny M A (setFlight (.ref e) f) Q E s:=by
 obtain ⟨oe,vs,x1,he,rfl,rfl,hd,h1,hx⟩:=x.rec_
 rcases hx with ⟨_,z⟩ | ⟨T,oT,ts,x3,rfl,hnT,hTe,hT,hdT,h3⟩
 ·cases z
 have hsz3:3<ts.size:=(Array.getElem?_eq_some_iff.mp h3).1
 unfold setFlight
 refine wpAny_bind (wpAny_field he hd h1 ?_)
 rw [if_pos (show (Value.ref T != Value.none)=true from by simp)]
 have other:∀ b,b ≠ T→(s.heap.update T (Obj.mapFields (·.setIfInBounds 3 (f.elim Value.none fun f=>rawInt f)))).get? b=s.heap.get? b:=fun b hb=>Heap.get?_update_other _ _ (Ne.symm hb)
 have noRecord:∀ b o,s.heap.get? b=some o→(∀ vs,o.data ≠ .fields vs)→b ≠ T:=fun b o hb hnf q=>by
  rw [q,hT] at hb
  injection hb with hb
  subst hb
  exact hnf ts hdT
 refine wpAny_setField hT hdT hsz3 (h _ ⟨fun b o hbo=>(other b fun q=>by rw [q,hnT] at hbo;cases hbo).trans (x.stays b o hbo),x.new,
  x.frames.of_keeps fun b o hb hnf=>⟨o,(other b (noRecord b o hb hnf)).trans hb,rfl⟩,oe,vs,_,(other e (Ne.symm hTe)).trans he,rfl,rfl,hd,h1,.inr ⟨T,_,_,f.elim Value.none (fun f=>rawInt f),rfl,hnT,hTe,Heap.get?_update_self _ hT (Obj.isFreed_of_fields (Obj.data_mapFields hdT _)),Obj.data_mapFields hdT _,by simp [hsz3]⟩⟩
  fun b o hb hnf=>⟨o.slots,(other b (noRecord b o hb hnf)).trans hb⟩)
theorem ex_leave (hfr:A.frames=some (env::outer)) (hf:env.frame=some L) (x:Ex B (env::outer) e cls dd nt s.heap) (h:∀ h',Ex B outer e cls dd true h'→s.heap.UpToSlots h'→Q () { s with heap:=h' }) :
  wpAny M A (leaving env (.ref e)) Q E s:=by
 unfold leaving
 refine wpAny_bind (ex_note hfr hf x fun h1 x1 u1=>?_)
 exact qCL (s:={ s with heap:=h1 }) x1 fun h2 x2 u2=>h h2 x2.tail (u1.trans u2)
theorem ex_back (x:Ex B l e cls dd true s.heap) (h:∀ h',Ex B l e cls dd true h'→s.heap.UpToSlots h'→E (.ref e) { s with heap:=h' }):cameBackBy M A env E (.ref e) s:=by
 obtain ⟨oe,vs,x1,he,_,_,hd,h1,hx⟩:=x.rec_
 rcases hx with ⟨_,z⟩ | ⟨T,oT,ts,x3,rfl,hnT,hTe,hT,hdT,h3⟩
 ·cases z
 unfold cameBackBy
 refine wpAny_bind (wpAny_field he hd h1 ?_)
 rw [if_neg (show ¬ ((Value.ref T == Value.none)=true) from by simp)]
 exact qCL x h
end
end L2
namespace L2
open PySem PySem.Spec PyProof.Rows
theorem ObjOk.has {P:Program} {w:World} {H:Hp} {h:Heap} {a:Addr} {o:HO} (x:ObjOk P w H h a o):∃ u,h.get? a=some u:=by
 cases o with
 | lst xs=>obtain ⟨_,_,_,_,e⟩:=x;exact ⟨_,e⟩
 | tup xs=>obtain ⟨_,_,_,ob,e,_⟩:=x;exact ⟨_,e⟩
 | dK kvs=>obtain ⟨_,_,_,_,o,_,_,e,_⟩:=x;exact ⟨_,e⟩
 | dT kvs=>obtain ⟨_,_,_,_,o,_,_,e,_⟩:=x;exact ⟨_,e⟩
 | set S n=>obtain ⟨o,_,_,_,e,_⟩:=x;exact ⟨_,e⟩
 | ins C dx fs=>obtain ⟨_,_,_,e,_⟩:=x;exact ⟨_,e⟩
 | own y=>obtain ⟨_,e⟩:=x;exact ⟨_,e⟩
 | xd fs=>obtain ⟨_,⟨_,_,_,e,_⟩,_⟩:=x;exact ⟨_,e⟩
 | rng lo hi=>obtain ⟨_,_,_,e⟩:=x;exact ⟨_,e⟩
 | frz ob u=>exact ⟨_,x.1⟩
 | tbl t=>
  cases t with
  | tab q=>obtain ⟨_,e,_⟩:=x;exact ⟨_,e⟩
  | cod q=>obtain ⟨c,o,_,_,e,g,_⟩:=x;cases e;exact ⟨_,g⟩
 | met f y=>exact ⟨_,show h.get? a=some (PySem.W.methodObj (.ref f) (.ref y)) from x⟩
 | ext φ=>exact x.2.1
def Kp (outer:List Env) (H':Hp) (h0:Heap) (b:Addr):Prop:=(∃ o,H' b=some o)∨((∃ o,h0.get? b=some o)∧b ∉ frs outer)
structure XD (P:Program) (w:World) (outer l:List Env) (H:Hp) (h0:Heap) (e:Addr) (cls:Value) (dd:Option Addr) (H':Hp) (B:Heap) (nt:Bool) (h:Heap):Prop where
 un:Un (frs outer) [] H H' h0 h
 hok:HOk P w H' h
 ex:Ex B l e cls dd nt h
 kp:∀ b o,h.get? b=some o→Kp outer H' h0 b→B.get? b=some o
 ne:H' e=none
 ge:h0.objs.size≤e
theorem XD.step {P:Program} {w:World} {outer l l':List Env} {H:Hp} {h0:Heap} {e:Addr} {cls:Value} {dd:Option Addr} {H':Hp} {B:Heap} {nt nt':Bool} {h h':Heap} (x:XD P w outer l H h0 e cls dd H' B nt h)
  (ex:Ex B l' e cls dd nt' h') (u:h.UpToSlots h') (hs:∀ b ∈ frs outer,b ∈ frs l):XD P w outer l' H h0 e cls dd H' B nt' h':=by
 have st:∀ b o,h.get? b=some o→Kp outer H' h0 b→h'.get? b=some o:=fun b o q k=>ex.stays b o (x.kp b o q k)
 have hask:∀ b,Kp outer H' h0 b→∃ o,h.get? b=some o:=fun b k=>by
  rcases k with ⟨o,q⟩ | ⟨⟨o,q⟩,_⟩
  ·exact (x.hok b o q).has
  ·exact x.un.there b o q (by simp)
 have fr:∀ b o,h.get? b=some o→b ∈ frs outer→∃ sl,h'.get? b=some { o with slots:=sl }:=fun b o q m=>by
  obtain ⟨_,o',ho',hd⟩:=x.ex.frames.mem (hs b m)
  rw [q] at ho'
  cases ho'
  exact u b o q hd
 refine ⟨⟨fun b o q n nf nx=>st b o (x.un.keep b o q n nf nx) (.inr ⟨⟨o,q⟩,nf⟩),fun b o q n m nx=>?_,x.un.free,fun b o q nx=>?_,x.un.tups,x.un.frzs,x.un.tbls⟩,fun a o q=>?_,ex,fun b o q k=>?_,x.ne,x.ge⟩
 ·obtain ⟨sl,q1⟩:=x.un.slot b o q n m nx
  obtain ⟨sl',q2⟩:=fr b _ q1 m
  exact ⟨sl',q2⟩
 ·obtain ⟨o1,q1⟩:=x.un.there b o q nx
  by_cases m:b ∈ frs outer
  ·obtain ⟨sl,q2⟩:=fr b o1 q1 m
   exact ⟨_,q2⟩
  ·exact ⟨o1,st b o1 q1 (.inr ⟨⟨o,q⟩,m⟩)⟩
 ·refine (x.hok a o q).stay (fun b v hb r=>st b v r ?_) (fun _ z=>z) fun _ _ z=>z
  rcases hb with rfl | hb
  ·exact .inl ⟨o,q⟩
  ·exact .inl ⟨_,hb⟩
 ·obtain ⟨o1,q1⟩:=hask b k
  have:=st b o1 q1 k
  rw [q] at this
  cases this
  exact x.kp b o q1 k
def CX1 (P:Program) (w:World):CXT:=fun outer H s E ev s'=>∃ (e:Addr) (cls:Value) (dd:Option Addr) (H':Hp) (B:Heap) (nt:Bool),ev=.ref e∧s'.os=s.os∧AllBare s'.gens∧XD P w outer outer H s.heap e cls dd H' B nt s'.heap∧E cls dd H'
def XP (X:Cx) (G:XK) (ev:Value) (s':Shared):Prop:=X.A.frames=some X.stack∧∃ (e:Addr) (cls:Value) (dd:Option Addr) (H':Hp) (B:Heap) (nt:Bool),ev=.ref e∧s'.os=X.s₀.os∧AllBare s'.gens∧XD X.prog X.w X.outer X.stack X.H₀ X.s₀.heap e cls dd H' B nt s'.heap∧G cls dd H'
section
variable {X:Cx} {E:XK} {G:XK} {pins:List (Addr × Obj)} {σ:St} {H:Hp} {s s':Shared}
theorem PassesOwn.xp (hst:X.stack=X.env::X.outer) (hf:X.env.frame=some X.env.locals):PassesOwn (model X.prog X.w) X.A X.env (XP X G):=by
 rintro ev s1 ⟨hfr,e,cls,dd,H',B,nt,rfl,ho,hg,x,g⟩
 have hs:∀ b ∈ frs X.outer,b ∈ frs X.stack:=fun b hb=>by
  rw [hst]
  unfold frs at hb ⊢
  rw [List.filterMap_cons,hf]
  exact List.mem_cons_of_mem _ hb
 have hex:=x.ex
 rw [hst] at hex
 unfold notedBy
 refine ex_note (hfr.trans (by rw [hst])) hf hex fun h1 x1 u1=>?_
 refine ex_back (s:={ s1 with heap:=h1 }) x1 fun h2 x2 u2=>?_
 rw [← hst] at x2
 exact ⟨hfr,e,cls,dd,H',B,true,rfl,ho,hg,x.step x2 (u1.trans u2) hs,g⟩
end
section
variable {P:Program} {w:World} {K:PySem.W.Frag} {mg:Str→Option Value} {base:Heap}
theorem xe_of {N:List Str} {qual:Str} {scope:Scope} {f:Addr} {cd:Value} {A:Around} {outer:List Env} {s:Shared} {H:Hp} {E:XK} {ev:Value} {s':Shared}
  (q:XP (cxOf (CX1 P w) P w K mg base N qual scope f cd A outer s H E) E ev s'):(cxOf (CX1 P w) P w K mg base N qual scope f cd A outer s H E).xe ev s':=by
 obtain ⟨hfr,e,cls,dd,H',B,nt,rfl,ho,hg,x,g⟩:=q
 refine ex_leave (L:=s.heap.objs.size) hfr rfl x.ex fun h1 x1 u1=>?_
 exact ⟨e,cls,dd,H',B,true,rfl,ho,hg,x.step x1 u1 fun b hb=>List.mem_cons_of_mem _ hb,g⟩
noncomputable abbrev cxX (P:Program) (w:World) (K:PySem.W.Frag) (mg:Str→Option Value) (base:Heap) (N:List Str) (qual:Str) (scope:Scope) (f:Addr) (cd:Value) (A:Around) (outer:List Env) (s:Shared) (H:Hp) (E:XK):Cx:=
 (cxOf (CX1 P w) P w K mg base N qual scope f cd A outer s H E).wish (XP (cxOf (CX1 P w) P w K mg base N qual scope f cd A outer s H E) E)
theorem Fun.okX {x qual:Str} {st:Stmt} {f:Addr} {fd:FuncData} {N ps:List Str} {k:Nat} {sp:Sp} (F:Fun K x qual st f fd) (S:FnScope N ps (defScope st)) (len:∀ vs H Q E,sp vs H Q E→vs.length=ps.length)
  (hbody:∀ (cdv:Value) (A:Around) (outer:List Env) (s:Shared) (H:Hp) (vs:List V) (Q:VK) (E:XK),Room k (A.deeper (envOfC qual (defScope st) s.heap.objs.size f cdv))→sp vs H Q E→
   ∃ t,PSs (cxX P w K mg base N qual (defScope st) f cdv A outer s H E) (defBody st) t∧t { nx:=fun _ H'=>Q .non H',rt:=Q } (start N vs) H):FnOk P w K mg base (CX1 P w) (k+1) f fd ps sp:=by
 obtain ⟨oc,od,kV,doc,pm,an,cdv,ct,osl,rfl,lk,hcd⟩:=F.ex
 refine fn_of lk hcd S len fun A outer s H vs Q E hr hsp=>?_
 obtain ⟨t,h,q⟩:=hbody cdv A outer s H vs Q E hr hsp
 exact ⟨t,fun pins s1 σ H1 D I hw=>wpAny_mono (h pins s1 σ H1 D (I.wish _) hw) (fun _ _ q=>q.unwish) fun ev s2 q=>xe_of q,q⟩
theorem own1 {N:List Str} {qual:Str} {scope:Scope} {f:Addr} {cd:Value} {A:Around} {outer:List Env} {s:Shared} {H:Hp} {E:XK}:PassesOwn (model (cxX P w K mg base N qual scope f cd A outer s H E).prog (cxX P w K mg base N qual scope f cd A outer s H E).w) (cxX P w K mg base N qual scope f cd A outer s H E).A (cxX P w K mg base N qual scope f cd A outer s H E).env (cxX P w K mg base N qual scope f cd A outer s H E).xe:=
 PassesOwn.xp (X:=cxOf (CX1 P w) P w K mg base N qual scope f cd A outer s H E) rfl rfl
end
end L2
namespace L2
open PySem PySem.Spec PyProof.Rows
def ExcO (e:Addr) (cls:Value) (dd:Option Addr):HO:=.ext fun h=>∃ (oe:Obj) (vs:Array Value),h.get? e=some oe∧oe.cls=cls∧oe.dict=dd∧oe.data=.fields vs
theorem excO_ok {P:Program} {w:World} {H:Hp} {h:Heap} {e:Addr} {cls:Value} {dd:Option Addr} {oe:Obj} {vs:Array Value} (h1:h.get? e=some oe) (h2:oe.cls=cls) (h3:oe.dict=dd) (h4:oe.data=.fields vs):ObjOk P w H h e (ExcO e cls dd):=
 ⟨⟨oe,vs,h1,h2,h3,h4⟩,⟨oe,h1⟩,fun _ _ ⟨o,ws,a,b,c,d⟩ k=>⟨o,ws,k _ a,b,c,d⟩⟩
noncomputable abbrev Cx.held (X:Cx) (ev:Value):Cx:={ X with A:=X.A.mark (some ev),calm:=false }
section
variable {X:Cx} {pins:List (Addr × Obj)} {σ:St} {H:Hp} {s:Shared} {ev:Value}
theorem Inv.held (I:Inv X pins σ H s) (ev:Value):Inv (X.held ev) pins σ H s:=
 ⟨⟨I.ok.mod,I.ok.kind,I.ok.glob,I.ok.blt,I.ok.above,I.ok.inj,I.ok.has,I.ok.cab,(fun z=>nomatch z),I.ok.frames,I.ok.stk,I.ok.exf,I.ok.bs,I.ok.bsz,I.ok.noex,I.ok.exfs,I.ok.funs,I.ok.frf⟩,I.os,I.bare,I.base,I.loc,I.cell,I.free,I.freeC,I.pin,I.hok,I.len⟩
theorem Inv.unheld (ok:X.Ok) (I:Inv (X.held ev) pins σ H s):Inv X pins σ H s:=⟨ok,I.os,I.bare,I.base,I.loc,I.cell,I.free,I.freeC,I.pin,I.hok,I.len⟩
theorem Inv.goes {M:Model} {A:Around} {E:Value→Shared→Prop} {j:Nat} {n:Str} {pos:Pos} {Q:Unit→Shared→Prop} (I:Inv X pins σ H s) (hN:X.N.Nodup) (hj:X.N[j]?=some n) (hl:X.env.scope.names.lookup n=some .local)
  (h:∀ s',Inv X pins (σ.set j none) H s'→Q () s'):wpAny M A (do bindName X.env n .none;unbindBehindTheSuite X.env n pos) Q E s:=by
 refine wpAny_bind (wpAny_bindName (store_ok (v:=.non) I hN hj (.inl hl) rfl (fun s1 I1=>?_) (.inr hl)))
 unfold unbindBehindTheSuite
 refine wpAny_onRaise ?_
 obtain ⟨m,hn,hlk⟩:=id I1.loc
 have hjl:j<σ.length:=by rw [I.len];exact (List.getElem?_eq_some_iff.mp hj).1
 have hv:∃ v,m n=some v:=by
  obtain ⟨u,_,z | ⟨z,_⟩⟩:=hlk j n .non hj (by rw [List.getElem?_set_self hjl]) (.inl hl)
  ·exact ⟨u,z.2⟩
  ·have:X.env.scope.names.lookup n=some .cell∨X.env.scope.names.lookup n=some .free:=z
   rw [hl] at this
   rcases this with z | z <;> cases z
 obtain ⟨v,hv⟩:=hv
 have hcls:(X.env.scope.kind == .class || (X.env.scope.kind == .module && X.env.locals != X.env.globals))=false:=by rw [I.ok.kind];rfl
 refine wpAny_unbindName_local hl hn hv hcls fun h' u hn' hs=>h _ ?_
 obtain ⟨oL,es,ep,hoL,r⟩:=id hn
 obtain ⟨oL',_,_,hoL',_⟩:=id hn'
 have lo:∀ b ob,X.s₀.heap.get? b=some ob→b ≠ X.env.locals:=fun b ob e=>Nat.ne_of_lt (Nat.lt_of_lt_of_le (Heap.lt_size e) I.ok.above)
 refine ⟨I1.ok,I1.os,I1.bare,⟨fun b o e n' hb hx=>?_,fun b o e n' hb hx=>?_,I1.base.free,fun b o e hx=>?_,I1.base.tups,I1.base.frzs,I1.base.tbls⟩,⟨_,hn',fun k y v' e1 e2 e3=>?_⟩,fun y c e=>?_,I1.free,I1.freeC,fun p hp=>?_,fun b ob e=>?_,by simpa using I.len⟩
 ·exact (hs.2 b (lo b o e)).trans (I1.base.keep b o e n' hb hx)
 ·obtain ⟨sl,e1⟩:=I1.base.slot b o e n' hb hx
  exact ⟨sl,(hs.2 b (lo b o e)).trans e1⟩
 ·obtain ⟨o',e1⟩:=I1.base.there b o e hx
  exact ⟨o',(hs.2 b (lo b o e)).trans e1⟩
 ·by_cases hk:k=j
  ·subst hk
   rw [List.getElem?_set_self hjl] at e2
   cases e2
  ·rw [List.getElem?_set_ne (Ne.symm hk)] at e2
   obtain ⟨u',r',q⟩:=hlk k y v' e1 (by rw [List.getElem?_set_ne (Ne.symm hk)];exact e2) e3
   refine ⟨u',r',?_⟩
   have hyn:y ≠ n:=fun z=>hk ((List.getElem?_inj (List.getElem?_eq_some_iff.mp e1).1 hN).mp (by rw [e1,hj,z]))
   rcases q with ⟨q1,q2⟩ | ⟨q1,c,q2,q3⟩
   ·exact .inl ⟨q1,(if_neg hyn).trans q2⟩
   ·obtain ⟨oc,q3,q4⟩:=q3
    exact .inr ⟨q1,c,q2,oc,(hs.2 c (I.cne y c q2)).trans q3,q4⟩
 ·obtain ⟨v,oc,q3,q4⟩:=I1.cell y c e
  exact ⟨v,oc,(hs.2 c (I.cne y c e)).trans q3,q4⟩
 ·obtain ⟨e1,n1,n2,r⟩:=I1.pin p hp
  exact ⟨(hs.2 p.1 n2).trans e1,n1,n2,r⟩
 ·refine (I1.hok b ob e).stay (fun c w' hc q=>(hs.2 c ?_).trans q) (fun _ q=>q) fun _ _ q=>q
  rintro rfl
  rcases hc with rfl | hc
  ·rw [I1.free] at e;cases e
  ·rw [I1.free] at hc;cases hc
theorem Inv.lands {Q:Unit→Shared→Prop} {EE:Value→Shared→Prop} {E:XK} {G:XK} {H1:Hp} {s1 s2:Shared} (I:Inv X pins σ H1 s1) (hst:X.stack=X.env::X.outer) (hf:X.env.frame=some X.env.locals) (q:CX1 X.prog X.w X.stack H1 s1 G ev s2)
  (h:∀ e cls dd H2 B s3,ev=.ref e→Inv X pins σ H2 s3→XD X.prog X.w X.stack X.stack H1 s1.heap e cls dd H2 B true s3.heap→G cls dd H2→Q () s3) :
  wpAny (model X.prog X.w) X.A (noteFrame ev X.env) (fun _ s3=>wpAny (model X.prog X.w) X.A (setFlight ev none) Q EE s3) EE s2:=by
 obtain ⟨e,cls,dd,H2,B,nt,rfl,ho,hg,x,g⟩:=q
 have hex:=x.ex
 rw [hst] at hex
 refine ex_note (I.ok.frames.trans (by rw [hst])) hf hex fun h3 x3 u3=>?_
 refine qCL (s:={ s2 with heap:=h3 }) x3 fun h4 x4 u4=>?_
 rw [← hst] at x4
 have y:=x.step x4 (u3.trans u4) fun b hb=>hb
 exact h e cls dd H2 B _ rfl (I.call' (s':={ s2 with heap:=h4 }) ho y.un y.hok hg fun b hb=>absurd hb (by simp)) y g
theorem Inv.caught {H1 H2:Hp} {h1:Heap} {e:Addr} {cls:Value} {dd:Option Addr} {B:Heap} {nt:Bool} (I:Inv X pins σ H2 s) (I0:∃ s1,Inv X pins σ H1 s1∧s1.heap=h1) (x:XD X.prog X.w X.stack X.stack H1 h1 e cls dd H2 B nt s.heap):Inv X pins σ (upd H2 e (ExcO e cls dd)) s:=by
 obtain ⟨s1,I1,rfl⟩:=I0
 obtain ⟨oe,vs,x1,a1,a2,a3,a4,_⟩:=x.ex.rec_
 have lt:∀ b ob,s1.heap.get? b=some ob→b ≠ e:=fun b ob q=>Nat.ne_of_lt (Nat.lt_of_lt_of_le (Heap.lt_size q) x.ge)
 refine I.track x.ne (Nat.le_trans I1.sz x.ge) (fun z=>?_) (fun y c q z=>?_) (fun p hp z=>?_) (excO_ok a1 a2 a3 a4)
 ·obtain ⟨m,⟨o,_,_,ho,_⟩,_⟩:=I1.loc
  exact lt _ _ ho z.symm
 ·obtain ⟨v,oc,q3,_⟩:=I1.cell y c q
  exact lt _ _ q3 z
 ·exact lt _ _ (I1.pin p hp).1 z
end
section
variable {X:Cx}
def Ends.off (D:Ends):Option Nat→Ends
 | none=>D
 | some j=>{ nx:=fun σ H=>D.nx (σ.set j none) H,rt:=D.rt,bk:=fun σ H=>D.bk (σ.set j none) H,ct:=fun σ H=>D.ct (σ.set j none) H }
noncomputable def onE (σ:St) (e:Addr):Option Nat→St
 | none=>σ
 | some j=>σ.set j (some (.ref e))
theorem SP.back {pins:List (Addr × Obj)} {D:Ends} {f:Flow} {s':Shared} {ev:Value} (ok:X.Ok) (h:SP (X.held ev).nox pins D f s'):SP X pins D f s':=by
 cases f with
 | next=>obtain ⟨σ',H',I,q⟩:=h;exact ⟨σ',H',I.unwish.unheld ok,q⟩
 | brk=>obtain ⟨σ',H',I,q⟩:=h;exact ⟨σ',H',I.unwish.unheld ok,q⟩
 | cont=>obtain ⟨σ',H',I,q⟩:=h;exact ⟨σ',H',I.unwish.unheld ok,q⟩
 | ret u=>obtain ⟨v,σ',H',I,r,q⟩:=h;exact ⟨v,σ',H',I.unwish.unheld ok,r,q⟩
end
end L2
namespace L2
open PySem PySem.Spec PyProof.Rows
noncomputable def bmV:List Value:=[.type "ValueError",.type "Exception",.type "BaseException",.type "object"]
noncomputable def xcIn (K:PySem.W.Frag) (C:Addr) (init:Option Value):Bool:=match K.lookup C with
 | some ⟨.type "type",_,.cls cd,sl⟩=>(match cd.mro,sl.toList with
  | .ref C'::bm,[_,_,_,_,some (.builtin n),_]=>C' == C && n == "ValueError.__new__" && !cd.hasDel && cd.hasDict && PySem.W.tailIn K bmV bm && PySem.W.nsOkIn K cd.ns && PySem.W.nsIn K cd.ns "__init__" == some init
  | _,_=>false)
 | _=>false
structure XCls (K:PySem.W.Frag) (C:Addr) (init:Option Value):Prop where
 cls:xcIn K C init=true
 set:PySem.W.findIn K (.ref C) "__setattr__" = some (some (.builtin "object.__setattr__"))
 kp:PySem.W.keepIn K (.ref C)=true
theorem ns_some_of {K:PySem.W.Frag} {h:Heap} {N:Addr} {mg:Str→Option Value} {n:Str} {v:Value} (X:K.In h) (G:h.Ns N mg) (e:PySem.W.nsIn K N n=some (some v)):mg n=some v:=by
 obtain ⟨o,es,ep,ho,hd,_,hf⟩:=G
 unfold PySem.W.nsIn at e
 split at e
 ·rename_i c d es' n' sl q
  have:=X _ _ q
  rw [ho] at this
  cases this
  cases hd
  split at e
  ·rename_i en he
   cases e
   rw [← hf]
   unfold nsFind findBy
   rw [← Array.find?_toList,he]
   rfl
  ·split at e
   ·cases e
   ·cases e
 ·cases e
theorem refuse_tail {h:Heap} {tl:List Value} (self:Value) (T:OwnTail h bmV tl):refuseLoop self "__setattr__" tl=pure ():=by
 induction T with
 | base=>exact PySem.F.store_ValueError.passes self
 | own _ _ _ _ ih=>rw [refuseLoop_ref];exact ih
theorem xc_of {K:PySem.W.Frag} {h:Heap} {C:Addr} {init:Option Value} (X:K.In h) (q:xcIn K C init=true):∃ (bm:List Value) (N:Addr) (nm qn:Str) (bs:List Value) (sn:List Str) (sub:List Value) (ab:Bool) (col:Option Bool) (dd:Option Addr) (k0 k1 k2 k3 k5:Option Value) (mN:Str→Option Value),
  h.get? C=some (excClassObj nm qn C N bs bm true sn sub ab col dd k0 k1 k2 k3 k5 "ValueError.__new__")∧h.Ns N mN∧mN "__init__" = init∧OwnTail h bmV bm:=by
 unfold xcIn at q
 split at q
 ·rename_i dd cd sl ho
  split at q
  ·rename_i C' bm k0 k1 k2 k3 n k5 hm hs
   simp only [Bool.and_eq_true,beq_iff_eq,Bool.not_eq_true'] at q
   obtain ⟨⟨⟨⟨⟨⟨rfl,rfl⟩,hdel⟩,hdc⟩,ht⟩,hok⟩,hni⟩:=q
   obtain ⟨nm,bs,mro,ns,qn,hd,sn,sub,ab,col,del⟩:=cd
   dsimp only at hm hdel hok hni hdc
   subst hm hdel hdc
   have hsl:sl=#[k0,k1,k2,k3,some (.builtin "ValueError.__new__"),k5]:=by
    obtain ⟨l⟩:=sl
    simp only at hs
    rw [hs]
   subst hsl
   refine ⟨bm,ns,nm,qn,bs,sn,sub,ab,col,dd,k0,k1,k2,k3,k5,_,X _ _ ho,.of_isNs (PySem.W.isNs_of_in X hok),?_,PySem.W.tail_of_in X ht⟩
   cases init with
   | none=>exact PySem.W.nsMap_none_of_in X hok hni
   | some v=>exact ns_some_of X (.of_isNs (PySem.W.isNs_of_in X hok)) hni
  ·cases q
 ·cases q
section
variable {prog:Program} {w:World} {A:Around} {E:Value→Shared→Prop} {h:Heap} {g:Array GenState} {d:Drawn} {t:Nat} {os:OsState} {K:PySem.W.Frag} {C x:Addr} {init:Option Value} {mA:Str→Option Value} {name:Str} {v:Value} {ns:List Str}
theorem xstore {b:Bool} {tk:Tok} {Q:PySem.Fin→Shared→Prop} (X:K.In h) (q:xcIn K C init=true) (I:h.Inst x C mA) (hw:Within mA ns) (hsz:ns.length≤1000)
  (hq:∀ h' tk',h'.Inst x C (fun y=>if y=name then some v else mA y)→
   (∀ b o,b ≠ x→(∀ o₀ dx,h.get? x=some o₀→o₀.dict=some dx→b ≠ dx)→h.get? b=some o→h'.get? b=some o)→
   (∀ o₀,h.get? x=some o₀→∃ o₁,h'.get? x=some o₁∧o₁.cls=o₀.cls∧o₁.data=o₀.data∧o₁.slots=o₀.slots∧(∀ dx,o₀.dict=some dx→o₁.dict=some dx)∧(o₀.dict=none→o₁.dict=some h.objs.size))→Q (.done (.ret .none)) ⟨h',g,d,tk',os⟩) :
  wpAny (model prog w) A (Builtin.ObjectAttr.storeInOwnDict (.ref x) (.ref C) (.str name tk) name v b) Q E ⟨h,g,d,t,os⟩:=by
 obtain ⟨bm,N,nm,qn,bs,sn,sub,ab,col,dd,k0,k1,k2,k3,k5,mN,hC,hn,_,T⟩:=xc_of X q
 obtain ⟨o,hx,hc,hnc,hd⟩:=I
 unfold Builtin.ObjectAttr.storeInOwnDict
 repeat (first | (with_reducible refine wpAny_loadPart_at hx ?_;rw [hc]) | wp_step)
 rcases hd with ⟨hdn,hmA⟩ | ⟨dx,hdx,hne,hns⟩
 ·rw [hdn,if_neg (by simp [typeHasDict])]
  split
  ·rename_i hcd
   cases hcd
  split
  ·rename_i c hcd
   exact absurd hcd (hnc c)
  ·have hx₁:(h.push { cls:=.type "dict",data:=.dict #[] }).get? x=some o:=Heap.get?_push_of_some _ hx
   have hxs:x ≠ h.objs.size:=Nat.ne_of_lt (Heap.lt_size hx)
   refine wpAny_bind (wpAny_alloc' ?_)
   refine wpAny_bind (wpAny_update' hx₁ ?_)
   refine wpAny_pure ?_
   have hgd:((h.push { cls:=.type "dict",data:=.dict #[] }).update x fun o=>{ cls:=o.cls,dict:=some h.objs.size,data:=o.data,slots:=o.slots }).get? h.objs.size
     = some { cls:=.type "dict",data:=.dict #[] }:=
    (Heap.get?_update_ne _ _ _ _ hxs.symm).trans (Heap.get?_push_at rfl rfl)
   have hnd:((h.push { cls:=.type "dict",data:=.dict #[] }).update x fun o=>{ cls:=o.cls,dict:=some h.objs.size,data:=o.data,slots:=o.slots }).Ns h.objs.size (fun _=>none):=
    ⟨_,#[],_,hgd,rfl,fun e he=>absurd he (by simp),fun _=>rfl⟩
   show wpAny _ _ (Builtin.ObjectAttr.storeInDict h.objs.size (.str name tk) name v) _ _ _
   unfold Builtin.ObjectAttr.storeInDict Builtin.ObjectAttr.newKeyGuard
   refine wpAny_bind (wpAny_pure (wpAny_bind (wpAny_nsSet1 (Heap.Ns1.of_empty hnd) fun h' hn' hs=>?_)))
   obtain ⟨oD,esD,epD,hoD,hdD,hcD⟩:=hn'.count (Within.cons name v Within.nil)
   refine wpAny_bind (wpAny_lookBehind hoD (by rw [hdD];exact pastItsLine_dict (Nat.le_trans hcD (by rw [List.length_cons,List.length_nil,sizeLine_eq];lia))) ?_)
   wp_walk
   have hx':h'.get? x=some { cls:=o.cls,dict:=some h.objs.size,data:=o.data,slots:=o.slots }:=?_
   refine hq h' _ ⟨{ cls:=o.cls,dict:=some h.objs.size,data:=o.data,slots:=o.slots },hx',hc,hnc,.inr ⟨h.objs.size,rfl,hxs.symm,?_⟩⟩ (fun b ob hbx _ hb=>?_)
    (fun o₀ h₀=>by obtain rfl:o=o₀:=Option.some.inj (hx.symm.trans h₀);exact ⟨_,hx',rfl,rfl,rfl,(fun dx e=>by rw [hdn] at e;cases e),fun _=>rfl⟩)
   ·obtain ⟨o',es,ep,e1,e2,e3,eu,e4⟩:=hn'
    exact ⟨o',es,ep,e1,e2,e3,eu,fun y=>by rw [e4 y];by_cases hy:y=name <;> simp [hy,hmA]⟩
   ·exact (hs.2 b (Nat.ne_of_lt (Heap.lt_size hb))).trans ((Heap.get?_update_ne _ _ _ _ hbx).trans (Heap.get?_push_of_some _ hb))
   ·refine (hs.2 x hxs).trans (Heap.get?_update_self _ hx₁ ?_)
    have hfr:=(Heap.get?_some_iff.mp hx).2
    obtain ⟨oc,od,odt,osl⟩:=o
    cases odt <;> first | rfl | exact hfr
 ·rw [hdx]
  refine wpAny_pure ?_
  show wpAny _ _ (Builtin.ObjectAttr.storeInDict dx (.str name tk) name v) _ _ _
  unfold Builtin.ObjectAttr.storeInDict Builtin.ObjectAttr.newKeyGuard
  refine wpAny_bind (wpAny_pure (wpAny_bind (wpAny_nsSet1 hns fun h' hn' hs=>?_)))
  obtain ⟨oD,esD,epD,hoD,hdD,hcD⟩:=hn'.count (Within.cons name v hw)
  refine wpAny_bind (wpAny_lookBehind hoD (by rw [hdD];exact pastItsLine_dict (Nat.le_trans hcD (by rw [List.length_cons,sizeLine_eq];lia))) ?_)
  wp_walk
  refine hq h' _ ⟨o,(hs.2 x hne.symm).trans hx,hc,hnc,.inr ⟨dx,hdx,hne,hn'⟩⟩ (fun b ob _ hbd hb=>?_)
   (fun o₀ h₀=>by
    obtain rfl:o=o₀:=Option.some.inj (hx.symm.trans h₀)
    exact ⟨o,(hs.2 x hne.symm).trans h₀,rfl,rfl,rfl,(fun _ e=>e),fun e=>by rw [hdx] at e;cases e⟩)
  exact (hs.2 b (hbd o dx hx hdx)).trans hb
theorem xset {Q:Unit→Shared→Prop} (X:K.In h) (c:XCls K C init) (hna:PySem.W.findIn K (.ref C) name=some none) (I:h.Inst x C mA) (hw:Within mA ns) (hsz:ns.length≤1000)
  (hq:∀ h' tk',h'.Inst x C (fun y=>if y=name then some v else mA y)→
   (∀ b o,b ≠ x→(∀ o₀ dx,h.get? x=some o₀→o₀.dict=some dx→b ≠ dx)→h.get? b=some o→h'.get? b=some o)→
   (∀ o₀,h.get? x=some o₀→∃ o₁,h'.get? x=some o₁∧o₁.cls=o₀.cls∧o₁.data=o₀.data∧o₁.slots=o₀.slots∧(∀ dx,o₀.dict=some dx→o₁.dict=some dx)∧(o₀.dict=none→o₁.dict=some h.objs.size))→Q () ⟨h',g,d,tk',os⟩) :
  wpAny (model prog w) A (setAttr (.ref x) name v) Q E ⟨h,g,d,t,os⟩:=by
 obtain ⟨bm,N,nm,qn,bs,sn,sub,ab,col,dd,k0,k1,k2,k3,k5,mN,hC,hn,_,T⟩:=xc_of X c.cls
 obtain ⟨o,hx,hc,hnc,hd⟩:=id I
 have SF:=PySem.F.store_ValueError
 have LT:PySem.W.Looks (model prog w) h (typeOf (.ref x)) (.ref C):=by
  rw [← hc]
  exact (PySem.W.Looks.ld hx).andThen .now
 have hm:PySem.W.Looks (model prog w) h (mroOf (.ref C)) (.ref C::bm):=fun A Q E s k q=>by
  obtain ⟨hp,g,d,tk,os⟩:=s
  exact wpAny_mroOf_exc (k _ _ hC) q
 have sub1:PySem.W.Looks (model prog w) h (isInstance (.ref x) (.type "object")) true:=LT.andThen fun A Q E s k q=>by
  obtain ⟨hp,g,d,tk,os⟩:=s
  refine wpAny_isSubtype_exc (k _ _ hC) ?_
  have:(Value.ref C::bm).contains (.type "object")=true:=by rw [List.contains_cons,T.hasType (X:="object") (b:=true) (by decide +kernel),Bool.or_true]
  rw [this]
  exact q
 refine wpAny_bind (wpAny_mkText (wpAny_bind (wpAny_bind (wpAny_bind (LT _ _ _ _ (fun _ _ e=>e) (PySem.W.looks_findIn X c.set _ _ _ _ (fun _ _ e=>e) (wpAny_holding ?_)))))))
 rw [PySem.F.store_object.slot.bind]
 refine wpAny_bind (wpAny_pure (wpAny_bind (wpAny_call ?_)))
 refine codeAny_call_builtin SF.slot.plain SF.entry (@PySem.W.check_slot (model prog w) _ _ _ "object.__setattr__" "object" "__setattr__" (.ref x) [.str name t,v] [] _ SF.kind SF.split sub1 (SF.args (.ref x) (.str name t) v) ?_)
 show wpAny (model prog w) A.in1 (Builtin.«object.__setattr__» ⟨[.ref x,.str name t,v],[]⟩) _ _ ⟨h,g,d,t+1,os⟩
 rw [PySem.W.osa_eq,refuse_eq]
 refine wpAny_bind (wpAny_bind (LT.here (wpAny_bind (hm.here ?_))))
 rw [refuseLoop_ref,refuse_tail _ T]
 refine wpAny_pure (wpAny_bind (LT.here (wpAny_bind ((PySem.W.looks_findIn X hna).here (wpAny_bind (wpAny_pure ?_))))))
 refine xstore X c.cls I hw hsz fun h' tk' i1 i2 i3=>?_
 exact wpAny_pure (wpAny_pure (hq h' tk' i1 i2 i3))
end
end L2
namespace L2
open PySem PySem.Spec PyProof.Rows
noncomputable abbrev excObj (C t:Addr) (dd:Option Addr):Obj:={ cls:=.ref C,dict:=dd,data:=.fields #[.ref t,.none,.none,.none,.bool false,.none] }
noncomputable abbrev argObj (rest:List Value):Obj:={ cls:=.type "tuple",data:=.seq rest.toArray }
section
variable {prog:Program} {w:World} {A:Around} {R:Result→Shared→Prop} {h:Heap} {g:Array GenState} {d:Drawn} {t:Nat} {os:OsState} {K:PySem.W.Frag} {C fI:Addr} {rest:List Value}
theorem xmake (X:K.In h) (q:xcIn K C (some (.ref fI))=true) (hf:PySem.W.typeIn K (.ref fI)=some (.type "function")) (hrest:rest.length≤sizeLine)
  (hq:codeAny (model prog w) (A.under (.builtin "type.__call__" ⟨.ref C::rest,[]⟩)) (.call (.ref fI) ⟨.ref (h.objs.size+1)::rest,[]⟩) (PySem.W.InitBack (h.objs.size+1) R) ⟨(h.push (argObj rest)).push (excObj C h.objs.size none),g,d,t,os⟩) :
  codeAny (model prog w) A (.call (.ref C) ⟨rest,[]⟩) R ⟨h,g,d,t,os⟩:=by
 obtain ⟨bm,N,nm,qn,bs,sn,sub,ab,col,dd,k0,k1,k2,k3,k5,mN,hC,hn,hni,T⟩:=xc_of X q
 have F:=PySem.F.excBase_ValueError
 have f1:=tc_lookup
 have f2:=tc_bind (.ref C)
 have hT:(⟨h,g,d,t,os⟩:Shared).TypeIs (.ref C) "type":=⟨_,hC,rfl⟩
 refine codeAny_of_tree ?_
 show wpAny _ _ (callAny (.ref C) _) _ _ _
 repeat (any_goals (first | assumption | with_reducible refine wpAny_loadPart_at hC ?_ | wp_step))
 refine ⟨rfl,?_⟩
 show codeAny (model prog w) A (.call (.builtin "type.__call__") ⟨.ref C::rest,[]⟩) R ⟨h,g,d,t,os⟩
 refine codeAny_call_builtin_at (Code.quiet_builtin _ (by decide +kernel)) entry_typeCall (wpAny_check_type_call_sub hC ?_)
 repeat (first | with_reducible refine wpAny_loadPart_at hC ?_ | with_reducible refine wpAny_madeBy_exc hC ?_ | wp_step)
 refine codeAny_call_builtin_code (Code.quiet_builtin _ F.quiet) (wpAny_check_new_subT F T hC ?_)
 refine codeAny_exc_new_subT F T hC ?_ hrest
 show wpAny _ _ _ _ _ _
 have kp:∀ b o,h.get? b=some o→((h.push (argObj rest)).push (excObj C h.objs.size none)).get? b=some o:=fun b o e=>Heap.get?_push_of_some _ (Heap.get?_push_of_some _ e)
 have hC₁:=kp _ _ hC
 have hn₁:((h.push (argObj rest)).push (excObj C h.objs.size none)).Ns N mN:=let ⟨o,es,ep,e,r⟩:=hn;⟨o,es,ep,kp _ _ e,r⟩
 have hget:((h.push (argObj rest)).push (excObj C h.objs.size none)).get? (h.objs.size+1)=some { cls:=.ref C,data:=.fields #[.ref h.objs.size,.none,.none,.none,.bool false,.none] }:=by heap_get
 have hcC:(Value.ref C::bm).contains (.ref C)=true:=by simp
 have T₁:=T.keeps kp
 unfold isInstance
 repeat (first | with_reducible refine wpAny_loadPart_at hget ?_ | (with_reducible refine wpAny_isSubtype_exc hC₁ ?_;rw [hcC]) | wp_step)
 show wpAny _ _ (typeLookup (.ref C) _) _ _ _
 refine wpAny_typeLookup_tail hC₁ hn₁ T₁ F.mroIs F.init.lookup ?_
 rw [hni]
 have b1:=(PySem.W.bind_fn (M:=model prog w) X (.ref (h.objs.size+1)) hf).keeps kp
 refine wpAny_holding (wpAny_bind (b1.here (wpAny_bind (wpAny_call (codeAny_mono hq fun r s' z=>?_)))))
 rcases r with e | (v | _ | _ | _) <;> first | exact z | exact z.elim | skip
 obtain ⟨rfl,z⟩:=z
 exact wpAny_pure (wpAny_pure z)
end
section
variable {M:Model} {A:Around} {E:Value→Shared→Prop} {env:Env} {K:PySem.W.Frag} {C:Addr} {init:Option Value}
theorem xraise {s:Shared} {x:Sem Value} {Q:Flow→Shared→Prop} (hh:A.handled=none) (c:xcIn K C init=true)
  (h:wpAny M A x (fun v s₁=>∃ e t dd,v=.ref e∧K.In s₁.heap∧s₁.heap.get? e=some (excObj C t dd)∧E (.ref e) s₁) E s) :
  wpAny M A (raiseStmt env (some x) none) Q E s:=by
 unfold raiseStmt
 refine wpAny_bind (wpAny_mono h (fun v s₁ h₁=>?_) fun _ _ x=>x)
 obtain ⟨e,t,dx,rfl,X,he,hE⟩:=h₁
 obtain ⟨bm,N,nm,qn,bs,sn,sub,ab,col,dd,k0,k1,k2,k3,k5,mN,hC,hn,hni,T⟩:=xc_of X c
 have hcB:(Value.ref C::bm).contains (.type "BaseException")=true:=by rw [List.contains_cons,T.hasType (X:="BaseException") (b:=true) (by decide +kernel),Bool.or_true]
 obtain ⟨hp,g,d,tk,os⟩:=s₁
 have he':hp.get? e=some { cls:=.ref C,dict:=dx,data:=.fields #[.ref t,.none,.none,.none,.bool false,.none] }:=he
 repeat (first | with_reducible refine wpAny_loadPart_at he' ?_ | with_reducible refine wpAny_loadPart_at hC ?_ | (with_reducible refine wpAny_isSubtype_exc hC ?_;rw [hcB]) | wp_step)
 exact wpAny_raiseNew_none hh hE
end
def ExcN (x C:Addr) (dd:Option Addr):HO:=.ext fun h=>∃ t,h.get? x=some (excObj C t dd)
theorem excN_ok {P:Program} {w:World} {H:Hp} {h:Heap} {x C t:Addr} {dd:Option Addr} (e:h.get? x=some (excObj C t dd)):ObjOk P w H h x (ExcN x C dd):=⟨⟨t,e⟩,⟨_,e⟩,fun _ _ ⟨t,a⟩ k=>⟨t,k _ a⟩⟩
def XDic (dx:Addr) (fs:List (Str × V)):HO:=.ext fun h=>∃ mA,h.Ns1 dx mA∧(∀ f,RelO (fs.lookup f) (mA f))∧PySem.Within mA (fs.map (·.1))
theorem xdic_ok {P:Program} {w:World} {H:Hp} {h:Heap} {dx:Addr} {fs:List (Str × V)} {mA:Str→Option Value} (e:h.Ns1 dx mA) (r:∀ f,RelO (fs.lookup f) (mA f)) (wi:PySem.Within mA (fs.map (·.1))):ObjOk P w H h dx (XDic dx fs):=by
 obtain ⟨o,_,_,ho,_⟩:=id e
 refine ⟨⟨mA,e,r,wi⟩,⟨o,ho⟩,?_⟩
 rintro h1 h2 ⟨mB,⟨o1,es,ep,a,b⟩,r1,w1⟩ k
 exact ⟨mB,⟨o1,es,ep,k _ a,b⟩,r1,w1⟩
section
variable {X:Cx} {pins:List (Addr × Obj)} {σ:St} {H:Hp} {s:Shared}
theorem Inv.untrack {e:Addr} {φ:Heap→Prop} (I:Inv X pins σ (upd H e (.ext φ)) s) (h0:H e=none):Inv X pins σ H s:=by
 have dn:∀ b,(upd H e (.ext φ)) b=none→H b=none:=fun b q=>by
  by_cases hb:b=e
  ·rw [hb];exact h0
  ·rw [qA7 hb] at q;exact q
 have up:∀ b u,(upd H e (.ext φ)) b=some u→(∀ ψ,u ≠ .ext ψ)→H b=some u:=fun b u q n=>by
  by_cases hb:b=e
  ·rw [hb,qA1] at q;cases q;exact absurd rfl (n φ)
  ·rw [qA7 hb] at q;exact q
 refine ⟨I.ok,I.os,I.bare,⟨I.base.keep,I.base.slot,fun b ob q n hx=>dn _ (I.base.free b ob q n hx),I.base.there,fun b xs q=>up _ _ (I.base.tups b xs q) (fun _ z=>nomatch z),fun b ob u q=>up _ _ (I.base.frzs b ob u q) (fun _ z=>nomatch z),fun b ps q=>?_⟩,I.loc,I.cell,dn _ I.free,fun x c q=>dn _ (I.freeC x c q),fun p hp=>?_,fun b u q=>?_,I.len⟩
 ·exact up _ _ (I.base.tbls b ps q) (fun _ z=>nomatch z)
 ·obtain ⟨a,b,c⟩:=I.pin p hp
  exact ⟨a,dn _ b,c⟩
 ·have q':(upd H e (.ext φ)) b=some u:=by rw [qA7 (qA2 q h0)];exact q
  exact (I.hok b u q').stay (fun _ _ _ z=>z) (fun c z=>up _ _ z (fun _ z=>nomatch z)) (fun c xs z=>up _ _ z (fun _ z=>nomatch z)) fun c t z=>up _ _ z (fun _ z=>nomatch z)
theorem Inv.flies {e C t:Addr} {dd:Option Addr} {G:XK} (I:Inv X pins σ H s) (hex:X.ex=[]) (he:s.heap.get? e=some (excObj C t dd)) (hn:H e=none) (hge:X.s₀.heap.objs.size≤e) (hne:e ∉ frs X.stack) (g:G (.ref C) dd H):XP X G (.ref e) s:=by
 have up:∀ b,Kp X.outer H X.s₀.heap b→b ∉ e::frs X.stack:=fun b k hm=>by
  rcases List.mem_cons.mp hm with z | z
  ·rcases k with ⟨o,q⟩ | ⟨⟨o,q⟩,_⟩
   ·rw [z,hn] at q;cases q
   ·rw [z] at q;exact absurd (Heap.lt_size q) (Nat.not_lt.mpr hge)
  ·rcases k with ⟨o,q⟩ | ⟨⟨o,q⟩,nf⟩
   ·rw [I.stkFree b z] at q;cases q
   ·rcases List.mem_cons.mp (I.stkSub b z) with z2 | z2
    ·rw [z2] at q;exact absurd (Heap.lt_size q) (Nat.not_lt.mpr I.ok.above)
    ·exact nf z2
 have hb:=I.base
 rw [hex] at hb
 refine ⟨I.ok.frames,e,.ref C,dd,H,PySem.W.hideAll s.heap (e::frs X.stack),false,rfl,I.os,I.bare,⟨hb,I.hok,⟨fun b o q=>PySem.W.of_hideAll _ q,PySem.W.hideAll_none _ (by simp),?_,_,_,.none,he,rfl,rfl,rfl,rfl,.inl ⟨rfl,rfl⟩⟩,fun b o q k=>PySem.W.hideAll_get _ q (up b k),hn,hge⟩,g⟩
 exact PySem.W.funFrames_hide I.stack fun env henv a ha=>List.mem_cons_of_mem _ (List.mem_filterMap.mpr ⟨env,henv,ha⟩)
end
section
variable {X:Cx}
def tRaiseC (C:Addr) (sp:Sp) (G:XK) (t:TA):TS:=fun _ σ H=>t σ H fun vs H1=>∀ x,H1 x=none→sp (.ref x::vs) (upd H1 x (ExcN x C none)) (fun v H2=>v=.non∧∃ dd H3,H2=upd H3 x (ExcN x C dd)∧H3 x=none∧G (.ref C) dd H3) E0
theorem ps_raiseC {G:XK} {k:Nat} {C f:Addr} {fd:FuncData} {ps:List Str} {sp:Sp} {cn:Str} {pn pc pos:Pos} {a:Expr} {as:List Expr} {t:TA} (hex:X.ex=[]) (hc:X.calm=true) (c:XCls X.K C (some (.ref f))) (hf:PySem.W.isFn X.K (.ref f)=true)
  (F:FnOk X.prog X.w X.K X.mg X.base CX0 k f fd ps sp) (hr:Room (k+1) X.A) (hg:Gl X cn) (hm:X.mg cn=some (.ref C)) (hb:Binds X.K fd ps []) (ha:PA X.nox (a::as) t) (hps:ps.length≤100)
  (hdb:(cn == ("__debug__" : Str))=false:=by decide) (he:starEach (a::as) X.env=(false,eval a X.env)::starEach as X.env:=by rfl) (hpl:(backTo pc (starEach as X.env)).any (·.1)=false:=by rfl) :
  PS (X.wish (XP X G)) (.Raise (some (.Call (.Name cn pn) (a::as) [] pc)) none pos) (tRaiseC C sp G t):=by
 intro pins s σ H D I h
 have I:=I.unwish
 show wpAny (model X.prog X.w) X.A (exec (.Raise (some (.Call (.Name cn pn) (a::as) [] pc)) none pos) X.env) _ (XP X G) s
 rw [arm_exec_Raise]
 refine wpAny_bind (wpAny_standAt ?_)
 refine xraise (K:=X.K) (I.ok.hd hc) c.cls ?_
 refine wpAny_bind (wpAny_mono ?_ (fun v s₁ hv=>wpAny_bind (wpAny_standAt (wpAny_pure hv))) fun _ _ z=>z)
 refine wpAny_Call_Name_kw (ld_glob I hg hm ?_ hdb)
 refine PySem.W.callWith_K (h₀:=X.base) I.ok.mod.kin c.kp (wpAny_mono (ha pc pins s σ H _ (I.wish _) h) (fun us s1 ⟨vs,H1,I1,r,q⟩=>⟨I1.unwish.kIn,?_⟩) fun _ _ z=>z.elim) he hpl
 have I1:=I1.unwish
 have hq:=q (s1.heap.objs.size+1) (I1.hok.fresh (Nat.le_succ _))
 have hget:((s1.heap.push (argObj us)).push (excObj C s1.heap.objs.size none)).get? (s1.heap.objs.size+1)=some (excObj C s1.heap.objs.size none):=by heap_get
 have I2:Inv X pins σ (upd H1 (s1.heap.objs.size+1) (ExcN (s1.heap.objs.size+1) C none)) { s1 with heap:=(s1.heap.push (argObj us)).push (excObj C s1.heap.objs.size none) }:=
  I1.laid (t':=s1.toks) (fun b o e=>Heap.get?_push_of_some _ (Heap.get?_push_of_some _ e)) (Nat.le_succ _) (excN_ok hget)
 have r2:Vals (V.ref (s1.heap.objs.size+1)::vs) (Value.ref (s1.heap.objs.size+1)::us):=.cons rfl r
 have hl:=F.len _ _ _ _ hq
 have hlu:(Value.ref (s1.heap.objs.size+1)::us).length=ps.length:=by rw [← r2.length];exact hl
 have hb':BindsTo { s1 with heap:=(s1.heap.push (argObj us)).push (excObj C s1.heap.objs.size none) } fd ⟨Value.ref (s1.heap.objs.size+1)::us,[]⟩ (ps.zip (Value.ref (s1.heap.objs.size+1)::us)):=by
  have:=hb { s1 with heap:=(s1.heap.push (argObj us)).push (excObj C s1.heap.objs.size none) } (Value.ref (s1.heap.objs.size+1)::us) I2.kIn (by rw [List.append_nil];exact hlu)
  rw [List.append_nil] at this
  exact this
 refine wpAny_call (xmake (fI:=f) I1.kIn c.cls (beq_iff_eq.mp hf) ?_ (codeAny_mono (F.run _ X.stack _ _ ⟨Value.ref (s1.heap.objs.size+1)::us,[]⟩ (Value.ref (s1.heap.objs.size+1)::us) _ _ E0 (hr.make C us []) (I2.env0.make C us []) hb' r2 hq) fun r s' hq'=>?_))
 ·rw [sizeLine_eq,List.nil_append]
  rw [List.length_cons] at hlu
  lia
 cases r with
 | error e=>exact False.elim hq'
 | ok fl=>
  cases fl with
  | ret u=>
   obtain ⟨v,H',I3,rv,ev,dd,H3,e3,n3,g3⟩:=I2.after hq'
   subst ev
   subst e3
   obtain ⟨⟨t3,ht3⟩,_⟩:=I3.hok _ _ qA1
   refine ⟨rv,s1.heap.objs.size+1,t3,dd,rfl,I3.kIn,ht3,?_⟩
   refine (I3.untrack n3).flies hex ht3 n3 (Nat.le_trans I1.sz (Nat.le_succ _)) (fun z=>?_) g3
   have:=I3.stkFree _ z
   rw [qA1] at this
   cases this
  | next=>exact False.elim hq'
  | brk=>exact False.elim hq'
  | cont=>exact False.elim hq'
def sXfld (K:PySem.W.Frag) (ta tv:TE) (f:Str) (C:Addr):TS:=fun D σ H=>tv σ H fun y H1=>ta σ H1 fun x H2=>∃ a dd,x=.ref a∧H2 a=some (ExcN a C dd)∧PySem.W.findIn K (.ref C) f=some none∧
 ((dd=none∧∀ dx,H2 dx=none→dx ≠ a→D.nx σ (upd (upd H2 dx (XDic dx [(f,y)])) a (ExcN a C (some dx))))∨∃ dx fs,dd=some dx∧dx ≠ a∧H2 dx=some (XDic dx fs)∧fs.length<1000∧D.nx σ (upd H2 dx (XDic dx (putF f y fs))))
theorem ps_xfld {C:Addr} {init:Option Value} {o value:Expr} {f:Str} {pos pos':Pos} {ta tv:TE} (c:XCls X.K C init) (ha:PE X o ta) (hv:PE X value tv) (hs:swapsWith value (some (.Attribute o f pos')) pos.line X.env=pure false:=by rfl):PS X (.Assign [.Attribute o f pos'] value pos) (sXfld X.K ta tv f C):=by
 intro pins s σ H D I h
 refine plainObj_wpAny_Assign_Attribute (thn (hv pins s σ H _ I h) fun u s1 ⟨y,H1,I1,ry,q⟩=>thn (ha pins s1 σ H1 _ I1 q) fun ov s2 ⟨x,H2,I2,rx,a,dd,ex,ea,hna,q2⟩=>?_) hs
 subst ex
 obtain rfl:ov=Value.ref a:=rx
 obtain ⟨⟨t,ht⟩,_⟩:=I2.hok _ _ ea
 obtain ⟨h2,g2,d2,t2,os2⟩:=s2
 rcases q2 with ⟨rfl,q2⟩ | ⟨dx,fs,rfl,hne,ed,hl,q2⟩
 ·refine xset (mA:=fun _=>none) (ns:=[]) I2.kIn c hna ⟨_,ht,rfl,(fun _ z=>nomatch z),.inl ⟨rfl,fun _=>rfl⟩⟩ Within.nil (by simp) fun h' tk' i1 i2 i3=>?_
  obtain ⟨o1,e1,e2,e3,e4,_,e5⟩:=i3 _ ht
  have e5:=e5 rfl
  obtain ⟨o2,f1,f2,_,f4⟩:=i1
  rw [e1] at f1
  cases f1
  have sz:a<h2.objs.size:=Heap.lt_size ht
  have nd:h2.objs.size ≠ a:=Nat.ne_of_gt sz
  have ho1:h'.get? a=some (excObj C t (some h2.objs.size)):=by
   rw [e1]
   obtain ⟨c1,c2,c3,c4⟩:=o1
   simp only at e2 e3 e4 e5
   rw [e2,e3,e4,e5]
  have hns:h'.Ns1 h2.objs.size (fun y=>if y=f then some u else none):=by
   rcases f4 with ⟨z,_⟩ | ⟨d,z,_,hn⟩
   ·rw [e5] at z;cases z
   ·rw [e5] at z;cases z;exact hn
  have fr:H2 h2.objs.size=none:=I2.hok.fresh (Nat.le_refl _)
  have kp:∀ b ob,b ≠ a→h2.get? b=some ob→h'.get? b=some ob:=fun b ob hb q=>i2 b ob hb (fun o₀ dx z1 z2=>by rw [ht] at z1;cases z1;cases z2) q
  refine ⟨σ,_,?_,q2 h2.objs.size fr nd⟩
  have I3:Inv X pins σ (upd H2 a (ExcN a C (some h2.objs.size))) ⟨h',g2,d2,tk',os2⟩:=
   I2.write (h':=h') (t':=tk') (x:=a) (e:=a) (o:=ExcN a C (some h2.objs.size)) (by rw [ea];exact trivial) (.inl rfl) (fun b ob hb q=>kp b ob hb q) ⟨_,ho1⟩ (excN_ok ho1)
  have na:(upd H2 a (ExcN a C (some h2.objs.size))) h2.objs.size=none:=by rw [qA7 nd];exact fr
  have lt:∀ b ob,h2.get? b=some ob→b ≠ h2.objs.size:=fun b ob q=>Nat.ne_of_lt (Heap.lt_size q)
  have I4:=I3.track (T:=h2.objs.size) (o:=XDic h2.objs.size [(f,y)]) na (Nat.le_trans I2.sz (Nat.le_refl _)) (fun z=>by
    obtain ⟨m,⟨oL,_,_,hL,_⟩,_⟩:=I2.loc
    exact lt _ _ hL z.symm) (fun y' c' q z=>by
    obtain ⟨v',oc,q3,_⟩:=I2.cell y' c' q
    exact lt _ _ q3 z) (fun p hp z=>lt _ _ (I2.pin p hp).1 z) (xdic_ok hns (fun g=>?_) (fun g hg=>?_))
  ·have ec:upd (upd H2 a (ExcN a C (some h2.objs.size))) h2.objs.size (XDic h2.objs.size [(f,y)])=upd (upd H2 h2.objs.size (XDic h2.objs.size [(f,y)])) a (ExcN a C (some h2.objs.size)):=by
    funext b
    unfold upd
    by_cases hb1:b=h2.objs.size
    ·subst hb1
     simp [nd]
    ·by_cases hb2:b=a
     ·simp [hb1,hb2,nd.symm]
     ·simp [hb1,hb2]
   rw [← ec]
   exact I4
  ·rw [List.lookup_cons]
   by_cases q:g=f
   ·subst q;simp;exact ry
   ·rw [if_neg q,show (g == f)=false from beq_eq_false_iff_ne.mpr q];trivial
  ·by_cases q:g=f
   ·subst q;simp
   ·exact absurd (if_neg q) hg
 ·obtain ⟨⟨mA,hm,hr,hwi⟩,_⟩:=I2.hok _ _ ed
  refine xset (mA:=mA) (ns:=fs.map (·.1)) I2.kIn c hna ⟨_,ht,rfl,(fun _ z=>nomatch z),.inr ⟨dx,rfl,hne,hm⟩⟩ hwi (by rw [List.length_map];lia) fun h' tk' i1 i2 i3=>?_
  obtain ⟨o1,e1,e2,e3,e4,e5,_⟩:=i3 _ ht
  have e5:=e5 dx rfl
  obtain ⟨o2,f1,f2,_,f4⟩:=i1
  rw [e1] at f1
  cases f1
  have ho1:h'.get? a=some (excObj C t (some dx)):=by
   rw [e1]
   obtain ⟨c1,c2,c3,c4⟩:=o1
   simp only at e2 e3 e4 e5
   rw [e2,e3,e4,e5]
  have hns:h'.Ns1 dx (fun y=>if y=f then some u else mA y):=by
   rcases f4 with ⟨z,_⟩ | ⟨d,z,_,hn⟩
   ·rw [e5] at z;cases z
   ·rw [e5] at z;cases z;exact hn
  refine ⟨σ,_,?_,q2⟩
  refine I2.write (h':=h') (t':=tk') (x:=dx) (e:=dx) (o:=XDic dx (putF f y fs)) (by rw [ed];exact trivial) (.inl rfl) (fun b ob hb q=>?_) ?_ (xdic_ok hns (fun g=>?_) fun g hg=>?_)
  ·by_cases hb2:b=a
   ·rw [hb2] at q ⊢
    rw [ht] at q
    cases q
    exact ho1
   ·exact i2 b ob hb2 (fun o₀ dx' z1 z2=>by rw [ht] at z1;cases z1;cases z2;exact hb) q
  ·obtain ⟨o,_,_,ho,_⟩:=hns
   exact ⟨o,ho⟩
  ·show RelO ((putF f y fs).lookup g) (if g=f then some u else mA g)
   rw [qAC]
   by_cases q:g=f
   ·rw [if_pos q,if_pos q];exact ry
   ·rw [if_neg q,if_neg q];exact hr g
  ·by_cases q:g=f
   ·rw [q];exact (qCI f y fs).1
   ·refine (qCI f y fs).2 g (hwi g fun z=>hg ?_)
    show (if g=f then some u else mA g)=none
    rw [if_neg q];exact z
end
end L2
namespace L2
open PySem PySem.Spec PyProof.Rows
structure XGet (K:PySem.W.Frag) (C:Addr):Prop where
 ga:PySem.W.findIn K (.ref C) "__getattribute__" = some (some (.builtin "BaseException.__getattribute__"))
 gt:PySem.W.findIn K (.ref C) "__getattr__" = some none
 be:PySem.W.mroIn K C (.type "BaseException")=some true
 hd:PySem.W.hasDictIn K C=true
section
variable {prog:Program} {w:World} {A:Around} {E:Value→Shared→Prop} {s:Shared} {K:PySem.W.Frag} {x C:Addr} {ox:Obj} {od:Option Obj} {name:Str} {tk:Tok}
theorem bexc_slot:builtinKind "BaseException.__getattribute__" = some .slot:=by decide +kernel
theorem bexc_split:splitId "BaseException.__getattribute__" = some ("BaseException","__getattribute__"):=by decide +kernel
theorem bexc_plain:plainId "BaseException.__getattribute__" = true:=by decide +kernel
theorem bexc_bind (self:Value):bindSpecial (.builtin "BaseException.__getattribute__") self=pure (.builtin "BaseException.__getattribute__",[self]):=by
 have hop:withoutEnding? "BaseException.__getattribute__" "#opaque" = none:=by decide +kernel
 have hdat:withoutEnding? "BaseException.__getattribute__" "#data" = none:=by decide +kernel
 simp only [bindSpecial,typeOf,builtinType,hop,hdat,bexc_slot];rfl
theorem xga_call {R:Result→Shared→Prop} {r:Builtin.ObjectAttr.Found} (X:K.In s.heap) (I:PySem.W.InstAt s.heap x ox C od) (c:XGet K C) (hf:PySem.W.findObj K C od name=some r)
  (h:match r with | .value v=>R (.ok (.ret v)) s | .bind g a=>codeAny (model prog w) A.in1 (.call g ⟨[a,.ref x,.ref C],[]⟩) (fun r s'=>match r with | .ok (.ret v)=>R (.ok (.ret v)) s' | .ok _=>False | .error e=>R (.error e) s') s | .missing=>False) :
  codeAny (model prog w) A (.call (.builtin "BaseException.__getattribute__") ⟨[.ref x,.str name tk],[]⟩) R s:=by
 have L0:=I.type (M:=model prog w)
 have L1:=PySem.W.looks_find (M:=model prog w) X I hf
 have LB:PySem.W.Looks (model prog w) s.heap (isInstance (.ref x) (.type "BaseException")) true:=L0.andThen (PySem.W.looks_mroIn X c.be)
 refine codeAny_call_builtin bexc_plain PySem.F.entry_bexc_ga (@PySem.W.check_slot (model prog w) _ _ s "BaseException.__getattribute__" "BaseException" "__getattribute__" (.ref x) [.str name tk] [] _ bexc_slot bexc_split LB (PySem.F.args_bexc_ga (.ref x) (.str name tk)) ?_)
 unfold Builtin.«object.__getattribute__»
 refine wpAny_bind (wpAny_of_eq (a:=(Value.ref x,[Value.str name tk])) rfl (wpAny_bind (wpAny_of_eq (a:=name) rfl (wpAny_bind (L0.here (wpAny_bind (L1.here ?_)))))))
 cases r with
 | value v=>exact wpAny_pure h
 | bind g a=>
  show wpAny _ _ (holding [a] (call g [a,.ref x,.ref C]) >>= ret) _ _ _
  refine wpAny_bind (wpAny_holding (wpAny_call (codeAny_mono h fun r s' z=>?_)))
  cases r with
  | error e=>exact z
  | ok fl=>
   cases fl with
   | ret v=>exact wpAny_pure z
   | next=>exact False.elim z
   | brk=>exact False.elim z
   | cont=>exact False.elim z
 | missing=>exact h.elim
theorem xga_by {fill expr:Bool} {Q:Value→Shared→Prop} (X:K.In s.heap) (I:PySem.W.InstAt s.heap x ox C od) (c:XGet K C)
  (h:codeAny (model prog w) A (.call (.builtin "BaseException.__getattribute__") ⟨[.ref x,.str name tk],[]⟩) (fun r s'=>match r with | .ok (.ret v)=>wpAny (model prog w) A (handedOut v) Q E s' | _=>False) s) :
  wpAny (model prog w) A (getAttrBy (.ref x) (.str name tk) fill expr) Q E s:=by
 have L0:=I.type (M:=model prog w)
 have L1:=PySem.W.looks_findIn (M:=model prog w) X c.ga
 have L2:=PySem.W.looks_findIn (M:=model prog w) X c.gt
 unfold getAttrBy
 refine wpAny_holding (wpAny_bind (L0.here (wpAny_bind (L1.here ?_))))
 have hne:(Value.builtin "BaseException.__getattribute__" == Value.builtin "object.__getattribute__")=false:=by decide +kernel
 dsimp only
 rw [hne,Bool.and_false,if_neg Bool.false_ne_true]
 unfold getAttrByItsOwn hookBefore
 refine wpAny_bind (L2.here (wpAny_bind (wpAny_attempt ?_)))
 refine wpAny_holding ?_
 unfold callGetattribute
 have hx0:(expr && onTheHeap (Value.builtin "BaseException.__getattribute__"))=false:=by cases expr <;> rfl
 rw [hx0,if_neg Bool.false_ne_true]
 unfold boundAndCalled
 rw [bexc_bind]
 refine wpAny_bind (wpAny_pure ?_)
 refine wpAny_call (codeAny_mono h fun r s' z=>?_)
 cases r with
 | error e=>exact False.elim z
 | ok fl=>
  cases fl with
  | ret v=>exact z
  | next=>exact False.elim z
  | brk=>exact False.elim z
  | cont=>exact False.elim z
theorem xclass {Q:Option Value→Shared→Prop} (X:K.In s.heap) (I:PySem.W.InstAt s.heap x ox C od) (c:XGet K C) (ha:PySem.W.findIn K (.ref C) "__class__" = some (some (.builtin "object.__class__")))
  (hn:PySem.W.specialIn K (.builtin "object.__class__") "__get__" = some (some (.builtin "getset_descriptor.__get__"))) (htk:PySem.W.takesIn K (.builtin "object.__class__")=some true) (hm:PySem.W.mroIn K C (.type "object")=some true)
  (h:Q (some (.ref C)) { s with toks:=s.toks+1 }):wpAny (model prog w) A (getAttr? (.ref x) "__class__") Q E s:=by
 have hf:PySem.W.findObj K C od "__class__" = some (.bind (.builtin "getset_descriptor.__get__") (.builtin "object.__class__")):=by
  obtain ⟨cd,hc,_⟩:=PySem.W.any_some c.hd
  unfold PySem.W.findObj
  rw [hc,ha]
  simp only [Option.bind_some,hn,htk]
 unfold getAttr? getAttrBy?
 refine wpAny_bind (wpAny_mkText (wpAny_bind (wpAny_attempt ?_)))
 refine xga_by (s:={ s with toks:=s.toks+1 }) X I c (xga_call (s:={ s with toks:=s.toks+1 }) X I c hf ?_)
 refine PySem.W.class_get (s:={ s with toks:=s.toks+1 }) (ox:=ox) (od:=od) X I hm ?_
 exact wpAny_pure (wpAny_pure h)
theorem xgetattr {expr:Bool} {Q:Value→Shared→Prop} {dx:Addr} {mA:Str→Option Value} {v:Value} (X:K.In s.heap) (hx:s.heap.get? x=some ox) (hc:ox.cls=.ref C) (hno:PySem.W.notCls ox=true) (hd:ox.dict=some dx) (hns:s.heap.Ns1 dx mA) (c:XGet K C) (ha:PySem.W.findIn K (.ref C) name=some none) (hv:mA name=some v) (hv':PySem.W.handedIn v=true)
  (h:Q v { s with toks:=s.toks+1 }):wpAny (model prog w) A (getAttr (.ref x) name expr) Q E s:=by
 obtain ⟨od,ho,hl⟩:=lookIn_ns hns
 have I:PySem.W.InstAt s.heap x ox C (some od):=⟨hx,hc,hno,by rw [hd];exact ho⟩
 have hf:PySem.W.findObj K C (some od) name=some (.value v):=PySem.W.findObj_own c.hd ha rfl (by rw [hl,hv])
 unfold getAttr
 refine wpAny_bind (wpAny_mkText ?_)
 refine xga_by (s:={ s with toks:=s.toks+1 }) X I c (xga_call (s:={ s with toks:=s.toks+1 }) X I c hf ?_)
 show wpAny _ _ (handedOut v) _ _ _
 rw [PySem.W.handedOut_of hv']
 exact wpAny_pure h
end
structure XTy (K:PySem.W.Frag) (C:Addr):Prop extends XGet K C where
 ca:PySem.W.findIn K (.ref C) "__class__" = some (some (.builtin "object.__class__"))
 cn:PySem.W.specialIn K (.builtin "object.__class__") "__get__" = some (some (.builtin "getset_descriptor.__get__"))
 ct:PySem.W.takesIn K (.builtin "object.__class__")=some true
 cm:PySem.W.mroIn K C (.type "object")=some true
section
variable {K:PySem.W.Frag}
theorem kitx_exc {x D:Addr} (c:XTy K D):PySem.W.KitX K (.ref x) (.ref D) (fun h=>∃ (ox:Obj) (od:Option Obj),PySem.W.InstAt h x ox D od) where
 ty:=fun _ _ _ ⟨_,_,I⟩=>I.type
 it:=fun _ _ X _=>by
  obtain ⟨cdD,hcD,_⟩:=PySem.W.any_some c.hd
  unfold PySem.W.clsIn at hcD
  split at hcD
  ·rename_i c' d' cd' sl' ho
   intro A' Q' E' s' k q
   unfold isType loadHead
   exact wpAny_bind (wpAny_loadPart (k _ _ (X _ _ ho)) (wpAny_pure q))
  ·cases hcD
 ne:=fun h tp dd its n sl X htp=>by
  obtain ⟨cdD,hcD,_⟩:=PySem.W.any_some c.hd
  refine Bool.eq_false_iff.mpr fun q=>?_
  have e:D=tp:=Value.ref.inj (beq_iff_eq.mp q)
  subst e
  unfold PySem.W.clsIn at hcD
  split at hcD
  ·rename_i c' d' cd' sl' ho
   have z:=(X _ _ ho).symm.trans htp
   cases z
  ·cases hcD
 ca:=fun X ⟨_,_,I⟩ k=>xclass X I c.toXGet c.ca c.cn c.ct c.cm k
end
section
variable {X:Cx}
def ExcT (H:Hp) (e C:Addr) (dd:Option Addr):Prop:=H e=some (ExcO e (.ref C) dd)∧(∀ dx,dd=some dx→∃ fs,H dx=some (XDic dx fs))
theorem exc_inst {pins:List (Addr × Obj)} {σ:St} {H:Hp} {s:Shared} {e C:Addr} {dd:Option Addr} (I:Inv X pins σ H s) (h:ExcT H e C dd):∃ (ox:Obj) (od:Option Obj),PySem.W.InstAt s.heap e ox C od∧ox.dict=dd:=by
 obtain ⟨⟨oe,vs,a1,a2,a3,a4⟩,_⟩:=I.hok _ _ h.1
 have no:PySem.W.notCls oe=true:=by unfold PySem.W.notCls;rw [a4]
 cases dd with
 | none=>exact ⟨oe,none,⟨a1,a2,no,by rw [a3];trivial⟩,a3⟩
 | some dx=>
  obtain ⟨fs,hf⟩:=h.2 dx rfl
  obtain ⟨⟨mA,⟨od,_,_,ho,_⟩,_⟩,_⟩:=I.hok _ _ hf
  exact ⟨oe,some od,⟨a1,a2,no,by rw [a3];exact ho⟩,a3⟩
theorem call_isX:CallR X (.builtin "isinstance") (fun xs H Q=>∃ e C dd y c b,xs=[.ref e,y]∧ExcT H e C dd∧XTy X.K C∧RelV y c∧(∀ c',RelV y c'→c'=c)∧PySem.W.kitOne X.K (.ref C) c=some b∧Q (.bl b) H):=by
 intro pins s σ H xs us Q I r h
 obtain ⟨e,C,dd,y,c,b,rfl,hT,ty,ry,uq,hk,q⟩:=h
 obtain ⟨u,v,rfl,r1,r2⟩:=vals2 r
 cases (show u=Value.ref e from r1)
 cases uq _ r2
 obtain ⟨ox,od,J,_⟩:=exc_inst I hT
 exact PySem.W.kia_one (kitx_exc ty) I.kIn ⟨ox,od,J⟩ hk (fun z=>nomatch z) fun tk=>⟨.bl b,H,I.tok _,rfl,q⟩
theorem refs_of:∀ {cs:List Addr} {its:List Value},Vals (cs.map V.ref) its→its=cs.map Value.ref
 | [],_,.nil=>rfl
 | a::l,_,.cons r t=>by
  cases (show _=Value.ref a from r)
  rw [refs_of t]
  rfl
theorem call_isXT:CallR X (.builtin "isinstance") (fun xs H Q=>∃ (e C:Addr) (dd:Option Addr) (tp:Addr) (cs:List Addr) (b:Bool),xs=[.ref e,.ref tp]∧ExcT H e C dd∧XTy X.K C∧H tp=some (.tup (cs.map V.ref))∧PySem.W.kitAny X.K (.ref C) (cs.map Value.ref)=some b∧Q (.bl b) H):=by
 intro pins s σ H xs us Q I r h
 obtain ⟨e,C,dd,tp,cs,b,rfl,hT,ty,ht,hk,q⟩:=h
 obtain ⟨u,v,rfl,r1,r2⟩:=vals2 r
 cases (show u=Value.ref e from r1)
 cases (show v=Value.ref tp from r2)
 obtain ⟨ox,od,J,_⟩:=exc_inst I hT
 obtain ⟨_,its,rv,⟨co,dco,dato,slo⟩,ho,hc,n,hd⟩:=I.hok _ _ ht
 simp only at hc hd
 subst hc hd
 have ei:its=cs.map Value.ref:=refs_of rv
 subst ei
 exact PySem.W.kia_tup (kitx_exc ty) I.kIn ⟨ox,od,J⟩ ho hk (fun z=>nomatch z) fun tk=>⟨.bl b,H,I.tok _,rfl,q⟩
def tXfld (K:PySem.W.Frag) (ta:TE) (f:Str):TE:=fun σ H Q=>ta σ H fun x H1=>∃ e C dx fs v,x=.ref e∧H1 e=some (ExcO e (.ref C) (some dx))∧H1 dx=some (XDic dx fs)∧XGet K C∧PySem.W.findIn K (.ref C) f=some none∧fs.lookup f=some v∧Q v H1
theorem pe_xfld {o:Expr} {f:Str} {pos:Pos} {ta:TE} (ha:PE X o ta) (hb:attributeBase o f X.env (eval o X.env)=eval o X.env):PE X (.Attribute o f pos) (tXfld X.K ta f):=by
 intro pins s σ H Q I h
 refine attr_of hb (thn (ha pins s σ H _ I h) fun u s1 ⟨x,H1,I1,rx,e,C,dx,fs,v,ex,ee,ed,c,n,l,q⟩=>?_)
 subst ex
 obtain rfl:u=Value.ref e:=rx
 obtain ⟨⟨oe,vs,a1,a2,a3,a4⟩,_⟩:=I1.hok _ _ ee
 obtain ⟨⟨mA,hns,hr,_⟩,_⟩:=I1.hok _ _ ed
 obtain ⟨u',hu,ru⟩:=RelO.some_of (v:=v) (o:=mA f) (by rw [← l];exact hr f)
 exact xgetattr I1.kIn a1 a2 (by unfold PySem.W.notCls;rw [a4]) a3 hns c n hu (handed_of ru) ⟨v,H1,I1.tok _,ru,q⟩
end
end L2
namespace L2
open PySem PySem.Spec PyProof.Rows
structure RoomH (k:Nat) (A:Around):Prop where
 dp:A.depth+3 * k+5<recursionLimit
 un:A.units+16 * k+200<cLine
structure FnOkH (P:Program) (w:World) (K:PySem.W.Frag) (mg:Str→Option Value) (base:Heap) (CX:CXT) (k:Nat) (f:Addr) (fd:FuncData) (ps:List Str) (sp:Sp):Prop where
 len:∀ vs H Q E,sp vs H Q E→vs.length=ps.length
 run:∀ (A:Around) (outer:List Env) (s:Shared) (H:Hp) (args:Args) (us:List Value) (vs:List V) (Q:VK) (E:XK),RoomH k A→Env0 P w K mg base A outer s H→BindsTo s fd args (ps.zip us)→Vals vs us→sp vs H Q E→
  codeAny (model P w) A (.call (.ref f) args) (CR CX outer P w H s Q E) s
section
variable {P:Program} {w:World} {K:PySem.W.Frag} {mg:Str→Option Value} {base:Heap}
end
section
variable {X:Cx} {CX:CXT} {k:Nat} {f C:Addr} {fd:FuncData} {ps:List Str} {sp:Sp} {dvs:List V} {ds:List Value} {E:XK} {x m:Str} {p pos apos:Pos} {e o:Expr} {es:List Expr} {ta:TE} {t:TA}
end
end L2
namespace L2
open PySem PySem.Spec PyProof.Rows
section
variable {X:Cx}
end
end L2
namespace L2
open PySem PySem.Spec PyProof.Rows
section
variable {prog:Program} {w:World} {A:Around} {E:Value→Shared→Prop} {s:Shared}
end
end L2
namespace L2
open PySem PySem.Spec PyProof.Rows
section
variable {X:Cx}
end
end L2
namespace L2
open PySem PySem.Spec PyProof.Rows
section
variable {X:Cx}
def tTryE (K:PySem.W.Frag) (ta:TA) (sp:Sp) (dvs:List V) (c:Value) (j:Option Nat) (th:TS):TS:=fun D σ H=>ta σ H fun vs H1=>
 sp (vs++dvs) H1 (fun _ H2=>D.nx σ H2) fun cls dd H2=>PySem.W.exmOne K cls c=some true∧∀ e,H2 e=none→th (D.off j) (onE σ e j) (upd H2 e (ExcO e cls dd))
end
end L2
namespace L2
open PySem PySem.Spec PyProof.Rows
structure LcScopeO (X:Cx) (scope:Scope) (own:List Str) (fv:List Nat):Prop where
 kind:scope.kind=.function
 names:∀ y ∈ scope.names,y.2=.local→scope.names.lookup y.1=some .local
 cells:∀ y ∈ scope.names,y.2=.cell→scope.names.lookup y.1=some .cell
 frees:∀ y ∈ scope.names,y.2=.free→scope.names.lookup y.1=some .free
 free:∀ y ∈ scope.names,y.2=.free→X.env.kindOf y.1=some .cell∨X.env.kindOf y.1=some .free
 nd:(own++fv.map fun i=>X.N.getD i Str.empty).Nodup
 fvs:∀ i ∈ fv,i<X.N.length∧scope.names.lookup (X.N.getD i Str.empty)=some .free
 owns:∀ x ∈ own,scope.names.lookup x=some .local∨scope.names.lookup x=some .cell
section
variable {X:Cx} {pins:List (Addr × Obj)} {σ:St} {H:Hp} {s:Shared}
end
section
variable {X:Cx} {tg iter elt:Expr} {ifs:List Expr} {scope:Scope} {pos:Pos} {own:List Str} {fv:List Nat} {wi:TI} {g:TG} {tc:TT} {te:TE}
end
end L2
namespace L2
open PySem PySem.Spec PyProof.Rows
section
variable {prog:Program} {w:World} {A:Around} {R:Result→Shared→Prop} {I:Addr} {fp wr:List Addr} {n:Nat} {P:Nat→Value→Prop} {St:Nat→Heap→Prop}
end
section
variable {prog:Program} {w:World} {A:Around} {E:Value→Shared→Prop} {s:Shared}
end
section
variable {X:Cx}
end
end L2
namespace L2
open PySem PySem.Spec PyProof.Rows
section
variable {X:Cx}
end
end L2
namespace L2
open PySem PySem.Spec PyProof.Rows
section
variable {prog:Program} {w:World} {A:Around} {E:Value→Shared→Prop} {s:Shared}
end
section
variable {prog:Program} {w:World} {A:Around} {E:Value→Shared→Prop} {s:Shared}
end
section
variable {X:Cx}
end
end L2
namespace L2
open PySem PySem.Spec PyProof.Rows
section
variable {X:Cx}
end
end L2
namespace HT
open PySem PySem.Spec PyProof.Rows
section
variable {prog:Program} {w:World} {A:Around} {E:Value→Shared→Prop} {s:Shared}
end
end HT
namespace L2
open PySem PySem.Spec PyProof.Rows
section
variable {X:Cx}
end
section
variable {A:Around} {s:Shared}
end
section
variable {X:Cx}
end
end L2
namespace L2
open PySem PySem.Spec PyProof.Rows
section
variable {X:Cx}
end
end L2
namespace L2
open PySem PySem.Spec PyProof.Rows
section
variable {X:Cx} {e:Expr} {te:TE} {st:Option Expr} {tst:TO} {pos p2:Pos}
end
end L2
namespace L2
open PySem PySem.Spec PyProof.Rows
section
variable {X:Cx}
end
end L2
namespace L2
open PySem PySem.Spec PyProof.Rows
section
variable {prog:Program} {w:World} {A:Around} {E:Value→Shared→Prop} {s:Shared}
end
section
variable {X:Cx}
end
end L2
namespace L2
open PySem PySem.Spec PyProof.Rows
end L2
namespace L2
open PySem PySem.Spec PyProof.Rows
section
variable {prog:Program} {w:World} {A:Around} {R:Result→Shared→Prop} {h:Heap} {g:Array GenState} {d:Drawn} {t:Nat} {os:OsState} {K:PySem.W.Frag} {C fI:Addr} {rest:List Value}
end
end L2
namespace L2
open PySem PySem.Spec PyProof.Rows
section
variable {X:Cx}
def TB:Type:=(St→XK)→TS
end
end L2
namespace L2
open PySem PySem.Spec PyProof.Rows
section
variable {prog:Program} {w:World} {A:Around} {E:Value→Shared→Prop} {s:Shared}
end
section
variable {X:Cx} {pos:Pos}
end
end L2
namespace L2
open PySem PySem.Spec PyProof.Rows
section
variable {X:Cx} {tg:Expr}
theorem relV_key {k:Key} {v:Value} (h:keyIs k v=true):RelV (kV k) v:=by
 rcases qAZ h with ⟨i,t,rfl,rfl⟩ | ⟨x,t,rfl,rfl⟩
 ·exact ⟨t,rfl⟩
 ·exact ⟨t,rfl⟩
end
end L2
namespace L2
open PySem PySem.Spec PyProof.Rows
section
variable {prog:Program} {w:World} {A:Around} {E:Value→Shared→Prop} {s:Shared} {it d:Addr} {i n ep:Nat} {od:Obj} {es:Array DictEntry}
end
section
variable {X:Cx} {tg:Expr}
end
section
variable {X:Cx} {k v:Expr} {tk tv:TE} {pos:Pos}
end
end L2
namespace L2
open PySem PySem.Spec PyProof.Rows
section
variable {X:Cx} {pins:List (Addr × Obj)} {σ:St} {H:Hp} {s:Shared}
structure LmScope (X:Cx) (scope:Scope) (p:Str) (fv:List Nat):Prop where
 kind:scope.kind=.function
 co:scope.isCoroutine=false
 gen:scope.isGenerator=false
 nocell:∀ y ∈ scope.names,y.2 ≠ .cell
 par:scope.names.lookup p=some .local
 free:∀ y ∈ scope.names,y.2=.free→X.env.kindOf y.1=some .cell∨X.env.kindOf y.1=some .free
 fvs:∀ i ∈ fv,i<X.N.length∧scope.names.lookup (X.N.getD i Str.empty)=some .free
structure LmZ where
 A:Around
 f:Addr
 cd:Value
 s₀:Shared
 H₀:Hp
 rm:Room 0 A
noncomputable def lmStart (fv:List Nat) (σ:St) (x:V):St:=some x::fv.map fun i=>(σ[i]?).join
end
end L2
namespace L2
open PySem PySem.Spec PyProof.Rows
abbrev Sm0 (H H':Hp):Prop:=∀ b o,H b=some o→H' b=some o
section
variable {X:Cx}
structure KCmp (X:Cx) (KR:Hp→V→List Int→Prop):Prop where
 mono:∀ H H' y k,Sm0 H H'→KR H y k→KR H' y k
 cmp:∀ (pins:List (Addr × Obj)) (σ:St) (s:Shared) (H:Hp) (y y':V) (u u':Value) (k k':List Int) (Q:Value→Shared→Prop) (E:Value→Shared→Prop),Inv X pins σ H s→RelV y u→RelV y' u'→KR H y k→KR H y' k'→Q (.bool (HT.lexLt k k')) s→
  wpAny (model X.prog X.w) X.A.in1 (richCompare .Lt u u') Q E s
structure KeyAt (X:Cx) (σ:St) (fv:List Nat) (te:TE) (KR:Hp→V→List Int→Prop) (H0:Hp) (xs:List V) (ks:List (List Int)):Prop where
 len:ks.length=xs.length
 key:∀ (i:Nat) (x:V) (k:List Int),xs[i]?=some x→ks[i]?=some k→∀ Hc,Sm0 H0 Hc→te (lmStart fv σ x) Hc fun y H'=>Sm0 Hc H'∧KR H' y k
section
variable {pins:List (Addr × Obj)} {σ:St} {params:Arguments} {body:Expr} {scope:Scope} {p:Str} {fv:List Nat} {q:Str} {te:TE} {KR:Hp→V→List Int→Prop} {l f cc:Addr} {ctv:Value} {H0:Hp} {xs:List V} {ks:List (List Int)} {Q:VK}
end
end
end L2
namespace L2
open PySem PySem.Spec PyProof.Rows
section
variable {X:Cx}
end
structure LTab where
 x:Str
 c:Addr
 P:Addr
 q:Str
end L2
namespace L2
open PySem PySem.Spec PyProof.Rows
section
variable {prog:Program} {w:World} {A:Around} {E:Value→Shared→Prop} {s:Shared}
end
section
variable {X:Cx}
end
end L2
namespace L2
open PySem PySem.Spec PyProof.Rows
section
open PySem.SeqAt
open PySem.AutoSeq1 (wpAny_loadPart')
open PySem.MeetsSeq PySem.MeetsSeq2 PySem.MeetsSeq3
end
section
variable {X:Cx}
end
end L2
namespace L2
open PySem PySem.Spec PyProof.Rows
section
variable {X:Cx}
end
end L2
namespace L2
open PySem PySem.Spec PyProof.Rows
section
variable {X:Cx} {tg:Expr}
theorem vals_strs:∀ l:List (Str × Tok),Vals ((l.map (·.1)).map V.str) (strValues l)
 | []=>.nil
 | p::r=>.cons ⟨p.2,rfl⟩ (vals_strs r)
theorem strs_of:∀ {ys:List Str} {us:List Value},Vals (ys.map V.str) us→∃ l:List (Str × Tok),us=strValues l∧l.map (·.1)=ys
 | [],_,.nil=>⟨[],rfl,rfl⟩
 | y::ys,_,.cons r t=>by
  obtain ⟨l,rfl,e⟩:=strs_of t
  obtain ⟨tk,rfl⟩:=r
  exact ⟨(y,tk)::l,rfl,by rw [List.map_cons,e]⟩
def rSplit:V→List V→Hp→VK→Prop:=fun x vs H Q=>∃ z y:Str,x=.str z∧vs=[.str y]∧(y.length == 0)=false∧z.length+2≤sizeLine∧∀ l,H l=none→Q (.ref l) (upd H l (.lst ((Txt.split z y).map V.str)))
theorem mt_split:MtR X "str.split" rSplit:=by
 intro pins s σ H x vs v us Q I rx rv h
 obtain ⟨z,y,rfl,rfl,hy,hz,q⟩:=h
 obtain ⟨t,rfl⟩:=rx
 obtain ⟨u,rfl,tu,rfl⟩:=vals1 rv
 have fin:∀ (l:List (Str × Tok)) (tk:Nat),l.map (·.1)=Txt.split z y→EP X pins σ Q (.ref s.heap.objs.size) { s with heap:=s.heap.push { cls:=.type "list",data:=.seq (strValues l).toArray },toks:=tk }:=fun l tk e=>
  ⟨.ref s.heap.objs.size,_,I.laid (t':=tk) (o:=.lst ((Txt.split z y).map V.str)) (fun b o e=>Heap.get?_push_of_some _ e) (Nat.le_refl _) ⟨by rw [List.length_map];exact Nat.le_trans (split_le z y) hz,strValues l,0,by rw [← e];exact vals_strs l,Heap.get?_push_size _ rfl⟩,rfl,q _ (I.hok.fresh (Nat.le_refl _))⟩
 have hn:(Builtin.Str.partsBetween z (Builtin.Str.occurrences z y 0 z.length (z.length+1)) y.length).length≤sizeLine:=by
  have:=StrLaws.occ_length_le z y 0 z.length (z.length+1)
  rw [length_partsBetween]
  lia
 cases h1:(decide (z.length<y.length) || decide (Builtin.Str.strKind z<Builtin.Str.strKind y))
 ·cases hf:(Builtin.Str.occurrences z y 0 z.length (z.length+1)).isEmpty
  ·refine call_meets F.slot_str_split (typeIs_str ..) F.entry_str_split (F.args_str_split_2 ..) (meets_str_split_sep z y t tu h1 hy hf (by lia) hn) ?_
   have:=fin (numbered s.toks (Builtin.Str.partsBetween z (Builtin.Str.occurrences z y 0 z.length (z.length+1)) y.length)) (s.toks+(Builtin.Str.partsBetween z (Builtin.Str.occurrences z y 0 z.length (z.length+1)) y.length).length) ((numbered_texts ..).trans (by unfold Txt.split;rw [if_neg (by rw [h1];decide),if_neg (by rw [hf];decide)]))
   rw [← strsFrom_eq] at this
   exact this
  ·exact call_meets F.slot_str_split (typeIs_str ..) F.entry_str_split (F.args_str_split_2 ..) (meets_str_split_not_found z y t tu h1 hy hf) (fin [(z,t)] s.toks (by unfold Txt.split;rw [if_neg (by rw [h1];decide),if_pos hf];rfl))
 ·exact call_meets F.slot_str_split (typeIs_str ..) F.entry_str_split (F.args_str_split_2 ..) (meets_str_split_cannot_occur z y t tu h1) (fin [(z,t)] s.toks (by unfold Txt.split;rw [if_pos h1];rfl))
def rJoin (K:PySem.W.Frag):V→List V→Hp→VK→Prop:=fun x vs H Q=>∃ (z:Str) (p:Addr) (ys:List Str),x=.str z∧vs=[.ref p]∧SqL K H p (ys.map V.str)∧(ys.map (·.length)).sum+ys.length * z.length≤10000000∧Q (.str (Str.join z ys)) H
theorem fold_sum (k:Nat):∀ (ys:List Str) (n:Nat),ys.foldl (fun a y=>a+y.length+k) n=n+((ys.map (·.length)).sum+ys.length * k)
 | [],n=>by simp
 | y::ys,n=>by
  rw [List.foldl_cons,fold_sum k ys,List.map_cons,List.sum_cons,List.length_cons,Nat.succ_mul]
  lia
theorem mt_join:MtR X "str.join" (rJoin X.K):=by
 intro pins s σ H x vs v us Q I rx rv h
 obtain ⟨z,p,ys,rfl,rfl,hq,hz,q⟩:=h
 obtain ⟨t,rfl⟩:=rx
 obtain ⟨u,rfl,ru⟩:=vals1 rv
 cases ru
 obtain ⟨its,r,pl,_⟩:=I.list hq
 obtain ⟨l,rfl,rfl⟩:=strs_of r
 have hl:Builtin.Str.tooLong ((l.map (·.1)).toArray.foldl (·+·.length+z.length) 0)=false:=by
  have e:(l.map (·.1)).toArray.foldl (·+·.length+z.length) 0=0+(((l.map (·.1)).map (·.length)).sum+(l.map (·.1)).length * z.length):=by
   rw [← fold_sum];simp
  rw [e]
  have:=sizeLine_eq
  exact decide_eq_false (by lia)
 have lj:(Str.join z (l.map (·.1))).length≤sizeLine:=by
  have:=StrLaws.join_length_le z (l.map (·.1))
  have:=sizeLine_eq
  lia
 refine call_meets F.slot_str_join (typeIs_str ..) F.entry_str_join (F.args_str_join_2 ..) (meets_str_join_list z t p l hl) ⟨pl.isList,?_⟩
 have fin:∀ tk,EP X pins σ Q (.str (Str.join z (l.map (·.1))) tk) { s with toks:=s.toks+1 }:=fun tk=>⟨.str _,H,I.tok _,⟨tk,rfl⟩,q⟩
 cases l with
 | nil=>exact ⟨Nat.zero_le _,fin _⟩
 | cons a l=>
  cases l with
  | nil=>exact ⟨.str _,H,I,⟨a.2,rfl⟩,q⟩
  | cons b l=>
   have e:joinMade z (a::b::l)=.str (Builtin.Str.glued z ((a::b::l).map (·.1))):=rfl
   rw [e,StrLaws.glued_eq_join]
   exact ⟨lj,fin _⟩
theorem mt_isdigit:MtR X "str.isdigit" (fun x vs H Q=>∃ z:Str,x=.str z∧vs=[]∧Q (.bl (Txt.isdigit z)) H):=by
 intro pins s σ H x vs v us Q I rx rv h
 obtain ⟨z,rfl,rfl,q⟩:=h
 obtain ⟨t,rfl⟩:=rx
 cases rv
 exact SC.isdigit ⟨.bl _,H,I,rfl,q⟩
theorem call_intS:CallR X (.type "int") (fun xs H Q=>∃ (z:Str) (n:Int),xs=[.str z]∧intText? z=some n∧z.length≤640∧Q (.int n) H):=by
 intro pins s σ H xs us Q I r h
 obtain ⟨z,n,rfl,hn,hl,q⟩:=h
 obtain ⟨u,rfl,t,rfl⟩:=vals1 r
 exact PySem.W.KIN.call_text hn hl ⟨.int n,H,I.tok _,⟨_,rfl⟩,q⟩
theorem op_mul_str:OpR X (binaryOp .Mult) (fun x y H Q=>∃ (z:Str) (n:Int),x=.str z∧y=.int n∧0≤n∧n≤100∧z.length≤1000∧Q (.str (Txt.mul z n)) H):=by
 intro pins s σ H x y v u Q I rx ry h
 obtain ⟨z,n,rfl,rfl,h1,h2,h3,q⟩:=h
 obtain ⟨t,rfl⟩:=rx
 obtain ⟨t',rfl⟩:=ry
 refine SB.mul ⟨?_,fun _ _=>?_,fun _ _=>?_⟩ fun t' k=>⟨.str _,H,I.tok _,⟨_,rfl⟩,q⟩
 ·rw [decide_eq_false (by lia),decide_eq_false (by lia)];rfl
 ·have:(2 ^ 63 - 1:Int) / 100≤(2 ^ 63 - 1) / n:=by
   refine Int.le_ediv_of_mul_le (by lia) ?_
   have:(2 ^ 63 - 1:Int) / 100 * n≤(2 ^ 63 - 1) / 100 * 100:=Int.mul_le_mul_of_nonneg_left h2 (by decide)
   lia
  have:(1000:Int)<(2 ^ 63 - 1) / 100:=by decide
  lia
 ·unfold Builtin.Str.tooLong
  have:z.length * n.toNat≤1000 * 100:=Nat.mul_le_mul h3 (by lia)
  have:=sizeLine_eq
  simp
  lia
theorem op_le_str:OpR X (compareOp .LtE) (fun x y H Q=>∃ i j:Str,x=.str i∧y=.str j∧Q (.bl (!(decide (j.cps.toList<i.cps.toList)))) H):=by
 intro pins s σ H x y v u Q I rx ry h
 obtain ⟨i,j,rfl,rfl,q⟩:=h
 obtain ⟨t,rfl⟩:=rx
 obtain ⟨t',rfl⟩:=ry
 exact P.le_str ⟨.bl _,H,I,rfl,q⟩
def Its (z:Str):It:=⟨fun i _=>i<z.length,fun i H x H'=>H'=H∧∃ c,z.cps[i]?=some c∧x=.str ⟨#[c]⟩,fun i _=>z.length≤i⟩
theorem turn_str {P:Program} {w:World} {K:PySem.W.Frag} {tg:Expr} {n:String} (it:Addr) (z:Str) (t:Tok) (hn:["enumerate","zip","dict_itemiterator","dict_reverseitemiterator","odict_iterator","itertools.zip_longest","itertools.pairwise"].contains n=false)
  (W:∀ A:Around,A.handled=none→Walks P w A it [it] [it] z.cps.size (SignAt z) (fun i h=>h.IsStrIter it n z t i))
  (S:∀ (A:Around) (i:Nat) (s:Shared) (Q:Value→Shared→Prop) (E:Value→Shared→Prop),s.heap.IsStrIter it n z t i→Q (.ref it) s→wpAny (model P w) A (pyIter (.ref it)) Q E s):Turn P w K tg (Its z) [it] it (fun i h=>h.IsStrIter it n z t i∧i≤z.length) where
 mem:=by simp
 obj:=fun i h st b hb=>by
  have e:b=it:=by simpa using hb
  subst e
  obtain ⟨⟨o,e,c,d⟩,_⟩:=st
  exact ⟨o,e,fun v z=>by rw [d] at z;cases z⟩
 keep:=fun i h h' ⟨⟨o,e,c,d⟩,l⟩ k=>⟨⟨o,k it (by simp) o e,c,d⟩,l⟩
 item:=by
  intro X hP hw hK hc i pins s σ H E I hf st hg
  subst hP hw hK
  obtain ⟨f0,f1,f2,f3,f4,f5⟩:=hf it (by simp)
  refine (W X.A (I.ok.hd hc)).item i s _ _ hg st.1 fun v h' tk hv st' kk=>?_
  obtain ⟨c,u,hc',rfl⟩:=hv
  have I1:Inv X pins σ H { s with heap:=h',toks:=tk }:=I.turned (fun b o hb e=>kk b o (by simpa using hb) e) f0 f1 f3 f4 f5
  obtain ⟨o,e,cl,d⟩:=id st'
  exact ⟨_,rfl,go_of (s:={ s with heap:=h',toks:=tk }) e cl d hn ⟨.str ⟨#[c]⟩,H,I1,⟨u,rfl⟩,⟨rfl,c,hc',rfl⟩,⟨st',hg⟩,fun b hb=>(hf b hb).1⟩⟩
 done:=by
  intro X hP hw hK hc i pins s σ H E I hf st hg
  subst hP hw hK
  obtain ⟨f0,f1,f2,f3,f4,f5⟩:=hf it (by simp)
  have e:i=z.cps.size:=Nat.le_antisymm st.2 hg
  subst e
  exact (W X.A (I.ok.hd hc)).done s _ _ st.1 fun h' tk kk=>⟨rfl,I.turned (fun b o hb e=>kk b o (by simpa using hb) e) f0 f1 f3 f4 f5⟩
 self:=fun A i s Q E st h=>S A i s Q E st.1 h
def iStr (tl:TE):TI:=fun σ H R=>tl σ H fun x H1=>∃ z,x=.str z∧R (Its z) H1
theorem pi_str {l:Expr} {tl:TE} (hl:PE X l tl):PI X tg l (iStr tl):=by
 intro pins s σ H R I h
 refine thn (hl pins s σ H _ I h) fun v s1 ⟨x,H1,I1,r1,q1⟩=>?_
 obtain ⟨z,e,q⟩:=q1
 subst e
 obtain ⟨t,rfl⟩:=r1
 have fp:∀ b ∈ [s1.heap.objs.size],FpOk X pins H1 b:=fun b hb=>by
  have e:b=s1.heap.objs.size:=by simpa using hb
  subst e
  exact I1.fpOk (Nat.le_refl _) (I1.hok.fresh (Nat.le_refl _))
 cases ha:z.cps.all (·<128)
 ·exact wpAny_pyIter_wide ha ⟨s1.heap.objs.size,[s1.heap.objs.size],_,_,H1,rfl,I1.kept (t':=s1.toks) fun b o e=>Heap.get?_push_of_some _ e,turn_str _ z t (n:="str_iterator") (by decide) (fun A hA=>Walks.strWide hA _ z t) (fun _ _ _ _ _ st h=>wpAny_pyIter_striter_wide st h),⟨⟨_,Heap.get?_push_size _ rfl,rfl,rfl⟩,Nat.zero_le _⟩,fp,q⟩
 ·exact wpAny_pyIter_ascii ha ⟨s1.heap.objs.size,[s1.heap.objs.size],_,_,H1,rfl,I1.kept (t':=s1.toks) fun b o e=>Heap.get?_push_of_some _ e,turn_str _ z t (n:="str_ascii_iterator") (by decide) (fun A hA=>Walks.strAscii hA _ z t) (fun _ _ _ _ _ st h=>wpAny_pyIter_striter_ascii st h),⟨⟨_,Heap.get?_push_size _ rfl,rfl,rfl⟩,Nat.zero_le _⟩,fp,q⟩
theorem lc_str {z:Str} {g:TG} {tc:TT} {te:TE} {Kf:Hp→Prop} {σ0:St} {H0:Hp} {p:Addr} (Pv:Nat→St→Hp→Prop) (h0:Pv 0 σ0 H0)
  (hs:∀ i c σ H,z.cps[i]?=some c→Pv i σ H→g (.str ⟨#[c]⟩) σ H fun σ2 H2=>tc σ2 H2 fun b H3=>if b=true then te σ2 H3 fun y H4=>∃ ys,H4 p=some (.lst ys)∧ys.length<sizeLine∧Pv (i+1) σ2 (upd H4 p (.lst (ys++[y]))) else Pv (i+1) σ2 H3)
  (hd:∀ σ H,Pv z.length σ H→Kf H) :
  LcG (Its z) g tc te Kf σ0 H0 p:=by
 refine ⟨fun i m σ H=>m=z.length - i∧i≤z.length∧Pv i σ H,⟨z.length,by simp,Nat.zero_le _,h0⟩,?_⟩
 rintro i m σ H ⟨rfl,hi,q⟩
 by_cases hlt:i<z.length
 ·refine .inr ⟨hlt,Pv (i+1),fun σ' H' p'=>⟨z.length - (i+1),by lia,rfl,hlt,p'⟩,fun x H' y=>?_⟩
  obtain ⟨e,c,hc,e2⟩:=y
  subst e e2
  exact hs i c σ _ hc q
 ·have e:i=z.length:=by lia
  subst e
  exact .inl ⟨Nat.le_refl _,hd σ H q⟩
theorem collect_src {prog:Program} {w:World} {A:Around} {E:Value→Shared→Prop} {s:Shared} {R:List Value→Shared→Prop} {T:String} {r d:Addr} {n:Nat} {P:Nat→Value→Prop} {OK:Heap→Prop} (K:PySem.W.KdlSrc prog w T r d n P OK) (hh:A.handled=none) (hok:OK s.heap) (hn:n≤sizeLine)
  (h:∀ (h':Heap) (tk:Nat) (acc:Array Value),(∀ b o,s.heap.get? b=some o→h'.get? b=some o)→ItemsOf P acc n→R acc.toList { s with heap:=h',toks:=tk }):wpAny (model prog w) A (collect (.ref r)) R E s:=by
 unfold collect
 refine wpAny_bind (wpAny_runValue (codeAny_builtin entry_proto_collect' ?_))
 rw [Around.under_plainId PySem.F.plain_proto_collect _]
 show wpAny _ A.in1 (newList [] >>= fun l=>again (.builtin "list.__iadd__" ⟨[l,.ref r],[]⟩)) _ _ s
 refine wpAny_bind (wpAny_newObj_type ?_)
 refine wpAny_pure ⟨plainId_quiet PySem.F.plain_list_iadd _,codeAny_builtin entry_list_iadd' ?_⟩
 rw [Around.under_plainId PySem.F.plain_list_iadd _]
 have hS₁:(s.heap.push { cls:=.type "list",data:=.seq ([]:List Value).toArray }).get? s.heap.objs.size=some { cls:=.type "list",data:=.seq #[] }:=Heap.get?_push_size _ rfl
 have hlt:=K.there _ hok
 show wpAny _ A.in1 (Builtin.List.listExtendWith (.ref s.heap.objs.size) (.ref r) (.ref s.heap.objs.size)) _ _ _
 have key:=PySem.W.kdl_extend (A:=A) (s:={ s with heap:=s.heap.push { cls:=.type "list",data:=.seq ([]:List Value).toArray } })
  (R:=fun (q:Result) (s':Shared)=>∃ (h':Heap) (tk:Nat) (acc':Array Value) (c':Nat),q=.ok (.ret (.ref s.heap.objs.size))∧s'={ s with heap:=h',toks:=tk }∧
   (∀ b o,s.heap.get? b=some o→h'.get? b=some o)∧h'.get? s.heap.objs.size=some { cls:=.type "list",dict:=none,data:=.seq acc' c',slots:=#[] }∧ItemsOf P acc' n)
  K hh (K.keep _ _ hok fun b _ o e=>Heap.get?_push_of_some _ e) s.heap.objs.size (Nat.ne_of_gt hlt.1) (Nat.ne_of_gt hlt.2) (.ref s.heap.objs.size) 0 hS₁
  (fun h' tk acc' c' hk hS' hacc=>⟨h',tk,acc',c',rfl,rfl,fun b o e=>hk b o (Nat.ne_of_lt (Heap.lt_size e)) (Heap.get?_push_of_some _ e),hS',hacc⟩) hn
 refine wpAny_mono key (fun fin s' x=>?_) fun e s' x=>?_
 ·cases fin with
  | done f=>
   obtain ⟨h',tk,acc',c',e,rfl,hk,hS',hacc⟩:=x
   cases e
   show wpAny _ A (load s.heap.objs.size >>= _) _ _ _
   refine wpAny_bind (wpAny_load hS' ?_)
   exact wpAny_pure (h h' tk acc' hk hacc)
  | again c₁=>
   refine ⟨x.1,codeAny_mono x.2 fun q s₂ y=>?_⟩
   obtain ⟨h',tk,acc',c',rfl,rfl,hk,hS',hacc⟩:=y
   show wpAny _ A (load s.heap.objs.size >>= _) _ _ _
   refine wpAny_bind (wpAny_load hS' ?_)
   exact wpAny_pure (h h' tk acc' hk hacc)
 ·obtain ⟨_,_,_,_,e',_⟩:=x
  cases e'
theorem tuple_dict {prog:Program} {w:World} {A:Around} {E:Value→Shared→Prop} {s:Shared} {Q:Value→Shared→Prop} {r d:Addr} {n:Nat} {P:Nat→Value→Prop} {OK:Heap→Prop} (K:PySem.W.KdlSrc prog w "dict" r d n P OK) (hh:A.handled=none) (hok:OK s.heap) (hn:n≤sizeLine)
  (h:∀ (h':Heap) (tk:Nat) (acc:Array Value),(∀ b o,s.heap.get? b=some o→h'.get? b=some o)→ItemsOf P acc n→Q (.ref h'.objs.size) { s with heap:=h'.push { cls:=.type "tuple",data:=.seq acc },toks:=tk }) :
  wpAny (model prog w) A (call (.type "tuple") [.ref r]) Q E s:=by
 have hcode:codeAny (model prog w) A.in1 (.call (.builtin "tuple.__new__") ⟨[.type "tuple",.ref r],[]⟩) (wants (fun obj s₁=>s₁.TypeIs obj "tuple"∧Q obj s₁) E) s:=by
  refine codeAny_of_tree ?_
  show wpAny _ A.in1.in1 (do checkBuiltinCall "tuple.__new__" ⟨[.type "tuple",.ref r],[]⟩;again (.builtin "tuple.__new__" ⟨[.type "tuple",.ref r],[]⟩)) _ _ s
  refine wpAny_bind (wpAny_of_eq (F.newCall_tuple_1 _) (wpAny_pure ⟨plainId_quiet F.plain_tuple_new _,codeAny_builtin F.entry_tuple_new ?_⟩))
  rw [Around.under_plainId F.plain_tuple_new _]
  have hsub:=sub_tuple_self
  have hinit:=init_tuple_lookup
  have hmh:=madeHere_tuple
  have hTI:s.TypeIs (.ref r) "dict":=K.type s hok
  wp_walk using wpAny_typeOf hTI,collect_src (prog:=prog) (w:=w) (A:=A.in1.in1) K hh hok hn
  intro h' tk acc hk hacc
  show wpAny _ _ (Builtin.Tuple.tupleExact acc.toList.toArray >>= fun v=>ret v) _ _ _
  unfold Builtin.Tuple.tupleExact
  refine wpAny_bind (wpAny_newObj_type ?_ (by show acc.toList.toArray.size≤sizeLine;simp only [Array.toArray_toList];rw [hacc.1];exact hn))
  refine wpAny_pure ?_
  have e:acc.toList.toArray=acc:=by simp
  rw [e]
  exact ⟨⟨_,Heap.get?_push_size _ rfl,rfl⟩,h h' tk acc hk hacc⟩
 refine callType_codes (Q₁:=fun obj s₁=>s₁.TypeIs obj "tuple"∧Q obj s₁) F.called_tuple (F.typeCall_tuple_1 _) F.entry_object_init hcode fun obj s₁ h₁=>?_
 exact ⟨h₁.1,F.args_object_init_2 obj _,object_init_meets F.called_tuple.init.lookup F.called_tuple.made (by decide) prog w A.in1 _ s₁ ⟨h₁.1,rfl,h₁.2⟩⟩
theorem vals_keys:∀ {kvs:List (Key × V)} {us:List Value},us.length=kvs.length→(∀ (i:Nat) (v:Value),us[i]?=some v→∃ k x,kvs[i]?=some (k,x)∧keyIs k v=true)→Vals (kvs.map fun p=>kV p.1) us
 | [],[],_,_=>.nil
 | (k,x)::kvs,u::us,hl,h=>by
  obtain ⟨k',x',e,hk⟩:=h 0 u rfl
  cases e
  exact .cons (relV_key hk) (vals_keys (by simpa using hl) fun i v hv=>h (i+1) v hv)
theorem call_tupleD (hc:X.calm=true):CallR X (.type "tuple") (fun xs H Q=>∃ (d:Addr) (kvs:List (Key × V)),xs=[.ref d]∧H d=some (.dK kvs)∧∀ l,H l=none→Q (.ref l) (upd H l (.tup (kvs.map fun p=>kV p.1)))):=by
 intro pins s σ H xs us Q I r h
 obtain ⟨d,kvs,rfl,hq,q⟩:=h
 obtain ⟨u,rfl,rx⟩:=vals1 r
 cases rx
 obtain ⟨hz,hd,vs,rel,dd⟩:=dk_of I.hok hq
 obtain ⟨ep,da⟩:=dd.dictAt
 have lv:vs.length=kvs.length:=rel.length.symm
 refine tuple_dict (PySem.W.kdl_dict (ep:=ep) hd) (I.ok.hd hc) da (by rw [lv];exact hz) fun h' tk acc hk hacc=>?_
 obtain ⟨a1,a2⟩:=hacc
 have I1:Inv X pins σ H { s with heap:=h',toks:=tk }:=I.kept hk
 refine ⟨.ref h'.objs.size,_,I1.laid (t':=tk) (o:=.tup (kvs.map fun p=>kV p.1)) (fun b o e=>Heap.get?_push_of_some _ e) (Nat.le_refl _) ⟨by rw [List.length_map];exact hz,acc.toList,vals_keys (by rw [Array.length_toList,a1,lv]) fun i v hv=>?_,by have:=IsTup.new h' acc;simpa using this⟩,rfl,q _ (I1.hok.fresh (Nat.le_refl _))⟩
 obtain ⟨k,x,e1,e2⟩:=a2 i v (by rw [← Array.getElem?_toList];exact hv)
 have ek:(kvs.map (·.1))[i]?=some k:=by rw [keys_of rel,List.getElem?_map,e1];rfl
 rw [List.getElem?_map] at ek
 cases en:kvs[i]? with
 | none=>rw [en] at ek;cases ek
 | some p=>
  rw [en] at ek
  cases ek
  exact ⟨p.1,p.2,rfl,e2⟩
end
end L2
namespace L2
open PySem PySem.Spec PyProof.Rows
theorem slice_head (x:Str) (n:Nat):Txt.slice x none (some (n:Int))=⟨(x.cps.toList.take n).toArray⟩:=by
 have key:∀ j:Nat,j≤x.cps.toList.length→Txt.slice x none (some (j:Int))=⟨(x.cps.toList.take j).toArray⟩:=fun j hj=>by
  have:=eq_of_beq (slice_closes_to (x:=x) (j:=(j:Int)) ⟨by lia,by lia⟩)
  rw [this]
  simp
 by_cases h:n≤x.cps.toList.length
 ·exact key n h
 ·have e:Txt.slice x none (some (n:Int))=Txt.slice x none (some (x.cps.toList.length:Int)):=by
   have l:x.length=x.cps.toList.length:=(Array.length_toList).symm
   have:Builtin.Str.strSliceIndices none (some (n:Int)) 1 x.length=Builtin.Str.strSliceIndices none (some (x.cps.toList.length:Int)) 1 x.length:=by
    unfold Builtin.Str.strSliceIndices
    simp only [show (1:Int) > 0 by decide,if_true]
    rw [if_neg (by lia),if_neg (by lia)]
    congr 1
    lia
   unfold Txt.slice
   rw [this]
  rw [e,key _ (Nat.le_refl _),List.take_of_length_le (Nat.le_refl _),List.take_of_length_le (by lia)]
section
variable {X:Cx}
theorem sl_str:SlR X (fun x lo hi H Q=>∃ (z:Str) (n:Nat),x=.str z∧lo=none∧hi=some (n:Int)∧z.length≤1000000∧Q (.str ⟨(z.cps.toList.take n).toArray⟩) H):=by
 intro pins s σ H x v vl vu lo hi sl Q I rx hs pl pu h
 obtain ⟨z,n,rfl,rfl,rfl,hz,q⟩:=h
 obtain ⟨t,rfl⟩:=rx
 have:=sizeLine_eq
 cases pl
 rcases pu with _ | ⟨_,u⟩
 refine ⟨"str",_,F.slot_str_getitem.lookup,typeIs_str _ _ _,wpAny_getItem_str_slice (l:=none) (u:=some ((n:Int),u)) (st:=none) hs rfl (post_val_or_str ⟨Nat.le_trans (Txt.slice_le z _ _) (by lia),fun t' k=>⟨.str _,H,I.tok _,⟨_,rfl⟩,?_⟩⟩)⟩
 rw [← slice_head] at q
 exact q
end
end L2
namespace L2
open PySem PySem.Spec PyProof.Rows
def scs:List Expr→List Str→Bool
 | [],[]=>true
 | _::_,[]=>false
 | .Constant (.str x) _ _::es,y::ys=>decide (x=y) && scs es ys
 | _,_=>false
def tPre (t:TA):List Str→TA
 | []=>t
 | w::ws=>tCons (tC (.str w)) (tPre t ws)
section
variable {X:Cx}
theorem pa_pre0 {t:TA}:∀ {ws:List Str} {es r:List Expr},scs es ws=true→PA X r t→PA X (es++r) (tPre t ws)
 | [],[],r,_,hr=>hr
 | [],e::es,r,h,hr=>by unfold scs at h;cases h
 | w::ws,[],r,h,hr=>by cases h
 | w::ws,.Constant (.str x) j p::es,r,h,hr=>by
  have h2:(decide (x=w) && scs es ws)=true:=h
  rw [Bool.and_eq_true] at h2
  have e:x=w:=of_decide_eq_true h2.1
  subst e
  exact qA0 qAE (pa_pre0 h2.2 hr) rfl
theorem pa_pre {t:TA} {n:Nat} {ws:List Str} {es:List Expr} (h:scs (es.take n) ws=true) (hr:PA X (es.drop n) t):PA X es (tPre t ws):=by
 have:=pa_pre0 h hr
 rw [List.take_append_drop] at this
 exact this
end
end L2
namespace L2
open PySem PySem.Spec PyProof.Rows
abbrev EntsS (w:World):List Str→List (Int × Value)→Prop:=Paired fun k e=>∃ tk,e=(hashStr w k,Value.str k tk)
theorem EntsS.perm {w:World}:∀ {es es':List (Int × Value)} {ks:List Str},EntsS w ks es→es'.Perm es→∃ ks',EntsS w ks' es'∧ks'.Perm ks:=by
 intro es es' ks h p
 have key:∀ {a b:List (Int × Value)},a.Perm b→∀ ks,EntsS w ks b→∃ ks',EntsS w ks' a∧ks'.Perm ks:=by
  intro a b p
  induction p with
  | nil=>intro ks h;exact ⟨ks,h,.refl _⟩
  | cons x p ih=>
   intro ks h
   cases h with
   | cons r t=>
    obtain ⟨ks',h1,h2⟩:=ih _ t
    exact ⟨_::ks',.cons r h1,h2.cons _⟩
  | swap x y l=>
   intro ks h
   cases h with
   | cons r t=>
    cases t with
    | cons r' t'=>exact ⟨_,.cons r' (.cons r t'),.swap _ _ _⟩
  | trans p q ih1 ih2=>
   intro ks h
   obtain ⟨k1,h1,h2⟩:=ih2 ks h
   obtain ⟨k2,h3,h4⟩:=ih1 k1 h1
   exact ⟨k2,h3,h4.trans h2⟩
 exact key p ks h
theorem EntsS.elems {prog:Program} {w:World} {es:List (Int × Value)} {ks:List Str} (h:EntsS w ks es):ElemsOf (PySem.strKind prog w) es:=by
 intro e he
 have key:∀ {ks:List Str} {es:List (Int × Value)},EntsS w ks es→∀ e ∈ es,∃ k tk,e=(hashStr w k,Value.str k tk):=by
  intro ks es h
  induction h with
  | nil=>intro e he;cases he
  | cons r t ih=>
   intro e he
   rcases List.mem_cons.mp he with z | z
   ·subst z;obtain ⟨tk,e⟩:=r;exact ⟨_,tk,e⟩
   ·exact ih e z
 obtain ⟨k,tk,rfl⟩:=key h e he
 exact ⟨⟨k,by simp [PySem.strKind,Value.isStrOf],rfl⟩,rfl⟩
theorem EntsS.find {prog:Program} {w:World} {k:Str}:∀ {es:List (Int × Value)} {ks:List Str},EntsS w ks es→((List.findIdx? (fun e=>(PySem.strKind prog w).is k e.2) es).isSome=true ↔ k ∈ ks)
 | _,_,.nil=>by simp
 | _,_,.cons r t=>by
  obtain ⟨tk,rfl⟩:=r
  rename_i k' ks' es'
  have ih:=EntsS.find (prog:=prog) (w:=w) (k:=k) t
  rw [List.findIdx?_cons,List.mem_cons]
  have hi:(PySem.strKind prog w).is k (Value.str k' tk)=decide (k=k'):=by
   by_cases e:k=k'
   ·simp [PySem.strKind,Value.isStrOf,e]
   ·have e':¬ k'=k:=fun z=>e z.symm
    simp [PySem.strKind,Value.isStrOf,e,e']
  dsimp only
  rw [hi]
  by_cases e:k=k'
  ·simp [e]
  ·simp only [e,decide_false,Bool.false_eq_true,if_false,false_or,Option.isSome_map]
   exact ih
def addS (zs:List Str) (k:Str):List Str:=if k ∈ zs then zs else zs++[k]
def dedS:List Str→List Str:=fun l=>l.foldl addS []
theorem qC3:∀ (l zs:List Str),(l.foldl addS zs).length≤zs.length+l.length
 | [],zs=>Nat.le_refl _
 | k::l,zs=>by
  have h1:=qC3 l (addS zs k)
  have h2:(addS zs k).length≤zs.length+1:=by
   unfold addS
   split
   ·lia
   ·rw [List.length_append];exact Nat.le_refl _
  rw [List.foldl_cons,List.length_cons]
  lia
theorem strsV_at {ns:List Str} {us:List Value} (h:Vals (ns.map V.str) us) {i:Nat} {v:Value} (hv:us[i]?=some v):∃ t,v=.str (ns.getD i Str.empty) t:=by
 have hi:i<ns.length:=by
  have:=h.length
  rw [List.length_map] at this
  rw [this]
  exact (List.getElem?_eq_some_iff.mp hv).1
 obtain ⟨u,hu,r⟩:=h.get (i:=i) (x:=.str ns[i]) (by rw [List.getElem?_map,List.getElem?_eq_getElem hi];rfl)
 rw [hv] at hu
 cases hu
 obtain ⟨tk,e⟩:=r
 exact ⟨tk,by rw [List.getD_eq_getElem?_getD,List.getElem?_eq_getElem hi];exact e⟩
def SetS (w:World) (a:Addr) (zs:List Str) (h:Heap):Prop:=
 ∃ (es:Array (Int × Value)) (ep:Nat) (t:SetTable) (ks:List Str),h.get? a=some { cls:=.type "set",data:=.set es ep t }∧(∃ pl,TabG (byT w,pl) t es.size)∧EntsS w ks es.toList∧ks.Perm zs∧zs.Nodup∧zs.length<4095∧es.size * 5<t.mask * 3
theorem SetS.at {w:World} {a:Addr} {zs:List Str} {h h':Heap} (x:SetS w a zs h) (k:∀ o,h.get? a=some o→h'.get? a=some o):SetS w a zs h':=
 let ⟨es,ep,t,ks,h1,r⟩:=x;⟨es,ep,t,ks,k _ h1,r⟩
section
variable {prog:Program} {w:World} {A:Around} {E:Value→Shared→Prop} {s:Shared}
theorem setAdd_S {a:Addr} {zs:List Str} {k:Str} {tk:Tok} {Q:Bool→Shared→Prop} (hS:SetS w a zs s.heap) (hroom:zs.length<4094)
  (h:∀ h',Heap.SameBut a s.heap h'→SetS w a (addS zs k) h'→∀ b,Q b { s with heap:=h' }):wpAny (model prog w) A (setAddHashed a (.str k tk) (hashStr w k)) Q E s:=by
 obtain ⟨es,ep,t,ks,ho,⟨pl,T⟩,he,hp,hnd,hlen,hroom2⟩:=id hS
 have hsz:es.size=zs.length:=by rw [← hp.length_eq,Paired.length he,Array.length_toList]
 have hel:ElemsOf (PySem.strKind prog w) es.toList:=he.elems
 have h7:=T.mask7
 have hb:es.size<scanBound:=by rw [hsz];unfold scanBound;lia
 have hf:t.fits es.size=true:=T.fits (by lia)
 unfold setAddHashed setAddHashedIn
 refine wpAny_holding (wpAny_bind (wpAny_setState_of ho rfl hf ?_))
 dsimp only
 rw [byScan_of (knd:=PySem.strKind prog w) (x:=.str k tk) rfl hb hel]
 simp only [↓reduceIte]
 unfold setAddByScan
 refine wpAny_bind ?_
 refine wpAny_bind (wpAny_rule ?_)
 refine wpAny_bind (wpAny_setScan_of (knd:=PySem.strKind prog w) (k:=k) (strKind_is _ _ _ _) ho rfl hf hel ?_)
 have hfd:=EntsS.find (prog:=prog) (w:=w) (k:=k) he
 cases hr:List.findIdx? (fun e=>(PySem.strKind prog w).is k e.2) es.toList with
 | some j=>
  dsimp only
  rw [hr] at hfd
  have hk:k ∈ zs:=hp.mem_iff.mp (hfd.mp rfl)
  refine wpAny_pure (wpAny_pure ?_)
  have e:s={ s with heap:=s.heap }:=by cases s;rfl
  rw [e]
  refine h s.heap (Heap.SameBut.refl a s.heap) ?_ _
  unfold addS
  rw [if_pos hk]
  exact hS
 | none=>
  dsimp only
  rw [hr] at hfd
  have hk:¬ k ∈ zs:=fun z=>by have:=hfd.mpr (hp.mem_iff.mpr z);cases this
  obtain ⟨p,t',e1,T',tm,hpe⟩:=T.lay (by lia) rfl (hashStr w k) (.str k tk)
  rw [e1]
  dsimp only
  refine wpAny_bind (wpAny_pure ?_)
  have hszE:(SetTable.insertAt es p (hashStr w k,Value.str k tk)).size=es.size+1:=by
   rw [← Array.length_toList,insertAt_perm.length_eq,List.length_append,Array.length_toList]
   rfl
  cases pl with
  | true=>
   rw [show t'.plain=true from T'.plain]
   simp only [↓reduceIte]
   rw [hashByValue_scannable 8 (x:=.str k tk) rfl]
   refine wpAny_bind (wpAny_pure ?_)
   rw [show plainKind (Value.str k tk)=false from rfl]
   simp only [Bool.false_eq_true,↓reduceIte]
   have T1:TabG (byT w,false) { t' with plain:=false } (es.size+1):=⟨T'.pow,T'.dum,rfl,T'.led,T'.size,T'.up,T'.le⟩
   generalize hg:({ mask:=t'.mask,place:=t'.place,dummies:=t'.dummies,finger:=t'.finger,led:=t'.led,moves:=t'.moves,plain:=false }:SetTable)=t1 at T1 ⊢
   have tm:t1.mask=t.mask:=by rw [← hg];exact tm
   have T':=T1
   show wpAny _ _ (storeSet a (SetTable.insertAt es p (hashStr w k,.str k tk)) t1 >>= _) _ _ _
   refine wpAny_bind (wpAny_storeSet_of ho rfl ?_ (by rw [hszE,hsz,sizeLine_eq];lia))
   have fin:∀ (es2:Array (Int × Value)) (ep2:Nat) (t2:SetTable) (h2:Heap),h2.get? a=some { cls:=.type "set",data:=.set es2 ep2 t2 }→es2.toList.Perm (SetTable.insertAt es p (hashStr w k,Value.str k tk)).toList→TabG (byT w,false) t2 (es.size+1)→(es.size+1) * 5<t2.mask * 3→SetS w a (addS zs k) h2:=by
    intro es2 ep2 t2 h2 g2 pm T2 full
    obtain ⟨ks',h4,h5⟩:=EntsS.perm (ks:=ks++[k]) (Paired.snoc he ⟨tk,rfl⟩) (pm.trans insertAt_perm)
    have hs2:es2.size=es.size+1:=by rw [← hszE,← Array.length_toList,pm.length_eq,Array.length_toList]
    refine ⟨es2,ep2,t2,ks',g2,⟨_,by rw [hs2];exact T2⟩,h4,?_,?_,?_,by rw [hs2];exact full⟩
    ·unfold addS
     rw [if_neg hk]
     exact h5.trans (hp.append_right _)
    ·unfold addS
     rw [if_neg hk]
     exact qD4 hnd hk
    ·unfold addS
     rw [if_neg hk,List.length_append,List.length_singleton]
     lia
   have hg:=put_at (es':=SetTable.insertAt es p (hashStr w k,.str k tk)) (t':=t1) ho
   have fill:t1.fill=es.size+1:=by
    unfold SetTable.fill
    rw [T'.size,T'.dum]
    rfl
   cases tf:t1.tooFull with
   | false=>
    simp only [Bool.and_false,Bool.false_eq_true,↓reduceIte]
    refine wpAny_pure (wpAny_pure ?_)
    refine h _ (Heap.SameBut.update s.heap a _) (fin _ _ _ _ hg (.refl _) T' ?_) _
    unfold SetTable.tooFull at tf
    rw [fill] at tf
    have:=of_decide_eq_false tf
    lia
   | true=>
    simp only [Bool.not_false,Bool.and_self,↓reduceIte]
    rw [hszE]
    have gr:SetTable.grown (es.size+1)=(es.size+1) * 4:=by
     unfold SetTable.grown
     rw [if_neg (by lia)]
    obtain ⟨es2,t2,e2,p2,T2,m2⟩:=relay_ok T' hszE (wanted:=SetTable.grown (es.size+1)) (by rw [gr];lia) (by rw [gr];lia)
    rw [gr] at m2
    rw [e2]
    dsimp only
    refine wpAny_bind (wpAny_pure ?_)
    refine wpAny_bind (wpAny_storeSet_of hg rfl ?_ (by rw [← Array.length_toList,p2.length_eq,Array.length_toList,hszE,hsz,sizeLine_eq];lia))
    refine wpAny_pure (wpAny_pure ?_)
    exact h _ ((Heap.SameBut.update s.heap a _).trans (Heap.SameBut.update _ a _)) (fin _ _ _ _ (put_at hg) p2 T2 (by lia)) _
  | false=>
   rw [show t'.plain=false from T'.plain]
   simp only [Bool.false_eq_true,↓reduceIte]
   refine wpAny_bind (wpAny_pure ?_)
   simp only [↓reduceIte]
   have T1:=T'
   generalize hg:t'=t1 at T1 tm ⊢
   have T':=T1
   show wpAny _ _ (storeSet a (SetTable.insertAt es p (hashStr w k,.str k tk)) t1 >>= _) _ _ _
   refine wpAny_bind (wpAny_storeSet_of ho rfl ?_ (by rw [hszE,hsz,sizeLine_eq];lia))
   have fin:∀ (es2:Array (Int × Value)) (ep2:Nat) (t2:SetTable) (h2:Heap),h2.get? a=some { cls:=.type "set",data:=.set es2 ep2 t2 }→es2.toList.Perm (SetTable.insertAt es p (hashStr w k,Value.str k tk)).toList→TabG (byT w,false) t2 (es.size+1)→(es.size+1) * 5<t2.mask * 3→SetS w a (addS zs k) h2:=by
    intro es2 ep2 t2 h2 g2 pm T2 full
    obtain ⟨ks',h4,h5⟩:=EntsS.perm (ks:=ks++[k]) (Paired.snoc he ⟨tk,rfl⟩) (pm.trans insertAt_perm)
    have hs2:es2.size=es.size+1:=by rw [← hszE,← Array.length_toList,pm.length_eq,Array.length_toList]
    refine ⟨es2,ep2,t2,ks',g2,⟨_,by rw [hs2];exact T2⟩,h4,?_,?_,?_,by rw [hs2];exact full⟩
    ·unfold addS
     rw [if_neg hk]
     exact h5.trans (hp.append_right _)
    ·unfold addS
     rw [if_neg hk]
     exact qD4 hnd hk
    ·unfold addS
     rw [if_neg hk,List.length_append,List.length_singleton]
     lia
   have hg:=put_at (es':=SetTable.insertAt es p (hashStr w k,.str k tk)) (t':=t1) ho
   have fill:t1.fill=es.size+1:=by
    unfold SetTable.fill
    rw [T'.size,T'.dum]
    rfl
   cases tf:t1.tooFull with
   | false=>
    simp only [Bool.and_false,Bool.false_eq_true,↓reduceIte]
    refine wpAny_pure (wpAny_pure ?_)
    refine h _ (Heap.SameBut.update s.heap a _) (fin _ _ _ _ hg (.refl _) T' ?_) _
    unfold SetTable.tooFull at tf
    rw [fill] at tf
    have:=of_decide_eq_false tf
    lia
   | true=>
    simp only [Bool.not_false,Bool.and_self,↓reduceIte]
    rw [hszE]
    have gr:SetTable.grown (es.size+1)=(es.size+1) * 4:=by
     unfold SetTable.grown
     rw [if_neg (by lia)]
    obtain ⟨es2,t2,e2,p2,T2,m2⟩:=relay_ok T' hszE (wanted:=SetTable.grown (es.size+1)) (by rw [gr];lia) (by rw [gr];lia)
    rw [gr] at m2
    rw [e2]
    dsimp only
    refine wpAny_bind (wpAny_pure ?_)
    refine wpAny_bind (wpAny_storeSet_of hg rfl ?_ (by rw [← Array.length_toList,p2.length_eq,Array.length_toList,hszE,hsz,sizeLine_eq];lia))
    refine wpAny_pure (wpAny_pure ?_)
    exact h _ ((Heap.SameBut.update s.heap a _).trans (Heap.SameBut.update _ a _)) (fin _ _ _ _ (put_at hg) p2 T2 (by lia)) _
end
section
variable {prog:Program} {w:World} {A:Around} {R:Result→Shared→Prop} {I:Addr} {fp wr:List Addr} {G:Array GenState→Array GenState→Prop} {n:Nat} {P:Nat→Value→Prop} {St:Nat→Shared→Prop}
theorem set_update_S (W:WalksS prog w A.in1 I fp wr G n P St) (S:Addr) (hSf:S ∉ fp) (ns:List Str) (hnn:ns.length=n) (h4:n≤4000) (hval:∀ i v,P i v→∃ t,v=.str (ns.getD i Str.empty) t) :
  ∀ (k i:Nat) (s:Shared),n - i=k→i≤n→St i s→SetS w S (dedS (ns.take i)) s.heap→
   (∀ s',Moved (S::wr) G s s'→SetS w S (dedS ns) s'.heap→R (.ok (.ret .none)) s')→
   codeAny (model prog w) A (.builtin "set.update.loop" ⟨[.ref S,.ref I],[]⟩) R s:=by
 have hSw:S ∉ wr:=fun h=>hSf (W.sub _ h)
 have hsub:∀ b ∈ wr,b ∈ S::wr:=fun b hb=>List.mem_cons_of_mem _ hb
 intro k
 induction k with
 | zero=>
  intro i s hk hi hst hS hR
  have hin:i=n:=by lia
  subst hin
  refine codeAny_builtin F.entry_set_update_loop ?_
  rw [Around.under_plainId F.plain_set_update_loop _]
  show wpAny _ A.in1 (pyNext (.ref I) >>= _) _ _ s
  refine wpAny_bind (W.done s _ _ hst fun s' hm=>?_)
  show wpAny _ A.in1 (ret Value.none) _ _ s'
  rw [List.take_of_length_le (by lia)] at hS
  exact wpAny_pure (hR s' (hm.mono hsub) (hS.at fun o e=>hm.heap S _ hSw e))
 | succ k ih=>
  intro i s hk hi hst hS hR
  have hlt:i<n:=by lia
  refine codeAny_builtin F.entry_set_update_loop ?_
  rw [Around.under_plainId F.plain_set_update_loop _]
  show wpAny _ A.in1 (pyNext (.ref I) >>= _) _ _ s
  refine wpAny_bind (W.item i s _ _ hlt hst fun v s' hP hst' hm=>?_)
  obtain ⟨t,rfl⟩:=hval i v hP
  have hS':SetS w S (dedS (ns.take i)) s'.heap:=hS.at fun o e=>hm.heap S _ hSw e
  show wpAny _ A.in1 (holding [Value.str (ns.getD i Str.empty) t] (setAdd S (.str (ns.getD i Str.empty) t)) >>= _) _ _ s'
  refine wpAny_bind (wpAny_holding ?_)
  unfold setAdd
  refine wpAny_holding ?_
  refine wpAny_bind ((PySem.strKind prog w).pyHash (k:=ns.getD i Str.empty) (strKind_is _ _ _ _) ?_)
  have hroom:(dedS (ns.take i)).length<4094:=by
   have:=qC3 (ns.take i) []
   rw [List.length_take] at this
   unfold dedS
   simp at this
   lia
  refine setAdd_S (s:={ s' with toks:=s'.toks+1 }) hS' hroom fun h' hsb hS2 b=>?_
  have e2:addS (dedS (ns.take i)) (ns.getD i Str.empty)=dedS (ns.take (i+1)):=by
   have hi':i<ns.length:=by lia
   rw [List.take_add_one,List.getElem?_eq_getElem hi',Option.toList_some]
   unfold dedS
   rw [List.foldl_append,List.foldl_cons,List.foldl_nil,List.getD_eq_getElem?_getD,List.getElem?_eq_getElem hi',Option.getD_some]
  rw [e2] at hS2
  refine wpAny_pure ⟨plainId_quiet F.plain_set_update_loop _,ih (i+1) _ (by lia) hlt (W.frame _ s' _ _ hst' (Nat.le_succ _) fun b hb o e=>?_) hS2 fun s'' hm'' hS''=>?_⟩
  ·rw [hsb.2 b (fun h:b=S=>hSf (by rw [← h];exact hb))];exact e
  ·refine hR s'' (Moved.trans W.gtrans ((hm.mono hsub).then_heap (Nat.le_succ _) fun b o hb e=>?_) hm'') hS''
   rw [hsb.2 b (fun h:b=S=>hb (by rw [h];exact List.mem_cons_self))];exact e
end
section
variable {prog:Program} {w:World} {A:Around} {E:Value→Shared→Prop} {s:Shared}
theorem SetS.fresh {a:Addr} {h:Heap} (e:h.get? a=some (freshSet w)):SetS w a [] h:=
 ⟨#[],0,_,[],e,⟨true,⟨⟨3,Nat.le_refl _,rfl⟩,rfl,rfl,rfl,rfl,.nil,fun _ z=>nomatch z⟩⟩,.nil,.refl _,.nil,by decide,by show 0 * 5<7 * 3;decide⟩
theorem call_set_S {l:Addr} {items:Array Value} {ns:List Str} {Q:Value→Shared→Prop} (hh:A.handled=none) (hl:s.heap.IsList l items) (hi:Vals (ns.map V.str) items.toList) (h4:items.size≤4000)
  (h:∀ (h':Heap) (tk:Nat),SetS w s.heap.objs.size (dedS ns) h'→(∀ b o,s.heap.get? b=some o→h'.get? b=some o)→Q (.ref s.heap.objs.size) { s with heap:=h',toks:=tk }) :
  wpAny (model prog w) A (call (.type "set") [.ref l]) Q E s:=by
 have hlen:ns.length=items.size:=by have:=hi.length;simpa using this
 obtain ⟨c,tl,hmro⟩:=F.called_set.mro
 have hmade:=F.called_set.made
 have hsub:=F.called_set.sub
 refine wpAny_call (codeAny_of_tree ?_)
 show wpAny _ _ (callAny (.type "set") _) _ _ _
 refine wpAny_pure ⟨Code.quiet_builtin _ (by decide +kernel),codeAny_builtin F.entry_type_call ?_⟩
 rw [Around.under_plain (weight_type_call_type "set" [.ref l] []) rfl]
 have h1:=F.called_set.notType
 have h2:=F.called_set.canCreate
 have hct:=F.typeCall_set_1 (.ref l)
 repeat (any_goals (first | assumption | wp_step))
 refine codeAny_mono (set_new_I (.ref l) (E:=E) (Q₁:=fun obj s₁=>obj=.ref s.heap.objs.size∧s₁={ s with heap:=s.heap.push (freshSet w) }) ⟨rfl,rfl⟩) fun r s₁ hr=>?_
 cases r with
 | error e=>exact hr
 | ok fl=>
  cases fl with
  | ret obj=>
   obtain ⟨rfl,rfl⟩:=hr
   have hS:(s.heap.push (freshSet w)).get? s.heap.objs.size=some (freshSet w):=Heap.get?_push_size _ rfl
   have hT:Shared.TypeIs { s with heap:=s.heap.push (freshSet w) } (.ref s.heap.objs.size) "set":=⟨_,hS,rfl⟩
   have hli:=F.called_set.init.lookup
   have hbi:=F.called_set.init.bind (.ref s.heap.objs.size)
   repeat (any_goals (first | assumption | wp_step))
   refine codeAny_mono (codeAny_call_builtin (R:=wants (fun r s₂=>r=.none∧∃ h' tk,s₂={ s with heap:=h',toks:=tk }∧SetS w s.heap.objs.size (dedS ns) h'∧
     (∀ b o,s.heap.get? b=some o→h'.get? b=some o)) E) F.called_set.init.plain F.entry_set_init (check_set_init_1 hT ?_)) fun r₂ s₂ hr₂=>?_
   ·obtain ⟨ol,hol,hcl,nl,hdl⟩:=hl
    obtain ⟨ocls,odict,odata,oslots⟩:=ol
    simp only at hcl hdl
    subst hcl;subst hdl
    have hol':(s.heap.push (freshSet w)).get? l=some { cls:=.type "list",dict:=odict,data:=.seq items nl,slots:=oslots }:=Heap.get?_push_of_some _ hol
    have hsls:=F.sub_list_set
    have hslf:=F.sub_list_frozenset
    have hne:(Value.type "list" == Value.type "dict")=false:=by decide
    have hl1:(s.heap.push (freshSet w)).IsList l items:=⟨_,hol',rfl,nl,rfl⟩
    unfold Builtin.«set.__init__» noKeywords Builtin.Frozenset.updateFrom
    generalize hPI:pyIter=PI
    wp_walk
    subst hPI
    refine wpAny_pyIter_list hl1 ?_
    refine wpAny_bind (wpAny_runValue ?_)
    have hlS:l<s.heap.objs.size:=Heap.lt_size hol
    have hh3:A.in1.in1.in1.handled=none:=by simp [hh]
    have hneI:l ≠ (s.heap.push (freshSet w)).objs.size:=by
     rw [Heap.size_push];exact Nat.ne_of_lt (Nat.lt_succ_of_lt hlS)
    have hSf:s.heap.objs.size ∉ [(s.heap.push (freshSet w)).objs.size,l]:=by
     rw [Heap.size_push];simp only [List.mem_cons,List.mem_singleton,List.not_mem_nil,or_false,not_or]
     exact ⟨Nat.ne_of_lt (Nat.lt_succ_self _),Nat.ne_of_gt hlS⟩
    have hval:∀ (i:Nat) (v:Value),items[i]?=some v→∃ t,v=.str (ns.getD i Str.empty) t:=fun i v hv=>
     strsV_at hi (by rw [Array.getElem?_toList];exact hv)
    refine set_update_S ((Walks.list hh3 _ l hneI items).toS) s.heap.objs.size hSf ns hlen h4 hval (items.size - 0) 0 _ (by lia) (Nat.zero_le _)
     ⟨⟨_,Heap.get?_push_size _ rfl,rfl,rfl⟩,(hl1.push _)⟩ ?hS0 ?hR
    case hS0=>exact SetS.fresh (Heap.get?_push_of_some _ hS)
    case hR=>
     intro s' hm hS'
     obtain ⟨h',g',d',tk',os'⟩:=s'
     have eg:g'=s.gens:=hm.gens
     have ed:d'=s.drawn:=hm.drawn
     have eo:os'=s.os:=hm.os
     subst eg;subst ed;subst eo
     show wpAny _ _ _ _ _ _
     refine wpAny_pure ?_
     show wpAny _ _ (ret Value.none) _ _ _
     refine wpAny_pure ⟨rfl,h',tk',rfl,hS',fun b o e=>?_⟩
     have hb:=Heap.lt_size e
     have hb1:b ≠ s.heap.objs.size:=Nat.ne_of_lt hb
     have hb2:b ≠ (s.heap.push (freshSet w)).objs.size:=by
      rw [Heap.size_push];exact Nat.ne_of_lt (Nat.lt_succ_of_lt hb)
     exact hm.heap b o (by simp only [List.mem_cons,List.mem_singleton,List.not_mem_nil,or_false,not_or];exact ⟨hb1,hb2⟩) (Heap.get?_push_of_some _ (Heap.get?_push_of_some _ e))
   ·cases r₂ with
    | error e=>exact hr₂
    | ok fl₂=>
     cases fl₂ with
     | ret r=>
      obtain ⟨rfl,h',tk,rfl,hS',hk'⟩:=hr₂
      repeat (any_goals (first | assumption | wp_step))
      exact h _ _ hS' hk'
     | next=>exact hr₂
     | brk=>exact hr₂
     | cont=>exact hr₂
  | next=>exact hr
  | brk=>exact hr
  | cont=>exact hr
end
def SetT (w:World) (a:Addr) (zs:List Str):HO:=.ext (SetS w a zs)
section
variable {X:Cx}
theorem call_setS (hc:X.calm=true):CallR X (.type "set") (fun xs H Q=>∃ p ns,xs=[.ref p]∧SqL X.K H p (ns.map V.str)∧ns.length≤4000∧∀ a,H a=none→Q (.ref a) (upd H a (SetT X.w a (dedS ns)))):=by
 intro pins s σ H xs us Q I r h
 obtain ⟨p,ns,rfl,hq,h4,q⟩:=h
 obtain ⟨u,rfl,rx⟩:=vals1 r
 cases rx
 obtain ⟨its,r',pl,hz⟩:=I.list hq
 have hlen:=r'.length
 rw [List.length_map] at hlen
 refine call_set_S (I.ok.hd hc) pl.isList (by simpa using r') (by simp;lia) fun h' tk hS hk=>?_
 refine ⟨.ref s.heap.objs.size,_,I.laid (t':=tk) (o:=SetT X.w s.heap.objs.size (dedS ns)) hk (Nat.le_refl _) ⟨hS,?_,fun h1 h2 a b=>a.at b⟩,rfl,q _ (I.hok.fresh (Nat.le_refl _))⟩
 obtain ⟨es,ep,t,ks,ho,_⟩:=hS
 exact ⟨_,ho⟩
theorem call_lenT:CallR X (.builtin "len") (fun xs H Q=>∃ p zs,xs=[V.ref p]∧H p=some (SetT X.w p zs)∧Q (.int (zs.length:Nat)) H):=by
 intro pins s σ H xs us Q I r h
 obtain ⟨p,zs,rfl,hq,q⟩:=h
 obtain ⟨u,rfl,ru⟩:=vals1 r
 cases ru
 obtain ⟨hS,_⟩:=(show ObjOk X.prog X.w H s.heap p (SetT X.w p zs) from I.hok p _ hq)
 obtain ⟨es,ep,t,ks,ho,⟨pl,T⟩,en,pm,nd,l4,h5⟩:=hS
 have le:es.size=zs.length:=by
  have:=Paired.length en
  simp at this
  rw [← pm.length_eq,← this]
 refine call_len_set ho ⟨rfl,rfl,rfl⟩ rfl (T.fits (by lia)) (by lia) ?_
 rw [le]
 exact ⟨.int zs.length,H,I.tok _,⟨_,rfl⟩,q⟩
end
end L2
namespace L2
open PySem PySem.Spec PyProof.Rows
section
variable {X:Cx}
theorem ld_var {E:Value→Shared→Prop} {pins:List (Addr × Obj)} {s:Shared} {σ:St} {H:Hp} {x:Str} {i:Nat} {f:Addr} {pos:Pos} {Q:Value→Shared→Prop} (I:Inv X pins σ H s) (hN:X.N[i]?=some x) (hv:Vis X.env.scope x) (e:σ[i]?=some (some (.ref f))) (h:Q (.ref f) s)
  (hd:(x == ("__debug__" : Str))=false:=by decide) (hcd:(x == ("__classdict__" : Str))=false:=by decide):wpAny (model X.prog X.w) X.A (eval (.Name x pos) X.env) Q E s:=by
 obtain ⟨m,hn,hl⟩:=I.loc
 obtain ⟨u,r,l⟩:=hl i x _ hN e hv
 obtain rfl:u=.ref f:=r
 rcases l with ⟨hk,hm⟩ | ⟨hk,c,hc,hcell⟩
 ·exact wpAny_Name (wpAny_loadName_local I.ok.kind hk hn hm h) hd
 ·rcases hk with hk | hk
  ·exact wpAny_Name (wpAny_loadName_cell I.ok.kind hk hc hcell h) hd
  ·exact wpAny_Name (wpAny_loadName_free I.ok.kind hk hc hcell h hcd) hd
def tTryEV (i:Nat) (f:Addr) (K:PySem.W.Frag) (ta:TA) (sp:Sp) (dvs:List V) (c:Value) (j:Option Nat) (th:TS):TS:=fun D σ H=>σ[i]?=some (some (.ref f))∧tTryE K ta sp dvs c j th D σ H
theorem ps_tryEV {i:Nat} {fn cn:Str} {a:Expr} {as:List Expr} {pf pc pa pC ph pt:Pos} {b₀:Stmt} {hbody:List Stmt} {ta:TA} {th:TS} {c:Value} {nm:Option Str} {j:Option Nat} {k:Nat} {f:Addr} {fd:FuncData} {ps:List Str} {sp:Sp} {dvs:List V} {ds:List Value}
  (hst:X.stack=X.env::X.outer) (hfm:X.env.frame=some X.env.locals) (hN:X.N.Nodup)
  (F:FnOk X.prog X.w X.K X.mg X.base (CX1 X.prog X.w) k f fd ps sp) (hr:Room k X.A) (hi:X.N[i]?=some fn) (hv:Vis X.env.scope fn) (hk:PySem.W.keepIn X.K (.ref f)=true) (hb:Binds X.K fd ps ds) (hd:Vals dvs ds)
  (ha:PA X.nox (a::as) ta) (hgc:Gl X cn) (hmc:X.mg cn=some c)
  (hj:match j,nm with | none,none=>True | some j,some n=>X.N[j]?=some n∧X.env.scope.names.lookup n=some .local | _,_=>False)
  (hh:∀ ev,PSs (X.held ev).nox (b₀::hbody) th)
  (hs:swapsWith (.Call (.Name fn pf) (a::as) [] pc) none pa.line X.env=pure false:=by rfl)
  (hdb:(fn == ("__debug__" : Str))=false:=by decide) (hcd:(fn == ("__classdict__" : Str))=false:=by decide) (hdc:(cn == ("__debug__" : Str))=false:=by decide)
  (he:starEach (a::as) X.env=(false,eval a X.env)::starEach as X.env:=by rfl) (hpl:(backTo pc (starEach as X.env)).any (·.1)=false:=by rfl) :
  PS X (.Try [.Expr (.Call (.Name fn pf) (a::as) [] pc) pa] [.ExceptHandler (some (.Name cn pC)) nm (b₀::hbody) ph] [] [] pt) (tTryEV i f X.K ta sp dvs c j th):=by
 intro pins s σ H D I h
 obtain ⟨hσ,h⟩:=h
 rw [arm_exec_Try]
 refine wpAny_bind (wpAny_standAt ?_)
 refine wpAny_tryStmt_except ?_
 refine wpAny_execs_cons ?_
 refine wpAny_Expr_any ?_ I.quiet hs
 refine wpAny_Call_Name_kw (ld_var I hi hv hσ ?_ hdb hcd)
 refine PySem.W.callWith_K (h₀:=X.base) I.ok.mod.kin hk (wpAny_mono (ha pc pins s σ H _ (I.wish _) h) (fun us s1 ⟨vs,H1,I1,r,q⟩=>?_) fun _ _ z=>z.elim) he hpl
 have I1:=I1.unwish
 refine ⟨I1.kIn,?_⟩
 have r2:Vals (vs++dvs) (us++ds):=r.append hd
 have hl:(us++ds).length=ps.length:=by rw [← r2.length];exact F.len _ _ _ _ q
 refine wpAny_call (codeAny_mono (F.run X.A X.stack s1 H1 ⟨us,[]⟩ (us++ds) (vs++dvs) _ _ hr I1.env0 (hb s1 us I1.kIn hl) r2 q) fun res s2 hq=>?_)
 cases res with
 | ok fl=>
  cases fl with
  | ret u=>
   obtain ⟨v,H2,I2,rv,q2⟩:=I1.after hq
   exact wpAny_execs_nil (wpAny_execs_nil ⟨_,H2,I2,q2⟩)
  | next=>exact False.elim hq
  | brk=>exact False.elim hq
  | cont=>exact False.elim hq
 | error ev=>
  refine I1.lands (E:=fun _ _ _=>True) hst hfm hq fun e cls dd H2 B s3 ee I3 y g=>?_
  subst ee
  obtain ⟨hc,g⟩:=g
  obtain ⟨oe,vs3,x13,a1,a2,_⟩:=y.ex.rec_
  have LT:PySem.W.Looks (model X.prog X.w) s3.heap (typeOf (.ref e)) cls:=by
   subst a2
   exact (PySem.W.Looks.ld a1).andThen .now
  refine wpAny_handleBy_cons (codeAny_handlers_test ?_) (by intro z;cases z)
  have J3:=I3.held (.ref e)
  refine ld_glob J3 hgc hmc ?_ hdc
  refine (PySem.W.exm_one I3.kIn LT hc).here ?_
  have okX:=I3.ok
  cases nm with
  | none=>
   cases j with
   | some j=>exact hj.elim
   | none=>
    refine codeAny_handlers_suite (qCL y.ex fun h4 x4 u4=>?_)
    have y4:=y.step x4 u4 fun b hb=>hb
    have I4:Inv X pins σ H2 { s3 with heap:=h4 }:=I1.call' (s':={ s3 with heap:=h4 }) (I3.os.trans I1.os.symm) y4.un y4.hok I3.bare fun b hb=>absurd hb (by simp)
    have I5:=I4.caught ⟨s1,I1,rfl⟩ y4
    exact wpAny_mono (hh (.ref e) pins _ σ _ D ((I5.held _).wish _) (g e y.ne)) (fun fl s5 q5=>SP.back okX q5) fun _ _ z=>z.elim
  | some n=>
   cases j with
   | none=>exact hj.elim
   | some j=>
    obtain ⟨hj1,hj2⟩:=hj
    refine codeAny_handlers_suite_as (qCL y.ex fun h4 x4 u4=>?_)
    have y4:=y.step x4 u4 fun b hb=>hb
    have I4:Inv X pins σ H2 { s3 with heap:=h4 }:=I1.call' (s':={ s3 with heap:=h4 }) (I3.os.trans I1.os.symm) y4.un y4.hok I3.bare fun b hb=>absurd hb (by simp)
    have I5:=I4.caught ⟨s1,I1,rfl⟩ y4
    refine store_ok (v:=.ref e) I5 hN hj1 (.inl hj2) rfl (fun s6 I6=>?_) (.inr hj2)
    refine wpAny_mono (hh (.ref e) pins _ _ _ _ ((I6.held _).wish _) (g e y.ne)) (fun fl s5 q5=>?_) fun _ _ z=>z.elim
    have q5:=SP.back okX q5
    cases fl with
    | next=>obtain ⟨σ7,H7,I7,q7⟩:=q5;exact I7.goes hN hj1 hj2 fun s8 I8=>⟨_,H7,I8,q7⟩
    | brk=>obtain ⟨σ7,H7,I7,q7⟩:=q5;exact I7.goes hN hj1 hj2 fun s8 I8=>⟨_,H7,I8,q7⟩
    | cont=>obtain ⟨σ7,H7,I7,q7⟩:=q5;exact I7.goes hN hj1 hj2 fun s8 I8=>⟨_,H7,I8,q7⟩
    | ret u=>obtain ⟨v7,σ7,H7,I7,r7,q7⟩:=q5;exact I7.goes hN hj1 hj2 fun s8 I8=>⟨v7,_,H7,I8,r7,q7⟩
end
end L2
namespace L2
open PySem PySem.Spec PyProof.Rows
section
variable {X:Cx}
theorem call_lenM:CallR X (.builtin "len") (fun xs H Q=>∃ p zs,xs=[V.ref p]∧H p=some (SetM X.w p zs)∧Q (.int (zs.length:Nat)) H):=by
 intro pins s σ H xs us Q I r h
 obtain ⟨p,zs,rfl,hq,q⟩:=h
 obtain ⟨u,rfl,ru⟩:=vals1 r
 cases ru
 obtain ⟨hS,_⟩:=(show ObjOk X.prog X.w H s.heap p (SetM X.w p zs) from I.hok p _ hq)
 obtain ⟨es,ep,t,ks,ho,T,en,pm,nd,l4,h5⟩:=hS
 have le:es.size=zs.length:=by
  have:=Paired.length en
  simp at this
  rw [← pm.length_eq,← this]
 refine call_len_set ho ?_ rfl (T.fits (by lia)) (by lia) ?_
 ·exact ⟨rfl,rfl,rfl⟩
 ·rw [le]
  exact ⟨.int zs.length,H,I.tok _,⟨_,rfl⟩,q⟩
end
end L2
namespace L2
open PySem PySem.Spec PyProof.Rows
structure Clb (P:Program) (w:World) (K:PySem.W.Frag) (mg:Str→Option Value) (base:Heap) (n:Nat) (f:Addr) (fd:FuncData) (x:Str) (ps:List Str) (sp:Sp):Prop where
 G:FnOk P w K mg base CX0 n f fd ps sp
 b:Binds K fd ps []
 k:PySem.W.keepIn K (.ref f)=true
 m:mg x=some (.ref f)
theorem pe_cl {X:Cx} {n k:Nat} {f:Addr} {fd:FuncData} {x:Str} {ps:List Str} {sp:Sp} {e:Expr} {es:List Expr} {t:TA} {p pos:Pos} (C:Clb X.prog X.w X.K X.mg X.base n f fd x ps sp) (hr:Room k X.A) (hg:Gl X x)
  (ha:PA X (e::es) t) (hnk:n≤k:=by decide) (hdb:(x == ("__debug__" : Str))=false:=by decide) (he:starEach (e::es) X.env=(false,eval e X.env)::starEach es X.env:=by rfl) (hpl:(backTo pos (starEach es X.env)).any (·.1)=false:=by rfl) :
  PE X (.Call (.Name x p) (e::es) [] pos) (tCall sp [] E0 t):=pe_call C.G (hr.mono hnk) hg C.m C.k C.b .nil pass0 ha hdb he hpl
theorem nmD {i:Nat} {t u:TS} {D:Ends} {x:V} {σ:St} {H:Hp} (h:∀ D':Ends,(∀ σ H,D.nx σ H→D'.nx σ H)→(∀ v H,D.rt v H→D'.rt v H)→tSeq t u D' (σ.set i (some x)) H):gName i x σ H fun σ2 H2=>tSeq t u D σ2 H2:=h D (fun _ _ z=>z) fun _ _ z=>z
end L2
namespace L2
open PySem PySem.Spec PyProof.Rows
def Tf (K:PySem.W.Frag) (x:Str) (s:Stmt) (f:Addr):Prop:=PySem.W.nsIn K mainGlobals x=some (some (.ref f))∧∃ fd,Fun K x x s f fd
theorem Tf.use {K:PySem.W.Frag} {h:Heap} {mg:Str→Option Value} {x:Str} {s:Stmt} {f:Addr} (X:K.In h) (G:h.Ns mainGlobals mg) (T:Tf K x s f):∃ fd,Fun K x x s f fd∧mg x=some (.ref f):=
 let ⟨a,fd,F⟩:=T
 ⟨fd,F,PySem.W.mg_of X G a⟩
theorem Tf.clb {P:Program} {w:World} {K:PySem.W.Frag} {h base:Heap} {mg:Str→Option Value} {x:Str} {s:Stmt} {f:Addr} {n:Nat} {ps:List Str} {sp:Sp} (X:K.In h) (G:h.Ns mainGlobals mg) (T:Tf K x s f) (hok:∀ fd,Fun K x x s f fd→FnOk P w K mg base CX0 n f fd ps sp)
  (hb:∀ (kV doc pm:Value) (an:Option Addr) (cdv ct:Value) (us:List Value),us.length=ps.length→bindArgs (PySem.W.fnOf x x (defArgs s) (defBody s) (defScope s) .none kV doc pm an cdv ct) ⟨us,[]⟩=pure (ps.zip us)):∃ fd,Clb P w K mg base n f fd x ps sp:=
 let ⟨fd,F,m⟩:=T.use X G
 ⟨fd,hok fd F,F.binds hb,F.kp,m⟩
def Zs (K:PySem.W.Frag):List Str→Prop
 | []=>True
 | x::r=>PySem.W.nsIn K mainGlobals x=some none∧Zs K r
def Zm (mg:Str→Option Value):List Str→Prop
 | []=>True
 | x::r=>mg x=none∧Zm mg r
theorem Zs.mg {K:PySem.W.Frag} {h:Heap} {mg:Str→Option Value} (X:K.In h) (G:h.Ns mainGlobals mg):∀ {l:List Str},Zs K l→Zm mg l
 | [],_=>trivial
 | _::_,⟨a,b⟩=>⟨PySem.W.mg_none_of X G a,Zs.mg X G b⟩
theorem sc_mk {N P:List Str} {sc:Scope} (h1:sc.kind=.function:=by rfl) (h2:sc.isCoroutine=false:=by rfl) (h3:sc.isGenerator=false:=by rfl) (h4:N.Nodup:=by decide +kernel) (h5:N.take P.length=P:=by rfl) (h6:∀ x ∈ P,sc.names.lookup x=some .local∨sc.names.lookup x=some .cell:=by decide +kernel) (h7:∀ y ∈ sc.names,y.2 ≠ .free:=by decide +kernel):FnScope N P sc:=⟨h1,h2,h3,h4,h5,h6,h7⟩
section
variable {P:Program} {w:World} {K:PySem.W.Frag} {mg:Str→Option Value} {base:Heap}
theorem Fun.okA {x qual:Str} {st:Stmt} {f:Addr} {fd:FuncData} {N ps:List Str} {k:Nat} {sp:Sp} (F:Fun K x qual st f fd) (S:FnScope N ps (defScope st))
  (hbody:∀ (cdv:Value) (A:Around) (outer:List Env) (s:Shared) (H:Hp) (vs:List V) (Q:VK) (E:XK),Room k (A.deeper (envOfC qual (defScope st) s.heap.objs.size f cdv))→sp vs H Q E→
   ∃ t,PSs (cxOf CX0 P w K mg base N qual (defScope st) f cdv A outer s H E).nox (defBody st) t∧t { nx:=fun _ H'=>Q .non H',rt:=Q } (start N vs) H)
  (len:∀ vs H Q E,sp vs H Q E→vs.length=ps.length:=by intro vs H Q E h;(repeat (obtain ⟨_,h⟩:=h));subst_vars;rfl):FnOk P w K mg base CX0 (k+1) f fd ps sp:=F.ok S len hbody
@[elab_as_elim] theorem us5 {α:Type} {P:List α→Prop} (us:List α) (hl:us.length=5) (h:∀ a b c d e,P [a,b,c,d,e]):P us:=by
 match us,hl with
 | [a,b,c,d,e],_=>exact h a b c d e
def Bs (P:Program) (w:World) (base:Heap):Prop:=P=P∧w=w∧base=base
theorem Tf.c {h:Heap} {x:Str} {s:Stmt} {f:Addr} {n:Nat} {ps:List Str} {sp:Sp} (X:K.In h) (G:h.Ns mainGlobals mg) (B:Bs P w base) (T:Tf K x s f) (hok:∀ fd,Fun K x x s f fd→FnOk P w K mg base CX0 n f fd ps sp)
  (hb:∀ (kV doc pm:Value) (an:Option Addr) (cdv ct:Value) (us:List Value),us.length=ps.length→bindArgs (PySem.W.fnOf x x (defArgs s) (defBody s) (defScope s) .none kV doc pm an cdv ct) ⟨us,[]⟩=pure (ps.zip us):=by
   intro _ _ _ _ _ _ us hl;first | exact us1 us hl (fun _=>rfl) | exact us2 us hl (fun _ _=>rfl) | exact us3 us hl (fun _ _ _=>rfl) | exact us4 us hl (fun _ _ _ _=>rfl) | exact us5 us hl (fun _ _ _ _ _=>rfl) | exact us0 us hl rfl):∃ fd,Clb P w K mg base n f fd x ps sp:=T.clb X G hok hb
end
section
variable {X:Cx} {pos:Pos}
theorem pg_in {x:Str} (i:Nat) (hN:X.N.Nodup:=by exact nd_of (by kernel_rfl)) (hi:X.N[i]?=some x:=by rfl) (hx:Loc X.env.scope x:=by exact Or.inl rfl) (hf:X.fn x=true∨X.env.scope.names.lookup x=some .local:=by first | exact .inl rfl | exact .inr rfl | assumption):PG X (.Name x pos) (gName i):=qB7 hN hi hx hf
end
end L2
namespace Fw
open PySem L2
theorem qAJ:bootBuiltins "len" = some (.builtin "len"):=by decide +kernel
theorem bt_min:bootBuiltins "min" = some (.builtin "min"):=by decide +kernel
theorem bt_max:bootBuiltins "max" = some (.builtin "max"):=by decide +kernel
theorem bt_sorted:bootBuiltins "sorted" = some (.builtin "sorted"):=by decide +kernel
theorem bt_divmod:bootBuiltins "divmod" = some (.builtin "divmod"):=by decide +kernel
theorem bt_all:bootBuiltins "all" = some (.builtin "all"):=by decide +kernel
theorem qAS:bootBuiltins "isinstance" = some (.builtin "isinstance"):=by decide +kernel
theorem bt_int:bootBuiltins "int" = some (.type "int"):=by decide +kernel
theorem bt_bool:bootBuiltins "bool" = some (.type "bool"):=by decide +kernel
theorem bt_str:bootBuiltins "str" = some (.type "str"):=by decide +kernel
theorem bt_list:bootBuiltins "list" = some (.type "list"):=by decide +kernel
theorem qB1:bootBuiltins "tuple" = some (.type "tuple"):=by decide +kernel
theorem bt_set:bootBuiltins "set" = some (.type "set"):=by decide +kernel
theorem bt_range:bootBuiltins "range" = some (.type "range"):=by decide +kernel
theorem qCM:bootBuiltins "enumerate" = some (.type "enumerate"):=by decide +kernel
structure StAt (H:Hp) (d c:Addr) (t:Int) (ns:List Int):Prop where
 dict:H d=some (.dK [(Sum.inr "cells",.ref c),(Sum.inr "turn",.int t)])
 list:H c=some (.lst (ns.map V.int))
 ne:0<ns.length
 len:ns.length≤63
 pos:0≤t
def Keep (d c:Addr) (H H':Hp):Prop:=∀ b o,H b=some o→b ≠ d→b ≠ c→H' b=some o
theorem Keep.trans {d c:Addr} {H H1 H2:Hp} (a:Keep d c H H1) (b:Keep d c H1 H2):Keep d c H H2:=fun x o h n m=>b x o (a x o h n m) n m
theorem Keep.of_same {d c:Addr} {H H':Hp} (h:Same H H'):Keep d c H H':=fun b o e _ _=>h b o e
theorem qA3 {H:Hp} {p:Addr} (h:H p=none) (o:HO):Same H (upd H p o):=fun b u q=>by rw [qA7 (qA2 q h)];exact q
theorem qAV {d c:Addr} {H:Hp} {p:Addr} (h:H p=none) (o:HO):Keep d c H (upd H p o):=.of_same (qA3 h o)
theorem StAt.ndc {H:Hp} {d c:Addr} {t:Int} {ns:List Int} (S:StAt H d c t ns):d ≠ c:=ne_of S.dict S.list (by intro z;cases z)
theorem StAt.same {H H':Hp} {d c:Addr} {t:Int} {ns:List Int} (S:StAt H d c t ns) (h:Same H H'):StAt H' d c t ns:=⟨h _ _ S.dict,h _ _ S.list,S.ne,S.len,S.pos⟩
theorem StAt.new {H:Hp} {d c p:Addr} {t:Int} {ns:List Int} (S:StAt H d c t ns) (h:H p=none) (o:HO):StAt (upd H p o) d c t ns:=S.same (qA3 h o)
theorem s_cs:¬ (Str.ofString "cells" = Str.ofString "turn"):=by decide +kernel
theorem s_ct:¬ ((Sum.inr (Str.ofString "cells"):Key)=Sum.inr (Str.ofString "turn")):=fun h=>s_cs (Sum.inr.inj h)
theorem dg_turn {H:Hp} {d c:Addr} {t:Int} {ns:List Int} (S:StAt H d c t ns):DGet H d (.str "turn") (some (.int t)):=by
 have h:=DGet.k (k:=Sum.inr "turn") S.dict
 rw [valV_neg s_ct,qCN rfl] at h
 exact h
theorem dg_cells {H:Hp} {d c:Addr} {t:Int} {ns:List Int} (S:StAt H d c t ns):DGet H d (.str "cells") (some (.ref c)):=by
 have h:=DGet.k (k:=Sum.inr "cells") S.dict
 rw [qCN rfl] at h
 exact h
theorem put_turn (c:Addr) (t u:Int):putK [((Sum.inr "cells" : Key),V.ref c),(Sum.inr "turn",V.int t)] (Sum.inr "turn") (V.int u)=[((Sum.inr "cells" : Key),V.ref c),(Sum.inr "turn",V.int u)]:=by
 unfold putK
 simp [s_cs]
theorem dp_turn {H:Hp} {d c:Addr} {t u:Int} {ns:List Int} (S:StAt H d c t ns):DPut H d (.str "turn") (.int u) (upd H d (.dK [(Sum.inr "cells",.ref c),(Sum.inr "turn",.int u)])):=by
 have h:=DPut.k (k:=Sum.inr "turn") (v:=.int u) S.dict (by rw [sizeLine_eq];exact (by decide:2<16777216))
 rw [put_turn] at h
 exact h
theorem StAt.turn {H:Hp} {d c:Addr} {t u:Int} {ns:List Int} (S:StAt H d c t ns) (h:0≤u):StAt (upd H d (.dK [(Sum.inr "cells",.ref c),(Sum.inr "turn",.int u)])) d c u ns:=
 ⟨qA1,by rw [qA7 (Ne.symm S.ndc)];exact S.list,S.ne,S.len,h⟩
theorem StAt.put {H:Hp} {d c:Addr} {t:Int} {ns ms:List Int} (S:StAt H d c t ns) (h:ms.length=ns.length):StAt (upd H c (.lst (ms.map V.int))) d c t ms:=
 ⟨by rw [qA7 S.ndc];exact S.dict,qA1,by rw [h];exact S.ne,by rw [h];exact S.len,S.pos⟩
abbrev TB:Int:=1000000000
def spTake:Sp:=fun vs H Q _=>∃ d c t ns m,vs=[.ref d,.int m]∧StAt H d c t ns∧t≤TB∧1≤m∧m≤1000000∧∀ k ns' H',0≤k→k<m→StAt H' d c (t+1) ns'→Keep d c H H'→Q (.int k) H'
def spBegin (K:PySem.W.Frag):Sp:=fun vs H Q _=>∃ (a:Addr) (ns:List Int),vs=[.ref a]∧SqL K H a (ns.map V.int)∧ns.length≤63∧∀ d c ms H',StAt H' d c 0 ms→Same H H'→H d=none→H c=none→Q (.ref d) H'
noncomputable def cutI {α:Type} (xs:List α) (lo hi:Option Int):List α:=(xs.drop (HT.sIx xs.length 0 lo)).take (HT.sIx xs.length xs.length hi - HT.sIx xs.length 0 lo)
theorem qBQ {α:Type} (f:α→V) (xs:List α) (lo hi:Option Int):cutV (xs.map f) lo hi=(cutI xs lo hi).map f:=by
 unfold cutV cutI
 rw [List.length_map,← List.map_drop,← List.map_take]
theorem cutI_len {α:Type} (xs:List α) (lo hi:Option Int):(cutI xs lo hi).length≤xs.length:=by
 unfold cutI
 rw [List.length_take,List.length_drop]
 lia
theorem merge2 (c:Addr) (t:Int):mergeK [] [((Sum.inr (Str.ofString "cells"):Key),V.ref c),(Sum.inr (Str.ofString "turn"),V.int t)]=[((Sum.inr (Str.ofString "cells"):Key),V.ref c),(Sum.inr (Str.ofString "turn"),V.int t)]:=by
 unfold mergeK
 simp only [List.foldl_cons,List.foldl_nil]
 unfold putK
 simp [s_cs]
theorem ixN_nat {xs:List V} {j:Nat} (h:j<xs.length):ixN xs.length (j:Int)=some j:=by
 unfold ixN
 rw [if_pos (by lia),if_pos (by lia),Int.toNat_natCast]
def spLaw (K:PySem.W.Frag):Sp:=fun vs H Q _=>∃ (a:Addr) (ns:List Int),vs=[.ref a]∧SqL K H a (ns.map V.int)∧ns.length≤63∧∀ H',Q (.bl true) H'
theorem cut {t u:TS} {D:Ends} {σ:St} {H:Hp} (h:∀ N:St→Hp→Prop,(∀ σ H,u D σ H→N σ H)→t { D with nx:=N } σ H):tSeq t u D σ H:=h _ fun _ _ z=>z
theorem opq {A:Prop} (h:∀ G:Prop,(A→G)→G):A:=h A id
structure Rise (k:Int) (zs:List Int):Prop where
 up:zs.Pairwise (·<·)
 in_:∀ x ∈ zs,0≤x∧x<k
theorem Rise.nil {k:Int}:Rise k []:=⟨.nil,fun _ h=>nomatch h⟩
theorem Rise.mono {j k:Int} {zs:List Int} (h:Rise j zs) (l:j≤k):Rise k zs:=⟨h.up,fun x hx=>⟨(h.in_ x hx).1,by have:=(h.in_ x hx).2;lia⟩⟩
theorem Rise.sub {k:Int} {zs ys:List Int} (h:Rise k zs) (s:ys.Sublist zs):Rise k ys:=⟨h.up.sublist s,fun x hx=>h.in_ x (s.subset hx)⟩
theorem Rise.snoc {k:Int} {zs:List Int} (h:Rise k zs) (h0:0≤k):Rise (k+1) (zs++[k]):=by
 refine ⟨List.pairwise_append.mpr ⟨h.up,List.pairwise_singleton _ _,fun a ha b hb=>?_⟩,fun x hx=>?_⟩
 ·rw [List.mem_singleton.mp hb];exact (h.in_ a ha).2
 ·rcases List.mem_append.mp hx with hx | hx
  ·have:=h.in_ x hx;lia
  ·rw [List.mem_singleton.mp hx];lia
theorem Rise.shift {k j:Int} {zs:List Int} (h:Rise k zs) (hj:0≤j):Rise (k+j) (zs.map (·+j)):=by
 refine ⟨List.pairwise_map.mpr (h.up.imp fun {a b} hab=>by lia),fun x hx=>?_⟩
 obtain ⟨y,hy,e⟩:=List.mem_map.mp hx
 have:=h.in_ y hy
 lia
theorem Rise.nodup {k:Int} {zs:List Int} (h:Rise k zs):zs.Nodup:=h.up.imp fun {a b} hab=>by lia
theorem Rise.len {zs:List Int} {k:Nat} (h:Rise (k:Int) zs):zs.length≤k:=by
 have sub:zs ⊆ (List.range k).map fun (i:Nat)=>(i:Int):=fun x hx=>by
  have:=h.in_ x hx
  exact List.mem_map.mpr ⟨x.toNat,List.mem_range.mpr (by lia),by lia⟩
 have:=List.Nodup.length_le_of_subset h.nodup sub
 simpa using this
theorem mem_addI {zs:List Int} {k x:Int}:x ∈ addI zs k ↔ x ∈ zs∨x=k:=by
 unfold addI
 split
 ·rename_i h
  constructor
  ·exact .inl
  ·rintro (z | rfl)
   ·exact z
   ·exact h
 ·simp
theorem nd_addI {zs:List Int} {k:Int} (h:zs.Nodup):(addI zs k).Nodup:=by
 unfold addI
 split
 ·exact h
 ·rename_i hk
  exact qD4 h hk
theorem ded_go:∀ (l zs:List Int),zs.Nodup→(l.foldl addI zs).Nodup∧∀ x,x ∈ l.foldl addI zs ↔ x ∈ zs∨x ∈ l
 | [],zs,h=>⟨h,fun x=>by simp⟩
 | k::r,zs,h=>by
  obtain ⟨a,b⟩:=ded_go r (addI zs k) (nd_addI h)
  refine ⟨a,fun x=>?_⟩
  rw [List.foldl_cons,b x,mem_addI,List.mem_cons,or_assoc]
theorem dedI_nodup (l:List Int):(dedI l).Nodup:=(ded_go l [] .nil).1
theorem mem_dedI {l:List Int} {x:Int}:x ∈ dedI l ↔ x ∈ l:=by
 have:=(ded_go l [] .nil).2 x
 unfold dedI
 rw [this]
 simp
theorem dedI_len (l:List Int):(dedI l).length≤l.length:=by
 have:=qB9 l []
 simpa [dedI] using this
theorem lt_of_sorted {zs:List Int} (h1:zs.Pairwise (·≤·)) (h2:zs.Nodup):zs.Pairwise (·<·):=by
 have h3:zs.Pairwise (fun a b=>a≤b∧a ≠ b):=List.pairwise_and_iff.mpr ⟨h1,h2⟩
 exact h3.imp fun {a b} ⟨x,y⟩=>by lia
theorem rise_set {k:Int} {fs zs:List Int} (hp:zs.Perm (dedI fs)) (hs:zs.Pairwise (·≤·)) (h:∀ x ∈ fs,0≤x∧x<k):Rise k zs:=
 ⟨lt_of_sorted hs (hp.nodup_iff.mpr (dedI_nodup fs)),fun x hx=>h x (mem_dedI.mp (hp.mem_iff.mp hx))⟩
noncomputable def rangeI (lo hi:Int):List Int:=(List.range (hi - lo).toNat).map fun (i:Nat)=>lo+i
theorem rangeV_ints (lo hi:Int):rangeV lo hi=(rangeI lo hi).map V.int:=by
 unfold rangeV rangeI
 rw [List.map_map]
 rfl
theorem mem_rangeI {lo hi x:Int}:x ∈ rangeI lo hi ↔ lo≤x∧x<hi:=by
 unfold rangeI
 rw [List.mem_map]
 constructor
 ·rintro ⟨i,hi',e⟩
  have:=List.mem_range.mp hi'
  lia
 ·intro h
  exact ⟨(x - lo).toNat,List.mem_range.mpr (by lia),by lia⟩
theorem rangeI_up (lo hi:Int):(rangeI lo hi).Pairwise (·<·):=by
 unfold rangeI
 exact List.pairwise_map.mpr (List.pairwise_lt_range.imp fun {a b} h=>by lia)
theorem rangeI_rise {lo hi:Int} (h:0≤lo):Rise hi (rangeI lo hi):=⟨rangeI_up _ _,fun x hx=>by have:=mem_rangeI.mp hx;lia⟩
theorem cutI_from {α:Type} (xs:List α) (k:Nat) (h:k≤xs.length):cutI xs (some (k:Int)) none=xs.drop k:=by
 unfold cutI
 rw [HT.sIx_nat,HT.sIx_none,Nat.min_eq_left h]
 exact List.take_of_length_le (by rw [List.length_drop];exact Nat.le_refl _)
theorem cutI_to {α:Type} (xs:List α) (k:Nat):cutI xs none (some (k:Int))=xs.take k:=by
 unfold cutI
 rw [HT.sIx_nat,HT.sIx_none,List.drop_zero,Nat.sub_zero]
 rcases Nat.le_total k xs.length with h | h
 ·rw [Nat.min_eq_left h]
 ·rw [Nat.min_eq_right h,List.take_of_length_le h,List.take_of_length_le (Nat.le_refl _)]
abbrev NetL (H:Hp):List Addr→List (List Int)→Prop:=Paired fun r zs=>H r=some (.tup (zs.map V.int))
theorem NetL.keep {d c:Addr} {H H':Hp} {rs:List Addr} {net:List (List Int)} (h:NetL H rs net) (hd:∀ r zs,H r=some (.tup zs)→r ≠ d∧r ≠ c) (k:Keep d c H H'):NetL H' rs net:=by
 induction h with
 | nil=>exact .nil
 | cons r t ih=>exact .cons (k _ _ r (hd _ _ r).1 (hd _ _ r).2) ih
theorem NetL.same {H H':Hp} {rs:List Addr} {net:List (List Int)} (h:NetL H rs net) (k:∀ r zs,H r=some (.tup zs)→H' r=some (.tup zs)):NetL H' rs net:=by
 induction h with
 | nil=>exact .nil
 | cons r t ih=>exact .cons (k _ _ r) ih
theorem NetL.get {H:Hp}:∀ {rs:List Addr} {net:List (List Int)} {i:Nat} {zs:List Int},NetL H rs net→net[i]?=some zs→∃ r,rs[i]?=some r∧H r=some (.tup (zs.map V.int))
 | _,_,_,_,.nil,e=>by simp at e
 | _,_,0,_,.cons r _,e=>by simp at e;subst e;exact ⟨_,rfl,r⟩
 | _,_,i+1,zs,.cons _ t,e=>by
  obtain ⟨r,h1,h2⟩:=NetL.get (i:=i) (zs:=zs) t (by simpa using e)
  exact ⟨r,by simpa using h1,h2⟩
def NetAt (H:Hp) (a:Addr) (net:List (List Int)):Prop:=∃ rs:List Addr,H a=some (.tup (rs.map V.ref))∧NetL H rs net
theorem StAt.tup {H:Hp} {d c:Addr} {t:Int} {ns:List Int} (S:StAt H d c t ns) {r:Addr} {zs:List V} (h:H r=some (.tup zs)):r ≠ d∧r ≠ c:=
 ⟨ne_of h S.dict (by intro z;cases z),ne_of h S.list (by intro z;cases z)⟩
theorem NetAt.keep {H H':Hp} {d c:Addr} {t:Int} {ns:List Int} (S:StAt H d c t ns) {a:Addr} {net:List (List Int)} (h:NetAt H a net) (k:Keep d c H H'):NetAt H' a net:=by
 obtain ⟨rs,h1,h2⟩:=h
 exact ⟨rs,k _ _ h1 (S.tup h1).1 (S.tup h1).2,h2.keep (fun r zs e=>S.tup e) k⟩
theorem NetAt.len {H:Hp} {rs:List Addr} {net:List (List Int)} (h:NetL H rs net):rs.length=net.length:=Paired.length h
def WFn (net:List (List Int)):Prop:=∀ (i:Nat) zs,net[i]?=some zs→Rise (i:Int) zs
theorem WFn.snoc {net:List (List Int)} {zs:List Int} (h:WFn net) (hz:Rise (net.length:Int) zs):WFn (net++[zs]):=by
 intro i ys e
 rcases Nat.lt_trichotomy i net.length with l | l | l
 ·rw [List.getElem?_append_left l] at e;exact h i ys e
 ·subst l
  simp at e
  subst e
  exact hz
 ·rw [List.getElem?_eq_none (by rw [List.length_append,List.length_singleton];lia)] at e
  cases e
theorem WFn.nil:WFn []:=fun i zs e=>by simp at e
theorem qBZ {α β:Type} {F:α→β→Prop} {a:α} {b:β} {l₁:List α} {l₂:List β} (h:Paired F l₁ l₂) (r:F a b):Paired F (l₁++[a]) (l₂++[b]):=Paired.snoc h r
def spNeeds:Sp:=fun vs H Q _=>∃ d c t ns k,vs=[.ref d,.int k]∧StAt H d c t ns∧t≤TB - 20∧0≤k∧k≤1000∧
 ∀ r zs t' ns' H',StAt H' d c t' ns'→t≤t'→t'≤t+9→Keep d c H H'→H' r=some (.tup (zs.map V.int))→Rise k zs→Q (.ref r) H'
def spNet:Sp:=fun vs H Q _=>∃ d c t ns m,vs=[.ref d,.int m]∧StAt H d c t ns∧t≤TB - 10000∧1≤m∧m≤400∧
 ∀ a net t' ns' H',StAt H' d c t' ns'→t≤t'→t'≤t+10 * m+10→Keep d c H H'→NetAt H' a net→WFn net→(net.length:Int)=m→Q (.ref a) H'
def spTree:Sp:=fun vs H Q _=>∃ d c t ns m,vs=[.ref d,.int m]∧StAt H d c t ns∧t≤TB - 1000∧1≤m∧m≤400∧
 ∀ a net t' ns' H',StAt H' d c t' ns'→t≤t'→t'≤t+m→Keep d c H H'→NetAt H' a net→WFn net→(net.length:Int)=m→Q (.ref a) H'
theorem pick2 {a b k:Int} (h0:0≤k) (h1:k<4):∃ v,atI [V.int a,V.int b] (k / 3)=some (.int v)∧(v=a∨v=b):=by
 rcases (by lia:k=0∨k=1∨k=2∨k=3) with rfl | rfl | rfl | rfl
 ·exact ⟨a,rfl,.inl rfl⟩
 ·exact ⟨a,rfl,.inl rfl⟩
 ·exact ⟨a,rfl,.inl rfl⟩
 ·exact ⟨b,rfl,.inr rfl⟩
theorem pick6 {k:Int} (h0:0≤k) (h1:k<6):∃ v,atI [V.int 0,V.int 0,V.int 1,V.int 2,V.int 2,V.int 3] k=some (.int v)∧0≤v∧v≤3:=by
 rcases (by lia:k=0∨k=1∨k=2∨k=3∨k=4∨k=5) with rfl | rfl | rfl | rfl | rfl | rfl
 all_goals exact ⟨_,rfl,by decide,by decide⟩
theorem qCO {H Hc:Hp} {p:Addr} {o:HO} (h:Same H Hc) (hp:H p=none):Same H (upd Hc p o):=fun b u e=>by rw [qA7 (qA2 e hp)];exact h b u e
theorem keep_put {d c:Addr} {H Hc:Hp} {p:Addr} {o:HO} (h:Keep d c H Hc) (hp:H p=none):Keep d c H (upd Hc p o):=fun b u e n1 n2=>by rw [qA7 (qA2 e hp)];exact h b u e n1 n2
theorem qCU {H:Hp} {p:Addr} {xs:List V} {o:HO} {rs:List Addr} {net:List (List Int)} (h:NetL H rs net) (hp:H p=some (.lst xs)):NetL (upd H p o) rs net:=
 h.same fun r zs e=>by rw [qA7 (ne_of e hp (by intro z;cases z))];exact e
theorem qCB (rs:List Addr) (r:Addr):rs.map V.ref++[V.ref r]=(rs++[r]).map V.ref:=by rw [List.map_append];rfl
theorem rep_b (b:Bool) (x:Int):(List.replicate (if b=true then (1:Int) else 0).toNat [V.int x]).flatten=(if b=true then [x] else []).map V.int:=by cases b <;> rfl
theorem paired_get {α β:Type} {F:α→β→Prop}:∀ {l₁:List α} {l₂:List β} {i:Nat} {a:α},Paired F l₁ l₂→l₁[i]?=some a→∃ b,l₂[i]?=some b∧F a b
 | _,_,_,_,.nil,e=>by simp at e
 | _,_,0,_,.cons r _,e=>by simp at e;subst e;exact ⟨_,rfl,r⟩
 | _,_,i+1,a,.cons _ t,e=>by
  obtain ⟨b,h1,h2⟩:=paired_get (i:=i) (a:=a) t (by simpa using e)
  exact ⟨b,by simpa using h1,h2⟩
theorem qB2 {α β:Type} {F G:α→β→Prop} {l₁:List α} {l₂:List β} (h:Paired F l₁ l₂) (k:∀ a b,F a b→G a b):Paired G l₁ l₂:=by
 induction h with
 | nil=>exact .nil
 | cons r t ih=>exact .cons (k _ _ r) ih
theorem get_ref {rs:List Addr} {i:Nat} {x:V} (h:(rs.map V.ref)[i]?=some x):∃ r,rs[i]?=some r∧x=.ref r:=by
 rw [List.getElem?_map] at h
 cases e:rs[i]? with
 | none=>rw [e] at h;cases h
 | some r=>rw [e] at h;exact ⟨r,rfl,(Option.some.inj h).symm⟩
theorem get_int {zs:List Int} {i:Nat} {x:V} (h:(zs.map V.int)[i]?=some x):∃ z,zs[i]?=some z∧x=.int z:=by
 rw [List.getElem?_map] at h
 cases e:zs[i]? with
 | none=>rw [e] at h;cases h
 | some r=>rw [e] at h;exact ⟨r,rfl,(Option.some.inj h).symm⟩
theorem snoc_get {α:Type} {l:List α} {a b:α} {j:Nat} (h:(l++[a])[j]?=some b):l[j]?=some b∨(j=l.length∧b=a):=by
 rcases Nat.lt_trichotomy j l.length with z | z | z
 ·rw [List.getElem?_append_left z] at h;exact .inl h
 ·subst z
  simp at h
  exact .inr ⟨rfl,h.symm⟩
 ·rw [List.getElem?_eq_none (by rw [List.length_append,List.length_singleton];lia)] at h
  cases h
noncomputable def wordDo (ns st:List Int) (rooms wk:Int):V:=if wk ∈ st then .str "there" else if ∀ x ∈ ns,x ∈ st then (if rooms≤(st.length:Int) then .str "full" else .non) else .str "needs"
noncomputable def wordClear (st:List Int) (wk:Int):V:=if wk ∈ st then .non else .str "empty"
noncomputable def wordOf (ns st:List Int) (rooms:Int) (word:Str) (wk:Int):V:=if word = "do" then wordDo ns st rooms wk else wordClear st wk
theorem get_at {xs:List V} {i:Int} {x:V} (h0:0≤i) (h:xs[i.toNat]?=some x):atI xs i=some x:=by
 have e:i=((i.toNat:Nat):Int):=by lia
 rw [e]
 exact qAN (by simpa using h)
theorem bt_zip:bootBuiltins "zip" = some (.type "zip"):=by decide +kernel
def seqO (b:Bool) (xs:List V):HO:=match b with | true=>.tup xs | false=>.lst xs
theorem SqB.of {b:Bool} {K:PySem.W.Frag} {H:Hp} {a:Addr} {xs:List V} (h:H a=some (seqO b xs)):SqB b K H a xs:=by
 cases b
 ·exact SqL.of h
 ·exact SqT.of h
section
variable {K:PySem.W.Frag}
theorem kit_il:PySem.W.kitOne K (.type "int") (.type "list")=some false:=by rfl
theorem kit_it:PySem.W.kitOne K (.type "int") (.type "tuple")=some false:=by rfl
theorem kit_is:PySem.W.kitOne K (.type "int") (.type "str")=some false:=by rfl
theorem kit_ii:PySem.W.kitOne K (.type "int") (.type "int")=some true:=by rfl
theorem kit_ib:PySem.W.kitOne K (.type "int") (.type "bool")=some false:=by rfl
end
theorem filter_snoc {α:Type} {p:α→Bool} {l:List α} {i:Nat} {x:α} (h:l[i]?=some x):(l.take (i+1)).filter p=(l.take i).filter p++(if p x then [x] else []):=by
 rw [List.take_add_one,h,Option.toList_some,List.filter_append]
 by_cases hp:p x=true
 ·simp [hp]
 ·simp [hp]
abbrev MovL (H:Hp):List Addr→List (Str × Int)→Prop:=Paired fun r m=>H r=some (.tup [.str m.1,.int m.2])
noncomputable def wd (net:List (List Int)) (st:List Int) (rooms:Int) (m:Str × Int):V:=wordOf ((net[m.2.toNat]?).getD []) st rooms m.1 m.2
structure Cnt (n:Nat) (cs:List Int) (seen:List Int):Prop where
 len:cs.length=n
 at_:∀ x:Nat,x<n→∃ c,cs[x]?=some c∧0≤c∧(c=0 ↔ (x:Int) ∉ seen)
inductive Nd (net:List (List Int)) (asked:List Int):Int→Prop
 | ask {x:Int}:x ∈ asked→Nd net asked x
 | need {w y:Int} {zs:List Int}:Nd net asked w→net[w.toNat]?=some zs→y ∈ zs→Nd net asked y
structure KeysI (kvs:List (Key × V)) (ks:List Int):Prop where
 keys:kvs.map (·.1)=ks.map Sum.inl
 nd:ks.Nodup
structure Fnd (net:List (List Int)) (asked ks:List Int) (j:Int):Prop where
 in_:∀ x ∈ ks,(0≤x∧x<(net.length:Int))∧Nd net asked x
 ask:∀ x ∈ asked,x ∈ ks
 clo:∀ (w:Nat) zs,j≤(w:Int)→(w:Int) ∈ ks→net[w]?=some zs→∀ y ∈ zs,y ∈ ks
abbrev Mv:=Str × Int
def nd (net:List (List Int)) (w:Int):List Int:=(net[w.toNat]?).getD []
def later (net:List (List Int)) (zs:List Int) (j:Nat) (x:Int):Prop:=∃ v ∈ zs.drop j,x ∈ nd net v
instance (net:List (List Int)) (zs:List Int) (j:Nat) (x:Int):Decidable (later net zs j x):=by unfold later;infer_instance
inductive Run (net:List (List Int)) (rooms:Int):List Int→List Mv→List Int→Prop
 | nil {s:List Int}:Run net rooms s [] s
 | do_ {s s' t:List Int} {w:Int} {ms:List Mv}:w ∉ s→(∀ y ∈ nd net w,y ∈ s)→(s.length:Int)<rooms→s'.Perm (s++[w])→s'.Pairwise (·<·)→Run net rooms s' ms t→Run net rooms s (("do",w)::ms) t
 | clear {s t:List Int} {w:Int} {ms:List Mv}:w ∈ s→Run net rooms (s.filter fun x=>decide (x ≠ w)) ms t→Run net rooms s (("clear",w)::ms) t
section
variable {net:List (List Int)} {asked zs:List Int}
end
def PlanAt (H:Hp) (l:Addr) (ms:List Mv):Prop:=∃ rs:List Addr,H l=some (.lst (rs.map V.ref))∧MovL H rs ms
theorem bt_ValueError:bootBuiltins "ValueError" = some (.type "ValueError"):=by decide +kernel
theorem passN {P:Program} {w:World} {X:Cx}:Passes (CX1 P w) X E0:=by
 rintro _ _ _ _ _ _ _ ⟨e,cls,dd,H',B,nt,_,_,_,_,z⟩
 exact z.elim
theorem upd_norm {H:Hp} {x dx:Addr} {o o' u:HO} (h:dx ≠ x):upd (upd (upd H x o) dx u) x o'=upd (upd H dx u) x o':=by
 funext b
 unfold upd
 by_cases h1:b=x
 ·simp [h1]
 ·simp [h1]
def Beh (st st':List Int) (word:Str) (wk:Int):Prop:=(word = "do"→st'.Perm (st++[wk])∧st'.Pairwise (·≤·))∧(word = "clear"→st'=st.filter fun x=>decide (x ≠ wk))
theorem kit_self {K:PySem.W.Frag} {C:Addr}:PySem.W.kitOne K (.ref C) (.ref C)=some true:=by
 unfold PySem.W.kitOne
 rw [if_pos (by simp)]
inductive Play (net:List (List Int)) (rooms:Int):List Int→List Mv→List (List Int)→V→Prop
 | nil {st}:Play net rooms st [] [] .non
 | stop {st m ms w0}:wd net st rooms m=.str w0→Play net rooms st (m::ms) [] (.str w0)
 | go {st st' m ms sts v}:wd net st rooms m=.non→Beh st st' m.1 m.2→Play net rooms st' ms sts v→Play net rooms st (m::ms) (st'::sts) v
def MvOk (net:List (List Int)) (ms:List Mv):Prop:=∀ m ∈ ms,(m.1 = "do"∨m.1 = "clear")∧0≤m.2∧m.2<(net.length:Int)
def StandsAt (H:Hp) (l:Addr) (sts:List (List Int)):Prop:=∃ rs:List Addr,H l=some (.lst (rs.map V.ref))∧NetL H rs sts
structure YNa (K:PySem.W.Frag) (C:Addr):Prop where
 net:NoAttr K C "net"
 rooms:NoAttr K C "rooms"
 made:NoAttr K C "made"
 stands:NoAttr K C "stands"
noncomputable def yfs (a:Addr) (rooms:Int) (lm ls:Addr):List (Str × V):=putF "stands" (.ref ls) (putF "made" (.ref lm) (putF "rooms" (.int rooms) (putF "net" (.ref a) [])))
structure YardAt (C:Addr) (H:Hp) (y a lm ls:Addr) (net:List (List Int)) (rooms:Int) (ms:List Mv) (sts:List (List Int)):Prop where
 obj:∃ dx,H y=some (.ins C dx (yfs a rooms lm ls))
 nat:NetAt H a net
 wf:WFn net
 n400:net.length≤400
 r0:0≤rooms
 r62:rooms≤62
 made:PlanAt H lm ms
 ok:MvOk net ms
 len:ms.length≤10000
 stands:StandsAt H ls ([]::sts)
 play:Play net rooms [] ms sts .non
 ne:lm ≠ ls
def KeepL (xs:List Addr) (H H':Hp):Prop:=∀ b o,H b=some o→b ∉ xs→H' b=some o
theorem KeepL.of_same {xs:List Addr} {H H':Hp} (h:Same H H'):KeepL xs H H':=fun b o e _=>h b o e
theorem KeepL.trans {xs:List Addr} {H H1 H2:Hp} (a:KeepL xs H H1) (b:KeepL xs H1 H2):KeepL xs H H2:=fun x o h n=>b x o (a x o h n) n
theorem qB8 {xs:List Addr} {H:Hp} {p:Addr} {o:HO} (h:p ∈ xs):KeepL xs H (upd H p o):=fun b u e n=>by
 rw [qA7 (show b ≠ p from fun z=>n (by rw [z];exact h))]
 exact e
def signIn (lo hi c:Nat):Bool:=decide (lo≤c) && decide (c≤hi)
def isNm (x:Str):Bool:=decide (x.length≤8) && x.cps.toList.all (signIn 97 122)
def asc (x:Str):Bool:=x.cps.toList.all (signIn 32 126)
theorem le_sign {a b:Nat}:(!(decide (([b]:List Nat)<[a])))=decide (a≤b):=by
 by_cases h:a≤b
 ·rw [decide_eq_true h,decide_eq_false]
  ·rfl
  ·intro z
   cases z with
   | rel z=>exact absurd (show b<a from z) (by lia)
   | cons z=>cases z
 ·rw [decide_eq_false h,decide_eq_true (show ([b]:List Nat)<[a] from List.Lex.rel (show b<a by lia))]
  rfl
def nmF:Nat→List Str→Str→Option Int
 | _,[],_=>none
 | k,x::r,w=>if x=w then some (k:Int) else nmF (k+1) r w
def numD:Nat→List Str→List (Key × V)
 | _,[]=>[]
 | k,x::r=>(Sum.inr x,.int (k:Int))::numD (k+1) r
theorem numD_len:∀ (k:Nat) (ns:List Str),(numD k ns).length=ns.length
 | _,[]=>rfl
 | k,x::r=>by unfold numD;rw [List.length_cons,List.length_cons,numD_len]
theorem numD_keys:∀ (k:Nat) (ns:List Str),(numD k ns).map (fun p=>kV p.1)=ns.map V.str
 | _,[]=>rfl
 | k,x::r=>by unfold numD;rw [List.map_cons,List.map_cons,numD_keys];rfl
theorem numD_val:∀ (k:Nat) (ns:List Str) (w:Str),valV (numD k ns) (Sum.inr w)=(nmF k ns w).map V.int
 | _,[],_=>rfl
 | k,x::r,w=>by
  unfold numD nmF
  by_cases e:x=w
  ·rw [qCN (by rw [e]),if_pos e];rfl
  ·rw [valV_neg (fun z=>e (Sum.inr.inj z)),if_neg e,numD_val]
theorem nmF_none:∀ {k:Nat} {ns:List Str} {w:Str},nmF k ns w=none ↔ w ∉ ns
 | _,[],_=>by simp [nmF]
 | k,x::r,w=>by
  unfold nmF
  by_cases e:x=w
  ·rw [if_pos e];simp [e]
  ·rw [if_neg e,nmF_none,List.mem_cons,not_or]
   exact ⟨fun h=>⟨fun z=>e z.symm,h⟩,fun h=>h.2⟩
theorem numD_put {k:Nat}:∀ {ns:List Str} {w:Str},w ∉ ns→putK (numD k ns) (Sum.inr w) (.int ((k+ns.length:Nat):Int))=numD k (ns++[w]):=by
 intro ns w h
 have e:numD k (ns++[w])=numD k ns++[(Sum.inr w,.int ((k+ns.length:Nat):Int))]:=by
  clear h
  induction ns generalizing k with
  | nil=>rfl
  | cons x r ih=>
   show (Sum.inr x,V.int k)::numD (k+1) (r++[w])=(Sum.inr x,V.int k)::(numD (k+1) r++_)
   rw [ih,show k+1+r.length=k+(x::r).length by rw [List.length_cons];lia]
 rw [e]
 unfold putK
 rw [if_neg]
 rw [valV_any,numD_val,nmF_none.mpr h]
 decide
def wkF (ns ws:List Str):Option (List Int):=if (∀ x ∈ ws,(nmF 0 ns x).isSome=true)∧(ws.filterMap (nmF 0 ns)).Nodup then some (ws.filterMap (nmF 0 ns)) else none
def askF (ns ws:List Str):Option (List Int):=if 1≤ws.length∧ws.length≤4 then wkF ns ws else none
def rmF (x:Str):Option Int:=if Txt.isdigit x=true∧¬ x.cps[0]?=some 48 then (match intText? x with | some n=>if n > 99 then none else some n | none=>none) else none
def DgOk (x:Str):Prop:=x.length≤200∧(Txt.isdigit x=true→(∃ n,intText? x=some n)∧∃ c,x.cps[0]?=some c)
inductive Dd where
 | al (w:Str) | on (w:Str) (n:Int) | so (w:Str) (ks:List Int) | st (r:Int) (ks:List Int)
def aloneL:List Str:=["back","stand","moves","count"]
def oneL:List Str:=["do","clear","tree","cut"]
def someL:List Str:=["plain","few","stair"]
def stepsF (ns:List Str):List Str→Option Dd
 | _::x::r=>match rmF x,askF ns r with
  | some n,some ks=>some (.st n ks)
  | _,_=>none
 | _=>none
def oneF (ns:List Str) (w:Str):List Str→Option Dd
 | [x]=>(nmF 0 ns x).map (.on w)
 | _=>none
def deedF (ns:List Str):List Str→Option Dd
 | []=>none
 | w::r=>if w ∈ aloneL then (if r=[] then some (.al w) else none)
  else if w ∈ oneL then oneF ns w r
  else if w ∈ someL then (askF ns r).map (.so w)
  else if w = "steps" then stepsF ns (w::r) else none
def TupOf (H:Hp) (t:Addr) (ks:List Int):Prop:=∃ zs:List Int,H t=some (.tup (zs.map V.int))∧zs.Perm ks∧zs.Pairwise (·≤·)
theorem TupOf.imp {H H':Hp} {t:Addr} {ks:List Int} (h:TupOf H t ks) (s:∀ b xs,H b=some (.tup xs)→H' b=some (.tup xs)):TupOf H' t ks:=by
 obtain ⟨zs,h1,h2⟩:=h
 exact ⟨zs,s _ _ h1,h2⟩
def RsN (H:Hp) (r:Option (List Int)) (v:V):Prop:=match r with
 | none=>v=.non
 | some ks=>∃ t,v=.ref t∧TupOf H t ks
def DeedAt (H:Hp) (v:V):Dd→Prop
 | .al w=>∃ p,v=.ref p∧H p=some (.tup [.str w])
 | .on w n=>∃ p,v=.ref p∧H p=some (.tup [.str w,.int n])
 | .so w ks=>∃ p t,v=.ref p∧H p=some (.tup [.str w,.ref t])∧TupOf H t ks
 | .st r ks=>∃ p t,v=.ref p∧H p=some (.tup [.str "steps",.int r,.ref t])∧TupOf H t ks
theorem DeedAt.imp {H H':Hp} {v:V} {d:Dd} (h:DeedAt H v d) (s:∀ b xs,H b=some (.tup xs)→H' b=some (.tup xs)):DeedAt H' v d:=by
 cases d with
 | al w=>obtain ⟨p,e,h⟩:=h;exact ⟨p,e,s _ _ h⟩
 | on w n=>obtain ⟨p,e,h⟩:=h;exact ⟨p,e,s _ _ h⟩
 | so w ks=>obtain ⟨p,t,e,h,g⟩:=h;exact ⟨p,t,e,s _ _ h,g.imp s⟩
 | st r ks=>obtain ⟨p,t,e,h,g⟩:=h;exact ⟨p,t,e,s _ _ h,g.imp s⟩
def RsD (H:Hp) (r:Option Dd) (v:V):Prop:=match r with
 | none=>v=.non
 | some d=>DeedAt H v d
def optV:Option Int→V
 | none=>.non
 | some n=>.int n
def spIsNm:Sp:=fun vs H Q _=>∃ x:Str,vs=[.str x]∧x.length≤100000∧∀ H',Same H H'→Q (.bl (isNm x)) H'
def spRmIn:Sp:=fun vs H Q _=>∃ x:Str,vs=[.str x]∧DgOk x∧Q (optV (rmF x)) H
def spWksN:Sp:=fun vs H Q _=>∃ (p d:Addr) (ws ns:List Str),vs=[.ref p,.ref d]∧H p=some (.lst (ws.map V.str))∧H d=some (.dK (numD 0 ns))∧ws.length≤300∧ns.length≤40∧∀ v H',Same H H'→RsN H' (wkF ns ws) v→Q v H'
def spAskN:Sp:=fun vs H Q _=>∃ (p d:Addr) (ws ns:List Str),vs=[.ref p,.ref d]∧H p=some (.lst (ws.map V.str))∧H d=some (.dK (numD 0 ns))∧ws.length≤300∧ns.length≤40∧∀ v H',Same H H'→RsN H' (askF ns ws) v→Q v H'
def spStpN:Sp:=fun vs H Q _=>∃ (p d:Addr) (ws ns:List Str),vs=[.ref p,.ref d]∧H p=some (.lst (ws.map V.str))∧H d=some (.dK (numD 0 ns))∧ws.length≤300∧ns.length≤40∧(∀ x ∈ ws,DgOk x)∧∀ v H',Same H H'→RsD H' (stepsF ns ws) v→Q v H'
def spDeedN:Sp:=fun vs H Q _=>∃ (p d:Addr) (ws ns:List Str),vs=[.ref p,.ref d]∧H p=some (.lst (ws.map V.str))∧H d=some (.dK (numD 0 ns))∧ws.length≤300∧ns.length≤40∧(∀ x ∈ ws,DgOk x)∧ws ≠ []∧
 ∀ v H',Same H H'→RsD H' (deedF ns ws) v→Q v H'
structure Sh where
 rooms:Option Int
 names:List Str
 net:List (List Int)
 deeds:List Dd
def roomsT (s:Sh):List Str→Option Sh
 | [a,b]=>if a = "rooms" then (rmF b).map fun n=>{ s with rooms:=some n } else none
 | _=>none
def workT (s:Sh):List Str→Option Sh
 | _::x::r=>if s.deeds.isEmpty=false∨s.net.length=40∨isNm x=false∨x ∈ s.names then none else (wkF s.names r).map fun ks=>{ s with names:=s.names++[x],net:=s.net++[ks] }
 | _=>none
def deedT (s:Sh) (ws:List Str):Option Sh:=if s.net.isEmpty=true then none else (deedF s.names ws).map fun d=>{ s with deeds:=s.deeds++[d] }
def wordsT (s:Sh) (ws:List Str):Option Sh:=if s.rooms=none then roomsT s ws else if ws.head?=some (Str.ofString "work") then workT s ws else deedT s ws
def rowT (s:Sh) (row:Str):Option Sh:=if row = "" then some s else if row.length≤200∧asc row=true then (if ("" : Str) ∈ Txt.split row " " then none else wordsT s (Txt.split row " ")) else none
def sfs (r:V) (a b c:Addr):List (Str × V):=putF "deeds" (.ref c) (putF "net" (.ref b) (putF "numbers" (.ref a) (putF "rooms" r [])))
theorem sf_deeds {r:V} {a b c:Addr}:(sfs r a b c).lookup (Str.ofString "deeds")=some (.ref c):=by unfold sfs;rw [qAC,if_pos rfl]
theorem sf_net {r:V} {a b c:Addr}:(sfs r a b c).lookup (Str.ofString "net")=some (.ref b):=by unfold sfs;rw [qAC,if_neg (by decide +kernel),qAC,if_pos rfl]
theorem qC4 {r:V} {a b c:Addr}:(sfs r a b c).lookup (Str.ofString "numbers")=some (.ref a):=by unfold sfs;rw [qAC,if_neg (by decide +kernel),qAC,if_neg (by decide +kernel),qAC,if_pos rfl]
theorem sf_rooms {r:V} {a b c:Addr}:(sfs r a b c).lookup (Str.ofString "rooms")=some r:=by unfold sfs;rw [qAC,if_neg (by decide +kernel),qAC,if_neg (by decide +kernel),qAC,if_neg (by decide +kernel),qAC,if_pos rfl]
theorem s4:(Str.ofString "rooms" = Str.ofString "numbers")=False∧(Str.ofString "rooms" = Str.ofString "net")=False∧(Str.ofString "rooms" = Str.ofString "deeds")=False∧(Str.ofString "numbers" = Str.ofString "net")=False∧(Str.ofString "numbers" = Str.ofString "deeds")=False∧(Str.ofString "net" = Str.ofString "deeds")=False:=by
 refine ⟨?_,?_,?_,?_,?_,?_⟩ <;> exact eq_false (by decide +kernel)
theorem sf_flat (r:V) (a b c:Addr):sfs r a b c=[((Str.ofString "rooms"),r),(Str.ofString "numbers",.ref a),(Str.ofString "net",.ref b),(Str.ofString "deeds",.ref c)]:=by
 obtain ⟨e1,e2,e3,e4,e5,e6⟩:=s4
 unfold sfs
 simp [putF,e1,e2,e3,e4,e5,e6]
theorem sf_put (r u:V) (a b c:Addr):putF "rooms" u (sfs r a b c)=sfs u a b c:=by rw [sf_flat,sf_flat];simp [putF]
theorem sf_len (r:V) (a b c:Addr):(sfs r a b c).length=4:=by rw [sf_flat];rfl
structure SNa (K:PySem.W.Frag) (C:Addr):Prop where
 rooms:NoAttr K C "rooms"
 numbers:NoAttr K C "numbers"
 net:NoAttr K C "net"
 deeds:NoAttr K C "deeds"
structure ShAt (C:Addr) (H:Hp) (y dx a b c:Addr) (s:Sh):Prop where
 obj:H y=some (.ins C dx (sfs (optV s.rooms) a b c))
 num:H a=some (.dK (numD 0 s.names))
 net:∃ rs:List Addr,H b=some (.lst (rs.map V.ref))∧Paired (TupOf H) rs s.net
 deeds:∃ vs:List V,H c=some (.lst vs)∧Paired (DeedAt H) vs s.deeds
 ne:b ≠ c
 nl:s.names.length=s.net.length
 n40:s.net.length≤40
theorem ShAt.next {C:Addr} {H H':Hp} {y dx a b c:Addr} {s:Sh} (S:ShAt C H y dx a b c s) (k:Same H H'):ShAt C H' y dx a b c s:=by
 obtain ⟨rs,h1,h2⟩:=S.net
 obtain ⟨vs,h3,h4⟩:=S.deeds
 exact ⟨k _ _ S.obj,k _ _ S.num,⟨rs,k _ _ h1,qB2 h2 fun _ _ z=>z.imp fun b xs=>k b _⟩,⟨vs,k _ _ h3,qB2 h4 fun _ _ z=>z.imp fun b xs=>k b _⟩,S.ne,S.nl,S.n40⟩
abbrev SEnd (C:Addr) (H:Hp) (y dx a b c:Addr) (s:Sh) (r:Option Sh) (Q:VK):Prop:=∀ H',KeepL [y,a,b,c] H H'→ShAt C H' y dx a b c (r.getD s)→Q (.bl r.isSome) H'
def spSInit (C:Addr):Sp:=fun vs H Q _=>∃ (y dx:Addr),vs=[.ref y]∧H y=some (.ins C dx [])∧∀ a b c H',KeepL [y] H H'→H a=none→H b=none→H c=none→ShAt C H' y dx a b c ⟨none,[],[],[]⟩→Q .non H'
def spTRooms (C:Addr):Sp:=fun vs H Q _=>∃ (y dx a b c p:Addr) (s:Sh) (ws:List Str),vs=[.ref y,.ref p]∧ShAt C H y dx a b c s∧H p=some (.lst (ws.map V.str))∧(∀ x ∈ ws,DgOk x)∧s.rooms=none∧SEnd C H y dx a b c s (roomsT s ws) Q
def spTWork (C:Addr):Sp:=fun vs H Q _=>∃ (y dx a b c p:Addr) (s:Sh) (ws:List Str),vs=[.ref y,.ref p]∧ShAt C H y dx a b c s∧H p=some (.lst (ws.map V.str))∧(∀ x ∈ ws,DgOk x)∧ws.length≤300∧SEnd C H y dx a b c s (workT s ws) Q
def spTDeed (C:Addr):Sp:=fun vs H Q _=>∃ (y dx a b c p:Addr) (s:Sh) (ws:List Str),vs=[.ref y,.ref p]∧ShAt C H y dx a b c s∧H p=some (.lst (ws.map V.str))∧(∀ x ∈ ws,DgOk x)∧ws ≠ []∧ws.length≤300∧s.deeds.length≤1000∧SEnd C H y dx a b c s (deedT s ws) Q
def spTWords (C:Addr):Sp:=fun vs H Q _=>∃ (y dx a b c p:Addr) (s:Sh) (ws:List Str),vs=[.ref y,.ref p]∧ShAt C H y dx a b c s∧H p=some (.lst (ws.map V.str))∧(∀ x ∈ ws,DgOk x)∧ws ≠ []∧ws.length≤300∧s.deeds.length≤1000∧SEnd C H y dx a b c s (wordsT s ws) Q
def spTRow (C:Addr):Sp:=fun vs H Q _=>∃ (y dx a b c:Addr) (s:Sh) (row:Str),vs=[.ref y,.str row]∧ShAt C H y dx a b c s∧row.length≤100000∧s.deeds.length≤1000∧SEnd C H y dx a b c s (rowT s row) Q
theorem signs_snoc {z:Str} {lo hi i c:Nat} (h:z.cps[i]?=some c):((z.cps.toList.take i).map (signIn lo hi)).map V.bl++[V.bl (signIn lo hi c)]=((z.cps.toList.take (i+1)).map (signIn lo hi)).map V.bl:=by
 rw [List.take_add_one,Array.getElem?_toList,h,Option.toList_some,List.map_append,List.map_append]
 rfl
theorem signs_all {z:Str} {lo hi:Nat}:((z.cps.toList.take z.length).map (signIn lo hi)).all id=z.cps.toList.all (signIn lo hi):=by
 rw [List.take_of_length_le (by rw [Array.length_toList];exact Nat.le_refl _),List.all_map]
 rfl
theorem signs_len {z:Str} {lo hi i:Nat}:(((z.cps.toList.take i).map (signIn lo hi)).map V.bl).length≤z.length:=by
 rw [List.length_map,List.length_map,List.length_take,Array.length_toList]
 exact Nat.min_le_right _ _
theorem sign_ne {c:Nat}:decide (V.str (⟨#[c]⟩:Str)=V.str (Str.ofString "0"))=decide (c=48):=by
 have e:Str.ofString "0" = (⟨#[48]⟩:Str):=by decide
 rw [e]
 by_cases h:c=48
 ·subst h;simp
 ·simp [h]
theorem ded_allT:∀ (l zs:List Int),(l.foldl addI zs).length=zs.length+l.length ↔ l.Nodup∧∀ x ∈ l,x ∉ zs
 | [],zs=>by simp
 | k::l,zs=>by
  show (l.foldl addI (addI zs k)).length=zs.length+(l.length+1) ↔ _
  by_cases c:k ∈ zs
  ·have e:addI zs k=zs:=by unfold addI;rw [if_pos c]
   rw [e]
   have:=qB9 l zs
   exact ⟨fun h=>by lia,fun h=>absurd c (h.2 k List.mem_cons_self)⟩
  ·have e:addI zs k=zs++[k]:=by unfold addI;rw [if_neg c]
   have ih:=ded_allT l (zs++[k])
   rw [List.length_append,List.length_singleton] at ih
   rw [e,show zs.length+(l.length+1)=zs.length+1+l.length by lia,ih,List.nodup_cons]
   constructor
   ·rintro ⟨h1,h2⟩
    refine ⟨⟨fun z=>h2 k z (by simp),h1⟩,fun x hx=>?_⟩
    rcases List.mem_cons.mp hx with rfl | hx
    ·exact c
    ·exact fun z=>h2 x hx (List.mem_append_left _ z)
   ·rintro ⟨⟨h1,h2⟩,h3⟩
    refine ⟨h2,fun x hx z=>?_⟩
    rcases List.mem_append.mp z with z | z
    ·exact h3 x (List.mem_cons_of_mem _ hx) z
    ·exact h1 (List.mem_singleton.mp z ▸ hx)
theorem ded_len {l:List Int}:(dedI l).length=l.length ↔ l.Nodup:=by
 have:=ded_allT l []
 rw [List.length_nil,Nat.zero_add] at this
 show (l.foldl addI []).length=l.length ↔ _
 rw [this]
 exact ⟨fun h=>h.1,fun h=>⟨h,fun x _=>by simp⟩⟩
theorem fm_snoc {ws:List Str} {f:Str→Option Int} {i:Nat} {x:Str} (h:ws[i]?=some x):(ws.take (i+1)).filterMap f=(ws.take i).filterMap f++(f x).toList:=by
 rw [List.take_add_one,h,Option.toList_some,List.filterMap_append]
 cases e:f x with
 | none=>simp [e]
 | some v=>simp [e]
theorem fm_len {f:Str→Option Int}:∀ {ws:List Str},(ws.filterMap f).length≤ws.length∧((ws.filterMap f).length=ws.length ↔ ∀ x ∈ ws,(f x).isSome=true)
 | []=>by simp
 | x::ws=>by
  obtain ⟨h1,h2⟩:=fm_len (f:=f) (ws:=ws)
  cases e:f x with
  | none=>
   rw [List.filterMap_cons_none e]
   refine ⟨by rw [List.length_cons];lia,fun h=>?_,fun h=>?_⟩
   ·rw [List.length_cons] at h;lia
   ·have:=h x (List.mem_cons_self ..)
    rw [e] at this
    cases this
  | some v=>
   rw [List.filterMap_cons_some e,List.length_cons,List.length_cons]
   refine ⟨by lia,fun h=>?_,fun h=>?_⟩
   ·have h3:=h2.mp (by lia)
    intro y hy
    rcases List.mem_cons.mp hy with rfl | hy
    ·rw [e];rfl
    ·exact h3 y hy
   ·rw [h2.mpr fun y hy=>h y (List.mem_cons_of_mem _ hy)]
theorem nmF_lt:∀ {k:Nat} {ns:List Str} {w:Str} {n:Int},nmF k ns w=some n→(k:Int)≤n∧n<k+ns.length
 | _,[],_,_,h=>by cases h
 | k,x::r,w,n,h=>by
  unfold nmF at h
  rw [List.length_cons]
  split at h
  ·cases h;lia
  ·have:=nmF_lt h
   lia
theorem fm_few {ns ws:List Str} (h:(ws.filterMap (nmF 0 ns)).Nodup):(ws.filterMap (nmF 0 ns)).length≤ns.length:=by
 have sub:ws.filterMap (nmF 0 ns) ⊆ (List.range ns.length).map fun (i:Nat)=>(i:Int):=fun x hx=>by
  obtain ⟨y,_,e⟩:=List.mem_filterMap.mp hx
  have:=nmF_lt e
  exact List.mem_map.mpr ⟨x.toNat,List.mem_range.mpr (by lia),by lia⟩
 have:=List.Nodup.length_le_of_subset h sub
 simpa using this
theorem qBJ (a:Str) (zs:List Str):inV (.str a) (zs.map V.str)=decide (a ∈ zs):=by
 unfold inV
 induction zs with
 | nil=>simp
 | cons z r ih=>
  rw [List.map_cons,List.any_cons,ih]
  have e:eqV (.str z) (.str a)=decide (a=z):=by
   by_cases h:z=a
   ·subst h;simp [eqV]
   ·have h':¬ a=z:=fun q=>h q.symm
    have h2:¬ z.cps=a.cps:=fun q=>h (by cases z;cases a;simp_all)
    simp [eqV,h,h',h2]
  rw [e]
  simp [List.mem_cons]
theorem flat_strs (zs:List Str):(zs.map V.str).all flatV=true:=by
 rw [List.all_eq_true]
 intro x hx
 obtain ⟨z,_,rfl⟩:=List.mem_map.mp hx
 rfl
theorem qCD {xs:List Str} {k:Nat} (h:k≤xs.length):cutV (xs.map V.str) (some (k:Int)) none=(xs.drop k).map V.str:=by rw [qBQ,cutI_from _ _ h]
def lj (c:Nat):List (List Nat)→List Nat
 | []=>[]
 | [x]=>x
 | x::y::r=>x++c::lj c (y::r)
theorem str_ext {x y:Str} (h:x.cps.toList=y.cps.toList):x=y:=by
 cases x;cases y
 simp only [Array.toList_inj] at h
 rw [h]
theorem qCW (x y:Str):(x++y).cps.toList=x.cps.toList++y.cps.toList:=by
 show (x.cps++y.cps).toList=_
 simp
theorem qCJ (c:Nat):∀ ps:List Str,(Str.join ⟨#[c]⟩ ps).cps.toList=lj c (ps.map (·.cps.toList))
 | []=>rfl
 | [x]=>rfl
 | x::y::r=>by
  show (x++⟨#[c]⟩++Str.join ⟨#[c]⟩ (y::r)).cps.toList=x.cps.toList++c::lj c ((y::r).map (·.cps.toList))
  rw [qCW,qCW,qCJ c (y::r)]
  simp
theorem cut_at {c:Nat}:∀ {a b l1 l2:List Nat},c ∉ a→c ∉ b→a++c::l1=b++c::l2→a=b∧l1=l2
 | [],[],_,_,_,_,h=>⟨rfl,(List.cons.inj h).2⟩
 | [],y::b,_,_,_,hb,h=>absurd (List.cons.inj h).1 fun z=>hb (by rw [z];simp)
 | x::a,[],_,_,ha,_,h=>absurd (List.cons.inj h).1 fun z=>ha (by rw [z];simp)
 | x::a,y::b,l1,l2,ha,hb,h=>by
  obtain ⟨e1,e2⟩:=List.cons.inj h
  obtain ⟨h1,h2⟩:=cut_at (fun z=>ha (List.mem_cons_of_mem _ z)) (fun z=>hb (List.mem_cons_of_mem _ z)) e2
  exact ⟨by rw [e1,h1],h2⟩
theorem lj_inj {c:Nat}:∀ {A B:List (List Nat)},A ≠ []→B ≠ []→(∀ a ∈ A,c ∉ a)→(∀ b ∈ B,c ∉ b)→lj c A=lj c B→A=B
 | [],_,hA,_,_,_,_=>absurd rfl hA
 | _,[],_,hB,_,_,_=>absurd rfl hB
 | [a],[b],_,_,_,_,h=>by rw [show a=b from h]
 | [a],b::b'::B,_,_,h1,_,h=>absurd (show c ∈ a by rw [show a=b++c::lj c (b'::B) from h];simp) (h1 a (by simp))
 | a::a'::A,[b],_,_,_,h2,h=>absurd (show c ∈ b by rw [show b=a++c::lj c (a'::A) from h.symm];simp) (h2 b (by simp))
 | a::a'::A,b::b'::B,_,_,h1,h2,h=>by
  obtain ⟨e1,e2⟩:=cut_at (h1 a (by simp)) (h2 b (by simp)) h
  rw [e1,lj_inj (by simp) (by simp) (fun x hx=>h1 x (List.mem_cons_of_mem _ hx)) (fun x hx=>h2 x (List.mem_cons_of_mem _ hx)) e2]
theorem split_join {c:Nat} {ps:List Str} (h0:ps ≠ []) (h:∀ p ∈ ps,c ∉ p.cps.toList):Txt.split (Str.join ⟨#[c]⟩ ps) ⟨#[c]⟩=ps:=by
 have e:=StrLaws.join_split (Str.join ⟨#[c]⟩ ps) ⟨#[c]⟩
 have e2:=congrArg (fun x=>x.cps.toList) e
 simp only [qCJ] at e2
 have inj:∀ {A B:List Str},A.map (·.cps.toList)=B.map (·.cps.toList)→A=B:=by
  intro A
  induction A with
  | nil=>intro B h;cases B with
   | nil=>rfl
   | cons _ _=>cases h
  | cons a A ih=>intro B h;cases B with
   | nil=>cases h
   | cons b B=>
    rw [List.map_cons,List.map_cons] at h
    obtain ⟨h1,h2⟩:=List.cons.inj h
    rw [str_ext h1,ih h2]
 refine inj (lj_inj ?_ (by simpa using h0) (fun a ha=>?_) (fun a ha=>?_) e2)
 ·have:=PyProof.Rows.split_pos (Str.join ⟨#[c]⟩ ps) ⟨#[c]⟩
  intro z
  rw [List.map_eq_nil_iff] at z
  rw [z] at this
  cases this
 ·obtain ⟨p,hp,rfl⟩:=List.mem_map.mp ha
  exact StrLaws.split_free _ c p hp
 ·obtain ⟨p,hp,rfl⟩:=List.mem_map.mp ha
  exact h p hp
theorem mem_lj {c:Nat}:∀ {A:List (List Nat)} {a:List Nat} {x:Nat},a ∈ A→x ∈ a→x ∈ lj c A
 | [b],a,x,ha,hx=>by rw [List.mem_singleton.mp ha] at hx;exact hx
 | b::b'::B,a,x,ha,hx=>by
  show x ∈ b++c::lj c (b'::B)
  rcases List.mem_cons.mp ha with rfl | ha
  ·exact List.mem_append_left _ hx
  ·exact List.mem_append_right _ (List.mem_cons_of_mem _ (mem_lj ha hx))
theorem of_mem_lj {c:Nat}:∀ {A:List (List Nat)} {x:Nat},x ∈ lj c A→x=c∨∃ a ∈ A,x ∈ a
 | [b],x,h=>.inr ⟨b,by simp,h⟩
 | b::b'::B,x,h=>by
  rcases List.mem_append.mp (show x ∈ b++c::lj c (b'::B) from h) with h | h
  ·exact .inr ⟨b,by simp,h⟩
  ·rcases List.mem_cons.mp h with h | h
   ·exact .inl h
   ·rcases of_mem_lj h with h | ⟨a,ha,h⟩
    ·exact .inl h
    ·exact .inr ⟨a,List.mem_cons_of_mem _ ha,h⟩
theorem qCZ {c:Nat} {x p:Str} (h:p ∈ Txt.split x ⟨#[c]⟩):∀ k ∈ p.cps.toList,k ∈ x.cps.toList:=by
 intro k hk
 have e:=congrArg (fun x=>x.cps.toList) (StrLaws.join_split x ⟨#[c]⟩)
 simp only [qCJ] at e
 rw [← e]
 exact mem_lj (List.mem_map.mpr ⟨p,h,rfl⟩) hk
theorem digit_asc:∀ c:Nat,c<127→Unicode.isDigit c=true→48≤c∧c≤57:=by decide +kernel
theorem qC0:(" " : Str)=⟨#[32]⟩:=by decide
theorem dg_of {x:Str} (hl:x.length≤200) (h:∀ k ∈ x.cps.toList,k<127):DgOk x:=by
 refine ⟨hl,fun hd=>?_⟩
 unfold Txt.isdigit at hd
 rw [Bool.and_eq_true] at hd
 have l0:0<x.length:=of_decide_eq_true hd.1
 have ne:x.cps.toList ≠ []:=fun z=>by
  have:x.cps.toList.length=x.length:=Array.length_toList
  rw [z] at this
  rw [← this] at l0
  cases l0
 refine ⟨⟨_,intText_digits (fun c hc=>?_) ne (by lia)⟩,x.cps[0]'(l0),by rw [Array.getElem?_eq_getElem l0]⟩
 have h2:Unicode.isDigit c=true:=by
  have:=(Array.all_eq_true_iff_forall_mem.mp hd.2) c (by simpa using hc)
  exact this
 exact digit_asc c (h c hc) h2
theorem dg_words {row:Str} (hl:row.length≤200) (ha:asc row=true):∀ x ∈ Txt.split row " ",DgOk x:=by
 intro x hx
 rw [qC0] at hx
 refine dg_of (Nat.le_trans (PyProof.Rows.part_short hx) hl) fun k hk=>?_
 have:=List.all_eq_true.mp ha k (qCZ hx k hk)
 unfold signIn at this
 rw [Bool.and_eq_true] at this
 have:=of_decide_eq_true this.2
 lia
theorem paired_nil {α β:Type} {F:α→β→Prop} {l₁:List α} {l₂:List β} (h:Paired F l₁ l₂):l₁.isEmpty=l₂.isEmpty:=by cases h <;> rfl
theorem put_y {H:Hp} {y:Addr} {o o':HO} (hy:H y=some o):KeepL [y] H (upd H y o')∧(upd H y o') y=some o'∧∀ b,(upd H y o') b=none→H b=none:=
 ⟨qB8 (by simp),qA1,fun b z=>by
  by_cases e:b=y
  ·rw [e,qA1] at z;cases z
  ·rw [qA7 e] at z;exact z⟩
theorem ShAt.tups {C:Addr} {H H':Hp} {y dx a b c:Addr} {s:Sh} (S:ShAt C H y dx a b c s) (k:KeepL [y,a,b,c] H H'):∀ t xs,H t=some (.tup xs)→H' t=some (.tup xs):=by
 intro t xs h
 obtain ⟨rs,h1,_⟩:=S.net
 obtain ⟨vs,h2,_⟩:=S.deeds
 refine k t _ h fun z=>?_
 simp only [List.mem_cons,List.not_mem_nil,or_false] at z
 rcases z with rfl | rfl | rfl | rfl
 ·rw [S.obj] at h;cases h
 ·rw [S.num] at h;cases h
 ·rw [h1] at h;cases h
 ·rw [h2] at h;cases h
theorem ShAt.putR {C:Addr} {H:Hp} {y dx a b c:Addr} {s:Sh} (S:ShAt C H y dx a b c s) (r:Option Int):ShAt C (upd H y (.ins C dx (putF "rooms" (optV r) (sfs (optV s.rooms) a b c)))) y dx a b c { s with rooms:=r }:=by
 obtain ⟨rs,h1,h2⟩:=S.net
 obtain ⟨vs,h3,h4⟩:=S.deeds
 have tp:=S.tups (qB8 (H:=H) (p:=y) (o:=.ins C dx (putF "rooms" (optV r) (sfs (optV s.rooms) a b c))) (xs:=[y,a,b,c]) (by simp))
 refine ⟨by rw [qA1,sf_put],by rw [qA7 (ne_of S.num S.obj (by intro z;cases z))];exact S.num,⟨rs,by rw [qA7 (ne_of h1 S.obj (by intro z;cases z))];exact h1,qB2 h2 fun _ _ z=>z.imp tp⟩,⟨vs,by rw [qA7 (ne_of h3 S.obj (by intro z;cases z))];exact h3,qB2 h4 fun _ _ z=>z.imp tp⟩,S.ne,S.nl,S.n40⟩
theorem ShAt.putD {C:Addr} {H:Hp} {y dx a b c:Addr} {s:Sh} (S:ShAt C H y dx a b c s) {vs:List V} {v:V} {d:Dd} (h3:H c=some (.lst vs)) (h4:Paired (DeedAt H) vs s.deeds) (hd:DeedAt H v d):ShAt C (upd H c (.lst (vs++[v]))) y dx a b c { s with deeds:=s.deeds++[d] }:=by
 obtain ⟨rs,h1,h2⟩:=S.net
 have tp:=S.tups (qB8 (H:=H) (p:=c) (o:=.lst (vs++[v])) (xs:=[y,a,b,c]) (by simp))
 exact ⟨by rw [qA7 (ne_of S.obj h3 (by intro z;cases z))];exact S.obj,by rw [qA7 (ne_of S.num h3 (by intro z;cases z))];exact S.num,⟨rs,by rw [qA7 S.ne];exact h1,qB2 h2 fun _ _ z=>z.imp tp⟩,⟨_,qA1,Paired.snoc (qB2 h4 fun _ _ z=>z.imp tp) (hd.imp tp)⟩,S.ne,S.nl,S.n40⟩
theorem ShAt.putW {C:Addr} {H:Hp} {y dx a b c:Addr} {s:Sh} (S:ShAt C H y dx a b c s) {rs:List Addr} {t:Addr} {ks:List Int} {x:Str} (h1:H b=some (.lst (rs.map V.ref))) (h2:Paired (TupOf H) rs s.net) (ht:TupOf H t ks) (hl:s.net.length<40) :
  ShAt C (upd (upd H a (.dK (numD 0 (s.names++[x])))) b (.lst (rs.map V.ref++[V.ref t]))) y dx a b c { s with names:=s.names++[x],net:=s.net++[ks] }:=by
 obtain ⟨vs,h3,h4⟩:=S.deeds
 have nab:b ≠ a:=ne_of h1 S.num (by intro z;cases z)
 have tp:=S.tups (H':=upd (upd H a (.dK (numD 0 (s.names++[x])))) b (.lst (rs.map V.ref++[V.ref t]))) ((qB8 (by simp)).trans (qB8 (by simp)))
 have up:∀ {q o},H q=some o→q ≠ a→q ≠ b→(upd (upd H a (.dK (numD 0 (s.names++[x])))) b (.lst (rs.map V.ref++[V.ref t]))) q=some o:=fun h n1 n2=>by rw [qA7 n2,qA7 n1];exact h
 refine ⟨up S.obj (ne_of S.obj S.num (by intro z;cases z)) (ne_of S.obj h1 (by intro z;cases z)),by rw [qA7 nab.symm,qA1],⟨rs++[t],by rw [qA1,List.map_append];rfl,Paired.snoc (qB2 h2 fun _ _ z=>z.imp tp) (ht.imp tp)⟩,⟨vs,up h3 (ne_of h3 S.num (by intro z;cases z)) S.ne.symm,qB2 h4 fun _ _ z=>z.imp tp⟩,S.ne,?_,?_⟩
 ·rw [List.length_append,List.length_append,S.nl];rfl
 ·rw [List.length_append,List.length_singleton];lia
def foldT:Sh→List Str→Option Sh
 | s,[]=>some s
 | s,r::rs=>(rowT s r).bind fun s'=>foldT s' rs
theorem fold_snoc:∀ {rs:List Str} {s:Sh} {r:Str},foldT s (rs++[r])=(foldT s rs).bind fun s'=>rowT s' r
 | [],s,r=>by
  show (rowT s r).bind (fun s'=>some s')=rowT s r
  cases rowT s r <;> rfl
 | x::rs,s,r=>by
  show (rowT s x).bind (fun s'=>foldT s' (rs++[r]))=((rowT s x).bind fun s'=>foldT s' rs).bind fun s'=>rowT s' r
  cases rowT s x with
  | none=>rfl
  | some s'=>exact fold_snoc
abbrev sh0:Sh:=⟨none,[],[],[]⟩
theorem deeds_words {s s':Sh} {ws:List Str} (h:wordsT s ws=some s'):s'.deeds.length≤s.deeds.length+1:=by
 unfold wordsT at h
 split at h
 ·unfold roomsT at h
  split at h
  ·split at h
   ·obtain ⟨n,_,rfl⟩:=Option.map_eq_some_iff.mp h
    exact Nat.le_succ _
   ·cases h
  ·cases h
 ·split at h
  ·unfold workT at h
   split at h
   ·split at h
    ·cases h
    ·obtain ⟨n,_,rfl⟩:=Option.map_eq_some_iff.mp h
     exact Nat.le_succ _
   ·cases h
  ·unfold deedT at h
   split at h
   ·cases h
   ·obtain ⟨n,_,rfl⟩:=Option.map_eq_some_iff.mp h
    dsimp only
    rw [List.length_append]
    exact Nat.le_refl _
theorem deeds_row {s s':Sh} {r:Str} (h:rowT s r=some s'):s'.deeds.length≤s.deeds.length+1:=by
 unfold rowT at h
 split at h
 ·cases h;exact Nat.le_succ _
 ·split at h
  ·split at h
   ·cases h
   ·exact deeds_words h
  ·cases h
theorem deeds_fold:∀ {rs:List Str} {s s':Sh},foldT s rs=some s'→s'.deeds.length≤s.deeds.length+rs.length
 | [],s,s',h=>by cases h;exact Nat.le_refl _
 | x::rs,s,s',h=>by
  obtain ⟨s1,h1,h2⟩:=Option.bind_eq_some_iff.mp h
  have:=deeds_row h1
  have:=deeds_fold h2
  rw [List.length_cons]
  lia
def w16:List Str:=["do","rooms","work","clear","back","stand","moves","count","tree","cut","plain","few","steps","stair","abcdefgh","zzzzzzzz"]
theorem split16:Txt.split "do rooms work clear back stand moves count tree cut plain few steps stair abcdefgh zzzzzzzz" " " = w16:=by
 have e:Str.ofString "do rooms work clear back stand moves count tree cut plain few steps stair abcdefgh zzzzzzzz" = Str.join ⟨#[32]⟩ w16:=by decide +kernel
 rw [e,qC0]
 exact split_join (by decide) (by decide +kernel)
def lname (f k:Nat):Str:=Txt.mul ⟨#[97+(f+k) % 26]⟩ (1+((k / 26:Nat):Int))
structure NmOk (nm:List Str):Prop where
 nd:nm.Nodup
 ok:∀ x ∈ nm,isNm x=true∧0<x.length
 sum:(nm.map (·.length)).sum≤156
theorem qBB (x:Str):x.length=x.cps.toList.length:=(Array.length_toList).symm
def nmAt (nm:List Str) (z:Int):Str:=nm.getD z.toNat (Str.ofString "")
theorem nmAt_get {nm:List Str} {z:Int} (h0:0≤z) (h1:z<nm.length):nm[z.toNat]?=some (nmAt nm z):=by
 unfold nmAt
 rw [List.getD_eq_getElem?_getD,List.getElem?_eq_getElem (by lia)]
 rfl
theorem join_len {c:Nat}:∀ {ws:List Str},ws ≠ []→(Str.join ⟨#[c]⟩ ws).length+1=(ws.map (·.length)).sum+ws.length
 | [],h=>absurd rfl h
 | [x],_=>by simp [Str.join]
 | x::y::r,_=>by
  have ih:=join_len (c:=c) (ws:=y::r) (by simp)
  show (x++⟨#[c]⟩++Str.join ⟨#[c]⟩ (y::r)).length+1=_
  rw [qBB,qCW,qCW,List.length_append,List.length_append,← qBB,← qBB,← qBB,List.map_cons,List.sum_cons,List.length_cons]
  have:(⟨#[c]⟩:Str).length=1:=rfl
  lia
theorem steps_alone:Str.ofString "steps" ∉ aloneL∧Str.ofString "steps" ∉ oneL∧Str.ofString "steps" ∉ someL:=by decide +kernel
section
variable {nm:List Str}
def wrow (nm:List Str) (k:Nat) (qs:List Int):Str:=Str.join (Str.ofString " ") (Str.ofString "work" :: nmAt nm (k:Int)::qs.map (nmAt nm))
def wr (nm:List Str):Nat→List (List Int)→List Str
 | _,[]=>[]
 | k,q::r=>wrow nm k q::wr nm (k+1) r
def hrow (r:Int):Str:=Str.ofString "rooms " ++ Str.ofString (toString r)
end
def spMixed (K:PySem.W.Frag):Sp:=fun vs H Q _=>∃ (d c:Addr) (t:Int) (ns:List Int) (p:Addr) (xs:List V),vs=[.ref d,.ref p]∧StAt H d c t ns∧t≤TB - 1000∧(SqL K H p xs∨SqT K H p xs)∧xs.length≤60∧
 ∀ l ys t' ns' H',StAt H' d c t' ns'→t≤t'→t'≤t+60→Keep d c H H'→H l=none→H' l=some (.lst ys)→ys.Perm xs→Q (.ref l) H'
theorem alpha_at {i:Int} (h0:0≤i) (h1:i<26):atI (Str.ofString "abcdefghijklmnopqrstuvwxyz").cps.toList i=some (97+i.toNat):=by
 have key:∀ k:Nat,k<26→(Str.ofString "abcdefghijklmnopqrstuvwxyz").cps.toList[k]?=some (97+k):=by decide +kernel
 have:=qAN (j:=i.toNat) (key i.toNat (by lia))
 rw [show ((i.toNat:Nat):Int)=i by lia] at this
 exact this
theorem alpha_len:(Str.ofString "abcdefghijklmnopqrstuvwxyz").length≤sizeLine:=by rw [sizeLine_eq];decide +kernel
theorem perm_erase {α:Type} {xs:List α} {k:Nat} {y:α} (h:xs[k]?=some y):(y::xs.eraseIdx k).Perm xs:=by
 induction xs generalizing k with
 | nil=>simp at h
 | cons a xs ih=>
  cases k with
  | zero=>cases h;exact .refl _
  | succ k=>exact (List.Perm.swap a y _).trans ((ih (by simpa using h)).cons a)
theorem seq_nat {i:Int} {n:Nat} (h0:0≤i) (h1:i<(n:Int)):seqIndex? i n=some i.toNat:=PySem.StrLaws.seqIndex_nonneg h0 h1
theorem perm_strs {ys:List V} {ws:List Str} (h:ys.Perm (ws.map V.str)):∃ zs:List Str,ys=zs.map V.str∧zs.Perm ws:=by
 have all:∀ y ∈ ys,∃ z,y=V.str z:=fun y hy=>by
  obtain ⟨z,_,e⟩:=List.mem_map.mp (h.mem_iff.mp hy)
  exact ⟨z,e.symm⟩
 have ex:∀ l:List V,(∀ y ∈ l,∃ z,y=V.str z)→∃ zs:List Str,l=zs.map V.str:=by
  intro l
  induction l with
  | nil=>intro _;exact ⟨[],rfl⟩
  | cons a l ih=>
   intro hl
   obtain ⟨z,rfl⟩:=hl a (List.mem_cons_self ..)
   obtain ⟨zs,rfl⟩:=ih fun y hy=>hl y (List.mem_cons_of_mem _ hy)
   exact ⟨z::zs,rfl⟩
 obtain ⟨zs,rfl⟩:=ex ys all
 refine ⟨zs,rfl,?_⟩
 have:=h.map (fun v=>match v with | V.str z=>z | _=>Str.ofString "")
 rw [List.map_map,List.map_map] at this
 have e:((fun v=>match v with | V.str z=>z | _=>Str.ofString "") ∘ V.str:Str→Str)=id:=by funext z;rfl
 rw [e,List.map_id,List.map_id] at this
 exact this
theorem perm_ints {ys:List V} {ws:List Int} (h:ys.Perm (ws.map V.int)):∃ zs:List Int,ys=zs.map V.int∧zs.Perm ws:=by
 have all:∀ y ∈ ys,∃ z,y=V.int z:=fun y hy=>by
  obtain ⟨z,_,e⟩:=List.mem_map.mp (h.mem_iff.mp hy)
  exact ⟨z,e.symm⟩
 have ex:∀ l:List V,(∀ y ∈ l,∃ z,y=V.int z)→∃ zs:List Int,l=zs.map V.int:=by
  intro l
  induction l with
  | nil=>intro _;exact ⟨[],rfl⟩
  | cons a l ih=>
   intro hl
   obtain ⟨z,rfl⟩:=hl a (List.mem_cons_self ..)
   obtain ⟨zs,rfl⟩:=ih fun y hy=>hl y (List.mem_cons_of_mem _ hy)
   exact ⟨z::zs,rfl⟩
 obtain ⟨zs,rfl⟩:=ex ys all
 refine ⟨zs,rfl,?_⟩
 have:=h.map (fun v=>match v with | V.int z=>z | _=>0)
 rw [List.map_map,List.map_map] at this
 have e:((fun v=>match v with | V.int z=>z | _=>0) ∘ V.int:Int→Int)=id:=by funext z;rfl
 rw [e,List.map_id,List.map_id] at this
 exact this
theorem erase_map {α β:Type} {f:α→β}:∀ {xs:List α} {k:Nat},(xs.map f).eraseIdx k=(xs.eraseIdx k).map f
 | [],_=>rfl
 | _::_,0=>rfl
 | x::xs,k+1=>by
  show f x::(xs.map f).eraseIdx k=f x::(xs.eraseIdx k).map f
  rw [erase_map]
theorem take_strs {qs:List Int} {nm:List Str} {i:Nat} {z:Int} (h:qs[i]?=some z):((qs.take i).map (nmAt nm)).map V.str++[V.str (nmAt nm z)]=((qs.take (i+1)).map (nmAt nm)).map V.str:=by
 rw [List.take_add_one,h,Option.toList_some,List.map_append,List.map_append]
 rfl
end Fw
namespace Fw
open PySem L2 PySem.NumText
def digs (x:Str):Bool:=x.cps.toList.all (signIn 48 57)
def plnF (x:Str):Int:=if 1≤x.length∧x.length≤2∧digs x=true∧¬ x.cps[0]?=some 48 then (intText? x).getD 0 else 0
theorem dig_fold:∀ (l:List Nat) (a:Nat),l.foldl (fun acc c=>acc * 10+(c - 48)) a=a * 10 ^ l.length+l.foldl (fun acc c=>acc * 10+(c - 48)) 0
 | [],a=>by simp
 | c::l,a=>by
  rw [List.foldl_cons,List.foldl_cons,dig_fold l (a * 10+(c - 48)),dig_fold l (0 * 10+(c - 48)),List.length_cons,Nat.pow_succ,Nat.add_mul,Nat.zero_mul,Nat.zero_add]
  rw [Nat.mul_assoc,Nat.mul_comm 10,Nat.add_assoc]
theorem digs_of {x:Str} (h:digs x=true):∀ c ∈ x.cps.toList,48≤c∧c≤57:=fun c hc=>by
 have:=List.all_eq_true.mp h c hc
 unfold signIn at this
 rw [Bool.and_eq_true] at this
 exact ⟨of_decide_eq_true this.1,of_decide_eq_true this.2⟩
theorem isdig_eq {x:Str} (h:∀ k ∈ x.cps.toList,k<127):Txt.isdigit x=(decide (0<x.length) && digs x):=by
 unfold Txt.isdigit digs
 congr 1
 have key:∀ c:Nat,c<127→Unicode.isDigit c=signIn 48 57 c:=by decide +kernel
 rw [← Array.all_toList]
 rw [Bool.eq_iff_iff,List.all_eq_true,List.all_eq_true]
 constructor
 ·intro g c hc;rw [← key c (h c hc)];exact g c hc
 ·intro g c hc;rw [key c (h c hc)];exact g c hc
theorem first_of {x:Str} {c:Nat} {l:List Nat} (h:x.cps.toList=c::l):x.cps[0]?=some c:=by
 rw [← Array.getElem?_toList,h];rfl
theorem plain_rooms {x:Str} (hl:x.length≤200) (h:∀ k ∈ x.cps.toList,k<127):decide (0<plnF x)=(rmF x).isSome:=by
 have ed:=isdig_eq h
 unfold plnF rmF
 by_cases hd:digs x=true
 ·cases e:x.cps.toList with
  | nil=>
   have l0:x.length=0:=by rw [qBB,e];rfl
   rw [if_neg (fun z=>by lia),if_neg (fun z=>by rw [ed,l0] at z;simp at z)]
   rfl
  | cons c l=>
   have l1:x.length=l.length+1:=by rw [qBB,e];rfl
   have f:=first_of e
   have ad:=digs_of hd
   have hc:=ad c (by rw [e];simp)
   have it:=intText_digits ad (by rw [e];simp) (by lia)
   have ei:Txt.isdigit x=true:=by rw [ed,hd,decide_eq_true (by lia)];rfl
   by_cases c0:c=48
   ·rw [if_neg (fun z=>z.2.2.2 (by rw [f,c0])),if_neg (fun z=>z.2 (by rw [f,c0]))]
    rfl
   ·have nf:¬ x.cps[0]?=some 48:=by rw [f];exact fun z=>c0 (Option.some.inj z)
    rw [if_pos (show Txt.isdigit x=true∧_ from ⟨ei,nf⟩),it]
    have dv:digitsVal x.cps.toList=(c - 48) * 10 ^ l.length+l.foldl (fun acc c=>acc * 10+(c - 48)) 0:=by
     rw [e]
     unfold digitsVal
     rw [List.foldl_cons,dig_fold,Nat.zero_mul,Nat.zero_add]
    by_cases l2:l.length≤1
    ·rw [if_pos ⟨by lia,by lia,hd,nf⟩]
     have small:digitsVal x.cps.toList≤99∧1≤digitsVal x.cps.toList:=by
      match l,l2 with
      | [],_=>rw [dv];simp;lia
      | [y],_=>
       have hy:=ad y (by rw [e];simp)
       rw [dv]
       simp
       lia
     dsimp only
     rw [if_neg (by lia),Option.getD_some,decide_eq_true (by lia)]
     rfl
    ·rw [if_neg (fun z=>by lia)]
     have big:100≤digitsVal x.cps.toList:=by
      rw [dv]
      have p:10 ^ 2≤10 ^ l.length:=Nat.pow_le_pow_right (by decide) (by lia)
      have:1 * 10 ^ 2≤(c - 48) * 10 ^ l.length:=Nat.mul_le_mul (by lia) p
      lia
     dsimp only
     rw [if_pos (by lia)]
     rfl
 ·rw [if_neg (fun z=>hd z.2.2.1),if_neg (fun z=>hd (by have:=z.1;rw [ed,Bool.and_eq_true] at this;exact this.2))]
  rfl
theorem plain_int {x:Str} (h:1≤x.length∧x.length≤2∧digs x=true∧¬ x.cps[0]?=some 48):intText? x=some (plnF x):=by
 unfold plnF
 rw [if_pos h]
 have it:=intText_digits (digs_of h.2.2.1) (fun z=>by have:=qBB x;rw [z] at this;rw [this] at h;exact absurd h.1 (by decide)) (by lia)
 rw [it]
 rfl
def isNmL (x:Str):Bool:=isNm x && decide (1≤x.length)
def askL (nm ws:List Str):Bool:=decide (1≤ws.length∧ws.length≤4) && (decide ws.Nodup && ws.all fun x=>decide (x ∈ nm))
theorem names_in {nm:List Str} (x:Str):(nmF 0 nm x).isSome=decide (x ∈ nm):=by
 by_cases h:x ∈ nm
 ·rw [decide_eq_true h]
  cases e:nmF 0 nm x with
  | none=>exact absurd h (nmF_none.mp e)
  | some _=>rfl
 ·rw [decide_eq_false h,nmF_none.mpr h];rfl
theorem nmF_inj {nm:List Str} {x y:Str} {k:Nat} {n:Int} (h1:nmF k nm x=some n) (h2:nmF k nm y=some n):x=y:=by
 induction nm generalizing k with
 | nil=>cases h1
 | cons a r ih=>
  unfold nmF at h1 h2
  split at h1
  ·rename_i e1
   split at h2
   ·rename_i e2
    rw [← e1,e2]
   ·cases h1
    have:=(nmF_lt h2).1
    lia
  ·split at h2
   ·cases h2
    have:=(nmF_lt h1).1
    lia
   ·exact ih h1 h2
theorem wk_eq {nm ws:List Str}:(wkF nm ws).isSome=(decide ws.Nodup && ws.all fun x=>decide (x ∈ nm)):=by
 unfold wkF
 by_cases h:∀ x ∈ ws,(nmF 0 nm x).isSome=true
 ·have h2:(ws.all fun x=>decide (x ∈ nm))=true:=List.all_eq_true.mpr fun x hx=>by rw [← names_in];exact h x hx
  rw [h2,Bool.and_true]
  have key:(ws.filterMap (nmF 0 nm)).Nodup ↔ ws.Nodup:=by
   clear h2
   induction ws with
   | nil=>simp
   | cons a ws ih=>
    have ih2:=ih fun x hx=>h x (List.mem_cons_of_mem _ hx)
    have ha:=h a (List.mem_cons_self ..)
    cases e:nmF 0 nm a with
    | none=>rw [e] at ha;cases ha
    | some n=>
     rw [List.filterMap_cons_some e,List.nodup_cons,List.nodup_cons,ih2]
     constructor
     ·rintro ⟨h1,h2⟩
      exact ⟨fun z=>h1 (List.mem_filterMap.mpr ⟨a,z,e⟩),h2⟩
     ·rintro ⟨h1,h2⟩
      refine ⟨fun z=>?_,h2⟩
      obtain ⟨b,hb,eb⟩:=List.mem_filterMap.mp z
      exact h1 (nmF_inj e eb ▸ hb)
  by_cases nd:ws.Nodup
  ·rw [if_pos ⟨h,key.mpr nd⟩,decide_eq_true nd];rfl
  ·rw [if_neg (fun z=>nd (key.mp z.2)),decide_eq_false nd];rfl
 ·have h2:(ws.all fun x=>decide (x ∈ nm))=false:=by
   rw [Bool.eq_false_iff]
   intro z
   exact h fun x hx=>by rw [names_in];exact List.all_eq_true.mp z x hx
  rw [if_neg (fun z=>h z.1),h2,Bool.and_false]
  rfl
theorem ask_eq {nm ws:List Str}:(askF nm ws).isSome=askL nm ws:=by
 unfold askF askL
 by_cases h:1≤ws.length∧ws.length≤4
 ·rw [if_pos h,decide_eq_true h,Bool.true_and,wk_eq]
 ·rw [if_neg h,decide_eq_false h,Bool.false_and];rfl
def workL (nm:List Str):List Str→Bool
 | []=>false
 | x::r=>isNmL x && (decide (x ∉ nm) && (decide (nm.length<40) && (decide r.Nodup && r.all fun y=>decide (y ∈ nm))))
def oneB (nm:List Str):List Str→Bool
 | [x]=>decide (x ∈ nm)
 | _=>false
def stpB (nm:List Str):List Str→Bool
 | x::y::q=>decide (0<plnF x) && askL nm (y::q)
 | _=>false
def deedL (nm:List Str):List Str→Bool
 | []=>false
 | w::r=>if w ∈ aloneL then r.isEmpty else if w ∈ oneL then oneB nm r else if w=Str.ofString "steps" then stpB nm r else decide (w ∈ someL) && askL nm r
theorem deed_eq {nm ws:List Str} (hw:∀ x ∈ ws,x.length≤200∧∀ k ∈ x.cps.toList,k<127):(deedF nm ws).isSome=deedL nm ws:=by
 cases ws with
 | nil=>rfl
 | cons w r=>
  show (if w ∈ aloneL then (if r=[] then some (Dd.al w) else none) else if w ∈ oneL then oneF nm w r else if w ∈ someL then (askF nm r).map (.so w) else if w=Str.ofString "steps" then stepsF nm (w::r) else none).isSome=(if w ∈ aloneL then r.isEmpty else if w ∈ oneL then oneB nm r else if w=Str.ofString "steps" then stpB nm r else decide (w ∈ someL) && askL nm r)
  by_cases h1:w ∈ aloneL
  ·rw [if_pos h1,if_pos h1]
   cases r <;> rfl
  rw [if_neg h1,if_neg h1]
  by_cases h2:w ∈ oneL
  ·rw [if_pos h2,if_pos h2]
   match r with
   | []=>rfl
   | [x]=>
    show ((nmF 0 nm x).map (Dd.on w)).isSome=_
    rw [Option.isSome_map,names_in]
    rfl
   | _::_::_=>rfl
  rw [if_neg h2,if_neg h2]
  by_cases h3:w ∈ someL
  ·have h4:¬ w=Str.ofString "steps":=fun z=>steps_alone.2.2 (z ▸ h3)
   rw [if_pos h3,if_neg h4,decide_eq_true h3,Bool.true_and,Option.isSome_map,ask_eq]
  rw [if_neg h3]
  by_cases h4:w=Str.ofString "steps"
  ·rw [if_pos h4,if_pos h4]
   match r,hw with
   | [],_=>rfl
   | [x],_=>
    unfold stepsF
    dsimp only
    have:askF nm []=none:=by unfold askF;rw [if_neg (by simp)]
    rw [this]
    cases rmF x <;> rfl
   | x::y::q,hw=>
    have px:=hw x (by simp)
    unfold stepsF
    dsimp only
    show _=(decide (0<plnF x) && askL nm (y::q))
    rw [plain_rooms px.1 px.2,← ask_eq]
    cases rmF x <;> cases askF nm (y::q) <;> rfl
  ·rw [if_neg h4,if_neg h4,decide_eq_false h3,Bool.false_and]
   rfl
def rmsB:List Str→Bool
 | [a,b]=>decide (a=Str.ofString "rooms") && decide (0<plnF b)
 | _=>false
def fineL (bg:Bool) (nm:List Str) (dn:Nat) (ws:List Str):Bool:=
 if bg=false then rmsB ws
 else if ws.head?=some (Str.ofString "work") then decide (dn=0) && workL nm ws.tail else !nm.isEmpty && deedL nm ws
structure Sim (s:Sh) (bg:Bool) (nm:List Str) (dn:Nat):Prop where
 rooms:s.rooms.isSome=bg
 names:s.names=nm
 deeds:s.deeds.isEmpty=decide (dn=0)
 len:s.names.length=s.net.length
 n40:s.net.length≤40
 ne:Str.ofString "" ∉ nm
theorem deedL_ne {nm ws:List Str} (hn:Str.ofString "" ∉ nm) (h:Str.ofString "" ∈ ws):deedL nm ws=false:=by
 have ask:∀ l,Str.ofString "" ∈ l→askL nm l=false:=fun l hl=>by
  unfold askL
  have:(l.all fun x=>decide (x ∈ nm))=false:=by
   rw [Bool.eq_false_iff]
   intro z
   exact hn (of_decide_eq_true (List.all_eq_true.mp z _ hl))
  rw [this,Bool.and_false,Bool.and_false]
 have kw:∀ w ∈ aloneL++oneL++someL++[Str.ofString "steps"],¬ w=Str.ofString "":=by decide +kernel
 cases ws with
 | nil=>cases h
 | cons w r=>
  show (if w ∈ aloneL then r.isEmpty else if w ∈ oneL then oneB nm r else if w=Str.ofString "steps" then stpB nm r else decide (w ∈ someL) && askL nm r)=false
  rcases List.mem_cons.mp h with e | h
  ·have k:=fun (z:w ∈ aloneL++oneL++someL++[Str.ofString "steps"])=>kw w z e.symm
   rw [if_neg fun z=>k (by simp [z]),if_neg fun z=>k (by simp [z]),if_neg fun z=>k (by simp [z]),decide_eq_false fun z=>k (by simp [z]),Bool.false_and]
  ·by_cases h1:w ∈ aloneL
   ·rw [if_pos h1]
    cases r with
    | nil=>cases h
    | cons _ _=>rfl
   rw [if_neg h1]
   by_cases h2:w ∈ oneL
   ·rw [if_pos h2]
    match r,h with
    | [x],h=>exact decide_eq_false fun z=>hn (by rw [List.mem_singleton.mp h];exact z)
    | _::_::_,_=>rfl
   rw [if_neg h2]
   by_cases h3:w=Str.ofString "steps"
   ·rw [if_pos h3]
    match r,h with
    | [x],_=>rfl
    | x::y::q,h=>
     show (decide (0<plnF x) && askL nm (y::q))=false
     rcases List.mem_cons.mp h with e | h
     ·rw [← e,show plnF (Str.ofString "")=0 by decide +kernel];rfl
     ·rw [ask _ h,Bool.and_false]
   ·rw [if_neg h3,ask r h,Bool.and_false]
theorem workL_ne {nm ws:List Str} (hn:Str.ofString "" ∉ nm) (h:Str.ofString "" ∈ ws):workL nm ws=false:=by
 cases ws with
 | nil=>rfl
 | cons x r=>
  show (isNmL x && (decide (x ∉ nm) && (decide (nm.length<40) && (decide r.Nodup && r.all fun y=>decide (y ∈ nm)))))=false
  rcases List.mem_cons.mp h with e | h
  ·rw [← e,show isNmL (Str.ofString "")=false by decide +kernel,Bool.false_and]
  ·have:(r.all fun x=>decide (x ∈ nm))=false:=by
    rw [Bool.eq_false_iff]
    intro z
    exact hn (of_decide_eq_true (List.all_eq_true.mp z _ h))
   rw [this,Bool.and_false,Bool.and_false,Bool.and_false,Bool.and_false]
theorem row_fine {s:Sh} {bg:Bool} {nm:List Str} {dn:Nat} {row:Str} (S:Sim s bg nm dn) (h0:¬ row=Str.ofString "") (hl:row.length≤200) (ha:asc row=true):(rowT s row).isSome=fineL bg nm dn (Txt.split row " "):=by
 have hw:∀ x ∈ Txt.split row (Str.ofString " "),x.length≤200∧∀ k ∈ x.cps.toList,k<127:=fun x hx=>by
  rw [show Str.ofString " " = (⟨#[32]⟩:Str) from qC0] at hx
  refine ⟨Nat.le_trans (PyProof.Rows.part_short hx) hl,fun k hk=>?_⟩
  have:=List.all_eq_true.mp ha k (qCZ hx k hk)
  unfold signIn at this
  rw [Bool.and_eq_true] at this
  have:=of_decide_eq_true this.2
  lia
 unfold rowT
 rw [if_neg h0,if_pos ⟨hl,ha⟩]
 generalize hws:Txt.split row (Str.ofString " ")=ws at hw ⊢
 have fF:fineL false nm dn ws=rmsB ws:=rfl
 have fT:fineL true nm dn ws=if ws.head?=some (Str.ofString "work") then decide (dn=0) && workL nm ws.tail else !nm.isEmpty && deedL nm ws:=rfl
 by_cases he:Str.ofString "" ∈ ws
 ·rw [if_pos he]
  show false=_
  cases bg with
  | false=>
   rw [fF]
   clear fF fT
   match ws,he with
   | [],h=>rfl
   | [x],h=>rfl
   | x::y::z::r,h=>rfl
   | [x,y],h=>
    show false=(decide (x=Str.ofString "rooms") && decide (0<plnF y))
    rcases List.mem_cons.mp h with e | h
    ·rw [← e,decide_eq_false (by decide +kernel),Bool.false_and]
    ·rw [← List.mem_singleton.mp h,show plnF (Str.ofString "")=0 by decide +kernel]
     simp
  | true=>
   rw [fT]
   clear fF fT
   split
   ·rename_i e
    cases ws with
    | nil=>cases he
    | cons w r=>
     have ew:w=Str.ofString "work":=Option.some.inj e
     rw [List.tail_cons,workL_ne S.ne ?_,Bool.and_false]
     rcases List.mem_cons.mp he with z | z
     ·rw [ew] at z;exact absurd z (by decide +kernel)
     ·exact z
   ·rw [deedL_ne S.ne he,Bool.and_false]
 ·rw [if_neg he]
  unfold wordsT
  have er:=S.rooms
  cases bg with
  | false=>
   rw [if_pos (show s.rooms=none by cases e:s.rooms with | none=>rfl | some _=>rw [e] at er;cases er),fF]
   clear fF fT
   match ws,hw with
   | [],_=>rfl
   | [x],_=>rfl
   | x::y::z::r,_=>rfl
   | [x,y],hw=>
    show (if x=Str.ofString "rooms" then (rmF y).map _ else none).isSome=(decide (x=Str.ofString "rooms") && decide (0<plnF y))
    by_cases ex:x=Str.ofString "rooms"
    ·rw [if_pos ex,decide_eq_true ex,Bool.true_and,Option.isSome_map,plain_rooms (hw y (by simp)).1 (hw y (by simp)).2]
    ·rw [if_neg ex,decide_eq_false ex,Bool.false_and];rfl
  | true=>
   rw [if_neg (show ¬ s.rooms=none by intro z;rw [z] at er;cases er),fT]
   clear fF fT
   by_cases e:ws.head?=some (Str.ofString "work")
   ·rw [if_pos e,if_pos e]
    cases ws with
    | nil=>cases e
    | cons w r=>
     rw [List.tail_cons]
     cases r with
     | nil=>rw [show workL nm []=false from rfl,Bool.and_false];rfl
     | cons x r=>
      show (if s.deeds.isEmpty=false∨s.net.length=40∨isNm x=false∨x ∈ s.names then none else (wkF s.names r).map _).isSome=_
      have nx:1≤x.length:=by
       have:¬ x=Str.ofString "":=fun z=>he (by rw [← z];simp)
       rcases Nat.eq_zero_or_pos x.length with z | z
       ·exact absurd (str_ext (by rw [qBB] at z;rw [List.length_eq_zero_iff.mp z];decide +kernel)) this
       ·exact z
      rw [show workL nm (x::r)=(isNm x && decide (1≤x.length) && (decide (x ∉ nm) && (decide (nm.length<40) && (decide r.Nodup && r.all fun y=>decide (y ∈ nm))))) from rfl]
      rw [S.names,decide_eq_true nx,Bool.and_true]
      have en:nm.length=s.net.length:=by rw [← S.names];exact S.len
      have n40:=S.n40
      by_cases hd:dn=0
      ·rw [decide_eq_true hd,Bool.true_and]
       have ed:=S.deeds
       rw [decide_eq_true hd] at ed
       by_cases h2:s.net.length=40
       ·rw [if_pos (.inr (.inl h2)),decide_eq_false (show ¬ nm.length<40 by lia),Bool.false_and,Bool.and_false,Bool.and_false];rfl
       rw [decide_eq_true (show nm.length<40 by lia),Bool.true_and]
       cases h3:isNm x with
       | false=>rw [if_pos (.inr (.inr (.inl rfl)))];rfl
       | true=>
        by_cases h4:x ∈ nm
        ·rw [if_pos (.inr (.inr (.inr h4))),decide_eq_false (fun z=>z h4),Bool.false_and];rfl
        ·rw [decide_eq_true h4,if_neg,Option.isSome_map,wk_eq]
         ·rfl
         ·rintro (z | z | z | z)
          ·rw [ed] at z;cases z
          ·exact h2 z
          ·cases z
          ·exact h4 z
      ·have ed:=S.deeds
       rw [decide_eq_false hd] at ed
       rw [if_pos (.inl ed),decide_eq_false hd,Bool.false_and];rfl
   ·rw [if_neg e,if_neg e]
    unfold deedT
    rw [S.names]
    have en:s.net.isEmpty=nm.isEmpty:=by
     have:=S.len
     rw [S.names] at this
     cases hn:nm <;> cases hs:s.net <;> simp_all
    rw [en]
    cases hn:nm.isEmpty with
    | true=>rw [if_pos rfl];rfl
    | false=>
     rw [if_neg (by decide),Option.isSome_map,deed_eq hw]
     rfl
theorem row_next {s s':Sh} {bg:Bool} {nm:List Str} {dn:Nat} {row:Str} (S:Sim s bg nm dn) (h0:¬ row=Str.ofString "") (hr:rowT s row=some s') :
  Sim s' true (if bg=true∧(Txt.split row " ").head?=some (Str.ofString "work") then nm++[(Txt.split row " " ++ [Str.ofString ""]).getD 1 (Str.ofString "")] else nm) (if bg=true∧¬ (Txt.split row " ").head?=some (Str.ofString "work") then dn+1 else dn):=by
 unfold rowT at hr
 rw [if_neg h0] at hr
 split at hr
 ·split at hr
  ·cases hr
  ·rename_i he
   generalize Txt.split row (Str.ofString " ")=ws at hr he ⊢
   have er:=S.rooms
   unfold wordsT at hr
   cases bg with
   | false=>
    rw [if_pos (show s.rooms=none by cases e:s.rooms with | none=>rfl | some _=>rw [e] at er;cases er)] at hr
    unfold roomsT at hr
    rw [if_neg (by simp),if_neg (by simp)]
    split at hr
    ·split at hr
     ·obtain ⟨n,_,rfl⟩:=Option.map_eq_some_iff.mp hr
      exact ⟨rfl,S.names,S.deeds,S.len,S.n40,S.ne⟩
     ·cases hr
    ·cases hr
   | true=>
    rw [if_neg (show ¬ s.rooms=none by intro z;rw [z] at er;cases er)] at hr
    split at hr
    ·rename_i e
     rw [if_pos ⟨rfl,e⟩,if_neg (fun z=>z.2 e)]
     unfold workT at hr
     split at hr
     ·rename_i w x r
      split at hr
      ·cases hr
      ·rename_i hno
       obtain ⟨ks,_,rfl⟩:=Option.map_eq_some_iff.mp hr
       have l:=S.len
       have n40:=S.n40
       have e2:((w::x::r)++[Str.ofString ""]).getD 1 (Str.ofString "")=x:=rfl
       refine ⟨er,?_,S.deeds,?_,?_,?_⟩
       ·show s.names++[x]=_;rw [S.names,e2]
       ·show (s.names++[x]).length=(s.net++[ks]).length;rw [List.length_append,List.length_append,l];rfl
       ·show (s.net++[ks]).length≤40
        rw [List.length_append,List.length_singleton]
        have:¬ s.net.length=40:=fun z=>hno (.inr (.inl z))
        lia
       ·rw [e2]
        intro z
        rcases List.mem_append.mp z with z | z
        ·exact S.ne z
        ·exact he (by rw [List.mem_singleton.mp z];simp)
     ·cases hr
    ·rename_i e
     rw [if_neg (fun z=>e z.2),if_pos ⟨rfl,e⟩]
     unfold deedT at hr
     split at hr
     ·cases hr
     ·obtain ⟨d,_,rfl⟩:=Option.map_eq_some_iff.mp hr
      refine ⟨er,S.names,?_,S.len,S.n40,S.ne⟩
      show (s.deeds++[d]).isEmpty=_
      cases s.deeds <;> simp
 ·cases hr
def fltF:Nat→Sh→List Str→Option Nat
 | k,s,[]=>if s.net.isEmpty=true then some k else none
 | k,s,r::rs=>if k=100 then some 100 else match rowT s r with
  | none=>some k
  | some s'=>fltF (k+1) s' rs
def optN:Option Nat→V
 | none=>.non
 | some n=>.int (n:Int)
def RowOk (r:Str):Prop:=r.length≤200∧asc r=true
end Fw
namespace Fw
open PySem L2 PySem.NumText
def asc7 (x:Str):Prop:=x.length≤200∧∀ k ∈ x.cps.toList,k<127
theorem occ_digit:∀ c:Nat,c<127→(Builtin.Str.occurrences (Str.ofString "0123456789") ⟨#[c]⟩ 0 (Str.ofString "0123456789").length 1).isEmpty=!signIn 48 57 c:=by decide +kernel
theorem occ_letter:∀ c:Nat,c<127→(Builtin.Str.occurrences (Str.ofString "abcdefghijklmnopqrstuvwxyz") ⟨#[c]⟩ 0 (Str.ofString "abcdefghijklmnopqrstuvwxyz").length 1).isEmpty=!signIn 97 122 c:=by decide +kernel
def oddS (lo hi:Nat) (l:List Nat):List V:=(l.filter fun c=>!signIn lo hi c).map fun c=>V.str ⟨#[c]⟩
theorem odd_take {z:Str} {lo hi i c:Nat} (h:z.cps[i]?=some c):oddS lo hi (z.cps.toList.take (i+1))=oddS lo hi (z.cps.toList.take i)++(if signIn lo hi c=true then [] else [V.str ⟨#[c]⟩]):=by
 unfold oddS
 rw [List.take_add_one,Array.getElem?_toList,h,Option.toList_some,List.filter_append,List.map_append]
 congr 1
 cases e:signIn lo hi c <;> simp [e]
theorem odd_len {z:Str} {lo hi i:Nat}:(oddS lo hi (z.cps.toList.take i)).length≤z.length:=by
 unfold oddS
 rw [List.length_map,qBB]
 exact Nat.le_trans (List.length_filter_le _ _) (by rw [List.length_take];lia)
theorem odd_nil {z:Str} {lo hi:Nat}:(oddS lo hi (z.cps.toList.take z.length)).isEmpty=z.cps.toList.all (signIn lo hi):=by
 rw [qBB,List.take_length]
 unfold oddS
 rw [List.isEmpty_map,Bool.eq_iff_iff,List.isEmpty_iff,List.filter_eq_nil_iff,List.all_eq_true]
 constructor
 ·intro h x hx
  have:=h x hx
  cases e:signIn lo hi x
  ·rw [e] at this;exact absurd rfl this
  ·rfl
 ·intro h x hx
  rw [h x hx]
  decide
theorem mem_at {z:Str} {i c:Nat} (h:z.cps[i]?=some c):c ∈ z.cps.toList:=by
 rw [← Array.getElem?_toList] at h
 exact List.mem_of_getElem? h
def oddI (x:Str) (lo hi:Nat) (H:Hp) (p:Addr) (i:Nat) (σ:St) (Hi:Hp):Prop:=∃ v,σ=[v]∧Same H Hi∧Hi p=some (.lst (oddS lo hi (x.cps.toList.take i)))
theorem odd_step {x j:Str} {lo hi:Nat} {H:Hp} {p:Addr} (hx:x.length≤200) (ha:∀ k ∈ x.cps.toList,k<127) (hj:∀ c:Nat,c<127→(Builtin.Str.occurrences j ⟨#[c]⟩ 0 j.length 1).isEmpty=!signIn lo hi c) (hp:H p=none) (i c:Nat) (σ:St) (Hi:Hp) (ec:x.cps[i]?=some c) (hI:oddI x lo hi H p i σ Hi) :
  gName 0 (.str ⟨#[c]⟩) σ Hi fun σ2 H2=>tTest (tOp (fun x y H Q=>∃ i j,x=V.str i∧y=V.str j∧Q (V.bl !!(Builtin.Str.occurrences j i 0 j.length 1).isEmpty) H) (tVar 0) (tC (.str j))) σ2 H2 fun b H3=>if b=true then tVar 0 σ2 H3 fun y H4=>∃ ys,H4 p=some (.lst ys)∧ys.length<sizeLine∧oddI x lo hi H p (i+1) σ2 (upd H4 p (.lst (ys++[y]))) else oddI x lo hi H p (i+1) σ2 H3:=by
 have hs:=sizeLine_eq
 obtain ⟨v,rfl,sm,hpi⟩:=hI
 refine ⟨_,rfl,_,_,rfl,rfl,_,rfl,?_⟩
 rw [hj c (ha c (mem_at ec)),Bool.not_not]
 have e:=odd_take (lo:=lo) (hi:=hi) ec
 cases h:signIn lo hi c with
 | true=>
  rw [h,if_pos rfl,List.append_nil] at e
  exact ⟨_,rfl,sm,by rw [e];exact hpi⟩
 | false=>
  rw [h,if_neg (by decide)] at e
  refine ⟨_,rfl,_,hpi,?_,_,rfl,fun b u z=>by rw [qA7 (qA2 z hp)];exact sm b u z,by rw [qA1,e]⟩
  have:=odd_len (z:=x) (lo:=lo) (hi:=hi) (i:=i)
  lia
def spPlnL:Sp:=fun vs H Q _=>∃ x:Str,vs=[.str x]∧asc7 x∧∀ H',Same H H'→Q (.int (plnF x)) H'
def spNmL:Sp:=fun vs H Q _=>∃ x:Str,vs=[.str x]∧asc7 x∧∀ H',Same H H'→Q (.bl (isNmL x)) H'
def spAskL:Sp:=fun vs H Q _=>∃ (p q:Addr) (nm ws:List Str),vs=[.ref p,.ref q]∧H p=some (.lst (nm.map V.str))∧H q=some (.lst (ws.map V.str))∧nm.length≤300∧ws.length≤300∧∀ H',Same H H'→Q (.bl (askL nm ws)) H'
def spDdL:Sp:=fun vs H Q _=>∃ (p q:Addr) (nm ws:List Str),vs=[.ref p,.ref q]∧H p=some (.lst (nm.map V.str))∧H q=some (.lst (ws.map V.str))∧nm.length≤300∧ws.length≤300∧ws ≠ []∧(∀ x ∈ ws,asc7 x)∧∀ H',Same H H'→Q (.bl (deedL nm ws)) H'
def spWkL:Sp:=fun vs H Q _=>∃ (p q:Addr) (nm ws:List Str),vs=[.ref p,.ref q]∧H p=some (.lst (nm.map V.str))∧H q=some (.lst (ws.map V.str))∧nm.length≤300∧ws.length≤300∧(∀ x ∈ ws,asc7 x)∧∀ H',Same H H'→Q (.bl (workL nm ws)) H'
def spFlt:Sp:=fun vs H Q _=>∃ x:Str,vs=[.str x]∧x.length≤90000∧(∀ r ∈ Txt.split x "\n",RowOk r)∧∀ H',Same H H'→Q (optN (fltF 0 sh0 (Txt.split x "\n"))) H'
def xrow (n:Nat):List (Str × V):=[("row",.int (n:Int))]
def spInit1 (C:Addr):Sp:=fun vs H Q _=>∃ (x:Addr) (a:V),vs=[.ref x,a]∧H x=some (ExcN x C none)∧∀ dx,H dx=none→dx ≠ x→Q .non (upd (upd H dx (XDic dx [("row",a)])) x (ExcN x C (some dx)))
def spRef (f:Addr):Sp:=fun vs H Q _=>∃ x:Str,vs=[.ref f,.str x]∧x.length≤90000∧∀ H',Same H H'→Q (optN (fltF 0 sh0 (Txt.split x "\n"))) H'
def spSameN:Sp:=fun vs H Q _=>∃ o:Option Nat,vs=[optN o,optN o]∧∀ H',Same H H'→Q (.bl true) H'
theorem dedS_len:∀ (l zs:List Str),zs.Nodup→((l.foldl addS zs).length=zs.length+l.length ↔ (zs++l).Nodup)
 | [],zs,h=>by simp [h]
 | k::l,zs,h=>by
  rw [List.foldl_cons]
  unfold addS
  by_cases e:k ∈ zs
  ·rw [if_pos e]
   have:=qC3 l zs
   rw [List.length_cons]
   constructor
   ·intro z;unfold addS at this;lia
   ·intro z
    rw [List.nodup_append] at z
    exact absurd rfl (z.2.2 k e k (List.mem_cons_self ..))
  ·rw [if_neg e]
   have h2:(zs++[k]).Nodup:=by
    rw [List.nodup_append]
    refine ⟨h,by simp,fun a ha b hb=>?_⟩
    rw [List.mem_singleton.mp hb]
    exact fun z=>e (z ▸ ha)
   have ih:=dedS_len l (zs++[k]) h2
   unfold addS at ih
   rw [List.length_append,List.length_singleton,List.append_assoc,List.singleton_append] at ih
   rw [← ih,List.length_cons]
   lia
theorem dedS_nodup {l:List Str}:decide (V.int ((dedS l).length:Nat)=V.int (l.length:Int))=decide l.Nodup:=by
 have:=dedS_len l [] .nil
 rw [List.length_nil,Nat.zero_add,List.nil_append] at this
 rw [decide_eq_decide,← this]
 unfold dedS
 constructor
 ·intro h;have:=V.int.inj h;lia
 ·intro h;rw [h]
def inI (nm ws:List Str) (a:Addr) (H:Hp) (p:Addr) (i:Nat) (σ:St) (Hi:Hp):Prop:=∃ v,σ=[v,some (.ref a)]∧Same H Hi∧Hi p=some (.lst (((ws.take i).map fun x=>decide (x ∈ nm)).map V.bl))
theorem in_step {K:PySem.W.Frag} {nm ws:List Str} {a p:Addr} {H:Hp} (lw:ws.length≤300) (ha:H a=some (.lst (nm.map V.str))) (hp:H p=none) (i:Nat) (x':V) (σ:St) (Hi:Hp) (ex:(ws.map V.str)[i]?=some x') (hI:inI nm ws a H p i σ Hi) :
  gName 0 x' σ Hi fun σ2 H2=>tTrue σ2 H2 fun b H3=>if b=true then tOp (rIn K false) (tVar 0) (tVar 1) σ2 H3 fun y H4=>∃ ys,H4 p=some (.lst ys)∧ys.length<sizeLine∧inI nm ws a H p (i+1) σ2 (upd H4 p (.lst (ys++[y]))) else inI nm ws a H p (i+1) σ2 H3:=by
 have hs:=sizeLine_eq
 obtain ⟨v,rfl,sm,hpi⟩:=hI
 rw [List.getElem?_map] at ex
 obtain ⟨x,ey,rfl⟩:=Option.map_eq_some_iff.mp ex
 refine ⟨_,rfl,_,rfl,a,_,rfl,.inl (SqL.of (sm _ _ ha)),rfl,flat_strs nm,?_⟩
 rw [qBJ]
 refine ⟨_,hpi,?_,_,rfl,fun b u z=>by rw [qA7 (qA2 z hp)];exact sm b u z,?_⟩
 ·rw [List.length_map,List.length_map,List.length_take];lia
 ·rw [qA1,List.take_add_one,ey,Option.toList_some,List.map_append,List.map_append];rfl
theorem in_all {nm ws:List Str} {n:Nat} (h:n=ws.length):((ws.take n).map fun x=>decide (x ∈ nm)).all id=ws.all fun x=>decide (x ∈ nm):=by
 rw [h,List.take_length,List.all_map]
 rfl
theorem words_ok {r:Str} (h:RowOk r):∀ x ∈ Txt.split r (Str.ofString " "),asc7 x:=fun x hx=>by
 rw [show Str.ofString " " = (⟨#[32]⟩:Str) from qC0] at hx
 refine ⟨Nat.le_trans (PyProof.Rows.part_short hx) h.1,fun k hk=>?_⟩
 have:=List.all_eq_true.mp h.2 k (qCZ hx k hk)
 unfold signIn at this
 rw [Bool.and_eq_true] at this
 have:=of_decide_eq_true this.2
 lia
theorem flt_100 {s:Sh} {r:Str} {rs:List Str}:fltF 100 s (r::rs)=some 100:=by unfold fltF;rw [if_pos rfl]
theorem flt_bad {i:Nat} {s:Sh} {r:Str} {rs:List Str} (h:¬ i=100) (e:rowT s r=none):fltF i s (r::rs)=some i:=by unfold fltF;rw [if_neg h,e]
theorem flt_ok {i:Nat} {s s':Sh} {r:Str} {rs:List Str} (h:¬ i=100) (e:rowT s r=some s'):fltF i s (r::rs)=fltF (i+1) s' rs:=by rw [fltF,if_neg h,e]
theorem drop_at {rows:List Str} {i:Nat} {r:Str} (h:rows[i]?=some r):rows.drop i=r::rows.drop (i+1):=by
 obtain ⟨hi,e⟩:=List.getElem?_eq_some_iff.mp h
 rw [List.drop_eq_getElem_cons hi,e]
theorem sim0:Sim sh0 false [] 0:=⟨rfl,rfl,rfl,rfl,by show 0≤40;decide,by simp⟩
theorem row_nil {s:Sh}:rowT s (Str.ofString "")=some s:=by unfold rowT;rw [if_pos rfl]
end Fw
namespace Fw
open PySem L2 PySem.NumText
section
variable {nm:List Str}
end
end Fw
namespace Fw
open PySem L2 PySem.NumText
theorem asc_of {x:Str} (h:∀ k ∈ x.cps.toList,32≤k∧k≤126):asc x=true:=by
 unfold asc
 rw [List.all_eq_true]
 intro k hk
 have:=h k hk
 unfold signIn
 rw [decide_eq_true this.1,decide_eq_true this.2]
 rfl
theorem asc_mem {x:Str} (h:asc x=true):∀ k ∈ x.cps.toList,32≤k∧k≤126:=fun k hk=>by
 have:=List.all_eq_true.mp h k hk
 unfold signIn at this
 rw [Bool.and_eq_true] at this
 exact ⟨of_decide_eq_true this.1,of_decide_eq_true this.2⟩
theorem asc_cat {x y:Str} (hx:asc x=true) (hy:asc y=true):asc (x++y)=true:=asc_of fun k hk=>by
 rw [qCW] at hk
 rcases List.mem_append.mp hk with h | h
 ·exact asc_mem hx k h
 ·exact asc_mem hy k h
theorem asc_join {ws:List Str} (h:∀ x ∈ ws,asc x=true):asc (Str.join (Str.ofString " ") ws)=true:=asc_of fun k hk=>by
 rw [show Str.ofString " " = (⟨#[32]⟩:Str) from qC0,qCJ] at hk
 rcases of_mem_lj hk with rfl | ⟨y,hy,hk⟩
 ·decide
 ·obtain ⟨x,hx,rfl⟩:=List.mem_map.mp hy
  exact asc_mem (h x hx) k hk
theorem asc_take {x:Str} {n:Nat} (h:asc x=true):asc (⟨(x.cps.toList.take n).toArray⟩:Str)=true:=asc_of fun k hk=>asc_mem h k (List.mem_of_mem_take (by simpa using hk))
theorem take_len {x:Str} {n:Nat}:(⟨(x.cps.toList.take n).toArray⟩:Str).length≤n:=by
 rw [qBB]
 simp
 lia
def W9 (x:Str):Prop:=asc x=true∧x.length≤9
theorem w9_sum:∀ {ws:List Str},(∀ x ∈ ws,W9 x)→(ws.map (·.length)).sum≤9 * ws.length
 | [],_=>Nat.le_refl _
 | x::ws,h=>by
  have h1:=(h x (List.mem_cons_self ..)).2
  have h2:=w9_sum (ws:=ws) fun y hy=>h y (List.mem_cons_of_mem _ hy)
  rw [List.map_cons,List.sum_cons,List.length_cons]
  lia
theorem row_join {ws:List Str} (h:∀ x ∈ ws,W9 x) (l:ws.length≤19):RowOk (Str.join (Str.ofString " ") ws):=by
 refine ⟨?_,asc_join fun x hx=>(h x hx).1⟩
 cases ws with
 | nil=>decide +kernel
 | cons x r=>
  have:=join_len (c:=32) (ws:=x::r) (by simp)
  have:=w9_sum h
  rw [show Str.ofString " " = (⟨#[32]⟩:Str) from qC0]
  lia
theorem big_sum {ws:List Str} (h:∀ x ∈ ws,W9 x) (l:ws.length≤100):(ws.map (·.length)).sum+ws.length * (Str.ofString " ").length≤10000000:=by
 have:=w9_sum h
 rw [show (Str.ofString " ").length=1 by decide]
 lia
theorem lname_w9 {f k:Nat} (h:k<52):W9 (lname f k):=by
 have e:(lname f k).cps.toList=List.replicate (1+k / 26) (97+(f+k) % 26):=by
  unfold lname
  rcases (by lia:k / 26=0∨k / 26=1) with e | e
  ·rw [e];rfl
  ·rw [e];rfl
 refine ⟨asc_of fun c hc=>?_,?_⟩
 ·rw [e] at hc
  have:=(List.mem_replicate.mp hc).2
  lia
 ·rw [qBB,e,List.length_replicate];lia
theorem w16_w9:∀ w ∈ w16,asc w=true∧w.length≤9:=by decide +kernel
theorem names_w {f:Nat} {fs us ws:List Str} {js:List Nat} (h:fs.Perm (us++js.map (lname f))) (hu:(us++ws).Perm w16) (hj:∀ j ∈ js,j<52):∀ x ∈ fs,W9 x:=fun x hx=>by
 rcases List.mem_append.mp (h.mem_iff.mp hx) with hx | hx
 ·exact w16_w9 x (hu.mem_iff.mp (List.mem_append_left _ hx))
 ·obtain ⟨j,hj',rfl⟩:=List.mem_map.mp hx
  exact lname_w9 (hj j hj')
theorem txt72 {rows:List Str} (h0:rows ≠ []) (h:∀ r ∈ rows,RowOk r) (lr:rows.length≤120):(rows.map (·.length)).sum+rows.length * (Str.ofString "\n").length≤10000000∧(Str.join (Str.ofString "\n") rows).length≤90000∧Txt.split (Str.join (Str.ofString "\n") rows) (Str.ofString "\n")=rows:=by
 have s:∀ {rows:List Str},(∀ r ∈ rows,RowOk r)→(rows.map (·.length)).sum≤200 * rows.length:=by
  intro rows h
  induction rows with
  | nil=>exact Nat.le_refl _
  | cons x r ih=>
   have h1:=(h x (List.mem_cons_self ..)).1
   have h2:=ih fun y hy=>h y (List.mem_cons_of_mem _ hy)
   rw [List.map_cons,List.sum_cons,List.length_cons]
   lia
 have:=s h
 refine ⟨?_,?_,?_⟩
 ·rw [show (Str.ofString "\n").length=1 by decide];lia
 ·have:=join_len (c:=10) h0
  rw [show Str.ofString "\n" = (⟨#[10]⟩:Str) by decide +kernel]
  lia
 ·rw [show Str.ofString "\n" = (⟨#[10]⟩:Str) by decide +kernel,split_join h0 fun p hp z=>by have:=asc_mem (h p hp).2 10 z;lia]
def pre5 (r:Str):Bool:=decide ((⟨(r.cps.toList.take 5).toArray⟩:Str)=Str.ofString "work ")
theorem pre_list {r:Str}:pre5 r=true ↔ ∃ l,r.cps.toList=(Str.ofString "work").cps.toList++32::l:=by
 have e5:(Str.ofString "work ").cps.toList=(Str.ofString "work").cps.toList++[32]:=by decide +kernel
 unfold pre5
 rw [decide_eq_true_iff]
 constructor
 ·intro h
  have h2:=congrArg (fun x:Str=>x.cps.toList) h
  simp only [e5] at h2
  refine ⟨r.cps.toList.drop 5,?_⟩
  have:=List.take_append_drop 5 r.cps.toList
  rw [h2] at this
  rw [← this,List.append_assoc]
  rfl
 ·rintro ⟨l,h⟩
  apply str_ext
  rw [e5,h]
  have:((Str.ofString "work").cps.toList++32::l).take 5=(Str.ofString "work").cps.toList++[32]:=by
   rw [show (Str.ofString "work").cps.toList=[119,111,114,107] by decide +kernel]
   rfl
  simp only [this]
theorem pre_words {r:Str}:pre5 r=true ↔ ∃ w ws,Txt.split r (Str.ofString " ")=Str.ofString "work" :: w::ws:=by
 have e:=congrArg (fun x:Str=>x.cps.toList) (StrLaws.join_split r ⟨#[32]⟩)
 simp only [qCJ] at e
 have fr:=StrLaws.split_free r 32
 have np:=PyProof.Rows.split_pos r (Str.ofString " ")
 have nw:32 ∉ (Str.ofString "work").cps.toList:=by decide +kernel
 rw [pre_list]
 rw [show Str.ofString " " = (⟨#[32]⟩:Str) from qC0] at np ⊢
 generalize Txt.split r (⟨#[32]⟩:Str)=ws at e fr np ⊢
 match ws,np with
 | [w],_=>
  constructor
  ·rintro ⟨l,h⟩
   have e2:w.cps.toList=r.cps.toList:=e
   refine absurd ?_ (fr w (by simp))
   rw [e2,h]
   simp
  ·rintro ⟨w',ws',h⟩
   cases h
 | w::w'::ws,_=>
  have e2:w.cps.toList++32::lj 32 ((w'::ws).map (·.cps.toList))=r.cps.toList:=e
  constructor
  ·rintro ⟨l,h⟩
   rw [h] at e2
   have:=(cut_at (fr w (by simp)) nw e2).1
   exact ⟨w',ws,by rw [str_ext this]⟩
  ·rintro ⟨v,vs,h⟩
   cases h
   exact ⟨_,e2.symm⟩
theorem row_names {s s':Sh} {r:Str} (h:rowT s r=some s'):s'.names.length=s.names.length+(if pre5 r=true then 1 else 0):=by
 by_cases h0:r=Str.ofString ""
 ·rw [h0,row_nil] at h
  cases h
  rw [if_neg (by rw [h0];decide +kernel)]
  rfl
 unfold rowT at h
 rw [if_neg h0] at h
 split at h
 ·split at h
  ·cases h
  ·have pw:=pre_words (r:=r)
   generalize Txt.split r (Str.ofString " ")=ws at h pw
   unfold wordsT at h
   split at h
   ·match ws,h with
    | [a,b],h=>
     rw [show roomsT s [a,b]=if a=Str.ofString "rooms" then (rmF b).map (fun n=>{ s with rooms:=some n }) else none from rfl] at h
     split at h
     ·rename_i ea
      obtain ⟨n,_,rfl⟩:=Option.map_eq_some_iff.mp h
      rw [if_neg fun z=>?_]
      ·rfl
      ·obtain ⟨w,ws,e⟩:=pw.mp z
       rw [ea] at e
       exact absurd (List.cons.inj e).1 (by decide +kernel)
     ·cases h
    | [],h=>cases h
    | [_],h=>cases h
    | _::_::_::_,h=>cases h
   ·split at h
    ·rename_i hw
     match ws,h with
     | a::x::r',h=>
      have ea:a=Str.ofString "work":=Option.some.inj hw
      rw [show workT s (a::x::r')=if s.deeds.isEmpty=false∨s.net.length=40∨isNm x=false∨x ∈ s.names then none else (wkF s.names r').map (fun ks=>{ s with names:=s.names++[x],net:=s.net++[ks] }) from rfl] at h
      split at h
      ·cases h
      ·obtain ⟨n,_,rfl⟩:=Option.map_eq_some_iff.mp h
       rw [if_pos (pw.mpr ⟨x,r',by rw [ea]⟩)]
       show (s.names++[x]).length=_
       rw [List.length_append]
       rfl
     | [],h=>cases h
     | [_],h=>cases h
    ·rename_i hw
     unfold deedT at h
     split at h
     ·cases h
     ·obtain ⟨n,_,rfl⟩:=Option.map_eq_some_iff.mp h
      rw [if_neg fun z=>?_]
      ·rfl
      ·obtain ⟨w,ws,e⟩:=pw.mp z
       exact hw (by rw [e];rfl)
 ·cases h
theorem fold_names:∀ {rs:List Str} {s s':Sh},foldT s rs=some s'→s'.names.length=s.names.length+(rs.filter pre5).length
 | [],s,s',h=>by cases h;rfl
 | r::rs,s,s',h=>by
  obtain ⟨s1,h1,h2⟩:=Option.bind_eq_some_iff.mp h
  have a:=row_names h1
  have b:=fold_names h2
  rw [List.filter_cons]
  split at a <;> rename_i z
  ·rw [if_pos z,List.length_cons];lia
  ·rw [if_neg z];lia
def spReadW (C:Addr):Sp:=fun vs H Q E=>∃ x:Str,vs=[.str x]∧x.length≤90000∧
 (fltF 0 sh0 (Txt.split x "\n")=none→∀ p t1 t2 a c H',Same H H'→H' p=some (.tup [a,.ref t1,.ref t2,.ref c])→(∃ nm:List Str,H' t1=some (.tup (nm.map V.str))∧nm.length=((Txt.split x "\n").filter pre5).length)→Q (.ref p) H')∧
 (∀ n dx H',fltF 0 sh0 (Txt.split x "\n")=some n→Same H H'→H' dx=some (XDic dx (xrow n))→E (.ref C) (some dx) H')
def spNamesW:Sp:=fun vs H Q _=>∃ d c t ns m,vs=[.ref d,.int m]∧StAt H d c t ns∧t≤TB - 1000∧1≤m∧m≤50∧
 ∀ (l:Addr) (nm:List Str) (t':Int) (ns':List Int) (H':Hp),StAt H' d c t' ns'→t≤t'→t'≤t+100→Keep d c H H'→H l=none→H' l=some (.lst (nm.map V.str))→(∀ x ∈ nm,W9 x)→(nm.length:Int)=m→Q (.ref l) H'
def spHeadW:Sp:=fun vs H Q _=>∃ (d c:Addr) (t:Int) (ns:List Int) (ln a:Addr) (nm:List Str) (net:List (List Int)) (r:Int),vs=[.ref d,.ref ln,.ref a,.int r]∧StAt H d c t ns∧t≤TB - 10000∧H ln=some (.lst (nm.map V.str))∧ln ≠ c∧NetAt H a net∧WFn net∧net.length=nm.length∧nm.length≤12∧(∀ x ∈ nm,W9 x)∧1≤r∧r≤100∧
 ∀ (l:Addr) (rows:List Str) (t':Int) (ns':List Int) (H':Hp),StAt H' d c t' ns'→t≤t'→t'≤t+2400→Keep d c H H'→H l=none→H' l=some (.lst (rows.map V.str))→(∀ r ∈ rows,RowOk r)→rows.length=net.length+1→Q (.ref l) H'
def spManyR:Sp:=fun vs H Q _=>∃ (d c:Addr) (t:Int) (ns:List Int) (ln a:Addr) (nm:List Str) (net:List (List Int)),vs=[.ref d,.ref ln,.ref a]∧StAt H d c t ns∧t≤TB - 20000∧H ln=some (.lst (nm.map V.str))∧ln ≠ c∧NetAt H a net∧WFn net∧net.length=nm.length∧1≤nm.length∧nm.length≤12∧(∀ x ∈ nm,W9 x)∧
 ∀ (l:Addr) (rows:List Str) (t':Int) (ns':List Int) (H':Hp),StAt H' d c t' ns'→t≤t'→t'≤t+3000→Keep d c H H'→H l=none→H' l=some (.lst (rows.map V.str))→(∀ r ∈ rows,RowOk r)→rows ≠ []→rows.length≤120→Q (.ref l) H'
def spAsks:Sp:=fun vs H Q _=>∃ (d c:Addr) (t:Int) (ns:List Int) (ln:Addr) (nm:List Str),vs=[.ref d,.ref ln]∧StAt H d c t ns∧t≤TB - 10000∧H ln=some (.lst (nm.map V.str))∧ln ≠ c∧nm.length≤12∧(∀ x ∈ nm,W9 x)∧
 ∀ (l:Addr) (rows:List Str) (t':Int) (ns':List Int) (H':Hp),StAt H' d c t' ns'→t≤t'→t'≤t+1000→Keep d c H H'→H l=none→H' l=some (.lst (rows.map V.str))→(∀ r ∈ rows,RowOk r)→rows.length=4→Q (.ref l) H'
theorem hrow_ok:∀ n:Nat,n≤100→(hrow (n:Int)).length≤9∧asc (hrow (n:Int))=true∧(Str.ofString (toString (n:Int))).length≤3:=by decide +kernel
theorem log_100 {r:Int} (h0:1≤r) (h1:r≤100):r.natAbs.log2<1920:=by
 have:r.natAbs.log2<7:=(Nat.log2_lt (by lia)).mpr (show r.natAbs<2 ^ 7 by lia)
 lia
theorem nm_w9 {nm:List Str} (ok:∀ x ∈ nm,W9 x) {z:Int} (h0:0≤z) (h1:z<nm.length):W9 (nmAt nm z):=ok _ (List.mem_of_getElem? (nmAt_get h0 h1))
theorem work_w9:W9 (Str.ofString "work"):=⟨by decide +kernel,by decide +kernel⟩
theorem snoc_ok {rows:List Str} {r:Str} (h:∀ r ∈ rows,RowOk r) (hr:RowOk r):∀ x ∈ rows++[r],RowOk x:=fun x hx=>by
 rcases List.mem_append.mp hx with hx | hx
 ·exact h x hx
 ·rw [List.mem_singleton.mp hx];exact hr
def asks6:List Str:=["plain","few","stair","steps 9","steps 99","steps 100"]
theorem asks6_w9:∀ w ∈ asks6,asc w=true∧w.length≤9:=by decide +kernel
theorem at_strs {l:List Str} {z:Int} (h0:0≤z) (h1:z<l.length):∃ w ∈ l,atI (l.map V.str) z=some (.str w):=by
 have e:l[z.toNat]?=some (l[z.toNat]'(by lia)):=List.getElem?_eq_getElem (by lia)
 exact ⟨_,List.getElem_mem _,get_at h0 (by rw [List.getElem?_map,e];rfl)⟩
theorem pickR {k:Int} (h0:0≤k):∃ r:Int,atI [V.int 1,V.int 99,V.int 100,V.int 98] (if k<3 then k else 3)=some (.int r)∧1≤r∧r≤100:=by
 by_cases h:k<3
 ·rw [if_pos h]
  rcases (by lia:k=0∨k=1∨k=2) with rfl | rfl | rfl
  ·exact ⟨_,rfl,by decide,by decide⟩
  ·exact ⟨_,rfl,by decide,by decide⟩
  ·exact ⟨_,rfl,by decide,by decide⟩
 ·rw [if_neg h]
  exact ⟨_,rfl,by decide,by decide⟩
theorem w9_row {x y:Str} (hx:asc x=true∧x.length≤20) (hy:W9 y):RowOk (x++y):=by
 refine ⟨?_,asc_cat hx.1 hy.1⟩
 have:=hy.2
 have e:(x++y).length=x.length+y.length:=by rw [qBB,qCW,List.length_append,qBB,qBB]
 lia
theorem last_strs {l:List Str} (h:1≤l.length):∃ w ∈ l,atI (l.map V.str) (-1)=some (.str w):=by
 have e:l[l.length - 1]?=some (l[l.length - 1]'(by lia)):=List.getElem?_eq_getElem (by lia)
 refine ⟨l[l.length - 1]'(by lia),List.getElem_mem _,?_⟩
 unfold atI ixN
 rw [if_neg (by decide),List.length_map,if_pos (by lia),show ((-1:Int)+(l.length:Int)).toNat=l.length - 1 by lia]
 show (l.map V.str)[l.length - 1]?=_
 rw [List.getElem?_map,e]
 rfl
def RwAt (H:Hp) (l:Addr):Prop:=∃ rows:List Str,H l=some (.lst (rows.map V.str))∧rows ≠ []∧rows.length≤120∧∀ r ∈ rows,RowOk r
structure TxAt (H:Hp) (d c lt:Addr) (ls:List Addr):Prop where
 at_:H lt=some (.lst (ls.map V.ref))
 nd:lt ≠ d
 nc:lt ≠ c
 all:∀ l ∈ ls,l ≠ d∧l ≠ c∧l ≠ lt∧RwAt H l
theorem TxAt.keep {H H':Hp} {d c lt:Addr} {ls:List Addr} (T:TxAt H d c lt ls) (k:Keep d c H H'):TxAt H' d c lt ls:=
 ⟨k _ _ T.at_ T.nd T.nc,T.nd,T.nc,fun l hl=>by
  obtain ⟨a,b,e,rows,g,h⟩:=T.all l hl
  exact ⟨a,b,e,rows,k _ _ g a b,h⟩⟩
theorem TxAt.push {H:Hp} {d c lt l:Addr} {ls:List Addr} (T:TxAt H d c lt ls) (h1:l ≠ d) (h2:l ≠ c) (h3:l ≠ lt) (r:RwAt H l):TxAt (upd H lt (.lst (ls.map V.ref++[.ref l]))) d c lt (ls++[l]):=by
 refine ⟨by rw [qA1,List.map_append];rfl,T.nd,T.nc,fun y hy=>?_⟩
 have up:∀ {y:Addr},y ≠ lt→RwAt H y→RwAt (upd H lt (.lst (ls.map V.ref++[.ref l]))) y:=fun n r=>by
  obtain ⟨rows,g,h⟩:=r
  exact ⟨rows,by rw [qA7 n];exact g,h⟩
 rcases List.mem_append.mp hy with hy | hy
 ·obtain ⟨a,b,e,r'⟩:=T.all y hy
  exact ⟨a,b,e,up e r'⟩
 ·rw [List.mem_singleton.mp hy]
  exact ⟨h1,h2,h3,up h3 r⟩
theorem stat_put {H:Hp} {d c p:Addr} {t:Int} {ms:List Int} {o:HO} (S:StAt H d c t ms) (h1:p ≠ d) (h2:p ≠ c):StAt (upd H p o) d c t ms:=
 ⟨by rw [qA7 h1.symm];exact S.dict,by rw [qA7 h2.symm];exact S.list,S.ne,S.len,S.pos⟩
def okB2 (x:Str):Bool:=decide (x.length≤200) && asc x
theorem lit_row {x:Str} (h:okB2 x=true):RowOk x:=by
 unfold okB2 at h
 rw [Bool.and_eq_true] at h
 exact ⟨of_decide_eq_true h.1,h.2⟩
theorem join_few {ws:List Str} (h:∀ x ∈ ws,W9 x) (l:ws.length≤50):(Str.join (Str.ofString " ") ws).length≤1000:=by
 cases ws with
 | nil=>decide +kernel
 | cons x r=>
  have:=join_len (c:=32) (ws:=x::r) (by simp)
  have:=w9_sum h
  rw [show Str.ofString " " = (⟨#[32]⟩:Str) from qC0]
  lia
theorem cutI_sub {α:Type} {xs:List α} {lo hi:Option Int}:(∀ x ∈ cutI xs lo hi,x ∈ xs)∧(cutI xs lo hi).length≤xs.length:=by
 unfold cutI
 refine ⟨fun x hx=>List.mem_of_mem_drop (List.mem_of_mem_take hx),?_⟩
 rw [List.length_take,List.length_drop]
 lia
theorem rep_s {x:Str}:∀ n:Nat,(List.replicate n [V.str x]).flatten=(List.replicate n x).map V.str
 | 0=>rfl
 | n+1=>by rw [List.replicate_succ,List.replicate_succ,List.flatten_cons,rep_s n];rfl
theorem pre5_dec {z:Str}:decide (V.str (⟨(z.cps.toList.take 5).toArray⟩:Str)=V.str (Str.ofString "work "))=pre5 z:=by
 unfold pre5
 rw [decide_eq_decide]
 exact ⟨V.str.inj,fun h=>by rw [h]⟩
end Fw
namespace Fw
open PySem L2
section
variable {P:Program} {w:World} {K:PySem.W.Frag} {mg:Str→Option Value} {base:Heap} {f:Addr} {fd:FuncData} {f_Ltake f_Lsome_needs f_Ltree_net f_works_named c_ALONE c_OF_ONE c_OF_SOME f_rooms_in f_asked_named f_steps_ask c_Sheet f_Sheet_take_rooms f_Sheet_take_work f_Sheet_take_deed f_Sheet_take_words f_deed_of f_is_name f_Lmixed f_Lhead f_Lplain f_Lare_asked f_Lis_name f_Lis_work f_Lis_deed c_BadRow f_Lbegin f_Lnet f_Lnames f_Lmany_rows f_Lasks f_Lfirst_fault f_Lrefused f_read_sheet f_Lsame:Addr} {fd_Ltake fd_Lsome_needs fd_Ltree_net fd_works_named fd_rooms_in fd_asked_named fd_steps_ask fd_Sheet_take_rooms fd_Sheet_take_work fd_Sheet_take_deed fd_Sheet_take_words fd_deed_of fd_is_name fd_Lmixed fd_Lhead fd_Lplain fd_Lare_asked fd_Lis_name fd_Lis_work fd_Lis_deed fd_Lbegin fd_Lnet fd_Lnames fd_Lmany_rows fd_Lasks fd_Lfirst_fault fd_Lrefused fd_read_sheet fd_Lsame:FuncData} {tk_MOST_LETTERS tk_MOST_ROOMS tk_MOST_ASKED tk_MOST_WORKS tk_MOST_SIGNS:Tok}
theorem sc_Lbegin:FnScope ["_law_script","_law_cells"] ["_law_script"] (defScope s_Lbegin):=sc_mk
theorem ok_Lbegin (F:Fun K "_law_begin" "_law_begin" s_Lbegin f fd) (z_list:mg "list" = none):FnOk P w K mg base CX0 1 f fd ["_law_script"] (spBegin K):=by
 refine F.okA sc_Lbegin fun cdv A outer s H vs Q E hr h=>?_
 obtain ⟨a,ns,rfl,hS,h63,q⟩:=h
 have hu:=hu_of hr
 have hu0:=hr.units0
 refine ⟨_,(qA5 (qAF (i:=1) sc_Lbegin.nd rfl (Or.inl rfl) (qAH call_list_of rfl z_list bt_list (qA0 (qAU qB6 (pv 0) qB4 (qB3 qA6)) qA4))) (qA5 (ps_if (qAB (op_eq_nil hu0) (pv 1) (qAO qA4) (nomark _)) (qA8 (qAF (i:=1) sc_Lbegin.nd rfl (Or.inl rfl) (qAO (qA0 qA6 qA4)))) qAG) (qA8 (qAD (pe_disp (pps_cons qAE (pv 1) (pps_cons qAE qA6 pps_nil)) rfl rfl (by simp) (by decide)))))),?_⟩
 try dsimp only [Cx.nox,Cx.wish,cxOf]
 refine ⟨_,rfl,_,rfl,a,_,rfl,hS,fun p hp=>?_⟩
 rw [qBQ]
 have hl:(cutI ns none (some 63)).length≤63:=Nat.le_trans (cutI_len _ _ _) h63
 refine ⟨p,_,rfl,.inl (SqL.of qA1),fun c hc=>?_⟩
 have s1:Same H (upd (upd H p (.lst ((cutI ns none (some 63)).map V.int))) c (.lst ((cutI ns none (some 63)).map V.int))):=(qA3 hp _).trans (qA3 hc _)
 refine ⟨_,rfl,(by show 0≤sizeLine;decide),fun e he=>?_⟩
 have hce:c ≠ e:=qA2 qA1 he
 refine ⟨c,e,_,rfl,rfl,SqL.of (by rw [qA7 hce];exact qA1),SqL.of qA1,_,rfl,?_⟩
 have s2:=s1.trans (qA3 he (.lst []))
 cases hm:cutI ns none (some 63) with
 | nil=>
  rw [hm] at s2 he
  refine iteT ?_
  refine ⟨(by show 1≤sizeLine;decide),fun c2 hc2=>?_⟩
  have s3:=s2.trans (qA3 hc2 (.lst [.int 7]))
  intro d hd
  refine ⟨_,rfl,?_⟩
  have s4:=s3.trans (qA3 hd (.dK []))
  refine ⟨qA1,[(Sum.inr (Str.ofString "cells"),.ref c2),(Sum.inr (Str.ofString "turn"),.int 0)],rfl,(by show 2≤15;decide),?_⟩
  have ncd:c2 ≠ d:=qA2 qA1 hd
  refine q d c2 [7] _ ⟨?_,?_,by decide,by decide,by decide⟩ ?_ ?_ ?_
  ·rw [qA1,merge2]
  ·rw [qA7 ncd,qA7 ncd];exact qA1
  ·rw [upd_upd];exact s3.trans (qA3 hd _)
  ·exact s3.free hd
  ·exact s2.free hc2
 | cons x r=>
  rw [hm] at s2 he hl
  refine iteF ?_
  intro d hd
  refine ⟨_,rfl,?_⟩
  refine ⟨qA1,[(Sum.inr (Str.ofString "cells"),.ref c),(Sum.inr (Str.ofString "turn"),.int 0)],rfl,(by show 2≤15;decide),?_⟩
  have gc:(upd (upd (upd H p (.lst ((x::r).map V.int))) c (.lst ((x::r).map V.int))) e (.lst [])) c=some (.lst ((x::r).map V.int)):=by rw [qA7 hce];exact qA1
  have ncd:c ≠ d:=qA2 gc hd
  refine q d c (x::r) _ ⟨?_,?_,by simp,hl,by decide⟩ ?_ ?_ ?_
  ·rw [qA1,merge2]
  ·rw [qA7 ncd,qA7 ncd];exact gc
  ·rw [upd_upd];exact s2.trans (qA3 hd _)
  ·exact s2.free hd
  ·rw [hm] at hc;exact (qA3 hp _).free hc
theorem sc_Ltake:FnScope ["_law_state","_law_many","_law_turn","_law_place","_law_cell","_law_digit","_law_mixed_here"] ["_law_state","_law_many"] (defScope s_Ltake):=sc_mk
theorem ok_Ltake (F:Fun K "_law_take" "_law_take" s_Ltake f fd) (z_len:mg "len" = none) (z_divmod:mg "divmod" = none):FnOk P w K mg base CX0 1 f fd ["_law_state","_law_many"] spTake:=by
 refine F.okA sc_Ltake fun cdv A outer s H vs Q E hr h=>?_
 obtain ⟨d,c,t,ns,m,rfl,S,ht,hm1,hm2,q⟩:=h
 have hu:=hu_of hr
 refine ⟨_,(qA5 (qAF (i:=2) sc_Ltake.nd rfl (Or.inl rfl) (pe_op qBN (pe_dget hu (pv 0) qAE (fun _ _=>rfl)) qA6)) (qA5 (ps_dput hu (pv 0) qAE (pv 2) rfl) (qA5 (qAF (i:=3) sc_Ltake.nd rfl (Or.inl rfl) (pe_op op_mod (pv 2) (qA9 qAA rfl z_len qAJ (qA0 (pe_dget hu (pv 0) qAE (fun _ _=>rfl)) qA4)))) (qA5 (qAF (i:=4) sc_Ltake.nd rfl (Or.inl rfl) (pe_ix qAI (pe_dget hu (pv 0) qAE (fun _ _=>rfl)) (pv 3) (fun _ _=>rfl))) (qA5 (ps_if (qAB op_ge (pv 4) (pe_op op_pow qA6 qA6) (nomark _)) (qA5 (ps_asg (qA9 call_divmod rfl z_divmod bt_divmod (qA0 (pv 4) (qA0 (pv 1) qA4))) (pg_tup rfl (qBA (pg_sub (pe_dget hu (pv 0) qAE (fun _ _=>rfl)) (pv 3) set_list) (qBA (qB7 (i:=5) sc_Ltake.nd rfl (Or.inl rfl)) pgs_nil)))) (qA8 (qAD (pv 5)))) qAG) (qA5 (qAF (i:=6) sc_Ltake.nd rfl (Or.inl rfl) (pe_op op_mod (pe_op op_mul (pe_op qBN (pe_op qBN (pe_op op_mod (pv 4) qA6) (pe_op op_mul (pe_op op_mul (pv 2) (pv 2)) qA6)) qA6) qA6) qA6)) (qA5 (qAF (i:=6) sc_Ltake.nd rfl (Or.inl rfl) (pe_op op_mod (pe_op op_mul (pv 6) (pv 6)) qA6)) (qA8 (qAD (pe_op op_mod (pe_op op_fdiv (pe_op op_mod (pe_op op_mul (pe_op qBN (pv 6) (pe_op op_mul (pv 2) qA6)) qA6) qA6) qA6) (pv 1))))))))))),?_⟩
 try dsimp only [Cx.nox,Cx.wish,cxOf]
 have hpos:=S.pos
 have hne:=S.ne
 have ht':t≤1000000000:=ht
 refine ⟨_,rfl,d,_,rfl,dg_turn S,_,_,rfl,rfl,?_⟩
 refine ⟨_,rfl,_,rfl,d,_,rfl,dp_turn S,?_⟩
 have S1:=S.turn (u:=t+1) (by lia)
 have k1:Keep d c H (upd H d (.dK [(Sum.inr (Str.ofString "cells"),.ref c),(Sum.inr (Str.ofString "turn"),.int (t+1))])):=fun b o e n _=>by rw [qA7 n];exact e
 generalize upd H d (.dK [(Sum.inr (Str.ofString "cells"),.ref c),(Sum.inr (Str.ofString "turn"),.int (t+1))])=H1 at S1 k1
 have hlen:(((ns.map V.int).length:Nat):Int)=(ns.length:Int):=by rw [List.length_map]
 refine ⟨_,rfl,_,rfl,d,_,rfl,dg_cells S1,c,_,rfl,.inl (SqL.of S1.list),_,_,rfl,rfl,(by rw [hlen];lia),?_⟩
 have p0:0≤(t+1) % (((ns.map V.int).length:Nat):Int):=Int.emod_nonneg _ (by rw [hlen];lia)
 have p1:(t+1) % (((ns.map V.int).length:Nat):Int)<(ns.length:Int):=by
  have:=Int.emod_lt_of_pos (t+1) (b:=(((ns.map V.int).length:Nat):Int)) (by rw [hlen];lia)
  rw [hlen] at this ⊢
  exact this
 dsimp only
 generalize (t+1) % (((ns.map V.int).length:Nat):Int)=pl at p0 p1
 obtain ⟨j,rfl⟩:∃ j:Nat,pl=(j:Int):=⟨pl.toNat,by lia⟩
 have hj:j<ns.length:=by lia
 have hat:atI (ns.map V.int) (j:Int)=some (.int ns[j]):=qAN (by rw [List.getElem?_map,List.getElem?_eq_getElem hj];rfl)
 refine ⟨_,rfl,d,_,rfl,dg_cells S1,_,rfl,c,_,_,_,rfl,rfl,SqL.of S1.list,hat,?_⟩
 generalize hx:ns[j]=x at hat ⊢
 refine ⟨_,rfl,_,_,rfl,rfl,⟨by decide,by decide,by decide⟩,_,_,rfl,rfl,_,rfl,?_⟩
 refine ite2 (fun _=>?_) (fun _=>?_)
 ·-- a great cell
  refine ⟨_,rfl,_,rfl,x,m,rfl,⟨by lia,by lia⟩,fun p hp=>?_⟩
  have S2:=S1.new hp (.tup [.int (x / m),.int (x % m)])
  have npc:p ≠ c:=(qA2 S1.list hp).symm
  refine ⟨p,_,rfl,SqT.of qA1,rfl,_,_,rfl,?_⟩
  refine ⟨_,rfl,d,_,rfl,dg_cells S2,_,rfl,c,_,_,j,rfl,rfl,S2.list,ixN_nat (by rw [List.length_map];exact hj),?_⟩
  refine ⟨_,_,rfl,rfl,?_⟩
  refine ⟨_,rfl,?_⟩
  have e1:(ns.map V.int).set j (.int (x / m))=(ns.set j (x / m)).map V.int:=by rw [List.map_set]
  rw [e1]
  refine q (x % m) (ns.set j (x / m)) _ (Int.emod_nonneg _ (by lia)) (Int.emod_lt_of_pos _ (by lia)) (S2.put (by rw [List.length_set])) ?_
  have k2:=k1.trans (qAV (d:=d) (c:=c) hp (.tup [.int (x / m),.int (x % m)]))
  exact fun b o e n1 n2=>by rw [qA7 n2];exact k2 b o e n1 n2
 ·have b1:0≤x % 2147483629:=Int.emod_nonneg _ (by decide)
  have b2:x % 2147483629<2147483629:=Int.emod_lt_of_pos _ (by decide)
  refine ⟨_,rfl,_,_,rfl,rfl,(by show (0:Int)<2147483629;decide),_,rfl,_,rfl,_,_,rfl,rfl,.inl ⟨by lia,by lia⟩,_,_,rfl,rfl,.inr ⟨by decide,by decide⟩,_,_,rfl,rfl,_,_,rfl,rfl,_,_,rfl,rfl,.inr ⟨by decide,by decide⟩,_,_,rfl,rfl,(by show (0:Int)<2147483647;decide),?_⟩
  have c1:=Int.emod_nonneg ((x % 2147483629+(t+1) * (t+1) * 7919+11) * 48271) (b:=2147483647) (by decide)
  have c2:=Int.emod_lt_of_pos ((x % 2147483629+(t+1) * (t+1) * 7919+11) * 48271) (b:=2147483647) (by decide)
  dsimp only
  generalize ((x % 2147483629+(t+1) * (t+1) * 7919+11) * 48271) % 2147483647=y at c1 c2
  refine ⟨_,rfl,_,rfl,_,_,rfl,rfl,.inl ⟨by lia,by lia⟩,_,_,rfl,rfl,(by show (0:Int)<2147483587;decide),?_⟩
  dsimp only
  generalize y * y % 2147483587=z
  refine ⟨_,rfl,_,rfl,_,_,rfl,rfl,.inr ⟨by decide,by decide⟩,_,_,rfl,rfl,_,_,rfl,rfl,.inr ⟨by decide,by decide⟩,_,_,rfl,rfl,(by show (0:Int)<2147483629;decide),_,_,rfl,rfl,⟨by decide,by decide⟩,_,rfl,_,_,rfl,rfl,(by lia),?_⟩
  exact q _ ns _ (Int.emod_nonneg _ (by lia)) (Int.emod_lt_of_pos _ (by lia)) S1 k1
theorem sc_Lsome_needs:FnScope ["_law_state","_law_k","_law_found","_law_turn","_law_far"] ["_law_state","_law_k"] (defScope s_Lsome_needs):=sc_mk
theorem ok_Lsome_needs (F:Fun K "_law_some_needs" "_law_some_needs" s_Lsome_needs f fd) (C_Ltake:Clb P w K mg base 1 f_Ltake fd_Ltake "_law_take" ["_law_state","_law_many"] spTake)
  (z_range:mg "range" = none) (z_min:mg "min" = none) (z_tuple:mg "tuple" = none) (z_sorted:mg "sorted" = none) (z_set:mg "set" = none):FnOk P w K mg base CX0 2 f fd ["_law_state","_law_k"] spNeeds:=by
 refine F.okA sc_Lsome_needs fun cdv A outer s H vs Q E hr h=>?_
 obtain ⟨d,c,t,ns,k,rfl,S,ht,hk0,hk1,q⟩:=h
 have ht':t≤1000000000 - 20:=ht
 have hr_Ltake:Room 1 _:=hr
 refine ⟨_,(qA5 (qAF (i:=2) sc_Lsome_needs.nd rfl (Or.inl rfl) (qAO qA4)) (qA5 (ps_for PassesOwn.never rfl (qBK rfl z_range (qA0 (pe_cl C_Ltake hr rfl (qA0 (pv 0) (qA0 qA6 qA4))) qA4)) (qB7 (i:=3) sc_Lsome_needs.nd rfl (Or.inl rfl)) (qA5 (qAF (i:=4) sc_Lsome_needs.nd rfl (Or.inl rfl) (pe_ix qAI (qAO (qA0 (qA9 (call_min2 rfl) rfl z_min bt_min (qA0 (pv 1) (qA0 qA6 qA4))) (qA0 (pv 1) qA4))) (pe_op op_fdiv (pe_cl C_Ltake hr rfl (qA0 (pv 0) (qA0 qA6 qA4))) qA6) (fun _ _=>rfl))) (qA8 (ps_if (qAB op_gt (pv 1) qA6 (nomark _)) (qA8 (qBG (pe_bm PySem.F.plainAttrs_list PySem.F.slot_list_append PySem.F.type_list_append qAY (pv 2) (qA0 (pe_op qC8 (pe_op qC8 (pv 1) qA6) (pe_cl C_Ltake hr rfl (qA0 (pv 0) (qA0 (pv 4) qA4)))) qA4)))) qAG)))) (qA8 (qAD (qAH qAM rfl z_tuple qB1 (qA0 (qA9 (qD6 rfl) rfl z_sorted bt_sorted (qA0 (qAH (call_set rfl) rfl z_set bt_set (qA0 (pv 2) qA4)) qA4)) qA4)))))),?_⟩
 try dsimp only [Cx.nox,Cx.wish,cxOf]
 refine cut fun N0 hN0=>?_
 refine ⟨(by show 0≤sizeLine;decide),fun fo hfo=>?_⟩
 have S1:=S.new hfo (.lst [])
 have nd:fo ≠ d:=(qA2 S.dict hfo).symm
 have nc:fo ≠ c:=(qA2 S.list hfo).symm
 refine hN0 _ _ (cut fun N1 hN1=>?_)
 refine ⟨_,rfl,d,c,t,ns,5,rfl,S1,(by show t≤1000000000;lia),by decide,by decide,fun j ns1 H1 j0 j5 S2 K2=>?_⟩
 refine ⟨j,rfl,by lia,by lia,qCK (lo:=0) (n:=j.toNat) (fun i σ Hc=>∃ (t':Int) (ms fs:List Int) (v1 v2:Option V),σ=[some (.ref d),some (.int k),some (.ref fo),v1,v2]∧StAt Hc d c t' ms∧t≤t'∧t'≤t+1+2 * i∧Keep d c H Hc∧
  Hc fo=some (.lst (fs.map V.int))∧fs.length≤i∧∀ x ∈ fs,0≤x∧x<k)
  ⟨t+1,ns1,[],none,none,rfl,S2,by lia,by lia,(qAV hfo _).trans K2,K2 _ _ qA1 nd nc,Nat.le_refl _,fun _ z=>nomatch z⟩ ?_ ?_⟩
 ·refine fun i σ Hc hi hI_1=>opq fun G_1 hG_1=>?_
  obtain ⟨t',ms,fs,v1,v2,rfl,S3,a1,a2,K3,h3,l3,m3⟩:=hI_1
  refine hG_1 ?_
  have hi5:(i:Int)<5:=by lia
  -- far
  refine nmD fun D1 d1 dr=>cut fun M0 hM0=>?_
  refine ⟨_,rfl,k,4,rfl,_,rfl,(by show 2≤sizeLine;decide),fun p hp=>?_⟩
  have S4:=S3.new hp (.lst [.int (if (4:Int)<k then 4 else k),.int k])
  have npd:p ≠ d:=(qA2 S3.dict hp).symm
  have npc:p ≠ c:=(qA2 S3.list hp).symm
  refine ⟨_,rfl,d,c,t',ms,4,rfl,S4,(by show t'≤1000000000;lia),by decide,by decide,fun k2 ms2 H2 g0 g4 S5 K5=>?_⟩
  obtain ⟨far,hfar,ef⟩:=pick2 (a:=if (4:Int)<k then 4 else k) (b:=k) g0 g4
  have far1:far≤k:=by rcases ef with e | e <;> (subst e;first | lia | (split <;> lia))
  have far2:0<k→1≤far:=fun hk=>by rcases ef with e | e <;> (subst e;first | lia | (split <;> lia))
  refine ⟨_,_,rfl,rfl,⟨by decide,by decide⟩,p,_,_,_,rfl,rfl,SqL.of (K5 _ _ qA1 npd npc),hfar,?_⟩
  have K6:=K3.trans ((qAV (d:=d) (c:=c) hp (.lst [.int (if (4:Int)<k then 4 else k),.int k])).trans K5)
  have h6:H2 fo=some (.lst (fs.map V.int)):=K5 _ _ (by rw [qA7 (qA2 h3 hp)];exact h3) nd nc
  refine hM0 _ _ ?_
  refine ⟨_,rfl,_,_,rfl,rfl,_,rfl,?_⟩
  refine ite2 (fun ck=>?_) (fun ck=>?_)
  ·have hk:0<k:=of_decide_eq_true ck
   refine ⟨_,rfl,.inl ⟨rfl,_,SqL.of h6⟩,_,rfl,_,_,rfl,rfl,_,rfl,_,rfl,d,c,t'+1,ms2,far,rfl,S5,(by show t'+1≤1000000000;lia),far2 hk,by lia,fun k3 ms3 H3 c0 c1 S6 K7=>?_⟩
   have h7:=K7 _ _ h6 nd nc
   refine ⟨_,_,rfl,rfl,fo,_,_,rfl,rfl,h7,small1000 (by rw [List.length_map];lia),?_⟩
   have S8:StAt (upd H3 fo (.lst (fs.map V.int++[.int (k - 1 - k3)]))) d c (t'+1+1) ms3:=⟨by rw [qA7 (Ne.symm nd)];exact S6.dict,by rw [qA7 (Ne.symm nc)];exact S6.list,S6.ne,S6.len,S6.pos⟩
   have hH:H fo=none:=hfo
   refine d1 _ _ ⟨t'+1+1,ms3,fs++[k - 1 - k3],_,_,rfl,S8,by lia,by lia,fun b o e n1 n2=>?_,?_,?_,fun x hx=>?_⟩
   ·rw [qA7 (qA2 e hH)];exact (K6.trans K7) b o e n1 n2
   ·rw [qA1,List.map_append];rfl
   ·rw [List.length_append,List.length_singleton];lia
   ·rcases List.mem_append.mp hx with hx | hx
    ·exact m3 x hx
    ·rw [List.mem_singleton.mp hx];lia
  ·exact d1 _ _ ⟨t'+1,ms2,fs,_,_,rfl,S5,by lia,by lia,K6,h6,by lia,m3⟩
 ·refine fun σ Hc hI_2=>opq fun G_2 hG_2=>?_
  obtain ⟨t',ms,fs,v1,v2,rfl,S3,a1,a2,K3,h3,l3,m3⟩:=hI_2
  refine hG_2 ?_
  refine hN1 _ _ ?_
  refine ⟨_,rfl,fo,fs,rfl,SqL.of h3,by lia,fun a ha=>?_⟩
  have sm1:=qA3 ha (SetO w a (dedI fs))
  refine ⟨a,dedI fs,rfl,.inr (.inr qA1),Nat.lt_of_le_of_lt (dedI_len fs) (by lia),fun b zs hb hp hs=>?_⟩
  have sm2:=sm1.trans (qA3 hb (.lst (zs.map V.int)))
  refine ⟨b,_,rfl,.inl ⟨SqL.of qA1,fun r hr'=>?_⟩⟩
  have sm3:=sm2.trans (qA3 hr' (.tup (zs.map V.int)))
  exact q r zs t' ms _ (S3.same sm3) (by lia) (by lia) (K3.trans (.of_same sm3)) qA1 (rise_set hp hs m3)
theorem sc_Ltree_net:FnScope ["_law_state","_law_many","_law_open_ones","_law_found","_law_k","_law_so_many"] ["_law_state","_law_many"] (defScope s_Ltree_net):=sc_mk
theorem ok_Ltree_net (F:Fun K "_law_tree_net" "_law_tree_net" s_Ltree_net f fd) (C_Ltake:Clb P w K mg base 1 f_Ltake fd_Ltake "_law_take" ["_law_state","_law_many"] spTake)
  (z_range:mg "range" = none) (z_min:mg "min" = none) (z_tuple:mg "tuple" = none) (z_len:mg "len" = none):FnOk P w K mg base CX0 2 f fd ["_law_state","_law_many"] spTree:=by
 refine F.okA sc_Ltree_net fun cdv A outer s H vs Q E hr h=>?_
 obtain ⟨d,c,t,ns,m,rfl,S,ht,hm0,hm1,q⟩:=h
 have ht':t≤1000000000 - 1000:=ht
 have hr_Ltake:Room 1 _:=hr
 refine ⟨_,(qA5 (qAF (i:=2) sc_Ltree_net.nd rfl (Or.inl rfl) (qAO qA4)) (qA5 (qAF (i:=3) sc_Ltree_net.nd rfl (Or.inl rfl) (qAO qA4)) (qA5 (ps_for PassesOwn.never rfl (qBK rfl z_range (qA0 (pe_op qC8 (pv 1) qA6) qA4)) (qB7 (i:=4) sc_Ltree_net.nd rfl (Or.inl rfl)) (qA5 (qAF (i:=5) sc_Ltree_net.nd rfl (Or.inl rfl) (qA9 (call_min2 rfl) rfl z_min bt_min (qA0 (qA9 qAA rfl z_len qAJ (qA0 (pv 2) qA4)) (qA0 (pe_ix qAI (qAO (qA0 qA6 (qA0 qA6 (qA0 qA6 (qA0 qA6 (qA0 qA6 (qA0 qA6 qA4))))))) (pe_cl C_Ltake hr rfl (qA0 (pv 0) (qA0 qA6 qA4))) (fun _ _=>rfl)) qA4)))) (qA5 (qBG (pe_bm PySem.F.plainAttrs_list PySem.F.slot_list_append PySem.F.type_list_append qAY (pv 3) (qA0 (qAH qAM rfl z_tuple qB1 (qA0 (qAU qB6 (pv 2) (qB3 (pe_op qC8 (qA9 qAA rfl z_len qAJ (qA0 (pv 2) qA4)) (pv 5))) qB4) qA4)) qA4))) (qA8 (qAF (i:=2) sc_Ltree_net.nd rfl (Or.inl rfl) (pe_op qCH (qAU qB6 (pv 2) qB4 (qB3 (pe_op qC8 (qA9 qAA rfl z_len qAJ (qA0 (pv 2) qA4)) (pv 5)))) (qAO (qA0 (pv 4) qA4)))))))) (qA8 (qAD (qAH qAM rfl z_tuple qB1 (qA0 (pe_op qCH (pv 3) (qAO (qA0 (qAH qAM rfl z_tuple qB1 (qA0 (pv 2) qA4)) qA4))) qA4))))))),?_⟩
 try dsimp only [Cx.nox,Cx.wish,cxOf]
 refine cut fun N0 hN0=>?_
 refine ⟨(by show 0≤sizeLine;decide),fun o0 ho0=>?_⟩
 refine hN0 _ _ (cut fun N1 hN1=>?_)
 have S1:=S.new ho0 (.lst [])
 refine ⟨(by show 0≤sizeLine;decide),fun fo hfo=>?_⟩
 have S2:=S1.new hfo (.lst [])
 have nd:fo ≠ d:=(qA2 S1.dict hfo).symm
 have nc:fo ≠ c:=(qA2 S1.list hfo).symm
 have no0:o0 ≠ fo:=qA2 qA1 hfo
 have hF:H fo=none:=(qA3 ho0 _).free hfo
 refine hN1 _ _ (cut fun N2 hN2=>?_)
 refine ⟨_,rfl,_,_,rfl,rfl,m - 1,rfl,by lia,by lia,qCK (lo:=0) (n:=(m - 1).toNat) (fun i σ Hc=>∃ (t':Int) (ms os:List Int) (o:Addr) (rs:List Addr) (net:List (List Int)) (v1 v2:Option V),σ=[some (.ref d),some (.int m),some (.ref o),some (.ref fo),v1,v2]∧StAt Hc d c t' ms∧t≤t'∧t'≤t+i∧Keep d c H Hc∧
  Hc o=some (.lst (os.map V.int))∧(o ≠ fo∧o ≠ c)∧Hc fo=some (.lst (rs.map V.ref))∧NetL Hc rs net∧net.length=i∧WFn net∧Rise (i:Int) os)
  ⟨t,ns,[],o0,[],[],none,none,rfl,S2,by lia,by lia,(qAV ho0 _).trans (qAV hfo _),by rw [qA7 no0];exact qA1,⟨no0,(qA2 S.list ho0).symm⟩,qA1,.nil,rfl,WFn.nil,Rise.nil⟩ ?_ ?_⟩
 ·refine fun i σ Hc hi hI_3=>opq fun G_3 hG_3=>?_
  obtain ⟨t',ms,os,o,rs,net,v1,v2,rfl,S3,a1,a2,K3,h3,⟨n3,n3c⟩,f3,N3,l3,w3,r3⟩:=hI_3
  refine hG_3 ?_
  have hlo:os.length≤i:=r3.len
  refine nmD fun D1 d1 dr=>cut fun M0 hM0=>?_
  refine ⟨_,rfl,o,_,rfl,.inl (SqL.of h3),(by show 6≤sizeLine;decide),fun p hp=>?_⟩
  have S4:=S3.new hp (.lst [.int 0,.int 0,.int 1,.int 2,.int 2,.int 3])
  have npd:p ≠ d:=(qA2 S3.dict hp).symm
  have npc:p ≠ c:=(qA2 S3.list hp).symm
  refine ⟨_,rfl,d,c,t',ms,6,rfl,S4,(by show t'≤1000000000;lia),by decide,by decide,fun k2 ms2 H2 g0 g6 S5 K5=>?_⟩
  obtain ⟨v,hv,v0,v3⟩:=pick6 g0 g6
  refine ⟨p,_,_,_,rfl,rfl,SqL.of (K5 _ _ qA1 npd npc),hv,?_⟩
  have sm:Same Hc (upd Hc p (.lst [.int 0,.int 0,.int 1,.int 2,.int 2,.int 3])):=qA3 hp _
  have K6:=(Keep.of_same (d:=d) (c:=c) sm).trans K5
  have nod:o ≠ d:=ne_of h3 S3.dict (by intro z;cases z)
  have h6:H2 o=some (.lst (os.map V.int)):=K6 _ _ h3 nod n3c
  have f6:H2 fo=some (.lst (rs.map V.ref)):=K6 _ _ f3 nd nc
  have N6:NetL H2 rs net:=N3.keep (fun r zs e=>S3.tup e) K6
  refine ⟨_,_,rfl,?_⟩
  dsimp only
  have so0:0≤(if v<(((os.map V.int).length:Nat):Int) then v else (((os.map V.int).length:Nat):Int)):=by split <;> lia
  have so1:(if v<(((os.map V.int).length:Nat):Int) then v else (((os.map V.int).length:Nat):Int))≤(os.length:Int):=by rw [List.length_map];split <;> lia
  generalize (if v<(((os.map V.int).length:Nat):Int) then v else (((os.map V.int).length:Nat):Int))=so at so0 so1
  obtain ⟨kk,ek⟩:∃ kk:Nat,(os.length:Int) - so=(kk:Int):=⟨((os.length:Int) - so).toNat,by lia⟩
  have ek':(((os.map V.int).length:Nat):Int) - so=(kk:Int):=by rw [List.length_map];exact ek
  have hkk:kk≤os.length:=by lia
  -- found.append(tuple(open_ones[len(open_ones) - so_many:]))
  refine hM0 _ _ (cut fun M1 hM1=>?_)
  refine ⟨_,rfl,.inl ⟨rfl,_,SqL.of f6⟩,_,rfl,_,rfl,o,_,rfl,.inl (SqL.of h6),_,rfl,_,_,rfl,rfl,_,rfl,o,_,rfl,SqL.of h6,fun p1 hp1=>?_⟩
  refine ⟨p1,_,rfl,.inl ⟨SqL.of qA1,fun r hr1=>?_⟩⟩
  rw [ek',qBQ,cutI_from _ _ hkk] at hr1 ⊢
  have sm1:=(qA3 hp1 (.lst ((os.drop kk).map V.int))).trans (qA3 hr1 (.tup ((os.drop kk).map V.int)))
  have f7:=sm1 _ _ f6
  have h7:=sm1 _ _ h6
  have N7:NetL _ (rs++[r]) (net++[os.drop kk]):=qBZ (N6.same fun r zs e=>sm1 _ _ e) (show (upd (upd H2 p1 (.lst ((os.drop kk).map V.int))) r (.tup ((os.drop kk).map V.int))) r=some (.tup ((os.drop kk).map V.int)) from qA1)
  have S7:=S5.same sm1
  have K7:=K6.trans (.of_same sm1)
  generalize (upd (upd H2 p1 (.lst ((os.drop kk).map V.int))) r (.tup ((os.drop kk).map V.int)))=H7 at f7 h7 N7 S7 K7 ⊢
  refine ⟨fo,_,_,rfl,rfl,f7,small1000 (by rw [List.length_map,NetAt.len N3];lia),?_⟩
  have e8:rs.map V.ref++[V.ref r]=(rs++[r]).map V.ref:=by rw [List.map_append];rfl
  rw [e8]
  have S8:StAt (upd H7 fo (.lst ((rs++[r]).map V.ref))) d c (t'+1) ms2:=⟨by rw [qA7 (Ne.symm nd)];exact S7.dict,by rw [qA7 (Ne.symm nc)];exact S7.list,S7.ne,S7.len,S7.pos⟩
  have h8:(upd H7 fo (.lst ((rs++[r]).map V.ref))) o=some (.lst (os.map V.int)):=by rw [qA7 n3];exact h7
  have N8:NetL (upd H7 fo (.lst ((rs++[r]).map V.ref))) (rs++[r]) (net++[os.drop kk]):=N7.same fun r' zs e=>by rw [qA7 (ne_of e f7 (by intro z;cases z))];exact e
  have K8:Keep d c H (upd H7 fo (.lst ((rs++[r]).map V.ref))):=fun b u e n1 n2=>by rw [qA7 (qA2 e hF)];exact (K3.trans K7) b u e n1 n2
  have f8:(upd H7 fo (.lst ((rs++[r]).map V.ref))) fo=some (.lst ((rs++[r]).map V.ref)):=qA1
  generalize upd H7 fo (.lst ((rs++[r]).map V.ref))=H8 at S8 h8 N8 K8 f8 ⊢
  -- open_ones=open_ones[:len(open_ones) - so_many]+[k]
  refine hM1 _ _ ?_
  refine ⟨_,rfl,_,rfl,o,_,rfl,.inl (SqL.of h8),_,rfl,_,_,rfl,rfl,_,rfl,o,_,rfl,SqL.of h8,fun p2 hp2=>?_⟩
  rw [ek',qBQ,cutI_to]
  refine ⟨_,rfl,(by show 1≤sizeLine;decide),fun p3 hp3=>?_⟩
  have n23:p2 ≠ p3:=qA2 qA1 hp3
  refine ⟨p2,p3,_,_,rfl,rfl,by rw [qA7 n23];exact qA1,qA1,Nat.le_of_lt (small1000 (by rw [List.length_map,List.length_take,List.length_singleton];lia)),fun p4 hp4=>?_⟩
  have sm2:=((qA3 hp2 (.lst ((os.take kk).map V.int))).trans (qA3 hp3 (.lst [.int (0+(i:Int))]))).trans (qA3 hp4 (.lst ((os.take kk).map V.int++[.int (0+(i:Int))])))
  have e9:(os.take kk).map V.int++[V.int (0+(i:Int))]=(os.take kk++[(i:Int)]).map V.int:=by rw [List.map_append,Int.zero_add];rfl
  have nf4:p4 ≠ fo:=(qA2 ((qA3 hp3 _) _ _ ((qA3 hp2 _) _ _ f8)) hp4).symm
  have nc4:p4 ≠ c:=(qA2 ((qA3 hp3 _) _ _ ((qA3 hp2 _) _ _ S8.list)) hp4).symm
  refine d1 _ _ ⟨t'+1,ms2,os.take kk++[(i:Int)],p4,rs++[r],net++[os.drop kk],_,_,rfl,S8.same sm2,by lia,by lia,K8.trans (.of_same sm2),by rw [← e9];exact qA1,⟨nf4,nc4⟩,sm2 _ _ f8,N8.same fun r' zs e=>sm2 _ _ e,by rw [List.length_append,List.length_singleton,l3],w3.snoc ?_,?_⟩
  ·rw [l3];exact r3.sub (List.drop_sublist _ _)
  ·have:=(r3.sub (List.take_sublist kk os)).snoc (by lia)
   rw [show ((i+1:Nat):Int)=(i:Int)+1 by lia]
   exact this
 ·refine fun σ Hc hI_4=>opq fun G_4 hG_4=>?_
  obtain ⟨t',ms,os,o,rs,net,v1,v2,rfl,S3,a1,a2,K3,h3,⟨n3,n3c⟩,f3,N3,l3,w3,r3⟩:=hI_4
  refine hG_4 ?_
  refine hN2 _ _ ?_
  refine ⟨_,rfl,_,rfl,o,_,rfl,.inl ⟨SqL.of h3,fun r hr1=>?_⟩⟩
  refine ⟨(by show 1≤sizeLine;decide),fun p hp=>?_⟩
  have sm1:=(qA3 hr1 (.tup (os.map V.int))).trans (qA3 hp (.lst [.ref r]))
  refine ⟨fo,p,_,_,rfl,rfl,sm1 _ _ f3,qA1,Nat.le_of_lt (small1000 (by rw [List.length_map,NetAt.len N3,List.length_singleton];lia)),fun p2 hp2=>?_⟩
  refine ⟨p2,_,rfl,.inl ⟨SqL.of qA1,fun a ha=>?_⟩⟩
  have sm2:=(sm1.trans (qA3 hp2 (.lst (rs.map V.ref++[.ref r])))).trans (qA3 ha (.tup (rs.map V.ref++[.ref r])))
  have gr:=(qA3 ha (.tup (rs.map V.ref++[.ref r]))) _ _ ((qA3 hp2 (.lst (rs.map V.ref++[.ref r]))) _ _ ((qA3 hp (.lst [.ref r])) r _ (qA1 (H:=Hc) (o:=.tup (os.map V.int)))))
  have e8:rs.map V.ref++[V.ref r]=(rs++[r]).map V.ref:=by rw [List.map_append];rfl
  refine q a (net++[os]) t' ms _ (S3.same sm2) (by lia) (by lia) (K3.trans (.of_same sm2)) ⟨rs++[r],by rw [← e8];exact qA1,qBZ (N3.same fun r' zs e=>sm2 _ _ e) gr⟩ (w3.snoc (by rw [l3];exact r3)) ?_
  rw [List.length_append,List.length_singleton,l3]
  lia
theorem sc_Lnet:FnScope ["_law_state","_law_many","_law_way","_law_wide","_law_some","_law_half"] ["_law_state","_law_many"] (defScope s_Lnet):=sc_mk
theorem ok_Lnet (F:Fun K "_law_net" "_law_net" s_Lnet f fd) (C_Ltake:Clb P w K mg base 1 f_Ltake fd_Ltake "_law_take" ["_law_state","_law_many"] spTake)
  (C_Lsome_needs:Clb P w K mg base 2 f_Lsome_needs fd_Lsome_needs "_law_some_needs" ["_law_state","_law_k"] spNeeds)
  (C_Ltree_net:Clb P w K mg base 2 f_Ltree_net fd_Ltree_net "_law_tree_net" ["_law_state","_law_many"] spTree)
  (z_range:mg "range" = none) (z_max:mg "max" = none) (z_int:mg "int" = none) (z_enumerate:mg "enumerate" = none) (z_tuple:mg "tuple" = none) (z_sorted:mg "sorted" = none) (z_set:mg "set" = none):FnOk P w K mg base CX0 3 f fd ["_law_state","_law_many"] spNet:=by
 refine F.okA sc_Lnet fun cdv A outer s H vs Q E hr h=>?_
 obtain ⟨d,c,t,ns,m,rfl,S,ht,hm0,hm1,q⟩:=h
 have ht':t≤1000000000 - 10000:=ht
 have hr_Lsome_needs:Room 2 _:=hr
 have hr_Ltree_net:Room 2 _:=hr
 refine ⟨_,(qA5 (qAF (i:=2) sc_Lnet.nd rfl (Or.inl rfl) (pe_cl C_Ltake hr rfl (qA0 (pv 0) (qA0 qA6 qA4)))) (qA5 (qAF (i:=3) sc_Lnet.nd rfl (Or.inr rfl) (pe_op qBN qA6 (pe_cl C_Ltake hr rfl (qA0 (pv 0) (qA0 qA6 qA4))))) (qA5 (ps_if (qAB op_eq (pv 2) qA6 (nomark _)) (qA8 (qAD (qAH qAM rfl z_tuple qB1 (qA0 (pe_lc rfl (lcs (own:=["_law_k"]) (fv:=[3]) (by kernel_rfl)) (qBK rfl z_range (qA0 (pv 1) qA4)) (fun z1=>pg_in 0) (fun z1=>qBC) (fun z1=>(qAH (call_tuple_rng rfl) rfl z_tuple qB1 (qA0 (qAH call_rng2 rfl z_range bt_range (qA0 (qA9 (call_max2 rfl) rfl z_max bt_max (qA0 qA6 (qA0 (pe_op qC8 (pv 0) (pv 1)) qA4))) (qA0 (pv 0) qA4))) qA4)))) qA4)))) qAG) (qA5 (ps_if (qAB op_eq (pv 2) qA6 (nomark _)) (qA5 (ps_lc (i:=4) sc_Lnet.nd rfl rfl rfl (lcs (own:=["_law_k"]) (fv:=[3]) (by kernel_rfl)) (qBK rfl z_range (qA0 (pv 1) qA4)) (fun z2=>pg_in 0) (fun z2=>qBC) (fun z2=>(pe_op qCH (pe_op op_rep (qAO (qA0 (pe_op qC8 (pv 0) (pv 1)) qA4)) (qAH call_int1 rfl z_int bt_int (qA0 (qAX op_ge (pv 0) (pv 1) (nomark _)) qA4))) (pe_op op_rep (qAO (qA0 (pe_op qC8 (pv 0) qA6) qA4)) (qAH call_int1 rfl z_int bt_int (qA0 (qAX op_gt (pe_op op_mod (pv 0) (pv 1)) qA6 (nomark _)) qA4))))) (by kernel_rfl)) (qA8 (qAD (qAH qAM rfl z_tuple qB1 (qA0 (pe_lc rfl (lcs (own:=["_law_needs"]) (fv:=[]) (by kernel_rfl)) (qC2 (pv 4)) (fun z3=>pg_in 0) (fun z3=>qBC) (fun z3=>(qAH (call_tupleK (K:=K) rfl) rfl z_tuple qB1 (qA0 (qA9 (call_sortedK (K:=K) (w:=w) rfl rfl rfl) rfl z_sorted bt_sorted (qA0 (qAH (call_setK (K:=K) (w:=w) rfl rfl rfl) rfl z_set bt_set (qA0 (pv 0) qA4)) qA4)) qA4)))) qA4))))) qAG) (qA5 (ps_if (qAB op_eq (pv 2) qA6 (nomark _)) (qA8 (qAD (pe_cl C_Ltree_net hr rfl (qA0 (pv 0) (qA0 (pv 1) qA4))))) qAG) (qA5 (ps_if (qAB op_eq (pv 2) qA6 (nomark _)) (qA5 (qAF (i:=5) sc_Lnet.nd rfl (Or.inr rfl) (pe_op op_fdiv (pv 1) qA6)) (qA5 (ps_lc (i:=4) sc_Lnet.nd rfl rfl rfl (lcs (own:=["_law_k"]) (fv:=[0,5]) (by kernel_rfl)) (qBK rfl z_range (qA0 (pv 1) qA4)) (fun z4=>pg_in 0) (fun z4=>qBC) (fun z4=>(pe_cl C_Lsome_needs hr rfl (qA0 (pv 1) (qA0 (qBY (qAB op_lt (pv 0) (pv 2) (nomark _)) (pv 0) (pe_op qC8 (pv 0) (pv 2))) qA4)))) (by kernel_rfl)) (qA8 (qAD (qAH qAM rfl z_tuple qB1 (qA0 (pe_lc rfl (lcs (own:=["_law_k","_law_needs"]) (fv:=[5]) (by kernel_rfl)) (pi_enum rfl z_enumerate qCM (qA0 (pv 4) qA4)) (fun z5=>pg_tupK (K:=K) (n:=2) rfl rfl (qBA (pg_in 0) (qBA (pg_in 1) pgs_nil)) rfl rfl) (fun z5=>qBC) (fun z5=>(qBY (qAB op_lt (pv 0) (pv 2) (nomark _)) (pv 1) (qAH (call_tupleK (K:=K) rfl) rfl z_tuple qB1 (qA0 (pe_lc (X:=lcCx _ _ _ _ z5) rfl (lcs (own:=["_law_n"]) (fv:=[2]) (by kernel_rfl)) (pi_tupK (K:=K) rfl (pv 1)) (fun z6=>pg_in 0) (fun z6=>qBC) (fun z6=>(pe_op qBN (pv 0) (pv 1)))) qA4))))) qA4)))))) qAG) (qA8 (qAD (qAH qAM rfl z_tuple qB1 (qA0 (pe_lc rfl (lcs (own:=["_law_k"]) (fv:=[0]) (by kernel_rfl)) (qBK rfl z_range (qA0 (pv 1) qA4)) (fun z7=>pg_in 0) (fun z7=>qBC) (fun z7=>(pe_cl C_Lsome_needs hr rfl (qA0 (pv 1) (qA0 (pv 0) qA4))))) qA4)))))))))),?_⟩
 try dsimp only [Cx.nox,Cx.wish,cxOf]
 refine cut fun N1 hN1=>?_
 refine ⟨_,rfl,d,c,t,ns,8,rfl,S,(by show t≤1000000000;lia),by decide,by decide,fun way ns1 H1 w0 w8 S1 K1=>?_⟩
 refine hN1 _ _ (cut fun N2 hN2=>?_)
 refine ⟨_,rfl,d,c,t+1,ns1,4,rfl,S1,(by show t+1≤1000000000;lia),by decide,by decide,fun wd ns2 H2 wd0 wd4 S2 K2=>⟨_,_,rfl,rfl,?_⟩⟩
 dsimp only
 have K12:=K1.trans K2
 generalize hwide:(1:Int)+wd=wide
 have wi0:1≤wide:=by lia
 have wi4:wide≤4:=by lia
 refine hN2 _ _ (cut fun N3 hN3=>?_)
 refine ⟨_,rfl,rfl,_,rfl,?_⟩
 refine ite2 (fun _=>?_) (fun _=>?_)
 ·refine ⟨_,rfl,m,rfl,by lia,by lia,fun p hp=>?_⟩
  refine lc_range (p:=p) (lo:=0) (n:=m.toNat) (fun i σ Hc=>∃ (v:Option V) (rs:List Addr) (net:List (List Int)),σ=[v,some (.int wide)]∧Same H2 Hc∧Hc p=some (.lst (rs.map V.ref))∧NetL Hc rs net∧net.length=i∧WFn net) ?_ ?_ ?_
  ·exact ⟨none,[],[],rfl,qA3 hp _,qA1,.nil,rfl,WFn.nil⟩
  ·refine fun i σ Hc hi hI_1=>opq fun G_1 hG_1=>?_
   obtain ⟨v,rs,net,rfl,sm,hpc,N,hl,wf⟩:=hI_1
   refine hG_1 ?_
   refine ⟨_,rfl,_,rfl,_,_,rfl,rfl,0,_,rfl,_,rfl,_,_,rfl,fun p1 hp1=>?_⟩
   refine ⟨p1,_,_,rfl,qA1,by split <;> lia,by split <;> lia,by lia,by lia,fun r hr1=>?_⟩
   have lo0:0≤(if (0+(i:Int)) - wide > 0 then (0+(i:Int)) - wide else 0):=by split <;> lia
   have hri:=rangeI_rise (hi:=0+(i:Int)) lo0
   dsimp only
   rw [rangeV_ints]
   generalize rangeI (if (0+(i:Int)) - wide > 0 then (0+(i:Int)) - wide else 0) (0+(i:Int))=zs at hri ⊢
   generalize HO.rng (if (0+(i:Int)) - wide > 0 then (0+(i:Int)) - wide else 0) (0+(i:Int))=ho at hp1 hr1 ⊢
   have s1:=(qA3 hp1 ho).trans (qA3 hr1 (.tup (zs.map V.int)))
   have g1:=s1 _ _ hpc
   refine ⟨_,g1,small1000 (by rw [List.length_map,NetAt.len N];lia),?_⟩
   rw [qCB]
   refine ⟨_,rs++[r],net++[zs],rfl,qCO (sm.trans s1) hp,qA1,qCU (qBZ (N.same fun r' ys e=>s1 _ _ e) qA1) g1,by rw [List.length_append,List.length_singleton,hl],wf.snoc ?_⟩
   rw [hl]
   exact hri.mono (by lia)
  ·refine fun σ Hc hI_2=>opq fun G_2 hG_2=>?_
   obtain ⟨v,rs,net,rfl,sm,hpc,N,hl,wf⟩:=hI_2
   refine hG_2 ?_
   refine ⟨p,_,rfl,.inl ⟨SqL.of hpc,fun a ha=>?_⟩⟩
   have s1:=qA3 ha (.tup (rs.map V.ref))
   exact q a net (t+1+1) ns2 _ (S2.same (sm.trans s1)) (by lia) (by lia) (K12.trans (.of_same (sm.trans s1))) ⟨rs,qA1,N.same fun r ys e=>s1 _ _ e⟩ wf (by rw [hl];lia)
 refine hN3 _ _ (cut fun N4 hN4=>?_)
 refine ⟨_,rfl,rfl,_,rfl,?_⟩
 refine ite2 (fun _=>?_) (fun _=>?_)
 ·refine ⟨_,rfl,m,rfl,by lia,by lia,fun p hp=>?_⟩
  refine lc_range (p:=p) (lo:=0) (n:=m.toNat) (fun i σ Hc=>∃ (v:Option V) (rs:List Addr) (ls:List (List Int)),σ=[v,some (.int wide)]∧Same H2 Hc∧Hc p=some (.lst (rs.map V.ref))∧Paired (fun r zs=>r ≠ p∧Hc r=some (.lst (zs.map V.int))) rs ls∧ls.length=i∧
   ∀ (j:Nat) zs,ls[j]?=some zs→zs.length≤2∧∀ x ∈ zs,0≤x∧x<(j:Int)) ?_ ?_ ?_
  ·exact ⟨none,[],[],rfl,qA3 hp _,qA1,.nil,rfl,fun j zs e=>by simp at e⟩
  ·refine fun i σ Hc hi hI_3=>opq fun G_3 hG_3=>?_
   obtain ⟨v,rs,ls,rfl,sm,hpc,N,hl,wf⟩:=hI_3
   refine hG_3 ?_
   refine ⟨_,rfl,_,rfl,_,_,rfl,rfl,(by show 1≤sizeLine;decide),fun a1 ha1=>?_⟩
   refine ⟨_,rfl,_,rfl,_,_,rfl,rfl,.inr ⟨_,rfl,?_⟩⟩
   refine ⟨a1,_,_,rfl,rfl,qA1,by split <;> decide,by split <;> decide,?_,fun a2 ha2=>?_⟩
   ·have:∀ b:Bool,[V.int (0+(i:Int) - wide)].length * (if b=true then (1:Int) else 0).toNat≤sizeLine:=by intro b;cases b <;> simp [sizeLine_eq]
    exact this _
   dsimp only
   rw [rep_b]
   refine ⟨_,rfl,_,_,rfl,rfl,(by show 1≤sizeLine;decide),fun a3 ha3=>?_⟩
   refine ⟨_,rfl,_,rfl,_,_,rfl,rfl,(by show 0<wide;lia),_,_,rfl,rfl,.inr ⟨_,rfl,?_⟩⟩
   refine ⟨a3,_,_,rfl,rfl,qA1,by split <;> decide,by split <;> decide,?_,fun a4 ha4=>?_⟩
   ·have:∀ b:Bool,[V.int (0+(i:Int) - 1)].length * (if b=true then (1:Int) else 0).toNat≤sizeLine:=by intro b;cases b <;> simp [sizeLine_eq]
    exact this _
   dsimp only
   rw [rep_b]
   have b1:∀ x ∈ (if decide (wide≤0+(i:Int))=true then [0+(i:Int) - wide] else []),0≤x∧x<(i:Int):=by
    intro x hx
    split at hx
    ·rename_i hd
     have:=of_decide_eq_true hd
     rw [List.mem_singleton.mp hx];lia
    ·cases hx
   have b2:∀ x ∈ (if decide (0<(0+(i:Int)) % wide)=true then [0+(i:Int) - 1] else []),0≤x∧x<(i:Int):=by
    intro x hx
    split at hx
    ·rename_i hd
     have hd':=of_decide_eq_true hd
     have:(i:Int) ≠ 0:=by
      intro e
      rw [e] at hd'
      simp at hd'
     rw [List.mem_singleton.mp hx];lia
    ·cases hx
   have c1:(if decide (wide≤0+(i:Int))=true then [0+(i:Int) - wide] else []).length≤1:=by split <;> simp
   have c2:(if decide (0<(0+(i:Int)) % wide)=true then [0+(i:Int) - 1] else []).length≤1:=by split <;> simp
   generalize (if decide (wide≤0+(i:Int))=true then [0+(i:Int) - wide] else [])=z1 at b1 c1 ha3 ha4 ⊢
   generalize (if decide (0<(0+(i:Int)) % wide)=true then [0+(i:Int) - 1] else [])=z2 at b2 c2 ⊢
   have s2:=(qA3 ha3 (.lst [.int (0+(i:Int) - 1)])).trans (qA3 ha4 (.lst (z2.map V.int)))
   refine ⟨a2,a4,_,_,rfl,rfl,s2 _ _ qA1,qA1,Nat.le_of_lt (small1000 (by rw [List.length_map,List.length_map];lia)),fun a5 ha5=>?_⟩
   have s1:=(qA3 ha1 (.lst [.int (0+(i:Int) - wide)])).trans (qA3 ha2 (.lst (z1.map V.int)))
   have s3:=(s1.trans s2).trans (qA3 ha5 (.lst (z1.map V.int++z2.map V.int)))
   have e5:z1.map V.int++z2.map V.int=(z1++z2).map V.int:=by rw [List.map_append]
   rw [e5] at s3 ⊢
   have g1:=s3 _ _ hpc
   have n5:a5 ≠ p:=(qA2 ((s1.trans s2) _ _ hpc) ha5).symm
   refine ⟨_,g1,small1000 (by rw [List.length_map,Paired.length N];lia),?_⟩
   rw [qCB]
   refine ⟨_,rs++[a5],ls++[z1++z2],rfl,qCO (sm.trans s3) hp,qA1,Paired.snoc (qB2 N fun r zs e=>⟨e.1,by rw [qA7 e.1];exact s3 _ _ e.2⟩) ⟨n5,by rw [qA7 n5];exact qA1⟩,by rw [List.length_append,List.length_singleton,hl],fun j zs e=>?_⟩
   rcases snoc_get e with e | ⟨rfl,rfl⟩
   ·exact wf j zs e
   ·rw [hl]
    refine ⟨by rw [List.length_append];lia,fun x hx=>?_⟩
    rcases List.mem_append.mp hx with hx | hx
    ·exact b1 x hx
    ·exact b2 x hx
  ·refine fun σ Hc hI_4=>opq fun G_4 hG_4=>?_
   obtain ⟨v,rs,ls,rfl,sm,hpc,N,hl,wf⟩:=hI_4
   refine hG_4 ?_
   refine ⟨_,rfl,p,rfl,⟨_,SqL.of hpc⟩,fun p' hp'=>?_⟩
   refine qCC (p:=p') (a:=p) (xs:=rs.map V.ref) (fun i σ Hd=>∃ (v:Option V) (rs':List Addr) (net:List (List Int)),σ=[v]∧Same Hc Hd∧Hd p'=some (.lst (rs'.map V.ref))∧NetL Hd rs' net∧net.length=i∧WFn net) ?_ ?_ ?_ ?_
   ·exact ⟨none,[],[],rfl,qA3 hp' _,qA1,.nil,rfl,WFn.nil⟩
   ·rintro i σ Hd hi ⟨v,rs',net,rfl,sm2,_⟩
    exact SqL.of (sm2 _ _ hpc)
   ·refine fun i x σ Hd hx hI_6=>opq fun G_6 hG_6=>?_
    obtain ⟨v,rs',net,rfl,sm2,hpd,N2,hl2,wf2⟩:=hI_6
    obtain ⟨r,hr1,rfl⟩:=get_ref hx
    obtain ⟨zs,hz,_,hr2⟩:=paired_get N hr1
    obtain ⟨l2,m2⟩:=wf i zs hz
    refine hG_6 ?_
    refine ⟨_,rfl,r,zs,rfl,SqL.of (sm2 _ _ hr2),by lia,fun a ha=>?_⟩
    refine ⟨a,dedI zs,rfl,.inr (.inr qA1),Nat.lt_of_le_of_lt (dedI_len zs) (by lia),fun b ys hb hpm hs=>?_⟩
    refine ⟨b,_,rfl,.inl ⟨SqL.of qA1,fun r2 hr3=>?_⟩⟩
    have s1:=((qA3 ha (SetO w a (dedI zs))).trans (qA3 hb (.lst (ys.map V.int)))).trans (qA3 hr3 (.tup (ys.map V.int)))
    have g1:=s1 _ _ hpd
    have lrs:rs.length=m.toNat:=by rw [Paired.length N,hl]
    have hi:i<rs.length:=(List.getElem?_eq_some_iff.mp hr1).1
    refine ⟨_,g1,small1000 (by rw [List.length_map,NetAt.len N2];lia),?_⟩
    rw [qCB]
    refine ⟨_,rs'++[r2],net++[ys],rfl,qCO (sm2.trans s1) hp',qA1,qCU (qBZ (N2.same fun r' zs' e=>s1 _ _ e) qA1) g1,by rw [List.length_append,List.length_singleton,hl2],wf2.snoc ?_⟩
    rw [hl2]
    exact rise_set hpm hs m2
   ·refine fun σ Hd hI_7=>opq fun G_7 hG_7=>?_
    obtain ⟨v,rs',net,rfl,sm2,hpd,N2,hl2,wf2⟩:=hI_7
    refine hG_7 ?_
    refine ⟨p',_,rfl,.inl ⟨SqL.of hpd,fun a ha=>?_⟩⟩
    have s1:=qA3 ha (.tup (rs'.map V.ref))
    refine q a net (t+1+1) ns2 _ (S2.same ((sm.trans sm2).trans s1)) (by lia) (by lia) (K12.trans (.of_same ((sm.trans sm2).trans s1))) ⟨rs',qA1,N2.same fun r ys e=>s1 _ _ e⟩ wf2 ?_
    rw [hl2,List.length_map,Paired.length N,hl]
    lia
 refine hN4 _ _ (cut fun N5 hN5=>?_)
 refine ⟨_,rfl,rfl,_,rfl,?_⟩
 refine ite2 (fun _=>?_) (fun _=>?_)
 ·refine ⟨_,rfl,_,rfl,d,c,t+1+1,ns2,m,rfl,S2,?_,hm0,hm1,fun a net t' ms H' a1 a2 a3 a4 a5 a6 a7=>?_⟩
  ·show t+1+1≤1000000000 - 1000;lia
  ·exact q a net t' ms H' a1 (by lia) (by lia) (K12.trans a4) a5 a6 a7
 refine hN5 _ _ (cut fun N6 hN6=>?_)
 refine ⟨_,rfl,rfl,_,rfl,?_⟩
 refine ite2 (fun _=>?_) (fun _=>?_)
 ·refine ⟨_,rfl,_,_,rfl,rfl,⟨by decide,by decide⟩,?_⟩
  dsimp only
  have hf0:0≤m / 2:=by lia
  have hf1:m / 2≤m:=by lia
  generalize m / 2=half at hf0 hf1
  refine ⟨_,rfl,m,rfl,by lia,by lia,fun p hp=>?_⟩
  refine lc_range (p:=p) (lo:=0) (n:=m.toNat) (fun i σ Hc=>∃ (v:Option V) (t':Int) (ms:List Int) (rs:List Addr) (net:List (List Int)),σ=[v,some (.ref d),some (.int half)]∧StAt Hc d c t' ms∧t+2≤t'∧t'≤t+2+9 * i∧Keep d c H2 Hc∧Hc p=some (.lst (rs.map V.ref))∧NetL Hc rs net∧net.length=i∧
   ∀ (j:Nat) zs,net[j]?=some zs→Rise (if (j:Int)<half then (j:Int) else (j:Int) - half) zs) ?_ ?_ ?_
  ·exact ⟨none,t+1+1,ns2,[],[],rfl,S2.new hp _,by lia,by lia,qAV hp _,qA1,.nil,rfl,fun j zs e=>by simp at e⟩
  ·refine fun i σ Hc hi hI_8=>opq fun G_8 hG_8=>?_
   obtain ⟨v,t',ms,rs,net,rfl,S3,b1,b2,k3,hpc,N,hl,wf⟩:=hI_8
   refine hG_8 ?_
   have npd:p ≠ d:=(qA2 S2.dict hp).symm
   have npc:p ≠ c:=(qA2 S2.list hp).symm
   have nx:∀ (kk:Int),kk=(if (i:Int)<half then (i:Int) else (i:Int) - half)→spNeeds [.ref d,.int kk] Hc (fun y H4=>∃ ys,H4 p=some (.lst ys)∧ys.length<sizeLine∧∃ (v:Option V) (t':Int) (ms:List Int) (rs:List Addr) (net:List (List Int)),[some (V.int (0+(i:Int))),some (.ref d),some (.int half)]=[v,some (.ref d),some (.int half)]∧StAt (upd H4 p (.lst (ys++[y]))) d c t' ms∧t+2≤t'∧t'≤t+2+9 * (i+1:Nat)∧Keep d c H2 (upd H4 p (.lst (ys++[y])))∧(upd H4 p (.lst (ys++[y]))) p=some (.lst (rs.map V.ref))∧NetL (upd H4 p (.lst (ys++[y]))) rs net∧net.length=i+1∧
     ∀ (j:Nat) zs,net[j]?=some zs→Rise (if (j:Int)<half then (j:Int) else (j:Int) - half) zs) E0:=by
    intro kk ek
    refine ⟨d,c,t',ms,kk,rfl,S3,(by show t'≤1000000000 - 20;lia),by rw [ek];split <;> lia,by rw [ek];split <;> lia,fun r zs t'' ms2 H3 e1 e2 e3 e4 e5 e6=>?_⟩
    have g1:=e4 _ _ hpc npd npc
    refine ⟨_,g1,small1000 (by rw [List.length_map,NetAt.len N];lia),?_⟩
    rw [qCB]
    refine ⟨_,t'',ms2,rs++[r],net++[zs],rfl,⟨by rw [qA7 (Ne.symm npd)];exact e1.dict,by rw [qA7 (Ne.symm npc)];exact e1.list,e1.ne,e1.len,e1.pos⟩,by lia,by lia,keep_put (k3.trans e4) hp,qA1,qCU (qBZ (N.keep (fun r ys e=>S3.tup e) e4) e5) g1,by rw [List.length_append,List.length_singleton,hl],fun j ys e=>?_⟩
    rcases snoc_get e with e | ⟨rfl,rfl⟩
    ·exact wf j ys e
    ·rw [hl,← ek];exact e6
   refine ⟨_,rfl,_,rfl,_,rfl,_,_,rfl,rfl,_,rfl,?_⟩
   refine ite2 (fun ck=>?_) (fun ck=>?_)
   ·have ck':0+(i:Int)<half:=of_decide_eq_true ck
    exact ⟨_,rfl,nx _ (by rw [if_pos (by lia)];lia)⟩
   ·have ck':¬ 0+(i:Int)<half:=of_decide_eq_false (Bool.eq_false_iff.mpr ck)
    exact ⟨_,rfl,_,rfl,_,_,rfl,rfl,nx _ (by rw [if_neg (by lia)];lia)⟩
  ·refine fun σ Hc hI_9=>opq fun G_9 hG_9=>?_
   obtain ⟨v,t',ms,rs,net,rfl,S3,b1,b2,k3,hpc,N,hl,wf⟩:=hI_9
   refine hG_9 ?_
   have lrs:rs.length=m.toNat:=by rw [Paired.length N,hl]
   refine ⟨_,rfl,p,rfl,⟨_,SqL.of hpc⟩,fun p' hp'=>?_⟩
   refine lc_enum (p:=p') (a:=p) (xs:=rs.map V.ref) (fun i σ Hd=>∃ (v1 v2:Option V) (rs':List Addr) (net':List (List Int)),σ=[v1,v2,some (.int half)]∧Same Hc Hd∧Hd p'=some (.lst (rs'.map V.ref))∧NetL Hd rs' net'∧net'.length=i∧WFn net') ?_ ?_ ?_ ?_
   ·exact ⟨none,none,[],[],rfl,qA3 hp' _,qA1,.nil,rfl,WFn.nil⟩
   ·rintro i σ Hd hi ⟨v1,v2,rs',net',rfl,sm2,_⟩
    exact SqL.of (sm2 _ _ hpc)
   ·refine fun i x σ Hd T hx hI_11 hT=>opq fun G_11 hG_11=>?_
    obtain ⟨v1,v2,rs',net',rfl,sm2,hpd,N2,hl2,wf2⟩:=hI_11
    obtain ⟨r,hr1,rfl⟩:=get_ref hx
    obtain ⟨zs,hz,hr2⟩:=paired_get N hr1
    refine hG_11 ?_
    have hi:i<rs.length:=(List.getElem?_eq_some_iff.mp hr1).1
    have rz:=wf i zs hz
    have sT:=qA3 hT (.tup [.int (i:Int),.ref r])
    have hrT:=sT _ _ (sm2 _ _ hr2)
    have hpT:=sT _ _ hpd
    have NT:=N2.same fun r' zs' e=>sT _ _ e
    have smT:=sm2.trans sT
    have gT:SqT K (upd Hd T (.tup [.int (i:Int),.ref r])) T [.int (i:Int),.ref r]:=SqT.of qA1
    generalize upd Hd T (.tup [.int (i:Int),.ref r])=HT' at hrT hpT NT smT gT ⊢
    refine ⟨T,_,rfl,gT,rfl,_,_,rfl,_,_,rfl,rfl,?_⟩
    refine ⟨_,rfl,_,rfl,_,_,rfl,rfl,_,rfl,?_⟩
    refine ite2 (fun ck=>?_) (fun ck=>?_)
    ·have ck':(i:Int)<half:=of_decide_eq_true ck
     rw [if_pos ck'] at rz
     refine ⟨_,rfl,_,hpT,small1000 (by rw [List.length_map,NetAt.len N2];lia),?_⟩
     rw [qCB]
     refine ⟨_,_,rs'++[r],net'++[zs],rfl,qCO smT hp',qA1,qCU (qBZ NT hrT) hpT,by rw [List.length_append,List.length_singleton,hl2],wf2.snoc ?_⟩
     rw [hl2]
     exact rz
    ·have ck':¬ (i:Int)<half:=of_decide_eq_false (Bool.eq_false_iff.mpr ck)
     rw [if_neg ck'] at rz
     have lz:zs.length≤i:=by
      have e:((i:Int) - half)=(((i:Int) - half).toNat:Nat):=by lia
      rw [e] at rz
      have:=rz.len
      lia
     refine ⟨_,rfl,r,rfl,⟨_,SqT.of hrT⟩,fun p2 hp2=>?_⟩
     refine lc_tup (p:=p2) (a:=r) (xs:=zs.map V.int) (fun j σ He=>∃ (v:Option V),σ=[v,some (.int half)]∧Same HT' He∧He p2=some (.lst (((zs.take j).map (·+half)).map V.int))) ?_ ?_ ?_ ?_
     ·exact ⟨none,rfl,qA3 hp2 _,qA1⟩
     ·rintro j σ He hj ⟨v,rfl,sm3,_⟩
      exact SqT.of (sm3 _ _ hrT)
     ·refine fun j x σ He hx2 hI_13=>opq fun G_13 hG_13=>?_
      obtain ⟨v,rfl,sm3,hp3⟩:=hI_13
      obtain ⟨z,hz2,rfl⟩:=get_int hx2
      refine hG_13 ?_
      refine ⟨_,rfl,_,rfl,_,_,rfl,rfl,_,hp3,small1000 (by rw [List.length_map,List.length_map,List.length_take];lia),_,rfl,qCO sm3 hp2,?_⟩
      rw [qA1,List.take_add_one,hz2,Option.toList_some,List.map_append,List.map_append]
      rfl
     ·refine fun σ He hI_14=>opq fun G_14 hG_14=>?_
      obtain ⟨v,rfl,sm3,hp3⟩:=hI_14
      refine hG_14 ?_
      rw [List.length_map,List.take_of_length_le (Nat.le_refl _)] at hp3
      refine ⟨p2,_,rfl,.inl ⟨SqL.of hp3,fun r2 hr3=>?_⟩⟩
      have s1:=qA3 hr3 (.tup ((zs.map (·+half)).map V.int))
      have s2:=sm3.trans s1
      have g1:=s2 _ _ hpT
      refine ⟨_,g1,small1000 (by rw [List.length_map,NetAt.len N2];lia),?_⟩
      rw [qCB]
      refine ⟨_,_,rs'++[r2],net'++[zs.map (·+half)],rfl,qCO (smT.trans s2) hp',qA1,qCU (qBZ (NT.same fun r' zs' e=>s2 _ _ e) qA1) g1,by rw [List.length_append,List.length_singleton,hl2],wf2.snoc ?_⟩
      rw [hl2]
      have:=rz.shift hf0
      rw [show (i:Int) - half+half=(i:Int) by lia] at this
      exact this
   ·refine fun σ Hd hI_15=>opq fun G_15 hG_15=>?_
    obtain ⟨v1,v2,rs',net',rfl,sm2,hpd,N2,hl2,wf2⟩:=hI_15
    refine hG_15 ?_
    refine ⟨p',_,rfl,.inl ⟨SqL.of hpd,fun a ha=>?_⟩⟩
    have s1:=qA3 ha (.tup (rs'.map V.ref))
    refine q a net' t' ms _ (S3.same (sm2.trans s1)) (by lia) (by lia) (K12.trans (k3.trans (.of_same (sm2.trans s1)))) ⟨rs',qA1,N2.same fun r ys e=>s1 _ _ e⟩ wf2 ?_
    rw [hl2,List.length_map,Paired.length N,hl]
    lia
 refine hN6 _ _ ?_
 refine ⟨_,rfl,m,rfl,by lia,by lia,fun p hp=>?_⟩
 refine lc_range (p:=p) (lo:=0) (n:=m.toNat) (fun i σ Hc=>∃ (v:Option V) (t':Int) (ms:List Int) (rs:List Addr) (net:List (List Int)),σ=[v,some (.ref d)]∧StAt Hc d c t' ms∧t+2≤t'∧t'≤t+2+9 * i∧Keep d c H2 Hc∧Hc p=some (.lst (rs.map V.ref))∧NetL Hc rs net∧net.length=i∧WFn net) ?_ ?_ ?_
 ·exact ⟨none,t+1+1,ns2,[],[],rfl,S2.new hp _,by lia,by lia,qAV hp _,qA1,.nil,rfl,WFn.nil⟩
 ·refine fun i σ Hc hi hI_16=>opq fun G_16 hG_16=>?_
  obtain ⟨v,t',ms,rs,net,rfl,S3,b1,b2,k3,hpc,N,hl,wf⟩:=hI_16
  refine hG_16 ?_
  have npd:p ≠ d:=(qA2 S2.dict hp).symm
  have npc:p ≠ c:=(qA2 S2.list hp).symm
  refine ⟨_,rfl,_,rfl,d,c,t',ms,0+(i:Int),rfl,S3,(by show t'≤1000000000 - 20;lia),by lia,by lia,fun r zs t'' ms2 H3 e1 e2 e3 e4 e5 e6=>?_⟩
  have g1:=e4 _ _ hpc npd npc
  refine ⟨_,g1,small1000 (by rw [List.length_map,NetAt.len N];lia),?_⟩
  rw [qCB]
  refine ⟨_,t'',ms2,rs++[r],net++[zs],rfl,⟨by rw [qA7 (Ne.symm npd)];exact e1.dict,by rw [qA7 (Ne.symm npc)];exact e1.list,e1.ne,e1.len,e1.pos⟩,by lia,by lia,keep_put (k3.trans e4) hp,qA1,qCU (qBZ (N.keep (fun r ys e=>S3.tup e) e4) e5) g1,by rw [List.length_append,List.length_singleton,hl],wf.snoc ?_⟩
  rw [hl]
  exact e6.mono (by lia)
 ·refine fun σ Hc hI_17=>opq fun G_17 hG_17=>?_
  obtain ⟨v,t',ms,rs,net,rfl,S3,b1,b2,k3,hpc,N,hl,wf⟩:=hI_17
  refine hG_17 ?_
  refine ⟨p,_,rfl,.inl ⟨SqL.of hpc,fun a ha=>?_⟩⟩
  have s1:=qA3 ha (.tup (rs.map V.ref))
  exact q a net t' ms _ (S3.same s1) (by lia) (by lia) (K12.trans (k3.trans (.of_same s1))) ⟨rs,qA1,N.same fun r ys e=>s1 _ _ e⟩ wf (by rw [hl];lia)
theorem sc_Lsame:FnScope ["_law_found","_law_due"] ["_law_found","_law_due"] (defScope s_Lsame):=sc_mk
theorem ok_Lsame (F:Fun K "_law_same" "_law_same" s_Lsame f fd) (z_isinstance:mg "isinstance" = none) (z_list:mg "list" = none) (z_tuple:mg "tuple" = none) (z_str:mg "str" = none) (z_int:mg "int" = none) (z_bool:mg "bool" = none):FnOk P w K mg base CX0 1 f fd ["_law_found","_law_due"] spSameN:=by
 refine F.okA sc_Lsame fun cdv A outer s H vs Q E hr h=>?_
 obtain ⟨o,rfl,q⟩:=h
 refine ⟨_,(qA5 (ps_if (qCF (qCY (pv 1))) (qA8 (qAD (pe_cmp (qCY (pv 0))))) qAG) (qA5 (ps_if (PW.pt (pw_or (qBX (qA9 qBH rfl z_isinstance qAS (qA0 (pv 1) (qA0 (qD2 (v:=.ty "list") rfl z_list bt_list rfl) qA4)))) (qC5 (qBX (qA9 qBH rfl z_isinstance qAS (qA0 (pv 1) (qA0 (qD2 (v:=.ty "tuple") rfl z_tuple qB1 rfl) qA4))))))) pss_never qAG) (qA5 (ps_if (qBX (qA9 qBH rfl z_isinstance qAS (qA0 (pv 1) (qA0 (qD2 (v:=.ty "str") rfl z_str bt_str rfl) qA4)))) (qA8 (qAD (qBM (qA9 qBH rfl z_isinstance qAS (qA0 (pv 0) (qA0 (qD2 (v:=.ty "str") rfl z_str bt_str rfl) qA4))) (qC6 (qAX op_eq (pv 0) (pv 1) (nomark _)))))) qAG) (qA8 (qAD (qBM (qA9 qBH rfl z_isinstance qAS (qA0 (pv 0) (qA0 (qD2 (v:=.ty "int") rfl z_int bt_int rfl) qA4))) (qBM (pe_not (qA9 qBH rfl z_isinstance qAS (qA0 (pv 0) (qA0 (qD2 (v:=.ty "bool") rfl z_bool bt_bool rfl) qA4)))) (qC6 (qAX op_eq (pv 0) (pv 1) (nomark _)))))))))),?_⟩
 try dsimp only [Cx.nox,Cx.wish,cxOf]
 cases o with
 | none=>exact ⟨_,rfl,_,rfl,iteT ⟨_,rfl,q H (Same.refl H)⟩⟩
 | some n=>
  refine ⟨_,rfl,_,rfl,?_⟩
  refine ⟨_,rfl,_,"list",_,false,rfl,TyOf.int (n:Int),kit_il,_,rfl,?_⟩
  refine ⟨_,rfl,_,"tuple",_,false,rfl,TyOf.int (n:Int),kit_it,_,rfl,?_⟩
  refine ⟨_,rfl,_,"str",_,false,rfl,TyOf.int (n:Int),kit_is,_,rfl,?_⟩
  refine ⟨_,rfl,_,"int",_,true,rfl,TyOf.int (n:Int),kit_ii,_,rfl,?_⟩
  refine ⟨_,rfl,_,"bool",_,false,rfl,TyOf.int (n:Int),kit_ib,_,rfl,_,rfl,?_⟩
  refine ⟨_,rfl,_,rfl,rfl,?_⟩
  have e:decide (V.int (n:Int)=V.int (n:Int))=true:=decide_eq_true rfl
  have q':Q (.bl (decide (V.int (n:Int)=V.int (n:Int)))) H:=by rw [e];exact q H (Same.refl H)
  exact q'
theorem sc_is_name:FnScope ["word"] ["word"] (defScope s_is_name):=sc_mk
theorem ok_is_name (F:Fun K "is_name" "is_name" s_is_name f fd) (m_MOST_LETTERS:mg "MOST_LETTERS" = some (.int 8 tk_MOST_LETTERS)) (z_len:mg "len" = none) (z_all:mg "all" = none):FnOk P w K mg base CX0 1 f fd ["word"] spIsNm:=by
 refine F.okA sc_is_name fun cdv A outer s H vs Q E hr h=>?_
 obtain ⟨x,rfl,hx,q⟩:=h
 refine ⟨_,(qA8 (qAD (qBM (qAX op_le (qA9 qBE rfl z_len qAJ (qA0 (pv 0) qA4)) (qBD (v:=.int (8)) rfl m_MOST_LETTERS ⟨_,rfl⟩) (nomark _)) (qC6 (qA9 (call_all rfl) rfl z_all bt_all (qA0 (pe_lc rfl (lcs (own:=["sign"]) (fv:=[]) (by kernel_rfl)) (pi_str (pv 0)) (fun z1=>pg_in 0) (fun z1=>qBC) (fun z1=>(pe_chain op_le_str op_le_str qAE (pv 0) qAE))) qA4)))))),?_⟩
 try dsimp only [Cx.nox,Cx.wish,cxOf]
 have hs:=sizeLine_eq
 refine ⟨_,rfl,_,rfl,by lia,_,_,rfl,rfl,_,rfl,?_⟩
 refine ite2 (fun c=>?_) fun c=>?_
 ·have c':x.length≤8:=by have:=of_decide_eq_true c;lia
  refine ⟨_,rfl,x,rfl,fun p hp=>lc_str (fun i σ Hi=>∃ v,σ=[v]∧Same H Hi∧Hi p=some (.lst (((x.cps.toList.take i).map (signIn 97 122)).map V.bl))) ⟨none,rfl,qA3 hp _,qA1⟩ ?_ ?_⟩
  ·refine fun i c σ Hi ec hI_1=>opq fun G_1 hG_1=>?_
   obtain ⟨v,rfl,sm,hpi⟩:=hI_1
   refine hG_1 ?_
   refine ⟨_,rfl,_,_,rfl,rfl,_,rfl,?_⟩
   have l1:=le_sign (a:=97) (b:=c)
   have l2:=le_sign (a:=c) (b:=122)
   have fin:∀ b,b=signIn 97 122 c→∃ ys,Hi p=some (.lst ys)∧ys.length<sizeLine∧∃ v,[some (V.str ⟨#[c]⟩)]=[v]∧Same H (upd Hi p (.lst (ys++[V.bl b])))∧(upd Hi p (.lst (ys++[V.bl b]))) p=some (.lst (((x.cps.toList.take (i+1)).map (signIn 97 122)).map V.bl)):=fun b e=>⟨_,hpi,by have:=signs_len (z:=x) (lo:=97) (hi:=122) (i:=i);lia,_,rfl,fun b u e=>by rw [qA7 (qA2 e hp)];exact sm b u e,by rw [qA1,e,signs_snoc ec]⟩
   rw [show (Str.ofString "a").cps.toList=[97] by decide,show (⟨#[c]⟩:Str).cps.toList=[c] from rfl,l1]
   refine ite2 (fun h1=>?_) fun h1=>?_
   ·refine ⟨_,_,rfl,rfl,?_⟩
    rw [show (Str.ofString "z").cps.toList=[122] by decide,show (⟨#[c]⟩:Str).cps.toList=[c] from rfl,l2]
    exact fin _ (by unfold signIn;rw [h1,Bool.true_and])
   ·exact fin _ (by unfold signIn;rw [Bool.eq_false_iff.mpr h1,Bool.false_and])
  ·refine fun σ Hi hI_2=>opq fun G_2 hG_2=>?_
   obtain ⟨v,rfl,sm,hpi⟩:=hI_2
   refine hG_2 ?_
   refine ⟨p,_,rfl,SqL.of hpi,?_⟩
   rw [signs_all]
   have:=q Hi sm
   unfold isNm at this
   rw [decide_eq_true c',Bool.true_and] at this
   exact this
 ·have:=q H (Same.refl H)
  unfold isNm at this
  rw [decide_eq_false (by have:=of_decide_eq_false (Bool.eq_false_iff.mpr c);lia),Bool.false_and] at this
  exact this
theorem sc_rooms_in:FnScope ["word"] ["word"] (defScope qCP):=sc_mk
theorem ok_rooms_in (F:Fun K "rooms_in" "rooms_in" qCP f fd) (m_MOST_ROOMS:mg "MOST_ROOMS" = some (.int 99 tk_MOST_ROOMS)) (z_int:mg "int" = none):FnOk P w K mg base CX0 1 f fd ["word"] spRmIn:=by
 refine F.okA sc_rooms_in fun cdv A outer s H vs Q E hr h=>?_
 obtain ⟨x,rfl,⟨hx,hd⟩,q⟩:=h
 refine ⟨_,(qA5 (ps_if (PW.pt (pw_or (qCE (qBX (pe_bm0 PySem.F.plainAttrs_str PySem.F.slot_str_isdigit PySem.F.type_str_isdigit mt_isdigit (pv 0)))) (pw_or (qAB op_eq (pe_ix ix_str (pv 0) qA6 (fun _ _=>rfl)) qAE (nomark _)) (qC5 (qAB op_gt (qAH call_intS rfl z_int bt_int (qA0 (pv 0) qA4)) (qBD (v:=.int (99)) rfl m_MOST_ROOMS ⟨_,rfl⟩) (nomark _)))))) (qA8 (qAD qC7)) qAG) (qA8 (qAD (qAH call_intS rfl z_int bt_int (qA0 (pv 0) qA4))))),?_⟩
 try dsimp only [Cx.nox,Cx.wish,cxOf]
 have hs:=sizeLine_eq
 unfold rmF at q
 refine ⟨_,rfl,rfl,_,rfl,rfl,_,rfl,?_⟩
 cases hi:Txt.isdigit x with
 | false=>
  rw [hi] at q
  exact q
 | true=>
  obtain ⟨⟨n,hn⟩,c,hc⟩:=hd hi
  rw [hi,hn] at q
  have h0:atI x.cps.toList 0=some c:=qAN (j:=0) (by rw [Array.getElem?_toList];exact hc)
  refine ⟨_,rfl,_,_,_,rfl,rfl,by lia,h0,rfl,_,rfl,?_⟩
  rw [sign_ne]
  refine ite2 (fun h1=>?_) fun h1=>?_
  ·have e:c=48:=of_decide_eq_true h1
   rw [if_neg (by rw [hc,e];simp)] at q
   exact q
  ·have e:¬ c=48:=fun z=>h1 (decide_eq_true z)
   rw [if_pos ⟨rfl,by rw [hc];exact fun z=>e (Option.some.inj z)⟩] at q
   refine ⟨_,rfl,_,_,rfl,hn,by lia,_,_,rfl,rfl,_,rfl,?_⟩
   refine ite2 (fun h2=>?_) fun h2=>?_
   ·dsimp only at q
    rw [if_pos (of_decide_eq_true h2)] at q
    exact q
   ·dsimp only at q
    rw [if_neg (fun z=>h2 (decide_eq_true z))] at q
    exact ⟨_,rfl,_,_,rfl,hn,by lia,q⟩
theorem sc_works_named:FnScope ["words","numbers","works"] ["words","numbers"] (defScope qBO):=sc_mk
theorem ok_works_named (F:Fun K "works_named" "works_named" qBO f fd) (z_len:mg "len" = none) (z_set:mg "set" = none) (z_tuple:mg "tuple" = none) (z_sorted:mg "sorted" = none):FnOk P w K mg base CX0 1 f fd ["words","numbers"] spWksN:=by
 refine F.okA sc_works_named fun cdv A outer s H vs Q E hr h=>?_
 obtain ⟨p,d,ws,ns,rfl,hp,hd,l1,l2,q⟩:=h
 have hu:=hu_of hr
 refine ⟨_,(qA5 (ps_lc (i:=2) sc_works_named.nd rfl rfl rfl (lcs (own:=["word"]) (fv:=[1]) (by kernel_rfl)) (qC2 (pv 0)) (fun z1=>pg_in 0) (fun z1=>(pts_one (qCF (pc_din hu (pv 0) (pv 1))))) (fun z1=>(pe_dget hu (pv 1) (pv 0) (fun _ _=>rfl))) (by kernel_rfl)) (qA5 (ps_if (PW.pt (pw_or (qAB op_lt (qA9 qAA rfl z_len qAJ (qA0 (pv 2) qA4)) (qA9 qAA rfl z_len qAJ (qA0 (pv 0) qA4)) (nomark _)) (qC5 (qAB op_lt (qA9 call_lenM rfl z_len qAJ (qA0 (qAH (call_setG rfl) rfl z_set bt_set (qA0 (pv 2) qA4)) qA4)) (qA9 qAA rfl z_len qAJ (qA0 (pv 2) qA4)) (nomark _))))) (qA8 (qAD qC7)) qAG) (qA8 (qAD (qAH qAM rfl z_tuple qB1 (qA0 (qA9 (qD6 rfl) rfl z_sorted bt_sorted (qA0 (pv 2) qA4)) qA4)))))),?_⟩
 try dsimp only [Cx.nox,Cx.wish,cxOf]
 have hs:=sizeLine_eq
 refine cut fun N hN=>?_
 refine ⟨_,rfl,p,rfl,⟨_,SqL.of hp⟩,fun l hl=>?_⟩
 refine qCC (xs:=ws.map V.str) (fun i σ Hi=>∃ v,σ=[v,some (.ref d)]∧Same H Hi∧Hi l=some (.lst (((ws.take i).filterMap (nmF 0 ns)).map V.int))) ⟨none,rfl,qA3 hl _,qA1⟩ ?_ ?_ ?_
 ·rintro i σ Hi _ ⟨v,rfl,sm,_⟩
  exact SqL.of (sm _ _ hp)
 ·refine fun i x' σ Hi ex hI_2=>opq fun G_2 hG_2=>?_
  obtain ⟨v,rfl,sm,hli⟩:=hI_2
  refine hG_2 ?_
  rw [List.getElem?_map] at ex
  obtain ⟨x,ey,rfl⟩:=Option.map_eq_some_iff.mp ex
  have dg:DGet Hi d (.str x) (valV (numD 0 ns) (Sum.inr x)):=DGet.k (k:=Sum.inr x) (sm _ _ hd)
  rw [numD_val] at dg
  have fs:=fm_snoc (f:=nmF 0 ns) ey
  refine ⟨_,rfl,_,rfl,d,_,rfl,dg,_,rfl,?_⟩
  cases en:nmF 0 ns x with
  | none=>
   rw [en] at fs
   exact ⟨_,rfl,sm,by rw [fs];simpa using hli⟩
  | some n=>
   rw [en] at fs dg
   refine ⟨_,rfl,_,rfl,d,_,rfl,dg,_,hli,?_,_,rfl,fun b u e=>by rw [qA7 (qA2 e hl)];exact sm b u e,?_⟩
   ·have:=(fm_len (f:=nmF 0 ns) (ws:=ws.take i)).1
    rw [List.length_take] at this
    rw [List.length_map]
    lia
   ·rw [qA1,fs,List.map_append];rfl
 ·refine fun σ Hi hI_3=>opq fun G_3 hG_3=>?_
  obtain ⟨v,rfl,sm,hli⟩:=hI_3
  refine hG_3 ?_
  rw [List.length_map,List.take_of_length_le (Nat.le_refl _)] at hli
  refine hN _ _ ?_
  clear hN
  obtain ⟨f1,f2⟩:=fm_len (f:=nmF 0 ns) (ws:=ws)
  unfold wkF at q
  refine ⟨_,rfl,l,_,rfl,.inl (SqL.of hli),_,rfl,p,_,rfl,.inl (SqL.of (sm _ _ hp)),_,_,rfl,rfl,_,rfl,?_⟩
  rw [List.length_map,List.length_map]
  refine ite2 (fun c=>?_) fun c=>?_
  ·have c':=of_decide_eq_true c
   rw [if_neg fun z=>by have:=f2.mpr z.1;lia] at q
   exact q _ Hi sm rfl
  ·have c':¬ _:=fun z=>c (decide_eq_true z)
   have c2:=f2.mp (by lia)
   refine ⟨_,rfl,l,_,rfl,SqL.of hli,by lia,fun a ha=>⟨a,_,rfl,qA1,_,rfl,l,_,rfl,.inl (SqL.of (by rw [qA7 (qA2 hli ha)];exact hli)),_,_,rfl,rfl,_,rfl,?_⟩⟩
   rw [List.length_map]
   have dl:=dedI_len (ws.filterMap (nmF 0 ns))
   have sa:=sm.trans (qA3 ha (SetM w a (dedI (ws.filterMap (nmF 0 ns)))))
   have hla:(upd Hi a (SetM w a (dedI (ws.filterMap (nmF 0 ns))))) l=_:=qA3 ha _ _ _ hli
   generalize upd Hi a (SetM w a (dedI (ws.filterMap (nmF 0 ns))))=H2 at sa hla ⊢
   refine ite2 (fun d=>?_) fun d=>?_
   ·have d':=of_decide_eq_true d
    rw [if_neg fun z=>by have:=ded_len.mpr z.2;lia] at q
    exact q _ _ sa rfl
   ·have d':¬ _:=fun z=>d (decide_eq_true z)
    have nd:=ded_len.mp (show (dedI (ws.filterMap (nmF 0 ns))).length=_ by lia)
    rw [if_pos ⟨c2,nd⟩] at q
    have few:=fm_few nd
    refine ⟨_,rfl,l,_,rfl,.inl (SqL.of hla),by lia,fun b zs hb pm so=>⟨b,_,rfl,.inl ⟨SqL.of qA1,fun t ht=>?_⟩⟩⟩
    exact q _ _ ((sa.trans (qA3 hb _)).trans (qA3 ht _)) ⟨t,rfl,zs,qA1,pm,so⟩
theorem sc_asked_named:FnScope ["words","numbers"] ["words","numbers"] (defScope qBP):=sc_mk
theorem ok_asked_named (F:Fun K "asked_named" "asked_named" qBP f fd) (C_works_named:Clb P w K mg base 1 f_works_named fd_works_named "works_named" ["words","numbers"] spWksN) (m_MOST_ASKED:mg "MOST_ASKED" = some (.int 4 tk_MOST_ASKED)) (z_len:mg "len" = none):FnOk P w K mg base CX0 2 f fd ["words","numbers"] spAskN:=by
 refine F.okA sc_asked_named fun cdv A outer s H vs Q E hr h=>?_
 obtain ⟨p,d,ws,ns,rfl,hp,hd,l1,l2,q⟩:=h
 refine ⟨_,(qA5 (ps_if (qCE (pt_chain op_le op_le qA6 (qA9 qAA rfl z_len qAJ (qA0 (pv 0) qA4)) (qBD (v:=.int (4)) rfl m_MOST_ASKED ⟨_,rfl⟩))) (qA8 (qAD qC7)) qAG) (qA8 (qAD (pe_cl C_works_named hr rfl (qA0 (pv 0) (qA0 (pv 1) qA4)))))),?_⟩
 try dsimp only [Cx.nox,Cx.wish,cxOf]
 unfold askF at q
 refine ⟨_,rfl,p,_,rfl,.inl (SqL.of hp),_,_,rfl,rfl,_,rfl,?_⟩
 rw [List.length_map]
 refine ite2 (fun c=>?_) fun c=>?_
 ·have c':=of_decide_eq_true c
  refine ⟨_,_,rfl,rfl,_,rfl,?_⟩
  cases e:decide ((ws.length:Int)≤4) with
  | true=>
   have e':=of_decide_eq_true e
   rw [if_pos ⟨by lia,by lia⟩] at q
   exact ⟨_,rfl,_,rfl,p,d,ws,ns,rfl,hp,hd,l1,l2,q⟩
  | false=>
   have e':=of_decide_eq_false e
   rw [if_neg fun z=>by lia] at q
   exact q _ H (Same.refl H) rfl
 ·have c':¬ _:=fun z=>c (decide_eq_true z)
  rw [if_neg fun z=>by lia] at q
  exact ⟨_,rfl,q _ H (Same.refl H) rfl⟩
theorem sc_steps_ask:FnScope ["words","numbers","rooms","asked"] ["words","numbers"] (defScope qCA):=sc_mk
theorem ok_steps_ask (F:Fun K "steps_ask" "steps_ask" qCA f fd) (C_rooms_in:Clb P w K mg base 1 f_rooms_in fd_rooms_in "rooms_in" ["word"] spRmIn) (C_asked_named:Clb P w K mg base 2 f_asked_named fd_asked_named "asked_named" ["words","numbers"] spAskN) (z_len:mg "len" = none):FnOk P w K mg base CX0 3 f fd ["words","numbers"] spStpN:=by
 refine F.okA sc_steps_ask fun cdv A outer s H vs Q E hr h=>?_
 obtain ⟨p,d,ws,ns,rfl,hp,hd,l1,l2,dg,q⟩:=h
 refine ⟨_,(qA5 (ps_if (qAB op_lt (qA9 qAA rfl z_len qAJ (qA0 (pv 0) qA4)) qA6 (nomark _)) (qA8 (qAD qC7)) qAG) (qA5 (qAF (i:=2) sc_steps_ask.nd rfl (Or.inl rfl) (pe_cl C_rooms_in hr rfl (qA0 (pe_ix qAI (pv 0) qA6 (fun _ _=>rfl)) qA4))) (qA5 (qAF (i:=3) sc_steps_ask.nd rfl (Or.inl rfl) (pe_cl C_asked_named hr rfl (qA0 (qAU qB6 (pv 0) (qB3 qA6) qB4) (qA0 (pv 1) qA4)))) (qA5 (ps_if (PW.pt (pw_or (qCF (qCY (pv 2))) (qC5 (qCF (qCY (pv 3)))))) (qA8 (qAD qC7)) qAG) (qA8 (qAD (qCX (qA0 qAE (qA0 (pv 2) (qA0 (pv 3) qA4)))))))))),?_⟩
 try dsimp only [Cx.nox,Cx.wish,cxOf]
 refine ⟨_,rfl,p,_,rfl,.inl (SqL.of hp),_,_,rfl,rfl,_,rfl,?_⟩
 rw [List.length_map]
 refine ite2 (fun c=>?_) fun c=>?_
 ·have c':=of_decide_eq_true c
  refine q _ H (Same.refl H) ?_
  match ws,c' with
  | [],_=>exact rfl
  | [_],_=>exact rfl
  | _::_::_,c'=>rw [List.length_cons,List.length_cons] at c';lia
 ·have c':¬ _:=fun z=>c (decide_eq_true z)
  match ws,c' with
  | [],c'=>exact absurd (show ((0:Nat):Int)<2 by decide) c'
  | [_],c'=>exact absurd (show ((1:Nat):Int)<2 by decide) c'
  | a::x::r,_=>
   refine ⟨_,rfl,p,_,_,_,rfl,rfl,SqL.of hp,qAN (j:=1) rfl,_,rfl,dg x (by simp),?_⟩
   refine ⟨_,rfl,_,rfl,p,_,rfl,SqL.of hp,fun p2 h2=>?_⟩
   have ec:cutV ((a::x::r).map V.str) (some 2) none=((a::x::r).drop 2).map V.str:=qCD (k:=2) (by simp)
   rw [ec]
   have s2:=qA3 h2 (.lst (((a::x::r).drop 2).map V.str))
   refine ⟨_,rfl,p2,d,r,ns,rfl,qA1,s2 _ _ hd,by simp at l1;lia,l2,fun v H3 s3 rs=>?_⟩
   have s4:=s2.trans s3
   have e0:stepsF ns (a::x::r)=match rmF x,askF ns r with
    | some n,some ks=>some (.st n ks)
    | _,_=>none:=rfl
   rw [e0] at q
   refine ⟨_,rfl,_,rfl,?_⟩
   cases er:rmF x with
   | none=>
    rw [er] at q
    exact q _ H3 s4 rfl
   | some n=>
    rw [er] at q
    refine ⟨_,rfl,_,rfl,?_⟩
    cases ea:askF ns r with
    | none=>
     rw [ea] at q rs
     obtain rfl:v=.non:=rs
     exact q _ H3 s4 rfl
    | some ks=>
     rw [ea] at q rs
     obtain ⟨t,rfl,tu⟩:=rs
     refine ⟨_,rfl,_,rfl,(by show 3≤sizeLine;decide),fun p4 h4=>?_⟩
     have s5:=qA3 h4 (.tup [.str "steps",.int n,.ref t])
     exact q _ _ (s4.trans s5) ⟨p4,t,rfl,qA1,tu.imp fun b xs=>s5 b _⟩
theorem sc_deed_of:FnScope ["words","numbers","word","asked"] ["words","numbers"] (defScope s_deed_of):=sc_mk
theorem ok_deed_of (F:Fun K "deed_of" "deed_of" s_deed_of f fd) (C_asked_named:Clb P w K mg base 2 f_asked_named fd_asked_named "asked_named" ["words","numbers"] spAskN) (C_steps_ask:Clb P w K mg base 3 f_steps_ask fd_steps_ask "steps_ask" ["words","numbers"] spStpN) (tp_ALONE:∀ H,SqT K H c_ALONE [.str "back",.str "stand",.str "moves",.str "count"]) (tp_OF_ONE:∀ H,SqT K H c_OF_ONE [.str "do",.str "clear",.str "tree",.str "cut"]) (tp_OF_SOME:∀ H,SqT K H c_OF_SOME [.str "plain",.str "few",.str "stair"]) (m_ALONE:mg "ALONE" = some (.ref c_ALONE)) (m_OF_ONE:mg "OF_ONE" = some (.ref c_OF_ONE)) (m_OF_SOME:mg "OF_SOME" = some (.ref c_OF_SOME)) (z_len:mg "len" = none):FnOk P w K mg base CX0 4 f fd ["words","numbers"] spDeedN:=by
 refine F.okA sc_deed_of fun cdv A outer s H vs Q E hr h=>?_
 obtain ⟨p,d,ws,ns,rfl,hp,hd,l1,l2,dg,ne,q⟩:=h
 have hu:=hu_of hr
 refine ⟨_,(qA5 (qAF (i:=2) sc_deed_of.nd rfl (Or.inl rfl) (pe_ix qAI (pv 0) qA6 (fun _ _=>rfl))) (qA5 (ps_if (qAB qBF (pv 2) (qBD (v:=.ref c_ALONE) rfl m_ALONE rfl) (by with_unfolding_all rfl)) (qA8 (qAD (qBY (qAB op_eq (qA9 qAA rfl z_len qAJ (qA0 (pv 0) qA4)) qA6 (nomark _)) (qCX (qA0 (pv 2) qA4)) qC7))) qAG) (qA5 (ps_if (qAB qBF (pv 2) (qBD (v:=.ref c_OF_ONE) rfl m_OF_ONE rfl) (by with_unfolding_all rfl)) (qA8 (qAD (qBY (PW.pt (pw_and (qAB op_eq (qA9 qAA rfl z_len qAJ (qA0 (pv 0) qA4)) qA6 (nomark _)) (pw_and1 (qCF (pc_din hu (pe_ix qAI (pv 0) qA6 (fun _ _=>rfl)) (pv 1)))))) (qCX (qA0 (pv 2) (qA0 (pe_dget hu (pv 1) (pe_ix qAI (pv 0) qA6 (fun _ _=>rfl)) (fun _ _=>rfl)) qA4))) qC7))) qAG) (qA5 (ps_if (qAB qBF (pv 2) (qBD (v:=.ref c_OF_SOME) rfl m_OF_SOME rfl) (by with_unfolding_all rfl)) (qA5 (qAF (i:=3) sc_deed_of.nd rfl (Or.inl rfl) (pe_cl C_asked_named hr rfl (qA0 (qAU qB6 (pv 0) (qB3 qA6) qB4) (qA0 (pv 1) qA4)))) (qA8 (qAD (qBY (qCF (qCY (pv 3))) qC7 (qCX (qA0 (pv 2) (qA0 (pv 3) qA4))))))) qAG) (qA5 (ps_if (qAB op_eq (pv 2) qAE (nomark _)) (qA8 (qAD (pe_cl C_steps_ask hr rfl (qA0 (pv 0) (qA0 (pv 1) qA4))))) qAG) (qA8 (qAD qC7))))))),?_⟩
 try dsimp only [Cx.nox,Cx.wish,cxOf]
 obtain ⟨x,r,rfl⟩:∃ x r,ws=x::r:=by
  cases ws with
  | nil=>exact absurd rfl ne
  | cons x r=>exact ⟨x,r,rfl⟩
 refine cut fun N hN=>?_
 refine ⟨_,rfl,p,_,_,_,rfl,rfl,SqL.of hp,qAN (j:=0) rfl,hN _ _ ?_⟩
 clear hN
 have e0:deedF ns (x::r)=if x ∈ aloneL then (if r=[] then some (.al x) else none) else if x ∈ oneL then oneF ns x r else if x ∈ someL then (askF ns r).map (.so x) else if x = "steps" then stepsF ns (x::r) else none:=rfl
 rw [e0] at q
 refine ⟨_,rfl,_,[.str "back",.str "stand",.str "moves",.str "count"],rfl,.inr (tp_ALONE H),rfl,rfl,_,rfl,?_⟩
 rw [show inV (.str x) [.str "back",.str "stand",.str "moves",.str "count"]=decide (x ∈ aloneL) from qBJ x aloneL]
 refine ite2 (fun c=>?_) fun c=>?_
 ·rw [if_pos (of_decide_eq_true c)] at q
  refine ⟨_,rfl,p,_,rfl,.inl (SqL.of hp),rfl,_,rfl,?_⟩
  cases r with
  | nil=>
   rw [if_pos rfl] at q
   refine iteT ⟨_,rfl,(by show 1≤sizeLine;decide),fun t ht=>q _ _ (qA3 ht _) ⟨t,rfl,qA1⟩⟩
  | cons y r=>
   rw [if_neg (by simp)] at q
   rw [decide_eq_false (by intro z;have:=V.int.inj z;simp at this;lia)]
   exact iteF (q _ H (Same.refl H) rfl)
 rw [if_neg (fun z=>c (decide_eq_true z))] at q
 refine ⟨_,rfl,_,[.str "do",.str "clear",.str "tree",.str "cut"],rfl,.inr (tp_OF_ONE H),rfl,rfl,_,rfl,?_⟩
 rw [show inV (.str x) [.str "do",.str "clear",.str "tree",.str "cut"]=decide (x ∈ oneL) from qBJ x oneL]
 refine ite2 (fun c=>?_) fun c=>?_
 ·rw [if_pos (of_decide_eq_true c)] at q
  refine ⟨_,rfl,p,_,rfl,.inl (SqL.of hp),rfl,_,rfl,?_⟩
  match r with
  | []=>exact q _ H (Same.refl H) rfl
  | y::z::r=>
   rw [decide_eq_false (by intro z;have:=V.int.inj z;simp at this;lia)]
   exact q _ H (Same.refl H) rfl
  | [y]=>
   have dgy:DGet H d (.str y) (valV (numD 0 ns) (Sum.inr y)):=DGet.k (k:=Sum.inr y) hd
   rw [numD_val] at dgy
   refine iteT ⟨_,rfl,p,_,_,_,rfl,rfl,SqL.of hp,qAN (j:=1) rfl,_,rfl,d,_,rfl,dgy,_,rfl,?_⟩
   cases en:nmF 0 ns y with
   | none=>exact q _ H (Same.refl H) (by show RsD H ((nmF 0 ns y).map _) _;rw [en];rfl)
   | some n=>
    rw [en] at dgy
    refine ⟨_,rfl,_,rfl,_,rfl,p,_,_,_,rfl,rfl,SqL.of hp,qAN (j:=1) rfl,d,_,rfl,dgy,(by show 2≤sizeLine;decide),fun t ht=>q _ _ (qA3 ht _) (by show RsD _ ((nmF 0 ns y).map _) _;rw [en];exact ⟨t,rfl,qA1⟩)⟩
 rw [if_neg (fun z=>c (decide_eq_true z))] at q
 refine ⟨_,rfl,_,[.str "plain",.str "few",.str "stair"],rfl,.inr (tp_OF_SOME H),rfl,rfl,_,rfl,?_⟩
 rw [show inV (.str x) [.str "plain",.str "few",.str "stair"]=decide (x ∈ someL) from qBJ x someL]
 refine ite2 (fun c=>?_) fun c=>?_
 ·rw [if_pos (of_decide_eq_true c)] at q
  refine ⟨_,rfl,_,rfl,p,_,rfl,SqL.of hp,fun p2 h2=>?_⟩
  have ec:cutV ((x::r).map V.str) (some 1) none=((x::r).drop 1).map V.str:=qCD (k:=1) (by simp)
  rw [ec]
  have s2:=qA3 h2 (.lst (((x::r).drop 1).map V.str))
  refine ⟨_,rfl,p2,d,r,ns,rfl,qA1,s2 _ _ hd,by simp at l1;lia,l2,fun v H3 s3 rs=>?_⟩
  have s4:=s2.trans s3
  refine ⟨_,rfl,_,rfl,?_⟩
  cases ea:askF ns r with
  | none=>
   rw [ea] at q rs
   obtain rfl:v=.non:=rs
   exact q _ H3 s4 rfl
  | some ks=>
   rw [ea] at q rs
   obtain ⟨t,rfl,tu⟩:=rs
   refine ⟨_,rfl,_,rfl,(by show 2≤sizeLine;decide),fun p4 h4=>?_⟩
   have s5:=qA3 h4 (.tup [.str x,.ref t])
   exact q _ _ (s4.trans s5) ⟨p4,t,rfl,qA1,tu.imp fun b xs=>s5 b _⟩
 rw [if_neg (fun z=>c (decide_eq_true z))] at q
 refine ⟨_,rfl,rfl,_,rfl,?_⟩
 refine ite2 (fun c=>?_) fun c=>?_
 ·have e:x = "steps":=V.str.inj (of_decide_eq_true c)
  rw [if_pos e] at q
  exact ⟨_,rfl,_,rfl,p,d,x::r,ns,rfl,hp,hd,l1,l2,dg,q⟩
 ·rw [if_neg (fun z=>c (decide_eq_true (by rw [z])))] at q
  exact q _ H (Same.refl H) rfl
theorem sc_Sheet_init:FnScope ["self"] ["self"] (defScope qB5):=sc_mk
theorem ok_Sheet_init (F:Fun K "__init__" "Sheet.__init__" qB5 f fd) (cl_Sheet:Cls K c_Sheet) (ns_Sheet:SNa K c_Sheet):FnOk P w K mg base CX0 1 f fd ["self"] (spSInit c_Sheet):=by
 refine F.okA sc_Sheet_init fun cdv A outer s H vs Q E hr h=>?_
 obtain ⟨y,dx,rfl,hy,q⟩:=h
 refine ⟨_,(qA5 (ps_fld (pv 0) qC7 rfl) (qA5 (ps_fld (pv 0) pe_dnewK rfl) (qA5 (ps_fld (pv 0) (qAO qA4) rfl) (qA8 (ps_fld (pv 0) (qAO qA4) rfl))))),?_⟩
 try dsimp only [Cx.nox,Cx.wish,cxOf]
 obtain ⟨k1,g1,f1⟩:=put_y (o':=.ins c_Sheet dx (putF "rooms" V.non [])) hy
 have p1:=qBS "rooms" V.non []
 have p0:([]:List (Str × V)).length=0:=rfl
 refine ⟨_,rfl,y,c_Sheet,dx,_,rfl,hy,cl_Sheet,ns_Sheet.rooms,(by show 0<1000;decide),?_⟩
 generalize upd H y (.ins c_Sheet dx (putF "rooms" V.non []))=H1 at k1 g1 f1 ⊢
 intro a ha
 have sa:=qA3 ha (.dK [])
 obtain ⟨k2,g2,f2⟩:=put_y (o':=.ins c_Sheet dx (putF "numbers" (V.ref a) (putF "rooms" V.non []))) (sa _ _ g1)
 have p2:=qBS "numbers" (V.ref a) (putF "rooms" V.non [])
 have na:a ≠ y:=(qA2 g1 ha).symm
 refine ⟨_,rfl,y,c_Sheet,dx,_,rfl,sa _ _ g1,cl_Sheet,ns_Sheet.numbers,by lia,?_⟩
 have ga:(upd (upd H1 a (.dK [])) y (.ins c_Sheet dx (putF "numbers" (V.ref a) (putF "rooms" V.non [])))) a=some (.dK []):=by rw [qA7 na,qA1]
 have k3:=(k1.trans (.of_same sa)).trans k2
 have f3:∀ b,(upd (upd H1 a (.dK [])) y (.ins c_Sheet dx (putF "numbers" (V.ref a) (putF "rooms" V.non [])))) b=none→H b=none:=fun b z=>f1 _ (sa.free (f2 _ z))
 generalize upd (upd H1 a (.dK [])) y (.ins c_Sheet dx (putF "numbers" (V.ref a) (putF "rooms" V.non [])))=H3 at g2 ga k3 f3 ⊢
 refine ⟨(by show 0≤sizeLine;decide),fun b hb=>?_⟩
 have sb:=qA3 hb (.lst [])
 obtain ⟨k4,g4,f4⟩:=put_y (o':=.ins c_Sheet dx (putF "net" (V.ref b) (putF "numbers" (V.ref a) (putF "rooms" V.non [])))) (sb _ _ g2)
 have p3:=qBS "net" (V.ref b) (putF "numbers" (V.ref a) (putF "rooms" V.non []))
 have nb:b ≠ y:=(qA2 g2 hb).symm
 refine ⟨_,rfl,y,c_Sheet,dx,_,rfl,sb _ _ g2,cl_Sheet,ns_Sheet.net,by lia,?_⟩
 have gb:(upd (upd H3 b (.lst [])) y (.ins c_Sheet dx (putF "net" (V.ref b) (putF "numbers" (V.ref a) (putF "rooms" V.non []))))) b=some (.lst []):=by rw [qA7 nb,qA1]
 have ga4:(upd (upd H3 b (.lst [])) y (.ins c_Sheet dx (putF "net" (V.ref b) (putF "numbers" (V.ref a) (putF "rooms" V.non []))))) a=some (.dK []):=by rw [qA7 na];exact sb _ _ ga
 have k5:=(k3.trans (.of_same sb)).trans k4
 have f5:∀ q,(upd (upd H3 b (.lst [])) y (.ins c_Sheet dx (putF "net" (V.ref b) (putF "numbers" (V.ref a) (putF "rooms" V.non []))))) q=none→H q=none:=fun q z=>f3 _ (sb.free (f4 _ z))
 generalize upd (upd H3 b (.lst [])) y (.ins c_Sheet dx (putF "net" (V.ref b) (putF "numbers" (V.ref a) (putF "rooms" V.non []))))=H5 at g4 gb ga4 k5 f5 ⊢
 refine ⟨(by show 0≤sizeLine;decide),fun c hc=>?_⟩
 have sc:=qA3 hc (.lst [])
 have nc:c ≠ y:=(qA2 g4 hc).symm
 refine ⟨_,rfl,y,c_Sheet,dx,_,rfl,sc _ _ g4,cl_Sheet,ns_Sheet.deeds,by lia,?_⟩
 have nbc:b ≠ c:=qA2 gb hc
 exact q a b c _ ((k5.trans (.of_same sc)).trans (qB8 (by simp))) (f1 _ ha) (f3 _ hb) (f5 _ hc) ⟨qA1,by rw [qA7 na];exact sc _ _ ga4,⟨[],by rw [qA7 nb];exact sc _ _ gb,.nil⟩,⟨[],by rw [qA7 nc,qA1],.nil⟩,nbc,rfl,by decide⟩
theorem qD1:FnScope ["self","words"] ["self","words"] (defScope qAL):=sc_mk
theorem ok_Sheet_take_rooms (F:Fun K "take_rooms" "Sheet.take_rooms" qAL f fd) (cl_Sheet:Cls K c_Sheet) (ns_Sheet:SNa K c_Sheet) (C_rooms_in:Clb P w K mg base 1 f_rooms_in fd_rooms_in "rooms_in" ["word"] spRmIn) (z_len:mg "len" = none):FnOk P w K mg base CX0 2 f fd ["self","words"] (spTRooms c_Sheet):=by
 refine F.okA qD1 fun cdv A outer s H vs Q E hr h=>?_
 obtain ⟨y,dx,a,b,c,p,S,ws,rfl,Y,hp,dg,er,q⟩:=h
 refine ⟨_,(qA5 (ps_if (PW.pt (pw_or (qAB op_ne (qA9 qAA rfl z_len qAJ (qA0 (pv 1) qA4)) qA6 (nomark _)) (qC5 (qAB op_ne (pe_ix qAI (pv 1) qA6 (fun _ _=>rfl)) qAE (nomark _))))) (qA8 (qAD pe_bl)) qAG) (qA5 (ps_fld (pv 0) (pe_cl C_rooms_in hr rfl (qA0 (pe_ix qAI (pv 1) qA6 (fun _ _=>rfl)) qA4)) rfl) (qA8 (qAD (pe_cmp (pc_notN (qBL (pv 0) rfl))))))),?_⟩
 try dsimp only [Cx.nox,Cx.wish,cxOf]
 refine ⟨_,rfl,p,_,rfl,.inl (SqL.of hp),rfl,_,rfl,?_⟩
 rw [List.length_map]
 match ws,hp,dg,q with
 | [],hp,dg,q=>exact q H (KeepL.of_same (Same.refl H)) Y
 | [x],hp,dg,q=>exact q H (KeepL.of_same (Same.refl H)) Y
 | x::z::z2::r,hp,dg,q=>
  rw [decide_eq_false (by intro z;have:=V.int.inj z;simp at this;lia)]
  exact q H (KeepL.of_same (Same.refl H)) Y
 | [x,z],hp,dg,q=>
  have e0:roomsT S [x,z]=if x = "rooms" then (rmF z).map (fun n=>{ S with rooms:=some n }) else none:=rfl
  rw [e0] at q
  refine ⟨_,rfl,p,_,_,_,rfl,rfl,SqL.of hp,qAN (j:=0) rfl,rfl,_,rfl,?_⟩
  by_cases ex:x = "rooms"
  ·rw [if_pos ex] at q
   rw [decide_eq_true (by rw [ex])]
   refine ⟨_,rfl,p,_,_,_,rfl,rfl,SqL.of hp,qAN (j:=1) rfl,_,rfl,dg z (by simp),_,rfl,y,c_Sheet,dx,_,rfl,Y.obj,cl_Sheet,ns_Sheet.rooms,by rw [sf_len];decide,?_⟩
   have Y2:=Y.putR (rmF z)
   refine ⟨_,rfl,y,c_Sheet,dx,_,_,rfl,qA1,cl_Sheet,ns_Sheet.rooms,by rw [sf_put];exact sf_rooms,?_⟩
   have Q2:=q _ (qB8 (by simp):KeepL [y,a,b,c] H (upd H y (.ins c_Sheet dx (putF "rooms" (optV (rmF z)) (sfs (optV S.rooms) a b c)))))
   cases er2:rmF z with
   | none=>
    rw [er2] at Q2 Y2
    refine Q2 ?_
    have e1:({ S with rooms:=none }:Sh)=S:=by cases S;cases er;rfl
    rw [e1] at Y2
    exact Y2
   | some n=>
    rw [er2] at Q2 Y2
    exact Q2 Y2
  ·rw [if_neg ex] at q
   rw [decide_eq_false fun z=>ex (V.str.inj z)]
   exact q H (KeepL.of_same (Same.refl H)) Y
theorem sc_Sheet_take_work:FnScope ["self","words","needs"] ["self","words"] (defScope qAP):=sc_mk
theorem ok_Sheet_take_work (F:Fun K "take_work" "Sheet.take_work" qAP f fd) (cl_Sheet:Cls K c_Sheet) (ns_Sheet:SNa K c_Sheet) (C_works_named:Clb P w K mg base 1 f_works_named fd_works_named "works_named" ["words","numbers"] spWksN) (C_is_name:Clb P w K mg base 1 f_is_name fd_is_name "is_name" ["word"] spIsNm) (m_MOST_WORKS:mg "MOST_WORKS" = some (.int 40 tk_MOST_WORKS)) (z_len:mg "len" = none):FnOk P w K mg base CX0 2 f fd ["self","words"] (spTWork c_Sheet):=by
 refine F.okA sc_Sheet_take_work fun cdv A outer s H vs Q E hr h=>?_
 obtain ⟨y,dx,a,b,c,p,S,ws,rfl,Y,hp,dg,l1,q⟩:=h
 have hu:=hu_of hr
 refine ⟨_,(qA5 (ps_if (PW.pt (pw_or (pt_truth (qBL (pv 0) rfl) (fun _=>rfl)) (qC5 (qAB op_eq (qA9 qAA rfl z_len qAJ (qA0 (qBL (pv 0) rfl) qA4)) (qBD (v:=.int (40)) rfl m_MOST_WORKS ⟨_,rfl⟩) (nomark _))))) (qA8 (qAD pe_bl)) qAG) (qA5 (ps_if (PW.pt (pw_or (qAB op_lt (qA9 qAA rfl z_len qAJ (qA0 (pv 1) qA4)) qA6 (nomark _)) (pw_or (qCE (qBX (pe_cl C_is_name hr rfl (qA0 (pe_ix qAI (pv 1) qA6 (fun _ _=>rfl)) qA4)))) (qC5 (qCF (pc_din hu (pe_ix qAI (pv 1) qA6 (fun _ _=>rfl)) (qBL (pv 0) rfl))))))) (qA8 (qAD pe_bl)) qAG) (qA5 (qAF (i:=2) sc_Sheet_take_work.nd rfl (Or.inl rfl) (pe_cl C_works_named hr rfl (qA0 (qAU qB6 (pv 1) (qB3 qA6) qB4) (qA0 (qBL (pv 0) rfl) qA4)))) (qA5 (ps_if (qCF (qCY (pv 2))) (qA8 (qAD pe_bl)) qAG) (qA5 (ps_dput hu (qBL (pv 0) rfl) (pe_ix qAI (pv 1) qA6 (fun _ _=>rfl)) (qA9 qAA rfl z_len qAJ (qA0 (qBL (pv 0) rfl) qA4)) rfl) (qA5 (qBG (pe_bm PySem.F.plainAttrs_list PySem.F.slot_list_append PySem.F.type_list_append qAY (qBL (pv 0) rfl) (qA0 (pv 2) qA4))) (qA8 (qAD pe_bl)))))))),?_⟩
 try dsimp only [Cx.nox,Cx.wish,cxOf]
 obtain ⟨rs,hb,hn⟩:=Y.net
 obtain ⟨vs,hc,hv⟩:=Y.deeds
 have fail:∀ H',Same H H'→workT S ws=none→Q (.bl false) H':=fun H' sm e=>by
  have:=q H' (KeepL.of_same sm)
  rw [e] at this
  exact this (Y.next sm)
 refine ⟨_,rfl,y,c_Sheet,dx,_,_,rfl,Y.obj,cl_Sheet,ns_Sheet.deeds,sf_deeds,_,.inl ⟨_,SqL.of hc,rfl⟩,?_⟩
 have ev:vs.isEmpty=S.deeds.isEmpty:=paired_nil hv
 rw [ev]
 have lb:(rs.map V.ref).length=S.net.length:=by rw [List.length_map];exact Paired.length hn
 cases ed:S.deeds.isEmpty with
 | false=>
  refine fail H (Same.refl H) ?_
  unfold workT
  split
  ·rw [if_pos (.inl ed)]
  ·rfl
 | true=>
  refine ⟨_,rfl,y,c_Sheet,dx,_,_,rfl,Y.obj,cl_Sheet,ns_Sheet.net,sf_net,b,_,rfl,.inl (SqL.of hb),rfl,_,rfl,?_⟩
  rw [lb]
  refine ite2 (fun c1=>?_) fun c1=>?_
  ·have e40:S.net.length=40:=by have:=V.int.inj (of_decide_eq_true c1);lia
   refine fail H (Same.refl H) ?_
   unfold workT
   split
   ·rw [if_pos (.inr (.inl e40))]
   ·rfl
  have n40:¬ S.net.length=40:=fun z=>c1 (decide_eq_true (by rw [z];rfl))
  refine ⟨_,rfl,p,_,rfl,.inl (SqL.of hp),_,_,rfl,rfl,_,rfl,?_⟩
  rw [List.length_map]
  match ws,hp,dg,l1,q,fail with
  | [],hp,dg,l1,q,fail=>exact fail H (Same.refl H) rfl
  | [x],hp,dg,l1,q,fail=>exact fail H (Same.refl H) rfl
  | x0::x::r,hp,dg,l1,q,fail=>
   rw [decide_eq_false (by rw [List.length_cons,List.length_cons];lia)]
   have e0:workT S (x0::x::r)=if S.deeds.isEmpty=false∨S.net.length=40∨isNm x=false∨x ∈ S.names then none else (wkF S.names r).map fun ks=>{ S with names:=S.names++[x],net:=S.net++[ks] }:=rfl
   rw [e0] at q fail
   have lx:=(dg x (by simp)).1
   refine ⟨_,rfl,p,_,_,_,rfl,rfl,SqL.of hp,qAN (j:=1) rfl,x,rfl,by lia,fun H2 s2=>⟨_,rfl,?_⟩⟩
   cases en:isNm x with
   | false=>exact fail H2 s2 (by rw [if_pos (.inr (.inr (.inl en)))])
   | true=>
    have dgx:DGet H2 a (.str x) (valV (numD 0 S.names) (Sum.inr x)):=DGet.k (k:=Sum.inr x) (s2 _ _ Y.num)
    rw [numD_val] at dgx
    refine ⟨_,rfl,p,_,_,_,rfl,rfl,SqL.of (s2 _ _ hp),qAN (j:=1) rfl,_,rfl,y,c_Sheet,dx,_,_,rfl,s2 _ _ Y.obj,cl_Sheet,ns_Sheet.numbers,qC4,a,_,rfl,dgx,_,rfl,?_⟩
    cases em:nmF 0 S.names x with
    | some n=>
     exact fail H2 s2 (if_pos (.inr (.inr (.inr (Classical.not_not.mp fun z=>by rw [nmF_none.mpr z] at em;cases em)))))
    | none=>
     have nin:=nmF_none.mp em
     have e1:¬ (S.deeds.isEmpty=false∨S.net.length=40∨isNm x=false∨x ∈ S.names):=by
      rintro (z | z | z | z)
      ·rw [ed] at z;cases z
      ·exact n40 z
      ·rw [en] at z;cases z
      ·exact nin z
     rw [if_neg e1] at q fail
     have l40:=Y.n40
     have lnm:=Y.nl
     refine ⟨_,rfl,_,rfl,p,_,rfl,SqL.of (s2 _ _ hp),fun p2 h2=>?_⟩
     have ec:cutV ((x0::x::r).map V.str) (some 2) none=((x0::x::r).drop 2).map V.str:=qCD (k:=2) (by simp)
     rw [ec]
     have s3:=s2.trans (qA3 h2 (.lst (((x0::x::r).drop 2).map V.str)))
     refine ⟨_,rfl,y,c_Sheet,dx,_,_,rfl,s3 _ _ Y.obj,cl_Sheet,ns_Sheet.numbers,qC4,p2,a,r,S.names,rfl,qA1,s3 _ _ Y.num,by simp at l1;lia,by lia,fun v H4 s4 rn=>?_⟩
     have s5:=s3.trans s4
     refine ⟨_,rfl,_,rfl,?_⟩
     cases ek:wkF S.names r with
     | none=>
      rw [ek] at rn fail
      obtain rfl:v=.non:=rn
      exact fail H4 s5 rfl
     | some ks=>
      rw [ek] at rn q
      obtain ⟨t,rfl,tu⟩:=rn
      have hb5:=s5 _ _ hb
      have Y5:=Y.next s5
      refine ⟨_,rfl,y,c_Sheet,dx,_,_,rfl,s5 _ _ Y.obj,cl_Sheet,ns_Sheet.net,sf_net,b,_,rfl,.inl (SqL.of hb5),_,rfl,y,c_Sheet,dx,_,_,rfl,s5 _ _ Y.obj,cl_Sheet,ns_Sheet.numbers,qC4,_,rfl,p,_,_,_,rfl,rfl,SqL.of (s5 _ _ hp),qAN (j:=1) rfl,a,_,rfl,DPut.k (k:=Sum.inr x) (s5 _ _ Y.num) (by rw [numD_len,sizeLine_eq];lia),?_⟩
      have ep:putK (numD 0 S.names) (Sum.inr x) (.int (((rs.map V.ref).length:Nat):Int))=numD 0 (S.names++[x]):=by
       have:=numD_put (k:=0) nin
       rw [Nat.zero_add,lnm] at this
       rw [lb]
       exact this
      rw [ep]
      have nab:b ≠ a:=ne_of hb Y.num (by intro z;cases z)
      have nya:y ≠ a:=ne_of Y.obj Y.num (by intro z;cases z)
      have hb6:(upd H4 a (.dK (numD 0 (S.names++[x])))) b=some (.lst (rs.map V.ref)):=by rw [qA7 nab];exact hb5
      refine ⟨_,rfl,y,c_Sheet,dx,_,_,rfl,by rw [qA7 nya];exact s5 _ _ Y.obj,cl_Sheet,ns_Sheet.net,sf_net,.inl ⟨rfl,_,SqL.of hb6⟩,_,rfl,b,_,_,rfl,rfl,hb6,by rw [lb,sizeLine_eq];lia,?_⟩
      exact q _ ((KeepL.of_same s5).trans ((qB8 (by simp)).trans (qB8 (by simp)))) (Y5.putW hb5 (qB2 hn fun _ _ z=>z.imp fun b xs=>s5 b _) tu (by lia))
theorem sc_Sheet_take_deed:FnScope ["self","words","deed"] ["self","words"] (defScope qAQ):=sc_mk
theorem ok_Sheet_take_deed (F:Fun K "take_deed" "Sheet.take_deed" qAQ f fd) (cl_Sheet:Cls K c_Sheet) (ns_Sheet:SNa K c_Sheet) (C_deed_of:Clb P w K mg base 4 f_deed_of fd_deed_of "deed_of" ["words","numbers"] spDeedN):FnOk P w K mg base CX0 5 f fd ["self","words"] (spTDeed c_Sheet):=by
 refine F.okA sc_Sheet_take_deed fun cdv A outer s H vs Q E hr h=>?_
 obtain ⟨y,dx,a,b,c,p,S,ws,rfl,Y,hp,dg,ne,l1,l2,q⟩:=h
 refine ⟨_,(qA5 (qAF (i:=2) sc_Sheet_take_deed.nd rfl (Or.inl rfl) (pe_cl C_deed_of hr rfl (qA0 (pv 1) (qA0 (qBL (pv 0) rfl) qA4)))) (qA5 (ps_if (PW.pt (pw_or (qCE (pt_truth (qBL (pv 0) rfl) (fun _=>rfl))) (qC5 (qCF (qCY (pv 2)))))) (qA8 (qAD pe_bl)) qAG) (qA5 (qBG (pe_bm PySem.F.plainAttrs_list PySem.F.slot_list_append PySem.F.type_list_append qAY (qBL (pv 0) rfl) (qA0 (pv 2) qA4))) (qA8 (qAD pe_bl))))),?_⟩
 try dsimp only [Cx.nox,Cx.wish,cxOf]
 obtain ⟨rs,hb,hn⟩:=Y.net
 have lnm:=Y.nl
 have l40:=Y.n40
 refine cut fun N hN=>?_
 refine ⟨_,rfl,_,rfl,y,c_Sheet,dx,_,_,rfl,Y.obj,cl_Sheet,ns_Sheet.numbers,qC4,p,a,ws,S.names,rfl,hp,Y.num,l1,by lia,dg,ne,fun v H2 s2 rd=>hN _ _ ?_⟩
 clear hN
 have Y2:=Y.next s2
 have fail:deedT S ws=none→Q (.bl false) H2:=fun e=>by
  have:=q H2 (KeepL.of_same s2)
  rw [e] at this
  exact this Y2
 obtain ⟨vs,hc,hv⟩:=Y2.deeds
 refine ⟨_,rfl,y,c_Sheet,dx,_,_,rfl,s2 _ _ Y.obj,cl_Sheet,ns_Sheet.net,sf_net,_,.inl ⟨_,SqL.of (s2 _ _ hb),rfl⟩,?_⟩
 have ev:(rs.map V.ref).isEmpty=S.net.isEmpty:=by rw [← paired_nil hn];cases rs <;> rfl
 rw [ev]
 unfold deedT at q fail
 cases ed:S.net.isEmpty with
 | true=>exact fail (by rw [if_pos ed])
 | false=>
  rw [ed,if_neg Bool.false_ne_true] at q fail
  refine ⟨_,rfl,_,rfl,?_⟩
  cases ek:deedF S.names ws with
  | none=>
   rw [ek] at rd fail
   obtain rfl:v=.non:=rd
   exact fail rfl
  | some d=>
   rw [ek] at rd q
   have nv:¬ v=.non:=by
    intro z
    subst z
    cases d with
    | al w=>obtain ⟨_,z,_⟩:=(show ∃ _,_∧_ from rd);cases z
    | on w n=>obtain ⟨_,z,_⟩:=(show ∃ _,_∧_ from rd);cases z
    | so w n=>obtain ⟨_,_,z,_⟩:=(show ∃ _ _,_∧_ from rd);cases z
    | st w n=>obtain ⟨_,_,z,_⟩:=(show ∃ _ _,_∧_ from rd);cases z
   rw [decide_eq_false nv]
   have lv:vs.length=S.deeds.length:=Paired.length hv
   refine ⟨_,rfl,y,c_Sheet,dx,_,_,rfl,s2 _ _ Y.obj,cl_Sheet,ns_Sheet.deeds,sf_deeds,.inl ⟨rfl,_,SqL.of hc⟩,_,rfl,c,_,_,rfl,rfl,hc,by rw [sizeLine_eq];lia,?_⟩
   exact q _ ((KeepL.of_same s2).trans (qB8 (by simp))) (Y2.putD hc hv rd)
theorem qD0:FnScope ["self","words"] ["self","words"] (defScope qAK):=sc_mk
theorem ok_Sheet_take_words (F:Fun K "take_words" "Sheet.take_words" qAK f fd) (cl_Sheet:Cls K c_Sheet) (ns_Sheet:SNa K c_Sheet) (me_Sheet_take_rooms:Meth K c_Sheet "take_rooms" f_Sheet_take_rooms) (me_Sheet_take_work:Meth K c_Sheet "take_work" f_Sheet_take_work) (me_Sheet_take_deed:Meth K c_Sheet "take_deed" f_Sheet_take_deed)
  (G_Sheet_take_rooms:FnOk P w K mg base CX0 2 f_Sheet_take_rooms fd_Sheet_take_rooms ["self","words"] (spTRooms c_Sheet)) (b_Sheet_take_rooms:Binds K fd_Sheet_take_rooms ["self","words"] [])
  (G_Sheet_take_work:FnOk P w K mg base CX0 2 f_Sheet_take_work fd_Sheet_take_work ["self","words"] (spTWork c_Sheet)) (b_Sheet_take_work:Binds K fd_Sheet_take_work ["self","words"] [])
  (G_Sheet_take_deed:FnOk P w K mg base CX0 5 f_Sheet_take_deed fd_Sheet_take_deed ["self","words"] (spTDeed c_Sheet)) (b_Sheet_take_deed:Binds K fd_Sheet_take_deed ["self","words"] []):FnOk P w K mg base CX0 6 f fd ["self","words"] (spTWords c_Sheet):=by
 refine F.okA qD0 fun cdv A outer s H vs Q E hr h=>?_
 obtain ⟨y,dx,a,b,c,p,S,ws,rfl,Y,hp,dg,ne,l1,l2,q⟩:=h
 have hr_Sheet_take_rooms:Room 2 _:=(hr.mono (by decide))
 have hr_Sheet_take_work:Room 2 _:=(hr.mono (by decide))
 have hr_Sheet_take_deed:Room 5 _:=(hr.mono (by decide))
 refine ⟨_,(qA5 (ps_if (qCF (qCY (qBL (pv 0) rfl))) (qA8 (qAD (pe_meth (pv 0) cl_Sheet me_Sheet_take_rooms G_Sheet_take_rooms hr_Sheet_take_rooms b_Sheet_take_rooms .nil pass0 (qA0 (pv 1) qA4)))) qAG) (qA5 (ps_if (qAB op_eq (pe_ix qAI (pv 1) qA6 (fun _ _=>rfl)) qAE (nomark _)) (qA8 (qAD (pe_meth (pv 0) cl_Sheet me_Sheet_take_work G_Sheet_take_work hr_Sheet_take_work b_Sheet_take_work .nil pass0 (qA0 (pv 1) qA4)))) qAG) (qA8 (qAD (pe_meth (pv 0) cl_Sheet me_Sheet_take_deed G_Sheet_take_deed hr_Sheet_take_deed b_Sheet_take_deed .nil pass0 (qA0 (pv 1) qA4)))))),?_⟩
 try dsimp only [Cx.nox,Cx.wish,cxOf]
 refine ⟨_,rfl,y,c_Sheet,dx,_,_,rfl,Y.obj,cl_Sheet,ns_Sheet.rooms,sf_rooms,_,rfl,?_⟩
 obtain ⟨x,r,rfl⟩:∃ x r,ws=x::r:=by
  cases ws with
  | nil=>exact absurd rfl ne
  | cons x r=>exact ⟨x,r,rfl⟩
 unfold wordsT at q
 have nof:∀ m:Str,m ≠ "rooms"→m ≠ "numbers"→m ≠ "net"→m ≠ "deeds"→(sfs (optV S.rooms) a b c).lookup m=none:=fun m h1 h2 h3 h4=>by
  unfold sfs
  rw [qAC,if_neg h4,qAC,if_neg h3,qAC,if_neg h2,qAC,if_neg h1]
  rfl
 cases er:S.rooms with
 | none=>
  rw [if_pos er] at q
  exact ⟨_,rfl,y,dx,_,rfl,Y.obj,nof _ (by decide) (by decide) (by decide) (by decide),_,rfl,y,dx,a,b,c,p,S,_,rfl,Y,hp,dg,er,q⟩
 | some n=>
  rw [if_neg (by rw [er];intro z;cases z)] at q
  rw [List.head?_cons] at q
  refine ⟨_,rfl,p,_,_,_,rfl,rfl,SqL.of hp,qAN (j:=0) rfl,rfl,_,rfl,?_⟩
  by_cases ex:x = "work"
  ·rw [if_pos (by rw [ex])] at q
   rw [decide_eq_true (by rw [ex])]
   exact ⟨_,rfl,y,dx,_,rfl,Y.obj,nof _ (by decide) (by decide) (by decide) (by decide),_,rfl,y,dx,a,b,c,p,S,_,rfl,Y,hp,dg,l1,q⟩
  ·rw [if_neg (fun z=>ex (Option.some.inj z))] at q
   rw [decide_eq_false fun z=>ex (V.str.inj z)]
   exact ⟨_,rfl,y,dx,_,rfl,Y.obj,nof _ (by decide) (by decide) (by decide) (by decide),_,rfl,y,dx,a,b,c,p,S,_,rfl,Y,hp,dg,ne,l1,l2,q⟩
theorem sc_Sheet_take_row:FnScope ["self","row","words"] ["self","row"] (defScope qAR):=sc_mk
theorem ok_Sheet_take_row (F:Fun K "take_row" "Sheet.take_row" qAR f fd) (cl_Sheet:Cls K c_Sheet) (ns_Sheet:SNa K c_Sheet) (me_Sheet_take_words:Meth K c_Sheet "take_words" f_Sheet_take_words)
  (G_Sheet_take_words:FnOk P w K mg base CX0 6 f_Sheet_take_words fd_Sheet_take_words ["self","words"] (spTWords c_Sheet)) (b_Sheet_take_words:Binds K fd_Sheet_take_words ["self","words"] []) (m_MOST_SIGNS:mg "MOST_SIGNS" = some (.int 200 tk_MOST_SIGNS)) (z_len:mg "len" = none) (z_all:mg "all" = none):FnOk P w K mg base CX0 7 f fd ["self","row"] (spTRow c_Sheet):=by
 refine F.okA sc_Sheet_take_row fun cdv A outer s H vs Q E hr h=>?_
 obtain ⟨y,dx,a,b,c,S,row,rfl,Y,l1,l2,q⟩:=h
 have hr_Sheet_take_words:Room 6 _:=(hr.mono (by decide))
 refine ⟨_,(qA5 (ps_if (qAB op_eq (pv 1) qAE (nomark _)) (qA8 (qAD pe_bl)) qAG) (qA5 (ps_if (PW.pt (pw_or (qAB op_gt (qA9 qBE rfl z_len qAJ (qA0 (pv 1) qA4)) (qBD (v:=.int (200)) rfl m_MOST_SIGNS ⟨_,rfl⟩) (nomark _)) (qC5 (qCE (qBX (qA9 (call_all rfl) rfl z_all bt_all (qA0 (pe_lc rfl (lcs (own:=["sign"]) (fv:=[]) (by kernel_rfl)) (pi_str (pv 1)) (fun z1=>pg_in 0) (fun z1=>qBC) (fun z1=>(pe_chain op_le_str op_le_str qAE (pv 0) qAE))) qA4))))))) (qA8 (qAD pe_bl)) qAG) (qA5 (qAF (i:=2) sc_Sheet_take_row.nd rfl (Or.inl rfl) (pe_bm PySem.F.plainAttrs_str PySem.F.slot_str_split PySem.F.type_str_split mt_split (pv 1) (qA0 qAE qA4))) (qA8 (qAD (qBM (qAX op_notIn_seq qAE (pv 2) (by with_unfolding_all rfl)) (qC6 (pe_meth (pv 0) cl_Sheet me_Sheet_take_words G_Sheet_take_words hr_Sheet_take_words b_Sheet_take_words .nil pass0 (qA0 (pv 2) qA4))))))))),?_⟩
 try dsimp only [Cx.nox,Cx.wish,cxOf]
 have hs:=sizeLine_eq
 have nof:∀ m:Str,m ≠ "rooms"→m ≠ "numbers"→m ≠ "net"→m ≠ "deeds"→(sfs (optV S.rooms) a b c).lookup m=none:=fun m h1 h2 h3 h4=>by
  unfold sfs
  rw [qAC,if_neg h4,qAC,if_neg h3,qAC,if_neg h2,qAC,if_neg h1]
  rfl
 unfold rowT at q
 refine ⟨_,rfl,rfl,_,rfl,?_⟩
 by_cases e0:row = ""
 ·rw [if_pos e0] at q
  rw [decide_eq_true (by rw [e0])]
  exact q H (KeepL.of_same (Same.refl H)) Y
 rw [if_neg e0] at q
 rw [decide_eq_false fun z=>e0 (V.str.inj z)]
 refine ⟨_,rfl,_,rfl,by lia,_,_,rfl,rfl,_,rfl,?_⟩
 refine ite2 (fun c1=>?_) fun c1=>?_
 ·rw [if_neg (fun z=>by have:=of_decide_eq_true c1;lia)] at q
  exact q H (KeepL.of_same (Same.refl H)) Y
 have l200:row.length≤200:=by
  have:¬ _:=fun z=>c1 (decide_eq_true z)
  lia
 refine ⟨_,rfl,row,rfl,fun g hg=>lc_str (fun i σ Hi=>∃ v,σ=[v]∧Same H Hi∧Hi g=some (.lst (((row.cps.toList.take i).map (signIn 32 126)).map V.bl))) ⟨none,rfl,qA3 hg _,qA1⟩ ?_ ?_⟩
 ·refine fun i k σ Hi ec hI_1=>opq fun G_1 hG_1=>?_
  obtain ⟨v,rfl,sm,hpi⟩:=hI_1
  refine hG_1 ?_
  refine ⟨_,rfl,_,_,rfl,rfl,_,rfl,?_⟩
  have l1:=le_sign (a:=32) (b:=k)
  have l2:=le_sign (a:=k) (b:=126)
  have fin:∀ b,b=signIn 32 126 k→∃ ys,Hi g=some (.lst ys)∧ys.length<sizeLine∧∃ v,[some (V.str ⟨#[k]⟩)]=[v]∧Same H (upd Hi g (.lst (ys++[V.bl b])))∧(upd Hi g (.lst (ys++[V.bl b]))) g=some (.lst (((row.cps.toList.take (i+1)).map (signIn 32 126)).map V.bl)):=fun b e=>⟨_,hpi,by have:=signs_len (z:=row) (lo:=32) (hi:=126) (i:=i);lia,_,rfl,fun b u e=>by rw [qA7 (qA2 e hg)];exact sm b u e,by rw [qA1,e,signs_snoc ec]⟩
  rw [show (Str.ofString " ").cps.toList=[32] by decide,show (⟨#[k]⟩:Str).cps.toList=[k] from rfl,l1]
  refine ite2 (fun h1=>?_) fun h1=>?_
  ·refine ⟨_,_,rfl,rfl,?_⟩
   rw [show (Str.ofString "~").cps.toList=[126] by decide,show (⟨#[k]⟩:Str).cps.toList=[k] from rfl,l2]
   exact fin _ (by unfold signIn;rw [h1,Bool.true_and])
  ·exact fin _ (by unfold signIn;rw [Bool.eq_false_iff.mpr h1,Bool.false_and])
 ·refine fun σ Hi hI_2=>opq fun G_2 hG_2=>?_
  obtain ⟨v,rfl,sm,hpi⟩:=hI_2
  refine hG_2 ?_
  refine ⟨g,_,rfl,SqL.of hpi,_,rfl,?_⟩
  rw [signs_all]
  cases ea:row.cps.toList.all (signIn 32 126) with
  | false=>
   rw [if_neg (fun z=>by have:=z.2;unfold asc at this;rw [ea] at this;cases this)] at q
   exact q Hi (KeepL.of_same sm) (Y.next sm)
  | true=>
   rw [if_pos ⟨l200,ea⟩] at q
   refine ⟨_,rfl,rfl,_,_,rfl,rfl,by decide,by lia,fun g2 h2=>?_⟩
   have s2:=sm.trans (qA3 h2 (.lst ((Txt.split row (Str.ofString " ")).map V.str)))
   refine ⟨_,rfl,g2,_,rfl,.inl (SqL.of qA1),rfl,flat_strs _,_,rfl,?_⟩
   rw [show inV (.str (Str.ofString "")) ((Txt.split row (Str.ofString " ")).map V.str)=decide (Str.ofString "" ∈ Txt.split row (Str.ofString " ")) from qBJ _ _]
   by_cases ein:Str.ofString "" ∈ Txt.split row (Str.ofString " ")
   ·rw [if_pos ein] at q
    rw [decide_eq_true ein]
    exact q _ (KeepL.of_same s2) (Y.next s2)
   ·rw [if_neg ein] at q
    rw [decide_eq_false ein]
    have Y2:=Y.next s2
    have ls:=PyProof.Rows.split_le row (Str.ofString " ")
    refine ⟨_,rfl,y,dx,_,rfl,Y2.obj,nof _ (by decide) (by decide) (by decide) (by decide),_,rfl,y,dx,a,b,c,g2,S,_,rfl,Y2,qA1,dg_words l200 ea,fun z=>?_,by lia,l2,fun H' k Y'=>q H' ((KeepL.of_same s2).trans k) Y'⟩
    have:=PyProof.Rows.split_pos row (Str.ofString " ")
    rw [z] at this
    cases this
theorem sc_Lnames:FnScope ["_law_state","_law_many","_law_some","_law_first","_law_way","_law_found","_law_k","_law_name"] ["_law_state","_law_many"] (defScope s_Lnames):=sc_mk
theorem ok_Lnames (F:Fun K "_law_names" "_law_names" s_Lnames f fd) (C_Ltake:Clb P w K mg base 1 f_Ltake fd_Ltake "_law_take" ["_law_state","_law_many"] spTake) (z_range:mg "range" = none) (z_len:mg "len" = none):FnOk P w K mg base CX0 2 f fd ["_law_state","_law_many"] spNamesW:=by
 refine F.okA sc_Lnames fun cdv A outer s H vs Q E hr h=>?_
 obtain ⟨d,c,t,ns,m,rfl,S,ht,hm0,hm1,q⟩:=h
 have hu0:=hr.units0
 refine ⟨_,(qA5 (qAF (i:=2) sc_Lnames.nd rfl (Or.inl rfl) (pe_bm PySem.F.plainAttrs_str PySem.F.slot_str_split PySem.F.type_str_split mt_split qAE (qA0 qAE qA4))) (qA5 (qAF (i:=3) sc_Lnames.nd rfl (Or.inl rfl) (pe_cl C_Ltake hr rfl (qA0 (pv 0) (qA0 qA6 qA4)))) (qA5 (qAF (i:=4) sc_Lnames.nd rfl (Or.inl rfl) (pe_cl C_Ltake hr rfl (qA0 (pv 0) (qA0 qA6 qA4)))) (qA5 (qAF (i:=5) sc_Lnames.nd rfl (Or.inl rfl) (qAO qA4)) (qA5 (ps_for PassesOwn.never rfl (qBK rfl z_range (qA0 (pv 1) qA4)) (qB7 (i:=6) sc_Lnames.nd rfl (Or.inl rfl)) (qA5 (qAF (i:=7) sc_Lnames.nd rfl (Or.inl rfl) (pe_op op_mul_str (pe_ix ix_str qAE (pe_op op_mod (pe_op qBN (pv 3) (pv 6)) qA6) (fun _ _=>rfl)) (pe_op qBN qA6 (pe_op op_fdiv (pv 6) qA6)))) (qA5 (ps_if (PW.pt (pw_and (qAB op_gt (pv 4) qA6 (nomark _)) (pw_and (qAB op_eq (pe_op op_mod (pv 6) qA6) (pe_op qC8 (pv 4) qA6) (nomark _)) (pw_and1 (qAB (op_ne_nil hu0) (pv 2) (qAO qA4) (nomark _)))))) (qA8 (qAF (i:=7) sc_Lnames.nd rfl (Or.inl rfl) (pe_bm PySem.F.plainAttrs_list PySem.F.slot_list_pop PySem.F.type_list_pop mt_popAt (pv 2) (qA0 (pe_cl C_Ltake hr rfl (qA0 (pv 0) (qA0 (qA9 qAA rfl z_len qAJ (qA0 (pv 2) qA4)) qA4))) qA4)))) qAG) (qA8 (qBG (pe_bm PySem.F.plainAttrs_list PySem.F.slot_list_append PySem.F.type_list_append qAY (pv 5) (qA0 (pv 7) qA4))))))) (qA8 (qAD (pv 5)))))))),?_⟩
 try dsimp only [Cx.nox,Cx.wish,cxOf]
 have hs:=sizeLine_eq
 have ht':t≤1000000000 - 1000:=ht
 refine cut fun N0 hN0=>?_
 refine ⟨rfl,_,_,rfl,rfl,by decide,by rw [hs];decide +kernel,fun ls hls=>hN0 _ _ ?_⟩
 rw [split16]
 clear hN0
 have S1:=S.new hls (.lst (w16.map V.str))
 refine cut fun N1 hN1=>?_
 refine ⟨_,rfl,d,c,t,ns,26,rfl,S1,(by show t≤1000000000;lia),by decide,by decide,fun f1 ns1 H1 f0 f26 S2 K2=>hN1 _ _ (cut fun N2 hN2=>?_)⟩
 clear hN1
 refine ⟨_,rfl,d,c,t+1,ns1,3,rfl,S2,(by show t+1≤1000000000;lia),by decide,by decide,fun wy ns2 H2 w0 w3 S3 K3=>hN2 _ _ (cut fun N3 hN3=>?_)⟩
 clear hN2
 have nld:ls ≠ d:=(qA2 S.dict hls).symm
 have nlc:ls ≠ c:=(qA2 S.list hls).symm
 have K4:Keep d c (upd H ls (.lst (w16.map V.str))) H2:=K2.trans K3
 have gl:H2 ls=some (.lst (w16.map V.str)):=K4 _ _ qA1 nld nlc
 have K5:Keep d c H H2:=(qAV hls _).trans K4
 refine ⟨(by show 0≤sizeLine;decide),fun fo hfo=>hN3 _ _ (cut fun N4 hN4=>?_)⟩
 clear hN3
 have nfd:fo ≠ d:=(qA2 S3.dict hfo).symm
 have nfc:fo ≠ c:=(qA2 S3.list hfo).symm
 have nlf:ls ≠ fo:=qA2 gl hfo
 have hFo:H fo=none:=by
  cases e:H fo with
  | none=>rfl
  | some o=>rw [K5 _ _ e nfd nfc] at hfo;cases hfo
 obtain ⟨fn,rfl⟩:∃ fn:Nat,f1=(fn:Int):=⟨f1.toNat,by lia⟩
 refine ⟨_,rfl,m,rfl,by lia,by lia,qCK (lo:=0) (n:=m.toNat) (fun i σ Hc=>∃ (t':Int) (ms:List Int) (ws fs us:List Str) (js:List Nat) (v6 v7:Option V),σ=[some (.ref d),some (.int m),some (.ref ls),some (.int (fn:Int)),some (.int wy),some (.ref fo),v6,v7]∧StAt Hc d c t' ms∧t≤t'∧t'≤t+2+i∧Keep d c H Hc∧
  Hc ls=some (.lst (ws.map V.str))∧Hc fo=some (.lst (fs.map V.str))∧fs.length=i∧fs.Perm (us++js.map (lname fn))∧(us++ws).Perm w16∧js.Pairwise (·<·)∧∀ j ∈ js,j<i)
  ⟨t+1+1,ns2,w16,[],[],[],none,none,rfl,S3.new hfo _,by lia,by lia,K5.trans (qAV hfo _),by rw [qA7 nlf];exact gl,qA1,rfl,.refl _,.refl _,.nil,fun _ z=>nomatch z⟩ ?_ ?_⟩
 ·refine fun i σ Hc hi hI_1=>opq fun G_1 hG_1=>?_
  obtain ⟨t',ms,ws,fs,us,js,v6,v7,rfl,S4,a1,a2,K6,g1,g2,l1,p1,p2,up,jb⟩:=hI_1
  refine hG_1 ?_
  have i40:i<50:=by lia
  refine nmD fun D1 d1 dr=>cut fun M0 hM0=>?_
  refine ⟨_,rfl,_,rfl,_,_,rfl,rfl,_,_,rfl,rfl,(by show (0:Int)<26;decide),_,_,_,rfl,rfl,alpha_len,alpha_at (Int.emod_nonneg _ (by decide)) (Int.emod_lt_of_pos _ (by decide)),_,rfl,_,_,rfl,rfl,⟨by decide,by decide⟩,_,_,rfl,rfl,_,_,rfl,rfl,by lia,by lia,(by show 1≤1000;decide),hM0 _ _ ?_⟩
  clear hM0
  have en:Txt.mul ⟨#[97+(((fn:Int)+(0+(i:Int))) % 26).toNat]⟩ (1+(0+(i:Int)) / 26)=lname fn i:=by
   unfold lname
   have e1:(((fn:Int)+(0+(i:Int))) % 26).toNat=(fn+i) % 26:=by lia
   have e2:(0+(i:Int)) / 26=((i / 26:Nat):Int):=by lia
   rw [e1,e2]
  rw [en]
  refine cut fun M1 hM1=>?_
  have nodc:∀ {Hx:Hp} {x:Str} {u:List V},StAt Hx d c t' ms→Hx fo=some (.lst u)→True:=fun _ _=>trivial
  have fin:∀ (x:Str) (t2:Int) (ms2:List Int) (ws2 us2:List Str) (js2:List Nat) (H3:Hp),StAt H3 d c t2 ms2→t≤t2→t2≤t+2+(i+1)→Keep d c H H3→H3 ls=some (.lst (ws2.map V.str))→H3 fo=some (.lst (fs.map V.str))→(fs++[x]).Perm (us2++js2.map (lname fn))→(us2++ws2).Perm w16→js2.Pairwise (·<·)→(∀ j ∈ js2,j<i+1)→
    M1 [some (.ref d),some (.int m),some (.ref ls),some (.int (fn:Int)),some (.int wy),some (.ref fo),some (.int (0+(i:Int))),some (.str x)] H3:=fun x t2 ms2 ws2 us2 js2 H3 b1 b2 b3 b4 b5 b6 b7 b8 b9 b10=>by
   refine hM1 _ _ ⟨_,rfl,.inl ⟨rfl,_,SqL.of b6⟩,_,rfl,fo,_,_,rfl,rfl,b6,by rw [List.length_map];lia,d1 _ _ ?_⟩
   refine ⟨t2,ms2,ws2,fs++[x],us2,js2,_,_,rfl,⟨by rw [qA7 nfd.symm];exact b1.dict,by rw [qA7 nfc.symm];exact b1.list,b1.ne,b1.len,b1.pos⟩,b2,by lia,fun b o e n1 n2=>by rw [qA7 (qA2 e hFo)];exact b4 b o e n1 n2,by rw [qA7 nlf];exact b5,by rw [qA1,List.map_append];rfl,by rw [List.length_append,l1];rfl,b7,b8,b9,b10⟩
  clear hM1
  have plain:M1 [some (.ref d),some (.int m),some (.ref ls),some (.int (fn:Int)),some (.int wy),some (.ref fo),some (.int (0+(i:Int))),some (.str (lname fn i))] Hc:=by
   refine fin _ t' ms ws us (js++[i]) Hc S4 a1 (by lia) K6 g1 g2 ?_ p2 ?_ fun j hj=>?_
   ·rw [List.map_append,← List.append_assoc]
    exact p1.append_right _
   ·exact List.pairwise_append.mpr ⟨up,List.pairwise_singleton _ _,fun a ha b hb=>by rw [List.mem_singleton.mp hb];exact jb a ha⟩
   ·rcases List.mem_append.mp hj with hj | hj
    ·have:=jb j hj;lia
    ·rw [List.mem_singleton.mp hj];lia
  refine ⟨_,rfl,_,_,rfl,rfl,_,rfl,?_⟩
  refine ite2 (fun c1=>?_) fun c1=>iteF plain
  refine ⟨_,rfl,_,_,rfl,rfl,(by show (0:Int)<3;decide),_,rfl,_,_,rfl,rfl,rfl,_,rfl,?_⟩
  refine ite2 (fun c2=>?_) fun c2=>iteF plain
  refine ⟨_,rfl,(by show 0≤sizeLine;decide),fun e he=>⟨ls,e,_,rfl,rfl,SqL.of (by rw [qA7 (qA2 g1 he)];exact g1),SqL.of qA1,_,rfl,?_⟩⟩
  have se:=qA3 he (.lst [])
  have Se:=S4.same se
  have ge:=se _ _ g1
  have gf:=se _ _ g2
  have Ke:=K6.trans (.of_same (d:=d) (c:=c) se)
  generalize upd Hc e (.lst [])=H5 at Se ge gf Ke ⊢
  have plain5:M1 [some (.ref d),some (.int m),some (.ref ls),some (.int (fn:Int)),some (.int wy),some (.ref fo),some (.int (0+(i:Int))),some (.str (lname fn i))] H5:=by
   refine fin _ t' ms ws us (js++[i]) H5 Se a1 (by lia) Ke ge gf ?_ p2 ?_ fun j hj=>?_
   ·rw [List.map_append,← List.append_assoc]
    exact p1.append_right _
   ·exact List.pairwise_append.mpr ⟨up,List.pairwise_singleton _ _,fun a ha b hb=>by rw [List.mem_singleton.mp hb];exact jb a ha⟩
   ·rcases List.mem_append.mp hj with hj | hj
    ·have:=jb j hj;lia
    ·rw [List.mem_singleton.mp hj];lia
  cases ws with
  | nil=>exact plain5
  | cons w0' ws0=>
   have lw:(w0'::ws0).length≤16:=by
    have:=p2.length_eq
    rw [List.length_append] at this
    have:w16.length=16:=rfl
    lia
   refine ⟨_,rfl,.inl ⟨rfl,_,SqL.of ge⟩,_,rfl,_,rfl,ls,_,rfl,.inl (SqL.of ge),d,c,t',ms,_,rfl,Se,(by show t'≤1000000000;lia),by simp;lia,by rw [List.length_map];lia,fun k ms2 H6 k0 k1 S6 K7=>?_⟩
   rw [List.length_map] at k1
   have g6:=K7 _ _ ge nld nlc
   have hk:k.toNat<(w0'::ws0).length:=by lia
   have hy:(w0'::ws0)[k.toNat]?=some ((w0'::ws0)[k.toNat]):=List.getElem?_eq_getElem hk
   generalize (w0'::ws0)[k.toNat]=y at hy
   refine ⟨ls,_,k,k.toNat,.str y,rfl,rfl,g6,by lia,by lia,seq_nat k0 (by rw [List.length_map];exact k1),by rw [List.getElem?_map,hy];rfl,?_⟩
   have pe:=perm_erase hy
   refine fin y (t'+1) ms2 ((w0'::ws0).eraseIdx k.toNat) (us++[y]) js _ ⟨by rw [qA7 nld.symm];exact S6.dict,by rw [qA7 nlc.symm];exact S6.list,S6.ne,S6.len,S6.pos⟩ (by lia) (by lia) (fun b o e n1 n2=>?_) ?_ (by rw [qA7 nlf.symm];exact K7 _ _ gf nfd nfc) ?_ ?_ up fun j hj=>by have:=jb j hj;lia
   ·have hb:b ≠ ls:=qA2 e hls
    rw [qA7 hb]
    exact (Ke.trans K7) b o e n1 n2
   ·rw [qA1,erase_map]
   ·rw [List.append_assoc]
    exact (p1.append_right [y]).trans (by rw [List.append_assoc];exact (List.perm_append_comm).append_left us)
   ·rw [List.append_assoc]
    exact (pe.append_left us).trans p2
 ·refine fun σ Hc hI_2=>opq fun G_2 hG_2=>?_
  obtain ⟨t',ms,ws,fs,us,js,v6,v7,rfl,S4,a1,a2,K6,g1,g2,l1,p1,p2,up,jb⟩:=hI_2
  refine hG_2 ?_
  refine hN4 _ _ ?_
  exact ⟨_,rfl,q fo fs t' ms Hc S4 a1 (by lia) K6 hFo g2 (names_w p1 p2 fun j hj=>by have:=jb j hj;lia) (by lia)⟩
theorem sc_Lmixed:FnScope ["_law_state","_law_some","_law_rest","_law_found"] ["_law_state","_law_some"] (defScope s_Lmixed):=sc_mk
theorem ok_Lmixed (F:Fun K "_law_mixed" "_law_mixed" s_Lmixed f fd) (C_Ltake:Clb P w K mg base 1 f_Ltake fd_Ltake "_law_take" ["_law_state","_law_many"] spTake) (z_list:mg "list" = none) (z_len:mg "len" = none):FnOk P w K mg base CX0 2 f fd ["_law_state","_law_some"] (spMixed K):=by
 refine F.okA sc_Lmixed fun cdv A outer s H vs Q E hr h=>?_
 obtain ⟨d,c,t,ns,p,xs,rfl,S,ht,hp,hl,q⟩:=h
 have hu0:=hr.units0
 refine ⟨_,(qA5 (qAF (i:=2) sc_Lmixed.nd rfl (Or.inl rfl) (qAH call_list_of rfl z_list bt_list (qA0 (pv 1) qA4))) (qA5 (qAF (i:=3) sc_Lmixed.nd rfl (Or.inl rfl) (qAO qA4)) (qA5 (ps_while PassesOwn.never (qAB (op_ne_nil hu0) (pv 2) (qAO qA4) (nomark _)) (qA8 (qBG (pe_bm PySem.F.plainAttrs_list PySem.F.slot_list_append PySem.F.type_list_append qAY (pv 3) (qA0 (pe_bm PySem.F.plainAttrs_list PySem.F.slot_list_pop PySem.F.type_list_pop mt_popAt (pv 2) (qA0 (pe_cl C_Ltake hr rfl (qA0 (pv 0) (qA0 (qA9 qAA rfl z_len qAJ (qA0 (pv 2) qA4)) qA4))) qA4)) qA4))))) (qA8 (qAD (pv 3)))))),?_⟩
 try dsimp only [Cx.nox,Cx.wish,cxOf]
 have hs:=sizeLine_eq
 have ht':t≤1000000000 - 1000:=ht
 refine cut fun N0 hN0=>?_
 refine ⟨_,rfl,p,xs,rfl,hp,fun re hre=>hN0 _ _ (cut fun N1 hN1=>?_)⟩
 clear hN0
 have s1:=qA3 hre (.lst xs)
 refine ⟨(by show 0≤sizeLine;decide),fun fo hfo=>hN1 _ _ (cut fun N2 hN2=>?_)⟩
 clear hN1
 have g1:(upd H re (.lst xs)) re=some (.lst xs):=qA1
 have nrf:re ≠ fo:=qA2 g1 hfo
 have nrd:re ≠ d:=(qA2 S.dict hre).symm
 have nrc:re ≠ c:=(qA2 S.list hre).symm
 have hFo:H fo=none:=s1.free hfo
 have nfd:fo ≠ d:=(qA2 S.dict hFo).symm
 have nfc:fo ≠ c:=(qA2 S.list hFo).symm
 have s2:=s1.trans (qA3 hfo (.lst []))
 refine ⟨fun n σ Hc=>∃ (t':Int) (ms:List Int) (rs ys:List V),σ=[some (.ref d),some (.ref p),some (.ref re),some (.ref fo)]∧n=rs.length∧StAt Hc d c t' ms∧t≤t'∧t'=t+ys.length∧Keep d c H Hc∧Hc re=some (.lst rs)∧Hc fo=some (.lst ys)∧(ys++rs).Perm xs,
  ⟨_,t,ns,xs,[],rfl,rfl,S.same s2,by lia,by simp,.of_same s2,qA3 hfo _ _ _ g1,qA1,.refl _⟩,?_⟩
 refine fun n σ Hc hI_3=>opq fun G_3 hG_3=>?_
 obtain ⟨t',ms,rs,ys,rfl,rfl,S3,a1,a2,K3,g3,g4,pm⟩:=hI_3
 refine hG_3 ?_
 have lys:ys.length+rs.length≤60:=by
  have:=pm.length_eq
  rw [List.length_append] at this
  lia
 refine ⟨_,rfl,(by show 0≤sizeLine;decide),fun e he=>⟨re,e,_,rfl,rfl,SqL.of (by rw [qA7 (qA2 g3 he)];exact g3),SqL.of qA1,_,rfl,?_⟩⟩
 have se:=qA3 he (.lst [])
 have Se:=S3.same se
 have ge:=se _ _ g3
 have gf:=se _ _ g4
 have Ke:=K3.trans (.of_same (d:=d) (c:=c) se)
 generalize upd Hc e (.lst [])=H5 at Se ge gf Ke ⊢
 cases rs with
 | nil=>
  refine iteF (hN2 _ _ ⟨_,rfl,q fo ys t' ms H5 Se a1 (by lia) Ke hFo gf (by simpa using pm)⟩)
 | cons x0 rs0=>
  refine iteT ⟨fun σ' H'=>∃ (t':Int) (ms:List Int) (rs ys:List V),σ'=[some (.ref d),some (.ref p),some (.ref re),some (.ref fo)]∧rs.length=rs0.length∧StAt H' d c t' ms∧t≤t'∧t'=t+ys.length∧Keep d c H H'∧H' re=some (.lst rs)∧H' fo=some (.lst ys)∧(ys++rs).Perm xs,fun σ' H' ⟨t',ms,rs,ys,e1,e2,h⟩=>⟨rs.length,by rw [e2];exact Nat.lt_succ_self _,t',ms,rs,ys,e1,rfl,h⟩,?_⟩
  rw [List.length_cons] at lys
  refine ⟨_,rfl,.inl ⟨rfl,_,SqL.of gf⟩,_,rfl,.inl ⟨rfl,_,SqL.of ge⟩,_,rfl,_,rfl,re,_,rfl,.inl (SqL.of ge),d,c,t',ms,_,rfl,Se,(by show t'≤1000000000;lia),by rw [List.length_cons];lia,by rw [List.length_cons];lia,fun k ms2 H6 k0 k1 S6 K7=>?_⟩
  have g6:=K7 _ _ ge nrd nrc
  have hk:k.toNat<(x0::rs0).length:=by lia
  have k2:k<61:=by rw [List.length_cons] at k1;lia
  have hy:(x0::rs0)[k.toNat]?=some ((x0::rs0)[k.toNat]):=List.getElem?_eq_getElem hk
  generalize (x0::rs0)[k.toNat]=y at hy
  refine ⟨re,_,k,k.toNat,y,rfl,rfl,g6,by lia,by lia,seq_nat k0 k1,hy,?_⟩
  have pe:=perm_erase hy
  have gf6:=K7 _ _ gf nfd nfc
  refine ⟨fo,_,_,rfl,rfl,by rw [qA7 nrf.symm];exact gf6,by lia,?_⟩
  refine ⟨t'+1,ms2,(x0::rs0).eraseIdx k.toNat,ys++[y],rfl,by rw [List.length_eraseIdx_of_lt hk,List.length_cons];rfl,⟨by rw [qA7 nfd.symm,qA7 nrd.symm];exact S6.dict,by rw [qA7 nfc.symm,qA7 nrc.symm];exact S6.list,S6.ne,S6.len,S6.pos⟩,by lia,by rw [List.length_append,List.length_singleton];lia,fun b o e n1 n2=>?_,?_,qA1,?_⟩
  ·rw [qA7 (qA2 e hFo),qA7 (qA2 e hre)]
   exact (Ke.trans K7) b o e n1 n2
  ·rw [qA7 nrf];exact qA1
  ·rw [List.append_assoc]
   exact (pe.append_left ys).trans pm
theorem sc_Lhead:FnScope ["_law_state","_law_names_here","_law_net_here","_law_rooms","_law_found","_law_name","_law_needs"] ["_law_state","_law_names_here","_law_net_here","_law_rooms"] (defScope s_Lhead):=sc_mk
theorem ok_Lhead (F:Fun K "_law_head" "_law_head" s_Lhead f fd) (C_Lmixed:Clb P w K mg base 2 f_Lmixed fd_Lmixed "_law_mixed" ["_law_state","_law_some"] (spMixed K)) (z_str:mg "str" = none) (z_zip:mg "zip" = none):FnOk P w K mg base CX0 3 f fd ["_law_state","_law_names_here","_law_net_here","_law_rooms"] spHeadW:=by
 refine F.okA sc_Lhead fun cdv A outer s H vs Q E hr h=>?_
 obtain ⟨d,c,t,ns,ln,a,nm,net,r,rfl,S,ht,hln,nlc,hA,wf,nl,n12,ok,r0,r1,q⟩:=h
 refine ⟨_,(qA5 (qAF (i:=4) sc_Lhead.nd rfl (Or.inl rfl) (qAO (qA0 (pe_op qBR qAE (qAH call_str_int rfl z_str bt_str (qA0 (pv 3) qA4))) qA4))) (qA5 (ps_for PassesOwn.never rfl (pi_zip2 rfl z_zip bt_zip (qA0 (pv 1) (qA0 (pv 2) qA4))) (pg_tup rfl (qBA (qB7 (i:=5) sc_Lhead.nd rfl (Or.inl rfl)) (qBA (qB7 (i:=6) sc_Lhead.nd rfl (Or.inl rfl)) pgs_nil))) (qA8 (qBG (pe_bm PySem.F.plainAttrs_list PySem.F.slot_list_append PySem.F.type_list_append qAY (pv 4) (qA0 (pe_bm PySem.F.plainAttrs_str PySem.F.slot_str_join PySem.F.type_str_join mt_join qAE (qA0 (pe_op qCH (qAO (qA0 qAE (qA0 (pv 5) qA4))) (pe_lc rfl (lcs (own:=["_law_need"]) (fv:=[1]) (by kernel_rfl)) (qC2 (pe_cl C_Lmixed hr rfl (qA0 (pv 0) (qA0 (pv 6) qA4)))) (fun z1=>pg_in 0) (fun z1=>qBC) (fun z1=>(pe_ix (ix_listK (K:=K) rfl) (pv 1) (pv 0) (fun _ _=>rfl))))) qA4)) qA4))))) (qA8 (qAD (pv 4))))),?_⟩
 try dsimp only [Cx.nox,Cx.wish,cxOf]
 have hs:=sizeLine_eq
 have ht':t≤1000000000 - 10000:=ht
 have nld:ln ≠ d:=ne_of hln S.dict (by intro z;cases z)
 obtain ⟨rs,hA1,hA2⟩:=hA
 have lrs:=NetAt.len hA2
 obtain ⟨h1_,h2_,h3_⟩:=hrow_ok r.toNat (by lia)
 rw [show ((r.toNat:Nat):Int)=r by lia] at h1_ h2_ h3_
 refine cut fun N0 hN0=>?_
 refine ⟨_,rfl,r,rfl,log_100 r0 r1,_,_,rfl,rfl,?_,(by show 1≤sizeLine;decide),fun fo hfo=>hN0 _ _ (cut fun N1 hN1=>?_)⟩
 ·have:(Str.ofString "rooms ").length=6:=by decide
  lia
 clear hN0
 have nfd:fo ≠ d:=(qA2 S.dict hfo).symm
 have nfc:fo ≠ c:=(qA2 S.list hfo).symm
 have s1:=qA3 hfo (.lst [.str (hrow r)])
 refine ⟨_,rfl,_,rfl,false,true,ln,a,rfl,⟨_,SqB.of (b:=false) (s1 _ _ hln)⟩,⟨_,SqB.of (b:=true) (s1 _ _ hA1)⟩,for_zip2 (b:=false) (b':=true) (xs:=nm.map V.str) (ys:=rs.map V.ref) (by rw [List.length_map,List.length_map];lia) (fun i σ Hc=>∃ (t':Int) (ms:List Int) (rows:List Str) (v5 v6:Option V),σ=[some (.ref d),some (.ref ln),some (.ref a),some (.int r),some (.ref fo),v5,v6]∧StAt Hc d c t' ms∧t≤t'∧t'≤t+60 * i∧Keep d c H Hc∧Hc fo=some (.lst (rows.map V.str))∧(∀ r ∈ rows,RowOk r)∧rows.length=i+1)
  ⟨t,ns,[hrow r],none,none,rfl,S.same s1,by lia,by lia,.of_same s1,qA1,fun x hx=>by rw [List.mem_singleton.mp hx];exact ⟨by lia,h2_⟩,rfl⟩ ?_ ?_ ?_⟩
 ·refine fun i σ Hc _ hI_1=>opq fun G_1 hG_1=>?_
  obtain ⟨t',ms,rows,v5,v6,rfl,S2,_,_,K2,_,_⟩:=hI_1
  refine hG_1 ?_
  exact ⟨SqB.of (b:=false) (K2 _ _ hln nld nlc),SqB.of (b:=true) (K2 _ _ hA1 (S.tup hA1).1 (S.tup hA1).2)⟩
 ·refine fun i x' y' σ Hc T ex ey hI_2 hT=>opq fun G_2 hG_2=>?_
  obtain ⟨t',ms,rows,v5,v6,rfl,S2,a1,a2,K2,g2,okr,lrw⟩:=hI_2
  refine hG_2 ?_
  rw [List.getElem?_map] at ex ey
  obtain ⟨x,e1,rfl⟩:=Option.map_eq_some_iff.mp ex
  obtain ⟨b,e2,rfl⟩:=Option.map_eq_some_iff.mp ey
  have li:i<nm.length:=(List.getElem?_eq_some_iff.mp e1).1
  have hz:net[i]?=some (net[i]'(by lia)):=List.getElem?_eq_getElem (by lia)
  generalize net[i]'(by lia)=zs at hz
  obtain ⟨b',e3,gb⟩:=hA2.get hz
  rw [e2] at e3
  cases e3
  have rz:=wf i zs hz
  have gbc:=K2 _ _ gb (S.tup gb).1 (S.tup gb).2
  have nx:nmAt nm (i:Int)=x:=by
   have:=nmAt_get (nm:=nm) (z:=(i:Int)) (by lia) (by lia)
   rw [Int.toNat_natCast,e1] at this
   exact (Option.some.inj this).symm
  refine ⟨T,_,rfl,SqT.of qA1,rfl,_,_,rfl,_,_,rfl,rfl,?_⟩
  have sT:=qA3 hT (.tup [.str x,.ref b])
  have S3:=S2.same sT
  have K3:=K2.trans (.of_same (d:=d) (c:=c) sT)
  have g3:=sT _ _ g2
  have gb3:=sT _ _ gbc
  generalize upd Hc T (.tup [.str x,.ref b])=H3 at S3 K3 g3 gb3 ⊢
  refine ⟨_,rfl,.inl ⟨rfl,_,SqL.of g3⟩,rfl,_,rfl,(by show 2≤sizeLine;decide),fun p1 hp1=>?_⟩
  have s4:=qA3 hp1 (.lst [.str (Str.ofString "work"),.str x])
  have S4:=S3.same s4
  have np1d:p1 ≠ d:=(qA2 S3.dict hp1).symm
  have np1c:p1 ≠ c:=(qA2 S3.list hp1).symm
  have K4:=K3.trans (.of_same (d:=d) (c:=c) s4)
  have g4:=s4 _ _ g3
  have h1:(upd H3 p1 (.lst [.str (Str.ofString "work"),.str x])) p1=_:=qA1
  have gb4:=s4 _ _ gb3
  generalize upd H3 p1 (.lst [.str (Str.ofString "work"),.str x])=H4 at S4 K4 g4 h1 gb4 ⊢
  have lz:=rz.len
  refine ⟨_,rfl,_,rfl,d,c,t',ms,b,zs.map V.int,rfl,S4,(by show t'≤1000000000 - 1000;lia),.inr (SqT.of gb4),by rw [List.length_map];lia,fun l ys t2 ms2 H5 S5 b1 b2 K5 fl gl py=>?_⟩
  obtain ⟨qs,rfl,pq⟩:=perm_ints py
  have hq:∀ q ∈ qs,0≤q∧q<(i:Int):=fun q hm=>rz.in_ q (pq.mem_iff.mp hm)
  have hqn:qs.Nodup:=pq.nodup_iff.mpr rz.nodup
  have lq:qs.length≤i:=by rw [pq.length_eq];exact lz
  have hln5:H5 ln=some (.lst (nm.map V.str)):=K5 _ _ (K4 _ _ hln nld nlc) nld nlc
  have g5:=K5 _ _ g4 nfd nfc
  have h15:=K5 _ _ h1 np1d np1c
  have K6:=K4.trans K5
  refine ⟨l,rfl,⟨_,SqL.of gl⟩,fun p3 hp3=>qCC (xs:=qs.map V.int) (fun j σ Hi=>∃ v,σ=[v,some (.ref ln)]∧Same H5 Hi∧Hi p3=some (.lst (((qs.take j).map (nmAt nm)).map V.str))) ⟨none,rfl,qA3 hp3 _,qA1⟩ ?_ ?_ ?_⟩
  ·rintro j σ Hi _ ⟨v,rfl,sm,_⟩
   exact SqL.of (sm _ _ gl)
  ·refine fun j z' σ Hi ez hI_4=>opq fun G_4 hG_4=>?_
   obtain ⟨v,rfl,sm,g⟩:=hI_4
   refine hG_4 ?_
   rw [List.getElem?_map] at ez
   obtain ⟨z,e5,rfl⟩:=Option.map_eq_some_iff.mp ez
   have zb:=hq z (List.mem_of_getElem? e5)
   refine ⟨_,rfl,_,rfl,ln,_,_,_,rfl,rfl,SqL.of (sm _ _ hln5),get_at zb.1 (by rw [List.getElem?_map,nmAt_get zb.1 (by lia)];rfl),_,g,?_,_,rfl,fun b u e=>by rw [qA7 (qA2 e hp3)];exact sm b u e,by rw [qA1,take_strs e5]⟩
   rw [List.length_map,List.length_map,List.length_take]
   lia
  ·refine fun σ Hi hI_5=>opq fun G_5 hG_5=>?_
   obtain ⟨v,rfl,sm,g⟩:=hI_5
   refine hG_5 ?_
   rw [List.length_map,List.take_of_length_le (Nat.le_refl _)] at g
   have w9:∀ x ∈ Str.ofString "work" :: nmAt nm (i:Int)::qs.map (nmAt nm),W9 x:=fun x hx=>by
    rcases List.mem_cons.mp hx with rfl | hx
    ·exact work_w9
    rcases List.mem_cons.mp hx with rfl | hx
    ·exact nm_w9 ok (by lia) (by lia)
    ·obtain ⟨z,hz',rfl⟩:=List.mem_map.mp hx
     have:=hq z hz'
     exact nm_w9 ok this.1 (by lia)
   refine ⟨p1,p3,_,_,rfl,rfl,sm _ _ h15,g,?_,fun p4 hp4=>?_⟩
   ·rw [List.length_map,List.length_map]
    show 2+qs.length≤sizeLine
    lia
   have s7:=sm.trans (qA3 hp4 (.lst ([.str (Str.ofString "work"),.str x]++(qs.map (nmAt nm)).map V.str)))
   have lw:(Str.ofString "work" :: nmAt nm (i:Int)::qs.map (nmAt nm)).length≤19:=by rw [List.length_cons,List.length_cons,List.length_map];lia
   refine ⟨_,p4,Str.ofString "work" :: nmAt nm (i:Int)::qs.map (nmAt nm),rfl,rfl,SqL.of (by rw [nx];exact qA1),big_sum w9 (by lia),?_⟩
   have g7:=s7 _ _ g5
   refine ⟨fo,_,_,rfl,rfl,g7,by rw [List.length_map];lia,?_⟩
   have S7:=S5.same s7
   refine ⟨t2,ms2,rows++[_],_,_,rfl,⟨by rw [qA7 nfd.symm];exact S7.dict,by rw [qA7 nfc.symm];exact S7.list,S7.ne,S7.len,S7.pos⟩,by lia,by lia,fun b o e n1 n2=>?_,?_,snoc_ok okr (row_join w9 lw),by rw [List.length_append,lrw];rfl⟩
   ·rw [qA7 (qA2 e hfo)]
    exact s7 _ _ (K6 b o e n1 n2)
   ·rw [qA1,List.map_append]
    rfl
 ·refine fun σ Hc hI_6=>opq fun G_6 hG_6=>?_
  obtain ⟨t',ms,rows,v5,v6,rfl,S2,a1,a2,K2,g2,okr,lrw⟩:=hI_6
  refine hG_6 ?_
  rw [List.length_map] at lrw a2
  exact hN1 _ _ ⟨_,rfl,q fo rows t' ms Hc S2 a1 (by lia) K2 hfo g2 okr (by lia)⟩
theorem sc_Lmany_rows:FnScope ["_law_state","_law_names_here","_law_net_here","_law_rows","_law_many","_law_deeds","_law_at"] ["_law_state","_law_names_here","_law_net_here"] (defScope qBV):=sc_mk
theorem ok_Lmany_rows (F:Fun K "_law_many_rows" "_law_many_rows" qBV f fd) (C_Ltake:Clb P w K mg base 1 f_Ltake fd_Ltake "_law_take" ["_law_state","_law_many"] spTake) (C_Lhead:Clb P w K mg base 3 f_Lhead fd_Lhead "_law_head" ["_law_state","_law_names_here","_law_net_here","_law_rooms"] spHeadW) (z_min:mg "min" = none) (z_len:mg "len" = none):FnOk P w K mg base CX0 4 f fd ["_law_state","_law_names_here","_law_net_here"] spManyR:=by
 refine F.okA sc_Lmany_rows fun cdv A outer s H vs Q E hr h=>?_
 obtain ⟨d,c,t,ns,ln,a,nm,net,rfl,S,ht,hln,nlc,hA,wf,nl,n1,n12,ok,q⟩:=h
 refine ⟨_,(qA5 (qAF (i:=3) sc_Lmany_rows.nd rfl (Or.inl rfl) (pe_cl C_Lhead hr rfl (qA0 (pv 0) (qA0 (pv 1) (qA0 (pv 2) (qA0 (pe_ix qAI (qAO (qA0 qA6 (qA0 qA6 (qA0 qA6 (qA0 qA6 qA4))))) (qA9 (call_min2 rfl) rfl z_min bt_min (qA0 qA6 (qA0 (pe_cl C_Ltake hr rfl (qA0 (pv 0) (qA0 qA6 qA4))) qA4))) (fun _ _=>rfl)) qA4)))))) (qA5 (qAF (i:=4) sc_Lmany_rows.nd rfl (Or.inl rfl) (pe_op qBN qA6 (pe_cl C_Ltake hr rfl (qA0 (pv 0) (qA0 qA6 qA4))))) (qA5 (qAF (i:=5) sc_Lmany_rows.nd rfl (Or.inl rfl) (qAO (pa_pre (n:=4) (ws:=["back","stand","moves","count"]) (by kernel_rfl) (qA0 (pe_op qBR qAE (pe_ix qAI (pv 1) qA6 (fun _ _=>rfl))) (qA0 qAE (qA0 (pe_op qBR qAE (pe_ix qAI (pv 1) (pe_un un_neg qA6) (fun _ _=>rfl))) (qA0 qAE qA4))))))) (qA5 (ps_while PassesOwn.never (qAB op_lt (qA9 qAA rfl z_len qAJ (qA0 (pv 3) qA4)) (pv 4) (nomark _)) (qA8 (qBG (pe_bm PySem.F.plainAttrs_list PySem.F.slot_list_append PySem.F.type_list_append qAY (pv 3) (qA0 (pe_ix qAI (pv 5) (pe_cl C_Ltake hr rfl (qA0 (pv 0) (qA0 qA6 qA4))) (fun _ _=>rfl)) qA4))))) (qA5 (ps_if (qAB op_eq (pe_cl C_Ltake hr rfl (qA0 (pv 0) (qA0 qA6 qA4))) qA6 (nomark _)) (qA5 (qAF (i:=6) sc_Lmany_rows.nd rfl (Or.inl rfl) (pe_op qBN (pe_op qBN (qA9 qAA rfl z_len qAJ (qA0 (pv 2) qA4)) qA6) (pe_cl C_Ltake hr rfl (qA0 (pv 0) (qA0 (pe_op qC8 (pe_op qC8 (pv 4) (qA9 qAA rfl z_len qAJ (qA0 (pv 2) qA4))) qA6) qA4))))) (qA8 (ps_asg (pe_ix qAI (qAO (qA0 (pe_op qBR qAE (pe_ix qAI (pv 1) qA6 (fun _ _=>rfl))) (qA0 qAE qA4))) (pe_cl C_Ltake hr rfl (qA0 (pv 0) (qA0 qA6 qA4))) (fun _ _=>rfl)) (pg_sub (pv 3) (pv 6) set_list)))) qAG) (qA8 (qAD (pv 3)))))))),?_⟩
 try dsimp only [Cx.nox,Cx.wish,cxOf]
 have hs:=sizeLine_eq
 have ht':t≤1000000000 - 20000:=ht
 have nld:ln ≠ d:=ne_of hln S.dict (by intro z;cases z)
 refine cut fun N0 hN0=>?_
 refine ⟨_,rfl,_,rfl,_,rfl,(by show 4≤sizeLine;decide),fun l4 h4=>?_⟩
 have S1:=S.new h4 (.lst [.int 1,.int 99,.int 100,.int 98])
 have K1:=qAV (d:=d) (c:=c) h4 (.lst [.int 1,.int 99,.int 100,.int 98])
 have g4:(upd H l4 (.lst [.int 1,.int 99,.int 100,.int 98])) l4=_:=qA1
 have n4d:l4 ≠ d:=(qA2 S.dict h4).symm
 have n4c:l4 ≠ c:=(qA2 S.list h4).symm
 generalize upd H l4 (.lst [.int 1,.int 99,.int 100,.int 98])=H1 at S1 K1 g4 ⊢
 refine ⟨_,rfl,d,c,t,ns,9,rfl,S1,(by show t≤1000000000;lia),by decide,by decide,fun k ms2 H2 k0 k9 S2 K2=>⟨_,_,rfl,?_⟩⟩
 obtain ⟨r,er,r0,r1⟩:=pickR k0
 have K12:=K1.trans K2
 refine ⟨l4,_,_,_,rfl,rfl,SqL.of (K2 _ _ g4 n4d n4c),er,d,c,_,ms2,ln,a,nm,net,r,rfl,S2,(by show t+1≤1000000000 - 10000;lia),K12 _ _ hln nld nlc,nlc,hA.keep S K12,wf,nl,n12,ok,r0,r1,fun lr rows t3 ms3 H3 S3 b1 b2 K3 flr glr okr lrw=>hN0 _ _ (cut fun N1 hN1=>?_)⟩
 clear hN0
 have nrd:lr ≠ d:=(qA2 S2.dict flr).symm
 have nrc:lr ≠ c:=(qA2 S2.list flr).symm
 have hlr:H lr=none:=by
  cases e:H lr with
  | none=>rfl
  | some o=>rw [K12 _ _ e nrd nrc] at flr;cases flr
 have K13:=K12.trans K3
 refine ⟨_,rfl,d,c,t3,ms3,6,rfl,S3,(by show t3≤1000000000;lia),by decide,by decide,fun m ms4 H4 m0 m6 S4 K4=>⟨_,_,rfl,rfl,hN1 _ _ (cut fun N2 hN2=>?_)⟩⟩
 clear hN1
 have K14:=K13.trans K4
 have gl4:=K14 _ _ hln nld nlc
 have gr4:=K4 _ _ glr nrd nrc
 have hA4:=hA.keep S K14
 clear K1 K2 K12 K3 K13 K4 S1 S2 S3 g4 flr glr
 obtain ⟨x0,hx0,e0⟩:=at_strs (l:=nm) (z:=0) (by decide) (by lia)
 obtain ⟨x1,hx1,e1⟩:=last_strs (l:=nm) (by lia)
 have c20:∀ {x y:Str},x.length≤20→W9 y→x.length+y.length≤sizeLine:=fun h1 h2=>by have:=h2.2;lia
 refine ⟨_,rfl,ln,_,_,_,rfl,rfl,SqL.of gl4,e0,_,_,rfl,rfl,c20 (by decide) (ok _ hx0),_,rfl,_,rfl,ln,_,_,_,rfl,rfl,SqL.of gl4,e1,_,_,rfl,rfl,c20 (by decide) (ok _ hx1),(by show 8≤sizeLine;decide),fun l8 h8=>hN2 _ _ ?_⟩
 clear hN2
 have ok8:∀ w ∈ [Str.ofString "back","stand","moves","count",Str.ofString "do " ++ x0,"",Str.ofString "clear " ++ x1,""],RowOk w:=by
  have z:∀ w ∈ [Str.ofString "back","stand","moves","count",""],w.length≤200∧asc w=true:=by decide +kernel
  intro w hw
  simp only [List.mem_cons,List.not_mem_nil,or_false] at hw
  rcases hw with rfl | rfl | rfl | rfl | rfl | rfl | rfl | rfl
  ·exact z _ (by simp)
  ·exact z _ (by simp)
  ·exact z _ (by simp)
  ·exact z _ (by simp)
  ·exact w9_row ⟨by decide +kernel,by decide⟩ (ok _ hx0)
  ·exact z _ (by simp)
  ·exact w9_row ⟨by decide +kernel,by decide⟩ (ok _ hx1)
  ·exact z _ (by simp)
 have g8:(upd H4 l8 (.lst [.str "back",.str "stand",.str "moves",.str "count",.str (Str.ofString "do " ++ x0),.str "",.str (Str.ofString "clear " ++ x1),.str ""])) l8=some (.lst ([Str.ofString "back","stand","moves","count",Str.ofString "do " ++ x0,"",Str.ofString "clear " ++ x1,""].map V.str)):=qA1
 have l8n:[Str.ofString "back","stand","moves","count",Str.ofString "do " ++ x0,"",Str.ofString "clear " ++ x1,""].length=8:=rfl
 have S8:=S4.new h8 (.lst [.str "back",.str "stand",.str "moves",.str "count",.str (Str.ofString "do " ++ x0),.str "",.str (Str.ofString "clear " ++ x1),.str ""])
 have K8:=K14.trans (qAV (d:=d) (c:=c) h8 (.lst [.str "back",.str "stand",.str "moves",.str "count",.str (Str.ofString "do " ++ x0),.str "",.str (Str.ofString "clear " ++ x1),.str ""]))
 have gr8:=qA3 h8 (.lst [.str "back",.str "stand",.str "moves",.str "count",.str (Str.ofString "do " ++ x0),.str "",.str (Str.ofString "clear " ++ x1),.str ""]) _ _ gr4
 have n8d:l8 ≠ d:=(qA2 S4.dict h8).symm
 have n8c:l8 ≠ c:=(qA2 S4.list h8).symm
 have n8r:l8 ≠ lr:=(qA2 gr4 h8).symm
 generalize upd H4 l8 (.lst [.str "back",.str "stand",.str "moves",.str "count",.str (Str.ofString "do " ++ x0),.str "",.str (Str.ofString "clear " ++ x1),.str ""])=H8 at g8 S8 K8 gr8 ⊢
 generalize [Str.ofString "back","stand","moves","count",Str.ofString "do " ++ x0,"",Str.ofString "clear " ++ x1,""]=d8 at ok8 g8 l8n
 clear S4 K14 gl4 gr4 hA4 h8 c20
 refine cut fun N3 hN3=>?_
 refine ⟨fun n σ Hc=>∃ (t':Int) (ms:List Int) (rs:List Str),σ=[some (.ref d),some (.ref ln),some (.ref a),some (.ref lr),some (.int (98+m)),some (.ref l8),none]∧n+rs.length=200∧StAt Hc d c t' ms∧t3≤t'∧t'≤t3+1+rs.length∧Keep d c H Hc∧Hc lr=some (.lst (rs.map V.str))∧Hc l8=some (.lst (d8.map V.str))∧(∀ r ∈ rs,RowOk r)∧net.length+1≤rs.length∧rs.length≤110,
  ⟨200 - rows.length,_,ms4,rows,rfl,by lia,S8,by lia,by lia,K8,gr8,g8,okr,by lia,by lia⟩,?_⟩
 refine fun n σ Hc hI_1=>opq fun G_1 hG_1=>?_
 obtain ⟨t',ms,rs,rfl,en,S9,a1,a2,K9,g9,h9,okn,l1,l2⟩:=hI_1
 refine hG_1 ?_
 refine ⟨_,rfl,lr,_,rfl,.inl (SqL.of g9),_,rfl,_,_,rfl,rfl,_,rfl,?_⟩
 rw [List.length_map]
 refine ite2 (fun c1=>?_) fun c1=>hN3 _ _ ?_
 ·have lt:(rs.length:Int)<98+m:=of_decide_eq_true c1
  refine nameN fun N hN=>?_
  refine ⟨_,rfl,.inl ⟨rfl,_,SqL.of g9⟩,_,rfl,_,rfl,d,c,t',ms,8,rfl,S9,(by show t'≤1000000000;lia),by decide,by decide,fun y ms2 H10 y0 y8 S10 K10=>?_⟩
  obtain ⟨w,hw,ew⟩:=at_strs (l:=d8) y0 (by lia)
  have g10:=K10 _ _ g9 nrd nrc
  have h10:=K10 _ _ h9 n8d n8c
  refine ⟨l8,_,_,_,rfl,rfl,SqL.of h10,ew,lr,_,_,rfl,rfl,g10,by rw [List.length_map];lia,hN _ _ ⟨n - 1,by lia,t'+1,ms2,rs++[w],rfl,by rw [List.length_append,List.length_singleton];lia,⟨by rw [qA7 nrd.symm];exact S10.dict,by rw [qA7 nrc.symm];exact S10.list,S10.ne,S10.len,S10.pos⟩,by lia,by rw [List.length_append,List.length_singleton];lia,fun b o e n1 n2=>?_,by rw [qA1,List.map_append];rfl,by rw [qA7 n8r];exact h10,snoc_ok okn (ok8 w hw),by rw [List.length_append];lia,by rw [List.length_append,List.length_singleton];lia⟩⟩
  rw [qA7 (qA2 e hlr)]
  exact (K9.trans K10) b o e n1 n2
 have ge:¬ (rs.length:Int)<98+m:=fun z=>c1 (decide_eq_true z)
 refine cut fun N4 hN4=>?_
 have fin:∀ (t2:Int) (ms2:List Int) (H2:Hp) (rs2:List Str) (v6:Option V),StAt H2 d c t2 ms2→t'≤t2→t2≤t'+5→Keep d c H H2→H2 lr=some (.lst (rs2.map V.str))→(∀ r ∈ rs2,RowOk r)→rs2.length=rs.length→N4 [some (.ref d),some (.ref ln),some (.ref a),some (.ref lr),some (.int (98+m)),some (.ref l8),v6] H2:=fun t2 ms2 H2 rs2 v6 S2 c1 c2 K2 g2 ok2 len2=>
  hN4 _ _ ⟨_,rfl,q lr rs2 t2 ms2 H2 S2 (by lia) (by lia) K2 hlr g2 ok2 (fun z=>by rw [z,List.length_nil] at len2;lia) (by lia)⟩
 clear hN4
 refine ⟨_,rfl,d,c,t',ms,3,rfl,S9,(by show t'≤1000000000;lia),by decide,by decide,fun x ms2 H10 xx0 xx3 S10 K10=>⟨rfl,_,rfl,?_⟩⟩
 have g10:=K10 _ _ g9 nrd nrc
 refine ite2 (fun c2=>?_) fun c2=>fin _ ms2 H10 rs none S10 (by lia) (by lia) (K9.trans K10) g10 okn rfl
 have hA10:=hA.keep S (K9.trans K10)
 obtain ⟨as,hA1,hA2⟩:=hA10
 have las:=NetAt.len hA2
 have hln10:=(K9.trans K10) _ _ hln nld nlc
 refine cut fun N5 hN5=>?_
 refine ⟨_,rfl,a,_,rfl,.inr (SqT.of hA1),?_⟩
 rw [List.length_map]
 refine ⟨_,_,rfl,rfl,_,rfl,_,rfl,_,rfl,a,_,rfl,.inr (SqT.of hA1),?_⟩
 rw [List.length_map]
 refine ⟨_,_,rfl,rfl,_,_,rfl,rfl,d,c,_,ms2,_,rfl,S10,(by show t'+1≤1000000000;lia),by lia,by lia,fun z ms3 H11 z0 z1 S11 K11=>⟨_,_,rfl,rfl,hN5 _ _ ?_⟩⟩
 clear hN5
 have hln11:=K11 _ _ hln10 nld nlc
 have g11:=K11 _ _ g10 nrd nrc
 refine ⟨_,rfl,ln,_,_,_,rfl,rfl,SqL.of hln11,e0,_,_,rfl,rfl,(by have:=(ok _ hx0).2;have:(Str.ofString "steps 100 ").length=10:=(by decide);lia),(by show 2≤sizeLine;decide),fun l2 h2=>?_⟩
 have n2d:l2 ≠ d:=(qA2 S11.dict h2).symm
 have n2c:l2 ≠ c:=(qA2 S11.list h2).symm
 have ok2:∀ w ∈ [Str.ofString "steps 100 " ++ x0,"backs"],RowOk w:=by
  intro w hw
  simp only [List.mem_cons,List.not_mem_nil,or_false] at hw
  rcases hw with rfl | rfl
  ·exact w9_row ⟨by decide +kernel,by decide⟩ (ok _ hx0)
  ·exact ⟨by decide,by decide +kernel⟩
 have g2:(upd H11 l2 (.lst [.str (Str.ofString "steps 100 " ++ x0),.str "backs"])) l2=some (.lst ([Str.ofString "steps 100 " ++ x0,"backs"].map V.str)):=qA1
 have S12:=S11.new h2 (.lst [.str (Str.ofString "steps 100 " ++ x0),.str "backs"])
 have K12:=((K9.trans K10).trans K11).trans (qAV (d:=d) (c:=c) h2 (.lst [.str (Str.ofString "steps 100 " ++ x0),.str "backs"]))
 have g12:=qA3 h2 (.lst [.str (Str.ofString "steps 100 " ++ x0),.str "backs"]) _ _ g11
 generalize upd H11 l2 (.lst [.str (Str.ofString "steps 100 " ++ x0),.str "backs"])=H12 at g2 S12 K12 g12 ⊢
 refine ⟨_,rfl,d,c,_,ms3,2,rfl,S12,(by show t'+1+1≤1000000000;lia),by decide,by decide,fun u ms4 H13 u0 u2 S13 K13=>?_⟩
 obtain ⟨wu,hwu,eu⟩:=at_strs (l:=[Str.ofString "steps 100 " ++ x0,"backs"]) u0 u2
 have g13:=K13 _ _ g12 nrd nrc
 refine ⟨l2,_,_,_,rfl,rfl,SqL.of (K13 _ _ g2 n2d n2c),eu,_,rfl,_,rfl,?_⟩
 have ei:ixN (rs.map V.str).length ((as.length:Int)+1+z)=some ((as.length:Int)+1+z).toNat:=by
  unfold ixN
  rw [List.length_map,if_pos (by lia),if_pos (by lia)]
 refine ⟨lr,_,_,_,rfl,rfl,g13,ei,fin _ ms4 _ (rs.set ((as.length:Int)+1+z).toNat wu) _ ⟨by rw [qA7 nrd.symm];exact S13.dict,by rw [qA7 nrc.symm];exact S13.list,S13.ne,S13.len,S13.pos⟩ (by lia) (by lia) (fun b o e n1 n2=>?_) (by rw [qA1,List.map_set]) (fun r hr'=>?_) (by rw [List.length_set])⟩
 ·rw [qA7 (qA2 e hlr)]
  exact (K12.trans K13) b o e n1 n2
 ·rcases List.mem_or_eq_of_mem_set hr' with h | rfl
  ·exact okn r h
  ·exact ok2 _ hwu
theorem sc_Lasks:FnScope ["_law_state","_law_names_here","_law_found","_law_turn","_law_words","_law_word"] ["_law_state","_law_names_here"] (defScope s_Lasks):=sc_mk
theorem ok_Lasks (F:Fun K "_law_asks" "_law_asks" s_Lasks f fd) (C_Ltake:Clb P w K mg base 1 f_Ltake fd_Ltake "_law_take" ["_law_state","_law_many"] spTake) (C_Lmixed:Clb P w K mg base 2 f_Lmixed fd_Lmixed "_law_mixed" ["_law_state","_law_some"] (spMixed K)) (z_range:mg "range" = none):FnOk P w K mg base CX0 3 f fd ["_law_state","_law_names_here"] spAsks:=by
 refine F.okA sc_Lasks fun cdv A outer s H vs Q E hr h=>?_
 obtain ⟨d,c,t,ns,ln,nm,rfl,S,ht,hln,nlc,n12,ok,q⟩:=h
 refine ⟨_,(qA5 (qAF (i:=2) sc_Lasks.nd rfl (Or.inl rfl) (qAO qA4)) (qA5 (ps_for PassesOwn.never rfl (qBK rfl z_range (qA0 qA6 qA4)) (qB7 (i:=3) sc_Lasks.nd rfl (Or.inl rfl)) (qA5 (qAF (i:=4) sc_Lasks.nd rfl (Or.inl rfl) (qAU qB6 (pe_cl C_Lmixed hr rfl (qA0 (pv 0) (qA0 (pv 1) qA4))) qB4 (qB3 (pe_op qBN qA6 (pe_cl C_Ltake hr rfl (qA0 (pv 0) (qA0 qA6 qA4))))))) (qA5 (qAF (i:=5) sc_Lasks.nd rfl (Or.inl rfl) (pe_ix qAI (qAO (pa_pre (n:=6) (ws:=["plain","few","stair","steps 9","steps 99","steps 100"]) (by kernel_rfl) qA4)) (pe_cl C_Ltake hr rfl (qA0 (pv 0) (qA0 qA6 qA4))) (fun _ _=>rfl))) (qA8 (qBG (pe_bm PySem.F.plainAttrs_list PySem.F.slot_list_append PySem.F.type_list_append qAY (pv 2) (qA0 (pe_bm PySem.F.plainAttrs_str PySem.F.slot_str_join PySem.F.type_str_join mt_join qAE (qA0 (pe_op qCH (qAO (qA0 (pv 5) qA4)) (pv 4)) qA4)) qA4))))))) (qA8 (qAD (pv 2))))),?_⟩
 try dsimp only [Cx.nox,Cx.wish,cxOf]
 have hs:=sizeLine_eq
 have ht':t≤1000000000 - 10000:=ht
 have nld:ln ≠ d:=ne_of hln S.dict (by intro z;cases z)
 refine cut fun N0 hN0=>?_
 refine ⟨(by show 0≤sizeLine;decide),fun fo hfo=>hN0 _ _ (cut fun N1 hN1=>?_)⟩
 clear hN0
 have nfd:fo ≠ d:=(qA2 S.dict hfo).symm
 have nfc:fo ≠ c:=(qA2 S.list hfo).symm
 refine ⟨4,rfl,by decide,by decide,qCK (lo:=0) (n:=4) (fun i σ Hc=>∃ (t':Int) (ms:List Int) (rows:List Str) (v3 v4 v5:Option V),σ=[some (.ref d),some (.ref ln),some (.ref fo),v3,v4,v5]∧StAt Hc d c t' ms∧t≤t'∧t'≤t+70 * i∧Keep d c H Hc∧Hc fo=some (.lst (rows.map V.str))∧(∀ r ∈ rows,RowOk r)∧rows.length=i)
  ⟨t,ns,[],none,none,none,rfl,S.new hfo _,by lia,by lia,qAV hfo _,qA1,(fun _ z=>nomatch z),rfl⟩ ?_ ?_⟩
 ·refine fun i σ Hc hi hI_1=>opq fun G_1 hG_1=>?_
  obtain ⟨t',ms,rows,v3,v4,v5,rfl,S2,a1,a2,K2,g2,okr,lr⟩:=hI_1
  refine hG_1 ?_
  refine nmD fun D1 d1 dr=>cut fun M0 hM0=>?_
  refine ⟨_,rfl,_,rfl,d,c,t',ms,ln,nm.map V.str,rfl,S2,(by show t'≤1000000000 - 1000;lia),.inl (SqL.of (K2 _ _ hln nld nlc)),by rw [List.length_map];lia,fun l ys t2 ms2 H5 S5 b1 b2 K5 fl gl py=>?_⟩
  have nl1:l ≠ d:=(qA2 S2.dict fl).symm
  have nl2:l ≠ c:=(qA2 S2.list fl).symm
  refine ⟨_,rfl,d,c,t2,ms2,3,rfl,S5,(by show t2≤1000000000;lia),by decide,by decide,fun k ms3 H6 k0 k3 S6 K6=>⟨_,_,rfl,rfl,?_⟩⟩
  obtain ⟨j,rfl⟩:∃ j:Nat,k=(j:Int):=⟨k.toNat,by lia⟩
  obtain ⟨zs,rfl,pz⟩:=perm_strs py
  have lz:=pz.length_eq
  have gl6:=K6 _ _ gl nl1 nl2
  refine ⟨3+(j:Int),rfl,l,_,rfl,SqL.of gl6,fun p hp=>hM0 _ _ (cut fun M1 hM1=>?_)⟩
  clear hM0
  rw [qBQ,show (3+(j:Int))=((3+j:Nat):Int) by lia,cutI_to]
  have okw:∀ x ∈ zs.take (3+j),W9 x:=fun x hx=>ok x (pz.mem_iff.mp (List.mem_of_mem_take hx))
  have lw:(zs.take (3+j)).length≤5:=by rw [List.length_take];lia
  generalize zs.take (3+j)=ws at okw lw ⊢
  have S7:=S6.new hp (.lst (ws.map V.str))
  have K7:=((K2.trans K5).trans K6).trans (qAV hp (.lst (ws.map V.str)))
  have gp:(upd H6 p (.lst (ws.map V.str))) p=_:=qA1
  have npd:p ≠ d:=(qA2 S6.dict hp).symm
  have npc:p ≠ c:=(qA2 S6.list hp).symm
  have g7:=qA3 hp (.lst (ws.map V.str)) _ _ (K6 _ _ (K5 _ _ g2 nfd nfc) nfd nfc)
  generalize upd H6 p (.lst (ws.map V.str))=H7 at S7 K7 gp g7 ⊢
  refine ⟨(by show 6≤sizeLine;decide),fun l6 h6=>?_⟩
  have n6d:l6 ≠ d:=(qA2 S7.dict h6).symm
  have n6c:l6 ≠ c:=(qA2 S7.list h6).symm
  have g6:(upd H7 l6 (.lst (asks6.map V.str))) l6=_:=qA1
  refine ⟨_,rfl,d,c,_,ms3,6,rfl,S7.new h6 _,(by show t2+1≤1000000000;lia),by decide,by decide,fun y ms8 H8 y0 y6 S8 K8=>?_⟩
  obtain ⟨w,hw,ew⟩:=at_strs (l:=asks6) y0 y6
  have K9:=(qAV h6 _).trans K8
  refine ⟨l6,_,_,_,rfl,rfl,SqL.of (K8 _ _ g6 n6d n6c),ew,hM1 _ _ ?_⟩
  clear hM1 K8 h6 ew g6
  refine ⟨_,rfl,.inl ⟨rfl,_,SqL.of (K9 _ _ g7 nfd nfc)⟩,rfl,_,rfl,(by show 1≤sizeLine;decide),fun p1 hp1=>?_⟩
  have s1:=qA3 hp1 (.lst [.str w])
  refine ⟨_,rfl,p1,p,_,_,rfl,rfl,qA1,s1 _ _ (K9 _ _ gp npd npc),by rw [List.length_map];show 1+ws.length≤sizeLine;lia,fun p4 hp4=>?_⟩
  have s2:=s1.trans (qA3 hp4 (.lst ([.str w]++ws.map V.str)))
  have w9:∀ x ∈ w::ws,W9 x:=fun x hx=>by
   rcases List.mem_cons.mp hx with rfl | hx
   ·exact asks6_w9 _ hw
   ·exact okw x hx
  refine ⟨_,p4,w::ws,rfl,rfl,SqL.of qA1,big_sum w9 (by rw [List.length_cons];lia),?_⟩
  have gf:=s2 _ _ (K9 _ _ g7 nfd nfc)
  have S9:=S8.same s2
  refine ⟨fo,_,_,rfl,rfl,gf,by rw [List.length_map];lia,d1 _ _ ⟨_,ms8,rows++[_],_,_,_,rfl,⟨by rw [qA7 nfd.symm];exact S9.dict,by rw [qA7 nfc.symm];exact S9.list,S9.ne,S9.len,S9.pos⟩,by lia,by lia,fun b o e n1 n2=>?_,by rw [qA1,List.map_append];rfl,snoc_ok okr (row_join w9 (by rw [List.length_cons];lia)),by rw [List.length_append,lr];rfl⟩⟩
  rw [qA7 (qA2 e hfo)]
  exact s2 _ _ ((K7.trans K9) b o e n1 n2)
 ·refine fun σ Hc hI_2=>opq fun G_2 hG_2=>?_
  obtain ⟨t',ms,rows,v3,v4,v5,rfl,S2,a1,a2,K2,g2,okr,lr⟩:=hI_2
  refine hG_2 ?_
  exact hN1 _ _ ⟨_,rfl,q fo rows t' ms Hc S2 a1 (by lia) K2 hfo g2 okr lr⟩
theorem sc_Lplain:FnScope ["_law_word"] ["_law_word"] (defScope s_Lplain):=sc_mk
theorem ok_Lplain (F:Fun K "_law_plain" "_law_plain" s_Lplain f fd) (z_len:mg "len" = none) (z_int:mg "int" = none):FnOk P w K mg base CX0 1 f fd ["_law_word"] spPlnL:=by
 refine F.okA sc_Lplain fun cdv A outer s H vs Q E hr h=>?_
 obtain ⟨x,rfl,⟨hx,ha⟩,q⟩:=h
 have hu0:=hr.units0
 refine ⟨_,(qA5 (ps_if (PW.pt (pw_or (qAB op_lt (qA9 qBE rfl z_len qAJ (qA0 (pv 0) qA4)) qA6 (nomark _)) (pw_or (qAB op_gt (qA9 qBE rfl z_len qAJ (qA0 (pv 0) qA4)) qA6 (nomark _)) (pw_or (qAB (op_ne_nil hu0) (pe_lc rfl (lcs (own:=["_law_mark"]) (fv:=[]) (by kernel_rfl)) (pi_str (pv 0)) (fun z1=>pg_in 0) (fun z1=>(pts_one (qAB op_notIn_str (pv 0) qAE (by with_unfolding_all rfl)))) (fun z1=>(pv 0))) (qAO qA4) (nomark _)) (qC5 (qAB op_eq (pe_ix ix_str (pv 0) qA6 (fun _ _=>rfl)) qAE (nomark _))))))) (qA8 (qAD qA6)) qAG) (qA8 (qAD (qAH call_intS rfl z_int bt_int (qA0 (pv 0) qA4))))),?_⟩
 try dsimp only [Cx.nox,Cx.wish,cxOf]
 have hs:=sizeLine_eq
 have z0:∀ H',Same H H'→¬ (1≤x.length∧x.length≤2∧digs x=true∧¬ x.cps[0]?=some 48)→Q (.int 0) H':=fun H' sm h=>by
  have:=q H' sm
  unfold plnF at this
  rw [if_neg h] at this
  exact this
 refine ⟨_,rfl,_,rfl,by lia,_,_,rfl,rfl,_,rfl,?_⟩
 refine ite2 (fun c=>?_) fun c=>?_
 ·exact z0 H (Same.refl H) fun z=>by have:=of_decide_eq_true c;lia
 refine ⟨_,rfl,_,rfl,by lia,_,_,rfl,rfl,_,rfl,?_⟩
 refine ite2 (fun c2=>?_) fun c2=>?_
 ·exact z0 H (Same.refl H) fun z=>by have:=of_decide_eq_true c2;lia
 have l1:1≤x.length:=by have:=of_decide_eq_false (Bool.eq_false_iff.mpr c);lia
 have l2:x.length≤2:=by have:=of_decide_eq_false (Bool.eq_false_iff.mpr c2);lia
 refine ⟨_,rfl,x,rfl,fun p hp=>lc_str (oddI x 48 57 H p) ⟨none,rfl,qA3 hp _,qA1⟩ (odd_step hx ha occ_digit hp) fun σ Hi hI=>?_⟩
 obtain ⟨_,_,sm,gp⟩:=hI
 refine ⟨(by show 0≤sizeLine;lia),fun l hl=>⟨p,l,_,rfl,rfl,SqL.of (qA3 hl _ _ _ gp),SqL.of qA1,_,rfl,?_⟩⟩
 have sl:=sm.trans (qA3 hl (.lst []))
 generalize upd Hi l (.lst [])=H2 at sl ⊢
 rw [odd_nil]
 refine ite2 (fun c3=>?_) fun c3=>?_
 ·refine z0 H2 sl fun z=>?_
  have d:=z.2.2.1
  unfold digs at d
  rw [d] at c3
  cases c3
 have hd:digs x=true:=by
  cases e:digs x with
  | true=>rfl
  | false=>unfold digs at e;rw [e] at c3;exact absurd rfl c3
 have hc:∃ c,x.cps[0]?=some c:=⟨x.cps[0],Array.getElem?_eq_getElem l1⟩
 obtain ⟨c0,hc⟩:=hc
 have h0:atI x.cps.toList 0=some c0:=qAN (j:=0) (by rw [Array.getElem?_toList];exact hc)
 refine ⟨_,rfl,_,_,_,rfl,rfl,by lia,h0,rfl,_,rfl,?_⟩
 rw [sign_ne]
 refine ite2 (fun c4=>?_) fun c4=>?_
 ·exact z0 H2 sl fun z=>z.2.2.2 (by rw [hc,of_decide_eq_true c4])
 have ok:1≤x.length∧x.length≤2∧digs x=true∧¬ x.cps[0]?=some 48:=⟨l1,l2,hd,by rw [hc];exact fun z=>c4 (decide_eq_true (Option.some.inj z))⟩
 exact ⟨_,rfl,_,_,rfl,plain_int ok,by lia,q H2 sl⟩
theorem sc_Lis_name:FnScope ["_law_word","_law_some"] ["_law_word"] (defScope qCS):=sc_mk
theorem ok_Lis_name (F:Fun K "_law_is_name" "_law_is_name" qCS f fd) (z_len:mg "len" = none):FnOk P w K mg base CX0 1 f fd ["_law_word"] spNmL:=by
 refine F.okA sc_Lis_name fun cdv A outer s H vs Q E hr h=>?_
 obtain ⟨x,rfl,⟨hx,ha⟩,q⟩:=h
 have hu0:=hr.units0
 refine ⟨_,(qA5 (ps_lc (i:=1) sc_Lis_name.nd rfl rfl rfl (lcs (own:=["_law_mark"]) (fv:=[]) (by kernel_rfl)) (pi_str (pv 0)) (fun z2=>pg_in 0) (fun z2=>(pts_one (qAB op_notIn_str (pv 0) qAE (by with_unfolding_all rfl)))) (fun z2=>(pv 0)) (by kernel_rfl)) (qA8 (qAD (qBM (qAX (op_eq_nil hu0) (pv 1) (qAO qA4) (nomark _)) (qC6 (pe_chain op_le op_le qA6 (qA9 qBE rfl z_len qAJ (qA0 (pv 0) qA4)) qA6)))))),?_⟩
 try dsimp only [Cx.nox,Cx.wish,cxOf]
 have hs:=sizeLine_eq
 refine ⟨_,rfl,x,rfl,fun p hp=>lc_str (oddI x 97 122 H p) ⟨none,rfl,qA3 hp _,qA1⟩ (odd_step hx ha occ_letter hp) fun σ Hi hI=>?_⟩
 obtain ⟨_,_,sm,gp⟩:=hI
 refine ⟨_,rfl,(by show 0≤sizeLine;lia),fun l hl=>⟨p,l,_,rfl,rfl,SqL.of (qA3 hl _ _ _ gp),SqL.of qA1,_,rfl,?_⟩⟩
 have sl:=sm.trans (qA3 hl (.lst []))
 generalize upd Hi l (.lst [])=H2 at sl ⊢
 rw [odd_nil]
 have q2:=q H2 sl
 unfold isNmL isNm at q2
 refine ite2 (fun c=>?_) fun c=>?_
 ·rw [c,Bool.and_true] at q2
  refine ⟨_,rfl,_,rfl,by lia,_,_,rfl,rfl,_,rfl,?_⟩
  refine ite2 (fun c2=>?_) fun c2=>?_
  ·rw [decide_eq_true (show 1≤x.length by have:=of_decide_eq_true c2;lia),Bool.and_true] at q2
   refine ⟨_,_,rfl,rfl,?_⟩
   rw [show decide (x.length≤8)=decide ((x.length:Int)≤8) by rw [decide_eq_decide];lia] at q2
   exact q2
  ·rw [decide_eq_false (show ¬ 1≤x.length by have:=of_decide_eq_false (Bool.eq_false_iff.mpr c2);lia),Bool.and_false] at q2
   exact q2
 ·rw [Bool.eq_false_iff.mpr c,Bool.and_false,Bool.false_and] at q2
  exact q2
theorem sc_Lare_asked:FnScope ["_law_names_here","_law_words"] ["_law_names_here","_law_words"] (defScope qBW):=sc_mk
theorem ok_Lare_asked (F:Fun K "_law_are_asked" "_law_are_asked" qBW f fd) (z_len:mg "len" = none) (z_set:mg "set" = none) (z_all:mg "all" = none):FnOk P w K mg base CX0 1 f fd ["_law_names_here","_law_words"] spAskL:=by
 refine F.okA sc_Lare_asked fun cdv A outer s H vs Q E hr h=>?_
 obtain ⟨a,b,nm,ws,rfl,ha,hb,ln,lw,q⟩:=h
 refine ⟨_,(qA8 (qAD (qBM (pe_chain op_le op_le qA6 (qA9 qAA rfl z_len qAJ (qA0 (pv 1) qA4)) qA6) (qBM (qAX op_eq (qA9 call_lenT rfl z_len qAJ (qA0 (qAH (call_setS rfl) rfl z_set bt_set (qA0 (pv 1) qA4)) qA4)) (qA9 qAA rfl z_len qAJ (qA0 (pv 1) qA4)) (nomark _)) (qC6 (qA9 (call_all rfl) rfl z_all bt_all (qA0 (pe_lc rfl (lcs (own:=["_law_word"]) (fv:=[0]) (by kernel_rfl)) (qC2 (pv 1)) (fun z1=>pg_in 0) (fun z1=>qBC) (fun z1=>(qAX (op_inK (K:=K) rfl) (pv 0) (pv 1) (by with_unfolding_all rfl)))) qA4))))))),?_⟩
 try dsimp only [Cx.nox,Cx.wish,cxOf]
 have hs:=sizeLine_eq
 have q0:=q
 unfold askL at q
 refine ⟨_,rfl,b,_,rfl,.inl (SqL.of hb),_,_,rfl,rfl,_,rfl,?_⟩
 rw [List.length_map]
 refine ite2 (fun c=>?_) fun c=>?_
 ·refine ⟨_,_,rfl,rfl,_,rfl,?_⟩
  refine ite2 (fun c2=>?_) fun c2=>?_
  ·rw [decide_eq_true (show 1≤ws.length∧ws.length≤4 by have:=of_decide_eq_true c;have:=of_decide_eq_true c2;lia),Bool.true_and] at q
   refine ⟨_,rfl,b,ws,rfl,SqL.of hb,by lia,fun s1 h1=>⟨s1,_,rfl,qA1,_,rfl,b,_,rfl,.inl (SqL.of (qA3 h1 _ _ _ hb)),rfl,_,rfl,?_⟩⟩
   rw [List.length_map,dedS_nodup]
   have t1:=qA3 h1 (SetT w s1 (dedS ws))
   generalize upd H s1 (SetT w s1 (dedS ws))=H1 at t1 ⊢
   refine ite2 (fun c3=>?_) fun c3=>?_
   ·rw [c3,Bool.true_and] at q
    refine ⟨_,rfl,b,rfl,⟨_,SqL.of (t1 _ _ hb)⟩,fun p hp=>?_⟩
    refine qCC (xs:=ws.map V.str) (inI nm ws a H1 p) ⟨none,rfl,qA3 hp _,qA1⟩ ?_ (in_step lw (t1 _ _ ha) hp) ?_
    ·rintro i σ Hi _ ⟨v,rfl,sm,_⟩
     exact SqL.of (sm _ _ (t1 _ _ hb))
    ·refine fun σ Hi hI_2=>opq fun G_2 hG_2=>?_
     obtain ⟨v,rfl,sm,hli⟩:=hI_2
     refine hG_2 ?_
     refine ⟨p,_,rfl,SqL.of hli,?_⟩
     rw [in_all (List.length_map V.str)]
     exact q Hi (t1.trans sm)
   ·rw [Bool.eq_false_iff.mpr c3,Bool.false_and] at q
    exact q H1 t1
  ·rw [decide_eq_false (show ¬ (1≤ws.length∧ws.length≤4) by have:=of_decide_eq_false (Bool.eq_false_iff.mpr c2);lia),Bool.false_and] at q
   exact q H (Same.refl H)
 ·rw [decide_eq_false (show ¬ (1≤ws.length∧ws.length≤4) by have:=of_decide_eq_false (Bool.eq_false_iff.mpr c);lia),Bool.false_and] at q
  exact ⟨_,rfl,q H (Same.refl H)⟩
theorem sc_Lis_work:FnScope ["_law_names_here","_law_words"] ["_law_names_here","_law_words"] (defScope qCR):=sc_mk
theorem ok_Lis_work (F:Fun K "_law_is_work" "_law_is_work" qCR f fd) (C_Lis_name:Clb P w K mg base 1 f_Lis_name fd_Lis_name "_law_is_name" ["_law_word"] spNmL) (z_len:mg "len" = none) (z_set:mg "set" = none) (z_all:mg "all" = none):FnOk P w K mg base CX0 2 f fd ["_law_names_here","_law_words"] spWkL:=by
 refine F.okA sc_Lis_work fun cdv A outer s H vs Q E hr h=>?_
 obtain ⟨a,b,nm,ws,rfl,ha,hb,ln,lw,hw,q⟩:=h
 have hu0:=hr.units0
 refine ⟨_,(qA5 (ps_if (PW.pt (pw_or (qAB (op_eq_nil hu0) (pv 1) (qAO qA4) (nomark _)) (pw_or (qCE (qBX (pe_cl C_Lis_name hr rfl (qA0 (pe_ix qAI (pv 1) qA6 (fun _ _=>rfl)) qA4)))) (pw_or (qAB qBF (pe_ix qAI (pv 1) qA6 (fun _ _=>rfl)) (pv 0) (by with_unfolding_all rfl)) (qC5 (qAB op_ge (qA9 qAA rfl z_len qAJ (qA0 (pv 0) qA4)) qA6 (nomark _))))))) (qA8 (qAD pe_bl)) qAG) (qA8 (qAD (qBM (qAX op_eq (qA9 call_lenT rfl z_len qAJ (qA0 (qAH (call_setS rfl) rfl z_set bt_set (qA0 (qAU qB6 (pv 1) (qB3 qA6) qB4) qA4)) qA4)) (pe_op qC8 (qA9 qAA rfl z_len qAJ (qA0 (pv 1) qA4)) qA6) (nomark _)) (qC6 (qA9 (call_all rfl) rfl z_all bt_all (qA0 (pe_lc rfl (lcs (own:=["_law_word"]) (fv:=[0]) (by kernel_rfl)) (qC2 (qAU qB6 (pv 1) (qB3 qA6) qB4)) (fun z2=>pg_in 0) (fun z2=>qBC) (fun z2=>(qAX (op_inK (K:=K) rfl) (pv 0) (pv 1) (by with_unfolding_all rfl)))) qA4))))))),?_⟩
 try dsimp only [Cx.nox,Cx.wish,cxOf]
 have hs:=sizeLine_eq
 refine ⟨_,rfl,(by show 0≤sizeLine;lia),fun l hl=>⟨b,l,_,rfl,rfl,SqL.of (qA3 hl _ _ _ hb),SqL.of qA1,_,rfl,?_⟩⟩
 have t0:=qA3 hl (.lst [])
 generalize upd H l (.lst [])=H0 at t0 ⊢
 cases ws with
 | nil=>exact q H0 t0
 | cons x r=>
  have q':∀ H',Same H H'→Q (.bl (isNmL x && (decide (x ∉ nm) && (decide (nm.length<40) && (decide r.Nodup && r.all fun y=>decide (y ∈ nm)))))) H':=q
  clear q
  refine ⟨_,rfl,b,_,_,_,rfl,rfl,SqL.of (t0 _ _ hb),qAN (j:=0) rfl,x,rfl,hw x (List.mem_cons_self ..),fun H1 s1=>?_⟩
  refine ⟨_,rfl,?_⟩
  have t1:=t0.trans s1
  cases h1:isNmL x with
  | false=>
   rw [h1,Bool.false_and] at q'
   exact q' H1 t1
  | true=>
  rw [h1,Bool.true_and] at q'
  refine ⟨_,rfl,b,_,_,_,rfl,rfl,SqL.of (t1 _ _ hb),qAN (j:=0) rfl,_,rfl,a,_,rfl,.inl (SqL.of (t1 _ _ ha)),rfl,flat_strs nm,_,rfl,?_⟩
  rw [qBJ]
  refine ite2 (fun c=>?_) fun c=>?_
  ·rw [decide_eq_false (fun z=>z (of_decide_eq_true c)),Bool.false_and] at q'
   exact q' H1 t1
  rw [decide_eq_true (show ¬ x ∈ nm from fun z=>c (decide_eq_true z)),Bool.true_and] at q'
  refine ⟨_,rfl,a,_,rfl,.inl (SqL.of (t1 _ _ ha)),_,_,rfl,rfl,_,rfl,?_⟩
  rw [List.length_map]
  refine ite2 (fun c=>?_) fun c=>?_
  ·rw [decide_eq_false (show ¬ nm.length<40 by have:=of_decide_eq_true c;lia),Bool.false_and] at q'
   exact q' H1 t1
  rw [decide_eq_true (show nm.length<40 by have:=of_decide_eq_false (Bool.eq_false_iff.mpr c);lia),Bool.true_and] at q'
  have ec:cutV ((x::r).map V.str) (some 1) none=r.map V.str:=qCD (k:=1) (by simp)
  have lr:r.length≤300:=by rw [List.length_cons] at lw;lia
  refine ⟨_,rfl,_,rfl,b,_,rfl,SqL.of (t1 _ _ hb),fun p2 h2=>?_⟩
  rw [ec]
  have t2:=t1.trans (qA3 h2 (.lst (r.map V.str)))
  have g2:(upd H1 p2 (.lst (r.map V.str))) p2=_:=qA1
  generalize upd H1 p2 (.lst (r.map V.str))=H2 at t2 g2 ⊢
  refine ⟨p2,r,rfl,SqL.of g2,by lia,fun s3 h3=>⟨s3,_,rfl,qA1,?_⟩⟩
  have t3:=t2.trans (qA3 h3 (SetT w s3 (dedS r)))
  generalize upd H2 s3 (SetT w s3 (dedS r))=H3 at t3 ⊢
  refine ⟨_,rfl,b,_,rfl,.inl (SqL.of (t3 _ _ hb)),_,_,rfl,rfl,rfl,_,rfl,?_⟩
  rw [show decide (V.int ((dedS r).length:Nat)=V.int ((((x::r).map V.str).length:Nat) - 1))=decide r.Nodup by rw [← dedS_nodup,List.length_map,List.length_cons,show ((r.length+1:Nat):Int) - 1=r.length by lia]]
  refine ite2 (fun c3=>?_) fun c3=>?_
  ·rw [c3,Bool.true_and] at q'
   refine ⟨_,rfl,_,rfl,b,_,rfl,SqL.of (t3 _ _ hb),fun p4 h4=>?_⟩
   rw [ec]
   have t4:=t3.trans (qA3 h4 (.lst (r.map V.str)))
   have g4:(upd H3 p4 (.lst (r.map V.str))) p4=_:=qA1
   generalize upd H3 p4 (.lst (r.map V.str))=H4 at t4 g4 ⊢
   refine ⟨p4,rfl,⟨_,SqL.of g4⟩,fun p hp=>?_⟩
   refine qCC (xs:=r.map V.str) (inI nm r a H4 p) ⟨none,rfl,qA3 hp _,qA1⟩ ?_ (in_step lr (t4 _ _ ha) hp) ?_
   ·rintro i σ Hi _ ⟨v,rfl,sm,_⟩
    exact SqL.of (sm _ _ g4)
   ·refine fun σ Hi hI_4=>opq fun G_4 hG_4=>?_
    obtain ⟨v,rfl,sm,hli⟩:=hI_4
    refine hG_4 ?_
    refine ⟨p,_,rfl,SqL.of hli,?_⟩
    rw [in_all (List.length_map V.str)]
    exact q' Hi (t4.trans sm)
  ·rw [Bool.eq_false_iff.mpr c3,Bool.false_and] at q'
   exact q' H3 t3
theorem sc_Lis_deed:FnScope ["_law_names_here","_law_words"] ["_law_names_here","_law_words"] (defScope qCT):=sc_mk
theorem ok_Lis_deed (F:Fun K "_law_is_deed" "_law_is_deed" qCT f fd) (C_Lplain:Clb P w K mg base 1 f_Lplain fd_Lplain "_law_plain" ["_law_word"] spPlnL) (C_Lare_asked:Clb P w K mg base 1 f_Lare_asked fd_Lare_asked "_law_are_asked" ["_law_names_here","_law_words"] spAskL) (z_len:mg "len" = none):FnOk P w K mg base CX0 2 f fd ["_law_names_here","_law_words"] spDdL:=by
 refine F.okA sc_Lis_deed fun cdv A outer s H vs Q E hr h=>?_
 obtain ⟨a,b,nm,ws,rfl,ha,hb,ln,lw,ne,hw,q⟩:=h
 refine ⟨_,(qA5 (ps_if (qAB qBF (pe_ix qAI (pv 1) qA6 (fun _ _=>rfl)) (qCX (qA0 qAE (qA0 qAE (qA0 qAE (qA0 qAE qA4))))) (by with_unfolding_all rfl)) (qA8 (qAD (qAX op_eq (qA9 qAA rfl z_len qAJ (qA0 (pv 1) qA4)) qA6 (nomark _)))) qAG) (qA5 (ps_if (qAB qBF (pe_ix qAI (pv 1) qA6 (fun _ _=>rfl)) (qCX (qA0 qAE (qA0 qAE (qA0 qAE (qA0 qAE qA4))))) (by with_unfolding_all rfl)) (qA8 (qAD (qBM (qAX op_eq (qA9 qAA rfl z_len qAJ (qA0 (pv 1) qA4)) qA6 (nomark _)) (qC6 (qAX qBF (pe_ix qAI (pv 1) qA6 (fun _ _=>rfl)) (pv 0) (by with_unfolding_all rfl)))))) qAG) (qA5 (ps_if (qAB op_eq (pe_ix qAI (pv 1) qA6 (fun _ _=>rfl)) qAE (nomark _)) (qA8 (qAD (qBM (qAX op_gt (qA9 qAA rfl z_len qAJ (qA0 (pv 1) qA4)) qA6 (nomark _)) (qBM (qAX op_gt (pe_cl C_Lplain hr rfl (qA0 (pe_ix qAI (pv 1) qA6 (fun _ _=>rfl)) qA4)) qA6 (nomark _)) (qC6 (pe_cl C_Lare_asked hr rfl (qA0 (pv 0) (qA0 (qAU qB6 (pv 1) (qB3 qA6) qB4) qA4)))))))) qAG) (qA8 (qAD (qBM (qAX qBF (pe_ix qAI (pv 1) qA6 (fun _ _=>rfl)) (qCX (qA0 qAE (qA0 qAE (qA0 qAE qA4)))) (by with_unfolding_all rfl)) (qC6 (pe_cl C_Lare_asked hr rfl (qA0 (pv 0) (qA0 (qAU qB6 (pv 1) (qB3 qA6) qB4) qA4)))))))))),?_⟩
 try dsimp only [Cx.nox,Cx.wish,cxOf]
 have hs:=sizeLine_eq
 cases ws with
 | nil=>exact absurd rfl ne
 | cons x r=>
  have q':∀ H',Same H H'→Q (.bl (if x ∈ aloneL then r.isEmpty else if x ∈ oneL then oneB nm r else if x=Str.ofString "steps" then stpB nm r else decide (x ∈ someL) && askL nm r)) H':=q
  clear q
  have x0:∀ {H1:Hp},Same H H1→SqL K H1 b ((x::r).map V.str):=fun t=>SqL.of (t _ _ hb)
  refine ⟨_,rfl,b,_,_,_,rfl,rfl,x0 (Same.refl H),qAN (j:=0) rfl,(by show 4≤sizeLine;lia),fun T1 g1=>⟨T1,[.str "back",.str "stand",.str "moves",.str "count"],rfl,.inr (SqT.of qA1),rfl,rfl,_,rfl,?_⟩⟩
  rw [show inV (.str x) [.str "back",.str "stand",.str "moves",.str "count"]=decide (x ∈ aloneL) from qBJ x aloneL]
  have t1:=qA3 g1 (.tup [.str "back",.str "stand",.str "moves",.str "count"])
  generalize upd H T1 (.tup [.str "back",.str "stand",.str "moves",.str "count"])=H1 at t1 ⊢
  refine ite2 (fun c=>?_) fun c=>?_
  ·rw [if_pos (of_decide_eq_true c)] at q'
   refine ⟨_,rfl,b,_,rfl,.inl (x0 t1),rfl,?_⟩
   have:=q' H1 t1
   cases r with
   | nil=>exact this
   | cons y r=>rw [decide_eq_false (by intro z;have:=V.int.inj z;simp at this;lia)];exact this
  rw [if_neg (fun z=>c (decide_eq_true z))] at q'
  clear c
  refine ⟨_,rfl,b,_,_,_,rfl,rfl,x0 t1,qAN (j:=0) rfl,(by show 4≤sizeLine;lia),fun T2 g2=>⟨T2,[.str "do",.str "clear",.str "tree",.str "cut"],rfl,.inr (SqT.of qA1),rfl,rfl,_,rfl,?_⟩⟩
  rw [show inV (.str x) [.str "do",.str "clear",.str "tree",.str "cut"]=decide (x ∈ oneL) from qBJ x oneL]
  have t2:=t1.trans (qA3 g2 (.tup [.str "do",.str "clear",.str "tree",.str "cut"]))
  generalize upd H1 T2 (.tup [.str "do",.str "clear",.str "tree",.str "cut"])=H2 at t2 ⊢
  refine ite2 (fun c=>?_) fun c=>?_
  ·rw [if_pos (of_decide_eq_true c)] at q'
   refine ⟨_,rfl,b,_,rfl,.inl (x0 t2),rfl,_,rfl,?_⟩
   have:=q' H2 t2
   match r with
   | []=>exact this
   | y::z::r=>rw [decide_eq_false (by intro z;have:=V.int.inj z;simp at this;lia)];exact this
   | [y]=>
    refine iteT ⟨_,rfl,b,_,_,_,rfl,rfl,x0 t2,qAN (j:=1) rfl,_,rfl,a,_,rfl,.inl (SqL.of (t2 _ _ ha)),rfl,flat_strs nm,?_⟩
    rw [qBJ]
    exact this
  rw [if_neg (fun z=>c (decide_eq_true z))] at q'
  clear c
  refine ⟨_,rfl,b,_,_,_,rfl,rfl,x0 t2,qAN (j:=0) rfl,rfl,_,rfl,?_⟩
  refine ite2 (fun c=>?_) fun c=>?_
  ·rw [if_pos (V.str.inj (of_decide_eq_true c))] at q'
   refine ⟨_,rfl,b,_,rfl,.inl (x0 t2),_,_,rfl,rfl,_,rfl,?_⟩
   match r with
   | []=>exact q' H2 t2
   | [y]=>exact q' H2 t2
   | y::z::r=>
    have q2:∀ H',Same H H'→Q (.bl (decide (0<plnF y) && askL nm (z::r))) H':=q'
    clear q'
    rw [decide_eq_true (by show (2:Int)<((x::y::z::r).map V.str).length;simp;lia)]
    refine iteT ⟨_,rfl,b,_,_,_,rfl,rfl,x0 t2,qAN (j:=1) rfl,y,rfl,hw y (by simp),fun H3 s3=>⟨_,_,rfl,rfl,_,rfl,?_⟩⟩
    have t3:=t2.trans s3
    refine ite2 (fun c2=>?_) fun c2=>?_
    ·rw [c2,Bool.true_and] at q2
     refine ⟨_,rfl,_,rfl,_,rfl,b,_,rfl,x0 t3,fun p4 h4=>?_⟩
     have ec:cutV ((x::y::z::r).map V.str) (some 2) none=(z::r).map V.str:=qCD (k:=2) (by simp)
     rw [ec]
     have t4:=t3.trans (qA3 h4 (.lst ((z::r).map V.str)))
     exact ⟨a,p4,nm,z::r,rfl,t4 _ _ ha,qA1,ln,by simp at lw ⊢;lia,fun H5 s5=>q2 H5 (t4.trans s5)⟩
    ·rw [Bool.eq_false_iff.mpr c2,Bool.false_and] at q2
     exact q2 H3 t3
  rw [if_neg (fun z=>c (decide_eq_true (by rw [z])))] at q'
  clear c
  refine ⟨_,rfl,b,_,_,_,rfl,rfl,x0 t2,qAN (j:=0) rfl,(by show 3≤sizeLine;lia),fun T3 g3=>⟨T3,[.str "plain",.str "few",.str "stair"],rfl,.inr (SqT.of qA1),rfl,rfl,_,rfl,?_⟩⟩
  rw [show inV (.str x) [.str "plain",.str "few",.str "stair"]=decide (x ∈ someL) from qBJ x someL]
  have t3:=t2.trans (qA3 g3 (.tup [.str "plain",.str "few",.str "stair"]))
  generalize upd H2 T3 (.tup [.str "plain",.str "few",.str "stair"])=H3 at t3 ⊢
  refine ite2 (fun c=>?_) fun c=>?_
  ·have c':decide (x ∈ someL)=true:=c
   rw [c',Bool.true_and] at q'
   refine ⟨_,rfl,_,rfl,_,rfl,b,_,rfl,x0 t3,fun p4 h4=>?_⟩
   have ec:cutV ((x::r).map V.str) (some 1) none=r.map V.str:=qCD (k:=1) (by simp)
   rw [ec]
   have t4:=t3.trans (qA3 h4 (.lst (r.map V.str)))
   exact ⟨a,p4,nm,r,rfl,t4 _ _ ha,qA1,ln,by simp at lw ⊢;lia,fun H5 s5=>q' H5 (t4.trans s5)⟩
  ·have c':decide (x ∈ someL)=false:=Bool.eq_false_iff.mpr c
   rw [c',Bool.false_and] at q'
   exact q' H3 t3
theorem sc_Lfirst_fault:FnScope ["_law_text","_law_names_here","_law_begun","_law_deeds","_law_rows","_law_k","_law_row","_law_words","_law_fine"] ["_law_text"] (defScope qBI):=sc_mk
theorem ok_Lfirst_fault (F:Fun K "_law_first_fault" "_law_first_fault" qBI f fd) (C_Lplain:Clb P w K mg base 1 f_Lplain fd_Lplain "_law_plain" ["_law_word"] spPlnL) (C_Lis_work:Clb P w K mg base 2 f_Lis_work fd_Lis_work "_law_is_work" ["_law_names_here","_law_words"] spWkL) (C_Lis_deed:Clb P w K mg base 2 f_Lis_deed fd_Lis_deed "_law_is_deed" ["_law_names_here","_law_words"] spDdL) (z_enumerate:mg "enumerate" = none) (z_len:mg "len" = none):FnOk P w K mg base CX0 3 f fd ["_law_text"] spFlt:=by
 refine F.okA sc_Lfirst_fault fun cdv A outer s H vs Q E hr h=>?_
 obtain ⟨x,rfl,lx,ok,q⟩:=h
 have hu0:=hr.units0
 refine ⟨_,(qA5 (qAF (i:=1) sc_Lfirst_fault.nd rfl (Or.inl rfl) (qAO qA4)) (qA5 (ps_asg (qCX (qA0 pe_bl (qA0 qA6 qA4))) (pg_tup rfl (qBA (qB7 (i:=2) sc_Lfirst_fault.nd rfl (Or.inl rfl)) (qBA (qB7 (i:=3) sc_Lfirst_fault.nd rfl (Or.inl rfl)) pgs_nil)))) (qA5 (qAF (i:=4) sc_Lfirst_fault.nd rfl (Or.inl rfl) (pe_bm PySem.F.plainAttrs_str PySem.F.slot_str_split PySem.F.type_str_split mt_split (pv 0) (qA0 qAE qA4))) (qA5 (ps_for PassesOwn.never rfl (pi_enum rfl z_enumerate qCM (qA0 (pv 4) qA4)) (pg_tup rfl (qBA (qB7 (i:=5) sc_Lfirst_fault.nd rfl (Or.inl rfl)) (qBA (qB7 (i:=6) sc_Lfirst_fault.nd rfl (Or.inl rfl)) pgs_nil))) (qA5 (qAF (i:=7) sc_Lfirst_fault.nd rfl (Or.inl rfl) (pe_bm PySem.F.plainAttrs_str PySem.F.slot_str_split PySem.F.type_str_split mt_split (pv 6) (qA0 qAE qA4))) (qA5 (ps_if (qAB op_ge (pv 5) qA6 (nomark _)) (qA8 (qAD qA6)) qAG) (qA5 (ps_if (qAB op_eq (pv 6) qAE (nomark _)) (qA8 ps_continue) qAG) (qA5 (ps_if (qCE (qBX (pv 2))) (qA5 (qAF (i:=8) sc_Lfirst_fault.nd rfl (Or.inl rfl) (qBM (qAX op_eq (qA9 qAA rfl z_len qAJ (qA0 (pv 7) qA4)) qA6 (nomark _)) (qBM (qAX op_eq (pe_ix qAI (pv 7) qA6 (fun _ _=>rfl)) qAE (nomark _)) (qC6 (qAX op_gt (pe_cl C_Lplain hr rfl (qA0 (pe_ix qAI (pv 7) qA6 (fun _ _=>rfl)) qA4)) qA6 (nomark _)))))) (qA8 (qAF (i:=2) sc_Lfirst_fault.nd rfl (Or.inl rfl) pe_bl))) (qA8 (ps_if (qAB op_eq (pe_ix qAI (pv 7) qA6 (fun _ _=>rfl)) qAE (nomark _)) (qA5 (qAF (i:=8) sc_Lfirst_fault.nd rfl (Or.inl rfl) (qBM (qAX op_eq (pv 3) qA6 (nomark _)) (qC6 (pe_cl C_Lis_work hr rfl (qA0 (pv 1) (qA0 (qAU qB6 (pv 7) (qB3 qA6) qB4) qA4)))))) (qA8 (qBG (pe_bm PySem.F.plainAttrs_list PySem.F.slot_list_append PySem.F.type_list_append qAY (pv 1) (qA0 (pe_ix qAI (pe_op qCH (pv 7) (qAO (qA0 qAE qA4))) qA6 (fun _ _=>rfl)) qA4))))) (qA5 (qAF (i:=8) sc_Lfirst_fault.nd rfl (Or.inl rfl) (qBM (qAX (op_ne_nil hu0) (pv 1) (qAO qA4) (nomark _)) (qC6 (pe_cl C_Lis_deed hr rfl (qA0 (pv 1) (qA0 (pv 7) qA4)))))) (qA8 (qAF (i:=3) sc_Lfirst_fault.nd rfl (Or.inl rfl) (pe_op qBN (pv 3) qA6))))))) (qA8 (ps_if (qCE (qBX (pv 8))) (qA8 (qAD (pv 5))) qAG))))))) (qA8 (qAD (qBY (qAB (op_eq_nil hu0) (pv 1) (qAO qA4) (nomark _)) (qA9 qAA rfl z_len qAJ (qA0 (pv 4) qA4)) qC7))))))),?_⟩
 try dsimp only [Cx.nox,Cx.wish,cxOf]
 have hs:=sizeLine_eq
 refine cut fun N0 hN0=>?_
 refine ⟨(by show 0≤sizeLine;lia),fun p hp=>hN0 _ _ ?_⟩
 clear hN0
 have s0:=qA3 hp (.lst [])
 have g0:(upd H p (.lst [])) p=some (.lst (([]:List Str).map V.str)):=qA1
 generalize upd H p (.lst [])=H0 at s0 g0 ⊢
 refine cut fun N1 hN1=>?_
 refine ⟨(by show 2≤sizeLine;lia),fun T hT=>⟨T,_,rfl,SqT.of qA1,rfl,_,_,rfl,_,_,rfl,rfl,hN1 _ _ ?_⟩⟩
 clear hN1
 have s1:=s0.trans (qA3 hT (.tup [.bl false,.int 0]))
 have g1:=qA3 hT (.tup [.bl false,.int 0]) _ _ g0
 generalize upd H0 T (.tup [.bl false,.int 0])=H1 at s1 g1 ⊢
 refine cut fun N2 hN2=>?_
 have ls:=PyProof.Rows.split_le x (Str.ofString "\n")
 refine ⟨_,rfl,rfl,_,_,rfl,rfl,by decide,by lia,fun l hl=>hN2 _ _ ?_⟩
 clear hN2
 have s2:=s1.trans (qA3 hl (.lst ((Txt.split x (Str.ofString "\n")).map V.str)))
 have g2:=qA3 hl (.lst ((Txt.split x (Str.ofString "\n")).map V.str)) _ _ g1
 have gl:(upd H1 l (.lst ((Txt.split x (Str.ofString "\n")).map V.str))) l=_:=qA1
 have npl:l ≠ p:=fun z=>by rw [z,g1] at hl;cases hl
 generalize Txt.split x (Str.ofString "\n")=rows at s2 g2 gl ok q ls ⊢
 generalize upd H1 l (.lst (rows.map V.str))=H2 at s2 g2 gl ⊢
 have back:∀ {Hc:Hp},KeepL [p] H2 Hc→Same H Hc:=fun k b o e=>k _ _ (s2 _ _ e) fun z=>by rw [List.mem_singleton.mp z,hp] at e;cases e
 have gp:∀ {Hc:Hp},KeepL [p] H2 Hc→Hc l=some (.lst (rows.map V.str)):=fun k=>k _ _ gl fun z=>npl (List.mem_singleton.mp z)
 refine cut fun N3 hN3=>?_
 refine ⟨_,rfl,l,rfl,⟨_,SqL.of gl⟩,for_enum (a:=l) (xs:=rows.map V.str) (fun i σ Hc=>∃ v5 v6 v7 v8 bg nm dn si,σ=[some (.str x),some (.ref p),some (.bl bg),some (.int ((dn:Nat):Int)),some (.ref l),v5,v6,v7,v8]∧KeepL [p] H2 Hc∧Hc p=some (.lst (nm.map V.str))∧Sim si bg nm dn∧fltF 0 sh0 rows=fltF i si (rows.drop i)∧i≤100) ⟨none,none,none,none,false,[],0,sh0,rfl,KeepL.of_same (Same.refl _),g2,sim0,rfl,Nat.zero_le _⟩ ?_ ?_ ?_⟩
 ·rintro i σ Hc _ ⟨v5,v6,v7,v8,bg,nm,dn,si,rfl,k,_⟩
  exact SqL.of (gp k)
 ·refine fun i x' σ Hc T2 ex hI_2 hT2=>opq fun G_2 hG_2=>?_
  obtain ⟨v5,v6,v7,v8,bg,nm,dn,si,rfl,k,gn,S,fe,i100⟩:=hI_2
  refine hG_2 ?_
  rw [List.getElem?_map] at ex
  obtain ⟨r,er,rfl⟩:=Option.map_eq_some_iff.mp ex
  rw [drop_at er] at fe
  have rok:=ok r (List.mem_of_getElem? er)
  refine ⟨T2,_,rfl,SqT.of qA1,rfl,_,_,rfl,_,_,rfl,rfl,?_⟩
  have k1:=k.trans (KeepL.of_same (qA3 hT2 (.tup [.int (i:Int),.str r])))
  have n1:=qA3 hT2 (.tup [.int (i:Int),.str r]) _ _ gn
  generalize upd Hc T2 (.tup [.int (i:Int),.str r])=H3 at k1 n1 ⊢
  refine cut fun M0 hM0=>?_
  have wl:=PyProof.Rows.split_le r (Str.ofString " ")
  have wp:=PyProof.Rows.split_pos r (Str.ofString " ")
  have wok:=words_ok rok
  have r200:=rok.1
  have rf:=fun h0=>row_fine S (row:=r) h0 rok.1 rok.2
  have rn:=fun h0 s'=>row_next (s':=s') S (row:=r) h0
  refine ⟨_,rfl,rfl,_,_,rfl,rfl,by decide,by lia,fun lw hlw=>hM0 _ _ ?_⟩
  clear hM0
  have k2:=k1.trans (KeepL.of_same (qA3 hlw (.lst ((Txt.split r (Str.ofString " ")).map V.str))))
  have n2:=qA3 hlw (.lst ((Txt.split r (Str.ofString " ")).map V.str)) _ _ n1
  have gw:(upd H3 lw (.lst ((Txt.split r (Str.ofString " ")).map V.str))) lw=_:=qA1
  have nwp:lw ≠ p:=fun z=>by rw [z,n1] at hlw;cases hlw
  generalize Txt.split r (Str.ofString " ")=ws at k2 n2 gw wl wp wok rf rn ⊢
  generalize upd H3 lw (.lst (ws.map V.str))=H4 at k2 n2 gw ⊢
  refine ⟨_,rfl,_,_,rfl,rfl,_,rfl,?_⟩
  refine ite2 (fun c=>?_) fun c=>?_
  ·have e:i=100:=by have:=of_decide_eq_true c;lia
   subst e
   rw [flt_100] at fe
   rw [fe] at q
   exact q H4 (back k2)
  have i99:¬ i=100:=by have:=of_decide_eq_false (Bool.eq_false_iff.mpr c);lia
  refine ⟨_,rfl,rfl,_,rfl,?_⟩
  refine ite2 (fun c2=>?_) fun c2=>?_
  ·have e:r=Str.ofString "":=V.str.inj (of_decide_eq_true c2)
   subst e
   rw [flt_ok i99 row_nil] at fe
   exact ⟨_,_,_,_,bg,nm,dn,si,rfl,k2,n2,S,fe,by lia⟩
  have h0:¬ r=Str.ofString "":=fun z=>c2 (decide_eq_true (by rw [z]))
  have rf:=rf h0
  have rn:=rn h0
  refine cut fun M9 hM9=>hM9 _ _ ?_
  clear hM9
  refine cut fun M1 hM1=>?_
  have rest:∀ (bg':Bool) (nm':List Str) (dn':Nat) (fb:Bool) (H5:Hp),KeepL [p] H2 H5→H5 p=some (.lst (nm'.map V.str))→fb=fineL bg nm dn ws→(∀ s',rowT si r=some s'→Sim s' bg' nm' dn')→M1 [some (.str x),some (.ref p),some (.bl bg'),some (.int ((dn':Nat):Int)),some (.ref l),some (.int (i:Int)),some (.str r),some (.ref lw),some (.bl fb)] H5:=by
   intro bg' nm' dn' fb H5 k5 n5 ef S5
   refine hM1 _ _ ?_
   rw [← ef] at rf
   refine ⟨_,rfl,_,rfl,?_⟩
   cases fb with
   | false=>
    have e:=flt_bad (rs:=rows.drop (i+1)) i99 (Option.isSome_eq_false_iff.mp rf |> Option.isNone_iff_eq_none.mp)
    rw [fe,e] at q
    exact ⟨_,rfl,q H5 (back k5)⟩
   | true=>
    obtain ⟨s',e⟩:=Option.isSome_iff_exists.mp rf
    rw [flt_ok i99 e] at fe
    exact ⟨_,_,_,_,bg',nm',dn',s',rfl,k5,n5,S5 s' e,fe,by lia⟩
  clear hM1
  have n300:nm.length≤300:=by
   have:=S.len
   have:=S.n40
   rw [S.names] at *
   lia
  cases bg with
  | false=>
   refine ⟨_,rfl,_,rfl,iteT ?_⟩
   refine cut fun M2 hM2=>?_
   have r2:∀ (fb:Bool) (H5:Hp),Same H4 H5→fb=fineL false nm dn ws→M2 [some (.str x),some (.ref p),some (.bl false),some (.int (dn:Int)),some (.ref l),some (.int (i:Int)),some (.str r),some (.ref lw),some (.bl fb)] H5:=fun fb H5 s5 e=>hM2 _ _ (rest true nm dn fb H5 (k2.trans (KeepL.of_same s5)) (s5 _ _ n2) e fun s' z=>by
    have:=rn s' z
    rw [if_neg (fun z=>by cases z.1),if_neg (fun z=>by cases z.1)] at this
    exact this)
   clear hM2 rest
   refine ⟨_,rfl,lw,_,rfl,.inl (SqL.of gw),rfl,_,rfl,?_⟩
   rcases ws with _ | ⟨a,_ | ⟨b,_ | ⟨c,r⟩⟩⟩
   ·exact absurd wp (by decide)
   ·exact iteF (r2 false H4 (Same.refl _) rfl)
   ·refine iteT ⟨_,rfl,lw,_,_,_,rfl,rfl,SqL.of gw,qAN (j:=0) rfl,rfl,_,rfl,?_⟩
    have ef:fineL false nm dn [a,b]=(decide (a=Str.ofString "rooms") && decide (0<plnF b)):=rfl
    refine ite2 (fun c=>?_) fun c=>?_
    ·rw [decide_eq_true (V.str.inj (of_decide_eq_true c)),Bool.true_and] at ef
     exact ⟨_,rfl,lw,_,_,_,rfl,rfl,SqL.of gw,qAN (j:=1) rfl,b,rfl,wok b (by simp),fun H5 s5=>⟨_,_,rfl,rfl,r2 _ H5 s5 ef.symm⟩⟩
    ·rw [decide_eq_false (fun z=>c (decide_eq_true (by rw [z]))),Bool.false_and] at ef
     exact r2 false H4 (Same.refl _) ef.symm
   ·rw [decide_eq_false (by intro z;have:=V.int.inj z;simp at this;lia)]
    exact iteF (r2 false H4 (Same.refl _) rfl)
  | true=>
   refine ⟨_,rfl,_,rfl,iteF ?_⟩
   rcases ws with _ | ⟨w0,wr⟩
   ·exact absurd wp (by decide)
   have lwr:wr.length≤300:=by rw [List.length_cons] at wl;lia
   have ef:fineL true nm dn (w0::wr)=if w0=Str.ofString "work" then decide (dn=0) && workL nm wr else !nm.isEmpty && deedL nm (w0::wr):=by
    show (if some w0=some (Str.ofString "work") then _ else _)=_
    by_cases e:w0=Str.ofString "work"
    ·rw [if_pos e,if_pos (by rw [e])];rfl
    ·rw [if_neg e,if_neg (fun z=>e (Option.some.inj z))]
   refine ⟨_,rfl,lw,_,_,_,rfl,rfl,SqL.of gw,qAN (j:=0) rfl,rfl,_,rfl,?_⟩
   refine ite2 (fun c=>?_) fun c=>?_
   ·have ew:w0=Str.ofString "work":=V.str.inj (of_decide_eq_true c)
    rw [if_pos ew] at ef
    refine cut fun M2 hM2=>?_
    have r2:∀ (fb:Bool) (H5:Hp),Same H4 H5→fb=fineL true nm dn (w0::wr)→M2 [some (.str x),some (.ref p),some (.bl true),some (.int (dn:Int)),some (.ref l),some (.int (i:Int)),some (.str r),some (.ref lw),some (.bl fb)] H5:=fun fb H5 s5 e=>hM2 _ _ (by
     have g5:=s5 _ _ gw
     have n5:=s5 _ _ n2
     refine ⟨_,rfl,.inl ⟨rfl,_,SqL.of n5⟩,_,rfl,(by show 1≤sizeLine;lia),fun l6 h6=>⟨lw,l6,_,_,rfl,rfl,qA3 h6 _ _ _ g5,qA1,?_,fun l7 h7=>?_⟩⟩
     ·rw [List.length_map]
      show _+1≤sizeLine
      lia
     have s7:=(qA3 h6 (.lst [.str (Str.ofString "")])).trans (qA3 h7 (.lst ((w0::wr).map V.str++[.str (Str.ofString "")])))
     refine ⟨l7,_,_,.str (((w0::wr)++[Str.ofString ""]).getD 1 (Str.ofString "")),rfl,rfl,SqL.of qA1,qAN (j:=1) (by cases wr <;> rfl),p,_,_,rfl,rfl,s7 _ _ n5,by rw [List.length_map];lia,?_⟩
     refine rest true (nm++[((w0::wr)++[Str.ofString ""]).getD 1 (Str.ofString "")]) dn fb _ (((k2.trans (KeepL.of_same s5)).trans (KeepL.of_same s7)).trans fun b o z n=>by rw [qA7 (fun y=>n (by rw [y];simp))];exact z) (by rw [qA1,List.map_append];rfl) e fun s' z=>?_
     have:=rn s' z
     rw [if_pos ⟨rfl,by rw [ew];rfl⟩,if_neg (fun z=>z.2 (by rw [ew];rfl))] at this
     exact this)
    clear hM2 rest
    refine ⟨_,rfl,rfl,_,rfl,?_⟩
    refine ite2 (fun c2=>?_) fun c2=>?_
    ·rw [decide_eq_true (show dn=0 by have:=V.int.inj (of_decide_eq_true c2);lia),Bool.true_and] at ef
     refine ⟨_,rfl,_,rfl,_,rfl,lw,_,rfl,SqL.of gw,fun p5 h5=>?_⟩
     have ec:cutV ((w0::wr).map V.str) (some 1) none=wr.map V.str:=qCD (k:=1) (by simp)
     rw [ec]
     have s5:=qA3 h5 (.lst (wr.map V.str))
     exact ⟨p,p5,nm,wr,rfl,s5 _ _ n2,qA1,n300,lwr,fun y hy=>wok y (List.mem_cons_of_mem _ hy),fun H6 s6=>r2 _ H6 (s5.trans s6) ef.symm⟩
    ·rw [decide_eq_false (show ¬ dn=0 from fun z=>c2 (decide_eq_true (by rw [z];rfl))),Bool.false_and] at ef
     exact r2 false H4 (Same.refl _) ef.symm
   ·have ew:¬ w0=Str.ofString "work":=fun z=>c (decide_eq_true (by rw [z]))
    rw [if_neg ew] at ef
    have nw:¬ (w0::wr).head?=some (Str.ofString "work"):=fun z=>ew (Option.some.inj z)
    refine cut fun M2 hM2=>?_
    have r2:∀ (fb:Bool) (H5:Hp),Same H4 H5→fb=fineL true nm dn (w0::wr)→M2 [some (.str x),some (.ref p),some (.bl true),some (.int (dn:Int)),some (.ref l),some (.int (i:Int)),some (.str r),some (.ref lw),some (.bl fb)] H5:=fun fb H5 s5 e=>hM2 _ _ ⟨_,rfl,_,_,rfl,rfl,rest true nm (dn+1) fb H5 (k2.trans (KeepL.of_same s5)) (s5 _ _ n2) e fun s' z=>by
     have:=rn s' z
     rw [if_neg (fun z=>nw z.2),if_pos ⟨rfl,nw⟩] at this
     exact this⟩
    clear hM2 rest
    refine ⟨_,rfl,(by show 0≤sizeLine;lia),fun l5 h5=>⟨p,l5,_,rfl,rfl,SqL.of (qA3 h5 _ _ _ n2),SqL.of qA1,_,rfl,?_⟩⟩
    have s5:=qA3 h5 (.lst [])
    generalize upd H4 l5 (.lst [])=H5 at s5 ⊢
    rw [List.isEmpty_map]
    refine ite2 (fun c2=>?_) fun c2=>?_
    ·rw [c2,Bool.true_and] at ef
     exact ⟨_,rfl,_,rfl,p,lw,nm,w0::wr,rfl,s5 _ _ n2,s5 _ _ gw,n300,by lia,(by simp),wok,fun H6 s6=>r2 _ H6 (s5.trans s6) ef.symm⟩
    ·rw [Bool.eq_false_iff.mpr c2,Bool.false_and] at ef
     exact r2 false H5 s5 ef.symm
 ·refine fun σ Hc hI_3=>opq fun G_3 hG_3=>?_
  obtain ⟨v5,v6,v7,v8,bg,nm,dn,si,rfl,k,gn,S,fe,_⟩:=hI_3
  refine hG_3 ?_
  refine hN3 _ _ ?_
  clear hN3
  rw [List.length_map,List.drop_length] at fe
  have eq0:fltF rows.length si []=if si.net.isEmpty=true then some rows.length else none:=rfl
  have ln:si.net.isEmpty=nm.isEmpty:=by
   have:=S.len
   rw [S.names] at this
   cases h:nm <;> cases h2:si.net <;> rw [h,h2] at this <;> first | rfl | cases this
  rw [fe,eq0,ln] at q
  refine ⟨_,rfl,(by show 0≤sizeLine;lia),fun l2 hl2=>⟨p,l2,_,rfl,rfl,SqL.of (qA3 hl2 _ _ _ gn),SqL.of qA1,_,rfl,?_⟩⟩
  have k3:=k.trans (KeepL.of_same (qA3 hl2 (.lst [])))
  generalize upd Hc l2 (.lst [])=H5 at k3 ⊢
  rw [List.isEmpty_map]
  cases h:nm.isEmpty with
  | true=>
   rw [h,if_pos rfl] at q
   refine iteT ⟨_,rfl,l,_,rfl,.inl (SqL.of (gp k3)),?_⟩
   rw [List.length_map]
   exact q H5 (back k3)
  | false=>
   rw [h,if_neg (by decide)] at q
   exact iteF (q H5 (back k3))
section
variable {P:Program} {w:World} {K:PySem.W.Frag} {mg:Str→Option Value} {base:Heap} {f:Addr} {fd:FuncData} {c_Sheet c_BadRow f_init_BadRow f_Sheet_init f_Sheet_take_row:Addr} {fd_init_BadRow fd_Sheet_init fd_Sheet_take_row:FuncData} {tk_MOST_ROWS:Tok}
theorem sc_init_BadRow:FnScope ["self","row"] ["self","row"] (defScope qB0):=sc_mk
theorem ok_init_BadRow (F:Fun K "__init__" "BadRow.__init__" qB0 f fd) (x_BadRow:XCls K c_BadRow (some (.ref f))) (n_row:PySem.W.findIn K (.ref c_BadRow) "row" = some none):FnOk P w K mg base CX0 1 f fd ["self","row"] (spInit1 c_BadRow):=by
 refine F.okA sc_init_BadRow fun cdv A outer s H vs Q E hr h=>?_
 obtain ⟨x,a,rfl,hx,q⟩:=h
 refine ⟨_,(qA8 (ps_xfld x_BadRow (pv 0) (pv 1))),?_⟩
 try dsimp only [Cx.nox,Cx.wish,cxOf]
 exact ⟨_,rfl,_,rfl,x,none,rfl,hx,n_row,.inl ⟨rfl,fun dx hdx nx=>q dx hdx nx⟩⟩
theorem sc_read_sheet:FnScope ["text","rows","sheet","number","row"] ["text"] (defScope qBU):=sc_mk
theorem ok_read_sheet (F:Fun K "read_sheet" "read_sheet" qBU f fd) (cl_Sheet:Cls K c_Sheet) (ns_Sheet:SNa K c_Sheet) (mk_Sheet:Mk K c_Sheet f_Sheet_init) (m_Sheet:mg "Sheet" = some (.ref c_Sheet)) (me_Sheet_take_row:Meth K c_Sheet "take_row" f_Sheet_take_row)
  (G_Sheet_init:FnOk P w K mg base CX0 1 f_Sheet_init fd_Sheet_init ["self"] (spSInit c_Sheet)) (b_Sheet_init:Binds K fd_Sheet_init ["self"] [])
  (G_Sheet_take_row:FnOk P w K mg base CX0 7 f_Sheet_take_row fd_Sheet_take_row ["self","row"] (spTRow c_Sheet)) (b_Sheet_take_row:Binds K fd_Sheet_take_row ["self","row"] []) (m_MOST_ROWS:mg "MOST_ROWS" = some (.int 100 tk_MOST_ROWS)) (x_BadRow:XCls K c_BadRow (some (.ref f_init_BadRow))) (fi_BadRow:PySem.W.isFn K (.ref f_init_BadRow)=true) (m_BadRow:mg "BadRow" = some (.ref c_BadRow))
  (G_init_BadRow:FnOk P w K mg base CX0 1 f_init_BadRow fd_init_BadRow ["self","row"] (spInit1 c_BadRow)) (b_init_BadRow:Binds K fd_init_BadRow ["self","row"] []) (z_len:mg "len" = none) (z_enumerate:mg "enumerate" = none) (z_tuple:mg "tuple" = none):FnOk P w K mg base (CX1 P w) 8 f fd ["text"] (spReadW c_BadRow):=by
 refine F.okX sc_read_sheet (fun vs H Q E h=>?_) (fun cdv A outer s H vs Q E hr h=>?_)
 ·obtain ⟨x,rfl,_⟩:=h
  rfl
 obtain ⟨x,rfl,lx,q,qE⟩:=h
 have hr_init_BadRow:Room 2 _:=(hr.mono (by decide))
 have hr_Sheet_init:Room 2 _:=(hr.mono (by decide))
 have hr_Sheet_take_row:Room 7 _:=(hr.mono (by decide))
 refine ⟨_,(qA5 (qAF (i:=1) sc_read_sheet.nd rfl (Or.inl rfl) (pe_bm PySem.F.plainAttrs_str PySem.F.slot_str_split PySem.F.type_str_split mt_split (pv 0) (qA0 qAE qA4))) (qA5 (qAF (i:=2) sc_read_sheet.nd rfl (Or.inl rfl) (pe_make0 mk_Sheet G_Sheet_init hr_Sheet_init rfl m_Sheet b_Sheet_init .nil pass0)) (qA5 (ps_for own1 rfl (pi_enum rfl z_enumerate qCM (qA0 (pv 1) qA4)) (pg_tup rfl (qBA (qB7 (i:=3) sc_read_sheet.nd rfl (Or.inl rfl)) (qBA (qB7 (i:=4) sc_read_sheet.nd rfl (Or.inl rfl)) pgs_nil))) (qA8 (ps_if (PW.pt (pw_or (qAB op_eq (pv 3) (qBD (v:=.int (100)) rfl m_MOST_ROWS ⟨_,rfl⟩) (nomark _)) (qC5 (qCE (qBX (pe_meth (pv 2) cl_Sheet me_Sheet_take_row G_Sheet_take_row hr_Sheet_take_row b_Sheet_take_row .nil pass0 (qA0 (pv 4) qA4))))))) (qA8 (ps_raiseC rfl rfl x_BadRow fi_BadRow G_init_BadRow hr_init_BadRow rfl m_BadRow b_init_BadRow (qA0 (pv 3) qA4) (by decide))) qAG))) (qA5 (ps_if (qCE (pt_truth (qBL (pv 2) rfl) (fun _=>rfl))) (qA8 (ps_raiseC rfl rfl x_BadRow fi_BadRow G_init_BadRow hr_init_BadRow rfl m_BadRow b_init_BadRow (qA0 (qA9 qAA rfl z_len qAJ (qA0 (pv 1) qA4)) qA4) (by decide))) qAG) (qA8 (qAD (qCX (qA0 (qBL (pv 2) rfl) (qA0 (qAH (call_tupleD rfl) rfl z_tuple qB1 (qA0 (qBL (pv 2) rfl) qA4)) (qA0 (qAH qAM rfl z_tuple qB1 (qA0 (qBL (pv 2) rfl) qA4)) (qA0 (qBL (pv 2) rfl) qA4))))))))))),?_⟩
 try dsimp only [Cx.nox,Cx.wish,cxOf]
 have hs:=sizeLine_eq
 have ls:=PyProof.Rows.split_le x (Str.ofString "\n")
 refine cut fun N0 hN0=>?_
 refine ⟨_,rfl,rfl,_,_,rfl,rfl,by decide,by lia,fun p hp=>hN0 _ _ (cut fun N1 hN1=>?_)⟩
 clear hN0
 have s0:=qA3 hp (.lst ((Txt.split x (Str.ofString "\n")).map V.str))
 have g0:(upd H p (.lst ((Txt.split x (Str.ofString "\n")).map V.str))) p=_:=qA1
 generalize hrows:Txt.split x (Str.ofString "\n")=rows at s0 g0 q qE ls ⊢
 have rl:∀ r ∈ rows,r.length≤x.length:=fun r hr=>PyProof.Rows.part_short (by rw [hrows];exact hr)
 generalize upd H p (.lst (rows.map V.str))=H0 at s0 g0 ⊢
 intro y dx hy hdx nx
 have s1:Same H0 (upd (upd H0 dx (.own y)) y (.ins c_Sheet dx [])):=(qA3 hdx _).trans (qA3 (by rw [qA7 nx.symm];exact hy) _)
 refine ⟨y,dx,rfl,qA1,fun a b c H1 k1 ha hb hc Y=>⟨rfl,hN1 _ _ ?_⟩⟩
 clear hN1
 have fr:∀ q,(upd (upd H0 dx (.own y)) y (.ins c_Sheet dx [])) q=none→H q=none:=fun q z=>s0.free (s1.free z)
 have s2:Same H0 H1:=fun q o e=>k1 _ _ (s1 _ _ e) fun z=>by rw [List.mem_singleton.mp z,hy] at e;cases e
 have ny:H y=none:=s0.free hy
 have s3:=s0.trans s2
 have gp:=s2 _ _ g0
 refine cut fun N2 hN2=>?_
 have np:∀ q,H q=none→H0 q=none→p ≠ q:=fun q _ z e=>by rw [← e,g0] at z;cases z
 have off:∀ H2,KeepL [y,a,b,c] H1 H2→Same H0 H2:=fun H2 k q o e=>k _ _ (s2 _ _ e) fun z=>by
  simp only [List.mem_cons,List.not_mem_nil,or_false] at z
  rcases z with rfl | rfl | rfl | rfl
  ·rw [hy] at e;cases e
  ·rw [s1.free ha] at e;cases e
  ·rw [s1.free hb] at e;cases e
  ·rw [s1.free hc] at e;cases e
 refine ⟨_,rfl,p,rfl,⟨_,SqL.of gp⟩,for_enum (a:=p) (xs:=rows.map V.str) (fun i σ Hc=>∃ v3 v4 si,σ=[some (.str x),some (.ref p),some (.ref y),v3,v4]∧KeepL [y,a,b,c] H1 Hc∧foldT sh0 (rows.take i)=some si∧fltF 0 sh0 rows=fltF i si (rows.drop i)∧i≤100∧ShAt c_Sheet Hc y dx a b c si) ⟨none,none,sh0,rfl,KeepL.of_same (Same.refl _),by rw [List.take_zero];rfl,rfl,Nat.zero_le _,Y⟩ ?_ ?_ ?_⟩
 ·rintro i σ Hc _ ⟨v3,v4,si,rfl,k,_,_,_,_⟩
  exact SqL.of (off _ k _ _ g0)
 ·refine fun i x' σ Hc T ex hI_2 hT=>opq fun G_2 hG_2=>?_
  obtain ⟨v3,v4,si,rfl,k,fi,fe,i100,Yi⟩:=hI_2
  refine hG_2 ?_
  rw [List.getElem?_map] at ex
  obtain ⟨r,er,rfl⟩:=Option.map_eq_some_iff.mp ex
  rw [drop_at er] at fe
  have li:i<rows.length:=(List.getElem?_eq_some_iff.mp er).1
  refine ⟨T,_,rfl,SqT.of qA1,rfl,_,_,rfl,_,_,rfl,rfl,?_⟩
  have sT:=qA3 hT (.tup [.int (i:Int),.str r])
  have Yt:=Yi.next sT
  have kT:=k.trans (.of_same sT)
  generalize upd Hc T (.tup [.int (i:Int),.str r])=H2 at sT Yt kT ⊢
  have bad:∀ {H3:Hp},KeepL [y,a,b,c] H1 H3→fltF 0 sh0 rows=some i→∀ ex,H3 ex=none→∀ dx,(upd H3 ex (ExcN ex c_BadRow none)) dx=none→dx ≠ ex→E (.ref c_BadRow) (some dx) (upd H3 dx (XDic dx (xrow i))):=fun k3 e3 ex hex dx hdx nx=>by
   rw [qA7 nx] at hdx
   exact qE i dx _ e3 ((s0.trans (off _ k3)).trans (qA3 hdx _)) qA1
  refine ⟨_,rfl,rfl,_,rfl,?_⟩
  refine ite2 (fun c1=>?_) fun c1=>?_
  ·have e:i=100:=by have:=V.int.inj (of_decide_eq_true c1);lia
   subst e
   rw [flt_100] at fe
   refine ⟨_,rfl,fun ex hex=>⟨ex,_,rfl,qA1,fun dx hdx nx=>⟨rfl,some dx,_,upd_norm nx,?_,bad kT fe ex hex dx hdx nx⟩⟩⟩
   rw [qA7 nx.symm];exact hex
  have i99:¬ i=100:=fun z=>c1 (decide_eq_true (by rw [z];rfl))
  have ld:=deeds_fold fi
  have lr:=rl r (List.mem_of_getElem? er)
  have nof:(sfs (optV si.rooms) a b c).lookup (Str.ofString "take_row")=none:=by
   unfold sfs
   rw [qAC,if_neg (by decide),qAC,if_neg (by decide),qAC,if_neg (by decide),qAC,if_neg (by decide)]
   rfl
  refine ⟨_,rfl,y,dx,_,rfl,Yt.obj,nof,_,rfl,y,dx,a,b,c,si,r,rfl,Yt,by lia,?_,?_⟩
  ·rw [List.length_take] at ld
   show si.deeds.length≤1000
   have:sh0.deeds.length=0:=rfl
   lia
  intro H3 k3 Y3
  have kk:=kT.trans k3
  cases er3:rowT si r with
  | none=>
   have fb:=flt_bad (rs:=rows.drop (i+1)) i99 er3
   rw [← fe] at fb
   refine ⟨_,rfl,?_⟩
   refine ⟨_,rfl,fun ex hex=>⟨ex,_,rfl,qA1,fun dx hdx nx=>⟨rfl,some dx,_,upd_norm nx,?_,bad kk fb ex hex dx hdx nx⟩⟩⟩
   rw [qA7 nx.symm];exact hex
  | some s'=>
   rw [flt_ok i99 er3] at fe
   rw [er3] at Y3
   refine ⟨_,rfl,_,_,s',rfl,kk,?_,fe,by lia,Y3⟩
   rw [List.take_add_one,er,Option.toList_some,fold_snoc,fi]
   exact er3
 ·refine fun σ Hc hI_3=>opq fun G_3 hG_3=>?_
  obtain ⟨v3,v4,si,rfl,k,fi,fe,_,Yi⟩:=hI_3
  refine hG_3 ?_
  refine hN2 _ _ ?_
  rw [List.length_map,List.drop_length] at fe
  have eq0:fltF rows.length si []=if si.net.isEmpty=true then some rows.length else none:=rfl
  rw [eq0] at fe
  obtain ⟨rs,g1,g2⟩:=Yi.net
  obtain ⟨vs,g3,g4⟩:=Yi.deeds
  refine ⟨_,rfl,y,c_Sheet,dx,_,_,rfl,Yi.obj,cl_Sheet,ns_Sheet.net,sf_net,_,.inl ⟨_,SqL.of g1,rfl⟩,?_⟩
  have er:(rs.map V.ref).isEmpty=si.net.isEmpty:=by
   rw [List.isEmpty_map,paired_nil g2]
  rw [er]
  cases en:si.net.isEmpty with
  | true=>
   rw [en,if_pos rfl] at fe
   refine ⟨_,rfl,p,_,rfl,.inl (SqL.of (off _ k _ _ g0)),fun ex hex=>⟨ex,_,rfl,qA1,fun dx hdx nx=>⟨rfl,some dx,_,upd_norm nx,?_,?_⟩⟩⟩
   ·rw [qA7 nx.symm];exact hex
   ·rw [qA7 nx] at hdx
    rw [List.length_map]
    exact qE _ dx _ fe ((s0.trans (off _ k)).trans (qA3 hdx _)) qA1
  | false=>
   rw [en,if_neg (by decide)] at fe
   refine ⟨_,rfl,y,c_Sheet,dx,_,_,rfl,Yi.obj,cl_Sheet,ns_Sheet.rooms,sf_rooms,_,rfl,y,c_Sheet,dx,_,_,rfl,Yi.obj,cl_Sheet,ns_Sheet.numbers,qC4,a,_,rfl,Yi.num,fun t1 h1=>?_⟩
   rw [numD_keys]
   have q1:=qA3 h1 (.tup (si.names.map V.str))
   refine ⟨_,rfl,y,c_Sheet,dx,_,_,rfl,q1 _ _ Yi.obj,cl_Sheet,ns_Sheet.net,sf_net,b,_,rfl,.inl ⟨SqL.of (q1 _ _ g1),fun t2 h2=>?_⟩⟩
   have q2:=q1.trans (qA3 h2 (.tup (rs.map V.ref)))
   refine ⟨_,rfl,y,c_Sheet,dx,_,_,rfl,q2 _ _ Yi.obj,cl_Sheet,ns_Sheet.deeds,sf_deeds,(by show 4≤sizeLine;decide),fun t3 h3=>?_⟩
   refine q fe t3 t1 t2 _ c _ ((s0.trans (off _ k)).trans (q2.trans (qA3 h3 _))) qA1 ⟨si.names,qA3 h3 _ _ _ (qA3 h2 _ _ _ qA1),?_⟩
   rw [List.length_map,List.take_length] at fi
   have:=fold_names fi
   rw [show sh0.names.length=0 from rfl,Nat.zero_add] at this
   exact this
end
section
variable {P:Program} {w:World} {K:PySem.W.Frag} {mg:Str→Option Value} {base:Heap} {f:Addr} {fd:FuncData} {c_Barred c_BadRow c_NoMove c_NoTree c_TooMany c_RoomError f_read_sheet:Addr} {fd_read_sheet:FuncData}
theorem sc_Lrefused:FnScope ["_law_call","_law_text","_law_caught","error"] ["_law_call","_law_text"] (defScope qCQ):=sc_mk
theorem ok_Lrefused (F:Fun K "_law_refused" "_law_refused" qCQ f fd) (y_BadRow:XTy K c_BadRow) (n_row:PySem.W.findIn K (.ref c_BadRow) "row" = some none)
  (m_Barred:mg "Barred" = some (.ref c_Barred)) (m_BadRow:mg "BadRow" = some (.ref c_BadRow)) (m_NoMove:mg "NoMove" = some (.ref c_NoMove)) (m_NoTree:mg "NoTree" = some (.ref c_NoTree)) (m_TooMany:mg "TooMany" = some (.ref c_TooMany))
  (ki_others:PySem.W.kitAny K (.ref c_BadRow) [.ref c_Barred,.ref c_NoMove,.ref c_NoTree,.ref c_TooMany]=some false) (ki_ValueError:PySem.W.kitOne K (.ref c_BadRow) (.type "ValueError")=some true)
  (em_RoomError:PySem.W.exmOne K (.ref c_BadRow) (.ref c_RoomError)=some true) (m_RoomError:mg "RoomError" = some (.ref c_RoomError))
  (G_read_sheet:FnOk P w K mg base (CX1 P w) 8 f_read_sheet fd_read_sheet ["text"] (spReadW c_BadRow)) (b_read_sheet:Binds K fd_read_sheet ["text"] []) (k_read_sheet:PySem.W.keepIn K (.ref f_read_sheet)=true) (m_read_sheet:mg "read_sheet" = some (.ref f_read_sheet)) (z_isinstance:mg "isinstance" = none) (z_ValueError:mg "ValueError" = none):FnOk P w K mg base CX0 9 f fd ["_law_call","_law_text"] (spRef f_read_sheet):=by
 refine F.okA sc_Lrefused fun cdv A outer s H vs Q E hr h=>?_
 obtain ⟨x,rfl,lx,q⟩:=h
 have hr_read_sheet:Room 8 _:=hr
 refine ⟨_,(qA5 (qAF (i:=2) sc_Lrefused.nd rfl (Or.inl rfl) qC7) (qA5 (ps_tryEV (i:=0) (j:=some 3) rfl rfl sc_Lrefused.nd G_read_sheet hr_read_sheet rfl (Or.inl rfl) k_read_sheet b_read_sheet .nil (qA0 (pv 1) qA4) rfl m_RoomError ⟨rfl,rfl⟩ (fun ev=>(qA8 (qAF (i:=2) sc_Lrefused.nd rfl (Or.inl rfl) (pv 3))))) (qA5 (ps_if (qCF (qCY (pv 2))) (qA8 (qAD qC7)) qAG) (qA5 (ps_if (PW.pt (pw_or (qCE (qBX (qA9 call_isX rfl z_isinstance qAS (qA0 (pv 2) (qA0 (qBD (v:=.ref c_BadRow) rfl m_BadRow rfl) qA4))))) (qC5 (qBX (qA9 call_isXT rfl z_isinstance qAS (qA0 (pv 2) (qA0 (qCX (qA0 (qBD (v:=.ref c_Barred) rfl m_Barred rfl) (qA0 (qBD (v:=.ref c_NoMove) rfl m_NoMove rfl) (qA0 (qBD (v:=.ref c_NoTree) rfl m_NoTree rfl) (qA0 (qBD (v:=.ref c_TooMany) rfl m_TooMany rfl) qA4))))) qA4))))))) (qA8 (qAD (pe_un un_neg qA6))) qAG) (qA8 (qAD (qBY (qBX (qA9 call_isX rfl z_isinstance qAS (qA0 (pv 2) (qA0 (qD2 (v:=.ty "ValueError") rfl z_ValueError bt_ValueError rfl) qA4)))) (pe_xfld (pv 2) rfl) (pe_un un_neg qA6)))))))),?_⟩
 try dsimp only [Cx.nox,Cx.wish,cxOf]
 refine cut fun N0 hN0=>hN0 _ _ ?_
 clear hN0
 refine cut fun N1 hN1=>?_
 refine ⟨rfl,_,rfl,x,rfl,lx,fun e _ _ _ _ _ H3 s3 _ _=>hN1 _ _ ?_,fun n dx H3 e s3 gdx=>⟨em_RoomError,fun ex hex=>⟨_,rfl,hN1 _ _ ?_⟩⟩⟩
 ·clear hN1
  rw [e] at q
  exact ⟨_,rfl,_,rfl,iteT (q H3 s3)⟩
 ·clear hN1
  rw [e] at q
  have sx:=qA3 hex (ExcO ex (.ref c_BadRow) (some dx))
  have gx:(upd H3 ex (ExcO ex (.ref c_BadRow) (some dx))) ex=some (ExcO ex (.ref c_BadRow) (some dx)):=qA1
  have gd:=sx _ _ gdx
  have s4:=s3.trans sx
  generalize upd H3 ex (ExcO ex (.ref c_BadRow) (some dx))=H4 at gx gd s4 ⊢
  have xt:ExcT H4 ex c_BadRow (some dx):=⟨gx,fun d z=>by cases z;exact ⟨_,gd⟩⟩
  refine ⟨_,rfl,_,rfl,iteF ?_⟩
  refine ⟨_,rfl,ex,c_BadRow,some dx,_,.ref c_BadRow,true,rfl,xt,y_BadRow,rfl,fun c' z=>z,kit_self,_,rfl,?_⟩
  refine ⟨_,rfl,(by show 4≤sizeLine;decide),fun T2 hT2=>?_⟩
  have sT:=qA3 hT2 (.tup [.ref c_Barred,.ref c_NoMove,.ref c_NoTree,.ref c_TooMany])
  have gT2:(upd H4 T2 (.tup [.ref c_Barred,.ref c_NoMove,.ref c_NoTree,.ref c_TooMany])) T2=some (.tup ([c_Barred,c_NoMove,c_NoTree,c_TooMany].map V.ref)):=qA1
  generalize upd H4 T2 (.tup [.ref c_Barred,.ref c_NoMove,.ref c_NoTree,.ref c_TooMany])=H5 at sT gT2 ⊢
  have xt5:ExcT H5 ex c_BadRow (some dx):=⟨sT _ _ gx,fun d z=>by cases z;exact ⟨_,sT _ _ gd⟩⟩
  refine ⟨ex,c_BadRow,some dx,T2,[c_Barred,c_NoMove,c_NoTree,c_TooMany],false,rfl,xt5,y_BadRow,gT2,ki_others,_,rfl,?_⟩
  refine ⟨_,rfl,ex,c_BadRow,some dx,_,.type "ValueError",true,rfl,xt5,y_BadRow,rfl,fun c' z=>z,ki_ValueError,_,rfl,?_⟩
  exact ⟨_,rfl,ex,c_BadRow,dx,_,_,rfl,sT _ _ gx,sT _ _ gd,y_BadRow.toXGet,n_row,rfl,q H5 (s4.trans sT)⟩
end
theorem sc_law:FnScope ["_law_script","_law_state","_law_net_here","_law_names_here","_law_texts","_law_many","_law_some","_law_rows","_law_k","_law_text","_law_due","_law_works"] ["_law_script"] (defScope s_law):=sc_mk
theorem ok_law (F:Fun K "law" "law" s_law f fd) (C_Lbegin:Clb P w K mg base 1 f_Lbegin fd_Lbegin "_law_begin" ["_law_script"] (spBegin K)) (C_Ltake:Clb P w K mg base 1 f_Ltake fd_Ltake "_law_take" ["_law_state","_law_many"] spTake) (C_Lnet:Clb P w K mg base 3 f_Lnet fd_Lnet "_law_net" ["_law_state","_law_many"] spNet) (C_Lnames:Clb P w K mg base 2 f_Lnames fd_Lnames "_law_names" ["_law_state","_law_many"] spNamesW) (C_Lmany_rows:Clb P w K mg base 4 f_Lmany_rows fd_Lmany_rows "_law_many_rows" ["_law_state","_law_names_here","_law_net_here"] spManyR) (C_Lhead:Clb P w K mg base 3 f_Lhead fd_Lhead "_law_head" ["_law_state","_law_names_here","_law_net_here","_law_rooms"] spHeadW) (C_Lasks:Clb P w K mg base 3 f_Lasks fd_Lasks "_law_asks" ["_law_state","_law_names_here"] spAsks) (C_Lmixed:Clb P w K mg base 2 f_Lmixed fd_Lmixed "_law_mixed" ["_law_state","_law_some"] (spMixed K)) (C_Lfirst_fault:Clb P w K mg base 3 f_Lfirst_fault fd_Lfirst_fault "_law_first_fault" ["_law_text"] spFlt) (C_Lrefused:Clb P w K mg base 9 f_Lrefused fd_Lrefused "_law_refused" ["_law_call","_law_text"] (spRef f_read_sheet)) (G_read_sheet:FnOk P w K mg base (CX1 P w) 8 f_read_sheet fd_read_sheet ["text"] (spReadW c_BadRow)) (b_read_sheet:Binds K fd_read_sheet ["text"] []) (k_read_sheet:PySem.W.keepIn K (.ref f_read_sheet)=true) (m_read_sheet:mg "read_sheet" = some (.ref f_read_sheet)) (C_Lsame:Clb P w K mg base 1 f_Lsame fd_Lsame "_law_same" ["_law_found","_law_due"] spSameN)
  (z_range:mg "range" = none) (z_len:mg "len" = none):FnOk P w K mg base CX0 10 f fd ["_law_script"] (spLaw K):=by
 refine F.okA sc_law fun cdv A outer s H vs Q E hr h=>?_
 obtain ⟨sc,ns,rfl,hS,h63,q⟩:=h
 have hu0:=hr.units0
 have hr_read_sheet:Room 8 _:=hr.mono (by decide)
 refine ⟨_,(qA5 (qAF (i:=1) sc_law.nd rfl (Or.inl rfl) (pe_cl C_Lbegin hr rfl (qA0 (pv 0) qA4))) (qA5 (qAF (i:=2) sc_law.nd rfl (Or.inl rfl) (pe_cl C_Lnet hr rfl (qA0 (pv 1) (qA0 (pe_op qBN qA6 (pe_cl C_Ltake hr rfl (qA0 (pv 1) (qA0 qA6 qA4)))) qA4)))) (qA5 (qAF (i:=3) sc_law.nd rfl (Or.inl rfl) (pe_cl C_Lnames hr rfl (qA0 (pv 1) (qA0 (qA9 qAA rfl z_len qAJ (qA0 (pv 2) qA4)) qA4)))) (qA5 (qAF (i:=4) sc_law.nd rfl (Or.inl rfl) (qAO (qA0 (pe_cl C_Lmany_rows hr rfl (qA0 (pv 1) (qA0 (pv 3) (qA0 (pv 2) qA4)))) qA4))) (qA5 (qBG (pe_bm PySem.F.plainAttrs_list PySem.F.slot_list_append PySem.F.type_list_append qAY (pv 4) (qA0 (pe_op qCH (pe_cl C_Lhead hr rfl (qA0 (pv 1) (qA0 (pv 3) (qA0 (pv 2) (qA0 qA6 qA4))))) (pe_cl C_Lasks hr rfl (qA0 (pv 1) (qA0 (pv 3) qA4)))) qA4))) (qA5 (qAF (i:=5) sc_law.nd rfl (Or.inl rfl) (pe_op qBN qA6 (pe_cl C_Ltake hr rfl (qA0 (pv 1) (qA0 qA6 qA4))))) (qA5 (qAF (i:=6) sc_law.nd rfl (Or.inl rfl) (pe_cl C_Lnames hr rfl (qA0 (pv 1) (qA0 (pv 5) qA4)))) (qA5 (qAF (i:=7) sc_law.nd rfl (Or.inl rfl) (pe_op qCH (qAO (qA0 qAE qA4)) (pe_lc rfl (lcs (own:=["_law_name"]) (fv:=[]) (by kernel_rfl)) (qC2 (pv 6)) (fun z1=>pg_in 0) (fun z1=>qBC) (fun z1=>(pe_op qBR qAE (pv 0)))))) (qA5 (ps_for PassesOwn.never rfl (pi_range2 rfl z_range (qA0 qA6 (qA0 (pv 5) qA4))) (qB7 (i:=8) sc_law.nd rfl (Or.inl rfl)) (qA8 (ps_asg (pe_bm PySem.F.plainAttrs_str PySem.F.slot_str_join PySem.F.type_str_join mt_join qAE (qA0 (pe_op qCH (qAO (qA0 qAE (qA0 (pe_ix qAI (pv 6) (pv 8) (fun _ _=>rfl)) qA4))) (qAU qB6 (pe_cl C_Lmixed hr rfl (qA0 (pv 1) (qA0 (qAU qB6 (pv 6) qB4 (qB3 (pv 8))) qA4))) qB4 (qB3 (pe_cl C_Ltake hr rfl (qA0 (pv 1) (qA0 qA6 qA4)))))) qA4)) (pg_sub (pv 7) (pe_op qBN qA6 (pv 8)) set_list)))) (qA5 (qBG (pe_bm PySem.F.plainAttrs_list PySem.F.slot_list_append PySem.F.type_list_append qAY (pv 4) (qA0 (pe_op qCH (pe_lc rfl (lcs (own:=["_law_row"]) (fv:=[]) (by kernel_rfl)) (qC2 (qAU qB6 (pv 7) qB4 (qB3 qA6))) (fun z2=>pg_in 0) (fun z2=>qBC) (fun z2=>(qBY (qAB op_gt (qA9 qBE rfl z_len qAJ (qA0 (pv 0) qA4)) qA6 (nomark _)) (qAU sl_str (pv 0) qB4 (qB3 qA6)) (pv 0)))) (pe_lc rfl (lcs (own:=["_law_name"]) (fv:=[]) (by kernel_rfl)) (qC2 (qAU qB6 (pv 6) (qB3 qA6) qB4)) (fun z3=>pg_in 0) (fun z3=>qBC) (fun z3=>(pe_op qBR qAE (pv 0))))) qA4))) (qA5 (qBG (pe_bm PySem.F.plainAttrs_list PySem.F.slot_list_append PySem.F.type_list_append qAY (pv 4) (qA0 (pe_op qCH (pe_op op_rep (qAO (qA0 qAE qA4)) (pe_op qBN qA6 (pe_cl C_Ltake hr rfl (qA0 (pv 1) (qA0 qA6 qA4))))) (qAO (qA0 qAE (qA0 qAE qA4)))) qA4))) (qA5 (ps_for PassesOwn.never rfl (qC2 (pv 4)) (qB7 (i:=7) sc_law.nd rfl (Or.inl rfl)) (qA5 (qAF (i:=9) sc_law.nd rfl (Or.inl rfl) (pe_bm PySem.F.plainAttrs_str PySem.F.slot_str_join PySem.F.type_str_join mt_join qAE (qA0 (pv 7) qA4))) (qA5 (qAF (i:=10) sc_law.nd rfl (Or.inl rfl) (pe_cl C_Lfirst_fault hr rfl (qA0 (pv 9) qA4))) (qA5 (ps_if (qCE (qBX (pe_cl C_Lsame hr rfl (qA0 (pe_cl C_Lrefused hr rfl (qA0 (qBD (v:=.ref f_read_sheet) rfl m_read_sheet rfl) (qA0 (pv 9) qA4))) (qA0 (pv 10) qA4))))) (qA8 (qAD pe_bl)) qAG) (qA5 (ps_lc (i:=11) sc_law.nd rfl rfl rfl (lcs (own:=["_law_row"]) (fv:=[]) (by kernel_rfl)) (qC2 (pv 7)) (fun z4=>pg_in 0) (fun z4=>(pts_one (qAB op_eq (qAU sl_str (pv 0) qB4 (qB3 qA6)) qAE (nomark _)))) (fun z4=>(pv 0)) (by kernel_rfl)) (qA8 (ps_if (PW.pt (pw_and (qCF (qCY (pv 10))) (pw_and1 (qAB op_ne (qA9 qAA rfl z_len qAJ (qA0 (pe_ix ix_tup (pe_call G_read_sheet hr_read_sheet rfl m_read_sheet k_read_sheet b_read_sheet .nil passN (qA0 (pv 9) qA4)) qA6 (fun _ _=>rfl)) qA4)) (qA9 qAA rfl z_len qAJ (qA0 (pv 11) qA4)) (nomark _))))) (qA8 (qAD pe_bl)) qAG))))))) (qA8 (qAD pe_bl)))))))))))))),?_⟩
 try dsimp only [Cx.nox,Cx.wish,cxOf]
 have hs:=sizeLine_eq
 refine cut fun N0 hN0=>?_
 refine ⟨_,rfl,sc,ns,rfl,hS,h63,fun d c ms H1 S1 _ _ _=>hN0 _ _ (cut fun N1 hN1=>?_)⟩
 clear hN0
 refine ⟨_,rfl,_,rfl,d,c,0,ms,9,rfl,S1,by decide,by decide,by decide,fun k ms1 H2 k0 k9 S2 K2=>⟨_,_,rfl,rfl,d,c,_,ms1,4+k,rfl,S2,by decide,by lia,by lia,fun a net t6 ms6 H6 S6 _ b6 _ hA wf nl=>hN1 _ _ (cut fun N2 hN2=>?_)⟩⟩
 clear hN1 S2 K2 S1
 have hA0:=hA
 obtain ⟨as,hA1,hA2⟩:=hA0
 have las:=NetAt.len hA2
 refine ⟨_,rfl,_,rfl,a,_,rfl,.inr (SqT.of hA1),?_⟩
 rw [List.length_map]
 refine ⟨d,c,t6,ms6,_,rfl,S6,(by show t6≤1000000000 - 1000;lia),by lia,by lia,fun ln nm t7 ms7 H7 S7 _ b7 K7 fln gln nok lnm=>hN2 _ _ (cut fun N3 hN3=>?_)⟩
 clear hN2
 have hA7:=hA.keep S6 K7
 have nlc:ln ≠ c:=(qA2 S6.list fln).symm
 have nld:ln ≠ d:=(qA2 S6.dict fln).symm
 have lnn:net.length=nm.length:=by lia
 have ln1:1≤nm.length∧nm.length≤12:=by lia
 clear S6 K7 hA hA1 hA2 fln las
 refine ⟨_,rfl,_,rfl,_,rfl,d,c,t7,ms7,ln,a,nm,net,rfl,S7,(by show t7≤1000000000 - 20000;lia),gln,nlc,hA7,wf,lnn,ln1.1,ln1.2,nok,fun l1 rw1 t8 ms8 H8 S8 _ b8 K8 f1 g1 ok1 ne1 len1=>⟨(by show 1≤sizeLine;decide),fun lt hlt=>hN3 _ _ (cut fun N4 hN4=>?_)⟩⟩
 clear hN3
 have ntd:lt ≠ d:=(qA2 S8.dict hlt).symm
 have ntc:lt ≠ c:=(qA2 S8.list hlt).symm
 have T9:TxAt (upd H8 lt (.lst [.ref l1])) d c lt [l1]:=⟨qA1,ntd,ntc,fun l hl=>by
  rw [List.mem_singleton.mp hl]
  exact ⟨(qA2 S7.dict f1).symm,(qA2 S7.list f1).symm,qA2 g1 hlt,rw1,qA3 hlt _ _ _ g1,ne1,len1,ok1⟩⟩
 have S9:=S8.new hlt (.lst [.ref l1])
 have K9:=K8.trans (qAV (d:=d) (c:=c) hlt (.lst [.ref l1]))
 have hA9:=hA7.keep S7 K9
 have gl9:=K9 _ _ gln nld nlc
 have nlt:ln ≠ lt:=qA2 (K8 _ _ gln nld nlc) hlt
 generalize upd H8 lt (.lst [.ref l1])=H9 at T9 S9 hA9 gl9 ⊢
 have t8b:t8≤5000:=by lia
 clear K9 S8 K8 S7 f1 g1 ok1 ne1 len1 hA7 gln hlt
 refine ⟨_,rfl,.inl ⟨rfl,_,SqL.of T9.at_⟩,_,rfl,_,rfl,_,rfl,d,c,t8,ms8,ln,a,nm,net,5,rfl,S9,(by show t8≤1000000000 - 10000;lia),gl9,nlc,hA9,wf,lnn,ln1.2,nok,by decide,by decide,fun lh rwh t9 ms9 H10 S10 _ b9 K10 fh gh okh lenh=>⟨_,rfl,_,rfl,d,c,t9,ms9,ln,nm,rfl,S10,(by show t9≤1000000000 - 10000;lia),K10 _ _ gl9 nld nlc,nlc,ln1.2,nok,fun lk rwk t10 ms10 H11 S11 _ b10 K11 fk gk okk lenk=>?_⟩⟩
 have gh11:=K11 _ _ gh (qA2 S9.dict fh).symm (qA2 S9.list fh).symm
 refine ⟨lh,lk,_,_,rfl,rfl,gh11,gk,by rw [List.length_map,List.length_map];lia,fun l2 h2=>?_⟩
 rw [← List.map_append]
 have T11:=(T9.keep (K10.trans K11)).keep (qAV (d:=d) (c:=c) h2 (.lst ((rwh++rwk).map V.str)))
 have S12:=S11.new h2 (.lst ((rwh++rwk).map V.str))
 have gl12:=qA3 h2 (.lst ((rwh++rwk).map V.str)) _ _ ((K10.trans K11) _ _ gl9 nld nlc)
 have n2t:l2 ≠ lt:=(qA2 ((T9.keep (K10.trans K11)).at_) h2).symm
 have r2:RwAt (upd H11 l2 (.lst ((rwh++rwk).map V.str))) l2:=⟨_,qA1,fun z=>by have e:=congrArg List.length z;rw [List.length_append,List.length_nil] at e;lia,by rw [List.length_append];lia,fun r hr=>by
  rcases List.mem_append.mp hr with h | h
  ·exact okh r h
  ·exact okk r h⟩
 have n2d:l2 ≠ d:=(qA2 S11.dict h2).symm
 have n2c:l2 ≠ c:=(qA2 S11.list h2).symm
 generalize upd H11 l2 (.lst ((rwh++rwk).map V.str))=H12 at T11 S12 gl12 r2 ⊢
 refine ⟨lt,_,_,rfl,rfl,T11.at_,by simp [hs],hN4 _ _ ?_⟩
 clear hN4
 have T13:=T11.push n2d n2c n2t r2
 have S13:=stat_put (o:=.lst ([l1].map V.ref++[.ref l2])) S12 ntd ntc
 have gl13:(upd H12 lt (.lst ([l1].map V.ref++[.ref l2]))) ln=some (.lst (nm.map V.str)):=by rw [qA7 nlt];exact gl12
 generalize upd H12 lt (.lst ([l1].map V.ref++[.ref l2]))=H13 at T13 S13 gl13 ⊢
 have t10b:t10≤9000:=by lia
 clear T11 S12 gl12 r2 n2t h2 gh11 gk fk okk lenk K11 S11 K10 S10 gh fh okh lenh T9 S9 hA9 gl9 n2d n2c
 refine cut fun N5 hN5=>?_
 refine ⟨_,rfl,d,c,t10,ms10,5,rfl,S13,(by show t10≤1000000000;lia),by decide,by decide,fun m ms14 H14 m0 m5 S14 K14=>⟨_,_,rfl,rfl,hN5 _ _ (cut fun N6 hN6=>?_)⟩⟩
 clear hN5
 refine ⟨_,rfl,_,rfl,d,c,_,ms14,38+m,rfl,S14,(by show t10+1≤1000000000 - 1000;lia),by lia,by lia,fun ls sm t15 ms15 H15 S15 _ b15 K15 fs gs oks lsm=>hN6 _ _ (cut fun N7 hN7=>?_)⟩
 clear hN6
 have T15:=(T13.keep K14).keep K15
 have nsd:ls ≠ d:=(qA2 S14.dict fs).symm
 have nsc:ls ≠ c:=(qA2 S14.list fs).symm
 have nst:ls ≠ lt:=(qA2 (T13.keep K14).at_ fs).symm
 clear T13 K14 S14 S13 gl13 K15 fs
 refine ⟨(by show 1≤sizeLine;decide),fun q1 hq1=>?_⟩
 have s16:=qA3 hq1 (.lst [.str (Str.ofString "rooms 40")])
 have g16:(upd H15 q1 (.lst [.str (Str.ofString "rooms 40")])) q1=_:=qA1
 generalize upd H15 q1 (.lst [.str (Str.ofString "rooms 40")])=H16 at s16 g16 ⊢
 refine ⟨_,rfl,ls,rfl,⟨_,SqL.of (s16 _ _ gs)⟩,fun p hp=>qCC (xs:=sm.map V.str) (fun j σ Hi=>∃ v,σ=[v]∧Same H16 Hi∧Hi p=some (.lst (((sm.take j).map (Str.ofString "work " ++ ·)).map V.str))) ⟨none,rfl,qA3 hp _,qA1⟩ ?_ ?_ ?_⟩
 ·rintro j σ Hi _ ⟨v,rfl,sm',_⟩
  exact SqL.of (sm' _ _ (s16 _ _ gs))
 ·refine fun j z' σ Hi ez hI_2=>opq fun G_2 hG_2=>?_
  obtain ⟨v,rfl,sm',g⟩:=hI_2
  refine hG_2 ?_
  rw [List.getElem?_map] at ez
  obtain ⟨z,e5,rfl⟩:=Option.map_eq_some_iff.mp ez
  have zl:=(oks z (List.mem_of_getElem? e5)).2
  refine ⟨_,rfl,_,_,rfl,rfl,(by have:(Str.ofString "work ").length=5:=(by decide);lia),_,g,?_,_,rfl,fun b u e=>by rw [qA7 (qA2 e hp)];exact sm' b u e,?_⟩
  ·rw [List.length_map,List.length_map,List.length_take];lia
  ·rw [qA1,List.take_add_one,e5,Option.toList_some,List.map_append,List.map_append];rfl
 refine fun σ Hi hI_3=>opq fun G_3 hG_3=>?_
 obtain ⟨v,rfl,sm',g⟩:=hI_3
 refine hG_3 ?_
 rw [List.length_map,List.take_of_length_le (Nat.le_refl _)] at g
 have s17:=s16.trans sm'
 refine ⟨q1,p,_,_,rfl,rfl,sm' _ _ g16,g,by rw [List.length_map,List.length_map];show 1+sm.length≤sizeLine;lia,fun l7 h7=>hN7 _ _ ?_⟩
 clear hN7
 have T17:=T15.keep (.of_same (s17.trans (qA3 h7 (.lst ([.str (Str.ofString "rooms 40")]++(sm.map (Str.ofString "work " ++ ·)).map V.str)))))
 have T170:=T15.keep (.of_same s17)
 have S170:=S15.same s17
 have gs170:=s17 _ _ gs
 have S17:=S170.new h7 (.lst ([.str (Str.ofString "rooms 40")]++(sm.map (Str.ofString "work " ++ ·)).map V.str))
 have g17:(upd Hi l7 (.lst ([.str (Str.ofString "rooms 40")]++(sm.map (Str.ofString "work " ++ ·)).map V.str))) l7=some (.lst ((Str.ofString "rooms 40" :: sm.map (Str.ofString "work " ++ ·)).map V.str)):=qA1
 have K17:=qAV (d:=d) (c:=c) h7 (.lst ([.str (Str.ofString "rooms 40")]++(sm.map (Str.ofString "work " ++ ·)).map V.str))
 have n7d:l7 ≠ d:=(qA2 S170.dict h7).symm
 have n7c:l7 ≠ c:=(qA2 S170.list h7).symm
 generalize upd Hi l7 (.lst ([.str (Str.ofString "rooms 40")]++(sm.map (Str.ofString "work " ++ ·)).map V.str))=H17 at S17 g17 K17 T17 ⊢
 have ok17:∀ r ∈ Str.ofString "rooms 40" :: sm.map (Str.ofString "work " ++ ·),asc r=true∧r.length≤1000:=fun r hr=>by
  rcases List.mem_cons.mp hr with rfl | hr
  ·exact ⟨by decide +kernel,by decide⟩
  ·obtain ⟨x,hx,rfl⟩:=List.mem_map.mp hr
   have:=w9_row (x:=Str.ofString "work ") ⟨by decide +kernel,by decide⟩ (oks x hx)
   exact ⟨this.2,by have:=this.1;lia⟩
 have l17:(Str.ofString "rooms 40" :: sm.map (Str.ofString "work " ++ ·)).length=sm.length+1:=by rw [List.length_cons,List.length_map]
 generalize Str.ofString "rooms 40" :: sm.map (Str.ofString "work " ++ ·)=r17 at g17 ok17 l17
 have t15b:t15≤10000:=by lia
 have lsn:sm.length≤42∧38≤sm.length:=by lia
 clear s17 sm' g s16 g16 hq1 hp T15 S15 gs
 refine cut fun N8 hN8=>?_
 refine ⟨_,rfl,2,38+m,rfl,⟨by decide,by decide,by lia,by lia⟩,qCK (lo:=2) (n:=(38+m - 2).toNat) (fun i σ Hc=>∃ (t':Int) (ms:List Int) (rs:List Str) (v8:Option V),σ=[some (.ref sc),some (.ref d),some (.ref a),some (.ref ln),some (.ref lt),some (.int (38+m)),some (.ref ls),some (.ref l7),v8,none,none,none]∧StAt Hc d c t' ms∧t'≤t15+70 * i∧Keep d c Hi Hc∧Hc l7=some (.lst (rs.map V.str))∧rs.length=sm.length+1∧∀ r ∈ rs,asc r=true∧r.length≤1000)
  ⟨t15,ms15,r17,none,rfl,S17,by lia,K17,g17,l17,ok17⟩ ?_ ?_⟩
 ·refine fun i σ Hc hi hI_4=>opq fun G_4 hG_4=>?_
  obtain ⟨t',ms,rs,v8,rfl,S18,b18,K18,g18,l18,ok18⟩:=hI_4
  refine hG_4 ?_
  have gs18:=K18 _ _ gs170 nsd nsc
  have ei:sm[2+i]?=some (sm[2+i]'(by lia)):=List.getElem?_eq_getElem (by lia)
  generalize sm[2+i]'(by lia)=x at ei
  refine ⟨rfl,_,rfl,_,rfl,ls,_,_,_,rfl,rfl,SqL.of gs18,get_at (by lia) (by rw [show ((2:Int)+(i:Int)).toNat=2+i by lia,List.getElem?_map,ei];rfl),(by show 2≤sizeLine;decide),fun p1 hp1=>?_⟩
  have s1:=qA3 hp1 (.lst [.str (Str.ofString "work"),.str x])
  have h1:(upd Hc p1 (.lst [.str (Str.ofString "work"),.str x])) p1=_:=qA1
  generalize upd Hc p1 (.lst [.str (Str.ofString "work"),.str x])=H1 at s1 h1 ⊢
  refine ⟨_,rfl,_,rfl,_,rfl,_,rfl,ls,_,rfl,SqL.of (s1 _ _ gs18),fun p2 hp2=>?_⟩
  rw [qBQ,show ((2:Int)+(i:Int))=((2+i:Nat):Int) by lia,cutI_to]
  have s2:=s1.trans (qA3 hp2 (.lst ((sm.take (2+i)).map V.str)))
  have h2:(upd H1 p2 (.lst ((sm.take (2+i)).map V.str))) p2=_:=qA1
  have h12:=qA3 hp2 (.lst ((sm.take (2+i)).map V.str)) _ _ h1
  generalize upd H1 p2 (.lst ((sm.take (2+i)).map V.str))=H2 at s2 h2 h12 ⊢
  have S2:=S18.same s2
  have n1d:p1 ≠ d:=(qA2 S18.dict hp1).symm
  have n1c:p1 ≠ c:=(qA2 S18.list hp1).symm
  refine ⟨d,c,t',ms,p2,_,rfl,S2,(by show t'≤1000000000 - 1000;lia),.inl (SqL.of h2),by rw [List.length_map,List.length_take];lia,fun lm ys t3 ms3 H3 S3 b1 b2 K3 fl gl py=>?_⟩
  obtain ⟨zs,rfl,pz⟩:=perm_strs py
  have lz:=pz.length_eq
  rw [List.length_take] at lz
  have nmd:lm ≠ d:=(qA2 S2.dict fl).symm
  have nmc:lm ≠ c:=(qA2 S2.list fl).symm
  refine ⟨_,rfl,d,c,t3,ms3,41,rfl,S3,(by show t3≤1000000000;lia),by decide,by decide,fun u ms4 H4 u0 u41 S4 K4=>?_⟩
  obtain ⟨v,rfl⟩:∃ v:Nat,u=(v:Int):=⟨u.toNat,by lia⟩
  refine ⟨_,rfl,lm,_,rfl,SqL.of (K4 _ _ gl nmd nmc),fun p3 hp3=>?_⟩
  rw [qBQ,cutI_to]
  have okz:∀ y ∈ Str.ofString "work" :: x::zs.take v,W9 y:=fun y hy=>by
   rcases List.mem_cons.mp hy with rfl | hy
   ·exact work_w9
   rcases List.mem_cons.mp hy with rfl | hy
   ·exact oks _ (List.mem_of_getElem? ei)
   ·exact oks y (List.mem_of_mem_take (pz.mem_iff.mp (List.mem_of_mem_take hy)))
  have lz2:(Str.ofString "work" :: x::zs.take v).length≤50:=by rw [List.length_cons,List.length_cons,List.length_take];lia
  generalize zs.take v=ws at okz lz2 ⊢
  have s5:=qA3 hp3 (.lst (ws.map V.str))
  have g1:=s5 _ _ (K4 _ _ (K3 _ _ h12 n1d n1c) n1d n1c)
  have g3:(upd H4 p3 (.lst (ws.map V.str))) p3=_:=qA1
  have S5:=S4.same s5
  have K5:=((K18.trans (.of_same s2)).trans K3).trans (K4.trans (.of_same s5))
  have g7:=s5 _ _ ((K3.trans K4) _ _ (s2 _ _ g18) n7d n7c)
  generalize upd H4 p3 (.lst (ws.map V.str))=H5 at g1 g3 S5 K5 g7 ⊢
  rw [List.length_cons,List.length_cons] at lz2
  refine ⟨p1,p3,_,_,rfl,rfl,g1,g3,by rw [List.length_map];show 2+ws.length≤sizeLine;lia,fun p4 hp4=>?_⟩
  have s6:=qA3 hp4 (.lst ([.str (Str.ofString "work"),.str x]++ws.map V.str))
  refine ⟨_,p4,Str.ofString "work" :: x::ws,rfl,rfl,SqL.of qA1,big_sum okz (by rw [List.length_cons,List.length_cons];lia),_,rfl,_,rfl,_,_,rfl,rfl,l7,_,_,3+i,rfl,rfl,s6 _ _ g7,?_,?_⟩
  ·unfold ixN
   rw [List.length_map,if_pos (by lia),if_pos (by lia)]
   congr 1
   lia
  refine ⟨_,ms4,rs.set (3+i) _,_,rfl,stat_put (S5.same s6) n7d n7c,by lia,keep_put (K5.trans (.of_same s6)) h7,by rw [qA1,List.map_set],by rw [List.length_set];exact l18,fun r hr=>?_⟩
  rcases List.mem_or_eq_of_mem_set hr with h | rfl
  ·exact ok18 r h
  ·exact ⟨asc_join fun y hy=>(okz y hy).1,join_few okz (by rw [List.length_cons,List.length_cons];lia)⟩
 refine fun σ Hc hI_5=>opq fun G_5 hG_5=>?_
 obtain ⟨t',ms,rs,v8,rfl,S18,b18,K18,g18,l18,ok18⟩:=hI_5
 refine hG_5 ?_
 refine hN8 _ _ ?_
 clear hN8
 have gs18:=K18 _ _ gs170 nsd nsc
 have T18:=T170.keep K18
 have t18b:t'≤20000:=by lia
 have n7t:l7 ≠ lt:=(qA2 T170.at_ h7).symm
 clear T170 K18 S170 gs170 K17 S17 g17 T17 h7 ok17 l17 b18
 refine cut fun N9 hN9=>?_
 refine ⟨_,rfl,.inl ⟨rfl,_,SqL.of T18.at_⟩,_,rfl,_,rfl,l7,_,rfl,SqL.of g18,fun p1 hp1=>?_⟩
 rw [qBQ,show (41:Int)=((41:Nat):Int) from rfl,cutI_to]
 have ok41:∀ r ∈ rs.take 41,asc r=true∧r.length≤1000:=fun r hr=>ok18 r (List.mem_of_mem_take hr)
 have l41:(rs.take 41).length≤41∧1≤(rs.take 41).length:=by rw [List.length_take];lia
 generalize rs.take 41=r41 at ok41 l41 ⊢
 have s1:=qA3 hp1 (.lst (r41.map V.str))
 have h1:(upd Hc p1 (.lst (r41.map V.str))) p1=_:=qA1
 generalize upd Hc p1 (.lst (r41.map V.str))=H1 at s1 h1 ⊢
 refine ⟨p1,rfl,⟨_,SqL.of h1⟩,fun p2 hp2=>qCC (xs:=r41.map V.str) (fun j σ Hi=>∃ v,σ=[v]∧Same H1 Hi∧∃ zs:List Str,Hi p2=some (.lst (zs.map V.str))∧zs.length=j∧∀ z ∈ zs,RowOk z) ⟨none,rfl,qA3 hp2 _,[],qA1,rfl,fun _ z=>nomatch z⟩ ?_ ?_ ?_⟩
 ·rintro j σ Hi _ ⟨v,rfl,sm',_⟩
  exact SqL.of (sm' _ _ h1)
 ·refine fun j z' σ Hi ez hI_7=>opq fun G_7 hG_7=>?_
  obtain ⟨v,rfl,sm',zs,g,lz,okz⟩:=hI_7
  refine hG_7 ?_
  rw [List.getElem?_map] at ez
  obtain ⟨z,e5,rfl⟩:=Option.map_eq_some_iff.mp ez
  have jl:=(List.getElem?_eq_some_iff.mp e5).1
  obtain ⟨za,zl⟩:=ok41 z (List.mem_of_getElem? e5)
  refine ⟨_,rfl,z,rfl,by lia,_,_,rfl,rfl,_,rfl,?_⟩
  refine ite2 (fun c1=>?_) fun c1=>?_
  ·refine ⟨_,rfl,_,rfl,z,200,rfl,rfl,rfl,by lia,_,g,by rw [List.length_map];lia,_,rfl,fun b u e=>by rw [qA7 (qA2 e hp2)];exact sm' b u e,zs++[_],by rw [qA1,List.map_append];rfl,by rw [List.length_append,lz];rfl,snoc_ok okz ⟨take_len,asc_take za⟩⟩
  ·have:¬ (200:Int)<(z.length:Int):=fun h=>c1 (decide_eq_true h)
   refine ⟨_,rfl,_,g,by rw [List.length_map];lia,_,rfl,fun b u e=>by rw [qA7 (qA2 e hp2)];exact sm' b u e,zs++[_],by rw [qA1,List.map_append];rfl,by rw [List.length_append,lz];rfl,snoc_ok okz ⟨by lia,za⟩⟩
 refine fun σ Hd hI_8=>opq fun G_8 hG_8=>?_
 obtain ⟨v,rfl,sm1,zs,gz,lz,okz⟩:=hI_8
 refine hG_8 ?_
 rw [List.length_map] at lz
 have s2:=s1.trans sm1
 refine ⟨_,rfl,_,rfl,ls,_,rfl,SqL.of (s2 _ _ gs18),fun p3 hp3=>?_⟩
 rw [qBQ]
 obtain ⟨cs1,cs2⟩:=cutI_sub (xs:=sm) (lo:=some 40) (hi:=none)
 generalize cutI sm (some 40) none=s40 at cs1 cs2 ⊢
 have s3:=qA3 hp3 (.lst (s40.map V.str))
 have h3:(upd Hd p3 (.lst (s40.map V.str))) p3=_:=qA1
 generalize upd Hd p3 (.lst (s40.map V.str))=H3 at s3 h3 ⊢
 refine ⟨p3,rfl,⟨_,SqL.of h3⟩,fun p4 hp4=>qCC (xs:=s40.map V.str) (fun j σ Hi=>∃ v,σ=[v]∧Same H3 Hi∧Hi p4=some (.lst (((s40.take j).map (Str.ofString "work " ++ ·)).map V.str))) ⟨none,rfl,qA3 hp4 _,qA1⟩ ?_ ?_ ?_⟩
 ·rintro j σ Hi _ ⟨v,rfl,sm',_⟩
  exact SqL.of (sm' _ _ h3)
 ·refine fun j z' σ Hi ez hI_10=>opq fun G_10 hG_10=>?_
  obtain ⟨v,rfl,sm',g⟩:=hI_10
  refine hG_10 ?_
  rw [List.getElem?_map] at ez
  obtain ⟨z,e5,rfl⟩:=Option.map_eq_some_iff.mp ez
  have zl:=(oks z (cs1 z (List.mem_of_getElem? e5))).2
  refine ⟨_,rfl,_,_,rfl,rfl,(by have:(Str.ofString "work ").length=5:=(by decide);lia),_,g,?_,_,rfl,fun b u e=>by rw [qA7 (qA2 e hp4)];exact sm' b u e,?_⟩
  ·rw [List.length_map,List.length_map,List.length_take];lia
  ·rw [qA1,List.take_add_one,e5,Option.toList_some,List.map_append,List.map_append];rfl
 refine fun σ Hf hI_11=>opq fun G_11 hG_11=>?_
 obtain ⟨v,rfl,sm2,g4⟩:=hI_11
 refine hG_11 ?_
 rw [List.length_map,List.take_of_length_le (Nat.le_refl _)] at g4
 have s4:=s3.trans sm2
 refine ⟨p2,p4,_,_,rfl,rfl,s4 _ _ gz,g4,by rw [List.length_map,List.length_map,List.length_map];lia,fun l3 hl3=>?_⟩
 rw [← List.map_append]
 have ok3:∀ r ∈ zs++s40.map (Str.ofString "work " ++ ·),RowOk r:=fun r hr=>by
  rcases List.mem_append.mp hr with h | h
  ·exact okz r h
  ·obtain ⟨x,hx,rfl⟩:=List.mem_map.mp h
   exact w9_row ⟨by decide +kernel,by decide⟩ (oks x (cs1 x hx))
 have l3n:(zs++s40.map (Str.ofString "work " ++ ·)).length≤120∧1≤(zs++s40.map (Str.ofString "work " ++ ·)).length:=by rw [List.length_append,List.length_map];lia
 generalize zs++s40.map (Str.ofString "work " ++ ·)=r3 at ok3 l3n ⊢
 have s5:=(s2.trans s4).trans (qA3 hl3 (.lst (r3.map V.str)))
 have T19:=T18.keep (.of_same s5)
 have S19:=S18.same s5
 have r3a:RwAt (upd Hf l3 (.lst (r3.map V.str))) l3:=⟨r3,qA1,fun z=>by rw [z] at l3n;simp at l3n,l3n.1,ok3⟩
 have n3t:l3 ≠ lt:=(qA2 ((s2.trans s4) _ _ T18.at_) hl3).symm
 have n3d:l3 ≠ d:=(qA2 ((s2.trans s4) _ _ S18.dict) hl3).symm
 have n3c:l3 ≠ c:=(qA2 ((s2.trans s4) _ _ S18.list) hl3).symm
 generalize upd Hf l3 (.lst (r3.map V.str))=H19 at T19 S19 r3a ⊢
 refine ⟨lt,_,_,rfl,rfl,T19.at_,by simp [hs],hN9 _ _ ?_⟩
 clear hN9
 have T20:=T19.push n3d n3c n3t r3a
 have S20:=stat_put (o:=.lst (([l1]++[l2]).map V.ref++[.ref l3])) S19 ntd ntc
 generalize upd H19 lt (.lst (([l1]++[l2]).map V.ref++[.ref l3]))=H20 at T20 S20 ⊢
 clear T19 S19 r3a n3t n3d n3c s5 hl3 s4 sm2 g4 s3 h3 s2 sm1 gz s1 h1 T18 S18 g18 gs18
 refine cut fun N10 hN10=>?_
 refine ⟨_,rfl,.inl ⟨rfl,_,SqL.of T20.at_⟩,(by show 1≤sizeLine;decide),fun q1 hq1=>?_⟩
 have s1:=qA3 hq1 (.lst [.str (Str.ofString "")])
 have h1:(upd H20 q1 (.lst [.str (Str.ofString "")])) q1=_:=qA1
 have T21:=T20.keep (.of_same s1)
 have S21:=S20.same s1
 have nqd:q1 ≠ d:=(qA2 S20.dict hq1).symm
 have nqc:q1 ≠ c:=(qA2 S20.list hq1).symm
 generalize upd H20 q1 (.lst [.str (Str.ofString "")])=H21 at s1 h1 T21 S21 ⊢
 clear s1 hq1 T20 S20
 refine ⟨_,rfl,d,c,t',ms,5,rfl,S21,(by show t'≤1000000000;lia),by decide,by decide,fun u ms22 H22 u0 u5 S22 K22=>⟨_,_,rfl,rfl,q1,98+u,_,rfl,rfl,K22 _ _ h1 nqd nqc,by lia,by lia,?_,fun p2 hp2=>?_⟩⟩
 ·show 1 * (98+u).toNat≤sizeLine
  lia
 rw [rep_s]
 have T22:=T21.keep K22
 have ok2:∀ r ∈ List.replicate (98+u).toNat (Str.ofString "")++[Str.ofString "rooms 2",Str.ofString "work a"],RowOk r:=fun r hr=>by
  have z:∀ w ∈ [Str.ofString "","rooms 2","work a"],okB2 w=true:=by decide +kernel
  rcases List.mem_append.mp hr with h | h
  ·rw [(List.mem_replicate.mp h).2];exact lit_row (z _ (by simp))
  ·rcases List.mem_cons.mp h with rfl | h
   ·exact lit_row (z _ (by simp))
   ·rw [List.mem_singleton.mp h];exact lit_row (z _ (by simp))
 have l2n:(List.replicate (98+u).toNat (Str.ofString "")++[Str.ofString "rooms 2",Str.ofString "work a"]).length≤120:=by rw [List.length_append,List.length_replicate];show _+2≤120;lia
 have ne2:List.replicate (98+u).toNat (Str.ofString "")++[Str.ofString "rooms 2",Str.ofString "work a"] ≠ []:=by simp
 have e2:(List.replicate (98+u).toNat (Str.ofString "")).map V.str++[V.str (Str.ofString "rooms 2"),V.str (Str.ofString "work a")]=(List.replicate (98+u).toNat (Str.ofString "")++[Str.ofString "rooms 2",Str.ofString "work a"]).map V.str:=by rw [List.map_append];rfl
 have lr2:(List.replicate (98+u).toNat (Str.ofString "")).length≤110:=by rw [List.length_replicate];lia
 generalize List.replicate (98+u).toNat (Str.ofString "")++[Str.ofString "rooms 2",Str.ofString "work a"]=r4 at ok2 l2n e2 ne2
 generalize List.replicate (98+u).toNat (Str.ofString "")=r2 at e2 lr2 ⊢
 have s2:=qA3 hp2 (.lst (r2.map V.str))
 have h2:(upd H22 p2 (.lst (r2.map V.str))) p2=_:=qA1
 generalize upd H22 p2 (.lst (r2.map V.str))=H23 at s2 h2 ⊢
 refine ⟨(by show 2≤sizeLine;decide),fun p3 hp3=>?_⟩
 have s3:=qA3 hp3 (.lst [.str (Str.ofString "rooms 2"),.str (Str.ofString "work a")])
 refine ⟨p2,p3,_,_,rfl,rfl,s3 _ _ h2,qA1,by rw [List.length_map];show _+2≤sizeLine;lia,fun l4 hl4=>?_⟩
 rw [e2]
 generalize upd H23 p3 (.lst [.str (Str.ofString "rooms 2"),.str (Str.ofString "work a")])=H24 at s3 hl4 ⊢
 have s4:=(s2.trans s3).trans (qA3 hl4 (.lst (r4.map V.str)))
 have T25:=T22.keep (.of_same s4)
 have r4a:RwAt (upd H24 l4 (.lst (r4.map V.str))) l4:=⟨r4,qA1,ne2,l2n,ok2⟩
 have n4t:l4 ≠ lt:=(qA2 ((s2.trans s3) _ _ T22.at_) hl4).symm
 have n4d:l4 ≠ d:=(qA2 ((s2.trans s3) _ _ S22.dict) hl4).symm
 have n4c:l4 ≠ c:=(qA2 ((s2.trans s3) _ _ S22.list) hl4).symm
 generalize upd H24 l4 (.lst (r4.map V.str))=H25 at T25 r4a ⊢
 refine ⟨lt,_,_,rfl,rfl,T25.at_,by simp [hs],hN10 _ _ ?_⟩
 clear hN10
 have T26:=T25.push n4d n4c n4t r4a
 generalize upd H25 lt (.lst (([l1]++[l2]++[l3]).map V.ref++[.ref l4]))=H26 at T26 ⊢
 generalize [l1]++[l2]++[l3]++[l4]=LS at T26
 clear T25 r4a s4 hl4 s3 hp3 s2 h2 T22 S22 K22 T21 S21 h1 ok2 l2n e2 ne2 lr2
 refine cut fun N11 hN11=>?_
 refine ⟨_,rfl,lt,rfl,⟨_,SqL.of T26.at_⟩,for_list (xs:=LS.map V.ref) (fun i σ Hc=>∃ (v7 v8 v9 v10 v11:Option V),σ=[some (.ref sc),some (.ref d),some (.ref a),some (.ref ln),some (.ref lt),some (.int (38+m)),some (.ref ls),v7,v8,v9,v10,v11]∧Same H26 Hc) ⟨_,_,_,_,_,rfl,Same.refl _⟩ ?_ ?_ ?_⟩
 ·rintro i σ Hc _ ⟨v7,v8,v9,v10,v11,rfl,sm⟩
  exact SqL.of (sm _ _ T26.at_)
 ·refine fun i x' σ Hc ex hI_13=>opq fun G_13 hG_13=>?_
  obtain ⟨v7,v8,v9,v10,v11,rfl,sm⟩:=hI_13
  obtain ⟨l,el,rfl⟩:=get_ref ex
  obtain ⟨_,_,_,rows,g,ne,len,okr⟩:=T26.all l (List.mem_of_getElem? el)
  obtain ⟨x1,x2,x3⟩:=txt72 ne okr len
  refine hG_13 ?_
  refine nmD fun D1 d1 dr=>cut fun M0 hM0=>?_
  refine ⟨rfl,_,rfl,_,l,rows,rfl,rfl,SqL.of (sm _ _ g),x1,hM0 _ _ (cut fun M1 hM1=>?_)⟩
  clear hM0
  generalize Str.join (Str.ofString "\n") rows=x at x2 x3 ⊢
  refine ⟨_,rfl,x,rfl,x2,by rw [x3];exact okr,fun H1 s1=>hM1 _ _ (cut fun M2 hM2=>?_)⟩
  clear hM1
  refine ⟨_,rfl,x,rfl,x2,fun H2 s2=>⟨_,rfl,_,rfl,fun H3 s3=>⟨_,rfl,iteF (hM2 _ _ (cut fun M3 hM3=>?_))⟩⟩⟩
  clear hM2
  have sm3:=((sm.trans s1).trans s2).trans s3
  refine ⟨_,rfl,l,rfl,⟨_,SqL.of (sm3 _ _ g)⟩,fun p hp=>qCC (xs:=rows.map V.str) (fun j σ Hi=>∃ v,σ=[v]∧Same H3 Hi∧Hi p=some (.lst (((rows.take j).filter pre5).map V.str))) ⟨none,rfl,qA3 hp _,qA1⟩ ?_ ?_ ?_⟩
  ·rintro j σ Hi _ ⟨v,rfl,sm',_⟩
   exact SqL.of (sm' _ _ (sm3 _ _ g))
  ·refine fun j z' σ Hi ez hI_15=>opq fun G_15 hG_15=>?_
   obtain ⟨v,rfl,sm',gp⟩:=hI_15
   refine hG_15 ?_
   rw [List.getElem?_map] at ez
   obtain ⟨z,e5,rfl⟩:=Option.map_eq_some_iff.mp ez
   have zl:=(okr z (List.mem_of_getElem? e5)).1
   have fs:=filter_snoc (p:=pre5) e5
   refine ⟨_,rfl,_,rfl,z,5,rfl,rfl,rfl,by lia,rfl,_,rfl,?_⟩
   rw [pre5_dec]
   cases e:pre5 z with
   | false=>
    rw [e] at fs
    exact iteF ⟨_,rfl,sm',by rw [fs];simpa using gp⟩
   | true=>
    rw [e] at fs
    refine iteT ⟨_,rfl,_,gp,?_,_,rfl,fun b u e=>by rw [qA7 (qA2 e hp)];exact sm' b u e,by rw [qA1,fs,List.map_append];rfl⟩
    have:=List.length_filter_le pre5 (rows.take j)
    rw [List.length_take] at this
    rw [List.length_map]
    lia
  refine fun σ Hi hI_16=>opq fun G_16 hG_16=>?_
  obtain ⟨v,rfl,sm',gp⟩:=hI_16
  refine hG_16 ?_
  rw [List.length_map,List.take_of_length_le (Nat.le_refl _)] at gp
  refine hM3 _ _ ?_
  clear hM3
  have sm4:=sm3.trans sm'
  refine ⟨_,rfl,_,rfl,?_⟩
  cases ef:fltF 0 sh0 (Txt.split x (Str.ofString "\n")) with
  | some n=>
   rw [decide_eq_false (by intro z;cases z)]
   exact iteF (d1 _ _ ⟨_,_,_,_,_,rfl,sm4⟩)
  | none=>
   rw [decide_eq_true (show optN none=V.non from rfl)]
   refine iteT ⟨_,rfl,x,rfl,x2,fun _ p2 t1 t2 a2 c2 H5 s5 gp2 ⟨nm2,gt,ln2⟩=>⟨p2,_,_,_,rfl,rfl,SqT.of gp2,qAN (j:=1) rfl,t1,_,rfl,.inr (SqT.of gt),_,rfl,p,_,rfl,.inl (SqL.of (s5 _ _ gp)),rfl,_,rfl,?_⟩,fun n dx H' e'=>by rw [ef] at e';cases e'⟩
   rw [List.length_map,List.length_map,ln2,x3,decide_eq_true rfl]
   exact iteF (d1 _ _ ⟨_,_,_,_,_,rfl,sm4.trans s5⟩)
 ·refine fun σ Hc hI_17=>opq fun G_17 hG_17=>?_
  obtain ⟨v7,v8,v9,v10,v11,rfl,sm⟩:=hI_17
  refine hG_17 ?_
  exact hN11 _ _ (q _)
end
theorem all_mk {l:PySem.W.OpenLaw} {w:World} {K:PySem.W.Frag} {h:Heap} {mg:Str→Option Value} {fa c_ALONE c_OF_ONE c_OF_SOME c_BadRow c_Sheet c_Barred c_NoMove c_NoTree c_RoomError c_TooMany f_init_BadRow f_is_name f_rooms_in f_works_named f_asked_named f_steps_ask f_deed_of f_read_sheet f_Lbegin f_Ltake f_Lsame f_Lsome_needs f_Ltree_net f_Lnet f_Lnames f_Lmixed f_Lhead f_Lplain f_Lis_name f_Lare_asked f_Lis_deed f_Lis_work f_Lfirst_fault f_Lrefused f_Lmany_rows f_Lasks f_law f_Sheet_init f_Sheet_take_rooms f_Sheet_take_work f_Sheet_take_deed f_Sheet_take_words f_Sheet_take_row:Addr} (X:K.In h) (G:h.Ns mainGlobals mg) (hfa:mg "law" = some (.ref fa))
  {od_init_BadRow an_init_BadRow od_law an_law od_Sheet_init an_Sheet_init od_Sheet_take_rooms an_Sheet_take_rooms od_Sheet_take_work an_Sheet_take_work od_Sheet_take_deed an_Sheet_take_deed od_Sheet_take_words an_Sheet_take_words od_Sheet_take_row an_Sheet_take_row:Option Addr} {sl_init_BadRow sl_law sl_Sheet_init sl_Sheet_take_rooms sl_Sheet_take_work sl_Sheet_take_deed sl_Sheet_take_words sl_Sheet_take_row:Array (Option Value)} {oc_init_BadRow kV_init_BadRow dc_init_BadRow pm_init_BadRow cd_init_BadRow ct_init_BadRow oc_law kV_law dc_law pm_law cd_law ct_law oc_Sheet_init kV_Sheet_init dc_Sheet_init pm_Sheet_init cd_Sheet_init ct_Sheet_init oc_Sheet_take_rooms kV_Sheet_take_rooms dc_Sheet_take_rooms pm_Sheet_take_rooms cd_Sheet_take_rooms ct_Sheet_take_rooms oc_Sheet_take_work kV_Sheet_take_work dc_Sheet_take_work pm_Sheet_take_work cd_Sheet_take_work ct_Sheet_take_work oc_Sheet_take_deed kV_Sheet_take_deed dc_Sheet_take_deed pm_Sheet_take_deed cd_Sheet_take_deed ct_Sheet_take_deed oc_Sheet_take_words kV_Sheet_take_words dc_Sheet_take_words pm_Sheet_take_words cd_Sheet_take_words ct_Sheet_take_words oc_Sheet_take_row kV_Sheet_take_row dc_Sheet_take_row pm_Sheet_take_row cd_Sheet_take_row ct_Sheet_take_row:Value}
  {qa1 qa2 qa3 qa4 qa5 qb1 qb2 qb3 qb4 qb5 qc1 qc2 qc3 qc4:Nat} {qa6 qb6 qc5:Array (Option Value)}
  (a_ALONE:PySem.W.nsIn K mainGlobals "ALONE" = some (some (.ref c_ALONE)))
  (a_OF_ONE:PySem.W.nsIn K mainGlobals "OF_ONE" = some (some (.ref c_OF_ONE)))
  (a_OF_SOME:PySem.W.nsIn K mainGlobals "OF_SOME" = some (some (.ref c_OF_SOME)))
  (a_BadRow:PySem.W.nsIn K mainGlobals "BadRow" = some (some (.ref c_BadRow)))
  (a_Sheet:PySem.W.nsIn K mainGlobals "Sheet" = some (some (.ref c_Sheet)))
  (a_Barred:PySem.W.nsIn K mainGlobals "Barred" = some (some (.ref c_Barred)))
  (a_NoMove:PySem.W.nsIn K mainGlobals "NoMove" = some (some (.ref c_NoMove)))
  (a_NoTree:PySem.W.nsIn K mainGlobals "NoTree" = some (some (.ref c_NoTree)))
  (a_RoomError:PySem.W.nsIn K mainGlobals "RoomError" = some (some (.ref c_RoomError)))
  (a_TooMany:PySem.W.nsIn K mainGlobals "TooMany" = some (some (.ref c_TooMany)))
  {tk_MOST_ASKED:Tok} (a_MOST_ASKED:PySem.W.nsIn K mainGlobals "MOST_ASKED" = some (some (.int (4) tk_MOST_ASKED)))
  {tk_MOST_LETTERS:Tok} (a_MOST_LETTERS:PySem.W.nsIn K mainGlobals "MOST_LETTERS" = some (some (.int (8) tk_MOST_LETTERS)))
  {tk_MOST_ROOMS:Tok} (a_MOST_ROOMS:PySem.W.nsIn K mainGlobals "MOST_ROOMS" = some (some (.int (99) tk_MOST_ROOMS)))
  {tk_MOST_ROWS:Tok} (a_MOST_ROWS:PySem.W.nsIn K mainGlobals "MOST_ROWS" = some (some (.int (100) tk_MOST_ROWS)))
  {tk_MOST_SIGNS:Tok} (a_MOST_SIGNS:PySem.W.nsIn K mainGlobals "MOST_SIGNS" = some (some (.int (200) tk_MOST_SIGNS)))
  {tk_MOST_WORKS:Tok} (a_MOST_WORKS:PySem.W.nsIn K mainGlobals "MOST_WORKS" = some (some (.int (40) tk_MOST_WORKS)))
  (a_init_BadRow:PySem.W.findIn K (.ref c_BadRow) "__init__" = some (some (.ref f_init_BadRow)))
  (a_Sheet_init:PySem.W.findIn K (.ref c_Sheet) "__init__" = some (some (.ref f_Sheet_init))) (fn_Sheet_init:PySem.W.isFn K (.ref f_Sheet_init)=true)
  (a_Sheet_take_rooms:PySem.W.findIn K (.ref c_Sheet) "take_rooms" = some (some (.ref f_Sheet_take_rooms))) (fn_Sheet_take_rooms:PySem.W.isFn K (.ref f_Sheet_take_rooms)=true)
  (a_Sheet_take_work:PySem.W.findIn K (.ref c_Sheet) "take_work" = some (some (.ref f_Sheet_take_work))) (fn_Sheet_take_work:PySem.W.isFn K (.ref f_Sheet_take_work)=true)
  (a_Sheet_take_deed:PySem.W.findIn K (.ref c_Sheet) "take_deed" = some (some (.ref f_Sheet_take_deed))) (fn_Sheet_take_deed:PySem.W.isFn K (.ref f_Sheet_take_deed)=true)
  (a_Sheet_take_words:PySem.W.findIn K (.ref c_Sheet) "take_words" = some (some (.ref f_Sheet_take_words))) (fn_Sheet_take_words:PySem.W.isFn K (.ref f_Sheet_take_words)=true)
  (a_Sheet_take_row:PySem.W.findIn K (.ref c_Sheet) "take_row" = some (some (.ref f_Sheet_take_row))) (fn_Sheet_take_row:PySem.W.isFn K (.ref f_Sheet_take_row)=true)
  (l_init_BadRow:K.lookup f_init_BadRow=some ⟨oc_init_BadRow,od_init_BadRow,.func (PySem.W.fnOf "__init__" "BadRow.__init__" (defArgs qB0) (defBody qB0) (defScope qB0) .none kV_init_BadRow dc_init_BadRow pm_init_BadRow an_init_BadRow cd_init_BadRow ct_init_BadRow),sl_init_BadRow⟩) (c_init_BadRow:PySem.W.codeIn K cd_init_BadRow "BadRow.__init__" = true) (k_init_BadRow:PySem.W.keepIn K (.ref f_init_BadRow)=true)
  (T_is_name:Tf K "is_name" s_is_name f_is_name)
  (T_rooms_in:Tf K "rooms_in" qCP f_rooms_in)
  (T_works_named:Tf K "works_named" qBO f_works_named)
  (T_asked_named:Tf K "asked_named" qBP f_asked_named)
  (T_steps_ask:Tf K "steps_ask" qCA f_steps_ask)
  (T_deed_of:Tf K "deed_of" s_deed_of f_deed_of)
  (T_read_sheet:Tf K "read_sheet" qBU f_read_sheet)
  (T_Lbegin:Tf K "_law_begin" s_Lbegin f_Lbegin)
  (T_Ltake:Tf K "_law_take" s_Ltake f_Ltake)
  (T_Lsame:Tf K "_law_same" s_Lsame f_Lsame)
  (T_Lsome_needs:Tf K "_law_some_needs" s_Lsome_needs f_Lsome_needs)
  (T_Ltree_net:Tf K "_law_tree_net" s_Ltree_net f_Ltree_net)
  (T_Lnet:Tf K "_law_net" s_Lnet f_Lnet)
  (T_Lnames:Tf K "_law_names" s_Lnames f_Lnames)
  (T_Lmixed:Tf K "_law_mixed" s_Lmixed f_Lmixed)
  (T_Lhead:Tf K "_law_head" s_Lhead f_Lhead)
  (T_Lplain:Tf K "_law_plain" s_Lplain f_Lplain)
  (T_Lis_name:Tf K "_law_is_name" qCS f_Lis_name)
  (T_Lare_asked:Tf K "_law_are_asked" qBW f_Lare_asked)
  (T_Lis_deed:Tf K "_law_is_deed" qCT f_Lis_deed)
  (T_Lis_work:Tf K "_law_is_work" qCR f_Lis_work)
  (T_Lfirst_fault:Tf K "_law_first_fault" qBI f_Lfirst_fault)
  (T_Lrefused:Tf K "_law_refused" qCQ f_Lrefused)
  (T_Lmany_rows:Tf K "_law_many_rows" qBV f_Lmany_rows)
  (T_Lasks:Tf K "_law_asks" s_Lasks f_Lasks)
  (a_law:PySem.W.nsIn K mainGlobals "law" = some (some (.ref f_law))) (l_law:K.lookup f_law=some ⟨oc_law,od_law,.func (PySem.W.fnOf "law" "law" (defArgs s_law) (defBody s_law) (defScope s_law) .none kV_law dc_law pm_law an_law cd_law ct_law),sl_law⟩) (c_law:PySem.W.codeIn K cd_law "law" = true) (k_law:PySem.W.keepIn K (.ref f_law)=true)
  (l_Sheet_init:K.lookup f_Sheet_init=some ⟨oc_Sheet_init,od_Sheet_init,.func (PySem.W.fnOf "__init__" "Sheet.__init__" (defArgs qB5) (defBody qB5) (defScope qB5) .none kV_Sheet_init dc_Sheet_init pm_Sheet_init an_Sheet_init cd_Sheet_init ct_Sheet_init),sl_Sheet_init⟩) (c_Sheet_init:PySem.W.codeIn K cd_Sheet_init "Sheet.__init__" = true) (k_Sheet_init:PySem.W.keepIn K (.ref f_Sheet_init)=true)
  (l_Sheet_take_rooms:K.lookup f_Sheet_take_rooms=some ⟨oc_Sheet_take_rooms,od_Sheet_take_rooms,.func (PySem.W.fnOf "take_rooms" "Sheet.take_rooms" (defArgs qAL) (defBody qAL) (defScope qAL) .none kV_Sheet_take_rooms dc_Sheet_take_rooms pm_Sheet_take_rooms an_Sheet_take_rooms cd_Sheet_take_rooms ct_Sheet_take_rooms),sl_Sheet_take_rooms⟩) (c_Sheet_take_rooms:PySem.W.codeIn K cd_Sheet_take_rooms "Sheet.take_rooms" = true) (k_Sheet_take_rooms:PySem.W.keepIn K (.ref f_Sheet_take_rooms)=true)
  (l_Sheet_take_work:K.lookup f_Sheet_take_work=some ⟨oc_Sheet_take_work,od_Sheet_take_work,.func (PySem.W.fnOf "take_work" "Sheet.take_work" (defArgs qAP) (defBody qAP) (defScope qAP) .none kV_Sheet_take_work dc_Sheet_take_work pm_Sheet_take_work an_Sheet_take_work cd_Sheet_take_work ct_Sheet_take_work),sl_Sheet_take_work⟩) (c_Sheet_take_work:PySem.W.codeIn K cd_Sheet_take_work "Sheet.take_work" = true) (k_Sheet_take_work:PySem.W.keepIn K (.ref f_Sheet_take_work)=true)
  (l_Sheet_take_deed:K.lookup f_Sheet_take_deed=some ⟨oc_Sheet_take_deed,od_Sheet_take_deed,.func (PySem.W.fnOf "take_deed" "Sheet.take_deed" (defArgs qAQ) (defBody qAQ) (defScope qAQ) .none kV_Sheet_take_deed dc_Sheet_take_deed pm_Sheet_take_deed an_Sheet_take_deed cd_Sheet_take_deed ct_Sheet_take_deed),sl_Sheet_take_deed⟩) (c_Sheet_take_deed:PySem.W.codeIn K cd_Sheet_take_deed "Sheet.take_deed" = true) (k_Sheet_take_deed:PySem.W.keepIn K (.ref f_Sheet_take_deed)=true)
  (l_Sheet_take_words:K.lookup f_Sheet_take_words=some ⟨oc_Sheet_take_words,od_Sheet_take_words,.func (PySem.W.fnOf "take_words" "Sheet.take_words" (defArgs qAK) (defBody qAK) (defScope qAK) .none kV_Sheet_take_words dc_Sheet_take_words pm_Sheet_take_words an_Sheet_take_words cd_Sheet_take_words ct_Sheet_take_words),sl_Sheet_take_words⟩) (c_Sheet_take_words:PySem.W.codeIn K cd_Sheet_take_words "Sheet.take_words" = true) (k_Sheet_take_words:PySem.W.keepIn K (.ref f_Sheet_take_words)=true)
  (l_Sheet_take_row:K.lookup f_Sheet_take_row=some ⟨oc_Sheet_take_row,od_Sheet_take_row,.func (PySem.W.fnOf "take_row" "Sheet.take_row" (defArgs qAR) (defBody qAR) (defScope qAR) .none kV_Sheet_take_row dc_Sheet_take_row pm_Sheet_take_row an_Sheet_take_row cd_Sheet_take_row ct_Sheet_take_row),sl_Sheet_take_row⟩) (c_Sheet_take_row:PySem.W.codeIn K cd_Sheet_take_row "Sheet.take_row" = true) (k_Sheet_take_row:PySem.W.keepIn K (.ref f_Sheet_take_row)=true)
  (lk_ALONE:K.lookup c_ALONE=some ⟨.type "tuple",none,.seq #[.str "back" qa1,.str "stand" qa2,.str "moves" qa3,.str "count" qa4] qa5,qa6⟩)
  (lk_OF_ONE:K.lookup c_OF_ONE=some ⟨.type "tuple",none,.seq #[.str "do" qb1,.str "clear" qb2,.str "tree" qb3,.str "cut" qb4] qb5,qb6⟩)
  (lk_OF_SOME:K.lookup c_OF_SOME=some ⟨.type "tuple",none,.seq #[.str "plain" qc1,.str "few" qc2,.str "stair" qc3] qc4,qc5⟩)
  (ypg:PySem.W.plainGet K c_Sheet Str.empty=true)
  (yhd:PySem.W.hasDictIn K c_Sheet=true)
  (ypo:PySem.W.plainOver K c_Sheet=true)
  (ysa:PySem.W.findIn K (.ref c_Sheet) "__setattr__" = some (some (.builtin "object.__setattr__")))
  (ymk:PySem.W.makesIn K c_Sheet=true)
  (ykp:PySem.W.keepIn K (.ref c_Sheet)=true)
  (na_rooms:PySem.W.findIn K (.ref c_Sheet) "rooms" = some none)
  (na_numbers:PySem.W.findIn K (.ref c_Sheet) "numbers" = some none)
  (na_net:PySem.W.findIn K (.ref c_Sheet) "net" = some none)
  (na_deeds:PySem.W.findIn K (.ref c_Sheet) "deeds" = some none)
  (xc_BadRow:xcIn K c_BadRow (some (.ref f_init_BadRow))=true)
  (xs_BadRow:PySem.W.findIn K (.ref c_BadRow) "__setattr__" = some (some (.builtin "object.__setattr__")))
  (xk_BadRow:PySem.W.keepIn K (.ref c_BadRow)=true)
  (fi_BadRow:PySem.W.isFn K (.ref f_init_BadRow)=true)
  (n_row:PySem.W.findIn K (.ref c_BadRow) "row" = some none)
  (ki_others:PySem.W.kitAny K (.ref c_BadRow) [.ref c_Barred,.ref c_NoMove,.ref c_NoTree,.ref c_TooMany]=some false)
  (ki_ValueError:PySem.W.kitOne K (.ref c_BadRow) (.type "ValueError")=some true)
  (em_RoomError:PySem.W.exmOne K (.ref c_BadRow) (.ref c_RoomError)=some true)
  (yga_BadRow:PySem.W.findIn K (.ref c_BadRow) "__getattribute__" = some (some (.builtin "BaseException.__getattribute__")))
  (ygt_BadRow:PySem.W.findIn K (.ref c_BadRow) "__getattr__" = some none)
  (ybe_BadRow:PySem.W.mroIn K c_BadRow (.type "BaseException")=some true)
  (yhd_BadRow:PySem.W.hasDictIn K c_BadRow=true)
  (yca_BadRow:PySem.W.findIn K (.ref c_BadRow) "__class__" = some (some (.builtin "object.__class__")))
  (ycn_BadRow:PySem.W.specialIn K (.builtin "object.__class__") "__get__" = some (some (.builtin "getset_descriptor.__get__")))
  (yct_BadRow:PySem.W.takesIn K (.builtin "object.__class__")=some true)
  (ycm_BadRow:PySem.W.mroIn K c_BadRow (.type "object")=some true)
  (Z:Zs K ["ValueError","all","bool","divmod","enumerate","int","isinstance","len","list","max","min","range","set","sorted","str","tuple","zip"])
  : ∃ fd:FuncData,(∀ (s:Shared) (v:Value),BindsTo s fd ⟨[v],[]⟩ [("_law_script",v)])∧∀ base:Heap,K.In base→base.Ns mainGlobals mg→FnOk l.prog w K mg base CX0 10 fa fd ["_law_script"] (spLaw K):=by
 have e:=hfa.symm.trans (PySem.W.mg_of X G a_law)
 cases e
 have F_init_BadRow:=fun_mk (st:=qB0) l_init_BadRow c_init_BadRow k_init_BadRow
 have b_init_BadRow:=F_init_BadRow.binds (ps:=["self","row"]) fun _ _ _ _ _ _ us hl=>us2 us hl (fun _ _=>rfl)
 obtain ⟨fd_read_sheet,F_read_sheet,m_read_sheet⟩:=T_read_sheet.use X G
 have b_read_sheet:=F_read_sheet.binds (ps:=["text"]) fun _ _ _ _ _ _ us hl=>us1 us hl (fun _=>rfl)
 have k_read_sheet:=F_read_sheet.kp
 have F_law:=fun_mk (st:=s_law) l_law c_law k_law
 have F_Sheet_init:=fun_mk (st:=qB5) l_Sheet_init c_Sheet_init k_Sheet_init
 have b_Sheet_init:=F_Sheet_init.binds (ps:=["self"]) fun _ _ _ _ _ _ us hl=>us1 us hl (fun _=>rfl)
 have me_Sheet_init:Meth K c_Sheet "__init__" f_Sheet_init:=⟨a_Sheet_init,fn_Sheet_init,k_Sheet_init⟩
 have F_Sheet_take_rooms:=fun_mk (st:=qAL) l_Sheet_take_rooms c_Sheet_take_rooms k_Sheet_take_rooms
 have b_Sheet_take_rooms:=F_Sheet_take_rooms.binds (ps:=["self","words"]) fun _ _ _ _ _ _ us hl=>us2 us hl (fun _ _=>rfl)
 have me_Sheet_take_rooms:Meth K c_Sheet "take_rooms" f_Sheet_take_rooms:=⟨a_Sheet_take_rooms,fn_Sheet_take_rooms,k_Sheet_take_rooms⟩
 have F_Sheet_take_work:=fun_mk (st:=qAP) l_Sheet_take_work c_Sheet_take_work k_Sheet_take_work
 have b_Sheet_take_work:=F_Sheet_take_work.binds (ps:=["self","words"]) fun _ _ _ _ _ _ us hl=>us2 us hl (fun _ _=>rfl)
 have me_Sheet_take_work:Meth K c_Sheet "take_work" f_Sheet_take_work:=⟨a_Sheet_take_work,fn_Sheet_take_work,k_Sheet_take_work⟩
 have F_Sheet_take_deed:=fun_mk (st:=qAQ) l_Sheet_take_deed c_Sheet_take_deed k_Sheet_take_deed
 have b_Sheet_take_deed:=F_Sheet_take_deed.binds (ps:=["self","words"]) fun _ _ _ _ _ _ us hl=>us2 us hl (fun _ _=>rfl)
 have me_Sheet_take_deed:Meth K c_Sheet "take_deed" f_Sheet_take_deed:=⟨a_Sheet_take_deed,fn_Sheet_take_deed,k_Sheet_take_deed⟩
 have F_Sheet_take_words:=fun_mk (st:=qAK) l_Sheet_take_words c_Sheet_take_words k_Sheet_take_words
 have b_Sheet_take_words:=F_Sheet_take_words.binds (ps:=["self","words"]) fun _ _ _ _ _ _ us hl=>us2 us hl (fun _ _=>rfl)
 have me_Sheet_take_words:Meth K c_Sheet "take_words" f_Sheet_take_words:=⟨a_Sheet_take_words,fn_Sheet_take_words,k_Sheet_take_words⟩
 have F_Sheet_take_row:=fun_mk (st:=qAR) l_Sheet_take_row c_Sheet_take_row k_Sheet_take_row
 have b_Sheet_take_row:=F_Sheet_take_row.binds (ps:=["self","row"]) fun _ _ _ _ _ _ us hl=>us2 us hl (fun _ _=>rfl)
 have me_Sheet_take_row:Meth K c_Sheet "take_row" f_Sheet_take_row:=⟨a_Sheet_take_row,fn_Sheet_take_row,k_Sheet_take_row⟩
 have m_ALONE:=PySem.W.mg_of X G a_ALONE
 have m_OF_ONE:=PySem.W.mg_of X G a_OF_ONE
 have m_OF_SOME:=PySem.W.mg_of X G a_OF_SOME
 have m_BadRow:=PySem.W.mg_of X G a_BadRow
 have m_Sheet:=PySem.W.mg_of X G a_Sheet
 have m_Barred:=PySem.W.mg_of X G a_Barred
 have m_NoMove:=PySem.W.mg_of X G a_NoMove
 have m_NoTree:=PySem.W.mg_of X G a_NoTree
 have m_RoomError:=PySem.W.mg_of X G a_RoomError
 have m_TooMany:=PySem.W.mg_of X G a_TooMany
 have m_MOST_ASKED:=PySem.W.mg_of X G a_MOST_ASKED
 have m_MOST_LETTERS:=PySem.W.mg_of X G a_MOST_LETTERS
 have m_MOST_ROOMS:=PySem.W.mg_of X G a_MOST_ROOMS
 have m_MOST_ROWS:=PySem.W.mg_of X G a_MOST_ROWS
 have m_MOST_SIGNS:=PySem.W.mg_of X G a_MOST_SIGNS
 have m_MOST_WORKS:=PySem.W.mg_of X G a_MOST_WORKS
 have tp_ALONE:∀ H,SqT K H c_ALONE [.str "back",.str "stand",.str "moves",.str "count"]:=fun H=>.inr ⟨_,_,_,lk_ALONE,rfl,rfl,(by show 4≤sizeLine;decide),.cons ⟨_,rfl⟩ (.cons ⟨_,rfl⟩ (.cons ⟨_,rfl⟩ (.cons ⟨_,rfl⟩ (.nil))))⟩
 have tp_OF_ONE:∀ H,SqT K H c_OF_ONE [.str "do",.str "clear",.str "tree",.str "cut"]:=fun H=>.inr ⟨_,_,_,lk_OF_ONE,rfl,rfl,(by show 4≤sizeLine;decide),.cons ⟨_,rfl⟩ (.cons ⟨_,rfl⟩ (.cons ⟨_,rfl⟩ (.cons ⟨_,rfl⟩ (.nil))))⟩
 have tp_OF_SOME:∀ H,SqT K H c_OF_SOME [.str "plain",.str "few",.str "stair"]:=fun H=>.inr ⟨_,_,_,lk_OF_SOME,rfl,rfl,(by show 3≤sizeLine;decide),.cons ⟨_,rfl⟩ (.cons ⟨_,rfl⟩ (.cons ⟨_,rfl⟩ (.nil)))⟩
 have cl_Sheet:Cls K c_Sheet:=⟨ypg,yhd,ypo,ysa⟩
 have mk_Sheet:Mk K c_Sheet f_Sheet_init:=⟨ymk,a_Sheet_init,fn_Sheet_init,ykp⟩
 have ns_Sheet:SNa K c_Sheet:=⟨na_rooms,na_numbers,na_net,na_deeds⟩
 have x_BadRow:XCls K c_BadRow (some (.ref f_init_BadRow)):=⟨xc_BadRow,xs_BadRow,xk_BadRow⟩
 have y_BadRow:XTy K c_BadRow:=⟨⟨yga_BadRow,ygt_BadRow,ybe_BadRow,yhd_BadRow⟩,yca_BadRow,ycn_BadRow,yct_BadRow,ycm_BadRow⟩
 obtain ⟨zz_ValueError,zz_all,zz_bool,zz_divmod,zz_enumerate,zz_int,zz_isinstance,zz_len,zz_list,zz_max,zz_min,zz_range,zz_set,zz_sorted,zz_str,zz_tuple,zz_zip,_⟩:=Z.mg X G
 refine ⟨PySem.W.fnOf "law" "law" (defArgs s_law) (defBody s_law) (defScope s_law) .none kV_law dc_law pm_law an_law cd_law ct_law,fun s v=>.of_eq rfl,fun base _ _=>?_⟩
 have B:Bs l.prog w base:=⟨rfl,rfl,rfl⟩
 have G_init_BadRow:=ok_init_BadRow (P:=l.prog) (w:=w) (mg:=mg) (base:=base) (F:=F_init_BadRow) (x_BadRow:=x_BadRow) (n_row:=n_row)
 obtain ⟨_,C_is_name⟩:=T_is_name.c X G B fun _ F=>by apply ok_is_name <;> assumption
 obtain ⟨_,C_rooms_in⟩:=T_rooms_in.c X G B fun _ F=>by apply ok_rooms_in <;> assumption
 obtain ⟨_,C_works_named⟩:=T_works_named.c X G B fun _ F=>by apply ok_works_named <;> assumption
 obtain ⟨_,C_asked_named⟩:=T_asked_named.c X G B fun _ F=>by apply ok_asked_named <;> assumption
 obtain ⟨_,C_steps_ask⟩:=T_steps_ask.c X G B fun _ F=>by apply ok_steps_ask <;> assumption
 obtain ⟨_,C_deed_of⟩:=T_deed_of.c X G B fun _ F=>by apply ok_deed_of <;> assumption
 obtain ⟨_,C_Lbegin⟩:=T_Lbegin.c X G B fun _ F=>by apply ok_Lbegin <;> assumption
 obtain ⟨_,C_Ltake⟩:=T_Ltake.c X G B fun _ F=>by apply ok_Ltake <;> assumption
 obtain ⟨_,C_Lsame⟩:=T_Lsame.c X G B fun _ F=>by apply ok_Lsame <;> assumption
 obtain ⟨_,C_Lsome_needs⟩:=T_Lsome_needs.c X G B fun _ F=>by apply ok_Lsome_needs <;> assumption
 obtain ⟨_,C_Ltree_net⟩:=T_Ltree_net.c X G B fun _ F=>by apply ok_Ltree_net <;> assumption
 obtain ⟨_,C_Lnet⟩:=T_Lnet.c X G B fun _ F=>by apply ok_Lnet <;> assumption
 obtain ⟨_,C_Lnames⟩:=T_Lnames.c X G B fun _ F=>by apply ok_Lnames <;> assumption
 obtain ⟨_,C_Lmixed⟩:=T_Lmixed.c X G B fun _ F=>by apply ok_Lmixed <;> assumption
 obtain ⟨_,C_Lhead⟩:=T_Lhead.c X G B fun _ F=>by apply ok_Lhead <;> assumption
 obtain ⟨_,C_Lplain⟩:=T_Lplain.c X G B fun _ F=>by apply ok_Lplain <;> assumption
 obtain ⟨_,C_Lis_name⟩:=T_Lis_name.c X G B fun _ F=>by apply ok_Lis_name <;> assumption
 obtain ⟨_,C_Lare_asked⟩:=T_Lare_asked.c X G B fun _ F=>by apply ok_Lare_asked <;> assumption
 obtain ⟨_,C_Lis_deed⟩:=T_Lis_deed.c X G B fun _ F=>by apply ok_Lis_deed <;> assumption
 obtain ⟨_,C_Lis_work⟩:=T_Lis_work.c X G B fun _ F=>by apply ok_Lis_work <;> assumption
 obtain ⟨_,C_Lfirst_fault⟩:=T_Lfirst_fault.c X G B fun _ F=>by apply ok_Lfirst_fault <;> assumption
 obtain ⟨_,C_Lmany_rows⟩:=T_Lmany_rows.c X G B fun _ F=>by apply ok_Lmany_rows <;> assumption
 obtain ⟨_,C_Lasks⟩:=T_Lasks.c X G B fun _ F=>by apply ok_Lasks <;> assumption
 have G_Sheet_init:=ok_Sheet_init (P:=l.prog) (w:=w) (mg:=mg) (base:=base) (F:=F_Sheet_init) (cl_Sheet:=cl_Sheet) (ns_Sheet:=ns_Sheet)
 have G_Sheet_take_rooms:=ok_Sheet_take_rooms (P:=l.prog) (w:=w) (mg:=mg) (base:=base) (F:=F_Sheet_take_rooms) (C_rooms_in:=C_rooms_in) (z_len:=zz_len) (cl_Sheet:=cl_Sheet) (ns_Sheet:=ns_Sheet)
 have G_Sheet_take_work:=ok_Sheet_take_work (P:=l.prog) (w:=w) (mg:=mg) (base:=base) (F:=F_Sheet_take_work) (C_is_name:=C_is_name) (C_works_named:=C_works_named) (z_len:=zz_len) (cl_Sheet:=cl_Sheet) (ns_Sheet:=ns_Sheet) (m_MOST_WORKS:=m_MOST_WORKS)
 have G_Sheet_take_deed:=ok_Sheet_take_deed (P:=l.prog) (w:=w) (mg:=mg) (base:=base) (F:=F_Sheet_take_deed) (C_deed_of:=C_deed_of) (cl_Sheet:=cl_Sheet) (ns_Sheet:=ns_Sheet)
 have G_Sheet_take_words:=ok_Sheet_take_words (P:=l.prog) (w:=w) (mg:=mg) (base:=base) (F:=F_Sheet_take_words) (G_Sheet_take_rooms:=G_Sheet_take_rooms) (b_Sheet_take_rooms:=b_Sheet_take_rooms) (me_Sheet_take_rooms:=me_Sheet_take_rooms) (G_Sheet_take_work:=G_Sheet_take_work) (b_Sheet_take_work:=b_Sheet_take_work) (me_Sheet_take_work:=me_Sheet_take_work) (G_Sheet_take_deed:=G_Sheet_take_deed) (b_Sheet_take_deed:=b_Sheet_take_deed) (me_Sheet_take_deed:=me_Sheet_take_deed) (cl_Sheet:=cl_Sheet) (ns_Sheet:=ns_Sheet)
 have G_Sheet_take_row:=ok_Sheet_take_row (P:=l.prog) (w:=w) (mg:=mg) (base:=base) (F:=F_Sheet_take_row) (G_Sheet_take_words:=G_Sheet_take_words) (b_Sheet_take_words:=b_Sheet_take_words) (me_Sheet_take_words:=me_Sheet_take_words) (z_all:=zz_all) (z_len:=zz_len) (cl_Sheet:=cl_Sheet) (ns_Sheet:=ns_Sheet) (m_MOST_SIGNS:=m_MOST_SIGNS)
 have G_read_sheet:=ok_read_sheet (P:=l.prog) (w:=w) (mg:=mg) (base:=base) (F:=F_read_sheet) (G_Sheet_init:=G_Sheet_init) (b_Sheet_init:=b_Sheet_init) (G_Sheet_take_row:=G_Sheet_take_row) (b_Sheet_take_row:=b_Sheet_take_row) (me_Sheet_take_row:=me_Sheet_take_row) (z_enumerate:=zz_enumerate) (z_len:=zz_len) (z_tuple:=zz_tuple) (G_init_BadRow:=G_init_BadRow) (b_init_BadRow:=b_init_BadRow) (cl_Sheet:=cl_Sheet) (ns_Sheet:=ns_Sheet) (mk_Sheet:=mk_Sheet) (m_Sheet:=m_Sheet) (m_MOST_ROWS:=m_MOST_ROWS) (x_BadRow:=x_BadRow) (fi_BadRow:=fi_BadRow) (m_BadRow:=m_BadRow)
 obtain ⟨_,C_Lrefused⟩:=T_Lrefused.c X G B fun _ F=>by apply ok_Lrefused <;> assumption
 exact ok_law (P:=l.prog) (w:=w) (mg:=mg) (base:=base) (F:=F_law) (C_Lbegin:=C_Lbegin) (C_Lnet:=C_Lnet) (C_Ltake:=C_Ltake) (C_Lnames:=C_Lnames) (C_Lmany_rows:=C_Lmany_rows) (C_Lhead:=C_Lhead) (C_Lasks:=C_Lasks) (C_Lmixed:=C_Lmixed) (C_Lfirst_fault:=C_Lfirst_fault) (C_Lsame:=C_Lsame) (C_Lrefused:=C_Lrefused) (G_read_sheet:=G_read_sheet) (b_read_sheet:=b_read_sheet) (k_read_sheet:=F_read_sheet.kp) (m_read_sheet:=m_read_sheet) (z_len:=zz_len) (z_range:=zz_range)
theorem walk {l:PySem.W.OpenLaw} {q:Program} {loose:List Str} {XP:(Str→Option Value)→Heap→Prop} {YP:World→Heap→Prop} {d:DefRec} {K:Params→PySem.W.Frag} (hn:l.most=some 63) (hdf:d.params.defaults=[])
  (hY:∀ (w:World) (h:Heap),YP w h→(K w.params).In h)
  (F:∀ (w:World) (mg:Str→Option Value) (fa:Addr) (h:Heap),(K w.params).In h→h.Ns mainGlobals mg→mg d.name=some (.ref fa)→
   ∃ fd:FuncData,(∀ (s:Shared) (u:Value),BindsTo s fd ⟨[u],[]⟩ [("_law_script",u)])∧∀ base:Heap,(K w.params).In base→base.Ns mainGlobals mg→FnOk l.prog w (K w.params) mg base CX0 10 fa fd ["_law_script"] (spLaw (K w.params))) :
  PySem.W.WalkO q loose XP YP l.row.toRowW d [] (fun f vs=>PySem.call f vs):=
 L2.walk_of (n:=63) (k:=10) (x:="_law_script") (CX:=fun _=>CX0) (sp:=fun w=>spLaw (K w.params)) hn (by decide) hdf ⟨rfl,by decide,by decide,rfl⟩ hY F (fun _ _ a ns hl _ hS=>⟨a,ns,rfl,hS,hl,fun _=>rfl⟩) fun _ _ _ _ _ z=>z
end Fw
open PySem PySem.W PyProof.Rows
set_option maxRecDepth 100000 in
set_option maxHeartbeats 0 in
theorem PySem.Challenge.cw_fewrooms_k72_sheets_at_their_bounds_holds : PySem.Challenge.rw_fewrooms_k72_sheets_at_their_bounds.Holds := by
 w_on;refine holds_law Fw.hpSaid fun said=>?_
 refine holds_open (q:=Fw.hpQ) (Xt:=Fw.hpX) (XP:=XL Fw.hpQ []) (YP:=(kHook Fw.hpK Fw.hpA Fw.hpE).says)
  Fw.hpLeft (kHook Fw.hpK Fw.hpA Fw.hpE).of (kHook Fw.hpK Fw.hpA Fw.hpE).keeps (fun s e=>xl_of s (Bool.and_eq_true_iff.mp e).1) XL.keeps
  (by rfl) (by rfl) (by rfl) (fun s e=>recFacts_of (Bool.and_eq_true_iff.mp e).2) (by rfl)
  (by first | assumption | decide +kernel) (by decide +kernel) ⟨rfl,rfl,rfl,rfl,rfl,by decide +kernel⟩ ?hw ?hc
 case hw=>w_witness2
 k_fill
 refine Fw.walk (l:=PySem.Challenge.rw_fewrooms_k72_sheets_at_their_bounds) rfl rfl (fun w h Y=>PySem.W.kIn_of Y) ?F
 case F=>
  intro w mg fa h KX G hmg
  refine' Fw.all_mk KX G hmg ?a_ALONE ?a_OF_ONE ?a_OF_SOME ?a_BadRow ?a_Sheet ?a_Barred ?a_NoMove ?a_NoTree ?a_RoomError ?a_TooMany ?_ ?_ ?_ ?_ ?_ ?_ ?a_init_BadRow ?_ ?_ ?_ ?_ ?_ ?_ ?_ ?_ ?_ ?_ ?_ ?_ ?_ ?_ ?_ ?_ ?_ ?_ ?_ ?_ ?_ ?_ ?_ ?_ ?_ ?_ ?_ ?_ ?_ ?_ ?_ ?_ ?_ ?_ ?_ ?_ ?_ ?_ ?_ ?_ ?_ ?_ ?_ ?_ ?_ ?_ ?_ ?_ ?_ ?_ ?_ ?_ ?_ ?_ ?_ ?_ ?_ ?_ ?_ ?_ ?_ ?_ ?lk_ALONE ?lk_OF_ONE ?lk_OF_SOME ?ypg ?yhd ?ypo ?ysa ?ymk ?ykp ?na_rooms ?na_numbers ?na_net ?na_deeds ?xc_BadRow ?xs_BadRow ?xk_BadRow ?fi_BadRow ?n_row ?ki_others ?ki_ValueError ?em_RoomError ?yga_BadRow ?ygt_BadRow ?ybe_BadRow ?yhd_BadRow ?yca_BadRow ?ycn_BadRow ?yct_BadRow ?ycm_BadRow ?_
  (case a_ALONE=>k_is)
  (case a_OF_ONE=>k_is)
  (case a_OF_SOME=>k_is)
  (case a_BadRow=>k_is)
  (case a_Sheet=>k_is)
  (case a_Barred=>k_is)
  (case a_NoMove=>k_is)
  (case a_NoTree=>k_is)
  (case a_RoomError=>k_is)
  (case a_TooMany=>k_is)
  (case a_init_BadRow=>k_is)
  (case lk_ALONE=>k_is)
  (case lk_OF_ONE=>k_is)
  (case lk_OF_SOME=>k_is)
  (case ypg=>k_is)
  (case yhd=>k_is)
  (case ypo=>k_is)
  (case ysa=>k_is)
  (case ymk=>k_is)
  (case ykp=>k_is)
  (case na_rooms=>k_is)
  (case na_numbers=>k_is)
  (case na_net=>k_is)
  (case na_deeds=>k_is)
  (case xc_BadRow=>kernel_rfl)
  (case xs_BadRow=>k_is)
  (case xk_BadRow=>k_is)
  (case fi_BadRow=>k_is)
  (case n_row=>k_is)
  (case ki_others=>kernel_rfl)
  (case ki_ValueError=>kernel_rfl)
  (case em_RoomError=>kernel_rfl)
  (case yga_BadRow=>k_is)
  (case ygt_BadRow=>k_is)
  (case ybe_BadRow=>k_is)
  (case yhd_BadRow=>k_is)
  (case yca_BadRow=>k_is)
  (case ycn_BadRow=>k_is)
  (case yct_BadRow=>k_is)
  (case ycm_BadRow=>k_is)
  any_goals first | exact ⟨by k_is,_,L2.fun_mk (by k_is) (by k_is) (by k_is)⟩ | k_is | kernel_rfl
  any_goals (repeat (refine ⟨by k_is,?_⟩))
  any_goals exact trivial

