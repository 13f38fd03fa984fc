import PyProof.Rows.All
import Wide.All
import OpenK.AllK
import Wide.FinOn
import Lean
import PyProof.EqAt
import PyProof.EqKinds
import PyProof.TupleCall
import PyProof.CompMap
import PyProof.ZipIter
import PyProof.ListNew
import PyProof.NeKinds
import PyProof.AutoListH
import PyProof.EnumMake
import PyProof.SetRoads
import PyProof.SetNew
import KE.KDictSum
import PyProof.Rows.SortStr
import PyProof.Rows.SortWalk
import PyProof.SumAny
import PyProof.CallStr
import KE.KRevSl
import KE.KNest
import KE.KNestM
import KE.KRevIter
import PyProof.DictItems
import PyProof.CollectStr
import PyProof.CollectIter
import KE.KIntText
import PyProof.StrLawsIn
import PySem.Challenge.RW_tacticwright_k89_deep_texts
set_option Elab.async false
set_option linter.all false
set_option maxRecDepth 100000
set_option maxHeartbeats 4000000
noncomputable section
abbrev Y10:=@PySem.wpAny_bind
abbrev Z10:=@List.getElem?_eq_some_iff
abbrev V10:=@PySem.Heap.get?_push_of_some
abbrev W10:=@PySem.wpAny_pure
abbrev U10:=@List.append_assoc
abbrev Y11:=@List.size_toArray
abbrev Z11:=@Bool.and_eq_true
abbrev V11:=@PySem.Heap.get?_push_size
abbrev W11:=@PySem.Heap.lt_size
abbrev U11:=@List.mem_append_right
abbrev Y12:=@Nat.le_refl
abbrev Z12:=@Option.map_eq_some_iff
abbrev V12:=@List.append_nil
abbrev W12:=@List.mem_cons
abbrev U12:=@Nat.lt_of_lt_of_le
abbrev Y13:=@List.length_append
abbrev Z13:=@List.getElem?_map
abbrev V13:=@Nat.ne_of_lt
abbrev W13:=@List.getElem?_append_right
abbrev U13:=@List.mem_cons_of_mem
abbrev Y14:=@PySem.sizeLine_eq
abbrev Z14:=@List.length_cons
abbrev V14:=@Bool.false_ne_true
abbrev W14:=@PySem.wpAny_newObj_type
abbrev U14:=@Option.some.inj
abbrev Y15:=@List.getElem?_append_left
abbrev Z15:=@PyProof.Rows.slot_tuple_getitem
abbrev V15:=@List.map_cons
abbrev W15:=@List.mem_singleton
abbrev U15:=@PySem.wpAny_callSpecial?_slot
abbrev Y16:=@PyProof.Rows.callWith_type1
abbrev Z16:=@PySem.wpAny_holding
abbrev V16:=@PySem.wpAny_field
abbrev W16:=@PySem.wpAny_call_entry
abbrev U16:=@List.length_map
abbrev Y17:=@PySem.Heap.size_push
abbrev Z17:=@Nat.le_trans
abbrev V17:=@Nat.lt_irrefl
abbrev W17:=@decide_eq_false
abbrev U17:=@List.getElem?_eq_getElem
abbrev Y18:=@PySem.W.Fast.te14364793385576792824
abbrev Z18:=@PySem.mem_of_lookup
abbrev V18:=@List.not_mem_nil
abbrev W18:=@decide_eq_true_eq
abbrev U18:=@List.replicate_succ
abbrev Y19:=@List.length_drop
abbrev Z19:=@Prod.mk.injEq
abbrev V19:=@List.getD_eq_getElem?_getD
abbrev W19:=@PySem.wpAny_Call_Name_kw
abbrev U19:=@PySem.W.kia_one
abbrev Y20:=@List.all_cons
abbrev Z20:=@Bool.not_eq_true'
abbrev V20:=@List.getElem?_replicate
abbrev W20:=@Nat.ne_of_gt
abbrev U20:=@List.all_eq_true
abbrev Y21:=@PySem.Heap.get?_update_other
abbrev Z21:=@Nat.lt_succ_of_lt
abbrev V21:=@List.getElem?_set
abbrev W21:=@PySem.wpAny_seqItems
abbrev U21:=@List.nil_append
abbrev Y22:=@List.getElem?_reverse
abbrev Z22:=@PySem.wpAny_setField_rec
abbrev V22:=@List.mem_append_left
abbrev W22:=@PySem.wpAny_mono
abbrev U22:=@List.filterMap_cons
abbrev Y23:=@Array.length_toList
abbrev Z23:=@Nat.zero_le
abbrev V23:=@List.length_reverse
abbrev W23:=@PySem.F.slot_tuple_iterator_next
abbrev U23:=@List.length_take
abbrev Y24:=@PySem.wpAny_pyIter_tuple
abbrev Z24:=@List.length_replicate
abbrev V24:=@decide_eq_true
abbrev W24:=@List.mem_of_getElem?
abbrev U24:=@PySem.wpAny_truthy_bool
abbrev Y25:=@PySem.wpAny_passesOwn
abbrev Z25:=@List.flatten_cons
abbrev V25:=@PySem.WalksT.enumerateD
abbrev W25:=@PySem.wpAny_pyIter_enum
abbrev U25:=@PySem.wpAny_typeOf
abbrev Y26:=@PySem.wpAny_getItem_str_slice
abbrev Z26:=@PySem.Heap.SameBut.update
abbrev V26:=@Nat.add_sub_cancel_left
abbrev W26:=@PySem.F.plain_extend_loop
abbrev U26:=@Option.bind_eq_some_iff
abbrev Y27:=@List.eq_nil_of_length_eq_zero
abbrev Z27:=@Bool.false_eq_true
abbrev V27:=@List.mem_append
abbrev W27:=@List.nodup_cons
abbrev U27:=@List.length_set
abbrev Y28:=@Array.getElem?_toList
abbrev Z28:=@PySem.wpAny_updateSeq
abbrev V28:=@List.range_succ
abbrev W28:=@PySem.wpAny_specialOf
abbrev U28:=@List.find?_cons
abbrev Y29:=@PySem.builtinLookup_eq_fast
abbrev Z29:=@PySem.F.called_set
abbrev V29:=@Int.toNat_natCast
abbrev W29:=@Option.some.injEq
abbrev U29:=@PySem.Around.under_plainId
abbrev Y30:=@PySem.wpAny_pyIter_revIter
abbrev Z30:=@List.drop_eq_getElem_cons
abbrev V30:=@Nat.lt_succ_self
abbrev W30:=@PySem.wpAny_isInstance
abbrev U30:=@PySem.wpAny_askSetting
abbrev Y31:=@beq_self_eq_true
abbrev Z31:=@List.lookup_cons
abbrev V31:=@beq_eq_false_iff_ne
abbrev W31:=@PySem.F.args_tuple_add_2
abbrev U31:=@PySem.call_meets
abbrev Y32:=@PySem.AutoSeq1.sub_tuple_tuple
abbrev Z32:=@PySem.wpAny_standAt
abbrev V32:=@PySem.F.entry_tuple_add
abbrev W32:=@PySem.AutoSeq1.sub_tuple_list
abbrev U32:=@PySem.AutoSeq1.sub_list_tuple
abbrev Y33:=@PySem.Obj.data_mapFields
abbrev Z33:=@PySem.F.slot_zip_next
abbrev V33:=@List.forIn_cons
abbrev W33:=@PySem.plainId_quiet
abbrev U33:=@PySem.codeAny_builtin
abbrev Y34:=@List.cons.injEq
abbrev Z34:=@List.length_eq_zero_iff
abbrev V34:=@PySem.F.plainAttrs_list
abbrev W34:=@Int.emod_lt_of_pos
abbrev U34:=@PySem.F.slot_tuple_add
abbrev Y35:=@List.take_of_length_le
abbrev Z35:=@PySem.wpAny_rule
abbrev V35:=@PySem.wpAny_sequenceKey
abbrev W35:=@PySem.codeAny_mono
abbrev U35:=@List.filterMap_append
abbrev Y36:=@List.mem_map
abbrev Z36:=@Nat.le_of_ble_eq_true
abbrev V36:=@List.range'_succ
abbrev W36:=@List.getElem?_of_mem
abbrev U36:=@List.range_eq_range'
abbrev Y37:=@PySem.evalPart_none
abbrev Z37:=@Nat.le_succ
abbrev V37:=@PySem.wpAny_of_eq
abbrev W37:=@List.length_nil
abbrev U37:=@Int.emod_nonneg
abbrev Y38:=@beq_iff_eq
abbrev Fg9:=PySem.W.Frag
section
namespace L2
open PySem PySem.Spec PyProof.Rows
abbrev Key:=Sum Int Str
noncomputable def keyH(w:World):Key→Int
 | .inl k=>hashInt k
 | .inr x=>hashStr w x
end L2
namespace L2
open PySem PySem.Spec PyProof.Rows
noncomputable def defArgs(s:Stmt):Arguments:=match s with
 | .FunctionDef _ a _ _ _ _ _ _ _ _=>a
 |_=>{ posonlyargs:=[],args:=[],vararg:=none,kwonlyargs:=[],kw_defaults:=[],kwarg:=none,defaults:=[] }
noncomputable def defBody(s:Stmt):List Stmt:=match s with
 | .FunctionDef _ _ b _ _ _ _ _ _ _=>b
 |_=>[]
noncomputable def defScope(s:Stmt):Scope:=match s with
 | .FunctionDef _ _ _ _ _ _ sc _ _ _=>sc
 |_=>{ kind:=.function,names:=[],isGenerator:=false,isCoroutine:=false }
inductive D where
 |no
 |b (x:Bool)
 |i (n:Int)
 |s (x:Str)
 |t (xs:List D)
 |k (xs:List D)
 |f (xs:List D)
 |r (l:Nat)
 |ty (n:String)
 |fn (x:Str)
 |dc (kvs:List (Key×D))
structure KW where
 K:Fg9
 P:Program
 w:World
instance:Coe KW Fg9:=⟨KW.K⟩
end L2
end
section
namespace L2
open PySem PySem.W PyProof.Rows
abbrev FnX:=Option (Str×Str×Arguments×FuncBody×Scope×Addr×List (Str×Addr)×Value×Addr×Bool×Bool)
noncomputable def fnAt(K:Frag)(x:Str):FnX:=match nsIn K mainGlobals x with
 |some (some (.ref f))=>(match K.lookup f with
  |some ⟨_,_, .func fd,_⟩=>some (fd.name,fd.qualname,fd.params,fd.body,fd.scope,fd.globals,fd.closure,fd.defaults,fd.builtins,codeIn K fd.code fd.qualname,keepIn K (.ref f))
  |_=>none)
 |_=>none
noncomputable def fnWant(x:Str)(st:Stmt):FnX:=some (x,x,defArgs st, .stmts (defBody st),defScope st,mainGlobals,[], .none,builtinsNs,true,true)
noncomputable def cvs(f:Value→Option D):List Value→Option (List D)
 |[]=>some []
 |v::r=>match f v,cvs f r with
  |some d,some ds=>some (d::ds)
  |_,_=>none
noncomputable def cv(K:Frag):Nat→Value→Option D
 |_, .none=>some .no
 |_, .bool b=>some (.b b)
 |_, .int i _=>some (.i i)
 |_, .str s _=>some (.s s)
 |n+1, .ref a=>(match K.lookup a with
  |some ⟨.type "tuple",none, .seq us _,_⟩=>(match Nat.ble us.size 100,cvs (cv K n) us.toList with
   |true,some ds=>some (.k ds)
   |_,_=>none)
  |some ⟨_,_, .func fd,_⟩=>(match nsIn K mainGlobals fd.name with
   |some (some (.ref f))=>if f=a then some (.fn fd.name) else none
   |_=>none)
  |_=>none)
 |_,_=>none
noncomputable def cdE(K:Frag):List DictEntry→Option (List (Key×D))
 |[]=>some []
 |⟨_, .str s _,v⟩::r=>(match cv K 4 v,cdE K r with
  |some d,some l=>some ((.inr s,d)::l)
  |_,_=>none)
 |_=>none
noncomputable def nodupK:List Key→Bool
 |[]=>true
 |k::r=>(r.all fun y=>!decide (y=k))&&nodupK r
noncomputable def cd(K:Frag)(v:Value):Option D:=match v with
 | .ref a=>(match K.lookup a with
  |some ⟨.type "dict",none, .dict es _,⟨[]⟩⟩=>(match Nat.ble es.size 100&&!(a==sysModules),cdE K es.toList with
   |true,some l=>(match nodupK (l.map (·.1)) with
    |true=>some (.dc l)
    |false=>none)
   |_,_=>none)
  |_=>cv K 4 (.ref a))
 |v=>cv K 4 v
noncomputable def chs(K:Frag)(v:Value):List Int:=match v with
 | .ref a=>(match K.lookup a with
  |some ⟨_,_, .dict es _,_⟩=>es.toList.map (·.hash)
  |_=>[])
 |_=>[]
noncomputable def dkeys:D→List Key
 | .dc l=>l.map (·.1)
 |_=>[]
noncomputable def cAt(K:Frag)(x:Str):Option (Option D×List Int):=match nsIn K mainGlobals x with
 |some (some v)=>some (cd K v,chs K v)
 |_=>none
noncomputable def cWant(w:World)(d:D):Option (Option D×List Int):=some (some d,(dkeys d).map (keyH w))
noncomputable def clsAt(K:Frag)(C:Addr)(fs:List Str):Bool×Bool×Bool×Option (Option Value)×List (Option (Option Value)):=(plainGet K C Str.empty,hasDictIn K C,plainOver K C,findIn K (.ref C) "__setattr__",fs.map fun f=>findIn K (.ref C) f)
noncomputable def clsWant(fs:List Str):Bool×Bool×Bool×Option (Option Value)×List (Option (Option Value)):=(true,true,true,some (some (.builtin "object.__setattr__")),fs.map fun _=>some none)
noncomputable def mthAt(K:Frag)(C:Addr)(x:Str):FnX:=match findIn K (.ref C) x with
 |some (some (.ref f))=>(match K.lookup f with
  |some ⟨_,_, .func fd,_⟩=>some (fd.name,fd.qualname,fd.params,fd.body,fd.scope,fd.globals,fd.closure,fd.defaults,fd.builtins,codeIn K fd.code fd.qualname,keepIn K (.ref f)&&isFn K (.ref f))
  |_=>none)
 |_=>none
noncomputable def mthWant(x qual:Str)(st:Stmt):FnX:=some (x,qual,defArgs st, .stmts (defBody st),defScope st,mainGlobals,[], .none,builtinsNs,true,true)
noncomputable def mkAt(K:Frag)(C:Addr)(y:Str):Bool×Bool×Option (Option Value):=(makesIn K C,keepIn K (.ref C),nsIn K mainGlobals y)
noncomputable def recOf(s:Stmt):DefRec:=match s with
 | .FunctionDef n a b _ _ _ sc _ _ pos=>⟨n,a,b,sc,pos⟩
 |_=>⟨"",defArgs s,defBody s,defScope s,⟨0,0,0,0⟩⟩
noncomputable def topT(tb:String→Option Builtin)(p:Program)(w:World)(n₀:Nat)(ann:Option Value):Nat→SharedT→Thread→Option SharedT
 |0,_,_=>none
 |n+1,s,t=>match through t with
  |true=>some s
  |false=>match stepOk n₀ ann t with
   |false=>none
   |true=>match PySem.W.stepT (denote tb) p w s t with
    |some (s',t')=>topT tb p w n₀ ann n s' t'
    |none=>none
def bootT(P:Params):BT:=((boot_heap P).objs.toList.foldl (fun(x:BT×Nat) o=>(x.1.ins x.2 o,x.2+1)) (.nil,0)).1
def bootS(P:Params)(os:OsState):SharedT:=⟨bootT P,11,{},#[],boot_drawn,boot_toks,os⟩
noncomputable def listF(t:BT):Nat→List Obj→List Obj
 |0,acc=>acc
 |n+1,acc=>listF t n ((t.get n).getD default::acc)
noncomputable def absF(s:SharedT):Shared:=⟨⟨⟨listF s.tree s.n []⟩,s.life⟩,s.gens,s.drawn,s.toks,s.os⟩
noncomputable def fragT(t:BT):Nat→Frag→Frag
 |0,acc=>acc
 |n+1,acc=>match alive ((t.get n).getD default) with
  |some o=>fragT t n ((n,o)::acc)
  |none=>fragT t n acc
noncomputable def lk0(q:Program)(s:SharedT):=seen ((recsOf q).map (·.name)) (ownsOf q) [] { absF s with gens:=#[] }
noncomputable def lk2(q:Program)(loose:List Str)(s:SharedT):Bool:=(absF s).heap.keysOk (looseW q loose) ((recsOf q).map (·.name)) ((litsOf q).map (·.1)) ((clssOf q (looseW q loose)).map (·.name))
noncomputable def lk3(p:Program)(s:SharedT):Bool:=(absF s).heap.accountedOkI (importedModules p.main.body)
noncomputable def lk4(q:Program)(Xt:Shared→Bool)(s:SharedT):Bool:=(absF s).heap.isNs mainGlobals&&((absF s).heap.isNs builtinsNs&&(tablesOk q (absF s).heap&&(Xt (absF s)&&(absF s).gens.size==0)))
def lk9(p:Program)(P:Params)(s:SharedT):Bool:=staticsOk (importedModules p.main.body) (boot_heap P) (absF s).heap&&namesBound p (absF s).heap&&gensDone (absF s)&&laidKept (boot_heap P) (absF s).heap
structure DSp where
 x:Str
 i:Nat
 k:Nat
 N:List Str
 a:Nat
end L2
end
section
namespace K89
open PySem L2 PyProof.Rows
noncomputable def top(i:Nat):Stmt:=PySem.Challenge.pw_tacticwright_k89_deep_texts.main.body.getD i (.Pass ⟨0,0,0,0⟩)
noncomputable def inCls(s:Stmt)(j:Nat):Stmt:=match s with
 | .ClassDef _ _ _ b _ _ _ _ _ _ _=>b.getD j (.Pass ⟨0,0,0,0⟩)
 |_=>.Pass ⟨0,0,0,0⟩
noncomputable def gQ:D:=.k [.s "false", .s "all", .s "some", .s "and", .s "or"]
noncomputable def jH:D:=.k [.s "form", .s "call", .s "atom"]
noncomputable def jI:D:=.k [.s "same", .s "and", .s "or", .s "if"]
noncomputable def cJ:D:=.k [.s "all", .s "some"]
noncomputable def bC:D:=.dc [(.inr "fact", .k [.s "h"]),(.inr "into", .k [.s "h", .s "statement", .s "reason"]),(.inr "give", .k [.s "reason", .s "reason"]),(.inr "each", .k [.s "x", .s "K", .s "reason"]),(.inr "at", .k [.s "reason", .s "term"]),(.inr "both", .k [.s "reason", .s "reason"]),(.inr "first", .k [.s "reason"]),(.inr "second", .k [.s "reason"]),(.inr "left", .k [.s "reason", .s "statement"]),(.inr "right", .k [.s "statement", .s "reason"]),(.inr "cases", .k [.s "reason", .s "h", .s "reason", .s "h", .s "reason"]),(.inr "with", .k [.s "term", .s "body", .s "reason"]),(.inr "take", .k [.s "reason", .s "x", .s "h", .s "reason"]),(.inr "never", .k [.s "reason", .s "statement"]),(.inr "plain", .k [.s "term"]),(.inr "swap", .k [.s "reason", .s "body", .s "reason"]),(.inr "unlike", .k [.s "reason"]),(.inr "inner", .k [.s "reason", .s "number"]),(.inr "induct", .k [.s "K", .s "body", .s "induct rows"]),(.inr "forms", .k [.s "term", .s "forms rows"]),(.inr "sure", .k [.s "statement"]),(.inr "reckon", .k [.s "statement", .s "reason"]),(.inr "hole", .k [.s "number"])]
noncomputable def aFB:D:=.k [.s "on", .s "back"]
noncomputable def aO:D:=.dc [(.inr "into", .k [.s "name"]),(.inr "by", .k [.s "name"]),(.inr "use", .k [.s "name", .s "terms"]),(.inr "have", .k [.s "name", .s "statement"]),(.inr "back", .k [.s "name"]),(.inr "both", .k []),(.inr "left", .k []),(.inr "right", .k []),(.inr "with", .k [.s "term"]),(.inr "apart", .k [.s "name", .s "names"]),(.inr "plain", .k []),(.inr "reckon", .k []),(.inr "tidy", .k [.s "name", .s "name"]),(.inr "unlike", .k [.s "name"]),(.inr "inner", .k [.s "name", .s "names"]),(.inr "turn", .k [.s "name", .s "terms", .s "way"]),(.inr "cases", .k [.s "term", .s "cases names"]),(.inr "induct", .k [.s "name", .s "induct names"]),(.inr "sure", .k [.s "statement", .s "name", .s "name"]),(.inr "then", .k [.s "tactic", .s "tactic"]),(.inr "first", .k [.s "tactics"]),(.inr "try", .k [.s "tactic"]),(.inr "again", .k [.s "tactic"]),(.inr "done", .k []),(.inr "settle", .k [])]
noncomputable def dD:D:=.k [.k [], .k []]
noncomputable def jT:D:=.dc [(.inr "and", .s " and "),(.inr "or", .s " or "),(.inr "if", .s " -> ")]
noncomputable def jU:D:=.dc [(.inr "term", .fn "term_pieces"),(.inr "statement", .fn "statement_pieces"),(.inr "body", .fn "body_pieces"),(.inr "reason", .fn "reason_pieces"),(.inr "tactic", .fn "tactic_pieces"),(.inr "h", .fn "name_pieces"),(.inr "x", .fn "name_pieces"),(.inr "K", .fn "name_pieces"),(.inr "name", .fn "name_pieces"),(.inr "way", .fn "name_pieces"),(.inr "number", .fn "number_pieces"),(.inr "names", .fn "names_pieces"),(.inr "terms", .fn "terms_pieces"),(.inr "tactics", .fn "tactics_pieces"),(.inr "induct rows", .fn "reason_rows_pieces"),(.inr "forms rows", .fn "reason_rows_pieces"),(.inr "induct names", .fn "rows_pieces"),(.inr "cases names", .fn "rows_pieces")]
noncomputable def gR:D:=.dc [(.inr "text", .fn "read_text"),(.inr "make", .fn "read_make"),(.inr "list", .fn "read_list"),(.inr "more", .fn "read_more"),(.inr "few", .fn "read_few"),(.inr "leave", .fn "read_leave"),(.inr "joint", .fn "read_joint"),(.inr "same or atom", .fn "read_same_or_atom"),(.inr "term", .fn "read_term_row"),(.inr "statement", .fn "read_statement_row"),(.inr "body", .fn "read_body"),(.inr "reason", .fn "read_reason_row"),(.inr "tactic", .fn "read_tactic_row"),(.inr "h", .fn "read_name"),(.inr "x", .fn "read_name"),(.inr "K", .fn "read_name"),(.inr "name", .fn "read_name"),(.inr "way", .fn "read_way"),(.inr "number", .fn "read_number"),(.inr "spaced", .fn "read_spaced"),(.inr "names", .fn "read_names"),(.inr "terms", .fn "read_terms"),(.inr "tactics", .fn "read_tactics"),(.inr "induct rows", .fn "read_rows"),(.inr "forms rows", .fn "read_rows"),(.inr "induct names", .fn "read_rows"),(.inr "cases names", .fn "read_rows"),(.inr "induct rows row", .fn "read_induct_row"),(.inr "forms rows row", .fn "read_forms_row"),(.inr "induct names row", .fn "read_induct_names"),(.inr "cases names row", .fn "read_cases_names")]
noncomputable def cns:List (Str×D):=[("KEPT_WORDS",gQ),("SMALL_LETTERS", .s "abcdefghijklmnopqrstuvwxyz"),("GREAT_LETTERS", .s "ABCDEFGHIJKLMNOPQRSTUVWXYZ"),("LONGEST_NAME", .i (8)),("MOST_ARGS", .i (4)),("ARGS_WORDS",jH),("PAIR_WORDS",jI),("BIND_WORDS",cJ),("REASON_PARTS",bC),("WAYS",aFB),("TACTIC_PARTS",aO),("FIRST_LETTERS", .s "xyz"),("NOTHING_AROUND",dD),("JOINTS",jT),("PIECES",jU),("LETTERS", .s "abcdefghijklmnopqrstuvwxyzABCDEFGHIJKLMNOPQRSTUVWXYZ"),("FIGURES", .s "0123456789"),("MOST_FIGURES", .i (9)),("READS",gR)]
noncomputable def blt:List Str:=["all","enumerate","int","isinstance","len","list","max","range","reversed","set","sorted","str","tuple","zip"]
def cC:Addr:=414
noncomputable def fds:List Str:=["text","at","names","made","pending"]
section
noncomputable def S0:DSp:=⟨"_law_state",95,0,["_law_script","_law_seed","_law_k","_law_cell","_law_great"],1⟩
noncomputable def S1:DSp:=⟨"_law_next",96,0,["_law_state_here","_law_many","_law_found","_law_mixed"],2⟩
noncomputable def S2:DSp:=⟨"_law_deep_term",97,1,["_law_state_here","_law_many","_law_t","_law_text","_law_k"],2⟩
noncomputable def S3:DSp:=⟨"parts_of",14,0,["thing","word"],1⟩
noncomputable def S4:DSp:=⟨"free_in",15,1,["thing","names","pending","part"],1⟩
noncomputable def S5:DSp:=⟨"part_piece",33,2,["sort","part","at_hand"],2⟩
noncomputable def S6:DSp:=⟨"parted",25,0,["rows","made","row"],1⟩
noncomputable def S7:DSp:=⟨"with_args",26,1,["thing","around"],2⟩
noncomputable def S8:DSp:=⟨"term_pieces",27,2,["t","around"],2⟩
noncomputable def S9:DSp:=⟨"told_name",23,0,["n","letters","rest"],1⟩
noncomputable def S10:DSp:=⟨"next_name",24,1,["around","names","frees","n"],1⟩
noncomputable def S11:DSp:=⟨"bound_pieces",28,2,["A","around","x"],2⟩
noncomputable def S12:DSp:=⟨"statement_pieces",29,3,["A","around","x","within"],2⟩
noncomputable def S13:DSp:=⟨"body_pieces",30,3,["A","around","x","within"],2⟩
noncomputable def S14:DSp:=⟨"worded",34,3,["word","sorts","parts"],3⟩
noncomputable def S15:DSp:=⟨"reason_pieces",35,4,["p","around"],2⟩
noncomputable def S16:DSp:=⟨"tactic_pieces",36,4,["a","around"],2⟩
noncomputable def S17:DSp:=⟨"name_pieces",31,0,["name","around"],2⟩
noncomputable def S18:DSp:=⟨"number_pieces",32,0,["k","around"],2⟩
noncomputable def S19:DSp:=⟨"listed_pieces",37,3,["sort","things"],2⟩
noncomputable def S22:DSp:=⟨"tactics_pieces",40,4,["some","around"],2⟩
noncomputable def S23:DSp:=⟨"joined_row",41,0,["texts"],1⟩
noncomputable def S24:DSp:=⟨"reason_rows_pieces",43,3,["rows","around"],2⟩
noncomputable def S26:DSp:=⟨"written",45,5,["sort","thing","pending","texts","piece","tell"],2⟩
noncomputable def S27:DSp:=⟨"show_term",46,6,["t"],1⟩
noncomputable def S28:DSp:=⟨"__init__",0,0,["self","text","names"],3⟩
noncomputable def S29:DSp:=⟨"later",8,0,["self","rows"],2⟩
noncomputable def S30:DSp:=⟨"sees",1,0,["self","piece"],2⟩
noncomputable def S31:DSp:=⟨"skip",2,1,["self","piece"],2⟩
noncomputable def S32:DSp:=⟨"read_text",59,2,["reader","row"],2⟩
noncomputable def S33:DSp:=⟨"make",9,0,["self","head","many","at"],3⟩
noncomputable def S34:DSp:=⟨"read_make",60,1,["reader","row","word","head","many"],2⟩
noncomputable def S35:DSp:=⟨"read_list",61,2,["reader","row","word","sort","close"],2⟩
noncomputable def S36:DSp:=⟨"read_more",62,2,["reader","row","word","sort","close","many"],2⟩
noncomputable def S37:DSp:=⟨"read_few",63,0,["reader","row"],2⟩
noncomputable def S38:DSp:=⟨"read_leave",66,0,["reader","row"],2⟩
noncomputable def S39:DSp:=⟨"read_joint",70,2,["reader","row","word","piece"],2⟩
noncomputable def S40:DSp:=⟨"read_same_or_atom",71,2,["reader","row","t"],2⟩
noncomputable def S41:DSp:=⟨"run_of",3,0,["self","signs","start"],2⟩
noncomputable def S42:DSp:=⟨"letters",4,1,["self"],1⟩
noncomputable def S43:DSp:=⟨"is_short_text",11,0,["thing"],1⟩
noncomputable def S44:DSp:=⟨"are_small",10,0,["text"],1⟩
noncomputable def S45:DSp:=⟨"is_form_name",13,1,["thing"],1⟩
noncomputable def S46:DSp:=⟨"is_name",12,1,["thing"],1⟩
noncomputable def S47:DSp:=⟨"leaf_of",64,0,["names","x","k","name"],2⟩
noncomputable def S48:DSp:=⟨"read_term_row",65,2,["reader","row","word","head","first"],2⟩
noncomputable def S49:DSp:=⟨"next_name",5,2,["self","name"],1⟩
noncomputable def S50:DSp:=⟨"read_bound_row",67,2,["reader","x","head"],3⟩
noncomputable def S51:DSp:=⟨"read_statement_row",69,3,["reader","row","start","word","x"],2⟩
noncomputable def S52:DSp:=⟨"read_body",68,3,["reader","row"],2⟩
noncomputable def S53:DSp:=⟨"read_worded",85,1,["reader","word","sorts","rows","k","sort"],3⟩
noncomputable def S54:DSp:=⟨"read_reason_row",86,2,["reader","row","word"],2⟩
noncomputable def S55:DSp:=⟨"read_tactic_row",87,2,["reader","row","word"],2⟩
noncomputable def S56:DSp:=⟨"read_name",72,3,["reader","row"],2⟩
noncomputable def S58:DSp:=⟨"read_number",74,1,["reader","row","figures"],2⟩
noncomputable def S59:DSp:=⟨"spaced_names",7,3,["self","names"],1⟩
noncomputable def S60:DSp:=⟨"read_spaced",75,4,["reader","row"],2⟩
noncomputable def S63:DSp:=⟨"read_tactics",78,1,["reader","row"],2⟩
noncomputable def S64:DSp:=⟨"read_rows",79,1,["reader","row"],2⟩
noncomputable def S65:DSp:=⟨"read_row_of",80,1,["reader","rows","joined","one"],2⟩
noncomputable def S66:DSp:=⟨"read_induct_row",81,2,["reader","row"],2⟩
noncomputable def S67:DSp:=⟨"read_forms_row",82,2,["reader","row"],2⟩
noncomputable def S70:DSp:=⟨"end",10,0,["self"],1⟩
noncomputable def S71:DSp:=⟨"read_by",89,5,["sort","text","names","reader","row","read_next"],3⟩
noncomputable def S72:DSp:=⟨"read_term",90,6,["text"],1⟩
noncomputable def S73:DSp:=⟨"_law_deep_bounds",98,1,["_law_state_here","_law_many","_law_small","_law_names","_law_ending","_law_far","_law_ka","_law_text","_law_k","_law_word"],2⟩
noncomputable def S74:DSp:=⟨"_law_deep_joints",99,1,["_law_state_here","_law_many","_law_ka","_law_text","_law_k","_law_way","_law_word","_law_sign"],2⟩
noncomputable def S75:DSp:=⟨"show_statement",47,6,["A"],1⟩
noncomputable def S76:DSp:=⟨"read_statement",91,6,["text"],1⟩
noncomputable def S77:DSp:=⟨"_law_deep_reason",100,1,["_law_state_here","_law_many","_law_p","_law_text","_law_k","_law_way","_law_word","_law_row"],2⟩
noncomputable def S78:DSp:=⟨"show_reason",48,6,["p"],1⟩
noncomputable def S79:DSp:=⟨"read_reason",92,6,["text"],1⟩
noncomputable def S80:DSp:=⟨"_law_deep_tactic",101,1,["_law_state_here","_law_many","_law_a","_law_text","_law_k","_law_way","_law_word"],2⟩
noncomputable def S81:DSp:=⟨"show_tactic",49,6,["a"],1⟩
noncomputable def S82:DSp:=⟨"read_tactic",93,6,["text"],1⟩
noncomputable def S83:DSp:=⟨"law",102,7,["_law_script","_law_state_here","_law_t","_law_text","_law_ka","_law_p","_law_a"],1⟩
end
end K89
end
section
namespace K89
open PySem PySem.W L2 PyProof.Rows
abbrev rw_:=PySem.Challenge.rw_tacticwright_k89_deep_texts
noncomputable def vw:Program:=PySem.W.view rw_.prog [0,2,3,4,5,6,7,8,9,10,11,12,13,14,15,16,17,18,20,21,22,23,24,25,26,27,28,29,30,31,32,33,34,35,36,37,38,39,40,41,42,43,44,45,46,47,48,49,51,52,54,55,56,58,59,60,61,62,63,64,65,66,67,68,69,70,71,72,73,74,75,76,77,78,79,80,81,82,83,84,85,86,87,88,89,90,91,92,93,95,96,97,98,99,100,101,102]
noncomputable def loose:List Str:=["REASON_PARTS","TACTIC_PARTS","JOINTS","PIECES","TacticError","READS"]
noncomputable def fns:List (Str×Nat):=[S0,S1,S2,S3,S4,S5,S6,S7,S8,S9,S10,S11,S12,S13,S14,S15,S16,S17,S18,S19,S22,S23,S24,S26,S27,S32,S34,S35,S36,S37,S38,S39,S40,S43,S44,S45,S46,S47,S48,S50,S51,S52,S53,S54,S55,S56,S58,S60,S63,S64,S65,S66,S67,S71,S72,S73,S74,S75,S76,S77,S78,S79,S80,S81,S82,S83].map fun s=>(s.x,s.i)
noncomputable def mths:List (Str×Str×Nat):=[S28,S29,S30,S31,S33,S41,S42,S49,S59,S70].map fun s=>(s.x,("Reader.":Str)++s.x,s.i)
abbrev YT:=List FnX×List (Option (Option D×List Int))×List (Option (Option Value))×(Bool×Bool×Bool×Option (Option Value)×List (Option (Option Value)))×List FnX×(Bool×Bool×Option (Option Value))
noncomputable def yf(K:Frag):YT:=(fns.map fun p=>fnAt K p.1,cns.map fun p=>cAt K p.1,blt.map fun x=>nsIn K mainGlobals x,clsAt K cC fds,mths.map fun p=>mthAt K cC p.1,mkAt K cC "Reader")
noncomputable def yv(w:World):YT:=(fns.map fun p=>fnWant p.1 (top p.2),cns.map fun p=>cWant w p.2,blt.map fun _=>some none,clsWant fds,mths.map fun p=>mthWant p.1 p.2.1 (inCls (top 56) p.2.2),(true,true,some (some (.ref cC))))
noncomputable def xt(s:Shared):Bool:=xlAt vw [] s&&recOk rw_.row.toRowW.records s
end K89
lay_quick L2.topT
namespace K89
open PySem PySem.W L2 PyProof.Rows
noncomputable abbrev wz(w:World)(b:Bool):World:=w.withFollow "special-get-raises" b
abbrev rz(w:World)(os:OsState)(b:Bool):=Fast.tw12425933026755589441 Fast.tw14364793385576792824 rw_.row.prog (wz w b) 11 (some (.ref 6)) 10916 (bootS (wz w b).params os) (topStub rw_.row.prog)
theorem aAS(w:World)(os:OsState):(rz w os false).map (fun s=>lk0 vw s)=some (expectedOf vw):=by kernel_rfl
theorem aDx(w:World)(os:OsState):(rz w os true).map (fun s=>lk0 vw s)=some (expectedOf vw):=by kernel_rfl
theorem aAT(w:World)(os:OsState):(rz w os false).map (fun s=>((absF s).heap.bltView,lk3 rw_.row.prog s,lk4 vw xt s,pinSeenD vw (drecsOf vw) (absF s),plainSeenD vw loose (absF s),clsSeenW vw loose (absF s),lk9 rw_.row.prog (wz w false).params s))=some ((bltViewBooted,true,true,pinGoodD (drecsOf vw),plainGoodD vw loose,clsGoodW vw loose,true)):=by kernel_rfl
theorem aDy(w:World)(os:OsState):(rz w os true).map (fun s=>((absF s).heap.bltView,lk3 rw_.row.prog s,lk4 vw xt s,pinSeenD vw (drecsOf vw) (absF s),plainSeenD vw loose (absF s),clsSeenW vw loose (absF s),lk9 rw_.row.prog (wz w true).params s))=some ((bltViewBooted,true,true,pinGoodD (drecsOf vw),plainGoodD vw loose,clsGoodW vw loose,true)):=by kernel_rfl
theorem aAU(w:World)(os:OsState):(rz w os false).map (fun s=>lk2 vw loose s)=some (true):=by kernel_rfl
theorem aDz(w:World)(os:OsState):(rz w os true).map (fun s=>lk2 vw loose s)=some (true):=by kernel_rfl
theorem tS(w:World)(os:OsState):(rz w os false).map (fun s=>tabsOk vw (absF s))=some (true):=by kernel_rfl
theorem xK(w:World)(os:OsState):(rz w os true).map (fun s=>tabsOk vw (absF s))=some (true):=by kernel_rfl
theorem aAV(w:World)(os:OsState):(rz w os false).map (fun s=>plainSeenE vw (looseW vw loose) (absF s))=some (plainGoodE vw (looseW vw loose)):=by kernel_rfl
theorem aDA(w:World)(os:OsState):(rz w os true).map (fun s=>plainSeenE vw (looseW vw loose) (absF s))=some (plainGoodE vw (looseW vw loose)):=by kernel_rfl
theorem aAW(w:World)(os:OsState):(rz w os false).map (fun s=>wideSeen vw (absF s))=some (wideGood vw):=by kernel_rfl
theorem aDB(w:World)(os:OsState):(rz w os true).map (fun s=>wideSeen vw (absF s))=some (wideGood vw):=by kernel_rfl
theorem aAX(w:World)(os:OsState):(rz w os false).map (fun s=>yf (fragT s.tree s.n []))=some (yv (wz w false)):=by kernel_rfl
theorem aDC(w:World)(os:OsState):(rz w os true).map (fun s=>yf (fragT s.tree s.n []))=some (yv (wz w true)):=by kernel_rfl
theorem said:rw_.wellSaid=true:=by kernel_rfl
theorem okk:(chainsOk vw&&opensWell rw_.row.prog&&(frees rw_.row.toRowW&&rw_.row.within.isEmpty))=true:=by kernel_rfl
theorem hdef:defOf vw rw_.row.name=some (recOf (top 102),[]):=by kernel_rfl
theorem hp:rw_.row.prog.theDef rw_.row.name=some ((recOf (top 102)).params,(recOf (top 102)).body,(recOf (top 102)).scope):=by kernel_rfl
theorem hb6:rw_.row.prog.tablesWhole=true:=by kernel_rfl
theorem hb:rw_.row.prog.bare:=⟨by kernel_rfl,by kernel_rfl,by kernel_rfl,by kernel_rfl,by kernel_rfl,hb6⟩
theorem hw:rw_.row.toRowW.promised:=by w_witness2
end K89
end
section
namespace L2
open PySem PySem.Spec PyProof.Rows
noncomputable def keyIs:Key→Value→Bool
 | .inl k,v=>Value.isInt k v
 | .inr x,v=>Value.isStrOf x v
theorem bK:∀ {k:Key} {v:Value},keyIs k v=true→(∃ i t,k=Sum.inl i∧v=Value.int i t)∨(∃ x t,k=Sum.inr x∧v=Value.str x t)
 | .inl i,v,h=>by
  obtain⟨t,e⟩:=Value.isInt_shape (k:=i) (v:=v) h;exact .inl ⟨i,t,rfl,e⟩
 | .inr x,v,h=>by
  obtain⟨t,e⟩:=Value.isStrOf_shape (x:=x) (v:=v) h;exact .inr ⟨x,t,rfl,e⟩
theorem zB(i:Int)(t:Tok):keyIs (.inl i) (.int i t)=true:=by simp[keyIs,Value.isInt]
theorem zC(x:Str)(t:Tok):keyIs (.inr x) (.str x t)=true:=by simp[keyIs,Value.isStrOf]
theorem aFC(a b:Int):decide ((Sum.inl a:Key)=Sum.inl b)=(a==b):=by
 by_cases e:a=b
 ·subst e;simp
 ·have h:¬ (Sum.inl a:Key)=Sum.inl b:=fun q=>e (Sum.inl.inj q);rw[W17 h];exact(V31.mpr e).symm
theorem aFD(a b:Str):decide ((Sum.inr a:Key)=Sum.inr b)=decide (a=b):=by
 by_cases e:a=b
 ·subst e;simp
 ·have h:¬ (Sum.inr a:Key)=Sum.inr b:=fun q=>e (Sum.inr.inj q);rw[W17 h,W17 e]
theorem aFE(a:Int)(b:Str):decide ((Sum.inl a:Key)=Sum.inr b)=false:=W17 (fun q=>nomatch q)
theorem aFF(a:Str)(b:Int):decide ((Sum.inr a:Key)=Sum.inl b)=false:=W17 (fun q=>nomatch q)
noncomputable def mixKind(prog:Program)(w:World):PySem.KeyKind prog w Key where
 is:=keyIs
 hash:=keyH w
 inj:=fun v a b ha hb=>by
  rcases bK ha with⟨i,t,rfl,rfl⟩|⟨x,t,rfl,rfl⟩
  ·rcases bK hb with⟨j,u,rfl,e⟩|⟨y,u,rfl,e⟩
   ·injection e with e1 _;rw[e1]
   ·exact nomatch e
  ·rcases bK hb with⟨j,u,rfl,e⟩|⟨y,u,rfl,e⟩
   ·exact nomatch e
   ·injection e with e1 _;rw[e1]
 byValue:=fun k v h=>by
  rcases bK h with⟨i,t,rfl,rfl⟩|⟨x,t,rfl,rfl⟩<;>rfl
 pyHash:=fun hv h=>by
  rcases bK hv with⟨i,t,rfl,rfl⟩|⟨x,t,rfl,rfl⟩
  ·exact wpAny_pyHash_int h
  ·exact wpAny_pyHash_str h
 eqBool:=fun hu hv h=>by
  rcases bK hu with⟨i,t,rfl,rfl⟩|⟨x,t,rfl,rfl⟩
  ·rcases bK hv with⟨j,u,rfl,rfl⟩|⟨y,u,rfl,rfl⟩
   ·rw[aFC] at h;exact wpAny_eqBool_int h
   ·rw[aFE] at h;exact SeqAt.EqAt.int_str i t y u _ _ _ _ h
  ·rcases bK hv with⟨j,u,rfl,rfl⟩|⟨y,u,rfl,rfl⟩
   ·rw[aFF] at h;exact SeqAt.EqAt.str_int x t j u _ _ _ _ h
   ·rw[aFD] at h;exact wpAny_eqBool_str h
 «strs»:=fun k x t v h=>by
  rcases bK h with⟨i,u,rfl,e⟩|⟨y,u,rfl,e⟩
  ·exact nomatch e
  ·injection e with e1 _
   subst e1;cases v<;>rfl
theorem tT(prog:Program)(w:World)(i:Int)(t:Tok):(mixKind prog w).is (.inl i) (.int i t)=true:=zB i t
theorem jV(prog:Program)(w:World)(x:Str)(t:Tok):(mixKind prog w).is (.inr x) (.str x t)=true:=zC x t
end L2
namespace L2
open PySem PySem.Spec PyProof.Rows
inductive V where
 |non|bl (b:Bool)|int (i:Int)|str (x:Str)|byt (b:Array UInt8)|flt (b:UInt64)|ref (a:Addr)|ty (n:String)
 deriving DecidableEq
def RelV:V→Value→Prop
 | .non,u=>u=Value.none
 | .bl b,u=>u=Value.bool b
 | .int i,u=>∃ t,u=Value.int i t
 | .str x,u=>∃ t,u=Value.str x t
 | .byt b,u=>∃ t,u=Value.bytes b t
 | .flt b,u=>∃ t,u=Value.float b t
 | .ref a,u=>u=Value.ref a
 | .ty n,u=>u=Value.type n
abbrev Vals:List V→List Value→Prop:=Paired RelV
theorem Vals.length{xs:List V}{us:List Value}(r:Vals xs us):xs.length=us.length:=Paired.length r
theorem Vals.get:∀ {xs:List V} {us:List Value} {i:Nat} {x:V},Vals xs us→xs[i]?=some x→∃ u,us[i]?=some u∧RelV x u
 |_,_,_,_, .nil,e=>by simp at e
 |_,_,0,_, .cons r _,e=>by simp at e;subst e;exact⟨_,rfl,r⟩
 |_,_,i+1,x, .cons _ t,e=>by
  obtain⟨u,h1,h2⟩:=Vals.get (i:=i) (x:=x) t (by simpa using e);exact⟨u,by simpa using h1,h2⟩
theorem Vals.set{x:V}{u:Value}(r:RelV x u):∀ {xs:List V} {us:List Value} (i:Nat),Vals xs us→Vals (xs.set i x) (us.set i u)
 |_,_,_, .nil=>.nil
 |_,_,0, .cons _ t=>.cons r t
 |_,_,i+1, .cons q t=>.cons q (Vals.set r i t)
theorem Vals.append:∀ {xs ys:List V} {us ws:List Value},Vals xs us→Vals ys ws→Vals (xs++ys) (us++ws)
 |_,_,_,_, .nil,s=>s
 |_,_,_,_, .cons r t,s=>.cons r (Vals.append t s)
theorem Vals.take:∀ {xs:List V} {us:List Value} (n:Nat),Vals xs us→Vals (xs.take n) (us.take n)
 |_,_,0,_=>.nil
 |_,_,_+1, .nil=>.nil
 |_,_,n+1, .cons r t=>.cons r (Vals.take n t)
theorem Vals.drop:∀ {xs:List V} {us:List Value} (n:Nat),Vals xs us→Vals (xs.drop n) (us.drop n)
 |_,_,0,r=>r
 |_,_,_+1, .nil=>.nil
 |_,_,n+1, .cons _ t=>Vals.drop n t
def RelO:Option V→Option Value→Prop
 |some v,some u=>RelV v u
 |none,none=>True
 |_,_=>False
def KV{κ:Type}:List (κ×V)→List (κ×Value)→Prop:=Paired fun(p:κ×V) (q:κ×Value)=>p.1=q.1∧RelV p.2 q.2
noncomputable def kV:Key→V
 | .inl i=>.int i
 | .inr x=>.str x
inductive HO where
 |lst (xs:List V)
 |tup (xs:List V)
 |dK (kvs:List (Key×V))|dT (kvs:List (List Key×V))
 |set (S:Int→Bool) (n:Nat)
 |ins (C dx:Addr) (fs:List (Str×V))
 |own (x:Addr)
 |xd (fs:List (Str×V))
 |met (f x:Addr)
 |rng (lo hi:Int)
 |frz (o:Obj) (u:HO)
 |tbl (ps:Array Value)
 |ext (φ:Heap→Prop)
abbrev Hp:=Addr→Option HO
noncomputable def upd(H:Hp)(a:Addr)(o:HO):Hp:=fun b=>if b=a then some o else H b
theorem bI{H:Hp}{a:Addr}{o:HO}:upd H a o a=some o:=by unfold upd;rw[if_pos rfl]
theorem aG{H:Hp}{a b:Addr}{o:HO}(h:b≠a):upd H a o b=H b:=by unfold upd;rw[if_neg h]
theorem aH{H:Hp}{a b:Addr}{o:HO}(h:H a=some o)(h':H b=none):a≠b:=by
 intro e;subst e;rw[h] at h';cases h'
section
variable(P:Program)(w:World)
def ObjOk(H:Hp)(h:Heap)(a:Addr):HO→Prop
 | .lst xs=>xs.length≤sizeLine∧∃ (its:List Value) (n:Nat),Vals xs its∧h.get? a=some { cls:=.type "list",data:=.seq its.toArray n }
 | .tup xs=>xs.length≤sizeLine∧∃ its:List Value,Vals xs its∧IsTup h a its.toArray
 | .dK kvs=>kvs.length≤sizeLine∧(a==sysModules)=false∧∃ vs,KV kvs vs∧h.DictOf (mixKind P w) a vs
 | .dT kvs=>kvs.length≤sizeLine∧(a==sysModules)=false∧∃ xs:List (List Key×Addr×Value),
   Paired (fun(p:List Key×V) (q:List Key×Addr×Value)=>p.1=q.1∧H q.2.1=some (.tup (p.1.map kV))∧RelV p.2 q.2.2) kvs xs∧
   ∃ o es ep,h.get? a=some o∧o.ExactDict∧o.data=.dict es ep∧es.toList=xs.map (entryOfKey (tupleKind (mixKind P w)))∧(xs.map (·.1)).Nodup
 | .set S n=>h.SetOf (intKind P w) a S n
 | .ins C dx fs=>H dx=some (.own a)∧fs.length≤1000∧dx≠a∧h.get? a=some (PySem.W.instObj C dx)∧
   ∃ mA,h.Ns1 dx mA∧(∀ f,RelO (fs.lookup f) (mA f))∧PySem.Within mA (fs.map (·.1))
 | .own _=>∃ o,h.get? a=some o
 | .xd fs=>∃ mA,h.Ns1 a mA∧∀ f,RelO (fs.lookup f) (mA f)
 | .rng lo hi=>∃ t u v,h.get? a=some { cls:=.type "range",data:=.fields #[.int lo t, .int hi u, .int 1 v] }
 | .frz o u=>h.get? a=some o∧ObjOk H h a u
 | .tbl ps=>h.get? a=some { cls:=.none,data:=.fields ps }
 | .met f x=>h.get? a=some (PySem.W.methodObj (.ref f) (.ref x))
 | .ext φ=>φ h∧(∃ o,h.get? a=some o)∧∀ h1 h2:Heap,φ h1→(∀ o,h1.get? a=some o→h2.get? a=some o)→φ h2
def HOk(H:Hp)(h:Heap):Prop:=∀ a o,H a=some o→ObjOk P w H h a o
end
section
variable{P:Program}{w:World}{H H':Hp}{h h':Heap}{a:Addr}{o:HO}
theorem ObjOk.lt(x:ObjOk P w H h a o):a<h.objs.size:=by
 cases o with
 |lst xs=>obtain⟨_,_,_,_,e⟩:=x;exact W11 e
 |tup xs=>obtain⟨_,_,_,p⟩:=x;exact p.lt
 |dK kvs=>obtain⟨_,_,_,_,o,_,_,e,_⟩:=x;exact W11 e
 |dT kvs=>obtain⟨_,_,_,_,o,_,_,e,_⟩:=x;exact W11 e
 |set S n=>obtain⟨o,_,_,_,e,_⟩:=x;exact W11 e
 |ins C dx fs=>obtain⟨_,_,_,e,_⟩:=x;exact W11 e
 |own y=>obtain⟨_,e⟩:=x;exact W11 e
 |xd fs=>obtain⟨_,⟨_,_,_,e,_⟩,_⟩:=x;exact W11 e
 |rng lo hi=>obtain⟨_,_,_,e⟩:=x;exact W11 e
 |frz ob u=>obtain⟨e,_⟩:=x;exact W11 e
 |tbl ps=>exact W11 (show h.get? a=some _ from x)
 |met f y=>exact W11 (show h.get? a=some _ from x)
 |ext φ=>obtain⟨_,⟨_,e⟩,_⟩:=x;exact W11 e
theorem Paired.mapP{α β:Type}{F G:α→β→Prop}:∀ {l₁:List α} {l₂:List β},Paired F l₁ l₂→(∀ a b,F a b→G a b)→Paired G l₁ l₂
 |_,_, .nil,_=>.nil
 |_,_, .cons r t,f=>.cons (f _ _ r) (Paired.mapP t f)
theorem ObjOk.stay(x:ObjOk P w H h a o)(k:∀ b u,(b=a∨H b=some (.own a))→h.get? b=some u→h'.get? b=some u)
  (ho:∀ b,H b=some (.own a)→H' b=some (.own a))(ht:∀ b xs,H b=some (.tup xs)→H' b=some (.tup xs)):ObjOk P w H' h' a o:=by
 induction o with
 |lst xs=>obtain⟨z,its,n,r,e⟩:=x;exact⟨z,its,n,r,k _ _ (.inl rfl) e⟩
 |tup xs=>obtain⟨z,its,r,ob,e,c⟩:=x;exact⟨z,its,r,ob,k _ _ (.inl rfl) e,c⟩
 |dK kvs=>obtain⟨z,y,vs,r,ob,es,ep,e,c⟩:=x;exact⟨z,y,vs,r,ob,es,ep,k _ _ (.inl rfl) e,c⟩
 |dT kvs=>
  obtain⟨z,y,xs,r,ob,es,ep,e,c⟩:=x;exact⟨z,y,xs,Paired.mapP r fun p q z=>⟨z.1,ht _ _ z.2.1,z.2.2⟩,ob,es,ep,k _ _ (.inl rfl) e,c⟩
 |set S n=>obtain⟨ob,es,ep,t,e,c⟩:=x;exact⟨ob,es,ep,t,k _ _ (.inl rfl) e,c⟩
 |ins C dx fs=>
  obtain⟨d,z,ne,e,mA,⟨od,es,ep,e2,c⟩,r⟩:=x;exact⟨ho _ d,z,ne,k _ _ (.inl rfl) e,mA,⟨od,es,ep,k _ _ (.inr d) e2,c⟩,r⟩
 |own y=>obtain⟨ob,e⟩:=x;exact⟨ob,k _ _ (.inl rfl) e⟩
 |xd fs=>obtain⟨mA,⟨od,es,ep,e,c⟩,r⟩:=x;exact⟨mA,⟨od,es,ep,k _ _ (.inl rfl) e,c⟩,r⟩
 |rng lo hi=>obtain⟨t,u,v,e⟩:=x;exact⟨t,u,v,k _ _ (.inl rfl) e⟩
 |frz ob u ih=>obtain⟨e,q⟩:=x;exact⟨k _ _ (.inl rfl) e,ih q⟩
 |tbl ps=>
  have e:h.get? a=some { cls:=.none,data:=.fields ps }:=x;show h'.get? a=some { cls:=.none,data:=.fields ps };exact k a _ (.inl rfl) e
 |met f y=>
  have e:h.get? a=some (PySem.W.methodObj (.ref f) (.ref y)):=x;show h'.get? a=some (PySem.W.methodObj (.ref f) (.ref y));exact k a _ (.inl rfl) e
 |ext φ=>obtain⟨p,⟨o,e⟩,st⟩:=x;exact⟨st _ _ p fun o q=>k _ _ (.inl rfl) q,⟨o,k _ _ (.inl rfl) e⟩,st⟩
theorem HOk.lt(x:HOk P w H h)(e:H a=some o):a<h.objs.size:=(x a o e).lt
theorem HOk.fresh(x:HOk P w H h)(e:h.objs.size≤a):H a=none:=by
 cases q:H a with
 |none=>rfl
 |some u=>exact absurd (U12 (x.lt q) e) (V17 _)
theorem HOk.kept(x:HOk P w H h)(k:∀ b u,h.get? b=some u→h'.get? b=some u):HOk P w H h':=fun a o e=>
 (x a o e).stay (fun b u _ q=>k b u q) (fun _ q=>q) fun _ _ q=>q
theorem HOk.laid(x:HOk P w H h)(k:∀ b u,h.get? b=some u→h'.get? b=some u)(hp:h.objs.size≤a)(new:ObjOk P w (upd H a o) h' a o):HOk P w (upd H a o) h':=fun b u e=>by
 have hn:=x.fresh hp
 by_cases hb:b=a
 ·subst hb;rw[bI] at e;cases e;exact new
 ·rw[aG hb] at e;exact(x b u e).stay (fun c v _ q=>k c v q) (fun c q=>by rw[aG (aH q hn)];exact q) fun c xs q=>by rw[aG (aH q hn)];exact q
end
def Rd(H:Hp)(a:Addr)(u:HO):Prop:=H a=some u∨∃ o,H a=some (.frz o u)
theorem Rd.ok{P:Program}{w:World}{H:Hp}{h:Heap}{a:Addr}{u:HO}(r:Rd H a u)(x:HOk P w H h):ObjOk P w H h a u:=by
 rcases r with r|⟨o,r⟩
 ·exact x a u r
 ·obtain⟨_,q⟩:=x a _ r;exact q
def Mut:Option HO→Prop
 |some (.lst _)=>True
 |some (.dK _)=>True
 |some (.dT _)=>True
 |some (.set _ _)=>True
 |some (.ins _ _ _)=>True
 |some (.ext _)=>True
 |_=>False
section
variable{P:Program}{w:World}{H:Hp}{h h':Heap}{x e:Addr}{o':HO}
theorem HOk.write(ok:HOk P w H h)(mu:Mut (H x))(he:e=x∨H e=some (.own x))(k:∀ b u,b≠e→h.get? b=some u→h'.get? b=some u)(heo:∃ u,h'.get? e=some u)
  (new:ObjOk P w (upd H x o') h' x o'):HOk P w (upd H x o') h':=fun b u q=>by
 have nown:∀ c y,H c=some (.own y)→c≠x:=fun c y r z=>by subst z;rw[r] at mu;exact mu
 have ntup:∀ c xs,H c=some (.tup xs)→c≠x:=fun c xs r z=>by subst z;rw[r] at mu;exact mu
 by_cases hb:b=x
 ·subst hb;rw[bI] at q;cases q;exact new
 ·rw[aG hb] at q
  by_cases hbe:b=e
  ·have q':H b=some (.own x):=by
    rcases he with z|z
    ·exact absurd (hbe.trans z) hb
    ·rw[hbe];exact z
   rw[q] at q';cases q';obtain⟨v,hv⟩:=heo;exact⟨v,by rw[hbe];exact hv⟩
  ·refine(ok b u q).stay (fun c v hc r=>k c v ?_ r) (fun c r=>by rw[aG (nown c b r)];exact r) fun c xs r=>by rw[aG (ntup c xs r)];exact r
   rcases hc with rfl|hc
   ·exact hbe
   ·rintro rfl;rcases he with z|z
    ·exact nown c b hc z
    ·rw[hc] at z;cases z;exact hb rfl
end
structure Un (fs ex:List Addr) (H H':Hp) (h h':Heap):Prop where
 keep:∀ b o,h.get? b=some o→H b=none→b∉fs→b∉ex→h'.get? b=some o
 slot:∀ b o,h.get? b=some o→H b=none→b∈fs→b∉ex→∃ sl,h'.get? b=some { o with slots:=sl }
 free:∀ b o,h.get? b=some o→H b=none→b∉ex→H' b=none
 there:∀ b o,h.get? b=some o→b∉ex→∃ o',h'.get? b=some o'
 tups:∀ b xs,H b=some (.tup xs)→H' b=some (.tup xs)
 frzs:∀ b o u,H b=some (.frz o u)→H' b=some (.frz o u)
 tbls:∀ b ps,H b=some (.tbl ps)→∃ more,H' b=some (.tbl (ps++more))
section
variable{fs fs' ex ex':List Addr}{H H1 H2:Hp}{h h1 h2 h':Heap}{a x e:Addr}{o:HO}
theorem Un.any(u:Un fs ex H H1 h h1){b:Addr}{ob:Obj}(q:h.get? b=some ob)(n:H b=none)(hx:b∉ex):∃ sl,h1.get? b=some { ob with slots:=sl }:=by
 by_cases hb:b∈fs
 ·exact u.slot b ob q n hb hx
 ·exact⟨ob.slots,u.keep b ob q n hb hx⟩
theorem Un.kept(k:∀ b u,h.get? b=some u→h'.get? b=some u):Un fs ex H H h h':=
 ⟨fun b ob q _ _ _=>k b ob q,fun b ob q _ _ _=>⟨ob.slots,k b ob q⟩,fun _ _ _ n _=>n,fun b ob q _=>⟨ob,k b ob q⟩,fun _ _ q=>q,fun _ _ _ q=>q,fun _ ps q=>⟨#[],by rw[q];simp⟩⟩
theorem Un.refl:Un fs ex H H h h:=Un.kept fun _ _ q=>q
theorem Un.laid(k:∀ b u,h.get? b=some u→h'.get? b=some u)(hp:h.objs.size≤a)(hn:H a=none):Un fs ex H (upd H a o) h h' where
 keep:=fun b u q _ _ _=>k b u q
 slot:=fun b u q _ _ _=>⟨u.slots,k b u q⟩
 free:=fun b u q n _=>by rw[aG (V13 (U12 (W11 q) hp))];exact n
 there:=fun b u q _=>⟨u,k b u q⟩
 tups:=fun b xs q=>by rw[aG (aH q hn)];exact q
 frzs:=fun b u xs q=>by rw[aG (aH q hn)];exact q
 tbls:=fun b ps q=>⟨#[],by rw[aG (aH q hn),q];simp⟩
theorem Un.write(mu:Mut (H x))(he:e=x∨H e=some (.own x))(k:∀ b u,b≠e→h.get? b=some u→h'.get? b=some u)(heo:∃ u,h'.get? e=some u):Un fs ex H (upd H x o) h h':=by
 have hx:∀ b,H b=none→b≠x:=fun b n z=>by subst z;rw[n] at mu;exact mu
 have hb:∀ b,H b=none→b≠e:=fun b n z=>by
  subst z;rcases he with r|r
  ·exact hx b n r
  ·rw[n] at r;cases r
 have hm:∀ b u,H b=some u→¬ Mut (some u)→b≠x:=fun b u q nm z=>by subst z;rw[q] at mu;exact nm mu
 refine⟨fun b u q n _ _=>k b u (hb b n) q,fun b u q n _ _=>⟨u.slots,k b u (hb b n) q⟩,fun b u q n _=>by rw[aG (hx b n)];exact n,fun b u q _=>?_,
  fun b xs q=>by rw[aG (hm b _ q fun z=>z)];exact q,fun b u xs q=>by rw[aG (hm b _ q fun z=>z)];exact q,fun b ps q=>⟨#[],by rw[aG (hm b _ q fun z=>z),q];simp⟩⟩
 by_cases hbe:b=e
 ·subst hbe;exact heo
 ·exact⟨u,k b u hbe q⟩
end
noncomputable def trk(h:Heap)(H:Hp):List Addr:=(List.range h.objs.size).filter fun a=>(H a).isSome
def hidT(h:Heap)(H:Hp):Heap:=PySem.W.hideAll h (trk h H)
theorem zD(h:Heap)(H:Hp):(hidT h H).objs.size=h.objs.size:=PySem.W.hideAll_size _ _
theorem aAY{h:Heap}{H:Hp}{b:Addr}{o:Obj}(e:h.get? b=some o)(n:H b=none):(hidT h H).get? b=some o:=
 PySem.W.hideAll_get _ e fun hm=>by
  have q:(H b).isSome=true:=(List.mem_filter.mp hm).2;rw[n] at q;simp at q
theorem aDD{h:Heap}{H:Hp}{b:Addr}{o:Obj}(e:(hidT h H).get? b=some o):h.get? b=some o∧H b=none:=by
 have e':h.get? b=some o:=PySem.W.of_hideAll (trk h H) e;refine⟨e',?_⟩;cases q:H b with
 |none=>rfl
 |some x=>
  have hm:b∈trk h H:=List.mem_filter.mpr ⟨List.mem_range.mpr (W11 e'),by simp[q]⟩;have z:(hidT h H).get? b=none:=PySem.W.hideAll_none (trk h H) hm;rw[z] at e;cases e
end L2
namespace L2
open PySem PySem.Spec PyProof.Rows
structure Mod (K:Fg9) (mg:Str→Option Value) (base:Heap):Prop where
 kin:K.In base
 glob:base.Ns mainGlobals mg
 blt:∃ mb,base.Ns builtinsNs mb∧∀ x:Str,x≠"__name__"→mb x=bootBuiltins x
 nolimit:base.NoLimit
structure Cx where
 prog:Program
 w:World
 K:Fg9
 mg:Str→Option Value
 base:Heap
 A:Around
 N:List Str
 s₀:Shared
 H₀:Hp
 env:Env
 outer:List Env
 stack:List Env
 ex:List Addr
 fn:Str→Bool
 calm:Bool
 pn:List (Addr×Obj)
 xe:Value→Shared→Prop
noncomputable def frs(l:List Env):List Addr:=l.filterMap (·.frame)
abbrev Cx.fs(X:Cx):List Addr:=frs X.outer
def Vis(sc:Scope)(x:Str):Prop:=sc.names.lookup x=some .local∨sc.names.lookup x=some .cell∨sc.names.lookup x=some .free
def Loc(sc:Scope)(x:Str):Prop:=sc.names.lookup x=some .local∨sc.names.lookup x=some .cell
def Look(env:Env)(h:Heap)(m:Str→Option Value)(x:Str)(u:Value):Prop:=
 (env.kindOf x=some .local∧m x=some u)∨((env.kindOf x=some .cell∨env.kindOf x=some .free)∧∃ c,env.cells.lookup x=some c∧h.IsCell c (some u))
structure Cx.Ok (X:Cx):Prop where
 mod:Mod X.K X.mg X.base
 kind:X.env.scope.kind=.function
 glob:X.env.globals=mainGlobals
 blt:X.env.builtins=builtinsNs
 above:X.s₀.heap.objs.size≤X.env.locals
 inj:∀ x y c,X.env.cells.lookup x=some c→X.env.cells.lookup y=some c→x=y
 has:∀ x,(X.env.kindOf x=some .cell∨X.env.kindOf x=some .free)→∃ c,X.env.cells.lookup x=some c
 cab:∀ x c,X.fn x=true→X.env.cells.lookup x=some c→X.s₀.heap.objs.size≤c
 hd:X.calm=true→X.A.handled=none
 frames:X.A.frames=some X.stack
 stk:X.stack=X.outer∨(X.stack=X.env::X.outer∧X.env.frame=some X.env.locals)
 exf:∀ b∈X.ex,b≠X.env.locals∧∀ x c,X.env.cells.lookup x=some c→c≠b
 bs:∀ b o,X.base.get? b=some o→X.s₀.heap.get? b=some o∧X.H₀ b=none
 bsz:X.base.objs.size≤X.s₀.heap.objs.size
 noex:∀ b o,X.base.get? b=some o→b∉X.ex
 exfs:∀ b∈X.ex,b∉X.fs
 funs:X.s₀.heap.FunFrames X.base X.outer
 frf:∀ b∈X.fs,X.H₀ b=none
structure Inv (X:Cx) (pins:List (Addr×Obj)) (σ:List (Option V)) (H:Hp) (s:Shared):Prop where
 ok:X.Ok
 os:s.os=X.s₀.os
 bare:AllBare s.gens
 base:Un X.fs X.ex X.H₀ H X.s₀.heap s.heap
 loc:∃ m,s.heap.Ns X.env.locals m∧∀ (i:Nat) (x:Str) (v:V),X.N[i]?=some x→σ[i]?=some (some v)→Vis X.env.scope x→∃ u,RelV v u∧Look X.env s.heap m x u
 cell:∀ x c,X.env.cells.lookup x=some c→∃ v,s.heap.IsCell c v
 free:H X.env.locals=none
 freeC:∀ x c,X.env.cells.lookup x=some c→H c=none
 pin:∀ p∈X.pn++pins,s.heap.get? p.1=some p.2∧H p.1=none∧p.1≠X.env.locals∧p.1∉X.fs∧∀ v,p.2.data≠.cell v
 hok:HOk X.prog X.w H s.heap
 len:σ.length=X.N.length
section
variable{X:Cx}{pins:List (Addr×Obj)}{σ:List (Option V)}{H H':Hp}{s:Shared}{h':Heap}
theorem Cx.Ok.nofr(ok:X.Ok){b:Addr}{o:Obj}(e:X.base.get? b=some o):b∉X.fs:=fun hb=>by
 have:=(ok.funs.mem hb).1;rw[e] at this;cases this
theorem Inv.bs(I:Inv X pins σ H s):∀ b o,X.base.get? b=some o→s.heap.get? b=some o∧H b=none:=fun b o e=>
 ⟨I.base.keep b o (I.ok.bs b o e).1 (I.ok.bs b o e).2 (I.ok.nofr e) (I.ok.noex b o e),I.base.free b o (I.ok.bs b o e).1 (I.ok.bs b o e).2 (I.ok.noex b o e)⟩
theorem Inv.bk(I:Inv X pins σ H s):∀ b o,X.base.get? b=some o→s.heap.get? b=some o:=fun b o e=>(I.bs b o e).1
theorem Inv.mod(I:Inv X pins σ H s):Mod X.K X.mg X.base:=I.ok.mod
theorem Inv.kIn(I:Inv X pins σ H s):X.K.In s.heap:=I.ok.mod.kin.keeps I.bk
theorem Inv.lt(I:Inv X pins σ H s):X.env.locals<s.heap.objs.size:=let ⟨_,hn,_⟩:=I.loc;hn.lt
theorem Inv.sz(I:Inv X pins σ H s):X.s₀.heap.objs.size≤s.heap.objs.size:=Z17 I.ok.above (Nat.le_of_lt I.lt)
theorem Inv.nofs(I:Inv X pins σ H s){a:Addr}(h:s.heap.objs.size≤a):a∉X.fs:=fun hb=>by
 obtain⟨_,o,ho,_⟩:=I.ok.funs.mem hb;exact absurd (U12 (W11 ho) (Z17 I.sz h)) (V17 _)
theorem Inv.cne(I:Inv X pins σ H s):∀ x c,X.env.cells.lookup x=some c→c≠X.env.locals:=fun x c e z=>by
 obtain⟨v,o,ho,hd⟩:=I.cell x c e;obtain⟨m,⟨o',es,ep,ho',hd',_⟩,_⟩:=I.loc;rw[z,ho'] at ho;cases ho;rw[hd'] at hd;cases hd
theorem Inv.funs(I:Inv X pins σ H s):s.heap.FunFrames X.base X.outer:=by
 have all:∀ (l:List Env),(∀ b∈frs l,b∈X.fs)→X.s₀.heap.FunFrames X.base l→s.heap.FunFrames X.base l:=by
  intro l
  induction l with
  |nil=>intro _ _;trivial
  |cons env r ih=>
   intro hs hl;obtain⟨hk,⟨L,o,hf,hn,ho,hd⟩,hr⟩:=hl;have hL:L∈X.fs:=hs L (by unfold frs;rw[U22,hf];exact List.mem_cons_self);obtain⟨sl,e⟩:=I.base.slot L o ho (I.ok.frf L hL) hL fun z=>I.ok.exfs L z hL;exact⟨hk,⟨L,_,hf,hn,e,hd⟩,ih (fun b hb=>hs b (by unfold frs;rw[U22,hf];exact U13 _ hb)) hr⟩
 exact all X.outer (fun _ hb=>hb) I.ok.funs
theorem Inv.stack(I:Inv X pins σ H s):s.heap.FunFrames X.base X.stack:=by
 rcases I.ok.stk with e|⟨e,hf⟩
 ·rw[e];exact I.funs
 ·rw[e];obtain⟨m,hn,_⟩:=I.loc;refine .cons (by rw[I.ok.kind];decide) hf hn ?_ I.funs;exact Heap.get?_none_of_le (Z17 I.ok.bsz I.ok.above)
theorem Inv.stkSub(I:Inv X pins σ H s):∀ b∈frs X.stack,b∈X.env.locals::X.fs:=fun b hb=>by
 rcases I.ok.stk with e|⟨e,hf⟩
 ·rw[e] at hb;exact U13 _ hb
 ·rw[e] at hb;unfold frs at hb;rw[U22,hf] at hb;exact hb
theorem Inv.stkFree(I:Inv X pins σ H s):∀ b∈frs X.stack,H b=none:=fun b hb=>by
 rcases W12.mp (I.stkSub b hb) with e|hb
 ·rw[e];exact I.free
 ·obtain⟨_,o,ho,_⟩:=I.ok.funs.mem hb;exact I.base.free b o ho (I.ok.frf b hb) fun z=>I.ok.exfs b z hb
theorem Inv.step{g':Array GenState}{t':Nat}{d':Drawn}{ch:List Addr}(I:Inv X pins σ H s)
  (hch:∀ b∈ch,(b∈X.ex∨X.s₀.heap.objs.size≤b)∧b≠X.env.locals∧(∀ x c,X.env.cells.lookup x=some c→c≠b)∧∀ p∈X.pn++pins,p.1≠b)
  (keep:∀ b o,b≠X.env.locals→b∉X.fs→b∉ch→s.heap.get? b=some o→H b=none→h'.get? b=some o)
  (slot:∀ b o,b≠X.env.locals→b∈X.fs→b∉ch→s.heap.get? b=some o→H b=none→∃ sl,h'.get? b=some { o with slots:=sl })(free:∀ b o,b∉ch→s.heap.get? b=some o→H b=none→H' b=none)
  (there:∀ b o,b∉ch→s.heap.get? b=some o→∃ o',h'.get? b=some o')
  (tups:∀ b xs,H b=some (.tup xs)→H' b=some (.tup xs))(frzs:∀ b o u,H b=some (.frz o u)→H' b=some (.frz o u))(tbls:∀ b ps,H b=some (.tbl ps)→∃ more,H' b=some (.tbl (ps++more)))
  (ns:∀ m,s.heap.Ns X.env.locals m→h'.Ns X.env.locals m)(hok:HOk X.prog X.w H' h')(hg:AllBare g'):
  Inv X pins σ H' { s with heap:=h',gens:=g',drawn:=d',toks:=t' }:=by
 have neL:∀ b o,X.s₀.heap.get? b=some o→b≠X.env.locals:=fun b o e=>V13 (U12 (W11 e) I.ok.above);have neC:∀ b o,X.s₀.heap.get? b=some o→b∉X.ex→b∉ch:=fun b o e hx hb=>by
  rcases (hch b hb).1 with z|z
  ·exact hx z
  ·exact absurd (U12 (W11 e) z) (V17 _)
 have cellK:∀ x c,X.env.cells.lookup x=some c→∀ v,s.heap.IsCell c v→h'.IsCell c v:=fun x c e v ⟨o,ho,hd⟩=>by
  have nch:c∉ch:=fun z=>(hch c z).2.2.1 x c e rfl
  by_cases hc:c∈X.fs
  ·obtain⟨sl,q⟩:=slot c o (I.cne x c e) hc nch ho (I.freeC x c e);exact⟨_,q,hd⟩
  ·exact⟨o,keep c o (I.cne x c e) hc nch ho (I.freeC x c e),hd⟩
 refine⟨I.ok,I.os,hg,⟨fun b o e n hb hx=>?_,fun b o e n hb hx=>?_,fun b o e n hx=>?_,fun b o e hx=>?_,fun b xs e=>tups b xs (I.base.tups b xs e),fun b o xs e=>frzs b o xs (I.base.frzs b o xs e),fun b ps e=>?_⟩,?_,fun x c e=>?_,?_,fun x c e=>?_,fun p hp=>?_,hok,I.len⟩
 ·exact keep b o (neL b o e) hb (neC b o e hx) (I.base.keep b o e n hb hx) (I.base.free b o e n hx)
 ·obtain⟨sl,e1⟩:=I.base.slot b o e n hb hx;obtain⟨sl',e2⟩:=slot b _ (neL b o e) hb (neC b o e hx) e1 (I.base.free b o e n hx);exact⟨sl',e2⟩
 ·obtain⟨o',e1⟩:=I.base.there b o e hx;exact free b o' (neC b o e hx) e1 (I.base.free b o e n hx)
 ·obtain⟨o',e1⟩:=I.base.there b o e hx;exact there b o' (neC b o e hx) e1
 ·obtain⟨m1,e1⟩:=I.base.tbls b ps e;obtain⟨m2,e2⟩:=tbls b _ e1;exact⟨m1++m2,by rw[e2,Array.append_assoc]⟩
 ·obtain⟨m,hn,hl⟩:=I.loc;refine⟨m,ns m hn,fun i x v e1 e2 e3=>?_⟩;obtain⟨u,r,l⟩:=hl i x v e1 e2 e3;refine⟨u,r,?_⟩;rcases l with l|⟨k,c,e,z⟩
  ·exact .inl l
  ·exact .inr ⟨k,c,e,cellK x c e _ z⟩
 ·obtain⟨v,z⟩:=I.cell x c e;exact⟨v,cellK x c e v z⟩
 ·obtain⟨m,⟨o,_,_,ho,_⟩,_⟩:=I.loc;exact free _ o (fun z=>(hch _ z).2.1 rfl) ho I.free
 ·obtain⟨v,o,ho,hd⟩:=I.cell x c e;exact free c o (fun z=>(hch c z).2.2.1 x c e rfl) ho (I.freeC x c e)
 ·obtain⟨e,n,ne,nf,d⟩:=I.pin p hp;have nch:p.1∉ch:=fun z=>(hch p.1 z).2.2.2 p hp rfl;exact⟨keep p.1 p.2 ne nf nch e n,free p.1 p.2 nch e n,ne,nf,d⟩
theorem Inv.un{t':Nat}(I:Inv X pins σ H s)(u:Un X.fs [] H H' s.heap h')(hok:HOk X.prog X.w H' h'):Inv X pins σ H' { s with heap:=h',toks:=t' }:=by
 obtain⟨m,⟨o,es,ep,ho,r⟩,_⟩:=id I.loc;obtain⟨sl,hL⟩:=u.any ho I.free (by simp);exact I.step (g':=s.gens) (d':=s.drawn) (ch:=[]) (fun _ z=>nomatch z) (fun b o _ hb _ e n=>u.keep b o e n hb (by simp)) (fun b o _ hb _ e n=>u.slot b o e n hb (by simp)) (fun b o _ e n=>u.free b o e n (by simp)) (fun b o _ e=>u.there b o e (by simp)) u.tups u.frzs u.tbls (fun m' hm=>by
  obtain⟨o',es',ep',ho',r'⟩:=hm;rw[ho] at ho';cases ho';exact⟨_,es',ep',hL,r'⟩) hok I.bare
theorem Inv.call{g':Array GenState}{t':Nat}{d':Drawn}{ch:List Addr}(I:Inv X pins σ H s)(u:Un (frs X.stack) ch H H' s.heap h')(hok:HOk X.prog X.w H' h')(hg:AllBare g')
  (hch:∀ b∈ch,(b∈X.ex∨X.s₀.heap.objs.size≤b)∧b≠X.env.locals∧(∀ x c,X.env.cells.lookup x=some c→c≠b)∧∀ p∈X.pn++pins,p.1≠b):
  Inv X pins σ H' { s with heap:=h',gens:=g',drawn:=d',toks:=t' }:=by
 obtain⟨m,⟨o,es,ep,ho,r⟩,_⟩:=id I.loc;obtain⟨sl,hL⟩:=u.any ho I.free fun z=>(hch _ z).2.1 rfl;exact I.step (ch:=ch) hch (fun b o hL hb hc e n=>u.keep b o e n (fun z=>(W12.mp (I.stkSub b z)).elim hL hb) hc) (fun b o _ _ hc e n=>u.any e n hc) (fun b o hc e n=>u.free b o e n hc) (fun b o hc e=>u.there b o e hc) u.tups u.frzs u.tbls (fun m' hm=>by
  obtain⟨o',es',ep',ho',r'⟩:=hm;rw[ho] at ho';cases ho';exact⟨_,es',ep',hL,r'⟩) hok hg
theorem Inv.turned{t':Nat}{it:Addr}(I:Inv X pins σ H s)(k:∀ b o,b≠it→s.heap.get? b=some o→h'.get? b=some o)(hn:H it=none)(hL:it≠X.env.locals)
  (h1:it∈X.ex∨X.s₀.heap.objs.size≤it)(h2:∀ x c,X.env.cells.lookup x=some c→c≠it)(h3:∀ p∈X.pn++pins,p.1≠it):Inv X pins σ H { s with heap:=h',toks:=t' }:=by
 have nit:∀ b u,H b=some u→b≠it:=fun b u e z=>by rw[z,hn] at e;cases e
 refine I.step (g':=s.gens) (d':=s.drawn) (ch:=[it]) (fun b hb=>?_) (fun b o _ _ hc e _=>k b o (fun z=>hc (by simp[z])) e) (fun b o _ _ hc e _=>⟨o.slots,k b o (fun z=>hc (by simp[z])) e⟩) (fun _ _ _ _ n=>n)
  (fun b o hc e=>⟨o,k b o (fun z=>hc (by simp[z])) e⟩) (fun _ _ e=>e) (fun _ _ _ e=>e) (fun b ps e=>⟨#[],by rw[e];simp⟩) (fun m hm=>?_) (fun b u e=>?_) I.bare
 ·have e:b=it:=by simpa using hb
  subst e;exact⟨h1,hL,h2,h3⟩
 ·obtain⟨o,es,ep,ho,r⟩:=hm;exact⟨o,es,ep,k _ o (Ne.symm hL) ho,r⟩
 ·refine(I.hok b u e).stay (fun c v hc q=>k c v ?_ q) (fun _ q=>q) fun _ _ q=>q;rcases hc with z|z
  ·rw[z];exact nit b u e
  ·exact nit c _ z
theorem Inv.tok(I:Inv X pins σ H s)(t:Nat):Inv X pins σ H { s with toks:=t }:=I.un (h':=s.heap) (t':=t) Un.refl I.hok
theorem Inv.kept{t':Nat}(I:Inv X pins σ H s)(k:∀ b u,s.heap.get? b=some u→h'.get? b=some u):Inv X pins σ H { s with heap:=h',toks:=t' }:=I.un (Un.kept k) (I.hok.kept k)
theorem Inv.laid{a:Addr}{o:HO}{t':Nat}(I:Inv X pins σ H s)(k:∀ b u,s.heap.get? b=some u→h'.get? b=some u)(hp:s.heap.objs.size≤a)(new:ObjOk X.prog X.w (upd H a o) h' a o):
  Inv X pins σ (upd H a o) { s with heap:=h',toks:=t' }:=I.un (Un.laid k hp (I.hok.fresh hp)) (I.hok.laid k hp new)
theorem Inv.write{x e:Addr}{o:HO}{t':Nat}(I:Inv X pins σ H s)(mu:Mut (H x))(he:e=x∨H e=some (.own x))(k:∀ b u,b≠e→s.heap.get? b=some u→h'.get? b=some u)(heo:∃ u,h'.get? e=some u)
  (new:ObjOk X.prog X.w (upd H x o) h' x o):Inv X pins σ (upd H x o) { s with heap:=h',toks:=t' }:=I.un (Un.write mu he k heo) (I.hok.write mu he k heo new)
theorem Inv.weak{σ':List (Option V)}(I:Inv X pins σ H s)(hl:σ'.length=σ.length)(w:∀ (i:Nat) v,σ'[i]?=some (some v)→σ[i]?=some (some v)):Inv X pins σ' H s:=
 ⟨I.ok,I.os,I.bare,I.base,let ⟨m,hn,hl'⟩:=I.loc;⟨m,hn,fun i x v e1 e2 e3=>hl' i x v e1 (w i v e2) e3⟩,I.cell,I.free,I.freeC,I.pin,I.hok,hl.trans I.len⟩
theorem Inv.pins_of{pins':List (Addr×Obj)}(I:Inv X pins σ H s)(h:∀ p∈pins',s.heap.get? p.1=some p.2∧H p.1=none∧p.1≠X.env.locals∧p.1∉X.fs∧∀ v,p.2.data≠.cell v):Inv X pins' σ H s:=
 ⟨I.ok,I.os,I.bare,I.base,I.loc,I.cell,I.free,I.freeC,fun p hp=>(V27.mp hp).elim (fun z=>I.pin p (V22 _ z)) (h p),I.hok,I.len⟩
theorem tU{N:List Str}(hN:N.Nodup){i j:Nat}{x:Str}(a:N[i]?=some x)(b:N[j]?=some x):i=j:=by
 obtain⟨h1,e1⟩:=Z10.mp a;obtain⟨h2,e2⟩:=Z10.mp b;exact(List.getElem_inj hN).mp (e1.trans e2.symm)
theorem qP{M:Model}{A:Around}{E:Value→Shared→Prop}{i:Nat}{x:Str}{v:V}{u:Value}{Q:Unit→Shared→Prop}(I:Inv X pins σ H s)(hN:X.N.Nodup)(hi:X.N[i]?=some x)(hx:Loc X.env.scope x)(r:RelV v u)
  (h:∀ s',Inv X pins (σ.set i (some v)) H s'→(∃ a,Heap.SameBut a s.heap s'.heap∧(a=X.env.locals∨X.env.cells.lookup x=some a))→Q () s')(hf:X.fn x=true∨X.env.scope.names.lookup x=some .local:=by first|exact .inl rfl|exact .inr rfl|assumption):wpAny M A (storeName X.env x u) Q E s:=by
 obtain⟨m,hn,hl⟩:=id I.loc;have hcls:(X.env.scope.kind==.class || (X.env.scope.kind==.module&&X.env.locals != X.env.globals))=false:=by rw[I.ok.kind];rfl
 have hiσ:i<σ.length:=by rw[I.len];exact(Z10.mp hi).1
 have cne:=I.cne;have tracked:∀ {a:Addr} {h':Heap},(∃ o,s.heap.get? a=some o∧H a=none)→Heap.SameBut a s.heap h'→HOk X.prog X.w H h':=fun {a h'} ha hs b ob e=>by
  obtain⟨_,_,hfree⟩:=ha;refine(I.hok b ob e).stay (fun c w' hc q=>(hs.2 c ?_).trans q) (fun _ q=>q) fun _ _ q=>q;rintro rfl;rcases hc with rfl|hc
  ·rw[hfree] at e;cases e
  ·rw[hfree] at hc;cases hc
 rcases hx with hk|hk
 ·refine wpAny_storeName_local hk hn (fun h' hn' hs=>?_) hcls;obtain⟨oL,_,_,hoL,_⟩:=id hn;refine h _ ⟨I.ok,I.os,I.bare,⟨fun b o e n hb hx=>?_,fun b o e n hb hx=>?_,I.base.free,fun b o e hx=>?_,I.base.tups,I.base.frzs,I.base.tbls⟩,⟨_,hn',fun j y v' e1 e2 e3=>?_⟩,fun y c e=>?_,I.free,I.freeC,fun p hp=>?_,tracked ⟨oL,hoL,I.free⟩ hs,by simpa using I.len⟩ ⟨_,hs, .inl rfl⟩
  ·exact(hs.2 b (V13 (U12 (W11 e) I.ok.above))).trans (I.base.keep b o e n hb hx)
  ·obtain⟨sl,e1⟩:=I.base.slot b o e n hb hx;exact⟨sl,(hs.2 b (V13 (U12 (W11 e) I.ok.above))).trans e1⟩
  ·obtain⟨o',e1⟩:=I.base.there b o e hx;exact⟨o',(hs.2 b (V13 (U12 (W11 e) I.ok.above))).trans e1⟩
  ·by_cases hj:j=i
   ·subst hj;rw[hi] at e1;cases e1;rw[List.getElem?_set_self hiσ] at e2;cases e2;exact⟨u,r, .inl ⟨hk,by simp⟩⟩
   ·rw[List.getElem?_set_ne (Ne.symm hj)] at e2;obtain⟨u',r',q⟩:=hl j y v' e1 e2 e3;refine⟨u',r',?_⟩;rcases q with⟨k,e⟩|⟨k,c,e,z⟩
    ·refine .inl ⟨k,?_⟩;have:y≠x:=fun e=>hj (tU hN e1 (e ▸ hi));simp[this,e]
    ·exact .inr ⟨k,c,e,z.sameBut hs (cne y c e)⟩
  ·obtain⟨w',z⟩:=I.cell y c e;exact⟨w',z.sameBut hs (cne y c e)⟩
  ·obtain⟨e,n,ne,nf,d⟩:=I.pin p hp;exact⟨(hs.2 p.1 ne).trans e,n,ne,nf,d⟩
 ·have hfn:X.fn x=true:=by
   rcases hf with z|z
   ·exact z
   ·rw[z] at hk;cases hk
  obtain⟨c,hc⟩:=I.ok.has x (.inl hk);obtain⟨w',z⟩:=I.cell x c hc;refine wpAny_storeName_cell I.ok.kind hk hc z (fun h' hc' hs=>?_);obtain⟨oc,hoc,hocd⟩:=id z;refine h { s with heap:=h' } ⟨I.ok,I.os,I.bare,⟨fun b o e n hb hx=>?_,fun b o e n hb hx=>?_,I.base.free,fun b o e hx=>?_,I.base.tups,I.base.frzs,I.base.tbls⟩,⟨m,hn.sameBut hs (Ne.symm (cne x c hc)),fun j y v' e1 e2 e3=>?_⟩,fun y c' e=>?_,I.free,I.freeC,fun p hp=>?_,tracked ⟨oc,hoc,I.freeC x c hc⟩ hs,by simpa using I.len⟩ ⟨c,hs, .inr hc⟩
  ·exact(hs.2 b (V13 (U12 (W11 e) (I.ok.cab x c hfn hc)))).trans (I.base.keep b o e n hb hx)
  ·obtain⟨sl,e1⟩:=I.base.slot b o e n hb hx;exact⟨sl,(hs.2 b (V13 (U12 (W11 e) (I.ok.cab x c hfn hc)))).trans e1⟩
  ·obtain⟨o',e1⟩:=I.base.there b o e hx;exact⟨o',(hs.2 b (V13 (U12 (W11 e) (I.ok.cab x c hfn hc)))).trans e1⟩
  ·by_cases hj:j=i
   ·subst hj;rw[hi] at e1;cases e1;rw[List.getElem?_set_self hiσ] at e2;cases e2;exact⟨u,r, .inr ⟨.inl hk,c,hc,hc'⟩⟩
   ·rw[List.getElem?_set_ne (Ne.symm hj)] at e2;obtain⟨u',r',q⟩:=hl j y v' e1 e2 e3;refine⟨u',r',?_⟩;rcases q with q|⟨k,c',e,z'⟩
    ·exact .inl q
    ·refine .inr ⟨k,c',e,z'.sameBut hs ?_⟩;rintro rfl;exact hj (tU hN e1 (I.ok.inj _ _ _ e hc ▸ hi))
  ·by_cases hcc:c'=c
   ·subst hcc;exact⟨_,hc'⟩
   ·obtain⟨w2,z2⟩:=I.cell y c' e;exact⟨w2,z2.sameBut hs hcc⟩
  ·obtain⟨e,n,ne,nf,d⟩:=I.pin p hp;refine⟨(hs.2 p.1 ?_).trans e,n,ne,nf,d⟩;intro q;rw[q,hoc] at e;have q':oc=p.2:=U14 e;exact d w' (by rw[← q'];exact hocd)
theorem jW{M:Model}{A:Around}{E:Value→Shared→Prop}{i:Nat}{x:Str}{v:V}{u:Value}{Q:Unit→Shared→Prop}(I:Inv X pins σ H s)(hN:X.N.Nodup)(hi:X.N[i]?=some x)(hx:Loc X.env.scope x)(r:RelV v u)
  (h:∀ s',Inv X pins (σ.set i (some v)) H s'→Q () s')(hf:X.fn x=true∨X.env.scope.names.lookup x=some .local:=by first|exact .inl rfl|exact .inr rfl|assumption):wpAny M A (storeName X.env x u) Q E s:=
 qP I hN hi hx r (fun s' I' _=>h s' I') hf
theorem Inv.call'{s':Shared}{ch:List Addr}(I:Inv X pins σ H s)(ho:s'.os=s.os)(u:Un (frs X.stack) ch H H' s.heap s'.heap)(hok:HOk X.prog X.w H' s'.heap)(hg:AllBare s'.gens)
  (hch:∀ b∈ch,(b∈X.ex∨X.s₀.heap.objs.size≤b)∧b≠X.env.locals∧(∀ x c,X.env.cells.lookup x=some c→c≠b)∧∀ p∈X.pn++pins,p.1≠b):Inv X pins σ H' s':=by
 obtain⟨h',g',d',t',o'⟩:=s';have e:o'=s.os:=ho;subst e;exact I.call (g':=g') (t':=t') (d':=d') u hok hg hch
end
abbrev XK:=Value→Option Addr→Hp→Prop
abbrev St:=List (Option V)
abbrev VK:=V→Hp→Prop
abbrev TE:=St→Hp→VK→Prop
abbrev TT:=St→Hp→(Bool→Hp→Prop)→Prop
abbrev TA:=St→Hp→(List V→Hp→Prop)→Prop
structure Ends where
 nx:St→Hp→Prop
 rt:VK
 bk:St→Hp→Prop:=fun _ _=>False
 ct:St→Hp→Prop:=fun _ _=>False
abbrev TS:=Ends→St→Hp→Prop
def EP(X:Cx)(pins:List (Addr×Obj))(σ:St)(Q:VK)(u:Value)(s':Shared):Prop:=∃ v H',Inv X pins σ H' s'∧RelV v u∧Q v H'
def TP(X:Cx)(pins:List (Addr×Obj))(σ:St)(Q:Bool→Hp→Prop)(b:Bool)(s':Shared):Prop:=∃ H',Inv X pins σ H' s'∧Q b H'
def AP(X:Cx)(pins:List (Addr×Obj))(σ:St)(Q:List V→Hp→Prop)(us:List Value)(s':Shared):Prop:=∃ vs H',Inv X pins σ H' s'∧Vals vs us∧Q vs H'
def SP(X:Cx)(pins:List (Addr×Obj))(D:Ends)(f:Flow)(s':Shared):Prop:=
 match f with
 | .next=>∃ σ' H',Inv X pins σ' H' s'∧D.nx σ' H'
 | .brk=>∃ σ' H',Inv X pins σ' H' s'∧D.bk σ' H'
 | .cont=>∃ σ' H',Inv X pins σ' H' s'∧D.ct σ' H'
 | .ret u=>∃ v σ' H',Inv X pins σ' H' s'∧RelV v u∧D.rt v H'
def PE(X:Cx)(e:Expr)(t:TE):Prop:=
 ∀ (pins:List (Addr×Obj)) (s:Shared) (σ:St) (H:Hp) (Q:VK),Inv X pins σ H s→t σ H Q→wpAny (model X.prog X.w) X.A (eval e X.env) (EP X pins σ Q) X.xe s
def PT(X:Cx)(e:Expr)(t:TT):Prop:=
 ∀ (pins:List (Addr×Obj)) (s:Shared) (σ:St) (H:Hp) (Q:Bool→Hp→Prop),Inv X pins σ H s→t σ H Q→wpAny (model X.prog X.w) X.A (isTrue e X.env (eval e X.env)) (TP X pins σ Q) X.xe s
def PW(X:Cx)(e:Expr)(t:TT):Prop:=
 ∀ (whole:Sem Value) (pins:List (Addr×Obj)) (s:Shared) (σ:St) (H:Hp) (Q:Bool→Hp→Prop),Inv X pins σ H s→t σ H Q→wpAny (model X.prog X.w) X.A (isTrue e X.env whole) (TP X pins σ Q) X.xe s
theorem PW.pt{X:Cx}{e:Expr}{t:TT}(h:PW X e t):PT X e t:=h _
def PA(X:Cx)(es:List Expr)(t:TA):Prop:=
 ∀ (pos:Pos) (pins:List (Addr×Obj)) (s:Shared) (σ:St) (H:Hp) (Q:List V→Hp→Prop),Inv X pins σ H s→t σ H Q→wpAny (model X.prog X.w) X.A (spliced (backTo pos (starEach es X.env))) (AP X pins σ Q) X.xe s
def PS(X:Cx)(st:Stmt)(t:TS):Prop:=
 ∀ (pins:List (Addr×Obj)) (s:Shared) (σ:St) (H:Hp) (D:Ends),Inv X pins σ H s→t D σ H→wpAny (model X.prog X.w) X.A (exec st X.env) (SP X pins D) X.xe s
def PSs(X:Cx)(st:List Stmt)(t:TS):Prop:=
 ∀ (pins:List (Addr×Obj)) (s:Shared) (σ:St) (H:Hp) (D:Ends),Inv X pins σ H s→t D σ H→wpAny (model X.prog X.w) X.A (execs st X.env) (SP X pins D) X.xe s
theorem thn{α:Type}{t:Sem α}{Q Q':α→Shared→Prop}{M:Model}{A:Around}{E:Value→Shared→Prop}{s:Shared}(h:wpAny M A t Q E s)(hQ:∀ a s,Q a s→Q' a s):wpAny M A t Q' E s:=W22 h hQ fun _ _ x=>x
end L2
namespace L2
open PySem PySem.Spec PyProof.Rows
section
variable{X:Cx}
def tVar(i:Nat):TE:=fun σ H Q=>∃ v,σ[i]?=some (some v)∧Q v H
def tC(v:V):TE:=fun _ H Q=>Q v H
theorem aAZ{i:Nat}{x:Str}{pos:Pos}(hN:X.N[i]?=some x)(hv:Vis X.env.scope x)(hd:(x==("__debug__":Str))=false:=by decide)(hcd:(x==("__classdict__":Str))=false:=by decide):PE X (.Name x pos) (tVar i):=by
 intro pins s σ H Q I h;obtain⟨v,e,h⟩:=h;obtain⟨m,hn,hl⟩:=I.loc;obtain⟨u,r,l⟩:=hl i x v hN e hv;have fin:EP X pins σ Q u s:=⟨v,H,I,r,h⟩;rcases l with⟨hk,hm⟩|⟨hk,c,hc,hcell⟩
 ·exact wpAny_Name (wpAny_loadName_local I.ok.kind hk hn hm fin) hd
 ·rcases hk with hk|hk
  ·exact wpAny_Name (wpAny_loadName_cell I.ok.kind hk hc hcell fin) hd
  ·exact wpAny_Name (wpAny_loadName_free I.ok.kind hk hc hcell fin hcd) hd
theorem aFG{i j pos}:PE X (.Constant (.int i) j pos) (tC (.int i)):=fun _ _ _ H _ I h=>wpAny_Constant_int ⟨.int i,H,I.tok _,⟨_,rfl⟩,h⟩
theorem aIf{b j pos}:PE X (.Constant (.bool b) j pos) (tC (.bl b)):=fun _ _ _ H _ I h=>Constant_bool ⟨.bl b,H,I,rfl,h⟩
theorem aFH{j pos}:PE X (.Constant .none j pos) (tC .non):=fun _ _ _ H _ I h=>Constant_none ⟨.non,H,I,rfl,h⟩
theorem aFI{x j pos}:PE X (.Constant (.str x) j pos) (tC (.str x)):=fun _ _ _ H _ I h=>Calls.Constant_str ⟨.str x,H,I.tok _,⟨_,rfl⟩,h⟩
def Gl(X:Cx)(x:Str):Prop:=X.env.kindOf x=some .globalImplicit
theorem rP{E:Value→Shared→Prop}{pins:List (Addr×Obj)}{s:Shared}{σ:St}{H:Hp}{x:Str}{u:Value}{pos:Pos}{Q:Value→Shared→Prop}(I:Inv X pins σ H s)(hg:Gl X x)(hm:X.mg x=some u)(h:Q u s)
  (hd:(x==("__debug__":Str))=false:=by decide):wpAny (model X.prog X.w) X.A (eval (.Name x pos) X.env) Q E s:=
 Calls.Name_function_global I.ok.kind hg (Calls.loadGlobal_global (by rw[I.ok.glob];exact I.mod.glob.keeps I.bk) hm h) hd
theorem gF{E:Value→Shared→Prop}{pins:List (Addr×Obj)}{s:Shared}{σ:St}{H:Hp}{x:Str}{u:Value}{pos:Pos}{Q:Value→Shared→Prop}(I:Inv X pins σ H s)(hg:Gl X x)(hm:X.mg x=none)(hv:bootBuiltins x=some u)(h:Q u s)
  (hn:x≠"__name__":=by decide)(hd:(x==("__debug__":Str))=false:=by decide):wpAny (model X.prog X.w) X.A (eval (.Name x pos) X.env) Q E s:=by
 obtain⟨mb,h1,h2⟩:=I.mod.blt;exact Calls.Name_function_global I.ok.kind hg (Calls.loadGlobal_builtin (by rw[I.ok.glob];exact I.mod.glob.keeps I.bk) hm (by rw[I.ok.blt];exact h1.keeps I.bk) ((h2 x hn).trans hv) h) hd
theorem aDE{x:Str}{v:V}{u:Value}{pos:Pos}(hg:Gl X x)(hm:X.mg x=some u)(r:RelV v u)(hd:(x==("__debug__":Str))=false:=by decide):PE X (.Name x pos) (tC v):=
 fun _ _ _ H _ I h=>rP I hg hm ⟨v,H,I,r,h⟩ hd
theorem aDF{x:Str}{v:V}{u:Value}{pos:Pos}(hg:Gl X x)(hm:X.mg x=none)(hv:bootBuiltins x=some u)(r:RelV v u)(hn:x≠"__name__":=by decide)(hd:(x==("__debug__":Str))=false:=by decide):PE X (.Name x pos) (tC v):=
 fun _ _ _ H _ I h=>gF I hg hm hv ⟨v,H,I,r,h⟩ hn hd
variable{a b:Expr}{ta tb:TE}{pos:Pos}
variable{tA tB':TT}{rest:List Expr}
def tAnd(t u:TT):TT:=fun σ H Q=>t σ H fun c H1=>if c=true then u σ H1 Q else Q false H1
def tOr(t u:TT):TT:=fun σ H Q=>t σ H fun c H1=>if c=true then Q true H1 else u σ H1 Q
def tNot(t:TT):TT:=fun σ H Q=>t σ H fun c H1=>Q (!c) H1
theorem aDG(ha:PT X a tA):PW X (.BoolOp .And [a] pos) tA:=by
 intro wh pins s σ H Q I h;refine isTrue_and (thn (ha pins s σ H Q I h) fun c s1 e=>?_);cases c with
 |true=>exact isTrue_and_nil e
 |false=>exact e
theorem aFJ(ha:PT X a tA):PW X (.BoolOp .Or [a] pos) tA:=by
 intro wh pins s σ H Q I h;refine isTrue_or (thn (ha pins s σ H Q I h) fun c s1 e=>?_);cases c with
 |false=>exact isTrue_or_nil e
 |true=>exact e
theorem aFK(ha:PT X a tA)(hb:PW X (.BoolOp .And (b::rest) pos) tB'):PW X (.BoolOp .And (a::b::rest) pos) (tAnd tA tB'):=by
 intro wh pins s σ H Q I h;refine isTrue_and (thn (ha pins s σ H _ I h) fun c s1 ⟨H1,I1,q1⟩=>?_);cases c with
 |true=>exact hb wh pins s1 σ H1 Q I1 q1
 |false=>exact⟨H1,I1,q1⟩
theorem aIg(ha:PT X a tA)(hb:PW X (.BoolOp .Or (b::rest) pos) tB'):PW X (.BoolOp .Or (a::b::rest) pos) (tOr tA tB'):=by
 intro wh pins s σ H Q I h;refine isTrue_or (thn (ha pins s σ H _ I h) fun c s1 ⟨H1,I1,q1⟩=>?_);cases c with
 |true=>exact⟨H1,I1,q1⟩
 |false=>exact hb wh pins s1 σ H1 Q I1 q1
theorem aFL(ha:PT X a tA):PT X (.UnaryOp .Not a pos) (tNot tA):=by
 intro pins s σ H Q I h;exact isTrue_not (ha pins s σ H (fun c H1=>Q (!c) H1) I h)
def tAndV(ta tb:TE):TE:=fun σ H Q=>ta σ H fun x H1=>∃ c,x=.bl c∧if c=true then tb σ H1 Q else Q (.bl false) H1
def tOrV(ta tb:TE):TE:=fun σ H Q=>ta σ H fun x H1=>∃ c,x=.bl c∧if c=true then Q (.bl true) H1 else tb σ H1 Q
def tNotV(ta:TE):TE:=fun σ H Q=>ta σ H fun x H1=>∃ c,x=.bl c∧Q (.bl (!c)) H1
theorem aFM{op}{t:TE}(h:PE X a t):PE X (.BoolOp op [a] pos) t:=fun pins s σ H Q I hw=>BoolOp_one (h pins s σ H Q I hw)
theorem aFN(ha:PE X a ta)(hb:PE X (.BoolOp .And (b::rest) pos) tb):PE X (.BoolOp .And (a::b::rest) pos) (tAndV ta tb):=by
 intro pins s σ H Q I h;refine BoolOp_and (thn (ha pins s σ H _ I h) fun v s1 ⟨x,H1,I1,r1,q1⟩=>?_);obtain⟨c,rfl,q1⟩:=q1;cases r1;refine U24 ?_;cases c with
 |true=>exact hb pins s1 σ H1 Q I1 q1
 |false=>exact⟨.bl false,H1,I1,rfl,q1⟩
theorem aIh(ha:PE X a ta)(hb:PE X (.BoolOp .Or (b::rest) pos) tb):PE X (.BoolOp .Or (a::b::rest) pos) (tOrV ta tb):=by
 intro pins s σ H Q I h;refine BoolOp_or (thn (ha pins s σ H _ I h) fun v s1 ⟨x,H1,I1,r1,q1⟩=>?_);obtain⟨c,rfl,q1⟩:=q1;cases r1;refine U24 ?_;cases c with
 |false=>exact hb pins s1 σ H1 Q I1 q1
 |true=>exact⟨.bl true,H1,I1,rfl,q1⟩
theorem aFO(ha:PE X a ta):PE X (.UnaryOp .Not a pos) (tNotV ta):=by
 intro pins s σ H Q I h;refine UnaryOp_ (thn (ha pins s σ H _ I h) fun v s1 ⟨x,H1,I1,r1,q1⟩=>?_);obtain⟨c,rfl,q1⟩:=q1;cases r1;exact not_of (U24 ⟨.bl (!c),H1,I1,rfl,q1⟩)
def tIf(t:TT)(ta tb:TE):TE:=fun σ H Q=>t σ H fun c H1=>if c=true then ta σ H1 Q else tb σ H1 Q
theorem aBa{c:Expr}(hc:PT X c tA)(ha:PE X a ta)(hb:PE X b tb):PE X (.IfExp c a b pos) (tIf tA ta tb):=by
 intro pins s σ H Q I h;refine wpAny_IfExp (thn (hc pins s σ H _ I h) fun d s1 ⟨H1,I1,q1⟩=>?_);cases d with
 |true=>exact ha pins s1 σ H1 Q I1 q1
 |false=>exact hb pins s1 σ H1 Q I1 q1
end
end L2
namespace L2
open PySem PySem.Spec PyProof.Rows
def SqL(K:Fg9)(H:Hp)(a:Addr)(xs:List V):Prop:=
 Rd H a (.lst xs)∨
  ∃ (o:Obj) (its:Array Value) (n:Nat),K.lookup a=some o∧o.cls=.type "list"∧o.dict=none∧o.data=.seq its n∧its.size≤sizeLine∧Vals xs its.toList
def SqT(K:Fg9)(H:Hp)(a:Addr)(xs:List V):Prop:=
 Rd H a (.tup xs)∨
  ∃ (o:Obj) (its:Array Value) (n:Nat),K.lookup a=some o∧o.cls=.type "tuple"∧o.data=.seq its n∧its.size≤sizeLine∧Vals xs its.toList
noncomputable def absV:Value→Option V
 | .none=>some .non
 | .bool b=>some (.bl b)
 | .int i _=>some (.int i)
 | .str x _=>some (.str x)
 | .bytes b _=>some (.byt b)
 | .float b _=>some (.flt b)
 | .ref a=>some (.ref a)
 | .type n=>some (.ty n)
 |_=>none
theorem RelV.abs{x:V}{u:Value}(r:RelV x u):absV u=some x:=by
 cases x with
 |non=>cases r;rfl
 |bl _=>cases r;rfl
 |int _=>obtain⟨t,rfl⟩:=r;rfl
 |str _=>obtain⟨t,rfl⟩:=r;rfl
 |byt _=>obtain⟨t,rfl⟩:=r;rfl
 |flt _=>obtain⟨t,rfl⟩:=r;rfl
 |ref _=>cases r;rfl
 |ty _=>cases r;rfl
theorem RelV.inj{x y:V}{u:Value}(r:RelV x u)(q:RelV y u):x=y:=U14 (r.abs.symm.trans q.abs)
theorem Vals.inj:∀ {xs ys:List V} {us:List Value},Vals xs us→Vals ys us→xs=ys
 |_,_,_, .nil, .nil=>rfl
 |_,_,_, .cons r t, .cons r' t'=>by rw[r.inj r',Vals.inj t t']
section
variable{X:Cx}{pins:List (Addr×Obj)}{σ:St}{H:Hp}{s:Shared}{a:Addr}{xs ys:List V}
theorem SqL.of{K:Fg9}(h:H a=some (.lst xs)):SqL K H a xs:=.inl (.inl h)
theorem SqT.of{K:Fg9}(h:H a=some (.tup xs)):SqT K H a xs:=.inl (.inl h)
theorem Inv.list(I:Inv X pins σ H s)(h:SqL X.K H a xs):∃ its:List Value,Vals xs its∧PlainL s.heap a its.toArray∧xs.length≤sizeLine:=by
 rcases h with h|⟨o,its,n,hk,hc,hd,hs,hz,r⟩
 ·obtain⟨z,its,n,r,e⟩:=h.ok I.hok;exact⟨its,r,⟨_,n,e,rfl,rfl,rfl⟩,z⟩
 ·refine⟨its.toList,r,⟨o,n,I.kIn a o hk,hc,hd,by simpa using hs⟩,?_⟩;have e:=r.length;simp only[Y23] at e
  omega
theorem Inv.tuple(I:Inv X pins σ H s)(h:SqT X.K H a xs):∃ its:List Value,Vals xs its∧IsTup s.heap a its.toArray∧xs.length≤sizeLine:=by
 rcases h with h|⟨o,its,n,hk,hc,hs,hz,r⟩
 ·obtain⟨z,its,r,p⟩:=h.ok I.hok;exact⟨its,r,p,z⟩
 ·refine⟨its.toList,r,⟨o,I.kIn a o hk,hc,n,by simpa using hs⟩,?_⟩;have e:=r.length;simp only[Y23] at e
  omega
theorem Inv.list_inj(I:Inv X pins σ H s)(h:SqL X.K H a xs)(h':SqL X.K H a ys):xs=ys:=by
 obtain⟨its,r,⟨o,n,e,_,_,d⟩,_⟩:=I.list h;obtain⟨its',r',⟨o',n',e',_,_,d'⟩,_⟩:=I.list h';rw[e] at e';cases e';rw[d] at d'
 injection d' with d1 _
 have:its=its':=by simpa using congrArg Array.toList d1
 subst this;exact r.inj r'
theorem Inv.tuple_inj(I:Inv X pins σ H s)(h:SqT X.K H a xs)(h':SqT X.K H a ys):xs=ys:=by
 obtain⟨its,r,⟨o,e,_,n,d⟩,_⟩:=I.tuple h;obtain⟨its',r',⟨o',e',_,n',d'⟩,_⟩:=I.tuple h';rw[e] at e';cases e';rw[d] at d'
 injection d' with d1 _
 have:its=its':=by simpa using congrArg Array.toList d1
 subst this;exact r.inj r'
end
noncomputable abbrev Cx.wish(X:Cx)(E:Value→Shared→Prop):Cx:={ X with xe:=E }
noncomputable abbrev Cx.nox(X:Cx):Cx:=X.wish fun _ _=>False
theorem Cx.Ok.wish{X:Cx}(ok:X.Ok)(E:Value→Shared→Prop):(X.wish E).Ok:=
 ⟨ok.mod,ok.kind,ok.glob,ok.blt,ok.above,ok.inj,ok.has,ok.cab,ok.hd,ok.frames,ok.stk,ok.exf,ok.bs,ok.bsz,ok.noex,ok.exfs,ok.funs,ok.frf⟩
theorem Cx.Ok.unwish{X:Cx}{E:Value→Shared→Prop}(ok:(X.wish E).Ok):X.Ok:=
 ⟨ok.mod,ok.kind,ok.glob,ok.blt,ok.above,ok.inj,ok.has,ok.cab,ok.hd,ok.frames,ok.stk,ok.exf,ok.bs,ok.bsz,ok.noex,ok.exfs,ok.funs,ok.frf⟩
section
variable{X:Cx}{pins:List (Addr×Obj)}{σ:St}{H:Hp}{s:Shared}{E:Value→Shared→Prop}
theorem Inv.wish(I:Inv X pins σ H s)(E:Value→Shared→Prop):Inv (X.wish E) pins σ H s:=⟨I.ok.wish E,I.os,I.bare,I.base,I.loc,I.cell,I.free,I.freeC,I.pin,I.hok,I.len⟩
theorem Inv.unwish(I:Inv (X.wish E) pins σ H s):Inv X pins σ H s:=⟨I.ok.unwish,I.os,I.bare,I.base,I.loc,I.cell,I.free,I.freeC,I.pin,I.hok,I.len⟩
theorem SP.unwish{D:Ends}{f:Flow}{s':Shared}(h:SP (X.wish E) pins D f s'):SP X pins D f s':=by
 cases f with
 |next=>obtain⟨σ',H',I,q⟩:=h;exact⟨σ',H',I.unwish,q⟩
 |brk=>obtain⟨σ',H',I,q⟩:=h;exact⟨σ',H',I.unwish,q⟩
 |cont=>obtain⟨σ',H',I,q⟩:=h;exact⟨σ',H',I.unwish,q⟩
 |ret u=>obtain⟨v,σ',H',I,r,q⟩:=h;exact⟨v,σ',H',I.unwish,r,q⟩
theorem PSs.nox{st:List Stmt}{t:TS}(h:PSs X.nox st t):PSs X st t:=fun pins s σ H D I hw=>
 W22 (h pins s σ H D (I.wish _) hw) (fun _ _ q=>q.unwish) fun _ _ z=>False.elim z
end
section
variable{X:Cx}{st:Stmt}{rest:List Stmt}{t u:TS}{e:Expr}{te:TE}{pos:Pos}
def tNext:TS:=fun D σ H=>D.nx σ H
def tSeq(t u:TS):TS:=fun D σ H=>t { D with nx:=u D } σ H
theorem aDH:PSs X [] tNext:=fun _ _ σ H _ I h=>wpAny_execs_nil ⟨σ,H,I,h⟩
theorem aBb(h1:PS X st t)(h2:PSs X rest u):PSs X (st::rest) (tSeq t u):=by
 intro pins s σ H D I h;refine wpAny_execs_cons (thn (h1 pins s σ H { D with nx:=u D } I h) fun f s1 q=>?_);cases f with
 |next=>
  obtain⟨σ',H',I',q⟩:=q;exact h2 pins s1 σ' H' D I' q
 |ret v=>exact q
 |brk=>exact q
 |cont=>exact q
theorem aDI(h1:PS X st t):PSs X [st] t:=by
 intro pins s σ H D I h;refine wpAny_execs_cons (thn (h1 pins s σ H D I h) fun f s1 q=>?_);cases f with
 |next=>exact wpAny_execs_nil q
 |ret v=>exact q
 |brk=>exact q
 |cont=>exact q
def tBreak:TS:=fun D σ H=>D.bk σ H
def tCont:TS:=fun D σ H=>D.ct σ H
theorem aDJ:PS X (.Pass pos) tNext:=fun _ _ σ H _ I h=>wpAny_Pass ⟨σ,H,I,h⟩
theorem aBc:PS X (.Break pos) tBreak:=fun _ _ σ H _ I h=>wpAny_Break ⟨σ,H,I,h⟩
theorem tV:PS X (.Continue pos) tCont:=fun _ _ σ H _ I h=>wpAny_Continue ⟨σ,H,I,h⟩
theorem Inv.quiet{pins:List (Addr×Obj)}{σ:St}{H:Hp}{s:Shared}(I:Inv X pins σ H s):interactive X.env=false:=by simp[interactive,I.ok.kind]
def tDrop(te:TE):TS:=fun D σ H=>te σ H fun _ H1=>D.nx σ H1
theorem aDK(he:PE X e te)(hs:swapsWith e none pos.line X.env=pure false:=by rfl):PS X (.Expr e pos) (tDrop te):=by
 intro pins s σ H D I h;exact wpAny_Expr_any (thn (he pins s σ H _ I h) fun v s1 ⟨x,H1,I1,r1,q1⟩=>⟨σ,H1,I1,q1⟩) I.quiet hs
def tRet(te:TE):TS:=fun D σ H=>te σ H D.rt
theorem aFP(he:PE X e te):PS X (.Return (some e) pos) (tRet te):=by
 intro pins s σ H D I h;exact wpAny_Return_some (thn (he pins s σ H _ I h) fun v s1 ⟨x,H1,I1,r1,q1⟩=>⟨x,σ,H1,I1,r1,q1⟩)
def tRetN:TS:=fun D _ H=>D.rt .non H
theorem aDL:PS X (.Return none pos) tRetN:=fun _ _ σ H _ I h=>wpAny_Return_none ⟨.non,σ,H,I,rfl,h⟩
def tIfS(c:TT)(t u:TS):TS:=fun D σ H=>c σ H fun b H1=>if b=true then t D σ H1 else u D σ H1
theorem aIi{c:Expr}{a b:List Stmt}{tc:TT}(hc:PT X c tc)(ha:PSs X a t)(hb:PSs X b u):PS X (.If c a b pos) (tIfS tc t u):=by
 intro pins s σ H D I h;refine wpAny_If (thn (hc pins s σ H _ I h) fun d s1 ⟨H1,I1,q1⟩=>?_);cases d with
 |true=>exact ha pins s1 σ H1 D I1 q1
 |false=>exact hb pins s1 σ H1 D I1 q1
end
abbrev TG:=V→St→Hp→(St→Hp→Prop)→Prop
abbrev TGs:=List V→St→Hp→(St→Hp→Prop)→Prop
def PG(X:Cx)(target:Expr)(t:TG):Prop:=
 ∀ (pins:List (Addr×Obj)) (s:Shared) (σ:St) (H:Hp) (v:V) (u:Value) (Q:St→Hp→Prop),Inv X pins σ H s→RelV v u→t v σ H Q→
  wpAny (model X.prog X.w) X.A (assign target X.env u) (fun _ s'=>∃ σ' H',Inv X pins σ' H' s'∧Q σ' H') X.xe s
def PGs(X:Cx)(ts:List Expr)(t:TGs):Prop:=
 ∀ (pins:List (Addr×Obj)) (s:Shared) (σ:St) (H:Hp) (vs:List V) (us:List Value) (Q:St→Hp→Prop),Inv X pins σ H s→Vals vs us→t vs σ H Q→
  wpAny (model X.prog X.w) X.A (assignInOrder ((assignEach ts X.env).map (·.2)) us) (fun _ s'=>∃ σ' H',Inv X pins σ' H' s'∧Q σ' H') X.xe s
abbrev TSet:=V→V→V→Hp→(Hp→Prop)→Prop
def PSet(X:Cx)(t:TSet):Prop:=
 ∀ (pins:List (Addr×Obj)) (s:Shared) (σ:St) (H:Hp) (o i v:V) (ov iv u:Value) (Q:Hp→Prop),Inv X pins σ H s→RelV o ov→RelV i iv→RelV v u→t o i v H Q→
  wpAny (model X.prog X.w) X.A (setItem ov iv u) (fun _ s'=>∃ H',Inv X pins σ H' s'∧Q H') X.xe s
abbrev TIp:=V→V→Hp→VK→Prop
def PIp(X:Cx)(op:Operator)(t:TIp):Prop:=
 ∀ (pins:List (Addr×Obj)) (s:Shared) (σ:St) (H:Hp) (x y:V) (v u:Value) (Q:VK),Inv X pins σ H s→RelV x v→RelV y u→t x y H Q→
  wpAny (model X.prog X.w) X.A (inplaceOp op v u) (EP X pins σ Q) X.xe s
section
variable{X:Cx}{pos:Pos}
def gName(i:Nat):TG:=fun v σ H Q=>Q (σ.set i (some v)) H
theorem xM{i:Nat}{x:Str}(hN:X.N.Nodup)(hi:X.N[i]?=some x)(hx:Loc X.env.scope x)(hf:X.fn x=true∨X.env.scope.names.lookup x=some .local:=by first|exact .inl rfl|exact .inr rfl|assumption):PG X (.Name x pos) (gName i):=by
 intro pins s σ H v u Q I r h;exact wpAny_assign_Name (jW I hN hi hx r (fun s' I'=>⟨_,H,I',h⟩) hf)
def gNil:TGs:=fun vs σ H Q=>vs=[]∧Q σ H
def gCons(t:TG)(u:TGs):TGs:=fun vs σ H Q=>∃ v r,vs=v::r∧t v σ H fun σ' H'=>u r σ' H' Q
theorem xN:PGs X [] gNil:=by
 intro pins s σ H vs us Q I r h;obtain⟨e,h⟩:=h;subst e;cases r;exact assignInOrder_nil ⟨σ,H,I,h⟩
theorem tW{e:Expr}{es:List Expr}{t:TG}{u:TGs}(h1:PG X e t)(h2:PGs X es u)
  (hs:(assignEach (e::es) X.env).map (·.2)=assign e X.env::(assignEach es X.env).map (·.2):=by rfl):PGs X (e::es) (gCons t u):=by
 intro pins s σ H vs us Q I r h;obtain⟨v,vr,e1,h⟩:=h;subst e1;cases r with
 |cons r rr=>
  rw[hs];refine assignInOrder_cons (thn (h1 pins s σ H _ _ _ I r h) fun _ s1 ⟨σ1,H1,I1,q1⟩=>?_);exact h2 pins s1 σ1 H1 _ _ Q I1 rr q1
def gTup(K:Fg9)(n:Nat)(t:TGs):TG:=fun v σ H Q=>∃ a xs,v=.ref a∧SqT K H a xs∧xs.length=n∧t xs σ H Q
theorem aBd{es:List Expr}{k:Nat}{t:TGs}{n:Nat}(hc:X.calm=true)(h:PGs X es t)
  (hn:(assignEach es X.env).length=n:=by rfl)(hst:(assignEach es X.env).findIdx? (·.1)=none:=by rfl):PG X (.Tuple es k pos) (gTup X.K n t):=by
 intro pins s σ H v u Q I r hw;obtain⟨a,xs,e1,hq,hl,hw⟩:=hw;subst e1;cases r;obtain⟨its,rv,ht,hz⟩:=I.tuple hq;refine assign_Tuple_tuple (I.ok.hd hc) ht (by simp[hn,← hl,rv.length]) hst fun h' hx=>?_;have I1:Inv X pins σ H { s with heap:=h' }:=I.kept (t':=s.toks) fun b o e=>hx b o (V13 (W11 e)) e;exact h pins _ σ H xs _ Q I1 (by simpa using rv) hw
def gSub(to ti:TE)(t:TSet):TG:=fun v σ H Q=>to σ H fun o H1=>ti σ H1 fun i H2=>t o i v H2 fun H3=>Q σ H3
theorem aFQ{o i:Expr}{to ti:TE}{t:TSet}(ho:PE X o to)(hi:PE X i ti)(hs:PSet X t)
  (ha:∀ v,assign (.Subscript o i pos) X.env v=(do
   let ov ← holding [v] (eval o X.env)
   let iv ← holding [v,ov] (eval i X.env)
   standAt pos
   holding [v,ov,iv] (setItem ov iv v)
   release [v,ov,iv] []):=by intro _;rfl):PG X (.Subscript o i pos) (gSub to ti t):=by
 intro pins s σ H v u Q I r h;rw[ha];refine Y10 (Z16 (thn (ho pins s σ H _ I h) fun ov s1 ⟨x,H1,I1,r1,q1⟩=>?_));refine Y10 (Z16 (thn (hi pins s1 σ H1 _ I1 q1) fun iv s2 ⟨y,H2,I2,r2,q2⟩=>?_));refine Y10 (Z32 (Y10 (Z16 (thn (hs pins s2 σ H2 x y v ov iv u _ I2 r1 r2 r q2) fun _ s3 ⟨H3,I3,q3⟩=>?_))));exact wpAny_release ⟨σ,H3,I3,q3⟩
def tAsg(te:TE)(g:TG):TS:=fun D σ H=>te σ H fun x H1=>g x σ H1 D.nx
theorem aFR{tg e:Expr}{te:TE}{g:TG}(he:PE X e te)(hg:PG X tg g)(hs:swapsWithSole [tg] e pos.line X.env=pure false:=by rfl)(hw:swappedStores [tg] e X.env=pure none:=by rfl)
  (h1:(assignEach [tg] X.env).map (·.2)=[assign tg X.env]:=by rfl):PS X (.Assign [tg] e pos) (tAsg te g):=by
 intro pins s σ H D I h;refine wpAny_Assign_stores (thn (he pins s σ H _ I h) fun v s1 ⟨x,H1,I1,r1,q1⟩=>?_) hs hw;rw[h1];exact thn (hg pins s1 σ H1 x v _ I1 r1 q1) fun _ s2 q=>q
theorem aFS{i:Nat}{x:Str}{e:Expr}{te:TE}{pos':Pos}(hN:X.N.Nodup)(hi:X.N[i]?=some x)(hx:Loc X.env.scope x)(he:PE X e te)(hs:swapsWith e (some (.Name x pos')) pos.line X.env=pure false:=by rfl)(hf:X.fn x=true∨X.env.scope.names.lookup x=some .local:=by first|exact .inl rfl|exact .inr rfl|assumption):
  PS X (.Assign [.Name x pos'] e pos) (tAsg te (gName i)):=by
 intro pins s σ H D I h;refine wpAny_Assign_Name (thn (he pins s σ H _ I h) fun v s1 ⟨y,H1,I1,r1,q1⟩=>?_) hs;exact jW I1 hN hi hx r1 (fun s2 I2=>⟨_,H1,I2,q1⟩) hf
def tPar(i j:Nat)(ta:TA):TS:=fun D σ H=>ta σ H fun vs H1=>∃ v w,vs=[v,w]∧D.nx ((σ.set i (some v)).set j (some w)) H1
theorem aFT{i j:Nat}{x y:Str}{a b:Expr}{ta:TA}{px py pt:Pos}{kt k2 pt2}(hc:X.calm=true)(hN:X.N.Nodup)(hi:X.N[i]?=some x)(hj:X.N[j]?=some y)(hij:i≠j)
  (hx:X.env.scope.names.lookup x=some .local)(hy:X.env.scope.names.lookup y=some .local)(ha:PA X [a,b] ta)
  (hw:swappedStores [.Tuple [.Name x px, .Name y py] kt pt] (.Tuple [a,b] k2 pt2) X.env=pure (some [x,y]))
  (hs:swapsWithSole [.Tuple [.Name x px, .Name y py] kt pt] (.Tuple [a,b] k2 pt2) pos.line X.env=pure false:=by rfl):
  PS X (.Assign [.Tuple [.Name x px, .Name y py] kt pt] (.Tuple [a,b] k2 pt2) pos) (tPar i j ta):=by
 intro pins s σ H D I h;rw[exec_Assign_arm];refine Y10 (Z32 ?_);rw[hs];refine Y10 (W10 ?_);rw[if_neg (by decide)];refine Y10 (Tuple_ (thn (ha _ pins s σ H _ I h) fun us s1 ⟨vs,H1,I1,r1,q1⟩=>?_));obtain⟨v,w,e1,q1⟩:=q1;subst e1;obtain⟨u1,u2,rfl,rv,rw'⟩:∃ u1 u2,us=[u1,u2]∧RelV v u1∧RelV w u2:=by
  cases r1 with
  |cons p q=>
   cases q with
   |cons p' q'=>
    cases q';exact⟨_,_,rfl,p,p'⟩
 refine W14 ?_ (by show 2≤sizeLine;decide);have I2:Inv X pins σ H1 { s1 with heap:=s1.heap.push { cls:=.type "tuple",data:=.seq [u1,u2].toArray } }:=I1.kept (t':=s1.toks) fun b o e=>V10 _ e;rw[hw];refine Y10 (W10 ?_);show wpAny (model X.prog X.w) X.A (do rule "assign.swapped-stores";let items ← unpackItems (.ref s1.heap.objs.size) 2 none;assignInOrder [fun v=>bindName X.env y v,fun v=>bindName X.env x v] items.reverse;pure Flow.next) _ _ _;refine Y10 (Z35 (Y10 (unpackItems_tuple (items:=#[u1,u2]) (I.ok.hd hc) (IsTup.new s1.heap _) fun h' hx'=>?_)));have I3:=I2.kept (h':=h') (t':=s1.toks) fun b o e=>hx' b o (V13 (W11 e)) e;show wpAny _ _ (assignInOrder [fun v=>bindName X.env y v,fun v=>bindName X.env x v] [u2,u1] >>=fun _=>pure Flow.next) _ _ _;refine Y10 (assignInOrder_cons (wpAny_bindName (jW I3 hN hj (.inl hy) rw' (fun s2 I4=>?_) (.inr hy))));refine assignInOrder_cons (wpAny_bindName (jW I4 hN hi (.inl hx) rv (fun s3 I5=>assignInOrder_nil (W10 ?_)) (.inr hx)));rw[List.set_comm _ _ (Ne.symm hij)] at I5;exact⟨_,H1,I5,q1⟩
def tAug(i:Nat)(te:TE)(ti:TIp):TS:=fun D σ H=>∃ x,σ[i]?=some (some x)∧te σ H fun y H1=>ti x y H1 fun z H2=>D.nx (σ.set i (some z)) H2
theorem aFU{i:Nat}{x:Str}{e:Expr}{te:TE}{op:Operator}{ti:TIp}{pos':Pos}(hN:X.N.Nodup)(hi:X.N[i]?=some x)(hx:Loc X.env.scope x)(he:PE X e te)(ho:PIp X op ti)(hf:X.fn x=true∨X.env.scope.names.lookup x=some .local:=by first|exact .inl rfl|exact .inr rfl|assumption):
  PS X (.AugAssign (.Name x pos') op e pos) (tAug i te ti):=by
 intro pins s σ H D I h;obtain⟨v,e1,h⟩:=h;obtain⟨m,hn,hl⟩:=I.loc;have vis:Vis X.env.scope x:=by rcases hx with k|k;exact .inl k;exact .inr (.inl k)
 obtain⟨u,r,l⟩:=hl i x v hi e1 vis;refine wpAny_AugAssign_Name ?_;have go:wpAny (model X.prog X.w) X.A (eval e X.env) (fun w s₂=>wpAny (model X.prog X.w) X.A (inplaceOp op u w) (fun r s₃=>wpAny (model X.prog X.w) X.A (storeName X.env x r) (fun _=>SP X pins D .next) X.xe s₃) X.xe s₂) X.xe s:=by
  refine thn (he pins s σ H _ I h) fun w s1 ⟨y,H1,I1,r1,q1⟩=>?_;refine thn (ho pins s1 σ H1 v y u w _ I1 r r1 q1) fun z s2 ⟨zv,H2,I2,r2,q2⟩=>?_;exact jW I2 hN hi hx r2 (fun s3 I3=>⟨_,H2,I3,q2⟩) hf
 rcases l with⟨hk,hm⟩|⟨hk,c,hc,hcell⟩
 ·exact wpAny_loadName_local I.ok.kind hk hn hm go
 ·rcases hk with hk|hk
  ·exact wpAny_loadName_cell I.ok.kind hk hc hcell go
  ·rcases hx with k|k
   ·have:X.env.scope.names.lookup x=some .free:=hk;rw[k] at this;cases this
   ·have:X.env.scope.names.lookup x=some .free:=hk;rw[k] at this;cases this
end
section
variable{X:Cx}{pos:Pos}
def tWhile(c:TT)(tb:TS):TS:=fun D σ H=>∃ W:Nat→St→Hp→Prop,(∃ m,W m σ H)∧∀ m σ H,W m σ H→
 c σ H fun b H1=>if b=true then ∃ N:St→Hp→Prop,(∀ σ' H',N σ' H'→∃ m',m'<m∧W m' σ' H')∧tb { D with nx:=N,ct:=N,bk:=D.nx } σ H1 else D.nx σ H1
theorem aBe{c:Expr}{body:List Stmt}{tc:TT}{tb:TS}(hp:PassesOwn (model X.prog X.w) X.A X.env X.xe)(hc:PT X c tc)(hb:PSs X body tb):PS X (.While c body [] pos) (tWhile tc tb):=by
 intro pins s σ H D I h;obtain⟨W,⟨m0,w0⟩,turn⟩:=h;refine wpAny_While (codeAny_whileLoop (fun n s'=>∃ σ' H',Inv X pins σ' H' s'∧W n σ' H') ?_ m0 ⟨σ,H,I,w0⟩);rintro n s1 ⟨σ1,H1,I1,w1⟩;refine Y25 hp (thn (hc pins s1 σ1 H1 _ I1 (turn n σ1 H1 w1)) fun b s2 ⟨H2,I2,q2⟩=>?_);cases b with
 |true=>
  obtain⟨N,hN,q2⟩:=q2;rw[if_pos rfl];refine Y25 hp (thn (hb pins s2 σ1 H2 _ I2 q2) fun f s3 q3=>?_);cases f with
  |next=>
   obtain⟨σ3,H3,I3,n3⟩:=q3;obtain⟨m',hm,w3⟩:=hN σ3 H3 n3;exact⟨m',hm,σ3,H3,I3,w3⟩
  |cont=>
   obtain⟨σ3,H3,I3,n3⟩:=q3;obtain⟨m',hm,w3⟩:=hN σ3 H3 n3;exact⟨m',hm,σ3,H3,I3,w3⟩
  |brk=>exact q3
  |ret v=>exact q3
 |false=>
  rw[if_neg V14];exact wpAny_execs_nil ⟨σ1,H2,I2,q2⟩
end
structure It where
 go:Nat→Hp→Prop
 yld:Nat→Hp→V→Hp→Prop
 stop:Nat→Hp→Prop
def FpOk(X:Cx)(pins:List (Addr×Obj))(H:Hp)(b:Addr):Prop:=
 H b=none∧b≠X.env.locals∧b∉X.fs∧(b∈X.ex∨X.s₀.heap.objs.size≤b)∧(∀ x c,X.env.cells.lookup x=some c→c≠b)∧∀ p∈X.pn++pins,p.1≠b
theorem Inv.fpOk{X:Cx}{pins:List (Addr×Obj)}{σ:St}{H H':Hp}{s:Shared}{b:Addr}(I:Inv X pins σ H s)(hb:s.heap.objs.size≤b)(hn:H' b=none):FpOk X pins H' b:=by
 refine⟨hn,W20 (U12 I.lt hb),I.nofs hb, .inr (Z17 I.sz hb),fun x c e z=>?_,fun p hp z=>?_⟩
 ·obtain⟨v,q⟩:=I.cell x c e;exact absurd (U12 q.lt (by rw[z];exact hb)) (V17 _)
 ·exact absurd (U12 (W11 (I.pin p hp).1) (by rw[z];exact hb)) (V17 _)
structure Turn (P:Program) (w:World) (K:Fg9) (tg:Expr) (J:It) (fp:List Addr) (it:Addr) (tn:Nat→Heap→Prop):Prop where
 mem:it∈fp
 obj:∀ i h,tn i h→∀ b∈fp,∃ o,h.get? b=some o∧∀ v,o.data≠.cell v
 keep:∀ i h h',tn i h→(∀ b∈fp,∀ o,h.get? b=some o→h'.get? b=some o)→tn i h'
 item:∀ (X:Cx),X.prog=P→X.w=w→X.K=K→X.calm=true→∀ (i:Nat) (pins:List (Addr×Obj)) (s:Shared) (σ:St) (H:Hp) (E:Value→Shared→Prop),Inv X pins σ H s→(∀ b∈fp,FpOk X pins H b)→tn i s.heap→J.go i H→
  wpAny (model P w) X.A (pyNext (.ref it)) (fun r s1=>∃ u,r=some u∧
   wpAny (model P w) X.A (letOwnedTupleGo tg (.ref it) u) (fun _ s2=>∃ x H',Inv X pins σ H' s2∧RelV x u∧J.yld i H x H'∧tn (i+1) s2.heap∧∀ b∈fp,H' b=none) E s1) E s
 done:∀ (X:Cx),X.prog=P→X.w=w→X.K=K→X.calm=true→∀ (i:Nat) (pins:List (Addr×Obj)) (s:Shared) (σ:St) (H:Hp) (E:Value→Shared→Prop),Inv X pins σ H s→(∀ b∈fp,FpOk X pins H b)→tn i s.heap→J.stop i H→
  wpAny (model P w) X.A (pyNext (.ref it)) (fun r s1=>r=none∧Inv X pins σ H s1) E s
 self:∀ (A:Around) (i:Nat) (s:Shared) (Q:Value→Shared→Prop) (E:Value→Shared→Prop),tn i s.heap→Q (.ref it) s→wpAny (model P w) A (pyIter (.ref it)) Q E s
abbrev TI:=St→Hp→(It→Hp→Prop)→Prop
def PIE(X:Cx)(pins:List (Addr×Obj))(σ:St)(tg:Expr)(R:It→Hp→Prop)(itv:Value)(s2:Shared):Prop:=
 ∃ (it:Addr) (fp:List Addr) (tn:Nat→Heap→Prop) (J:It) (H':Hp),itv=.ref it∧Inv X pins σ H' s2∧Turn X.prog X.w X.K tg J fp it tn∧tn 0 s2.heap∧(∀ b∈fp,FpOk X pins H' b)∧R J H'
def PI(X:Cx)(tg iter:Expr)(wi:TI):Prop:=
 ∀ (pins:List (Addr×Obj)) (s:Shared) (σ:St) (H:Hp) (R:It→Hp→Prop),Inv X pins σ H s→wi σ H R→
  wpAny (model X.prog X.w) X.A (eval iter X.env) (fun v s1=>wpAny (model X.prog X.w) X.A (pyIter v) (PIE X pins σ tg R) X.xe s1) X.xe s
theorem xO{M:Model}{A:Around}{E:Value→Shared→Prop}{s:Shared}{tg:Expr}{it:Addr}{u:Value}{o:Obj}{n:String}{vs:Array Value}{Q:Unit→Shared→Prop}(ho:s.heap.get? it=some o)(hc:o.cls=.type n)(hd:o.data=.fields vs)
  (hn:["enumerate","zip","dict_itemiterator","dict_reverseitemiterator","odict_iterator","itertools.zip_longest","itertools.pairwise"].contains n=false)(hQ:Q () s):wpAny M A (letOwnedTupleGo tg (.ref it) u) Q E s:=by
 unfold letOwnedTupleGo;cases tg<;>first
  |exact W10 hQ
  |(cases u<;>first
    |exact W10 hQ
    |(refine Y10 (wpAny_load ho ?_)
      rw[hc,hd];show wpAny M A (if(["enumerate","zip","dict_itemiterator","dict_reverseitemiterator","odict_iterator","itertools.zip_longest","itertools.pairwise"].contains n&&vs[0]?==some (rawInt _))=true then _ else _) Q E s;rw[if_neg (by intro h;rw[hn,Bool.false_and] at h;cases h)];exact W10 hQ))
noncomputable def Itl(K:Fg9)(a:Addr):It:=
 ⟨fun i H=>∃ xs x,SqL K H a xs∧xs[i]?=some x,fun i H x H'=>H'=H∧∀ xs,SqL K H a xs→xs[i]?=some x,fun i H=>∃ xs,SqL K H a xs∧xs.length≤i⟩
noncomputable def Itt(K:Fg9)(a:Addr):It:=
 ⟨fun i H=>∃ xs x,SqT K H a xs∧xs[i]?=some x,fun i H x H'=>H'=H∧∀ xs,SqT K H a xs→xs[i]?=some x,fun i H=>∃ xs,SqT K H a xs∧xs.length≤i⟩
noncomputable def Itr(lo:Int)(n:Nat):It:=⟨fun i _=>i<n,fun i H x H'=>H'=H∧x=.int (lo+i),fun i _=>n≤i⟩
theorem zE{P:Program}{w:World}{K:Fg9}{tg:Expr}(a it:Addr):Turn P w K tg (Itl K a) [it] it (fun i h=>h.IsListIter it a i) where
 mem:=by simp
 obj:=fun i h st b hb=>by
  have e:b=it:=by simpa using hb
  subst e;obtain⟨o,e,c,d⟩:=st;exact⟨o,e,fun v z=>by rw[d] at z;cases z⟩
 keep:=fun i h h' st k=>st.at fun o e=>k it (by simp) o e
 item:=by
  intro X hP hw hK hc i pins s σ H E I hf st hg;subst hP hw hK;obtain⟨xs,x,hq,hx⟩:=hg;obtain⟨its,rv,p,hz⟩:=I.list hq;obtain⟨u,hu,ru⟩:=rv.get hx;obtain⟨f0,f1,f2,f3,f4,f5⟩:=hf it (by simp);refine wpAny_pyNext_list_item st p.isList (x:=u) (by simpa using hu) fun h' st' sb=>?_;have I1:Inv X pins σ H { s with heap:=h' }:=I.turned (t':=s.toks) (fun b o hb e=>(sb.2 b hb).trans e) f0 f1 f3 f4 f5;obtain⟨o,e,c,d⟩:=id st';exact⟨u,rfl,xO (s:={ s with heap:=h' }) e c d (by decide) ⟨x,H,I1,ru,⟨rfl,fun ys hy=>by rw[I.list_inj hy hq];exact hx⟩,st',fun b hb=>(hf b hb).1⟩⟩
 done:=by
  intro X hP hw hK hc i pins s σ H E I hf st hg;subst hP hw hK;obtain⟨xs,hq,hx⟩:=hg;obtain⟨its,rv,p,hz⟩:=I.list hq;obtain⟨f0,f1,f2,f3,f4,f5⟩:=hf it (by simp);have hl:=rv.length;exact wpAny_pyNext_list_end (I.ok.hd hc) st p.isList (by simp;omega) fun h' eb=>⟨rfl,I.turned (t':=s.toks) (fun b o hb e=>eb b o hb e) f0 f1 f3 f4 f5⟩
 self:=fun _ _ _ _ _ st h=>wpAny_pyIter_listiter st h
theorem vN{P:Program}{w:World}{K:Fg9}{tg:Expr}(a it:Addr):Turn P w K tg (Itt K a) [it] it (fun i h=>h.IsTupleIter it a i) where
 mem:=by simp
 obj:=fun i h st b hb=>by
  have e:b=it:=by simpa using hb
  subst e;obtain⟨o,e,c,d⟩:=st;exact⟨o,e,fun v z=>by rw[d] at z;cases z⟩
 keep:=fun i h h' st k=>st.at fun o e=>k it (by simp) o e
 item:=by
  intro X hP hw hK hc i pins s σ H E I hf st hg;subst hP hw hK;obtain⟨xs,x,hq,hx⟩:=hg;obtain⟨its,rv,p,hz⟩:=I.tuple hq;obtain⟨u,hu,ru⟩:=rv.get hx;obtain⟨f0,f1,f2,f3,f4,f5⟩:=hf it (by simp);refine wpAny_pyNext_tuple_item st (show s.heap.IsTuple a its.toArray from p) (x:=u) (by simpa using hu) fun h' st' sb=>?_;have I1:Inv X pins σ H { s with heap:=h' }:=I.turned (t':=s.toks) (fun b o hb e=>(sb.2 b hb).trans e) f0 f1 f3 f4 f5;obtain⟨o,e,c,d⟩:=id st';exact⟨u,rfl,xO (s:={ s with heap:=h' }) e c d (by decide) ⟨x,H,I1,ru,⟨rfl,fun ys hy=>by rw[I.tuple_inj hy hq];exact hx⟩,st',fun b hb=>(hf b hb).1⟩⟩
 done:=by
  intro X hP hw hK hc i pins s σ H E I hf st hg;subst hP hw hK;obtain⟨xs,hq,hx⟩:=hg;obtain⟨its,rv,p,hz⟩:=I.tuple hq;obtain⟨f0,f1,f2,f3,f4,f5⟩:=hf it (by simp);have hl:=rv.length;exact wpAny_pyNext_tuple_end (I.ok.hd hc) st (show s.heap.IsTuple a its.toArray from p) (by simp;omega) fun h' eb=>⟨rfl,I.turned (t':=s.toks) (fun b o hb e=>eb b o hb e) f0 f1 f3 f4 f5⟩
 self:=fun _ _ _ _ _ st h=>wpAny_pyIter_tupleiter st h
theorem vO{P:Program}{w:World}{K:Fg9}{tg:Expr}(it:Addr)(lo:Int)(n:Nat):Turn P w K tg (Itr lo n) [it] it (fun i h=>IsRangeIter h it (lo+(i:Nat) * 1) ((n:Int) - (i:Nat)) 1) where
 mem:=by simp
 obj:=fun i h st b hb=>by
  have e:b=it:=by simpa using hb
  subst e;exact⟨_,st,fun v z=>by
   have z':Data.fields _=Data.cell v:=z;cases z'⟩
 keep:=fun i h h' st k=>k it (by simp) _ st
 item:=by
  intro X hP hw hK hc i pins s σ H E I hf st hg;subst hP hw hK;obtain⟨f0,f1,f2,f3,f4,f5⟩:=hf it (by simp);have W:=Walks.range (prog:=X.prog) (w:=X.w) (I.ok.hd hc) it lo 1 n;refine W.item i s _ _ hg st fun v h' tk hv st' kk=>?_;obtain⟨t,rfl⟩:=hv;have I1:Inv X pins σ H { s with heap:=h',toks:=tk }:=I.turned (fun b o hb e=>kk b o (by simpa using hb) e) f0 f1 f3 f4 f5;refine⟨_,rfl,xO (s:={ s with heap:=h',toks:=tk }) (n:="range_iterator") st' rfl rfl (by decide) ⟨.int (lo+i),H,I1,⟨t,?_⟩,⟨rfl,rfl⟩,st',fun b hb=>(hf b hb).1⟩⟩;rw[Int.mul_one]
 done:=by
  intro X hP hw hK hc i pins s σ H E I hf st hg;subst hP hw hK;obtain⟨f0,f1,f2,f3,f4,f5⟩:=hf it (by simp);exact wpAny_pyNext_range_end (I.ok.hd hc) st (by have:n≤i:=hg;omega) fun h' eb=>⟨rfl,I.turned (t':=s.toks) (fun b o hb e=>eb b o hb e) f0 f1 f3 f4 f5⟩
 self:=fun _ _ _ _ _ st h=>wpAny_pyIter_rangeiter st h
end L2
namespace L2
open PySem PySem.Spec PyProof.Rows
section
variable{X:Cx}{tg:Expr}
def iList(K:Fg9)(tl:TE):TI:=fun σ H R=>tl σ H fun x H1=>∃ a,x=.ref a∧(∃ xs,SqL K H1 a xs)∧R (Itl K a) H1
def iTup(K:Fg9)(tl:TE):TI:=fun σ H R=>tl σ H fun x H1=>∃ a,x=.ref a∧(∃ xs,SqT K H1 a xs)∧R (Itt K a) H1
theorem aDM{l:Expr}{tl:TE}(hl:PE X l tl):PI X tg l (iList X.K tl):=by
 intro pins s σ H R I h;refine thn (hl pins s σ H _ I h) fun v s1 ⟨x,H1,I1,r1,q1⟩=>?_;obtain⟨a,e,⟨xs,hq⟩,q⟩:=q1;subst e;cases r1;obtain⟨its,rv,p,hz⟩:=I1.list hq;refine wpAny_pyIter_list p.isList ?_;refine⟨s1.heap.objs.size,[s1.heap.objs.size],_,_,H1,rfl,I1.kept (t':=s1.toks) fun b o e=>V10 _ e,zE a _,⟨_,V11 _ rfl,rfl,rfl⟩,fun b hb=>?_,q⟩;have e:b=s1.heap.objs.size:=by simpa using hb
 subst e;exact I1.fpOk (Y12 _) (I1.hok.fresh (Y12 _))
theorem aFV{l:Expr}{tl:TE}(hl:PE X l tl):PI X tg l (iTup X.K tl):=by
 intro pins s σ H R I h;refine thn (hl pins s σ H _ I h) fun v s1 ⟨x,H1,I1,r1,q1⟩=>?_;obtain⟨a,e,⟨xs,hq⟩,q⟩:=q1;subst e;cases r1;obtain⟨its,rv,p,hz⟩:=I1.tuple hq;refine Y24 (show s1.heap.IsTuple a its.toArray from p) ?_;refine⟨s1.heap.objs.size,[s1.heap.objs.size],_,_,H1,rfl,I1.kept (t':=s1.toks) fun b o e=>V10 _ e,vN a _,⟨_,V11 _ rfl,rfl,rfl⟩,fun b hb=>?_,q⟩;have e:b=s1.heap.objs.size:=by simpa using hb
 subst e;exact I1.fpOk (Y12 _) (I1.hok.fresh (Y12 _))
theorem aBf{pins:List (Addr×Obj)}{σ:St}{H:Hp}{s:Shared}{R:It→Hp→Prop}{E:Value→Shared→Prop}{lo hi:Int}{t u v:Tok}{tk:Nat}(I:Inv X pins σ H s)(h1:-(2 ^ 62)≤lo)(h2:lo<2 ^ 62)(h3:-(2 ^ 62)≤hi)(h4:hi<2 ^ 62)
  (q:R (Itr lo (hi - lo).toNat) H):wpAny (model X.prog X.w) X.A (pyIter (.ref s.heap.objs.size)) (PIE X pins σ tg R) E { s with heap:=s.heap.push { cls:=.type "range",data:=.fields #[.int lo t, .int hi u, .int 1 v] },toks:=tk }:=by
 refine wpAny_pyIter_range (IsRange.new ..) (small_one h1 h2 h3 h4) ?_;have I1:Inv X pins σ H { s with heap:=s.heap.push { cls:=.type "range",data:=.fields #[.int lo t, .int hi u, .int 1 v] },toks:=tk }:=I.kept fun b o e=>V10 _ e;refine⟨(s.heap.push { cls:=.type "range",data:=.fields #[.int lo t, .int hi u, .int 1 v] }).objs.size,[(s.heap.push { cls:=.type "range",data:=.fields #[.int lo t, .int hi u, .int 1 v] }).objs.size],_,_,H,rfl,
  I1.kept (t':=tk) fun b o e=>V10 _ e,vO _ lo (hi - lo).toNat,?_,fun b hb=>?_,q⟩
 ·have e1:lo+((0:Nat):Int) * 1=lo:=by simp
  have e2:(((hi - lo).toNat:Nat):Int) - ((0:Nat):Int)=Builtin.Range.rangeSize lo hi 1:=by rw[rangeSize_one];split<;>omega
  show IsRangeIter _ _ (lo+((0:Nat):Int) * 1) ((((hi - lo).toNat:Nat):Int) - ((0:Nat):Int)) 1;rw[e1,e2];exact V11 _ rfl
 ·have e:b=(s.heap.push { cls:=.type "range",data:=.fields #[.int lo t, .int hi u, .int 1 v] }).objs.size:=by simpa using hb
  subst e;exact I1.fpOk (Y12 _) (I1.hok.fresh (Y12 _))
def iRng1(ta:TA):TI:=fun σ H R=>ta σ H fun vs H1=>∃ j:Int,vs=[.int j]∧-(2 ^ 62)≤j∧j<2 ^ 62∧R (Itr 0 j.toNat) H1
theorem zF{a:Expr}{ta:TA}{p pos:Pos}(hg:Gl X "range")(hm:X.mg "range"=none)(ha:PA X [a] ta)(hs:starEach [a] X.env=[(false,eval a X.env)]:=by rfl):PI X tg (.Call (.Name "range" p) [a] [] pos) (iRng1 ta):=by
 intro pins s σ H R I h;refine Call_ (gF I hg hm boot_range (Y16 (thn (ha pos pins s σ H _ I h) fun us s1 ⟨vs,H1,I1,r1,q1⟩=>?_) hs rfl));obtain⟨j,e,q1,q2,q⟩:=q1;subst e;cases r1 with
 |cons r rr=>
  cases rr;obtain⟨t,rfl⟩:=r;exact call_range_1 (aBf I1 (by omega) (by omega) q1 q2 (by simpa using q))
def tFor(wi:TI)(g:TG)(tb:TS):TS:=fun D σ H=>wi σ H fun J H1=>∃ W:Nat→Nat→St→Hp→Prop,(∃ m,W 0 m σ H1)∧∀ i m σ H,W i m σ H→
 (J.stop i H∧D.nx σ H)∨(J.go i H∧∃ N:St→Hp→Prop,(∀ σ' H',N σ' H'→∃ m',m'<m∧W (i+1) m' σ' H')∧∀ x H',J.yld i H x H'→g x σ H' fun σ2 H2=>tb { D with nx:=N,ct:=N,bk:=D.nx } σ2 H2)
noncomputable def pinsAt(fp:List Addr)(h:Heap):List (Addr×Obj):=fp.filterMap fun b=>(h.get? b).map fun o=>(b,o)
theorem bY{fp:List Addr}{h:Heap}{b:Addr}{o:Obj}(hb:b∈fp)(e:h.get? b=some o):(b,o)∈pinsAt fp h:=List.mem_filterMap.mpr ⟨b,hb,by rw[e];rfl⟩
theorem zG{fp:List Addr}{h:Heap}{p:Addr×Obj}(hp:p∈pinsAt fp h):p.1∈fp∧h.get? p.1=some p.2:=by
 obtain⟨b,hb,e⟩:=List.mem_filterMap.mp hp;cases q:h.get? b with
 |none=>rw[q] at e;cases e
 |some o=>
  rw[q] at e;have e':(b,o)=p:=U14 e;subst e';exact⟨hb,q⟩
theorem Inv.pinned{pins:List (Addr×Obj)}{σ:St}{H:Hp}{s:Shared}{fp:List Addr}(I:Inv X pins σ H s)(hf:∀ b∈fp,FpOk X pins H b)(ho:∀ b∈fp,∃ o,s.heap.get? b=some o∧∀ v,o.data≠.cell v):Inv X (pins++pinsAt fp s.heap) σ H s:=
 I.pins_of fun p hp=>(V27.mp hp).elim (fun z=>I.pin p (U11 _ z)) fun z=>by
  obtain⟨hb,e⟩:=zG z;obtain⟨f0,f1,f2,_⟩:=hf p.1 hb;obtain⟨o,e',d⟩:=ho p.1 hb;rw[e] at e';cases e';exact⟨e,f0,f1,f2,d⟩
theorem Inv.unpinned{pins pl:List (Addr×Obj)}{σ:St}{H:Hp}{s:Shared}(I:Inv X (pins++pl) σ H s):Inv X pins σ H s:=I.pins_of fun p hp=>I.pin p (U11 _ (V22 _ hp))
theorem aFW{iter:Expr}{body:List Stmt}{wi:TI}{g:TG}{tb:TS}{pos:Pos}(hp:PassesOwn (model X.prog X.w) X.A X.env X.xe)(hc:X.calm=true)(hi:PI X tg iter wi)(hg:PG X tg g)(hb:PSs X body tb)
  (hs:∀ x,foldedSetIterable iter X.env x=pure x:=by intro _;rfl):PS X (.For tg iter body [] pos) (tFor wi g tb):=by
 intro pins s σ H D I h;refine wpAny_For (thn (hi pins s σ H _ I h) fun v s1 h1=>thn h1 fun itv s2 h2=>?_) hs;obtain⟨it,fp,tn,J,H2,e,I2,T,st2,f2,W,⟨m0,w0⟩,turn⟩:=h2;subst e;have stat:∀ {H':Hp},(∀ b∈fp,H' b=none)→∀ b∈fp,FpOk X pins H' b:=fun hn b hb=>⟨hn b hb,(f2 b hb).2⟩;refine codeAny_forLoop_any (fun n s'=>∃ i σ' H',Inv X pins σ' H' s'∧tn i s'.heap∧(∀ b∈fp,H' b=none)∧W i n σ' H') ?_ m0 ⟨0,σ,H2,I2,st2,fun b hb=>(f2 b hb).1,w0⟩;rintro n s3 ⟨i,σ3,H3,I3,st3,fr3,w3⟩;rcases turn i n σ3 H3 w3 with⟨stop,qn⟩|⟨go,N,hN,step⟩
 ·refine Y25 hp (thn (T.done X rfl rfl rfl hc i pins s3 σ3 H3 X.xe I3 (stat fr3) st3 stop) fun r s4 ⟨hr,I4⟩=>?_);subst hr;exact wpAny_execs_nil ⟨σ3,H3,I4,qn⟩
 ·refine Y25 hp (thn (T.item X rfl rfl rfl hc i pins s3 σ3 H3 X.xe I3 (stat fr3) st3 go) fun r s4 ⟨u,hr,h4⟩=>?_);subst hr;refine Y25 hp (thn h4 fun _ s5 ⟨x,H5,I5,r5,y5,st5,fr5⟩=>?_);have I5':=I5.pinned (stat fr5) (T.obj _ _ st5);refine Y25 hp (thn (hg _ s5 σ3 H5 x u _ I5' r5 (step x H5 y5)) fun _ s6 ⟨σ6,H6,I6,q6⟩=>?_);refine Y25 hp (thn (hb _ s6 σ6 H6 _ I6 q6) fun f s7 q7=>?_);have again:∀ {σ7:St} {H7:Hp},Inv X (pins++pinsAt fp s5.heap) σ7 H7 s7→N σ7 H7→∃ m,m<n∧∃ i σ' H',Inv X pins σ' H' s7∧tn i s7.heap∧(∀ b∈fp,H' b=none)∧W i m σ' H':=fun {σ7 H7} I7 n7=>by
   obtain⟨m',hm,w7⟩:=hN σ7 H7 n7;refine⟨m',hm,i+1,σ7,H7,I7.unpinned,T.keep _ _ _ st5 fun b hb o e=>(I7.pin (b,o) (U11 _ (U11 _ (bY hb e)))).1,fun b hb=>?_,w7⟩;obtain⟨o,e,d⟩:=T.obj _ _ st5 b hb;exact(I7.pin (b,o) (U11 _ (U11 _ (bY hb e)))).2.1
  cases f with
  |next=>obtain⟨σ7,H7,I7,n7⟩:=q7;exact again I7 n7
  |cont=>obtain⟨σ7,H7,I7,n7⟩:=q7;exact again I7 n7
  |brk=>obtain⟨σ7,H7,I7,q7⟩:=q7;exact⟨σ7,H7,I7.unpinned,q7⟩
  |ret v=>obtain⟨x7,σ7,H7,I7,r7,q7⟩:=q7;exact⟨x7,σ7,H7,I7.unpinned,r7,q7⟩
end
end L2
namespace L2
open PySem PySem.Spec PyProof.Rows
abbrev R2:=V→V→Hp→VK→Prop
def OpR(X:Cx)(f:Value→Value→Sem Value)(r:R2):Prop:=
 ∀ (pins:List (Addr×Obj)) (s:Shared) (σ:St) (H:Hp) (x y:V) (v u:Value) (Q:VK),Inv X pins σ H s→RelV x v→RelV y u→r x y H Q→
  wpAny (model X.prog X.w) X.A (f v u) (EP X pins σ Q) X.xe s
def UnR(X:Cx)(f:Value→Sem Value)(r:V→Hp→VK→Prop):Prop:=
 ∀ (pins:List (Addr×Obj)) (s:Shared) (σ:St) (H:Hp) (x:V) (v:Value) (Q:VK),Inv X pins σ H s→RelV x v→r x H Q→
  wpAny (model X.prog X.w) X.A (f v) (EP X pins σ Q) X.xe s
def CallR(X:Cx)(f:Value)(r:List V→Hp→VK→Prop):Prop:=
 ∀ (pins:List (Addr×Obj)) (s:Shared) (σ:St) (H:Hp) (xs:List V) (us:List Value) (Q:VK),Inv X pins σ H s→Vals xs us→r xs H Q→
  wpAny (model X.prog X.w) X.A (call f us) (EP X pins σ Q) X.xe s
def TruR(X:Cx)(r:V→Hp→(Bool→Hp→Prop)→Prop):Prop:=
 ∀ (pins:List (Addr×Obj)) (s:Shared) (σ:St) (H:Hp) (x:V) (v:Value) (Q:Bool→Hp→Prop),Inv X pins σ H s→RelV x v→r x H Q→
  wpAny (model X.prog X.w) X.A (truthy v) (TP X pins σ Q) X.xe s
def tOp(r:R2)(ta tb:TE):TE:=fun σ H Q=>ta σ H fun x H1=>tb σ H1 fun y H2=>r x y H2 Q
def tUn(r:V→Hp→VK→Prop)(ta:TE):TE:=fun σ H Q=>ta σ H fun x H1=>r x H1 Q
def rI(C:Int→Int→Prop)(g:Int→Int→V):R2:=fun x y H Q=>∃ i j,x=.int i∧y=.int j∧C i j∧Q (g i j) H
def rI0(g:Int→Int→V):R2:=fun x y H Q=>∃ i j,x=.int i∧y=.int j∧Q (g i j) H
def rU(g:Int→V):V→Hp→VK→Prop:=fun x H Q=>∃ i,x=.int i∧Q (g i) H
section
variable{X:Cx}{a b c:Expr}{ta tb tc:TE}{pos:Pos}
theorem binT(ha:PE X a ta)(hb:PE X b tb){pins:List (Addr×Obj)}{s:Shared}{σ:St}{H:Hp}{R:V→V→Hp→Prop}(I:Inv X pins σ H s)
  (h:ta σ H fun x H1=>tb σ H1 fun y H2=>R x y H2){Q:Value→Shared→Prop}{f:Value→Value→Sem Value}
  (hf:∀ v u s2 x y H2,Inv X pins σ H2 s2→RelV x v→RelV y u→R x y H2→wpAny (model X.prog X.w) X.A (f v u) Q X.xe s2):
  wpAny (model X.prog X.w) X.A (eval a X.env) (fun v s₁=>wpAny (model X.prog X.w) X.A (eval b X.env) (fun u s₂=>wpAny (model X.prog X.w) X.A (f v u) Q X.xe s₂) X.xe s₁) X.xe s:=by
 refine thn (ha pins s σ H _ I h) fun v s1 ⟨x,H1,I1,r1,q1⟩=>?_;refine thn (hb pins s1 σ H1 _ I1 q1) fun u s2 ⟨y,H2,I2,r2,q2⟩=>?_;exact hf v u s2 x y H2 I2 r1 r2 q2
theorem aIj{op:Operator}{r:R2}(ho:OpR X (binaryOp op) r)(ha:PE X a ta)(hb:PE X b tb):PE X (.BinOp a op b pos) (tOp r ta tb):=by
 intro pins s σ H Q I h;exact wpAny_BinOp (binT ha hb I h fun v u s2 x y H2 I2 rx ry q=>ho pins s2 σ H2 x y v u Q I2 rx ry q)
theorem aIk{op:UnaryOp}{r:V→Hp→VK→Prop}(ho:UnR X (unaryOp op) r)(ha:PE X a ta):PE X (.UnaryOp op a pos) (tUn r ta):=by
 intro pins s σ H Q I h;exact UnaryOp_ (thn (ha pins s σ H _ I h) fun v s1 ⟨x,H1,I1,r1,q1⟩=>ho pins s1 σ H1 x v Q I1 r1 q1)
theorem opI{f:Value→Value→Sem Value}{C:Int→Int→Prop}{g:Int→Int→Int}
  (rule:∀ (i j:Int) (t u:Tok) (s:Shared) (Q:Value→Shared→Prop) (E:Value→Shared→Prop),C i j→Q (.int (g i j) s.toks) { s with toks:=s.toks+1 }→wpAny (model X.prog X.w) X.A (f (.int i t) (.int j u)) Q E s):
  OpR X f (rI C fun i j=>.int (g i j)):=by
 intro pins s σ H x y v u Q I rx ry h;obtain⟨i,j,rfl,rfl,hc,q⟩:=h;obtain⟨t,rfl⟩:=rx;obtain⟨t',rfl⟩:=ry;exact rule i j t t' s _ _ hc ⟨.int (g i j),H,I.tok _,⟨_,rfl⟩,q⟩
theorem opI0{f:Value→Value→Sem Value}{g:Int→Int→Int}
  (rule:∀ (i j:Int) (t u:Tok) (s:Shared) (Q:Value→Shared→Prop) (E:Value→Shared→Prop),Q (.int (g i j) s.toks) { s with toks:=s.toks+1 }→wpAny (model X.prog X.w) X.A (f (.int i t) (.int j u)) Q E s):
  OpR X f (rI0 fun i j=>.int (g i j)):=by
 intro pins s σ H x y v u Q I rx ry h;obtain⟨i,j,rfl,rfl,q⟩:=h;obtain⟨t,rfl⟩:=rx;obtain⟨t',rfl⟩:=ry;exact rule i j t t' s _ _ ⟨.int (g i j),H,I.tok _,⟨_,rfl⟩,q⟩
theorem opB0{f:Value→Value→Sem Value}{g:Int→Int→Bool}
  (rule:∀ (i j:Int) (t u:Tok) (s:Shared) (Q:Value→Shared→Prop) (E:Value→Shared→Prop),Q (.bool (g i j)) s→wpAny (model X.prog X.w) X.A (f (.int i t) (.int j u)) Q E s):
  OpR X f (rI0 fun i j=>.bl (g i j)):=by
 intro pins s σ H x y v u Q I rx ry h;obtain⟨i,j,rfl,rfl,q⟩:=h;obtain⟨t,rfl⟩:=rx;obtain⟨t',rfl⟩:=ry;exact rule i j t t' s _ _ ⟨.bl (g i j),H,I,rfl,q⟩
def CDiv(i j:Int):Prop:=0<j∧j<1073741824
def CPow(i j:Int):Prop:=0≤j∧j≤1000000∧i.natAbs<2 ^ 64
def CMul(i j:Int):Prop:=(-(2 ^ 64)<i∧i<2 ^ 64)∨(-(2 ^ 64)<j∧j<2 ^ 64)
theorem CMul.ok{i j:Int}(h:CMul i j):IntMulOk i j:=by
 rcases h with⟨h1,h2⟩|⟨h1,h2⟩
 ·exact .of_left (intBits_le_64 h1 h2)
 ·exact .of_right (intBits_le_64 h1 h2)
theorem aFX:OpR X (binaryOp .Add) (rI0 fun i j=>.int (i+j)):=opI0 fun _ _ _ _ _ _ _ q=>add_int q
theorem aFY:OpR X (binaryOp .Sub) (rI0 fun i j=>.int (i - j)):=opI0 fun _ _ _ _ _ _ _ q=>sub_int q
theorem aFZ:OpR X (binaryOp .Mult) (rI CMul fun i j=>.int (i * j)):=opI fun _ _ _ _ _ _ _ hc q=>mul_int q hc.ok
theorem aDN:OpR X (binaryOp .FloorDiv) (rI CDiv fun i j=>.int (i / j)):=opI fun i j _ _ _ _ _ hc q=>by
 have h1:(0:Int)<j:=hc.1;have h2:j<1073741824:=hc.2;exact floordiv_int (by omega) (by rw[Int.fdiv_eq_ediv_of_nonneg i (by omega)];exact q) (.inl (PyProof.noPylong_small (by omega)))
theorem aGa:OpR X (binaryOp .Mod) (rI (fun _ j=>0<j) fun i j=>.int (i % j)):=opI fun i j _ _ _ _ _ hc q=>by
 have h1:(0:Int)<j:=hc;exact mod_int' (by omega) (by rw[Int.fmod_eq_emod_of_nonneg i (by omega)];exact q)
theorem aGb:OpR X (binaryOp .Pow) (rI CPow fun i j=>.int (i ^ j.toNat)):=opI fun _ _ _ _ _ _ _ hc q=>pow_int_small hc.1 hc.2.1 hc.2.2 q
theorem aDO:OpR X (inplaceOp .Add) (rI0 fun i j=>.int (i+j)):=opI0 fun _ _ _ _ _ _ _ q=>iadd_int q
theorem aDP:OpR X (inplaceOp .Sub) (rI0 fun i j=>.int (i - j)):=opI0 fun _ _ _ _ _ _ _ q=>isub_int q
theorem unI{f:Value→Sem Value}{g:Int→Int}
  (rule:∀ (i:Int) (t:Tok) (s:Shared) (Q:Value→Shared→Prop) (E:Value→Shared→Prop),Q (.int (g i) s.toks) { s with toks:=s.toks+1 }→wpAny (model X.prog X.w) X.A (f (.int i t)) Q E s):
  UnR X f (rU fun i=>.int (g i)):=by
 intro pins s σ H x v Q I rx h;obtain⟨i,rfl,q⟩:=h;obtain⟨t,rfl⟩:=rx;exact rule i t s _ _ ⟨.int (g i),H,I.tok _,⟨_,rfl⟩,q⟩
theorem aGc:UnR X (unaryOp .USub) (rU fun i=>.int (-i)):=unI fun _ _ _ _ _ q=>neg_int q
end
section
variable{X:Cx}{a b c:Expr}{ta tb tc:TE}{pos:Pos}
theorem vP{pins:List (Addr×Obj)}{σ:St}{H:Hp}{s:Shared}{Q:VK}{k k':Bool}(I:Inv X pins σ H s)(q:Q (.bl k) H)(e:k=k'):EP X pins σ Q (.bool k') s:=by
 subst e;exact⟨.bl k,H,I,rfl,q⟩
theorem aIl:OpR X (compareOp .Lt) (rI0 fun i j=>.bl (decide (i<j))):=opB0 fun _ _ _ _ _ _ _ q=>lt_int q
theorem aIm:OpR X (compareOp .LtE) (rI0 fun i j=>.bl (decide (i≤j))):=opB0 fun _ _ _ _ _ _ _ q=>le_int q
theorem aIn:OpR X (compareOp .Gt) (rI0 fun i j=>.bl (decide (j<i))):=opB0 fun _ _ _ _ _ _ _ q=>gt_int q
theorem aIo:OpR X (compareOp .GtE) (rI0 fun i j=>.bl (decide (j≤i))):=opB0 fun _ _ _ _ _ _ _ q=>ge_int q
theorem zH:OpR X (compareOp .In) (fun x y H Q=>∃ i j,x=.str i∧y=.str j∧Q (.bl (!(Builtin.Str.occurrences j i 0 j.length 1).isEmpty)) H):=by
 intro pins s σ H x y v u Q I rx ry h;obtain⟨i,j,rfl,rfl,q⟩:=h;obtain⟨t,rfl⟩:=rx;obtain⟨t',rfl⟩:=ry;exact in_str (vP I q rfl)
theorem aGd:OpR X (compareOp .Is) (fun x y H Q=>y=.non∧Q (.bl (decide (x=.non))) H):=by
 intro pins s σ H x y v u Q I rx ry h;obtain⟨rfl,q⟩:=h;cases ry;refine is_none_gen (vP I q ?_);cases x<;>first
  |(cases rx;rfl)
  |(obtain⟨t,rfl⟩:=rx;rfl)
theorem rQ:OpR X (compareOp .NotIn) (fun x y H Q=>∃ i j,x=.str i∧y=.str j∧Q (.bl (!(!(Builtin.Str.occurrences j i 0 j.length 1).isEmpty))) H):=by
 intro pins s σ H x y v u Q I rx ry h;obtain⟨i,j,rfl,rfl,q⟩:=h;obtain⟨t,rfl⟩:=rx;obtain⟨t',rfl⟩:=ry;exact notIn_str (vP I q rfl)
theorem OpR.or{f:Value→Value→Sem Value}{r r':R2}(h:OpR X f r)(h':OpR X f r'):OpR X f (fun x y H Q=>r x y H Q∨r' x y H Q):=by
 intro pins s σ H x y v u Q I rx ry q;rcases q with q|q
 ·exact h pins s σ H x y v u Q I rx ry q
 ·exact h' pins s σ H x y v u Q I rx ry q
theorem aDQ{op:CmpOp}{r:R2}(ho:OpR X (compareOp op) r)(ha:PE X a ta)(hb:PE X b tb)(hm:behindInMarks op b=false):PE X (.Compare a [op] [b] pos) (tOp r ta tb):=by
 intro pins s σ H Q I h;exact wpAny_Compare1 (binT ha hb I h fun v u s2 x y H2 I2 rx ry q=>ho pins s2 σ H2 x y v u Q I2 rx ry q) hm
def tTest(t:TE):TT:=fun σ H Q=>t σ H fun x H'=>∃ k,x=.bl k∧Q k H'
theorem aDR{op:CmpOp}{r:R2}(ho:OpR X (compareOp op) r)(ha:PE X a ta)(hb:PE X b tb)(hm:behindInMarks op b=false):PT X (.Compare a [op] [b] pos) (tTest (tOp r ta tb)):=by
 intro pins s σ H Q I h;refine wpAny_isTrue_Compare1 (thn (ha pins s σ H _ I h) fun v s1 ⟨x,H1,I1,r1,q1⟩=>thn (hb pins s1 σ H1 _ I1 q1) fun u s2 ⟨y,H2,I2,r2,q2⟩=>
  thn (ho pins s2 σ H2 x y v u _ I2 r1 r2 q2) fun c s3 ⟨z,H3,I3,r3,k,e,q3⟩=>?_) hm
 subst e;cases r3;exact U24 ⟨H3,I3,q3⟩
def TruV(K:Fg9)(x:V)(H:Hp)(k:Bool):Prop:=
 match x with
 | .non=>k=false
 | .bl b=>k=b
 | .int i=>k=(i != 0)
 | .str y=>y.length≤sizeLine∧k=((y.length:Int) != 0)
 | .byt y=>y.size≤sizeLine∧k=((y.size:Int) != 0)
 | .ref p=>(∃ xs,SqL K H p xs∧k=!xs.isEmpty)∨(∃ xs,SqT K H p xs∧k=!xs.isEmpty)∨∃ kvs,H p=some (.dK kvs)∧k=!kvs.isEmpty
 |_=>False
theorem vQ{κ:Type}{kvs:List (κ×V)}{vs:List (κ×Value)}(r:KV kvs vs):(!vs.isEmpty)=!kvs.isEmpty:=by
 cases r<;>rfl
theorem oO{xs:List V}{its:List Value}(r:Vals xs its):(!its.toArray.isEmpty)=!xs.isEmpty:=by
 cases r<;>simp
theorem line63:(sizeLine:Nat)<2 ^ 63:=by rw[Y14];decide
theorem aGe:TruR X (fun x H Q=>∃ k,TruV X.K x H k∧Q k H):=by
 intro pins s σ H x v Q I rx h;obtain⟨k,e,q⟩:=h;have hl:=line63;have hs:sizeLine=16777216:=Y14;cases x with
 |non=>
  cases rx;have e':k=false:=e;subst e';exact truthy_none ⟨H,I,q⟩
 |bl b=>
  cases rx;have e':k=b:=e;subst e';exact U24 ⟨H,I,q⟩
 |int i=>
  obtain⟨t,rfl⟩:=rx;have e':k=(i != 0):=e;subst e';exact PySem.P.truthy_int ⟨H,I,q⟩
 |str y=>
  obtain⟨t,rfl⟩:=rx;obtain⟨hy,e'⟩:y.length≤sizeLine∧k=((y.length:Int) != 0):=e;subst e';exact PySem.P.truthy_str (by omega) ⟨H,I.tok _,q⟩
 |byt y=>
  obtain⟨t,rfl⟩:=rx;obtain⟨hy,e'⟩:y.size≤sizeLine∧k=((y.size:Int) != 0):=e;subst e';exact PySem.W.truthy_bytes (by omega) ⟨H,I.tok _,q⟩
 |ref p=>
  cases rx;have e':(∃ xs,SqL X.K H p xs∧k=!xs.isEmpty)∨(∃ xs,SqT X.K H p xs∧k=!xs.isEmpty)∨∃ kvs,H p=some (.dK kvs)∧k=!kvs.isEmpty:=e;rcases e' with⟨xs,hx,e'⟩|⟨xs,hx,e'⟩|⟨kvs,hx,e'⟩
  ·subst e';obtain⟨its,r,pl,hz⟩:=I.list hx;have hlen:=r.length;exact wpAny_truthy_list pl.isList (by simp only[Y11];omega) ⟨H,I.tok _,by rw[oO r];exact q⟩
  ·subst e';obtain⟨its,r,pl,hz⟩:=I.tuple hx;have hlen:=r.length;exact truthy_tuple pl (by simp only[Y11];omega) ⟨H,I.tok _,by rw[oO r];exact q⟩
  ·subst e';obtain⟨hz,hS,vs,r,m⟩:kvs.length≤sizeLine∧(p==sysModules)=false∧∃ vs,KV kvs vs∧s.heap.DictOf (mixKind X.prog X.w) p vs:=I.hok p _ hx;have hlen:kvs.length=vs.length:=Paired.length r;exact wpAny_truthy_dict hS m (by omega) ⟨H,I.tok _,by rw[vQ r];exact q⟩
 |_=>exact(show False from e).elim
theorem aBg(ha:PE X a ta)(he:∀ whole,isTrue a X.env whole=(do let v ← whole;standAt a.pos;holding [v] (truthy v))):
  PT X a (fun σ H Q=>ta σ H fun x H'=>∃ k,TruV X.K x H' k∧Q k H'):=by
 intro pins s σ H Q I h;exact isTrue_plain (thn (ha pins s σ H _ I h) fun v s1 ⟨x,H1,I1,r1,q1⟩=>aGe pins s1 σ H1 x v Q I1 r1 q1) (he _)
theorem vR:OpR X (binaryOp .Add) (fun x y H Q=>∃ i j,x=.str i∧y=.str j∧i.length+j.length≤sizeLine∧Q (.str (i++j)) H):=by
 intro pins s σ H x y v u Q I rx ry h;obtain⟨i,j,rfl,rfl,hz,q⟩:=h;obtain⟨t,rfl⟩:=rx;obtain⟨t',rfl⟩:=ry;exact add_str (fun t' tk=>⟨.str (i++j),H,I.tok _,⟨_,rfl⟩,q⟩) hz
theorem tX:OpR X (inplaceOp .Add) (fun x y H Q=>∃ i j,x=.str i∧y=.str j∧i.length+j.length≤sizeLine∧Q (.str (i++j)) H):=by
 intro pins s σ H x y v u Q I rx ry h;obtain⟨i,j,rfl,rfl,hz,q⟩:=h;obtain⟨t,rfl⟩:=rx;obtain⟨t',rfl⟩:=ry;exact iadd_str (fun t' tk=>⟨.str (i++j),H,I.tok _,⟨_,rfl⟩,q⟩) hz
theorem vals1{x:V}{us:List Value}(r:Vals [x] us):∃ u,us=[u]∧RelV x u:=by
 cases r with
 |cons r1 r2=>cases r2;exact⟨_,rfl,r1⟩
theorem vals2{x y:V}{us:List Value}(r:Vals [x,y] us):∃ u w',us=[u,w']∧RelV x u∧RelV y w':=by
 cases r with
 |cons r1 r2=>
  cases r2 with
  |cons r3 r4=>cases r4;exact⟨_,_,rfl,r1,r3⟩
theorem zI(hc:X.calm=true):CallR X (.builtin "max") (fun xs H Q=>∃ i j,xs=[.int i, .int j]∧Q (.int (if j > i then j else i)) H):=by
 intro pins s σ H xs us Q I r h;obtain⟨i,j,rfl,q⟩:=h;obtain⟨u,w',rfl,⟨t,rfl⟩,⟨t',rfl⟩⟩:=vals2 r;refine max_two_ints (I.ok.hd hc) fun h' tk k=>⟨_,H,I.kept k,?_,q⟩
 by_cases hj:j > i
 ·rw[if_pos hj,if_pos hj];exact⟨_,rfl⟩
 ·rw[if_neg hj,if_neg hj];exact⟨_,rfl⟩
theorem zJ:CallR X (.type "int") (fun xs H Q=>(∃ i,xs=[.int i]∧Q (.int i) H)∨∃ k,xs=[.bl k]∧Q (.int (if k then 1 else 0)) H):=by
 intro pins s σ H xs us Q I r h;rcases h with⟨i,rfl,q⟩|⟨k,rfl,q⟩
 ·obtain⟨u,rfl,t,rfl⟩:=vals1 r;exact call_int_int ⟨.int i,H,I,⟨_,rfl⟩,q⟩
 ·obtain⟨u,rfl,r1⟩:=vals1 r;cases r1;exact call_int_bool ⟨.int (if k then 1 else 0),H,I.tok _,⟨_,rfl⟩,q⟩
def LenV(K:Fg9)(x:V)(H:Hp)(n:Nat):Prop:=
 match x with
 | .str y=>y.length≤sizeLine∧n=y.length
 | .byt y=>y.size≤sizeLine∧n=y.size
 | .ref p=>(∃ xs,SqL K H p xs∧n=xs.length)∨∃ xs,SqT K H p xs∧n=xs.length
 |_=>False
theorem aBh:CallR X (.builtin "len") (fun xs H Q=>∃ x n,xs=[x]∧LenV X.K x H n∧Q (.int n) H):=by
 intro pins s σ H xs us Q I r h;obtain⟨x,n,rfl,e,q⟩:=h;obtain⟨u,rfl,rx⟩:=vals1 r;have hl:=line63;have hs:sizeLine=16777216:=Y14;cases x with
 |str y=>
  obtain⟨t,rfl⟩:=rx;obtain⟨hy,e'⟩:y.length≤sizeLine∧n=y.length:=e;subst e';exact len_str (by omega) ⟨.int _,H,I.tok _,⟨_,rfl⟩,q⟩
 |byt y=>
  obtain⟨t,rfl⟩:=rx;obtain⟨hy,e'⟩:y.size≤sizeLine∧n=y.size:=e;subst e';exact PySem.W.len_bytes (by omega) ⟨.int _,H,I.tok _,⟨_,rfl⟩,q⟩
 |ref p=>
  cases rx;have e':(∃ xs,SqL X.K H p xs∧n=xs.length)∨∃ xs,SqT X.K H p xs∧n=xs.length:=e;rcases e' with⟨xs,hx,e'⟩|⟨xs,hx,e'⟩
  ·subst e';obtain⟨its,r',pl,hz⟩:=I.list hx;have hlen:=r'.length;exact Calls.call_len_list pl.isList (by simp only[Y11];omega) ⟨.int xs.length,H,I.tok _,⟨_,by simp only[Y11];rw[hlen]⟩,q⟩
  ·subst e';obtain⟨its,r',pl,hz⟩:=I.tuple hx;have hlen:=r'.length;exact len_tuple pl (by simp only[Y11];omega) ⟨.int xs.length,H,I.tok _,⟨_,by simp only[Y11];rw[hlen]⟩,q⟩
 |_=>exact(show False from e).elim
end
end L2
namespace L2
open PySem PySem.Spec PyProof.Rows
structure ObjM (h:Heap) (x dx C:Addr) (mA:Str→Option Value):Prop where
 obj:h.get? x=some (PySem.W.instObj C dx)
 ns:h.Ns1 dx mA
 ne:dx≠x
theorem zK{h:Heap}{dx:Addr}{mA:Str→Option Value}(n:h.Ns1 dx mA):∃ od,h.get? dx=some od∧∀ name,PySem.W.lookIn name od=some (mA name):=by
 obtain⟨o,es,ep,ho,hd,hk,_,hm⟩:=n;refine⟨o,ho,fun name=>?_⟩;have e:=hm name;unfold nsFind findBy at e;rw[← Array.find?_toList] at e;unfold PySem.W.lookIn;rw[hd];dsimp only
 split
 ·rename_i y q;rw[q] at e;exact congrArg some e
 ·rename_i q;rw[q] at e;have a:es.toList.any (·.refKey)=false:=by
   rw[List.any_eq_false];intro y hy;obtain⟨z,t,hkey⟩:=hk y (Array.mem_toList_iff.mp hy);simp[DictEntry.refKey,hkey]
  have a':¬ es.toList.any (·.refKey)=true:=by rw[a];exact V14
  rw[if_neg a'];exact congrArg some e
theorem ObjM.look{h:Heap}{x dx C:Addr}{mA:Str→Option Value}(I:ObjM h x dx C mA):∃ od,PySem.W.InstAt h x (PySem.W.instObj C dx) C (some od)∧∀ name,PySem.W.lookIn name od=some (mA name):=
 let ⟨od,ho,hl⟩:=zK I.ns
 ⟨od,⟨I.obj,rfl,rfl,ho⟩,hl⟩
section
variable{prog:Program}{w:World}{A:Around}{E:Value→Shared→Prop}{s:Shared}{K:Fg9}{x dx C f:Addr}{mA:Str→Option Value}{name:Str}{v:Value}
theorem get_map{expr:Bool}{Q:Value→Shared→Prop}(X:K.In s.heap)(I:ObjM s.heap x dx C mA)(hg:PySem.W.plainGet K C name=true)(hh:PySem.W.hasDictIn K C=true)
  (ha:PySem.W.findIn K (.ref C) name=some none)(hv:mA name=some v)(hv':PySem.W.handedIn v=true)(h:Q v { s with toks:=s.toks+1 }):
  wpAny (model prog w) A (getAttr (.ref x) name expr) Q E s:=by
 obtain⟨od,J,hl⟩:=I.look;exact PySem.W.get_value X J (PySem.W.plainGet_of hg).1 (PySem.W.findObj_own hh ha rfl (by rw[hl,hv])) hv' h
theorem aBi{pl:Sem Bool}{Q:Value×List Value→Shared→Prop}(X:K.In s.heap)(I:ObjM s.heap x dx C mA)(hg:PySem.W.plainGet K C name=true)
  (hf:PySem.W.findIn K (.ref C) name=some (some (.ref f)))(ht:PySem.W.isFn K (.ref f)=true)(hv:mA name=none)(h:Q (.ref f,[.ref x]) s):
  wpAny (model prog w) A (getMethod (.ref x) name pl) Q E s:=by
 obtain⟨od,J,hl⟩:=I.look;exact PySem.W.method_fn X J (PySem.W.plainGet_of hg).1 (PySem.W.plainGet_of hg).2 hf (Y38.mp ht) (by show(PySem.W.lookIn name od).map (·.isSome)=some false;rw[hl,hv];rfl) h
theorem aDS{ns:List Str}{Q:Unit→Shared→Prop}(X:K.In s.heap)(I:ObjM s.heap x dx C mA)
  (hs:PySem.W.findIn K (.ref C) "__setattr__"=some (some (.builtin "object.__setattr__")))(hp:PySem.W.plainOver K C=true)(ht:PySem.W.takerIn K C name=some none)(hh:PySem.W.hasDictIn K C=true)
  (hw:PySem.Within mA ns)(hsz:ns.length≤sizeLine)
  (h:∀ h',ObjM h' x dx C (fun y=>if y=name then some v else mA y)→Heap.SameBut dx s.heap h'→Q () { s with heap:=h',toks:=s.toks+2 }):
  wpAny (model prog w) A (setAttr (.ref x) name v) Q E s:=by
 obtain⟨od,J,hl⟩:=I.look;refine PySem.W.set_plain X J hs (PySem.W.osa_open (s:={ s with toks:=s.toks+1 }) (r:=none) X J hp ht fun b=>?_);obtain⟨cd,hc,hd'⟩:=PySem.W.any_some hh;have hx:s.heap.get? x=some ⟨.ref C,some dx, .plain,#[]⟩:=I.obj;refine Y10 (W10 (Y10 (Y10 (wpAny_loadPart hx (Y10 (PySem.W.Looks.here (s:={ s with toks:=s.toks+1 }) (PySem.W.looks_clsIn X hc) ?_))))));rw[hd'];refine W10 (a:=some dx) (Y10 (W10 (Y10 ?_)));refine wpAny_nsSet1 (s:={ s with toks:=s.toks+1 }) I.ns fun h' hn2 hs2=>?_;obtain⟨oD,esD,epD,hoD,hdD,hcD⟩:=hn2.count (PySem.Within.cons name v hw);refine Y10 (wpAny_lookBehind hoD (by rw[hdD];exact pastItsLine_dict (Z17 hcD (by rw[Z14];omega))) ?_);exact W10 (h _ ⟨(hs2.2 _ (Ne.symm I.ne)).trans I.obj,hn2,I.ne⟩ hs2)
theorem aBj{R:Result→Shared→Prop}{vs:List Value}{kw:List (Str×Value)}(X:K.In s.heap)(hm:PySem.W.makesIn K C=true)
  (hi:PySem.W.findIn K (.ref C) "__init__"=some (some (.ref f)))(hf:PySem.W.typeIn K (.ref f)=some (.type "function"))
  (h:codeAny (model prog w) (A.under (.builtin "type.__call__" ⟨.ref C::vs,kw⟩)) (.call (.ref f) ⟨.ref (s.heap.objs.size+1)::vs,kw⟩) (PySem.W.InitBack (s.heap.objs.size+1) R)
   { s with heap:=(s.heap.push PySem.W.emptyDict).push (PySem.W.instObj C s.heap.objs.size) }):
  codeAny (model prog w) A (.call (.ref C) ⟨vs,kw⟩) R s:=by
 obtain⟨hh,g,d,t,os⟩:=s;exact PySem.W.make_core (PySem.W.makes_of X hm) (PySem.W.looks_findIn X hi) (fun self=>PySem.W.bind_fn X self hf) (.inl rfl) h
end
noncomputable def putF(f:Str)(v:V):List (Str×V)→List (Str×V)
 |[]=>[(f,v)]
 |(g,x)::r=>if g=f then(g,v)::r else(g,x)::putF f v r
theorem nH(f g:Str)(v:V):∀ fs:List (Str×V),(putF f v fs).lookup g=if g=f then some v else fs.lookup g
 |[]=>by
  show List.lookup g [(f,v)]=_
  by_cases h:g=f
  ·have hb:(g==f)=true:=Y38.mpr h;simp only[List.lookup,hb,if_pos h]
  ·have hb:(g==f)=false:=V31.mpr h;simp only[List.lookup,hb,if_neg h]
 |(k,x)::r=>by
  have ih:=nH f g v r;rw[show putF f v ((k,x)::r)=(if k=f then(k,v)::r else(k,x)::putF f v r) from rfl]
  by_cases hk:k=f
  ·rw[if_pos hk]
   by_cases h:g=k
   ·have hb:(g==k)=true:=Y38.mpr h;simp only[List.lookup,hb,if_pos (h.trans hk)]
   ·have hb:(g==k)=false:=V31.mpr h;simp only[List.lookup,hb,if_neg (fun e:g=f=>h (e.trans hk.symm))]
  ·rw[if_neg hk]
   by_cases h:g=k
   ·have hb:(g==k)=true:=Y38.mpr h;simp only[List.lookup,hb,if_neg (fun e:g=f=>hk (h.symm.trans e))]
   ·have hb:(g==k)=false:=V31.mpr h;simp only[List.lookup,hb];exact ih
theorem mO(f:Str)(v:V):∀ fs:List (Str×V),f∈(putF f v fs).map (·.1)∧∀ g,g∈fs.map (·.1)→g∈(putF f v fs).map (·.1)
 |[]=>⟨by simp[putF],fun g h=>by simp at h⟩
 |(k,x)::r=>by
  obtain⟨i1,i2⟩:=mO f v r;rw[show putF f v ((k,x)::r)=(if k=f then(k,v)::r else(k,x)::putF f v r) from rfl]
  by_cases hk:k=f
  ·rw[if_pos hk];subst hk;exact⟨by simp,fun g h=>by simpa using h⟩
  ·rw[if_neg hk];refine⟨?_,fun g h=>?_⟩
   ·rw[V15];exact U13 _ i1
   ·rw[V15] at h ⊢;rcases W12.mp h with e|e
    ·exact W12.mpr (.inl e)
    ·exact U13 _ (i2 g e)
theorem nI(f:Str)(v:V):∀ fs:List (Str×V),(putF f v fs).length≤fs.length+1
 |[]=>by simp[putF]
 |(k,x)::r=>by
  have ih:=nI f v r;rw[show putF f v ((k,x)::r)=(if k=f then(k,v)::r else(k,x)::putF f v r) from rfl]
  by_cases hk:k=f
  ·rw[if_pos hk,Z14,Z14];omega
  ·rw[if_neg hk,Z14,Z14];omega
theorem RelO.some_of{v:V}{o:Option Value}(r:RelO (some v) o):∃ u,o=some u∧RelV v u:=by
 cases o with
 |none=>exact(show False from r).elim
 |some u=>exact⟨u,rfl,r⟩
theorem RelO.none_of{o:Option Value}(r:RelO none o):o=none:=by
 cases o with
 |none=>rfl
 |some u=>exact(show False from r).elim
theorem zL{v:V}{u:Value}(r:RelV v u):PySem.W.handedIn u=true:=by
 cases v with
 |non=>cases (show u=Value.none from r);rfl
 |bl b=>cases (show u=Value.bool b from r);rfl
 |int i=>obtain⟨t,e⟩:=(show ∃ t,u=Value.int i t from r);cases e;rfl
 |str x=>obtain⟨t,e⟩:=(show ∃ t,u=Value.str x t from r);cases e;rfl
 |byt b=>obtain⟨t,e⟩:=(show ∃ t,u=Value.bytes b t from r);cases e;rfl
 |flt b=>obtain⟨t,e⟩:=(show ∃ t,u=Value.float b t from r);cases e;rfl
 |ref a=>cases (show u=Value.ref a from r);rfl
 |ty n=>cases (show u=Value.type n from r);rfl
section
variable{P:Program}{w:World}{H H':Hp}{h h':Heap}{a C dx:Addr}{fs fs':List (Str×V)}
theorem nX(hok:HOk P w H h)(e:H a=some (.ins C dx fs)):∃ mA,ObjM h a dx C mA∧(∀ f,RelO (fs.lookup f) (mA f))∧PySem.Within mA (fs.map (·.1))∧fs.length≤1000∧H dx=some (.own a):=by
 obtain⟨d,z,ne,ob,mA,n,r,q⟩:=(show ObjOk P w H h a (.ins C dx fs) from hok a _ e);exact⟨mA,⟨ob,n,ne⟩,r,q,z,d⟩
end
structure Cls (K:Fg9) (C:Addr):Prop where
 pg:PySem.W.plainGet K C Str.empty=true
 hd:PySem.W.hasDictIn K C=true
 po:PySem.W.plainOver K C=true
 sa:PySem.W.findIn K (.ref C) "__setattr__"=some (some (.builtin "object.__setattr__"))
theorem Cls.get{K:Fg9}{C:Addr}(c:Cls K C)(f:Str):PySem.W.plainGet K C f=true:=c.pg
def NoAttr(K:Fg9)(C:Addr)(f:Str):Prop:=PySem.W.findIn K (.ref C) f=some none
theorem NoAttr.taker{K:Fg9}{C:Addr}{f:Str}(n:NoAttr K C f):PySem.W.takerIn K C f=some none:=by
 unfold PySem.W.takerIn;rw[show PySem.W.findIn K (.ref C) f=some none from n]
 rfl
structure Meth (K:Fg9) (C:Addr) (m:Str) (f:Addr):Prop where
 at_:PySem.W.findIn K (.ref C) m=some (some (.ref f))
 fn:PySem.W.isFn K (.ref f)=true
 kp:PySem.W.keepIn K (.ref f)=true
section
variable{X:Cx}{pins:List (Addr×Obj)}{σ:St}{H:Hp}{s:Shared}{a C dx:Addr}{fs:List (Str×V)}{f:Str}{v:V}{A:Around}{E:Value→Shared→Prop}
theorem oP{b:Bool}{Q:Value→Shared→Prop}(I:Inv X pins σ H s)(e:H a=some (.ins C dx fs))(c:Cls X.K C)(n:NoAttr X.K C f)(l:fs.lookup f=some v)
  (h:∀ u s',Inv X pins σ H s'→RelV v u→Q u s'):wpAny (model X.prog X.w) A (getAttr (.ref a) f b) Q E s:=by
 obtain⟨mA,O,r,_,_,_⟩:=nX I.hok e;obtain⟨u,hu,ru⟩:=RelO.some_of (v:=v) (o:=mA f) (by rw[← l];exact r f);exact get_map I.kIn O (c.get f) c.hd n hu (zL ru) (h u _ (I.tok _) ru)
theorem oQ{m:Str}{g:Addr}{pl:Sem Bool}{Q:Value×List Value→Shared→Prop}(I:Inv X pins σ H s)(e:H a=some (.ins C dx fs))(c:Cls X.K C)(k:Meth X.K C m g)(l:fs.lookup m=none)
  (h:Q (.ref g,[.ref a]) s):wpAny (model X.prog X.w) A (getMethod (.ref a) m pl) Q E s:=by
 obtain⟨mA,O,r,_,_,_⟩:=nX I.hok e;have hn:mA m=none:=RelO.none_of (by rw[← l];exact r m);exact aBi I.kIn O (c.get m) k.at_ k.fn hn h
theorem oR{y:V}{u:Value}{Q:Unit→Shared→Prop}(I:Inv X pins σ H s)(e:H a=some (.ins C dx fs))(c:Cls X.K C)(n:NoAttr X.K C f)(hl:fs.length<1000)(ry:RelV y u)
  (h:∀ s',Inv X pins σ (upd H a (.ins C dx (putF f y fs))) s'→Q () s'):wpAny (model X.prog X.w) A (setAttr (.ref a) f u) Q E s:=by
 obtain⟨mA,O,r,wi,_,ho⟩:=nX I.hok e;have hz:(fs.map (·.1)).length≤sizeLine:=by rw[U16,Y14];omega
 refine aDS I.kIn O c.sa c.po n.taker c.hd wi hz fun h' O' sb=>h _ ?_;have hd:∃ o,h'.get? dx=some o:=let ⟨o,_,_,e',_⟩:=O'.ns;⟨o,e'⟩;refine I.write (x:=a) (e:=dx) (by rw[e];exact True.intro) (.inr ho) (fun b q hb z=>(sb.2 b hb).trans z) hd ?_;refine⟨by rw[aG O.ne];exact ho,?_,O.ne,O'.obj,_,O'.ns,fun g=>?_,fun g hg=>?_⟩
 ·have:=nI f y fs;omega
 ·show RelO ((putF f y fs).lookup g) (if g=f then some u else mA g);rw[nH]
  by_cases q:g=f
  ·rw[if_pos q,if_pos q];exact ry
  ·rw[if_neg q,if_neg q];exact r g
 ·by_cases q:g=f
  ·rw[q];exact(mO f y fs).1
  ·refine(mO f y fs).2 g (wi g fun z=>hg ?_);show(if g=f then some u else mA g)=none;rw[if_neg q];exact z
theorem Inv.made(I:Inv X pins σ H s):Inv X pins σ (upd (upd H s.heap.objs.size (.own (s.heap.objs.size+1))) (s.heap.objs.size+1) (.ins C s.heap.objs.size []))
  { s with heap:=(s.heap.push PySem.W.emptyDict).push (PySem.W.instObj C s.heap.objs.size) }:=by
 have e1:(s.heap.push PySem.W.emptyDict).get? s.heap.objs.size=some PySem.W.emptyDict:=V11 s.heap rfl;have e2:((s.heap.push PySem.W.emptyDict).push (PySem.W.instObj C s.heap.objs.size)).get? (s.heap.objs.size+1)=some (PySem.W.instObj C s.heap.objs.size):=by
  have:=V11 (s.heap.push PySem.W.emptyDict) (o:=PySem.W.instObj C s.heap.objs.size) rfl
  rwa [Y17] at this
 have e3:(s.heap.push PySem.W.emptyDict).Ns s.heap.objs.size (fun _=>none):=⟨PySem.W.emptyDict,#[],_,e1,rfl,(fun e he=>absurd he (by simp)),fun _=>rfl⟩;have I1:=I.laid (a:=s.heap.objs.size) (o:=.own (s.heap.objs.size+1)) (h':=s.heap.push PySem.W.emptyDict) (t':=s.toks) (fun b u q=>V10 _ q) (Y12 _) ⟨_,e1⟩;refine I1.laid (a:=s.heap.objs.size+1) (o:=.ins C s.heap.objs.size []) (t':=s.toks) (fun b u q=>V10 _ q) (Nat.le_of_eq (Y17 _ _)) ?_;have ne:s.heap.objs.size≠s.heap.objs.size+1:=V13 (V30 _);refine⟨by rw[aG ne,bI],Z23 _,ne,e2,fun _=>none,(Heap.Ns1.of_empty e3).at fun o q=>V10 _ q,fun _=>True.intro,fun y hy=>absurd rfl hy⟩
theorem aDT{prog:Program}{w:World}{env:Env}{e:Expr}{f:Str}{pos:Pos}{s:Shared}{Q:Value→Shared→Prop}(hb:attributeBase e f env (eval e env)=eval e env)
  (h:wpAny (model prog w) A (eval e env) (fun o s₁=>wpAny (model prog w) A (getAttr o f true) Q E s₁) E s):wpAny (model prog w) A (eval (.Attribute e f pos) env) Q E s:=
 Attribute_any_ h (by rw[arm_eval_Attribute,hb])
end
def tFld(K:Fg9)(ta:TE)(f:Str):TE:=fun σ H Q=>ta σ H fun x H1=>∃ a C dx fs v,x=.ref a∧H1 a=some (.ins C dx fs)∧Cls K C∧NoAttr K C f∧fs.lookup f=some v∧Q v H1
def sFld(K:Fg9)(ta tv:TE)(f:Str):TS:=fun D σ H=>tv σ H fun y H1=>ta σ H1 fun x H2=>∃ a C dx fs,x=.ref a∧H2 a=some (.ins C dx fs)∧Cls K C∧NoAttr K C f∧fs.length<1000∧
 D.nx σ (upd H2 a (.ins C dx (putF f y fs)))
def InOp(X:Cx)(op:Operator)(rd:V→V→Hp→VK→Prop):Prop:=
 ∀ (pins:List (Addr×Obj)) (s:Shared) (σ:St) (H:Hp) (x y:V) (u v:Value) (Q:VK),Inv X pins σ H s→RelV x u→RelV y v→rd x y H Q→wpAny (model X.prog X.w) X.A (inplaceOp op u v) (EP X pins σ Q) X.xe s
def sFldAug(K:Fg9)(ta tv:TE)(rd:V→V→Hp→VK→Prop)(f:Str):TS:=fun D σ H=>ta σ H fun x H1=>∃ a C dx fs v,x=.ref a∧H1 a=some (.ins C dx fs)∧Cls K C∧NoAttr K C f∧fs.lookup f=some v∧
 tv σ H1 fun y H2=>rd v y H2 fun z H3=>∃ dx' fs',H3 a=some (.ins C dx' fs')∧fs'.length<1000∧D.nx σ (upd H3 a (.ins C dx' (putF f z fs')))
section
variable{X:Cx}{o e value:Expr}{f:Str}{pos pos' tpos:Pos}{ta tv:TE}
theorem aGf(he:PE X e ta)(hb:attributeBase e f X.env (eval e X.env)=eval e X.env):PE X (.Attribute e f pos) (tFld X.K ta f):=by
 intro pins s σ H Q I h;refine aDT hb (thn (he pins s σ H _ I h) fun u s1 ⟨x,H1,I1,rx,a,C,dx,fs,v,ex,ea,c,n,l,q⟩=>?_);subst ex;obtain rfl:u=Value.ref a:=rx;exact oP I1 ea c n l fun u' s2 I2 ru=>⟨v,H1,I2,ru,q⟩
theorem aGg(ha:PE X o ta)(hv:PE X value tv)(hs:swapsWith value (some (.Attribute o f pos')) pos.line X.env=pure false):PS X (.Assign [.Attribute o f pos'] value pos) (sFld X.K ta tv f):=by
 intro pins s σ H D I h;refine plainObj_wpAny_Assign_Attribute (thn (hv pins s σ H _ I h) fun u s1 ⟨y,H1,I1,ry,q⟩=>thn (ha pins s1 σ H1 _ I1 q) fun ov s2 ⟨x,H2,I2,rx,a,C,dx,fs,ex,ea,c,n,l,q2⟩=>?_) hs;subst ex;obtain rfl:ov=Value.ref a:=rx;exact oR I2 ea c n l ry fun s3 I3=>⟨σ,_,I3,q2⟩
theorem zM{op:Operator}{rd:V→V→Hp→VK→Prop}(ha:PE X o ta)(hv:PE X value tv)(hop:InOp X op rd):PS X (.AugAssign (.Attribute o f tpos) op value pos) (sFldAug X.K ta tv rd f):=by
 intro pins s σ H D I h;refine wpAny_AugAssign_AttributeAny (thn (ha pins s σ H _ I h) fun ov s1 ⟨x,H1,I1,rx,a,C,dx,fs,v,ex,ea,c,n,l,q⟩=>?_);subst ex;obtain rfl:ov=Value.ref a:=rx;refine oP I1 ea c n l fun u s2 I2 ru=>thn (hv pins s2 σ H1 _ I2 q) fun w3 s3 ⟨y,H2,I3,ry,q3⟩=>thn (hop pins s3 σ H2 v y u w3 _ I3 ru ry q3) fun w4 s4 ⟨z,H3,I4,rz,dx',fs',ea',l',q4⟩=>?_;exact oR I4 ea' c n l' rz fun s5 I5=>⟨σ,_,I5,q4⟩
end
section
variable{X:Cx}{pins:List (Addr×Obj)}{σ:St}{H:Hp}{s:Shared}{A:Around}{E:Value→Shared→Prop}{Q:Value→Shared→Prop}{c:Value}{b:Bool}
inductive TyOf (K:Fg9) (H:Hp):V→Value→Prop where
 |non:TyOf K H .non (.type "NoneType")
 |bl (x:Bool):TyOf K H (.bl x) (.type "bool")
 |int (i:Int):TyOf K H (.int i) (.type "int")
 |str (x:Str):TyOf K H (.str x) (.type "str")
 |flt (x:UInt64):TyOf K H (.flt x) (.type "float")
 |lst {a:Addr} {xs:List V} (e:H a=some (.lst xs)):TyOf K H (.ref a) (.type "list")
 |frz {a:Addr} {o:Obj} {xs:List V} (e:H a=some (.frz o (.lst xs))):TyOf K H (.ref a) (.type "list")
 |tup {a:Addr} {xs:List V} (e:H a=some (.tup xs)):TyOf K H (.ref a) (.type "tuple")
 |dK {a:Addr} {kvs:List (Key×V)} (e:H a=some (.dK kvs)):TyOf K H (.ref a) (.type "dict")
 |dT {a:Addr} {kvs:List (List Key×V)} (e:H a=some (.dT kvs)):TyOf K H (.ref a) (.type "dict")
 |ins {a C dx:Addr} {fs:List (Str×V)} (e:H a=some (.ins C dx fs)) (cl:Cls K C) (ha:PySem.W.findIn K (.ref C) "__class__"=some (some (.builtin "object.__class__")))
   (hn:PySem.W.specialIn K (.builtin "object.__class__") "__get__"=some (some (.builtin "getset_descriptor.__get__"))) (htk:PySem.W.takesIn K (.builtin "object.__class__")=some true)
   (hm:PySem.W.mroIn K C (.type "object")=some true):TyOf K H (.ref a) (.ref C)
theorem zN{x:V}{u t:Value}(I:Inv X pins σ H s)(rx:RelV x u)(ty:TyOf X.K H x t)(e:PySem.W.kitOne X.K t c=some b)(h:∀ tk,Q (.bool b) { s with toks:=tk }):
  wpAny (model X.prog X.w) A (call (.builtin "isinstance") [u,c]) Q E s:=by
 cases ty with
 |non=>cases (show u=Value.none from rx);exact U19 PySem.W.kitx_none I.kIn True.intro e (fun z=>nomatch z) h
 |bl y=>cases (show u=Value.bool y from rx);exact U19 PySem.W.kitx_bool I.kIn True.intro e (fun z=>nomatch z) h
 |int i=>obtain⟨t,q⟩:=(show ∃ t,u=Value.int i t from rx);cases q;exact U19 PySem.W.kitx_int I.kIn True.intro e (fun z=>nomatch z) h
 |str y=>obtain⟨t,q⟩:=(show ∃ t,u=Value.str y t from rx);cases q;exact U19 PySem.W.kitx_str I.kIn True.intro e (fun z=>nomatch z) h
 |flt y=>obtain⟨t,q⟩:=(show ∃ t,u=Value.float y t from rx);cases q;exact U19 PySem.W.kitx_float I.kIn True.intro e (fun z=>nomatch z) h
 |@lst a xs ea=>
  cases (show u=Value.ref a from rx);obtain⟨_,_,n,_,h1⟩:=(show ObjOk X.prog X.w H s.heap a (.lst xs) from I.hok a _ ea);exact U19 PySem.W.kitx_list I.kIn ⟨_,h1,rfl⟩ e (fun z=>nomatch z) h
 |@frz a ob xs ea=>
  cases (show u=Value.ref a from rx);obtain⟨_,_,_,n,_,h1⟩:=(show ObjOk X.prog X.w H s.heap a (.frz ob (.lst xs)) from I.hok a _ ea);exact U19 PySem.W.kitx_list I.kIn ⟨_,h1,rfl⟩ e (fun z=>nomatch z) h
 |@tup a xs ea=>
  cases (show u=Value.ref a from rx);obtain⟨_,_,_,p⟩:=(show ObjOk X.prog X.w H s.heap a (.tup xs) from I.hok a _ ea);obtain⟨o,h1,h2,_⟩:=p;exact U19 PySem.W.kitx_tuple I.kIn ⟨o,h1,h2⟩ e (fun z=>nomatch z) h
 |@dK a kvs ea=>
  cases (show u=Value.ref a from rx);obtain⟨_,_,vs,_,p⟩:=(show ObjOk X.prog X.w H s.heap a (.dK kvs) from I.hok a _ ea);obtain⟨o,es,ep,h1,h2,_⟩:=p;exact U19 PySem.W.kitx_dict I.kIn ⟨o,h1,h2.1⟩ e (fun z=>nomatch z) h
 |@dT a kvs ea=>
  cases (show u=Value.ref a from rx);obtain⟨_,_,xs,_,o,es,ep,h1,h2,_⟩:=(show ObjOk X.prog X.w H s.heap a (.dT kvs) from I.hok a _ ea);exact U19 PySem.W.kitx_dict I.kIn ⟨o,h1,h2.1⟩ e (fun z=>nomatch z) h
 |@ins a C dx fs ea cl ha hn htk hm=>
  cases (show u=Value.ref a from rx);obtain⟨mA,O,_⟩:=nX I.hok ea;obtain⟨od,J,_⟩:=O.look;exact U19 (PySem.W.kitx_own (cl.get _) cl.hd ha hn htk hm) I.kIn J e (fun z=>nomatch z) h
end
end L2
namespace L2
open PySem PySem.Spec PyProof.Rows
structure Room (k:Nat) (A:Around):Prop where
 hd:A.handled=none
 dp:A.depth+3 * k+5<recursionLimit
 un:A.units+16 * k+1000<cLine
theorem Room.mono{j k:Nat}{A:Around}(r:Room k A)(h:j≤k):Room j A:=⟨r.hd,by have:=r.dp;omega,by have:=r.un;omega⟩
theorem Room.deeper{k:Nat}{A:Around}(r:Room (k+1) A)(env:Env):Room k (A.deeper env):=
 ⟨r.hd,by have:=r.dp;show A.depth+1+3 * k+5 < _;omega,by have:=r.un;show A.units+3+16 * k+1000 < _;omega⟩
theorem vS{A:Around}{C:Addr}{us:List Value}{kw:List (Str×Value)}:(A.under (.builtin "type.__call__" ⟨.ref C::us,kw⟩)).depth=A.depth+1:=by
 first|rfl|simp[Around.under,Code.weight,Code.isCreation,Code.isGuard,Code.isCaller,Code.frames,Code.isFrame,guardIds]
theorem vT{A:Around}{C:Addr}{us:List Value}{kw:List (Str×Value)}:(A.under (.builtin "type.__call__" ⟨.ref C::us,kw⟩)).units=A.units+1:=by
 first|rfl|simp[Around.under,Code.cUnits,Code.frames,Code.isFrame]
theorem Room.make{k:Nat}{A:Around}(r:Room (k+1) A)(C:Addr)(us:List Value)(kw:List (Str×Value)):Room k (A.under (.builtin "type.__call__" ⟨.ref C::us,kw⟩)):=
 ⟨r.hd,by have:=r.dp;rw[vS];omega,by have:=r.un;rw[vT];omega⟩
theorem Room.depth{k:Nat}{A:Around}(r:Room k A):A.depth<recursionLimit:=by have:=r.dp;omega
theorem Room.units{k:Nat}{A:Around}(r:Room k A):A.units+64<cLine:=by have:=r.un;omega
def tNil:TA:=fun _ H Q=>Q [] H
def tCons(ta:TE)(tr:TA):TA:=fun σ H Q=>ta σ H fun x H1=>tr σ H1 fun xs H2=>Q (x::xs) H2
section
variable{X:Cx}{e:Expr}{es:List Expr}{te:TE}{t:TA}{pos:Pos}
theorem aGh:PA X [] tNil:=fun _ _ _ _ H Q I h=>Calls.spliced_nil ⟨[],H,I, .nil,h⟩
theorem aDU(ha:PE X e te)(hr:PA X es t)(hs:starEach (e::es) X.env=(false,eval e X.env)::starEach es X.env:=by rfl):PA X (e::es) (tCons te t):=by
 intro pos pins s σ H Q I h;rw[hs];show wpAny _ _ (spliced ((false,eval e X.env)::backTo pos (starEach es X.env))) _ _ s;refine Calls.spliced_cons (thn (ha pins s σ H _ I h) fun u s1 ⟨x,H1,I1,r1,q1⟩=>?_);exact thn (hr pos pins s1 σ H1 _ I1 q1) fun us s2 ⟨xs,H2,I2,r2,q2⟩=>⟨x::xs,H2,I2, .cons r1 r2,q2⟩
def tTup(t:TA):TE:=fun σ H Q=>t σ H fun xs H1=>xs.length≤sizeLine∧∀ p,H1 p=none→Q (.ref p) (upd H1 p (.tup xs))
def tLst(t:TA):TE:=fun σ H Q=>t σ H fun xs H1=>xs.length≤sizeLine∧∀ p,H1 p=none→Q (.ref p) (upd H1 p (.lst xs))
theorem aGi{x1}(h:PA X es t):PE X (.Tuple es x1 pos) (tTup t):=by
 intro pins s σ H Q I hq;refine wpAny_Tuple_spliced (thn (h pos pins s σ H _ I hq) fun us s1 ⟨xs,H1,I1,r,z,q⟩=>⟨by rw[← r.length];exact z,?_⟩);have hf:H1 s1.heap.objs.size=none:=I1.hok.fresh (Y12 _);refine⟨.ref s1.heap.objs.size,upd H1 s1.heap.objs.size (.tup xs),I1.laid (t':=s1.toks) (fun b u e=>V10 _ e) (Y12 _) ?_,rfl,q _ hf⟩;exact⟨z,us,r,⟨_,V11 _ rfl,rfl,_,rfl⟩⟩
theorem aGj(h:PA X es t):PE X (.List es pos) (tLst t):=by
 intro pins s σ H Q I hq;refine wpAny_List_spliced (thn (h pos pins s σ H _ I hq) fun us s1 ⟨xs,H1,I1,r,z,q⟩=>⟨by rw[← r.length];exact z,?_⟩);have hf:H1 s1.heap.objs.size=none:=I1.hok.fresh (Y12 _);refine⟨.ref s1.heap.objs.size,upd H1 s1.heap.objs.size (.lst xs),I1.laid (t':=s1.toks) (fun b u e=>V10 _ e) (Y12 _) ?_,rfl,q _ hf⟩;exact⟨z,us,0,r,V11 _ rfl⟩
end
abbrev Sp:=List V→Hp→VK→XK→Prop
abbrev CXT:=List Env→Hp→Shared→XK→Value→Shared→Prop
structure Env0 (P:Program) (w:World) (K:Fg9) (mg:Str→Option Value) (base:Heap) (A:Around) (outer:List Env) (s:Shared) (H:Hp):Prop where
 frames:A.frames=some outer
 mod:Mod K mg base
 bs:∀ b o,base.get? b=some o→s.heap.get? b=some o∧H b=none
 bsz:base.objs.size≤s.heap.objs.size
 funs:s.heap.FunFrames base outer
 frf:∀ b∈frs outer,H b=none
 hok:HOk P w H s.heap
 bare:AllBare s.gens
def CE(outer:List Env)(P:Program)(w:World)(H:Hp)(s:Shared)(Q:VK)(u:Value)(s':Shared):Prop:=
 ∃ v H',s'.os=s.os∧AllBare s'.gens∧Un (frs outer) [] H H' s.heap s'.heap∧HOk P w H' s'.heap∧RelV v u∧Q v H'
def CR(CX:CXT)(outer:List Env)(P:Program)(w:World)(H:Hp)(s:Shared)(Q:VK)(E:XK)(r:Result)(s':Shared):Prop:=
 match r with
 | .ok (.ret u)=>CE outer P w H s Q u s'
 | .ok _=>False
 | .error e=>CX outer H s E e s'
structure FnOk (P:Program) (w:World) (K:Fg9) (mg:Str→Option Value) (base:Heap) (CX:CXT) (k:Nat) (f:Addr) (fd:FuncData) (ps:List Str) (sp:Sp):Prop where
 len:∀ vs H Q E,sp vs H Q E→vs.length=ps.length
 run:∀ (A:Around) (outer:List Env) (s:Shared) (H:Hp) (args:Args) (us:List Value) (vs:List V) (Q:VK) (E:XK),Room k A→Env0 P w K mg base A outer s H→BindsTo s fd args (ps.zip us)→Vals vs us→sp vs H Q E→
  codeAny (model P w) A (.call (.ref f) args) (CR CX outer P w H s Q E) s
theorem FnOk.mono{P:Program}{w:World}{K:Fg9}{mg:Str→Option Value}{base:Heap}{CX:CXT}{j k:Nat}{f:Addr}{fd:FuncData}{ps:List Str}{sp:Sp}(F:FnOk P w K mg base CX j f fd ps sp)(h:j≤k):
  FnOk P w K mg base CX k f fd ps sp:=⟨F.len,fun A outer s H args us vs Q E hr=>F.run A outer s H args us vs Q E (hr.mono h)⟩
theorem Env0.make{P:Program}{w:World}{K:Fg9}{mg:Str→Option Value}{base:Heap}{A:Around}{outer:List Env}{s:Shared}{H:Hp}(e:Env0 P w K mg base A outer s H)(C:Addr)(us:List Value)(kw:List (Str×Value)):
  Env0 P w K mg base (A.under (.builtin "type.__call__" ⟨.ref C::us,kw⟩)) outer s H:=⟨by first|exact e.frames|(simpa[Around.under,Code.envs,Code.isFrame,pushEnvs] using e.frames),e.mod,e.bs,e.bsz,e.funs,e.frf,e.hok,e.bare⟩
section
variable{X:Cx}{pins:List (Addr×Obj)}{σ:St}{H:Hp}{s s':Shared}
theorem Inv.env0(I:Inv X pins σ H s):Env0 X.prog X.w X.K X.mg X.base X.A X.stack s H:=
 ⟨I.ok.frames,I.ok.mod,I.bs,Z17 I.ok.bsz I.sz,I.stack,I.stkFree,I.hok,I.bare⟩
theorem Inv.after{Q:VK}{u:Value}(I:Inv X pins σ H s)(h:CE X.stack X.prog X.w H s Q u s'):EP X pins σ Q u s':=by
 obtain⟨v,H',os,bare,un,hok,r,q⟩:=h;obtain⟨hh,g,d,t,os'⟩:=s';obtain rfl:os'=s.os:=os;exact⟨v,H',I.call (h':=hh) (g':=g) (d':=d) (t':=t) (ch:=[]) un hok bare (fun b z=>absurd z (by simp)),r,q⟩
end
def tCall(sp:Sp)(dvs:List V)(E:XK)(t:TA):TE:=fun σ H Q=>t σ H fun vs H1=>sp (vs++dvs) H1 Q E
def tMeth(C:Addr)(m:Str)(sp:Sp)(dvs:List V)(E:XK)(ta:TE)(t:TA):TE:=fun σ H Q=>ta σ H fun x H1=>∃ a dx fs,x=.ref a∧H1 a=some (.ins C dx fs)∧fs.lookup m=none∧
 t σ H1 fun vs H2=>sp (x::(vs++dvs)) H2 Q E
def tMake(C:Addr)(sp:Sp)(dvs:List V)(E:XK)(t:TA):TE:=fun σ H Q=>t σ H fun vs H1=>∀ x dx,H1 x=none→H1 dx=none→dx≠x→
 sp (.ref x::(vs++dvs)) (upd (upd H1 dx (.own x)) x (.ins C dx [])) (fun v H2=>v=.non∧Q (.ref x) H2) E
def Binds(K:Fg9)(fd:FuncData)(ps:List Str)(ds:List Value):Prop:=
 ∀ (s:Shared) (us:List Value),K.In s.heap→(us++ds).length=ps.length→BindsTo s fd ⟨us,[]⟩ (ps.zip (us++ds))
theorem Binds.all{K:Fg9}{fd:FuncData}{ps:List Str}(h:∀ us:List Value,us.length=ps.length→bindArgs fd ⟨us,[]⟩=pure (ps.zip us)):Binds K fd ps []:=fun s us _ hl=>by
 rw[V12] at hl ⊢;exact .of_eq (h us hl)
def Passes(CX:CXT)(X:Cx)(E:XK):Prop:=∀ (pins:List (Addr×Obj)) (σ:St) (H:Hp) (s:Shared) (e:Value) (s':Shared),Inv X pins σ H s→CX X.stack H s E e s'→X.xe e s'
section
variable{X:Cx}{CX:CXT}{k:Nat}{f C:Addr}{fd:FuncData}{ps:List Str}{sp:Sp}{dvs:List V}{ds:List Value}{E:XK}{x m:Str}{p pos apos:Pos}{e o:Expr}{es:List Expr}{ta:TE}{t:TA}
theorem rR{pins:List (Addr×Obj)}{σ:St}{H:Hp}{s:Shared}{Q:VK}{us:List Value}{vs:List V}(F:FnOk X.prog X.w X.K X.mg X.base CX k f fd ps sp)(hr:Room k X.A)(hb:Binds X.K fd ps ds)(hd:Vals dvs ds)(hx:Passes CX X E)
  (I:Inv X pins σ H s)(r:Vals vs us)(h:sp (vs++dvs) H Q E):wpAny (model X.prog X.w) X.A (call (.ref f) us) (EP X pins σ Q) X.xe s:=by
 have r2:Vals (vs++dvs) (us++ds):=r.append hd;have hl:(us++ds).length=ps.length:=by rw[← r2.length];exact F.len _ _ _ _ h
 refine wpAny_call (W35 (F.run X.A X.stack s H ⟨us,[]⟩ (us++ds) (vs++dvs) Q E hr I.env0 (hb s us I.kIn hl) r2 h) fun r s' hq=>?_);cases r with
 |error e=>exact hx pins σ H s e s' I hq
 |ok fl=>
  cases fl with
  |ret u=>exact I.after hq
  |next=>exact False.elim hq
  |brk=>exact False.elim hq
  |cont=>exact False.elim hq
theorem aDV(F:FnOk X.prog X.w X.K X.mg X.base CX k f fd ps sp)(hr:Room k X.A)(hg:Gl X x)(hm:X.mg x=some (.ref f))(hk:PySem.W.keepIn X.K (.ref f)=true)(hb:Binds X.K fd ps ds)(hd:Vals dvs ds)(hx:Passes CX X E)
  (ha:PA X (e::es) t)(hdb:(x==("__debug__":Str))=false:=by decide)(he:starEach (e::es) X.env=(false,eval e X.env)::starEach es X.env:=by rfl)(hpl:(backTo pos (starEach es X.env)).any (·.1)=false:=by rfl):
  PE X (.Call (.Name x p) (e::es) [] pos) (tCall sp dvs E t):=by
 intro pins s σ H Q I h;refine W19 (rP I hg hm ?_ hdb);refine PySem.W.callWith_K (h₀:=X.base) I.ok.mod.kin hk (thn (ha pos pins s σ H _ I h) fun us s1 ⟨vs,H1,I1,r,q⟩=>⟨I1.kIn,?_⟩) he hpl;exact rR F hr hb hd hx I1 r q
theorem aDW{pl:Sem Bool}(he:PE X o ta)(c:Cls X.K C)(hm:Meth X.K C m f)(F:FnOk X.prog X.w X.K X.mg X.base CX k f fd ps sp)(hr:Room k X.A)(hb:Binds X.K fd ps ds)(hd:Vals dvs ds)(hx:Passes CX X E)(ha:PA X (e::es) t)
  (hst:starEach (e::es) X.env=(false,eval e X.env)::starEach es X.env:=by rfl)(hpl:(backTo pos (starEach es X.env)).any (·.1)=false:=by rfl)
  (ht:eval (.Call (.Attribute o m apos) (e::es) [] pos) X.env=(do
   let ov ← eval o X.env
   standAt apos.atName
   let (f,first) ← holding [ov] (getMethod ov m pl)
   callWith pos f first (backTo pos (starEach (e::es) X.env)) (backToKw pos (keywordEach [] X.env))):=by rfl):
  PE X (.Call (.Attribute o m apos) (e::es) [] pos) (tMeth C m sp dvs E ta t):=by
 intro pins s σ H Q I h;refine PySem.W.methodCall_KW (pl:=pl) (thn (he pins s σ H _ I h) fun u s1 ⟨x,H1,I1,rx,a,dx,fs,ex,ea,l,q⟩=>?_) ht;subst ex;obtain rfl:u=Value.ref a:=rx;refine oQ I1 ea c hm l ?_;refine PySem.W.callWith_K (first:=[.ref a]) (h₀:=X.base) I.ok.mod.kin hm.kp (thn (ha pos pins s1 σ H1 _ I1 q) fun us s2 ⟨vs,H2,I2,r,q2⟩=>⟨I2.kIn,?_⟩) hst hpl;exact rR (us:=.ref a::us) (vs:=.ref a::vs) F hr hb hd hx I2 (.cons rfl r) q2
theorem aBk{pl:Sem Bool}(he:PE X o ta)(c:Cls X.K C)(hm:Meth X.K C m f)(F:FnOk X.prog X.w X.K X.mg X.base CX k f fd ps sp)(hr:Room k X.A)(hb:Binds X.K fd ps ds)(hd:Vals dvs ds)(hx:Passes CX X E)
  (ht:eval (.Call (.Attribute o m apos) [] [] pos) X.env=(do
   let ov ← eval o X.env
   standAt apos.atName
   let (f,first) ← holding [ov] (getMethod ov m pl)
   callWith pos f first (backTo pos (starEach [] X.env)) (backToKw pos (keywordEach [] X.env))):=by rfl):
  PE X (.Call (.Attribute o m apos) [] [] pos) (tMeth C m sp dvs E ta tNil):=by
 intro pins s σ H Q I h;refine PySem.W.methodCall_KW (pl:=pl) (thn (he pins s σ H _ I h) fun u s1 ⟨x,H1,I1,rx,a,dx,fs,ex,ea,l,q⟩=>?_) ht;subst ex;obtain rfl:u=Value.ref a:=rx;refine oQ I1 ea c hm l ?_;exact PySem.W.callWith_K0 (first:=[.ref a]) I1.kIn hm.kp (rR (us:=[.ref a]) (vs:=[.ref a]) F hr hb hd hx I1 (.cons rfl .nil) q)
structure Mk (K:Fg9) (C f:Addr):Prop where
 makes:PySem.W.makesIn K C=true
 init:PySem.W.findIn K (.ref C) "__init__"=some (some (.ref f))
 fn:PySem.W.isFn K (.ref f)=true
 kp:PySem.W.keepIn K (.ref C)=true
theorem aBl{pins:List (Addr×Obj)}{σ:St}{H:Hp}{s:Shared}{Q:VK}{us:List Value}{vs:List V}(M:Mk X.K C f)(F:FnOk X.prog X.w X.K X.mg X.base CX k f fd ps sp)(hr:Room (k+1) X.A)(hb:Binds X.K fd ps ds)(hd:Vals dvs ds)
  (hx:Passes CX X E)(I:Inv X pins σ H s)(r:Vals vs us)
  (h:∀ x dx,H x=none→H dx=none→dx≠x→sp (.ref x::(vs++dvs)) (upd (upd H dx (.own x)) x (.ins C dx [])) (fun v H2=>v=.non∧Q (.ref x) H2) E):
  wpAny (model X.prog X.w) X.A (call (.ref C) us) (EP X pins σ Q) X.xe s:=by
 have hq:=h (s.heap.objs.size+1) s.heap.objs.size (I.hok.fresh (Z37 _)) (I.hok.fresh (Y12 _)) (V13 (V30 _));have I2:=Inv.made (C:=C) I;have r2:Vals (V.ref (s.heap.objs.size+1)::(vs++dvs)) (Value.ref (s.heap.objs.size+1)::(us++ds)):=.cons rfl (r.append hd);have hl:(Value.ref (s.heap.objs.size+1)::us++ds).length=ps.length:=by
  have e:=r2.length;rw[F.len _ _ _ _ hq] at e;exact e.symm
 refine wpAny_call (aBj (f:=f) I.kIn M.makes M.init (Y38.mp M.fn) (W35 (F.run _ X.stack _ _ ⟨Value.ref (s.heap.objs.size+1)::us,[]⟩ (Value.ref (s.heap.objs.size+1)::(us++ds)) _ _ E (hr.make C us [])
  (I2.env0.make C us []) (hb _ (Value.ref (s.heap.objs.size+1)::us) I2.kIn hl) r2 hq) fun r s' hq'=>?_))
 cases r with
 |error e=>exact hx pins σ _ _ e s' I2 hq'
 |ok fl=>
  cases fl with
  |ret u=>
   obtain⟨v,H',I3,rv,ev,q3⟩:=I2.after hq';subst ev;exact⟨rv,⟨V.ref (s.heap.objs.size+1),H',I3,rfl,q3⟩⟩
  |next=>exact False.elim hq'
  |brk=>exact False.elim hq'
  |cont=>exact False.elim hq'
theorem aDX(M:Mk X.K C f)(F:FnOk X.prog X.w X.K X.mg X.base CX k f fd ps sp)(hr:Room (k+1) X.A)(hg:Gl X x)(hm:X.mg x=some (.ref C))(hb:Binds X.K fd ps ds)(hd:Vals dvs ds)(hx:Passes CX X E)
  (ha:PA X (e::es) t)(hdb:(x==("__debug__":Str))=false:=by decide)(he:starEach (e::es) X.env=(false,eval e X.env)::starEach es X.env:=by rfl)(hpl:(backTo pos (starEach es X.env)).any (·.1)=false:=by rfl):
  PE X (.Call (.Name x p) (e::es) [] pos) (tMake C sp dvs E t):=by
 intro pins s σ H Q I h;refine W19 (rP I hg hm ?_ hdb);refine PySem.W.callWith_K (h₀:=X.base) I.ok.mod.kin M.kp (thn (ha pos pins s σ H _ I h) fun us s1 ⟨vs,H1,I1,r,q⟩=>⟨I1.kIn,?_⟩) he hpl;exact aBl M F hr hb hd hx I1 r q
end
structure FnScope (N P:List Str) (sc:Scope):Prop where
 kind:sc.kind=.function
 co:sc.isCoroutine=false
 gen:sc.isGenerator=false
 nd:N.Nodup
 pre:N.take P.length=P
 par:∀ x∈P,sc.names.lookup x=some .local∨sc.names.lookup x=some .cell
 nofree:∀ y∈sc.names,y.2≠.free
theorem qQ{kindOf:Str→Option NameKind}{x:Str}:∀ {binds:List (Str×Value)} {m:Str→Option Value},(∀ v,(x,v)∉binds)→bindL kindOf binds m x=m x
 |[],_,_=>rfl
 |(n,v)::r,m,h=>by
  unfold bindL;rw[qQ fun w hw=>h w (U13 _ hw)]
  split
  ·have:x≠n:=by rintro rfl;exact h v List.mem_cons_self
   simp[this]
  ·rfl
theorem qS{kindOf:Str→Option NameKind}{x:Str}:∀ {binds:List (Str×Value)} {m:Str→Option Value},(∀ v,(x,v)∉binds)→bindC kindOf binds m x=m x
 |[],_,_=>rfl
 |(n,v)::r,m,h=>by
  unfold bindC;rw[qS fun w hw=>h w (U13 _ hw)]
  split
  ·rfl
  ·have:x≠n:=by rintro rfl;exact h v List.mem_cons_self
   simp[this]
theorem qT{kindOf:Str→Option NameKind}{x:Str}{v:Value}:∀ {P:List Str} {vs:List Value} {i:Nat} {m:Str→Option Value},P.Nodup→P[i]?=some x→vs[i]?=some v→kindOf x=some .local→
  bindL kindOf (P.zip vs) m x=some v
 |[],_,_,_,_,h,_,_=>by simp at h
 |_::_,[],_,_,_,_,h,_=>by simp at h
 |p::P,w::vs,0,m,nd,h1,h2,hk=>by
  simp at h1 h2;subst h1;subst h2;show bindL kindOf ((p,w)::P.zip vs) m p=_;unfold bindL;rw[qQ fun v hv=>(W27.mp nd).1 (List.of_mem_zip hv).1,if_pos hk];simp
 |p::P,w::vs,i+1,m,nd,h1,h2,hk=>by
  show bindL kindOf ((p,w)::P.zip vs) m x=_;unfold bindL;exact qT (i:=i) (W27.mp nd).2 (by simpa using h1) (by simpa using h2) hk
theorem qU{kindOf:Str→Option NameKind}{x:Str}{v:Value}:∀ {P:List Str} {vs:List Value} {i:Nat} {m:Str→Option Value},P.Nodup→P[i]?=some x→vs[i]?=some v→kindOf x≠some .local→
  bindC kindOf (P.zip vs) m x=some v
 |[],_,_,_,_,h,_,_=>by simp at h
 |_::_,[],_,_,_,_,h,_=>by simp at h
 |p::P,w::vs,0,m,nd,h1,h2,hk=>by
  simp at h1 h2;subst h1;subst h2;show bindC kindOf ((p,w)::P.zip vs) m p=_;unfold bindC;rw[qS fun v hv=>(W27.mp nd).1 (List.of_mem_zip hv).1,if_neg hk];simp
 |p::P,w::vs,i+1,m,nd,h1,h2,hk=>by
  show bindC kindOf ((p,w)::P.zip vs) m x=_;unfold bindC;exact qU (i:=i) (W27.mp nd).2 (by simpa using h1) (by simpa using h2) hk
noncomputable def start(N:List Str)(vs:List V):St:=vs.map some++List.replicate (N.length - vs.length) none
noncomputable def cxOf(CX:CXT)(P:Program)(w:World)(K:Fg9)(mg:Str→Option Value)(base:Heap)(N:List Str)(qual:Str)(scope:Scope)(f:Addr)(cd:Value)(A:Around)(outer:List Env)(s:Shared)(H:Hp)(E:XK):Cx where
 prog:=P
 w:=w
 K:=K
 mg:=mg
 base:=base
 A:=A.deeper (envOfC qual scope s.heap.objs.size f cd)
 N:=N
 s₀:=s
 H₀:=H
 env:=envOfC qual scope s.heap.objs.size f cd
 outer:=outer
 stack:=envOfC qual scope s.heap.objs.size f cd::outer
 ex:=[]
 calm:=true
 fn:=fun _=>true
 pn:=[]
 xe:=fun e s'=>wpAny (model P w) (A.deeper (envOfC qual scope s.heap.objs.size f cd)) (leaving (envOfC qual scope s.heap.objs.size f cd) e) (fun _ s''=>CX outer H s E e s'') (fun e' s''=>CX outer H s E e' s'') s'
theorem oU{sc:Scope}{n:Nat}{x:Str}(h:sc.names.lookup x=some .cell):∃ c,(cellsFrom n sc.names []).lookup x=some c:=by
 have q:=PySem.W.cellsFrom_some sc.names n [] (.inl h);exact Option.isSome_iff_exists.mp q
theorem zO{CX:CXT}{P:Program}{w:World}{K:Fg9}{mg:Str→Option Value}{base:Heap}{N ps:List Str}{qual:Str}{scope:Scope}{f:Addr}{cd:Value}{A:Around}{outer:List Env}{s s1:Shared}{H:Hp}{E:XK}{us:List Value}{vs:List V}
  (S:FnScope N ps scope)(hd:A.handled=none)(e0:Env0 P w K mg base A outer s H)(hl:vs.length=ps.length)(r:Vals vs us)
  (x:InCallC s s.heap.objs.size (bindL (envOfC qual scope s.heap.objs.size f cd).kindOf (ps.zip us) fun _=>none) (cellsFrom (s.heap.objs.size+1) scope.names []) (bindC (envOfC qual scope s.heap.objs.size f cd).kindOf (ps.zip us) fun _=>none) s1):
  Inv (cxOf CX P w K mg base N qual scope f cd A outer s H E) [] (start N vs) H s1:=by
 have hpl:ps.length≤N.length:=by have:=congrArg List.length S.pre;rw[U23] at this;omega
 obtain⟨h1,tk,rfl,hk⟩:=x.done;have noA:∀ b:Addr,b∉(cxOf CX P w K mg base N qual scope f cd A outer s H E).ex:=fun b z=>absurd (show b∈([]:List Addr) from z) (by simp);refine⟨⟨e0.mod,S.kind,rfl,rfl,Y12 _,fun y z c h1 h2=>?_,fun y hy=>?_,fun y c _ h=>?_,fun _=>hd,Around.frames_deeper e0.frames, .inr ⟨rfl,rfl⟩,fun b z=>absurd z (noA b),e0.bs,e0.bsz,fun b _ _=>noA b,fun b z=>absurd z (noA b),e0.funs,e0.frf⟩,
  rfl,e0.bare,Un.kept hk,⟨_,x.toInCall.ns,fun i y v h1 h2 h3=>?_⟩,fun y c h=>⟨_,x.cell y c h⟩,e0.hok.fresh (Y12 _),fun y c h=>?_,fun p hp=>absurd (show p∈([]:List (Addr×Obj)) from hp) (by simp),e0.hok.kept hk,?_⟩
 ·exact name_of_addr x.apart (Z18 h1) (Z18 h2)
 ·have hy:scope.names.lookup y=some .cell∨scope.names.lookup y=some .free:=hy;rcases hy with hy|hy
  ·exact oU hy
  ·exact absurd rfl (S.nofree _ (Z18 hy))
 ·exact Nat.le_of_lt (x.above y c (Z18 h))
 ·have hi:i<vs.length:=by
   unfold start at h2
   by_cases hi:i<vs.length
   ·exact hi
   ·rw[W13 (by simpa using hi)] at h2;rw[V20] at h2
    split at h2<;>cases h2
  have ha:vs[i]?=some v:=by
   unfold start at h2;rw[Y15 (by simpa using hi),Z13] at h2;cases e:vs[i]? with
   |none=>rw[e] at h2;cases h2
   |some a=>rw[e] at h2;cases h2;rfl
  obtain⟨u,hu,rv⟩:=r.get ha;have hp:ps[i]?=some y:=by
   rw[← S.pre,List.getElem?_take_of_lt (by omega)];exact h1
  have ndP:ps.Nodup:=by rw[← S.pre];exact S.nd.sublist (List.take_sublist _ _)
  refine⟨u,rv,?_⟩;rcases S.par y (W24 hp) with k|k
  ·exact .inl ⟨k,qT ndP hp hu k⟩
  ·obtain⟨c,e⟩:=oU (n:=s.heap.objs.size+1) k;refine .inr ⟨.inl k,c,e,?_⟩;have q:=x.cell y c e;rw[qU ndP hp hu (by show scope.names.lookup y≠_;rw[k];decide)] at q;exact q
 ·exact e0.hok.fresh (Nat.le_of_lt (x.above y c (Z18 h)))
 ·unfold start;show _=N.length;rw[Y13,U16,Z24]
  omega
theorem aIp{CX:CXT}{P:Program}{w:World}{K:Fg9}{mg:Str→Option Value}{base:Heap}{k:Nat}{f:Addr}{name qual:Str}{params:Arguments}{body:List Stmt}{scope:Scope}{dV kV doc pm cdv ct oc:Value}{an od:Option Addr}
  {osl:Array (Option Value)}{N ps:List Str}{sp:Sp}(lk:K.lookup f=some ⟨oc,od, .func (PySem.W.fnOf name qual params body scope dV kV doc pm an cdv ct),osl⟩)(hcd:PySem.W.codeIn K cdv qual=true)(S:FnScope N ps scope)
  (len:∀ vs H Q E,sp vs H Q E→vs.length=ps.length)
  (hbody:∀ (A:Around) (outer:List Env) (s:Shared) (H:Hp) (vs:List V) (Q:VK) (E:XK),Room k (A.deeper (envOfC qual scope s.heap.objs.size f cdv))→sp vs H Q E→
   ∃ t,PSs (cxOf CX P w K mg base N qual scope f cdv A outer s H E) body t∧t { nx:=fun _ H'=>Q .non H',rt:=Q } (start N vs) H):
  FnOk P w K mg base CX (k+1) f (PySem.W.fnOf name qual params body scope dV kV doc pm an cdv ct) ps sp:=by
 refine⟨len,fun A outer s H args us vs Q E hr e0 hb r hsp=>?_⟩;have hl:=len _ _ _ _ hsp;have KX:K.In s.heap:=e0.mod.kin.keeps fun b o e=>(e0.bs b o e).1;have lim:s.heap.NoLimit:=e0.mod.nolimit.keeps fun b o e=>(e0.bs b o e).1;have hkind:∀ y∈ps.zip us,scope.names.lookup y.1=some .local∨(scope.names.lookup y.1=some .cell∧((cellsFrom (s.heap.objs.size+1) scope.names []).lookup y.1).isSome=true):=fun⟨n,v⟩ hy=>by
  rcases S.par n (List.of_mem_zip hy).1 with q|q
  ·exact .inl q
  ·exact .inr ⟨q,PySem.W.cellsFrom_some _ _ _ (.inl q)⟩
 refine codeAny_call_function hr.depth (KX _ _ lk) rfl S.co S.gen rfl (PySem.W.codeRec_of KX hcd) (hb _ _ _ _ ?_);refine wpAny_newFunctionEnv_cells S.kind hkind fun env he s1 x=>?_;subst he;refine⟨lim.keeps x.toInCall.keep,codeAny_func ?_⟩;obtain⟨t,ht,hq⟩:=hbody A outer s H vs Q E (hr.deeper _) hsp;have I:Inv (cxOf CX P w K mg base N qual scope f cdv A outer s H E) [] (start N vs) H s1:=zO S hr.hd e0 hl r x;refine W22 (ht [] s1 (start N vs) H _ I hq) (fun fl s' hs=>?_) fun e s' hs=>hs;have fin:∀ {σ':St} {H':Hp} {v:V} {u:Value},Inv (cxOf CX P w K mg base N qual scope f cdv A outer s H E) [] σ' H' s'→RelV v u→Q v H'→CE outer P w H s Q u s':=
  fun {σ' H' v u} J rv q=>⟨v,H',J.os,J.bare,J.base,J.hok,rv,q⟩
 cases fl with
 |ret u=>
  obtain⟨v,σ',H',J,rv,q⟩:=hs;exact fin J rv q
 |next=>
  obtain⟨σ',H',J,q⟩:=hs;exact fin (v:=V.non) (u:=Value.none) J rfl q
 |brk=>
  obtain⟨_,_,_,q⟩:=hs;exact False.elim q
 |cont=>
  obtain⟨_,_,_,q⟩:=hs;exact False.elim q
end L2
namespace L2
open PySem PySem.Spec PyProof.Rows
section
variable{X:Cx}{x:Str}{p pos:Pos}{e:Expr}{es:List Expr}{t:TA}{id T:String}{r:List V→Hp→VK→Prop}
def tCB(r:List V→Hp→VK→Prop)(t:TA):TE:=fun σ H Q=>t σ H fun vs H1=>r vs H1 Q
theorem aBm(hc:CallR X (.builtin id) r)(hg:Gl X x)(hm:X.mg x=none)(hv:bootBuiltins x=some (.builtin id))(ha:PA X (e::es) t)(hn:x≠"__name__":=by decide)(hdb:(x==("__debug__":Str))=false:=by decide)
  (he:starEach (e::es) X.env=(false,eval e X.env)::starEach es X.env:=by rfl)(hpl:(backTo pos (starEach es X.env)).any (·.1)=false:=by rfl):PE X (.Call (.Name x p) (e::es) [] pos) (tCB r t):=by
 intro pins s σ H Q I h;refine W19 (gF I hg hm hv ?_ hn hdb);exact PyProof.Rows.callWith_builtin1 (thn (ha pos pins s σ H _ I h) fun us s1 ⟨vs,H1,I1,r1,q1⟩=>hc pins s1 σ H1 vs us Q I1 r1 q1) he hpl
theorem zP(hc:CallR X (.type T) r)(hg:Gl X x)(hm:X.mg x=none)(hv:bootBuiltins x=some (.type T))(ha:PA X (e::es) t)(hn:x≠"__name__":=by decide)(hdb:(x==("__debug__":Str))=false:=by decide)
  (he:starEach (e::es) X.env=(false,eval e X.env)::starEach es X.env:=by rfl)(hpl:(backTo pos (starEach es X.env)).any (·.1)=false:=by rfl):PE X (.Call (.Name x p) (e::es) [] pos) (tCB r t):=by
 intro pins s σ H Q I h;refine W19 (gF I hg hm hv ?_ hn hdb);exact Y16 (thn (ha pos pins s σ H _ I h) fun us s1 ⟨vs,H1,I1,r1,q1⟩=>hc pins s1 σ H1 vs us Q I1 r1 q1) he hpl
theorem vU(hc:CallR X (.type T) r)(hg:Gl X x)(hm:X.mg x=none)(hv:bootBuiltins x=some (.type T))(hn:x≠"__name__":=by decide)(hdb:(x==("__debug__":Str))=false:=by decide):
  PE X (.Call (.Name x p) [] [] pos) (tCB r tNil):=by
 intro pins s σ H Q I h;refine W19 (gF I hg hm hv ?_ hn hdb);exact PyProof.Rows.callWith_type0 (hc pins s σ H [] [] Q I .nil h)
end
end L2
namespace HT
open PySem PyProof.Rows
section
variable{prog:Program}{w:World}{A:Around}{E:Value→Shared→Prop}{s:Shared}
theorem aDY{t b:Addr}{vs ws:List Value}{Q:Value→Shared→Prop}(ht:IsTup s.heap t vs.toArray)(hb:IsTup s.heap b ws.toArray)(hv:vs≠[])
  (h1:ws=[]→Q (.ref t) s)(h2:ws≠[]→Q (.ref s.heap.objs.size) { s with heap:=s.heap.push { cls:=.type "tuple",data:=.seq (vs++ws).toArray } })
  (hsz:vs.length+ws.length≤sizeLine):wpAny (model prog w) A (binaryOp .Add (.ref t) (.ref b)) Q E s:=by
 obtain⟨⟨cls,dd,data,sl⟩,ho,hc,n,hd⟩:=id ht;obtain⟨⟨cls2,dd2,data2,sl2⟩,ho2,hc2,n2,hd2⟩:=id hb;simp only at hc hd hc2 hd2;subst hc hd hc2 hd2;have e:vs.toArray++ws.toArray=(vs++ws).toArray:=by simp
 by_cases hw:ws=[]
 ·exact concat_meets ⟨_,ho,rfl⟩ ⟨_,ho2,rfl⟩ noFill_tuple_add seq_tuple_add U34 V32 (W31 _ _)
   (tuple_addW1 t b vs.toArray ws.toArray n n2 dd dd2 sl sl2 (by simpa using hv) (by simp[hw])) ⟨ho,ho2,h1 hw⟩
 ·refine concat_meets ⟨_,ho,rfl⟩ ⟨_,ho2,rfl⟩ noFill_tuple_add seq_tuple_add U34 V32 (W31 _ _)
   (tuple_addW2 t b vs.toArray ws.toArray n n2 dd dd2 sl sl2 (by simpa using hv) (by simpa using hw) (by rw[Y11,Y11];exact hsz)) ⟨ho,ho2,?_⟩
  rw[e];exact h2 hw
noncomputable def sIx(n d:Nat):Option Int→Nat
 |none=>d
 |some v=>if v<0 then(v+(n:Int)).toNat else min v.toNat n
theorem aGk(n d:Nat)(hd:d≤n)(o:Option Int):sIx n d o≤n:=by
 cases o with
 |none=>exact hd
 |some v=>
  show(if v<0 then(v+(n:Int)).toNat else min v.toNat n)≤n
  by_cases hv:v<0
  ·rw[if_pos hv];omega
  ·rw[if_neg hv];exact Nat.min_le_right _ _
theorem xP(v:Int)(n d:Nat):(if v<0 then max (v+(n:Int)) 0 else min v (n:Int))=((sIx n d (some v):Nat):Int):=by
 show(if v<0 then max (v+(n:Int)) 0 else min v (n:Int))=(((if v<0 then(v+(n:Int)).toNat else min v.toNat n):Nat):Int)
 by_cases hv:v<0
 ·simp only[if_pos hv];omega
 ·simp only[if_neg hv];omega
theorem vV(lo hi:Option Int)(n:Nat):Builtin.Slice.sliceAdjust lo hi 1 (n:Int)=(((sIx n 0 lo:Nat):Int),((sIx n n hi:Nat):Int)):=by
 have h1:¬ ((1:Int)<0):=by omega
 unfold Builtin.Slice.sliceAdjust;simp only[h1,if_false];refine Prod.ext ?_ ?_
 ·cases lo with
  |none=>rfl
  |some v=>exact xP v n 0
 ·cases hi with
  |none=>rfl
  |some v=>exact xP v n n
theorem vW(i j:Nat):Builtin.Slice.slicePlaces (i:Int) (j:Int) 1=j - i:=by
 unfold Builtin.Slice.slicePlaces;have h1:(1:Int) > 0:=by omega
 simp only[h1,if_true,Int.ediv_one]
 split<;>omega
theorem oV{v:Value}{o:Option Int}{Q:Option Int→Shared→Prop}(p:IsPart v o)(h:Q o s):wpAny (model prog w) A (Builtin.Slice.slicePartIndex v) Q E s:=by
 cases p with
 |none=>exact slicePart_none h
 |int i t=>exact slicePart_int h
theorem iZ{sl:Addr}{vl vu:Value}{lo hi:Option Int}{n:Nat}{Q:Int×Int×Nat→Shared→Prop}(hs:s.heap.IsSliceOf sl vl vu .none)(pl:IsPart vl lo)(pu:IsPart vu hi)
  (h:Q (((sIx n 0 lo:Nat):Int),1,sIx n n hi - sIx n 0 lo) s):wpAny (model prog w) A (Builtin.Slice.sliceApplied (.ref sl) (pure (n:Int))) Q E s:=by
 obtain⟨os,hos,hcs,hds⟩:=id hs;unfold Builtin.Slice.sliceApplied Builtin.Slice.sliceFields;refine Y10 (Y10 (V16 hos hds (x:=vl) rfl (Y10 (V16 hos hds (x:=vu) rfl (Y10 (V16 hos hds (x:=.none) rfl (W10 ?_)))))));refine Y10 (slicePart_none ?_);show wpAny _ _ (if((1:Int)==0)=true then _ else _) _ _ s;rw[if_neg (by decide)];refine Y10 (oV pl (Y10 (oV pu (Y10 (W10 ?_)))));show wpAny _ _ (match Builtin.Slice.sliceAdjust lo hi 1 (n:Int) with |(lo,hi)=>pure (lo,(1:Int),Builtin.Slice.slicePlaces lo hi 1)) _ _ s;rw[vV lo hi n];show wpAny _ _ (pure (((sIx n 0 lo:Nat):Int),(1:Int),Builtin.Slice.slicePlaces ((sIx n 0 lo:Nat):Int) ((sIx n n hi:Nat):Int) 1)) _ _ s;rw[vW];exact W10 h
theorem aBn(xs:Array Value)(i k:Nat):((List.range k).filterMap fun(m:Nat)=>xs[((i:Int)+(m:Int) * 1).toNat]?).toArray=((xs.toList.drop i).take k).toArray:=by
 have e:(fun(m:Nat)=>xs[((i:Int)+(m:Int) * 1).toNat]?)=fun m=>xs[i+m]?:=by
  funext m
  have:((i:Int)+(m:Int) * 1).toNat=i+m:=by omega
  rw[this]
 rw[e];have:=pick_run xs i k;rw[List.filterMap_map] at this;have e2:((fun x=>xs[x]?) ∘ fun x=>i+x)=fun m=>xs[i+m]?:=rfl;rw[e2] at this;rw[this]
theorem lV{t sl:Addr}{items:Array Value}{vl vu:Value}{lo hi:Option Int}{Q:Value→Shared→Prop}(ht:IsTup s.heap t items)(hs:s.heap.IsSliceOf sl vl vu .none)(pl:IsPart vl lo)(pu:IsPart vu hi)
  (hw:¬ (sIx items.size 0 lo=0∧sIx items.size items.size hi=items.size))
  (h:Q (.ref s.heap.objs.size) { s with heap:=s.heap.push { cls:=.type "tuple",data:=.seq ((items.toList.drop (sIx items.size 0 lo)).take (sIx items.size items.size hi - sIx items.size 0 lo)).toArray } })
  (hsz:items.size≤sizeLine):wpAny (model prog w) A (getItem (.ref t) (.ref sl)) Q E s:=by
 have htake:sizeOk (.seq ((items.toList.drop (sIx items.size 0 lo)).take (sIx items.size items.size hi - sIx items.size 0 lo)).toArray):=by
  show((items.toList.drop (sIx items.size 0 lo)).take (sIx items.size items.size hi - sIx items.size 0 lo)).toArray.size≤sizeLine;rw[Y11,U23,Y19,Y23]
  omega
 have hj:sIx items.size items.size hi≤items.size:=aGk _ _ (Y12 _) hi;obtain⟨os,hos,hcs,hds⟩:=id hs;have hTs:s.TypeIs (.ref sl) "slice":=⟨os,hos,hcs⟩;unfold getItem
 try with_reducible refine Z16 ?_
 first|refine Y10 (W10 ?_)|skip
 refine Y10 (V35 ht.typeIs (by decide) ?_);refine Y10 (U15 (name:=Str.ofString "__getitem__") ht.typeIs Z15
  (W16 Z15 ht.typeIs entry_tuple_getitem ?_ (args_tuple_getitem _ _)))
 show wpAny _ _ (Builtin.Tuple.tupleItemsOf (.ref t) >>=_) _ _ s;refine Y10 (tupleItemsOf_ ht ?_);refine Y10 (U25 hTs ?_);rw[if_pos (by decide)];refine Y10 (iZ hs pl pu ?_);have hno:¬ ((((sIx items.size 0 lo:Nat):Int)==0&&(1:Int)==1&&(sIx items.size items.size hi - sIx items.size 0 lo)==items.size)=true):=by
  intro q;rw[Z11,Z11] at q;have q1:((sIx items.size 0 lo:Nat):Int)=0:=eq_of_beq q.1.1;have q2:sIx items.size items.size hi - sIx items.size 0 lo=items.size:=eq_of_beq q.2;exact hw ⟨by omega,by omega⟩
 show wpAny _ _ (if(((sIx items.size 0 lo:Nat):Int)==0&&(1:Int)==1&&(sIx items.size items.size hi - sIx items.size 0 lo)==items.size)=true then _ else _) _ _ s;rw[if_neg hno,aBn]
 first
  |exact Y10 (m:=Builtin.Tuple.tupleExact _) (W14 (W10 ⟨_,rfl,W10 h⟩) htake)
  |exact Y10 (m:=Builtin.Tuple.tupleExact _) (W14 (Y10 (W10 (W10 ⟨_,rfl,W10 h⟩))) htake)
  |exact Y10 (Y10 (m:=Builtin.Tuple.tupleExact _) (W14 (W10 (W10 ⟨_,rfl,W10 h⟩)) htake))
  |exact Y10 (Y10 (m:=Builtin.Tuple.tupleExact _) (W14 (W10 ⟨_,rfl,W10 h⟩) htake))
end
end HT
namespace L2
open PySem PySem.Spec PyProof.Rows
abbrev TO:=St→Hp→(Option Int→Hp→Prop)→Prop
def PO(X:Cx)(e:Option Expr)(t:TO):Prop:=
 ∀ (pins:List (Addr×Obj)) (s:Shared) (σ:St) (H:Hp) (Q:Option Int→Hp→Prop),Inv X pins σ H s→t σ H Q→
  wpAny (model X.prog X.w) X.A (evalPart e X.env) (fun u s'=>∃ o H',Inv X pins σ H' s'∧IsPart u o∧Q o H') X.xe s
def tNoPart:TO:=fun _ H Q=>Q none H
def tPart(t:TE):TO:=fun σ H Q=>t σ H fun x H1=>∃ i,x=.int i∧Q (some i) H1
section
variable{X:Cx}{e:Expr}{te:TE}{lo hi:Option Expr}{tl th:TO}{pos p2:Pos}
theorem aDZ:PO X none tNoPart:=by
 intro pins s σ H Q I h;rw[Y37];exact W10 ⟨none,H,I, .none,h⟩
theorem aEa(h:PE X e te):PO X (some e) (tPart te):=by
 intro pins s σ H Q I hw;rw[evalPart_some];refine thn (h pins s σ H _ I hw) fun u s1 ⟨x,H1,I1,r1,q1⟩=>?_;obtain⟨i,rfl,q⟩:=q1;obtain⟨t,rfl⟩:=r1;exact⟨some i,H1,I1, .int i t,q⟩
def SlR(X:Cx)(r:V→Option Int→Option Int→Hp→VK→Prop):Prop:=
 ∀ (pins:List (Addr×Obj)) (s:Shared) (σ:St) (H:Hp) (x:V) (v vl vu:Value) (lo hi:Option Int) (sl:Addr) (Q:VK),Inv X pins σ H s→RelV x v→s.heap.IsSliceOf sl vl vu .none→IsPart vl lo→IsPart vu hi→r x lo hi H Q→
  ∃ T id,typeLookup (.type T) "__getitem__"=pure (some (.builtin id))∧s.TypeIs v T∧wpAny (model X.prog X.w) X.A (getItem v (.ref sl)) (EP X pins σ Q) X.xe s
theorem SlR.or{r r':V→Option Int→Option Int→Hp→VK→Prop}(h:SlR X r)(h':SlR X r'):SlR X (fun x lo hi H Q=>r x lo hi H Q∨r' x lo hi H Q):=by
 intro pins s σ H x v vl vu lo hi sl Q I rx hs pl pu q;rcases q with q|q
 ·exact h pins s σ H x v vl vu lo hi sl Q I rx hs pl pu q
 ·exact h' pins s σ H x v vl vu lo hi sl Q I rx hs pl pu q
def tSl(r:V→Option Int→Option Int→Hp→VK→Prop)(te:TE)(tl th:TO):TE:=fun σ H Q=>te σ H fun x H1=>tl σ H1 fun l H2=>th σ H2 fun u H3=>r x l u H3 Q
theorem aBo{r:V→Option Int→Option Int→Hp→VK→Prop}(hr:SlR X r)(he:PE X e te)(hl:PO X lo tl)(hu:PO X hi th):PE X (.Subscript e (.Slice lo hi none p2) pos) (tSl r te tl th):=by
 intro pins s σ H Q I h;refine Subscript_ (thn (he pins s σ H _ I h) fun v s1 ⟨x,H1,I1,r1,q1⟩=>?_);refine wpAny_Slice (thn (hl pins s1 σ H1 _ I1 q1) fun vl s2 ⟨l,H2,I2,pl,q2⟩=>thn (hu pins s2 σ H2 _ I2 q2) fun vu s3 ⟨u,H3,I3,pu,q3⟩=>?_);rw[Y37];refine W10 ?_;have I4:Inv X pins σ H3 { s3 with heap:=s3.heap.push { cls:=.type "slice",data:=.fields #[vl,vu, .none] } }:=I3.kept (t':=s3.toks) fun b ob q=>V10 _ q;obtain⟨T,id,hT,ht,hg⟩:=hr pins { s3 with heap:=s3.heap.push { cls:=.type "slice",data:=.fields #[vl,vu, .none] } } σ H3 x v vl vu l u s3.heap.objs.size Q I4 r1 (Heap.IsSliceOf.new ..) pl pu q3;show wpAny (model X.prog X.w) X.A (subscriptTail e (.Slice lo hi none p2) v (.ref s3.heap.objs.size)) (EP X pins σ Q) X.xe { s3 with heap:=s3.heap.push { cls:=.type "slice",data:=.fields #[vl,vu, .none] } };exact tail_any (ops:=[.ref s3.heap.objs.size,v]) ht hT hg (by with_unfolding_all rfl)
noncomputable def cutV(xs:List V)(lo hi:Option Int):List V:=(xs.drop (HT.sIx xs.length 0 lo)).take (HT.sIx xs.length xs.length hi - HT.sIx xs.length 0 lo)
theorem nJ(xs:List V)(lo hi:Option Int):(cutV xs lo hi).length≤xs.length:=by
 unfold cutV;rw[U23,Y19]
 omega
def rSlT(K:Fg9):V→Option Int→Option Int→Hp→VK→Prop:=fun x lo hi H Q=>∃ a xs,x=.ref a∧SqT K H a xs∧
 ¬ (HT.sIx xs.length 0 lo=0∧HT.sIx xs.length xs.length hi=xs.length)∧∀ p,H p=none→Q (.ref p) (upd H p (.tup (cutV xs lo hi)))
theorem aGl:SlR X (rSlT X.K):=by
 intro pins s σ H x v vl vu lo hi sl Q I rx hs pl pu h;obtain⟨a,xs,rfl,hx,hw,q⟩:=h;cases rx;obtain⟨its,r,ht,hz⟩:=I.tuple hx;have hlen:its.toArray.size=xs.length:=by rw[Y11];exact r.length.symm
 refine⟨"tuple",_,Z15.lookup,ht.typeIs,?_⟩;refine HT.lV ht hs pl pu (by rw[hlen];exact hw) ?_ (by rw[hlen];exact hz);rw[hlen];refine⟨.ref s.heap.objs.size,_,I.laid (t':=s.toks) (o:=.tup (cutV xs lo hi)) (fun b ob q=>V10 _ q) (Y12 _) ?_,rfl,q _ (I.hok.fresh (Y12 _))⟩;exact⟨Z17 (nJ xs lo hi) hz,_,(r.drop (HT.sIx xs.length 0 lo)).take (HT.sIx xs.length xs.length hi - HT.sIx xs.length 0 lo),IsTup.new _ _⟩
def rCatT(K:Fg9):R2:=fun x y H Q=>∃ a b xs ys,x=.ref a∧y=.ref b∧SqT K H a xs∧SqT K H b ys∧xs≠[]∧xs.length+ys.length≤sizeLine∧
 (ys=[]→Q (.ref a) H)∧(ys≠[]→∀ p,H p=none→Q (.ref p) (upd H p (.tup (xs++ys))))
theorem Vals.nil_iff{xs:List V}{us:List Value}(r:Vals xs us):us=[] ↔ xs=[]:=by
 cases r with
 |nil=>simp
 |cons _ _=>simp
theorem aEb:OpR X (binaryOp .Add) (rCatT X.K):=by
 intro pins s σ H x y v u Q I rx ry h;obtain⟨a,b,xs,ys,rfl,rfl,ha,hb,hx,hz,q1,q2⟩:=h;cases rx;cases ry;obtain⟨its,r1,p1,_⟩:=I.tuple ha;obtain⟨its2,r2,p2,_⟩:=I.tuple hb;refine HT.aDY p1 p2 (fun z=>hx (r1.nil_iff.mp z)) (fun z=>⟨.ref a,H,I,rfl,q1 (r2.nil_iff.mp z)⟩) (fun z=>?_) (by rw[← r1.length,← r2.length];exact hz);refine⟨.ref s.heap.objs.size,_,I.laid (t':=s.toks) (o:=.tup (xs++ys)) (fun b ob q=>V10 _ q) (Y12 _) ?_,rfl,q2 (fun w=>z (r2.nil_iff.mpr w)) _ (I.hok.fresh (Y12 _))⟩;exact⟨by rw[Y13];exact hz,_,r1.append r2,IsTup.new _ _⟩
end
end L2
namespace L2
open PySem PySem.Spec PyProof.Rows
noncomputable def ixN(n:Nat)(i:Int):Option Nat:=if 0≤i then(if i<n then some i.toNat else none) else if -(n:Int)≤i then some (i+n).toNat else none
noncomputable def atI{α:Type}(xs:List α)(i:Int):Option α:=(ixN xs.length i).bind fun j=>xs[j]?
theorem xQ{n:Nat}{i:Int}{j:Nat}(h:ixN n i=some j):seqIndex? i n=some j∧j<n∧-(n:Int)≤i∧i<n:=by
 unfold ixN at h
 by_cases h0:0≤i
 ·rw[if_pos h0] at h
  by_cases h1:i<n
  ·rw[if_pos h1] at h;have e:i.toNat=j:=U14 h;exact⟨by rw[seqIndex_of h0 h1,e],by omega,by omega,h1⟩
  ·rw[if_neg h1] at h;cases h
 ·rw[if_neg h0] at h
  by_cases h1:-(n:Int)≤i
  ·rw[if_pos h1] at h;have e:(i+n).toNat=j:=U14 h;exact⟨by rw[seqIndex_neg (by omega) h1,e],by omega,h1,by omega⟩
  ·rw[if_neg h1] at h;cases h
theorem rS{α:Type}{xs:List α}{i:Int}{v:α}(h:atI xs i=some v):∃ j,seqIndex? i xs.length=some j∧xs[j]?=some v∧j<xs.length∧-(xs.length:Int)≤i∧i<xs.length:=by
 unfold atI at h;cases e:ixN xs.length i with
 |none=>rw[e] at h;cases h
 |some j=>
  rw[e] at h;obtain⟨h1,h2,h3,h4⟩:=xQ e;exact⟨j,h1,h,h2,h3,h4⟩
theorem fS{α:Type}{xs:List α}{j:Nat}{v:α}(h:xs[j]?=some v):atI xs (j:Int)=some v:=by
 have hj:j<xs.length:=(Z10.mp h).1;have e:ixN xs.length (j:Int)=some j:=by
  unfold ixN;rw[if_pos (by omega),if_pos (by omega)];simp
 unfold atI;rw[e];exact h
theorem oW{α:Type}(xs:List α)(v:α):atI (xs++[v]) (-1)=some v:=by
 have hl:(xs++[v]).length=xs.length+1:=by simp
 have e:ixN (xs++[v]).length (-1)=some xs.length:=by
  unfold ixN;rw[hl,if_neg (by decide),if_pos (by omega)]
  congr 1
  omega
 unfold atI;rw[e];show(xs++[v])[xs.length]?=some v;simp
def PlainIx(b:Expr):Prop:=∀ o i,subscripted b false o i=operate [o,i] (getItem o i)
def IxR(X:Cx)(r:R2):Prop:=
 ∀ (value slice:Expr) (pins:List (Addr×Obj)) (s:Shared) (σ:St) (H:Hp) (x y:V) (v u:Value) (Q:VK),Inv X pins σ H s→RelV x v→RelV y u→r x y H Q→
  subscripted slice false v u=operate [v,u] (getItem v u)→wpAny (model X.prog X.w) X.A (subscriptTail value slice v u) (EP X pins σ Q) X.xe s
def MtR(X:Cx)(id:String)(r:V→List V→Hp→VK→Prop):Prop:=
 ∀ (pins:List (Addr×Obj)) (s:Shared) (σ:St) (H:Hp) (x:V) (xs:List V) (v:Value) (us:List Value) (Q:VK),Inv X pins σ H s→RelV x v→Vals xs us→r x xs H Q→
  wpAny (model X.prog X.w) X.A (call (.builtin id) (v::us)) (EP X pins σ Q) X.xe s
section
variable{X:Cx}{a b:Expr}{ta tb:TE}{pos:Pos}
theorem IxR.or{r r':R2}(h:IxR X r)(h':IxR X r'):IxR X (fun x y H Q=>r x y H Q∨r' x y H Q):=by
 intro value slice pins s σ H x y v u Q I rx ry q hs;rcases q with q|q
 ·exact h value slice pins s σ H x y v u Q I rx ry q hs
 ·exact h' value slice pins s σ H x y v u Q I rx ry q hs
theorem MtR.or{id:String}{r r':V→List V→Hp→VK→Prop}(h:MtR X id r)(h':MtR X id r'):MtR X id (fun x xs H Q=>r x xs H Q∨r' x xs H Q):=by
 intro pins s σ H x xs v us Q I rx rs q;rcases q with q|q
 ·exact h pins s σ H x xs v us Q I rx rs q
 ·exact h' pins s σ H x xs v us Q I rx rs q
theorem aIq{r:R2}(hr:IxR X r)(ha:PE X a ta)(hb:PE X b tb)(hs:PlainIx b):PE X (.Subscript a b pos) (tOp r ta tb):=by
 intro pins s σ H Q I h;exact Subscript_ (binT ha hb I h fun v u s2 x y H2 I2 rx ry q=>hr a b pins s2 σ H2 x y v u Q I2 rx ry q (hs _ _))
def rIxL(K:Fg9):R2:=fun x y H Q=>∃ p xs i v,x=.ref p∧y=.int i∧SqL K H p xs∧atI xs i=some v∧Q v H
def rIxT(K:Fg9):R2:=fun x y H Q=>∃ p xs i v,x=.ref p∧y=.int i∧SqT K H p xs∧atI xs i=some v∧Q v H
def rIxS:R2:=fun x y H Q=>∃ z i c,x=.str z∧y=.int i∧z.length≤sizeLine∧atI z.cps.toList i=some c∧Q (.str ⟨#[c]⟩) H
theorem aEc:IxR X (rIxL X.K):=by
 intro value slice pins s σ H x y v u Q I rx ry h hs;obtain⟨p,xs,i,z,rfl,rfl,hq,he,q⟩:=h;cases rx;obtain⟨t,rfl⟩:=ry;obtain⟨its,r,pl,hz⟩:=I.list hq;obtain⟨j,h1,h2,h3,h4,h5⟩:=rS he;obtain⟨w,ew,rw'⟩:=r.get h2;have hl:=r.length;have hn:=line63;have fin:EP X pins σ Q w s:=⟨z,H,I,rw',q⟩
 by_cases h0:0≤i
 ·have hj:i.toNat=j:=by
   rw[seqIndex_of h0 h5] at h1;exact U14 h1
  exact item_listR pl.isList h0 (by omega) (by rw[hj];simpa using ew) fin hs
 ·have hj:(i+(its.toArray.size:Int)).toNat=j:=by
   rw[seqIndex_neg (by omega) h4] at h1;rw[Y11,← hl];exact U14 h1
  exact subscriptTail_builtinR (x:=w) pl.isList.typeIs slot_list_getitem.lookup
   (wpAny_getItem_list_neg (Q:=fun r s'=>r=w∧EP X pins σ Q r s') pl.isList (by omega) (by rw[Y11]<;>omega) (by omega) (by rw[hj];simpa using ew) ⟨rfl,fin⟩) hs
theorem aGm:IxR X (rIxT X.K):=by
 intro value slice pins s σ H x y v u Q I rx ry h hs;obtain⟨p,xs,i,z,rfl,rfl,hq,he,q⟩:=h;cases rx;obtain⟨t,rfl⟩:=ry;obtain⟨its,r,pl,hz⟩:=I.tuple hq;obtain⟨j,h1,h2,h3,h4,h5⟩:=rS he;obtain⟨w,ew,rw'⟩:=r.get h2;have hl:=r.length;have hn:=line63;have fin:EP X pins σ Q w s:=⟨z,H,I,rw',q⟩;exact subscriptTail_builtinR (x:=w) pl.typeIs slot_tuple_getitem.lookup
  (getItem_tuple (j:=j) (Q:=fun r s'=>r=w∧EP X pins σ Q r s') pl (by omega) (by omega) (by rw[Y11,← hl];exact h1) (by simpa using ew) ⟨rfl,fin⟩) hs
theorem aGn:IxR X rIxS:=by
 intro value slice pins s σ H x y v u Q I rx ry h hs;obtain⟨z,i,c,rfl,rfl,hz,he,q⟩:=h;obtain⟨t,rfl⟩:=rx;obtain⟨t',rfl⟩:=ry;obtain⟨j,h1,h2,h3,h4,h5⟩:=rS he;have hl:z.cps.toList.length=z.length:=by simp[Str.length]
 rw[hl] at h1 h4 h5;have hn:=line63;exact tail_any (typeIs_str s z t) slot_str_getitem.lookup (getItem_str (c:=c) (by
  have e1:decide (i < -(2 ^ 63:Int))=false:=W17 (by omega);have e2:decide (i≥2 ^ 63)=false:=W17 (by omega);rw[e1,e2,Bool.or_false]) (by rw[h1];simpa using h2) ⟨.str ⟨#[c]⟩,H,I.tok _,⟨_,rfl⟩,q⟩) hs
def rIx(K:Fg9):R2:=fun x y H Q=>rIxL K x y H Q∨rIxT K x y H Q∨rIxS x y H Q
theorem aGo:IxR X (rIx X.K):=aEc.or (aGm.or aGn)
theorem vX(its:List Value)(n j:Nat)(u:Value):Obj.mapSeq (·.setIfInBounds j u) { cls:=.type "list",data:=.seq its.toArray n }={ cls:=.type "list",data:=.seq (its.set j u).toArray n }:=by
 simp[Obj.mapSeq]
theorem Inv.lst{pins:List (Addr×Obj)}{σ:St}{H:Hp}{s:Shared}{p:Addr}{xs:List V}(I:Inv X pins σ H s)(h:H p=some (.lst xs)):
  ∃ (its:List Value) (n:Nat),Vals xs its∧s.heap.get? p=some { cls:=.type "list",data:=.seq its.toArray n }∧xs.length≤sizeLine:=by
 obtain⟨z,its,n,r,e⟩:=I.hok p _ h;exact⟨its,n,r,e,z⟩
theorem Inv.lstUpd{pins:List (Addr×Obj)}{σ:St}{H:Hp}{s:Shared}{p:Addr}{xs ys:List V}{its its':List Value}{n n':Nat}{f:Obj→Obj}(I:Inv X pins σ H s)(h:H p=some (.lst xs))
  (ho:s.heap.get? p=some { cls:=.type "list",data:=.seq its.toArray n })(hf:f { cls:=.type "list",data:=.seq its.toArray n }={ cls:=.type "list",data:=.seq its'.toArray n' })(r:Vals ys its')(hz:ys.length≤sizeLine)(t:Nat):
  Inv X pins σ (upd H p (.lst ys)) { s with heap:=s.heap.update p f,toks:=t }:=by
 have e:(s.heap.update p f).get? p=some { cls:=.type "list",data:=.seq its'.toArray n' }:=by
  rw[Heap.get?_update_self f ho (by rw[hf]<;>rfl),hf]
 refine I.write (x:=p) (e:=p) (by rw[h];trivial) (.inl rfl) (fun b u hb q=>(Y21 _ _ (Ne.symm hb)).trans q) ⟨_,e⟩ ?_;exact⟨hz,its',n',r,e⟩
def rSetL:V→V→V→Hp→(Hp→Prop)→Prop:=fun o i v H Q=>∃ p xs k j,o=.ref p∧i=.int k∧H p=some (.lst xs)∧ixN xs.length k=some j∧Q (upd H p (.lst (xs.set j v)))
theorem set_list:PSet X rSetL:=by
 intro pins s σ H o i v ov iv u Q I ro ri rv h;obtain⟨p,xs,k,j,rfl,rfl,hp,hj,q⟩:=h;cases ro;obtain⟨t,rfl⟩:=ri;obtain⟨its,n,r,ho,hz⟩:=I.lst hp;obtain⟨h1,h2,h3,h4⟩:=xQ hj;have hl:=r.length;have hn:=line63;have I':Inv X pins σ (upd H p (.lst (xs.set j v))) { s with heap:=s.heap.update p (Obj.mapSeq (·.setIfInBounds j u)) }:=
  I.lstUpd hp ho (vX its n j u) (r.set rv j) (by rw[U27];exact hz) s.toks
 by_cases h0:0≤k
 ·have hk:k.toNat=j:=by
   rw[seqIndex_of h0 h4] at h1;exact U14 h1
  exact PySem.W.ki_setAt ho h0 (by omega) (by rw[Y11,← hl];exact h4) (by rw[hk];exact⟨_,I',q⟩)
 ·have hk:(k+(its.toArray.size:Int)).toNat=j:=by
   rw[seqIndex_neg (by omega) h3] at h1;rw[Y11,← hl];exact U14 h1
  exact PySem.W.ki_setBack ho (by omega) (by rw[Y11,← hl];exact h3) (by omega) (by rw[hk];exact⟨_,I',q⟩)
theorem rT(lo hi:Option Int)(n:Nat):(sliceBounds lo hi none n).1=((HT.sIx n 0 lo:Nat):Int)∧(sliceBounds lo hi none n).2.1=((HT.sIx n n hi:Nat):Int)∧(sliceBounds lo hi none n).2.2=1:=by
 refine⟨?_,?_,rfl⟩
 ·cases lo with
  |none=>simp[sliceBounds,HT.sIx]
  |some i=>
   simp only[sliceBounds,HT.sIx,Option.getD_none,show(1:Int) > 0 by decide,if_true]
   by_cases h:i<0
   ·simp only[h,if_true]<;>omega
   ·simp only[h,if_false]<;>omega
 ·cases hi with
  |none=>simp[sliceBounds,HT.sIx]
  |some i=>
   simp only[sliceBounds,HT.sIx,Option.getD_none,show(1:Int) > 0 by decide,if_true]
   by_cases h:i<0
   ·simp only[h,if_true]<;>omega
   ·simp only[h,if_false]<;>omega
theorem qJ(its:List Value)(lo hi:Option Int):slicePick its.toArray lo hi none=((its.drop (HT.sIx its.length 0 lo)).take (HT.sIx its.length its.length hi - HT.sIx its.length 0 lo)).toArray:=by
 obtain⟨h1,h2,h3⟩:=rT lo hi its.toArray.size;unfold slicePick;rw[h1,h2,h3];simp only[sliceRange_one,pick_run,Y11]<;>rfl
def rSlL(K:Fg9):V→Option Int→Option Int→Hp→VK→Prop:=fun x lo hi H Q=>∃ a xs,x=.ref a∧SqL K H a xs∧∀ p,H p=none→Q (.ref p) (upd H p (.lst (cutV xs lo hi)))
theorem aEd:SlR X (rSlL X.K):=by
 intro pins s σ H x v vl vu lo hi sl Q I rx hs pl pu h;obtain⟨a,xs,rfl,hx,q⟩:=h;cases rx;obtain⟨its,r,ht,hz⟩:=I.list hx;have hlen:=r.length;refine⟨"list",_,slot_list_getitem.lookup,ht.isList.typeIs,?_⟩;refine wpAny_getItem_list_slice ht.isList hs pl pu .none (by simp) ?_ (by rw[Y11]<;>omega);rw[qJ,← hlen];refine⟨.ref s.heap.objs.size,_,I.laid (t':=s.toks) (o:=.lst (cutV xs lo hi)) (fun b ob q=>V10 _ q) (Y12 _) ?_,rfl,q _ (I.hok.fresh (Y12 _))⟩;exact⟨Z17 (nJ xs lo hi) hz,_,0,(r.drop (HT.sIx xs.length 0 lo)).take (HT.sIx xs.length xs.length hi - HT.sIx xs.length 0 lo),V11 _ rfl⟩
noncomputable def flatV:V→Bool
 | .non=>true
 | .bl _=>true
 | .int _=>true
 | .str _=>true
 |_=>false
noncomputable def eqV:V→V→Bool
 | .non, .non=>true
 | .bl a, .bl b=>a==b
 | .bl a, .int b=>(if a then 1 else 0)==b
 | .int a, .bl b=>a==(if b then 1 else 0)
 | .int a, .int b=>a==b
 | .str a, .str b=>a==b
 |_,_=>false
theorem aBp{A:Around}{s:Shared}{y x:V}{u v:Value}(ry:RelV y u)(rx:RelV x v)(fy:flatV y=true)(fx:flatV x=true):SeqAt.EqAt A s u v (eqV y x):=by
 cases y with
 |non=>
  cases ry;cases x with
  |non=>cases rx;exact SeqAt.EqAt.same _
  |bl b=>cases rx;exact SeqAt.EqAt.none_bool b
  |int b=>obtain⟨t,rfl⟩:=rx;exact SeqAt.EqAt.none_int b t
  |str b=>obtain⟨t,rfl⟩:=rx;exact SeqAt.EqAt.none_str b t
  |_=>exact absurd (show false=true from fx) V14
 |bl a=>
  cases ry;cases x with
  |non=>cases rx;exact SeqAt.EqAt.bool_none a
  |bl b=>cases rx;exact SeqAt.EqAt.bool_bool a b
  |int b=>obtain⟨t,rfl⟩:=rx;exact SeqAt.EqAt.bool_int a b t
  |str b=>obtain⟨t,rfl⟩:=rx;exact SeqAt.EqAt.bool_str a b t
  |_=>exact absurd (show false=true from fx) V14
 |int a=>
  obtain⟨t',rfl⟩:=ry;cases x with
  |non=>cases rx;exact SeqAt.EqAt.int_none a t'
  |bl b=>cases rx;exact SeqAt.EqAt.int_bool a t' b
  |int b=>obtain⟨t,rfl⟩:=rx;exact SeqAt.EqAt.int_int a t' b t
  |str b=>obtain⟨t,rfl⟩:=rx;exact SeqAt.EqAt.int_str a t' b t
  |_=>exact absurd (show false=true from fx) V14
 |str a=>
  obtain⟨t',rfl⟩:=ry;cases x with
  |non=>cases rx;exact SeqAt.EqAt.str_none a t'
  |bl b=>cases rx;exact SeqAt.EqAt.str_bool a t' b
  |int b=>obtain⟨t,rfl⟩:=rx;exact SeqAt.EqAt.str_int a t' b t
  |str b=>obtain⟨t,rfl⟩:=rx;exact SeqAt.EqAt.str_str a t' b t
  |_=>exact absurd (show false=true from fx) V14
 |_=>exact absurd (show false=true from fy) V14
noncomputable def eqU(x:V)(u:Value):Bool:=match u with
 | .none=>eqV .non x
 | .bool b=>eqV (.bl b) x
 | .int i _=>eqV (.int i) x
 | .str z _=>eqV (.str z) x
 |_=>false
theorem aBq{x y:V}{u:Value}(r:RelV y u)(f:flatV y=true):eqU x u=eqV y x:=by
 cases y with
 |non=>cases r;rfl
 |bl b=>cases r;rfl
 |int i=>obtain⟨t,rfl⟩:=r;rfl
 |str z=>obtain⟨t,rfl⟩:=r;rfl
 |_=>exact absurd (show false=true from f) V14
theorem lW{x:V}:∀ {xs:List V} {us:List Value},Vals xs us→xs.all flatV=true→us.any (eqU x)=xs.any fun y=>eqV y x
 |_,_, .nil,_=>rfl
 |y::xs,u::us, .cons r t,f=>by
  rw[Y20,Z11] at f;rw[List.any_cons,List.any_cons,aBq r f.1,lW t f.2]
theorem jX{A:Around}{s:Shared}{x:V}{v:Value}(rx:RelV x v)(fx:flatV x=true):∀ {xs:List V} {us:List Value},Vals xs us→xs.all flatV=true→∀ u∈us,SeqAt.EqAt A s u v (eqU x u)
 |_,_, .nil,_=>fun u hu=>by cases hu
 |y::xs,u::us, .cons r t,f=>fun u' hu=>by
  rw[Y20,Z11] at f;rcases W12.mp hu with rfl|hu
  ·rw[aBq r f.1];exact aBp r rx f.1 fx
  ·exact jX rx fx t f.2 u' hu
noncomputable def inV(x:V)(xs:List V):Bool:=xs.any fun y=>eqV y x
def rIn(K:Fg9)(neg:Bool):R2:=fun x y H Q=>∃ p xs,y=.ref p∧(SqL K H p xs∨SqT K H p xs)∧flatV x=true∧xs.all flatV=true∧Q (.bl (if neg then !inV x xs else inV x xs)) H
theorem zQ:OpR X (compareOp .In) (rIn X.K false):=by
 intro pins s σ H x y v u Q I rx ry h;obtain⟨p,xs,rfl,hq,fx,fs,q⟩:=h;cases ry;rcases hq with hq|hq
 ·obtain⟨its,r,pl,hz⟩:=I.list hq;refine SeqAt.in_listAt (eqU x) pl.isList (fun w hw=>jX rx fx r fs w (by simpa using hw)) ⟨.bl _,H,I,rfl,?_⟩;rw[show its.toArray.any (eqU x)=its.any (eqU x) by simp,lW r fs];exact q
 ·obtain⟨its,r,pl,hz⟩:=I.tuple hq;refine SeqAt.in_tupleAt (eqU x) pl (fun w hw=>jX rx fx r fs w (by simpa using hw)) ⟨.bl _,H,I,rfl,?_⟩;rw[show its.toArray.any (eqU x)=its.any (eqU x) by simp,lW r fs];exact q
theorem rV:OpR X (compareOp .NotIn) (rIn X.K true):=by
 intro pins s σ H x y v u Q I rx ry h;obtain⟨p,xs,rfl,hq,fx,fs,q⟩:=h;cases ry;rcases hq with hq|hq
 ·obtain⟨its,r,pl,hz⟩:=I.list hq;refine SeqAt.notIn_listAt (eqU x) pl.isList (fun w hw=>jX rx fx r fs w (by simpa using hw)) ⟨.bl _,H,I,rfl,?_⟩;rw[show its.toArray.any (eqU x)=its.any (eqU x) by simp,lW r fs];exact q
 ·obtain⟨its,r,pl,hz⟩:=I.tuple hq;refine SeqAt.notIn_tupleAt (eqU x) pl (fun w hw=>jX rx fx r fs w (by simpa using hw)) ⟨.bl _,H,I,rfl,?_⟩;rw[show its.toArray.any (eqU x)=its.any (eqU x) by simp,lW r fs];exact q
theorem rW:CallR X (.type "list") (fun xs H Q=>∃ p ys,xs=[.ref p]∧(SqL X.K H p ys∨SqT X.K H p ys)∧∀ l,H l=none→Q (.ref l) (upd H l (.lst ys))):=by
 intro pins s σ H xs us Q I r h;obtain⟨p,ys,rfl,hq,q⟩:=h;obtain⟨u,rfl,rx⟩:=vals1 r;cases rx;have fin:∀ (its:List Value),Vals ys its→ys.length≤sizeLine→∀ (h':Heap) (c':Nat),(∀ b o',s.heap.get? b=some o'→h'.get? b=some o')→
   h'.get? s.heap.objs.size=some { cls:=.type "list",dict:=none,data:=.seq its.toArray c',slots:=#[] }→EP X pins σ Q (.ref s.heap.objs.size) { s with heap:=h' }:=fun its r' hz h' c' kp e=>
  ⟨.ref s.heap.objs.size,_,I.laid (t':=s.toks) kp (Y12 _) (show ObjOk X.prog X.w _ h' _ (.lst ys) from⟨hz,its,c',r',e⟩),rfl,q _ (I.hok.fresh (Y12 _))⟩
 rcases hq with hq|hq
 ·obtain⟨its,r',pl,hz⟩:=I.list hq;have hlen:=r'.length;obtain⟨o,ho,hc,n,hd⟩:=pl.isList;exact call_list_seq p (.inl rfl) ho hc hd (fun h' c' kp e=>fin its r' hz h' c' kp e) (by simp only[Y11]<;>omega)
 ·obtain⟨its,r',pl,hz⟩:=I.tuple hq;have hlen:=r'.length;obtain⟨o,ho,hc,n,hd⟩:=pl;exact call_list_seq p (.inr rfl) ho hc hd (fun h' c' kp e=>fin its r' hz h' c' kp e) (by simp only[Y11]<;>omega)
theorem qK:CallR X (.type "tuple") (fun xs H Q=>∃ p ys,xs=[.ref p]∧((SqL X.K H p ys∧∀ l,H l=none→Q (.ref l) (upd H l (.tup ys)))∨(SqT X.K H p ys∧Q (.ref p) H))):=by
 intro pins s σ H xs us Q I r h;obtain⟨p,ys,rfl,h⟩:=h;obtain⟨u,rfl,rx⟩:=vals1 r;cases rx;rcases h with⟨hq,q⟩|⟨hq,q⟩
 ·obtain⟨its,r',pl,hz⟩:=I.list hq;have hlen:=r'.length;refine call_tuple_list pl.isList (fun h' kp=>?_) (by simp only[Y11]<;>omega);have I1:Inv X pins σ H { s with heap:=h' }:=I.kept (t':=s.toks) kp;have I2:Inv X pins σ (upd H h'.objs.size (.tup ys)) { s with heap:=h'.push { cls:=.type "tuple",data:=.seq its.toArray } }:=
   I1.laid (t':=s.toks) (fun b o e=>V10 _ e) (Y12 _) (show ObjOk X.prog X.w _ _ _ (.tup ys) from⟨hz,its,r',IsTup.new _ _⟩)
  exact⟨.ref h'.objs.size,_,I2,rfl,q _ (I1.hok.fresh (Y12 _))⟩
 ·obtain⟨its,r',pl,hz⟩:=I.tuple hq;exact call_tuple_same pl ⟨.ref p,H,I,rfl,q⟩
def tyV(K:Fg9)(T:String)(x:V)(H:Hp):Prop:=match x with
 | .str _=>T="str"
 | .int _=>T="int"
 | .ref p=>(T="list"∧∃ xs,SqL K H p xs)∨(T="tuple"∧∃ o,K.lookup p=some o∧o.cls=.type "tuple"∧o.dict=none)∨
   (T="dict"∧((∃ kvs,H p=some (.dK kvs))∨∃ kvs,H p=some (.dT kvs)))∨(T="set"∧∃ S n,H p=some (.set S n))
 |_=>False
theorem aBr{pins:List (Addr×Obj)}{σ:St}{H:Hp}{s:Shared}{T:String}{x:V}{v:Value}(I:Inv X pins σ H s)(r:RelV x v)(ty:tyV X.K T x H):
  s.TypeIs v T∧∀ a,v=.ref a→∃ ob,s.heap.get? a=some ob∧ob.dict=none:=by
 cases x with
 |str z=>
  obtain⟨t,rfl⟩:=r;cases (show T="str" from ty);exact⟨typeIs_str s z t,fun _ e=>nomatch e⟩
 |int i=>
  obtain⟨t,rfl⟩:=r;cases (show T="int" from ty);exact⟨typeIs_int s i t,fun _ e=>nomatch e⟩
 |ref p=>
  cases r;rcases ty with⟨rfl,xs,hq⟩|⟨rfl,o,hk,hc,hd⟩|⟨rfl,hk⟩|⟨rfl,S,n,hk⟩
  ·obtain⟨its,_,pl,_⟩:=I.list hq;refine⟨pl.isList.typeIs,fun a e=>?_⟩;cases e;obtain⟨o,n,e,c,hd,_⟩:=pl;exact⟨o,e,hd⟩
  ·refine⟨⟨o,I.kIn p o hk,hc⟩,fun a e=>?_⟩;cases e;exact⟨o,I.kIn _ o hk,hd⟩
  ·have z:∃ o,s.heap.get? p=some o∧o.ExactDict:=by
    rcases hk with⟨kvs,hk⟩|⟨kvs,hk⟩
    ·obtain⟨_,_,_,_,o,_,_,e,ex,_⟩:=I.hok p _ hk;exact⟨o,e,ex⟩
    ·obtain⟨_,_,_,_,o,_,_,e,ex,_⟩:=I.hok p _ hk;exact⟨o,e,ex⟩
   obtain⟨o,e,ex⟩:=z;refine⟨⟨o,e,ex.1⟩,fun a e2=>?_⟩;cases e2;exact⟨o,e,ex.2.1⟩
  ·obtain⟨o,_,_,_,e,ex,_⟩:=I.hok p _ hk;refine⟨⟨o,e,ex.1⟩,fun a e2=>?_⟩;cases e2;exact⟨o,e,ex.2.1⟩
 |_=>exact False.elim ty
def tBM0(K:Fg9)(T:String)(r:V→List V→Hp→VK→Prop)(to:TE):TE:=fun σ H Q=>to σ H fun x H1=>tyV K T x H1∧r x [] H1 Q
def tBM(K:Fg9)(T:String)(r:V→List V→Hp→VK→Prop)(to:TE)(t:TA):TE:=fun σ H Q=>to σ H fun x H1=>tyV K T x H1∧t σ H1 fun xs H2=>r x xs H2 Q
variable{o e:Expr}{es:List Expr}{to:TE}{t:TA}{name:Str}{apos cpos:Pos}{T id:String}{r:V→List V→Hp→VK→Prop}
theorem aGp(pa:PlainAttrs T)(slot:Slot T name id)(hty:typeOf (.builtin id)=pure (.type "method_descriptor"))(hm:MtR X id r)(ho:PE X o to)
  (hbase:attributeBase o name X.env (eval o X.env)=eval o X.env:=by rfl)(hline:(apos.endLine==cpos.line)=true:=by rfl):PE X (.Call (.Attribute o name apos) [] [] cpos) (tBM0 X.K T r to):=by
 intro pins s σ H Q I h;refine wpAny_Call_method0_late hbase hline (thn (ho pins s σ H _ I h) fun v s1 ⟨x,H1,I1,r1,ty,q1⟩=>?_);obtain⟨h1,h2⟩:=aBr I1 r1 ty;exact⟨T,id,pa,slot,hty,h1,h2,Calls.callWith_builtin rfl (PySem.evalArgs_none (hm pins s1 σ H1 x [] v [] Q I1 r1 .nil q1))⟩
theorem aIr(pa:PlainAttrs T)(slot:Slot T name id)(hty:typeOf (.builtin id)=pure (.type "method_descriptor"))(hm:MtR X id r)(ho:PE X o to)(ha:PA X (e::es) t)
  (hbase:attributeBase o name X.env (eval o X.env)=eval o X.env:=by rfl)
  (hfew:((backTo cpos (starEach (e::es) X.env)).all (fun x=>!x.1)&&(backToKw cpos (keywordEach [] X.env)).all (fun x=>x.1.isSome)
   &&decide ((e::es).length+([]:List Keyword).length+(if([]:List Keyword).isEmpty then 0 else 1)<30))=true:=by rfl)
  (hline:(apos.endLine==cpos.line)=true:=by rfl)(hs:starEach (e::es) X.env=(false,eval e X.env)::starEach es X.env:=by rfl)(hplain:(backTo cpos (starEach es X.env)).any (·.1)=false:=by rfl):
  PE X (.Call (.Attribute o name apos) (e::es) [] cpos) (tBM X.K T r to t):=by
 intro pins s σ H Q I h;refine wpAny_Call_method_late hbase hfew hline rfl (thn (ho pins s σ H _ I h) fun v s1 ⟨x,H1,I1,r1,ty,q1⟩=>?_);obtain⟨h1,h2⟩:=aBr I1 r1 ty;refine⟨T,id,pa,slot,hty,h1,h2,?_⟩;have hA:=ha cpos pins s1 σ H1 _ I1 q1;rw[hs] at hA ⊢;refine Calls.callWith_builtin (by show(false || (backTo cpos (starEach es X.env)).any (·.1))=false;rw[hplain]<;>rfl) (Calls.evalArgs_plain ?_);exact thn hA fun us s2 ⟨vs,H2,I2,r2,q2⟩=>hm pins s2 σ H2 x vs v us Q I2 r1 r2 q2
end
end L2
namespace L2
open PySem PySem.Spec PyProof.Rows
def MtM(X:Cx)(id:String)(r:V→List V→Hp→VK→Prop):Prop:=
 ∀ (pins:List (Addr×Obj)) (s:Shared) (σ:St) (H:Hp) (x:V) (xs:List V) (v:Value) (us:List Value) (Q:VK),Inv X pins σ H s→RelV x v→Vals xs us→r x xs H Q→
  wpAny (model X.prog X.w) X.A (call (.builtin id) (v::us)) (EP X pins σ Q) X.xe s
theorem Vals.one:∀ {x:V} {us:List Value},Vals [x] us→∃ u,us=[u]∧RelV x u
 |_,_, .cons r .nil=>⟨_,rfl,r⟩
theorem Vals.zero:∀ {us:List Value},Vals [] us→us=[]
 |_, .nil=>rfl
theorem Vals.dropLast{xs:List V}{us:List Value}(h:Vals xs us):Vals xs.dropLast us.dropLast:=by
 induction h with
 |nil=>exact .nil
 |cons r t ih=>
  cases t with
  |nil=>exact .nil
  |cons q t'=>exact .cons r ih
theorem Vals.eraseIdx:∀ {xs:List V} {us:List Value} (i:Nat),Vals xs us→Vals (xs.eraseIdx i) (us.eraseIdx i)
 |_,_,_, .nil=>.nil
 |_,_,0, .cons _ t=>t
 |_,_,i+1, .cons r t=>.cons r (Vals.eraseIdx i t)
theorem Vals.rep{xs:List V}{us:List Value}(h:Vals xs us):∀ k:Nat,Vals (List.replicate k xs).flatten (List.replicate k us).flatten
 |0=>.nil
 |k+1=>by
  rw[U18,U18,Z25,Z25];exact Vals.append h (Vals.rep h k)
theorem vY{α:Type}(l:List α):l.eraseIdx (l.length - 1)=l.dropLast:=by
 induction l with
 |nil=>rfl
 |cons a r ih=>
  cases r with
  |nil=>rfl
  |cons b r=>
   have e:(a::b::r).length - 1=((b::r).length - 1)+1:=by
    have h1:(a::b::r).length=r.length+2:=rfl;have h2:(b::r).length=r.length+1:=rfl
    omega
   rw[e,List.eraseIdx_cons_succ,ih]
   all_goals rfl
theorem qV{α:Type}:∀ (l:List α) (i:Nat),(l.eraseIdx i).length≤l.length
 |[],_=>Y12 _
 |_::_,0=>Z37 _
 |_::r,i+1=>Nat.succ_le_succ (qV r i)
theorem foldl_rep(its:List Value):∀ (k:Nat) (acc:List Value),
  List.foldl (fun x1 x2=>x1++x2) acc.toArray (List.replicate k its.toArray)=(acc++(List.replicate k its).flatten).toArray
 |0,acc=>by simp
 |k+1,acc=>by
  have e:acc.toArray++its.toArray=(acc++its).toArray:=by simp
  have e2:(acc++its)++(List.replicate k its).flatten=acc++(List.replicate (k+1) its).flatten:=by
   rw[U18,Z25,U10]
  rw[← e2,← foldl_rep its k (acc++its),← e,U18,List.foldl_cons]
section
variable{X:Cx}{pins:List (Addr×Obj)}{σ:St}{H:Hp}{s:Shared}{l b:Addr}{xs ys zs:List V}
theorem Inv.lset{its its':List Value}{n:Nat}{f:Array Value→Array Value}{t':Nat}(I:Inv X pins σ H s)(hH:H l=some (.lst xs))
  (e:s.heap.get? l=some { cls:=.type "list",data:=.seq its.toArray n })(hf:f its.toArray=its'.toArray)(hv:Vals ys its')(hz:ys.length≤sizeLine):
  Inv X pins σ (upd H l (.lst ys)) { s with heap:=s.heap.update l (Obj.mapSeq f),toks:=t' }:=by
 have q:=PySem.IsL.update e f;rw[hf] at q;refine I.write (x:=l) (e:=l) (by rw[hH];exact trivial) (.inl rfl) (fun b' u hb hu=>(Y21 s.heap (Obj.mapSeq f) (Ne.symm hb)).trans hu) ⟨_,q⟩ ?_;exact⟨hz,its',_,hv,q⟩
theorem Inv.lnew{its:List Value}{t':Nat}(I:Inv X pins σ H s)(hv:Vals ys its)(hz:ys.length≤sizeLine):
  Inv X pins σ (upd H s.heap.objs.size (.lst ys)) { s with heap:=s.heap.push { cls:=.type "list",data:=.seq its.toArray },toks:=t' }:=
 I.laid (fun _ _ q=>V10 _ q) (Y12 _) ⟨hz,its,0,hv,V11 _ rfl⟩
theorem Inv.fresh(I:Inv X pins σ H s):H s.heap.objs.size=none:=I.hok.fresh (Y12 _)
theorem Inv.lstM(I:Inv X pins σ H s)(hH:H l=some (.lst xs)):xs.length≤sizeLine∧∃ (its:List Value) (n:Nat),Vals xs its∧xs.length=its.length∧s.heap.get? l=some { cls:=.type "list",data:=.seq its.toArray n }:=by
 obtain⟨z,its,n,r,e⟩:=I.hok l _ hH;exact⟨z,its,n,r,r.length,e⟩
theorem notLongL{n:Nat}(h:n≤sizeLine):Builtin.List.listTooLong n=false:=by
 unfold Builtin.List.listTooLong;exact W17 (by omega)
end
section
variable{X:Cx}
def rAppend:V→List V→Hp→VK→Prop:=fun x vs H Q=>∃ l xs y,x=.ref l∧vs=[y]∧H l=some (.lst xs)∧xs.length<sizeLine∧Q .non (upd H l (.lst (xs++[y])))
theorem zR:MtM X "list.append" rAppend:=by
 intro pins s σ H x vs v us Q I rx rv h;obtain⟨l,xs,y,rfl,rfl,hH,hz,q⟩:=h;cases rx;obtain⟨u,rfl,ru⟩:=rv.one;obtain⟨z,its,n,r,hl,e⟩:=I.lstM hH;refine U31 F.slot_list_append ⟨_,e,rfl⟩ F.entry_list_append (F.args_list_append_2 _ _) (PySem.list_append l its.toArray n u (by rw[Y11];omega)) ⟨e,?_⟩;refine⟨.non,_,I.lset (its':=its++[u]) hH e (by simp) (r.append (.cons ru .nil)) ?_,rfl,q⟩;rw[Y13,List.length_singleton]
 omega
def rExtend:V→List V→Hp→VK→Prop:=fun x vs H Q=>∃ l b xs zs,x=.ref l∧vs=[.ref b]∧H l=some (.lst xs)∧H b=some (.lst zs)∧xs.length+zs.length≤sizeLine∧Q .non (upd H l (.lst (xs++zs)))
theorem zS:MtM X "list.extend" rExtend:=by
 intro pins s σ H x vs v us Q I rx rv h;obtain⟨l,b,xs,zs,rfl,rfl,hH,hB,hz,q⟩:=h;cases rx;obtain⟨u,rfl,ru⟩:=rv.one;cases ru;obtain⟨z,its,n,r,hl,e⟩:=I.lstM hH;obtain⟨z2,its2,n2,r2,hl2,e2⟩:=I.lstM hB;have hsz:its.toArray.size+its2.toArray.size≤sizeLine:=by rw[Y11,Y11];omega
 have hlong:¬ (!its.toArray.isEmpty&&Builtin.List.listTooLong (its.toArray.size+its2.toArray.size))=true:=by
  rw[notLongL hsz,Bool.and_false];exact V14
 refine U31 F.slot_list_extend ⟨_,e,rfl⟩ F.entry_list_extend (F.args_list_extend_2 _ _)
  (AutoSeq1.list_extend_list_list_0 l its.toArray n b its2.toArray n2 hlong (by rw[Y11];omega) (by omega)) ⟨e,e2,?_⟩
 refine⟨.non,_,I.lset (its':=its++its2) hH e (by simp) (r.append r2) ?_,rfl,q⟩;rw[Y13]
 omega
def rPop:V→List V→Hp→VK→Prop:=fun x vs H Q=>∃ l xs y,x=.ref l∧vs=[]∧H l=some (.lst xs)∧xs[xs.length - 1]?=some y∧Q y (upd H l (.lst xs.dropLast))
theorem aGq:MtM X "list.pop" rPop:=by
 intro pins s σ H x vs v us Q I rx rv h;obtain⟨l,xs,y,rfl,rfl,hH,hy,q⟩:=h;cases rx;have hus:=rv.zero;subst hus;obtain⟨z,its,n,r,hl,e⟩:=I.lstM hH;obtain⟨u,hu,ru⟩:=r.get hy;have hy':its.toArray[its.toArray.size - 1]?=some u:=by
  show its.toArray[its.length - 1]?=some u;rw[← Y28,← hl];exact hu
 refine U31 F.slot_list_pop ⟨_,e,rfl⟩ F.entry_list_pop (F.args_list_pop_1 _) (MeetsSeq.list_pop_last l its.toArray n u hy' (by rw[Y11];omega)) ⟨e,?_⟩;refine⟨y,_,I.lset (its':=its.dropLast) hH e ?_ r.dropLast ?_,ru,q⟩
 ·show its.toArray.eraseIdxIfInBounds (its.toArray.size - 1)=its.dropLast.toArray;rw[Y11,List.eraseIdxIfInBounds_toArray,vY]
 ·rw[List.length_dropLast]
  omega
def rPopAt:V→List V→Hp→VK→Prop:=fun x vs H Q=>∃ l xs i k y,x=.ref l∧vs=[.int i]∧H l=some (.lst xs)∧-(2 ^ 63)≤i∧i<2 ^ 63∧seqIndex? i xs.length=some k∧xs[k]?=some y∧Q y (upd H l (.lst (xs.eraseIdx k)))
theorem aBs:MtM X "list.pop" rPopAt:=by
 intro pins s σ H x vs v us Q I rx rv h;obtain⟨l,xs,i,k,y,rfl,rfl,hH,h1,h2,hk,hy,q⟩:=h;cases rx;obtain⟨u,rfl,ru⟩:=rv.one;obtain⟨t,rfl⟩:=ru;obtain⟨z,its,n,r,hl,e⟩:=I.lstM hH;obtain⟨w,hw,rw'⟩:=r.get hy;refine U31 F.slot_list_pop ⟨_,e,rfl⟩ F.entry_list_pop (F.args_list_pop_2 _ _)
  (MeetsSeq.list_pop_at l its.toArray n i t k w (fitsIndex_both h1 h2) (by rw[Y11,← hl];exact hk) (by rw[← Y28];exact hw) (by rw[Y11];omega)) ⟨e,?_⟩
 refine⟨y,_,I.lset (its':=its.eraseIdx k) hH e ?_ (r.eraseIdx k) ?_,rw',q⟩
 ·show its.toArray.eraseIdxIfInBounds k=(its.eraseIdx k).toArray;rw[List.eraseIdxIfInBounds_toArray]
 ·have:=qV xs k
  omega
def rCat:R2:=fun x y H Q=>∃ l b xs zs,x=.ref l∧y=.ref b∧H l=some (.lst xs)∧H b=some (.lst zs)∧xs.length+zs.length≤sizeLine∧∀ p,H p=none→Q (.ref p) (upd H p (.lst (xs++zs)))
theorem aGr:OpR X (binaryOp .Add) rCat:=by
 intro pins s σ H x y v u Q I rx ry h;obtain⟨l,b,xs,zs,rfl,rfl,hH,hB,hz,q⟩:=h;cases rx;cases ry;obtain⟨z,its,n,r,hl,e⟩:=I.lstM hH;obtain⟨z2,its2,n2,r2,hl2,e2⟩:=I.lstM hB;refine PySem.P.add_list e e2 ?_ (by rw[Y11,Y11];omega);have ea:its.toArray++its2.toArray=(its++its2).toArray:=by simp
 rw[ea];exact⟨.ref _,_,I.lnew (t':=s.toks) (r.append r2) (by rw[Y13];omega),rfl,q _ I.fresh⟩
def rRep:R2:=fun x y H Q=>∃ l k xs,x=.ref l∧y=.int k∧H l=some (.lst xs)∧-(2 ^ 63)≤k∧k<2 ^ 63∧xs.length * k.toNat≤sizeLine∧
 ∀ p,H p=none→Q (.ref p) (upd H p (.lst (List.replicate k.toNat xs).flatten))
theorem len_rep{α:Type}(xs:List α)(k:Nat):(List.replicate k xs).flatten.length=k * xs.length:=by
 induction k with
 |zero=>simp
 |succ k ih=>rw[U18,Z25,Y13,ih,Nat.succ_mul,Nat.add_comm]
theorem aGs:OpR X (binaryOp .Mult) rRep:=by
 intro pins s σ H x y v u Q I rx ry h;obtain⟨l,k,xs,rfl,rfl,hH,h1,h2,hz,q⟩:=h;cases rx;obtain⟨t,rfl⟩:=ry;obtain⟨z,its,n,r,hl,e⟩:=I.lstM hH;have hlen:its.toArray.size * k.toNat≤sizeLine:=by rw[Y11,← hl];exact hz
 have hcap:¬ its.toArray.size * k.toNat > (2 ^ 63 - 1) / 8:=by
  have:(sizeLine:Nat)≤(2 ^ 63 - 1) / 8:=by decide
  omega
 have hfit:¬ (!Builtin.List.listFitsIndex k)=true:=by
  rw[fitsIndex_both h1 h2];exact V14
 have hlong:¬ Builtin.List.listTooLong (its.toArray.size * k.toNat)=true:=by
  rw[notLongL hlen];exact V14
 have hnew:List.foldl (fun x1 x2=>x1++x2) #[] (List.replicate (if its.toArray.isEmpty=true then 0 else k.toNat) its.toArray)=(List.replicate k.toNat its).flatten.toArray:=by
  have f0:∀ m:Nat,List.foldl (fun x1 x2=>x1++x2) #[] (List.replicate m its.toArray)=(List.replicate m its).flatten.toArray:=fun m=>by
   have:=foldl_rep its m [];rw[U21] at this;exact this
  rw[f0];cases its with
  |nil=>simp
  |cons a r'=>rw[if_neg (by simp)]
 refine wpAny_binaryOp_repeat_ref (T:="list") (U:="int") (by decide) ⟨_,e,rfl⟩ (fun s'=>typeIs_int s' k t) noFill_list_mul F.fills_int_mul F.slot_int_rmul repeat_list F.slot_int_index.lookup
  (U31 F.slot_int_rmul (typeIs_int s k t) F.entry_int_rmul (F.args_int_rmul_2 _ _) (int___rmul___int_list k t l its.toArray n)
   ⟨e,rfl,⟨_,e,rfl⟩,U31 F.slot_list_mul ⟨_,e,rfl⟩ F.entry_list_mul (F.args_list_mul_2 _ _) (AutoListH.list___mul___list_int_3 l its.toArray n k t hfit hcap hlong) ⟨e,?_⟩⟩)
 rw[hnew];exact⟨.ref _,_,I.lnew (t':=s.toks) (r.rep k.toNat) (by rw[len_rep,Nat.mul_comm];exact hz),rfl,q _ I.fresh⟩
end
end L2
namespace Att
open PySem PySem.W PySem.Calls PyProof.Rows
theorem nR{P:Params}{h:Heap}:∀ (ns:List Int) (vs:List Value),WellAll P h vs (ns.map WData.int)→IntsAre vs ns:=by
 intro ns
 induction ns with
 |nil=>
  intro vs w;rw[List.map_nil] at w;cases w;exact .nil
 |cons n ns ih=>
  intro vs w;rw[V15] at w;cases w with
  |cons a b=>
   cases a;exact .cons _ _ (ih _ b)
theorem zT{l:OpenLaw}{n:Nat}(hn:l.most=some n){P:Params}{h:Heap}{args:List WData}{vals:List Value}
  (hpre:l.row.toRowW.claim.pre args=true)(hwl:WellAll P h vals args):
  ∃ a vs ns,vals=[Value.ref a]∧args=[WData.list (ns.map WData.int)]∧h.get? a=some { cls:=.type "list",data:=.seq vs.toArray }∧IntsAre vs ns∧ns.length≤n:=by
 have hsh:WShape.hasAll [] args [.list .int]=true:=(pre_splitW hpre).1;have hc:l.pre.holds [] { args:=args }=true:=(pre_splitW hpre).2;obtain⟨d,r,rfl,h1,h2⟩:=hasAllW_cons hsh;obtain rfl:=hasAllW_nil h2;obtain⟨xs,rfl,h3⟩:=hasW_list h1;obtain⟨ns,rfl⟩:=items_int h3;have hlen:ns.length≤n:=by
  unfold OpenLaw.pre at hc;have h4:(WTm.not (.lt (.lit (.int (n:Int))) (.len (.arg 0)))).holds [] { args:=[.list (ns.map .int)] }=true:=by
   have h4:=(holds_andW hc).1;rw[hn] at h4;exact h4
  have h5:=condW_of h4 (w_not (w_lt w_lit (w_len_list (w_arg rfl))));rw[U16] at h5;refine Nat.le_of_not_lt fun q=>?_;have q':(n:Int) < ((ns.length:Nat):Int):=by omega
  first
   |(rw[V24 q'] at h5;exact absurd h5 (by decide))
   |(simp at h5;omega)
 cases hwl with
 |cons w1 w2=>
  cases w2;cases w1 with
  |list ho hall=>exact⟨_,_,ns,rfl,rfl,ho,nR ns _ hall,hlen⟩
theorem zU(l:OpenLaw)(args:List WData):l.row.toRowW.claim.post args (.bool true) args=true:=
 postW_of (r:=l.row.toRowW) (X:=(true==true))
  (show WShape.has [] (.bool true) .bool=true by first|rfl|decide|simp[WShape.has,WShape.arms,WShape.armsAll])
  (show(WTm.eq .res (.lit (.bool true))).value [] { args:=args,res:=some (.bool true),after:=args }=some (.bool (true==true)) from w_eq_bool (w_res rfl) w_lit) rfl
theorem attach_call{l:OpenLaw}{n:Nat}{q:Program}{loose:List Str}{XP:(Str→Option Value)→Heap→Prop}{YP:World→Heap→Prop}{d:DefRec}
  (hn:l.most=some n)(hdf:d.params.defaults=[])
  (call:∀ (w:World) (s₀ s₁:Shared) (mg mb:Str→Option Value) (fa:Addr) (o:Obj) (pm cd doc:Value) (a:Addr) (vs:List Value) (ns:List Int),
   Ground q loose [] XP w s₀ mg mb s₁.heap→YP w s₁.heap→
   s₁.heap.get? fa=some o→o.data=.func (docDef d.name d.params d.body d.scope pm cd doc)→s₁.heap.CodeRec cd d.name→mg d.name=some (.ref fa)→
   s₁.heap.get? a=some { cls:=.type "list",data:=.seq vs.toArray }→IntsAre vs ns→ns.length≤n→s₁.gens=#[]→
   codeAny (model l.prog w) callerA (.call (.ref fa) ⟨[.ref a],[]⟩) (fun r s'=>r=.ok (.ret (.bool true))∧OldK s₁.heap s'.heap∧s'.os=s₁.os∧AllBare s'.gens) s₁):
  WalkO q loose XP YP l.row.toRowW d [] (fun f vs=>PySem.call f vs):=by
 intro w s₀ s₁ mg mb G Y fa o pm cd doc dV kV ho hd hcd hD hmg hg args vals as hpre hlay hrd hwl hlo;obtain rfl:dV=.none:=Dflts.none hD hdf;obtain rfl:kV=.none:=Dflts.noKw hD;obtain⟨a,vs,ns,rfl,rfl,hobj,hints,hlen⟩:=zT hn hpre hwl;refine enter_call (W35 (call w s₀ s₁ mg mb fa o pm cd doc a vs ns G Y ho (fd_plain hd) hcd hmg hobj hints hlen hg) fun r s' hq=>?_);obtain⟨rfl,h2,h3,h4⟩:=hq;exact⟨.inl ⟨.bool true, .bool true,[],rfl,fun _=>rfl, .bool true,zU l _,fun _=>⟨List.Pairwise.nil,fun _ hm=>(nomatch hm)⟩⟩,h2,h3,h4⟩
end Att
namespace L2
open PySem PySem.Spec PyProof.Rows
theorem qW:∀ {vs:List Value} {ns:List Int},IntsAre vs ns→Vals (ns.map V.int) vs
 |_,_, .nil=>.nil
 |_,_, .cons n t h=>.cons ⟨t,rfl⟩ (qW h)
def Only(H:Hp):Prop:=∀ b,H b=none∨∃ o xs,H b=some (.frz o (.lst xs))
theorem aBt{P:Program}{w:World}{K:Fg9}{mg mb:Str→Option Value}{CX:CXT}{k:Nat}{fa a:Addr}{fd:FuncData}{x:Str}{sp:Sp}{s₁:Shared}{vs:List Value}{ns:List Int}
  (KX:K.In s₁.heap)(hns:s₁.heap.Ns mainGlobals mg)(hb:s₁.heap.Ns builtinsNs mb)(hbb:∀ x:Str,x≠"__name__"→mb x=bootBuiltins x)(hlim:s₁.heap.NoLimit)(hg:s₁.gens=#[])
  (ha:s₁.heap.get? a=some { cls:=.type "list",data:=.seq vs.toArray })(hi:IntsAre vs ns)(hl:ns.length≤sizeLine)(hr:Room k callerA)
  (F:∀ base:Heap,K.In base→base.Ns mainGlobals mg→FnOk P w K mg base CX k fa fd [x] sp)(hbind:∀ (s:Shared) (u:Value),BindsTo s fd ⟨[u],[]⟩ [(x,u)])
  (hsp:∀ H:Hp,Only H→SqL K H a (ns.map V.int)→sp [.ref a] H (fun v _=>v=.bl true) fun _ _ _=>False)
  (hCX:∀ H e s',CX [] H s₁ (fun _ _ _=>False) e s'→False):
  codeAny (model P w) callerA (.call (.ref fa) ⟨[.ref a],[]⟩) (fun r s'=>r=.ok (.ret (.bool true))∧OldK s₁.heap s'.heap∧s'.os=s₁.os∧AllBare s'.gens) s₁:=by
 have rv:=qW hi;have lenV:=hi.length;have core:∀ H:Hp,Only H→SqL K H a (ns.map V.int)→HOk P w H s₁.heap→(∀ b,H b≠none→b=a)→(H a≠none→K.lookup a=none)→
   codeAny (model P w) callerA (.call (.ref fa) ⟨[.ref a],[]⟩) (fun r s'=>r=.ok (.ret (.bool true))∧OldK s₁.heap s'.heap∧s'.os=s₁.os∧AllBare s'.gens) s₁:=by
  intro H hO hS hok hA hK;have iF:∀ {b:Addr} {o:Obj},s₁.heap.get? b=some o→H b=none→(hidT s₁.heap H).get? b=some o:=fun e n=>aAY e n;have noA:∀ {b:Addr} {o:Obj} {es:Array DictEntry} {ep:Nat},s₁.heap.get? b=some o→o.data=.dict es ep→H b=none:=fun {b o es ep} e d=>by
   cases q:H b with
   |none=>rfl
   |some u=>
    have e':b=a:=hA b (by rw[q];simp);subst e';rw[ha] at e;cases e;have d':Data.seq vs.toArray _=Data.dict es ep:=d;cases d'
  have nsK:∀ {b:Addr} {m:Str→Option Value},s₁.heap.Ns b m→(hidT s₁.heap H).Ns b m:=fun {b m} ⟨o,es,ep,e,d,r⟩=>⟨o,es,ep,iF e (noA e d),d,r⟩;have hKb:K.In (hidT s₁.heap H):=fun b o e=>iF (KX b o e) (by
   cases q:H b with
   |none=>rfl
   |some u=>
    have e':b=a:=hA b (by rw[q];simp);subst e';rw[hK (by rw[q];simp)] at e;cases e)
  have hM:Mod K mg (hidT s₁.heap H):=⟨hKb,nsK hns,⟨mb,nsK hb,hbb⟩,let ⟨mc,h1,h2⟩:=hlim;⟨mc,nsK h1,h2⟩⟩;have e0:Env0 P w K mg (hidT s₁.heap H) callerA [] s₁ H:=⟨rfl,hM,fun b o e=>aDD e,Nat.le_of_eq (zD _ _),trivial,fun b hb=>absurd (show b∈([]:List Addr) from hb) (by simp),hok, .of_eq hg⟩;refine W35 ((F _ hKb (nsK hns)).run callerA [] s₁ H ⟨[.ref a],[]⟩ [.ref a] [.ref a] _ _ hr e0 (hbind s₁ (.ref a)) (.cons rfl .nil) (hsp H hO hS)) fun r s' h=>?_;cases r with
  |error e=>exact(hCX H e s' h).elim
  |ok fl=>
   cases fl with
   |next=>exact False.elim h
   |brk=>exact False.elim h
   |cont=>exact False.elim h
   |ret u=>
    obtain⟨v,H',os,bare,un,hok',r',q⟩:=h;have q':v=.bl true:=q;subst q';obtain rfl:u=Value.bool true:=r';refine⟨rfl,OldK.of_keep fun b o e=>?_,os,bare⟩;cases q:H b with
    |none=>exact un.keep b o e q (by intro z;exact absurd (show b∈([]:List Addr) from z) (by simp)) (by simp)
    |some u=>
     rcases hO b with z|⟨ob,xs,z⟩
     ·rw[q] at z;cases z
     ·have z2:=un.frzs b ob _ z;obtain⟨e1,_⟩:=hok b _ z;obtain⟨e2,_⟩:=hok' b _ z2;rw[e] at e1;cases e1;exact e2
 cases hk:K.lookup a with
 |some o=>
  have e:=KX a o hk;rw[ha] at e;cases e;refine core (fun _=>none) (fun _=>.inl rfl) (.inr ⟨_,vs.toArray,_,hk,rfl,rfl,rfl,by rw[Y11,lenV];exact hl,by simpa using rv⟩) (fun b u z=>by have z':(none:Option HO)=some u:=z;cases z') (fun b z=>absurd rfl z) fun z=>absurd rfl z
 |none=>
  refine core (fun b=>if b=a then some (.frz { cls:=.type "list",data:=.seq vs.toArray } (.lst (ns.map V.int))) else none) (fun b=>?_) (.inl (.inr ⟨{ cls:=.type "list",data:=.seq vs.toArray },if_pos rfl⟩)) (fun b u z=>?_) (fun b z=>?_) fun _=>hk
  ·by_cases hb:b=a
   ·exact .inr ⟨_,_,if_pos hb⟩
   ·exact .inl (if_neg hb)
  ·by_cases hb:b=a
   ·have z':=(if_pos hb).symm.trans z;cases z';subst hb;exact⟨ha,by rw[U16];exact hl,vs,_,rv,ha⟩
   ·have z':=(if_neg hb).symm.trans z;cases z'
  ·by_cases hb:b=a
   ·exact hb
   ·exact absurd (if_neg hb) z
end L2
namespace L2
open PySem PySem.Spec PyProof.Rows
abbrev CX0:CXT:=fun _ _ _ _ _ _=>False
abbrev E0:XK:=fun _ _ _=>False
theorem pass0{X:Cx}:Passes CX0 X E0:=fun _ _ _ _ _ _ _ h=>h.elim
structure Fun (K:Fg9) (x qual:Str) (st:Stmt) (f:Addr) (fd:FuncData):Prop where
 ex:∃ (oc:Value) (od:Option Addr) (kV doc pm:Value) (an:Option Addr) (cdv ct:Value) (osl:Array (Option Value)),
  fd=PySem.W.fnOf x qual (defArgs st) (defBody st) (defScope st) .none kV doc pm an cdv ct∧K.lookup f=some ⟨oc,od, .func fd,osl⟩∧PySem.W.codeIn K cdv qual=true
 kp:PySem.W.keepIn K (.ref f)=true
section
variable{P:Program}{w:World}{K:Fg9}{mg:Str→Option Value}{base:Heap}
theorem Fun.ok{x qual:Str}{st:Stmt}{f:Addr}{fd:FuncData}{N ps:List Str}{k:Nat}{sp:Sp}(F:Fun K x qual st f fd)(S:FnScope N ps (defScope st))(len:∀ vs H Q E,sp vs H Q E→vs.length=ps.length)
  (hbody:∀ (cdv:Value) (A:Around) (outer:List Env) (s:Shared) (H:Hp) (vs:List V) (Q:VK) (E:XK),Room k (A.deeper (envOfC qual (defScope st) s.heap.objs.size f cdv))→sp vs H Q E→
   ∃ t,PSs (cxOf CX0 P w K mg base N qual (defScope st) f cdv A outer s H E).nox (defBody st) t∧t { nx:=fun _ H'=>Q .non H',rt:=Q } (start N vs) H):FnOk P w K mg base CX0 (k+1) f fd ps sp:=by
 obtain⟨oc,od,kV,doc,pm,an,cdv,ct,osl,rfl,lk,hcd⟩:=F.ex;refine aIp lk hcd S len fun A outer s H vs Q E hr hsp=>?_;obtain⟨t,h,q⟩:=hbody cdv A outer s H vs Q E hr hsp;exact⟨t,h.nox,q⟩
theorem Fun.binds{x qual:Str}{st:Stmt}{f:Addr}{fd:FuncData}{ps:List Str}(F:Fun K x qual st f fd)
  (h:∀ (kV doc pm:Value) (an:Option Addr) (cdv ct:Value) (us:List Value),us.length=ps.length→bindArgs (PySem.W.fnOf x qual (defArgs st) (defBody st) (defScope st) .none kV doc pm an cdv ct) ⟨us,[]⟩=pure (ps.zip us)):Binds K fd ps []:=by
 obtain⟨oc,od,kV,doc,pm,an,cdv,ct,osl,rfl,lk,hcd⟩:=F.ex;exact .all (h kV doc pm an cdv ct)
theorem vZ{x qual:Str}{st:Stmt}{f:Addr}{oc:Value}{od an:Option Addr}{osl:Array (Option Value)}{kV doc pm cdv ct:Value}(l:K.lookup f=some ⟨oc,od, .func (PySem.W.fnOf x qual (defArgs st) (defBody st) (defScope st) .none kV doc pm an cdv ct),osl⟩)
  (c:PySem.W.codeIn K cdv qual=true)(k:PySem.W.keepIn K (.ref f)=true):Fun K x qual st f (PySem.W.fnOf x qual (defArgs st) (defBody st) (defScope st) .none kV doc pm an cdv ct):=⟨⟨oc,od,kV,doc,pm,an,cdv,ct,osl,rfl,l,c⟩,k⟩
end
theorem aIs{A:Around}{k:Nat}(hr:Room k A):A.units+1<cLine:=Nat.lt_of_le_of_lt (Nat.add_le_add_left (by decide:1≤64) _) hr.units
def Same(H H':Hp):Prop:=∀ b o,H b=some o→H' b=some o
theorem Same.refl(H:Hp):Same H H:=fun _ _ h=>h
noncomputable def cxComp(X:Cx)(N:List Str)(scope:Scope)(cl:List (Str×Addr))(C:Addr)(ex:List Addr)(s:Shared)(H:Hp):Cx:=
 { X with N:=N,s₀:=s,H₀:=H,env:=compEnvC scope cl C X.env,outer:=X.stack,ex:=ex,fn:=fun _=>false,pn:=[],xe:=fun _ _=>False }
noncomputable def capsOf(caps:List Nat)(σ:St):St:=caps.map fun j=>(σ[j]?).getD none
structure Caps (X:Cx) (scope:Scope) (x:Str) (cl:List (Str×Addr)) (cn:List Str) (caps:List Nat):Prop where
 clos:closureFor scope X.env=pure cl
 cell:∀ y∈scope.names,y.2≠.cell
 kind:scope.kind=.function
 names:∀ y∈scope.names,y.2=.local→scope.names.lookup y.1=some .local
 hx:scope.names.lookup x=some .local
 sub:∀ y c,cl.lookup y=some c→X.env.cells.lookup y=some c
 has:∀ y,((relabel scope X.env).names.lookup y=some .cell∨(relabel scope X.env).names.lookup y=some .free)→∃ c,cl.lookup y=some c
 nd:(x::cn).Nodup
 len:cn.length=caps.length
 cap:∀ (k:Nat) (y:Str),cn[k]?=some y→∃ j:Nat,caps[k]?=some j∧X.N[j]?=some y∧Vis X.env.scope y∧(X.env.kindOf y=some .cell∨X.env.kindOf y=some .free)∧((relabel scope X.env).names.lookup y=some .cell∨(relabel scope X.env).names.lookup y=some .free)
noncomputable def listO(us:List Value)(n:Nat):Obj:={ cls:=.type "list",data:=.seq us.toArray n }
noncomputable def Its(x:Str):It:=⟨fun i _=>i<x.cps.size,fun i H v H'=>H'=H∧∃ c,x.cps[i]?=some c∧v=.str ⟨#[c]⟩,fun i _=>x.cps.size≤i⟩
theorem aBu{P:Program}{w:World}{K:Fg9}{tg:Expr}(it:Addr)(x:Str)(t:Tok)(ty:String)(hty:ty="str_ascii_iterator"∨ty="str_iterator"):Turn P w K tg (Its x) [it] it (fun i h=>h.IsStrIter it ty x t i) where
 mem:=by simp
 obj:=fun i h st b hb=>by
  have e:b=it:=by simpa using hb
  subst e;obtain⟨o,e,c,d⟩:=st;exact⟨o,e,fun v z=>by rw[d] at z;cases z⟩
 keep:=fun i h h' st k=>by
  obtain⟨o,e,r⟩:=st;exact⟨o,k it (by simp) o e,r⟩
 item:=by
  intro X hP hw hK hc i pins s σ H E I hf st hg;subst hP hw hK;obtain⟨f0,f1,f2,f3,f4,f5⟩:=hf it (by simp);have hlt:i<x.cps.size:=hg;have hx:x.cps[i]?=some x.cps[i]:=by simp[hlt]
  have fin:∀ h',h'.IsStrIter it ty x t (i+1)→Heap.SameBut it s.heap h'→∃ u,some (Value.str ⟨#[x.cps[i]]⟩ s.toks)=some u∧
   wpAny (model X.prog X.w) X.A (letOwnedTupleGo tg (.ref it) u) (fun _ s2=>∃ y H',Inv X pins σ H' s2∧RelV y u∧(Its x).yld i H y H'∧s2.heap.IsStrIter it ty x t (i+1)∧∀ b∈[it],H' b=none) E { s with heap:=h',toks:=s.toks+1 }:=fun h' st' sb=>by
   have I1:Inv X pins σ H { s with heap:=h',toks:=s.toks+1 }:=I.turned (fun b o hb e=>(sb.2 b hb).trans e) f0 f1 f3 f4 f5;obtain⟨o,e,c,d⟩:=id st';refine⟨_,rfl,xO (s:={ s with heap:=h',toks:=s.toks+1 }) (n:=ty) e c d ?_ ⟨.str ⟨#[x.cps[i]]⟩,H,I1,⟨_,rfl⟩,⟨rfl,_,hx,rfl⟩,st',fun b hb=>(hf b hb).1⟩⟩;rcases hty with rfl|rfl<;>decide
  rcases hty with rfl|rfl
  ·exact wpAny_pyNext_ascii_item st hx fin
  ·exact wpAny_pyNext_wide_item st hx fin
 done:=by
  intro X hP hw hK hc i pins s σ H E I hf st hg;subst hP hw hK;obtain⟨f0,f1,f2,f3,f4,f5⟩:=hf it (by simp);have hx:x.cps[i]?=none:=by
   have:x.cps.size≤i:=hg
   simpa using this
  have fin:∀ h',Heap.ExtBut it s.heap h'→(none:Option Value)=none∧Inv X pins σ H { s with heap:=h' }:=fun h' eb=>⟨rfl,I.turned (t':=s.toks) (fun b o hb e=>eb b o hb e) f0 f1 f3 f4 f5⟩;rcases hty with rfl|rfl
  ·exact wpAny_pyNext_ascii_end (I.ok.hd hc) st hx fin
  ·exact wpAny_pyNext_wide_end (I.ok.hd hc) st hx fin
 self:=fun _ _ _ _ _ st h=>by
  rcases hty with rfl|rfl
  ·exact wpAny_pyIter_striter_ascii st h
  ·exact wpAny_pyIter_striter_wide st h
def iStr(tl:TE):TI:=fun σ H R=>tl σ H fun v H1=>∃ x,v=.str x∧R (Its x) H1
section
variable{X:Cx}{tg:Expr}
theorem aGt{l:Expr}{tl:TE}(hl:PE X l tl):PI X tg l (iStr tl):=by
 intro pins s σ H R I h;refine thn (hl pins s σ H _ I h) fun v s1 ⟨y,H1,I1,r1,q1⟩=>?_;obtain⟨x,rfl,q⟩:=q1;obtain⟨t,rfl⟩:=r1;refine wpAny_pyIter_strU ?_;refine⟨s1.heap.objs.size,[s1.heap.objs.size],_,_,H1,rfl,I1.kept (t':=s1.toks) fun b o e=>V10 _ e,aBu _ x t (strIterType x) (by unfold strIterType;split<;>simp),⟨_,V11 _ rfl,rfl,rfl⟩,fun b hb=>?_,q⟩;have e:b=s1.heap.objs.size:=by simpa using hb
 subst e;exact I1.fpOk (Y12 _) (I1.hok.fresh (Y12 _))
theorem tY:∀ {bs:List Bool} {us:List Value},Vals (bs.map V.bl) us→us=bs.map Value.bool
 |[],_,r=>by cases r;rfl
 |b::bs,_,r=>by
  rw[V15] at r;cases r with
  |cons r1 r2=>
   have e:_=Value.bool b:=r1;rw[e,tY r2,V15]
theorem aBv(hc:X.calm=true):CallR X (.builtin "all") (fun xs H Q=>∃ (p:Addr) (bs:List Bool),xs=[.ref p]∧SqL X.K H p (bs.map V.bl)∧Q (.bl (bs.all id)) H):=by
 intro pins s σ H xs us Q I r h;obtain⟨p,bs,rfl,hq,q⟩:=h;obtain⟨u,rfl,rx⟩:=vals1 r;cases rx;obtain⟨its,rv,pl,hz⟩:=I.list hq;obtain rfl:=tY rv;have hl:=pl.isList;have hlt:p<s.heap.objs.size:=by obtain⟨_,e,_⟩:=hl;exact W11 e
 refine call_all_walk (wpAny_pyIter_list hl ?_);refine⟨s.heap.objs.size,[s.heap.objs.size,p],[s.heap.objs.size],(bs.map Value.bool).toArray.size,_,_,fun i=>(bs[i]?).getD true,rfl,Walks.list (A:=X.A.in1) (I.ok.hd hc) _ p (V13 hlt) _,
  ⟨⟨_,V11 _ rfl,rfl,rfl⟩,hl.push _⟩,fun i v s' Q' E' hP hQ=>?_,fun h' tk hk=>?_⟩
 ·have hP':(bs.map Value.bool)[i]?=some v:=by simpa using hP
  rw[Z13] at hP';cases e:bs[i]? with
  |none=>rw[e] at hP';cases hP'
  |some b=>
   rw[e] at hP';obtain rfl:Value.bool b=v:=U14 hP';simp only[e,Option.getD_some] at hQ;exact U24 hQ
 ·have e:((List.range (bs.map Value.bool).toArray.size).all fun i=>(bs[i]?).getD true)=bs.all id:=by
   rw[Y11,U16];exact LSm.range_all bs
  rw[e];exact⟨.bl _,H,I.kept (t':=tk) (LSm.kept_iter hk),rfl,q⟩
theorem tZ:CallR X (.builtin "isinstance") (fun xs H Q=>∃ (x:V) (t:Value) (c:String) (b:Bool),xs=[x, .ty c]∧TyOf X.K H x t∧PySem.W.kitOne X.K t (.type c)=some b∧Q (.bl b) H):=by
 intro pins s σ H xs us Q I r h;obtain⟨x,t,c,b,rfl,ty,e,q⟩:=h;obtain⟨u,v,rfl,r1,r2⟩:=vals2 r;cases r2;exact zN I r1 ty e fun tk=>⟨.bl b,H,I.tok _,rfl,q⟩
theorem aGu:SlR X (fun x lo hi H Q=>∃ z:Str,x=.str z∧z.length≤sizeLine∧Q (.str (Txt.slice z lo hi)) H):=by
 intro pins s σ H x v vl vu lo hi sl Q I rx hs pl pu h;obtain⟨z,rfl,hz,q⟩:=h;obtain⟨t,rfl⟩:=rx;have fin:∀ t' k,EP X pins σ Q (.str (Txt.slice z lo hi) t') { s with toks:=k }:=fun t' k=>⟨.str _,H,I.tok _,⟨_,rfl⟩,q⟩;refine⟨"str",_,F.slot_str_getitem.lookup,typeIs_str _ _ _,?_⟩;cases pl<;>cases pu
 ·exact Y26 (l:=none) (u:=none) (st:=none) hs rfl (post_val_or_str ⟨Z17 (Txt.slice_le z _ _) hz,fin⟩)
 ·rename_i j tj;exact Y26 (l:=none) (u:=some (j,tj)) (st:=none) hs rfl (post_val_or_str ⟨Z17 (Txt.slice_le z _ _) hz,fin⟩)
 ·rename_i j tj;exact Y26 (l:=some (j,tj)) (u:=none) (st:=none) hs rfl (post_val_or_str ⟨Z17 (Txt.slice_le z _ _) hz,fin⟩)
 ·rename_i j tj k tk;exact Y26 (l:=some (j,tj)) (u:=some (k,tk)) (st:=none) hs rfl (post_val_or_str ⟨Z17 (Txt.slice_le z _ _) hz,fin⟩)
theorem rX:∀ {ts:List Str} {us:List Value},Vals (ts.map V.str) us→∃ l:List (Str×Tok),us=strValues l∧l.map (·.1)=ts
 |[],_,r=>by cases r;exact⟨[],rfl,rfl⟩
 |x::ts,_,r=>by
  rw[V15] at r;cases r with
  |cons r1 r2=>
   obtain⟨t,e⟩:=(show ∃ t,_=Value.str x t from r1);obtain⟨l,e1,e2⟩:=rX r2;exact⟨(x,t)::l,by rw[e,e1];rfl,by rw[V15,e2]⟩
theorem aEe:MtR X "str.join" (fun x xs H Q=>∃ (z:Str) (p:Addr) (ts:List Str),x=.str z∧xs=[.ref p]∧SqL X.K H p (ts.map V.str)∧JoinOk z ts=true∧Q (.str (Txt.join z ts)) H):=by
 intro pins s σ H x xs v us Q I rx rs h;obtain⟨z,p,ts,rfl,rfl,hq,hj,q⟩:=h;obtain⟨t,rfl⟩:=rx;obtain⟨u,rfl,ru⟩:=vals1 rs;cases ru;obtain⟨its,rv,pl,hz⟩:=I.list hq;obtain⟨l,rfl,e⟩:=rX rv;exact SC.join pl.isList e hj fun t' k=>⟨.str _,H,I.tok _,⟨_,rfl⟩,q⟩
end
end L2
end
section
namespace HT
open PySem PySem.Spec PyProof.Rows
open AutoSeq1 (wpAny_loadPart')
theorem tuple_addW0(l b:Addr)(items items2:Array Value)(n n2:Nat)(dd dd2:Option Addr)(sl sl2:Array (Option Value))(hc0:items.isEmpty=true):
  Meets (Builtin.«tuple.__add__» ⟨[.ref l, .ref b],[]⟩) (fun _ R s=>s.heap.get? l=some { cls:=.type "tuple",dict:=dd,data:=.seq items n,slots:=sl }∧s.heap.get? b=some { cls:=.type "tuple",dict:=dd2,data:=.seq items2 n2,slots:=sl2 }∧R (.ok (.ret (Value.ref b))) { s with heap:=s.heap,toks:=s.toks }):=
 .of_wp fun prog w A R s h=>by obtain⟨hp,g,d,tk,os⟩:=s;obtain⟨hl,hb,h⟩:=h;have f1:=AutoSeq1.idx_int;have f2:=Y32;have f3:=AutoSeq1.sub_list_list;have f4:=W32;have f5:=U32;wp_walk using wpAny_loadPart' hl,wpAny_loadPart' hb;exact⟨_,rfl,h⟩
section
variable{prog:Program}{w:World}{A:Around}{E:Value→Shared→Prop}{s:Shared}
theorem aBw{t b:Addr}{ws:List Value}{Q:Value→Shared→Prop}(ht:IsTup s.heap t ([]:List Value).toArray)(hb:IsTup s.heap b ws.toArray)
  (h1:Q (.ref b) s):wpAny (model prog w) A (binaryOp .Add (.ref t) (.ref b)) Q E s:=by
 obtain⟨⟨cls,dd,data,sl⟩,ho,hc,n,hd⟩:=id ht;obtain⟨⟨cls2,dd2,data2,sl2⟩,ho2,hc2,n2,hd2⟩:=id hb;simp only at hc hd hc2 hd2;subst hc hd hc2 hd2;exact concat_meets ⟨_,ho,rfl⟩ ⟨_,ho2,rfl⟩ noFill_tuple_add seq_tuple_add U34 V32 (W31 _ _)
   (tuple_addW0 t b ([]:List Value).toArray ws.toArray n n2 dd dd2 sl sl2 rfl) ⟨ho,ho2,h1⟩
theorem lJ{t sl:Addr}{items:Array Value}{vl vu:Value}{lo hi:Option Int}{Q:Value→Shared→Prop}(ht:IsTup s.heap t items)(hs:s.heap.IsSliceOf sl vl vu .none)(pl:IsPart vl lo)(pu:IsPart vu hi)
  (hw:sIx items.size 0 lo=0∧sIx items.size items.size hi=items.size)
  (h:Q (.ref t) s):wpAny (model prog w) A (getItem (.ref t) (.ref sl)) Q E s:=by
 obtain⟨os,hos,hcs,hds⟩:=id hs;have hTs:s.TypeIs (.ref sl) "slice":=⟨os,hos,hcs⟩;unfold getItem
 try with_reducible refine Z16 ?_
 first|refine Y10 (W10 ?_)|skip
 refine Y10 (V35 ht.typeIs (by decide) ?_);refine Y10 (U15 (name:=Str.ofString "__getitem__") ht.typeIs Z15
  (W16 Z15 ht.typeIs entry_tuple_getitem ?_ (args_tuple_getitem _ _)))
 show wpAny _ _ (Builtin.Tuple.tupleItemsOf (.ref t) >>=_) _ _ s;refine Y10 (tupleItemsOf_ ht ?_);refine Y10 (U25 hTs ?_);rw[if_pos (by decide)];refine Y10 (iZ hs pl pu ?_);show wpAny _ _ (if(((sIx items.size 0 lo:Nat):Int)==0&&(1:Int)==1&&(sIx items.size items.size hi - sIx items.size 0 lo)==items.size)=true then _ else _) _ _ s;rw[hw.1,hw.2];rw[if_pos (by simp)];refine Y10 ?_;show wpAny _ _ (do return (← typeOf (.ref t))==.type "tuple") _ _ s;refine Y10 (U25 ht.typeIs (W10 ?_));rw[if_pos (by decide)];refine Y10 (Z35 ?_)
 first
  |exact W10 ⟨_,rfl,W10 h⟩
  |exact Y10 (W10 (W10 ⟨_,rfl,W10 h⟩))
  |exact Y10 (Y10 (W10 (W10 ⟨_,rfl,W10 h⟩)))
  |exact Y10 (Y10 (Y10 (W10 (W10 (W10 ⟨_,rfl,W10 h⟩)))))
  |exact Y10 (W10 (W10 (W10 ⟨_,rfl,W10 h⟩)))
  |trace_state
end
end HT
namespace L2
open PySem PySem.Spec PyProof.Rows
section
variable{X:Cx}
def rCatA:R2:=fun x y H Q=>∃ a b xs ys,x=.ref a∧y=.ref b∧H a=some (.tup xs)∧H b=some (.tup ys)∧xs.length+ys.length≤sizeLine∧∀ p H',H' p=some (.tup (xs++ys))→Same H H'→Q (.ref p) H'
theorem aEf:OpR X (binaryOp .Add) rCatA:=by
 intro pins s σ H x y v u Q I rx ry h;obtain⟨a,b,xs,ys,rfl,rfl,ha,hb,hz,q⟩:=h
 by_cases hx:xs=[]
 ·subst hx;cases rx;cases ry;obtain⟨its,r1,p1,_⟩:=I.tuple (SqT.of ha);obtain⟨its2,r2,p2,_⟩:=I.tuple (SqT.of hb);cases r1;exact HT.aBw p1 p2 ⟨.ref b,H,I,rfl,q b H hb (Same.refl H)⟩
 ·refine aEb pins s σ H _ _ v u Q I rx ry ⟨a,b,xs,ys,rfl,rfl,SqT.of ha,SqT.of hb,hx,hz,fun z=>?_,fun z p hp=>?_⟩
  ·subst z;exact q a H (by rw[V12];exact ha) (Same.refl H)
  ·exact q p _ bI fun c o e=>by rw[aG (aH e hp)];exact e
def rSlA:V→Option Int→Option Int→Hp→VK→Prop:=fun x lo hi H Q=>∃ a xs,x=.ref a∧H a=some (.tup xs)∧∀ p H',H' p=some (.tup (cutV xs lo hi))→Same H H'→Q (.ref p) H'
theorem aEg:SlR X rSlA:=by
 intro pins s σ H x v vl vu lo hi sl Q I rx hs pl pu h;obtain⟨a,xs,rfl,hx,q⟩:=h
 by_cases hw:HT.sIx xs.length 0 lo=0∧HT.sIx xs.length xs.length hi=xs.length
 ·cases rx;obtain⟨its,r,ht,hz⟩:=I.tuple (SqT.of hx);have hlen:its.toArray.size=xs.length:=by rw[Y11];exact r.length.symm
  have hcut:cutV xs lo hi=xs:=by
   unfold cutV;rw[hw.1,hw.2];simp
  exact⟨"tuple",_,Z15.lookup,ht.typeIs,HT.lJ ht hs pl pu (by rw[hlen];exact hw) ⟨.ref a,H,I,rfl,q a H (by rw[hcut];exact hx) (Same.refl H)⟩⟩
 ·exact aGl pins s σ H _ v vl vu lo hi sl Q I rx hs pl pu ⟨a,xs,rfl,SqT.of hx,hw,fun p hp=>q p _ bI fun c o e=>by rw[aG (aH e hp)];exact e⟩
end
open AutoSeq1 (wpAny_loadPart')
theorem rZ(l:Addr)(items:Array Value)(n:Nat)(b:Addr)(items2:Array Value)(n2:Nat)(dd:Option Addr)(sl:Array (Option Value))(hc0:¬(!items.isEmpty&&Builtin.List.listTooLong (items.size+items2.size))=true)(hc1:items.size≤sizeLine)(hs2:items.size+items2.size≤sizeLine+1):
  Meets (Builtin.«list.extend» ⟨[.ref l, .ref b],[]⟩) (fun _ R s=>s.heap.get? l=some { cls:=.type "list",dict:=none,data:=.seq items n,slots:=#[] }∧s.heap.get? b=some { cls:=.type "tuple",dict:=dd,data:=.seq items2 n2,slots:=sl }∧R (.ok (.ret Value.none)) { s with heap:=s.heap.update l (Obj.mapSeq fun x=>x++items2),toks:=s.toks }):=
 .of_wp fun prog w A R s h=>by
  obtain⟨hp,g,d,tk,os⟩:=s;obtain⟨hl,hb,h⟩:=h;have f1:=AutoSeq1.idx_int;have f2:=Y32;have f3:=AutoSeq1.sub_list_list;have f4:=W32;have f5:=U32;have hz':(items++items2).size≤sizeLine+1:=by rw[Array.size_append];exact hs2
  wp_walk using (Z28 hl rfl (hz:=hc1) (_hz':=hz')),wpAny_loadPart' hl,wpAny_loadPart' hb;exact⟨_,rfl,h⟩
section
variable{X:Cx}
def rExtendT:V→List V→Hp→VK→Prop:=fun x vs H Q=>∃ l b xs zs,x=.ref l∧vs=[.ref b]∧H l=some (.lst xs)∧H b=some (.tup zs)∧xs.length+zs.length≤sizeLine∧Q .non (upd H l (.lst (xs++zs)))
theorem wA:MtM X "list.extend" rExtendT:=by
 intro pins s σ H x vs v us Q I rx rv h;obtain⟨l,b,xs,zs,rfl,rfl,hH,hB,hz,q⟩:=h;cases rx;obtain⟨u,rfl,ru⟩:=rv.one;cases ru;obtain⟨z,its,n,r,hl,e⟩:=I.lstM hH;obtain⟨its2,r2,⟨⟨c2,dd2,d2,sl2⟩,e2,hc2,n2,hd2⟩,_⟩:=I.tuple (SqT.of hB);have hc2':c2=.type "tuple":=hc2;have hd2':d2=.seq its2.toArray n2:=hd2;subst hc2' hd2';have hl2:=r2.length;have hsz:its.toArray.size+its2.toArray.size≤sizeLine:=by rw[Y11,Y11];omega
 have hlong:¬ (!its.toArray.isEmpty&&Builtin.List.listTooLong (its.toArray.size+its2.toArray.size))=true:=by
  rw[notLongL hsz,Bool.and_false];exact V14
 refine U31 F.slot_list_extend ⟨_,e,rfl⟩ F.entry_list_extend (F.args_list_extend_2 _ _)
  (rZ l its.toArray n b its2.toArray n2 dd2 sl2 hlong (by rw[Y11];omega) (by omega)) ⟨e,e2,?_⟩
 refine⟨.non,_,I.lset (its':=its++its2) hH e (by simp) (r.append r2) ?_,rfl,q⟩;rw[Y13]
 omega
theorem Inv.turnedN{pins:List (Addr×Obj)}{σ:St}{H:Hp}{s s':Shared}{fp:List Addr}{T:Addr}{o:HO}(I:Inv X pins σ H s)(ho:s'.os=s.os)(hg:s'.gens=s.gens)(k:∀ b u,b∉fp→s.heap.get? b=some u→s'.heap.get? b=some u)
  (hf:∀ b∈fp,FpOk X pins H b)(hT:s.heap.objs.size≤T)(new:ObjOk X.prog X.w (upd H T o) s'.heap T o):Inv X pins σ (upd H T o) s':=by
 have hn:H T=none:=I.hok.fresh hT;have nf:∀ b u,H b=some u→b∉fp:=fun b u e z=>by
  have:=(hf b z).1;rw[this] at e;cases e
 refine I.call' (ch:=fp) ho ?_ (fun b u e=>?_) (by rw[hg];exact I.bare) fun b hb=>⟨(hf b hb).2.2.2.1,(hf b hb).2.1,(hf b hb).2.2.2.2.1,(hf b hb).2.2.2.2.2⟩
 ·exact⟨fun b u e _ _ hx=>k b u hx e,fun b u e _ _ hx=>⟨u.slots,k b u hx e⟩,fun b u e n _=>by rw[aG (V13 (U12 (W11 e) hT))];exact n,fun b u e hx=>⟨u,k b u hx e⟩,
   fun b xs e=>by rw[aG (aH e hn)];exact e,fun b u xs e=>by rw[aG (aH e hn)];exact e,fun b ps e=>⟨#[],by rw[aG (aH e hn),e];simp⟩⟩
 ·by_cases hb:b=T
  ·subst hb;rw[bI] at e;cases e;exact new
  ·rw[aG hb] at e;refine(I.hok b u e).stay (fun c v hc q=>k c v ?_ q) (fun c q=>by rw[aG (aH q hn)];exact q) fun c xs q=>by rw[aG (aH q hn)];exact q
   rcases hc with z|z
   ·rw[z];exact nf b u e
   ·exact nf c _ z
theorem Inv.turnedF{pins:List (Addr×Obj)}{σ:St}{H:Hp}{s s':Shared}{fp:List Addr}(I:Inv X pins σ H s)(ho:s'.os=s.os)(hg:s'.gens=s.gens)(k:∀ b u,b∉fp→s.heap.get? b=some u→s'.heap.get? b=some u)
  (hf:∀ b∈fp,FpOk X pins H b):Inv X pins σ H s':=by
 have nf:∀ b u,H b=some u→b∉fp:=fun b u e z=>by
  have:=(hf b z).1;rw[this] at e;cases e
 refine I.call' (ch:=fp) ho ?_ (fun b u e=>?_) (by rw[hg];exact I.bare) fun b hb=>⟨(hf b hb).2.2.2.1,(hf b hb).2.1,(hf b hb).2.2.2.2.1,(hf b hb).2.2.2.2.2⟩
 ·exact⟨fun b u e _ _ hx=>k b u hx e,fun b u e _ _ hx=>⟨u.slots,k b u hx e⟩,fun b u e n _=>n,fun b u e hx=>⟨u,k b u hx e⟩,
   fun b xs e=>e,fun b u xs e=>e,fun b ps e=>⟨#[],by rw[e];simp⟩⟩
 ·refine(I.hok b u e).stay (fun c v hc q=>k c v ?_ q) (fun c q=>q) fun c xs q=>q;rcases hc with z|z
  ·rw[z];exact nf b u e
  ·exact nf c _ z
theorem mP:bootBuiltins "enumerate"=some (.type "enumerate"):=by decide +kernel
end
end L2
end
section
namespace L2
open PySem PySem.Spec PyProof.Rows
open AutoSeq1 (wpAny_loadPart')
section
variable{prog:Program}{w:World}{A:Around}{E:Value→Shared→Prop}{s:Shared}
theorem eM{it t:Addr}{i:Nat}{items:Array Value}{x:Value}{Q:Value→Shared→Prop}(hit:s.heap.IsTupleIter it t i)
  (ht:s.heap.IsTuple t items)(hx:items[i]?=some x)
  (hQ:∀ h',h'.IsTupleIter it t (i+1)→Heap.SameBut it s.heap h'→Q x { s with heap:=h' }):
  wpAny (model prog w) A (Builtin.SmallTypes.nextOf (.ref it)) Q E s:=by
 obtain⟨o,ho,hc,hd⟩:=id hit;obtain⟨ol,hol,_,nl,hdl⟩:=ht;unfold Builtin.SmallTypes.nextOf;refine Y10 (U15 (name:=Str.ofString "__next__") hit.typeIs W23
  (W16 W23 hit.typeIs F.entry_tuple_iterator_next ?_ (F.args_tuple_iterator_next_1 _)))
 show wpAny _ _ (field (.ref it) 0 >>=_) _ _ s;refine Y10 (V16 ho hd (x:=.ref t) rfl ?_);show wpAny _ _ (if(Value.ref t==Value.none)=true then _ else _) _ _ s;rw[if_neg (show ¬ ((Value.ref t==Value.none)=true) from V14)];show wpAny _ _ (field (.ref it) 1 >>=_) _ _ s;refine Y10 (V16 ho hd (x:=.int i 0) rfl ?_);show wpAny _ _ (seqItems? (.ref t) >>=_) _ _ s;refine Y10 (W21 hol hdl ?_);simp only[V29,hx];refine Y10 (wpAny_setField ho hd (by simp) (W10 ⟨x,rfl,W10 (hQ _ ?_ (Z26 ..))⟩));exact⟨_,Heap.get?_update_self _ ho (Obj.isFreed_of_fields (Y33 hd _)),(Obj.cls_mapFields ..).trans hc,by
  rw[Y33 hd];simp[rawInt]⟩
theorem dE{it t:Addr}{i:Nat}{items:Array Value}{Q:Value→Shared→Prop}(hh:A.handled=none)
  (hit:s.heap.IsTupleIter it t i)(ht:s.heap.IsTuple t items)(hx:items[i]?=none)
  (hE:∀ h' e,Heap.ExtBut it s.heap h'→(∃ o,h'.get? e=some o∧o.cls=.type "StopIteration")→E (.ref e) { s with heap:=h' }):
  wpAny (model prog w) A (Builtin.SmallTypes.nextOf (.ref it)) Q E s:=by
 obtain⟨o,ho,hc,hd⟩:=id hit;obtain⟨ol,hol,_,nl,hdl⟩:=ht;unfold Builtin.SmallTypes.nextOf;refine Y10 (U15 (name:=Str.ofString "__next__") hit.typeIs W23
  (W16 W23 hit.typeIs F.entry_tuple_iterator_next ?_ (F.args_tuple_iterator_next_1 _)))
 show wpAny _ _ (field (.ref it) 0 >>=_) _ _ s;refine Y10 (V16 ho hd (x:=.ref t) rfl ?_);show wpAny _ _ (if(Value.ref t==Value.none)=true then _ else _) _ _ s;rw[if_neg (show ¬ ((Value.ref t==Value.none)=true) from V14)];show wpAny _ _ (field (.ref it) 1 >>=_) _ _ s;refine Y10 (V16 ho hd (x:=.int i 0) rfl ?_);show wpAny _ _ (seqItems? (.ref t) >>=_) _ _ s;refine Y10 (W21 hol hdl ?_);simp only[V29,hx];refine Y10 (Z35 (Y10 (wpAny_setField ho hd (by simp) ?_)));show wpAny _ _ (newExc (.type "StopIteration") [] >>=_) _ _ _;refine Y10 ?_;simp only[newExc,newTuple];refine Y10 (W14 ?_ (by size_fits));refine Y10 (m:=firstArgMember _ _) (V37 (a:=Value.none) (by first|rfl|(simp only[firstArgMember];rfl)) ?_);refine W14 ?_ (by size_fits);simp only[raiseNew];refine Y10 (wpAny_handled ?_)
 first|rw[show A.in1.handled=none from hh]|rw[hh]
 refine Y10 (W10 (wpAny_throw ?_));exact hE _ _ (((Z26 ..).extBut.push _).push _) ⟨_,V11 _ rfl,rfl⟩
end
theorem nK{prog:Program}{w:World}{A:Around}(hh:A.handled=none)(it t:Addr)(hne:t≠it)(items:Array Value):
  Draws prog w A it [it,t] items.size (fun i v=>items[i]?=some v) (fun i h=>h.IsTupleIter it t i∧h.IsTuple t items) where
 live:=fun _ _ st=>let ⟨o,ho,_⟩:=st.1;⟨o,ho⟩
 frame:=fun _ _ _ st hk=>by
  obtain⟨⟨o,ho,r⟩,o2,ho2,r2⟩:=st;exact⟨⟨o,hk it (by simp) o ho,r⟩,o2,hk t (by simp) o2 ho2,r2⟩
 item:=fun i s Q E hi st hQ=>by
  refine eM st.1 st.2 (x:=items[i]) (by simp[hi]) fun h' hit' hs'=>?_;exact hQ _ h' s.toks (by simp[hi]) ⟨hit',st.2.extBut hs'.extBut hne⟩ hs'
 done:=fun s Q E st hE=>dE hh st.1 st.2 (by simp) hE
set_option maxHeartbeats 1000000 in
theorem nU(l:Addr)(items:Array Value)(n:Nat)(dct:Option Addr)(sl:Array (Option Value)):
  Meets (Builtin.«enumerate.__new__» ⟨[.type "enumerate", .ref l],[]⟩) (fun _ R s=>s.heap.get? l=some { cls:=.type "tuple",dict:=dct,data:=.seq items n,slots:=sl }∧
   R (.ok (.ret (.ref (s.heap.push { cls:=.type "tuple_iterator",data:=.fields #[.ref l, .int 0 0] }).objs.size)))
    { s with heap:=(s.heap.push { cls:=.type "tuple_iterator",data:=.fields #[.ref l, .int 0 0] }).push { cls:=.type "enumerate",data:=.fields #[.none, .bool false, .ref s.heap.objs.size,rawInt 0, .none, .none] } }):=
 .of_wp fun prog w A R s h=>by
  obtain⟨hp,g,d,tk,os⟩:=s;obtain⟨hl,h⟩:=h;have hsub:=sub_enumerate;have hL:Heap.IsTuple (Shared.heap ⟨hp,g,d,tk,os⟩) l items:=⟨_,hl,rfl,n,rfl⟩
  wp_walk using wpAny_loadPart' hl
  refine wpAny_stack_any fun st=>W10 ?_
  split
  ·rename_i c _ _ _ _ _;cases (c==Value.type "enumerate")
   ·wp_walk using wpAny_loadPart' hl,Y24 hL
    exact⟨_,rfl,h⟩
   ·wp_walk using wpAny_loadPart' hl,Y24 hL
    exact⟨_,rfl,h⟩
  ·wp_walk using wpAny_loadPart' hl,Y24 hL
   exact⟨_,rfl,h⟩
theorem nV{prog:Program}{w:World}{A:Around}{E:Value→Shared→Prop}{s:Shared}{l:Addr}{items:Array Value}{Q:Value→Shared→Prop}(hL:s.heap.IsTuple l items)
  (h:∀ h',IsEnum h' (s.heap.objs.size+1) s.heap.objs.size 0 .none→h'.IsTupleIter s.heap.objs.size l 0→h'.objs.size=s.heap.objs.size+2→
   (∀ b o,s.heap.get? b=some o→h'.get? b=some o)→Q (.ref (s.heap.objs.size+1)) { s with heap:=h' }):
  wpAny (model prog w) A (call (.type "enumerate") [.ref l]) Q E s:=by
 obtain⟨⟨c,dct,dt,sl⟩,hl,hc,n,hd⟩:=hL
 replace hc:c=.type "tuple":=hc
 replace hd:dt=.seq items n:=hd
 subst hc hd;refine callType_new F.called_enumerate (by decide) (F.typeCall_enumerate_1 _) (F.newCall_enumerate_1 _) (fun obj=>F.args_object_init_2 obj _) F.entry_enumerate_new
  (nU l items n dct sl) ⟨hl,?_⟩
 have hz:(s.heap.push { cls:=.type "tuple_iterator",data:=.fields #[.ref l, .int 0 0] }).objs.size=s.heap.objs.size+1:=Y17 ..;show _∧_;rw[hz];have he:IsEnum ((s.heap.push { cls:=.type "tuple_iterator",data:=.fields #[.ref l, .int 0 0] }).push
   { cls:=.type "enumerate",data:=.fields #[.none, .bool false, .ref s.heap.objs.size,rawInt 0, .none, .none] }) (s.heap.objs.size+1) s.heap.objs.size 0 .none:=by
  have:=V11 (s.heap.push { cls:=.type "tuple_iterator",data:=.fields #[.ref l, .int 0 0] })
   (o:={ cls:=.type "enumerate",data:=.fields #[.none, .bool false, .ref s.heap.objs.size,rawInt 0, .none, .none] }) rfl
  rw[hz] at this;exact this
 refine⟨⟨_,he,rfl⟩,h _ he ⟨_,V10 _ (V11 _ rfl),rfl,rfl⟩ (by rw[Y17,hz]) fun b o x=>V10 _ (V10 _ x)⟩
noncomputable def Itet(K:Fg9)(a:Addr):It:=⟨fun i H=>∃ xs x,SqT K H a xs∧xs[i]?=some x,fun i H v H'=>∃ T x,v=.ref T∧H T=none∧(∀ xs,SqT K H a xs→xs[i]?=some x)∧H'=upd H T (.tup [.int i,x]),fun i H=>∃ xs,SqT K H a xs∧xs.length=i⟩
abbrev enumTSt(e it a:Addr)(i:Nat)(h:Heap):Prop:=(∃ old,IsEnum h e it i old)∧h.IsTupleIter it a i
theorem wB{P:Program}{w:World}{K:Fg9}{es:List Expr}{kk:Nat}{pos:Pos}(e it a:Addr)(hei:e≠it)(hai:a≠it)(hea:e≠a):
  Turn P w K (.Tuple es kk pos) (Itet K a) [e,it] e (enumTSt e it a) where
 mem:=by simp
 obj:=fun i h st b hb=>by
  obtain⟨⟨old,he⟩,o,ho,c,d⟩:=st;rcases W12.mp hb with rfl|hb
  ·exact⟨_,he,fun v z=>by cases z⟩
  ·rw[W15.mp hb];exact⟨o,ho,fun v z=>by rw[d] at z;cases z⟩
 keep:=fun i h h' st k=>by
  obtain⟨⟨old,he⟩,o,ho,r⟩:=st;exact⟨⟨old,k e (by simp) _ he⟩,o,k it (by simp) o ho,r⟩
 item:=by
  intro X hP hw hK hc i pins s σ H E I hf st hg;subst hP hw hK;obtain⟨xs,x,hq,hx⟩:=hg;obtain⟨its,rv,p,hz⟩:=I.tuple hq;obtain⟨u,hu,ru⟩:=rv.get hx;have hlt:i<its.length:=(Z10.mp hu).1;have W:=V25 (nK (prog:=X.prog) (w:=X.w) (A:=X.A.in1) (I.ok.hd hc) it a hai its.toArray) e hei (by simp[hei,hea]) (by simp);refine W.item i s _ _ (by simpa using hlt) ⟨st.1,st.2,p⟩ fun T vals h' tk hv hT tup mid kk1=>?_;obtain⟨tt,v,hv1,rfl⟩:=hv;have ev:v=u:=by
   have h1:its[i]?=some v:=by simpa using hv1
   rw[hu] at h1;exact(U14 h1).symm
  subst ev;refine⟨.ref T,rfl,W.go es kk pos i T _ _ _ mid fun h2 st2 kk2=>?_⟩;have nT:T∉[e,it]:=W.apart i T h' mid;obtain⟨oT,eT,cT,nT',dT⟩:=id tup;have eT2:h2.get? T=some oT:=kk2 T oT nT eT;refine⟨.ref T,upd H T (.tup [.int i,x]),Inv.turnedN (s':={ s with heap:=h2,toks:=tk }) I rfl rfl (fun b u0 hb e0=>kk2 b u0 hb (kk1 b u0 hb e0)) hf hT ?_,rfl,
   ⟨T,x,rfl,I.hok.fresh hT,fun ys hy=>by rw[I.tuple_inj hy hq];exact hx,rfl⟩,⟨st2.1,st2.2.1⟩,fun b hb=>?_⟩
  ·exact⟨by show 2≤_;rw[Y14];decide,[.int i tt,v], .cons ⟨_,rfl⟩ (.cons ru .nil),oT,eT2,cT,nT',dT⟩
  ·have nb:b≠T:=fun z=>by subst z;exact nT hb
   rw[aG nb];exact(hf b hb).1
 done:=by
  intro X hP hw hK hc i pins s σ H E I hf st hg;subst hP hw hK;obtain⟨xs,hq,hx⟩:=hg;obtain⟨its,rv,p,hz⟩:=I.tuple hq;have hlen:=rv.length;have W:=V25 (nK (prog:=X.prog) (w:=X.w) (A:=X.A.in1) (I.ok.hd hc) it a hai its.toArray) e hei (by simp[hei,hea]) (by simp);have hi:i=its.toArray.size:=by rw[Y11];omega
  subst hi;refine W.done s _ _ ⟨st.1,st.2,p⟩ fun h' tk kk1=>⟨rfl,?_⟩;exact Inv.turnedF (s':={ s with heap:=h',toks:=tk }) I rfl rfl kk1 hf
 self:=fun A i s Q E st h=>by
  obtain⟨⟨old,he⟩,_⟩:=st;exact W25 he h
section
variable{X:Cx}
def iEnumT(K:Fg9)(ta:TA):TI:=fun σ H R=>ta σ H fun vs H1=>∃ a,vs=[.ref a]∧(∃ xs,SqT K H1 a xs)∧R (Itet K a) H1
theorem aBx{a:Expr}{es:List Expr}{kk:Nat}{tpos:Pos}{ta:TA}{p pos:Pos}(hg:Gl X "enumerate")(hm:X.mg "enumerate"=none)(ha:PA X [a] ta)(hs:starEach [a] X.env=[(false,eval a X.env)]:=by rfl):
  PI X (.Tuple es kk tpos) (.Call (.Name "enumerate" p) [a] [] pos) (iEnumT X.K ta):=by
 intro pins s σ H R I h;refine Call_ (gF I hg hm mP (Y16 (thn (ha pos pins s σ H _ I h) fun us s1 ⟨vs,H1,I1,r1,q1⟩=>?_) hs rfl));obtain⟨a,e,⟨xs,hq⟩,q⟩:=q1;subst e;cases r1 with
 |cons r rr=>
  cases rr;cases r;obtain⟨its,rv,pt,hz⟩:=I1.tuple hq;have hlt:a<s1.heap.objs.size:=by obtain⟨o,eo,_⟩:=pt;exact W11 eo
  refine nV pt fun h' he hit hz hk=>?_;refine W25 he ?_;have I2:Inv X pins σ H1 { s1 with heap:=h' }:=I1.kept (t':=s1.toks) hk;have fresh:∀ b,s1.heap.objs.size≤b→FpOk X pins H1 b:=fun b hb=>I1.fpOk hb (I1.hok.fresh hb);refine⟨s1.heap.objs.size+1,[s1.heap.objs.size+1,s1.heap.objs.size],_,Itet X.K a,H1,rfl,I2,wB _ _ a (Nat.succ_ne_self _) (V13 hlt) (W20 (Z21 hlt)),⟨⟨_,he⟩,hit⟩,fun b hb=>?_,q⟩;rcases W12.mp hb with rfl|hb
  ·exact fresh _ (Z37 _)
  ·rw[W15.mp hb];exact fresh _ (Y12 _)
end
end L2
end
section
namespace HT
open PySem PySem.Spec PyProof.Rows
section
variable{prog:Program}{w:World}{A:Around}{E:Value→Shared→Prop}{s:Shared}
theorem aBy(xs:Array Value):((List.range xs.size).filterMap fun(m:Nat)=>xs[(((xs.size:Int) - 1)+(m:Int) * (-1)).toNat]?).toArray=xs.toList.reverse.toArray:=by
 congr 1
 have key:∀ n,n≤xs.size→((List.range n).filterMap fun(m:Nat)=>xs[(((xs.size:Int) - 1)+(m:Int) * (-1)).toNat]?)=xs.toList.reverse.take n:=by
  intro n
  induction n with
  |zero=>intro _;rfl
  |succ n ih=>
   intro hn;rw[V28,U35,ih (by omega),List.take_add_one]
   congr 1
   have e1:(((xs.size:Int) - 1)+(n:Int) * (-1)).toNat=xs.size - 1 - n:=by omega
   have hlt:xs.size - 1 - n<xs.size:=by omega
   have e2:xs.toList.reverse[n]?=some xs[xs.size - 1 - n]:=by
    rw[Y22 (by rw[Y23];omega)];simp[hlt]
   have e3:xs[(((xs.size:Int) - 1)+(n:Int) * (-1)).toNat]?=some xs[xs.size - 1 - n]:=by rw[e1];simp[hlt]
   rw[e2];simp only[U22,List.filterMap_nil,e3,Option.toList]
 rw[key _ (Y12 _),Y35 (by simp)]
theorem mQ{sl:Addr}{t:Tok}{n:Nat}{Q:Int×Int×Nat→Shared→Prop}{os:Obj}(hos:s.heap.get? sl=some os)(hds:os.data=.fields #[.none, .none, .int (-1) t])
  (h:Q ((n:Int) - 1,-1,n) s):wpAny (model prog w) A (Builtin.Slice.sliceApplied (.ref sl) (pure (n:Int))) Q E s:=by
 unfold Builtin.Slice.sliceApplied Builtin.Slice.sliceFields;refine Y10 (Y10 (V16 hos hds (x:=.none) rfl (Y10 (V16 hos hds (x:=.none) rfl (Y10 (V16 hos hds (x:=.int (-1) t) rfl (W10 ?_)))))));refine Y10 (slicePart_int ?_);show wpAny _ _ (if((-1:Int)==0)=true then _ else _) _ _ s;rw[if_neg (by decide)];refine Y10 (slicePart_none (Y10 (slicePart_none (Y10 (W10 ?_)))));show wpAny _ _ (match Builtin.Slice.sliceAdjust none none (-1) (n:Int) with |(lo,hi)=>pure (lo,(-1:Int),Builtin.Slice.slicePlaces lo hi (-1))) _ _ s;have e1:Builtin.Slice.sliceAdjust none none (-1) (n:Int)=((n:Int) - 1,-1):=by
  unfold Builtin.Slice.sliceAdjust;simp
 rw[e1];show wpAny _ _ (pure ((n:Int) - 1,(-1:Int),Builtin.Slice.slicePlaces ((n:Int) - 1) (-1) (-1))) _ _ s;have e2:Builtin.Slice.slicePlaces ((n:Int) - 1) (-1) (-1)=n:=by
  unfold Builtin.Slice.slicePlaces;have h1:¬ ((-1:Int) > 0):=by omega
  simp only[h1,if_false,Int.neg_neg,Int.ediv_one]
  split<;>omega
 rw[e2];exact W10 h
theorem lX{t sl:Addr}{items:Array Value}{tk:Tok}{os:Obj}{Q:Value→Shared→Prop}(ht:IsTup s.heap t items)(hos:s.heap.get? sl=some os)(hcs:os.cls=.type "slice")(hds:os.data=.fields #[.none, .none, .int (-1) tk])
  (h:Q (.ref s.heap.objs.size) { s with heap:=s.heap.push { cls:=.type "tuple",data:=.seq items.toList.reverse.toArray } })
  (hsz:items.size≤sizeLine):wpAny (model prog w) A (getItem (.ref t) (.ref sl)) Q E s:=by
 have htake:sizeOk (.seq items.toList.reverse.toArray):=by
  show items.toList.reverse.toArray.size≤sizeLine;rw[Y11,V23,Y23];exact hsz
 have hTs:s.TypeIs (.ref sl) "slice":=⟨os,hos,hcs⟩;unfold getItem
 try with_reducible refine Z16 ?_
 first|refine Y10 (W10 ?_)|skip
 refine Y10 (V35 ht.typeIs (by decide) ?_);refine Y10 (U15 (name:=Str.ofString "__getitem__") ht.typeIs Z15
  (W16 Z15 ht.typeIs entry_tuple_getitem ?_ (args_tuple_getitem _ _)))
 show wpAny _ _ (Builtin.Tuple.tupleItemsOf (.ref t) >>=_) _ _ s;refine Y10 (tupleItemsOf_ ht ?_);refine Y10 (U25 hTs ?_);rw[if_pos (by decide)];refine Y10 (mQ hos hds ?_);have hno:¬ ((((items.size:Int) - 1)==0&&(-1:Int)==1&&items.size==items.size)=true):=by
  intro q;rw[Z11,Z11] at q;exact absurd q.1.2 (by decide)
 show wpAny _ _ (if(((items.size:Int) - 1)==0&&(-1:Int)==1&&items.size==items.size)=true then _ else _) _ _ s;rw[if_neg hno,aBy]
 first
  |exact Y10 (m:=Builtin.Tuple.tupleExact _) (W14 (W10 ⟨_,rfl,W10 h⟩) htake)
  |exact Y10 (m:=Builtin.Tuple.tupleExact _) (W14 (Y10 (W10 (W10 ⟨_,rfl,W10 h⟩))) htake)
  |exact Y10 (Y10 (m:=Builtin.Tuple.tupleExact _) (W14 (W10 (W10 ⟨_,rfl,W10 h⟩)) htake))
  |exact Y10 (Y10 (m:=Builtin.Tuple.tupleExact _) (W14 (W10 ⟨_,rfl,W10 h⟩) htake))
end
end HT
namespace L2
open PySem PySem.Spec PyProof.Rows
section
variable{X:Cx}
theorem oX:∀ {xs:List V} {us:List Value},Vals xs us→Vals xs.reverse us.reverse
 |_,_, .nil=>.nil
 |_,_, .cons r1 r2=>by rw[List.reverse_cons,List.reverse_cons];exact(oX r2).append (.cons r1 .nil)
def tRev(te ts:TE):TE:=fun σ H Q=>te σ H fun x H1=>ts σ H1 fun y H2=>y=.int (-1)∧∃ a xs,x=.ref a∧H2 a=some (.tup xs)∧∀ p,H2 p=none→Q (.ref p) (upd H2 p (.tup xs.reverse))
theorem aGv{e st:Expr}{te ts:TE}{pos p2:Pos}(he:PE X e te)(hs:PE X st ts):PE X (.Subscript e (.Slice none none (some st) p2) pos) (tRev te ts):=by
 intro pins s σ H Q I h;refine Subscript_ (thn (he pins s σ H _ I h) fun v s1 ⟨x,H1,I1,r1,q1⟩=>?_);refine wpAny_Slice ?_;rw[Y37];refine W10 (W10 ?_);rw[evalPart_some];refine thn (hs pins s1 σ H1 _ I1 q1) fun vs s2 ⟨y,H2,I2,r2,ey,q2⟩=>?_;subst ey;obtain⟨tk,rfl⟩:=r2;obtain⟨a,xs,rfl,hx,q⟩:=q2;cases r1;have I4:Inv X pins σ H2 { s2 with heap:=s2.heap.push { cls:=.type "slice",data:=.fields #[.none, .none, .int (-1) tk] } }:=I2.kept (t':=s2.toks) fun b ob q=>V10 _ q;obtain⟨its,r,ht,hz⟩:=I4.tuple (SqT.of hx);have hlen:its.toArray.size=xs.length:=by rw[Y11];exact r.length.symm
 show wpAny (model X.prog X.w) X.A (subscriptTail e (.Slice none none (some st) p2) (.ref a) (.ref s2.heap.objs.size)) (EP X pins σ Q) X.xe { s2 with heap:=s2.heap.push { cls:=.type "slice",data:=.fields #[.none, .none, .int (-1) tk] } };refine tail_any (ops:=[.ref a, .ref s2.heap.objs.size]) ht.typeIs Z15.lookup ?_ (by with_unfolding_all rfl);refine HT.lX ht (V11 _ rfl) rfl rfl ?_ (by rw[hlen];exact hz);have hrv:Vals xs.reverse its.reverse:=oX r;have ear:its.toArray.toList.reverse.toArray=its.reverse.toArray:=by simp
 rw[ear];refine⟨.ref _,_,I4.laid (t':=s2.toks) (o:=.tup xs.reverse) (fun b ob q=>V10 _ q) (Y12 _) ?_,rfl,q _ (I4.hok.fresh (Y12 _))⟩;exact⟨by rw[V23];exact hz,_,hrv,IsTup.new _ _⟩
end
theorem lK{prog:Program}{w:World}{A:Around}{R:Result→Shared→Prop}{s:Shared}{elt target iter:Expr}{ifs:List Expr}{scope:Scope}{pos:Pos}{it acc:Value}{env:Env}(I:Nat→Shared→Prop)
  (turn:∀ n s,I n s→wpAny (model prog w) A (pyNext it) (fun r s1=>match r with
   |none=>R (.ok .next) s1
   |some v=>wpAny (model prog w) A (letOwnedTupleGo target it v) (fun _ s2=>wpAny (model prog w) A (assign target env v) (fun _ s3=>
     wpAny (model prog w) A (forIn ifs true fun c r=>if r=true then(isTrue c env (eval c env) >>=fun ok=>pure (ForInStep.yield ok)) else pure (ForInStep.yield r)) (fun ok s4=>
      if ok=true then wpAny (model prog w) A (eval elt env) (fun x s5=>wpAny (model prog w) A (call (.builtin "list.append") [acc,x]) (fun _ s6=>∃ m,m<n∧I m s6) (fun _ _=>False) s5) (fun _ _=>False) s4
      else ∃ m,m<n∧I m s4) (fun _ _=>False) s3) (fun _ _=>False) s2) (fun _ _=>False) s1) (fun _ _=>False) s)
  (n:Nat)(h:I n s):codeAny (model prog w) A (.compLoop (.ListComp elt [⟨target,iter,ifs,0⟩] scope pos) 0 it acc env) R s:=by
 refine codeAny_loop rfl I (fun n s hI=>?_) n h;change wpAny _ A ((compTurn (.ListComp elt [⟨target,iter,ifs,0⟩] scope pos) 0 it acc env).onRaise (fun x=>do noteFrame x env;theTreesLotGoes x)) _ _ s;refine wpAny_noted ?_;rw[compTurn_list];refine Y10 (Z32 (Y10 (W22 (turn n s hI) (fun r s1 h1=>?_) fun _ _ z=>z.elim)));cases r with
 |none=>exact W10 h1
 |some v=>
  refine Y10 (W22 h1 (fun _ s2 h2=>?_) fun _ _ z=>z.elim);refine Y10 (W22 h2 (fun _ s3 h3=>?_) fun _ _ z=>z.elim);refine Y10 (W22 h3 (fun ok s4 h4=>?_) fun _ _ z=>z.elim);cases ok with
  |false=>exact W10 ⟨rfl,h4⟩
  |true=>
   refine Y10 (Y10 (W22 h4 (fun x s5 h5=>?_) fun _ _ z=>z.elim));exact Y10 (W22 h5 (fun _ s6 h6=>W10 (W10 ⟨rfl,h6⟩)) fun _ _ z=>z.elim)
def PF(X:Cx)(ifs:List Expr)(t:TT):Prop:=∀ (pins:List (Addr×Obj)) (s:Shared) (σ:St) (H:Hp) (Q:Bool→Hp→Prop),Inv X pins σ H s→t σ H Q→
 wpAny (model X.prog X.w) X.A (forIn ifs true fun c r=>if r=true then(isTrue c X.env (eval c X.env) >>=fun ok=>pure (ForInStep.yield ok)) else pure (ForInStep.yield r)) (TP X pins σ Q) X.xe s
theorem aGw{X:Cx}:PF X [] (fun _ H Q=>Q true H):=fun pins s σ H Q I h=>W10 ⟨H,I,h⟩
theorem aGx{X:Cx}{c:Expr}{t:TT}(h:PT X c t):PF X [c] t:=fun pins s σ H Q I q=>by
 change wpAny _ _ ((if true=true then(isTrue c X.env (eval c X.env) >>=fun ok=>pure (ForInStep.yield ok)) else pure (ForInStep.yield true)) >>=_) _ _ s;rw[if_pos rfl];refine Y10 (Y10 (thn (h pins s σ H Q I q) fun ok s1 h1=>W10 ?_));exact W10 h1
abbrev nones(k:Nat):St:=List.replicate k none
def tCompG(k:Nat)(caps:List Nat)(wi:TI)(g:TG)(tc:TT)(te:TE):TE:=fun σ H Q=>wi σ H fun J H1=>∃ (n:Nat) (W:Nat→List V→Hp→Prop),n<sizeLine∧W 0 [] H1∧∀ i zs H,W i zs H→
 (J.stop i H∧∀ p,H p=none→Q (.ref p) (upd H p (.lst zs)))∨(J.go i H∧i<n∧∀ x H',J.yld i H x H'→∃ vs:List V,vs.length=k∧(g x (nones k++capsOf caps σ) H' fun σ' H''=>σ'=vs.map some++capsOf caps σ∧H''=H')∧
  tc (vs.map some++capsOf caps σ) H' fun b H2=>if b=true then te (vs.map some++capsOf caps σ) H2 fun z H3=>W (i+1) (zs++[z]) H3 else W (i+1) zs H2)
theorem pgc{X:Cx}{xs cn:List Str}{scope:Scope}{cl:List (Str×Addr)}{C:Addr}{ex:List Addr}{s:Shared}{H:Hp}{i:Nat}{x:Str}{pos:Pos}(nd:(xs++cn).Nodup)(hi:(xs++cn)[i]?=some x)(hx:scope.names.lookup x=some .local):PG (cxComp X (xs++cn) scope cl C ex s H) (.Name x pos) (gName i):=
 xM (i:=i) nd hi (.inl (lookup_relabel_local hx)) (.inr (lookup_relabel_local hx))
section
variable{X:Cx}
theorem aBz{elt iter tg:Expr}{ifs:List Expr}{x:Str}{xs:List Str}{pos:Pos}{scope:Scope}{cl:List (Str×Addr)}{cn:List Str}{caps:List Nat}{wi:TI}{g:TG}{tc:TT}{te:TE}
  (hc:X.calm=true)(hi:PI X tg iter wi)(cp:Caps X scope x cl cn caps)(hg:∀ C ex s H,PG (cxComp X (xs++cn) scope cl C ex s H) tg g)(hif:∀ C ex s H,PF (cxComp X (xs++cn) scope cl C ex s H) ifs tc)
  (he:∀ C ex s H,PE (cxComp X (xs++cn) scope cl C ex s H) elt te)
  (hs:∀ x,foldedSetIterable iter X.env x=pure x:=by intro _;rfl):
  PE X (.ListComp elt [⟨tg,iter,ifs,0⟩] scope pos) (tCompG xs.length caps wi g tc te):=by
 intro pins s σ H Q I h;rw[eval_ListComp];refine wpAny_comprehension_free (use:=none) rfl hs cp.clos cp.kind cp.names (thn (hi pins s σ H _ I h) fun v s1 h1=>thn h1 fun itv s2 h2=>?_);obtain⟨it,fp,tn,J,H2,e,I2,T,st2,f2,n,W,hn,w0,turn⟩:=h2;subst e;refine W14 (wpAny_newFunctionEnv cp.cell (by intro y hy;simp at hy) (fun h₁ hns₁ hsb₁=>?_) cp.kind);dsimp only at hns₁ hsb₁ ⊢;generalize hG:s2.heap.push { cls:=.type "list",dict:=none,data:=.seq ([]:List Value).toArray }=G at hns₁ hsb₁ ⊢;have hC:G.objs.size=s2.heap.objs.size+1:=by rw[← hG,Y17]
 generalize hCe:G.objs.size=C at hns₁ hsb₁ hC ⊢;generalize hDe:s2.heap.objs.size=D at hC ⊢;have hDC:D≠C:=by rw[hC];exact V13 (V30 _)
 have below:∀ b,b<D→b≠C∧b≠D:=fun b hb=>⟨by rw[hC];exact V13 (Z21 hb),V13 hb⟩;have old:∀ b o,s2.heap.get? b=some o→h₁.get? b=some o:=fun b o e=>hsb₁.extBut b o (below b (hDe ▸ W11 e)).1 (V10 _ (hG ▸ V10 _ e));have hacc:h₁.get? D=some (listO [] 0):=hsb₁.extBut _ _ hDC (V10 _ (by rw[← hG,← hDe];exact V11 _ rfl));have fpl:∀ b∈fp,b<D:=fun b hb=>by
  obtain⟨o,e,_⟩:=T.obj _ _ st2 b hb;exact hDe ▸ W11 e
 have hDs:s2.heap.objs.size≤D:=Nat.le_of_eq hDe;have hCs:s2.heap.objs.size≤C:=by omega
 have fsN:∀ {b},b≠X.env.locals→b∉X.fs→b∉frs X.stack:=fun {b} h1 h2 z=>(W12.mp (I2.stkSub b z)).elim h1 h2;have big:∀ {a},s2.heap.objs.size≤a→a∉frs X.stack:=fun {a} ha=>fsN (W20 (U12 I2.lt ha)) (I2.nofs ha);have cellLt:∀ y c,cl.lookup y=some c→c<D:=fun y c e=>by
  obtain⟨v,q⟩:=I2.cell y c (cp.sub y c e);exact hDe ▸ q.lt
 have ok:(cxComp X (xs++cn) scope cl C fp s2 H2).Ok:=by
  refine⟨I2.ok.mod,cp.kind,I2.ok.glob,I2.ok.blt,hCs,fun y z c h1 h2=>I2.ok.inj y z c (cp.sub y c h1) (cp.sub z c h2),fun y hy=>cp.has y hy,fun y c hf=>(by cases hf),I2.ok.hd,I2.ok.frames, .inl rfl,fun b hb=>?_,I2.bs,Z17 I2.ok.bsz I2.sz,fun b o e hb=>?_,fun b hb=>?_,I2.stack,I2.stkFree⟩
  ·exact⟨(below b (fpl b hb)).1,fun y c e=>(f2 b hb).2.2.2.2.1 y c (cp.sub y c e)⟩
  ·obtain⟨_,_,_,q,_⟩:=f2 b hb;rcases q with q|q
   ·exact I2.ok.noex b o e q
   ·exact absurd (U12 (W11 (I2.ok.bs b o e).1) q) (V17 _)
  ·exact fsN (f2 b hb).2.1 (f2 b hb).2.2.1
 have stat:∀ {us:List Value} {nn:Nat} {H':Hp},(∀ b∈fp,H' b=none)→∀ b∈fp,FpOk (cxComp X (xs++cn) scope cl C fp s2 H2) [(D,listO us nn)] H' b:=fun {us nn H'} hn b hb=>
  ⟨hn b hb,(below b (fpl b hb)).1,fsN (f2 b hb).2.1 (f2 b hb).2.2.1, .inl hb,fun y c e=>(f2 b hb).2.2.2.2.1 y c (cp.sub y c e),fun p hp=>by
   obtain rfl:p=(D,listO us nn):=by simpa[cxComp] using hp
   exact(below b (fpl b hb)).2.symm⟩
 have pinD:∀ {σ':St} {H':Hp} {s':Shared} {us:List Value} {nn:Nat},Inv (cxComp X (xs++cn) scope cl C fp s2 H2) [] σ' H' s'→H' D=none→s'.heap.get? D=some (listO us nn)→Inv (cxComp X (xs++cn) scope cl C fp s2 H2) [(D,listO us nn)] σ' H' s':=fun {σ' H' s' us nn} J hn e=>
  J.pins_of fun p hp=>by
   obtain rfl:p=(D,listO us nn):=by simpa using hp
   exact⟨e,hn,hDC,big hDs,fun v z=>by cases z⟩
 have I4:∀ tk,Inv (cxComp X (xs++cn) scope cl C fp s2 H2) [] (nones xs.length++capsOf caps σ) H2 { s2 with heap:=h₁,toks:=tk }:=fun tk=>by
  refine⟨ok,rfl,I2.bare,Un.kept old,⟨_,hns₁,fun i y v h1 h2 h3=>?_⟩,fun y c e=>?_,I2.hok.fresh hCs,fun y c e=>I2.freeC y c (cp.sub y c e),fun p hp=>absurd (show p∈([]:List (Addr×Obj)) from hp) (by simp),I2.hok.kept old,?_⟩
  ·have hik:xs.length≤i:=by
    rcases Nat.lt_or_ge i xs.length with hlt|hge
    ·rw[Y15 (by simpa using hlt),V20,if_pos hlt] at h2;cases h2
    ·exact hge
   obtain⟨k,rfl⟩:∃ k,i=xs.length+k:=⟨i - xs.length,by omega⟩
   ·have h1':cn[k]?=some y:=by
     have q:(xs++cn)[xs.length+k]?=some y:=h1
     rwa [W13 (by omega),V26] at q
    obtain⟨j,ej,eN,vis,kd,kd'⟩:=cp.cap k y h1';have h2':σ[j]?=some (some v):=by
     have q:(capsOf caps σ)[k]?=some (some v):=by
      rwa [W13 (by simp),Z24,V26] at h2
     unfold capsOf at q;rw[Z13,ej] at q;have q':(σ[j]?).getD none=some v:=by simpa using q
     cases eσ:σ[j]? with
     |none=>rw[eσ] at q';cases q'
     |some z=>rw[eσ] at q';rw[show z=some v from q']
    obtain⟨m,hm,hl⟩:=I2.loc;obtain⟨u,ru,lk⟩:=hl j y v eN h2' vis;refine⟨u,ru,?_⟩;obtain⟨c,ec⟩:=cp.has y kd';rcases lk with⟨k1,_⟩|⟨_,c',ec',z⟩
    ·rcases kd with kd|kd<;>(rw[kd] at k1;cases k1)
    ·have:c=c':=U14 ((cp.sub y c ec).symm.trans ec');subst this;obtain⟨o,ho,hd⟩:=z;exact .inr ⟨kd',c,ec,⟨o,old c o ho,hd⟩⟩
  ·obtain⟨v,o,ho,hd⟩:=I2.cell y c (cp.sub y c e);exact⟨v,o,old c o ho,hd⟩
  ·show _=(xs++cn).length;simp[capsOf,cp.len]
 have loop:∀ s₃:Shared,Inv (cxComp X (xs++cn) scope cl C fp s2 H2) [] (nones xs.length++capsOf caps σ) H2 s₃→s₃.heap.get? D=some (listO [] 0)→tn 0 s₃.heap→
   codeAny (model X.prog X.w) X.A (.compLoop (.ListComp elt [⟨tg,iter,ifs,0⟩] scope pos) 0 (.ref it) (.ref D) (compEnvC scope cl C X.env))
    (compPost (model X.prog X.w) X.A X.xe none (EP X pins σ Q) (.ref D) C) s₃:=by
  intro s₃ I3 e3 t3;refine lK (fun k s'=>∃ (i:Nat) (zs:List V) (us:List Value) (nn:Nat) (H':Hp),k=n+1 - i∧i≤n∧Inv (cxComp X (xs++cn) scope cl C fp s2 H2) [(D,listO us nn)] (nones xs.length++capsOf caps σ) H' s'∧tn i s'.heap∧(∀ b∈fp,H' b=none)∧W i zs H'∧Vals zs us∧zs.length≤i) ?_ (n+1)
   ⟨0,[],[],0,H2,rfl,Z23 _,pinD I3 (I2.hok.fresh hDs) e3,t3,fun b hb=>(f2 b hb).1,w0, .nil,Y12 _⟩
  rintro k s' ⟨i,zs,us,nn,H',rfl,hin,I',st',fr',w',vs',hl⟩;have pD:=I'.pin (D,listO us nn) (U11 _ (by simp));rcases turn i zs H' w' with⟨stop,fin⟩|⟨go,hlt,step⟩
  ·refine thn (T.done (cxComp X (xs++cn) scope cl C fp s2 H2) rfl rfl rfl hc i _ s' _ H' (fun _ _=>False) I' (stat fr') st' stop) fun r s4 ⟨hr,I4'⟩=>?_;subst hr;obtain⟨m,hm,_⟩:=id I4'.loc;refine⟨m,hm,fun h' hs'=>?_⟩;obtain⟨e4,n4,_,_,_⟩:=I4'.pin (D,listO us nn) (U11 _ (by simp));have e4:s4.heap.get? D=some (listO us nn):=e4;have n4:H' D=none:=n4;have nC:H' C=none:=I4'.free;have kk:∀ b o,b≠C→s4.heap.get? b=some o→h'.get? b=some o:=fun b o hb e=>(hs'.2 b hb).trans e;have un:Un (frs X.stack) fp H2 (upd H' D (.lst zs)) s2.heap h':=by
    have u:=I4'.base;have ne:∀ b o,s2.heap.get? b=some o→b≠C∧b≠D:=fun b o e=>below b (hDe ▸ W11 e);refine⟨fun b o e n0 hb hx=>kk b o (ne b o e).1 (u.keep b o e n0 hb hx),fun b o e n0 hb hx=>?_,fun b o e n0 hx=>?_,fun b o e hx=>?_,fun b xs e=>?_,fun b o xs e=>?_,fun b ps e=>?_⟩
    ·obtain⟨sl,q⟩:=u.slot b o e n0 hb hx;exact⟨sl,kk b _ (ne b o e).1 q⟩
    ·rw[aG (ne b o e).2];exact u.free b o e n0 hx
    ·obtain⟨o',q⟩:=u.there b o e hx;exact⟨o',kk b _ (ne b o e).1 q⟩
    ·have q:=u.tups b xs e;rw[aG (aH q n4)];exact q
    ·have q:=u.frzs b o xs e;rw[aG (aH q n4)];exact q
    ·obtain⟨more,q⟩:=u.tbls b ps e;exact⟨more,by rw[aG (aH q n4)];exact q⟩
   have hokD:HOk X.prog X.w (upd H' D (.lst zs)) h':=fun b o e=>by
    by_cases hb:b=D
    ·subst hb;rw[bI] at e;cases e;exact⟨by omega,us,nn,vs',kk _ _ hDC e4⟩
    ·rw[aG hb] at e;refine(I4'.hok b o e).stay (fun c v hcc q=>kk c v ?_ q) (fun c q=>?_) fun c xs q=>?_
     ·rintro rfl;rcases hcc with z|z
      ·rw[← z,nC] at e;cases e
      ·rw[nC] at z;cases z
     ·rw[aG (aH q n4)];exact q
     ·rw[aG (aH q n4)];exact q
   obtain⟨hh,gg,dd,tt,oo⟩:=s4;obtain rfl:oo=s2.os:=I4'.os;refine⟨.ref D,upd H' D (.lst zs),?_,rfl,fin D n4⟩;have fin1:=I2.call (h':=h') (g':=gg) (d':=dd) (t':=tt) (ch:=fp) un hokD I4'.bare fun b hb=>⟨(f2 b hb).2.2.2.1,(f2 b hb).2.1,(f2 b hb).2.2.2.2.1,(f2 b hb).2.2.2.2.2⟩;exact fin1
  ·refine thn (T.item (cxComp X (xs++cn) scope cl C fp s2 H2) rfl rfl rfl hc i _ s' _ H' (fun _ _=>False) I' (stat fr') st' go) fun r s4 ⟨u,hr,h4⟩=>?_;subst hr;refine thn h4 fun _ s5 ⟨y,H5,I5,r5,y5,st5,fr5⟩=>?_;have I5':=I5.pinned (stat fr5) (T.obj _ _ st5);obtain⟨vs,hvl,hgs,step5⟩:=step y H5 y5;refine thn (hg C fp s2 H2 _ s5 _ H5 y u _ I5' r5 hgs) fun _ s6 ⟨σ6,H6,I6,q6,q6'⟩=>?_;subst q6;subst q6';have wk:∀ {H8:Hp} {s8:Shared} {pp:List (Addr×Obj)},Inv (cxComp X (xs++cn) scope cl C fp s2 H2) pp (vs.map some++capsOf caps σ) H8 s8→Inv (cxComp X (xs++cn) scope cl C fp s2 H2) pp (nones xs.length++capsOf caps σ) H8 s8:=fun {H8 s8 pp} J8=>by
    refine J8.weak (by simp[hvl]) fun j v e=>?_;rcases Nat.lt_or_ge j xs.length with hlt|hge
    ·rw[Y15 (by simpa using hlt),V20,if_pos hlt] at e;cases e
    ·rw[W13 (by simpa using hge),Z24] at e;rw[W13 (by simpa[hvl] using hge),U16,hvl];exact e
   refine thn (hif C fp s2 H2 _ s6 _ H6 _ I6 step5) fun ok s6' ⟨H6',I6',q6'⟩=>?_;cases ok with
   |false=>
    obtain⟨e7,n7,_,_,_⟩:=I6'.pin (D,listO us nn) (U11 _ (V22 _ (by simp)));refine⟨n+1 - (i+1),by omega,i+1,zs,us,nn,H6',rfl,hlt,?_,?_,fun b hb=>?_,q6',vs',by omega⟩
    ·exact pinD (wk (I6'.pins_of fun p hp=>absurd hp (by simp))) n7 e7
    ·refine T.keep _ _ _ st5 fun b hb o e=>(I6'.pin (b,o) (U11 _ (U11 _ (bY hb e)))).1
    ·obtain⟨o,e,d⟩:=T.obj _ _ st5 b hb;exact(I6'.pin (b,o) (U11 _ (U11 _ (bY hb e)))).2.1
   |true=>
    refine thn (he C fp s2 H2 _ s6' _ H6' _ I6' q6') fun v7 s7 ⟨z,H7,I7,r7,w7⟩=>?_;obtain⟨e7,n7,_,_,_⟩:=I7.pin (D,listO us nn) (U11 _ (V22 _ (by simp)));have e7:s7.heap.get? D=some (listO us nn):=e7;have n7:H7 D=none:=n7;have hul:us.length≤i:=by rw[← vs'.length];exact hl
    refine wpAny_list_append_plain (hsz:=by rw[Y11];omega) ⟨nn,e7⟩ fun h8 p8 sb8=>?_;obtain⟨n8,e8⟩:=p8;have e8:h8.get? D=some (listO (us++[v7]) n8):=by rw[e8];simp[listO]
    have I8:Inv (cxComp X (xs++cn) scope cl C fp s2 H2) [] (vs.map some++capsOf caps σ) H7 { s7 with heap:=h8 }:=
     Inv.turned (t':=s7.toks) (I7.pins_of fun p hp=>absurd hp (by simp)) (fun b o hb e=>(sb8.2 b hb).trans e) n7 hDC (.inr hDs) (fun y' c e=>V13 (cellLt y' c e)) fun p hp=>absurd (show p∈([]:List (Addr×Obj)) from hp) (by simp)
    refine⟨n+1 - (i+1),by omega,i+1,zs++[z],us++[v7],n8,H7,rfl,hlt,?_,?_,fun b hb=>?_,w7,vs'.append (.cons r7 .nil),by rw[Y13];show zs.length+1≤i+1;omega⟩
    ·exact pinD (wk I8) n7 e8
    ·refine T.keep _ _ _ st5 fun b hb o e=>(sb8.2 b (below b (fpl b hb)).2).trans (I7.pin (b,o) (U11 _ (U11 _ (bY hb e)))).1
    ·obtain⟨o,e,d⟩:=T.obj _ _ st5 b hb;exact(I7.pin (b,o) (U11 _ (U11 _ (bY hb e)))).2.1
 have t4:tn 0 h₁:=T.keep _ _ _ st2 fun b hb o e=>old b o e;refine codeAny_compStart_list (loop _ (I4 _) hacc t4) (T.self _ 0 _ _ _ t4 (loop _ (I4 _) hacc t4))
end
end L2
end
section
namespace ZPT
open PySem PySem.Spec PyProof.Rows L2
structure ZS (h:Heap) (z TI TO i1 i2 t1 t2:Addr) (k:Nat):Prop where
 z:∃ f0 f1,h.get? z=some { cls:=.type "zip",dict:=none,data:=.fields #[f0, .bool f1, .bool false, .ref TI, .ref TO],slots:=#[] }∧(f0=.none∨∃ T o,f0=rawInt (T:Nat)∧h.get? T=some o)
 ti:IsPair h TI (.ref i1) (.ref i2)
 to:∃ a b,IsPair h TO a b
 n1:h.IsTupleIter i1 t1 k
 n2:h.IsTupleIter i2 t2 k
structure Ap (z TI TO i1 i2 t1 t2:Addr):Prop where
 a1:TI≠z
 a2:TO≠z
 a3:i1≠z
 a4:i2≠z
 a5:TI≠TO
 a6:TI≠i1
 a7:TI≠i2
 a8:TO≠i1
 a9:TO≠i2
 b1:i1≠i2
 b2:t1≠z
 b3:t1≠TO
 b4:t1≠i1
 b5:t1≠i2
 b6:t2≠z
 b7:t2≠TO
 b8:t2≠i1
 b9:t2≠i2
theorem kX{h h':Heap}{t c:Addr}{xs:Array Value}(x:h.IsTuple t xs)(s:Heap.SameBut c h h')(n:t≠c):h'.IsTuple t xs:=x.extBut s.extBut n
theorem gG{h h':Heap}{i t c:Addr}{k:Nat}(x:h.IsTupleIter i t k)(s:Heap.SameBut c h h')(n:i≠c):h'.IsTupleIter i t k:=by
 obtain⟨o,e,r⟩:=x;exact⟨o,s.extBut _ _ n e,r⟩
theorem it_push{h:Heap}{i t:Addr}{k:Nat}{o:Obj}(x:h.IsTupleIter i t k):(h.push o).IsTupleIter i t k:=by
 obtain⟨o',e,r⟩:=x;exact⟨o',V10 _ e,r⟩
section
variable{prog:Program}{w:World}{A:Around}{E:Value→Shared→Prop}{s:Shared}{z TI TO i1 i2 t1 t2:Addr}{k:Nat}{xs ys:Array Value}
set_option maxHeartbeats 2000000 in
theorem stop{Q:Option Value→Shared→Prop}(hh:A.handled=none)(D:Ap z TI TO i1 i2 t1 t2)(Z:ZS s.heap z TI TO i1 i2 t1 t2 k)(h1:s.heap.IsTuple t1 xs)(hx:xs[k]?=none)
  (g:∀ h',(∀ c o,c≠z→c≠TO→c≠i1→c≠i2→s.heap.get? c=some o→h'.get? c=some o)→Q none { s with heap:=h' }):wpAny (model prog w) A (pyNext (.ref z)) Q E s:=by
 obtain⟨⟨f0,f1,hz,hf⟩,hti,⟨a,b,hto⟩,hn1,hn2⟩:=Z;have hT:s.TypeIs (.ref z) "zip":=⟨_,hz,rfl⟩;have fin:∀ (h':Heap) (e:Addr),(∀ c o,c≠z→c≠TO→c≠i1→c≠i2→s.heap.get? c=some o→h'.get? c=some o)→(∃ o,h'.get? e=some o∧o.cls=.type "StopIteration")→
   wpAny (model prog w) A (isInstance (.ref e) (.type "StopIteration") >>=fun r=>if r=true then pure none else throw (.ref e)) Q E { s with heap:=h' }:=fun h' e hk ⟨o,ho,hc⟩=>by
  refine Y10 ?_;refine W30 (T:="StopIteration") (b:=true) ⟨o,ho,hc⟩ isSubtype_stop ?_;exact W10 (g _ hk)
 unfold pyNext;refine Y10 (wpAny_attempt (U15 (name:=Str.ofString "__next__") hT Z33 ?_));refine W16 Z33 hT F.entry_zip_next ?_ (F.args_zip_next_1 _);change wpAny _ _ (field (.ref z) 2 >>=_) _ _ _;refine Y10 (V16 hz rfl (x:=.bool false) rfl ?_);change wpAny _ _ (field (.ref z) 3 >>=_) _ _ _;refine Y10 (V16 hz rfl (x:=.ref TI) rfl ?_);refine Y10 (W21 hti rfl ?_);change wpAny _ _ (Builtin.SmallTypes.ownedTupleIsFree (.ref z) >>=_) _ _ _;refine Y10 ?_;unfold Builtin.SmallTypes.ownedTupleIsFree;rcases hf with rfl|⟨T,oT,rfl,hTo⟩
 ·refine Y10 (V16 hz rfl (x:=.none) rfl ?_);refine W10 ?_;simp only[if_true];refine Y10 (Z35 ?_);refine Y10 (V16 hz rfl (x:=.ref TO) rfl ?_);refine Y10 (Z22 hz (by simp) fun g1 z1 b1=>?_);refine Y10 ?_;simp only[List.zipIdx_cons,List.zipIdx_nil,V33,List.forIn_nil];refine Y10 (Y10 (wpAny_onRaise ?_));change wpAny _ _ (Builtin.SmallTypes.nextOf (.ref i1) >>=_) _ _ _;refine Y10 (dE (A:=A.in1) hh (gG hn1 b1 D.a3) (kX h1 b1 D.b2) hx fun g2 e b2 he=>?_);obtain⟨oe,hoe,hce⟩:=he;have z2:=b2 _ _ D.a3.symm z1;have hez:e≠z:=fun q=>by
   subst q;rw[z2] at hoe;cases hoe;simp at hce
  refine Z22 z2 (by simp) fun g3 _ b3=>?_;exact fin g3 e (fun c o c1 _ c3 _ q=>b3.extBut _ _ c1 (b2 _ _ c3 (b1.extBut _ _ c1 q))) ⟨oe,b3.extBut _ _ hez hoe,hce⟩
 ·refine Y10 (V16 hz rfl (x:=rawInt (T:Nat)) rfl ?_);change wpAny _ _ (loadIfAlive (Int.toNat (T:Nat)) >>=_) _ _ _;refine Y10 ?_;rw[V29];refine(fun Γ p hΓ=>?_:wpAny _ _ (loadIfAlive T) _ _ _);change PySem.Sem.wp _ Γ (.loadIfAlive T .pure) _ _ p s;rw[PySem.Sem.wp_loadIfAlive,hTo];refine(?_:wpAny (model prog w) A.in1 (pure (some oT)) _ _ s) Γ p hΓ;refine W10 ?_;simp only[Option.isNone_some,Z27,if_false];refine Y10 (V16 hz rfl (x:=.bool f1) rfl ?_);cases f1 with
  |true=>
   rw[if_neg (by decide)];refine W10 ?_;simp only[Z27,if_false];simp only[← Array.forIn_toList,V33,List.forIn_nil];refine Y10 (Y10 (Y10 (Z16 ?_)));change wpAny _ _ (Builtin.SmallTypes.nextOf (.ref i1) >>=_) _ _ _;refine Y10 (dE (A:=A.in1) hh hn1 h1 hx fun g2 e b2 he=>?_);exact fin g2 e (fun c o _ _ c3 _ q=>b2 _ _ c3 q) he
  |false=>
   rw[if_pos (by decide)];refine Y10 (Z22 hz (by simp) fun g1 z1 b1=>W10 ?_);simp only[Z27,if_false];simp only[← Array.forIn_toList,V33,List.forIn_nil];refine Y10 (Y10 (Y10 (Z16 ?_)));change wpAny _ _ (Builtin.SmallTypes.nextOf (.ref i1) >>=_) _ _ _;refine Y10 (dE (A:=A.in1) hh (gG hn1 b1 D.a3) (kX h1 b1 D.b2) hx fun g2 e b2 he=>?_);exact fin g2 e (fun c o c1 _ c3 _ q=>b2 _ _ c3 (b1.extBut _ _ c1 q)) he
end
noncomputable abbrev tIt(t:Addr):Obj:={ cls:=.type "tuple_iterator",data:=.fields #[.ref t, .int 0 0] }
noncomputable abbrev q1(h:Heap)(a:Addr):Heap:=h.push (tIt a)
noncomputable abbrev q2(h:Heap)(a b:Addr):Heap:=(q1 h a).push (tIt b)
noncomputable abbrev q3(h:Heap)(a b:Addr):Heap:=(q2 h a b).push { cls:=.type "tuple",data:=.seq #[.ref h.objs.size, .ref (q1 h a).objs.size] }
noncomputable abbrev q4(h:Heap)(a b:Addr):Heap:=(q3 h a b).push { cls:=.type "tuple",data:=.seq #[.none, .none] }
noncomputable abbrev q5(h:Heap)(a b:Addr):Heap:=(q4 h a b).push { cls:=.type "zip",data:=.fields #[.none, .bool false, .bool false, .ref (q2 h a b).objs.size, .ref (q3 h a b).objs.size] }
theorem meets_new(a b:Addr)(xs ys:Array Value):Meets (Builtin.«zip.__new__» ⟨[.type "zip", .ref a, .ref b],[]⟩) (fun _ R s=>s.heap.IsTuple a xs∧s.heap.IsTuple b ys∧R (.ok (.ret (.ref (q4 s.heap a b).objs.size))) { s with heap:=q5 s.heap a b }):=
 .of_wp fun prog w A R s h=>by
  obtain⟨hp,g,d,tk,os⟩:=s;obtain⟨ha,hb,h⟩:=h;have hsub:=sub_zip;have hA:Heap.IsTuple (Shared.heap ⟨hp,g,d,tk,os⟩) a xs:=ha;have hB:Heap.IsTuple (Shared.heap ⟨hp.push (tIt a),g,d,tk,os⟩) b ys:=by
   obtain⟨o,e,r⟩:=hb;exact⟨o,V10 _ e,r⟩
  wp_walk using Y24 hA,Y24 hB
  exact⟨_,rfl,h⟩
theorem aGy{n t1 t2:Nat}(h1:t1<n)(h2:t2<n):Ap (n+4) (n+2) (n+3) n (n+1) t1 t2:=by
 constructor
 all_goals (intro e;have e':(_:Nat)=_:=e;omega)
section
variable{prog:Program}{w:World}{A:Around}{E:Value→Shared→Prop}{s:Shared}
theorem iterZ{z TI TO i1 i2 t1 t2:Addr}{k:Nat}{Q:Value→Shared→Prop}(Z:ZS s.heap z TI TO i1 i2 t1 t2 k)(g:Q (.ref z) s):wpAny (model prog w) A (pyIter (.ref z)) Q E s:=by
 obtain⟨f0,f1,hz,_⟩:=Z.z;have hT:s.TypeIs (.ref z) "zip":=⟨_,hz,rfl⟩;refine wpAny_pyIter_slot hT F.slot_zip_iter ?_;refine W16 F.slot_zip_iter hT F.entry_zip_iter ?_ (F.args_zip_iter_1 _);change wpAny _ _ (ret (.ref z)) _ _ s;exact W10 ⟨_,rfl,"zip",_,hT,Z33.lookup,g⟩
end
end ZPT
namespace L2
open PySem PySem.Spec PyProof.Rows
section
variable{X:Cx}{pins:List (Addr×Obj)}{σ:St}
theorem bootZ:bootBuiltins "zip"=some (.type "zip"):=by decide +kernel
theorem bootL:bootBuiltins "list"=some (.type "list"):=by decide +kernel
end
section
variable{X:Cx}
theorem xR{vs:List V}{us:List Value}(r:Vals vs us){j:Nat}(h:j<us.length):∃ (hv:j<vs.length),RelV vs[j] us[j]:=by
 have hl:=r.length;have hv:j<vs.length:=by omega
 obtain⟨u,hu,ru⟩:=r.get (i:=j) (x:=vs[j]) (by simp[hv]);have:us[j]=u:=by
  rw[U17 h] at hu;exact U14 hu
 exact⟨hv,by rw[this];exact ru⟩
end
section
variable{X:Cx}
theorem uA:bootBuiltins "reversed"=some (.type "reversed"):=by decide +kernel
end
noncomputable def Itel(K:Fg9)(a:Addr):It:=⟨fun i H=>∃ xs x,SqL K H a xs∧xs[i]?=some x,fun i H v H'=>∃ T x,v=.ref T∧H T=none∧(∀ xs,SqL K H a xs→xs[i]?=some x)∧H'=upd H T (.tup [.int i,x]),fun i H=>∃ xs,SqL K H a xs∧xs.length=i⟩
abbrev enumLSt(e it a:Addr)(i:Nat)(h:Heap):Prop:=(∃ old,IsEnum h e it i old)∧h.IsListIter it a i
theorem wC{P:Program}{w:World}{K:Fg9}{es:List Expr}{kk:Nat}{pos:Pos}(e it a:Addr)(hei:e≠it)(hai:a≠it)(hea:e≠a):
  Turn P w K (.Tuple es kk pos) (Itel K a) [e,it] e (enumLSt e it a) where
 mem:=by simp
 obj:=fun i h st b hb=>by
  obtain⟨⟨old,he⟩,o,ho,c,d⟩:=st;rcases W12.mp hb with rfl|hb
  ·exact⟨_,he,fun v z=>by cases z⟩
  ·rw[W15.mp hb];exact⟨o,ho,fun v z=>by rw[d] at z;cases z⟩
 keep:=fun i h h' st k=>by
  obtain⟨⟨old,he⟩,o,ho,r⟩:=st;exact⟨⟨old,k e (by simp) _ he⟩,o,k it (by simp) o ho,r⟩
 item:=by
  intro X hP hw hK hc i pins s σ H E I hf st hg;subst hP hw hK;obtain⟨xs,x,hq,hx⟩:=hg;obtain⟨its,rv,p,hz⟩:=I.list hq;obtain⟨u,hu,ru⟩:=rv.get hx;have hlt:i<its.length:=(Z10.mp hu).1;have W:=V25 (Draws.list (prog:=X.prog) (w:=X.w) (A:=X.A.in1) (I.ok.hd hc) it a hai its.toArray) e hei (by simp[hei,hea]) (by simp);refine W.item i s _ _ (by simpa using hlt) ⟨st.1,st.2,p.isList⟩ fun T vals h' tk hv hT tup mid kk1=>?_;obtain⟨tt,v,hv1,rfl⟩:=hv;have ev:v=u:=by
   have h1:its[i]?=some v:=by simpa using hv1
   rw[hu] at h1;exact(U14 h1).symm
  subst ev;refine⟨.ref T,rfl,W.go es kk pos i T _ _ _ mid fun h2 st2 kk2=>?_⟩;have nT:T∉[e,it]:=W.apart i T h' mid;obtain⟨oT,eT,cT,nT',dT⟩:=id tup;have eT2:h2.get? T=some oT:=kk2 T oT nT eT;refine⟨.ref T,upd H T (.tup [.int i,x]),Inv.turnedN (s':={ s with heap:=h2,toks:=tk }) I rfl rfl (fun b u0 hb e0=>kk2 b u0 hb (kk1 b u0 hb e0)) hf hT ?_,rfl,
   ⟨T,x,rfl,I.hok.fresh hT,fun ys hy=>by rw[I.list_inj hy hq];exact hx,rfl⟩,⟨st2.1,st2.2.1⟩,fun b hb=>?_⟩
  ·exact⟨by show 2≤_;rw[Y14];decide,[.int i tt,v], .cons ⟨_,rfl⟩ (.cons ru .nil),oT,eT2,cT,nT',dT⟩
  ·have nb:b≠T:=fun z=>by subst z;exact nT hb
   rw[aG nb];exact(hf b hb).1
 done:=by
  intro X hP hw hK hc i pins s σ H E I hf st hg;subst hP hw hK;obtain⟨xs,hq,hx⟩:=hg;obtain⟨its,rv,p,hz⟩:=I.list hq;have hlen:=rv.length;have W:=V25 (Draws.list (prog:=X.prog) (w:=X.w) (A:=X.A.in1) (I.ok.hd hc) it a hai its.toArray) e hei (by simp[hei,hea]) (by simp);have hi:i=its.toArray.size:=by rw[Y11];omega
  subst hi;refine W.done s _ _ ⟨st.1,st.2,p.isList⟩ fun h' tk kk1=>⟨rfl,?_⟩;exact Inv.turnedF (s':={ s with heap:=h',toks:=tk }) I rfl rfl kk1 hf
 self:=fun A i s Q E st h=>by
  obtain⟨⟨old,he⟩,_⟩:=st;exact W25 he h
section
variable{X:Cx}
def iEnumL(K:Fg9)(ta:TA):TI:=fun σ H R=>ta σ H fun vs H1=>∃ a,vs=[.ref a]∧(∃ xs,SqL K H1 a xs)∧R (Itel K a) H1
theorem aBA{a:Expr}{es:List Expr}{kk:Nat}{tpos:Pos}{ta:TA}{p pos:Pos}(hg:Gl X "enumerate")(hm:X.mg "enumerate"=none)(ha:PA X [a] ta)(hs:starEach [a] X.env=[(false,eval a X.env)]:=by rfl):
  PI X (.Tuple es kk tpos) (.Call (.Name "enumerate" p) [a] [] pos) (iEnumL X.K ta):=by
 intro pins s σ H R I h;refine Call_ (gF I hg hm mP (Y16 (thn (ha pos pins s σ H _ I h) fun us s1 ⟨vs,H1,I1,r1,q1⟩=>?_) hs rfl));obtain⟨a,e,⟨xs,hq⟩,q⟩:=q1;subst e;cases r1 with
 |cons r rr=>
  cases rr;cases r;obtain⟨its,rv,pt,hz⟩:=I1.list hq;have hlt:a<s1.heap.objs.size:=by obtain⟨o,eo,_⟩:=pt.isList;exact W11 eo
  refine call_enumerate_list pt.isList fun h' he hit hz hk=>?_;refine W25 he ?_;have I2:Inv X pins σ H1 { s1 with heap:=h' }:=I1.kept (t':=s1.toks) hk;have fresh:∀ b,s1.heap.objs.size≤b→FpOk X pins H1 b:=fun b hb=>I1.fpOk hb (I1.hok.fresh hb);refine⟨s1.heap.objs.size+1,[s1.heap.objs.size+1,s1.heap.objs.size],_,Itel X.K a,H1,rfl,I2,wC _ _ a (Nat.succ_ne_self _) (V13 hlt) (W20 (Z21 hlt)),⟨⟨_,he⟩,hit⟩,fun b hb=>?_,q⟩;rcases W12.mp hb with rfl|hb
  ·exact fresh _ (Z37 _)
  ·rw[W15.mp hb];exact fresh _ (Y12 _)
end
section
variable{prog:Program}{w:World}{A:Around}{E:Value→Shared→Prop}
theorem drawL{it l:Addr}{items:Array Value}(hne:l≠it):∀ (n i:Nat) (s:Shared) (Q:List Value→Shared→Prop),s.heap.IsListIter it l i→s.heap.IsList l items→i+n≤items.size→
  (∀ h',h'.IsListIter it l (i+n)→Heap.SameBut it s.heap h'→Q ((items.toList.drop i).take n) { s with heap:=h' })→wpAny (model prog w) A (draw (.ref it) n) Q E s
 |0,i,s,Q,hit,_,_,g=>by
  change wpAny _ _ (pure []) Q E s;exact W10 (by simpa using g s.heap hit (Heap.SameBut.refl ..))
 |n+1,i,s,Q,hit,ht,hle,g=>by
  have hlt:i<items.size:=by omega
  change wpAny _ _ (pyNext (.ref it) >>=_) Q E s;refine Y10 (wpAny_pyNext_list_item hit ht (x:=items[i]) (by simp[hlt]) fun g1 it1 b1=>?_);refine Y10 (Z16 (drawL hne n (i+1) _ _ it1 (ht.extBut b1.extBut hne) (by omega) fun g2 it2 b2=>W10 ?_));have e1:items.toList.drop i=items[i]::items.toList.drop (i+1):=by simp[Z30,hlt]
  have e2:=g g2 (by rw[show i+(n+1)=i+1+n by omega];exact it2) (b1.trans b2);rw[e1,List.take_succ_cons] at e2;exact e2
theorem unpackL{s:Shared}{t:Addr}{items:Array Value}{Q:List Value→Shared→Prop}(hh:A.handled=none)(ht:s.heap.IsList t items)(g:∀ h',Heap.ExtBut s.heap.objs.size s.heap h'→Q items.toList { s with heap:=h' }):wpAny (model prog w) A (unpackItems (.ref t) items.size none) Q E s:=by
 have hlt:t≠s.heap.objs.size:=by
  obtain⟨o,ho,_⟩:=ht;exact V13 (W11 ho)
 unfold unpackItems;refine Y10 ?_;unfold notIterableAtAll;refine Y10 (W28 ht.typeIs slot_list_iter.lookup ?_);refine W10 ?_;rw[if_neg V14];refine Y10 (Z16 (wpAny_pyIter_list ht ?_));refine Y10 (Z16 (drawL hlt items.size 0 _ _ ⟨_,V11 _ rfl,rfl,rfl⟩ (ht.push _) (by omega) fun g1 it1 b1=>?_));have hall:List.take items.size (List.drop 0 items.toList)=items.toList:=by
  rw[List.drop_zero];exact Y35 (by simp)
 rw[hall,if_neg (by simp)];have ht1:g1.IsList t items:=(ht.push _).extBut b1.extBut hlt;refine Y10 (Z16 (wpAny_pyNext_list_end hh it1 ht1 (by simp) fun g2 b2=>?_));rw[if_neg (by simp)];exact W10 (g g2 fun b o hb e=>b2 b o hb (b1.extBut b o hb (V10 _ e)))
end
section
variable{X:Cx}
def gTupL(K:Fg9)(n:Nat)(t:TGs):TG:=fun v σ H Q=>∃ a xs,v=.ref a∧SqL K H a xs∧xs.length=n∧t xs σ H Q
theorem xS{es:List Expr}{k:Nat}{t:TGs}{n:Nat}{pos:Pos}(hc:X.calm=true)(h:PGs X es t)(hn:(assignEach es X.env).length=n:=by rfl)(hst:(assignEach es X.env).findIdx? (·.1)=none:=by rfl):PG X (.Tuple es k pos) (gTupL X.K n t):=by
 intro pins s σ H v u Q I r hw;obtain⟨a,xs,e1,hq,hl,hw⟩:=hw;subst e1;cases r;obtain⟨its,rv,ht,hz⟩:=I.list hq;have hlen:=rv.length;rw[assign_Tuple];refine Y10 (Z32 ?_);unfold unpack;have hsz:(assignEach es X.env).length=its.toArray.size:=by rw[hn,Y11];omega
 rw[hsz,hst];refine Y10 (Z16 (unpackL (I.ok.hd hc) ht.isList fun h' hx=>?_));have I1:Inv X pins σ H { s with heap:=h' }:=I.kept (t':=s.toks) fun b o e=>hx b o (V13 (W11 e)) e;exact h pins _ σ H xs _ Q I1 (by simpa using rv) hw
end
section
variable{κ:Type}[DecidableEq κ]
noncomputable def valV(kvs:List (κ×V))(k:κ):Option V:=(kvs.find? fun kv=>decide (kv.1=k)).map (·.2)
theorem uB{p:κ×V}{r:List (κ×V)}{k:κ}(e:p.1=k):valV (p::r) k=some p.2:=by simp[valV,U28,e]
theorem uC{p:κ×V}{r:List (κ×V)}{k:κ}(e:¬ p.1=k):valV (p::r) k=valV r k:=by simp[valV,U28,e]
theorem RelO.isSome_eq{o:Option V}{u:Option Value}(r:RelO o u):o.isSome=u.isSome:=by
 cases o with
 |none=>cases u with
  |none=>rfl
  |some _=>exact(show False from r).elim
 |some _=>cases u with
  |none=>exact(show False from r).elim
  |some _=>rfl
theorem KV.val{kvs:List (κ×V)}{vs:List (κ×Value)}(r:KV kvs vs)(k:κ):RelO (valV kvs k) (valueAt vs k):=by
 unfold KV at r
 induction r with
 |nil=>exact True.intro
 |@cons p q ps qs h t ih=>
  obtain⟨h1,h2⟩:=h
  by_cases e:p.1=k
  ·have e':q.1=k:=h1.symm.trans e;have b:valueAt (q::qs) k=some q.2:=by simp[valueAt,U28,e']
   rw[uB e,b];exact h2
  ·have e':¬ q.1=k:=fun z=>e (h1.trans z);have b:valueAt (q::qs) k=valueAt qs k:=by simp[valueAt,U28,e']
   rw[uC e,b];exact ih
theorem KV.length{kvs:List (κ×V)}{vs:List (κ×Value)}(r:KV kvs vs):kvs.length=vs.length:=Paired.length r
end
theorem aBB{P:Program}{w:World}{k:Key}{u:Value}(r:RelV (kV k) u):(mixKind P w).is k u=true:=by
 cases k with
 |inl i=>obtain⟨t,e⟩:=(show ∃ t,u=Value.int i t from r);subst e;exact tT P w i t
 |inr x=>obtain⟨t,e⟩:=(show ∃ t,u=Value.str x t from r);subst e;exact jV P w x t
def NoSl(i:Expr):Prop:=∀ ov iv,subscripted i false ov iv=operate [ov,iv] (getItem ov iv)
theorem aEh{prog:Program}{w:World}{A:Around}{E:Value→Shared→Prop}{s:Shared}{env:Env}{value slice:Expr}{pos:Pos}{T id:String}{Q:Value→Shared→Prop}
  (hl:typeLookup (.type T) "__getitem__"=pure (some (.builtin id)))(hs:NoSl slice)
  (h:wpAny (model prog w) A (eval value env) (fun o s₁=>wpAny (model prog w) A (eval slice env) (fun i s₂=>s₂.TypeIs o T∧wpAny (model prog w) A (getItem o i) Q E s₂) E s₁) E s):
  wpAny (model prog w) A (eval (.Subscript value slice pos) env) Q E s:=by
 refine Subscript_ (W22 h (fun o s₁ h₁=>W22 h₁ (fun i s₂ h₂=>?_) fun _ _ x=>x) fun _ _ x=>x);obtain⟨hT,h₂⟩:=h₂;unfold subscriptTail;refine Y10 ?_;rw[getitemInPython_of_ne hT.not_modules];refine Y10 (W28 hT hl ?_);have fin:wpAny (model prog w) A (subscripted slice false o i) (fun r s₃=>wpAny (model prog w) A (letTemporaryGo value o r >>=fun _=>pure r) Q E s₃) E s₂:=by
  rw[hs o i];exact wpAny_operating (W22 h₂ (fun r s₃ h₃=>Y10 (wpAny_letTemporaryGo (W10 h₃))) fun _ _ x=>x)
 first
  |exact W10 (Y10 fin)
  |exact Y10 (W10 (Y10 fin))
  |exact Y10 fin
end L2
end
section
namespace TXS
open PySem PySem.Spec PyProof.Rows
theorem slotN:Slot "set_iterator" "__next__" "set_iterator.__next__":=by
 refine .of (owner:="set_iterator") (n:="__next__") ?_ ?_ ?_ ?_ ?_ ?_
 ·rw[typeLookup_type,Y29]
  kernel_rfl
 ·decide +kernel
 ·decide +kernel
 ·decide +kernel
 ·first
   |exact .inl (by decide +kernel)
   |exact .inr (by decide +kernel)
 ·rw[isSubtype_type]
  kernel_rfl
theorem entryN:entryFor table "set_iterator.__next__"=some Builtin.«set_iterator.__next__»:=entryFor_of_tree (by kernel_rfl)
theorem ownerN:Manifest.owners.lookup (String.ofList ['r','o','t','a','r','e','t','i','_','t','e','s'].reverse)=some Manifest.sig_set_iterator:=by kernel_rfl
theorem argsN(v:Value):argsOk "set_iterator.__next__" ⟨[v],[]⟩:=by
 unfold argsOk;rw[signature?_of (id:="set_iterator.__next__") (n:=['_','_','t','x','e','n','_','_']) (o:=['r','o','t','a','r','e','t','i','_','t','e','s']) (by kernel_rfl) ownerN]
 kernel_rfl
theorem entryI:entryFor table "set.__iter__"=some Builtin.«frozenset.__iter__»:=
 entryFor_alias (id':="frozenset.__iter__") (by kernel_rfl) rfl (by decide +kernel) (by kernel_rfl)
noncomputable def txt:Value→Str
 | .str x _=>x
 |_=>""
structure TOk (w:World) (es:Array (Int×Value)) (t:SetTable) (L:List Str):Prop where
 el:∀ e∈es.toList,∃ x tk,e=(hashStr w x,Value.str x tk)
 pm:(es.toList.map fun e=>txt e.2).Perm L
 nd:L.Nodup
 bd:es.size<scanBound
 ft:t.fits es.size=true
 ld:t.led=!w.params.followText "set-order"
 pl:0<es.size→t.plain=false
def TSet(w:World)(a:Addr)(L:List Str)(h:Heap):Prop:=∃ o es ep t,h.get? a=some o∧o.ExactSet∧o.data=.set es ep t∧TOk w es t L
theorem TSet.at{w:World}{a:Addr}{L:List Str}{h h':Heap}(x:TSet w a L h)(k:∀ o,h.get? a=some o→h'.get? a=some o):TSet w a L h':=by
 obtain⟨o,es,ep,t,e,r⟩:=x;exact⟨o,es,ep,t,k o e,r⟩
theorem TSet.ty{w:World}{a:Addr}{L:List Str}{s:Shared}(x:TSet w a L s.heap):s.TypeIs (.ref a) "set":=by
 obtain⟨o,_,_,_,e,hx,_⟩:=x;exact⟨o,e,hx.1⟩
theorem TSet.lt{w:World}{a:Addr}{L:List Str}{h:Heap}(x:TSet w a L h):a<h.objs.size:=by
 obtain⟨o,_,_,_,e,_⟩:=x;exact W11 e
theorem TOk.size{w:World}{es:Array (Int×Value)}{t:SetTable}{L:List Str}(h:TOk w es t L):es.size=L.length:=by
 have:=h.pm.length_eq
 simpa using this
noncomputable abbrev void(w:World):Obj:={ cls:=.type "set",dict:=none,data:=.set #[] 0 (.fresh 0 0 (!w.params.followText "set-order")) }
theorem aEi(w:World):TOk w #[] (.fresh 0 0 (!w.params.followText "set-order")) []:=
 ⟨fun e h=>by simp at h, .rfl,by simp,by decide,rfl,rfl,fun h=>by simp at h⟩
theorem void_set{w:World}(h:Heap):TSet w h.objs.size [] (h.push (void w)):=⟨_,_,_,_,V11 _ rfl,⟨rfl,rfl,rfl⟩,rfl,aEi w⟩
section
variable{prog:Program}{w:World}{A:Around}{E:Value→Shared→Prop}{s:Shared}
theorem newX{Q:Value→Shared→Prop}(g:Q (.ref s.heap.objs.size) { s with heap:=s.heap.push (void w) }):codeAny (model prog w) A (.call (.builtin "set.__new__") ⟨[.type "set"],[]⟩) (wants Q E) s:=by
 refine codeAny_of_tree ?_;change wpAny _ A.in1 (checkBuiltinCall "set.__new__" ⟨[.type "set"],[]⟩ >>=fun _=>again (.builtin "set.__new__" ⟨[.type "set"],[]⟩)) _ _ s;refine Y10 (V37 F.newCall_set_0 ?_);refine W10 ⟨W33 F.plain_set_new _,U33 F.entry_set_new ?_⟩;rw[U29 F.plain_set_new _];unfold Builtin.«set.__new__»;unfold Builtin.Frozenset.newClass;have hsub:=sub_set_self;obtain⟨hp,gs,d,tk,os⟩:=s;dsimp only
 wp_walk
 refine U30 ?_;refine W10 ?_;dsimp only;simp only[newObj];exact Y10 (wpAny_alloc (W10 (W10 g)))
set_option maxHeartbeats 1000000 in
theorem callX{Q:Value→Shared→Prop}(g:Q (.ref s.heap.objs.size) { s with heap:=s.heap.push (void w) }):wpAny (model prog w) A (call (.type "set") []) Q E s:=by
 obtain⟨c,tl,hm1⟩:=Z29.mro;have hm2:=Z29.made;have hm3:=Z29.sub;refine wpAny_call (codeAny_of_tree ?_);change wpAny _ _ (callAny (.type "set") _) _ _ _;refine W10 ⟨Code.quiet_builtin _ (by decide +kernel),?_⟩;refine U33 F.entry_type_call ?_;rw[Around.under_plain (weight_type_call_type "set" [] []) rfl];have q1:=Z29.notType;have q2:=Z29.canCreate;have q3:=F.typeCall_set_0
 repeat (any_goals (first
  |assumption
  |wp_step))
 refine W35 (newX (E:=E) (Q:=fun v s1=>v=.ref s.heap.objs.size∧s1={ s with heap:=s.heap.push (void w) }) ⟨rfl,rfl⟩) fun r s1 hr=>?_;cases r with
 |error e=>exact hr
 |ok fl=>
  cases fl with
  |ret v=>
   obtain⟨rfl,rfl⟩:=hr;have e1:(s.heap.push (void w)).get? s.heap.objs.size=some (void w):=V11 _ rfl;have e2:Shared.TypeIs { s with heap:=s.heap.push (void w) } (.ref s.heap.objs.size) "set":=⟨_,e1,rfl⟩;have e3:=Z29.init.lookup;have e4:=Z29.init.bind (.ref s.heap.objs.size)
   repeat (any_goals (first
    |assumption
    |wp_step))
   refine W35 (codeAny_call_builtin (R:=wants (fun r s2=>r=.none∧Q (.ref s.heap.objs.size) s2) E) Z29.init.plain F.entry_set_init (check_set_init e2 ?_)) fun r2 s2 hr2=>?_
   ·unfold Builtin.«set.__init__»;unfold noKeywords
    wp_walk
    exact⟨rfl,g⟩
   ·cases r2 with
    |error e=>exact hr2
    |ok f2=>
     cases f2 with
     |ret r=>
      obtain⟨rfl,hq⟩:=hr2
      repeat (any_goals (first
       |assumption
       |wp_step))
     |_=>exact hr2.elim
  |_=>exact hr.elim
end
def SetAt(h:Heap)(a:Addr)(es:Array (Int×Value))(ep:Nat)(t:SetTable):Prop:=∃ o,h.get? a=some o∧o.ExactSet∧o.data=.set es ep t∧t.fits es.size=true
theorem SetAt.at{h h':Heap}{a:Addr}{es:Array (Int×Value)}{ep:Nat}{t:SetTable}(x:SetAt h a es ep t)(k:∀ o,h.get? a=some o→h'.get? a=some o):SetAt h' a es ep t:=by
 obtain⟨o,e,r⟩:=x;exact⟨o,k o e,r⟩
def ItS(w:World)(h:Heap)(it a:Addr):Prop:=∃ (oi:Obj) (ep:Nat) (t:SetTable),h.get? it=some oi∧oi.cls=.type "set_iterator"∧oi.data=.fields #[rawInt 0,rawInt 0, .ref a,rawInt 0,rawInt ep]∧SetAt h a #[] ep t∧a≠it∧t.led=!w.params.followText "set-order"
theorem ItS.ty{w:World}{s:Shared}{it a:Addr}(x:ItS w s.heap it a):s.TypeIs (.ref it) "set_iterator":=by
 obtain⟨oi,_,_,e,c,_⟩:=x;exact⟨oi,e,c⟩
theorem ItS.but{w:World}{h h':Heap}{it a c:Addr}(x:ItS w h it a)(k:∀ b o,b≠c→h.get? b=some o→h'.get? b=some o)(n1:it≠c)(n2:a≠c):ItS w h' it a:=by
 obtain⟨oi,ep,t,e,cc,d,hS,n,hb⟩:=x;exact⟨oi,ep,t,k _ _ n1 e,cc,d,hS.at fun o=>k a o n2,n,hb⟩
section
variable{prog:Program}{w:World}{A:Around}{E:Value→Shared→Prop}{s:Shared}{it a:Addr}
theorem nextE{ep:Nat}{t:SetTable}{sl i:Nat}{Q:Option (Value×Nat)→Shared→Prop}(hS:SetAt s.heap a #[] ep t)(hl:t.led=!w.params.followText "set-order")(g:Q none s):wpAny (model prog w) A (setNext a sl i ep) Q E s:=by
 obtain⟨o,ho,hx,hd,hf⟩:=hS;unfold setNext;refine Y10 (wpAny_setState_of ho hd hf ?_);dsimp only;refine Y10 ?_;unfold setsByText;refine Y10 (U30 (W10 ?_));change wpAny _ _ (if w.params.followText "set-order"=true then _ else _) _ _ s;cases hb:w.params.followText "set-order" with
 |true=>
  rw[if_pos rfl,if_neg (by simp)];refine Y10 ?_;unfold setWalk;refine Y10 (wpAny_setState_of ho hd hf ?_);dsimp only;refine Y10 ?_;unfold setsByText;refine Y10 (U30 (W10 ?_));change wpAny _ _ (if w.params.followText "set-order"=true then _ else _) _ _ s;rw[if_pos hb];exact Y10 (U30 (W10 (W10 g)))
 |false=>
  rw[if_neg V14];change wpAny _ _ (if(!t.plain&&decide ((#[]:Array (Int×Value)).size > 1))=true then _ else _) _ _ s;rw[if_neg (by simp)];refine Y10 ?_;change wpAny _ _ (if(!t.led&&!(#[]:Array (Int×Value)).isEmpty)=true then _ else _) _ _ s;rw[if_neg (by simp)];exact W10 (W10 g)
theorem fieldA{M:Model}{o:Obj}{vs:Array Value}{k:Nat}{x:Value}{Q:Unit→Shared→Prop}(ho:s.heap.get? it=some o)(hd:o.data=.fields vs)(hi:k<vs.size)
  (g:∀ h',Heap.SameBut it s.heap h'→Q () { s with heap:=h' }):wpAny M A (setField (.ref it) k x) Q E s:=
 wpAny_setField ho hd hi (g _ (Z26 ..))
set_option maxHeartbeats 1000000 in
theorem stopI{Q:Option Value→Shared→Prop}(hh:A.handled=none)(hit:ItS w s.heap it a)(g:∀ h',Heap.ExtBut it s.heap h'→Q none { s with heap:=h' }):wpAny (model prog w) A (pyNext (.ref it)) Q E s:=by
 have hT:=hit.ty;obtain⟨oi,ep,t,ho,hc,hd,hS,hne,hm⟩:=hit;obtain⟨os,hos,hsx,hsd,hsf⟩:=id hS;unfold pyNext;refine Y10 (wpAny_attempt ?_);refine U15 (name:=Str.ofString "__next__") hT slotN ?_;refine W16 slotN hT entryN ?_ (argsN _);unfold Builtin.«set_iterator.__next__»;refine Y10 (W10 ?_);refine Y10 (wpAny_fieldsOf ho hd ?_);dsimp only;refine Y10 (wpAny_setEntries_of hos hsd hsf ?_);rw[if_neg (by simp)];refine Y10 (nextE (sl:=0) (i:=0) hS hm ?_);refine Y10 (fieldA ho hd (by simp) fun h1 sb=>?_);refine Y10 ?_;simp only[newExc,newTuple];refine Y10 ?_;refine W14 ?_ (by size_fits);refine Y10 (m:=firstArgMember _ _) ?_;refine V37 (a:=Value.none) (by
  first
   |rfl
   |(simp only[firstArgMember];rfl)) ?_
 refine W14 ?_ ?_
 ·simp only[raiseNew];refine Y10 ?_;refine wpAny_handled ?_;rw[show A.in1.handled=none from hh];refine Y10 (W10 ?_);refine wpAny_throw ?_;refine Y10 ?_;refine W30 (T:="StopIteration") (b:=true) ⟨_,V11 _ rfl,rfl⟩ isSubtype_stop ?_;exact W10 (g _ ((sb.extBut.push _).push _))
 ·size_fits
set_option maxHeartbeats 1000000 in
theorem iterI{Q:Value→Shared→Prop}(hS:TSet w a [] s.heap)
  (g:∀ (it:Addr) (h':Heap),(∀ b o,s.heap.get? b=some o→h'.get? b=some o)→s.heap.objs.size≤it→ItS w h' it a→Q (.ref it) { s with heap:=h' }):
  wpAny (model prog w) A (pyIter (.ref a)) Q E s:=by
 have hT:=hS.ty;have hlt:=hS.lt;obtain⟨o,es,ep,t,ho,hx,hd,ok⟩:=hS;have hes:es=#[]:=Array.eq_empty_of_size_eq_zero ok.size;subst hes;refine wpAny_pyIter_slot hT F.slot_set_iter (W16 F.slot_set_iter hT entryI ?_ (F.args_set_iter_1 _));unfold Builtin.«frozenset.__iter__» Builtin.Frozenset.slot0 slotArgs;simp only[List.isEmpty_nil,Bool.not_true,Z27,if_false,bind_assoc,W37,bne_self_eq_false];unfold Builtin.Frozenset.addrOf;refine Y10 (W10 ?_)
 try dsimp only
 refine Y10 (W10 ?_);unfold Builtin.Frozenset.sizeOf;refine Y10 (Y10 (wpAny_setEntries_of ho hd ok.ft (W10 ?_)));refine Y10 ?_;unfold setDrawn;refine Y10 (wpAny_setState_of ho hd ok.ft ?_);dsimp only;refine Y10 ?_;unfold setsByText;refine Y10 (U30 (W10 (W10 ?_)));change wpAny _ _ (if(!w.params.followText "set-order"&&(!t.plain&&decide ((#[]:Array (Int×Value)).size > 1)))=true then _ else _) _ _ s;rw[if_neg (by simp)];refine Y10 (W10 ?_);refine Y10 (wpAny_setEpoch_of ho hd ok.ft ?_);unfold newFields;refine Y10 (W14 ?_ (by size_fits));refine W10 ⟨_,rfl,"set_iterator",_,⟨_,V11 _ rfl,rfl⟩,slotN.lookup,?_⟩;exact g s.heap.objs.size _ (fun b o e=>V10 _ e) (Y12 _) ⟨_,ep,t,V11 _ rfl,rfl,rfl,⟨o,V10 _ ho,hx,hd,ok.ft⟩,V13 hlt,ok.ld⟩
theorem hintI{Q:Bool→Shared→Prop}(hT:s.TypeIs (.ref a) "set")(g:Q false s):wpAny (model prog w) A (Builtin.List.listLengthHint (.ref a)) Q E s:=by
 unfold Builtin.List.listLengthHint;refine Y10 (W28 hT F.slot_set_len.lookup ?_);generalize hid:("set.__len__":String)=id0
 wp_delta
 rw[show splitId id0=some ("set","__len__") from by
  subst hid
  decide +kernel]
 subst hid;refine Y10 (W30 (T:="set") (b:=true) hT (by rw[isSubtype_type];kernel_rfl) ?_);refine wpAny_ite_split (fun z=>absurd z (by decide)) fun _=>?_;refine wpAny_ite_split (fun _=>?_) fun z=>absurd (by decide +kernel) z;exact Y10 (U25 hT (W10 g))
set_option maxHeartbeats 1000000 in
theorem collI(hh:A.handled=none){R:List Value→Shared→Prop}(hS:TSet w a [] s.heap)(g:∀ (h':Heap),(∀ b o,s.heap.get? b=some o→h'.get? b=some o)→R [] { s with heap:=h' }):wpAny (model prog w) A (collect (.ref a)) R E s:=by
 have hlt:=hS.lt;have n2:s.heap.objs.size≠a:=W20 hlt;unfold collect;refine Y10 (wpAny_runValue (U33 F.entry_proto_collect ?_));rw[U29 F.plain_proto_collect _];change wpAny _ A.in1 (newList [] >>=fun l=>again (.builtin "list.__iadd__" ⟨[l, .ref a],[]⟩)) _ _ s;refine Y10 (W14 ?_);refine W10 ⟨W33 F.plain_list_iadd _,?_⟩;refine U33 F.entry_list_iadd ?_;rw[U29 F.plain_list_iadd _];have kp0:∀ b o,s.heap.get? b=some o→(s.heap.push (seqObj "list" #[] 0)).get? b=some o:=fun b o e=>V10 _ e;have hS1:TSet w a [] (s.heap.push (seqObj "list" #[] 0)):=hS.at (kp0 a);have hA:(s.heap.push (seqObj "list" #[] 0)).get? s.heap.objs.size=some (seqObj "list" #[] 0):=V11 _ rfl;change wpAny _ A.in1 (Builtin.List.listExtendWith (.ref s.heap.objs.size) (.ref a) (.ref s.heap.objs.size)) _ _ { s with heap:=s.heap.push (seqObj "list" #[] 0) };unfold Builtin.List.listExtendWith;refine Y10 (U25 (s:={ s with heap:=s.heap.push (seqObj "list" #[] 0) }) hS1.ty ?_);rw[if_neg (by simp[Builtin.List.listSameRef,n2])];refine Y10 (iterI (s:={ s with heap:=s.heap.push (seqObj "list" #[] 0) }) hS1 fun it h1 kp1 hge hit=>?_);have hge':s.heap.objs.size+1≤it:=by
  have:(s.heap.push (seqObj "list" #[] 0)).objs.size≤it:=hge
  rwa [Y17] at this
 have n1:s.heap.objs.size≠it:=V13 hge';have hA1:=kp1 _ _ hA;have fin:∀ (h2:Heap) (c:Nat),(∀ b o,b≠s.heap.objs.size→h1.get? b=some o→h2.get? b=some o)→h2.get? s.heap.objs.size=some (seqObj "list" #[] c)→
   codeAny (model prog w) A (.builtin "list.extend.loop" ⟨[.ref s.heap.objs.size, .ref it, .ref s.heap.objs.size],[]⟩) (fun q s'=>match q with
    | .ok (.ret v)=>wpAny (model prog w) A (match v with
     | .ref b=>load b >>=fun o=>match o.data with
      | .seq xs _=>pure xs.toList
      |_=>unsupported "internal:collect"
     |_=>unsupported "internal:collect") R E s'
    | .ok _=>False
    | .error e=>E e s') { s with heap:=h2 }:=by
  intro h2 c kp2 e2;refine U33 F.entry_extend_loop ?_;rw[U29 W26 _];change wpAny _ A.in1 (pyNext (.ref it) >>=_) _ _ _;refine Y10 (stopI (A:=A.in1) (s:={ s with heap:=h2 }) hh (hit.but kp2 (Ne.symm n1) (Ne.symm n2)) fun h3 kp3=>?_);refine W10 ?_;dsimp only;refine Y10 (wpAny_load (kp3 _ _ n1 e2) ?_);refine W10 ?_;exact g h3 fun b o e=>kp3 b o (fun z=>by subst z;exact absurd (W11 e) (Nat.not_lt.mpr (Nat.le_of_succ_le hge'))) (kp2 b o (V13 (W11 e)) (kp1 b o (kp0 b o e)))
 refine Y10 (Z16 (hintI (hS1.at (kp1 a)).ty ?_));refine wpAny_ite_split (fun _=>?_) fun _=>?_
 ·refine Y10 (Z35 ?_);refine Y10 ?_;change wpAny _ _ (updateSeq s.heap.objs.size (·.push .none) >>=fun _=>updateSeq s.heap.objs.size (·.pop)) _ _ _;refine Y10 (Z28 hA1 rfl ?_);have e2:=get?_update_seq hA1 (fun xs=>xs.push Value.none);refine Z28 (hz:=by seq_fits) e2 rfl ?_;have e3:=get?_update_seq e2 (fun xs=>xs.pop);refine W10 ⟨W33 W26 _,fin _ _ (fun b o hb e=>?_) e3⟩;exact(Y21 _ _ (Ne.symm hb)).trans ((Y21 _ _ (Ne.symm hb)).trans e)
 ·exact W10 ⟨W33 W26 _,fin _ _ (fun b o hb e=>e) hA1⟩
end
section
variable{prog:Program}{w:World}{A:Around}{E:Value→Shared→Prop}{s:Shared}
theorem sortedC{x:Value}{Q:Value→Shared→Prop}
  (g:wpAny (model prog w) A.in1 (collect x) (fun vs s1=>∃ ss:List Str,StrsAre vs ss∧vs.length<64∧∀ (D:Addr) (h':Heap) (us:List Value) (tt:List Str) (e:Nat),s1.heap.objs.size≤D→(∀ b o,s1.heap.get? b=some o→h'.get? b=some o)→
   h'.get? D=some (seqObj "list" us.toArray e)→StrsAre us tt→tt.Perm ss→Q (.ref D) { s1 with heap:=h' }) E s):wpAny (model prog w) A (call (.builtin "sorted") [x]) Q E s:=by
 refine Calls.call_function_entry kind_sorted plain_sorted entry_sorted (args_sorted1 _) ?_;unfold Builtin.«sorted»;refine Y10 (m:=checkCount "sorted" 1 1 _) ?_;refine W10 ?_;refine Y10 (W22 g (fun vs s1 q=>?_) fun _ _ e=>e);obtain⟨ss,hs,h64,q⟩:=q;refine Y10 (wpAny_newList ?_ (by rw[Y14];omega));have e1:(s1.heap.push (seqObj "list" vs.toArray 0)).get? s1.heap.objs.size=some (seqObj "list" vs.toArray 0):=V11 _ rfl;refine Y10 (Z16 ?_);refine W16 slot_list_sort ⟨_,e1,rfl⟩ entry_list_sort ?_ (args_list_sort _);refine list_sort_treeK (s:={ s1 with heap:=s1.heap.push (seqObj "list" vs.toArray 0) }) strKind_oneLt e1 hs.keysOf (fun v1 v2 r e=>keyKind_strs (by rw[← e];exact hs)) h64 fun st' hp hk=>⟨_,rfl,?_⟩;obtain⟨tt,h1,h2,h3⟩:=sorted_out_str hs hp hk;refine W10 ⟨_,rfl,?_⟩;obtain⟨e,he⟩:=sortedHeap_at (out:=(arrOf st').map (·.2)) e1;refine q s1.heap.objs.size _ ((arrOf st').map (·.2)).toList tt e (Y12 _) (fun b o eb=>?_) he h1 h2;have hlt:=W11 eb;change (sortedHeap _ _ _ _).get? b=_;rw[sortedHeap_old (V13 hlt) (by rw[Y17];exact Z21 hlt)];exact V10 _ eb
end
end TXS
namespace L2
open PySem PySem.Spec PyProof.Rows
noncomputable def SetO(w:World)(a:Addr)(L:List Str):HO:=.ext (TXS.TSet w a L)
theorem aEj{P:Program}{w:World}{H:Hp}{h:Heap}{a:Addr}{L:List Str}(x:TXS.TSet w a L h):ObjOk P w H h a (SetO w a L):=by
 refine⟨x,?_,fun h1 h2 y k=>y.at k⟩;obtain⟨o,_,_,_,e,_⟩:=x;exact⟨o,e⟩
section
variable{X:Cx}
theorem zV:CallR X (.type "set") (fun xs H Q=>xs=[]∧∀ p,H p=none→Q (.ref p) (upd H p (SetO X.w p []))):=by
 intro pins s σ H xs us Q I r h;obtain⟨rfl,q⟩:=h;cases r;refine TXS.callX ?_;exact⟨.ref s.heap.objs.size,_,I.laid (t':=s.toks) (fun b o e=>V10 _ e) (Y12 _) (aEj (TXS.void_set _)),rfl,q _ (I.hok.fresh (Y12 _))⟩
theorem boot_set:bootBuiltins "set"=some (.type "set"):=by decide +kernel
theorem wD(hc:X.calm=true):CallR X (.builtin "sorted") (fun xs H Q=>∃ p,xs=[.ref p]∧H p=some (SetO X.w p [])∧∀ q,H q=none→Q (.ref q) (upd H q (.lst []))):=by
 intro pins s σ H xs us Q I r h;obtain⟨p,rfl,hp,q⟩:=h;obtain⟨u,rfl,ru⟩:=vals1 r;cases ru;have hS:TXS.TSet X.w p [] s.heap:=(I.hok p _ hp).1;refine TXS.sortedC (TXS.collI (A:=X.A.in1) (I.ok.hd hc) hS fun h1 kp=>?_);refine⟨[], .nil,by decide,fun D h2 vs tt e hD kp2 eD hv ht=>?_⟩;cases ht.eq_nil;cases hv;have I1:Inv X pins σ H { s with heap:=h1 }:=I.kept (t':=s.toks) kp;exact⟨.ref D,upd H D (.lst []),I1.laid (h':=h2) (t':=s.toks) (fun b o e=>kp2 b o e) hD ⟨Z23 _,[],e, .nil,eD⟩,rfl,q D (I1.hok.fresh hD)⟩
end
theorem aT{X:Cx}{e:Expr}{t u:TE}(h:PE X e t)(hu:∀ σ H Q,u σ H Q→t σ H Q):PE X e u:=fun pins s σ H Q I q=>h pins s σ H Q I (hu σ H Q q)
theorem wF{X:Cx}{e:Expr}{t u:TT}(h:PT X e t)(hu:∀ σ H Q,u σ H Q→t σ H Q):PT X e u:=fun pins s σ H Q I q=>h pins s σ H Q I (hu σ H Q q)
theorem aBC{X:Cx}{e:Expr}{t u:TT}(h:PW X e t)(hu:∀ σ H Q,u σ H Q→t σ H Q):PW X e u:=fun w pins s σ H Q I q=>h w pins s σ H Q I (hu σ H Q q)
theorem aBD{X:Cx}{es:List Expr}{t u:TA}(h:PA X es t)(hu:∀ σ H Q,u σ H Q→t σ H Q):PA X es u:=fun pos pins s σ H Q I q=>h pos pins s σ H Q I (hu σ H Q q)
theorem dQ{X:Cx}{st:Stmt}{t u:TS}(h:PS X st t)(hu:∀ D σ H,u D σ H→t D σ H):PS X st u:=fun pins s σ H D I q=>h pins s σ H D I (hu D σ H q)
theorem xT{X:Cx}{st:List Stmt}{t u:TS}(h:PSs X st t)(hu:∀ D σ H,u D σ H→t D σ H):PSs X st u:=fun pins s σ H D I q=>h pins s σ H D I (hu D σ H q)
theorem sC{X:Cx}{e:Expr}{t u:TG}(h:PG X e t)(hu:∀ v σ H Q,u v σ H Q→t v σ H Q):PG X e u:=fun pins s σ H v uu Q I r q=>h pins s σ H v uu Q I r (hu v σ H Q q)
theorem xU{X:Cx}{e:List Expr}{t u:TGs}(h:PGs X e t)(hu:∀ v σ H Q,u v σ H Q→t v σ H Q):PGs X e u:=fun pins s σ H v uu Q I r q=>h pins s σ H v uu Q I r (hu v σ H Q q)
theorem mR{X:Cx}{tg e:Expr}{t u:TI}(h:PI X tg e t)(hu:∀ σ H Q,u σ H Q→t σ H Q):PI X tg e u:=fun pins s σ H R I q=>h pins s σ H R I (hu σ H R q)
theorem aBE{X:Cx}{e:Expr}{t u:TE}(h:PE X e t)(h':PE X e u):PE X e (fun σ H Q=>t σ H Q∨u σ H Q):=fun pins s σ H Q I q=>q.elim (h pins s σ H Q I) (h' pins s σ H Q I)
theorem aBF{X:Cx}{tg e:Expr}{t u:TI}(h:PI X tg e t)(h':PI X tg e u):PI X tg e (fun σ H Q=>t σ H Q∨u σ H Q):=fun pins s σ H Q I q=>q.elim (h pins s σ H Q I) (h' pins s σ H Q I)
theorem aFw{X:Cx}{e:Expr}{t u:TG}(h:PG X e t)(h':PG X e u):PG X e (fun v σ H Q=>t v σ H Q∨u v σ H Q):=fun pins s σ H v uu Q I r q=>q.elim (h pins s σ H v uu Q I r) (h' pins s σ H v uu Q I r)
theorem OpR.imp{X:Cx}{f:Value→Value→Sem Value}{r r':R2}(h:OpR X f r)(hu:∀ x y H Q,r' x y H Q→r x y H Q):OpR X f r':=fun pins s σ H x y v u Q I rx ry q=>h pins s σ H x y v u Q I rx ry (hu _ _ _ _ q)
theorem UnR.imp{X:Cx}{f:Value→Sem Value}{r r':V→Hp→VK→Prop}(h:UnR X f r)(hu:∀ x H Q,r' x H Q→r x H Q):UnR X f r':=fun pins s σ H x v Q I rx q=>h pins s σ H x v Q I rx (hu _ _ _ q)
theorem CallR.imp{X:Cx}{f:Value}{r r':List V→Hp→VK→Prop}(h:CallR X f r)(hu:∀ x H Q,r' x H Q→r x H Q):CallR X f r':=fun pins s σ H xs us Q I rx q=>h pins s σ H xs us Q I rx (hu _ _ _ q)
theorem MtR.imp{X:Cx}{id:String}{r r':V→List V→Hp→VK→Prop}(h:MtR X id r)(hu:∀ x xs H Q,r' x xs H Q→r x xs H Q):MtR X id r':=fun pins s σ H x xs v us Q I rx rs q=>h pins s σ H x xs v us Q I rx rs (hu _ _ _ _ q)
theorem SlR.imp{X:Cx}{r r':V→Option Int→Option Int→Hp→VK→Prop}(h:SlR X r)(hu:∀ x lo hi H Q,r' x lo hi H Q→r x lo hi H Q):SlR X r':=fun pins s σ H x v vl vu lo hi sl Q I rx hs pl pu q=>h pins s σ H x v vl vu lo hi sl Q I rx hs pl pu (hu _ _ _ _ _ q)
inductive C where
 |l (xs:List D)
 |st (L:List Str)
 |d (kvs:List (Key×D))
 |o (c:Addr) (fs:List (Str×D))
abbrev Sto:=List C
abbrev En:=List (Option D)
abbrev M(α:Type):=Sto→Option (α×Sto)
noncomputable abbrev Cx.kw(X:Cx):KW:=⟨X.K,X.prog,X.w⟩
def KDict(k:KW)(a:Addr)(kws:List (Key×V)):Prop:=kws.length≤sizeLine∧(a==sysModules)=false∧∃ vs ep,KV kws vs∧∀ h:Heap,k.K.In h→h.DictAt (mixKind k.P k.w) a vs ep
def FzL(K:Fg9)(H:Hp)(a:Addr)(xs:List V):Prop:=
 (∃ o,H a=some (.frz o (.lst xs)))∨
  ∃ (o:Obj) (its:Array Value) (n:Nat),K.lookup a=some o∧o.cls=.type "list"∧o.dict=none∧o.data=.seq its n∧its.size≤sizeLine∧Vals xs its.toList
theorem FzL.sq{K:KW}{H:Hp}{a:Addr}{xs:List V}(h:FzL K H a xs):SqL K H a xs:=by
 rcases h with⟨o,e⟩|h
 ·exact .inl (.inr ⟨o,e⟩)
 ·exact .inr h
noncomputable def cellO:HO→Bool
 | .lst _=>true
 | .dK _=>true
 | .ins ..=>true
 | .ext _=>true
 |_=>false
theorem FzL.kp{K:KW}{H H':Hp}{a:Addr}{xs:List V}(h:FzL K H a xs)(k:∀ a o,H a=some o→cellO o=false→H' a=some o):FzL K H' a xs:=by
 rcases h with⟨o,e⟩|h
 ·exact .inl ⟨o,k _ _ e rfl⟩
 ·exact .inr h
inductive RV (K:KW) (m:List Addr) (H:Hp):V→D→Prop where
 |no:RV K m H .non .no
 |b (x:Bool):RV K m H (.bl x) (.b x)
 |i (n:Int):RV K m H (.int n) (.i n)
 |s (x:Str):RV K m H (.str x) (.s x)
 |ty (n:String):RV K m H (.ty n) (.ty n)
 |t {a:Addr} {vs:List V} {ds:List D}:H a=some (.tup vs)→vs.length=ds.length→(∀ (j:Nat) v d,vs[j]?=some v→ds[j]?=some d→RV K m H v d)→RV K m H (.ref a) (.t ds)
 |k {a:Addr} {vs:List V} {ds:List D}:(∀ H',SqT K H' a vs)→vs.length=ds.length→(∀ (j:Nat) v d,vs[j]?=some v→ds[j]?=some d→RV K m H v d)→RV K m H (.ref a) (.k ds)
 |f {a:Addr} {vs:List V} {ds:List D}:FzL K H a vs→vs.length=ds.length→(∀ (j:Nat) v d,vs[j]?=some v→ds[j]?=some d→RV K m H v d)→RV K m H (.ref a) (.f ds)
 |r {l:Nat} {a:Addr}:m[l]?=some a→RV K m H (.ref a) (.r l)
 |fn {x:Str} {a:Addr}:PySem.W.nsIn K mainGlobals x=some (some (.ref a))→RV K m H (.ref a) (.fn x)
 |dc {a:Addr} {kws:List (Key×V)} {kvs:List (Key×D)}:KDict K a kws→kws.map (·.1)=kvs.map (·.1)→(∀ (j:Nat) w p,kws[j]?=some w→kvs[j]?=some p→RV K m H w.2 p.2)→RV K m H (.ref a) (.dc kvs)
def RVs(K:KW)(m:List Addr)(H:Hp)(vs:List V)(ds:List D):Prop:=vs.length=ds.length∧∀ (j:Nat) v d,vs[j]?=some v→ds[j]?=some d→RV K m H v d
def RC(K:KW)(m:List Addr)(H:Hp)(a:Addr):C→Prop
 | .l xs=>∃ vs,H a=some (.lst vs)∧RVs K m H vs xs
 | .st L=>H a=some (SetO K.w a L)
 | .d kvs=>∃ kws:List (Key×V),H a=some (.dK kws)∧kws.map (·.1)=kvs.map (·.1)∧RVs K m H (kws.map (·.2)) (kvs.map (·.2))
 | .o c fs=>∃ dx ws,H a=some (.ins c dx ws)∧ws.map (·.1)=fs.map (·.1)∧RVs K m H (ws.map (·.2)) (fs.map (·.2))
structure SR (K:KW) (m:List Addr) (H:Hp) (st:Sto):Prop where
 len:m.length=st.length
 nd:m.Nodup
 cel:∀ (l:Nat) a c,m[l]?=some a→st[l]?=some c→RC K m H a c
structure Stp (m:List Addr) (H:Hp) (m':List Addr) (H':Hp):Prop where
 pre:∀ (l:Nat) a,m[l]?=some a→m'[l]?=some a
 kt:∀ a o,H a=some o→cellO o=false→H' a=some o
 fr:∀ a o,H a=some o→a∉m→H' a=some o
 nw:∀ a,a∈m'→a∉m→H a=none
def RE(K:KW)(m:List Addr)(H:Hp)(σ:St)(env:En):Prop:=σ.length=env.length∧∀ (j:Nat) d,env[j]?=some (some d)→∃ v,σ[j]?=some (some v)∧RV K m H v d
section
variable{K:KW}{m m' m2:List Addr}{H H' H2:Hp}{st st':Sto}
theorem Stp.refl:Stp m H m H:=⟨fun _ _ h=>h,fun _ _ h _=>h,fun _ _ h _=>h,fun _ h n=>absurd h n⟩
theorem Stp.trans(s:Stp m H m' H')(u:Stp m' H' m2 H2):Stp m H m2 H2 where
 pre:=fun l a h=>u.pre l a (s.pre l a h)
 kt:=fun a o h c=>u.kt a o (s.kt a o h c) c
 fr:=fun a o h n=>u.fr a o (s.fr a o h n) fun hm=>by have:=s.nw a hm n;rw[h] at this;cases this
 nw:=fun a h n=>by
  by_cases h1:a∈m'
  ·exact s.nw a h1 n
  ·have e:=u.nw a h h1;cases q:H a with
   |none=>rfl
   |some o=>rw[s.fr a o q n] at e;cases e
theorem RV.stp{v:V}{d:D}(h:RV K m H v d)(s:Stp m H m' H'):RV K m' H' v d:=by
 induction h with
 |no=>exact .no
 |b=>exact .b _
 |i=>exact .i _
 |s=>exact .s _
 |ty=>exact .ty _
 |t e l _ ih=>exact .t (s.kt _ _ e rfl) l ih
 |k e l _ ih=>exact .k e l ih
 |f e l _ ih=>exact .f (e.kp s.kt) l ih
 |r e=>exact .r (s.pre _ _ e)
 |fn e=>exact .fn e
 |dc e k _ ih=>exact .dc e k ih
theorem RVs.stp{vs:List V}{ds:List D}(h:RVs K m H vs ds)(s:Stp m H m' H'):RVs K m' H' vs ds:=⟨h.1,fun j v d a b=>(h.2 j v d a b).stp s⟩
theorem RVs.nil:RVs K m H [] []:=⟨rfl,fun j v d h=>by simp at h⟩
theorem RVs.cons{v:V}{d:D}{vs:List V}{ds:List D}(h:RV K m H v d)(h':RVs K m H vs ds):RVs K m H (v::vs) (d::ds):=by
 refine⟨by rw[Z14,Z14,h'.1],fun i v' d' h1 h2=>?_⟩;cases i with
 |zero=>cases h1;cases h2;exact h
 |succ i=>exact h'.2 i v' d' (by simpa using h1) (by simpa using h2)
theorem RVs.append:∀ {vs:List V} {ds:List D} {vs':List V} {ds':List D},RVs K m H vs ds→RVs K m H vs' ds'→RVs K m H (vs++vs') (ds++ds')
 |[],[],_,_,_,h=>h
 |v::vs,d::ds,_,_,h,h'=>by
  have h1:RVs K m H vs ds:=⟨by have:=h.1;simpa using this,fun i v' d' e1 e2=>h.2 (i+1) v' d' (by simpa using e1) (by simpa using e2)⟩;exact .cons (h.2 0 v d rfl rfl) (h1.append h')
 |[],d::ds,_,_,h,_=>by have:=h.1;simp at this
 |v::vs,[],_,_,h,_=>by have:=h.1;simp at this
theorem RVs.one{v:V}{d:D}(h:RV K m H v d):RVs K m H [v] [d]:=.cons h .nil
theorem RVs.at{vs:List V}{ds:List D}{i:Nat}{d:D}(h:RVs K m H vs ds)(e:ds[i]?=some d):∃ v,vs[i]?=some v∧RV K m H v d:=by
 have hi:i<ds.length:=(Z10.mp e).1;have hv:i<vs.length:=by rw[h.1];exact hi
 exact⟨vs[i],by simp[hv],h.2 i vs[i] d (by simp[hv]) e⟩
theorem RVs.set{vs:List V}{ds:List D}{i:Nat}{v:V}{d:D}(h:RVs K m H vs ds)(hv:RV K m H v d):RVs K m H (vs.set i v) (ds.set i d):=by
 refine⟨by rw[U27,U27,h.1],fun j v' d' a b=>?_⟩;rw[V21] at a b
 by_cases hij:i=j
 ·subst hij;rw[if_pos rfl] at a b
  split at a
  ·split at b
   ·cases a;cases b;exact hv
   ·cases b
  ·cases a
 ·rw[if_neg hij] at a b;exact h.2 j v' d' a b
theorem RVs.take{vs:List V}{ds:List D}(h:RVs K m H vs ds)(n:Nat):RVs K m H (vs.take n) (ds.take n):=by
 refine⟨by rw[U23,U23,h.1],fun j v d a b=>?_⟩;rw[List.getElem?_take] at a b
 split at a
 ·rename_i hj;rw[if_pos hj] at b;exact h.2 j v d a b
 ·cases a
theorem RVs.drop{vs:List V}{ds:List D}(h:RVs K m H vs ds)(n:Nat):RVs K m H (vs.drop n) (ds.drop n):=by
 refine⟨by rw[Y19,Y19,h.1],fun j v d a b=>?_⟩;rw[List.getElem?_drop] at a b;exact h.2 _ v d a b
theorem RVs.rev{vs:List V}{ds:List D}(h:RVs K m H vs ds):RVs K m H vs.reverse ds.reverse:=by
 refine⟨by rw[V23,V23,h.1],fun j v d a b=>?_⟩;have hj:j<vs.length:=by have:=(Z10.mp a).1;simpa using this
 rw[Y22 hj] at a;rw[Y22 (by rw[← h.1];exact hj),← h.1] at b;exact h.2 _ v d a b
theorem RVs.dropLast{vs:List V}{ds:List D}(h:RVs K m H vs ds):RVs K m H vs.dropLast ds.dropLast:=by
 rw[List.dropLast_eq_take,List.dropLast_eq_take,h.1];exact h.take _
theorem RVs.atI{vs:List V}{ds:List D}{i:Int}{d:D}(h:RVs K m H vs ds)(e:L2.atI ds i=some d):∃ v,L2.atI vs i=some v∧RV K m H v d:=by
 unfold L2.atI at e ⊢;rw[h.1];cases q:ixN ds.length i with
 |none=>rw[q] at e;cases e
 |some j=>rw[q] at e;obtain⟨v,h1,h2⟩:=h.at (by simpa using e);exact⟨v,by simpa using h1,h2⟩
theorem RVs.cut{vs:List V}{ds:List D}(h:RVs K m H vs ds)(lo hi:Option Int):RVs K m H (cutV vs lo hi) ((ds.drop (HT.sIx ds.length 0 lo)).take (HT.sIx ds.length ds.length hi - HT.sIx ds.length 0 lo)):=by
 unfold cutV;rw[h.1];exact(h.drop _).take _
theorem RE.stp{σ:St}{env:En}(h:RE K m H σ env)(s:Stp m H m' H'):RE K m' H' σ env:=⟨h.1,fun j d e=>by obtain⟨v,h1,h2⟩:=h.2 j d e;exact⟨v,h1,h2.stp s⟩⟩
theorem RE.set{σ:St}{env:En}{i:Nat}{v:V}{d:D}(h:RE K m H σ env)(hv:RV K m H v d):RE K m H (σ.set i (some v)) (env.set i (some d)):=by
 refine⟨by rw[U27,U27,h.1],fun j d' e=>?_⟩;rw[V21] at e
 by_cases hij:i=j
 ·subst hij;rw[if_pos rfl] at e
  split at e
  ·rename_i hl;cases e;exact⟨v,by rw[V21,if_pos rfl,if_pos (by rw[h.1];exact hl)],hv⟩
  ·cases e
 ·rw[if_neg hij] at e;obtain⟨w,h1,h2⟩:=h.2 j d' e;exact⟨w,by rw[V21,if_neg hij];exact h1,h2⟩
theorem RC.obj{a:Addr}{c:C}(h:RC K m H a c):∃ o,H a=some o∧cellO o=true:=by
 cases c with
 |l xs=>obtain⟨vs,e,_⟩:=h;exact⟨_,e,rfl⟩
 |d kvs=>obtain⟨vs,e,_⟩:=h;exact⟨_,e,rfl⟩
 |o c fs=>obtain⟨dx,ws,e,_⟩:=h;exact⟨_,e,rfl⟩
 |st L=>exact⟨_,h,rfl⟩
theorem RC.kp{a:Addr}{c:C}(h:RC K m H a c)(s:Stp m H m' H')(e:H' a=H a):RC K m' H' a c:=by
 cases c with
 |l xs=>obtain⟨vs,e',q⟩:=h;exact⟨vs,e.trans e',q.stp s⟩
 |d kvs=>obtain⟨vs,e',k,q⟩:=h;exact⟨vs,e.trans e',k,q.stp s⟩
 |o c fs=>obtain⟨dx,ws,e',k,q⟩:=h;exact⟨dx,ws,e.trans e',k,q.stp s⟩
 |st L=>exact e.trans h
theorem SR.mem{a:Addr}(S:SR K m H st)(h:a∈m):∃ o,H a=some o∧cellO o=true:=by
 obtain⟨l,hl⟩:=W36 h;have hi:l<m.length:=(Z10.mp hl).1;have hs:l<st.length:=by rw[← S.len];exact hi
 exact(S.cel l a st[l] hl (by simp[hs])).obj
theorem SR.same(S:SR K m H st)(s:Same H H'):SR K m H' st∧Stp m H m H':=by
 have p:Stp m H m H':=⟨fun _ _ h=>h,fun a o h _=>s a o h,fun a o h _=>s a o h,fun a h n=>absurd h n⟩;refine⟨⟨S.len,S.nd,fun l a c h1 h2=>?_⟩,p⟩;have q:=S.cel l a c h1 h2;obtain⟨o,e,_⟩:=q.obj;exact q.kp p (by rw[e];exact s _ _ e)
theorem oY{p:Addr}{o:HO}(h:H p=none):Same H (upd H p o):=fun b u e=>by rw[aG (aH e h)];exact e
theorem SR.new{p:Addr}{o:HO}{c:C}(S:SR K m H st)(h:H p=none)(hc:Stp m H (m++[p]) (upd H p o)→RC K (m++[p]) (upd H p o) p c):SR K (m++[p]) (upd H p o) (st++[c])∧Stp m H (m++[p]) (upd H p o):=by
 have s:=oY (o:=o) h;have hp:p∉m:=fun hm=>by obtain⟨o',e,_⟩:=S.mem hm;rw[h] at e;cases e
 have q:Stp m H (m++[p]) (upd H p o):=by
  refine⟨fun l a e=>by rw[Y15 (Z10.mp e).1];exact e,fun a u e _=>s a u e,fun a u e _=>s a u e,fun a hm n=>?_⟩;rcases V27.mp hm with hm|hm
  ·exact absurd hm n
  ·rw[W15.mp hm];exact h
 refine⟨⟨by simp[S.len],?_,fun l a c' h1 h2=>?_⟩,q⟩
 ·rw[List.nodup_append];exact⟨S.nd,by simp,fun a ha b hb e=>by rw[W15.mp hb] at e;exact hp (e ▸ ha)⟩
 ·by_cases hl:l<m.length
  ·rw[Y15 hl] at h1;rw[Y15 (by rw[← S.len];exact hl)] at h2;have r:=S.cel l a c' h1 h2;obtain⟨o',e,_⟩:=r.obj;exact r.kp q (by rw[e];exact s _ _ e)
  ·have hl2:l=m.length:=by
    have:=(Z10.mp h1).1;simp at this;omega
   subst hl2;rw[W13 (Y12 _)] at h1;rw[S.len,W13 (Y12 _)] at h2;simp at h1 h2;subst h1 h2;exact hc q
theorem SR.put{p:Addr}{l:Nat}{o o':HO}{c:C}(S:SR K m H st)(hl:m[l]?=some p)(ho:H p=some o)(hk:cellO o=true)(hc:Stp m H m (upd H p o')→RC K m (upd H p o') p c):SR K m (upd H p o') (st.set l c)∧Stp m H m (upd H p o'):=by
 have q:Stp m H m (upd H p o'):=by
  refine⟨fun _ _ h=>h,fun a u e n=>?_,fun a u e n=>?_,fun a h n=>absurd h n⟩
  ·rw[aG fun z=>by subst z;rw[ho] at e;cases e;rw[hk] at n;cases n];exact e
  ·rw[aG fun z=>by subst z;exact n (W24 hl)];exact e
 refine⟨⟨by rw[U27];exact S.len,S.nd,fun j a c' h1 h2=>?_⟩,q⟩;rw[V21] at h2
 by_cases hj:l=j
 ·subst hj;rw[if_pos rfl] at h2;rw[hl] at h1
  split at h2
  ·cases h1;cases h2;exact hc q
  ·cases h2
 ·rw[if_neg hj] at h2;have r:=S.cel j a c' h1 h2;refine r.kp q (aG fun z=>?_);subst z;exact hj ((List.getElem?_inj (Z10.mp hl).1 S.nd).mp (hl.trans h1.symm))
theorem SR.newT{p:Addr}{vs:List V}{ds:List D}(S:SR K m H st)(h:H p=none)(r:RVs K m H vs ds):SR K m (upd H p (.tup vs)) st∧Stp m H m (upd H p (.tup vs))∧RV K m (upd H p (.tup vs)) (.ref p) (.t ds):=by
 obtain⟨S',q⟩:=S.same (oY (o:=.tup vs) h);exact⟨S',q, .t bI r.1 (r.stp q).2⟩
theorem SR.newL{p:Addr}{vs:List V}{ds:List D}(S:SR K m H st)(h:H p=none)(r:RVs K m H vs ds):SR K (m++[p]) (upd H p (.lst vs)) (st++[.l ds])∧Stp m H (m++[p]) (upd H p (.lst vs))∧RV K (m++[p]) (upd H p (.lst vs)) (.ref p) (.r st.length):=by
 obtain⟨S',q⟩:=S.new (c:=.l ds) h fun q=>⟨vs,bI,r.stp q⟩;exact⟨S',q, .r (by rw[← S.len];simp)⟩
theorem SR.putL{p:Addr}{l:Nat}{o:HO}{vs:List V}{ds:List D}(S:SR K m H st)(hl:m[l]?=some p)(ho:H p=some o)(hk:cellO o=true)(r:RVs K m H vs ds):SR K m (upd H p (.lst vs)) (st.set l (.l ds))∧Stp m H m (upd H p (.lst vs)):=
 S.put hl ho hk fun q=>⟨vs,bI,r.stp q⟩
theorem SR.lst{v:V}{l:Nat}{xs:List D}(S:SR K m H st)(h:RV K m H v (.r l))(e:st[l]?=some (.l xs)):∃ a vs,v=.ref a∧m[l]?=some a∧H a=some (.lst vs)∧RVs K m H vs xs:=by
 cases h with
 |r hl=>obtain⟨vs,h1,h2⟩:=S.cel l _ _ hl e;exact⟨_,vs,rfl,hl,h1,h2⟩
end
variable{α β:Type}
noncomputable def ret(a:α):M α:=fun st=>some (a,st)
noncomputable def bad:M α:=fun _=>none
noncomputable def bnd(x:M α)(f:α→M β):M β:=fun st=>match x st with
 |some (a,st')=>f a st'
 |none=>none
noncomputable def opt(x:Option α):M α:=fun st=>match x with
 |some a=>some (a,st)
 |none=>none
def need(p:Prop)[Decidable p](x:M α):M α:=fun st=>@ite _ p (Classical.propDecidable p) (x st) none
theorem aA{x:M α}{f:α→M β}{st:Sto}{r:β×Sto}(h:bnd x f st=some r):∃ a st1,x st=some (a,st1)∧f a st1=some r:=by
 unfold bnd at h;cases q:x st with
 |none=>rw[q] at h;cases h
 |some p=>rw[q] at h;exact⟨p.1,p.2,rfl,h⟩
theorem aQ{x:M α}{f:α→M β}{st:Sto}{a:α}{st1:Sto}(h:x st=some (a,st1)):bnd x f st=f a st1:=by unfold bnd;rw[h]
theorem aL{p:Prop}[Decidable p]{x:M α}{st:Sto}{r:α×Sto}(h:need p x st=some r):p∧x st=some r:=by
 unfold need at h
 split at h
 ·exact⟨by assumption,h⟩
 ·cases h
theorem dZ{p:Prop}[Decidable p]{x:M α}{st:Sto}(h:p):need p x st=x st:=by unfold need;rw[if_pos h]
theorem aB{a:α}{st:Sto}{r:α×Sto}(h:ret a st=some r):r=(a,st):=by unfold ret at h;exact(U14 h).symm
theorem lY{x:Option α}{st:Sto}{a:α}{st':Sto}(h:opt x st=some (a,st')):x=some a∧st'=st:=by
 unfold opt at h;cases x with
 |none=>cases h
 |some b=>cases h;exact⟨rfl,rfl⟩
section
variable(K:KW)
def Fin(m:List Addr)(H:Hp)(d:D)(st':Sto)(Q:VK):Prop:=∀ v H' m',Stp m H m' H'→SR K m' H' st'→RV K m' H' v d→Q v H'
def LE(te:En→M D):TE:=fun σ H Q=>∃ m env st d st',SR K m H st∧RE K m H σ env∧te env st=some (d,st')∧Fin K m H d st' Q
def LT(te:En→M Bool):TT:=fun σ H Q=>∃ m env st d st',SR K m H st∧RE K m H σ env∧te env st=some (d,st')∧∀ H' m',Stp m H m' H'→SR K m' H' st'→Q d H'
def LA(te:En→M (List D)):TA:=fun σ H Q=>∃ m env st d st',SR K m H st∧RE K m H σ env∧te env st=some (d,st')∧∀ vs H' m',Stp m H m' H'→SR K m' H' st'→RVs K m' H' vs d→Q vs H'
def LR(f:D→D→M D):R2:=fun x y H Q=>∃ m st dx dy d st',SR K m H st∧RV K m H x dx∧RV K m H y dy∧f dx dy st=some (d,st')∧Fin K m H d st' Q
def LU(f:D→M D):V→Hp→VK→Prop:=fun x H Q=>∃ m st dx d st',SR K m H st∧RV K m H x dx∧f dx st=some (d,st')∧Fin K m H d st' Q
def LC(f:List D→M D):List V→Hp→VK→Prop:=fun xs H Q=>∃ m st ds d st',SR K m H st∧RVs K m H xs ds∧f ds st=some (d,st')∧Fin K m H d st' Q
def LM(f:D→List D→M D):V→List V→Hp→VK→Prop:=fun x xs H Q=>∃ m st dx ds d st',SR K m H st∧RV K m H x dx∧RVs K m H xs ds∧f dx ds st=some (d,st')∧Fin K m H d st' Q
def LO(te:En→M (Option Int)):TO:=fun σ H Q=>∃ m env st d st',SR K m H st∧RE K m H σ env∧te env st=some (d,st')∧∀ H' m',Stp m H m' H'→SR K m' H' st'→Q d H'
def LSl(f:D→Option Int→Option Int→M D):V→Option Int→Option Int→Hp→VK→Prop:=fun x lo hi H Q=>∃ m st dx d st',SR K m H st∧RV K m H x dx∧f dx lo hi st=some (d,st')∧Fin K m H d st' Q
def LF(f:List D→M D):Sp:=fun xs H Q _=>LC K f xs H Q
end
abbrev QE(X:Cx)(e:Expr)(te:En→M D):Prop:=PE X e (LE X.kw te)
abbrev QT(X:Cx)(e:Expr)(te:En→M Bool):Prop:=PT X e (LT X.kw te)
abbrev QW(X:Cx)(e:Expr)(te:En→M Bool):Prop:=PW X e (LT X.kw te)
abbrev QA(X:Cx)(e:List Expr)(te:En→M (List D)):Prop:=PA X e (LA X.kw te)
theorem Fin.now{K:KW}{m:List Addr}{H:Hp}{d:D}{st:Sto}{Q:VK}(k:Fin K m H d st Q)(S:SR K m H st){v:V}(r:RV K m H v d):Q v H:=k v H m .refl S r
section
variable{X:Cx}{pos:Pos}{a b c:Expr}{ta tb:En→M D}{tc td:En→M Bool}
noncomputable def vD(i:Nat)(env:En):M D:=fun st=>match env[i]? with
 |some (some d)=>some (d,st)
 |_=>none
theorem sD{i:Nat}{env:En}{st st':Sto}{d:D}(h:vD i env st=some (d,st')):env[i]?=some (some d)∧st'=st:=by
 unfold vD at h
 split at h
 ·cases h;exact⟨by assumption,rfl⟩
 ·cases h
theorem qv(i:Nat){x:Str}(hN:X.N[i]?=some x:=by rfl)(hv:Vis X.env.scope x:=by first|exact Or.inl rfl|exact Or.inr (Or.inl rfl)|exact Or.inr (Or.inr rfl))(hd:(x==("__debug__":Str))=false:=by decide)(hcd:(x==("__classdict__":Str))=false:=by decide):QE X (.Name x pos) (vD i):=by
 refine aT (aAZ (i:=i) hN hv hd hcd) ?_;rintro σ H Q ⟨m,env,st,d,st',S,E,e,k⟩;obtain⟨e1,rfl⟩:=sD e;obtain⟨v,h1,h2⟩:=E.2 i d e1;exact⟨v,h1,k.now S h2⟩
theorem zW{e:Expr}{v:V}(d:D)(h:PE X e (tC v))(r:∀ m H,RV X.kw m H v d):QE X e (fun _=>ret d):=by
 refine aT h ?_;rintro σ H Q ⟨m,env,st,d',st',S,E,e,k⟩;cases aB e;exact k.now S (r m H)
theorem aGz{i:Int}{j}:QE X (.Constant (.int i) j pos) (fun _=>ret (.i i)):=zW _ aFG fun _ _=>.i _
theorem aGA{i:Str}{j}:QE X (.Constant (.str i) j pos) (fun _=>ret (.s i)):=zW _ aFI fun _ _=>.s _
theorem aIt{i:Bool}{j}:QE X (.Constant (.bool i) j pos) (fun _=>ret (.b i)):=zW _ aIf fun _ _=>.b _
theorem aGB{j}:QE X (.Constant .none j pos) (fun _=>ret .no):=zW _ aFH fun _ _=>.no
theorem aEk{x:Str}{v:V}{u:Value}(d:D)(hg:Gl X x)(hm:X.mg x=some u)(r:RelV v u)(rd:∀ m H,RV X.kw m H v d)(hd:(x==("__debug__":Str))=false:=by decide):QE X (.Name x pos) (fun _=>ret d):=zW d (aDE hg hm r hd) rd
theorem aIu{x:Str}{n:String}(hg:Gl X x)(hm:X.mg x=none)(hv:bootBuiltins x=some (.type n))(hn:x≠"__name__":=by decide)(hd:(x==("__debug__":Str))=false:=by decide):QE X (.Name x pos) (fun _=>ret (.ty n)):=zW (.ty n) (aDF (v:=.ty n) hg hm hv rfl hn hd) fun _ _=>.ty _
theorem sH{K:KW}{ta tb:En→M D}{f:D→D→M D}{σ:St}{H:Hp}{Q:VK}(h:LE K (fun env=>bnd (ta env) fun x=>bnd (tb env) fun y=>f x y) σ H Q):tOp (LR K f) (LE K ta) (LE K tb) σ H Q:=by
 obtain⟨m,env,st,d,st',S,E,e,k⟩:=h;obtain⟨x,st1,e1,e2⟩:=aA e;obtain⟨y,st2,e3,e4⟩:=aA e2;exact⟨m,env,st,x,st1,S,E,e1,fun v1 H1 m1 s1 S1 r1=>⟨m1,env,st1,y,st2,S1,E.stp s1,e3,fun v2 H2 m2 s2 S2 r2=>⟨m2,st2,x,y,d,st',S2,r1.stp s2,r2,e4,fun v H' m' s3 S3 r3=>k v H' m' ((s1.trans s2).trans s3) S3 r3⟩⟩⟩
theorem aIv{op:Operator}{f:D→D→M D}(ho:OpR X (binaryOp op) (LR X.kw f))(ha:QE X a ta)(hb:QE X b tb):QE X (.BinOp a op b pos) (fun env=>bnd (ta env) fun x=>bnd (tb env) fun y=>f x y):=
 aT (aIj ho ha hb) fun _ _ _ h=>sH h
theorem aGC{op:CmpOp}{f:D→D→M D}(ho:OpR X (compareOp op) (LR X.kw f))(ha:QE X a ta)(hb:QE X b tb)(hm:behindInMarks op b=false):QE X (.Compare a [op] [b] pos) (fun env=>bnd (ta env) fun x=>bnd (tb env) fun y=>f x y):=
 aT (aDQ ho ha hb hm) fun _ _ _ h=>sH h
noncomputable def isB:D→M Bool
 | .b x=>ret x
 |_=>bad
theorem lZ{d:D}{st st':Sto}{x:Bool}(h:isB d st=some (x,st')):d=.b x∧st'=st:=by
 cases d<;>first|(cases h;exact⟨rfl,rfl⟩)|cases h
theorem aGD{op:CmpOp}{f:D→D→M D}(ho:OpR X (compareOp op) (LR X.kw f))(ha:QE X a ta)(hb:QE X b tb)(hm:behindInMarks op b=false):QT X (.Compare a [op] [b] pos) (fun env=>bnd (bnd (ta env) fun x=>bnd (tb env) fun y=>f x y) isB):=by
 refine wF (aDR ho ha hb hm) ?_;rintro σ H Q ⟨m,env,st,d,st',S,E,e,k⟩;obtain⟨x,st1,e1,e2⟩:=aA e;obtain⟨rfl,rfl⟩:=lZ e2;refine sH ⟨m,env,st, .b d,st',S,E,e1,fun v H' m' s S' r=>?_⟩;cases r;exact⟨d,rfl,k H' m' s S'⟩
noncomputable def cTru:Option C→Option Bool
 |some (.l xs)=>some (!xs.isEmpty)
 |some (.d xs)=>some (!xs.isEmpty)
 |_=>none
def truD:D→M Bool
 | .no=>ret false
 | .b x=>ret x
 | .i n=>ret (n != 0)
 | .s y=>need (y.length≤sizeLine) (ret ((y.length:Int) != 0))
 | .t xs=>ret (!xs.isEmpty)
 | .k xs=>ret (!xs.isEmpty)
 | .f xs=>ret (!xs.isEmpty)
 | .r l=>fun st=>opt (cTru st[l]?) st
 | .ty _=>bad
 | .fn _=>bad
 | .dc _=>bad
theorem mB{α β:Type}{xs:List α}{ys:List β}(h:xs.length=ys.length):(!xs.isEmpty)=!ys.isEmpty:=by
 cases xs<;>cases ys<;>simp_all
theorem aGE{K:KW}{m:List Addr}{H:Hp}{st st':Sto}{x:V}{d:D}{k:Bool}(S:SR K m H st)(r:RV K m H x d)(e:truD d st=some (k,st')):TruV K x H k∧st'=st:=by
 cases r with
 |no=>cases e;exact⟨rfl,rfl⟩
 |b=>cases e;exact⟨rfl,rfl⟩
 |i=>cases e;exact⟨rfl,rfl⟩
 |s=>obtain⟨h,e⟩:=aL e;cases e;exact⟨⟨h,rfl⟩,rfl⟩
 |ty=>cases e
 |fn=>cases e
 |dc=>cases e
 |t e1 l _=>cases e;exact⟨.inr (.inl ⟨_,SqT.of e1,(mB l).symm⟩),rfl⟩
 |k e1 l _=>cases e;exact⟨.inr (.inl ⟨_,e1 H,(mB l).symm⟩),rfl⟩
 |f e1 l _=>cases e;exact⟨.inl ⟨_,e1.sq,(mB l).symm⟩,rfl⟩
 |@r l a e1=>
  obtain⟨e,rfl⟩:=lY e
  match hs:st'[l]? with
  |none=>rw[hs] at e;cases e
  |some (.o _ _)=>rw[hs] at e;cases e
  |some (.st _)=>rw[hs] at e;cases e
  |some (.l xs)=>
   rw[hs] at e;cases e;obtain⟨vs,h1,h2⟩:=S.cel l a _ e1 hs;exact⟨.inl ⟨_,SqL.of h1,(mB h2.1).symm⟩,rfl⟩
  |some (.d xs)=>
   rw[hs] at e;cases e;obtain⟨vs,h1,h2,h3⟩:=S.cel l a _ e1 hs;exact⟨.inr (.inr ⟨_,h1,(mB (by have:=congrArg List.length h2;simpa using this)).symm⟩),rfl⟩
theorem aGF(ha:QE X a ta)(he:∀ whole,isTrue a X.env whole=(do let v ← whole;standAt a.pos;holding [v] (truthy v)):=by intro _;rfl):QT X a (fun env=>bnd (ta env) truD):=by
 refine wF (aBg ha he) ?_;rintro σ H Q ⟨m,env,st,d,st',S,E,e,k⟩;obtain⟨x,st1,e1,e2⟩:=aA e;refine⟨m,env,st,x,st1,S,E,e1,fun v H' m' s S' r=>?_⟩;obtain⟨h,rfl⟩:=aGE S' r e2;exact⟨d,h,k H' m' s S'⟩
theorem aEm(ha:QT X a tc):QW X (.BoolOp .And [a] pos) tc:=aDG ha
theorem aGG(ha:QT X a tc):QW X (.BoolOp .Or [a] pos) tc:=aFJ ha
theorem aGH{rest:List Expr}(ha:QT X a tc)(hb:QW X (.BoolOp .And (b::rest) pos) td):QW X (.BoolOp .And (a::b::rest) pos) (fun env=>bnd (tc env) fun x=>if x=true then td env else ret false):=by
 refine aBC (aFK ha hb) ?_;rintro σ H Q ⟨m,env,st,d,st',S,E,e,k⟩;obtain⟨x,st1,e1,e2⟩:=aA e;refine⟨m,env,st,x,st1,S,E,e1,fun H' m' s S'=>?_⟩;cases x with
 |true=>exact⟨m',env,st1,d,st',S',E.stp s,e2,fun H2 m2 s2 S2=>k H2 m2 (s.trans s2) S2⟩
 |false=>cases aB e2;exact k H' m' s S'
theorem aIw{rest:List Expr}(ha:QT X a tc)(hb:QW X (.BoolOp .Or (b::rest) pos) td):QW X (.BoolOp .Or (a::b::rest) pos) (fun env=>bnd (tc env) fun x=>if x=true then ret true else td env):=by
 refine aBC (aIg ha hb) ?_;rintro σ H Q ⟨m,env,st,d,st',S,E,e,k⟩;obtain⟨x,st1,e1,e2⟩:=aA e;refine⟨m,env,st,x,st1,S,E,e1,fun H' m' s S'=>?_⟩;cases x with
 |false=>exact⟨m',env,st1,d,st',S',E.stp s,e2,fun H2 m2 s2 S2=>k H2 m2 (s.trans s2) S2⟩
 |true=>cases aB e2;exact k H' m' s S'
theorem aJh(h:QW X a tc):QT X a tc:=PW.pt h
theorem aGI(ha:QT X a tc):QT X (.UnaryOp .Not a pos) (fun env=>bnd (tc env) fun x=>ret (!x)):=by
 refine wF (aFL ha) ?_;rintro σ H Q ⟨m,env,st,d,st',S,E,e,k⟩;obtain⟨x,st1,e1,e2⟩:=aA e;cases aB e2;exact⟨m,env,st,x,_,S,E,e1,fun H' m' s S'=>k H' m' s S'⟩
theorem aGJ{op}(h:QE X a ta):QE X (.BoolOp op [a] pos) ta:=aFM h
theorem aGK{rest:List Expr}(ha:QE X a ta)(hb:QE X (.BoolOp .And (b::rest) pos) tb):QE X (.BoolOp .And (a::b::rest) pos) (fun env=>bnd (bnd (ta env) isB) fun x=>if x=true then tb env else ret (.b false)):=by
 refine aT (aFN ha hb) ?_;rintro σ H Q ⟨m,env,st,d,st',S,E,e,k⟩;obtain⟨x,st1,e1,e2⟩:=aA e;obtain⟨y,st2,e3,e4⟩:=aA e1;obtain⟨rfl,rfl⟩:=lZ e4;refine⟨m,env,st, .b x,_,S,E,e3,fun v H' m' s S' r=>?_⟩;cases r;refine⟨x,rfl,?_⟩;cases x with
 |true=>exact⟨m',env,st1,d,st',S',E.stp s,e2,fun v H2 m2 s2 S2=>k v H2 m2 (s.trans s2) S2⟩
 |false=>cases aB e2;exact k _ H' m' s S' (.b _)
theorem aIx{rest:List Expr}(ha:QE X a ta)(hb:QE X (.BoolOp .Or (b::rest) pos) tb):QE X (.BoolOp .Or (a::b::rest) pos) (fun env=>bnd (bnd (ta env) isB) fun x=>if x=true then ret (.b true) else tb env):=by
 refine aT (aIh ha hb) ?_;rintro σ H Q ⟨m,env,st,d,st',S,E,e,k⟩;obtain⟨x,st1,e1,e2⟩:=aA e;obtain⟨y,st2,e3,e4⟩:=aA e1;obtain⟨rfl,rfl⟩:=lZ e4;refine⟨m,env,st, .b x,_,S,E,e3,fun v H' m' s S' r=>?_⟩;cases r;refine⟨x,rfl,?_⟩;cases x with
 |false=>exact⟨m',env,st1,d,st',S',E.stp s,e2,fun v H2 m2 s2 S2=>k v H2 m2 (s.trans s2) S2⟩
 |true=>cases aB e2;exact k _ H' m' s S' (.b _)
theorem aGL(ha:QE X a ta):QE X (.UnaryOp .Not a pos) (fun env=>bnd (bnd (ta env) isB) fun x=>ret (.b (!x))):=by
 refine aT (aFO ha) ?_;rintro σ H Q ⟨m,env,st,d,st',S,E,e,k⟩;obtain⟨x,st1,e1,e2⟩:=aA e;obtain⟨y,st2,e3,e4⟩:=aA e1;obtain⟨rfl,rfl⟩:=lZ e4;cases aB e2;refine⟨m,env,st, .b x,_,S,E,e3,fun v H' m' s S' r=>?_⟩;cases r;exact⟨x,rfl,k _ H' m' s S' (.b _)⟩
theorem aBG(hc:QT X c tc)(ha:QE X a ta)(hb:QE X b tb):QE X (.IfExp c a b pos) (fun env=>bnd (tc env) fun x=>if x=true then ta env else tb env):=by
 refine aT (aBa hc ha hb) ?_;rintro σ H Q ⟨m,env,st,d,st',S,E,e,k⟩;obtain⟨x,st1,e1,e2⟩:=aA e;refine⟨m,env,st,x,st1,S,E,e1,fun H' m' s S'=>?_⟩;cases x with
 |true=>exact⟨m',env,st1,d,st',S',E.stp s,e2,fun v H2 m2 s2 S2=>k v H2 m2 (s.trans s2) S2⟩
 |false=>exact⟨m',env,st1,d,st',S',E.stp s,e2,fun v H2 m2 s2 S2=>k v H2 m2 (s.trans s2) S2⟩
theorem aIy{op:UnaryOp}{f:D→M D}(ho:UnR X (unaryOp op) (LU X.kw f))(ha:QE X a ta):QE X (.UnaryOp op a pos) (fun env=>bnd (ta env) f):=by
 refine aT (aIk ho ha) ?_;rintro σ H Q ⟨m,env,st,d,st',S,E,e,k⟩;obtain⟨x,st1,e1,e2⟩:=aA e;exact⟨m,env,st,x,st1,S,E,e1,fun v H' m' s S' r=>⟨m',st1,x,d,st',S',r,e2,fun v2 H2 m2 s2 S2=>k v2 H2 m2 (s.trans s2) S2⟩⟩
theorem aGM:QA X [] (fun _=>ret []):=by
 refine aBD aGh ?_;rintro σ H Q ⟨m,env,st,d,st',S,E,e,k⟩;cases aB e;exact k [] H m .refl S .nil
theorem aEn{es:List Expr}{t:En→M (List D)}(ha:QE X a ta)(hr:QA X es t)(hs:starEach (a::es) X.env=(false,eval a X.env)::starEach es X.env:=by rfl):QA X (a::es) (fun env=>bnd (ta env) fun x=>bnd (t env) fun xs=>ret (x::xs)):=by
 refine aBD (aDU ha hr hs) ?_;rintro σ H Q ⟨m,env,st,d,st',S,E,e,k⟩;obtain⟨x,st1,e1,e2⟩:=aA e;obtain⟨y,st2,e3,e4⟩:=aA e2;cases aB e4;exact⟨m,env,st,x,st1,S,E,e1,fun v1 H1 m1 s1 S1 r1=>⟨m1,env,st1,y,_,S1,E.stp s1,e3,fun v2 H2 m2 s2 S2 r2=>k _ H2 m2 (s1.trans s2) S2 (.cons (r1.stp s2) r2)⟩⟩
theorem aGN{es:List Expr}{t:En→M (List D)}{x1}(h:QA X es t):QE X (.Tuple es x1 pos) (fun env=>bnd (t env) fun xs=>need (xs.length≤sizeLine) (ret (.t xs))):=by
 refine aT (aGi h) ?_;rintro σ H Q ⟨m,env,st,d,st',S,E,e,k⟩;obtain⟨x,st1,e1,e2⟩:=aA e;obtain⟨hl,e2⟩:=aL e2;cases aB e2;refine⟨m,env,st,x,_,S,E,e1,fun vs H' m' s S' r=>⟨by rw[r.1];exact hl,fun p hp=>?_⟩⟩;obtain⟨S2,s2,r2⟩:=S'.newT hp r;exact k _ _ _ (s.trans s2) S2 r2
noncomputable def newL(xs:List D):M D:=fun st=>if xs.length≤sizeLine then some (.r st.length,st++[.l xs]) else none
theorem mS{xs:List D}{st st':Sto}{d:D}(h:newL xs st=some (d,st')):xs.length≤sizeLine∧d=.r st.length∧st'=st++[.l xs]:=by
 unfold newL at h
 split at h
 ·cases h;exact⟨by assumption,rfl,rfl⟩
 ·cases h
theorem aGO{es:List Expr}{t:En→M (List D)}(h:QA X es t):QE X (.List es pos) (fun env=>bnd (t env) newL):=by
 refine aT (aGj h) ?_;rintro σ H Q ⟨m,env,st,d,st',S,E,e,k⟩;obtain⟨x,st1,e1,e2⟩:=aA e;obtain⟨hl,rfl,rfl⟩:=mS e2;refine⟨m,env,st,x,_,S,E,e1,fun vs H' m' s S' r=>⟨by rw[r.1];exact hl,fun p hp=>?_⟩⟩;obtain⟨S2,s2,r2⟩:=S'.newL hp r;exact k _ _ _ (s.trans s2) S2 r2
theorem sJ{K:KW}{t:En→M (List D)}{f:List D→M D}{σ:St}{H:Hp}{Q:VK}(h:LE K (fun env=>bnd (t env) f) σ H Q):LA K t σ H fun vs H1=>LC K f vs H1 Q:=by
 obtain⟨m,env,st,d,st',S,E,e,k⟩:=h;obtain⟨x,st1,e1,e2⟩:=aA e;exact⟨m,env,st,x,st1,S,E,e1,fun vs H' m' s S' r=>⟨m',st1,x,d,st',S',r,e2,fun v H2 m2 s2 S2=>k v H2 m2 (s.trans s2) S2⟩⟩
theorem aEo{CX:CXT}{k:Nat}{f:Addr}{fd:FuncData}{ps:List Str}{x:Str}{p:Pos}{es:List Expr}{E:XK}{t:En→M (List D)}{g:List D→M D}(F:FnOk X.prog X.w X.K X.mg X.base CX k f fd ps (LF X.kw g))(hr:Room k X.A)(hg:Gl X x)(hm:X.mg x=some (.ref f))(hk:PySem.W.keepIn X.K (.ref f)=true)(hb:Binds X.K fd ps [])(hx:Passes CX X E)
  (ha:QA X (a::es) t)(hdb:(x==("__debug__":Str))=false:=by decide)(he:starEach (a::es) X.env=(false,eval a X.env)::starEach es X.env:=by rfl)(hpl:(backTo pos (starEach es X.env)).any (·.1)=false:=by rfl):
  QE X (.Call (.Name x p) (a::es) [] pos) (fun env=>bnd (t env) g):=by
 refine aT (aDV F hr hg hm hk hb .nil hx ha hdb he hpl) ?_;intro σ H Q h;have:=sJ h;obtain⟨m,env,st,d,st',S,E,e,k⟩:=this;exact⟨m,env,st,d,st',S,E,e,fun vs H' m' s S' r=>by show LF X.kw g (vs++[]) H' Q _;rw[V12];exact k vs H' m' s S' r⟩
theorem aBH{es:List Expr}{t:En→M (List D)}{g:List D→M D}{id:String}{x:Str}{p:Pos}(hc:CallR X (.builtin id) (LC X.kw g))(hg:Gl X x)(hm:X.mg x=none)(hv:bootBuiltins x=some (.builtin id))(ha:QA X (a::es) t)(hn:x≠"__name__":=by decide)(hdb:(x==("__debug__":Str))=false:=by decide)
  (he:starEach (a::es) X.env=(false,eval a X.env)::starEach es X.env:=by rfl)(hpl:(backTo pos (starEach es X.env)).any (·.1)=false:=by rfl):
  QE X (.Call (.Name x p) (a::es) [] pos) (fun env=>bnd (t env) g):=aT (aBm hc hg hm hv ha hn hdb he hpl) fun _ _ _ h=>sJ h
theorem zX{es:List Expr}{t:En→M (List D)}{g:List D→M D}{T:String}{x:Str}{p:Pos}(hc:CallR X (.type T) (LC X.kw g))(hg:Gl X x)(hm:X.mg x=none)(hv:bootBuiltins x=some (.type T))(ha:QA X (a::es) t)(hn:x≠"__name__":=by decide)(hdb:(x==("__debug__":Str))=false:=by decide)
  (he:starEach (a::es) X.env=(false,eval a X.env)::starEach es X.env:=by rfl)(hpl:(backTo pos (starEach es X.env)).any (·.1)=false:=by rfl):
  QE X (.Call (.Name x p) (a::es) [] pos) (fun env=>bnd (t env) g):=aT (zP hc hg hm hv ha hn hdb he hpl) fun _ _ _ h=>sJ h
end
end L2
end
section
namespace L2
open PySem PySem.Spec PyProof.Rows
noncomputable def lsc(st:Sto)(l:Nat):Option (List D):=match st[l]? with
 |some (.l xs)=>some xs
 |_=>none
theorem hV{st:Sto}{l:Nat}{xs:List D}(h:lsc st l=some xs):st[l]?=some (.l xs):=by
 unfold lsc at h
 split at h
 ·cases h;assumption
 ·cases h
theorem jJ{st:Sto}{l:Nat}{xs:List D}(h:st[l]?=some (.l xs)):lsc st l=some xs:=by unfold lsc;rw[h]
noncomputable def getL(l:Nat):M (List D):=fun st=>match lsc st l with
 |some xs=>some (xs,st)
 |none=>none
theorem bF{st st':Sto}{l:Nat}{xs:List D}(h:getL l st=some (xs,st')):st[l]?=some (.l xs)∧st'=st:=by
 unfold getL at h
 split at h
 ·rename_i h2;cases h;exact⟨hV h2,rfl⟩
 ·cases h
theorem dF{st:Sto}{l:Nat}{xs:List D}(h:st[l]?=some (.l xs)):getL l st=some (xs,st):=by unfold getL;rw[jJ h]
def addD:D→D→M D
 | .i a, .i b=>ret (.i (a+b))
 | .s a, .s b=>need (a.length+b.length≤sizeLine) (ret (.s (a++b)))
 | .t a, .t b=>need (a.length+b.length≤sizeLine) (ret (.t (a++b)))
 | .r a, .r b=>bnd (getL a) fun xs=>bnd (getL b) fun ys=>newL (xs++ys)
 |_,_=>bad
section
variable{X:Cx}
theorem aGP:OpR X (binaryOp .Add) (LR X.kw addD):=by
 refine(aFX.or (vR.or (aEf.or aGr))).imp ?_;rintro x y H Q ⟨m,st,dx,dy,d,st',S,rx,ry,e,k⟩
 match dx,dy,rx,ry,e with
 | .i a, .i b, .i _, .i _,e=>cases aB e;exact .inl ⟨_,_,rfl,rfl,k.now S (.i _)⟩
 | .s a, .s b, .s _, .s _,e=>obtain⟨h,e⟩:=aL e;cases aB e;exact .inr (.inl ⟨_,_,rfl,rfl,h,k.now S (.s _)⟩)
 | .t a, .t b, .t ea la ha, .t eb lb hb,e=>
  obtain⟨h,e⟩:=aL e;cases aB e;refine .inr (.inr (.inl ⟨_,_,_,_,rfl,rfl,ea,eb,by rw[la,lb];exact h,fun p H' ep sm=>?_⟩));obtain⟨S2,s2⟩:=S.same sm;have rr:=(RVs.append ⟨la,ha⟩ ⟨lb,hb⟩).stp s2;exact k _ _ _ s2 S2 (.t ep rr.1 rr.2)
 | .r a, .r b,rx,ry,e=>
  obtain⟨xs,st1,e1,e2⟩:=aA e;obtain⟨h1,rfl⟩:=bF e1;obtain⟨ys,st2,e3,e4⟩:=aA e2;obtain⟨h2,rfl⟩:=bF e3;obtain⟨hl,rfl,rfl⟩:=mS e4;obtain⟨pa,vs,rfl,ma,oa,ra⟩:=S.lst rx h1;obtain⟨pb,ws,rfl,mb,ob,rb⟩:=S.lst ry h2;refine .inr (.inr (.inr ⟨pa,pb,vs,ws,rfl,rfl,oa,ob,by rw[ra.1,rb.1,← Y13];exact hl,fun p hp=>?_⟩));obtain⟨S2,s2,r2⟩:=S.newL hp (ra.append rb);exact k _ _ _ s2 S2 r2
noncomputable def intD(C:Int→Int→Prop)[∀ i j,Decidable (C i j)](g:Int→Int→D):D→D→M D
 | .i a, .i b=>need (C a b) (ret (g a b))
 |_,_=>bad
theorem wG{f:Value→Value→Sem Value}{C:Int→Int→Prop}[∀ i j,Decidable (C i j)]{g:Int→Int→V}{g':Int→Int→D}(ho:OpR X f (rI C g))(hg:∀ m H i j,RV X.kw m H (g i j) (g' i j)):OpR X f (LR X.kw (intD C g')):=by
 refine ho.imp ?_;rintro x y H Q ⟨m,st,dx,dy,d,st',S,rx,ry,e,k⟩
 match dx,dy,rx,ry,e with
 | .i a, .i b, .i _, .i _,e=>obtain⟨h,e⟩:=aL e;cases aB e;exact⟨_,_,rfl,rfl,h,k.now S (hg ..)⟩
noncomputable def int0(g:Int→Int→D):D→D→M D
 | .i a, .i b=>ret (g a b)
 |_,_=>bad
theorem mC{f:Value→Value→Sem Value}{g:Int→Int→V}{g':Int→Int→D}(ho:OpR X f (rI0 g))(hg:∀ m H i j,RV X.kw m H (g i j) (g' i j)):OpR X f (LR X.kw (int0 g')):=by
 refine ho.imp ?_;rintro x y H Q ⟨m,st,dx,dy,d,st',S,rx,ry,e,k⟩
 match dx,dy,rx,ry,e with
 | .i a, .i b, .i _, .i _,e=>cases aB e;exact⟨_,_,rfl,rfl,k.now S (hg ..)⟩
instance (i j:Int):Decidable (CDiv i j):=inferInstanceAs (Decidable (_∧_))
instance (i j:Int):Decidable (CPow i j):=inferInstanceAs (Decidable (_∧_∧_))
instance (i j:Int):Decidable (CMul i j):=inferInstanceAs (Decidable (_∨_))
noncomputable def subD:D→D→M D:=int0 fun i j=>.i (i - j)
def fdivD:D→D→M D:=intD CDiv fun i j=>.i (i / j)
def modD:D→D→M D:=intD (fun _ j=>0<j) fun i j=>.i (i % j)
def powD:D→D→M D:=intD CPow fun i j=>.i (i ^ j.toNat)
noncomputable def ltD:D→D→M D:=int0 fun i j=>.b (decide (i<j))
noncomputable def leD:D→D→M D:=int0 fun i j=>.b (decide (i≤j))
noncomputable def gtD:D→D→M D:=int0 fun i j=>.b (decide (j<i))
noncomputable def geD:D→D→M D:=int0 fun i j=>.b (decide (j≤i))
theorem aGQ:OpR X (binaryOp .Sub) (LR X.kw subD):=mC aFY fun _ _ _ _=>.i _
theorem aEp:OpR X (binaryOp .FloorDiv) (LR X.kw fdivD):=wG aDN fun _ _ _ _=>.i _
theorem aGR:OpR X (binaryOp .Mod) (LR X.kw modD):=wG aGa fun _ _ _ _=>.i _
theorem aGS:OpR X (binaryOp .Pow) (LR X.kw powD):=wG aGb fun _ _ _ _=>.i _
theorem aIz:OpR X (compareOp .Lt) (LR X.kw ltD):=mC aIl fun _ _ _ _=>.b _
theorem aIA:OpR X (compareOp .LtE) (LR X.kw leD):=mC aIm fun _ _ _ _=>.b _
theorem aIB:OpR X (compareOp .Gt) (LR X.kw gtD):=mC aIn fun _ _ _ _=>.b _
theorem aIC:OpR X (compareOp .GtE) (LR X.kw geD):=mC aIo fun _ _ _ _=>.b _
def mulD:D→D→M D
 | .i a, .i b=>need (CMul a b) (ret (.i (a * b)))
 | .r l, .i n=>bnd (getL l) fun xs=>need (-(2 ^ 63)≤n∧n<2 ^ 63) (newL (List.replicate n.toNat xs).flatten)
 |_,_=>bad
theorem RVs.rep{K:KW}{m:List Addr}{H:Hp}{vs:List V}{ds:List D}(h:RVs K m H vs ds):∀ k:Nat,RVs K m H (List.replicate k vs).flatten (List.replicate k ds).flatten
 |0=>.nil
 |k+1=>by rw[U18,U18,Z25,Z25];exact h.append (h.rep k)
theorem aGT:OpR X (binaryOp .Mult) (LR X.kw mulD):=by
 refine(aFZ.or aGs).imp ?_;rintro x y H Q ⟨m,st,dx,dy,d,st',S,rx,ry,e,k⟩
 match dx,dy,rx,ry,e with
 | .i a, .i b, .i _, .i _,e=>obtain⟨h,e⟩:=aL e;cases aB e;exact .inl ⟨_,_,rfl,rfl,h,k.now S (.i _)⟩
 | .r l, .i n,rx, .i _,e=>
  obtain⟨xs,st1,e1,e2⟩:=aA e;obtain⟨h1,rfl⟩:=bF e1;obtain⟨hn,e3⟩:=aL e2;obtain⟨hl,rfl,rfl⟩:=mS e3;obtain⟨pa,vs,rfl,ma,oa,ra⟩:=S.lst rx h1;refine .inr ⟨pa,n,vs,rfl,rfl,oa,hn.1,hn.2,?_,fun p hp=>?_⟩
  ·rw[len_rep] at hl;rw[ra.1,Nat.mul_comm];exact hl
  ·obtain⟨S2,s2,r2⟩:=S.newL hp (ra.rep n.toNat);exact k _ _ _ s2 S2 r2
noncomputable def negD:D→M D
 | .i a=>ret (.i (-a))
 |_=>bad
theorem aGU:UnR X (unaryOp .USub) (LU X.kw negD):=by
 refine aGc.imp ?_;rintro x H Q ⟨m,st,dx,d,st',S,rx,e,k⟩
 match dx,rx,e with
 | .i a, .i _,e=>cases aB e;exact⟨_,rfl,k.now S (.i _)⟩
noncomputable def flD:D→Option V
 | .no=>some .non
 | .b x=>some (.bl x)
 | .i n=>some (.int n)
 | .s x=>some (.str x)
 |_=>none
theorem iK{K:KW}{m:List Addr}{H:Hp}{v w:V}{d:D}(r:RV K m H v d)(h:flD d=some w):v=w:=by
 cases r<;>first|(cases h;rfl)|cases h
theorem hW{d:D}{w:V}(h:flD d=some w):flatV w=true:=by
 cases d<;>first|(cases h;rfl)|cases h
noncomputable def deqL(f:D→D→Option Bool):List D→List D→Option Bool
 |x::xs,y::ys=>match f x y,deqL f xs ys with
  |some a,some b=>some (a&&b)
  |_,_=>none
 |[],[]=>some true
 |_,_=>some false
theorem oZ{f:D→D→Option Bool}:∀ {xs ys:List D} {b:Bool},deqL f xs ys=some b→∃ e:Nat→Bool,(∀ (j:Nat) x y,xs[j]?=some x→ys[j]?=some y→f x y=some (e j))∧b=((List.range (min xs.length ys.length)).all e&&xs.length==ys.length)
 |[],[],b,h=>by cases h;exact⟨fun _=>true,fun j x y h=>by simp at h,by simp⟩
 |x::xs,[],b,h=>by cases h;exact⟨fun _=>true,fun j x y _ h=>by simp at h,by simp⟩
 |[],y::ys,b,h=>by cases h;exact⟨fun _=>true,fun j x y h=>by simp at h,by simp⟩
 |x::xs,y::ys,b,h=>by
  rw[deqL] at h;cases q1:f x y with
  |none=>rw[q1] at h;cases h
  |some a=>
   cases q2:deqL f xs ys with
   |none=>rw[q1,q2] at h;cases h
   |some c=>
    rw[q1,q2] at h;cases h;obtain⟨e,h1,h2⟩:=oZ q2;refine⟨fun j=>match j with |0=>a|j+1=>e j,fun j x' y' a1 a2=>?_,?_⟩
    ·cases j with
     |zero=>cases a1;cases a2;exact q1
     |succ j=>exact h1 j x' y' (by simpa using a1) (by simpa using a2)
    ·rw[Z14,Z14,Nat.succ_min_succ,List.range_succ_eq_map,Y20,List.all_map,h2];have e':(xs.length+1==ys.length+1)=(xs.length==ys.length):=by simp
     rw[e',Bool.and_assoc]
     rfl
noncomputable def flq(x y:D):Option Bool:=match flD x,flD y with
 |some a,some b=>some (eqV a b)
 |some _,none=>match y with
  | .t _=>some false
  |_=>none
 |none,some _=>match x with
  | .t _=>some false
  |_=>none
 |none,none=>none
noncomputable def deq:Nat→Sto→D→D→Option Bool
 |0,_,x,y=>flq x y
 |n+1,st,x,y=>match x,y with
  | .t xs, .t ys=>deqL (deq n st) xs ys
  | .r a, .r b=>match lsc st a,lsc st b with
   |some xs,some ys=>deqL (deq n st) xs ys
   |_,_=>none
  |x,y=>flq x y
theorem pA{v:V}(h:flatV v=true):eqV v v=true:=by
 cases v<;>first|rfl|(simp[eqV];done)|cases h
section
variable{K:KW}{m:List Addr}{H:Hp}{st:Sto}
theorem aK{v:V}{x y:D}{b:Bool}(r1:RV K m H v x)(r2:RV K m H v y)(h:flq x y=some b):b=true:=by
 unfold flq at h;cases q1:flD x with
 |some a=>
  cases q2:flD y with
  |some c=>
   rw[q1,q2] at h;cases h;rw[← iK r1 q1,← iK r2 q2];exact pA (by rw[iK r1 q1];exact hW q1)
  |none=>
   rw[q1,q2] at h;have e:=iK r1 q1;cases r2<;>first|(cases h;done)|(subst e;cases r1<;>cases q1)
 |none=>
  cases q2:flD y with
  |some c=>
   rw[q1,q2] at h;have e:=iK r2 q2;cases r1<;>first|(cases h;done)|(subst e;cases r2<;>cases q2)
  |none=>rw[q1,q2] at h;cases h
theorem all_true{e:Nat→Bool}{n:Nat}(h:∀ j,j<n→e j=true):(List.range n).all e=true:=by
 rw[U20];intro j hj;exact h j (List.mem_range.mp hj)
theorem uD(S:SR K m H st):∀ {n:Nat} {v:V} {x y:D} {b:Bool},RV K m H v x→RV K m H v y→deq n st x y=some b→b=true:=by
 intro n
 induction n with
 |zero=>intro v x y b r1 r2 h;exact aK r1 r2 h
 |succ n ih=>
  intro v x y b r1 r2 h;have seq:∀ {vs:List V} {xs ys:List D},RVs K m H vs xs→RVs K m H vs ys→deqL (deq n st) xs ys=some b→b=true:=by
   intro vs xs ys h1 h2 h;obtain⟨e,h3,rfl⟩:=oZ h;have hl:xs.length=ys.length:=h1.1.symm.trans h2.1;rw[hl,Nat.min_self,all_true fun j hj=>?_]
   ·simp
   ·have hx:j<xs.length:=by omega
    have hv:j<vs.length:=by rw[h1.1];exact hx
    exact ih (h1.2 j vs[j] xs[j] (by simp[hv]) (by simp[hx])) (h2.2 j vs[j] ys[j] (by simp[hv]) (by simp[hj])) (h3 j xs[j] ys[j] (by simp[hx]) (by simp[hj]))
  cases r1 with
  |@t a vs ds e1 l1 h1=>
   cases r2 with
   |@t _ vs' ds' e2 l2 h2=>
    rw[e1] at e2;cases e2;exact seq ⟨l1,h1⟩ ⟨l2,h2⟩ h
   |k=>exact aK (.t e1 l1 h1) (.k (by assumption) (by assumption) (by assumption)) h
   |f=>exact aK (.t e1 l1 h1) (.f (by assumption) (by assumption) (by assumption)) h
   |r=>exact aK (.t e1 l1 h1) (.r (by assumption)) h
   |fn e2=>exact aK (.t e1 l1 h1) (.fn e2) h
   |dc e2 k2 h2=>exact aK (.t e1 l1 h1) (.dc e2 k2 h2) h
  |@r l a e1=>
   cases r2 with
   |@r l' _ e2=>
    have hl:l=l':=(List.getElem?_inj (Z10.mp e1).1 S.nd).mp (e1.trans e2.symm);subst hl;rw[deq] at h;cases q:lsc st l with
    |none=>rw[q] at h;cases h
    |some xs=>
     rw[q] at h;obtain⟨vs,_,hv⟩:=S.cel l a _ e1 (hV q);exact seq hv hv h
   |k=>exact aK (.r e1) (.k (by assumption) (by assumption) (by assumption)) h
   |f=>exact aK (.r e1) (.f (by assumption) (by assumption) (by assumption)) h
   |t=>exact aK (.r e1) (.t (by assumption) (by assumption) (by assumption)) h
   |fn e2=>exact aK (H:=H) (.r e1) (.fn e2) h
   |dc e2 k2 h2=>exact aK (.r e1) (.dc e2 k2 h2) h
  |@fn x a e1=>exact aK (.fn e1) r2 (by cases r2<;>exact h)
  |@dc a kws kvs e1 k1 h1=>exact aK (.dc e1 k1 h1) r2 (by cases r2<;>exact h)
  |no=>cases r2<;>exact aK (.no (K:=K) (m:=m) (H:=H)) (.no) h
  |b x=>cases r2;exact aK (.b (K:=K) (m:=m) (H:=H) x) (.b x) h
  |i x=>cases r2;exact aK (.i (K:=K) (m:=m) (H:=H) x) (.i x) h
  |s x=>cases r2;exact aK (.s (K:=K) (m:=m) (H:=H) x) (.s x) h
  |ty x=>cases r2;cases h
  |@k a vs ds e1 l1 h1=>cases r2<;>first|exact aK (.k e1 l1 h1) (.k (by assumption) (by assumption) (by assumption)) h|exact aK (.k e1 l1 h1) (.t (by assumption) (by assumption) (by assumption)) h|exact aK (.k e1 l1 h1) (.f (by assumption) (by assumption) (by assumption)) h|exact aK (.k e1 l1 h1) (.r (by assumption)) h
  |@f a vs ds e1 l1 h1=>cases r2<;>first|exact aK (.f e1 l1 h1) (.k (by assumption) (by assumption) (by assumption)) h|exact aK (.f e1 l1 h1) (.t (by assumption) (by assumption) (by assumption)) h|exact aK (.f e1 l1 h1) (.f (by assumption) (by assumption) (by assumption)) h|exact aK (.f e1 l1 h1) (.r (by assumption)) h
end
section
variable{m:List Addr}{H:Hp}{st:Sto}{pins:List (Addr×Obj)}{σ:St}{s:Shared}
inductive EqW (A:Around) (s:Shared):Value→Value→Bool→Prop where
 |flat {a b:V} {u v:Value}:RelV a u→RelV b v→flatV a=true→flatV b=true→EqW A s u v (eqV a b)
 |ft {a:V} {u:Value} {l:Addr} {items:Array Value}:RelV a u→flatV a=true→IsTup s.heap l items→EqW A s u (.ref l) false
 |tf {a:V} {u:Value} {l:Addr} {items:Array Value}:RelV a u→flatV a=true→IsTup s.heap l items→EqW A s (.ref l) u false
 |tt {l b:Addr} {i1 i2:Array Value} {e:Nat→Bool} {k:Bool}:(l=b→k=true)→IsTup s.heap l i1→IsTup s.heap b i2→(∀ j (h1:j<i1.size) (h2:j<i2.size),SeqAt.EqAt A.in1 s i1[j] i2[j] (e j))→k=((List.range (min i1.size i2.size)).all e&&i1.size==i2.size)→EqW A s (.ref l) (.ref b) k
 |ll {l b:Addr} {i1 i2:Array Value} {e:Nat→Bool} {k:Bool}:(l=b→k=true)→s.heap.IsList l i1→s.heap.IsList b i2→(∀ j (h1:j<i1.size) (h2:j<i2.size),SeqAt.EqAt A.in1 s i1[j] i2[j] (e j))→k=((List.range (min i1.size i2.size)).all e&&i1.size==i2.size)→EqW A s (.ref l) (.ref b) k
theorem EqW.eqAt{A:Around}{u v:Value}{b:Bool}(hu:A.units<cLine)(h:EqW A s u v b):SeqAt.EqAt A s u v b:=by
 cases h with
 |flat r1 r2 f1 f2=>exact aBp r1 r2 f1 f2
 |@ft a u l items r f t=>
  cases a with
  |non=>cases r;exact SeqAt.EqAt.none_tuple t hu
  |bl=>cases r;exact SeqAt.EqAt.bool_tuple _ t hu
  |int=>obtain⟨t',rfl⟩:=r;exact SeqAt.EqAt.int_tuple _ _ t hu
  |str=>obtain⟨t',rfl⟩:=r;exact SeqAt.EqAt.str_tuple _ _ t hu
  |_=>cases f
 |@tf a u l items r f t=>
  cases a with
  |non=>cases r;exact SeqAt.EqAt.tuple_none t hu
  |bl=>cases r;exact SeqAt.EqAt.tuple_bool _ t hu
  |int=>obtain⟨t',rfl⟩:=r;exact SeqAt.EqAt.tuple_int _ _ t hu
  |str=>obtain⟨t',rfl⟩:=r;exact SeqAt.EqAt.tuple_str _ _ t hu
  |_=>cases f
 |@tt l b i1 i2 e k hs t1 t2 he hk=>
  by_cases hab:l=b
  ·subst hab;rw[hs rfl];exact SeqAt.EqAt.same _
  ·rw[hk];exact SeqAt.EqAt.of_refs hab (SeqAt.RcAt.tuples t1 t2 hu he)
 |@ll l b i1 i2 e k hs t1 t2 he hk=>
  by_cases hab:l=b
  ·subst hab;rw[hs rfl];exact SeqAt.EqAt.same _
  ·by_cases hsz:i1.size=i2.size
   ·have:=SeqAt.EqAt.of_refs hab (SeqAt.RcAt.lists t1 t2 hsz hu he);rw[hk,← hsz,Nat.min_self,Y31,Bool.and_true];exact this
   ·rw[hk,show((List.range (min i1.size i2.size)).all e&&i1.size==i2.size)=false by simp[hsz]];exact SeqAt.EqAt.of_refs hab (SeqAt.RcAt.lists_lengths t1 t2 (by simpa using hsz) hu)
theorem EqW.rc{A:Around}{u v:Value}{b:Bool}(hu:A.units<cLine)(h:EqW A s u v b):SeqAt.RcAt A s u v b:=by
 cases h with
 |@flat a b u v r1 r2 f1 f2=>
  cases a with
  |non=>
   cases r1;cases b with
   |non=>cases r2;exact SeqAt.RcAt.none_none
   |bl=>cases r2;exact SeqAt.RcAt.none_bool _
   |int=>obtain⟨t',rfl⟩:=r2;exact SeqAt.RcAt.none_int _ _
   |str=>obtain⟨t',rfl⟩:=r2;exact SeqAt.RcAt.none_str _ _
   |_=>cases f2
  |bl=>
   cases r1;cases b with
   |non=>cases r2;exact SeqAt.RcAt.bool_none _
   |bl=>cases r2;exact SeqAt.RcAt.bool_bool _ _
   |int=>obtain⟨t',rfl⟩:=r2;exact SeqAt.RcAt.bool_int _ _ _
   |str=>obtain⟨t',rfl⟩:=r2;exact SeqAt.RcAt.bool_str _ _ _
   |_=>cases f2
  |int=>
   obtain⟨t,rfl⟩:=r1;cases b with
   |non=>cases r2;exact SeqAt.RcAt.int_none _ _
   |bl=>cases r2;exact SeqAt.RcAt.int_bool _ _ _
   |int=>obtain⟨t',rfl⟩:=r2;exact SeqAt.RcAt.int_int _ _ _ _
   |str=>obtain⟨t',rfl⟩:=r2;exact SeqAt.RcAt.int_str _ _ _ _
   |_=>cases f2
  |str=>
   obtain⟨t,rfl⟩:=r1;cases b with
   |non=>cases r2;exact SeqAt.RcAt.str_none _ _
   |bl=>cases r2;exact SeqAt.RcAt.str_bool _ _ _
   |int=>obtain⟨t',rfl⟩:=r2;exact SeqAt.RcAt.str_int _ _ _ _
   |str=>obtain⟨t',rfl⟩:=r2;exact SeqAt.RcAt.str_str _ _ _ _
   |_=>cases f2
  |_=>cases f1
 |@ft a u l items r f t=>
  cases a with
  |non=>cases r;exact SeqAt.RcAt.none_tuple t hu
  |bl=>cases r;exact SeqAt.RcAt.bool_tuple _ t hu
  |int=>obtain⟨t',rfl⟩:=r;exact SeqAt.RcAt.int_tuple _ _ t hu
  |str=>obtain⟨t',rfl⟩:=r;exact SeqAt.RcAt.str_tuple _ _ t hu
  |_=>cases f
 |@tf a u l items r f t=>
  cases a with
  |non=>cases r;exact SeqAt.RcAt.tuple_none t hu
  |bl=>cases r;exact SeqAt.RcAt.tuple_bool _ t hu
  |int=>obtain⟨t',rfl⟩:=r;exact SeqAt.RcAt.tuple_int _ _ t hu
  |str=>obtain⟨t',rfl⟩:=r;exact SeqAt.RcAt.tuple_str _ _ t hu
  |_=>cases f
 |@tt l b i1 i2 e k hs t1 t2 he hk=>rw[hk];exact SeqAt.RcAt.tuples t1 t2 hu he
 |@ll l b i1 i2 e k hs t1 t2 he hk=>
  by_cases hsz:i1.size=i2.size
  ·have:=SeqAt.RcAt.lists t1 t2 hsz hu he;rw[hk,← hsz,Nat.min_self,Y31,Bool.and_true];exact this
  ·rw[hk,show((List.range (min i1.size i2.size)).all e&&i1.size==i2.size)=false by simp[hsz]];exact SeqAt.RcAt.lists_lengths t1 t2 (by simpa using hsz) hu
theorem EqW.ne{A:Around}{u v:Value}{b:Bool}(hu:A.units<cLine)(h:EqW A s u v b):SeqAt.RcNeAt A s u v (!b):=by
 cases h with
 |@flat a b u v r1 r2 f1 f2=>
  cases a with
  |non=>
   cases r1;cases b with
   |non=>cases r2;exact SeqAt.RcNeAt.none_none
   |bl=>cases r2;exact SeqAt.RcNeAt.none_bool _
   |int=>obtain⟨t',rfl⟩:=r2;exact SeqAt.RcNeAt.none_int _ _
   |str=>obtain⟨t',rfl⟩:=r2;exact SeqAt.RcNeAt.none_str _ _
   |_=>cases f2
  |bl=>
   cases r1;cases b with
   |non=>cases r2;exact SeqAt.RcNeAt.bool_none _
   |bl=>cases r2;exact SeqAt.RcNeAt.bool_bool _ _
   |int=>obtain⟨t',rfl⟩:=r2;exact SeqAt.RcNeAt.bool_int _ _ _
   |str=>obtain⟨t',rfl⟩:=r2;exact SeqAt.RcNeAt.bool_str _ _ _
   |_=>cases f2
  |int=>
   obtain⟨t,rfl⟩:=r1;cases b with
   |non=>cases r2;exact SeqAt.RcNeAt.int_none _ _
   |bl=>cases r2;exact SeqAt.RcNeAt.int_bool _ _ _
   |int=>obtain⟨t',rfl⟩:=r2;exact SeqAt.RcNeAt.int_int _ _ _ _
   |str=>obtain⟨t',rfl⟩:=r2;exact SeqAt.RcNeAt.int_str _ _ _ _
   |_=>cases f2
  |str=>
   obtain⟨t,rfl⟩:=r1;cases b with
   |non=>cases r2;exact SeqAt.RcNeAt.str_none _ _
   |bl=>cases r2;exact SeqAt.RcNeAt.str_bool _ _ _
   |int=>obtain⟨t',rfl⟩:=r2;exact SeqAt.RcNeAt.str_int _ _ _ _
   |str=>obtain⟨t',rfl⟩:=r2;exact SeqAt.RcNeAt.str_str _ _ _ _
   |_=>cases f2
  |_=>cases f1
 |@ft a u l items r f t=>
  cases a with
  |non=>cases r;exact SeqAt.RcNeAt.none_tuple t hu
  |bl=>cases r;exact SeqAt.RcNeAt.bool_tuple _ t hu
  |int=>obtain⟨t',rfl⟩:=r;exact SeqAt.RcNeAt.int_tuple _ _ t hu
  |str=>obtain⟨t',rfl⟩:=r;exact SeqAt.RcNeAt.str_tuple _ _ t hu
  |_=>cases f
 |@tf a u l items r f t=>
  cases a with
  |non=>cases r;exact SeqAt.RcNeAt.tuple_none t hu
  |bl=>cases r;exact SeqAt.RcNeAt.tuple_bool _ t hu
  |int=>obtain⟨t',rfl⟩:=r;exact SeqAt.RcNeAt.tuple_int _ _ t hu
  |str=>obtain⟨t',rfl⟩:=r;exact SeqAt.RcNeAt.tuple_str _ _ t hu
  |_=>cases f
 |@tt l b i1 i2 e k hs t1 t2 he hk=>rw[hk];exact SeqAt.RcNeAt.tuples t1 t2 hu he
 |@ll l b i1 i2 e k hs t1 t2 he hk=>
  by_cases hsz:i1.size=i2.size
  ·have:=SeqAt.RcNeAt.lists t1 t2 hsz hu he;rw[hk,← hsz,Nat.min_self,Y31,Bool.and_true];exact this
  ·rw[hk,show((List.range (min i1.size i2.size)).all e&&i1.size==i2.size)=false by simp[hsz]];exact SeqAt.RcNeAt.lists_lengths t1 t2 (by simpa using hsz) hu
theorem fE{A:Around}{x y:V}{d e:D}{b:Bool}{u v:Value}(I:Inv X pins σ H s)(r1:RV X.kw m H x d)(r2:RV X.kw m H y e)(h:flq d e=some b)(ru:RelV x u)(rv:RelV y v):EqW A s u v b:=by
 unfold flq at h;cases q1:flD d with
 |some a=>
  have e1:=iK r1 q1;subst e1;cases q2:flD e with
  |some c=>
   have e2:=iK r2 q2;subst e2;rw[q1,q2] at h;cases h;exact .flat ru rv (hW q1) (hW q2)
  |none=>
   rw[q1,q2] at h;cases r2 with
   |t e' l' h'=>
    cases h;cases rv;obtain⟨us,_,t1,_⟩:=I.tuple (SqT.of e');exact .ft ru (hW q1) t1
   |_=>cases h
 |none=>
  cases q2:flD e with
  |some c=>
   have e2:=iK r2 q2;subst e2;rw[q1,q2] at h;cases r1 with
   |t e' l' h'=>
    cases h;cases ru;obtain⟨us,_,t1,_⟩:=I.tuple (SqT.of e');exact .tf rv (hW q2) t1
   |_=>cases h
  |none=>rw[q1,q2] at h;cases h
theorem aBI(I:Inv X pins σ H s)(S:SR X.kw m H st):∀ {n:Nat} {A:Around} {x y:V} {d e:D} {b:Bool} {u v:Value},A.units+n<cLine→RV X.kw m H x d→RV X.kw m H y e→deq n st d e=some b→RelV x u→RelV y v→EqW A s u v b:=by
 intro n
 induction n with
 |zero=>intro A x y d e b u v hu r1 r2 h ru rv;exact fE I r1 r2 h ru rv
 |succ n ih=>
  intro A x y d e b u v hu r1 r2 h ru rv;have seq:∀ {vs ws:List V} {xs ys:List D} {us zs:List Value},RVs X.kw m H vs xs→RVs X.kw m H ws ys→Vals vs us→Vals ws zs→deqL (deq n st) xs ys=some b→
    ∃ e:Nat→Bool,(∀ j (h1:j<us.toArray.size) (h2:j<zs.toArray.size),SeqAt.EqAt A.in1 s us.toArray[j] zs.toArray[j] (e j))∧b=((List.range (min us.toArray.size zs.toArray.size)).all e&&us.toArray.size==zs.toArray.size):=by
   intro vs ws xs ys us zs h1 h2 q1 q2 h;obtain⟨e,h3,h4⟩:=oZ h;have l1:=q1.length;have l2:=q2.length;refine⟨e,fun j g1 g2=>?_,by rw[Y11,Y11,← l1,← l2,h1.1,h2.1];exact h4⟩;have g1':j<us.length:=by simpa using g1
   have g2':j<zs.length:=by simpa using g2
   obtain⟨hv,rx⟩:=xR q1 g1';obtain⟨hv',ry⟩:=xR q2 g2';have hj:j<xs.length:=by rw[← h1.1];exact hv
   have hj':j<ys.length:=by rw[← h2.1];exact hv'
   have:=(ih (A:=A.in1) (by show A.units+1+n<cLine;omega) (h1.2 j vs[j] xs[j] (by simp[hv]) (by simp[hj])) (h2.2 j ws[j] ys[j] (by simp[hv']) (by simp[hj'])) (h3 j xs[j] ys[j] (by simp[hj]) (by simp[hj'])) rx ry).eqAt (by show A.units+1<cLine;omega)
   simpa using this
  cases r1 with
  |@t a vs ds e1 l1 h1=>
   cases r2 with
   |@t a' vs' ds' e2 l2 h2=>
    cases ru;cases rv;obtain⟨us,q1,t1,_⟩:=I.tuple (SqT.of e1);obtain⟨zs,q2,t2,_⟩:=I.tuple (SqT.of e2);obtain⟨e,he,hk⟩:=seq ⟨l1,h1⟩ ⟨l2,h2⟩ q1 q2 h;exact .tt (fun z=>by subst z;exact uD S (n:=n+1) (.t e1 l1 h1) (.t e2 l2 h2) h) t1 t2 he hk
   |no=>exact fE I (.t e1 l1 h1) (.no) h ru rv
   |b x=>exact fE I (.t e1 l1 h1) (.b x) h ru rv
   |i x=>exact fE I (.t e1 l1 h1) (.i x) h ru rv
   |s x=>exact fE I (.t e1 l1 h1) (.s x) h ru rv
   |ty x=>cases h
   |k e2 l2 h2=>cases h
   |f e2 l2 h2=>cases h
   |r e2=>cases h
   |fn e2=>cases h
   |dc e2 k2 h2=>cases h
  |@r l a e1=>
   cases r2 with
   |@r l' a' e2=>
    rw[deq] at h;have h0:=h;cases q:lsc st l with
    |none=>rw[q] at h;cases h
    |some xs=>
     cases q':lsc st l' with
     |none=>rw[q,q'] at h;cases h
     |some ys=>
      rw[q,q'] at h;obtain⟨vs,o1,hv1⟩:=S.cel l a _ e1 (hV q);obtain⟨ws,o2,hv2⟩:=S.cel l' a' _ e2 (hV q');cases ru;cases rv;obtain⟨us,q1,t1,_⟩:=I.list (SqL.of o1);obtain⟨zs,q2,t2,_⟩:=I.list (SqL.of o2);obtain⟨e,he,hk⟩:=seq hv1 hv2 q1 q2 h;exact .ll (fun z=>by subst z;exact uD S (n:=n+1) (.r e1) (.r e2) (by rw[deq];exact h0)) t1.isList t2.isList he hk
   |no=>cases h
   |b x=>cases h
   |i x=>cases h
   |s x=>cases h
   |ty x=>cases h
   |k e2 l2 h2=>cases h
   |f e2 l2 h2=>cases h
   |t e2 l2 h2=>cases h
   |fn e2=>cases h
   |dc e2 k2 h2=>cases h
  |@fn x a e1=>exact fE I (.fn e1) r2 (by cases r2<;>exact h) ru rv
  |@dc a kws kvs e1 k1 h1=>exact fE I (.dc e1 k1 h1) r2 (by cases r2<;>exact h) ru rv
  |no=>exact fE I (.no) r2 (by cases r2<;>exact h) ru rv
  |b x=>exact fE I (.b x) r2 (by cases r2<;>exact h) ru rv
  |i x=>exact fE I (.i x) r2 (by cases r2<;>exact h) ru rv
  |s x=>exact fE I (.s x) r2 (by cases r2<;>exact h) ru rv
  |ty x=>cases r2<;>cases h
  |k e1 l1 h1=>exact fE I (.k e1 l1 h1) r2 (by cases r2<;>exact h) ru rv
  |f e1 l1 h1=>exact fE I (.f e1 l1 h1) r2 (by cases r2<;>exact h) ru rv
end
noncomputable def eqD(x y:D):M D:=fun st=>match deq 900 st x y with
 |some b=>some (.b b,st)
 |none=>none
noncomputable def neD(x y:D):M D:=fun st=>match deq 900 st x y with
 |some b=>some (.b (!b),st)
 |none=>none
theorem aID(hu:X.A.units+900<cLine):OpR X (compareOp .Eq) (LR X.kw eqD):=by
 rintro pins s σ H x y v u Q I rx ry ⟨m,st,dx,dy,d,st',S,r1,r2,e,k⟩;unfold eqD at e;cases q:deq 900 st dx dy with
 |none=>rw[q] at e;cases e
 |some b=>
  rw[q] at e;cases e;exact EqBoolInt.of_rc ((aBI I S (A:=X.A) hu r1 r2 q rx ry).rc (by omega)) ⟨.bl b,H,I,rfl,k.now S (.b _)⟩
theorem aIE(hu:X.A.units+900<cLine):OpR X (compareOp .NotEq) (LR X.kw neD):=by
 rintro pins s σ H x y v u Q I rx ry ⟨m,st,dx,dy,d,st',S,r1,r2,e,k⟩;unfold neD at e;cases q:deq 900 st dx dy with
 |none=>rw[q] at e;cases e
 |some b=>
  rw[q] at e;cases e;exact EqBoolInt.of_rcne ((aBI I S (A:=X.A) hu r1 r2 q rx ry).ne (by omega)) ⟨.bl (!b),H,I,rfl,k.now S (.b _)⟩
end
section
variable{X:Cx}
noncomputable def seqOf(st:Sto):D→Option (List D)
 | .t xs=>some xs
 | .k xs=>some xs
 | .f xs=>some xs
 | .r l=>lsc st l
 |_=>none
theorem jA{K:KW}{m:List Addr}{H:Hp}{st:Sto}{v:V}{d:D}{xs:List D}(S:SR K m H st)(r:RV K m H v d)(h:seqOf st d=some xs):∃ a vs,v=.ref a∧(SqL K H a vs∨SqT K H a vs)∧RVs K m H vs xs:=by
 cases r with
 |t e l q=>cases h;exact⟨_,_,rfl, .inr (SqT.of e),l,q⟩
 |k e l q=>cases h;exact⟨_,_,rfl, .inr (e H),l,q⟩
 |f e l q=>cases h;exact⟨_,_,rfl, .inl e.sq,l,q⟩
 |r e=>obtain⟨vs,o1,hv⟩:=S.cel _ _ _ e (hV h);exact⟨_,_,rfl, .inl (SqL.of o1),hv⟩
 |_=>cases h
noncomputable def dcc(_:Sto)(_:Nat):Option (List (Key×D)):=none
noncomputable def keyD:D→Option Key
 | .i n=>some (.inl n)
 | .s x=>some (.inr x)
 |_=>none
theorem xV{K:KW}{m:List Addr}{H:Hp}{v:V}{d:D}{k:Key}(r:RV K m H v d)(h:keyD d=some k):v=kV k:=by
 cases r<;>first|(cases h;rfl)|cases h
noncomputable def valD(kvs:List (Key×D))(k:Key):Option D:=(kvs.find? fun kv=>decide (kv.1=k)).map (·.2)
noncomputable def putD(kvs:List (Key×D))(k:Key)(v:D):List (Key×D):=if(kvs.any fun kv=>decide (kv.1=k)) then kvs.map fun kv=>if kv.1=k then(kv.1,v) else kv else kvs++[(k,v)]
theorem sL{K:KW}{m:List Addr}{H:Hp}:∀ {kws:List (Key×V)} {kvs:List (Key×D)} {k:Key},kws.map (·.1)=kvs.map (·.1)→RVs K m H (kws.map (·.2)) (kvs.map (·.2))→(valD kvs k=none→valV kws k=none)∧∀ d,valD kvs k=some d→∃ v,valV kws k=some v∧RV K m H v d
 |[],[],k,_,_=>⟨fun _=>rfl,fun d h=>by cases h⟩
 |p::kws,[],k,h,_=>by cases h
 |[],q::kvs,k,h,_=>by cases h
 |p::kws,q::kvs,k,h,r=>by
  simp only[V15,Y34] at h;have r0:=r.2 0 p.2 q.2 rfl rfl;have r1:RVs K m H (kws.map (·.2)) (kvs.map (·.2)):=⟨by have:=r.1;simpa using this,fun i v' d' e1 e2=>r.2 (i+1) v' d' (by simpa using e1) (by simpa using e2)⟩
  by_cases hk:q.1=k
  ·have hp:p.1=k:=h.1.trans hk;rw[uB hp];have:valD (q::kvs) k=some q.2:=by simp[valD,U28,hk]
   rw[this];exact⟨(fun z=>by cases z),fun d z=>by cases z;exact⟨_,rfl,r0⟩⟩
  ·have hp:¬ p.1=k:=fun z=>hk (h.1.symm.trans z);rw[uC hp];have:valD (q::kvs) k=valD kvs k:=by simp[valD,U28,hk]
   rw[this];exact sL h.2 r1
theorem aBJ{K:KW}{m:List Addr}{H:Hp}{kws:List (Key×V)}{kvs:List (Key×D)}(e2:kws.map (·.1)=kvs.map (·.1))(e3:∀ (j:Nat) w p,kws[j]?=some w→kvs[j]?=some p→RV K m H w.2 p.2):RVs K m H (kws.map (·.2)) (kvs.map (·.2)):=by
 have hl:=congrArg List.length e2;simp only[U16] at hl;refine⟨by simp[hl],fun j v d h1 h2=>?_⟩;rw[Z13] at h1 h2;obtain⟨w,q1,rfl⟩:=Z12.mp h1;obtain⟨p,q2,rfl⟩:=Z12.mp h2;exact e3 j w p q1 q2
section
variable{X:Cx}{pins:List (Addr×Obj)}{σ:St}{H:Hp}{s:Shared}{A:Around}{E:Value→Shared→Prop}{a:Addr}{kws:List (Key×V)}{k:Key}{u:Value}
theorem xW(I:Inv X pins σ H s)(g:KDict X.kw a kws):kws.length≤sizeLine∧(a==sysModules)=false∧∃ vs,KV kws vs∧s.heap.DictOf (mixKind X.prog X.w) a vs:=by
 obtain⟨h1,h2,vs,ep,h3,h4⟩:=g;exact⟨h1,h2,vs,h3,(h4 _ (I.mod.kin.keeps I.bk)).dictOf⟩
theorem zY{v:V}{Q:Value→Shared→Prop}(I:Inv X pins σ H s)(g:KDict X.kw a kws)(l:valV kws k=some v)(ry:RelV (kV k) u)(h:∀ w' s',Inv X pins σ H s'→RelV v w'→Q w' s'):
  wpAny (model X.prog X.w) A (getItem (.ref a) u) Q E s:=by
 obtain⟨z,hd,vs,rel,dd⟩:=xW I g;obtain⟨w',hw,rw'⟩:=RelO.some_of (v:=v) (o:=valueAt vs k) (by rw[← l];exact rel.val k);exact wpAny_getItem_of (aBB ry) dd.mapOf hw (h w' _ (I.tok _) rw')
theorem aJi{Q:Value→Shared→Prop}(I:Inv X pins σ H s)(g:KDict X.kw a kws)(ry:RelV (kV k) u)(h:∀ s',Inv X pins σ H s'→Q (.bool (valV kws k).isSome) s'):wpAny (model X.prog X.w) A (compareOp .In u (.ref a)) Q E s:=by
 obtain⟨z,hd,vs,rel,dd⟩:=xW I g;refine wpAny_in_of (aBB ry) hd dd.mapOf ?_;rw[← (rel.val k).isSome_eq];exact h _ (I.tok _)
theorem aEq{Q:Value→Shared→Prop}(I:Inv X pins σ H s)(g:KDict X.kw a kws)(ry:RelV (kV k) u)(h:∀ s',Inv X pins σ H s'→Q (.bool (!(valV kws k).isSome)) s'):wpAny (model X.prog X.w) A (compareOp .NotIn u (.ref a)) Q E s:=by
 obtain⟨z,hd,vs,rel,dd⟩:=xW I g;refine wpAny_notIn_of (aBB ry) hd dd.mapOf ?_;rw[← (rel.val k).isSome_eq];exact h _ (I.tok _)
theorem aEr{o i:Expr}{td ty:TE}{pos:Pos}(ho:PE X o td)(hi:PE X i ty)(hs:NoSl i):PE X (.Subscript o i pos) (fun σ H Q=>td σ H fun x H1=>ty σ H1 fun y H2=>∃ a kws k v,x=.ref a∧KDict X.kw a kws∧y=kV k∧valV kws k=some v∧Q v H2):=by
 intro pins s σ H Q I h;refine aEh PySem.F.slot_dict_getitem.lookup hs (thn (ho pins s σ H _ I h) fun u s1 ⟨x,H1,I1,rx,q1⟩=>thn (hi pins s1 σ H1 _ I1 q1) fun iv s2 ⟨y,H2,I2,ry,a,kws,k,v,ex,g,ey,l,q2⟩=>?_);subst ex ey;obtain rfl:u=Value.ref a:=rx;obtain⟨_,_,vs,_,dd⟩:=xW I2 g;exact⟨dd.typeIs,zY I2 g l ry fun w' s3 I3 rw'=>⟨v,H2,I3,rw',q2⟩⟩
end
noncomputable def inB(x y:D)(st:Sto):Option Bool:=match x,y with
 | .s a, .s b=>some (!(Builtin.Str.occurrences b a 0 b.length 1).isEmpty)
 |x, .dc kvs=>(keyD x).map fun k=>(valD kvs k).isSome
 |x, .r l=>match dcc st l with
  |some kvs=>(keyD x).map fun k=>(valD kvs k).isSome
  |none=>match lsc st l with
   |some xs=>(flD x).bind fun a=>(xs.mapM flD).map fun vs=>inV a vs
   |none=>none
 |x,y=>match seqOf st y with
  |some xs=>(flD x).bind fun a=>(xs.mapM flD).map fun vs=>inV a vs
  |none=>none
theorem uE{α β:Type}{f:α→Option β}:∀ {xs:List α} {ys:List β},xs.mapM f=some ys→xs.length=ys.length∧∀ (i:Nat) x y,xs[i]?=some x→ys[i]?=some y→f x=some y
 |[],ys,h=>by simp at h;subst h;exact⟨rfl,fun i x y h=>by simp at h⟩
 |x::xs,ys,h=>by
  rw[List.mapM_cons] at h;cases q:f x with
  |none=>rw[q] at h;cases h
  |some z=>
   rw[q] at h;cases q2:xs.mapM f with
   |none=>rw[q2] at h;cases h
   |some zs=>
    rw[q2] at h;cases h;obtain⟨h1,h2⟩:=uE q2;refine⟨by simp[h1],fun i a b ha hb=>?_⟩;cases i with
    |zero=>cases ha;cases hb;exact q
    |succ i=>exact h2 i a b (by simpa using ha) (by simpa using hb)
theorem aBK{K:KW}{m:List Addr}{H:Hp}{vs ws:List V}{ds:List D}(r:RVs K m H vs ds)(h:ds.mapM flD=some ws):vs=ws∧ws.all flatV=true:=by
 obtain⟨h1,h2⟩:=uE h;refine⟨List.ext_getElem (by rw[r.1,h1]) fun i g1 g2=>?_,?_⟩
 ·have hd:i<ds.length:=by rw[← r.1];exact g1
  exact iK (r.2 i vs[i] ds[i] (by simp[g1]) (by simp[hd])) (h2 i ds[i] ws[i] (by simp[hd]) (by simp[g2]))
 ·rw[U20];intro w hw;obtain⟨i,hi⟩:=W36 hw;have hd:i<ds.length:=by rw[h1];exact(Z10.mp hi).1
  exact hW (h2 i ds[i] w (by simp[hd]) hi)
inductive InR (K:KW) (H:Hp):V→V→Bool→Prop where
 |s (a b:Str):InR K H (.str a) (.str b) (!(Builtin.Str.occurrences b a 0 b.length 1).isEmpty)
 |kd {p:Addr} {k:Key} {kws:List (Key×V)}:KDict K p kws→InR K H (kV k) (.ref p) (valV kws k).isSome
 |l {p:Addr} {x:V} {vs:List V}:(SqL K H p vs∨SqT K H p vs)→flatV x=true→vs.all flatV=true→InR K H x (.ref p) (inV x vs)
theorem aBL{K:KW}{m:List Addr}{H:Hp}{st:Sto}{x y:V}{dx dy:D}{b:Bool}(S:SR K m H st)(rx:RV K m H x dx)(ry:RV K m H y dy)(h:inB dx dy st=some b):InR K H x y b:=by
 have sq:∀ {xs:List D},seqOf st dy=some xs→((flD dx).bind fun a=>(xs.mapM flD).map fun vs=>inV a vs)=some b→InR K H x y b:=by
  intro xs h1 h2;obtain⟨a,vs,rfl,hs,rr⟩:=jA S ry h1;obtain⟨w,q1,q2⟩:=U26.mp h2;obtain⟨ws,q3,rfl⟩:=Z12.mp q2;obtain⟨rfl,hf⟩:=aBK rr q3;have e:=iK rx q1;subst e;exact .l hs (hW q1) hf
 have gen:(match seqOf st dy with |some xs=>(flD dx).bind fun a=>(xs.mapM flD).map fun vs=>inV a vs|none=>none)=some b→InR K H x y b:=by
  intro h;cases q:seqOf st dy with
  |none=>rw[q] at h;cases h
  |some xs=>rw[q] at h;exact sq q h
 cases ry with
 |@r l a e=>
  have h':(match dcc st l with |some kvs=>(keyD dx).map fun k=>(valD kvs k).isSome|none=>match lsc st l with |some xs=>(flD dx).bind fun a=>(xs.mapM flD).map fun vs=>inV a vs|none=>none)=some b:=by
   cases dx<;>exact h
  cases q:dcc st l with
  |some kvs=>cases q
  |none=>
   rw[q] at h';cases q2:lsc st l with
   |none=>rw[q2] at h';cases h'
   |some xs=>rw[q2] at h';exact sq (by exact q2) h'
 |s z=>cases rx with
  |s w=>cases h;exact .s _ _
  |_=>cases h
 |@dc a kws kvs e1 e2 e3=>
  have h':((keyD dx).map fun k=>(valD kvs k).isSome)=some b:=by cases dx<;>exact h
  obtain⟨k,q1,rfl⟩:=Z12.mp h';have e:=xV rx q1;subst e;have v:=sL (k:=k) e2 (aBJ e2 e3);have hs:(valV kws k).isSome=(valD kvs k).isSome:=by
   cases q2:valD kvs k with
   |none=>rw[v.1 q2];rfl
   |some d=>obtain⟨w,hw,_⟩:=v.2 d q2;rw[hw];rfl
  rw[← hs];exact .kd e1
 |_=>exact gen (by cases dx<;>exact h)
noncomputable def inD(x y:D):M D:=fun st=>match inB x y st with
 |some b=>some (.b b,st)
 |none=>none
noncomputable def notinD(x y:D):M D:=fun st=>match inB x y st with
 |some b=>some (.b (!b),st)
 |none=>none
theorem aIF(hu:X.A.units+1<cLine):OpR X (compareOp .In) (LR X.kw inD):=by
 rintro pins s σ H x y v u Q I rx ry ⟨m,st,dx,dy,d,st',S,r1,r2,e,k⟩;unfold inD at e;cases q:inB dx dy st with
 |none=>rw[q] at e;cases e
 |some b=>
  rw[q] at e;cases e;have kk:=k.now S (.b b);cases aBL S r1 r2 q with
  |s a c=>exact zH pins s σ H _ _ v u Q I rx ry ⟨a,c,rfl,rfl,kk⟩
  |kd g=>cases ry;exact aJi I g rx fun s' I'=>⟨.bl _,H,I',rfl,kk⟩
  |l g1 g2 g3=>exact zQ pins s σ H _ _ v u Q I rx ry ⟨_,_,rfl,g1,g2,g3,kk⟩
theorem aBM(hu:X.A.units+1<cLine):OpR X (compareOp .NotIn) (LR X.kw notinD):=by
 rintro pins s σ H x y v u Q I rx ry ⟨m,st,dx,dy,d,st',S,r1,r2,e,k⟩;unfold notinD at e;cases q:inB dx dy st with
 |none=>rw[q] at e;cases e
 |some b=>
  rw[q] at e;cases e;have kk:=k.now S (.b (!b));cases aBL S r1 r2 q with
  |s a c=>exact rQ pins s σ H _ _ v u Q I rx ry ⟨a,c,rfl,rfl,kk⟩
  |kd g=>cases ry;exact aEq I g rx fun s' I'=>⟨.bl _,H,I',rfl,kk⟩
  |l g1 g2 g3=>exact rV pins s σ H _ _ v u Q I rx ry ⟨_,_,rfl,g1,g2,g3,kk⟩
noncomputable def noB:D→Bool
 | .no=>true
 |_=>false
theorem aGV{K:KW}{m:List Addr}{H:Hp}{v:V}{d:D}(r:RV K m H v d):decide (v=.non)=noB d:=by
 cases r<;>simp[noB]
noncomputable def isD(x y:D):M D:=match y with
 | .no=>ret (.b (noB x))
 |_=>bad
theorem aIG:OpR X (compareOp .Is) (LR X.kw isD):=by
 refine aGd.imp ?_;rintro x y H Q ⟨m,st,dx,dy,d,st',S,rx,ry,e,k⟩;cases ry with
 |no=>
  cases aB e;exact⟨rfl,by rw[aGV rx];exact k.now S (.b _)⟩
 |_=>cases e
noncomputable def ixV(st:Sto)(x y:D):Option D:=match y with
 | .i n=>match x with
  | .s z=>if z.length≤sizeLine then(atI z.cps.toList n).map fun c=>.s ⟨#[c]⟩ else none
  | .dc kvs=>valD kvs (.inl n)
  |x=>(seqOf st x).bind fun xs=>atI xs n
 | .s k=>match x with
  | .dc kvs=>valD kvs (.inr k)
  |_=>none
 |_=>none
noncomputable def ixD(x y:D):M D:=fun st=>match ixV st x y with
 |some d=>some (d,st)
 |none=>none
theorem aBN{x y d:D}{st st':Sto}(h:ixD x y st=some (d,st')):ixV st x y=some d∧st'=st:=by
 unfold ixD at h;cases q:ixV st x y with
 |none=>rw[q] at h;cases h
 |some z=>rw[q] at h;cases h;exact⟨rfl,rfl⟩
theorem aIH{a b:Expr}{ta tb:En→M D}{pos:Pos}(hu:X.A.units+1<cLine)(ha:QE X a ta)(hb:QE X b tb)(hs:PlainIx b):QE X (.Subscript a b pos) (fun env=>bnd (ta env) fun x=>bnd (tb env) fun y=>ixD x y):=by
 refine aT (aBE (aIq aGo ha hb hs) (aEr ha hb hs)) ?_;rintro σ H Q ⟨m,env,st,d,st',S,E,e,k⟩;obtain⟨x,st1,e1,e2⟩:=aA e;obtain⟨y,st2,e3,e4⟩:=aA e2;obtain⟨e5,rfl⟩:=aBN e4
 by_cases hc:∃ kvs,x=.dc kvs
 ·right
  obtain⟨kvs,rfl⟩:=hc;refine⟨m,env,st,_,st1,S,E,e1,fun v1 H1 m1 s1 S1 r1=>⟨m1,env,st1,y,_,S1,E.stp s1,e3,fun v2 H2 m2 s2 S2 r2=>?_⟩⟩;have e6:((keyD y).bind fun k=>valD kvs k)=some d:=by cases y<;>first|exact e5|cases e5
  obtain⟨key,q1,q2⟩:=U26.mp e6;have ek:=xV r2 q1;subst ek;cases r1.stp s2 with
  |@dc a kws _ g1 g2 g3=>
   obtain⟨v,hv,rv⟩:=(sL (k:=key) g2 (aBJ g2 g3)).2 d q2;exact⟨a,kws,key,v,rfl,g1,rfl,hv,k v H2 m2 (s1.trans s2) S2 rv⟩
 left
 refine⟨m,env,st,_,st1,S,E,e1,fun v1 H1 m1 s1 S1 r1=>⟨m1,env,st1,y,_,S1,E.stp s1,e3,fun v2 H2 m2 s2 S2 r2=>?_⟩⟩;have r1:=r1.stp s2;have fin:∀ v,RV X.kw m2 H2 v d→Q v H2:=fun v rv=>k v H2 m2 (s1.trans s2) S2 rv;cases r2 with
 |i n=>
  have sq:∀ xs,seqOf st' x=some xs→atI xs n=some d→rIx X.K v1 (.int n) H2 Q:=by
   intro xs q1 q2;obtain⟨a',vs,rfl,hs,rr⟩:=jA S2 r1 q1;obtain⟨v,hv,rv⟩:=rr.atI q2;rcases hs with hs|hs
   ·exact .inl ⟨a',vs,n,v,rfl,rfl,hs,hv,fin v rv⟩
   ·exact .inr (.inl ⟨a',vs,n,v,rfl,rfl,hs,hv,fin v rv⟩)
  have key:(seqOf st' x).bind (fun xs=>atI xs n)=some d→rIx X.K v1 (.int n) H2 Q:=fun e=>by
   obtain⟨xs,q1,q2⟩:=U26.mp e;exact sq xs q1 q2
  cases r1 with
  |s z=>
   rw[ixV] at e5
   split at e5
   ·obtain⟨c,q1,rfl⟩:=Z12.mp e5;exact .inr (.inr ⟨z,n,c,rfl,rfl,by assumption,q1,fin _ (.s _)⟩)
   ·cases e5
  |dc g1 g2 g3=>exact absurd ⟨_,rfl⟩ hc
  |_=>exact key e5
 |s z=>cases r1 with
  |dc g1 g2 g3=>exact absurd ⟨_,rfl⟩ hc
  |_=>cases e5
 |_=>cases e5
end
section
variable{X:Cx}{pos:Pos}
noncomputable def asI:D→M Int
 | .i n=>ret n
 |_=>bad
theorem aBO{d:D}{st st':Sto}{x:Int}(h:asI d st=some (x,st')):d=.i x∧st'=st:=by
 cases d<;>first|(cases h;exact⟨rfl,rfl⟩)|cases h
abbrev QO(X:Cx)(e:Option Expr)(te:En→M (Option Int)):Prop:=PO X e (LO X.kw te)
theorem aBP{e:Option Expr}{t u:TO}(h:PO X e t)(hu:∀ σ H Q,u σ H Q→t σ H Q):PO X e u:=fun pins s σ H Q I q=>h pins s σ H Q I (hu σ H Q q)
theorem aEs:QO X none (fun _=>ret none):=by
 refine aBP aDZ ?_;rintro σ H Q ⟨m,env,st,d,st',S,E,e,k⟩;cases aB e;exact k H m .refl S
theorem aEt{a:Expr}{ta:En→M D}(ha:QE X a ta):QO X (some a) (fun env=>bnd (ta env) fun x=>bnd (asI x) fun n=>ret (some n)):=by
 refine aBP (aEa ha) ?_;rintro σ H Q ⟨m,env,st,d,st',S,E,e,k⟩;obtain⟨x,st1,e1,e2⟩:=aA e;obtain⟨n,st2,e3,e4⟩:=aA e2;cases aB e4;obtain⟨rfl,rfl⟩:=aBO e3;refine⟨m,env,st,_,_,S,E,e1,fun v H' m' s S' r=>?_⟩;cases r;exact⟨n,rfl,k H' m' s S'⟩
noncomputable def cutD(xs:List D)(lo hi:Option Int):List D:=(xs.drop (HT.sIx xs.length 0 lo)).take (HT.sIx xs.length xs.length hi - HT.sIx xs.length 0 lo)
def slD(x:D)(lo hi:Option Int):M D:=match x with
 | .s z=>need (z.length≤sizeLine) (ret (.s (Txt.slice z lo hi)))
 | .t xs=>ret (.t (cutD xs lo hi))
 | .f xs=>fun st=>some (.r st.length,st++[.l (cutD xs lo hi)])
 | .r l=>bnd (getL l) fun xs=>fun st=>some (.r st.length,st++[.l (cutD xs lo hi)])
 |_=>bad
theorem aII:SlR X (LSl X.kw slD):=by
 refine(aGu.or (aEg.or aEd)).imp ?_;rintro x lo hi H Q ⟨m,st,dx,d,st',S,rx,e,k⟩;cases rx with
 |s z=>obtain⟨h,e⟩:=aL e;cases aB e;exact .inl ⟨z,rfl,h,k.now S (.s _)⟩
 |t e1 l1 h1=>
  cases aB e;refine .inr (.inl ⟨_,_,rfl,e1,fun p H' ep sm=>?_⟩);obtain⟨S2,s2⟩:=S.same sm;have rr:=(RVs.cut ⟨l1,h1⟩ lo hi).stp s2;exact k _ _ _ s2 S2 (.t ep rr.1 rr.2)
 |f e1 l1 h1=>
  cases e;refine .inr (.inr ⟨_,_,rfl,e1.sq,fun p hp=>?_⟩);obtain⟨S2,s2,r2⟩:=S.newL hp (RVs.cut ⟨l1,h1⟩ lo hi);exact k _ _ _ s2 S2 r2
 |r e1=>
  obtain⟨xs,st1,e2,e3⟩:=aA e;obtain⟨h1,rfl⟩:=bF e2;cases e3;obtain⟨pa,vs,q,ma,oa,ra⟩:=S.lst (.r e1) h1;cases q;refine .inr (.inr ⟨_,_,rfl,SqL.of oa,fun p hp=>?_⟩);obtain⟨S2,s2,r2⟩:=S.newL hp (ra.cut lo hi);exact k _ _ _ s2 S2 r2
 |_=>cases e
theorem aBQ{a:Expr}{ta:En→M D}{lo hi:Option Expr}{tl th:En→M (Option Int)}{p2:Pos}(ha:QE X a ta)(hl:QO X lo tl)(hh:QO X hi th):QE X (.Subscript a (.Slice lo hi none p2) pos) (fun env=>bnd (ta env) fun x=>bnd (tl env) fun l=>bnd (th env) fun h=>slD x l h):=by
 refine aT (aBo aII ha hl hh) ?_;rintro σ H Q ⟨m,env,st,d,st',S,E,e,k⟩;obtain⟨x,st1,e1,e2⟩:=aA e;obtain⟨l,st2,e3,e4⟩:=aA e2;obtain⟨h,st3,e5,e6⟩:=aA e4;exact⟨m,env,st,x,st1,S,E,e1,fun v1 H1 m1 s1 S1 r1=>⟨m1,env,st1,l,st2,S1,E.stp s1,e3,fun H2 m2 s2 S2=>⟨m2,env,st2,h,st3,S2,(E.stp s1).stp s2,e5,fun H3 m3 s3 S3=>
  ⟨m3,st3,x,d,st',S3,(r1.stp s2).stp s3,e6,fun v H' m' s4 S4 r4=>k v H' m' (((s1.trans s2).trans s3).trans s4) S4 r4⟩⟩⟩⟩
theorem aGW{a b:Expr}{ta tb:En→M D}{p2:Pos}(ha:QE X a ta)(hb:QE X b tb):QE X (.Subscript a (.Slice none none (some b) p2) pos) (fun env=>bnd (ta env) fun x=>bnd (tb env) fun y=>match x,y with
  | .t xs, .i n=>need (n=-1) (ret (.t xs.reverse))
  |_,_=>bad):=by
 refine aT (aGv ha hb) ?_;rintro σ H Q ⟨m,env,st,d,st',S,E,e,k⟩;obtain⟨x,st1,e1,e2⟩:=aA e;obtain⟨y,st2,e3,e4⟩:=aA e2;refine⟨m,env,st,x,st1,S,E,e1,fun v1 H1 m1 s1 S1 r1=>⟨m1,env,st1,y,st2,S1,E.stp s1,e3,fun v2 H2 m2 s2 S2 r2=>?_⟩⟩;have r1':=r1.stp s2
 match x,y,r1',r2,e4 with
 | .t xs, .i n, .t ea la ha, .i _,e4=>
  obtain⟨hn,e5⟩:=aL e4;subst hn;cases aB e5;refine⟨rfl,_,_,rfl,ea,fun p hp=>?_⟩;obtain⟨S3,s3,r3⟩:=S2.newT hp (RVs.rev ⟨la,ha⟩);exact k _ _ _ ((s1.trans s2).trans s3) S3 r3
noncomputable def lenV(st:Sto):D→Option Int
 | .s y=>if y.length≤sizeLine then some (y.length:Nat) else none
 |x=>(seqOf st x).map fun xs=>((xs.length:Nat):Int)
noncomputable def lenD:List D→M D
 |[x]=>fun st=>match lenV st x with
  |some n=>some (.i n,st)
  |none=>none
 |_=>bad
theorem aY{K:KW}{m:List Addr}{H:Hp}{vs:List V}{d:D}(r:RVs K m H vs [d]):∃ v,vs=[v]∧RV K m H v d:=by
 have hl:=r.1
 match vs,hl with
 |[v],_=>exact⟨v,rfl,r.2 0 v d rfl rfl⟩
theorem sM{K:KW}{m:List Addr}{H:Hp}{vs:List V}{d e:D}(r:RVs K m H vs [d,e]):∃ v w,vs=[v,w]∧RV K m H v d∧RV K m H w e:=by
 have hl:=r.1
 match vs,hl with
 |[v,w],_=>exact⟨v,w,rfl,r.2 0 v d rfl rfl,r.2 1 w e rfl rfl⟩
theorem xX{K:KW}{m:List Addr}{H:Hp}{vs:List V}(r:RVs K m H vs []):vs=[]:=Z34.mp r.1
theorem aGX:CallR X (.builtin "len") (LC X.kw lenD):=by
 refine aBh.imp ?_;rintro xs H Q ⟨m,st,ds,d,st',S,r,e,k⟩
 match ds,r,e with
 |[x],r,e=>
  obtain⟨v,rfl,rv⟩:=aY r;unfold lenD at e;dsimp only at e;cases q:lenV st x with
  |none=>rw[q] at e;cases e
  |some n=>
   rw[q] at e;cases e;have kk:=k.now S (.i n);have sq:((seqOf st x).map fun xs=>((xs.length:Nat):Int))=some n→∃ x_1 n,[v]=[x_1]∧LenV X.K x_1 H n∧Q (.int (n:Nat)) H:=by
    intro q;obtain⟨ys,q1,q2⟩:=Z12.mp q;subst q2;obtain⟨a,vs,rfl,hs,rr⟩:=jA S rv q1;refine⟨_,ys.length,rfl,?_,kk⟩;rcases hs with hs|hs
    ·exact .inl ⟨vs,hs,rr.1.symm⟩
    ·exact .inr ⟨vs,hs,rr.1.symm⟩
   cases rv with
   |s y=>
    rw[lenV] at q
    split at q
    ·cases q;exact⟨_,y.length,rfl,⟨by assumption,rfl⟩,kk⟩
    ·cases q
   |_=>exact sq q
noncomputable def listD:List D→M D
 |[x]=>fun st=>match seqOf st x with
  |some xs=>some (.r st.length,st++[.l xs])
  |none=>none
 |_=>bad
theorem nY:CallR X (.type "list") (LC X.kw listD):=by
 refine rW.imp ?_;rintro xs H Q ⟨m,st,ds,d,st',S,r,e,k⟩
 match ds,r,e with
 |[x],r,e=>
  obtain⟨v,rfl,rv⟩:=aY r;unfold listD at e;dsimp only at e;cases q:seqOf st x with
  |none=>rw[q] at e;cases e
  |some ys=>
   rw[q] at e;cases e;obtain⟨a,vs,rfl,hs,rr⟩:=jA S rv q;refine⟨a,vs,rfl,hs,fun l hl=>?_⟩;obtain⟨S2,s2,r2⟩:=S.newL hl rr;exact k _ _ _ s2 S2 r2
noncomputable def tupD:List D→M D
 |[.t xs]=>ret (.t xs)
 |[.r l]=>bnd (getL l) fun xs=>ret (.t xs)
 |[.f xs]=>ret (.t xs)
 |_=>bad
theorem aBR:CallR X (.type "tuple") (LC X.kw tupD):=by
 refine qK.imp ?_;rintro xs H Q ⟨m,st,ds,d,st',S,r,e,k⟩
 match ds,r,e with
 |[.t xs],r,e=>
  obtain⟨v,rfl,rv⟩:=aY r;cases aB e;have kk:=k.now S rv;cases rv with
  |t e1 l1 h1=>exact⟨_,_,rfl, .inr ⟨SqT.of e1,kk⟩⟩
 |[.f xs],r,e=>
  obtain⟨v,rfl,rv⟩:=aY r;cases aB e;cases rv with
  |f e1 l1 h1=>
   refine⟨_,_,rfl, .inl ⟨e1.sq,fun p hp=>?_⟩⟩;obtain⟨S2,s2,r2⟩:=S.newT hp ⟨l1,h1⟩;exact k _ _ _ s2 S2 r2
 |[.r l],r,e=>
  obtain⟨v,rfl,rv⟩:=aY r;obtain⟨xs,st1,e2,e3⟩:=aA e;obtain⟨h1,rfl⟩:=bF e2;cases aB e3;obtain⟨pa,vs,rfl,ma,oa,ra⟩:=S.lst rv h1;refine⟨_,_,rfl, .inl ⟨SqL.of oa,fun p hp=>?_⟩⟩;obtain⟨S2,s2,r2⟩:=S.newT hp ra;exact k _ _ _ s2 S2 r2
noncomputable def max2D:List D→M D
 |[.i a, .i b]=>ret (.i (if b > a then b else a))
 |_=>bad
theorem aGY(hc:X.calm=true):CallR X (.builtin "max") (LC X.kw max2D):=by
 refine(zI hc).imp ?_;rintro xs H Q ⟨m,st,ds,d,st',S,r,e,k⟩
 match ds,r,e with
 |[.i a, .i b],r,e=>
  obtain⟨v,w,rfl,rv,rw⟩:=sM r;cases rv;cases rw;cases aB e;exact⟨a,b,rfl,k.now S (.i _)⟩
noncomputable def int1D:List D→M D
 |[.i a]=>ret (.i a)
 |[.b k]=>ret (.i (if k then 1 else 0))
 |_=>bad
theorem aBS:CallR X (.type "int") (LC X.kw int1D):=by
 refine zJ.imp ?_;rintro xs H Q ⟨m,st,ds,d,st',S,r,e,k⟩
 match ds,r,e with
 |[.i a],r,e=>
  obtain⟨v,rfl,rv⟩:=aY r;cases rv;cases aB e;exact .inl ⟨a,rfl,k.now S (.i _)⟩
 |[.b a],r,e=>
  obtain⟨v,rfl,rv⟩:=aY r;cases rv;cases aB e;exact .inr ⟨a,rfl,k.now S (.i _)⟩
noncomputable def tyName(st:Sto):D→Option String
 | .no=>some "NoneType"
 | .b _=>some "bool"
 | .i _=>some "int"
 | .s _=>some "str"
 | .t _=>some "tuple"
 | .r l=>match st[l]? with
  |some (.l _)=>some "list"
  |some (.d _)=>some "dict"
  |_=>none
 |_=>none
theorem qX{K:KW}{m:List Addr}{H:Hp}{st:Sto}{v:V}{d:D}{n:String}(S:SR K m H st)(r:RV K m H v d)(h:tyName st d=some n):TyOf K H v (.type n):=by
 cases r with
 |no=>cases h;exact .non
 |b=>cases h;exact .bl _
 |i=>cases h;exact .int _
 |s=>cases h;exact .str _
 |t e _ _=>cases h;exact .tup e
 |@r l a e=>
  rw[tyName] at h
  match q:st[l]? with
  |none=>rw[q] at h;cases h
  |some (.o _ _)=>rw[q] at h;cases h
  |some (.st _)=>rw[q] at h;cases h
  |some (.l xs)=>rw[q] at h;cases h;obtain⟨vs,o1,_⟩:=S.cel l a _ e q;exact .lst o1
  |some (.d xs)=>rw[q] at h;cases h;obtain⟨vs,o1,_⟩:=S.cel l a _ e q;exact .dK o1
 |_=>cases h
noncomputable def notTy:List (String×String):=[("tuple","str"),("str","tuple"),("list","str"),("str","list"),("tuple","list"),("list","tuple"),("int","str"),("str","int"),("tuple","int"),("NoneType","str"),("NoneType","tuple"),("int","tuple"),("int","bool"),("tuple","dict"),("list","dict"),("str","dict")]
theorem aBT{K:Fg9}{n c:String}(h:(n,c)∈notTy):PySem.W.kitOne K (.type n) (.type c)=some false:=by
 simp only[notTy,W12,Z19,V18,or_false] at h;rcases h with⟨rfl,rfl⟩|⟨rfl,rfl⟩|⟨rfl,rfl⟩|⟨rfl,rfl⟩|⟨rfl,rfl⟩|⟨rfl,rfl⟩|⟨rfl,rfl⟩|⟨rfl,rfl⟩|⟨rfl,rfl⟩|⟨rfl,rfl⟩|⟨rfl,rfl⟩|⟨rfl,rfl⟩|⟨rfl,rfl⟩|⟨rfl,rfl⟩|⟨rfl,rfl⟩|⟨rfl,rfl⟩<;>kernel_rfl
noncomputable def isinstD:List D→M D
 |[x, .ty c]=>fun st=>match tyName st x with
  |some n=>if n=c then some (.b true,st) else if(n,c)∈notTy then some (.b false,st) else none
  |none=>none
 |_=>bad
theorem zZ:CallR X (.builtin "isinstance") (LC X.kw isinstD):=by
 refine tZ.imp ?_;rintro xs H Q ⟨m,st,ds,d,st',S,r,e,k⟩
 match ds,r,e with
 |[x, .ty c],r,e=>
  obtain⟨v,w,rfl,rv,rw⟩:=sM r;cases rw;unfold isinstD at e;dsimp only at e;cases h:tyName st x with
  |none=>rw[h] at e;cases e
  |some n=>
   rw[h] at e;dsimp only at e
   split at e
   ·rename_i hn;subst hn;cases e;exact⟨v, .type n,n,true,rfl,qX S rv h,by unfold PySem.W.kitOne;rw[if_pos (by simp)],k.now S (.b _)⟩
   ·split at e
    ·rename_i hm;cases e;exact⟨v, .type n,c,false,rfl,qX S rv h,aBT hm,k.now S (.b _)⟩
    ·cases e
noncomputable def chkT(T:String)(x:D):M Unit:=fun st=>match x with
 | .s _=>if T="str" then some ((),st) else none
 | .f _=>if T="list" then some ((),st) else none
 | .r l=>match st[l]? with
  |some (.l _)=>if T="list" then some ((),st) else none
  |some (.d _)=>if T="dict" then some ((),st) else none
  |_=>none
 |_=>none
theorem xY{K:KW}{m:List Addr}{H:Hp}{st st':Sto}{T:String}{v:V}{d:D}{u:Unit}(S:SR K m H st)(r:RV K m H v d)(h:chkT T d st=some (u,st')):tyV K T v H∧st'=st:=by
 unfold chkT at h;cases r with
 |s=>dsimp only at h;split at h;· rename_i e;cases h;exact⟨e,rfl⟩
     ·cases h
 |f e _ _=>
  dsimp only at h
  split at h
  ·rename_i eT;cases h;exact⟨.inl ⟨eT,_,e.sq⟩,rfl⟩
  ·cases h
 |@r l a e=>
  dsimp only at h
  match q:st[l]? with
  |none=>rw[q] at h;cases h
  |some (.o _ _)=>rw[q] at h;cases h
  |some (.st _)=>rw[q] at h;cases h
  |some (.l xs)=>
   rw[q] at h;dsimp only at h
   split at h
   ·rename_i eT;cases h;obtain⟨vs,o1,_⟩:=S.cel l a _ e q;exact⟨.inl ⟨eT,_,SqL.of o1⟩,rfl⟩
   ·cases h
  |some (.d xs)=>
   rw[q] at h;dsimp only at h
   split at h
   ·rename_i eT;cases h;obtain⟨vs,o1,_⟩:=S.cel l a _ e q;exact⟨.inr (.inr (.inl ⟨eT, .inl ⟨_,o1⟩⟩)),rfl⟩
   ·cases h
 |_=>cases h
theorem aIJ{o a:Expr}{es:List Expr}{to:En→M D}{t:En→M (List D)}{name:Str}{apos cpos:Pos}{T id:String}{f:D→List D→M D}(pa:PlainAttrs T)(slot:Slot T name id)(hty:typeOf (.builtin id)=pure (.type "method_descriptor"))(hm:MtR X id (LM X.kw f))(ho:QE X o to)(ha:QA X (a::es) t)
  (hbase:attributeBase o name X.env (eval o X.env)=eval o X.env:=by rfl)
  (hfew:((backTo cpos (starEach (a::es) X.env)).all (fun x=>!x.1)&&(backToKw cpos (keywordEach [] X.env)).all (fun x=>x.1.isSome)
   &&decide ((a::es).length+([]:List Keyword).length+(if([]:List Keyword).isEmpty then 0 else 1)<30))=true:=by rfl)
  (hline:(apos.endLine==cpos.line)=true:=by rfl)(hs:starEach (a::es) X.env=(false,eval a X.env)::starEach es X.env:=by rfl)(hplain:(backTo cpos (starEach es X.env)).any (·.1)=false:=by rfl):
  QE X (.Call (.Attribute o name apos) (a::es) [] cpos) (fun env=>bnd (to env) fun x=>bnd (chkT T x) fun _=>bnd (t env) fun xs=>f x xs):=by
 refine aT (aIr pa slot hty hm ho ha hbase hfew hline hs hplain) ?_;rintro σ H Q ⟨m,env,st,d,st',S,E,e,k⟩;obtain⟨x,st1,e1,e2⟩:=aA e;obtain⟨u,st2,e3,e4⟩:=aA e2;obtain⟨xs,st3,e5,e6⟩:=aA e4;refine⟨m,env,st,x,st1,S,E,e1,fun v1 H1 m1 s1 S1 r1=>?_⟩;obtain⟨ty,rfl⟩:=xY S1 r1 e3;exact⟨ty,m1,env,_,xs,st3,S1,E.stp s1,e5,fun vs H2 m2 s2 S2 r2=>⟨m2,st3,x,xs,d,st',S2,r1.stp s2,r2,e6,fun v H' m' s3 S3 r3=>k v H' m' ((s1.trans s2).trans s3) S3 r3⟩⟩
theorem aGZ{o:Expr}{to:En→M D}{name:Str}{apos cpos:Pos}{T id:String}{f:D→List D→M D}(pa:PlainAttrs T)(slot:Slot T name id)(hty:typeOf (.builtin id)=pure (.type "method_descriptor"))(hm:MtR X id (LM X.kw f))(ho:QE X o to)
  (hbase:attributeBase o name X.env (eval o X.env)=eval o X.env:=by rfl)(hline:(apos.endLine==cpos.line)=true:=by rfl):
  QE X (.Call (.Attribute o name apos) [] [] cpos) (fun env=>bnd (to env) fun x=>bnd (chkT T x) fun _=>f x []):=by
 refine aT (aGp pa slot hty hm ho hbase hline) ?_;rintro σ H Q ⟨m,env,st,d,st',S,E,e,k⟩;obtain⟨x,st1,e1,e2⟩:=aA e;obtain⟨u,st2,e3,e4⟩:=aA e2;refine⟨m,env,st,x,st1,S,E,e1,fun v1 H1 m1 s1 S1 r1=>?_⟩;obtain⟨ty,rfl⟩:=xY S1 r1 e3;exact⟨ty,m1,_,x,[],d,st',S1,r1, .nil,e4,fun v H' m' s3 S3 r3=>k v H' m' (s1.trans s3) S3 r3⟩
noncomputable def updL(l:Nat)(f:List D→Option (D×List D)):M D:=fun st=>match lsc st l with
 |some xs=>match f xs with
  |some (d,ys)=>some (d,st.set l (.l ys))
  |none=>none
 |none=>none
theorem jB{l:Nat}{f:List D→Option (D×List D)}{st st':Sto}{d:D}(h:updL l f st=some (d,st')):∃ xs ys,st[l]?=some (.l xs)∧f xs=some (d,ys)∧st'=st.set l (.l ys):=by
 unfold updL at h;cases q:lsc st l with
 |none=>rw[q] at h;cases h
 |some xs=>
  rw[q] at h;dsimp only at h;cases q2:f xs with
  |none=>rw[q2] at h;cases h
  |some p=>rw[q2] at h;cases h;exact⟨xs,p.2,hV q,q2,rfl⟩
theorem nZ{l:Nat}{f:List D→Option (D×List D)}{st:Sto}{d:D}{xs ys:List D}(h:st[l]?=some (.l xs))(h2:f xs=some (d,ys)):updL l f st=some (d,st.set l (.l ys)):=by
 unfold updL;rw[jJ h];dsimp only;rw[h2]
noncomputable def appendD:D→List D→M D
 | .r l,[y]=>updL l fun xs=>if xs.length<sizeLine then some (.no,xs++[y]) else none
 |_,_=>bad
theorem aAa:MtR X "list.append" (LM X.kw appendD):=by
 have h0:MtR X "list.append" rAppend:=zR;refine h0.imp ?_;rintro x xs H Q ⟨m,st,dx,ds,d,st',S,rx,r,e,k⟩
 match dx,ds,rx,r,e with
 | .r l,[y],rx,r,e=>
  obtain⟨w,rfl,rw⟩:=aY r;obtain⟨zs,ys,h1,h2,rfl⟩:=jB e
  split at h2
  ·rename_i hl;cases h2;obtain⟨a,vs,rfl,ma,oa,ra⟩:=S.lst rx h1;obtain⟨S2,s2⟩:=S.putL ma oa rfl (ra.append (.one rw));exact⟨a,vs,w,rfl,rfl,oa,by rw[ra.1];exact hl,k _ _ _ s2 S2 .no⟩
  ·cases h2
noncomputable def popD:D→List D→M D
 | .r l,[]=>updL l fun xs=>(xs[xs.length - 1]?).map fun y=>(y,xs.dropLast)
 | .r l,[.i n]=>updL l fun xs=>if -(2 ^ 63)≤n∧n<2 ^ 63 then(seqIndex? n xs.length).bind fun k=>(xs[k]?).map fun y=>(y,xs.eraseIdx k) else none
 |_,_=>bad
theorem RVs.erase{K:KW}{m:List Addr}{H:Hp}:∀ {vs:List V} {ds:List D} (k:Nat),RVs K m H vs ds→RVs K m H (vs.eraseIdx k) (ds.eraseIdx k)
 |vs,ds,k,h=>by
  rw[List.eraseIdx_eq_take_drop_succ,List.eraseIdx_eq_take_drop_succ];exact(h.take k).append (h.drop (k+1))
theorem aHa:MtR X "list.pop" (LM X.kw popD):=by
 have h0:MtR X "list.pop" rPop:=aGq;have h1:MtR X "list.pop" rPopAt:=aBs;refine(h0.or h1).imp ?_;rintro x xs H Q ⟨m,st,dx,ds,d,st',S,rx,r,e,k⟩
 match dx,ds,rx,r,e with
 | .r l,[],rx,r,e=>
  cases xX r;obtain⟨zs,ys,h1,h2,rfl⟩:=jB e;obtain⟨y,q1,q2⟩:=Z12.mp h2;cases q2;obtain⟨a,vs,rfl,ma,oa,ra⟩:=S.lst rx h1;obtain⟨S2,s2⟩:=S.putL ma oa rfl ra.dropLast;obtain⟨v,hv,rv⟩:=ra.at q1;exact .inl ⟨a,vs,v,rfl,rfl,oa,by rw[ra.1];exact hv,k _ _ _ s2 S2 (rv.stp s2)⟩
 | .r l,[.i n],rx,r,e=>
  obtain⟨w,rfl,rw⟩:=aY r;cases rw;obtain⟨zs,ys,h1,h2,rfl⟩:=jB e
  split at h2
  ·rename_i hn;obtain⟨j,q0,q3⟩:=U26.mp h2;obtain⟨y,q1,q2⟩:=Z12.mp q3;cases q2;obtain⟨a,vs,rfl,ma,oa,ra⟩:=S.lst rx h1;obtain⟨S2,s2⟩:=S.putL ma oa rfl (ra.erase j);obtain⟨v,hv,rv⟩:=ra.at q1;exact .inr ⟨a,vs,n,j,v,rfl,rfl,oa,hn.1,hn.2,by rw[ra.1];exact q0,hv,k _ _ _ s2 S2 (rv.stp s2)⟩
  ·cases h2
noncomputable def extendD:D→List D→M D
 | .r l,[.t ys]=>updL l fun xs=>if xs.length+ys.length≤sizeLine then some (.no,xs++ys) else none
 | .r l,[.r b]=>bnd (getL b) fun ys=>updL l fun xs=>if xs.length+ys.length≤sizeLine then some (.no,xs++ys) else none
 |_,_=>bad
theorem aAb:MtR X "list.extend" (LM X.kw extendD):=by
 have h0:MtR X "list.extend" rExtend:=zS;have h1:MtR X "list.extend" rExtendT:=wA;refine(h0.or h1).imp ?_;rintro x xs H Q ⟨m,st,dx,ds,d,st',S,rx,r,e,k⟩
 match dx,ds,rx,r,e with
 | .r l,[.t ys],rx,r,e=>
  obtain⟨w,rfl,rw⟩:=aY r;obtain⟨zs,us,h1,h2,rfl⟩:=jB e
  split at h2
  ·rename_i hl;cases h2;obtain⟨a,vs,rfl,ma,oa,ra⟩:=S.lst rx h1;cases rw with
   |@t b ws _ e1 l1 q1=>
    obtain⟨S2,s2⟩:=S.putL ma oa rfl (ra.append ⟨l1,q1⟩);exact .inr ⟨a,b,vs,ws,rfl,rfl,oa,e1,by rw[ra.1,l1];exact hl,k _ _ _ s2 S2 .no⟩
  ·cases h2
 | .r l,[.r b],rx,r,e=>
  obtain⟨w,rfl,rw⟩:=aY r;obtain⟨ys,st1,e2,e3⟩:=aA e;obtain⟨hb,rfl⟩:=bF e2;obtain⟨zs,us,h1,h2,rfl⟩:=jB e3
  split at h2
  ·rename_i hl;cases h2;obtain⟨a,vs,rfl,ma,oa,ra⟩:=S.lst rx h1;obtain⟨c,ws,rfl,mc,oc,rc⟩:=S.lst rw hb;obtain⟨S2,s2⟩:=S.putL ma oa rfl (ra.append rc);exact .inl ⟨a,c,vs,ws,rfl,rfl,oa,oc,by rw[ra.1,rc.1];exact hl,k _ _ _ s2 S2 .no⟩
  ·cases h2
end
inductive Fw where
 |nx
 |bk
 |ct
 |rt (d:D)
section
variable(K:KW)
def LG(g:D→En→M En):TG:=fun v σ H Q=>∃ m env st d env' st',SR K m H st∧RE K m H σ env∧RV K m H v d∧g d env st=some (env',st')∧∀ σ' H' m',Stp m H m' H'→SR K m' H' st'→RE K m' H' σ' env'→Q σ' H'
def LGs(g:List D→En→M En):TGs:=fun vs σ H Q=>∃ m env st ds env' st',SR K m H st∧RE K m H σ env∧RVs K m H vs ds∧g ds env st=some (env',st')∧∀ σ' H' m',Stp m H m' H'→SR K m' H' st'→RE K m' H' σ' env'→Q σ' H'
def LSet(f:D→D→D→M Unit):TSet:=fun o i v H Q=>∃ m st x y z st',SR K m H st∧RV K m H o x∧RV K m H i y∧RV K m H v z∧f x y z st=some ((),st')∧∀ H' m',Stp m H m' H'→SR K m' H' st'→Q H'
def After(D:Ends)(σ':St)(H':Hp)(m':List Addr):Fw→Prop
 | .nx=>D.nx σ' H'
 | .bk=>D.bk σ' H'
 | .ct=>D.ct σ' H'
 | .rt d=>∀ v,RV K m' H' v d→D.rt v H'
def LS(ts:En→M (Fw×En)):TS:=fun D σ H=>∃ m env st fl env' st',SR K m H st∧RE K m H σ env∧ts env st=some ((fl,env'),st')∧∀ σ' H' m',Stp m H m' H'→SR K m' H' st'→RE K m' H' σ' env'→After K D σ' H' m' fl
end
abbrev QG(X:Cx)(e:Expr)(g:D→En→M En):Prop:=PG X e (LG X.kw g)
abbrev QGs(X:Cx)(e:List Expr)(g:List D→En→M En):Prop:=PGs X e (LGs X.kw g)
abbrev QS(X:Cx)(s:Stmt)(t:En→M (Fw×En)):Prop:=PS X s (LS X.kw t)
abbrev QSs(X:Cx)(s:List Stmt)(t:En→M (Fw×En)):Prop:=PSs X s (LS X.kw t)
section
variable{X:Cx}{pos:Pos}{a b c:Expr}{ta tb:En→M D}{tc:En→M Bool}{s1 s2:En→M (Fw×En)}
noncomputable def setN(i:Nat)(d:D)(env:En):M En:=ret (env.set i (some d))
theorem aEu{i:Nat}{x:Str}(hN:X.N.Nodup)(hi:X.N[i]?=some x)(hx:Loc X.env.scope x)(hf:X.fn x=true∨X.env.scope.names.lookup x=some .local:=by first|exact .inl rfl|exact .inr rfl|assumption):QG X (.Name x pos) (setN i):=by
 refine sC (xM (i:=i) hN hi hx hf) ?_;rintro v σ H Q ⟨m,env,st,d,env',st',S,E,r,e,k⟩;cases aB e;exact k _ H m .refl S (E.set r)
theorem aEv:QGs X [] (fun ds env=>match ds with
  |[]=>ret env
  |_=>bad):=by
 refine xU xN ?_;rintro v σ H Q ⟨m,env,st,ds,env',st',S,E,r,e,k⟩;cases ds with
 |nil=>cases xX r;cases aB e;exact⟨rfl,k _ H m .refl S E⟩
 |cons d ds=>cases e
theorem aBU{es:List Expr}{g:D→En→M En}{gs:List D→En→M En}(h1:QG X a g)(h2:QGs X es gs)
  (ha:(assignEach (a::es) X.env).map (fun x=>x.snd)=assign a X.env::(assignEach es X.env).map (fun x=>x.snd):=by rfl):QGs X (a::es) (fun ds env=>match ds with
  |d::ds=>bnd (g d env) fun env'=>gs ds env'
  |[]=>bad):=by
 refine xU (tW h1 h2 ha) ?_;rintro vs σ H Q ⟨m,env,st,ds,env',st',S,E,r,e,k⟩
 match ds,vs,r,e with
 |d::ds,v::vs,r,e=>
  have r0:=r.2 0 v d rfl rfl;have r1:RVs X.kw m H vs ds:=⟨by have:=r.1;simpa using this,fun i v' d' e1 e2=>r.2 (i+1) v' d' (by simpa using e1) (by simpa using e2)⟩;obtain⟨env1,st1,e1,e2⟩:=aA e;exact⟨v,vs,rfl,m,env,st,d,env1,st1,S,E,r0,e1,fun σ1 H1 m1 p1 S1 E1=>⟨m1,env1,st1,ds,env',st',S1,E1,r1.stp p1,e2,fun σ' H' m' p2 S2 E2=>k σ' H' m' (p1.trans p2) S2 E2⟩⟩
 |d::ds,[],r,e=>exact absurd r.1 (by simp)
noncomputable def unp(n:Nat)(gs:List D→En→M En)(d:D)(env:En):M En:=fun st=>match seqOf st d with
 |some xs=>if xs.length=n then gs xs env st else none
 |none=>none
theorem aBV{n:Nat}{gs:List D→En→M En}{d:D}{env env':En}{st st':Sto}(h:unp n gs d env st=some (env',st')):∃ xs,seqOf st d=some xs∧xs.length=n∧gs xs env st=some (env',st'):=by
 unfold unp at h;cases q:seqOf st d with
 |none=>rw[q] at h;cases h
 |some xs=>
  rw[q] at h;dsimp only at h
  split at h
  ·exact⟨xs,rfl,by assumption,h⟩
  ·cases h
theorem aHb{es:List Expr}{kk:Nat}{gs:List D→En→M En}{n:Nat}(hc:X.calm=true)(h:QGs X es gs)(hn:(assignEach es X.env).length=n:=by rfl)(hst:(assignEach es X.env).findIdx? (·.1)=none:=by rfl):QG X (.Tuple es kk pos) (unp n gs):=by
 refine sC (aFw (aBd (k:=kk) (n:=n) hc h hn hst) (xS (k:=kk) (n:=n) hc h hn hst)) ?_;rintro v σ H Q ⟨m,env,st,d,env',st',S,E,r,e,k⟩;obtain⟨xs,q1,q2,q3⟩:=aBV e;obtain⟨p,vs,rfl,hs,rr⟩:=jA S r q1;have body:LGs X.kw gs vs σ H Q:=⟨m,env,st,xs,env',st',S,E,rr,q3,k⟩;rcases hs with hs|hs
 ·exact .inr ⟨p,vs,rfl,hs,by rw[rr.1];exact q2,body⟩
 ·exact .inl ⟨p,vs,rfl,hs,by rw[rr.1];exact q2,body⟩
noncomputable def setD(x y z:D):M Unit:=fun st=>match x with
 | .r l=>match dcc st l with
  |some kvs=>match keyD y with
   |some k=>if kvs.length<sizeLine then some ((),st.set l (.d (putD kvs k z))) else none
   |none=>none
  |none=>match lsc st l,y with
   |some xs, .i n=>match ixN xs.length n with
    |some j=>some ((),st.set l (.l (xs.set j z)))
    |none=>none
   |_,_=>none
 |_=>none
theorem aHc(hu:X.A.units+1<cLine):PSet X (LSet X.kw setD):=by
 rintro pins s σ H o i v ov iv u Q I ro ri rv ⟨m,st,x,y,z,st',S,rx,ry,rz,e,k⟩;unfold setD at e;cases rx with
 |@r l p el=>
  dsimp only at e;cases q1:dcc st l with
  |some kvs=>cases q1
  |none=>
   rw[q1] at e;dsimp only at e;cases q2:lsc st l with
   |none=>rw[q2] at e;cases e
   |some xs=>
    rw[q2] at e;cases ry with
    |i n=>
     dsimp only at e;cases q3:ixN xs.length n with
     |none=>rw[q3] at e;cases e
     |some j=>
      rw[q3] at e;cases e;obtain⟨vs,o1,rr⟩:=S.cel l p _ el (hV q2);obtain⟨S2,s2⟩:=S.putL el o1 rfl (rr.set (i:=j) rz);exact set_list pins s σ H _ _ v ov iv u Q I ro ri rv ⟨p,vs,n,j,rfl,rfl,o1,by rw[rr.1];exact q3,k _ _ s2 S2⟩
    |_=>cases e
 |_=>cases e
theorem aHd(hu:X.A.units+1<cLine)(ho:QE X a ta)(hi:QE X b tb)
  (ha:∀ v,assign (.Subscript a b pos) X.env v=(do
   let ov ← holding [v] (eval a X.env)
   let iv ← holding [v,ov] (eval b X.env)
   standAt pos
   holding [v,ov,iv] (setItem ov iv v)
   release [v,ov,iv] []):=by intro _;rfl):QG X (.Subscript a b pos) (fun d env=>bnd (ta env) fun x=>bnd (tb env) fun y=>bnd (setD x y d) fun _=>ret env):=by
 refine sC (aFQ ho hi (aHc hu) ha) ?_;rintro v σ H Q ⟨m,env,st,d,env',st',S,E,r,e,k⟩;obtain⟨x,st1,e1,e2⟩:=aA e;obtain⟨y,st2,e3,e4⟩:=aA e2;obtain⟨u,st3,e5,e6⟩:=aA e4;cases aB e6;exact⟨m,env,st,x,st1,S,E,e1,fun v1 H1 m1 s1 S1 r1=>⟨m1,env,st1,y,st2,S1,E.stp s1,e3,fun v2 H2 m2 s2 S2 r2=>⟨m2,st2,x,y,d,_,S2,r1.stp s2,r2,(r.stp s1).stp s2,e5,fun H3 m3 s3 S3=>k _ H3 m3 ((s1.trans s2).trans s3) S3 (((E.stp s1).stp s2).stp s3)⟩⟩⟩
theorem aEw:QSs X [] (fun env=>ret (.nx,env)):=by
 refine xT aDH ?_;rintro D σ H ⟨m,env,st,fl,env',st',S,E,e,k⟩;cases aB e;exact k _ H m .refl S E
noncomputable def seqS(s1 s2:En→M (Fw×En))(env:En):M (Fw×En):=bnd (s1 env) fun p=>match p.1 with
 | .nx=>s2 p.2
 | .bk=>ret (.bk,p.2)
 | .ct=>ret (.ct,p.2)
 | .rt d=>ret (.rt d,p.2)
theorem aBW{st:Stmt}{rest:List Stmt}(h1:QS X st s1)(h2:QSs X rest s2):QSs X (st::rest) (seqS s1 s2):=by
 refine xT (aBb h1 h2) ?_;rintro D σ H ⟨m,env,st,fl,env',st',S,E,e,k⟩;obtain⟨⟨f1,env1⟩,st1,e1,e2⟩:=aA e;refine⟨m,env,st,f1,env1,st1,S,E,e1,fun σ1 H1 m1 p1 S1 E1=>?_⟩;cases f1 with
 |nx=>exact⟨m1,env1,st1,fl,env',st',S1,E1,e2,fun σ' H' m' p2 S2 E2=>k σ' H' m' (p1.trans p2) S2 E2⟩
 |bk=>cases aB e2;exact k σ1 H1 m1 p1 S1 E1
 |ct=>cases aB e2;exact k σ1 H1 m1 p1 S1 E1
 |rt d=>cases aB e2;exact k σ1 H1 m1 p1 S1 E1
theorem aEx{st:Stmt}(h1:QS X st s1):QSs X [st] s1:=aDI h1
theorem aEy:QS X (.Pass pos) (fun env=>ret (.nx,env)):=by
 refine dQ aDJ ?_;rintro D σ H ⟨m,env,st,fl,env',st',S,E,e,k⟩;cases aB e;exact k _ H m .refl S E
theorem aBX:QS X (.Break pos) (fun env=>ret (.bk,env)):=by
 refine dQ aBc ?_;rintro D σ H ⟨m,env,st,fl,env',st',S,E,e,k⟩;cases aB e;exact k _ H m .refl S E
theorem uF:QS X (.Continue pos) (fun env=>ret (.ct,env)):=by
 refine dQ tV ?_;rintro D σ H ⟨m,env,st,fl,env',st',S,E,e,k⟩;cases aB e;exact k _ H m .refl S E
theorem aEz(he:QE X a ta)(hs:swapsWith a none pos.line X.env=pure false:=by rfl):QS X (.Expr a pos) (fun env=>bnd (ta env) fun _=>ret (.nx,env)):=by
 refine dQ (aDK he hs) ?_;rintro D σ H ⟨m,env,st,fl,env',st',S,E,e,k⟩;obtain⟨x,st1,e1,e2⟩:=aA e;cases aB e2;exact⟨m,env,st,x,_,S,E,e1,fun v H' m' s S' r=>k σ H' m' s S' (E.stp s)⟩
theorem aHe(he:QE X a ta):QS X (.Return (some a) pos) (fun env=>bnd (ta env) fun d=>ret (.rt d,env)):=by
 refine dQ (aFP he) ?_;rintro D σ H ⟨m,env,st,fl,env',st',S,E,e,k⟩;obtain⟨x,st1,e1,e2⟩:=aA e;cases aB e2;exact⟨m,env,st,x,_,S,E,e1,fun v H' m' s S' r=>k σ H' m' s S' (E.stp s) v r⟩
theorem aEA:QS X (.Return none pos) (fun env=>ret (.rt .no,env)):=by
 refine dQ aDL ?_;rintro D σ H ⟨m,env,st,fl,env',st',S,E,e,k⟩;cases aB e;exact k σ H m .refl S E _ .no
theorem aIK{xs ys:List Stmt}(hc:QT X c tc)(ha:QSs X xs s1)(hb:QSs X ys s2):QS X (.If c xs ys pos) (fun env=>bnd (tc env) fun b=>if b=true then s1 env else s2 env):=by
 refine dQ (aIi hc ha hb) ?_;rintro D σ H ⟨m,env,st,fl,env',st',S,E,e,k⟩;obtain⟨x,st1,e1,e2⟩:=aA e;refine⟨m,env,st,x,st1,S,E,e1,fun H' m' s S'=>?_⟩;cases x with
 |true=>exact⟨m',env,st1,fl,env',st',S',E.stp s,e2,fun σ2 H2 m2 p2 S2 E2=>k σ2 H2 m2 (s.trans p2) S2 E2⟩
 |false=>exact⟨m',env,st1,fl,env',st',S',E.stp s,e2,fun σ2 H2 m2 p2 S2 E2=>k σ2 H2 m2 (s.trans p2) S2 E2⟩
theorem pB{K:KW}{g:D→En→M En}{D:Ends}{σ:St}{H:Hp}(h:LS K (fun env=>bnd (ta env) fun d=>bnd (g d env) fun env'=>ret (.nx,env')) D σ H):LE K ta σ H fun x H1=>LG K g x σ H1 D.nx:=by
 obtain⟨m,env,st,fl,env',st',S,E,e,k⟩:=h;obtain⟨x,st1,e1,e2⟩:=aA e;obtain⟨env1,st2,e3,e4⟩:=aA e2;cases aB e4;exact⟨m,env,st,x,st1,S,E,e1,fun v H1 m1 s1 S1 r1=>⟨m1,env,st1,x,_,_,S1,E.stp s1,r1,e3,fun σ' H' m' p S' E'=>k σ' H' m' (s1.trans p) S' E'⟩⟩
theorem aBY{g:D→En→M En}(he:QE X a ta)(hg:QG X b g)(hs:swapsWithSole [b] a pos.line X.env=pure false:=by rfl)(hw:swappedStores [b] a X.env=pure none:=by rfl)
  (h1:(assignEach [b] X.env).map (·.2)=[assign b X.env]:=by rfl):QS X (.Assign [b] a pos) (fun env=>bnd (ta env) fun d=>bnd (g d env) fun env'=>ret (.nx,env')):=
 dQ (aFR he hg hs hw h1) fun _ _ _ h=>pB h
theorem aBZ{i:Nat}{x:Str}{pos':Pos}(hN:X.N.Nodup)(hi:X.N[i]?=some x)(hx:Loc X.env.scope x)(he:QE X a ta)(hs:swapsWith a (some (.Name x pos')) pos.line X.env=pure false:=by rfl)(hf:X.fn x=true∨X.env.scope.names.lookup x=some .local:=by first|exact .inl rfl|exact .inr rfl|assumption):
  QS X (.Assign [.Name x pos'] a pos) (fun env=>bnd (ta env) fun d=>bnd (setN i d env) fun env'=>ret (.nx,env')):=by
 refine dQ (aFS (i:=i) hN hi hx he hs hf) fun D σ H h=>?_;obtain⟨m,env,st,d,st',S,E,e,k⟩:=pB h;refine⟨m,env,st,d,st',S,E,e,fun v H' m' s S' r=>?_⟩;obtain⟨m1,env1,st1,d1,env',st2,S1,E1,r1,e1,k1⟩:=k v H' m' s S' r;cases aB e1;exact k1 _ H' m1 .refl S1 (E1.set r1)
theorem aHf{i:Nat}{x:Str}{op:Operator}{f:D→D→M D}{pos':Pos}(hN:X.N.Nodup)(hi:X.N[i]?=some x)(hx:Loc X.env.scope x)(he:QE X a ta)(ho:OpR X (inplaceOp op) (LR X.kw f))(hf:X.fn x=true∨X.env.scope.names.lookup x=some .local:=by first|exact .inl rfl|exact .inr rfl|assumption):
  QS X (.AugAssign (.Name x pos') op a pos) (fun env=>bnd (vD i env) fun x=>bnd (ta env) fun y=>bnd (f x y) fun z=>ret (.nx,env.set i (some z))):=by
 refine dQ (aFU (i:=i) (ti:=LR X.kw f) hN hi hx he ho hf) ?_;rintro D σ H ⟨m,env,st,fl,env',st',S,E,e,k⟩;obtain⟨x,st1,e1,e2⟩:=aA e;obtain⟨y,st2,e3,e4⟩:=aA e2;obtain⟨z,st3,e5,e6⟩:=aA e4;cases aB e6;obtain⟨e7,rfl⟩:=sD e1;obtain⟨v,h1,h2⟩:=E.2 i x e7;exact⟨v,h1,m,env,_,y,st2,S,E,e3,fun v2 H2 m2 p2 S2 r2=>⟨m2,st2,x,y,z,_,S2,h2.stp p2,r2,e5,fun v3 H3 m3 p3 S3 r3=>k _ H3 m3 (p2.trans p3) S3 ((E.stp (p2.trans p3)).set r3)⟩⟩
noncomputable def iaddD:D→D→M D
 | .i a, .i b=>ret (.i (a+b))
 | .s a, .s b=>need (a.length+b.length≤sizeLine) (ret (.s (a++b)))
 |_,_=>bad
theorem aHg:OpR X (inplaceOp .Add) (LR X.kw iaddD):=by
 refine(aDO.or tX).imp ?_;rintro x y H Q ⟨m,st,dx,dy,d,st',S,rx,ry,e,k⟩
 match dx,dy,rx,ry,e with
 | .i a, .i b, .i _, .i _,e=>cases aB e;exact .inl ⟨_,_,rfl,rfl,k.now S (.i _)⟩
 | .s a, .s b, .s _, .s _,e=>obtain⟨h,e⟩:=aL e;cases aB e;exact .inr ⟨_,_,rfl,rfl,h,k.now S (.s _)⟩
noncomputable def whN(tc:En→M Bool)(tb:En→M (Fw×En)):Nat→En→M (Fw×En)
 |0,_=>bad
 |n+1,env=>bnd (tc env) fun b=>if b=true then bnd (tb env) fun p=>match p.1 with
   | .nx=>whN tc tb n p.2
   | .ct=>whN tc tb n p.2
   | .bk=>ret (.nx,p.2)
   | .rt d=>ret (.rt d,p.2) else ret (.nx,env)
open Classical in
def whC(tc:En→M Bool)(tb:En→M (Fw×En))(env:En):M (Fw×En):=fun st=>if h:∃ r n,whN tc tb n env st=some r then some h.choose else none
theorem aCa{body:List Stmt}(hp:PassesOwn (model X.prog X.w) X.A X.env X.xe)(hc:QT X c tc)(hb:QSs X body s1):QS X (.While c body [] pos) (whC tc s1):=by
 refine dQ (aBe hp hc hb) ?_;rintro D σ H ⟨m,env,st,fl,env',st',S,E,e,k⟩;unfold whC at e
 split at e
 ·rename_i h;have h2:=h.choose_spec;rw[U14 e] at h2;obtain⟨n,h2⟩:=h2;refine⟨fun n σ1 H1=>∃ m1 env1 st1,SR X.kw m1 H1 st1∧RE X.kw m1 H1 σ1 env1∧whN tc s1 n env1 st1=some ((fl,env'),st')∧Stp m H m1 H1,⟨n,m,env,st,S,E,h2, .refl⟩,?_⟩;rintro n σ1 H1 ⟨m1,env1,st1,S1,E1,h3,p1⟩;cases n with
  |zero=>cases h3
  |succ n=>
   rw[whN] at h3;obtain⟨b,st2,e1,e2⟩:=aA h3;refine⟨m1,env1,st1,b,st2,S1,E1,e1,fun H2 m2 p2 S2=>?_⟩;cases b with
   |false=>
    rw[if_neg (by decide)] at e2;cases aB e2;rw[if_neg (by decide)];exact k σ1 H2 m2 (p1.trans p2) S2 (E1.stp p2)
   |true=>
    rw[if_pos rfl] at e2 ⊢;obtain⟨⟨f1,env2⟩,st3,e3,e4⟩:=aA e2;refine⟨fun σ3 H3=>∃ m1 env1 st1,SR X.kw m1 H3 st1∧RE X.kw m1 H3 σ3 env1∧whN tc s1 n env1 st1=some ((fl,env'),st')∧Stp m H m1 H3,fun σ3 H3 h=>⟨n,V30 n,h⟩,?_⟩;refine⟨m2,env1,st2,f1,env2,st3,S2,E1.stp p2,e3,fun σ3 H3 m3 p3 S3 E3=>?_⟩;have pp:=(p1.trans p2).trans p3;cases f1 with
    |nx=>exact⟨m3,env2,st3,S3,E3,e4,pp⟩
    |ct=>exact⟨m3,env2,st3,S3,E3,e4,pp⟩
    |bk=>cases aB e4;exact k σ3 H3 m3 pp S3 E3
    |rt d=>cases aB e4;exact k σ3 H3 m3 pp S3 E3
 ·cases e
theorem uG{tc:En→M Bool}{tb:En→M (Fw×En)}:∀ {n:Nat} {env:En} {st:Sto} {r:(Fw×En)×Sto} {k:Nat},whN tc tb n env st=some r→n≤k→whN tc tb k env st=some r:=by
 intro n
 induction n with
 |zero=>intro env st r k h;cases h
 |succ n ih=>
  intro env st r k h hk;obtain⟨k,rfl⟩:∃ j,k=j+1:=⟨k - 1,by omega⟩;rw[whN] at h ⊢;obtain⟨b,st2,e1,e2⟩:=aA h;rw[aQ e1];cases b with
  |false=>exact e2
  |true=>
   rw[if_pos rfl] at e2 ⊢;obtain⟨⟨f1,env2⟩,st3,e3,e4⟩:=aA e2;rw[aQ e3];cases f1 with
   |nx=>exact ih e4 (by omega)
   |ct=>exact ih e4 (by omega)
   |bk=>exact e4
   |rt d=>exact e4
theorem aCb{tc:En→M Bool}{tb:En→M (Fw×En)}{n:Nat}{env:En}{st:Sto}{r:(Fw×En)×Sto}(h:whN tc tb n env st=some r):whC tc tb env st=some r:=by
 unfold whC;have hx:∃ r n,whN tc tb n env st=some r:=⟨r,n,h⟩;rw[dif_pos hx];obtain⟨k,hk⟩:=hx.choose_spec;have h1:=uG h (Nat.le_max_left n k);have h2:=uG hk (Nat.le_max_right n k);rw[h1] at h2;exact h2.symm
theorem aHh{tc:En→M Bool}{tb:En→M (Fw×En)}{env:En}{st:Sto}{r:(Fw×En)×Sto}(h:whC tc tb env st=some r):∃ n,whN tc tb n env st=some r:=by
 unfold whC at h
 split at h
 ·rename_i hx;obtain⟨k,hk⟩:=hx.choose_spec;rw[U14 h] at hk;exact⟨k,hk⟩
 ·cases h
theorem jY{tc:En→M Bool}{tb:En→M (Fw×En)}{env env1:En}{st st1 st2:Sto}{r:(Fw×En)×Sto}(h1:tc env st=some (true,st1))(h2:tb env st1=some ((.nx,env1),st2))(h3:whC tc tb env1 st2=some r):whC tc tb env st=some r:=by
 obtain⟨n,h3⟩:=aHh h3;exact aCb (n:=n+1) (by rw[whN,aQ h1,if_pos rfl,aQ h2];exact h3)
theorem iE{tc:En→M Bool}{tb:En→M (Fw×En)}{env:En}{st st1:Sto}(h1:tc env st=some (false,st1)):whC tc tb env st=some ((.nx,env),st1):=
 aCb (n:=1) (by rw[whN,aQ h1,if_neg (by decide)];rfl)
end
abbrev Its':=List D×(Sto→Prop)
def ItOk(K:KW)(m0:List Addr)(H0:Hp)(J:It)(its:Its'):Prop:=∀ (i:Nat) m H st,Stp m0 H0 m H→SR K m H st→its.2 st→
 (∀ d,its.1[i]?=some d→J.go i H∧∀ x H',J.yld i H x H'→SR K m H' st∧Stp m H m H'∧RV K m H' x d)∧(i=its.1.length→J.stop i H)
def LI(K:KW)(ti:En→M Its'):TI:=fun σ H R=>∃ m env st its st',SR K m H st∧RE K m H σ env∧ti env st=some (its,st')∧∀ J H' m',Stp m H m' H'→SR K m' H' st'→ItOk K m' H' J its→R J H'
abbrev QI(X:Cx)(tg e:Expr)(ti:En→M Its'):Prop:=PI X tg e (LI X.kw ti)
noncomputable def chars(x:Str):List D:=x.cps.toList.map fun c=>.s ⟨#[c]⟩
noncomputable def itD:D→M Its'
 | .t xs=>ret (xs,fun _=>True)
 | .k xs=>ret (xs,fun _=>True)
 | .f xs=>ret (xs,fun _=>True)
 | .r l=>bnd (getL l) fun xs=>ret (xs,fun st=>st[l]?=some (.l xs))
 | .s x=>ret (chars x,fun _=>True)
 |_=>bad
section
variable{X:Cx}{pos:Pos}{tg a b:Expr}{ta tb:En→M D}
theorem aHi{K:KW}{m0:List Addr}{H0:Hp}{a:Addr}{xs:List D}{chk:Sto→Prop}(h:∀ m H st,Stp m0 H0 m H→SR K m H st→chk st→∃ vs,SqL K H a vs∧RVs K m H vs xs):ItOk K m0 H0 (Itl K a) (xs,chk):=by
 intro i m H st p S c;obtain⟨vs,hs,r⟩:=h m H st p S c;refine⟨fun d hd=>?_,fun hi=>⟨vs,hs,by rw[r.1,hi];exact Y12 _⟩⟩;obtain⟨v,hv,rv⟩:=r.at hd;refine⟨⟨vs,v,hs,hv⟩,fun x H' y=>?_⟩;obtain⟨rfl,y⟩:=y;have:=y vs hs;rw[hv] at this;cases this;exact⟨S, .refl,rv⟩
theorem aHj{K:KW}{m0:List Addr}{H0:Hp}{a:Addr}{xs:List D}{chk:Sto→Prop}(h:∀ m H st,Stp m0 H0 m H→SR K m H st→chk st→∃ vs,SqT K H a vs∧RVs K m H vs xs):ItOk K m0 H0 (Itt K a) (xs,chk):=by
 intro i m H st p S c;obtain⟨vs,hs,r⟩:=h m H st p S c;refine⟨fun d hd=>?_,fun hi=>⟨vs,hs,by rw[r.1,hi];exact Y12 _⟩⟩;obtain⟨v,hv,rv⟩:=r.at hd;refine⟨⟨vs,v,hs,hv⟩,fun x H' y=>?_⟩;obtain⟨rfl,y⟩:=y;have:=y vs hs;rw[hv] at this;cases this;exact⟨S, .refl,rv⟩
theorem aHk{d:D}{its:Its'}{st st':Sto}(h:itD d st=some (its,st')):st'=st:=by
 cases d with
 |r l=>obtain⟨xs,st1,e2,e3⟩:=aA h;obtain⟨_,rfl⟩:=bF e2;cases e3;rfl
 |_=>first|(cases h;rfl)|cases h
theorem aHl(ha:QE X a ta):QI X tg a (fun env=>bnd (ta env) itD):=by
 refine mR (aBF (aDM ha) (aBF (aFV ha) (aGt ha))) ?_;rintro σ H R ⟨m,env,st,its,st',S,E,e,k⟩;obtain⟨x,st1,e1,e2⟩:=aA e;have hst:=aHk e2;subst hst
 by_cases hs:∃ z,x=.s z
 ·obtain⟨z,rfl⟩:=hs;cases e2;refine .inr (.inr ⟨m,env,st,_,_,S,E,e1,fun v H' m' s S' r=>?_⟩);cases r;refine⟨z,rfl,k _ H' m' s S' ?_⟩;intro i m2 H2 st2 p2 S2 _;refine⟨fun d hd=>?_,fun hi=>?_⟩
  ·unfold chars at hd;rw[Z13] at hd;obtain⟨c,hc,rfl⟩:=Z12.mp hd;rw[Y28] at hc;refine⟨(Array.getElem?_eq_some_iff.mp hc).1,?_⟩;rintro x H3 ⟨rfl,c',h1,rfl⟩;rw[hc] at h1;cases h1;exact⟨S2, .refl, .s _⟩
  ·show z.cps.size≤i;rw[hi];simp[chars]
 ·have hs':∀ z,x≠.s z:=fun z h=>hs ⟨z,h⟩;have pick:(∃ xs,x=.t xs∨x=.k xs)∨(∃ xs,x=.f xs)∨∃ l,x=.r l:=by
   cases x with
   |t xs=>exact .inl ⟨xs, .inl rfl⟩
   |k xs=>exact .inl ⟨xs, .inr rfl⟩
   |f xs=>exact .inr (.inl ⟨xs,rfl⟩)
   |r l=>exact .inr (.inr ⟨l,rfl⟩)
   |s z=>exact absurd rfl (hs' z)
   |_=>cases e2
  rcases pick with⟨xs,hx⟩|hx
  ·refine .inr (.inl ⟨m,env,st,x,_,S,E,e1,fun v H' m' s S' r=>?_⟩);have hsq:∃ p,v=.ref p∧∀ m2 H2 st2,Stp m' H' m2 H2→SR X.kw m2 H2 st2→its.2 st2→∃ vs,SqT X.K H2 p vs∧RVs X.kw m2 H2 vs its.1:=by
    rcases hx with rfl|rfl
    ·cases e2;cases r with
     |t e l q=>exact⟨_,rfl,fun m H st p S _=>⟨_,SqT.of (p.kt _ _ e rfl),RVs.stp ⟨l,q⟩ p⟩⟩
    ·cases e2;cases r with
     |k e l q=>exact⟨_,rfl,fun m H st p S _=>⟨_,e H,RVs.stp ⟨l,q⟩ p⟩⟩
   obtain⟨p,rfl,hp⟩:=hsq;obtain⟨vs,h1,h2⟩:=hp m' H' st' .refl S' (by rcases hx with rfl|rfl<;>(cases e2;trivial));exact⟨p,rfl,⟨vs,h1⟩,k _ H' m' s S' (aHj hp)⟩
  ·refine .inl ⟨m,env,st,x,_,S,E,e1,fun v H' m' s S' r=>?_⟩;have hsq:∃ p,v=.ref p∧its.2 st'∧∀ m2 H2 st2,Stp m' H' m2 H2→SR X.kw m2 H2 st2→its.2 st2→∃ vs,SqL X.K H2 p vs∧RVs X.kw m2 H2 vs its.1:=by
    rcases hx with⟨xs,rfl⟩|⟨l,rfl⟩
    ·cases e2;cases r with
     |f e l q=>exact⟨_,rfl,trivial,fun m H st p S _=>⟨_,(e.kp p.kt).sq,RVs.stp ⟨l,q⟩ p⟩⟩
    ·obtain⟨xs,st3,e3,e4⟩:=aA e2;obtain⟨h1,rfl⟩:=bF e3;cases e4;cases r with
     |r e=>
      refine⟨_,rfl,h1,fun m H st p S c=>?_⟩;obtain⟨vs,o,rr⟩:=S.cel l _ _ (p.pre _ _ e) c;exact⟨vs,SqL.of o,rr⟩
   obtain⟨p,rfl,hc,hp⟩:=hsq;obtain⟨vs,h1,h2⟩:=hp m' H' st' .refl S' hc;exact⟨p,rfl,⟨vs,h1⟩,k _ H' m' s S' (aHi hp)⟩
def rangeD:List D→M Its'
 |[.i j]=>need (-(2 ^ 62)≤j∧j<2 ^ 62) (ret ((List.range j.toNat).map fun(k:Nat)=>D.i (0+(k:Int)),fun _=>True))
 |[.i i, .i j]=>need (-(2 ^ 62)≤i∧i<2 ^ 62∧-(2 ^ 62)≤j∧j<2 ^ 62) (ret ((List.range (j - i).toNat).map fun(k:Nat)=>D.i (i+(k:Int)),fun _=>True))
 |_=>bad
theorem aHm{K:KW}{m0:List Addr}{H0:Hp}{lo:Int}{n:Nat}:ItOk K m0 H0 (Itr lo n) ((List.range n).map fun(k:Nat)=>D.i (lo+(k:Int)),fun _=>True):=by
 intro i m H st p S c;refine⟨fun d hd=>?_,fun hi=>?_⟩
 ·rw[Z13] at hd;obtain⟨j,hj,rfl⟩:=Z12.mp hd;obtain⟨h1,h2⟩:=Z10.mp hj;simp at h1 h2;subst h2;refine⟨h1,?_⟩;rintro x H' ⟨rfl,rfl⟩;exact⟨S, .refl, .i _⟩
 ·show n≤i;rw[hi];simp
theorem aAc{t:En→M (List D)}{p:Pos}(hg:Gl X "range")(hm:X.mg "range"=none)(ha:QA X [a] t)(hs:starEach [a] X.env=[(false,eval a X.env)]:=by rfl):QI X tg (.Call (.Name "range" p) [a] [] pos) (fun env=>bnd (t env) fun xs=>need (xs.length=1) (rangeD xs)):=by
 refine mR (zF hg hm ha hs) ?_;rintro σ H R ⟨m,env,st,its,st',S,E,e,k⟩;obtain⟨xs,st1,e1,e2⟩:=aA e;obtain⟨hl,e2⟩:=aL e2
 match xs,hl,e1,e2 with
 |[.i j],_,e1,e2=>
  obtain⟨h,e2⟩:=aL e2;cases aB e2;refine⟨m,env,st,_,_,S,E,e1,fun vs H' m' s S' r=>?_⟩;obtain⟨v,rfl,rv⟩:=aY r;cases rv;exact⟨j,rfl,h.1,h.2,k _ H' m' s S' aHm⟩
noncomputable def enumL(xs:List D):List D:=(List.range xs.length).map fun(k:Nat)=>D.t [.i (k:Nat),xs.getD k .no]
theorem mD{xs:List D}{i:Nat}{d:D}(h:(enumL xs)[i]?=some d):∃ x,xs[i]?=some x∧d=.t [.i (i:Nat),x]:=by
 unfold enumL at h;rw[Z13] at h;obtain⟨j,hj,rfl⟩:=Z12.mp h;obtain⟨h1,h2⟩:=Z10.mp hj;simp at h1 h2;subst h2;exact⟨xs[i],by simp[h1],by simp[V19,h1]⟩
noncomputable def enumD:List D→M Its'
 |[.t xs]=>ret (enumL xs,fun _=>True)
 |[.k xs]=>ret (enumL xs,fun _=>True)
 |[.f xs]=>ret (enumL xs,fun _=>True)
 |[.r l]=>bnd (getL l) fun xs=>ret (enumL xs,fun st=>st[l]?=some (.l xs))
 |_=>bad
theorem xZ{K:KW}{m0:List Addr}{H0:Hp}{a:Addr}{xs:List D}{chk:Sto→Prop}(h:∀ m H st,Stp m0 H0 m H→SR K m H st→chk st→∃ vs,SqL K H a vs∧RVs K m H vs xs):ItOk K m0 H0 (Itel K a) (enumL xs,chk):=by
 intro i m H st p S c;obtain⟨vs,hs,r⟩:=h m H st p S c;refine⟨fun d hd=>?_,fun hi=>⟨vs,hs,by rw[hi,r.1];simp[enumL]⟩⟩;obtain⟨x,hx,rfl⟩:=mD hd;obtain⟨v,hv,rv⟩:=r.at hx;refine⟨⟨vs,v,hs,hv⟩,?_⟩;rintro y H' ⟨T,z,rfl,hT,hz,rfl⟩;have:=hz vs hs;rw[hv] at this;cases this;obtain⟨S2,s2,r2⟩:=S.newT hT (.cons (.i _) (.cons rv .nil));exact⟨S2,s2,r2⟩
theorem yA{K:KW}{m0:List Addr}{H0:Hp}{a:Addr}{xs:List D}{chk:Sto→Prop}(h:∀ m H st,Stp m0 H0 m H→SR K m H st→chk st→∃ vs,SqT K H a vs∧RVs K m H vs xs):ItOk K m0 H0 (Itet K a) (enumL xs,chk):=by
 intro i m H st p S c;obtain⟨vs,hs,r⟩:=h m H st p S c;refine⟨fun d hd=>?_,fun hi=>⟨vs,hs,by rw[hi,r.1];simp[enumL]⟩⟩;obtain⟨x,hx,rfl⟩:=mD hd;obtain⟨v,hv,rv⟩:=r.at hx;refine⟨⟨vs,v,hs,hv⟩,?_⟩;rintro y H' ⟨T,z,rfl,hT,hz,rfl⟩;have:=hz vs hs;rw[hv] at this;cases this;obtain⟨S2,s2,r2⟩:=S.newT hT (.cons (.i _) (.cons rv .nil));exact⟨S2,s2,r2⟩
theorem aEB{es:List Expr}{kk:Nat}{tpos p:Pos}{t:En→M (List D)}(hg:Gl X "enumerate")(hm:X.mg "enumerate"=none)(ha:QA X [a] t)(hs:starEach [a] X.env=[(false,eval a X.env)]:=by rfl):
  QI X (.Tuple es kk tpos) (.Call (.Name "enumerate" p) [a] [] pos) (fun env=>bnd (t env) enumD):=by
 refine mR (aBF (aBx hg hm ha hs) (aBA hg hm ha hs)) ?_;rintro σ H R ⟨m,env,st,its,st',S,E,e,k⟩;obtain⟨xs,st1,e1,e2⟩:=aA e
 match xs,e1,e2 with
 |[.t xs],e1,e2=>
  cases aB e2;refine .inl ⟨m,env,st,_,_,S,E,e1,fun vs H' m' s S' r=>?_⟩;obtain⟨v,rfl,rv⟩:=aY r;cases rv with
  |t e l q=>exact⟨_,rfl,⟨_,SqT.of e⟩,k _ H' m' s S' (yA fun m H st p S _=>⟨_,SqT.of (p.kt _ _ e rfl),RVs.stp ⟨l,q⟩ p⟩)⟩
 |[.k xs],e1,e2=>
  cases aB e2;refine .inl ⟨m,env,st,_,_,S,E,e1,fun vs H' m' s S' r=>?_⟩;obtain⟨v,rfl,rv⟩:=aY r;cases rv with
  |k e l q=>exact⟨_,rfl,⟨_,e H'⟩,k _ H' m' s S' (yA fun m H st p S _=>⟨_,e H,RVs.stp ⟨l,q⟩ p⟩)⟩
 |[.f xs],e1,e2=>
  cases aB e2;refine .inr ⟨m,env,st,_,_,S,E,e1,fun vs H' m' s S' r=>?_⟩;obtain⟨v,rfl,rv⟩:=aY r;cases rv with
  |f e l q=>exact⟨_,rfl,⟨_,e.sq⟩,k _ H' m' s S' (xZ fun m H st p S _=>⟨_,(e.kp p.kt).sq,RVs.stp ⟨l,q⟩ p⟩)⟩
 |[.r l],e1,e2=>
  obtain⟨xs,st3,e3,e4⟩:=aA e2;obtain⟨h1,rfl⟩:=bF e3;cases aB e4;refine .inr ⟨m,env,st,_,_,S,E,e1,fun vs H' m' s S' r=>?_⟩;obtain⟨v,rfl,rv⟩:=aY r;cases rv with
  |r e=>
   obtain⟨ws,o0,_⟩:=S'.cel l _ _ e h1;refine⟨_,rfl,⟨_,SqL.of o0⟩,k _ H' m' s S' (xZ fun m H st p S c=>?_)⟩;obtain⟨vs,o,rr⟩:=S.cel l _ _ (p.pre _ _ e) c;exact⟨vs,SqL.of o,rr⟩
end
open Classical in
def chkM{α:Type}(c:Sto→Prop)(x:M α):M α:=fun st=>if c st then x st else none
theorem kY{α:Type}{c:Sto→Prop}{x:M α}{st:Sto}{r:α×Sto}(h:chkM c x st=some r):c st∧x st=some r:=by
 unfold chkM at h
 split at h
 ·exact⟨by assumption,h⟩
 ·cases h
theorem bG{α:Type}{c:Sto→Prop}{x:M α}{st:Sto}(h:c st):chkM c x st=x st:=by unfold chkM;rw[if_pos h]
noncomputable def forD(c:Sto→Prop)(g:D→En→M En)(tb:En→M (Fw×En)):List D→En→M (Fw×En)
 |[],env=>chkM c (ret (.nx,env))
 |x::xs,env=>chkM c (bnd (g x env) fun env1=>bnd (tb env1) fun p=>match p.1 with
   | .nx=>forD c g tb xs p.2
   | .ct=>forD c g tb xs p.2
   | .bk=>ret (.nx,p.2)
   | .rt d=>ret (.rt d,p.2))
section
variable{X:Cx}{pos:Pos}{tg a b iter:Expr}{ti:En→M Its'}{g:D→En→M En}{s1:En→M (Fw×En)}
theorem aHn{body:List Stmt}(hp:PassesOwn (model X.prog X.w) X.A X.env X.xe)(hc:X.calm=true)(hi:QI X tg iter ti)(hg:QG X tg g)(hb:QSs X body s1)
  (hs:∀ x,foldedSetIterable iter X.env x=pure x:=by intro _;rfl):QS X (.For tg iter body [] pos) (fun env=>bnd (ti env) fun its=>forD its.2 g s1 its.1 env):=by
 refine dQ (aFW hp hc hi hg hb hs) ?_;rintro D σ H ⟨m,env,st,fl,env',st',S,E,e,k⟩;obtain⟨its,st1,e1,e2⟩:=aA e;refine⟨m,env,st,its,st1,S,E,e1,fun J H1 m1 p1 S1 O=>?_⟩;refine⟨fun i n σ2 H2=>∃ m2 env2 st2,n=its.1.length - i∧i≤its.1.length∧SR X.kw m2 H2 st2∧RE X.kw m2 H2 σ2 env2∧forD its.2 g s1 (its.1.drop i) env2 st2=some ((fl,env'),st')∧Stp m1 H1 m2 H2,
  ⟨its.1.length,m1,env,st1,by simp,Z23 _,S1,E.stp p1,e2, .refl⟩,?_⟩
 rintro i n σ2 H2 ⟨m2,env2,st2,rfl,hi,S2,E2,h2,p2⟩
 by_cases hlt:i<its.1.length
 ·have hd:its.1.drop i=its.1[i]::its.1.drop (i+1):=Z30 hlt;rw[hd,forD] at h2;obtain⟨hc2,h2⟩:=kY h2;obtain⟨env3,st3,e3,e4⟩:=aA h2;obtain⟨⟨f1,env4⟩,st4,e5,e6⟩:=aA e4;obtain⟨O1,_⟩:=O i m2 H2 st2 p2 S2 hc2;obtain⟨go,yld⟩:=O1 its.1[i] (by simp[hlt]);refine .inr ⟨go,fun σ5 H5=>∃ m2 env2 st2,SR X.kw m2 H5 st2∧RE X.kw m2 H5 σ5 env2∧forD its.2 g s1 (its.1.drop (i+1)) env2 st2=some ((fl,env'),st')∧Stp m1 H1 m2 H5,
   fun σ5 H5 ⟨m5,env5,st5,S5,E5,h5,p5⟩=>⟨its.1.length - (i+1),by omega,m5,env5,st5,rfl,hlt,S5,E5,h5,p5⟩,fun x H' hy=>?_⟩
  obtain⟨S3,p3,r3⟩:=yld x H' hy;refine⟨m2,env2,st2,its.1[i],env3,st3,S3,E2.stp p3,r3,e3,fun σ4 H4 m4 p4 S4 E4=>?_⟩;refine⟨m4,env3,st3,f1,env4,st4,S4,E4,e5,fun σ5 H5 m5 p5 S5 E5=>?_⟩;have pp:=((p2.trans p3).trans p4).trans p5;cases f1 with
  |nx=>exact⟨m5,env4,st4,S5,E5,e6,pp⟩
  |ct=>exact⟨m5,env4,st4,S5,E5,e6,pp⟩
  |bk=>cases aB e6;exact k σ5 H5 m5 (p1.trans pp) S5 E5
  |rt d=>cases aB e6;exact k σ5 H5 m5 (p1.trans pp) S5 E5
 ·have hi2:i=its.1.length:=by omega
  subst hi2;rw[List.drop_length,forD] at h2;obtain⟨hc2,h2⟩:=kY h2;cases aB h2;exact .inl ⟨(O _ m2 H2 _ p2 S2 hc2).2 rfl,k σ2 H2 m2 (p1.trans p2) S2 E2⟩
noncomputable def capD(caps:List Nat)(env:En):En:=caps.map fun j=>(env[j]?).getD none
theorem RE.cap{K:KW}{m:List Addr}{H:Hp}{σ:St}{env:En}(h:RE K m H σ env)(caps:List Nat):RE K m H (capsOf caps σ) (capD caps env):=by
 unfold capsOf capD;refine⟨by simp,fun j d e=>?_⟩;rw[Z13] at e;obtain⟨c,hc,e⟩:=Z12.mp e;cases q:env[c]? with
 |none=>rw[q] at e;cases e
 |some o=>
  rw[q] at e;cases e;obtain⟨v,h1,h2⟩:=h.2 c d q;exact⟨v,by rw[Z13,hc];simp[h1],h2⟩
theorem RE.app{K:KW}{m:List Addr}{H:Hp}{σ:St}{env:En}{vs:List V}{ds:List D}(h:RE K m H σ env)(r:RVs K m H vs ds):RE K m H (vs.map some++σ) (ds.map some++env):=by
 refine⟨by simp[r.1,h.1],fun j d e=>?_⟩
 by_cases hj:j<ds.length
 ·rw[Y15 (by simpa using hj),Z13] at e;obtain⟨d',hd,e⟩:=Z12.mp e;cases e;obtain⟨v,hv,rv⟩:=r.at hd;exact⟨v,by rw[Y15 (by simp[r.1,hj]),Z13,hv];rfl,rv⟩
 ·rw[W13 (by simp;omega)] at e;obtain⟨v,hv,rv⟩:=h.2 _ d e;refine⟨v,?_,rv⟩;rw[W13 (by simp[r.1];omega)];simp only[U16,r.1] at hv ⊢;exact hv
noncomputable def compD(c:Sto→Prop)(bd:D→Sto→Option (List D))(tc:En→M Bool)(te:En→M D)(cap:En):List D→List D→M (List D)
 |[],acc=>chkM c (ret acc)
 |x::xs,acc=>chkM c fun st=>match bd x st with
  |some ds=>(bnd (tc (ds.map some++cap)) fun b=>if b=true then bnd (te (ds.map some++cap)) fun z=>compD c bd tc te cap xs (acc++[z]) else compD c bd tc te cap xs acc) st
  |none=>none
def BdOk(K:KW)(k:Nat)(g:TG)(bd:D→Sto→Option (List D)):Prop:=∀ m H st x d ds cs,SR K m H st→RV K m H x d→bd d st=some ds→∃ vs:List V,vs.length=k∧RVs K m H vs ds∧g x (nones k++cs) H fun σ' H''=>σ'=vs.map some++cs∧H''=H
noncomputable def bd1(d:D)(_:Sto):Option (List D):=some [d]
theorem aHo{K:KW}:BdOk K 1 (gName 0) bd1:=by
 intro m H st x d ds cs S r h;cases h;exact⟨[x],rfl, .one r,rfl,rfl⟩
noncomputable def bdT(n:Nat)(d:D)(st:Sto):Option (List D):=match seqOf st d with
 |some xs=>if xs.length=n then some xs else none
 |none=>none
theorem aCc{n:Nat}{d:D}{st:Sto}{ds:List D}(h:bdT n d st=some ds):seqOf st d=some ds∧ds.length=n:=by
 unfold bdT at h;cases q:seqOf st d with
 |none=>rw[q] at h;cases h
 |some xs=>
  rw[q] at h;dsimp only at h
  split at h
  ·cases h;exact⟨rfl,by assumption⟩
  ·cases h
def gNames:Nat→Nat→TGs
 |_,0=>gNil
 |i,n+1=>gCons (gName i) (gNames (i+1) n)
theorem qY:∀ {n i:Nat} {vs pre:List V} {cs:St} {H:Hp},vs.length=n→pre.length=i→gNames i n vs (pre.map some++(nones n++cs)) H fun σ' H''=>σ'=(pre++vs).map some++cs∧H''=H
 |0,i,[],pre,cs,H,_,_=>⟨rfl,by simp[nones],rfl⟩
 |n+1,i,v::vs,pre,cs,H,hl,hp=>by
  refine⟨v,vs,rfl,?_⟩;have e:(pre.map some++(nones (n+1)++cs)).set i (some v)=(pre++[v]).map some++(nones n++cs):=by
   rw[List.set_append_right _ _ (by simp[hp])];simp[hp,nones,U18]
  show gNames (i+1) n vs ((pre.map some++(nones (n+1)++cs)).set i (some v)) H _;rw[e];have:=qY (n:=n) (i:=i+1) (vs:=vs) (pre:=pre++[v]) (cs:=cs) (H:=H) (by simpa using hl) (by simp[hp])
  simpa using this
theorem aHp{K:KW}{n:Nat}:BdOk K n (fun v σ H Q=>gTup K n (gNames 0 n) v σ H Q∨gTupL K n (gNames 0 n) v σ H Q) (bdT n):=by
 intro m H st x d ds cs S r h;obtain⟨h1,h2⟩:=aCc h;obtain⟨a,vs,rfl,hs,rr⟩:=jA S r h1;have hl:vs.length=n:=by rw[rr.1];exact h2
 have body:=qY (n:=n) (i:=0) (vs:=vs) (pre:=[]) (cs:=cs) (H:=H) hl rfl;refine⟨vs,hl,rr,?_⟩;rcases hs with hs|hs
 ·exact .inr ⟨a,vs,rfl,hs,hl,by simpa using body⟩
 ·exact .inl ⟨a,vs,rfl,hs,hl,by simpa using body⟩
abbrev QF(X:Cx)(ifs:List Expr)(tc:En→M Bool):Prop:=PF X ifs (LT X.kw tc)
theorem aHq:QF X [] (fun _=>ret true):=by
 intro pins s σ H Q I h;obtain⟨m,env,st,d,st',S,E,e,k⟩:=h;cases aB e;exact aGw pins s σ H Q I (k H m .refl S)
theorem aHr{c:Expr}{tc:En→M Bool}(h:QT X c tc):QF X [c] tc:=aGx h
theorem qZ{K:KW}{k:Nat}{caps:List Nat}{g:TG}{bd:D→Sto→Option (List D)}{tc:En→M Bool}{te:En→M D}(hbd:BdOk K k g bd){σ:St}{H:Hp}{Q:VK}
  (h:LE K (fun env=>bnd (ti env) fun its=>need (its.1.length<sizeLine) (bnd (compD its.2 bd tc te (capD caps env) its.1 []) fun zs=>fun st=>some (.r st.length,st++[.l zs]))) σ H Q):tCompG k caps (LI K ti) g (LT K tc) (LE K te) σ H Q:=by
 obtain⟨m,env,st,d,st',S,E,e,kk⟩:=h;obtain⟨its,st1,e1,e2⟩:=aA e;obtain⟨hlen,e2⟩:=aL e2;obtain⟨zs,st2,e3,e4⟩:=aA e2;cases e4;refine⟨m,env,st,its,st1,S,E,e1,fun J H1 m1 p1 S1 O=>?_⟩;refine⟨its.1.length,fun i ws H2=>∃ m2 st3 acc,i≤its.1.length∧SR K m2 H2 st3∧RVs K m2 H2 ws acc∧compD its.2 bd tc te (capD caps env) (its.1.drop i) acc st3=some (zs,st2)∧Stp m1 H1 m2 H2,hlen,
  ⟨m1,st1,[],Z23 _,S1, .nil,e3, .refl⟩,?_⟩
 rintro i ws H2 ⟨m2,st3,acc,hi,S2,rw,h2,p2⟩
 by_cases hlt:i<its.1.length
 ·have hd:its.1.drop i=its.1[i]::its.1.drop (i+1):=Z30 hlt;rw[hd,compD] at h2;obtain⟨hc2,h2⟩:=kY h2;cases q:bd its.1[i] st3 with
  |none=>rw[q] at h2;cases h2
  |some ds=>
   rw[q] at h2;obtain⟨b,st4,e5,e6⟩:=aA h2;obtain⟨O1,_⟩:=O i m2 H2 st3 p2 S2 hc2;obtain⟨go,yld⟩:=O1 its.1[i] (by simp[hlt]);refine .inr ⟨go,hlt,fun x H' hy=>?_⟩;obtain⟨S3,p3,r3⟩:=yld x H' hy;obtain⟨vs,hvl,rvs,hg⟩:=hbd m2 H' st3 x its.1[i] ds (capsOf caps σ) S3 r3 q;have E3:RE K m2 H' (vs.map some++capsOf caps σ) (ds.map some++capD caps env):=(((E.stp p1).stp (p2.trans p3)).cap caps).app rvs;refine⟨vs,hvl,hg,m2,_,st3,b,st4,S3,E3,e5,fun H4 m4 p4 S4=>?_⟩;cases b with
   |false=>
    rw[if_neg (by decide)] at e6 ⊢;exact⟨m4,st4,acc,hlt,S4,rw.stp (p3.trans p4),e6,(p2.trans p3).trans p4⟩
   |true=>
    rw[if_pos rfl] at e6 ⊢;obtain⟨z,st5,e7,e8⟩:=aA e6;exact⟨m4,_,st4,z,st5,S4,E3.stp p4,e7,fun v5 H5 m5 p5 S5 r5=>⟨m5,st5,acc++[z],hlt,S5,(rw.stp ((p3.trans p4).trans p5)).append (.one r5),e8,((p2.trans p3).trans p4).trans p5⟩⟩
 ·have hi2:i=its.1.length:=by omega
  subst hi2;rw[List.drop_length,compD] at h2;obtain⟨hc2,h2⟩:=kY h2;cases aB h2;refine .inl ⟨(O _ m2 H2 _ p2 S2 hc2).2 rfl,fun p hp=>?_⟩;obtain⟨S3,p3,r3⟩:=S2.newL hp rw;exact kk _ _ _ ((p1.trans p2).trans p3) S3 r3
theorem aEC{elt:Expr}{ifs:List Expr}{x:Str}{xs:List Str}{scope:Scope}{cl:List (Str×Addr)}{cn:List Str}{caps:List Nat}{g:TG}{bd:D→Sto→Option (List D)}{tc:En→M Bool}{te:En→M D}
  (hbd:BdOk X.kw xs.length g bd)(hc:X.calm=true)(hi:QI X tg iter ti)(cp:Caps X scope x cl cn caps)(hg:∀ C ex s H,PG (cxComp X (xs++cn) scope cl C ex s H) tg g)(hif:∀ C ex s H,QF (cxComp X (xs++cn) scope cl C ex s H) ifs tc)
  (he:∀ C ex s H,QE (cxComp X (xs++cn) scope cl C ex s H) elt te)
  (hs:∀ x,foldedSetIterable iter X.env x=pure x:=by intro _;rfl):
  QE X (.ListComp elt [⟨tg,iter,ifs,0⟩] scope pos) (fun env=>bnd (ti env) fun its=>need (its.1.length<sizeLine) (bnd (compD its.2 bd tc te (capD caps env) its.1 []) fun zs=>fun st=>some (.r st.length,st++[.l zs]))):=
 aT (aBz hc hi cp hg hif he hs) fun _ _ _ h=>qZ hbd h
end
noncomputable def runF(n p:Nat)(ts:En→M (Fw×En))(ds:List D):M D:=fun st=>if ds.length=p then match ts (ds.map some++List.replicate (n - p) none) st with
 |some ((.rt d,_),st')=>some (d,st')
 |some ((.nx,_),st')=>some (.no,st')
 |_=>none else none
theorem rA{n p:Nat}{ts:En→M (Fw×En)}{ds:List D}{st st':Sto}{d:D}(h:runF n p ts ds st=some (d,st')):ds.length=p∧∃ fl env',ts (ds.map some++List.replicate (n - p) none) st=some ((fl,env'),st')∧(fl=.rt d∨fl=.nx∧d=.no):=by
 unfold runF at h
 split at h
 ·rename_i hl;refine⟨hl,?_⟩
  split at h
  ·rename_i q;cases h;exact⟨_,_,q, .inl rfl⟩
  ·rename_i q;cases h;exact⟨_,_,q, .inr ⟨rfl,rfl⟩⟩
  ·cases h
 ·cases h
section
variable{P:Program}{w:World}{K:Fg9}{mg:Str→Option Value}{base:Heap}
theorem aJj{x qual:Str}{st:Stmt}{f:Addr}{fd:FuncData}{N ps:List Str}{k:Nat}{ts:En→M (Fw×En)}(F:Fun K x qual st f fd)(S:FnScope N ps (defScope st))
  (hbody:∀ (cdv:Value) (A:Around) (outer:List Env) (s:Shared) (H:Hp) (E:XK),Room k (A.deeper (envOfC qual (defScope st) s.heap.objs.size f cdv))→
   QSs (cxOf CX0 P w K mg base N qual (defScope st) f cdv A outer s H E).nox (defBody st) ts):FnOk P w K mg base CX0 (k+1) f fd ps (LF ⟨K,P,w⟩ (runF N.length ps.length ts)):=by
 refine F.ok S (fun vs H Q E h=>?_) fun cdv A outer s H vs Q E hr h=>?_
 ·obtain⟨m,st,ds,d,st',S,r,e,k⟩:=h;rw[r.1];exact(rA e).1
 ·obtain⟨m,st0,ds,d,st',S0,r,e,k⟩:=h;obtain⟨hl,fl,env',e1,hf⟩:=rA e;refine⟨_,hbody cdv A outer s H E hr,m,_,st0,fl,env',st',S0,?_,e1,fun σ' H' m' p S' E'=>?_⟩
  ·have e0:RE ⟨K,P,w⟩ m H (List.replicate (N.length - ps.length) none) (List.replicate (N.length - ps.length) none):=⟨by simp,fun j d e=>by
    rw[V20] at e;split at e<;>cases e⟩
   have:=e0.app r;unfold start;rw[r.1,hl];exact this
  ·rcases hf with rfl|⟨rfl,rfl⟩
   ·exact fun v rv=>k v H' m' p S' rv
   ·exact k .non H' m' p S' .no
end
end L2
end
section
namespace L2
open PySem PySem.Spec PyProof.Rows
section
variable{X:Cx}
theorem aCd{i:Nat}{y:Str}{py spos:Pos}{elt iter tg:Expr}{ifs:List Expr}{x:Str}{xs:List Str}{pos:Pos}{scope:Scope}{cl:List (Str×Addr)}{cn:List Str}{caps:List Nat}{wi:TI}{g:TG}{tc:TT}{te:TE}
  (hN:X.N.Nodup)(hi':X.N[i]?=some y)(hy:Loc X.env.scope y)
  (hc:X.calm=true)(hi:PI X tg iter wi)(cp:Caps X scope x cl cn caps)(hg:∀ C ex s H,PG (cxComp X (xs++cn) scope cl C ex s H) tg g)(hif:∀ C ex s H,PF (cxComp X (xs++cn) scope cl C ex s H) ifs tc)
  (he:∀ C ex s H,PE (cxComp X (xs++cn) scope cl C ex s H) elt te)
  (hsw:swapsWith (.ListComp elt [⟨tg,iter,ifs,0⟩] scope pos) (some (.Name y py)) spos.line X.env=pure true:=by rfl)
  (hs:∀ x,foldedSetIterable iter X.env x=pure x:=by intro _;rfl)(hf:X.fn y=true∨X.env.scope.names.lookup y=some .local:=by first|exact .inl rfl|exact .inr rfl|assumption):
  PS X (.Assign [.Name y py] (.ListComp elt [⟨tg,iter,ifs,0⟩] scope pos) spos) (tAsg (tCompG xs.length caps wi g tc te) (gName i)):=by
 intro pins s σ H Dn I h;rw[exec_Assign_Name_used _ _ _ _ hsw];refine Y10 (Z32 (Y10 ?_));show wpAny _ X.A (do let _ ← comprehension (.ListComp elt [⟨tg,iter,ifs,0⟩] scope pos) scope X.env _ (newList []) false (eval iter X.env) (some (assign (.Name y py) X.env))) _ _ s;refine Y10 (W22 (wpAny_comprehension_free (use:=some (assign (.Name y py) X.env)) (Q:=fun _ s'=>SP X pins Dn .next s') rfl hs cp.clos cp.kind cp.names
  (thn (hi pins s σ H _ I h) fun v s1 h1=>thn h1 fun itv s2 h2=>?_)) (fun _ s' hq=>W10 (W10 hq)) fun _ _ e=>e)
 obtain⟨it,fp,tn,J,H2,e,I2,T,st2,f2,n,W,hn,w0,turn⟩:=h2;subst e;refine W14 (wpAny_newFunctionEnv cp.cell (by intro y hy;simp at hy) (fun h₁ hns₁ hsb₁=>?_) cp.kind);dsimp only at hns₁ hsb₁ ⊢;generalize hG:s2.heap.push { cls:=.type "list",dict:=none,data:=.seq ([]:List Value).toArray }=G at hns₁ hsb₁ ⊢;have hC:G.objs.size=s2.heap.objs.size+1:=by rw[← hG,Y17]
 generalize hCe:G.objs.size=C at hns₁ hsb₁ hC ⊢;generalize hDe:s2.heap.objs.size=D at hC ⊢;have hDC:D≠C:=by rw[hC];exact V13 (V30 _)
 have below:∀ b,b<D→b≠C∧b≠D:=fun b hb=>⟨by rw[hC];exact V13 (Z21 hb),V13 hb⟩;have old:∀ b o,s2.heap.get? b=some o→h₁.get? b=some o:=fun b o e=>hsb₁.extBut b o (below b (hDe ▸ W11 e)).1 (V10 _ (hG ▸ V10 _ e));have hacc:h₁.get? D=some (listO [] 0):=hsb₁.extBut _ _ hDC (V10 _ (by rw[← hG,← hDe];exact V11 _ rfl));have fpl:∀ b∈fp,b<D:=fun b hb=>by
  obtain⟨o,e,_⟩:=T.obj _ _ st2 b hb;exact hDe ▸ W11 e
 have hDs:s2.heap.objs.size≤D:=Nat.le_of_eq hDe;have hCs:s2.heap.objs.size≤C:=by omega
 have fsN:∀ {b},b≠X.env.locals→b∉X.fs→b∉frs X.stack:=fun {b} h1 h2 z=>(W12.mp (I2.stkSub b z)).elim h1 h2;have big:∀ {a},s2.heap.objs.size≤a→a∉frs X.stack:=fun {a} ha=>fsN (W20 (U12 I2.lt ha)) (I2.nofs ha);have cellLt:∀ y c,cl.lookup y=some c→c<D:=fun y c e=>by
  obtain⟨v,q⟩:=I2.cell y c (cp.sub y c e);exact hDe ▸ q.lt
 have ok:(cxComp X (xs++cn) scope cl C fp s2 H2).Ok:=by
  refine⟨I2.ok.mod,cp.kind,I2.ok.glob,I2.ok.blt,hCs,fun y z c h1 h2=>I2.ok.inj y z c (cp.sub y c h1) (cp.sub z c h2),fun y hy=>cp.has y hy,fun y c hf=>(by cases hf),I2.ok.hd,I2.ok.frames, .inl rfl,fun b hb=>?_,I2.bs,Z17 I2.ok.bsz I2.sz,fun b o e hb=>?_,fun b hb=>?_,I2.stack,I2.stkFree⟩
  ·exact⟨(below b (fpl b hb)).1,fun y c e=>(f2 b hb).2.2.2.2.1 y c (cp.sub y c e)⟩
  ·obtain⟨_,_,_,q,_⟩:=f2 b hb;rcases q with q|q
   ·exact I2.ok.noex b o e q
   ·exact absurd (U12 (W11 (I2.ok.bs b o e).1) q) (V17 _)
  ·exact fsN (f2 b hb).2.1 (f2 b hb).2.2.1
 have stat:∀ {us:List Value} {nn:Nat} {H':Hp},(∀ b∈fp,H' b=none)→∀ b∈fp,FpOk (cxComp X (xs++cn) scope cl C fp s2 H2) [(D,listO us nn)] H' b:=fun {us nn H'} hn b hb=>
  ⟨hn b hb,(below b (fpl b hb)).1,fsN (f2 b hb).2.1 (f2 b hb).2.2.1, .inl hb,fun y c e=>(f2 b hb).2.2.2.2.1 y c (cp.sub y c e),fun p hp=>by
   obtain rfl:p=(D,listO us nn):=by simpa[cxComp] using hp
   exact(below b (fpl b hb)).2.symm⟩
 have pinD:∀ {σ':St} {H':Hp} {s':Shared} {us:List Value} {nn:Nat},Inv (cxComp X (xs++cn) scope cl C fp s2 H2) [] σ' H' s'→H' D=none→s'.heap.get? D=some (listO us nn)→Inv (cxComp X (xs++cn) scope cl C fp s2 H2) [(D,listO us nn)] σ' H' s':=fun {σ' H' s' us nn} J hn e=>
  J.pins_of fun p hp=>by
   obtain rfl:p=(D,listO us nn):=by simpa using hp
   exact⟨e,hn,hDC,big hDs,fun v z=>by cases z⟩
 have I4:∀ tk,Inv (cxComp X (xs++cn) scope cl C fp s2 H2) [] (nones xs.length++capsOf caps σ) H2 { s2 with heap:=h₁,toks:=tk }:=fun tk=>by
  refine⟨ok,rfl,I2.bare,Un.kept old,⟨_,hns₁,fun i y v h1 h2 h3=>?_⟩,fun y c e=>?_,I2.hok.fresh hCs,fun y c e=>I2.freeC y c (cp.sub y c e),fun p hp=>absurd (show p∈([]:List (Addr×Obj)) from hp) (by simp),I2.hok.kept old,?_⟩
  ·have hik:xs.length≤i:=by
    rcases Nat.lt_or_ge i xs.length with hlt|hge
    ·rw[Y15 (by simpa using hlt),V20,if_pos hlt] at h2;cases h2
    ·exact hge
   obtain⟨k,rfl⟩:∃ k,i=xs.length+k:=⟨i - xs.length,by omega⟩
   ·have h1':cn[k]?=some y:=by
     have q:(xs++cn)[xs.length+k]?=some y:=h1
     rwa [W13 (by omega),V26] at q
    obtain⟨j,ej,eN,vis,kd,kd'⟩:=cp.cap k y h1';have h2':σ[j]?=some (some v):=by
     have q:(capsOf caps σ)[k]?=some (some v):=by
      rwa [W13 (by simp),Z24,V26] at h2
     unfold capsOf at q;rw[Z13,ej] at q;have q':(σ[j]?).getD none=some v:=by simpa using q
     cases eσ:σ[j]? with
     |none=>rw[eσ] at q';cases q'
     |some z=>rw[eσ] at q';rw[show z=some v from q']
    obtain⟨m,hm,hl⟩:=I2.loc;obtain⟨u,ru,lk⟩:=hl j y v eN h2' vis;refine⟨u,ru,?_⟩;obtain⟨c,ec⟩:=cp.has y kd';rcases lk with⟨k1,_⟩|⟨_,c',ec',z⟩
    ·rcases kd with kd|kd<;>(rw[kd] at k1;cases k1)
    ·have:c=c':=U14 ((cp.sub y c ec).symm.trans ec');subst this;obtain⟨o,ho,hd⟩:=z;exact .inr ⟨kd',c,ec,⟨o,old c o ho,hd⟩⟩
  ·obtain⟨v,o,ho,hd⟩:=I2.cell y c (cp.sub y c e);exact⟨v,o,old c o ho,hd⟩
  ·show _=(xs++cn).length;simp[capsOf,cp.len]
 have loop:∀ s₃:Shared,Inv (cxComp X (xs++cn) scope cl C fp s2 H2) [] (nones xs.length++capsOf caps σ) H2 s₃→s₃.heap.get? D=some (listO [] 0)→tn 0 s₃.heap→
   codeAny (model X.prog X.w) X.A (.compLoop (.ListComp elt [⟨tg,iter,ifs,0⟩] scope pos) 0 (.ref it) (.ref D) (compEnvC scope cl C X.env))
    (compPost (model X.prog X.w) X.A X.xe (some (assign (.Name y py) X.env)) (fun _ s'=>SP X pins Dn .next s') (.ref D) C) s₃:=by
  intro s₃ I3 e3 t3;refine lK (fun k s'=>∃ (i:Nat) (zs:List V) (us:List Value) (nn:Nat) (H':Hp),k=n+1 - i∧i≤n∧Inv (cxComp X (xs++cn) scope cl C fp s2 H2) [(D,listO us nn)] (nones xs.length++capsOf caps σ) H' s'∧tn i s'.heap∧(∀ b∈fp,H' b=none)∧W i zs H'∧Vals zs us∧zs.length≤i) ?_ (n+1)
   ⟨0,[],[],0,H2,rfl,Z23 _,pinD I3 (I2.hok.fresh hDs) e3,t3,fun b hb=>(f2 b hb).1,w0, .nil,Y12 _⟩
  rintro k s' ⟨i,zs,us,nn,H',rfl,hin,I',st',fr',w',vs',hl⟩;have pD:=I'.pin (D,listO us nn) (U11 _ (by simp));rcases turn i zs H' w' with⟨stop,fin⟩|⟨go,hlt,step⟩
  ·refine thn (T.done (cxComp X (xs++cn) scope cl C fp s2 H2) rfl rfl rfl hc i _ s' _ H' (fun _ _=>False) I' (stat fr') st' stop) fun r s4 ⟨hr,I4'⟩=>?_;subst hr;obtain⟨m,hm,_⟩:=id I4'.loc;obtain⟨h',hs',eh⟩:∃ h',Heap.SameBut C s4.heap h'∧h'=s4.heap:=⟨s4.heap,Heap.SameBut.refl _ _,rfl⟩;obtain⟨e4,n4,_,_,_⟩:=I4'.pin (D,listO us nn) (U11 _ (by simp));have e4:s4.heap.get? D=some (listO us nn):=e4;have n4:H' D=none:=n4;have nC:H' C=none:=I4'.free;have kk:∀ b o,b≠C→s4.heap.get? b=some o→h'.get? b=some o:=fun b o hb e=>(hs'.2 b hb).trans e;have un:Un (frs X.stack) fp H2 (upd H' D (.lst zs)) s2.heap h':=by
    have u:=I4'.base;have ne:∀ b o,s2.heap.get? b=some o→b≠C∧b≠D:=fun b o e=>below b (hDe ▸ W11 e);refine⟨fun b o e n0 hb hx=>kk b o (ne b o e).1 (u.keep b o e n0 hb hx),fun b o e n0 hb hx=>?_,fun b o e n0 hx=>?_,fun b o e hx=>?_,fun b xs e=>?_,fun b o xs e=>?_,fun b ps e=>?_⟩
    ·obtain⟨sl,q⟩:=u.slot b o e n0 hb hx;exact⟨sl,kk b _ (ne b o e).1 q⟩
    ·rw[aG (ne b o e).2];exact u.free b o e n0 hx
    ·obtain⟨o',q⟩:=u.there b o e hx;exact⟨o',kk b _ (ne b o e).1 q⟩
    ·have q:=u.tups b xs e;rw[aG (aH q n4)];exact q
    ·have q:=u.frzs b o xs e;rw[aG (aH q n4)];exact q
    ·obtain⟨more,q⟩:=u.tbls b ps e;exact⟨more,by rw[aG (aH q n4)];exact q⟩
   have hokD:HOk X.prog X.w (upd H' D (.lst zs)) h':=fun b o e=>by
    by_cases hb:b=D
    ·subst hb;rw[bI] at e;cases e;exact⟨by omega,us,nn,vs',kk _ _ hDC e4⟩
    ·rw[aG hb] at e;refine(I4'.hok b o e).stay (fun c v hcc q=>kk c v ?_ q) (fun c q=>?_) fun c xs q=>?_
     ·rintro rfl;rcases hcc with z|z
      ·rw[← z,nC] at e;cases e
      ·rw[nC] at z;cases z
     ·rw[aG (aH q n4)];exact q
     ·rw[aG (aH q n4)];exact q
   have nCD:upd H' D (.lst zs) C=none:=by rw[aG (Ne.symm hDC)];exact nC
   have fin1:Inv X pins σ (upd H' D (.lst zs)) s4:=I2.call' (s':=s4) (ch:=fp) I4'.os (eh ▸ un) (eh ▸ hokD) I4'.bare fun b hb=>⟨(f2 b hb).2.2.2.1,(f2 b hb).2.1,(f2 b hb).2.2.2.2.1,(f2 b hb).2.2.2.2.2⟩;have lC:C≠X.env.locals:=W20 (U12 I2.lt hCs);have cC:∀ z c,X.env.cells.lookup z=some c→c≠C:=fun z c e=>by
    obtain⟨v,q⟩:=I2.cell z c e;exact V13 (U12 q.lt hCs)
   show wpAny _ X.A (assign (.Name y py) X.env (.ref D)) _ _ s4;refine wpAny_assign_Name (qP fin1 hN hi' hy (v:=.ref D) (u:=.ref D) rfl (fun s' I' ⟨a,sb,ha⟩=>?_) hf);have aC:a≠C:=by
    rcases ha with rfl|ha
    ·exact Ne.symm lC
    ·exact cC _ _ ha
   refine⟨m,hm.sameBut sb (Ne.symm aC),fun h5 hs5=>⟨_,_,?_,fin D n4⟩⟩;exact Inv.turned (t':=s'.toks) I' (fun b o hb e=>hs5.extBut b o hb e) nCD lC (.inr (Z17 I2.sz hCs)) cC fun p hp=>by
    obtain⟨e,_⟩:=I2.pin p hp;exact V13 (U12 (W11 e) hCs)
  ·refine thn (T.item (cxComp X (xs++cn) scope cl C fp s2 H2) rfl rfl rfl hc i _ s' _ H' (fun _ _=>False) I' (stat fr') st' go) fun r s4 ⟨u,hr,h4⟩=>?_;subst hr;refine thn h4 fun _ s5 ⟨y,H5,I5,r5,y5,st5,fr5⟩=>?_;have I5':=I5.pinned (stat fr5) (T.obj _ _ st5);obtain⟨vs,hvl,hgs,step5⟩:=step y H5 y5;refine thn (hg C fp s2 H2 _ s5 _ H5 y u _ I5' r5 hgs) fun _ s6 ⟨σ6,H6,I6,q6,q6'⟩=>?_;subst q6;subst q6';have wk:∀ {H8:Hp} {s8:Shared} {pp:List (Addr×Obj)},Inv (cxComp X (xs++cn) scope cl C fp s2 H2) pp (vs.map some++capsOf caps σ) H8 s8→Inv (cxComp X (xs++cn) scope cl C fp s2 H2) pp (nones xs.length++capsOf caps σ) H8 s8:=fun {H8 s8 pp} J8=>by
    refine J8.weak (by simp[hvl]) fun j v e=>?_;rcases Nat.lt_or_ge j xs.length with hlt|hge
    ·rw[Y15 (by simpa using hlt),V20,if_pos hlt] at e;cases e
    ·rw[W13 (by simpa using hge),Z24] at e;rw[W13 (by simpa[hvl] using hge),U16,hvl];exact e
   refine thn (hif C fp s2 H2 _ s6 _ H6 _ I6 step5) fun ok s6' ⟨H6',I6',q6'⟩=>?_;cases ok with
   |false=>
    obtain⟨e7,n7,_,_,_⟩:=I6'.pin (D,listO us nn) (U11 _ (V22 _ (by simp)));refine⟨n+1 - (i+1),by omega,i+1,zs,us,nn,H6',rfl,hlt,?_,?_,fun b hb=>?_,q6',vs',by omega⟩
    ·exact pinD (wk (I6'.pins_of fun p hp=>absurd hp (by simp))) n7 e7
    ·refine T.keep _ _ _ st5 fun b hb o e=>(I6'.pin (b,o) (U11 _ (U11 _ (bY hb e)))).1
    ·obtain⟨o,e,d⟩:=T.obj _ _ st5 b hb;exact(I6'.pin (b,o) (U11 _ (U11 _ (bY hb e)))).2.1
   |true=>
    refine thn (he C fp s2 H2 _ s6' _ H6' _ I6' q6') fun v7 s7 ⟨z,H7,I7,r7,w7⟩=>?_;obtain⟨e7,n7,_,_,_⟩:=I7.pin (D,listO us nn) (U11 _ (V22 _ (by simp)));have e7:s7.heap.get? D=some (listO us nn):=e7;have n7:H7 D=none:=n7;have hul:us.length≤i:=by rw[← vs'.length];exact hl
    refine wpAny_list_append_plain (hsz:=by rw[Y11];omega) ⟨nn,e7⟩ fun h8 p8 sb8=>?_;obtain⟨n8,e8⟩:=p8;have e8:h8.get? D=some (listO (us++[v7]) n8):=by rw[e8];simp[listO]
    have I8:Inv (cxComp X (xs++cn) scope cl C fp s2 H2) [] (vs.map some++capsOf caps σ) H7 { s7 with heap:=h8 }:=
     Inv.turned (t':=s7.toks) (I7.pins_of fun p hp=>absurd hp (by simp)) (fun b o hb e=>(sb8.2 b hb).trans e) n7 hDC (.inr hDs) (fun y' c e=>V13 (cellLt y' c e)) fun p hp=>absurd (show p∈([]:List (Addr×Obj)) from hp) (by simp)
    refine⟨n+1 - (i+1),by omega,i+1,zs++[z],us++[v7],n8,H7,rfl,hlt,?_,?_,fun b hb=>?_,w7,vs'.append (.cons r7 .nil),by rw[Y13];show zs.length+1≤i+1;omega⟩
    ·exact pinD (wk I8) n7 e8
    ·refine T.keep _ _ _ st5 fun b hb o e=>(sb8.2 b (below b (fpl b hb)).2).trans (I7.pin (b,o) (U11 _ (U11 _ (bY hb e)))).1
    ·obtain⟨o,e,d⟩:=T.obj _ _ st5 b hb;exact(I7.pin (b,o) (U11 _ (U11 _ (bY hb e)))).2.1
 have t4:tn 0 h₁:=T.keep _ _ _ st2 fun b hb o e=>old b o e;refine codeAny_compStart_list (loop _ (I4 _) hacc t4) (T.self _ 0 _ _ _ t4 (loop _ (I4 _) hacc t4))
theorem aED{i:Nat}{y:Str}{py spos:Pos}{elt tg iter:Expr}{ifs:List Expr}{x:Str}{xs:List Str}{pos:Pos}{scope:Scope}{cl:List (Str×Addr)}{cn:List Str}{caps:List Nat}{g:TG}{bd:D→Sto→Option (List D)}{ti:En→M Its'}{tc:En→M Bool}{te:En→M D}
  (hbd:BdOk X.kw xs.length g bd)(hN:X.N.Nodup)(hi':X.N[i]?=some y)(hy:Loc X.env.scope y)(hc:X.calm=true)(hi:QI X tg iter ti)(cp:Caps X scope x cl cn caps)(hg:∀ C ex s H,PG (cxComp X (xs++cn) scope cl C ex s H) tg g)(hif:∀ C ex s H,QF (cxComp X (xs++cn) scope cl C ex s H) ifs tc)
  (he:∀ C ex s H,QE (cxComp X (xs++cn) scope cl C ex s H) elt te)
  (hsw:swapsWith (.ListComp elt [⟨tg,iter,ifs,0⟩] scope pos) (some (.Name y py)) spos.line X.env=pure true:=by rfl)
  (hs:∀ x,foldedSetIterable iter X.env x=pure x:=by intro _;rfl)(hf:X.fn y=true∨X.env.scope.names.lookup y=some .local:=by first|exact .inl rfl|exact .inr rfl|assumption):
  QS X (.Assign [.Name y py] (.ListComp elt [⟨tg,iter,ifs,0⟩] scope pos) spos) (fun env=>bnd ((fun env=>bnd (ti env) fun its=>need (its.1.length<sizeLine) (bnd (compD its.2 bd tc te (capD caps env) its.1 []) fun zs=>fun st=>some (.r st.length,st++[.l zs]))) env) fun d=>bnd (setN i d env) fun env'=>ret (.nx,env')):=by
 refine dQ (aCd (i:=i) (tc:=LT X.kw tc) (te:=LE X.kw te) hN hi' hy hc hi cp hg hif he hsw hs hf) fun D σ H h=>?_;have h2:=pB h;refine qZ hbd ?_;obtain⟨m,env,st,d,st',S,E,e,k⟩:=h2;refine⟨m,env,st,d,st',S,E,e,fun v H' m' s S' r=>?_⟩;obtain⟨m1,env1,st1,d1,env',st2,S1,E1,r1,e1,k1⟩:=k v H' m' s S' r;cases aB e1;exact k1 _ H' m1 .refl S1 (E1.set r1)
end
noncomputable def eV(i:Nat):En→M D:=vD i
noncomputable def eC(d:D):En→M D:=fun _=>ret d
noncomputable def eOp(f:D→D→M D)(a b:En→M D):En→M D:=fun env=>bnd (a env) fun x=>bnd (b env) fun y=>f x y
noncomputable def tCm(f:D→D→M D)(a b:En→M D):En→M Bool:=fun env=>bnd (eOp f a b env) isB
def tVl(a:En→M D):En→M Bool:=fun env=>bnd (a env) truD
noncomputable def tAn(c d:En→M Bool):En→M Bool:=fun env=>bnd (c env) fun x=>if x=true then d env else ret false
noncomputable def tOo(c d:En→M Bool):En→M Bool:=fun env=>bnd (c env) fun x=>if x=true then ret true else d env
noncomputable def tNo(c:En→M Bool):En→M Bool:=fun env=>bnd (c env) fun x=>ret (!x)
noncomputable def eAn(a b:En→M D):En→M D:=fun env=>bnd (bnd (a env) isB) fun x=>if x=true then b env else ret (.b false)
noncomputable def eOo(a b:En→M D):En→M D:=fun env=>bnd (bnd (a env) isB) fun x=>if x=true then ret (.b true) else b env
noncomputable def eNo(a:En→M D):En→M D:=fun env=>bnd (bnd (a env) isB) fun x=>ret (.b (!x))
noncomputable def eIf(c:En→M Bool)(a b:En→M D):En→M D:=fun env=>bnd (c env) fun x=>if x=true then a env else b env
noncomputable def eUn(f:D→M D)(a:En→M D):En→M D:=fun env=>bnd (a env) f
noncomputable def aN:En→M (List D):=fun _=>ret []
noncomputable def aC(a:En→M D)(t:En→M (List D)):En→M (List D):=fun env=>bnd (a env) fun x=>bnd (t env) fun xs=>ret (x::xs)
def eT(t:En→M (List D)):En→M D:=fun env=>bnd (t env) fun xs=>need (xs.length≤sizeLine) (ret (.t xs))
noncomputable def eL(t:En→M (List D)):En→M D:=fun env=>bnd (t env) newL
noncomputable def eCl(g:List D→M D)(t:En→M (List D)):En→M D:=fun env=>bnd (t env) g
noncomputable def eIx(a b:En→M D):En→M D:=fun env=>bnd (a env) fun x=>bnd (b env) fun y=>ixD x y
noncomputable def oN:En→M (Option Int):=fun _=>ret none
noncomputable def oS(a:En→M D):En→M (Option Int):=fun env=>bnd (a env) fun x=>bnd (asI x) fun n=>ret (some n)
def eSl(a:En→M D)(l h:En→M (Option Int)):En→M D:=fun env=>bnd (a env) fun x=>bnd (l env) fun l=>bnd (h env) fun h=>slD x l h
def revD(x y:D):M D:=match x,y with
 | .t xs, .i n=>need (n=-1) (ret (.t xs.reverse))
 |_,_=>bad
def eRv(a b:En→M D):En→M D:=fun env=>bnd (a env) fun x=>bnd (b env) fun y=>revD x y
noncomputable def eBm(T:String)(f:D→List D→M D)(o:En→M D)(t:En→M (List D)):En→M D:=fun env=>bnd (o env) fun x=>bnd (chkT T x) fun _=>bnd (t env) fun xs=>f x xs
noncomputable def eB0(T:String)(f:D→List D→M D)(o:En→M D):En→M D:=fun env=>bnd (o env) fun x=>bnd (chkT T x) fun _=>f x []
noncomputable def newC(zs:List D):M D:=fun st=>some (.r st.length,st++[.l zs])
def eCo(caps:List Nat)(ti:En→M Its')(bd:D→Sto→Option (List D))(tc:En→M Bool)(te:En→M D):En→M D:=fun env=>bnd (ti env) fun its=>need (its.1.length<sizeLine) (bnd (compD its.2 bd tc te (capD caps env) its.1 []) newC)
def gN(i:Nat):D→En→M En:=setN i
noncomputable def gsN:List D→En→M En:=fun ds env=>match ds with
 |[]=>ret env
 |_=>bad
noncomputable def gsC(g:D→En→M En)(gs:List D→En→M En):List D→En→M En:=fun ds env=>match ds with
 |d::ds=>bnd (g d env) fun env'=>gs ds env'
 |[]=>bad
noncomputable def gT(n:Nat)(gs:List D→En→M En):D→En→M En:=unp n gs
noncomputable def gS(a b:En→M D):D→En→M En:=fun d env=>bnd (a env) fun x=>bnd (b env) fun y=>bnd (setD x y d) fun _=>ret env
abbrev Sm':=En→M (Fw×En)
noncomputable def sN:Sm':=fun env=>ret (.nx,env)
noncomputable def sBk:Sm':=fun env=>ret (.bk,env)
noncomputable def sCt:Sm':=fun env=>ret (.ct,env)
noncomputable def sE(a:En→M D):Sm':=fun env=>bnd (a env) fun _=>ret (.nx,env)
noncomputable def sR(a:En→M D):Sm':=fun env=>bnd (a env) fun d=>ret (.rt d,env)
noncomputable def sR0:Sm':=fun env=>ret (.rt .no,env)
noncomputable def sI(c:En→M Bool)(s1 s2:Sm'):Sm':=fun env=>bnd (c env) fun b=>if b=true then s1 env else s2 env
noncomputable def sA(a:En→M D)(g:D→En→M En):Sm':=fun env=>bnd (a env) fun d=>bnd (g d env) fun env'=>ret (.nx,env')
noncomputable def sG(f:D→D→M D)(i:Nat)(a:En→M D):Sm':=fun env=>bnd (vD i env) fun x=>bnd (a env) fun y=>bnd (f x y) fun z=>ret (.nx,env.set i (some z))
def sW(c:En→M Bool)(s:Sm'):Sm':=whC c s
def sF(ti:En→M Its')(g:D→En→M En)(s:Sm'):Sm':=fun env=>bnd (ti env) fun its=>forD its.2 g s its.1 env
noncomputable def iS(a:En→M D):En→M Its':=fun env=>bnd (a env) itD
def iR1(t:En→M (List D)):En→M Its':=fun env=>bnd (t env) fun xs=>need (xs.length=1) (rangeD xs)
noncomputable def iEn(t:En→M (List D)):En→M Its':=fun env=>bnd (t env) enumD
section
variable{X:Cx}{pos:Pos}{a b c:Expr}{ta tb:En→M D}{tc td:En→M Bool}{s1 s2:Sm'}
theorem aIL{p2:Pos}(ha:QE X a ta)(hb:QE X b tb):QE X (.Subscript a (.Slice none none (some b) p2) pos) (eRv ta tb):=by
 refine aT (aGW ha hb) ?_;rintro σ H Q ⟨m,env,st,d,st',S,E,e,k⟩;refine⟨m,env,st,d,st',S,E,?_,k⟩;obtain⟨x,st1,e1,e2⟩:=aA e;obtain⟨y,st2,e3,e4⟩:=aA e2;unfold revD at e4;show bnd (ta env) _ st=_;rw[aQ e1,aQ e3];exact e4
end
theorem hu1{A:Around}{k:Nat}(hr:Room k A):A.units+1<cLine:=aIs hr
theorem hu60'{A:Around}{k:Nat}(hr:Room k A):A.units+900<cLine:=by have:=hr.un;omega
structure Def (K:Fg9) (mg:Str→Option Value) (x:Str) (st:Stmt) (ps:List Str) (f:Addr) (fd:FuncData):Prop where
 F:Fun K x x st f fd
 b:Binds K fd ps []
 m:mg x=some (.ref f)
 k:PySem.W.keepIn K (.ref f)=true
section
variable{α β:Type}
abbrev R3(_:α→M β):Type:=Option (β×Sto)
abbrev R1(_:M α):Type:=Option (α×Sto)
abbrev R2'(_ _:M α):Type:=Option (α×Sto)
abbrev RQ(_:Sm'):Type:=Option ((Fw×En)×Sto)
noncomputable def b3(r:Option (α×Sto))(f:α→M β):R3 f:=match r with
 |some (a,st')=>f a st'
 |none=>none
@[simp] theorem jK{a:α}{st:Sto}{f:α→M β}:b3 (some (a,st)) f=f a st:=rfl
@[simp] theorem b3_none{f:α→M β}:b3 none f=none:=rfl
@[simp] theorem gH{x:M α}{f:α→M β}{st:Sto}:bnd x f st=b3 (x st) f:=rfl
@[simp] theorem aHs{a:α}{st:Sto}:L2.ret a st=some (a,st):=rfl
@[simp] theorem bad_ap{st:Sto}:(bad:M α) st=none:=rfl
def n3(p:Prop)[Decidable p](x:M α)(st:Sto):R1 x:=@ite _ p (Classical.propDecidable p) (x st) none
@[simp] theorem n3_true{x:M α}{st:Sto}:n3 True x st=x st:=if_pos trivial
theorem aI{p:Prop}[Decidable p]{x:M α}{st:Sto}(h:p):n3 p x st=x st:=if_pos h
@[simp] theorem need_ap{p:Prop}[Decidable p]{x:M α}{st:Sto}:need p x st=n3 p x st:=rfl
noncomputable def c3(b:Bool)(x y:M α)(st:Sto):R2' x y:=if b=true then x st else y st
@[simp] theorem xK{x y:M α}{st:Sto}:c3 true x y st=x st:=rfl
@[simp] theorem tS{x y:M α}{st:Sto}:c3 false x y st=y st:=rfl
end
noncomputable def q3(r:Option ((Fw×En)×Sto))(s2:Sm'):RQ s2:=match r with
 |some ((.nx,e),st)=>s2 e st
 |some ((.bk,e),st)=>some ((.bk,e),st)
 |some ((.ct,e),st)=>some ((.ct,e),st)
 |some ((.rt d,e),st)=>some ((.rt d,e),st)
 |none=>none
section
variable{env:En}{st:Sto}{d x y:D}{a b:En→M D}{c e:En→M Bool}{s1 s2:Sm'}{f:D→D→M D}{t:En→M (List D)}{g:List D→M D}{i n:Nat}
@[simp] theorem q3_nx:q3 (some ((.nx,env),st)) s2=s2 env st:=rfl
@[simp] theorem q3_bk:q3 (some ((.bk,env),st)) s2=some ((.bk,env),st):=rfl
@[simp] theorem q3_ct:q3 (some ((.ct,env),st)) s2=some ((.ct,env),st):=rfl
@[simp] theorem q3_rt:q3 (some ((.rt d,env),st)) s2=some ((.rt d,env),st):=rfl
@[simp] theorem q3_none:q3 none s2=none:=rfl
@[simp] theorem seqS_ap:seqS s1 s2 env st=q3 (s1 env st) s2:=by
 unfold seqS;rw[gH];cases h:s1 env st with
 |none=>rfl
 |some r=>
  obtain⟨⟨fl,e⟩,st'⟩:=r;cases fl<;>rfl
noncomputable def f3(r:Option ((Fw×En)×Sto)):Option (D×Sto):=match r with
 |some ((.rt d,_),st')=>some (d,st')
 |some ((.nx,_),st')=>some (.no,st')
 |_=>none
@[simp] theorem f3_rt:f3 (some ((.rt d,env),st))=some (d,st):=rfl
@[simp] theorem f3_nx:f3 (some ((.nx,env),st))=some (.no,st):=rfl
@[simp] theorem aEE{p:Nat}{ts:Sm'}{ds:List D}(h:ds.length=p):runF n p ts ds st=f3 (ts (ds.map some++List.replicate (n - p) none) st):=by
 unfold runF f3;rw[if_pos h]
 try rfl
@[simp] theorem eV_0{o:D}:eV 0 (some o::env) st=some (o,st):=rfl
@[simp] theorem eV_1{o1:Option D}{o:D}:eV 1 (o1::some o::env) st=some (o,st):=rfl
@[simp] theorem eV_2{o1 o2:Option D}{o:D}:eV 2 (o1::o2::some o::env) st=some (o,st):=rfl
@[simp] theorem aJk{o1 o2 o3:Option D}{o:D}:eV 3 (o1::o2::o3::some o::env) st=some (o,st):=rfl
@[simp] theorem eV_4{o1 o2 o3 o4:Option D}{o:D}:eV 4 (o1::o2::o3::o4::some o::env) st=some (o,st):=rfl
@[simp] theorem eV_5{o1 o2 o3 o4 o5:Option D}{o:D}:eV 5 (o1::o2::o3::o4::o5::some o::env) st=some (o,st):=rfl
@[simp] theorem eV_6{o1 o2 o3 o4 o5 o6:Option D}{o:D}:eV 6 (o1::o2::o3::o4::o5::o6::some o::env) st=some (o,st):=rfl
@[simp] theorem eV_7{o1 o2 o3 o4 o5 o6 o7:Option D}{o:D}:eV 7 (o1::o2::o3::o4::o5::o6::o7::some o::env) st=some (o,st):=rfl
@[simp] theorem eV_8{o1 o2 o3 o4 o5 o6 o7 o8:Option D}{o:D}:eV 8 (o1::o2::o3::o4::o5::o6::o7::o8::some o::env) st=some (o,st):=rfl
@[simp] theorem eV_9{o1 o2 o3 o4 o5 o6 o7 o8 o9:Option D}{o:D}:eV 9 (o1::o2::o3::o4::o5::o6::o7::o8::o9::some o::env) st=some (o,st):=rfl
@[simp] theorem eV_10{o1 o2 o3 o4 o5 o6 o7 o8 o9 o10:Option D}{o:D}:eV 10 (o1::o2::o3::o4::o5::o6::o7::o8::o9::o10::some o::env) st=some (o,st):=rfl
@[simp] theorem eV_11{o1 o2 o3 o4 o5 o6 o7 o8 o9 o10 o11:Option D}{o:D}:eV 11 (o1::o2::o3::o4::o5::o6::o7::o8::o9::o10::o11::some o::env) st=some (o,st):=rfl
@[simp] theorem eV_12{o1 o2 o3 o4 o5 o6 o7 o8 o9 o10 o11 o12:Option D}{o:D}:eV 12 (o1::o2::o3::o4::o5::o6::o7::o8::o9::o10::o11::o12::some o::env) st=some (o,st):=rfl
@[simp] theorem eV_13{o1 o2 o3 o4 o5 o6 o7 o8 o9 o10 o11 o12 o13:Option D}{o:D}:eV 13 (o1::o2::o3::o4::o5::o6::o7::o8::o9::o10::o11::o12::o13::some o::env) st=some (o,st):=rfl
@[simp] theorem eV_14{o1 o2 o3 o4 o5 o6 o7 o8 o9 o10 o11 o12 o13 o14:Option D}{o:D}:eV 14 (o1::o2::o3::o4::o5::o6::o7::o8::o9::o10::o11::o12::o13::o14::some o::env) st=some (o,st):=rfl
@[simp] theorem eC_ap:eC d env st=some (d,st):=rfl
@[simp] theorem aCe:eOp f a b env st=b3 (a env st) fun x=>bnd (b env) fun y=>f x y:=rfl
@[simp] theorem tCm_ap:tCm f a b env st=b3 (eOp f a b env st) isB:=rfl
@[simp] theorem isB_ap{x:Bool}:isB (.b x) st=some (x,st):=rfl
@[simp] theorem tVl_ap:tVl a env st=b3 (a env st) truD:=rfl
@[simp] theorem tAn_ap:tAn c e env st=b3 (c env st) fun x=>c3 x (e env) (L2.ret false):=by
 unfold tAn;rw[gH]
 congr 1
 funext x st
 cases x<;>rfl
@[simp] theorem tOo_ap:tOo c e env st=b3 (c env st) fun x=>c3 x (L2.ret true) (e env):=by
 unfold tOo;rw[gH]
 congr 1
 funext x st
 cases x<;>rfl
@[simp] theorem tNo_ap:tNo c env st=b3 (c env st) fun x=>L2.ret (!x):=rfl
@[simp] theorem eAn_ap:eAn a b env st=b3 (b3 (a env st) isB) fun x=>c3 x (b env) (L2.ret (.b false)):=by
 unfold eAn;rw[gH]
 congr 1
 funext x st
 cases x<;>rfl
@[simp] theorem eOo_ap:eOo a b env st=b3 (b3 (a env st) isB) fun x=>c3 x (L2.ret (.b true)) (b env):=by
 unfold eOo;rw[gH]
 congr 1
 funext x st
 cases x<;>rfl
@[simp] theorem eNo_ap:eNo a env st=b3 (b3 (a env st) isB) fun x=>L2.ret (.b (!x)):=rfl
@[simp] theorem eIf_ap:eIf c a b env st=b3 (c env st) fun x=>c3 x (a env) (b env):=by
 unfold eIf;rw[gH]
 congr 1
 funext x st
 cases x<;>rfl
@[simp] theorem eUn_ap{f:D→M D}:eUn f a env st=b3 (a env st) f:=rfl
@[simp] theorem aN_ap:aN env st=some ([],st):=rfl
@[simp] theorem aC_ap:aC a t env st=b3 (a env st) fun x=>bnd (t env) fun xs=>L2.ret (x::xs):=rfl
@[simp] theorem eT_ap:eT t env st=b3 (t env st) fun xs=>need (xs.length≤sizeLine) (L2.ret (.t xs)):=rfl
@[simp] theorem aIM:eL t env st=b3 (t env st) newL:=rfl
@[simp] theorem eCl_ap:eCl g t env st=b3 (t env st) g:=rfl
@[simp] theorem eIx_ap:eIx a b env st=b3 (a env st) fun x=>bnd (b env) fun y=>ixD x y:=rfl
@[simp] theorem oN_ap:oN env st=some (none,st):=rfl
@[simp] theorem oS_ap:oS a env st=b3 (a env st) fun x=>bnd (asI x) fun n=>L2.ret (some n):=rfl
@[simp] theorem asI_ap{n:Int}:asI (.i n) st=some (n,st):=rfl
@[simp] theorem eSl_ap{l h:En→M (Option Int)}:eSl a l h env st=b3 (a env st) fun x=>bnd (l env) fun l=>bnd (h env) fun h=>slD x l h:=rfl
@[simp] theorem eRv_ap:eRv a b env st=b3 (a env st) fun x=>bnd (b env) fun y=>revD x y:=rfl
@[simp] theorem eBm_ap{T:String}{f:D→List D→M D}:eBm T f a t env st=b3 (a env st) fun x=>bnd (chkT T x) fun _=>bnd (t env) fun xs=>f x xs:=rfl
@[simp] theorem eB0_ap{T:String}{f:D→List D→M D}:eB0 T f a env st=b3 (a env st) fun x=>bnd (chkT T x) fun _=>f x []:=rfl
@[simp] theorem eCo_ap{caps:List Nat}{ti:En→M Its'}{bd:D→Sto→Option (List D)}:eCo caps ti bd c a env st=b3 (ti env st) fun its=>need (its.1.length<sizeLine) (bnd (compD its.2 bd c a (capD caps env) its.1 []) newC):=rfl
@[simp] theorem aEF{zs:List D}:newC zs st=some (.r st.length,st++[.l zs]):=rfl
@[simp] theorem aIN:gN i d env st=some (env.set i (some d),st):=rfl
@[simp] theorem gsN_ap:gsN [] env st=some (env,st):=rfl
@[simp] theorem gsC_ap{g:D→En→M En}{gs:List D→En→M En}{ds:List D}:gsC g gs (d::ds) env st=b3 (g d env st) fun env'=>gs ds env':=rfl
@[simp] theorem gT_t{gs:List D→En→M En}{xs:List D}(h:xs.length=n):gT n gs (.t xs) env st=gs xs env st:=by unfold gT unp seqOf;dsimp only;rw[if_pos h]
@[simp] theorem gS_ap:gS a b d env st=b3 (a env st) fun x=>bnd (b env) fun y=>bnd (setD x y d) fun _=>L2.ret env:=rfl
@[simp] theorem sN_ap:sN env st=some ((.nx,env),st):=rfl
@[simp] theorem sBk_ap:sBk env st=some ((.bk,env),st):=rfl
@[simp] theorem sCt_ap:sCt env st=some ((.ct,env),st):=rfl
@[simp] theorem sE_ap:sE a env st=b3 (a env st) fun _=>L2.ret (.nx,env):=rfl
@[simp] theorem aIO:sR a env st=b3 (a env st) fun d=>L2.ret (.rt d,env):=rfl
@[simp] theorem sR0_ap:sR0 env st=some ((.rt .no,env),st):=rfl
@[simp] theorem sI_ap:sI c s1 s2 env st=b3 (c env st) fun b=>c3 b (s1 env) (s2 env):=by
 unfold sI;rw[gH]
 congr 1
 funext x st
 cases x<;>rfl
@[simp] theorem aIP{g:D→En→M En}:sA a g env st=b3 (a env st) fun d=>bnd (g d env) fun env'=>L2.ret (.nx,env'):=rfl
@[simp] theorem sG_ap:sG f i a env st=b3 (eV i env st) fun x=>bnd (a env) fun y=>bnd (f x y) fun z=>L2.ret (.nx,env.set i (some z)):=rfl
@[simp] theorem sF_ap{ti:En→M Its'}{g:D→En→M En}:sF ti g s1 env st=b3 (ti env st) fun its=>forD its.2 g s1 its.1 env:=rfl
@[simp] theorem iS_ap:iS a env st=b3 (a env st) itD:=rfl
@[simp] theorem iR1_ap:iR1 t env st=b3 (t env st) fun xs=>need (xs.length=1) (rangeD xs):=rfl
@[simp] theorem iEn_ap:iEn t env st=b3 (t env st) enumD:=rfl
@[simp] theorem addD_i{a b:Int}:addD (.i a) (.i b) st=some (.i (a+b),st):=rfl
@[simp] theorem addD_t{a b:List D}:addD (.t a) (.t b) st=n3 (a.length+b.length≤sizeLine) (L2.ret (.t (a++b))) st:=rfl
@[simp] theorem addD_s{a b:Str}:addD (.s a) (.s b) st=n3 (a.length+b.length≤sizeLine) (L2.ret (.s (a++b))) st:=rfl
theorem iL{l k:Nat}{xs ys:List D}(h1:st[l]?=some (.l xs))(h2:st[k]?=some (.l ys))(h:xs.length+ys.length≤sizeLine):addD (.r l) (.r k) st=some (.r st.length,st++[.l (xs++ys)]):=by
 show bnd (getL l) _ st=_;rw[aQ (dF h1),aQ (dF h2)];unfold newL;rw[if_pos (by rw[Y13];exact h)]
@[simp] theorem subD_i{a b:Int}:subD (.i a) (.i b) st=some (.i (a - b),st):=rfl
@[simp] theorem mulD_i{a b:Int}:mulD (.i a) (.i b) st=n3 (CMul a b) (L2.ret (.i (a * b))) st:=rfl
@[simp] theorem fdivD_i{a b:Int}:fdivD (.i a) (.i b) st=n3 (CDiv a b) (L2.ret (.i (a / b))) st:=rfl
@[simp] theorem modD_i{a b:Int}:modD (.i a) (.i b) st=n3 (0<b) (L2.ret (.i (a % b))) st:=rfl
@[simp] theorem sO{a b:Int}:powD (.i a) (.i b) st=n3 (CPow a b) (L2.ret (.i (a ^ b.toNat))) st:=rfl
@[simp] theorem ltD_i{a b:Int}:ltD (.i a) (.i b) st=some (.b (decide (a<b)),st):=rfl
@[simp] theorem leD_i{a b:Int}:leD (.i a) (.i b) st=some (.b (decide (a≤b)),st):=rfl
@[simp] theorem gtD_i{a b:Int}:gtD (.i a) (.i b) st=some (.b (decide (b<a)),st):=rfl
@[simp] theorem geD_i{a b:Int}:geD (.i a) (.i b) st=some (.b (decide (b≤a)),st):=rfl
@[simp] theorem negD_i{a:Int}:negD (.i a) st=some (.i (-a),st):=rfl
@[simp] theorem eqD_i{a b:Int}:eqD (.i a) (.i b) st=some (.b (a==b),st):=rfl
@[simp] theorem eqD_s{a b:Str}:eqD (.s a) (.s b) st=some (.b (a==b),st):=rfl
@[simp] theorem neD_i{a b:Int}:neD (.i a) (.i b) st=some (.b (!(a==b)),st):=rfl
@[simp] theorem neD_s{a b:Str}:neD (.s a) (.s b) st=some (.b (!(a==b)),st):=rfl
@[simp] theorem isD_no:isD x .no st=some (.b (noB x),st):=rfl
@[simp] theorem ixD_t{xs:List D}{n:Int}:ixD (.t xs) (.i n) st=opt (atI xs n) st:=by
 unfold ixD ixV opt seqOf;cases h:atI xs n<;>simp[h]
theorem fX{l:Nat}{xs:List D}{n:Int}(h:st[l]?=some (.l xs)):ixD (.r l) (.i n) st=opt (atI xs n) st:=by
 have e:ixV st (.r l) (.i n)=atI xs n:=by
  show(lsc st l).bind _=_;rw[jJ h]
  rfl
 unfold ixD opt;rw[e];cases atI xs n<;>rfl
@[simp] theorem opt_s{α:Type}{z:α}:opt (some z) st=some (z,st):=rfl
@[simp] theorem aIQ{α:Type}{z:α}{zs:List α}:atI (z::zs) 0=some z:=by unfold atI ixN;simp
@[simp] theorem atI_1{α:Type}{z0 z:α}{zs:List α}:atI (z0::z::zs) 1=some z:=fS (j:=1) rfl
@[simp] theorem atI_2{α:Type}{z0 z1 z:α}{zs:List α}:atI (z0::z1::z::zs) 2=some z:=fS (j:=2) rfl
@[simp] theorem atI_3{α:Type}{z0 z1 z2 z:α}{zs:List α}:atI (z0::z1::z2::z::zs) 3=some z:=fS (j:=3) rfl
@[simp] theorem atI_4{α:Type}{z0 z1 z2 z3 z:α}{zs:List α}:atI (z0::z1::z2::z3::z::zs) 4=some z:=fS (j:=4) rfl
@[simp] theorem atI_5{α:Type}{z0 z1 z2 z3 z4 z:α}{zs:List α}:atI (z0::z1::z2::z3::z4::z::zs) 5=some z:=fS (j:=5) rfl
@[simp] theorem aCf{xs:List D}:lenD [.t xs] st=some (.i (xs.length:Nat),st):=rfl
@[simp] theorem lenD_f{xs:List D}:lenD [.f xs] st=some (.i (xs.length:Nat),st):=rfl
theorem sP{l:Nat}{xs:List D}(h:st[l]?=some (.l xs)):lenD [.r l] st=some (.i (xs.length:Nat),st):=by
 have e:seqOf st (.r l)=some xs:=jJ h;unfold lenD lenV;dsimp only;rw[e]
 rfl
theorem fF{z:Str}(h:z.length≤sizeLine):lenD [.s z] st=some (.i (z.length:Nat),st):=by
 unfold lenD lenV;dsimp only;rw[if_pos h]
@[simp] theorem listD_t{xs:List D}:listD [.t xs] st=some (.r st.length,st++[.l xs]):=rfl
theorem aEG{l:Nat}{xs:List D}(h:st[l]?=some (.l xs)):listD [.r l] st=some (.r st.length,st++[.l xs]):=by
 have e:seqOf st (.r l)=some xs:=jJ h;unfold listD;dsimp only;rw[e]
@[simp] theorem tupD_t{xs:List D}:tupD [.t xs] st=some (.t xs,st):=rfl
theorem aCg{l:Nat}{xs:List D}(h:st[l]?=some (.l xs)):tupD [.r l] st=some (.t xs,st):=by
 show bnd (getL l) _ st=_;rw[aQ (dF h)]
 rfl
@[simp] theorem itD_t{xs:List D}:itD (.t xs) st=some ((xs,fun _=>True),st):=rfl
@[simp] theorem itD_f{xs:List D}:itD (.f xs) st=some ((xs,fun _=>True),st):=rfl
theorem aFx{l:Nat}{xs:List D}(h:st[l]?=some (.l xs)):itD (.r l) st=some ((xs,fun st=>st[l]?=some (.l xs)),st):=by
 show bnd (getL l) _ st=_;rw[aQ (dF h)]
 rfl
@[simp] theorem aEH{xs:List D}:newL xs st=n3 (xs.length≤sizeLine) (newC xs) st:=by
 unfold newL n3
 by_cases h:xs.length≤sizeLine
 ·rw[if_pos h,if_pos h];rfl
 ·rw[if_neg h,if_neg h]
@[simp] theorem chkT_s{z:Str}:chkT "str" (.s z) st=some ((),st):=rfl
theorem bQ{l:Nat}{xs:List D}(h:st[l]?=some (.l xs)):chkT "list" (.r l) st=some ((),st):=by
 unfold chkT;dsimp only;rw[h]
 rfl
theorem jC{l:Nat}{xs:List D}(h:st[l]?=some (.l xs))(hl:xs.length<sizeLine):appendD (.r l) [y] st=some (.no,st.set l (.l (xs++[y]))):=nZ h (by rw[if_pos hl])
theorem lM{l:Nat}{xs:List D}(h:st[l]?=some (.l (xs++[y]))):popD (.r l) [] st=some (y,st.set l (.l xs)):=nZ h (by simp)
theorem aAd{l:Nat}{xs ys:List D}(h:st[l]?=some (.l xs))(hl:xs.length+ys.length≤sizeLine):extendD (.r l) [.t ys] st=some (.no,st.set l (.l (xs++ys))):=nZ h (by rw[if_pos hl])
theorem fG{l k:Nat}{xs ys:List D}(h:st[l]?=some (.l xs))(hk:st[k]?=some (.l ys))(hl:xs.length+ys.length≤sizeLine):extendD (.r l) [.r k] st=some (.no,st.set l (.l (xs++ys))):=by
 show bnd (getL k) _ st=_;rw[aQ (dF hk)];exact nZ h (by rw[if_pos hl])
theorem aHt{l:Nat}{xs:List D}{n:Nat}(h:st[l]?=some (.l xs))(hn:n<xs.length):setD (.r l) (.i (n:Nat)) y st=some ((),st.set l (.l (xs.set n y))):=by
 have h1:dcc st l=none:=rfl;have:ixN xs.length (n:Int)=some n:=by unfold ixN;rw[if_pos (by omega),if_pos (by omega)];simp
 unfold setD;dsimp only;rw[h1,jJ h];dsimp only;rw[this]
@[simp] theorem int1D_b{k:Bool}:int1D [.b k] st=some (.i (if k then 1 else 0),st):=rfl
@[simp] theorem slD_t{xs:List D}{lo hi:Option Int}:slD (.t xs) lo hi st=some (.t (cutD xs lo hi),st):=rfl
@[simp] theorem slD_s{z:Str}{lo hi:Option Int}:slD (.s z) lo hi st=n3 (z.length≤sizeLine) (L2.ret (.s (Txt.slice z lo hi))) st:=rfl
theorem aFy{l:Nat}{xs:List D}{lo hi:Option Int}(h:st[l]?=some (.l xs)):slD (.r l) lo hi st=some (.r st.length,st++[.l (cutD xs lo hi)]):=by
 show bnd (getL l) _ st=_;rw[aQ (dF h)]
@[simp] theorem hY{j:Int}:rangeD [.i j] st=n3 (-(2 ^ 62)≤j∧j<2 ^ 62) (L2.ret ((List.range j.toNat).map fun(k:Nat)=>D.i (0+(k:Int)),fun _=>True)) st:=rfl
@[simp] theorem enumD_t{xs:List D}:enumD [.t xs] st=some ((enumL xs,fun _=>True),st):=rfl
@[simp] theorem truD_b{k:Bool}:truD (.b k) st=some (k,st):=rfl
theorem jL{l:Nat}{xs:List D}(h:st[l]?=some (.l xs)):truD (.r l) st=some (!xs.isEmpty,st):=by
 unfold truD;dsimp only;rw[h]
 rfl
@[simp] theorem aCh{α:Type}{z:M α}:chkM (fun _=>True) z st=z st:=bG trivial
end
section
variable{X:Cx}{pos:Pos}{a b:Expr}{ta tb:En→M D}
theorem aHu:QE X a (fun _=>bad):=by
 rintro pins s σ H Q I ⟨m,env,st,d,st',S,E,e,k⟩;cases e
theorem aHv{s:Stmt}:QS X s (fun _=>bad):=by
 rintro pins s σ H D I ⟨m,env,st,fl,env',st',S,E,e,k⟩;cases e
theorem SR.ins{K:KW}{m:List Addr}{H:Hp}{st:Sto}{v:V}{l:Nat}{C:Addr}{fs:List (Str×D)}(S:SR K m H st)(h:RV K m H v (.r l))(e:st[l]?=some (.o C fs)):
  ∃ p dx ws,v=.ref p∧m[l]?=some p∧H p=some (.ins C dx ws)∧ws.map (·.1)=fs.map (·.1)∧RVs K m H (ws.map (·.2)) (fs.map (·.2)):=by
 cases h with
 |r hl=>obtain⟨dx,ws,h1,h2⟩:=S.cel l _ _ hl e;exact⟨_,dx,ws,rfl,hl,h1,h2⟩
theorem RVs.tl{K:KW}{m:List Addr}{H:Hp}{v:V}{d:D}{vs:List V}{ds:List D}(h:RVs K m H (v::vs) (d::ds)):RVs K m H vs ds:=⟨by have:=h.1;simpa using this,fun i v' d' e1 e2=>h.2 (i+1) v' d' (by simpa using e1) (by simpa using e2)⟩
theorem pC{K:KW}{m:List Addr}{H:Hp}{f:Str}:∀ {ws:List (Str×V)} {fs:List (Str×D)},ws.map (·.1)=fs.map (·.1)→RVs K m H (ws.map (·.2)) (fs.map (·.2))→(fs.lookup f=none→ws.lookup f=none)∧∀ d,fs.lookup f=some d→∃ v,ws.lookup f=some v∧RV K m H v d
 |[],[],_,_=>⟨fun _=>rfl,fun d h=>by cases h⟩
 |(g,v)::ws,(g',d)::fs,h,r=>by
  simp only[V15,Y34] at h;obtain⟨rfl,h2⟩:=h;have ih:=pC (f:=f) h2 r.tl;simp only[Z31]
  by_cases hg:(f==g)=true
  ·rw[hg];exact⟨fun z=>by simp at z,fun d' z=>by simp at z;subst z;exact⟨v,rfl,r.2 0 v d rfl rfl⟩⟩
  ·simp only[Bool.not_eq_true] at hg;rw[hg];exact ih
 |p::ws,[],h,_=>by cases h
 |[],q::fs,h,_=>by cases h
noncomputable def putO(f:Str)(d:D):List (Str×D)→List (Str×D)
 |[]=>[(f,d)]
 |(g,x)::r=>if g=f then(g,d)::r else(g,x)::putO f d r
theorem wH{K:KW}{m:List Addr}{H:Hp}{f:Str}{v:V}{d:D}(hv:RV K m H v d):∀ {ws:List (Str×V)} {fs:List (Str×D)},ws.map (·.1)=fs.map (·.1)→RVs K m H (ws.map (·.2)) (fs.map (·.2))→
  (putF f v ws).map (·.1)=(putO f d fs).map (·.1)∧RVs K m H ((putF f v ws).map (·.2)) ((putO f d fs).map (·.2))
 |[],[],_,_=>⟨rfl, .one hv⟩
 |(g,w)::ws,(g',e)::fs,h,r=>by
  simp only[V15,Y34] at h;obtain⟨rfl,h2⟩:=h;have ih:=wH (f:=f) hv h2 r.tl;rw[putF,putO]
  by_cases hg:g=f
  ·rw[if_pos hg,if_pos hg];exact⟨by simp[h2], .cons hv r.tl⟩
  ·rw[if_neg hg,if_neg hg];exact⟨by simp[ih.1], .cons (r.2 0 w e rfl rfl) ih.2⟩
 |p::ws,[],h,_=>by cases h
 |[],q::fs,h,_=>by cases h
noncomputable def fldD(C:Addr)(f:Str)(x:D):M D:=fun st=>match x with
 | .r l=>match st[l]? with
  |some (.o c fs)=>if c=C then(match fs.lookup f with |some d=>some (d,st)|none=>none) else none
  |_=>none
 |_=>none
theorem rB{C:Addr}{f:Str}{x d:D}{st st':Sto}(h:fldD C f x st=some (d,st')):∃ l fs,x=.r l∧st[l]?=some (.o C fs)∧fs.lookup f=some d∧st'=st:=by
 unfold fldD at h
 split at h
 ·rename_i l
  split at h
  ·rename_i c fs q
   split at h
   ·rename_i hc;subst hc
    split at h
    ·rename_i e q2;cases h;exact⟨l,fs,rfl,q,q2,rfl⟩
    ·cases h
   ·cases h
  ·cases h
 ·cases h
theorem pE{C:Addr}{f:Str}{l:Nat}{fs:List (Str×D)}{d:D}{st:Sto}(h:st[l]?=some (.o C fs))(hf:fs.lookup f=some d):fldD C f (.r l) st=some (d,st):=by
 unfold fldD;dsimp only;rw[h];dsimp only;rw[if_pos rfl,hf]
theorem aHw{C:Addr}{f:Str}(hC:Cls X.K C)(hn:NoAttr X.K C f)(h:QE X a ta)(hb:attributeBase a f X.env (eval a X.env)=eval a X.env):QE X (.Attribute a f pos) (fun env=>bnd (ta env) (fldD C f)):=by
 refine aT (aGf h hb) ?_;rintro σ H Q ⟨m,env,st,d,st',S,E,e,k⟩;obtain⟨x,st1,e1,e2⟩:=aA e;obtain⟨l,fs,rfl,h1,h2,rfl⟩:=rB e2;refine⟨m,env,st, .r l,st',S,E,e1,fun v H' m' s S' r=>?_⟩;obtain⟨p,dx,ws,rfl,q1,q2,q3,q4⟩:=S'.ins r h1;obtain⟨w,q5,q6⟩:=(pC (f:=f) q3 q4).2 d h2;exact⟨p,C,dx,ws,w,rfl,q2,hC,hn,q5,k w H' m' s S' q6⟩
noncomputable def setF(C:Addr)(f:Str)(x y:D):M Unit:=fun st=>match x with
 | .r l=>match st[l]? with
  |some (.o c fs)=>if c=C∧fs.length<1000 then some ((),st.set l (.o C (putO f y fs))) else none
  |_=>none
 |_=>none
theorem rC{C:Addr}{f:Str}{x y:D}{u:Unit}{st st':Sto}(h:setF C f x y st=some (u,st')):∃ l fs,x=.r l∧st[l]?=some (.o C fs)∧fs.length<1000∧st'=st.set l (.o C (putO f y fs)):=by
 unfold setF at h
 split at h
 ·rename_i l
  split at h
  ·rename_i c fs q
   split at h
   ·rename_i hc;obtain⟨rfl,hc⟩:=hc;cases h;exact⟨l,fs,rfl,q,hc,rfl⟩
   ·cases h
  ·cases h
 ·cases h
theorem aCi{C:Addr}{f:Str}{l:Nat}{fs:List (Str×D)}{y:D}{st:Sto}(h:st[l]?=some (.o C fs))(hl:fs.length<1000):setF C f (.r l) y st=some ((),st.set l (.o C (putO f y fs))):=by
 unfold setF;dsimp only;rw[h];dsimp only;rw[if_pos ⟨rfl,hl⟩]
theorem aCj{ws:List (Str×V)}{fs:List (Str×D)}(h:ws.map (·.1)=fs.map (·.1)):ws.length=fs.length:=by
 have:=congrArg List.length h
 simpa using this
theorem aHx{C:Addr}{f:Str}{pos':Pos}(hC:Cls X.K C)(hn:NoAttr X.K C f)(ha:QE X a ta)(hv:QE X b tb)(hs:swapsWith b (some (.Attribute a f pos')) pos.line X.env=pure false):
  QS X (.Assign [.Attribute a f pos'] b pos) (fun env=>bnd (tb env) fun y=>bnd (ta env) fun x=>bnd (setF C f x y) fun _=>ret (.nx,env)):=by
 refine dQ (aGg ha hv hs) ?_;rintro D σ H ⟨m,env,st,fl,env',st',S,E,e,k⟩;obtain⟨y,st1,e1,e2⟩:=aA e;obtain⟨x,st2,e3,e4⟩:=aA e2;obtain⟨u,st3,e5,e6⟩:=aA e4;cases aB e6;obtain⟨l,fs,rfl,h1,h2,rfl⟩:=rC e5;refine⟨m,env,st,y,st1,S,E,e1,fun vy H1 m1 s1 S1 r1=>⟨m1,env,st1, .r l,st2,S1,E.stp s1,e3,fun vx H2 m2 s2 S2 r2=>?_⟩⟩;obtain⟨p,dx,ws,rfl,q1,q2,q3,q4⟩:=S2.ins r2 h1;have hp:=wH (f:=f) (r1.stp s2) q3 q4;obtain⟨S3,s3⟩:=S2.put (o':=.ins C dx (putF f vy ws)) (c:=.o C (putO f y fs)) q1 q2 rfl fun q=>⟨dx,putF f vy ws,bI,hp.1,hp.2.stp q⟩;exact⟨p,C,dx,ws,rfl,q2,hC,hn,by rw[aCj q3];exact h2,k σ _ m2 ((s1.trans s2).trans s3) S3 (((E.stp s1).stp s2).stp s3)⟩
theorem aEI{C:Addr}{f:Str}{tpos:Pos}{op:Operator}{g:D→D→M D}(hC:Cls X.K C)(hn:NoAttr X.K C f)(ha:QE X a ta)(hv:QE X b tb)(ho:OpR X (inplaceOp op) (LR X.kw g)):
  QS X (.AugAssign (.Attribute a f tpos) op b pos) (fun env=>bnd (ta env) fun x=>bnd (fldD C f x) fun w=>bnd (tb env) fun y=>bnd (g w y) fun z=>bnd (setF C f x z) fun _=>ret (.nx,env)):=by
 refine dQ (zM (rd:=LR X.kw g) ha hv fun pins s σ H x y u v Q I r1 r2 h=>ho pins s σ H x y u v Q I r1 r2 h) ?_;rintro D σ H ⟨m,env,st,fl,env',st',S,E,e,k⟩;obtain⟨x,st1,e1,e2⟩:=aA e;obtain⟨w,st2,e3,e4⟩:=aA e2;obtain⟨y,st3,e5,e6⟩:=aA e4;obtain⟨z,st4,e7,e8⟩:=aA e6;obtain⟨u,st5,e9,e10⟩:=aA e8;cases aB e10;obtain⟨l,fs,rfl,h1,h2,rfl⟩:=rB e3;obtain⟨l',fs',hl',h3,h4,rfl⟩:=rC e9;cases hl';refine⟨m,env,st, .r l,st2,S,E,e1,fun vx H1 m1 s1 S1 r1=>?_⟩;obtain⟨p,dx,ws,rfl,q1,q2,q3,q4⟩:=S1.ins r1 h1;obtain⟨vw,q5,q6⟩:=(pC (f:=f) q3 q4).2 w h2;refine⟨p,C,dx,ws,vw,rfl,q2,hC,hn,q5,m1,env,st2,y,st3,S1,E.stp s1,e5,fun vy H2 m2 s2 S2 r2=>?_⟩;refine⟨m2,st3,w,y,z,st4,S2,q6.stp s2,r2,e7,fun vz H3 m3 s3 S3 r3=>?_⟩;obtain⟨p',dx',ws',hp',t1,t2,t3,t4⟩:=S3.ins ((r1.stp s2).stp s3) h3;cases hp';have hp:=wH (f:=f) r3 t3 t4;obtain⟨S4,s4⟩:=S3.put (o':=.ins C dx' (putF f vz ws')) (c:=.o C (putO f z fs')) t1 t2 rfl fun q=>⟨dx',putF f vz ws',bI,hp.1,hp.2.stp q⟩;exact⟨dx',ws',t2,by rw[aCj t3];exact h4,k σ _ m3 (((s1.trans s2).trans s3).trans s4) S4 ((((E.stp s1).stp s2).stp s3).stp s4)⟩
noncomputable def ofD(C:Addr)(mt:Str)(x:D):M Unit:=fun st=>match x with
 | .r l=>match st[l]? with
  |some (.o c fs)=>if c=C then(match fs.lookup mt with |some _=>none|none=>some ((),st)) else none
  |_=>none
 |_=>none
theorem uH{C:Addr}{f:Str}{x:D}{u:Unit}{st st':Sto}(h:ofD C f x st=some (u,st')):∃ l fs,x=.r l∧st[l]?=some (.o C fs)∧fs.lookup f=none∧st'=st:=by
 unfold ofD at h
 split at h
 ·rename_i l
  split at h
  ·rename_i c fs q
   split at h
   ·rename_i hc;subst hc
    split at h
    ·cases h
    ·rename_i q2;cases h;exact⟨l,fs,rfl,q,q2,rfl⟩
   ·cases h
  ·cases h
 ·cases h
section
variable{CX:CXT}{k:Nat}{f C:Addr}{fd:FuncData}{ps:List Str}{mt x:Str}{p apos:Pos}{e o:Expr}{es:List Expr}{E:XK}{t:En→M (List D)}{g:List D→M D}{te:En→M D}
theorem aAe{K:KW}{σ:St}{H:Hp}{Q:VK}(h:LE K (fun env=>bnd (te env) fun x=>bnd (ofD C mt x) fun _=>bnd (t env) fun ds=>g (x::ds)) σ H Q):tMeth C mt (LF K g) [] E (LE K te) (LA K t) σ H Q:=by
 obtain⟨m,env,st,d,st',S,EE,e,k⟩:=h;obtain⟨x,st1,e1,e2⟩:=aA e;obtain⟨u,st2,e3,e4⟩:=aA e2;obtain⟨ds,st3,e5,e6⟩:=aA e4;obtain⟨l,fs,rfl,h1,h2,rfl⟩:=uH e3;refine⟨m,env,st, .r l,st2,S,EE,e1,fun vx H1 m1 s1 S1 r1=>?_⟩;obtain⟨p,dx,ws,rfl,q1,q2,q3,q4⟩:=S1.ins r1 h1;refine⟨p,dx,ws,rfl,q2,(pC (f:=mt) q3 q4).1 h2,m1,env,st2,ds,st3,S1,EE.stp s1,e5,fun vs H2 m2 s2 S2 r2=>?_⟩;show LF K g (V.ref p::(vs++[])) H2 Q E;rw[V12];exact⟨m2,st3, .r l::ds,d,st',S2, .cons (r1.stp s2) r2,e6,fun v H3 m3 s3 S3 r3=>k v H3 m3 ((s1.trans s2).trans s3) S3 r3⟩
theorem aEJ{pl:Sem Bool}(he:QE X o te)(c:Cls X.K C)(hm:Meth X.K C mt f)(F:FnOk X.prog X.w X.K X.mg X.base CX k f fd ps (LF X.kw g))(hr:Room k X.A)(hb:Binds X.K fd ps [])(hx:Passes CX X E)(ha:QA X (e::es) t)
  (hst:starEach (e::es) X.env=(false,eval e X.env)::starEach es X.env:=by rfl)(hpl:(backTo pos (starEach es X.env)).any (·.1)=false:=by rfl)
  (ht:eval (.Call (.Attribute o mt apos) (e::es) [] pos) X.env=(do
   let ov ← eval o X.env
   standAt apos.atName
   let (f,first) ← holding [ov] (getMethod ov mt pl)
   callWith pos f first (backTo pos (starEach (e::es) X.env)) (backToKw pos (keywordEach [] X.env))):=by rfl):
  QE X (.Call (.Attribute o mt apos) (e::es) [] pos) (fun env=>bnd (te env) fun x=>bnd (ofD C mt x) fun _=>bnd (t env) fun ds=>g (x::ds)):=
 aT (aDW (pl:=pl) he c hm F hr hb .nil hx ha hst hpl ht) fun _ _ _ h=>aAe h
theorem aCk{pl:Sem Bool}(he:QE X o te)(c:Cls X.K C)(hm:Meth X.K C mt f)(F:FnOk X.prog X.w X.K X.mg X.base CX k f fd ps (LF X.kw g))(hr:Room k X.A)(hb:Binds X.K fd ps [])(hx:Passes CX X E)
  (ht:eval (.Call (.Attribute o mt apos) [] [] pos) X.env=(do
   let ov ← eval o X.env
   standAt apos.atName
   let (f,first) ← holding [ov] (getMethod ov mt pl)
   callWith pos f first (backTo pos (starEach [] X.env)) (backToKw pos (keywordEach [] X.env))):=by rfl):
  QE X (.Call (.Attribute o mt apos) [] [] pos) (fun env=>bnd (te env) fun x=>bnd (ofD C mt x) fun _=>g [x]):=by
 refine aT (aBk (pl:=pl) he c hm F hr hb .nil hx ht) ?_;rintro σ H Q ⟨m,env,st,d,st',S,EE,e,k⟩;obtain⟨x,st1,e1,e2⟩:=aA e;obtain⟨u,st2,e3,e4⟩:=aA e2;obtain⟨l,fs,rfl,h1,h2,rfl⟩:=uH e3;refine⟨m,env,st, .r l,st2,S,EE,e1,fun vx H1 m1 s1 S1 r1=>?_⟩;obtain⟨p,dx,ws,rfl,q1,q2,q3,q4⟩:=S1.ins r1 h1;exact⟨p,dx,ws,rfl,q2,(pC (f:=mt) q3 q4).1 h2,m1,st2,[.r l],d,st',S1, .one r1,e4,fun v H3 m3 s3 S3 r3=>k v H3 m3 (s1.trans s3) S3 r3⟩
noncomputable def mkD(C:Addr)(g:List D→M D)(ds:List D):M D:=fun st=>match g (.r st.length::ds) (st++[.o C []]) with
 |some (.no,st')=>some (.r st.length,st')
 |_=>none
theorem aCl{ds:List D}{d:D}{st st':Sto}(h:mkD C g ds st=some (d,st')):g (.r st.length::ds) (st++[.o C []])=some (.no,st')∧d=.r st.length:=by
 unfold mkD at h
 split at h
 ·rename_i s q;cases h;exact⟨q,rfl⟩
 ·cases h
theorem aCm{K:KW}{m:List Addr}{H:Hp}{st st':Sto}{ds:List D}{d:D}{vs:List V}{Q:VK}(S:SR K m H st)(r:RVs K m H vs ds)(e:mkD C g ds st=some (d,st'))(k:Fin K m H d st' Q):
  ∀ x dx,H x=none→H dx=none→dx≠x→LF K g (.ref x::(vs++[])) (upd (upd H dx (.own x)) x (.ins C dx [])) (fun v H2=>v=.non∧Q (.ref x) H2) E:=by
 intro x dx hx hdx hne;obtain⟨e1,rfl⟩:=aCl e;obtain⟨S1,s1⟩:=S.same (oY (o:=.own x) hdx);have hx1:upd H dx (.own x) x=none:=by rw[aG (Ne.symm hne)];exact hx
 obtain⟨S2,s2⟩:=S1.new (o:=.ins C dx []) (c:=.o C []) hx1 fun _=>⟨dx,[],bI,rfl, .nil⟩;have hl:(m++[x])[st.length]?=some x:=by rw[← S.len];simp
 rw[V12];refine⟨m++[x],st++[.o C []], .r st.length::ds, .no,st',S2, .cons (.r hl) ((r.stp s1).stp s2),e1,fun v H' m' s S' rv=>⟨by cases rv;rfl,k (.ref x) H' m' ((s1.trans s2).trans s) S' (.r (s.pre _ _ hl))⟩⟩
theorem aEK(Mk':Mk X.K C f)(F:FnOk X.prog X.w X.K X.mg X.base CX k f fd ps (LF X.kw g))(hr:Room (k+1) X.A)(hg:Gl X x)(hm:X.mg x=some (.ref C))(hb:Binds X.K fd ps [])(hx:Passes CX X E)
  (ha:QA X (e::es) t)(hdb:(x==("__debug__":Str))=false:=by decide)(he:starEach (e::es) X.env=(false,eval e X.env)::starEach es X.env:=by rfl)(hpl:(backTo pos (starEach es X.env)).any (·.1)=false:=by rfl):
  QE X (.Call (.Name x p) (e::es) [] pos) (fun env=>bnd (t env) (mkD C g)):=by
 refine aT (aDX Mk' F hr hg hm hb .nil hx ha hdb he hpl) ?_;rintro σ H Q ⟨m,env,st,d,st',S,EE,e,k⟩;obtain⟨ds,st1,e1,e2⟩:=aA e;exact⟨m,env,st,ds,st1,S,EE,e1,fun vs H' m' s S' r=>aCm S' r e2 fun v H2 m2 s2 S2 r2=>k v H2 m2 (s.trans s2) S2 r2⟩
end
end
section
variable{X:Cx}{pos:Pos}{a b:Expr}{ta tb:En→M D}
noncomputable def boolsD:List D→Option (List Bool)
 |[]=>some []
 | .b x::r=>(boolsD r).map (x::·)
 |_=>none
noncomputable def strsD:List D→Option (List Str)
 |[]=>some []
 | .s x::r=>(strsD r).map (x::·)
 |_=>none
theorem rD{K:KW}{m:List Addr}{H:Hp}:∀ {ds:List D} {vs:List V} {bs:List Bool},RVs K m H vs ds→boolsD ds=some bs→vs=bs.map V.bl
 |[],vs,bs,r,h=>by cases h;exact Z34.mp r.1
 |d::ds,[],bs,r,h=>by have:=r.1;cases this
 |d::ds,v::vs,bs,r,h=>by
  unfold boolsD at h
  split at h
  ·rename_i e;cases e
  ·rename_i x r' e;cases e;obtain⟨bs',h1,rfl⟩:=Z12.mp h;have r0:=r.2 0 v _ rfl rfl;cases r0;rw[rD r.tl h1];rfl
  ·cases h
theorem pF{K:KW}{m:List Addr}{H:Hp}:∀ {ds:List D} {vs:List V} {bs:List Str},RVs K m H vs ds→strsD ds=some bs→vs=bs.map V.str
 |[],vs,bs,r,h=>by cases h;exact Z34.mp r.1
 |d::ds,[],bs,r,h=>by have:=r.1;cases this
 |d::ds,v::vs,bs,r,h=>by
  unfold strsD at h
  split at h
  ·rename_i e;cases e
  ·rename_i x r' e;cases e;obtain⟨bs',h1,rfl⟩:=Z12.mp h;have r0:=r.2 0 v _ rfl rfl;cases r0;rw[pF r.tl h1];rfl
  ·cases h
noncomputable def allD:List D→M D
 |[.r l]=>bnd (getL l) fun xs=>bnd (opt (boolsD xs)) fun bs=>ret (.b (bs.all id))
 |_=>bad
theorem aHy(hc:X.calm=true):CallR X (.builtin "all") (LC X.kw allD):=by
 refine(aBv hc).imp ?_;rintro xs H Q ⟨m,st,ds,d,st',S,r,e,k⟩
 match ds,r,e with
 |[.r l],r,e=>
  obtain⟨v,rfl,rv⟩:=aY r;obtain⟨ys,st1,e1,e2⟩:=aA e;obtain⟨h1,rfl⟩:=bF e1;obtain⟨bs,st2,e3,e4⟩:=aA e2;obtain⟨h2,rfl⟩:=lY e3;cases aB e4;cases rv with
  |r hl=>
   obtain⟨vs,o1,h3⟩:=S.cel l _ _ hl h1;rw[rD h3 h2] at o1;exact⟨_,bs,rfl,SqL.of o1,k.now S (.b _)⟩
def joinD:D→List D→M D
 | .s z,[.r l]=>bnd (getL l) fun xs=>bnd (opt (strsD xs)) fun ts=>need (JoinOk z ts=true) (ret (.s (Txt.join z ts)))
 | .s z,[.t xs]=>bnd (opt (strsD xs)) fun ts=>need (JoinOk z ts=true) (ret (.s (Txt.join z ts)))
 |_,_=>bad
theorem aCn:MtR X "str.join" (fun x xs H Q=>∃ (z:Str) (p:Addr) (ts:List Str),x=.str z∧xs=[.ref p]∧SqT X.K H p (ts.map V.str)∧JoinOk z ts=true∧Q (.str (Txt.join z ts)) H):=by
 intro pins s σ H x xs v us Q I rx rs h;obtain⟨z,p,ts,rfl,rfl,hq,hj,q⟩:=h;obtain⟨t,rfl⟩:=rx;obtain⟨u,rfl,ru⟩:=vals1 rs;cases ru;obtain⟨its,rv,pl,hz⟩:=I.tuple hq;obtain⟨l,rfl,e⟩:=rX rv;subst e;unfold JoinOk at hj;rw[Z20] at hj;obtain⟨o,ho,hc,n,hd⟩:=pl;exact U31 F.slot_str_join (typeIs_str _ _ _) F.entry_str_join (F.args_str_join_2 _ _) (meets_str_join_tuple z t p l hj) ⟨⟨o,n,ho,hc,hd⟩,post_join l ⟨joinFit_length hj,fun t' k=>⟨.str _,H,I.tok _,⟨_,rfl⟩,q⟩⟩⟩
theorem aEL:MtR X "str.join" (LM X.kw joinD):=by
 rintro pins s σ H x xs v us Q I rv rs ⟨m,st,dx,ds,d,st',S,rx,r,e,k⟩
 match dx,ds,rx,r,e with
 | .s z,[.r l], .s _,r,e=>
  obtain⟨v,rfl,rv'⟩:=aY r;obtain⟨ys,st1,e1,e2⟩:=aA e;obtain⟨h1,rfl⟩:=bF e1;obtain⟨ts,st2,e3,e4⟩:=aA e2;obtain⟨h2,rfl⟩:=lY e3;obtain⟨h5,e5⟩:=aL e4;cases aB e5;cases rv' with
  |r hl=>
   obtain⟨vs,o1,h3⟩:=S.cel l _ _ hl h1;rw[pF h3 h2] at o1;exact aEe pins s σ H _ _ _ us Q I rv rs ⟨z,_,ts,rfl,rfl,SqL.of o1,h5,k.now S (.s _)⟩
 | .s z,[.t zs], .s _,r,e=>
  obtain⟨v,rfl,rv'⟩:=aY r;obtain⟨ts,st2,e3,e4⟩:=aA e;obtain⟨h2,rfl⟩:=lY e3;obtain⟨h5,e5⟩:=aL e4;cases aB e5;cases rv' with
  |t o1 l1 h3=>
   rw[pF ⟨l1,h3⟩ h2] at o1;exact aCn pins s σ H _ _ _ us Q I rv rs ⟨z,_,ts,rfl,rfl,SqT.of o1,h5,k.now S (.s _)⟩
noncomputable def set0D:M D:=fun st=>some (.r st.length,st++[.st []])
theorem aEM{p:Pos}(hg:Gl X "set")(hm:X.mg "set"=none):QE X (.Call (.Name "set" p) [] [] pos) (fun _=>set0D):=by
 refine aT (vU zV hg hm boot_set) ?_;rintro σ H Q ⟨m,env,st,d,st',S,E,e,k⟩;cases e;refine⟨rfl,fun p hp=>?_⟩;obtain⟨S1,s1⟩:=S.new (o:=SetO X.w p []) (c:=.st []) hp fun _=>bI;exact k _ _ _ s1 S1 (.r (by rw[← S.len];simp))
noncomputable def sortedD:List D→M D
 |[.r l]=>fun st=>match st[l]? with
  |some (.st [])=>some (.r st.length,st++[.l []])
  |_=>none
 |_=>bad
theorem aAf(hc:X.calm=true):CallR X (.builtin "sorted") (LC X.kw sortedD):=by
 refine(wD hc).imp ?_;rintro xs H Q ⟨m,st,ds,d,st',S,r,e,k⟩
 match ds,r,e with
 |[.r l],r,e=>
  obtain⟨v,rfl,rv⟩:=aY r;unfold sortedD at e;dsimp only at e
  split at e
  ·rename_i q;cases e;cases rv with
   |@r _ a hl=>
    have o1:H a=some (SetO X.w a []):=S.cel l a _ hl q;refine⟨a,rfl,o1,fun p hp=>?_⟩;obtain⟨S1,s1⟩:=S.new (o:=.lst []) (c:=.l []) hp fun _=>⟨[],bI, .nil⟩;exact k _ _ _ s1 S1 (.r (by rw[← S.len];simp))
  ·cases e
noncomputable def isubD:D→D→M D
 | .i a, .i b=>ret (.i (a - b))
 |_,_=>bad
theorem aHz:OpR X (inplaceOp .Sub) (LR X.kw isubD):=by
 refine aDP.imp ?_;rintro x y H Q ⟨m,st,dx,dy,d,st',S,rx,ry,e,k⟩
 match dx,dy,rx,ry,e with
 | .i a, .i b, .i _, .i _,e=>cases aB e;exact⟨_,_,rfl,rfl,k.now S (.i _)⟩
def str1D:List D→M D
 |[.i n]=>need (n.natAbs.log2<1920) (ret (.s (toString n)))
 |_=>bad
theorem aAg:CallR X (.type "str") (fun xs H Q=>∃ n:Int,xs=[.int n]∧n.natAbs.log2<1920∧Q (.str (toString n)) H):=by
 intro pins s σ H xs us Q I r h;obtain⟨n,rfl,hn,q⟩:=h;obtain⟨u,rfl,rx⟩:=vals1 r;obtain⟨t,rfl⟩:=rx;exact PySem.P.str_of_int hn ⟨.str _,H,I.tok _,⟨_,rfl⟩,q⟩
end
section
variable{X:Cx}{pos:Pos}{a b:Expr}{ta tb:En→M D}
def tRevL(K:Fg9)(te ts:TE):TE:=fun σ H Q=>te σ H fun x H1=>ts σ H1 fun y H2=>y=.int (-1)∧∃ a xs,x=.ref a∧SqL K H2 a xs∧∀ p,H2 p=none→Q (.ref p) (upd H2 p (.lst xs.reverse))
theorem aEN{e st:Expr}{te ts:TE}{pos p2:Pos}(he:PE X e te)(hs:PE X st ts):PE X (.Subscript e (.Slice none none (some st) p2) pos) (tRevL X.K te ts):=by
 intro pins s σ H Q I h;refine Subscript_ (thn (he pins s σ H _ I h) fun v s1 ⟨x,H1,I1,r1,q1⟩=>?_);refine wpAny_Slice ?_;rw[Y37];refine W10 (W10 ?_);rw[evalPart_some];refine thn (hs pins s1 σ H1 _ I1 q1) fun vs s2 ⟨y,H2,I2,r2,ey,q2⟩=>?_;subst ey;obtain⟨tk,rfl⟩:=r2;obtain⟨a,xs,rfl,hx,q⟩:=q2;cases r1;have I4:Inv X pins σ H2 { s2 with heap:=s2.heap.push { cls:=.type "slice",data:=.fields #[.none, .none, .int (-1) tk] } }:=I2.kept (t':=s2.toks) fun b ob q=>V10 _ q;obtain⟨its,r,ht,hz⟩:=I4.list hx;have hlen:its.toArray.size=xs.length:=by rw[Y11];exact r.length.symm
 show wpAny (model X.prog X.w) X.A (subscriptTail e (.Slice none none (some st) p2) (.ref a) (.ref s2.heap.objs.size)) (EP X pins σ Q) X.xe { s2 with heap:=s2.heap.push { cls:=.type "slice",data:=.fields #[.none, .none, .int (-1) tk] } };refine tail_any (ops:=[.ref a, .ref s2.heap.objs.size]) ht.isList.typeIs slot_list_getitem.lookup ?_ (by with_unfolding_all rfl);refine wpAny_getItem_list_slice ht.isList (Heap.IsSliceOf.new ..) .none .none (.int (-1) tk) (by decide) ?_ (by rw[hlen];exact hz);rw[PySem.W.krv_pick];have hrv:Vals xs.reverse its.reverse:=oX r;have ear:its.toArray.toList.reverse.toArray=its.reverse.toArray:=by simp
 rw[ear];refine⟨.ref _,_,I4.laid (t':=s2.toks) (o:=.lst xs.reverse) (fun b ob q=>V10 _ q) (Y12 _) ?_,rfl,q _ (I4.hok.fresh (Y12 _))⟩;exact⟨by rw[V23];exact hz,_,0,hrv,V11 _ rfl⟩
def revD2(x y:D):M D:=match x,y with
 | .t xs, .i n=>need (n=-1) (ret (.t xs.reverse))
 | .r l, .i n=>need (n=-1) (bnd (getL l) fun xs=>newC xs.reverse)
 |_,_=>bad
def eRl(a b:En→M D):En→M D:=fun env=>bnd (a env) fun x=>bnd (b env) fun y=>revD2 x y
theorem aIR{p2:Pos}(ha:QE X a ta)(hb:QE X b tb):QE X (.Subscript a (.Slice none none (some b) p2) pos) (eRl ta tb):=by
 refine aT (aBE (aIL ha hb) (aEN ha hb)) ?_;rintro σ H Q ⟨m,env,st,d,st',S,E,e,k⟩;obtain⟨x,st1,e1,e2⟩:=aA e;obtain⟨y,st2,e3,e4⟩:=aA e2
 match x,y,e1,e3,e4 with
 | .t xs, .i n,e1,e3,e4=>exact .inl ⟨m,env,st,d,st',S,E,by show bnd (ta env) _ st=_;rw[aQ e1,aQ e3];exact e4,k⟩
 | .r l, .i n,e1,e3,e4=>
  right
  obtain⟨hn,e5⟩:=aL e4;subst hn;obtain⟨xs,st3,e6,e7⟩:=aA e5;obtain⟨h1,rfl⟩:=bF e6;cases e7;refine⟨m,env,st, .r l,st1,S,E,e1,fun v1 H1 m1 s1 S1 r1=>⟨m1,env,st1, .i (-1),_,S1,E.stp s1,e3,fun v2 H2 m2 s2 S2 r2=>?_⟩⟩;cases r2;obtain⟨p,vs,rfl,hm,o1,rr⟩:=S2.lst (r1.stp s2) h1;refine⟨rfl,p,vs,rfl,SqL.of o1,fun q hq=>?_⟩;obtain⟨S3,s3,r3⟩:=S2.newL hq rr.rev;exact k _ _ _ ((s1.trans s2).trans s3) S3 r3
end
end L2
end
section
namespace SS
open PySem PySem.Spec PyProof.Rows
open AutoSeq1 (wpAny_loadPart')
set_option maxHeartbeats 1000000 in
theorem meets(l b sl:Addr)(items items2:Array Value)(n n2 k:Nat)(t:Tok)(hk:k≤items.size)(hne:l≠b)(hz:items.size+items2.size≤sizeLine):
  Meets (Builtin.«list.__setitem__» ⟨[.ref l, .ref sl, .ref b],[]⟩) (fun _ R s=>s.heap.get? l=some { cls:=.type "list",dict:=none,data:=.seq items n,slots:=#[] }∧s.heap.get? b=some { cls:=.type "list",dict:=none,data:=.seq items2 n2,slots:=#[] }∧s.heap.get? sl=some { cls:=.type "slice",data:=.fields #[.int k t, .none, .none] }∧
   R (.ok (.ret .none)) { s with heap:=s.heap.update l (Obj.mapSeq fun xs=>xs.extract 0 k++items2++xs.extract items.size xs.size) }):=
 .of_wp fun prog w A R s h=>by
  obtain⟨hp,g,d,tk,os⟩:=s;obtain⟨hl,hb,hs,h⟩:=h;have f1:=AutoSeq1.idx_int;have f2:=Y32;have f3:=AutoSeq1.sub_list_list;have f4:=W32;have f5:=U32;have f6:typeLookup (.type "slice") "__index__"=pure none:=by rw[typeLookup_type,Y29];kernel_rfl
  wp_walk using wpAny_loadPart' hl,wpAny_loadPart' hb,wpAny_loadPart' hs
  have f7:Builtin.List.listSameRef (.ref l) (.ref b)=false:=by simp[Builtin.List.listSameRef,hne]
  rw[if_neg (by rw[f7];exact V14)]
  wp_walk using wpAny_loadPart' hl,wpAny_loadPart' hb,wpAny_loadPart' hs
  have e1:(max 0 (min (if(k:Int)<0 then(k:Int)+(items.size:Int) else(k:Int)) (items.size:Int)))=(k:Int):=by rw[if_neg (by omega)];omega
  have e2:(max (k:Int) (if(1:Int) > 0 then(items.size:Int) else -1))=(items.size:Int):=by rw[if_pos (by decide)];omega
  have e3:((k:Int)).toNat=k:=by omega
  have e4:((items.size:Int)).toNat=items.size:=by omega
  rw[e1,e2,e3,e4];rw[if_neg (by rw[L2.notLongL (by omega)];exact V14)];dsimp only;refine Y10 ?_;show wpAny _ _ (updateSeq l _) _ _ _;refine Z28 hl rfl ?_;refine Y10 (wpAny_letGo (W10 ⟨_,rfl,h⟩))
end SS
end
section
namespace SS
open PySem PySem.Spec PyProof.Rows
section
variable{prog:Program}{w:World}{A:Around}{E:Value→Shared→Prop}{s:Shared}
theorem setFrom{l b sl:Addr}{items items2:Array Value}{n n2 k:Nat}{t:Tok}{Q:Unit→Shared→Prop}(hl:s.heap.get? l=some { cls:=.type "list",dict:=none,data:=.seq items n,slots:=#[] })
  (hb:s.heap.get? b=some { cls:=.type "list",dict:=none,data:=.seq items2 n2,slots:=#[] })(hs:s.heap.get? sl=some { cls:=.type "slice",data:=.fields #[.int k t, .none, .none] })
  (hk:k≤items.size)(hne:l≠b)(hz:items.size+items2.size≤sizeLine)
  (h:Q () { s with heap:=s.heap.update l (Obj.mapSeq fun xs=>xs.extract 0 k++items2++xs.extract items.size xs.size) }):wpAny (model prog w) A (setItem (.ref l) (.ref sl) (.ref b)) Q E s:=by
 have hT:s.TypeIs (.ref l) "list":=⟨_,hl,rfl⟩;unfold setItem
 try with_reducible refine Z16 ?_
 first|refine Y10 (W10 ?_)|skip
 refine Y10 (V35 hT (by decide) ?_);refine Y10 (U15 (name:=Str.ofString "__setitem__") hT F.slot_list_setitem ?_);refine U31 F.slot_list_setitem hT F.entry_list_setitem (F.args_list_setitem_3 _ _ _) (meets l b sl items items2 n n2 k t hk hne hz) ⟨hl,hb,hs,?_⟩;exact W10 h
end
end SS
namespace L2
open PySem PySem.Spec PyProof.Rows
section
variable{X:Cx}{pos p2:Pos}
def gSlF(to:TE)(tl:TO):TG:=fun v σ H Q=>to σ H fun x H1=>tl σ H1 fun i H2=>∃ (l b:Addr) (xs ys:List V) (k:Nat),x=.ref l∧i=some (k:Int)∧v=.ref b∧H2 l=some (.lst xs)∧H2 b=some (.lst ys)∧l≠b∧k≤xs.length∧xs.length+ys.length≤sizeLine∧Q σ (upd H2 l (.lst (xs.take k++ys)))
end
section
variable{X:Cx}{pos p2:Pos}
theorem aHA{o:Expr}{lo:Option Expr}{to:TE}{tl:TO}(ho:PE X o to)(hl:PO X lo tl)
  (ha:∀ v,assign (.Subscript o (.Slice lo none none p2) pos) X.env v=(do
   let ov ← holding [v] (eval o X.env)
   let iv ← holding [v,ov] (eval (.Slice lo none none p2) X.env)
   standAt pos
   holding [v,ov,iv] (setItem ov iv v)
   release [iv,v,ov] []):=by intro _;rfl):PG X (.Subscript o (.Slice lo none none p2) pos) (gSlF to tl):=by
 intro pins s σ H v u Q I r h;rw[ha];refine Y10 (Z16 (thn (ho pins s σ H _ I h) fun ov s1 ⟨x,H1,I1,r1,q1⟩=>?_));refine Y10 (Z16 (wpAny_Slice (thn (hl pins s1 σ H1 _ I1 q1) fun vl s2 ⟨i,H2,I2,pl,q2⟩=>?_)));rw[Y37];refine W10 ?_;refine W10 ?_;obtain⟨l,b,xs,ys,k,rfl,rfl,rfl,hL,hB,hne,hk,hz,q⟩:=q2;cases r1;cases r;obtain⟨its,n,rv,e1,hz1⟩:=I2.lst hL;obtain⟨its2,n2,rv2,e2,hz2⟩:=I2.lst hB;obtain⟨t,rfl⟩:∃ t,vl=.int k t:=by cases pl;exact⟨_,rfl⟩
 have hl1:=rv.length;have hl2:=rv2.length;refine Y10 (Z32 (Y10 (Z16 (SS.setFrom (V10 _ e1) (V10 _ e2) (V11 _ rfl) (by rw[Y11];omega) hne (by rw[Y11,Y11];omega) ?_))));have I4:Inv X pins σ H2 { s2 with heap:=s2.heap.push { cls:=.type "slice",data:=.fields #[.int k t, .none, .none] } }:=I2.kept (t':=s2.toks) fun b ob q=>V10 _ q;refine wpAny_release ⟨σ,_,I4.lset (t':=s2.toks) (its':=its.take k++its2) hL (V10 _ e1) ?_ ((rv.take k).append rv2) ?_,q⟩
 ·simp
 ·rw[Y13,U23];omega
end
section
variable{X:Cx}{pos:Pos}{a b:Expr}{ta tb:En→M D}
def tCallD(X:Cx)(k i:Nat)(t:TA):TE:=fun σ H Q=>∃ (y:Str) (p f:Addr) (fd:FuncData) (ps:List Str) (sp:Sp) (o:Obj),σ[i]?=some (some (.ref p))∧PySem.W.nsIn X.K mainGlobals y=some (some (.ref p))∧
 FnOk X.prog X.w X.K X.mg X.base CX0 k f fd ps sp∧X.mg y=some (.ref f)∧X.K.lookup f=some o∧o.data=.func fd∧Binds X.K fd ps []∧t σ H fun vs H1=>sp vs H1 Q E0
theorem aCo{k i:Nat}{x:Str}{p:Pos}{e:Expr}{es:List Expr}{t:TA}(hr:Room k X.A)(ha:PA X (e::es) t)
  (hN:X.N[i]?=some x)(hv:Vis X.env.scope x)(hd:(x==("__debug__":Str))=false)(hcd:(x==("__classdict__":Str))=false)
  (he:starEach (e::es) X.env=(false,eval e X.env)::starEach es X.env):PE X (.Call (.Name x p) (e::es) [] pos) (tCallD X k i t):=by
 intro pins s σ H Q I h;obtain⟨y,q,f,fd,ps,sp,o,hi,hn,F,hm,lk,hdt,hb,h⟩:=h;have e1:=PySem.W.mg_of I.mod.kin I.mod.glob hn;have e2:q=f:=by rw[hm] at e1;cases e1;rfl
 subst e2;refine W19 (thn (aAZ hN hv hd hcd pins s σ H (fun v H'=>v=.ref q∧H'=H) I ⟨_,hi,rfl,rfl⟩) fun v s1 ⟨y,H1,I1,r1,q1,q2⟩=>?_);subst q1 q2;cases r1;refine callWith_def (o:=o) hdt (thn (ha pos pins s1 σ _ _ I1 h) fun us s2 ⟨vs,H2,I2,r2,q⟩=>⟨I2.mod.kin.keeps I2.bk _ _ lk,?_⟩) he;exact rR (dvs:=[]) F hr hb .nil pass0 I2 r2 (by rw[V12];exact q)
noncomputable def dispD(tab:List (Str×(List D→M D)))(f:D)(xs:List D):M D:=match f with
 | .fn x=>(match tab.lookup x with
  |some g=>g xs
  |none=>bad)
 |_=>bad
noncomputable def eCv(tab:List (Str×(List D→M D)))(i:Nat)(t:En→M (List D)):En→M D:=fun env=>bnd (vD i env) fun f=>bnd (t env) fun xs=>dispD tab f xs
structure TabOk (tab:List (Str×(List D→M D))) (k:Nat) (X:Cx):Prop where
 at_:∀ x g,tab.lookup x=some g→∃ f fd ps o,FnOk X.prog X.w X.K X.mg X.base CX0 k f fd ps (LF X.kw g)∧X.mg x=some (.ref f)∧X.K.lookup f=some o∧o.data=.func fd∧Binds X.K fd ps []
theorem aCp{tab:List (Str×(List D→M D))}{k i:Nat}{x:Str}{p:Pos}{e:Expr}{es:List Expr}{t:En→M (List D)}(hT:TabOk tab k X)(hr:Room k X.A)(ha:QA X (e::es) t)
  (hN:X.N[i]?=some x)(hv:Vis X.env.scope x)(hd:(x==("__debug__":Str))=false)(hcd:(x==("__classdict__":Str))=false)
  (he:starEach (e::es) X.env=(false,eval e X.env)::starEach es X.env):QE X (.Call (.Name x p) (e::es) [] pos) (eCv tab i t):=by
 refine aT (aCo (k:=k) hr ha hN hv hd hcd he) ?_;rintro σ H Q ⟨m,env,st,d,st',S,E,e,kk⟩;obtain⟨fv,st1,e1,e2⟩:=aA e;obtain⟨xs,st2,e3,e4⟩:=aA e2;obtain⟨e5,rfl⟩:=sD e1;obtain⟨v,q1,q2⟩:=E.2 i _ e5;cases q2 with
 |@fn y p' hn=>
  have e6:(match tab.lookup y with |some g=>g xs|none=>bad) st2=some (d,st'):=e4;cases hg:tab.lookup y with
  |none=>rw[hg] at e6;cases e6
  |some g=>
   rw[hg] at e6;obtain⟨f,fd,ps,o,h1,h2,h3,h4,h5⟩:=hT.at_ _ _ hg;refine⟨y,p',f,fd,ps,LF X.kw g,o,q1,hn,h1,h2,h3,h4,h5,m,env,_,xs,st2,S,E,e3,fun vs H1 m1 s1 S1 r1=>?_⟩;exact⟨m1,st2,xs,d,st',S1,r1,e6,fun v H' m' s S' r=>kk v H' m' (s1.trans s) S' r⟩
 |_=>cases e4
noncomputable def sPar(i j:Nat)(t:En→M (List D)):Sm':=fun env=>bnd (t env) fun xs=>match xs with
 |[u,v]=>ret (.nx,(env.set i (some u)).set j (some v))
 |_=>bad
theorem aHB{i j:Nat}{x y:Str}{t:En→M (List D)}{px py pt:Pos}{kt k2 pt2}(hc:X.calm=true)(hN:X.N.Nodup)(hi:X.N[i]?=some x)(hj:X.N[j]?=some y)(hij:i≠j)
  (hx:X.env.scope.names.lookup x=some .local)(hy:X.env.scope.names.lookup y=some .local)(ha:QA X [a,b] t)
  (hw:swappedStores [.Tuple [.Name x px, .Name y py] kt pt] (.Tuple [a,b] k2 pt2) X.env=pure (some [x,y])):
  QS X (.Assign [.Tuple [.Name x px, .Name y py] kt pt] (.Tuple [a,b] k2 pt2) pos) (sPar i j t):=by
 refine dQ (aFT hc hN hi hj hij hx hy ha hw rfl) ?_;rintro D σ H ⟨m,env,st,fl,env',st',S,E,e,k⟩;obtain⟨xs,st1,e1,e2⟩:=aA e
 split at e2
 ·rename_i u v;cases aB e2;refine⟨m,env,st,_,_,S,E,e1,fun vs H1 m1 s1 S1 r1=>?_⟩;obtain⟨v1,v2,rfl,q1,q2⟩:=sM r1;exact⟨v1,v2,rfl,k _ H1 m1 s1 S1 (((E.stp s1).set q1).set q2)⟩
 ·cases e2
noncomputable def setSl(x:D)(lo:Option Int)(v:D):M Unit:=fun st=>match x,lo,v with
 | .r l,some k, .r b=>(match st[l]?,st[b]? with
  |some (.l xs),some (.l ys)=>if l≠b∧0≤k∧k≤xs.length∧xs.length+ys.length≤sizeLine then some ((),st.set l (.l (xs.take k.toNat++ys))) else none
  |_,_=>none)
 |_,_,_=>none
noncomputable def gSl(a:En→M D)(lo:En→M (Option Int)):D→En→M En:=fun d env=>bnd (a env) fun x=>bnd (lo env) fun l=>bnd (setSl x l d) fun _=>ret env
theorem aIS{lo:Option Expr}{tl:En→M (Option Int)}{p2:Pos}(ho:QE X a ta)(hl:QO X lo tl):QG X (.Subscript a (.Slice lo none none p2) pos) (gSl ta tl):=by
 refine sC (aHA ho hl) ?_;rintro v σ H Q ⟨m,env,st,d,env',st',S,E,r,e,k⟩;obtain⟨x,st1,e1,e2⟩:=aA e;obtain⟨y,st2,e3,e4⟩:=aA e2;obtain⟨u,st3,e5,e6⟩:=aA e4;cases aB e6;unfold setSl at e5
 split at e5
 ·rename_i l kk b
  split at e5
  ·rename_i xs ys hxs hys
   split at e5
   ·rename_i hc;cases e5;obtain⟨hne,h0,h1,h2⟩:=hc;refine⟨m,env,st,_,st1,S,E,e1,fun v1 H1 m1 s1 S1 r1=>⟨m1,env,st1,_,st2,S1,E.stp s1,e3,fun H2 m2 s2 S2=>?_⟩⟩;obtain⟨p,vs,rfl,hm,o1,rr⟩:=S2.lst (r1.stp s2) hxs;obtain⟨q,ws,rfl,hm2,o2,rr2⟩:=S2.lst ((r.stp s1).stp s2) hys;have hpq:p≠q:=fun z=>by
     subst z;exact hne ((List.getElem?_inj (Z10.mp hm).1 S2.nd).mp (hm.trans hm2.symm))
    obtain⟨S3,s3⟩:=S2.putL hm o1 rfl ((rr.take kk.toNat).append rr2);refine⟨p,q,vs,ws,kk.toNat,rfl,by rw[Int.toNat_of_nonneg h0],rfl,o1,o2,hpq,by rw[rr.1];omega,by rw[rr.1,rr2.1];exact h2,k _ _ _ ((s1.trans s2).trans s3) S3 (((E.stp s1).stp s2).stp s3)⟩
   ·cases e5
  ·cases e5
 ·cases e5
end
end L2
end
section
namespace PRV
open PySem PySem.Spec PyProof.Rows
open AutoSeq1 (wpAny_loadPart')
section
variable{prog:Program}{w:World}{A:Around}{E:Value→Shared→Prop}{s:Shared}
theorem nextItem{it l:Addr}{i:Nat}{items:Array Value}{x:Value}{Q:Value→Shared→Prop}(hit:s.heap.IsRevIter it l (i:Int))(hl:s.heap.IsList l items)(hx:items[i]?=some x)
  (hQ:∀ h',h'.IsRevIter it l ((i:Int) - 1)→Heap.SameBut it s.heap h'→Q x { s with heap:=h' }):wpAny (model prog w) A (Builtin.SmallTypes.nextOf (.ref it)) Q E s:=by
 obtain⟨o,ho,hc,hd⟩:=id hit;obtain⟨ol,hol,_,nl,hdl⟩:=hl;unfold Builtin.SmallTypes.nextOf;refine Y10 (U15 (name:=Str.ofString "__next__") hit.typeIs F.slot_lri_next
  (W16 F.slot_lri_next hit.typeIs F.entry_lri_next ?_ (F.args_lri_next_1 _)))
 unfold Builtin.«list_reverseiterator.__next__»;refine Y10 (V37 (a:=(Value.ref it,[])) rfl ?_)
 try dsimp only
 refine Y10 (V16 ho hd (x:=rawInt (i:Int)) rfl ?_);show wpAny _ _ (if(i:Int)<0 then _ else _) _ _ s;rw[if_neg (by omega)];show wpAny _ _ (field (.ref it) 0 >>=_) _ _ s;refine Y10 (V16 ho hd (x:=.ref l) rfl ?_);show wpAny _ _ (seqItems? (.ref l) >>=_) _ _ s;refine Y10 (W21 hol hdl ?_);simp only[V29,hx];refine Y10 (wpAny_setField ho hd (by simp) ?_)
 first
 |refine W10 ⟨x,rfl,W10 (hQ _ ?_ (Z26 ..))⟩
 |refine Y10 (W10 (W10 ⟨x,rfl,W10 (hQ _ ?_ (Z26 ..))⟩))
 exact⟨_,Heap.get?_update_self _ ho (Obj.isFreed_of_fields (Y33 hd _)),(Obj.cls_mapFields ..).trans hc,by
  rw[Y33 hd];simp⟩
theorem nextEnd{it l:Addr}{Q:Value→Shared→Prop}(hh:A.handled=none)(hit:s.heap.IsRevIter it l (-1))
  (hE:∀ h' e,Heap.ExtBut it s.heap h'→(∃ o,h'.get? e=some o∧o.cls=.type "StopIteration")→E (.ref e) { s with heap:=h' }):wpAny (model prog w) A (Builtin.SmallTypes.nextOf (.ref it)) Q E s:=by
 obtain⟨o,ho,hc,hd⟩:=id hit;unfold Builtin.SmallTypes.nextOf;refine Y10 (U15 (name:=Str.ofString "__next__") hit.typeIs F.slot_lri_next
  (W16 F.slot_lri_next hit.typeIs F.entry_lri_next ?_ (F.args_lri_next_1 _)))
 unfold Builtin.«list_reverseiterator.__next__»;refine Y10 (V37 (a:=(Value.ref it,[])) rfl ?_)
 try dsimp only
 refine Y10 (V16 ho hd (x:=rawInt (-1)) rfl ?_);show wpAny _ _ (if(-1:Int)<0 then _ else _) _ _ s;rw[if_pos (by decide)];refine Y10 (Z35 ?_)
 first
 |show wpAny _ _ (newExc (.type "StopIteration") [] >>=_) _ _ _
 |(refine Y10 ?_;show wpAny _ _ (newExc (.type "StopIteration") [] >>=_) _ _ _)
 refine Y10 ?_;simp only[newExc,newTuple];refine Y10 (W14 ?_ (by size_fits));refine Y10 (m:=firstArgMember _ _) (V37 (a:=Value.none) (by first|rfl|(simp only[firstArgMember];rfl)) ?_);refine W14 ?_ (by size_fits);simp only[raiseNew];refine Y10 (wpAny_handled ?_)
 first|rw[show A.in1.handled=none from hh]|rw[hh]
 refine Y10 (W10 (wpAny_throw ?_));exact hE _ _ (((Heap.ExtBut.refl _ _).push _).push _) ⟨_,V11 _ rfl,rfl⟩
theorem draws(hh:A.handled=none)(it l:Addr)(hne:l≠it)(items:Array Value):
  Draws prog w A it [it,l] items.size (fun i v=>items[items.size - 1 - i]?=some v) (fun i h=>h.IsRevIter it l ((items.size:Int) - 1 - i)∧h.IsList l items) where
 live:=fun _ _ st=>let ⟨o,ho,_⟩:=st.1;⟨o,ho⟩
 frame:=fun _ _ _ st hk=>⟨st.1.at fun o e=>hk it (by simp) o e,st.2.at fun o e=>hk l (by simp) o e⟩
 item:=fun i s Q E hi st hQ=>by
  have hlt:items.size - 1 - i<items.size:=by omega
  have st1:s.heap.IsRevIter it l ((items.size - 1 - i:Nat):Int):=by
   have e:((items.size - 1 - i:Nat):Int)=(items.size:Int) - 1 - i:=by omega
   rw[e];exact st.1
  refine nextItem st1 st.2 (x:=items[items.size - 1 - i]) (by simp[hlt]) fun h' hit' hs'=>?_;refine hQ _ h' s.toks (by simp[hlt]) ⟨?_,st.2.extBut hs'.extBut hne⟩ hs';have e:(items.size:Int) - 1 - ((i+1:Nat):Int)=((items.size - 1 - i:Nat):Int) - 1:=by omega
  rw[e];exact hit'
 done:=fun s Q E st hE=>by
  have e:(items.size:Int) - 1 - (items.size:Nat)=-1:=by omega
  refine nextEnd (l:=l) hh ?_ hE;rw[← e];exact st.1
end
theorem meets_new(it l:Addr)(i:Int)(o:Obj):
  Meets (Builtin.«enumerate.__new__» ⟨[.type "enumerate", .ref it],[]⟩) (fun _ R s=>s.heap.IsRevIter it l i∧
   R (.ok (.ret (.ref s.heap.objs.size))) { s with heap:=s.heap.push { cls:=.type "enumerate",data:=.fields #[.none, .bool false, .ref it,rawInt 0, .none, .none] } }):=
 .of_wp fun prog w A R s h=>by
  obtain⟨hp,g,d,tk,os⟩:=s;obtain⟨hL,h⟩:=h;have hsub:=sub_enumerate
  wp_walk
  refine wpAny_stack_any fun st=>W10 ?_
  split
  ·rename_i c _ _ _ _ _;cases (c==Value.type "enumerate")
   ·wp_walk using Y30 hL
    exact⟨_,rfl,h⟩
   ·wp_walk using Y30 hL
    exact⟨_,rfl,h⟩
  ·wp_walk using Y30 hL
   exact⟨_,rfl,h⟩
end PRV
end
section
namespace L2
open PySem PySem.Spec PyProof.Rows
noncomputable def yB(K:Fg9)(a:Addr)(n:Nat):It:=⟨fun i H=>∃ xs,SqL K H a xs∧xs.length=n∧i<n,fun i H v H'=>∃ T x,v=.ref T∧H T=none∧(∀ xs,SqL K H a xs→xs[n - 1 - i]?=some x)∧H'=upd H T (.tup [.int i,x]),fun i H=>(∃ xs,SqL K H a xs∧xs.length=n)∧i=n⟩
abbrev enumRSt(e it a:Addr)(n i:Nat)(h:Heap):Prop:=(∃ old,IsEnum h e it i old)∧h.IsRevIter it a ((n:Int) - 1 - i)
theorem wI{P:Program}{w:World}{K:Fg9}{es:List Expr}{kk:Nat}{pos:Pos}(e it a:Addr)(n:Nat)(hei:e≠it)(hai:a≠it)(hea:e≠a):
  Turn P w K (.Tuple es kk pos) (yB K a n) [e,it] e (enumRSt e it a n) where
 mem:=by simp
 obj:=fun i h st b hb=>by
  obtain⟨⟨old,he⟩,o,ho,c,d⟩:=st;rcases W12.mp hb with rfl|hb
  ·exact⟨_,he,fun v z=>by cases z⟩
  ·rw[W15.mp hb];exact⟨o,ho,fun v z=>by rw[d] at z;cases z⟩
 keep:=fun i h h' st k=>by
  obtain⟨⟨old,he⟩,o,ho,r⟩:=st;exact⟨⟨old,k e (by simp) _ he⟩,o,k it (by simp) o ho,r⟩
 item:=by
  intro X hP hw hK hc i pins s σ H E I hf st hg;subst hP hw hK;obtain⟨xs,hq,hl,hi⟩:=hg;obtain⟨its,rv,p,hz⟩:=I.list hq;have hlen:=rv.length;have hlt:n - 1 - i<xs.length:=by omega
  obtain⟨u,hu,ru⟩:=rv.get (i:=n - 1 - i) (x:=xs[n - 1 - i]) (by simp[hlt]);have hn:its.toArray.size=n:=by rw[Y11];omega
  have W:=V25 (PRV.draws (prog:=X.prog) (w:=X.w) (A:=X.A.in1) (I.ok.hd hc) it a hai its.toArray) e hei (by simp[hei,hea]) (by simp);rw[hn] at W;refine W.item i s _ _ hi ⟨st.1,st.2,p.isList⟩ fun T vals h' tk hv hT tup mid kk1=>?_;obtain⟨tt,v,hv1,rfl⟩:=hv;have ev:v=u:=by
   have h1:its[n - 1 - i]?=some v:=by simpa using hv1
   rw[hu] at h1;exact(U14 h1).symm
  subst ev;refine⟨.ref T,rfl,W.go es kk pos i T _ _ _ mid fun h2 st2 kk2=>?_⟩;have nT:T∉[e,it]:=W.apart i T h' mid;obtain⟨oT,eT,cT,nT',dT⟩:=id tup;have eT2:h2.get? T=some oT:=kk2 T oT nT eT;refine⟨.ref T,upd H T (.tup [.int i,xs[n - 1 - i]]),Inv.turnedN (s':={ s with heap:=h2,toks:=tk }) I rfl rfl (fun b u0 hb e0=>kk2 b u0 hb (kk1 b u0 hb e0)) hf hT ?_,rfl,
   ⟨T,xs[n - 1 - i],rfl,I.hok.fresh hT,fun ys hy=>by rw[I.list_inj hy hq];simp[hlt],rfl⟩,⟨st2.1,st2.2.1⟩,fun b hb=>?_⟩
  ·exact⟨by show 2≤_;rw[Y14];decide,[.int i tt,v], .cons ⟨_,rfl⟩ (.cons ru .nil),oT,eT2,cT,nT',dT⟩
  ·have nb:b≠T:=fun z=>by subst z;exact nT hb
   rw[aG nb];exact(hf b hb).1
 done:=by
  intro X hP hw hK hc i pins s σ H E I hf st hg;subst hP hw hK;obtain⟨⟨xs,hq,hx⟩,hi⟩:=hg;obtain⟨its,rv,p,hz⟩:=I.list hq;have hlen:=rv.length;have W:=V25 (PRV.draws (prog:=X.prog) (w:=X.w) (A:=X.A.in1) (I.ok.hd hc) it a hai its.toArray) e hei (by simp[hei,hea]) (by simp);have hn:its.toArray.size=n:=by rw[Y11];omega
  rw[hn] at W;subst hi;refine W.done s _ _ ⟨st.1,st.2,p.isList⟩ fun h' tk kk1=>⟨rfl,?_⟩;exact Inv.turnedF (s':={ s with heap:=h',toks:=tk }) I rfl rfl kk1 hf
 self:=fun A i s Q E st h=>by
  obtain⟨⟨old,he⟩,_⟩:=st;exact W25 he h
section
variable{X:Cx}
theorem wJ{prog:Program}{w:World}{A:Around}{E:Value→Shared→Prop}{s:Shared}{it l:Addr}{i:Int}{Q:Value→Shared→Prop}(hL:s.heap.IsRevIter it l i)
  (h:∀ h',IsEnum h' s.heap.objs.size it 0 .none→h'.IsRevIter it l i→(∀ b o,s.heap.get? b=some o→h'.get? b=some o)→Q (.ref s.heap.objs.size) { s with heap:=h' }):
  wpAny (model prog w) A (call (.type "enumerate") [.ref it]) Q E s:=by
 refine callType_new F.called_enumerate (by decide) (F.typeCall_enumerate_1 _) (F.newCall_enumerate_1 _) (fun obj=>F.args_object_init_2 obj _) F.entry_enumerate_new (PRV.meets_new it l i default) ⟨hL,?_⟩;have he:IsEnum (s.heap.push { cls:=.type "enumerate",data:=.fields #[.none, .bool false, .ref it,rawInt 0, .none, .none] }) s.heap.objs.size it 0 .none:=V11 _ rfl;exact⟨⟨_,he,rfl⟩,h _ he (hL.at fun o e=>V10 _ e) fun b o x=>V10 _ x⟩
def iEnumR(K:Fg9)(ta:TA):TI:=fun σ H R=>ta σ H fun vs H1=>∃ a xs,vs=[.ref a]∧SqL K H1 a xs∧R (yB K a xs.length) H1
theorem aCq{a:Expr}{es:List Expr}{kk:Nat}{tpos:Pos}{ta:TA}{p p2 pos pos2:Pos}(hg:Gl X "enumerate")(hm:X.mg "enumerate"=none)(hg2:Gl X "reversed")(hm2:X.mg "reversed"=none)(ha:PA X [a] ta)(hs:starEach [a] X.env=[(false,eval a X.env)]):
  PI X (.Tuple es kk tpos) (.Call (.Name "enumerate" p) [.Call (.Name "reversed" p2) [a] [] pos2] [] pos) (iEnumR X.K ta):=by
 intro pins s σ H R I h;have hs2:starEach [.Call (.Name "reversed" p2) [a] [] pos2] X.env=(false,eval (.Call (.Name "reversed" p2) [a] [] pos2) X.env)::starEach [] X.env:=rfl;refine Call_ (gF I hg hm mP ?_);refine Y16 ?_ hs2 rfl;rw[hs2];change wpAny _ _ (spliced ((false,eval (.Call (.Name "reversed" p2) [a] [] pos2) X.env)::backTo pos (starEach [] X.env))) _ _ s;refine Calls.spliced_cons ?_;refine W19 (gF I hg2 hm2 uA (Y16 (thn (ha pos2 pins s σ H _ I h) fun us s1 ⟨vs,H1,I1,r1,q1⟩=>?_) hs rfl));obtain⟨a,xs,e,hq,q⟩:=q1;subst e;cases r1 with
 |cons r rr=>
  cases rr;cases r;obtain⟨its,rv,pt,hz⟩:=I1.list hq;have hlen:=rv.length;have hlt:a<s1.heap.objs.size:=by obtain⟨o,eo,_⟩:=pt.isList;exact W11 eo
  refine call_reversed_list pt.isList ?_;refine Calls.spliced_nil ?_;have hn:((its.toArray.size:Nat):Int) - 1=(xs.length:Int) - 1 - ((0:Nat):Int):=by rw[Y11];omega
  rw[hn];have e0:(s1.heap.push (revObj a ((xs.length:Int) - 1 - ((0:Nat):Int)))).IsRevIter s1.heap.objs.size a ((xs.length:Int) - 1 - ((0:Nat):Int)):=⟨_,V11 _ rfl,rfl,rfl⟩;have sz:(s1.heap.push (revObj a ((xs.length:Int) - 1 - ((0:Nat):Int)))).objs.size=s1.heap.objs.size+1:=Y17 ..;refine wJ (s:={ s1 with heap:=s1.heap.push (revObj a ((xs.length:Int) - 1 - ((0:Nat):Int))) }) e0 fun h' he hit hk=>?_;refine W25 he ?_;have I2:Inv X pins σ H1 { s1 with heap:=h' }:=I1.kept (t':=s1.toks) fun b o e=>hk b o (V10 _ e);have fresh:∀ b,s1.heap.objs.size≤b→FpOk X pins H1 b:=fun b hb=>I1.fpOk hb (I1.hok.fresh hb);have ge:s1.heap.objs.size≤(s1.heap.push (revObj a ((xs.length:Int) - 1 - ((0:Nat):Int)))).objs.size:=by rw[sz];exact Z37 _
  refine⟨_,[(s1.heap.push (revObj a ((xs.length:Int) - 1 - ((0:Nat):Int)))).objs.size,s1.heap.objs.size],_,yB X.K a xs.length,H1,rfl,I2,wI _ _ a xs.length (by rw[sz];exact Nat.succ_ne_self _) (V13 hlt) (by rw[sz];exact W20 (Z21 hlt)),⟨⟨_,he⟩,hit⟩,fun b hb=>?_,q⟩;rcases W12.mp hb with rfl|hb
  ·exact fresh _ ge
  ·rw[W15.mp hb];exact fresh _ (Y12 _)
end
section
variable{X:Cx}{pos:Pos}{tg a b:Expr}{ta tb:En→M D}
noncomputable def enumRD:List D→M Its'
 |[.r l]=>bnd (getL l) fun xs=>ret (enumL xs.reverse,fun st=>st[l]?=some (.l xs))
 |[.f xs]=>ret (enumL xs.reverse,fun _=>True)
 |_=>bad
theorem yC{K:KW}{m0:List Addr}{H0:Hp}{a:Addr}{xs:List D}{chk:Sto→Prop}(h:∀ m H st,Stp m0 H0 m H→SR K m H st→chk st→∃ vs,SqL K H a vs∧RVs K m H vs xs):ItOk K m0 H0 (yB K a xs.length) (enumL xs.reverse,chk):=by
 intro i m H st p S c;obtain⟨vs,hs,r⟩:=h m H st p S c;have hl:(enumL xs.reverse).length=xs.length:=by simp[enumL]
 refine⟨fun d hd=>?_,fun hi=>⟨⟨vs,hs,r.1⟩,hi.trans hl⟩⟩;obtain⟨x,hx,rfl⟩:=mD hd;have hi:i<xs.length:=by have:=(Z10.mp hx).1;simpa using this
 rw[Y22 hi] at hx;obtain⟨v,hv,rv⟩:=r.at hx;refine⟨⟨vs,hs,r.1,hi⟩,?_⟩;rintro y H' ⟨T,z,rfl,hT,hz,rfl⟩;have:=hz vs hs;rw[hv] at this;cases this;obtain⟨S2,s2,r2⟩:=S.newT hT (.cons (.i _) (.cons rv .nil));exact⟨S2,s2,r2⟩
theorem aCr{es:List Expr}{kk:Nat}{tpos p p2 pos2:Pos}{t:En→M (List D)}(hg:Gl X "enumerate")(hm:X.mg "enumerate"=none)(hg2:Gl X "reversed")(hm2:X.mg "reversed"=none)(ha:QA X [a] t)(hs:starEach [a] X.env=[(false,eval a X.env)]):
  QI X (.Tuple es kk tpos) (.Call (.Name "enumerate" p) [.Call (.Name "reversed" p2) [a] [] pos2] [] pos) (fun env=>bnd (t env) enumRD):=by
 refine mR (aCq hg hm hg2 hm2 ha hs) ?_;rintro σ H R ⟨m,env,st,its,st',S,E,e,k⟩;obtain⟨xs,st1,e1,e2⟩:=aA e
 match xs,e1,e2 with
 |[.f xs],e1,e2=>
  cases aB e2;refine⟨m,env,st,_,_,S,E,e1,fun vs H' m' s S' r=>?_⟩;obtain⟨v,rfl,rv⟩:=aY r;cases rv with
  |@f _ ws _ e l q=>exact⟨_,ws,rfl,e.sq,k _ H' m' s S' (by rw[l];exact yC fun m H st p S _=>⟨_,(e.kp p.kt).sq,RVs.stp ⟨l,q⟩ p⟩)⟩
 |[.r l],e1,e2=>
  obtain⟨xs,st3,e3,e4⟩:=aA e2;obtain⟨h1,rfl⟩:=bF e3;cases aB e4;refine⟨m,env,st,_,_,S,E,e1,fun vs H' m' s S' r=>?_⟩;obtain⟨v,rfl,rv⟩:=aY r;cases rv with
  |r e=>
   obtain⟨ws,o0,r0⟩:=S'.cel l _ _ e h1;refine⟨_,ws,rfl,SqL.of o0,k _ H' m' s S' ?_⟩;rw[r0.1];refine yC fun m H st p S c=>?_;obtain⟨vs,o,rr⟩:=S.cel l _ _ (p.pre _ _ e) c;exact⟨vs,SqL.of o,rr⟩
end
noncomputable def Itki(kws:List (Key×V)):It:=⟨fun i _=>i<kws.length,fun i H v H'=>∃ T k w,v=.ref T∧H T=none∧kws[i]?=some (k,w)∧H'=upd H T (.tup [kV k,w]),fun i _=>i=kws.length⟩
theorem KV.at_{kws:List (Key×V)}{vs:List (Key×Value)}(r:KV kws vs):∀ (i:Nat) (h1:i<kws.length) (h2:i<vs.length),kws[i].1=vs[i].1∧RelV kws[i].2 vs[i].2:=by
 unfold KV at r
 induction r with
 |nil=>intro i h1;cases h1
 |cons h _ ih=>
  intro i h1 h2;cases i with
  |zero=>exact h
  |succ i=>exact ih i (by simpa using h1) (by simpa using h2)
theorem aAh{P:Program}{w:World}{k:Key}{u:Value}(h:(mixKind P w).is k u=true):RelV (kV k) u:=by
 rcases bK (k:=k) (v:=u) h with⟨i,t,rfl,rfl⟩|⟨x,t,rfl,rfl⟩
 ·exact⟨_,rfl⟩
 ·exact⟨_,rfl⟩
theorem mT:entryFor table "dict_itemiterator.__iter__"=some Builtin.«dict_keyiterator.__iter__»:=
 entryFor_alias (id':="dict_keyiterator.__iter__") (by kernel_rfl) (by first|rfl|decide +kernel|(unfold String.splitOn;simp +decide [String.splitOnAux])) (by decide +kernel) (by kernel_rfl)
theorem uI{P:Program}{w:World}{K:Fg9}{es:List Expr}{kk:Nat}{pos:Pos}(it a:Addr){kws:List (Key×V)}{vs:List (Key×Value)}{ep:Nat}(hai:a≠it)(rel:KV kws vs)(hd:∀ h:Heap,K.In h→h.DictAt (mixKind P w) a vs ep):
  Turn P w K (.Tuple es kk pos) (Itki kws) [it] it (fun i h=>∃ ok ov,IsItemIter h it a i vs.length ep ok ov) where
 mem:=by simp
 obj:=fun i h st b hb=>by
  obtain⟨ok,ov,st⟩:=st;rw[W15.mp hb];exact⟨_,st,fun v z=>by cases z⟩
 keep:=fun i h h' st k=>by
  obtain⟨ok,ov,st⟩:=st;exact⟨ok,ov,k it (by simp) _ st⟩
 item:=by
  intro X hP hw hK hc i pins s σ H E I hf st hg;subst hP hw hK;obtain⟨ok,ov,st⟩:=st;have hlen:=rel.length;have hi:i<vs.length:=by rw[← hlen];exact hg
  have kin:X.K.In s.heap:=I.mod.kin.keeps I.bk;refine wpAny_pyNext_items_item (k:=vs[i].1) (v:=vs[i].2) st (hd _ kin) (by simp[hi]) fun key h' hkey out tup sz kp=>?_;refine⟨.ref s.heap.objs.size,rfl,wpAny_letOwnedTupleGo_items out fun h2 it2 sb2=>?_⟩;obtain⟨hk1,hr⟩:=KV.at_ rel i hg hi;have hT:s.heap.objs.size≠it:=W20 (W11 st);have eT2:h2.get? s.heap.objs.size=some { cls:=.type "tuple",data:=.seq #[key,vs[i].2] }:=sb2.extBut _ _ hT tup;refine⟨.ref s.heap.objs.size,upd H s.heap.objs.size (.tup [kV kws[i].1,kws[i].2]),Inv.turnedN (s':={ s with heap:=h2 }) I rfl rfl (fun b u0 hb e0=>sb2.extBut _ _ (fun z=>hb (by simp[z])) (kp b u0 (fun z=>hb (by simp[z])) e0)) hf (Y12 _) ?_,rfl,
   ⟨_,kws[i].1,kws[i].2,rfl,I.hok.fresh (Y12 _),U17 (show i<kws.length from hg),rfl⟩,⟨_,_,it2⟩,fun b hb=>?_⟩
  ·exact⟨by show 2≤_;rw[Y14];decide,[key,vs[i].2], .cons (aAh (by rw[hk1];exact hkey)) (.cons hr .nil),_,eT2,rfl,0,rfl⟩
  ·have nb:b≠s.heap.objs.size:=fun z=>by rw[W15.mp hb] at z;exact hT z.symm
   rw[aG nb];exact(hf b hb).1
 done:=by
  intro X hP hw hK hc i pins s σ H E I hf st hg;subst hP hw hK;obtain⟨ok,ov,st⟩:=st;have hlen:=rel.length;have hi:i=vs.length:=by rw[← hlen];exact hg
  have kin:X.K.In s.heap:=I.mod.kin.keeps I.bk;refine wpAny_pyNext_items_end (I.ok.hd hc) st (hd _ kin) (by rw[hi];simp) fun h' eb=>⟨rfl,?_⟩;exact Inv.turnedF (s':={ s with heap:=h' }) I rfl rfl (fun b u hb e=>eb b u (fun z=>hb (by simp[z])) e) hf
 self:=fun A i s Q E st h=>by
  obtain⟨ok,ov,st⟩:=st;have hT:s.TypeIs (.ref it) "dict_itemiterator":=⟨_,st,rfl⟩;refine wpAny_pyIter_slot hT F.slot_dict_itemiterator_iter (W16 F.slot_dict_itemiterator_iter hT mT ?_ (F.args_dict_itemiterator_iter_1 _));show wpAny _ _ (PySem.ret (.ref it)) _ _ s;exact W10 ⟨_,rfl,"dict_itemiterator",_,hT,F.slot_dict_itemiterator_next.lookup,h⟩
section
variable{X:Cx}{pos:Pos}{tg a b:Expr}{ta tb:En→M D}
def iKitems(X:Cx)(to:TE):TI:=fun σ H R=>to σ H fun x H1=>∃ p kws,x=.ref p∧KDict X.kw p kws∧R (Itki kws) H1
theorem aAi{o:Expr}{to:TE}{es:List Expr}{kk:Nat}{tpos apos cpos:Pos}(ho:PE X o to)(hbase:attributeBase o "items" X.env (eval o X.env)=eval o X.env)(hline:(apos.endLine==cpos.line)=true):
  PI X (.Tuple es kk tpos) (.Call (.Attribute o "items" apos) [] [] cpos) (iKitems X to):=by
 intro pins s σ H R I h;refine wpAny_Call_method0_late hbase hline (thn (ho pins s σ H _ I h) fun v s1 ⟨x,H1,I1,r1,p,kws,ex,⟨k1,k2,vs,ep,rel,kd⟩,q⟩=>?_);subst ex;cases r1;have kin:X.K.In s1.heap:=I1.mod.kin.keeps I1.bk;have dd:=kd _ kin;obtain⟨ob,es',ho',hc',hd',_⟩:=id dd;have hlt:p<s1.heap.objs.size:=W11 ho';refine⟨"dict","dict.items",PySem.F.plainAttrs_dict,PySem.F.slot_dict_items,PySem.F.type_dict_items,dd.dictOf.typeIs,fun b hb=>by cases hb;exact⟨ob,ho',hc'.2.1⟩,Calls.callWith_builtin rfl (PySem.evalArgs_none ?_)⟩;refine call_meetsIn PySem.F.slot_dict_items dd.dictOf.typeIs PySem.F.entry_dict_items (PySem.F.args_dict_items_1 _) (meets_dict_items (mixKind X.prog X.w) p k2) ⟨⟨vs,dd.dictOf⟩,?_⟩;have I2:Inv X pins σ H1 { s1 with heap:=s1.heap.push { cls:=.type "dict_items",data:=.fields #[.ref p] } }:=I1.kept (t':=s1.toks) fun b o e=>V10 _ e;refine wpAny_pyIter_items (s:={ s1 with heap:=s1.heap.push { cls:=.type "dict_items",data:=.fields #[.ref p] } }) (d:=p) ⟨_,V11 _ rfl,rfl,rfl⟩ (kd _ (I2.mod.kin.keeps I2.bk)) ?_;have sz:(s1.heap.push { cls:=.type "dict_items",data:=.fields #[.ref p] }).objs.size=s1.heap.objs.size+1:=Y17 ..;refine⟨_,[(s1.heap.push { cls:=.type "dict_items",data:=.fields #[.ref p] }).objs.size],_,Itki kws,H1,rfl,Inv.kept (s:={ s1 with heap:=s1.heap.push { cls:=.type "dict_items",data:=.fields #[.ref p] } }) (t':=s1.toks) I2 (fun b o e=>V10 _ e),uI _ p (by rw[sz];exact V13 (Z21 hlt)) rel kd,⟨_,_,V11 _ rfl⟩,fun b hb=>?_,q⟩;rw[W15.mp hb];exact Inv.fpOk (s:={ s1 with heap:=s1.heap.push { cls:=.type "dict_items",data:=.fields #[.ref p] } }) I2 (Y12 _) (I2.hok.fresh (Y12 _))
noncomputable def keyT:Key→D
 | .inl i=>.i i
 | .inr x=>.s x
noncomputable def itemsD:D→M Its'
 | .dc kvs=>ret (kvs.map fun p=>.t [keyT p.1,p.2],fun _=>True)
 |_=>bad
noncomputable def iIt(o:En→M D):En→M Its':=fun env=>bnd (o env) itemsD
theorem aCs{to:En→M D}{es:List Expr}{kk:Nat}{tpos apos cpos:Pos}(ho:QE X a to)(hbase:attributeBase a "items" X.env (eval a X.env)=eval a X.env)(hline:(apos.endLine==cpos.line)=true):
  QI X (.Tuple es kk tpos) (.Call (.Attribute a "items" apos) [] [] cpos) (iIt to):=by
 refine mR (aAi ho hbase hline) ?_;rintro σ H R ⟨m,env,st,its,st',S,E,e,k⟩;obtain⟨x,st1,e1,e2⟩:=aA e
 match x,e1,e2 with
 | .dc kvs,e1,e2=>
  cases aB e2;refine⟨m,env,st,_,_,S,E,e1,fun v H' m' s S' r=>?_⟩;cases r with
  |@dc p kws _ g1 g2 g3=>
   refine⟨p,kws,rfl,g1,k _ H' m' s S' ?_⟩;have hl:kws.length=kvs.length:=by have:=congrArg List.length g2;simpa using this
   intro i m2 H2 st2 p2 S2 c;refine⟨fun d hd=>?_,fun hi=>?_⟩
   ·rw[Z13] at hd;obtain⟨q,hq,rfl⟩:=Z12.mp hd;have hi:i<kvs.length:=(Z10.mp hq).1;refine⟨show i<kws.length by omega,?_⟩;rintro y H3 ⟨T,ky,w,rfl,hT,hz,rfl⟩;have hk:ky=q.1:=by
     have h1:(kws.map (·.1))[i]?=some ky:=by rw[Z13,hz];rfl
     rw[g2,Z13,hq] at h1;exact(U14 h1).symm
    have rw':RV X.kw m2 H2 w q.2:=(g3 i (ky,w) q hz hq).stp p2;have rk:RV X.kw m2 H2 (kV ky) (keyT q.1):=by
     rw[hk];cases q.1 with
     |inl i=>exact .i _
     |inr x=>exact .s _
    obtain⟨S3,s3,r3⟩:=S2.newT hT (.cons rk (.cons rw' .nil));exact⟨S3,s3,r3⟩
   ·show i=kws.length;rw[hi,hl];simp
end
end L2
end
section
namespace ZPT
open PySem PySem.Spec PyProof.Rows L2
section
variable{prog:Program}{w:World}{A:Around}{E:Value→Shared→Prop}{s:Shared}{z TI TO i1 i2 t1 t2 T:Addr}{k:Nat}
structure ZN (h:Heap) (f0:Value) (z TI TO i1 i2 t1 t2:Addr) (k:Nat):Prop where
 z:∃ f1,h.get? z=some { cls:=.type "zip",dict:=none,data:=.fields #[f0, .bool f1, .bool false, .ref TI, .ref TO],slots:=#[] }
 ti:IsPair h TI (.ref i1) (.ref i2)
 to:∃ a b,IsPair h TO a b
 n1:h.IsTupleIter i1 t1 k
 n2:h.IsTupleIter i2 t2 k
theorem ZN.zs(Z:ZN s.heap .none z TI TO i1 i2 t1 t2 k):ZS s.heap z TI TO i1 i2 t1 t2 k:=let ⟨⟨f1,e⟩,a,b,c,d⟩:=Z;⟨⟨.none,f1,e, .inl rfl⟩,a,b,c,d⟩
set_option maxHeartbeats 2000000 in
theorem item0{xs ys:Array Value}{x y:Value}{Q:Option Value→Shared→Prop}(D:Ap z TI TO i1 i2 t1 t2)(Z:ZN s.heap .none z TI TO i1 i2 t1 t2 k)(h1:s.heap.IsTuple t1 xs)(h2:s.heap.IsTuple t2 ys)(hx:xs[k]?=some x)(hy:ys[k]?=some y)
  (g:∀ h',ZN h' (rawInt (s.heap.objs.size:Nat)) z TI TO i1 i2 t1 t2 (k+1)→IsPair h' s.heap.objs.size x y→(∀ c o,c≠z→c≠TO→c≠i1→c≠i2→s.heap.get? c=some o→h'.get? c=some o)→Q (some (.ref s.heap.objs.size)) { s with heap:=h' }):
  wpAny (model prog w) A (pyNext (.ref z)) Q E s:=by
 obtain⟨⟨f1,hz⟩,hti,⟨a,b,hto⟩,hn1,hn2⟩:=Z;have hT:s.TypeIs (.ref z) "zip":=⟨_,hz,rfl⟩;unfold pyNext;refine Y10 (wpAny_attempt (U15 (name:=Str.ofString "__next__") hT Z33 ?_));refine W16 Z33 hT F.entry_zip_next ?_ (F.args_zip_next_1 _);change wpAny _ _ (field (.ref z) 2 >>=_) _ _ _;refine Y10 (V16 hz rfl (x:=.bool false) rfl ?_);change wpAny _ _ (field (.ref z) 3 >>=_) _ _ _;refine Y10 (V16 hz rfl (x:=.ref TI) rfl ?_);refine Y10 (W21 hti rfl ?_);change wpAny _ _ (Builtin.SmallTypes.ownedTupleIsFree (.ref z) >>=_) _ _ _;refine Y10 ?_;unfold Builtin.SmallTypes.ownedTupleIsFree;refine Y10 (V16 hz rfl (x:=.none) rfl ?_);refine W10 ?_;simp only[if_true];refine Y10 (Z35 ?_);refine Y10 (V16 hz rfl (x:=.ref TO) rfl ?_);refine Y10 (Z22 hz (by simp) fun g1 z1 b1=>?_);refine Y10 ?_;simp only[List.zipIdx_cons,List.zipIdx_nil,V33,List.forIn_nil];refine Y10 (Y10 (wpAny_onRaise ?_));change wpAny _ _ (Builtin.SmallTypes.nextOf (.ref i1) >>=_) _ _ _;refine Y10 (eM (gG hn1 b1 D.a3) (kX h1 b1 D.b2) hx fun g2 n1 b2=>W10 ?_);have to2:IsPair g2 TO a b:=b2.extBut _ _ D.a8 (b1.extBut _ _ D.a2 hto);refine Y10 (W21 to2 rfl ?_);refine Y10 (wpAny_updateSeq_pair to2 fun g3 to3 b3=>?_);have to3:IsPair g3 TO x b:=to3;refine Y10 (wpAny_letGo (W10 ?_));refine Y10 (Y10 (wpAny_onRaise ?_));change wpAny _ _ (Builtin.SmallTypes.nextOf (.ref i2) >>=_) _ _ _;refine Y10 (eM (gG (gG (gG hn2 b1 D.a4) b2 D.b1.symm) b3 D.a9.symm) (kX (kX (kX h2 b1 D.b6) b2 D.b8) b3 D.b7) hy fun g4 n2 b4=>W10 ?_);have to4:IsPair g4 TO x b:=b4.extBut _ _ D.a9 to3;refine Y10 (W21 to4 rfl ?_);refine Y10 (wpAny_updateSeq_pair to4 fun g5 to5 b5=>?_);have to5:IsPair g5 TO x y:=to5;refine Y10 (wpAny_letGo (W10 (W10 ?_)));refine Y10 (W21 to5 rfl ?_);refine Y10 (wpAny_newTuple ?_);have hsz:g5.objs.size=s.heap.objs.size:=by rw[b5.1,b4.1,b3.1,b2.1,b1.1]
 have z5:g5.get? z=some { cls:=.type "zip",dict:=none,data:=.fields #[.ellipsis, .bool f1, .bool false, .ref TI, .ref TO],slots:=#[] }:=b5.extBut _ _ D.a2.symm (b4.extBut _ _ D.a4.symm (b3.extBut _ _ D.a2.symm (b2.extBut _ _ D.a3.symm z1)));have k5:∀ c o,c≠z→c≠TO→c≠i1→c≠i2→s.heap.get? c=some o→g5.get? c=some o:=fun c o c1 c2 c3 c4 e=>b5.extBut _ _ c2 (b4.extBut _ _ c4 (b3.extBut _ _ c2 (b2.extBut _ _ c3 (b1.extBut _ _ c1 e))));have m1:g5.IsTupleIter i1 t1 (k+1):=gG (gG (gG n1 b3 D.a8.symm) b4 D.b1) b5 D.a8.symm;have m2:g5.IsTupleIter i2 t2 (k+1):=gG n2 b5 D.a9.symm;have hzl:z<g5.objs.size:=W11 z5;change wpAny _ _ (Builtin.SmallTypes.ownedTupleHandOut (.ref z) (.ref g5.objs.size) >>=_) _ _ _;refine Y10 ?_;unfold Builtin.SmallTypes.ownedTupleHandOut;have z6:=V10 { cls:=.type "tuple",data:=.seq #[x,y] } z5;refine Y10 (Z22 z6 (by simp) fun g7 z7 b7=>?_);refine Z22 z7 (by simp) fun g8 z8 b8=>?_;have up:∀ c o,c≠z→g5.get? c=some o→g8.get? c=some o:=fun c o c1 e=>b8.extBut _ _ c1 (b7.extBut _ _ c1 (V10 _ e));have p8:IsPair g8 g5.objs.size x y:=b8.extBut _ _ (W20 hzl) (b7.extBut _ _ (W20 hzl) (V11 _ rfl));refine W10 ⟨_,rfl,?_⟩;have p8':=p8;rw[hsz] at p8;change wpAny _ _ (pure (some (Value.ref g5.objs.size))) _ _ _;rw[hsz];refine W10 (g g8 ⟨⟨false,by rw[← hsz];exact z8⟩,up _ _ D.a1 (k5 _ _ D.a1 D.a5 D.a6 D.a7 hti),⟨x,y,up _ _ D.a2 to5⟩,?_,?_⟩ p8 fun c o c1 c2 c3 c4 e=>up c o c1 (k5 c o c1 c2 c3 c4 e))
 ·obtain⟨o,e,r⟩:=m1;exact⟨o,up _ _ D.a3 e,r⟩
 ·obtain⟨o,e,r⟩:=m2;exact⟨o,up _ _ D.a4 e,r⟩
theorem goZ{es:List Expr}{x1:Nat}{pos:Pos}{Q:Unit→Shared→Prop}(D:Ap z TI TO i1 i2 t1 t2)(Z:ZN s.heap (rawInt (T:Nat)) z TI TO i1 i2 t1 t2 k)
  (g:∀ h',ZN h' .none z TI TO i1 i2 t1 t2 k→(∀ c o,c≠z→s.heap.get? c=some o→h'.get? c=some o)→Q () { s with heap:=h' }):wpAny (model prog w) A (letOwnedTupleGo (.Tuple es x1 pos) (.ref z) (.ref T)) Q E s:=by
 obtain⟨⟨f1,hz⟩,hti,⟨a,b,hto⟩,hn1,hn2⟩:=id Z;unfold letOwnedTupleGo;refine Y10 (wpAny_load hz ?_);show wpAny _ _ (if(["enumerate","zip","dict_itemiterator","dict_reverseitemiterator","odict_iterator","itertools.zip_longest","itertools.pairwise"].contains "zip"&&
   (#[rawInt T, .bool f1, .bool false, .ref TI, .ref TO]:Array Value)[0]?==some (rawInt T))=true then _ else _) Q E s
 rw[if_pos (by simp)];refine Y10 (Z35 ?_);show wpAny _ _ (setField (.ref z) 0 .none) Q E s;exact Z22 hz (by simp) fun h' he' hs'=>g h' ⟨⟨f1,by simpa using he'⟩,hs'.extBut _ _ D.a1 hti,⟨a,b,hs'.extBut _ _ D.a2 hto⟩,gG hn1 hs' D.a3,gG hn2 hs' D.a4⟩ fun c o hcz e=>hs'.extBut c o hcz e
theorem makeN{a b:Addr}{xs ys:Array Value}{Q:Value→Shared→Prop}(ha:s.heap.IsTuple a xs)(hb:s.heap.IsTuple b ys)
  (g:∀ h',ZN h' .none (s.heap.objs.size+4) (s.heap.objs.size+2) (s.heap.objs.size+3) s.heap.objs.size (s.heap.objs.size+1) a b 0→h'.objs.size=s.heap.objs.size+5→(∀ c o,s.heap.get? c=some o→h'.get? c=some o)→Q (.ref (s.heap.objs.size+4)) { s with heap:=h' }):
  wpAny (model prog w) A (call (.type "zip") [.ref a, .ref b]) Q E s:=by
 refine callType_new F.called_zip (by decide) (F.typeCall_zip_2 _ _) (F.newCall_zip_2 _ _) (fun obj=>F.args_object_init_3 obj _ _) F.entry_zip_new (meets_new a b xs ys) ⟨ha,hb,?_⟩;have z1:(q1 s.heap a).objs.size=s.heap.objs.size+1:=Y17 ..;have z2:(q2 s.heap a b).objs.size=s.heap.objs.size+2:=by rw[Y17,z1]
 have z3:(q3 s.heap a b).objs.size=s.heap.objs.size+3:=by rw[Y17,z2]
 have z4:(q4 s.heap a b).objs.size=s.heap.objs.size+4:=by rw[Y17,z3]
 have z5:(q5 s.heap a b).objs.size=s.heap.objs.size+5:=by rw[Y17,z4]
 have p:∀ {h:Heap} {o:Obj} {c:Addr} {o':Obj},h.get? c=some o'→(h.push o).get? c=some o':=fun e=>V10 _ e;have g5:(q5 s.heap a b).get? (q4 s.heap a b).objs.size=some { cls:=.type "zip",data:=.fields #[.none, .bool false, .bool false, .ref (q2 s.heap a b).objs.size, .ref (q3 s.heap a b).objs.size] }:=V11 _ rfl;have g4:(q5 s.heap a b).get? (q3 s.heap a b).objs.size=some { cls:=.type "tuple",data:=.seq #[.none, .none] }:=p (V11 _ rfl);have g3:(q5 s.heap a b).get? (q2 s.heap a b).objs.size=some { cls:=.type "tuple",data:=.seq #[.ref s.heap.objs.size, .ref (q1 s.heap a).objs.size] }:=p (p (V11 _ rfl));have g2:(q5 s.heap a b).get? (q1 s.heap a).objs.size=some (tIt b):=p (p (p (V11 _ rfl)));have g1:(q5 s.heap a b).get? s.heap.objs.size=some (tIt a):=p (p (p (p (V11 _ rfl))));change _∧_;rw[z2,z3,z4] at g5;rw[z1,z2] at g3;rw[z3] at g4;rw[z1] at g2;rw[z4];exact⟨⟨_,g5,rfl⟩,g _ ⟨⟨false,g5⟩,g3,⟨_,_,g4⟩,⟨_,g1,rfl,rfl⟩,⟨_,g2,rfl,rfl⟩⟩ z5 fun c o x=>p (p (p (p (p x))))⟩
end
end ZPT
namespace L2
open PySem PySem.Spec PyProof.Rows
noncomputable def Itz(K:Fg9)(t1 t2:Addr)(n:Nat):It:=⟨fun i H=>∃ xs ys,SqT K H t1 xs∧SqT K H t2 ys∧xs.length=n∧ys.length=n∧i<n,
 fun i H v H'=>∃ T x y,v=.ref T∧H T=none∧(∀ xs,SqT K H t1 xs→xs[i]?=some x)∧(∀ ys,SqT K H t2 ys→ys[i]?=some y)∧H'=upd H T (.tup [x,y]),fun i H=>(∃ xs,SqT K H t1 xs∧xs.length=n)∧i=n⟩
theorem aCt{P:Program}{w:World}{K:Fg9}{es:List Expr}{kk:Nat}{pos:Pos}(z TI TO i1 i2 t1 t2:Addr)(n:Nat)(D:ZPT.Ap z TI TO i1 i2 t1 t2):
  Turn P w K (.Tuple es kk pos) (Itz K t1 t2 n) [z,TI,TO,i1,i2] z (fun i h=>ZPT.ZN h .none z TI TO i1 i2 t1 t2 i) where
 mem:=by simp
 obj:=fun i h st b hb=>by
  obtain⟨⟨f1,hz⟩,hti,⟨a,b',hto⟩,⟨o1,e1,c1,d1⟩,⟨o2,e2,c2,d2⟩⟩:=st;simp only[W12,V18,or_false] at hb;rcases hb with rfl|rfl|rfl|rfl|rfl
  ·exact⟨_,hz,fun v z=>by cases z⟩
  ·exact⟨_,hti,fun v z=>by cases z⟩
  ·exact⟨_,hto,fun v z=>by cases z⟩
  ·exact⟨_,e1,fun v z=>by rw[d1] at z;cases z⟩
  ·exact⟨_,e2,fun v z=>by rw[d2] at z;cases z⟩
 keep:=fun i h h' st k=>by
  obtain⟨⟨f1,hz⟩,hti,⟨a,b,hto⟩,⟨o1,e1,r1⟩,⟨o2,e2,r2⟩⟩:=st;exact⟨⟨f1,k z (by simp) _ hz⟩,k TI (by simp) _ hti,⟨a,b,k TO (by simp) _ hto⟩,⟨o1,k i1 (by simp) _ e1,r1⟩,⟨o2,k i2 (by simp) _ e2,r2⟩⟩
 item:=by
  intro X hP hw hK hc i pins s σ H E I hf st hg;subst hP hw hK;obtain⟨xs,ys,q1,q2,l1,l2,hi⟩:=hg;obtain⟨its1,rv1,p1,_⟩:=I.tuple q1;obtain⟨its2,rv2,p2,_⟩:=I.tuple q2;have h1:i<xs.length:=by omega
  have h2:i<ys.length:=by omega
  obtain⟨u1,hu1,ru1⟩:=rv1.get (i:=i) (x:=xs[i]) (by simp[h1]);obtain⟨u2,hu2,ru2⟩:=rv2.get (i:=i) (x:=ys[i]) (by simp[h2]);refine ZPT.item0 D st p1 p2 (x:=u1) (y:=u2) (by simpa using hu1) (by simpa using hu2) fun h' Z' pr kp=>?_;have hT:∀ b∈[z,TI,TO,i1,i2],b≠s.heap.objs.size:=fun b hb e=>by
   obtain⟨f0,_⟩:=hf b hb;obtain⟨⟨g1,hz⟩,hti,⟨a',b',hto⟩,⟨o1,e1,_⟩,⟨o2,e2,_⟩⟩:=st;simp only[W12,V18,or_false] at hb;rcases hb with rfl|rfl|rfl|rfl|rfl
   ·exact absurd (W11 hz) (by rw[e];exact V17 _)
   ·exact absurd (W11 hti) (by rw[e];exact V17 _)
   ·exact absurd (W11 hto) (by rw[e];exact V17 _)
   ·exact absurd (W11 e1) (by rw[e];exact V17 _)
   ·exact absurd (W11 e2) (by rw[e];exact V17 _)
  refine⟨.ref s.heap.objs.size,rfl,ZPT.goZ (s:={ s with heap:=h' }) D Z' fun hh2 st2 k2=>?_⟩;have nz:s.heap.objs.size≠z:=fun e=>hT z (by simp) e.symm;have pr2:=k2 _ _ nz pr;refine⟨.ref s.heap.objs.size,upd H s.heap.objs.size (.tup [xs[i],ys[i]]),Inv.turnedN (s':={ s with heap:=hh2 }) I rfl rfl (fun b u0 hb e0=>by
   simp only[W12,V18,or_false,not_or] at hb;exact k2 _ _ hb.1 (kp b u0 hb.1 hb.2.2.1 hb.2.2.2.1 hb.2.2.2.2 e0)) hf (Y12 _) ?_,rfl,⟨_,xs[i],ys[i],rfl,I.hok.fresh (Y12 _),fun zs hy=>by rw[I.tuple_inj hy q1];simp[h1],fun zs hy=>by rw[I.tuple_inj hy q2];simp[h2],rfl⟩,st2,fun b hb=>?_⟩
  ·exact⟨by show 2≤_;rw[Y14];decide,[u1,u2], .cons ru1 (.cons ru2 .nil),_,pr2,rfl,0,rfl⟩
  ·rw[aG (hT b hb)];exact(hf b hb).1
 done:=by
  intro X hP hw hK hc i pins s σ H E I hf st hg;subst hP hw hK;obtain⟨⟨xs,q1,l1⟩,hi⟩:=hg;obtain⟨its1,rv1,p1,_⟩:=I.tuple q1;have hlen:=rv1.length;refine ZPT.stop (xs:=its1.toArray) (I.ok.hd hc) D st.zs p1 (by simp;omega) fun h' kp=>⟨rfl,?_⟩;exact Inv.turnedF (s':={ s with heap:=h' }) I rfl rfl (fun b u hb e=>by
   simp only[W12,V18,or_false,not_or] at hb;exact kp b u hb.1 hb.2.2.1 hb.2.2.2.1 hb.2.2.2.2 e) hf
 self:=fun A i s Q E st h=>ZPT.iterZ st.zs h
section
variable{X:Cx}
def iZip(K:Fg9)(ta:TA):TI:=fun σ H R=>ta σ H fun vs H1=>∃ t1 t2 xs ys,vs=[.ref t1, .ref t2]∧SqT K H1 t1 xs∧SqT K H1 t2 ys∧xs.length=ys.length∧R (Itz K t1 t2 xs.length) H1
theorem aHC{a b:Expr}{es:List Expr}{kk:Nat}{tpos:Pos}{ta:TA}{p pos:Pos}(hg:Gl X "zip")(hm:X.mg "zip"=none)(ha:PA X [a,b] ta)(hs:starEach [a,b] X.env=(false,eval a X.env)::starEach [b] X.env)(hpl:(backTo pos (starEach [b] X.env)).any (·.1)=false):
  PI X (.Tuple es kk tpos) (.Call (.Name "zip" p) [a,b] [] pos) (iZip X.K ta):=by
 intro pins s σ H R I h;refine Call_ (gF I hg hm bootZ (Y16 (thn (ha pos pins s σ H _ I h) fun us s1 ⟨vs,H1,I1,r1,t1,t2,xs,ys,ev,q1,q2,hlen,q⟩=>?_) hs hpl));subst ev;obtain⟨v1,v2,rfl,e1,e2⟩:=vals2 r1;cases e1;cases e2;obtain⟨its1,rv1,pt1,_⟩:=I1.tuple q1;obtain⟨its2,rv2,pt2,_⟩:=I1.tuple q2;have lt1:t1<s1.heap.objs.size:=by obtain⟨o,eo,_⟩:=pt1;exact W11 eo
 have lt2:t2<s1.heap.objs.size:=by obtain⟨o,eo,_⟩:=pt2;exact W11 eo
 refine ZPT.makeN pt1 pt2 fun h2 Z2 sz2 kp2=>?_;refine ZPT.iterZ (s:={ s1 with heap:=h2 }) Z2.zs ?_;have I2:Inv X pins σ H1 { s1 with heap:=h2 }:=I1.kept (t':=s1.toks) kp2;refine⟨_,[s1.heap.objs.size+4,s1.heap.objs.size+2,s1.heap.objs.size+3,s1.heap.objs.size,s1.heap.objs.size+1],_,Itz X.K t1 t2 xs.length,H1,rfl,I2,aCt _ _ _ _ _ t1 t2 xs.length (ZPT.aGy lt1 lt2),Z2,fun b hb=>?_,q⟩;simp only[W12,V18,or_false] at hb;exact I1.fpOk (by rcases hb with rfl|rfl|rfl|rfl|rfl<;>omega) (I1.hok.fresh (by rcases hb with rfl|rfl|rfl|rfl|rfl<;>omega))
end
namespace F4
theorem nolen_lr:typeLookup (.type "list_reverseiterator") "__len__"=pure none:=by rw[typeLookup_type,Y29];kernel_rfl
theorem hint_lr:typeLookup (.type "list_reverseiterator") "__length_hint__"=pure (some (.builtin "list_reverseiterator.__length_hint__")):=by rw[typeLookup_type,Y29];kernel_rfl
end F4
theorem uJ{s s':Shared}(g:s'.gens=s.gens)(d:s'.drawn=s.drawn)(o:s'.os=s.os):s'={ s with heap:=s'.heap,toks:=s'.toks }:=by
 cases s';cases s;simp_all
noncomputable def signsV(x:Str):List V:=x.cps.toList.map fun c=>.str ⟨#[c]⟩
theorem nL{xs:List V}{us:List Value}(hl:us.length=xs.length)(h:∀ (j:Nat) x u,xs[j]?=some x→us[j]?=some u→RelV x u):Vals xs us:=by
 induction xs generalizing us with
 |nil=>cases us with
  |nil=>exact .nil
  |cons u us=>cases hl
 |cons x xs ih=>cases us with
  |nil=>cases hl
  |cons u us=>exact .cons (h 0 x u rfl rfl) (ih (by simpa using hl) fun j x u a b=>h (j+1) x u (by simpa using a) (by simpa using b))
theorem uK{x:Str}{acc:Array Value}(h:ItemsOf (SignAt x) acc x.cps.size):Vals (signsV x) acc.toList:=by
 refine nL (by simp[signsV,h.1]) fun j v u a b=>?_;obtain⟨c,t,e,rfl⟩:=h.2 j u (by simpa using b);simp only[signsV,Z13,Y28,e,Option.map_some,W29] at a;subst a;exact⟨t,rfl⟩
section
variable{X:Cx}
theorem wK(hc:X.calm=true):CallR X (.type "list") (fun xs H Q=>∃ x,xs=[.str x]∧x.cps.size≤sizeLine∧∀ l,H l=none→Q (.ref l) (upd H l (.lst (signsV x)))):=by
 intro pins s σ H xs us Q I r h;obtain⟨x,rfl,hz,q⟩:=h;obtain⟨u,rfl,rx⟩:=vals1 r;obtain⟨t,rfl⟩:=rx;have hd:X.A.in1.handled=none:=I.ok.hd hc;refine callType_codes (Q₁:=fun v s3=>v=.ref s.heap.objs.size∧s3={ s with heap:=s.heap.push (seqObj "list" #[] 0) }) F.called_list (F.typeCall_list_1 _) F.entry_list_init (code_list_new _ ⟨rfl,rfl⟩) fun v s3 h3=>?_;obtain⟨rfl,rfl⟩:=h3;have hS:(s.heap.push (seqObj "list" #[] 0)).get? s.heap.objs.size=some (seqObj "list" #[] 0):=V11 _ rfl;refine⟨⟨_,hS,rfl⟩,F.args_list_init_2 _ _,?_⟩;change wpAny _ _ (Builtin.List.listItems (.ref s.heap.objs.size) >>=fun old=>Builtin.List.listUpdate (.ref s.heap.objs.size) (fun _=>#[]) >>=fun _=>letGo old.toList.reverse >>=fun _=>Builtin.List.listExtendWith (.ref s.heap.objs.size) (.str x t) .none) _ _ _;refine Y10 ?_;unfold Builtin.List.listItems;refine Y10 (W21 hS rfl (W10 ?_));change wpAny _ _ (updateSeq s.heap.objs.size (fun _=>#[]) >>=_) _ _ _;refine Y10 (Z28 hS rfl ?_);have hS2:=get?_update_seq hS (fun _=>(#[]:Array Value));refine Y10 (wpAny_letGo ?_);have kp3:∀ b o,s.heap.get? b=some o→((s.heap.push (seqObj "list" #[] 0)).update s.heap.objs.size (Obj.mapSeq fun _=>(#[]:Array Value))).get? b=some o:=fun b o e=>(Y21 _ _ (W20 (W11 e))).trans (V10 _ e);generalize hh3:(s.heap.push (seqObj "list" #[] 0)).update s.heap.objs.size (Obj.mapSeq fun _=>(#[]:Array Value))=h3 at hS2 kp3;unfold Builtin.List.listExtendWith;refine Y10 (U25 (T:="str") (v:=.str x t) rfl ?_);have h1:Builtin.List.listSameRef (.ref s.heap.objs.size) (.str x t)=false:=rfl;have h2:(Value.type "str"==Value.type "list")=false:=by decide
 have h3:(Value.type "str"==Value.type "tuple")=false:=by decide
 simp only[h1,h2,h3,Bool.or_false,Z27,if_false];refine Y10 (wpAny_pyIter_str fun o St W hst=>?_);refine Y10 (Z16 ?_);unfold Builtin.List.listLengthHint;refine Y10 (W28 (T:="str") (v:=.str x t) rfl F.str_len ?_)
 wp_delta
 refine Y10 (W30 (T:="str") (v:=.str x t) (b:=true) rfl (by rw[isSubtype_type];kernel_rfl) ?_);change wpAny _ _ (typeOf (Value.str x t) >>=_) _ _ _;refine Y10 (U25 (T:="str") (v:=.str x t) rfl ?_);refine W10 ?_;rw[if_neg (by decide)];rename_i hp3;have hlt:s.heap.objs.size<hp3.objs.size:=W11 hS2;have hSf:s.heap.objs.size∉[hp3.objs.size]:=fun hm=>by rw[W15.mp hm] at hlt;exact absurd hlt (V17 _)
 refine W10 ⟨W33 W26 _,codeAny_extend_loopS (A:=X.A.in1) (W X.A.in1.in1 hd).toS hz _ hSf _ x.cps.size 0 _ _ _ rfl (Z23 _) hst (V10 _ hS2) (ItemsOf.nil _) fun s' acc' c' hm hS' hacc=>?_⟩;have es:=uJ (s:=s) hm.gens hm.drawn hm.os;have kp:∀ b o,s.heap.get? b=some o→s'.heap.get? b=some o:=fun b ob e=>hm.heap b ob (fun hb=>by
  have hl:=W11 e;rcases W12.mp hb with h|h
  ·exact absurd hl (h ▸ V17 _)
  ·rw[W15.mp h] at hl;exact absurd (Nat.lt_trans hl hlt) (V17 _)) (V10 _ (kp3 _ _ e))
 rw[es];exact⟨rfl, .ref s.heap.objs.size,upd H s.heap.objs.size (.lst (signsV x)),I.laid (t':=s'.toks) kp (Y12 _) (show ObjOk X.prog X.w _ _ _ (.lst (signsV x)) from⟨by simpa[signsV] using hz,acc'.toList,c',uK hacc,hS'⟩),rfl,q _ (I.hok.fresh (Y12 _))⟩
def tLrev(K:Fg9)(ta:TA):TE:=fun σ H Q=>ta σ H fun vs H1=>∃ a xs,vs=[.ref a]∧SqL K H1 a xs∧∀ l,H1 l=none→Q (.ref l) (upd H1 l (.lst xs.reverse))
theorem aAj{xs:List V}{its:List Value}{acc:Array Value}(rv:Vals xs its)(h:ItemsOf (fun i v=>its.toArray[its.toArray.size - 1 - i]?=some v) acc its.toArray.size):Vals xs.reverse acc.toList:=by
 have hl:=rv.length;have h1:=h.1;simp only[Y11] at h1;refine nL (by simp[h1,hl]) fun j v u a b=>?_;have e:=h.2 j u (by simpa using b);have hj:j<xs.length:=by have:=(Z10.mp a).1;simpa using this
 rw[Y22 hj] at a;obtain⟨u',e',ru⟩:=rv.get a;have:its.toArray.size - 1 - j=xs.length - 1 - j:=by simp[hl]
 rw[this] at e;simp only[List.getElem?_toArray] at e;rw[e'] at e;cases e;exact ru
theorem aEO{a:Expr}{ta:TA}{p p2 pos pos2:Pos}(hc:X.calm=true)(hg:Gl X "list")(hm:X.mg "list"=none)(hg2:Gl X "reversed")(hm2:X.mg "reversed"=none)(ha:PA X [a] ta)(hs:starEach [a] X.env=[(false,eval a X.env)]):
  PE X (.Call (.Name "list" p) [.Call (.Name "reversed" p2) [a] [] pos2] [] pos) (tLrev X.K ta):=by
 intro pins s0 σ H Q I0 h;have hs2:starEach [.Call (.Name "reversed" p2) [a] [] pos2] X.env=(false,eval (.Call (.Name "reversed" p2) [a] [] pos2) X.env)::starEach [] X.env:=rfl;refine W19 (gF I0 hg hm bootL ?_);refine Y16 ?_ hs2 rfl;rw[hs2];change wpAny _ _ (spliced ((false,eval (.Call (.Name "reversed" p2) [a] [] pos2) X.env)::backTo pos (starEach [] X.env))) _ _ s0;refine Calls.spliced_cons ?_;refine W19 (gF I0 hg2 hm2 uA (Y16 (thn (ha pos2 pins s0 σ H _ I0 h) fun us s ⟨vs,H1,I,r1,q1⟩=>?_) hs rfl));obtain⟨a,xs,e,hq,q⟩:=q1;subst e;obtain⟨u,rfl,rx⟩:=vals1 r1;cases rx;obtain⟨its,rv,pt,hz⟩:=I.list hq;have hlen:=rv.length;have hlt:a<s.heap.objs.size:=by obtain⟨o,eo,_⟩:=pt.isList;exact W11 eo
 have hd:X.A.in1.handled=none:=I.ok.hd hc;refine call_reversed_list pt.isList ?_;refine Calls.spliced_nil ?_;have e0:(s.heap.push (revObj a ((its.toArray.size:Int) - 1))).IsRevIter s.heap.objs.size a ((its.toArray.size:Int) - 1):=⟨_,V11 _ rfl,rfl,rfl⟩;have sz:(s.heap.push (revObj a ((its.toArray.size:Int) - 1))).objs.size=s.heap.objs.size+1:=Y17 ..;have kp0:∀ b o,s.heap.get? b=some o→(s.heap.push (revObj a ((its.toArray.size:Int) - 1))).get? b=some o:=fun b o e=>V10 _ e;generalize s.heap.push (revObj a ((its.toArray.size:Int) - 1))=h0 at e0 sz kp0;refine callType_codes (Q₁:=fun v s3=>v=.ref h0.objs.size∧s3={ s with heap:=h0.push (seqObj "list" #[] 0) }) F.called_list (F.typeCall_list_1 _) F.entry_list_init (code_list_new _ ⟨rfl,rfl⟩) fun v s3 h3=>?_;obtain⟨rfl,rfl⟩:=h3;have hS:(h0.push (seqObj "list" #[] 0)).get? h0.objs.size=some (seqObj "list" #[] 0):=V11 _ rfl;refine⟨⟨_,hS,rfl⟩,F.args_list_init_2 _ _,?_⟩;change wpAny _ _ (Builtin.List.listItems (.ref h0.objs.size) >>=fun old=>Builtin.List.listUpdate (.ref h0.objs.size) (fun _=>#[]) >>=fun _=>letGo old.toList.reverse >>=fun _=>Builtin.List.listExtendWith (.ref h0.objs.size) (.ref s.heap.objs.size) .none) _ _ _;refine Y10 ?_;unfold Builtin.List.listItems;refine Y10 (W21 hS rfl (W10 ?_));change wpAny _ _ (updateSeq h0.objs.size (fun _=>#[]) >>=_) _ _ _;refine Y10 (Z28 hS rfl ?_);have hS2:=get?_update_seq hS (fun _=>(#[]:Array Value));refine Y10 (wpAny_letGo ?_);have kp3:∀ b o,h0.get? b=some o→((h0.push (seqObj "list" #[] 0)).update h0.objs.size (Obj.mapSeq fun _=>(#[]:Array Value))).get? b=some o:=fun b o e=>(Y21 _ _ (W20 (W11 e))).trans (V10 _ e);generalize hh3:(h0.push (seqObj "list" #[] 0)).update h0.objs.size (Obj.mapSeq fun _=>(#[]:Array Value))=h3 at hS2 kp3;have e3:h3.IsRevIter s.heap.objs.size a ((its.toArray.size:Int) - 1):=e0.at fun o e=>kp3 _ _ e;have l3:h3.IsList a its.toArray:=pt.isList.at fun o e=>kp3 _ _ (kp0 _ _ e);unfold Builtin.List.listExtendWith;refine Y10 (U25 (s:={ s with heap:=h3 }) e3.typeIs ?_);have nS:h0.objs.size≠s.heap.objs.size:=by omega
 rw[if_neg (by simp[Builtin.List.listSameRef,nS])];refine Y10 (Y30 (s:={ s with heap:=h3 }) e3 ?_);refine Y10 (Z16 ?_);unfold Builtin.List.listLengthHint;refine Y10 (W28 (s:={ s with heap:=h3 }) e3.typeIs F4.nolen_lr ?_);change wpAny _ _ (specialOf (Value.ref s.heap.objs.size) (Str.ofString "__length_hint__") >>=_) _ _ _;refine Y10 (W28 (s:={ s with heap:=h3 }) e3.typeIs F4.hint_lr ?_)
 (generalize hid:("list_reverseiterator.__length_hint__":String)=id0;wp_delta;rw[show splitId id0=some ("list_reverseiterator","__length_hint__") from by subst hid;decide +kernel];subst hid)
 refine Y10 (W30 (b:=true) (s:={ s with heap:=h3 }) e3.typeIs (by rw[isSubtype_type];kernel_rfl) ?_);refine W10 ?_;rw[if_neg (by decide)];have hSf:h0.objs.size∉[s.heap.objs.size,a]:=fun hm=>by simp only[W12,V18,or_false] at hm;exact hm.elim (fun h=>nS h) fun h=>absurd (show a<h0.objs.size by rw[sz];exact Z21 hlt) (by rw[h];exact V17 _)
 refine W10 ⟨W33 W26 _,codeAny_extend_loopS (A:=X.A.in1) (Walks.listRev (A:=X.A.in1.in1) hd s.heap.objs.size a (V13 hlt) its.toArray).toS (by simp only[Y11];omega) _ hSf _ its.toArray.size 0 _ _ _ rfl (Z23 _) ⟨Z23 _,by simpa using e3,l3⟩ hS2 (ItemsOf.nil _) fun s' acc' c' hm hS' hacc=>?_⟩;have es:=uJ (s:=s) hm.gens hm.drawn hm.os;have kp:∀ b o,s.heap.get? b=some o→s'.heap.get? b=some o:=fun b ob e=>hm.heap b ob (fun hb=>by
  have hl:=W11 e;rcases W12.mp hb with h|h
  ·rw[h,sz] at hl;exact absurd hl (Nat.not_lt.mpr (Z37 _))
  ·rw[W15.mp h] at hl;exact absurd hl (V17 _)) (kp3 _ _ (kp0 _ _ e))
 rw[es];exact⟨rfl, .ref h0.objs.size,upd H1 h0.objs.size (.lst xs.reverse),I.laid (t':=s'.toks) kp (by omega) (show ObjOk X.prog X.w _ _ _ (.lst xs.reverse) from⟨by simp;omega,acc'.toList,c',aAj rv hacc,hS'⟩),rfl,q _ (I.hok.fresh (by omega))⟩
end
end L2
end
section
namespace L2
open PySem PySem.Spec PyProof.Rows
section
variable{X:Cx}{pos:Pos}{tg a b:Expr}{ta tb:En→M D}
noncomputable def zipL(xs ys:List D):List D:=List.zipWith (fun x y=>.t [x,y]) xs ys
noncomputable def tupOf:D→Option (List D)
 | .t xs=>some xs
 | .k xs=>some xs
 |_=>none
def zipD:List D→M Its'
 |[a,b]=>match tupOf a,tupOf b with
  |some xs,some ys=>need (xs.length=ys.length) (ret (zipL xs ys,fun _=>True))
  |_,_=>bad
 |_=>bad
theorem uL{K:KW}{m:List Addr}{H:Hp}{v:V}{d:D}{xs:List D}(r:RV K m H v d)(h:tupOf d=some xs):∃ p vs,v=.ref p∧(∀ m' H',Stp m H m' H'→SqT K H' p vs)∧RVs K m H vs xs:=by
 cases r with
 |t e l q=>cases h;exact⟨_,_,rfl,fun m' H' s=>SqT.of (s.kt _ _ e rfl),l,q⟩
 |k e l q=>cases h;exact⟨_,_,rfl,fun m' H' s=>e H',l,q⟩
 |_=>cases h
theorem yD{xs ys:List D}{i:Nat}{d:D}(h:(zipL xs ys)[i]?=some d):∃ x y,xs[i]?=some x∧ys[i]?=some y∧d=.t [x,y]:=by
 unfold zipL at h;rw[List.getElem?_zipWith] at h;cases h1:xs[i]? with
 |none=>rw[h1] at h;cases h
 |some x=>
  cases h2:ys[i]? with
  |none=>rw[h1,h2] at h;cases h
  |some y=>rw[h1,h2] at h;cases h;exact⟨x,y,rfl,rfl,rfl⟩
theorem aHD{es:List Expr}{kk:Nat}{tpos p:Pos}{t:En→M (List D)}(hg:Gl X "zip")(hm:X.mg "zip"=none)(ha:QA X [a,b] t)(hs:starEach [a,b] X.env=(false,eval a X.env)::starEach [b] X.env)(hpl:(backTo pos (starEach [b] X.env)).any (·.1)=false):
  QI X (.Tuple es kk tpos) (.Call (.Name "zip" p) [a,b] [] pos) (fun env=>bnd (t env) zipD):=by
 refine mR (aHC hg hm ha hs hpl) ?_;rintro σ H R ⟨m,env,st,its,st',S,E,e,k⟩;obtain⟨ds,st1,e1,e2⟩:=aA e
 match ds,e1,e2 with
 |[d1,d2],e1,e2=>
  unfold zipD at e2;dsimp only at e2;cases h1:tupOf d1 with
  |none=>rw[h1] at e2;cases e2
  |some xs=>
   cases h2:tupOf d2 with
   |none=>rw[h1,h2] at e2;cases e2
   |some ys=>
    rw[h1,h2] at e2;obtain⟨hl,e3⟩:=aL e2;cases aB e3;refine⟨m,env,st,_,_,S,E,e1,fun vs H' m' s S' r=>?_⟩;obtain⟨v1,v2,rfl,r1,r2⟩:=sM r;obtain⟨p1,w1,rfl,q1,rr1⟩:=uL r1 h1;obtain⟨p2,w2,rfl,q2,rr2⟩:=uL r2 h2;have l1:=rr1.1;have l2:=rr2.1;refine⟨p1,p2,w1,w2,rfl,q1 _ _ .refl,q2 _ _ .refl,by omega,k _ H' m' s S' ?_⟩;intro i m2 H2 st2 p S2 _;refine⟨fun d hd=>?_,fun hi=>?_⟩
    ·obtain⟨x,y,hx,hy,rfl⟩:=yD hd;obtain⟨v,hv,rv⟩:=(rr1.stp p).at hx;obtain⟨w,hw,rw'⟩:=(rr2.stp p).at hy;refine⟨⟨w1,w2,q1 _ _ p,q2 _ _ p,rfl,by omega,(Z10.mp hv).1⟩,?_⟩;rintro z H3 ⟨T,a,b,rfl,hT,hz1,hz2,rfl⟩;have ea:=hz1 _ (q1 _ _ p);have eb:=hz2 _ (q2 _ _ p);rw[hv] at ea;rw[hw] at eb;cases ea;cases eb;obtain⟨S3,s3,r3⟩:=S2.newT hT (.cons rv (.cons rw' .nil));exact⟨S3,s3,r3⟩
    ·refine⟨⟨w1,q1 _ _ p,rfl⟩,?_⟩;rw[hi];simp[zipL]
     omega
theorem aAk:CallR X (.type "str") (LC X.kw str1D):=by
 refine CallR.imp (r:=fun xs H Q=>(∃ n:Int,xs=[.int n]∧n.natAbs.log2<1920∧Q (.str (toString n)) H)) aAg ?_;rintro xs H Q ⟨m,st,ds,d,st',S,r,e,k⟩
 match ds,r,e with
 |[.i n],r,e=>
  obtain⟨v,rfl,rv⟩:=aY r;cases rv;unfold str1D at e;obtain⟨h,e⟩:=aL e;cases aB e;exact⟨n,rfl,h,k.now S (.s _)⟩
noncomputable def signsD(x:Str):List D:=x.cps.toList.map fun c=>.s ⟨#[c]⟩
def list2D:List D→M D
 |[.s x]=>need (x.cps.size≤sizeLine) (fun st=>some (.r st.length,st++[.l (signsD x)]))
 |[.r l]=>listD [.r l]
 |[.t l]=>listD [.t l]
 |[.k l]=>listD [.k l]
 |[.f l]=>listD [.f l]
 |_=>bad
theorem aAl{K:KW}{m:List Addr}{H:Hp}(x:Str):RVs K m H (signsV x) (signsD x):=by
 refine⟨by simp[signsV,signsD],fun j v d a b=>?_⟩;simp only[signsV,signsD,Z13] at a b;cases h:x.cps.toList[j]? with
 |none=>rw[h] at a;cases a
 |some c=>rw[h] at a b;cases a;cases b;exact .s _
theorem aCu(hc:X.calm=true):CallR X (.type "list") (LC X.kw list2D):=by
 intro pins s σ H xs us Q I r h;obtain⟨m,st,ds,d,st',S,rr,e,k⟩:=h
 match ds,rr,e with
 |[.s x],rr,e=>
  obtain⟨v,rfl,rv⟩:=aY rr;cases rv;unfold list2D at e;obtain⟨h,e⟩:=aL e;cases e;refine wK hc pins s σ H _ us Q I r ⟨x,rfl,h,fun l hl=>?_⟩;obtain⟨S2,s2,r2⟩:=S.newL hl (aAl x);exact k _ _ _ s2 S2 r2
 |[.r l],rr,e=>exact nY pins s σ H _ us Q I r ⟨m,st,_,d,st',S,rr,e,k⟩
 |[.t l],rr,e=>exact nY pins s σ H _ us Q I r ⟨m,st,_,d,st',S,rr,e,k⟩
 |[.k l],rr,e=>exact nY pins s σ H _ us Q I r ⟨m,st,_,d,st',S,rr,e,k⟩
 |[.f l],rr,e=>exact nY pins s σ H _ us Q I r ⟨m,st,_,d,st',S,rr,e,k⟩
def int2D:List D→M D
 |[.s x]=>fun st=>need (x.length≤640) (match PySem.intText? x with
  |some n=>ret (.i n)
  |none=>bad) st
 |[.i a]=>ret (.i a)
 |[.b k]=>ret (.i (if k then 1 else 0))
 |_=>bad
theorem aAm:CallR X (.type "int") (fun xs H Q=>∃ (x:Str) (n:Int),xs=[.str x]∧x.length≤640∧PySem.intText? x=some n∧Q (.int n) H):=by
 intro pins s σ H xs us Q I r h;obtain⟨x,n,rfl,hl,hn,q⟩:=h;obtain⟨u,rfl,rx⟩:=vals1 r;obtain⟨t,rfl⟩:=rx;exact PySem.W.KIN.call_text hn hl ⟨.int n,H,I.tok _,⟨_,rfl⟩,q⟩
theorem aEP:CallR X (.type "int") (LC X.kw int2D):=by
 intro pins s σ H xs us Q I r h;obtain⟨m,st,ds,d,st',S,rr,e,k⟩:=h
 match ds,rr,e with
 |[.s x],rr,e=>
  obtain⟨v,rfl,rv⟩:=aY rr;cases rv;unfold int2D at e;obtain⟨h,e⟩:=aL e;cases hn:PySem.intText? x with
  |none=>rw[hn] at e;cases e
  |some n=>
   rw[hn] at e;cases aB e;exact aAm pins s σ H _ us Q I r ⟨x,n,rfl,h,hn,k.now S (.i _)⟩
 |[.i a],rr,e=>exact aBS pins s σ H _ us Q I r ⟨m,st,_,d,st',S,rr,e,k⟩
 |[.b a],rr,e=>exact aBS pins s σ H _ us Q I r ⟨m,st,_,d,st',S,rr,e,k⟩
noncomputable def lrevD:List D→M D
 |[.r l]=>bnd (getL l) fun xs st=>some (.r st.length,st++[.l xs.reverse])
 |[.f xs]=>fun st=>some (.r st.length,st++[.l xs.reverse])
 |_=>bad
theorem aEQ{t:En→M (List D)}{p p2 pos2:Pos}(h:PE X (.Call (.Name "list" p) [.Call (.Name "reversed" p2) [a] [] pos2] [] pos) (tLrev X.K (LA X.kw t))):
  QE X (.Call (.Name "list" p) [.Call (.Name "reversed" p2) [a] [] pos2] [] pos) (fun env=>bnd (t env) lrevD):=by
 refine aT h ?_;rintro σ H Q ⟨m,env,st,d,st',S,E,e,k⟩;obtain⟨ds,st1,e1,e2⟩:=aA e
 match ds,e1,e2 with
 |[.r l],e1,e2=>
  obtain⟨xs,st3,e3,e4⟩:=aA e2;obtain⟨h1,rfl⟩:=bF e3;cases e4;refine⟨m,env,st,_,_,S,E,e1,fun vs H' m' s S' r=>?_⟩;obtain⟨v,rfl,rv⟩:=aY r;obtain⟨a,ws,rfl,hl,ho,r2⟩:=S'.lst rv h1;refine⟨a,ws,rfl,SqL.of ho,fun p hp=>?_⟩;obtain⟨S2,s2,r3⟩:=S'.newL hp r2.rev;exact k _ _ _ (s.trans s2) S2 r3
 |[.f xs],e1,e2=>
  cases e2;refine⟨m,env,st,_,_,S,E,e1,fun vs H' m' s S' r=>?_⟩;obtain⟨v,rfl,rv⟩:=aY r;cases rv with
  |@f _ ws _ e l q=>
   refine⟨_,ws,rfl,e.sq,fun p hp=>?_⟩;obtain⟨S2,s2,r3⟩:=S'.newL hp (RVs.rev ⟨l,q⟩);exact k _ _ _ (s.trans s2) S2 r3
end
noncomputable def eFl(C:Addr)(f:Str)(t:En→M D):En→M D:=fun env=>bnd (t env) (fldD C f)
noncomputable def sFl(C:Addr)(f:Str)(ta tb:En→M D):Sm':=fun env=>bnd (tb env) fun y=>bnd (ta env) fun x=>bnd (setF C f x y) fun _=>ret (.nx,env)
noncomputable def sFa(C:Addr)(f:Str)(g:D→D→M D)(ta tb:En→M D):Sm':=fun env=>bnd (ta env) fun x=>bnd (fldD C f x) fun w=>bnd (tb env) fun y=>bnd (g w y) fun z=>bnd (setF C f x z) fun _=>ret (.nx,env)
noncomputable def eMt(C:Addr)(mt:Str)(g:List D→M D)(te:En→M D)(t:En→M (List D)):En→M D:=fun env=>bnd (te env) fun x=>bnd (ofD C mt x) fun _=>bnd (t env) fun ds=>g (x::ds)
noncomputable def eM0(C:Addr)(mt:Str)(g:List D→M D)(te:En→M D):En→M D:=fun env=>bnd (te env) fun x=>bnd (ofD C mt x) fun _=>g [x]
noncomputable def eMk(C:Addr)(g:List D→M D)(t:En→M (List D)):En→M D:=fun env=>bnd (t env) (mkD C g)
noncomputable def eS0:En→M D:=fun _=>set0D
noncomputable def eBad:En→M D:=fun _=>bad
noncomputable def sBad:Sm':=fun _=>bad
def iZp(t:En→M (List D)):En→M Its':=fun env=>bnd (t env) zipD
noncomputable def iEr(t:En→M (List D)):En→M Its':=fun env=>bnd (t env) enumRD
noncomputable def noStar:Expr→Bool
 | .Starred ..=>false
 |_=>true
theorem bM{a:Expr}{es:List Expr}{env:Env}(h:noStar a=true):starEach (a::es) env=(false,eval a env)::starEach es env:=by
 cases a<;>first|rfl|cases h
theorem fY{pos:Pos}{env:Env}:∀ {es:List Expr},es.all noStar=true→(backTo pos (starEach es env)).any (·.1)=false
 |[],_=>rfl
 |a::es,h=>by
  rw[Y20,Z11] at h;rw[bM h.1];exact fY h.2
theorem pG{pos:Pos}{env:Env}:∀ {es:List Expr},es.all noStar=true→(backTo pos (starEach es env)).all (fun x=>!x.1)=true
 |[],_=>rfl
 |a::es,h=>by
  rw[Y20,Z11] at h;rw[bM h.1];exact pG h.2
noncomputable def plainO:Expr→Bool
 | .Call (.Name ..) [] [] _=>false
 |_=>true
theorem iF{o:Expr}{m:Str}{env:Env}{w:Sem Value}(h:plainO o=true):attributeBase o m env w=w:=by
 unfold attributeBase
 split
 ·cases h
 ·rfl
theorem rE{o:Expr}{m:Str}{apos pos:Pos}{args:List Expr}{env:Env}(h0:plainO o=true)(h1:(apos.endLine==pos.line)=true)(h2:args.all noStar=true)(h3:args.length<29):
  eval (.Call (.Attribute o m apos) args [] pos) env=(do
   let ov ← eval o env
   standAt apos.atName
   let (f,first) ← holding [ov] (getMethod ov m (do return (← importBound o env).getD true))
   callWith pos f first (backTo pos (starEach args env)) (backToKw pos (keywordEach [] env))):=by
 rw[arm_eval_Call,iF h0];have hform:methodCallForm (args.length+([]:List Keyword).length) (backTo pos (starEach args env)) (backToKw pos (keywordEach [] env))=true:=by
  unfold methodCallForm;rw[pG h2];simp only[W37,Nat.add_zero,Bool.true_and,Z11,W18];exact⟨rfl,by show args.length+0<30;omega⟩
 have hpos:methodCallPos true o env apos pos=pure pos:=by unfold methodCallPos;simp[h1]
 unfold methodCall;simp only[hform,calleeOf,hpos,if_true,pure_bind]
noncomputable def noComp:Expr→Bool
 | .ListComp ..=>false
 | .SetComp ..=>false
 | .DictComp ..=>false
 |_=>true
theorem pH{a:Expr}{t:Option Expr}{l:Nat}{env:Env}(h:noComp a=true):swapsWith a t l env=pure false:=by
 unfold swapsWith;cases a<;>first|rfl|cases h
noncomputable def noName:Expr→Bool
 | .Name ..=>false
 |_=>true
theorem pI{a t:Expr}{l:Nat}{env:Env}(h:noName t=true):swapsWith a (some t) l env=pure false:=by
 cases hc:noComp a with
 |true=>exact pH hc
 |false=>cases a<;>first|(cases hc;done)|(unfold swapsWith;cases t<;>first|rfl|cases h)
noncomputable def noSwap:Expr→Expr→Bool
 | .Tuple .., .Tuple ..=>false
 | .List .., .Tuple ..=>false
 |_,_=>true
theorem wL{a t:Expr}{env:Env}(h:noSwap t a=true):swappedStores [t] a env=pure none:=by
 unfold swappedStores;cases t<;>first|rfl|(cases a<;>first|rfl|cases h)
theorem yE{t:Expr}{env:Env}(h:noStar t=true):(assignEach [t] env).map (·.2)=[assign t env]:=by
 cases t<;>first|rfl|cases h
noncomputable def plainT:Expr→Bool
 | .UnaryOp ..=>false
 | .BoolOp ..=>false
 | .IfExp ..=>false
 | .Compare ..=>false
 |_=>true
theorem aAn{a:Expr}{env:Env}(h:plainT a=true):∀ whole,isTrue a env whole=(do let v ← whole;standAt a.pos;holding [v] (truthy v)):=by
 intro w;cases a<;>first|rfl|cases h
noncomputable def plainIx:Expr→Bool
 | .Slice ..=>false
 | .Tuple ..=>false
 |_=>true
theorem wM{b:Expr}(h:plainIx b=true):PlainIx b:=by
 intro o i;cases b<;>first|rfl|cases h
noncomputable def noSet:Expr→Bool
 | .Set ..=>false
 |_=>true
theorem pJ{a:Expr}{env:Env}(h:noSet a=true):∀ x,foldedSetIterable a env x=pure x:=by
 intro x;cases a<;>first|rfl|cases h
theorem mE{env:Env}:∀ es:List Expr,(assignEach es env).length=es.length
 |[]=>rfl
 |a::es=>by
  have ih:=mE (env:=env) es;cases a<;>(show(assignEach es env).length+1=es.length+1;rw[ih])
theorem kZ{env:Env}:∀ {es:List Expr},es.all noStar=true→(assignEach es env).findIdx? (·.1)=none
 |[],_=>rfl
 |a::es,h=>by
  rw[Y20,Z11] at h;have ih:=kZ (env:=env) h.2;have e:assignEach (a::es) env=(false,assign a env)::assignEach es env:=by
   have:=h.1;cases a<;>first|rfl|cases this
  rw[e,List.findIdx?_cons];simp[ih]
noncomputable def parB(nm:List (Str×NameKind))(x:Str)(px:Pos)(y:Str)(py:Pos)(a b:Expr):Bool:=nm.lookup x==some .local&&nm.lookup y==some .local&&py.line==px.line&&!(x==y)&&noStar a&&noStar b
theorem any2{a b:Expr}{g:Expr→Bool}(h1:g a=false)(h2:g b=false):¬ ([a,b].any g=true):=by simp[h1,h2]
theorem fm2{e1 e2:Expr}{x y:Str}{f:Expr→Option Str}(h1:f e1=some x)(h2:f e2=some y):[e1,e2].filterMap f=[x,y]:=by simp[h1,h2]
theorem uM{a b:Expr}{env:Env}{x y:Str}{px py pt pt2:Pos}{kt k2:Nat}(hk:env.scope.kind=.function)(h:parB env.scope.names x px y py a b=true)(hc:[a,b].all (constantsAlone 8)=true→[a,b].all (foldedForSure 8)=true):
  swappedStores [.Tuple [.Name x px, .Name y py] kt pt] (.Tuple [a,b] k2 pt2) env=(if[a,b].all (foldedForSure 8)=true then pure none else pure (some [x,y])):=by
 unfold parB at h;simp only[Z11] at h;obtain⟨⟨⟨⟨⟨h1,h2⟩,h3⟩,h4⟩,h5⟩,h6⟩:=h;have hb:env.blockKind=.function:=by unfold Env.blockKind;rw[hk];rfl
 have hxy:¬ (x=y):=by simpa using h4
 have e1:env.kindOf x=some .local:=by unfold Env.kindOf;simpa using h1
 have e2:env.kindOf y=some .local:=by unfold Env.kindOf;simpa using h2
 have hed:([x,y].eraseDups).length=2:=by
  have:(y==x)=false:=by simpa using fun e:y=x=>hxy e.symm
  simp[List.eraseDups_cons,this]
 unfold swappedStores;dsimp only;rw[hb];refine(if_neg (by simp)).trans ?_;refine(if_neg (any2 (by cases a<;>first|rfl|cases h5) (by cases b<;>first|rfl|cases h6))).trans ?_;rw[fm2 (x:=x) (y:=y) (by dsimp only[List.head?,Option.map,Option.getD,Expr.pos];rw[e1];simp) (by dsimp only[List.head?,Option.map,Option.getD,Expr.pos];rw[e2];simp only[Y31,Bool.true_and];rw[if_pos h3])];refine(if_neg (by rw[hed];simp)).trans ?_
 by_cases hf:[a,b].all (foldedForSure 8)=true
 ·rw[if_pos hf,if_pos hf]
 ·rw[if_neg hf,if_neg hf];refine(if_neg fun z=>hf (hc z)).trans ?_
  rfl
section
variable{α β γ δ:Type}
noncomputable def o1(x:Option α)(f:α→β):Option β:=match x with
 |some a=>some (f a)
 |none=>none
noncomputable def o2(x:Option α)(y:Option β)(f:α→β→γ):Option γ:=match x with
 |some a=>o1 y (f a)
 |none=>none
noncomputable def o3(x:Option α)(y:Option β)(z:Option γ)(f:α→β→γ→δ):Option δ:=match x with
 |some a=>o2 y z (f a)
 |none=>none
noncomputable def grd(b:Bool)(x:Option α):Option α:=match b with
 |true=>x
 |false=>none
theorem aJ{x:Option α}{f:α→β}{z:β}(h:o1 x f=some z):∃ a,x=some a∧f a=z:=by
 cases x with
 |none=>cases h
 |some a=>exact⟨a,rfl,U14 h⟩
theorem bJ{x:Option α}{y:Option β}{f:α→β→γ}{z:γ}(h:o2 x y f=some z):∃ a b,x=some a∧y=some b∧f a b=z:=by
 cases x with
 |none=>cases h
 |some a=>obtain⟨b,h1,h2⟩:=aJ h;exact⟨a,b,rfl,h1,h2⟩
theorem gU{x:Option α}{y:Option β}{z:Option γ}{f:α→β→γ→δ}{w:δ}(h:o3 x y z f=some w):∃ a b c,x=some a∧y=some b∧z=some c∧f a b c=w:=by
 cases x with
 |none=>cases h
 |some a=>obtain⟨b,c,h1,h2,h3⟩:=bJ h;exact⟨a,b,c,rfl,h1,h2,h3⟩
theorem aD{b:Bool}{x:Option α}{z:α}(h:grd b x=some z):b=true∧x=some z:=by
 cases b with
 |false=>cases h
 |true=>exact⟨rfl,h⟩
end
structure ClsI where
 C:Addr
 fs:List Str
 ms:List (Str×(List D→M D))
 ctr:List (Str×(List D→M D))
structure Gt where
 defs:List (Str×(List D→M D))
 cons:List (Str×D)
 blt:List Str
 cls:ClsI
structure GtOk (G:Gt) (k:Nat) (P:Program) (w:World) (K:Fg9) (mg:Str→Option Value) (base:Heap):Prop where
 defs:∀ x g,G.defs.lookup x=some g→∃ f fd ps,FnOk P w K mg base CX0 k f fd ps (LF ⟨K,P,w⟩ g)∧mg x=some (.ref f)∧PySem.W.keepIn K (.ref f)=true∧Binds K fd ps []∧∃ o,K.lookup f=some o∧o.data=.func fd
 fs:∀ f,G.cls.fs.contains f=true→Cls K G.cls.C∧NoAttr K G.cls.C f
 ms:∀ x g,G.cls.ms.lookup x=some g→Cls K G.cls.C∧∃ f fd ps,Meth K G.cls.C x f∧FnOk P w K mg base CX0 k f fd ps (LF ⟨K,P,w⟩ g)∧Binds K fd ps []
 ctr:∀ x g,G.cls.ctr.lookup x=some g→∃ f fd ps j,k=j+1∧Mk K G.cls.C f∧FnOk P w K mg base CX0 j f fd ps (LF ⟨K,P,w⟩ g)∧mg x=some (.ref G.cls.C)∧Binds K fd ps []
 cons:∀ x d,G.cons.lookup x=some d→∃ v u,mg x=some u∧RelV v u∧∀ m H,RV ⟨K,P,w⟩ m H v d
 blt:∀ x,G.blt.contains x=true→mg x=none
structure Fr where
 N:List Str
 nm:List (Str×NameKind)
 k:Nat
structure Ok (G:Gt) (F:Fr) (X:Cx):Prop where
 g:GtOk G F.k X.prog X.w X.K X.mg X.base
 n:X.N=F.N
 s:X.env.scope.names=F.nm
 kind:X.env.scope.kind=.function
 cells:∀ y,(F.nm.lookup y=some .cell∨F.nm.lookup y=some .free)→∃ c,X.env.cells.lookup y=some c
 r:Room F.k X.A
 calm:X.calm=true
noncomputable def okN(x:Str):Bool:=!(x==("__debug__":Str))&&!(x==("__classdict__":Str))&&!(x==("__name__":Str))
noncomputable def visB(nm:List (Str×NameKind))(x:Str):Bool:=match nm.lookup x with
 |some .local=>true
 |some .cell=>true
 |some .free=>true
 |_=>false
noncomputable def locB(nm:List (Str×NameKind))(x:Str):Bool:=match nm.lookup x with
 |some .local=>true
 |some .cell=>true
 |_=>false
noncomputable def glB(nm:List (Str×NameKind))(x:Str):Bool:=match nm.lookup x with
 |some .globalImplicit=>true
 |_=>false
section
variable{G:Gt}{F:Fr}{X:Cx}{x:Str}
theorem Ok.vis(ok:Ok G F X)(h:visB F.nm x=true):Vis X.env.scope x:=by
 unfold visB at h;unfold Vis;rw[ok.s]
 split at h<;>first|(exact .inl ‹_›)|(exact .inr (.inl ‹_›))|(exact .inr (.inr ‹_›))|cases h
theorem Ok.loc(ok:Ok G F X)(h:locB F.nm x=true):Loc X.env.scope x:=by
 unfold locB at h;unfold Loc;rw[ok.s]
 split at h<;>first|(exact .inl ‹_›)|(exact .inr ‹_›)|cases h
theorem Ok.gl(ok:Ok G F X)(h:glB F.nm x=true):Gl X x:=by
 unfold glB at h;unfold Gl Env.kindOf;rw[ok.s]
 split at h
 ·assumption
 ·cases h
theorem jZ(h:okN x=true):(x==("__debug__":Str))=false∧(x==("__classdict__":Str))=false∧x≠"__name__":=by
 unfold okN at h;simp only[Z11,Z20] at h;exact⟨h.1.1,h.1.2,by intro e;have:=h.2;rw[e] at this;simp at this⟩
noncomputable def ixOf(N:List Str)(x:Str):Option Nat:=match N with
 |[]=>none
 |y::N=>if(y==x)=true then some 0 else o1 (ixOf N x) (·+1)
theorem dG:∀ {N:List Str} {i:Nat},ixOf N x=some i→N[i]?=some x
 |[],i,h=>by cases h
 |y::N,i,h=>by
  unfold ixOf at h
  split at h
  ·rename_i e;cases h;simp at e;rw[e];rfl
  ·obtain⟨j,h1,rfl⟩:=aJ h
   simpa using dG h1
theorem lookup_mem{β:Type}:∀ {l:List (Str×β)} {y:β},l.lookup x=some y→(x,y)∈l:=fun h=>Z18 h
end
def opF:Operator→Option (D→D→M D)
 | .Add=>some addD
 | .Sub=>some subD
 | .Mult=>some mulD
 | .FloorDiv=>some fdivD
 | .Mod=>some modD
 | .Pow=>some powD
 |_=>none
noncomputable def cmF:CmpOp→Option (D→D→M D)
 | .Eq=>some eqD
 | .NotEq=>some neD
 | .Lt=>some ltD
 | .LtE=>some leD
 | .Gt=>some gtD
 | .GtE=>some geD
 | .In=>some inD
 | .NotIn=>some notinD
 | .Is=>some isD
 |_=>none
theorem aHE{X:Cx}{op:Operator}{f:D→D→M D}(h:opF op=some f):OpR X (binaryOp op) (LR X.kw f):=by
 cases op<;>first|(cases h;first|exact aGP|exact aGQ|exact aGT|exact aEp|exact aGR|exact aGS)|cases h
def ioF:Operator→Option (D→D→M D)
 | .Add=>some iaddD
 | .Sub=>some isubD
 |_=>none
theorem aCv{X:Cx}{op:Operator}{f:D→D→M D}(h:ioF op=some f):OpR X (inplaceOp op) (LR X.kw f):=by
 cases op<;>first|(cases h;first|exact aHg|exact aHz)|cases h
theorem aCw{X:Cx}{k:Nat}{op:CmpOp}{f:D→D→M D}(hr:Room k X.A)(h:cmF op=some f):OpR X (compareOp op) (LR X.kw f):=by
 cases op<;>first|(cases h;first|exact aID (hu60' hr)|exact aIE (hu60' hr)|exact aIz|exact aIA|exact aIB|exact aIC|exact aIF (hu1 hr)|exact aBM (hu1 hr)|exact aIG)|cases h
noncomputable def bfs:List (Str×String×(List D→M D)):=[("len","len",lenD),("max","max",max2D),("isinstance","isinstance",isinstD),("all","all",allD),("sorted","sorted",sortedD)]
def tfs:List (Str×String×(List D→M D)):=[("list","list",list2D),("tuple","tuple",tupD),("int","int",int2D),("str","str",str1D)]
noncomputable def tys:List (Str×String):=[("str","str")]
theorem aHF{X:Cx}{x:Str}{id:String}{g:List D→M D}(hc:X.calm=true)(h:bfs.lookup x=some (id,g)):CallR X (.builtin id) (LC X.kw g)∧bootBuiltins x=some (.builtin id):=by
 have h:=lookup_mem h;simp only[bfs,W12,Z19,V18,or_false] at h;rcases h with⟨rfl,rfl,rfl⟩|⟨rfl,rfl,rfl⟩|⟨rfl,rfl,rfl⟩|⟨rfl,rfl,rfl⟩|⟨rfl,rfl,rfl⟩<;>
  refine⟨?_,by decide +kernel⟩<;>first|exact aHy hc|exact aAf hc|exact aGX|exact aGY hc|exact zZ
theorem aHG{X:Cx}{x:Str}{id:String}{g:List D→M D}(hc:X.calm=true)(h:tfs.lookup x=some (id,g)):CallR X (.type id) (LC X.kw g)∧bootBuiltins x=some (.type id):=by
 have h:=lookup_mem h;simp only[tfs,W12,Z19,V18,or_false] at h;rcases h with⟨rfl,rfl,rfl⟩|⟨rfl,rfl,rfl⟩|⟨rfl,rfl,rfl⟩|⟨rfl,rfl,rfl⟩<;>refine⟨?_,by decide +kernel⟩<;>first|exact aCu hc|exact aBR|exact aEP|exact aAk
theorem aHH{x:Str}{T:String}(h:tys.lookup x=some T):bootBuiltins x=some (.type T):=by
 have h:=lookup_mem h;simp only[tys,W12,Z19,V18,or_false] at h;obtain⟨rfl,rfl⟩:=h
 decide +kernel
structure MOk (X:Cx) (name:Str) (T:String) (f:D→List D→M D):Prop where
 ex:∃ id,PlainAttrs T∧Slot T name id∧typeOf (.builtin id)=pure (.type "method_descriptor")∧MtR X id (LM X.kw f)
def mts:List (Str×String×(D→List D→M D)):=[("append","list",appendD),("pop","list",popD),("extend","list",extendD),("join","str",joinD)]
theorem aCx{X:Cx}{x:Str}{T:String}{f:D→List D→M D}(h:mts.lookup x=some (T,f)):MOk X x T f:=by
 have h:=lookup_mem h;simp only[mts,W12,Z19,V18,or_false] at h;rcases h with⟨rfl,rfl,rfl⟩|⟨rfl,rfl,rfl⟩|⟨rfl,rfl,rfl⟩|⟨rfl,rfl,rfl⟩
 ·exact⟨_,V34,PySem.F.slot_list_append,PySem.F.type_list_append,aAa⟩
 ·exact⟨_,V34,PySem.F.slot_list_pop,PySem.F.type_list_pop,aHa⟩
 ·exact⟨_,V34,PySem.F.slot_list_extend,PySem.F.type_list_extend,aAb⟩
 ·exact⟨_,PySem.F.plainAttrs_str,PySem.F.slot_str_join,PySem.F.type_str_join,aEL⟩
structure Cr where
 e:Fr→Expr→Option (En→M D)
 t:Fr→Expr→Option (En→M Bool)
structure Snd (G:Gt) (r:Cr):Prop where
 e:∀ {F:Fr} {e:Expr} {t:En→M D},r.e F e=some t→∀ {X:Cx},Ok G F X→QE X e t
 t:∀ {F:Fr} {e:Expr} {t:En→M Bool},r.t F e=some t→∀ {X:Cx},Ok G F X→QT X e t
section
noncomputable def cName(G:Gt)(F:Fr)(x:Str):Option (En→M D):=match ixOf F.N x with
 |some i=>grd (visB F.nm x&&okN x) (some (eV i))
 |none=>grd (glB F.nm x&&okN x) (match G.cons.lookup x with
  |some d=>some (eC d)
  |none=>grd (G.blt.contains x) (o1 (tys.lookup x) fun T=>eC (.ty T)))
noncomputable def cConst:Const→Option (En→M D)
 | .int i=>some (eC (.i i))
 | .str s=>some (eC (.s s))
 | .bool b=>some (eC (.b b))
 | .none=>some (eC .no)
 |_=>none
noncomputable def cUn(r:Cr)(F:Fr)(op:UnaryOp)(a:Expr):Option (En→M D):=match op with
 | .USub=>o1 (r.e F a) (eUn negD)
 | .Not=>o1 (r.e F a) eNo
 |_=>none
noncomputable def cCmp(r:Cr)(F:Fr)(a:Expr)(ops:List CmpOp)(bs:List Expr):Option (En→M D):=match ops,bs with
 |[op],[b]=>grd (!behindInMarks op b) (o3 (cmF op) (r.e F a) (r.e F b) eOp)
 |_,_=>none
noncomputable def cBo(r:Cr)(F:Fr)(op:BoolOp):List Expr→Option (En→M D)
 |[]=>none
 |[a]=>r.e F a
 |a::b::rest=>o2 (r.e F a) (cBo r F op (b::rest)) (match op with | .And=>eAn| .Or=>eOo)
noncomputable def cA(r:Cr)(F:Fr):List Expr→Option (En→M (List D))
 |[]=>some aN
 |a::es=>grd (noStar a) (o2 (r.e F a) (cA r F es) aC)
noncomputable def cO(r:Cr)(F:Fr):Option Expr→Option (En→M (Option Int))
 |none=>some oN
 |some a=>o1 (r.e F a) oS
noncomputable def cSub(r:Cr)(F:Fr)(a b:Expr):Option (En→M D):=match b with
 | .Slice lo hi none _=>o3 (r.e F a) (cO r F lo) (cO r F hi) eSl
 | .Slice none none (some c) _=>o2 (r.e F a) (r.e F c) eRl
 |b=>grd (plainIx b) (o2 (r.e F a) (r.e F b) eIx)
noncomputable def cCallN(G:Gt)(r:Cr)(F:Fr)(x:Str)(args:List Expr):Option (En→M D):=match ixOf F.N x,args with
 |none,a::es=>grd (glB F.nm x&&okN x&&es.all noStar) (match G.defs.lookup x with
  |some g=>o1 (cA r F (a::es)) (eCl g)
  |none=>grd (G.blt.contains x) (match bfs.lookup x with
   |some (_,g)=>o1 (cA r F (a::es)) (eCl g)
   |none=>match tfs.lookup x with
    |some (_,g)=>o1 (cA r F (a::es)) (eCl g)
    |none=>none))
 |some i,a::es=>grd (visB F.nm x&&okN x&&noStar a) (o1 (cA r F (a::es)) (eCv G.defs i))
 |_,_=>none
noncomputable def cCallK(G:Gt)(r:Cr)(F:Fr)(x:Str)(args:List Expr):Option (En→M D):=match G.cls.ctr.lookup x,args with
 |some g,a::es=>grd (glB F.nm x&&okN x&&es.all noStar) (o1 (cA r F (a::es)) (eMk G.cls.C g))
 |none,[]=>grd (x==("set":Str)&&glB F.nm "set"&&G.blt.contains "set") (some eS0)
 |_,args=>cCallN G r F x args
noncomputable def isRev:List Expr→Option Expr
 |[.Call (.Name z _) [a] [] _]=>grd (z==("reversed":Str)) (some a)
 |_=>none
noncomputable def cCallL(G:Gt)(r:Cr)(F:Fr)(x:Str)(args:List Expr):Option (En→M D):=match isRev args with
  |some a=>grd (x==("list":Str)&&glB F.nm "list"&&glB F.nm "reversed"&&G.blt.contains "list"&&G.blt.contains "reversed"&&noStar a) (o1 (cA r F [a]) (eCl lrevD))
  |none=>cCallK G r F x args
noncomputable def cCallO(G:Gt)(r:Cr)(F:Fr)(o:Expr)(m:Str)(args:List Expr):Option (En→M D):=match G.cls.ms.lookup m,args with
 |some g,[]=>o1 (r.e F o) (eM0 G.cls.C m g)
 |some g,a::es=>grd ((a::es).all noStar&&decide ((a::es).length<29)) (o2 (r.e F o) (cA r F (a::es)) (eMt G.cls.C m g))
 |none,_=>grd (m==("add":Str)) (some eBad)
noncomputable def cCallM(G:Gt)(r:Cr)(F:Fr)(o:Expr)(m:Str)(apos:Pos)(args:List Expr)(cpos:Pos):Option (En→M D):=
 grd (plainO o&&apos.endLine==cpos.line) (match mts.lookup m,args with
  |some (T,f),[]=>o1 (r.e F o) (eB0 T f)
  |some (T,f),a::es=>grd ((a::es).all noStar&&decide ((a::es).length<29)) (o2 (r.e F o) (cA r F (a::es)) (eBm T f))
  |none,args=>cCallO G r F o m args)
noncomputable def cCall(G:Gt)(r:Cr)(F:Fr)(f:Expr)(args:List Expr)(kws:List Keyword)(pos:Pos):Option (En→M D):=match kws with
 |[]=>match f with
  | .Name x _=>cCallL G r F x args
  | .Attribute o m apos=>cCallM G r F o m apos args pos
  |_=>none
 |_=>none
end
section
variable{G:Gt}{r:Cr}{F:Fr}{X:Cx}{pos:Pos}
theorem aCy{x:Str}{t:En→M D}(h:cName G F x=some t)(ok:Ok G F X):QE X (.Name x pos) t:=by
 unfold cName at h
 split at h
 ·rename_i i hi;obtain⟨h1,h2⟩:=aD h;cases h2;rw[Z11] at h1;exact qv i (by rw[ok.n];exact dG hi) (ok.vis h1.1) (jZ h1.2).1 (jZ h1.2).2.1
 ·obtain⟨h1,h2⟩:=aD h;rw[Z11] at h1
  split at h2
  ·rename_i d hd;cases h2;obtain⟨v,u,e1,e2,e3⟩:=ok.g.cons _ _ hd;exact aEk d (ok.gl h1.1) e1 e2 e3 (jZ h1.2).1
  ·obtain⟨h3,h4⟩:=aD h2;obtain⟨T,h5,rfl⟩:=aJ h4;exact aIu (ok.gl h1.1) (ok.g.blt _ h3) (aHH h5) (jZ h1.2).2.2 (jZ h1.2).1
theorem aAo{c:Const}{k:Nat}{t:En→M D}(h:cConst c=some t):QE X (.Constant c k pos) t:=by
 unfold cConst at h
 split at h<;>first|(cases h;first|exact aGz|exact aGA|exact aIt|exact aGB)|cases h
theorem aHI(hr:Snd G r){op:UnaryOp}{a:Expr}{t:En→M D}(h:cUn r F op a=some t)(ok:Ok G F X):QE X (.UnaryOp op a pos) t:=by
 unfold cUn at h
 split at h
 ·obtain⟨ta,h1,rfl⟩:=aJ h;exact aIy aGU (hr.e h1 ok)
 ·obtain⟨ta,h1,rfl⟩:=aJ h;exact aGL (hr.e h1 ok)
 ·cases h
theorem aER(hr:Snd G r){a:Expr}{ops:List CmpOp}{bs:List Expr}{t:En→M D}(h:cCmp r F a ops bs=some t)(ok:Ok G F X):QE X (.Compare a ops bs pos) t:=by
 unfold cCmp at h
 split at h
 ·obtain⟨h0,h⟩:=aD h;obtain⟨f,ta,tb,h1,h2,h3,rfl⟩:=gU h;exact aGC (aCw ok.r h1) (hr.e h2 ok) (hr.e h3 ok) (by simpa using h0)
 ·cases h
theorem wN(hr:Snd G r){op:BoolOp}:∀ {vs:List Expr} {t:En→M D},cBo r F op vs=some t→Ok G F X→QE X (.BoolOp op vs pos) t
 |[],t,h,ok=>by cases h
 |[a],t,h,ok=>aGJ (hr.e h ok)
 |a::b::rest,t,h,ok=>by
  unfold cBo at h;obtain⟨ta,tb,h1,h2,rfl⟩:=bJ h;cases op with
  |And=>exact aGK (hr.e h1 ok) (wN hr h2 ok)
  |Or=>exact aIx (hr.e h1 ok) (wN hr h2 ok)
theorem gP(hr:Snd G r):∀ {es:List Expr} {t:En→M (List D)},cA r F es=some t→Ok G F X→QA X es t
 |[],t,h,ok=>by cases h;exact aGM
 |a::es,t,h,ok=>by
  unfold cA at h;obtain⟨h0,h⟩:=aD h;obtain⟨ta,tb,h1,h2,rfl⟩:=bJ h;exact aEn (hr.e h1 ok) (gP hr h2 ok) (bM h0)
theorem sQ:∀ {es:List Expr} {t:En→M (List D)},cA r F es=some t→es.all noStar=true
 |[],_,_=>rfl
 |a::es,t,h=>by
  unfold cA at h;obtain⟨h0,h⟩:=aD h;obtain⟨ta,tb,h1,h2,rfl⟩:=bJ h;rw[Y20,h0,sQ h2];rfl
theorem aCz(hr:Snd G r){o:Option Expr}{t:En→M (Option Int)}(h:cO r F o=some t)(ok:Ok G F X):QO X o t:=by
 cases o with
 |none=>cases h;exact aEs
 |some a=>obtain⟨ta,h1,rfl⟩:=aJ h;exact aEt (hr.e h1 ok)
theorem aES(hr:Snd G r){a b:Expr}{t:En→M D}(h:cSub r F a b=some t)(ok:Ok G F X):QE X (.Subscript a b pos) t:=by
 unfold cSub at h
 split at h
 ·obtain⟨ta,tl,th,h1,h2,h3,rfl⟩:=gU h;exact aBQ (hr.e h1 ok) (aCz hr h2 ok) (aCz hr h3 ok)
 ·obtain⟨ta,tb,h1,h2,rfl⟩:=bJ h;exact aIR (hr.e h1 ok) (hr.e h2 ok)
 ·obtain⟨h0,h⟩:=aD h;obtain⟨ta,tb,h1,h2,rfl⟩:=bJ h;exact aIH (hu1 ok.r) (hr.e h1 ok) (hr.e h2 ok) (wM h0)
theorem aAp(hr:Snd G r){x:Str}{p:Pos}{args:List Expr}{t:En→M D}(h:cCallN G r F x args=some t)(ok:Ok G F X):QE X (.Call (.Name x p) args [] pos) t:=by
 unfold cCallN at h
 split at h
 ·rename_i a es hi;obtain⟨h0,h⟩:=aD h;rw[Z11,Z11] at h0;obtain⟨⟨h0,h0'⟩,hst⟩:=h0;have hN:=jZ h0';have sc:∀ {tt},cA r F (a::es)=some tt→starEach (a::es) X.env=(false,eval a X.env)::starEach es X.env:=fun hh=>bM (by have:=sQ hh;rw[Y20,Z11] at this;exact this.1)
  split at h
  ·rename_i g hd;obtain⟨ta,h2,rfl⟩:=aJ h;obtain⟨f,fd,ps,e1,e2,e3,e4,_⟩:=ok.g.defs _ _ hd;exact aEo e1 ok.r (ok.gl h0) e2 e3 e4 pass0 (gP hr h2 ok) hN.1 (sc h2) (fY hst)
  ·obtain⟨h1,h⟩:=aD h
   split at h
   ·rename_i id g hb;obtain⟨ta,h2,rfl⟩:=aJ h;obtain⟨q1,q2⟩:=aHF (X:=X) ok.calm hb;exact aBH q1 (ok.gl h0) (ok.g.blt _ h1) q2 (gP hr h2 ok) hN.2.2 hN.1 (sc h2) (fY hst)
   ·split at h
    ·rename_i id g hb;obtain⟨ta,h2,rfl⟩:=aJ h;obtain⟨q1,q2⟩:=aHG (X:=X) ok.calm hb;exact zX q1 (ok.gl h0) (ok.g.blt _ h1) q2 (gP hr h2 ok) hN.2.2 hN.1 (sc h2) (fY hst)
    ·cases h
 ·rename_i i a es hi;obtain⟨h0,h⟩:=aD h;simp only[Z11] at h0;obtain⟨⟨h0,h0'⟩,hst⟩:=h0;have hN:=jZ h0';obtain⟨ta,h2,rfl⟩:=aJ h;exact aCp ⟨fun x g e=>by obtain⟨f,fd,ps,e1,e2,e3,e4,o,e5,e6⟩:=ok.g.defs _ _ e;exact⟨f,fd,ps,o,e1,e2,e5,e6,e4⟩⟩ ok.r (gP hr h2 ok) (by rw[ok.n];exact dG hi) (ok.vis h0) hN.1 hN.2.1 (bM hst)
 ·cases h
theorem aAq(hr:Snd G r){x:Str}{p:Pos}{args:List Expr}{t:En→M D}(h:cCallK G r F x args=some t)(ok:Ok G F X):QE X (.Call (.Name x p) args [] pos) t:=by
 unfold cCallK at h
 split at h
 ·rename_i g a es hd;obtain⟨h0,h⟩:=aD h;simp only[Z11] at h0;obtain⟨⟨h0,h0'⟩,hst⟩:=h0;have hN:=jZ h0';obtain⟨ta,h2,rfl⟩:=aJ h;obtain⟨f,fd,ps,j,ej,e1,e2,e3,e4⟩:=ok.g.ctr _ _ hd;exact aEK e1 e2 (by rw[← ej];exact ok.r) (ok.gl h0) e3 e4 pass0 (gP hr h2 ok) hN.1 (bM (by have:=sQ h2;rw[Y20,Z11] at this;exact this.1)) (fY hst)
 ·obtain⟨h0,h'⟩:=aD h;clear h;simp only[Z11] at h0;obtain⟨⟨h0,h1⟩,h2⟩:=h0;simp at h0;subst h0;cases h';exact aEM (ok.gl h1) (ok.g.blt _ h2)
 ·exact aAp hr h ok
theorem pK{args:List Expr}{a:Expr}(h:isRev args=some a):∃ p p2,args=[.Call (.Name "reversed" p) [a] [] p2]:=by
 unfold isRev at h
 split at h
 ·obtain⟨h1,h2⟩:=aD h;cases h2;simp at h1;subst h1;exact⟨_,_,rfl⟩
 ·cases h
theorem aAr(hr:Snd G r){x:Str}{p:Pos}{args:List Expr}{t:En→M D}(h:cCallL G r F x args=some t)(ok:Ok G F X):QE X (.Call (.Name x p) args [] pos) t:=by
 unfold cCallL at h
 split at h
 ·rename_i a hz;obtain⟨p1,p2,rfl⟩:=pK hz;obtain⟨h0,h3⟩:=aD h;clear h;simp only[Z11] at h0;obtain⟨⟨⟨⟨⟨z1,z2⟩,z3⟩,z4⟩,z5⟩,z6⟩:=h0;simp at z1;subst z1;obtain⟨ta,h2,rfl⟩:=aJ h3;exact aEQ (aEO ok.calm (ok.gl z2) (ok.g.blt _ z4) (ok.gl z3) (ok.g.blt _ z5) (gP hr h2 ok) (bM z6))
 ·exact aAq hr h ok
theorem aAs(hr:Snd G r){o:Expr}{m:Str}{apos cpos:Pos}{args:List Expr}{t:En→M D}(h0:plainO o=true)(h1:(apos.endLine==cpos.line)=true)(h:cCallO G r F o m args=some t)(ok:Ok G F X):QE X (.Call (.Attribute o m apos) args [] cpos) t:=by
 unfold cCallO at h
 split at h
 ·rename_i g hd;obtain⟨to,h2,rfl⟩:=aJ h;obtain⟨c,f,fd,ps,e1,e2,e3⟩:=ok.g.ms _ _ hd;exact aCk (hr.e h2 ok) c e1 e2 ok.r e3 pass0 (rE h0 h1 rfl (by decide))
 ·rename_i g a es hd;obtain⟨h3,h⟩:=aD h;rw[Z11] at h3;obtain⟨to,ta,h2,h4,rfl⟩:=bJ h;obtain⟨c,f,fd,ps,e1,e2,e3⟩:=ok.g.ms _ _ hd;have hs:=h3.1;rw[Y20,Z11] at hs;exact aEJ (hr.e h2 ok) c e1 e2 ok.r e3 pass0 (gP hr h4 ok) (bM hs.1) (fY hs.2) (rE h0 h1 h3.1 (of_decide_eq_true h3.2))
 ·obtain⟨_,h⟩:=aD h;cases h;exact aHu
theorem aAt(hr:Snd G r){o:Expr}{m:Str}{apos cpos:Pos}{args:List Expr}{t:En→M D}(h:cCallM G r F o m apos args cpos=some t)(ok:Ok G F X):QE X (.Call (.Attribute o m apos) args [] cpos) t:=by
 unfold cCallM at h;obtain⟨h0,h'⟩:=aD h;clear h;rw[Z11] at h0
 split at h'
 ·rename_i T f hm;obtain⟨to,h1,rfl⟩:=aJ h';obtain⟨id,q1,q2,q3,q4⟩:=(aCx (X:=X) hm).ex;exact aGZ q1 q2 q3 q4 (hr.e h1 ok) (iF h0.1) h0.2
 ·rename_i T f a es hm;obtain⟨h3,h5⟩:=aD h';clear h';obtain⟨to,ta,h1,h2,rfl⟩:=bJ h5;obtain⟨id,q1,q2,q3,q4⟩:=(aCx (X:=X) hm).ex;rw[Z11] at h3;have hs:=h3.1;rw[Y20,Z11] at hs;have hl:=of_decide_eq_true h3.2;refine aIJ q1 q2 q3 q4 (hr.e h1 ok) (gP hr h2 ok) (iF h0.1) ?_ h0.2 (bM hs.1) (fY hs.2);rw[pG h3.1];simp only[W37,Nat.add_zero,Bool.true_and,Z11,W18];exact⟨rfl,by simp at hl ⊢;omega⟩
 ·exact aAs hr h0.1 h0.2 h' ok
theorem aCA(hr:Snd G r){f:Expr}{args:List Expr}{kws:List Keyword}{t:En→M D}(h:cCall G r F f args kws pos=some t)(ok:Ok G F X):QE X (.Call f args kws pos) t:=by
 unfold cCall at h
 split at h
 ·split at h
  ·exact aAr hr h ok
  ·exact aAt hr h ok
  ·cases h
 ·cases h
end
section
noncomputable def cIr(G:Gt)(r:Cr)(F:Fr)(args:List Expr):Option (En→M Its'):=match args with
 |[a]=>grd (glB F.nm "range"&&G.blt.contains "range"&&noStar a) (o1 (cA r F [a]) iR1)
 |_=>none
noncomputable def isTuple:Expr→Bool
 | .Tuple ..=>true
 |_=>false
noncomputable def itFn:Expr→Option (Str×List Expr)
 | .Call (.Name x _) args [] _=>some (x,args)
 |_=>none
noncomputable def isItems:Expr→Option (Expr×Pos×Pos)
 | .Call (.Attribute o m apos) [] [] cpos=>grd (m==("items":Str)) (some (o,apos,cpos))
 |_=>none
noncomputable def isZ(x:Str):List Expr→Option (Expr×Expr)
 |[a,b]=>grd (x==("zip":Str)) (some (a,b))
 |_=>none
noncomputable def cIt(G:Gt)(r:Cr)(F:Fr)(tg e:Expr):Option (En→M Its'):=match itFn e with
 |some (x,args)=>(match x==("range":Str),x==("enumerate":Str),args with
  |true,_,args=>cIr G r F args
  |_,true,[a]=>(match isRev [a] with
   |some b=>grd (isTuple tg&&glB F.nm "enumerate"&&G.blt.contains "enumerate"&&glB F.nm "reversed"&&G.blt.contains "reversed"&&noStar b) (o1 (cA r F [b]) iEr)
   |none=>grd (isTuple tg&&glB F.nm "enumerate"&&G.blt.contains "enumerate"&&noStar a) (o1 (cA r F [a]) iEn))
  |_,_,args=>(match isZ x args with
   |some (a,b)=>grd (isTuple tg&&glB F.nm "zip"&&G.blt.contains "zip"&&noStar a&&noStar b) (o1 (cA r F [a,b]) iZp)
   |none=>o1 (r.e F e) iS))
 |none=>(match isItems e with
  |some (o,apos,cpos)=>grd (isTuple tg&&plainO o&&apos.endLine==cpos.line) (o1 (r.e F o) iIt)
  |none=>o1 (r.e F e) iS)
noncomputable def tgNames:Expr→Option (List Str×(D→Sto→Option (List D)))
 | .Name x _=>some ([x],bd1)
 | .Tuple es _ _=>o1 (es.foldr (fun e l=>match e with | .Name x _=>o1 l (x::·)|_=>none) (some [])) fun xs=>(xs,bdT xs.length)
 |_=>none
end
noncomputable def ixs(N:List Str):List Str→Option (List Nat)
 |[]=>some []
 |y::l=>o2 (ixOf N y) (ixs N l) (·::·)
noncomputable def relN(nm names:List (Str×NameKind)):List (Str×NameKind):=names.map fun(n,k)=>if(k==.free&&nm.lookup n==some .cell) then(n, .cell) else(n,k)
theorem lN{env:Env}:∀ (names:List (Str×NameKind)) (acc:List (Str×Addr)),(∀ y∈names,y.2=.free→∃ c,env.cells.lookup y.1=some c)→(∀ y c,acc.lookup y=some c→env.cells.lookup y=some c)→
  ∃ cl,(forIn names acc (fun(x:Str×NameKind) cs=>match x with
   |(name,kind)=>if(kind==.free)=true then do
     let a ← cellOf env name
     pure (ForInStep.yield ((name,a)::cs))
    else pure (ForInStep.yield cs)):Sem (List (Str×Addr)))=pure cl∧(∀ y c,cl.lookup y=some c→env.cells.lookup y=some c)∧(∀ y∈names,y.2=.free→∃ c,cl.lookup y.1=some c)∧∀ y c,acc.lookup y=some c→∃ c',cl.lookup y=some c'
 |[],acc,_,h=>⟨acc,rfl,h,fun y hy=>by simp at hy,fun y c e=>⟨c,e⟩⟩
 |(n,k)::names,acc,h1,h2=>by
  rw[V33]
  by_cases hk:(k==.free)=true
  ·have hk':k=.free:=by simpa using hk
   obtain⟨c,hc⟩:=h1 (n,k) (by simp) hk';obtain⟨cl,g1,g2,g3,g4⟩:=lN names ((n,c)::acc) (fun y hy=>h1 y (U13 _ hy)) (by
    intro y d e;rw[Z31] at e
    split at e
    ·rename_i hy;cases e;rw[show y=n by simpa using hy];exact hc
    ·exact h2 y d e)
   refine⟨cl,?_,g2,?_,?_⟩
   ·simp only[hk,if_true];unfold cellOf;rw[hc];exact g1
   ·intro y hy hf;rcases W12.mp hy with rfl|hy
    ·exact g4 n c (by simp)
    ·exact g3 y hy hf
   ·intro y d e
    by_cases hy:y=n
    ·exact g4 y c (by rw[Z31];simp[hy])
    ·have q:(y==n)=false:=by simpa using hy
     exact g4 y d (by rw[Z31,q];exact e)
  ·obtain⟨cl,g1,g2,g3,g4⟩:=lN names acc (fun y hy=>h1 y (U13 _ hy)) h2;refine⟨cl,?_,g2,?_,g4⟩
   ·simp only[hk];exact g1
   ·intro y hy hf;rcases W12.mp hy with rfl|hy
    ·exact absurd (by simpa using hf) hk
    ·exact g3 y hy hf
theorem wO{scope:Scope}{env:Env}(h:∀ y∈scope.names,y.2=.free→∃ c,env.cells.lookup y.1=some c):
  ∃ cl,closureFor scope env=pure cl∧(∀ y c,cl.lookup y=some c→env.cells.lookup y=some c)∧∀ y∈scope.names,y.2=.free→∃ c,cl.lookup y.1=some c:=by
 obtain⟨cl,g1,g2,g3,_⟩:=lN scope.names [] h (fun y c e=>by cases e);refine⟨cl,?_,g2,g3⟩;unfold closureFor;dsimp only;rw[g1]
 rfl
section
variable{G:Gt}{r:Cr}{F:Fr}{X:Cx}{pos:Pos}
theorem aHJ(hr:Snd G r){tg:Expr}{p:Pos}{args:List Expr}{t:En→M Its'}(h:cIr G r F args=some t)(ok:Ok G F X):QI X tg (.Call (.Name "range" p) args [] pos) t:=by
 unfold cIr at h
 split at h
 ·obtain⟨h0,h'⟩:=aD h;simp only[Z11] at h0;obtain⟨t,h1,rfl⟩:=aJ h';exact aAc (ok.gl h0.1.1) (ok.g.blt _ h0.1.2) (gP hr h1 ok) (bM h0.2)
 ·cases h
theorem aAu{e:Expr}{x:Str}{args:List Expr}(h:itFn e=some (x,args)):∃ p p2,e=.Call (.Name x p) args [] p2:=by
 unfold itFn at h
 split at h
 ·cases h;exact⟨_,_,rfl⟩
 ·cases h
theorem aCB{x:Str}{args:List Expr}{a b:Expr}(h:isZ x args=some (a,b)):x="zip"∧args=[a,b]:=by
 unfold isZ at h
 split at h
 ·obtain⟨h1,h2⟩:=aD h;cases h2;exact⟨by simpa using h1,rfl⟩
 ·cases h
theorem sS{e o:Expr}{apos cpos:Pos}(h:isItems e=some (o,apos,cpos)):e=.Call (.Attribute o "items" apos) [] [] cpos:=by
 unfold isItems at h
 split at h
 ·obtain⟨h1,h2⟩:=aD h;cases h2;simp at h1;subst h1
  rfl
 ·cases h
theorem wQ(hr:Snd G r){tg e:Expr}{t:En→M Its'}(h:cIt G r F tg e=some t)(ok:Ok G F X):QI X tg e t:=by
 have fin:∀ {t},o1 (r.e F e) iS=some t→QI X tg e t:=fun hh=>by obtain⟨ta,h1,rfl⟩:=aJ hh;exact aHl (hr.e h1 ok)
 unfold cIt at h
 split at h
 ·rename_i x args he;obtain⟨p,p2,rfl⟩:=aAu he
  split at h
  ·rename_i hx;have:x="range":=by simpa using hx
   subst this;exact aHJ hr h ok
  ·have:x="enumerate":=by have hx:=‹(x==("enumerate":Str))=true›;simpa using hx
   subst this
   split at h
   ·rename_i b hb;obtain⟨p1,p3,hb⟩:=pK hb;cases hb;obtain⟨h0,h'⟩:=aD h;simp only[Z11] at h0;obtain⟨t,h1,rfl⟩:=aJ h';obtain⟨⟨⟨⟨⟨q1,q2⟩,q3⟩,q4⟩,q5⟩,q6⟩:=h0;cases tg<;>first|exact aCr (ok.gl q2) (ok.g.blt _ q3) (ok.gl q4) (ok.g.blt _ q5) (gP hr h1 ok) (bM q6)|cases q1
   obtain⟨h0,h'⟩:=aD h;simp only[Z11] at h0;obtain⟨t,h1,rfl⟩:=aJ h';obtain⟨⟨⟨q1,q2⟩,q3⟩,q4⟩:=h0;cases tg<;>first|exact aEB (ok.gl q2) (ok.g.blt _ q3) (gP hr h1 ok) (bM q4)|cases q1
  ·split at h
   ·rename_i a b hz;obtain⟨rfl,rfl⟩:=aCB hz;obtain⟨h0,h'⟩:=aD h;simp only[Z11] at h0;obtain⟨t,h1,rfl⟩:=aJ h';obtain⟨⟨⟨⟨q1,q2⟩,q3⟩,q4⟩,q5⟩:=h0;cases tg<;>first|exact aHD (ok.gl q2) (ok.g.blt _ q3) (gP hr h1 ok) (bM q4) (fY (by simp[q5]))|cases q1
   ·exact fin h
 ·split at h
  ·rename_i o apos cpos hz;obtain rfl:=sS hz;obtain⟨h0,h'⟩:=aD h;simp only[Z11] at h0;obtain⟨t,h1,rfl⟩:=aJ h';obtain⟨⟨q1,q2⟩,q3⟩:=h0;cases tg<;>first|exact aCs (hr.e h1 ok) (iF q2) q3|cases q1
  ·exact fin h
noncomputable def scOk(F:Fr)(sc:Scope)(xs cn:List Str):Bool:=
 sc.kind==.function&&sc.names.all (fun y=>!(y.2==.cell))&&sc.names.all (fun y=>!(y.2==.local) || sc.names.lookup y.1==some .local)&&xs.all (fun x=>sc.names.lookup x==some .local)&&
  decide ((xs++cn).Nodup)&&!xs.isEmpty&&sc.names.all (fun y=>!(y.2==.free) || F.nm.lookup y.1==some .cell || F.nm.lookup y.1==some .free)&&
  cn.all (fun y=>(F.nm.lookup y==some .cell || F.nm.lookup y==some .free)&&((relN F.nm sc.names).lookup y==some .cell || (relN F.nm sc.names).lookup y==some .free))
theorem mU{sc:Scope}(ok:Ok G F X):(relabel sc X.env).names=relN F.nm sc.names:=by
 unfold relabel relN;dsimp only
 congr 1
 funext y
 obtain⟨n,k⟩:=y;dsimp only;unfold Env.kindOf;rw[ok.s,ok.kind];simp
theorem aCC{N:List Str}:∀ {cn:List Str} {caps:List Nat},ixs N cn=some caps→cn.length=caps.length∧∀ (k:Nat) (y:Str),cn[k]?=some y→∃ j:Nat,caps[k]?=some j∧N[j]?=some y
 |[],caps,h=>by cases h;exact⟨rfl,fun k y e=>by simp at e⟩
 |y::l,caps,h=>by
  unfold ixs at h;obtain⟨a,b,h1,h2,rfl⟩:=bJ h;obtain⟨i1,i2⟩:=aCC h2;refine⟨by simp[i1],fun k z e=>?_⟩;cases k with
  |zero=>cases e;exact⟨a,rfl,dG h1⟩
  |succ k=>exact i2 k z (by simpa using e)
theorem aET{sc:Scope}{x:Str}{xs cn:List Str}{caps:List Nat}(ok:Ok G F X)(hs:scOk F sc (x::xs) cn=true)(hc:ixs F.N cn=some caps):∃ cl,Caps X sc x cl cn caps:=by
 unfold scOk at hs;simp only[Z11,U20,W18] at hs;obtain⟨⟨⟨⟨⟨⟨⟨s1,s2⟩,s3⟩,s4⟩,s5⟩,_⟩,s7⟩,s8⟩:=hs;obtain⟨cl,g1,g2,g3⟩:=wO (scope:=sc) (env:=X.env) fun y hy hf=>by
  have:=s7 y hy;simp[hf] at this;exact ok.cells y.1 this
 obtain⟨l1,l2⟩:=aCC hc;have rn:=mU (sc:=sc) ok;refine⟨cl,g1,fun y hy e=>?_,by simpa using s1,fun y hy e=>?_,by simpa using s4 x (by simp),g2,fun y hy=>?_,?_,l1,fun k y e=>?_⟩
 ·have:=s2 y hy;simp[e] at this
 ·have:=s3 y hy;simp[e] at this;exact this
 ·rw[rn] at hy;have key:∀ kd,(relN F.nm sc.names).lookup y=some kd→kd=.cell∨kd=.free→∃ q∈sc.names,q.1=y∧q.2=.free:=by
   intro kd e hk;have m:=Z18 e;unfold relN at m;obtain⟨⟨n,k⟩,m1,m2⟩:=Y36.mp m;dsimp only at m2
   split at m2
   ·rename_i hh;cases m2;exact⟨_,m1,rfl,by have:=hh;simp at this;exact this.1⟩
   ·cases m2;refine⟨_,m1,rfl,?_⟩;rcases hk with rfl|rfl
    ·have:=s2 _ m1;simp at this
    ·rfl
  rcases hy with hy|hy
  ·obtain⟨q,q1,rfl,q3⟩:=key _ hy (.inl rfl);exact g3 q q1 q3
  ·obtain⟨q,q1,rfl,q3⟩:=key _ hy (.inr rfl);exact g3 q q1 q3
 ·have:(x::(xs++cn)).Nodup:=s5;rw[W27] at this ⊢;exact⟨fun h=>this.1 (U11 _ h),(List.nodup_append.mp this.2).2.1⟩
 ·obtain⟨j,q1,q2⟩:=l2 k y e;have m:=s8 y (W24 e);simp only[Bool.or_eq_true,Y38] at m;refine⟨j,q1,by rw[ok.n];exact q2,?_,?_,?_⟩
  ·unfold Vis;rw[ok.s];exact .inr m.1
  ·unfold Env.kindOf;rw[ok.s];exact m.1
  ·rw[rn];exact m.2
theorem Ok.comp{sc:Scope}{x:Str}{xs cn:List Str}{cl:List (Str×Addr)}{caps:List Nat}(ok:Ok G F X)(cp:Caps X sc x cl cn caps)(C:Addr)(ex:List Addr)(s:Shared)(H:Hp):
  Ok G ⟨xs++cn,relN F.nm sc.names,F.k⟩ (cxComp X (xs++cn) sc cl C ex s H) where
 g:=ok.g
 n:=rfl
 s:=mU ok
 kind:=cp.kind
 cells:=fun y hy=>cp.has y (by rw[mU ok];exact hy)
 r:=ok.r
 calm:=ok.calm
end
section
noncomputable def cIf(r:Cr)(F:Fr):List Expr→Option (En→M Bool)
 |[]=>some fun _=>ret true
 |[c]=>r.t F c
 |_=>none
noncomputable def cComp(G:Gt)(r:Cr)(F:Fr)(elt tg iter:Expr)(ifs:List Expr)(sc:Scope):Option (En→M D):=match tgNames tg with
 |some (xs,bd)=>
  let cn:=(sc.names.filter fun y=>y.2==.free).map (·.1)
  match ixs F.N cn with
  |some caps=>grd (scOk F sc xs cn&&noSet iter) (o3 (cIt G r F tg iter) (cIf r ⟨xs++cn,relN F.nm sc.names,F.k⟩ ifs) (r.e ⟨xs++cn,relN F.nm sc.names,F.k⟩ elt) fun it cd el=>eCo caps it bd cd el)
  |none=>none
 |none=>none
noncomputable def cGen(G:Gt)(r:Cr)(F:Fr)(elt:Expr)(gs:List Comprehension)(sc:Scope):Option (En→M D):=match gs with
 |[⟨tg,iter,ifs,a⟩]=>grd (a==0) (cComp G r F elt tg iter ifs sc)
 |_=>none
def stepE(G:Gt)(r:Cr)(F:Fr)(e:Expr):Option (En→M D):=match e with
 | .Name x _=>cName G F x
 | .Constant c _ _=>cConst c
 | .BinOp a op b _=>o3 (opF op) (r.e F a) (r.e F b) eOp
 | .UnaryOp op a _=>cUn r F op a
 | .Compare a ops bs _=>cCmp r F a ops bs
 | .BoolOp op vs _=>cBo r F op vs
 | .IfExp c a b _=>o3 (r.t F c) (r.e F a) (r.e F b) eIf
 | .Tuple es _ _=>o1 (cA r F es) eT
 | .List es _=>o1 (cA r F es) eL
 | .Subscript a b _=>cSub r F a b
 | .Attribute a f _=>grd (plainO a&&G.cls.fs.contains f) (o1 (r.e F a) (eFl G.cls.C f))
 | .Call f args kws pos=>cCall G r F f args kws pos
 | .ListComp elt gs sc _=>cGen G r F elt gs sc
 |_=>none
noncomputable def cTc(r:Cr)(F:Fr)(a:Expr)(ops:List CmpOp)(bs:List Expr):Option (En→M Bool):=match ops,bs with
 |[op],[b]=>grd (!behindInMarks op b) (o3 (cmF op) (r.e F a) (r.e F b) tCm)
 |_,_=>none
noncomputable def cTb(r:Cr)(F:Fr)(op:BoolOp):List Expr→Option (En→M Bool)
 |[]=>none
 |[a]=>r.t F a
 |a::b::rest=>o2 (r.t F a) (cTb r F op (b::rest)) (match op with | .And=>tAn| .Or=>tOo)
def stepT(r:Cr)(F:Fr)(e:Expr):Option (En→M Bool):=match e with
 | .Compare a ops bs _=>cTc r F a ops bs
 | .BoolOp op vs _=>cTb r F op vs
 | .UnaryOp op a _=>(match op with
  | .Not=>o1 (r.t F a) tNo
  |_=>none)
 | .IfExp ..=>none
 |e=>o1 (r.e F e) tVl
def crN(G:Gt):Nat→Cr
 |0=>⟨fun _ _=>none,fun _ _=>none⟩
 |n+1=>⟨stepE G (crN G n),stepT (crN G n)⟩
end
section
variable{G:Gt}{r:Cr}{F:Fr}{X:Cx}{pos:Pos}
theorem aHK(hr:Snd G r){ifs:List Expr}{t:En→M Bool}(h:cIf r F ifs=some t)(ok:Ok G F X):QF X ifs t:=by
 unfold cIf at h
 split at h
 ·cases h;exact aHq
 ·exact aHr (hr.t h ok)
 ·cases h
inductive EN:List Expr→List Str→Prop where
 |nil:EN [] []
 |cons {x:Str} {p:Pos} {es:List Expr} {xs:List Str}:EN es xs→EN (.Name x p::es) (x::xs)
theorem uN:∀ {es:List Expr} {xs:List Str},es.foldr (fun e l=>match e with | .Name x _=>o1 l (x::·)|_=>none) (some [])=some xs→EN es xs
 |[],xs,h=>by cases h;exact .nil
 |e::es,xs,h=>by
  rw[List.foldr_cons] at h
  split at h
  ·obtain⟨l,h1,rfl⟩:=aJ h;exact .cons (uN h1)
  ·cases h
theorem EN.len{es:List Expr}{xs:List Str}(h:EN es xs):es.length=xs.length:=by
 induction h with
 |nil=>rfl
 |cons _ ih=>simp[ih]
theorem EN.pgs{Y:Cx}{es:List Expr}{xs:List Str}(h:EN es xs):∀ i:Nat,(∀ (j:Nat) x (p:Pos),xs[j]?=some x→PG Y (.Name x p) (gName (i+j)))→PGs Y es (gNames i xs.length):=by
 induction h with
 |nil=>exact fun _ _=>xN
 |cons _ ih=>exact fun i hp=>tW (hp 0 _ _ rfl) (ih (i+1) fun j y q e=>by have:=hp (j+1) y q (by simpa using e);rwa [show i+(j+1)=i+1+j by omega] at this)
theorem EN.star{es:List Expr}{xs:List Str}(h:EN es xs):es.all noStar=true:=by
 induction h with
 |nil=>rfl
 |cons _ ih=>rw[Y20,ih];rfl
structure CompI (X:Cx) (sc:Scope) (tg iter elt:Expr) (ifs:List Expr) (t:En→M D) (P:Prop):Prop where
 use:(∀ (x:Str) (xs cn:List Str) (cl:List (Str×Addr)) (caps:List Nat) (g:TG) (bd:D→Sto→Option (List D)) (ti:En→M Its') (tc:En→M Bool) (te:En→M D),t=eCo caps ti bd tc te→BdOk X.kw xs.length g bd→QI X tg iter ti→Caps X sc x cl cn caps→
  (∀ C ex s H,PG (cxComp X (xs++cn) sc cl C ex s H) tg g)→(∀ C ex s H,QF (cxComp X (xs++cn) sc cl C ex s H) ifs tc)→(∀ C ex s H,QE (cxComp X (xs++cn) sc cl C ex s H) elt te)→(∀ x,foldedSetIterable iter X.env x=pure x)→P)→P
theorem uO(hr:Snd G r){sc:Scope}{tg iter elt:Expr}{ifs:List Expr}{t:En→M D}{P:Prop}(h:cComp G r F elt tg iter ifs sc=some t)(ok:Ok G F X):CompI X sc tg iter elt ifs t P:=by
 refine⟨fun use=>?_⟩;unfold cComp at h
 split at h
 ·rename_i xs bd hx;dsimp only at h
  split at h
  ·rename_i caps hc;obtain⟨h0,h'⟩:=aD h;clear h;rw[Z11] at h0;obtain⟨it,cd,el,h1,h2,h3,rfl⟩:=gU h';generalize hcn:(sc.names.filter fun y=>y.2==.free).map (·.1)=cn at *;have h0s:=h0.1;obtain⟨x,xs',rfl⟩:∃ x xs',xs=x::xs':=by
    cases xs with
    |nil=>unfold scOk at h0s;simp at h0s
    |cons x xs'=>exact⟨x,xs',rfl⟩
   obtain⟨cl,cp⟩:=aET ok h0s hc;have hnd:(x::xs'++cn).Nodup:=by unfold scOk at h0s;simp only[Z11,W18] at h0s;exact h0s.1.1.1.2
   have hlo:∀ y∈x::xs',sc.names.lookup y=some .local:=by unfold scOk at h0s;simp only[Z11,U20] at h0s;intro y hy;simpa using h0s.1.1.1.1.2 y hy
   have hq:∀ (C:Addr) (ex:List Addr) (s:Shared) (H:Hp) (j:Nat) y (p:Pos),(x::xs')[j]?=some y→PG (cxComp X (x::xs'++cn) sc cl C ex s H) (.Name y p) (gName j):=fun C ex s H j y p e=>
    pgc (xs:=x::xs') hnd (by rw[Y15 (Z10.mp e).1];exact e) (hlo y (W24 e))
   have hQ:=fun C ex s H=>aHK hr h2 (ok.comp (xs:=x::xs') cp C ex s H);have hE:=fun C ex s H=>hr.e h3 (ok.comp (xs:=x::xs') cp C ex s H);unfold tgNames at hx
   split at hx
   ·cases hx;exact use x [x] cn cl caps _ bd1 it cd el rfl aHo (wQ hr h1 ok) cp (fun C ex s H=>hq C ex s H 0 _ _ rfl) hQ hE (pJ h0.2)
   ·rename_i es kk p;obtain⟨l,h5,h6⟩:=aJ hx;cases h6;have f2:=uN h5;have hst:=f2.star;have hl:=f2.len;exact use x (x::xs') cn cl caps _ _ it cd el rfl aHp (wQ hr h1 ok) cp (fun C ex s H=>by
     have pp:=f2.pgs 0 fun j y q e=>by have:=hq C ex s H j y q e;rwa [Nat.zero_add]
     exact aFw (aBd ok.calm pp (by rw[mE,hl]) (kZ hst)) (xS ok.calm pp (by rw[mE,hl]) (kZ hst))) hQ hE (pJ h0.2)
   ·cases hx
  ·cases h
 ·cases h
theorem aEU(hr:Snd G r){sc:Scope}{elt:Expr}{gs:List Comprehension}{t:En→M D}(h:cGen G r F elt gs sc=some t)(ok:Ok G F X):QE X (.ListComp elt gs sc pos) t:=by
 unfold cGen at h
 split at h
 ·obtain⟨h0,h'⟩:=aD h;have h0:=eq_of_beq h0;subst h0;refine(uO hr h' ok).use fun x xs cn cl caps g bd ti tc te e hbd hi cp hg hif he hs=>?_;subst e;exact aEC hbd ok.calm hi cp hg hif he hs
 ·cases h
theorem aCD(hr:Snd G r){e:Expr}{t:En→M D}(h:stepE G r F e=some t)(ok:Ok G F X):QE X e t:=by
 cases e with
 |Name x _=>exact aCy h ok
 |Constant c _ _=>exact aAo h
 |BinOp a op b _=>obtain⟨f,ta,tb,h1,h2,h3,rfl⟩:=gU h;exact aIv (aHE h1) (hr.e h2 ok) (hr.e h3 ok)
 |UnaryOp op a _=>exact aHI hr h ok
 |Compare a ops bs _=>exact aER hr h ok
 |BoolOp op vs _=>exact wN hr h ok
 |IfExp c a b _=>obtain⟨tc,ta,tb,h1,h2,h3,rfl⟩:=gU h;exact aBG (hr.t h1 ok) (hr.e h2 ok) (hr.e h3 ok)
 |Tuple es _ _=>obtain⟨ta,h1,rfl⟩:=aJ h;exact aGN (gP hr h1 ok)
 |List es _=>obtain⟨ta,h1,rfl⟩:=aJ h;exact aGO (gP hr h1 ok)
 |Subscript a b _=>exact aES hr h ok
 |Attribute a f _=>
  obtain⟨h0,h'⟩:=aD h;rw[Z11] at h0;obtain⟨ta,h1,rfl⟩:=aJ h';obtain⟨q1,q2⟩:=ok.g.fs _ h0.2;exact aHw q1 q2 (hr.e h1 ok) (iF h0.1)
 |Call f args kws pos=>exact aCA hr h ok
 |ListComp elt gs sc _=>exact aEU hr h ok
 |_=>cases h
theorem wU(hr:Snd G r){op:BoolOp}:∀ {vs:List Expr} {t:En→M Bool},cTb r F op vs=some t→Ok G F X→QW X (.BoolOp op vs pos) t
 |[],t,h,ok=>by cases h
 |[a],t,h,ok=>by
  cases op with
  |And=>exact aEm (hr.t h ok)
  |Or=>exact aGG (hr.t h ok)
 |a::b::rest,t,h,ok=>by
  unfold cTb at h;obtain⟨ta,tb,h1,h2,rfl⟩:=bJ h;cases op with
  |And=>exact aGH (hr.t h1 ok) (wU hr h2 ok)
  |Or=>exact aIw (hr.t h1 ok) (wU hr h2 ok)
theorem aCE(hr:Snd G r){e:Expr}{t:En→M Bool}(h:stepT r F e=some t)(ok:Ok G F X):QT X e t:=by
 have fin:plainT e=true→o1 (r.e F e) tVl=some t→QT X e t:=fun hp hh=>by obtain⟨ta,h1,rfl⟩:=aJ hh;exact aGF (hr.e h1 ok) (aAn hp)
 cases e with
 |Compare a ops bs _=>
  unfold stepT at h;dsimp only at h;unfold cTc at h
  split at h
  ·obtain⟨h0,h'⟩:=aD h;obtain⟨f,ta,tb,h1,h2,h3,rfl⟩:=gU h';exact aGD (aCw ok.r h1) (hr.e h2 ok) (hr.e h3 ok) (by simpa using h0)
  ·cases h
 |BoolOp op vs _=>exact aJh (wU hr h ok)
 |UnaryOp op a _=>
  cases op with
  |Not=>obtain⟨ta,h1,rfl⟩:=aJ h;exact aGI (hr.t h1 ok)
  |_=>cases h
 |IfExp _ _ _ _=>cases h
 |_=>exact fin rfl h
theorem sT:∀ n,Snd G (crN G n)
 |0=>⟨fun {F e t} h=>(by cases h),fun {F e t} h=>(by cases h)⟩
 |n+1=>⟨fun h _ ok=>aCD (sT n) h ok,fun h _ ok=>aCE (sT n) h ok⟩
end
structure OkS (G:Gt) (F:Fr) (X:Cx):Prop where
 ok:Ok G F X
 fn:∀ y,X.fn y=true
 nd:F.N.Nodup
 ps:PassesOwn (model X.prog X.w) X.A X.env X.xe
section
noncomputable def cGs(g:Fr→Expr→Option (D→En→M En))(F:Fr):List Expr→Option (List D→En→M En)
 |[]=>some gsN
 |e::es=>o2 (g F e) (cGs g F es) gsC
noncomputable def cGsub(r:Cr)(F:Fr)(a b:Expr):Option (D→En→M En):=match b with
 | .Slice lo none none _=>o2 (r.e F a) (cO r F lo) gSl
 | .Slice ..=>none
 |b=>o2 (r.e F a) (r.e F b) gS
noncomputable def stepG(r:Cr)(g:Fr→Expr→Option (D→En→M En))(F:Fr)(e:Expr):Option (D→En→M En):=match e with
 | .Name x _=>(match ixOf F.N x with
  |some i=>grd (locB F.nm x) (some (gN i))
  |none=>none)
 | .Tuple es _ _=>grd (es.all noStar) (o1 (cGs g F es) (gT es.length))
 | .Subscript a b _=>cGsub r F a b
 |_=>none
noncomputable def cgN(r:Cr):Nat→Fr→Expr→Option (D→En→M En)
 |0=>fun _ _=>none
 |n+1=>stepG r (cgN r n)
noncomputable def isComp:Expr→Option (Expr×Expr×Expr×List Expr×Scope×Pos)
 | .ListComp elt [⟨tg,iter,ifs,a⟩] sc p=>grd (a==0) (some (elt,tg,iter,ifs,sc,p))
 |_=>none
noncomputable def nameOf:Expr→Option (Str×Pos)
 | .Name x p=>some (x,p)
 |_=>none
noncomputable def swB(F:Fr)(y:Str)(py:Pos)(sc:Scope)(p:Pos):Bool:=F.nm.lookup y==some .local&&py.line==p.line&&!(sc.names.any fun(n,k)=>n==y&&(k==.local || k==.cell))
noncomputable def isPar:Expr→Expr→Option ((Str×Pos)×(Str×Pos)×Expr×Expr)
 | .Tuple [.Name x px, .Name y py] _ _, .Tuple [a,b] _ _=>some ((x,px),(y,py),a,b)
 |_,_=>none
noncomputable def isFld:Expr→Option (Expr×Str)
 | .Attribute o f _=>some (o,f)
 |_=>none
noncomputable def cAsgP(r:Cr)(g:Fr→Expr→Option (D→En→M En))(F:Fr)(tg v:Expr)(x:Str)(px:Pos)(y:Str)(py:Pos)(a b:Expr):Option Sm':=
 grd (parB F.nm x px y py a b&&(!([a,b].all (constantsAlone 8)) || [a,b].all (foldedForSure 8))) (match [a,b].all (foldedForSure 8) with
  |true=>o2 (r.e F v) (g F tg) sA
  |false=>(match ixOf F.N x,ixOf F.N y with
   |some i,some j=>o1 (cA r F [a,b]) (sPar i j)
   |_,_=>none))
noncomputable def cAsgO(G:Gt)(r:Cr)(g:Fr→Expr→Option (D→En→M En))(F:Fr)(tg v:Expr):Option Sm':=match isPar tg v with
 |some ((x,px),(y,py),a,b)=>cAsgP r g F tg v x px y py a b
 |none=>(match isFld tg with
  |some (o,f)=>grd (G.cls.fs.contains f) (o2 (r.e F o) (r.e F v) (sFl G.cls.C f))
  |none=>grd (noName tg&&noSwap tg v&&noStar tg) (o2 (r.e F v) (g F tg) sA))
noncomputable def cAsg(G:Gt)(r:Cr)(g:Fr→Expr→Option (D→En→M En))(F:Fr)(tg v:Expr):Option Sm':=match nameOf tg with
 |some (y,py)=>(match ixOf F.N y with
  |some i=>grd (locB F.nm y) (match isComp v with
   |some (elt,ctg,iter,ifs,sc,p)=>(match swB F y py sc p with
    |true=>o1 (cComp G r F elt ctg iter ifs sc) fun t=>sA t (gN i)
    |false=>grd (F.nm.lookup y==some .cell) (o1 (r.e F v) fun t=>sA t (gN i)))
   |none=>grd (noComp v) (o1 (r.e F v) fun t=>sA t (gN i)))
  |none=>none)
 |none=>cAsgO G r g F tg v
def cAug(G:Gt)(r:Cr)(F:Fr)(tg:Expr)(op:Operator)(v:Expr):Option Sm':=match nameOf tg with
 |some (y,_)=>(match ixOf F.N y with
  |some i=>grd (locB F.nm y) (o2 (ioF op) (r.e F v) fun f t=>sG f i t)
  |none=>none)
 |none=>(match isFld tg with
  |some (o,f)=>grd (G.cls.fs.contains f) (o3 (ioF op) (r.e F o) (r.e F v) (sFa G.cls.C f))
  |none=>none)
noncomputable def cB(s:Stmt→Option Sm'):List Stmt→Option Sm'
 |[]=>some sN
 |[a]=>s a
 |a::b::l=>o2 (s a) (cB s (b::l)) seqS
def stepS(G:Gt)(r:Cr)(g:Fr→Expr→Option (D→En→M En))(F:Fr)(s:Stmt→Option Sm')(x:Stmt):Option Sm':=match x with
 | .Expr a _=>grd (noComp a) (o1 (r.e F a) sE)
 | .Return o _=>(match o with
  |some a=>o1 (r.e F a) sR
  |none=>some sR0)
 | .If c xs ys _=>o3 (r.t F c) (cB s xs) (cB s ys) sI
 | .While c xs ys _=>(match ys with
  |[]=>o2 (r.t F c) (cB s xs) sW
  |_=>none)
 | .For tg it xs ys _=>(match ys with
  |[]=>grd (noSet it) (o3 (cIt G r F tg it) (g F tg) (cB s xs) sF)
  |_=>none)
 | .Assign ts v _=>(match ts with
  |[tg]=>cAsg G r g F tg v
  |_=>none)
 | .AugAssign tg op v _=>cAug G r F tg op v
 | .Raise _ _ _=>some sBad
 | .Pass _=>some sN
 | .Break _=>some sBk
 | .Continue _=>some sCt
 |_=>none
def csN(G:Gt)(r:Cr)(g:Fr→Expr→Option (D→En→M En))(F:Fr):Nat→Stmt→Option Sm'
 |0=>fun _=>none
 |n+1=>stepS G r g F (csN G r g F n)
def compS(G:Gt)(F:Fr)(xs:List Stmt):Option Sm':=cB (csN G (crN G 40) (cgN (crN G 40) 6) F 20) xs
end
section
variable{G:Gt}{r:Cr}{F:Fr}{X:Cx}{pos:Pos}{g:Fr→Expr→Option (D→En→M En)}{s:Stmt→Option Sm'}
theorem aCF(hg:∀ {e t},g F e=some t→OkS G F X→QG X e t):∀ {es:List Expr} {t:List D→En→M En},es.all noStar=true→cGs g F es=some t→OkS G F X→QGs X es t
 |[],t,_,h,ok=>by cases h;exact aEv
 |e::es,t,hn,h,ok=>by
  unfold cGs at h;obtain⟨t1,t2,h1,h2,rfl⟩:=bJ h;rw[Y20,Z11] at hn;exact aBU (hg h1 ok) (aCF hg hn.2 h2 ok) (by have:=hn.1;cases e<;>first|rfl|cases this)
theorem aCG(hr:Snd G r)(hg:∀ {e t},g F e=some t→OkS G F X→QG X e t){e:Expr}{t:D→En→M En}(h:stepG r g F e=some t)(ok:OkS G F X):QG X e t:=by
 cases e with
 |Name x p=>
  unfold stepG at h;dsimp only at h
  split at h
  ·rename_i i hi;obtain⟨h0,h'⟩:=aD h;cases h';exact aEu (i:=i) (by rw[ok.ok.n];exact ok.nd) (by rw[ok.ok.n];exact dG hi) (ok.ok.loc h0) (.inl (ok.fn _))
  ·cases h
 |Tuple es k p=>
  obtain⟨h0,h'⟩:=aD h;obtain⟨gs,h1,rfl⟩:=aJ h';exact aHb ok.ok.calm (aCF hg h0 h1 ok) (mE es) (kZ h0)
 |Subscript a b p=>
  unfold stepG at h;dsimp only at h;unfold cGsub at h
  split at h
  ·obtain⟨ta,tb,h1,h2,rfl⟩:=bJ h;exact aIS (hr.e h1 ok.ok) (aCz hr h2 ok.ok)
  ·cases h
  ·rename_i hns;obtain⟨ta,tb,h1,h2,rfl⟩:=bJ h;exact aHd (hu1 ok.ok.r) (hr.e h1 ok.ok) (hr.e h2 ok.ok) (fun v=>by cases b<;>first|rfl|exact(hns _ _ _ _ rfl).elim)
 |_=>cases h
theorem aCH(hr:Snd G r):∀ (n:Nat) {e:Expr} {t:D→En→M En},cgN r n F e=some t→OkS G F X→QG X e t
 |0,e,t,h,_=>by cases h
 |n+1,e,t,h,ok=>aCG hr (fun h ok=>aCH hr n h ok) h ok
theorem nM{e:Expr}{x:Str}{p:Pos}(h:nameOf e=some (x,p)):e=.Name x p:=by
 cases e<;>cases h;rfl
theorem uP{e elt tg iter:Expr}{ifs:List Expr}{sc:Scope}{p:Pos}(h:isComp e=some (elt,tg,iter,ifs,sc,p)):e=.ListComp elt [⟨tg,iter,ifs,0⟩] sc p:=by
 unfold isComp at h
 split at h
 ·obtain⟨h0,h'⟩:=aD h;have:=eq_of_beq h0;subst this;cases h'
  rfl
 ·cases h
theorem wV{tg v:Expr}{x y:Str}{px py:Pos}{a b:Expr}(h:isPar tg v=some ((x,px),(y,py),a,b)):∃ kt pt k2 pt2,tg=.Tuple [.Name x px, .Name y py] kt pt∧v=.Tuple [a,b] k2 pt2:=by
 unfold isPar at h
 split at h
 ·cases h;exact⟨_,_,_,_,rfl,rfl⟩
 ·cases h
theorem pL{e o:Expr}{f:Str}(h:isFld e=some (o,f)):∃ p,e=.Attribute o f p:=by
 unfold isFld at h
 split at h
 ·cases h;exact⟨_,rfl⟩
 ·cases h
theorem aEV{nm:List (Str×NameKind)}{x y:Str}{px py:Pos}{a b:Expr}(h:parB nm x px y py a b=true):nm.lookup x=some .local∧nm.lookup y=some .local∧x≠y:=by
 unfold parB at h;simp only[Z11] at h;obtain⟨⟨⟨⟨⟨h1,h2⟩,h3⟩,h4⟩,h5⟩,h6⟩:=h;exact⟨by simpa using h1,by simpa using h2,by simpa using h4⟩
theorem aCI(hr:Snd G r)(hg:∀ {e t},g F e=some t→OkS G F X→QG X e t){tg v:Expr}{t:Sm'}(h:cAsgO G r g F tg v=some t)(ok:OkS G F X):QS X (.Assign [tg] v pos) t:=by
 unfold cAsgO at h
 split at h
 ·rename_i x px y py a b hp;obtain⟨kt,pt,k2,pt2,rfl,rfl⟩:=wV hp;unfold cAsgP at h;obtain⟨h0,h'⟩:=aD h;clear h;rw[Z11] at h0;obtain⟨p1,p2⟩:=h0;have hc:[a,b].all (constantsAlone 8)=true→[a,b].all (foldedForSure 8)=true:=fun z=>by rw[z] at p2;simpa using p2
  have sw:=uM (env:=X.env) (kt:=kt) (pt:=pt) (k2:=k2) (pt2:=pt2) ok.ok.kind (by rw[ok.ok.s];exact p1) hc
  split at h'
  ·rename_i hf;obtain⟨ta,tg,h1,h2,rfl⟩:=bJ h';rw[if_pos hf] at sw;exact aBY (hr.e h1 ok.ok) (hg h2 ok) (show swapsWith (.Tuple [a,b] k2 pt2) (some (.Tuple [.Name x px, .Name y py] kt pt)) pos.line X.env=pure false from pI rfl) sw (yE rfl)
  ·rename_i hf;rw[if_neg (by rw[hf];decide)] at sw
   split at h'
   ·rename_i i j hi hj;obtain⟨ta,h1,rfl⟩:=aJ h';obtain⟨l1,l2,l3⟩:=aEV p1;have e1:X.N[i]?=some x:=by rw[ok.ok.n];exact dG hi
    have e2:X.N[j]?=some y:=by rw[ok.ok.n];exact dG hj
    exact aHB ok.ok.calm (by rw[ok.ok.n];exact ok.nd) e1 e2 (fun e=>l3 (by rw[e,e2] at e1;exact(U14 e1).symm)) (by rw[ok.ok.s];exact l1) (by rw[ok.ok.s];exact l2) (gP hr h1 ok.ok) sw
   ·cases h'
 ·split at h
  ·rename_i o f hf;obtain⟨p,rfl⟩:=pL hf;obtain⟨h0,h'⟩:=aD h;obtain⟨ta,tb,h1,h2,rfl⟩:=bJ h';obtain⟨q1,q2⟩:=ok.ok.g.fs _ h0;exact aHx q1 q2 (hr.e h1 ok.ok) (hr.e h2 ok.ok) (pI rfl)
  ·obtain⟨h0,h'⟩:=aD h;simp only[Z11] at h0;obtain⟨ta,tg,h1,h2,rfl⟩:=bJ h';exact aBY (hr.e h1 ok.ok) (hg h2 ok) (pI h0.1.1) (wL h0.1.2) (yE h0.2)
theorem aEW(hr:Snd G r)(hg:∀ {e t},g F e=some t→OkS G F X→QG X e t){tg v:Expr}{t:Sm'}(h:cAsg G r g F tg v=some t)(ok:OkS G F X):QS X (.Assign [tg] v pos) t:=by
 unfold cAsg at h
 split at h
 ·rename_i y py hy;obtain rfl:=nM hy
  split at h
  ·rename_i i hi;obtain⟨h0,h'⟩:=aD h;clear h;have hN:X.N.Nodup:=by rw[ok.ok.n];exact ok.nd
   have hI:X.N[i]?=some y:=by rw[ok.ok.n];exact dG hi
   split at h'
   ·rename_i elt ctg iter ifs sc p hv;obtain rfl:=uP hv
    split at h'
    case h_2=>
     obtain⟨h1,h2⟩:=aD h';obtain⟨tt,h3,rfl⟩:=aJ h2;refine aBZ (i:=i) hN hI (ok.ok.loc h0) (hr.e h3 ok.ok) ?_ (.inl (ok.fn _));unfold swapsWith;dsimp only;have hb:X.env.blockKind=.function:=by unfold Env.blockKind;rw[ok.ok.kind];rfl
     rw[hb];unfold Env.kindOf;rw[ok.ok.s,eq_of_beq h1]
     rfl
    rename_i h1;obtain⟨tt,h3,rfl⟩:=aJ h';refine(uO hr h3 ok.ok).use fun x xs cn cl caps g bd ti tc te e hbd hi2 cp hg hif he hs=>?_;subst e;refine aED (i:=i) hbd hN hI (ok.ok.loc h0) ok.ok.calm hi2 cp hg hif he ?_ hs (.inl (ok.fn _));unfold swB at h1;simp only[Z11] at h1;unfold swapsWith;dsimp only;have hb:X.env.blockKind=.function:=by unfold Env.blockKind;rw[ok.ok.kind];rfl
    rw[hb];unfold Env.kindOf;rw[ok.ok.s,h1.1.1];show pure (true&&true&&(py.line==p.line)&&_)=pure true;rw[h1.1.2,h1.2];rfl
   ·obtain⟨h1,h2⟩:=aD h';obtain⟨tt,h3,rfl⟩:=aJ h2;exact aBZ (i:=i) hN hI (ok.ok.loc h0) (hr.e h3 ok.ok) (pH h1) (.inl (ok.fn _))
  ·cases h
 ·exact aCI hr hg h ok
theorem aEX(hr:Snd G r){tg v:Expr}{op:Operator}{t:Sm'}(h:cAug G r F tg op v=some t)(ok:OkS G F X):QS X (.AugAssign tg op v pos) t:=by
 unfold cAug at h
 split at h
 ·rename_i y py hy;obtain rfl:=nM hy
  split at h
  ·rename_i i hi;obtain⟨h0,h'⟩:=aD h;obtain⟨f,tt,h2,h3,rfl⟩:=bJ h';exact aHf (i:=i) (by rw[ok.ok.n];exact ok.nd) (by rw[ok.ok.n];exact dG hi) (ok.ok.loc h0) (hr.e h3 ok.ok) (aCv h2) (.inl (ok.fn _))
  ·cases h
 ·split at h
  ·rename_i o f hf;obtain⟨p,rfl⟩:=pL hf;obtain⟨h0,h'⟩:=aD h;obtain⟨g,ta,tb,h1,h2,h3,rfl⟩:=gU h';obtain⟨q1,q2⟩:=ok.ok.g.fs _ h0;exact aEI q1 q2 (hr.e h2 ok.ok) (hr.e h3 ok.ok) (aCv h1)
  ·cases h
theorem rF(hs:∀ {x t},s x=some t→OkS G F X→QS X x t):∀ {xs:List Stmt} {t:Sm'},cB s xs=some t→OkS G F X→QSs X xs t
 |[],t,h,ok=>by cases h;exact aEw
 |[a],t,h,ok=>aEx (hs h ok)
 |a::b::l,t,h,ok=>by
  unfold cB at h;obtain⟨t1,t2,h1,h2,rfl⟩:=bJ h;exact aBW (hs h1 ok) (rF hs h2 ok)
theorem aCJ(hr:Snd G r)(hg:∀ {e t},g F e=some t→OkS G F X→QG X e t)(hs:∀ {x t},s x=some t→OkS G F X→QS X x t){x:Stmt}{t:Sm'}(h:stepS G r g F s x=some t)(ok:OkS G F X):QS X x t:=by
 cases x with
 |Expr a p=>obtain⟨h0,h'⟩:=aD h;obtain⟨ta,h1,rfl⟩:=aJ h';exact aEz (hr.e h1 ok.ok) (pH h0)
 |Return o p=>
  cases o with
  |none=>cases h;exact aEA
  |some a=>obtain⟨ta,h1,rfl⟩:=aJ h;exact aHe (hr.e h1 ok.ok)
 |If c xs ys p=>obtain⟨tc,t1,t2,h1,h2,h3,rfl⟩:=gU h;exact aIK (hr.t h1 ok.ok) (rF hs h2 ok) (rF hs h3 ok)
 |While c xs ys p=>
  cases ys with
  |nil=>obtain⟨tc,t1,h1,h2,rfl⟩:=bJ h;exact aCa ok.ps (hr.t h1 ok.ok) (rF hs h2 ok)
  |cons _ _=>cases h
 |For tg it xs ys p=>
  cases ys with
  |nil=>
   obtain⟨h0,h'⟩:=aD h;obtain⟨ti,tgg,t1,h1,h2,h3,rfl⟩:=gU h';exact aHn ok.ps ok.ok.calm (wQ hr h1 ok.ok) (hg h2 ok) (rF hs h3 ok) (pJ h0)
  |cons _ _=>cases h
 |Assign ts v p=>
  unfold stepS at h;dsimp only at h
  split at h
  ·exact aEW hr hg h ok
  ·cases h
 |AugAssign tg op v p=>exact aEX hr h ok
 |Raise a b p=>cases h;exact aHv
 |Pass p=>cases h;exact aEy
 |Break p=>cases h;exact aBX
 |Continue p=>cases h;exact uF
 |_=>cases h
theorem aCK(hr:Snd G r)(hg:∀ {e t},g F e=some t→OkS G F X→QG X e t):∀ (n:Nat) {x:Stmt} {t:Sm'},csN G r g F n x=some t→OkS G F X→QS X x t
 |0,x,t,h,_=>by cases h
 |n+1,x,t,h,ok=>aCJ hr hg (fun h ok=>aCK hr hg n h ok) h ok
theorem aCL{xs:List Stmt}{t:Sm'}(h:compS G F xs=some t)(ok:OkS G F X):QSs X xs t:=rF (fun h ok=>aCK (sT _) (fun h ok=>aCH (sT _) _ h ok) _ h ok) h ok
end
noncomputable def scB(N ps:List Str)(sc:Scope):Bool:=sc.kind==.function&&!sc.isCoroutine&&!sc.isGenerator&&decide N.Nodup&&N.take ps.length==ps&&ps.all (locB sc.names)&&sc.names.all fun y=>!(y.2==.free)
theorem aHL{N ps:List Str}{sc:Scope}(h:scB N ps sc=true):FnScope N ps sc:=by
 unfold scB at h;simp only[Z11,U20,W18] at h;obtain⟨⟨⟨⟨⟨⟨h1,h2⟩,h3⟩,h4⟩,h5⟩,h6⟩,h7⟩:=h;refine⟨by simpa using h1,by simpa using h2,by simpa using h3,h4,by simpa using h5,fun x hx=>?_,fun y hy e=>?_⟩
 ·have:=h6 x hx;unfold locB at this
  split at this<;>first|(exact .inl ‹_›)|(exact .inr ‹_›)|cases this
 ·have:=h7 y hy;simp[e] at this
abbrev Lv:=List (Str×Nat×(List D→M D))
section
variable{P:Program}{w:World}{K:Fg9}{mg:Str→Option Value}{base:Heap}{G:Gt}{L:Lv}{x:Str}{st:Stmt}{f:Addr}{fd:FuncData}{N ps:List Str}{k:Nat}{ts:Sm'}
theorem sU{qual:Str}(hG:GtOk G k P w K mg base)(F:Fun K x qual st f fd)
  (hs:scB N ps (defScope st)=true)(hc:compS G ⟨N,(defScope st).names,k⟩ (defBody st)=some ts):FnOk P w K mg base CX0 (k+1) f fd ps (LF ⟨K,P,w⟩ (runF N.length ps.length ts)):=by
 have S:=aHL hs;refine aJj F S fun cdv A outer s H E hr=>aCL (F:=⟨N,(defScope st).names,k⟩) hc ⟨⟨hG,rfl,rfl,S.kind,fun y hy=>?_,hr,rfl⟩,fun _=>rfl,S.nd,PassesOwn.never⟩;rcases hy with hy|hy
 ·exact oU hy
 ·exact absurd rfl (S.nofree _ (Z18 hy))
structure CsOk (cons:List (Str×D)) (blt:List Str) (C:Addr) (fs:List Str) (P:Program) (w:World) (K:Fg9) (mg:Str→Option Value):Prop where
 cons:∀ x d,cons.lookup x=some d→∃ v u,mg x=some u∧RelV v u∧∀ m H,RV ⟨K,P,w⟩ m H v d
 blt:∀ x,blt.contains x=true→mg x=none
 cls:fs.isEmpty=false→Cls K C
 fs:∀ f,fs.contains f=true→NoAttr K C f
structure Tb where
 dl:Lv
 ml:Lv
 kl:Lv
structure TbOk (T:Tb) (C:Addr) (P:Program) (w:World) (K:Fg9) (mg:Str→Option Value) (base:Heap):Prop where
 dl:∀ e∈T.dl,∃ f fd ps,FnOk P w K mg base CX0 e.2.1 f fd ps (LF ⟨K,P,w⟩ e.2.2)∧mg e.1=some (.ref f)∧PySem.W.keepIn K (.ref f)=true∧Binds K fd ps []∧∃ o,K.lookup f=some o∧o.data=.func fd
 ml:∀ e∈T.ml,Cls K C∧∃ f fd ps,L2.Meth K C e.1 f∧FnOk P w K mg base CX0 e.2.1 f fd ps (LF ⟨K,P,w⟩ e.2.2)∧Binds K fd ps []
 kl:∀ e∈T.kl,∃ f fd ps,L2.Mk K C f∧FnOk P w K mg base CX0 e.2.1 f fd ps (LF ⟨K,P,w⟩ e.2.2)∧mg e.1=some (.ref C)∧Binds K fd ps []
noncomputable def pick(L:Lv)(k:Nat):List (Str×(List D→M D)):=(L.filter fun e=>Nat.ble e.2.1 k).map fun e=>(e.1,e.2.2)
theorem mV{L:Lv}{k:Nat}{x:Str}{g:List D→M D}(e:(pick L k).lookup x=some g):∃ l,(x,l,g)∈L∧l≤k:=by
 have m:=Z18 e;obtain⟨⟨y,l,g'⟩,m1,m2⟩:=Y36.mp m;cases m2;obtain⟨m3,m4⟩:=List.mem_filter.mp m1;exact⟨l,m3,Z36 m4⟩
noncomputable def pickK(L:Lv):Nat→List (Str×(List D→M D))
 |0=>[]
 |k+1=>pick L k
noncomputable def Tb.gt(T:Tb)(k:Nat)(cons:List (Str×D))(blt:List Str)(C:Addr)(fs:List Str):Gt:=⟨pick T.dl k,cons,blt,⟨C,fs,pick T.ml k,pickK T.kl k⟩⟩
variable{T:Tb}{cons:List (Str×D)}{blt:List Str}{C:Addr}{fs:List Str}
theorem TbOk.gt(h:TbOk T C P w K mg base)(c:CsOk cons blt C fs P w K mg){j:Nat}(hj:k≤j):GtOk (T.gt k cons blt C fs) j P w K mg base where
 defs:=fun x g e=>by
  obtain⟨l,m1,m2⟩:=mV e;obtain⟨f,fd,ps,h1,h2⟩:=h.dl _ m1;exact⟨f,fd,ps,h1.mono (Z17 m2 hj),h2⟩
 fs:=fun f hf=>⟨c.cls (by cases fs with
  |nil=>cases hf
  |cons _ _=>rfl),c.fs f hf⟩
 ms:=fun x g e=>by
  obtain⟨l,m1,m2⟩:=mV e;obtain⟨h0,f,fd,ps,h1,h2,h3⟩:=h.ml _ m1;exact⟨h0,f,fd,ps,h1,h2.mono (Z17 m2 hj),h3⟩
 ctr:=fun x g e=>by
  cases k with
  |zero=>cases e
  |succ k=>
   obtain⟨l,m1,m2⟩:=mV (k:=k) e;obtain⟨f,fd,ps,h1,h2,h3⟩:=h.kl _ m1;cases j with
   |zero=>cases hj
   |succ j=>exact⟨f,fd,ps,j,rfl,h1,h2.mono (Z17 m2 (Nat.le_of_succ_le_succ hj)),h3⟩
 cons:=c.cons
 blt:=c.blt
theorem TbOk.nil:TbOk ⟨[],[],[]⟩ C P w K mg base:=⟨fun e h=>(by cases h),fun e h=>(by cases h),fun e h=>(by cases h)⟩
theorem TbOk.def_{g:List D→M D}(h:TbOk T C P w K mg base)(dd:Def K mg x st ps f fd)(F:FnOk P w K mg base CX0 k f fd ps (LF ⟨K,P,w⟩ g)):TbOk ⟨(x,k,g)::T.dl,T.ml,T.kl⟩ C P w K mg base where
 dl:=fun e he=>by
  rcases W12.mp he with rfl|he
  ·obtain⟨oc,od,kV,doc,pm,an,cdv,ct,osl,q1,q2,q3⟩:=dd.F.ex;exact⟨f,fd,ps,F,dd.m,dd.k,dd.b,_,q2,rfl⟩
  ·exact h.dl e he
 ml:=h.ml
 kl:=h.kl
theorem TbOk.next{g:List D→M D}(h:TbOk T C P w K mg base)(c:CsOk cons blt C fs P w K mg)(N:List Str)(k:Nat)(dd:Def K mg x st ps f fd)(hs:scB N ps (defScope st)=true)
  (hc:compS (T.gt k cons blt C fs) ⟨N,(defScope st).names,k⟩ (defBody st)=some ts)(hg:g=runF N.length ps.length ts):TbOk ⟨(x,k+1,g)::T.dl,T.ml,T.kl⟩ C P w K mg base:=by
 subst hg;exact h.def_ dd (sU (h.gt c (Y12 k)) dd.F hs hc)
structure DefM (K:Fg9) (C:Addr) (x qual:Str) (st:Stmt) (ps:List Str) (f:Addr) (fd:FuncData):Prop where
 F:Fun K x qual st f fd
 b:Binds K fd ps []
 m:L2.Meth K C x f
theorem TbOk.meth{qual:Str}{g:List D→M D}(h:TbOk T C P w K mg base)(hC:Cls K C)(c:CsOk cons blt C fs P w K mg)(N:List Str)(k:Nat)(dd:DefM K C x qual st ps f fd)(hs:scB N ps (defScope st)=true)
  (hc:compS (T.gt k cons blt C fs) ⟨N,(defScope st).names,k⟩ (defBody st)=some ts)(hg:g=runF N.length ps.length ts):TbOk ⟨T.dl,(x,k+1,g)::T.ml,T.kl⟩ C P w K mg base where
 dl:=h.dl
 ml:=fun e he=>by
  rcases W12.mp he with rfl|he
  ·subst hg;exact⟨hC,f,fd,ps,dd.m,sU (h.gt c (Y12 k)) dd.F hs hc,dd.b⟩
  ·exact h.ml e he
 kl:=h.kl
theorem TbOk.make{qual y:Str}{g:List D→M D}(h:TbOk T C P w K mg base)(c:CsOk cons blt C fs P w K mg)(N:List Str)(k:Nat)(F:Fun K x qual st f fd)(hb:Binds K fd ps [])(hm:L2.Mk K C f)(hy:mg y=some (.ref C))(hs:scB N ps (defScope st)=true)
  (hc:compS (T.gt k cons blt C fs) ⟨N,(defScope st).names,k⟩ (defBody st)=some ts)(hg:g=runF N.length ps.length ts):TbOk ⟨T.dl,T.ml,(y,k+1,g)::T.kl⟩ C P w K mg base where
 dl:=h.dl
 ml:=h.ml
 kl:=fun e he=>by
  rcases W12.mp he with rfl|he
  ·subst hg;exact⟨f,fd,ps,hm,sU (h.gt c (Y12 k)) F hs hc,hy,hb⟩
  ·exact h.kl e he
end
end L2
end
section
namespace L2
open PySem PySem.W PyProof.Rows
noncomputable def fragOf(h:Heap):Frag:=(List.range h.objs.size).filterMap fun a=>(h.get? a).map fun o=>(a,o)
theorem aAv(h:Heap):(fragOf h).In h:=by
 intro a o e;have key:∀ l:List Nat,(l.filterMap fun a=>(h.get? a).map fun o=>(a,o)).lookup a=some o→h.get? a=some o:=by
  intro l
  induction l with
  |nil=>intro e;cases e
  |cons b l ih=>
   intro e;rw[U22] at e;cases q:h.get? b with
   |none=>rw[q] at e;exact ih e
   |some o'=>
    rw[q] at e;dsimp only[Option.map] at e;rw[Z31] at e
    by_cases hb:a=b
    ·subst hb;simp only[Y31] at e;rw[q,e]
    ·have:(a==b)=false:=by simpa using hb
     rw[this] at e;exact ih e
 exact key _ e
structure Fnd (K:Frag) (x:Str) (st:Stmt):Prop where
 ex:∃ (f:Addr) (od an:Option Addr) (sl:Array (Option Value)) (oc kV dc pm cd ct:Value),nsIn K mainGlobals x=some (some (.ref f))∧K.lookup f=some ⟨oc,od, .func (fnOf x x (defArgs st) (defBody st) (defScope st) .none kV dc pm an cd ct),sl⟩∧codeIn K cd x=true∧keepIn K (.ref f)=true
theorem aHM{K:Frag}{x:Str}{st:Stmt}(h:fnAt K x=fnWant x st):Fnd K x st:=by
 unfold fnAt fnWant at h
 split at h
 ·rename_i f hf
  split at h
  ·rename_i oc od fd sl hl;obtain⟨n,q,ps,b,sc,g,cl,dV,kV,dc,pm,an,cd,ct,bu⟩:=fd;simp only[W29,Z19] at h;obtain⟨rfl,rfl,rfl,rfl,rfl,rfl,rfl,rfl,rfl,h1,h2⟩:=h;exact⟨⟨f,od,an,sl,oc,kV,dc,pm,cd,ct,hf,hl,h1,h2⟩⟩
  ·cases h
 ·cases h
theorem Fnd.def{K:Frag}{h:Heap}{mg:Str→Option Value}{x:Str}{st:Stmt}{ps:List Str}(X:K.In h)(G:h.Ns mainGlobals mg)(F:Fnd K x st)
  (hb:∀ (kV doc pm:Value) (an:Option Addr) (cdv ct:Value) (us:List Value),us.length=ps.length→bindArgs (fnOf x x (defArgs st) (defBody st) (defScope st) .none kV doc pm an cdv ct) ⟨us,[]⟩=pure (ps.zip us)):∃ f fd,Def K mg x st ps f fd:=by
 obtain⟨f,od,an,sl,oc,kV,dc,pm,cd,ct,a,l,c,k⟩:=F.ex;have F':=vZ (st:=st) l c k;exact⟨_,_,F',F'.binds hb,mg_of X G a,k⟩
def RelC(K:KW)(u:Value)(d:D):Prop:=∃ v,RelV v u∧∀ m H,RV K m H v d
theorem aCM{K:KW}{f:Value→Option D}(hf:∀ v d,f v=some d→RelC K v d):∀ {us:List Value} {ds:List D},cvs f us=some ds→∃ vs,Vals vs us∧vs.length=ds.length∧∀ m H (j:Nat) v d,vs[j]?=some v→ds[j]?=some d→RV K m H v d
 |[],ds,h=>by cases h;exact⟨[], .nil,rfl,fun _ _ j v d h=>by simp at h⟩
 |u::us,ds,h=>by
  unfold cvs at h
  split at h
  ·rename_i d ds' h1 h2;cases h;obtain⟨v,r1,r2⟩:=hf _ _ h1;obtain⟨vs,r3,r4,r5⟩:=aCM hf h2;refine⟨v::vs, .cons r1 r3,by simp[r4],fun m H j v' d' e1 e2=>?_⟩;cases j with
   |zero=>cases e1;cases e2;exact r2 m H
   |succ j=>exact r5 m H j v' d' (by simpa using e1) (by simpa using e2)
  ·cases h
theorem yF{K:KW}:∀ (n:Nat) {v:Value} {d:D},cv K.K n v=some d→RelC K v d
 |n, .none,d,h=>by cases n<;>(cases h;exact⟨.non,rfl,fun _ _=>.no⟩)
 |n, .bool b,d,h=>by cases n<;>(cases h;exact⟨.bl b,rfl,fun _ _=>.b b⟩)
 |n, .int i t,d,h=>by cases n<;>(cases h;exact⟨.int i,⟨_,rfl⟩,fun _ _=>.i i⟩)
 |n, .str s t,d,h=>by cases n<;>(cases h;exact⟨.str s,⟨_,rfl⟩,fun _ _=>.s s⟩)
 |n+1, .ref a,d,h=>by
  unfold cv at h
  split at h
  ·rename_i us k sl hl
   split at h
   ·rename_i ds h1 h2;cases h;obtain⟨vs,r1,r2,r3⟩:=aCM (K:=K) (fun v d=>yF n) h2;exact⟨.ref a,rfl,fun m H=>.k (fun H'=>.inr ⟨_,us,k,hl,rfl,rfl,by have:=Z36 h1;rw[Y14];omega,r1⟩) r2 (r3 m H)⟩
   ·cases h
  ·rename_i fd sl hl
   split at h
   ·rename_i f hf
    split at h
    ·rename_i e;subst e;cases h;exact⟨.ref f,rfl,fun m H=>.fn hf⟩
    ·cases h
   ·cases h
  ·cases h
 |0, .ref a,d,h=>by cases h
 |n, .type _,d,h=>by cases n<;>cases h
 |n, .builtin _,d,h=>by cases n<;>cases h
 |n, .ellipsis,d,h=>by cases n<;>cases h
 |n, .notImplemented,d,h=>by cases n<;>cases h
 |n, .float _ _,d,h=>by cases n<;>cases h
 |n, .bytes _ _,d,h=>by cases n<;>cases h
theorem rG:∀ {l:List Key},nodupK l=true→l.Nodup
 |[],_=>List.nodup_nil
 |k::r,h=>by
  unfold nodupK at h;rw[Z11,U20] at h;exact W27.mpr ⟨fun m=>by have:=h.1 k m;simp at this,rG h.2⟩
theorem aCN{K:KW}:∀ {es:List DictEntry} {l:List (Key×D)},cdE K.K es=some l→es.map (·.hash)=(l.map (·.1)).map (keyH K.w)→
  ∃ (vs:List (Key×Value)) (kws:List (Key×V)),KV kws vs∧Pairs (mixKind K.P K.w) es vs∧vs.map (·.1)=l.map (·.1)∧kws.map (·.1)=l.map (·.1)∧kws.length=es.length∧(∀ e∈es,∃ k,(mixKind K.P K.w).is k e.key=true∧e.hash=(mixKind K.P K.w).hash k)∧∀ m H (j:Nat) w p,kws[j]?=some w→l[j]?=some p→RV K m H w.2 p.2
 |[],l,h,_=>by cases h;exact⟨[],[], .nil, .nil,rfl,rfl,rfl,fun e h=>(by cases h),fun _ _ j w p h=>(by simp at h)⟩
 |⟨hs, .str s t,v⟩::r,l,h,hh=>by
  unfold cdE at h
  split at h
  ·rename_i d l' h1 h2;cases h;simp only[V15,Y34] at hh;obtain⟨vs,kws,a1,a2,a3,a4,a5,a6,a7⟩:=aCN h2 hh.2;obtain⟨vv,r1,r2⟩:=yF (K:=K) 4 h1;refine⟨(.inr s,v)::vs,(.inr s,vv)::kws, .cons ⟨rfl,r1⟩ a1, .cons (jV K.P K.w s t) rfl a2,by simp[a3],by simp[a4],by simp[a5],fun e he=>?_,fun m H j w p e1 e2=>?_⟩
   ·rcases W12.mp he with rfl|he
    ·exact⟨.inr s,jV K.P K.w s t,hh.1⟩
    ·exact a6 e he
   ·cases j with
    |zero=>cases e1;cases e2;exact r2 m H
    |succ j=>exact a7 m H j w p (by simpa using e1) (by simpa using e2)
  ·cases h
 |⟨_, .none,_⟩::_,_,h,_=>by cases h
 |⟨_, .bool _,_⟩::_,_,h,_=>by cases h
 |⟨_, .int _ _,_⟩::_,_,h,_=>by cases h
 |⟨_, .ref _,_⟩::_,_,h,_=>by cases h
 |⟨_, .type _,_⟩::_,_,h,_=>by cases h
 |⟨_, .builtin _,_⟩::_,_,h,_=>by cases h
 |⟨_, .ellipsis,_⟩::_,_,h,_=>by cases h
 |⟨_, .notImplemented,_⟩::_,_,h,_=>by cases h
 |⟨_, .float _ _,_⟩::_,_,h,_=>by cases h
 |⟨_, .bytes _ _,_⟩::_,_,h,_=>by cases h
theorem aIT{K:KW}{v:Value}{d:D}(h:cd K.K v=some d)(hh:chs K.K v=(dkeys d).map (keyH K.w)):RelC K v d:=by
 unfold cd at h
 split at h
 ·rename_i a
  split at h
  ·rename_i es ep hl
   split at h
   ·rename_i l h1 h2
    split at h
    ·rename_i h3;cases h;have e:chs K.K (.ref a)=es.toList.map (·.hash):=by unfold chs;dsimp only;rw[hl]
     rw[e] at hh;obtain⟨vs,kws,a1,a2,a3,a4,a5,a6,a7⟩:=aCN h2 hh;rw[Z11] at h1;have hz:=Z36 h1.1;refine⟨.ref a,rfl,fun m H=>.dc (kws:=kws) ⟨by rw[a5,Y14,Y23];omega,by simpa using h1.2,vs,ep,a1,fun hp hi=>⟨_,es,hi _ _ hl,⟨rfl,rfl,rfl⟩,rfl,fun e he=>a6 e (by simpa using he),a2,by rw[a3];exact rG h3⟩⟩ a4 (a7 m H)⟩
    ·cases h
   ·cases h
  ·exact yF 4 h
 ·exact yF 4 h
theorem aHN{P:Program}{w:World}{K:Frag}{h:Heap}{mg:Str→Option Value}{x:Str}{d:D}(X:K.In h)(G:h.Ns mainGlobals mg)(e:cAt K x=cWant w d):∃ v u,mg x=some u∧RelV v u∧∀ m H,RV ⟨K,P,w⟩ m H v d:=by
 unfold cAt cWant at e
 split at e
 ·rename_i u hu;simp only[W29,Z19] at e;obtain⟨v,r1,r2⟩:=aIT (K:=⟨K,P,w⟩) e.1 e.2;exact⟨v,u,mg_of X G hu,r1,r2⟩
 ·cases e
theorem aCO{K:Frag}{C:Addr}{fs:List Str}(h:clsAt K C fs=clsWant fs):Cls K C∧∀ f,fs.contains f=true→NoAttr K C f:=by
 unfold clsAt clsWant at h;simp only[Z19] at h;obtain⟨h1,h2,h3,h4,h5⟩:=h;exact⟨⟨h1,h2,h3,h4⟩,fun f hf=>List.map_inj_left.mp h5 f (by simpa using hf)⟩
theorem aCP{K:Frag}{C:Addr}{x qual:Str}{st:Stmt}{ps:List Str}(h:mthAt K C x=mthWant x qual st)
  (hb:∀ (kV doc pm:Value) (an:Option Addr) (cdv ct:Value) (us:List Value),us.length=ps.length→bindArgs (fnOf x qual (defArgs st) (defBody st) (defScope st) .none kV doc pm an cdv ct) ⟨us,[]⟩=pure (ps.zip us)):∃ f fd,DefM K C x qual st ps f fd:=by
 unfold mthAt mthWant at h
 split at h
 ·rename_i f hf
  split at h
  ·rename_i oc od fd sl hl;obtain⟨n,q,ps,b,sc,g,cl,dV,kV,dc,pm,an,cd,ct,bu⟩:=fd;simp only[W29,Z19] at h;obtain⟨rfl,rfl,rfl,rfl,rfl,rfl,rfl,rfl,rfl,h1,h2⟩:=h;rw[Z11] at h2;have F':Fun K n q st f _:=vZ (st:=st) hl h1 h2.1;exact⟨f,_,F',F'.binds hb,hf,h2.2,h2.1⟩
  ·cases h
 ·cases h
theorem aIU{K:Frag}{C f:Addr}{y:Str}{h:Heap}{mg:Str→Option Value}(X:K.In h)(G:h.Ns mainGlobals mg)(e:mkAt K C y=(true,true,some (some (.ref C))))(hm:Meth K C "__init__" f):Mk K C f∧mg y=some (.ref C):=by
 unfold mkAt at e;simp only[Z19] at e;exact⟨⟨e.1,hm.at_,hm.fn,e.2.1⟩,mg_of X G e.2.2⟩
abbrev GoodIn(Good:World→Frag→Prop)(w:World)(h:Heap):Prop:=∃ K:Frag,Good w K∧K.In h
theorem GoodIn.keeps{Good:World→Frag→Prop}(w:World)(h h':Heap)(x:GoodIn Good w h)(k:∀ b o,h.get? b=some o→h'.get? b=some o):GoodIn Good w h':=by
 obtain⟨K,g,i⟩:=x;exact⟨K,g,i.keeps k⟩
theorem aEY{l:OpenLaw}{k:Nat}{q:Program}{loose:List Str}{XP:(Str→Option Value)→Heap→Prop}{Good:World→Frag→Prop}{d:DefRec}{f:List D→M D}{x:Str}
  (hn:l.most=some 63)(hdf:d.params.defaults=[])(hr:Room k callerA)
  (F:∀ (w:World) (K:Frag),Good w K→∀ (mg:Str→Option Value) (fa:Addr) (h:Heap),K.In h→h.Ns mainGlobals mg→mg d.name=some (.ref fa)→
   ∃ fd:FuncData,(∀ (s:Shared) (u:Value),BindsTo s fd ⟨[u],[]⟩ [(x,u)])∧∀ base:Heap,K.In base→base.Ns mainGlobals mg→FnOk l.prog w K mg base CX0 k fa fd [x] (LF ⟨K,l.prog,w⟩ f))
  (ht:∀ ns:List Int,ns.length≤63→∃ st',f [.f (ns.map D.i)] []=some (.b true,st')):
  WalkO q loose XP (GoodIn Good) l.row.toRowW d [] (fun f vs=>PySem.call f vs):=by
 refine Att.attach_call hn hdf fun w s₀ s₁ mg mb fa o pm cd doc a vs ns G Y ho hd hcd hmg hobj hints hlen hg=>?_;obtain⟨K,g,KX⟩:=Y;obtain⟨fd,hb,hF⟩:=F w K g mg fa _ KX G.T.g hmg;refine aBt KX G.T.g G.T.b G.T.builtins G.T.nolimit hg hobj hints (Z17 hlen (by decide)) hr hF hb (fun H hO hS=>?_) fun H e s' z=>z;obtain⟨st',ht⟩:=ht ns hlen;have hz:FzL K H a (ns.map V.int):=by
  rcases hS with (h|⟨o,h⟩)|h
  ·rcases hO a with q|⟨o,xs,q⟩
   ·rw[q] at h;cases h
   ·rw[q] at h;cases h
  ·exact .inl ⟨o,h⟩
  ·exact .inr h
 refine⟨[],[],[.f (ns.map D.i)], .b true,st',⟨rfl,List.nodup_nil,fun l a c h=>by simp at h⟩, .one (.f hz (by simp) fun j v d h1 h2=>?_),ht,fun v H' m' _ _ r=>by cases r;rfl⟩;rw[Z13] at h1 h2;cases q:ns[j]? with
 |none=>rw[q] at h1;cases h1
 |some n=>rw[q] at h1 h2;cases h1;cases h2;exact .i n
theorem aEZ{l:OpenLaw}{q:Program}{loose:List Str}{N:Nat}{α:Type}{Yf:Frag→α}{y:World→α}{Good:World→Frag→Prop}{d:DefRec}(said:l.wellSaid=true)
  (left:LeftO l.row.prog q loose (fun s=>xlAt q [] s&&recOk l.row.toRowW.records s) (fun s=>Yf (fragOf s.heap)) y N)
  (hG:∀ w K,Yf K=y w→Good w K)
  (hdef:defOf q l.row.name=some (d,[]))(hp:l.row.prog.theDef l.row.name=some (d.params,d.body,d.scope))(hk:kwWritten? d.params.kwonlyargs d.params.kw_defaults=some [])(hwr:(!l.row.writes || l.row.records.isEmpty)=true)
  (ok:(chainsOk q&&opensWell l.row.prog&&(frees l.row.toRowW&&l.row.within.isEmpty))=true)(hb:l.row.prog.bare)(hw:l.row.toRowW.promised)
  (call:WalkO q loose (XL q []) (GoodIn Good) l.row.toRowW d [] fun f vs=>PySem.call f vs):l.Holds:=
 holds_law said fun k1=>holds_open (q:=q) (loose:=loose) (XP:=XL q []) (YP:=GoodIn Good) left (fun w s e=>⟨_,hG w _ e,aAv _⟩) GoodIn.keeps (fun s e=>xl_of s (Bool.and_eq_true_iff.mp e).1) XL.keeps hdef hp hk (fun s e=>recFacts_of (Bool.and_eq_true_iff.mp e).2) hwr k1 ok hb hw call
theorem yG{tb:String→Option Builtin}{p:Program}{w:World}{n₀:Nat}{ann:Option Value}:∀ {n:Nat} {s s':SharedT} {t:Thread},topT tb p w n₀ ann n s t=some s'→topRun tb p w n₀ ann n s.abs t=some s'.abs
 |0,_,_,_,h=>by cases h
 |n+1,s,s',t,h=>by
  unfold topT at h;unfold topRun;cases ht:through t with
  |true=>rw[ht] at h;cases h;rfl
  |false=>
   rw[ht] at h;cases hk:stepOk n₀ ann t with
   |false=>rw[hk] at h;cases h
   |true=>
    rw[hk] at h;cases hs:PySem.W.stepT (denote tb) p w s t with
    |none=>rw[hs] at h;cases h
    |some r=>
     obtain⟨s2,t2⟩:=r;rw[hs] at h;dsimp only;rw[PySem.W.stepT_spec hs];exact yG h
theorem boot_abs(P:Params):absHeap (bootT P) 11 {}=boot_heap P:=by kernel_rfl
theorem aAw(P:Params):((boot_heap P).isNs mainGlobals&&(#[]:Array GenState).size==0,(boot_heap P).objs.size,(boot_heap P).nsMap mainGlobals "__annotations__")=(true,11,some (.ref 6)):=by kernel_rfl
def looksT(p q:Program)(loose:List Str)(Xt:Shared→Bool){α:Type}(Yf:Shared→α)(P:Params)(s:Shared):=
 ((staticsOk (importedModules p.main.body) (boot_heap P) s.heap&&namesBound p s.heap&&gensDone s&&laidKept (boot_heap P) s.heap),openSeen q loose (importedModules p.main.body) Xt true s,Yf s)
theorem aFa{p q:Program}{loose:List Str}{Xt:Shared→Bool}{α:Type}{Yf:Shared→α}{y:World→α}{N:Nat}(e:opening p=plainProg p.main.scope.names)(hN:Nat.ble 600 N=true)(f:∀ s,fenceModules? p s=some s)
  (run:∀ (w:World) (os:OsState),(topT treeTable p w 11 (some (.ref 6)) N (bootS w.params os) (topStub p)).map (fun s=>looksT p q loose Xt Yf w.params s.abs)=some (true,openGood q loose,y w)):LeftO p q loose Xt Yf y N:=fun w=>by
 obtain⟨⟨h,gs,d,k,os⟩,e1,e2⟩:=Z12.mp (boot_open e hN f w);obtain⟨rfl,rfl,rfl,rfl⟩:h=boot_heap w.params∧gs=Array.mk []∧d=boot_drawn∧k=boot_toks:=by simpa using e2
 obtain⟨s,r1,r2⟩:=Z12.mp (run w os);have r3:=yG r1;have hb:(bootS w.params os).abs=⟨boot_heap w.params,Array.mk [],boot_drawn,boot_toks,os⟩:=by
  unfold bootS SharedT.abs;dsimp only;rw[boot_abs]
 rw[hb] at r3;have z:=aAw w.params;simp only[Z19] at z;obtain⟨z1,z2,z3⟩:=z;unfold looksT at r2;simp only[Z19] at r2;obtain⟨l1,l2,l3⟩:=r2;have t:topFrom treeTable p w N ⟨boot_heap w.params,Array.mk [],boot_drawn,boot_toks,os⟩=some s.abs:=by
  unfold topFrom;dsimp only;rw[z1,z2,z3,r3];show(match staticsOk (importedModules p.main.body) (boot_heap w.params) s.abs.heap&&namesBound p s.abs.heap&&gensDone s.abs&&laidKept (boot_heap w.params) s.abs.heap with |true=>_|false=>_)=_;rw[l1]
 unfold openEnds;rw[e1];show(topFrom treeTable p w N _).map _=_;rw[t];exact congrArg some (Prod.ext l2 l3)
theorem uQ(t:BT):∀ (n:Nat) (acc:List Obj),listF t n acc=t.list n++acc
 |0,acc=>rfl
 |n+1,acc=>by
  unfold listF;rw[uQ t n];unfold BT.list;rw[V28,List.map_append,U10]
  rfl
theorem aFb(s:SharedT):absF s=s.abs:=by
 unfold absF SharedT.abs absHeap;rw[uQ,V12]
theorem aHO{t:BT}{n:Nat}{life:Life}{a:Nat}(h:a<n):(absHeap t n life).get? a=alive ((t.get a).getD default):=by
 unfold Heap.get?;rw[absHeap_at,if_pos h];generalize (t.get a).getD default=o;obtain⟨c,d,dt,sl⟩:=o;cases dt<;>rfl
theorem pM{t:BT}{n:Nat}{life:Life}:∀ (k:Nat) (acc:Frag),k≤n→fragT t k acc=((List.range k).filterMap fun a=>((absHeap t n life).get? a).map fun o=>(a,o))++acc
 |0,acc,_=>rfl
 |k+1,acc,h=>by
  unfold fragT;rw[V28,U35,U10];have e:([k].filterMap fun a=>((absHeap t n life).get? a).map fun o=>(a,o))=(match alive ((t.get k).getD default) with |some o=>[(k,o)]|none=>[]):=by
   rw[U22,List.filterMap_nil,aHO (by omega)];cases alive ((t.get k).getD default)<;>rfl
  rw[e];cases alive ((t.get k).getD default) with
  |none=>exact pM k acc (by omega)
  |some o=>exact pM k _ (by omega)
theorem aCQ(s:SharedT):fragT s.tree s.n []=fragOf s.abs.heap:=by
 rw[pM (n:=s.n) (life:=s.life) s.n [] (Y12 _),V12];unfold fragOf SharedT.abs;dsimp only;rw[absHeap_size]
abbrev rnT(p:Program)(w:World)(os:OsState)(N:Nat):=topT treeTable p w 11 (some (.ref 6)) N (bootS w.params os) (topStub p)
theorem wW{p q:Program}{loose:List Str}{Xt:Shared→Bool}{α:Type}{Yf:Frag→α}{y:World→α}{N:Nat}(row:String)(e:opening p=plainProg p.main.scope.names)(hN:Nat.ble 600 N=true)(f:∀ s,fenceModules? p s=some s)
  (c0:∀ (w:World) (os:OsState) (b:Bool),(rnT p (w.withFollow row b) os N).map (fun s=>lk0 q s)=some (expectedOf q))
  (c1:∀ (w:World) (os:OsState) (b:Bool),(rnT p (w.withFollow row b) os N).map (fun s=>((absF s).heap.bltView,lk3 p s,lk4 q Xt s,pinSeenD q (drecsOf q) (absF s),plainSeenD q loose (absF s),clsSeenW q loose (absF s),lk9 p (w.withFollow row b).params s))=some (bltViewBooted,true,true,pinGoodD (drecsOf q),plainGoodD q loose,clsGoodW q loose,true))
  (c2:∀ (w:World) (os:OsState) (b:Bool),(rnT p (w.withFollow row b) os N).map (fun s=>lk2 q loose s)=some true)
  (c3:∀ (w:World) (os:OsState) (b:Bool),(rnT p (w.withFollow row b) os N).map (fun s=>tabsOk q (absF s))=some true)
  (c4:∀ (w:World) (os:OsState) (b:Bool),(rnT p (w.withFollow row b) os N).map (fun s=>plainSeenE q (looseW q loose) (absF s))=some (plainGoodE q (looseW q loose)))
  (c5:∀ (w:World) (os:OsState) (b:Bool),(rnT p (w.withFollow row b) os N).map (fun s=>wideSeen q (absF s))=some (wideGood q))
  (cY:∀ (w:World) (os:OsState) (b:Bool),(rnT p (w.withFollow row b) os N).map (fun s=>Yf (fragT s.tree s.n []))=some (y (w.withFollow row b))):LeftO p q loose Xt (fun s=>Yf (fragOf s.heap)) y N:=
 aFa e hN f fun w os=>by
  have z:=World.withFollow_self w row;have r0:=c0 w os (w.params.followText row);have r1:=c1 w os (w.params.followText row);have r2:=c2 w os (w.params.followText row);have r3:=c3 w os (w.params.followText row);have r4:=c4 w os (w.params.followText row);have r5:=c5 w os (w.params.followText row);have rY:=cY w os (w.params.followText row);rw[z] at r0 r1 r2 r3 r4 r5 rY;unfold rnT at r0 r1 r2 r3 r4 r5 rY;obtain⟨s,hs,l0⟩:=Z12.mp r0;rw[hs] at r1 r2 r3 r4 r5 rY ⊢;simp only[Option.map_some,W29,Z19] at r1 r2 r3 r4 r5 rY ⊢;obtain⟨a1,a2,a3,a4,a5,a6,a7⟩:=r1;unfold lk0 at l0;unfold lk3 at a2;unfold lk4 at a3;unfold lk9 at a7;unfold lk2 at r2;rw[aFb] at l0 a1 a2 a3 a4 a5 a6 a7 r2 r3 r4 r5;rw[aCQ] at rY;simp only[Z11] at a3;obtain⟨b1,b2,b3,b4,b5⟩:=a3;unfold looksT openSeen openGood;simp only[Z19];refine⟨a7,⟨l0,a1,?_,r3,a4,r4,a5,r5,a6⟩,rY⟩;simp only[r2,a2,b1,b2,b3,b4,if_true,Bool.true_and,Bool.and_self];exact b5
noncomputable abbrev DSp.ps(s:DSp):List Str:=s.N.take s.a
noncomputable def Tb.d(T:Tb)(s:DSp)(g:List D→M D):Tb:=⟨(s.x,s.k+1,g)::T.dl,T.ml,T.kl⟩
noncomputable def Tb.m(T:Tb)(s:DSp)(g:List D→M D):Tb:=⟨T.dl,(s.x,s.k+1,g)::T.ml,T.kl⟩
noncomputable def Tb.c(T:Tb)(y:Str)(s:DSp)(g:List D→M D):Tb:=⟨T.dl,T.ml,(y,s.k+1,g)::T.kl⟩
def chk(cons:List (Str×D))(blt:List Str)(C:Addr)(fs:List Str)(T:Tb)(st:Stmt)(s:DSp):Option Sm':=grd (scB s.N s.ps (defScope st)) (compS (T.gt s.k cons blt C fs) ⟨s.N,(defScope st).names,s.k⟩ (defBody st))
def BindOk(st:Stmt)(x q:Str)(ps:List Str):Prop:=∀ (kV doc pm:Value) (an:Option Addr) (cdv ct:Value) (us:List Value),us.length=ps.length→bindArgs (fnOf x q (defArgs st) (defBody st) (defScope st) .none kV doc pm an cdv ct) ⟨us,[]⟩=pure (ps.zip us)
theorem us1{F:FuncData}{p:Str}(h:∀ a,bindArgs F ⟨[a],[]⟩=pure ([p].zip [a])):∀ us:List Value,us.length=[p].length→bindArgs F ⟨us,[]⟩=pure ([p].zip us)
 |[_],_=>h _
theorem us2{F:FuncData}{p q:Str}(h:∀ a b,bindArgs F ⟨[a,b],[]⟩=pure ([p,q].zip [a,b])):∀ us:List Value,us.length=[p,q].length→bindArgs F ⟨us,[]⟩=pure ([p,q].zip us)
 |[_,_],_=>h _ _
theorem us3{F:FuncData}{p q r:Str}(h:∀ a b c,bindArgs F ⟨[a,b,c],[]⟩=pure ([p,q,r].zip [a,b,c])):∀ us:List Value,us.length=[p,q,r].length→bindArgs F ⟨us,[]⟩=pure ([p,q,r].zip us)
 |[_,_,_],_=>h _ _ _
theorem bo1{st:Stmt}{x q p:Str}(h:∀ kV doc pm an cdv ct a,bindArgs (fnOf x q (defArgs st) (defBody st) (defScope st) .none kV doc pm an cdv ct) ⟨[a],[]⟩=pure ([p].zip [a])):BindOk st x q [p]:=fun _ _ _ _ _ _ us=>us1 (h _ _ _ _ _ _) us
theorem bo2{st:Stmt}{x q p p2:Str}(h:∀ kV doc pm an cdv ct a b,bindArgs (fnOf x q (defArgs st) (defBody st) (defScope st) .none kV doc pm an cdv ct) ⟨[a,b],[]⟩=pure ([p,p2].zip [a,b])):BindOk st x q [p,p2]:=fun _ _ _ _ _ _ us=>us2 (h _ _ _ _ _ _) us
theorem bo3{st:Stmt}{x q p p2 p3:Str}(h:∀ kV doc pm an cdv ct a b c,bindArgs (fnOf x q (defArgs st) (defBody st) (defScope st) .none kV doc pm an cdv ct) ⟨[a,b,c],[]⟩=pure ([p,p2,p3].zip [a,b,c])):BindOk st x q [p,p2,p3]:=fun _ _ _ _ _ _ us=>us3 (h _ _ _ _ _ _) us
end L2
end
section
namespace K89
open PySem L2 PyProof.Rows
section
abbrev Fn:=List D→M D
noncomputable def T0:Tb:=⟨[],[],[]⟩
abbrev L0a:Sm':=sA (eOp modD (eOp addD (eOp addD (eOp addD (eOp mulD (eV 1) (eC (.i 7368787))) (eOp modD (eV 3) (eOp powD (eC (.i 10)) (eC (.i 30))))) (eOp mulD (eC (.i 13)) (eV 2))) (eC (.i 11))) (eC (.i 2305843009213693951))) (gN 1)
def jM:Sm':=seqS (sA (eC (.i 7)) (gN 1))
   (seqS (sF (iEn (aC (eV 0) aN)) (gT 2 (gsC (gN 2) (gsC (gN 3) gsN))) L0a)
   (seqS (sA (eCo [] (iS (eSl (eV 0) oN (oS (eC (.i 63))))) bd1 (tCm geD (eV 0) (eOp powD (eC (.i 10)) (eC (.i 18)))) (eV 0)) (gN 4))
   (sR (eOp addD (eL (aC (eV 1) aN)) (eCl lrevD (aC (eV 4) aN))))))
def gV:Fn:=runF 5 1 jM
def T1:Tb:=T0.d S0 gV
def fZ:Sm':=seqS (sI (tCm gtD (eCl lenD (aC (eV 0) aN)) (eC (.i 1))) (seqS (sA (eOp modD (eIx (eV 0) (eUn negD (eC (.i 1)))) (eV 1)) (gN 2))
   (seqS (sA (eOp fdivD (eIx (eV 0) (eUn negD (eC (.i 1)))) (eV 1)) (gS (eV 0) (eUn negD (eC (.i 1)))))
   (seqS (sI (tCm eqD (eIx (eV 0) (eUn negD (eC (.i 1)))) (eC (.i 0))) (sE (eB0 "list" popD (eV 0))) sN)
   (sR (eV 2))))) sN)
   (seqS (sA (eOp modD (eOp addD (eOp mulD (eIx (eV 0) (eC (.i 0))) (eC (.i 1181783497276652981))) (eC (.i 12345678910987))) (eC (.i 2305843009213693951))) (gS (eV 0) (eC (.i 0))))
   (seqS (sA (eOp fdivD (eIx (eV 0) (eC (.i 0))) (eC (.i 65537))) (gN 3))
   (sR (eOp modD (eOp fdivD (eOp modD (eOp mulD (eV 3) (eV 3)) (eC (.i 2147483629))) (eC (.i 7))) (eV 1)))))
def aF:Fn:=runF 4 2 fZ
def T2:Tb:=T1.d S1 aF
abbrev L2a:Sm':=sI (tCm eqD (eCl aF (aC (eV 0) (aC (eC (.i 2)) aN))) (eC (.i 0))) (sPar 2 3 (aC (eT (aC (eC (.s "call")) (aC (eC (.s "f")) (aC (eT (aC (eV 2) aN)) aN)))) (aC (eOp addD (eOp addD (eC (.s "f(")) (eV 3)) (eC (.s ")"))) aN))) (sPar 2 3 (aC (eT (aC (eC (.s "form")) (aC (eC (.s "S")) (aC (eT (aC (eT (aC (eC (.s "form")) (aC (eC (.s "Z")) (aC (eT aN) aN)))) (aC (eV 2) aN))) aN)))) (aC (eOp addD (eOp addD (eC (.s "S(Z, ")) (eV 3)) (eC (.s ")"))) aN)))
def fH:Sm':=seqS (sA (eT (aC (eT (aC (eC (.s "free")) (aC (eC (.s "x")) aN))) (aC (eC (.s "x")) aN))) (gT 2 (gsC (gN 2) (gsC (gN 3) gsN))))
   (seqS (sF (iR1 (aC (eV 1) aN)) (gN 4) L2a)
   (sR (eT (aC (eV 2) (aC (eV 3) aN)))))
def dH:Fn:=runF 5 2 fH
def T3:Tb:=T2.d S2 dH
def fI:Sm':=seqS (sA (eIx (eV 0) (eC (.i 0))) (gN 1))
   (seqS (sI (tCm inD (eV 1) (eC jH)) (sR (eIx (eV 0) (eC (.i 2)))) sN)
   (seqS (sI (tCm inD (eV 1) (eC jI)) (sR (eT (aC (eIx (eV 0) (eC (.i 1))) (aC (eIx (eV 0) (eC (.i 2))) aN)))) sN)
   (seqS (sI (tCm inD (eV 1) (eC cJ)) (sR (eT (aC (eIx (eV 0) (eC (.i 2))) aN))) sN)
   (sR (eT aN)))))
def bR:Fn:=runF 2 1 fI
def T4:Tb:=T3.d S3 bR
abbrev L4a:Sm':=seqS (sA (eB0 "list" popD (eV 2)) (gN 3))
   (seqS (sI (tCm eqD (eIx (eV 3) (eC (.i 0))) (eC (.s "free"))) (sE (eBad)) sN)
   (sE (eBm "list" extendD (eV 2) (aC (eCl bR (aC (eV 3) aN)) aN))))
def mW:Sm':=seqS (sA (eS0) (gN 1))
   (seqS (sA (eL (aC (eV 0) aN)) (gN 2))
   (seqS (sW (tVl (eV 2)) L4a)
   (sR (eCl sortedD (aC (eV 1) aN)))))
def lA:Fn:=runF 4 1 mW
def T5:Tb:=T4.d S4 lA
def eO:Sm':=seqS (sA (eOo (eOp eqD (eV 0) (eC (.s "statement"))) (eOp eqD (eV 0) (eC (.s "body")))) (gN 2))
   (sR (eT (aC (eV 0) (aC (eV 1) (aC (eIf (tVl (eV 2)) (eT (aC (eT aN) (aC (eCl lA (aC (eV 1) aN)) aN))) (eC dD)) aN)))))
def aU:Fn:=runF 3 2 eO
def T6:Tb:=T5.d S5 aU
abbrev L6a:Sm':=sE (eBm "list" extendD (eV 1) (aC (eIf (tVl (eV 1)) (eOp addD (eL (aC (eC (.s ", ")) aN)) (eV 2)) (eV 2)) aN))
def pN:Sm':=seqS (sA (eL aN) (gN 1))
   (seqS (sF (iS (eV 0)) (gN 2) L6a)
   (sR (eV 1)))
def cV:Fn:=runF 3 1 pN
def T7:Tb:=T6.d S6 cV
def nN:Sm':=sR (eOp addD (eOp addD (eL (aC (eOp addD (eIx (eV 0) (eC (.i 1))) (eC (.s "("))) aN)) (eCl cV (aC (eCo [1] (iS (eIx (eV 0) (eC (.i 2)))) bd1 (fun _=>ret true) (eL (aC (eT (aC (eC (.s "term")) (aC (eV 0) (aC (eV 1) aN)))) aN))) aN))) (eL (aC (eC (.s ")")) aN)))
def cW:Fn:=runF 2 2 nN
def T8:Tb:=T7.d S7 cW
def bZ:Sm':=seqS (sI (tCm eqD (eIx (eV 0) (eC (.i 0))) (eC (.s "free"))) (sR (eL (aC (eIx (eV 0) (eC (.i 1))) aN))) sN)
   (seqS (sI (tCm eqD (eIx (eV 0) (eC (.i 0))) (eC (.s "bound"))) (sR (eL (aC (eIx (eIx (eV 1) (eC (.i 0))) (eOp subD (eUn negD (eC (.i 1))) (eIx (eV 0) (eC (.i 1))))) aN))) sN)
   (seqS (sI (tAn (tCm eqD (eIx (eV 0) (eC (.i 0))) (eC (.s "form"))) (tCm eqD (eCl lenD (aC (eIx (eV 0) (eC (.i 2))) aN)) (eC (.i 0)))) (sR (eL (aC (eIx (eV 0) (eC (.i 1))) aN))) sN)
   (sR (eCl cW (aC (eV 0) (aC (eV 1) aN))))))
def cD:Fn:=runF 2 2 bZ
def T9:Tb:=T8.d S8 cD
abbrev L9a:Sm':=seqS (sG isubD 2 (eC (.i 1)))
   (seqS (sA (eOp addD (eIx (eC (.s "abcdefghijklmnopqrstuvwxyz")) (eOp modD (eV 2) (eCl lenD (aC (eC (.s "abcdefghijklmnopqrstuvwxyz")) aN)))) (eV 1)) (gN 1))
   (sA (eOp fdivD (eV 2) (eCl lenD (aC (eC (.s "abcdefghijklmnopqrstuvwxyz")) aN))) (gN 2)))
def kA:Sm':=seqS (sA (eC (.s "")) (gN 1))
   (seqS (sA (eOp fdivD (eV 0) (eCl lenD (aC (eC (.s "xyz")) aN))) (gN 2))
   (seqS (sW (tCm gtD (eV 2) (eC (.i 0))) L9a)
   (sR (eOp addD (eIx (eC (.s "xyz")) (eOp modD (eV 0) (eCl lenD (aC (eC (.s "xyz")) aN)))) (eV 1)))))
def eJ:Fn:=runF 3 1 kA
def T10:Tb:=T9.d S9 eJ
abbrev L10a:En→M Bool:=tOo (tCm inD (eCl eJ (aC (eV 3) aN)) (eV 1)) (tCm inD (eCl eJ (aC (eV 3) aN)) (eV 2))
def kB:Sm':=seqS (sA (eV 0) (gT 2 (gsC (gN 1) (gsC (gN 2) gsN))))
   (seqS (sA (eC (.i 0)) (gN 3))
   (seqS (sW L10a (sG iaddD 3 (eC (.i 1))))
   (sR (eCl eJ (aC (eV 3) aN)))))
def gA:Fn:=runF 4 1 kB
def T11:Tb:=T10.d S10 gA
def hZ:Sm':=seqS (sA (eCl gA (aC (eV 1) aN)) (gN 2))
   (sR (eT (aC (eV 2) (aC (eT (aC (eC (.s "statement")) (aC (eV 0) (aC (eT (aC (eOp addD (eIx (eV 1) (eC (.i 0))) (eT (aC (eV 2) aN))) (aC (eIx (eV 1) (eC (.i 1))) aN))) aN)))) aN))))
def cH:Fn:=runF 3 2 hZ
def T12:Tb:=T11.d S11 cH
def aZ:Sm':=seqS (sI (tCm eqD (eIx (eV 0) (eC (.i 0))) (eC (.s "false"))) (sR (eL (aC (eC (.s "false")) aN))) sN)
   (seqS (sI (tCm eqD (eIx (eV 0) (eC (.i 0))) (eC (.s "atom"))) (sR (eCl cW (aC (eV 0) (aC (eV 1) aN)))) sN)
   (seqS (sI (tCm eqD (eIx (eV 0) (eC (.i 0))) (eC (.s "same"))) (sR (eL (aC (eT (aC (eC (.s "term")) (aC (eIx (eV 0) (eC (.i 1))) (aC (eV 1) aN)))) (aC (eC (.s " = ")) (aC (eT (aC (eC (.s "term")) (aC (eIx (eV 0) (eC (.i 2))) (aC (eV 1) aN)))) aN))))) sN)
   (seqS (sI (tCm inD (eIx (eV 0) (eC (.i 0))) (eC cJ)) (seqS (sA (eCl cH (aC (eIx (eV 0) (eC (.i 2))) (aC (eV 1) aN))) (gT 2 (gsC (gN 2) (gsC (gN 3) gsN))))
   (sR (eL (aC (eOp addD (eOp addD (eOp addD (eOp addD (eOp addD (eIx (eV 0) (eC (.i 0))) (eC (.s " "))) (eV 2)) (eC (.s " "))) (eIx (eV 0) (eC (.i 1)))) (eC (.s ": "))) (aC (eV 3) aN))))) sN)
   (sR (eL (aC (eC (.s "(")) (aC (eT (aC (eC (.s "statement")) (aC (eIx (eV 0) (eC (.i 1))) (aC (eV 1) aN)))) (aC (eIx (eC jT) (eIx (eV 0) (eC (.i 0)))) (aC (eT (aC (eC (.s "statement")) (aC (eIx (eV 0) (eC (.i 2))) (aC (eV 1) aN)))) (aC (eC (.s ")")) aN))))))))))
def bA:Fn:=runF 4 2 aZ
def T13:Tb:=T12.d S12 bA
def iM:Sm':=seqS (sA (eCl cH (aC (eV 0) (aC (eV 1) aN))) (gT 2 (gsC (gN 2) (gsC (gN 3) gsN))))
   (sR (eL (aC (eOp addD (eV 2) (eC (.s ": "))) (aC (eV 3) aN))))
def iN:Fn:=runF 4 2 iM
def T14:Tb:=T13.d S13 iN
def uR:Sm':=sR (eOp addD (eOp addD (eL (aC (eOp addD (eV 0) (eC (.s "("))) aN)) (eCl cV (aC (eCo [] (iZp (aC (eV 1) (aC (eV 2) aN))) (bdT 2) (fun _=>ret true) (eL (aC (eCl aU (aC (eV 0) (aC (eV 1) aN))) aN))) aN))) (eL (aC (eC (.s ")")) aN)))
def jD:Fn:=runF 3 3 uR
def T15:Tb:=T14.d S14 jD
def gI:Sm':=sR (eCl jD (aC (eIx (eV 0) (eC (.i 0))) (aC (eIx (eC bC) (eIx (eV 0) (eC (.i 0)))) (aC (eSl (eV 0) (oS (eC (.i 1))) oN) aN))))
def gJ:Fn:=runF 2 2 gI
def T16:Tb:=T15.d S15 gJ
def gK:Sm':=sR (eCl jD (aC (eIx (eV 0) (eC (.i 0))) (aC (eIx (eC aO) (eIx (eV 0) (eC (.i 0)))) (aC (eSl (eV 0) (oS (eC (.i 1))) oN) aN))))
def gL:Fn:=runF 2 2 gK
def T17:Tb:=T16.d S16 gL
noncomputable def iO:Sm':=sR (eL (aC (eV 0) aN))
noncomputable def iP:Fn:=runF 2 2 iO
def T18:Tb:=T17.d S17 iP
def gM:Sm':=sR (eL (aC (eCl str1D (aC (eV 0) aN)) aN))
def gO:Fn:=runF 2 2 gM
def T19:Tb:=T18.d S18 gO
def jS:Sm':=sR (eOp addD (eOp addD (eL (aC (eC (.s "[")) aN)) (eCl cV (aC (eCo [0] (iS (eV 1)) bd1 (fun _=>ret true) (eL (aC (eCl aU (aC (eV 1) (aC (eV 0) aN))) aN))) aN))) (eL (aC (eC (.s "]")) aN)))
def eA:Fn:=runF 2 2 jS
def T20:Tb:=T19.d S19 eA
def fJ:Sm':=sR (eCl eA (aC (eC (.s "tactic")) (aC (eV 0) aN)))
def fK:Fn:=runF 2 2 fJ
def T23:Tb:=T20.d S22 fK
def gW:Sm':=sR (eBm "str" joinD (eC (.s " | ")) (aC (eCo [] (iS (eV 0)) bd1 (fun _=>ret true) (eIf (tVl (eCl isinstD (aC (eV 0) (aC (eC (.ty "str")) aN)))) (eV 0) (eBm "str" joinD (eC (.s " ")) (aC (eV 0) aN)))) aN))
def cK:Fn:=runF 1 1 gW
def T24:Tb:=T23.d S23 cK
def gB:Sm':=sR (eOp addD (eOp addD (eL (aC (eC (.s "[")) aN)) (eCl cV (aC (eCo [] (iS (eV 0)) bd1 (fun _=>ret true) (eL (aC (eOp addD (eCl cK (aC (eSl (eV 0) oN (oS (eC (.i 2)))) aN)) (eC (.s " | "))) (aC (eCl aU (aC (eC (.s "reason")) (aC (eIx (eV 0) (eC (.i 2))) aN))) aN)))) aN))) (eL (aC (eC (.s "]")) aN)))
def cX:Fn:=runF 2 2 gB
def T25:Tb:=T24.d S24 cX
abbrev L26a:Sm':=seqS (sA (eB0 "list" popD (eV 2)) (gN 4))
   (sI (tVl (eCl isinstD (aC (eV 4) (aC (eC (.ty "str")) aN)))) (sE (eBm "list" appendD (eV 3) (aC (eV 4) aN))) (seqS (sA (eIx (eC jU) (eIx (eV 4) (eC (.i 0)))) (gN 5))
   (sE (eBm "list" extendD (eV 2) (aC (eRl (eCv (pick T25.dl 5) 5 (aC (eIx (eV 4) (eC (.i 1))) (aC (eIx (eV 4) (eC (.i 2))) aN))) (eUn negD (eC (.i 1)))) aN)))))
def mX:Sm':=seqS (sA (eL (aC (eCl aU (aC (eV 0) (aC (eV 1) aN))) aN)) (gN 2))
   (seqS (sA (eL aN) (gN 3))
   (seqS (sW (tVl (eV 2)) L26a)
   (sR (eBm "str" joinD (eC (.s "")) (aC (eV 3) aN)))))
def fL:Fn:=runF 6 2 mX
def T27:Tb:=T25.d S26 fL
def kC:Sm':=sR (eCl fL (aC (eC (.s "term")) (aC (eV 0) aN)))
def iG:Fn:=runF 1 1 kC
def T28:Tb:=T27.d S27 iG
def kD:Sm':=seqS (sI (tNo (tVl (eCl isinstD (aC (eV 1) (aC (eC (.ty "str")) aN))))) (sBad) sN)
   (seqS (sFl cC "text" (eV 0) (eV 1))
   (seqS (sFl cC "at" (eV 0) (eC (.i 0)))
   (seqS (sFl cC "names" (eV 0) (eV 2))
   (seqS (sFl cC "made" (eV 0) (eL aN))
   (sFl cC "pending" (eV 0) (eL aN))))))
def fM:Fn:=runF 3 3 kD
def T29:Tb:=T28.c "Reader" S28 fM
def pO:Sm':=sE (eBm "list" extendD (eFl cC "pending" (eV 0)) (aC (eRl (eV 1) (eUn negD (eC (.i 1)))) aN))
def aX:Fn:=runF 2 2 pO
def T30:Tb:=T29.m S29 aX
def sV:Sm':=sR (eOp eqD (eSl (eFl cC "text" (eV 0)) (oS (eFl cC "at" (eV 0))) (oS (eOp addD (eFl cC "at" (eV 0)) (eCl lenD (aC (eV 1) aN))))) (eV 1))
def aV:Fn:=runF 2 2 sV
def T31:Tb:=T30.m S30 aV
def sX:Sm':=seqS (sI (tNo (tVl (eMt cC "sees" aV (eV 0) (aC (eV 1) aN)))) (sBad) sN)
   (sFa cC "at" iaddD (eV 0) (eCl lenD (aC (eV 1) aN)))
def eF:Fn:=runF 2 2 sX
def T32:Tb:=T31.m S31 eF
def kE:Sm':=sE (eMt cC "skip" eF (eV 0) (aC (eIx (eV 1) (eC (.i 1))) aN))
def kF:Fn:=runF 2 2 kE
def T33:Tb:=T32.d S32 kF
def sY:Sm':=seqS (sA (eOp subD (eCl lenD (aC (eFl cC "made" (eV 0)) aN)) (eV 2)) (gN 3))
   (sA (eL (aC (eOp addD (eV 1) (eCl tupD (aC (eSl (eFl cC "made" (eV 0)) (oS (eV 3)) oN) aN))) aN)) (gSl (eFl cC "made" (eV 0)) (oS (eV 3))))
def lO:Fn:=runF 4 3 sY
def T34:Tb:=T33.m S33 lO
def kG:Sm':=seqS (sA (eV 1) (gT 3 (gsC (gN 2) (gsC (gN 3) (gsC (gN 4) gsN)))))
   (sE (eMt cC "make" lO (eV 0) (aC (eV 3) (aC (eV 4) aN))))
def kH:Fn:=runF 5 2 kG
def T35:Tb:=T34.d S34 kH
def iH:Sm':=seqS (sA (eV 1) (gT 3 (gsC (gN 2) (gsC (gN 3) (gsC (gN 4) gsN)))))
   (sI (tVl (eMt cC "sees" aV (eV 0) (aC (eV 4) aN))) (seqS (sE (eMt cC "skip" eF (eV 0) (aC (eV 4) aN)))
   (sE (eMt cC "make" lO (eV 0) (aC (eT aN) (aC (eC (.i 0)) aN))))) (sE (eMt cC "later" aX (eV 0) (aC (eL (aC (eT (aC (eV 3) aN)) (aC (eT (aC (eC (.s "more")) (aC (eV 3) (aC (eV 4) (aC (eC (.i 1)) aN))))) aN))) aN))))
def gC:Fn:=runF 5 2 iH
def T36:Tb:=T35.d S35 gC
def iI:Sm':=seqS (sA (eV 1) (gT 4 (gsC (gN 2) (gsC (gN 3) (gsC (gN 4) (gsC (gN 5) gsN))))))
   (sI (tVl (eMt cC "sees" aV (eV 0) (aC (eV 4) aN))) (seqS (sE (eMt cC "skip" eF (eV 0) (aC (eV 4) aN)))
   (sE (eMt cC "make" lO (eV 0) (aC (eT aN) (aC (eV 5) aN))))) (seqS (sE (eMt cC "skip" eF (eV 0) (aC (eC (.s ", ")) aN)))
   (sE (eMt cC "later" aX (eV 0) (aC (eL (aC (eT (aC (eV 3) aN)) (aC (eT (aC (eC (.s "more")) (aC (eV 3) (aC (eV 4) (aC (eOp addD (eV 5) (eC (.i 1))) aN))))) aN))) aN)))))
def gD:Fn:=runF 6 2 iI
def T37:Tb:=T36.d S36 gD
noncomputable def lP:Sm':=sI (tCm gtD (eCl lenD (aC (eIx (eFl cC "made" (eV 0)) (eUn negD (eC (.i 1)))) aN)) (eC (.i 4))) (sBad) sN
noncomputable def lQ:Fn:=runF 2 2 lP
def T38:Tb:=T37.d S37 lQ
noncomputable def jN:Sm':=sE (eB0 "list" popD (eFl cC "names" (eV 0)))
noncomputable def jO:Fn:=runF 2 2 jN
def T39:Tb:=T38.d S38 jO
abbrev L39a:Sm':=sI (tVl (eMt cC "sees" aV (eV 0) (aC (eV 3) aN))) (seqS (sE (eMt cC "skip" eF (eV 0) (aC (eV 3) aN)))
   (seqS (sE (eMt cC "later" aX (eV 0) (aC (eL (aC (eT (aC (eC (.s "statement")) aN)) (aC (eT (aC (eC (.s "text")) (aC (eC (.s ")")) aN))) (aC (eT (aC (eC (.s "make")) (aC (eT (aC (eV 2) aN)) (aC (eC (.i 2)) aN)))) aN)))) aN)))
   (sR0))) sN
def eP:Sm':=seqS (sF (iIt (eC jT)) (gT 2 (gsC (gN 2) (gsC (gN 3) gsN))) L39a)
   (sBad)
def eQ:Fn:=runF 4 2 eP
def T40:Tb:=T39.d S39 eQ
def dR:Sm':=seqS (sI (tVl (eMt cC "sees" aV (eV 0) (aC (eC (.s " = ")) aN))) (seqS (sE (eMt cC "skip" eF (eV 0) (aC (eC (.s " = ")) aN)))
   (seqS (sE (eMt cC "later" aX (eV 0) (aC (eL (aC (eT (aC (eC (.s "term")) aN)) (aC (eT (aC (eC (.s "make")) (aC (eT (aC (eC (.s "same")) aN)) (aC (eC (.i 2)) aN)))) aN))) aN)))
   (sR0))) sN)
   (seqS (sA (eB0 "list" popD (eFl cC "made" (eV 0))) (gN 2))
   (seqS (sI (tCm neD (eIx (eV 2) (eC (.i 0))) (eC (.s "call"))) (sBad) sN)
   (sE (eBm "list" appendD (eFl cC "made" (eV 0)) (aC (eT (aC (eC (.s "atom")) (aC (eIx (eV 2) (eC (.i 1))) (aC (eIx (eV 2) (eC (.i 2))) aN)))) aN)))))
def dS:Fn:=runF 3 2 dR
def T41:Tb:=T40.d S40 dS
noncomputable abbrev L41a:En→M Bool:=tAn (tCm ltD (eFl cC "at" (eV 0)) (eCl lenD (aC (eFl cC "text" (eV 0)) aN))) (tCm inD (eIx (eFl cC "text" (eV 0)) (eFl cC "at" (eV 0))) (eV 1))
def mY:Sm':=seqS (sA (eFl cC "at" (eV 0)) (gN 2))
   (seqS (sW L41a (sFa cC "at" iaddD (eV 0) (eC (.i 1))))
   (sR (eSl (eFl cC "text" (eV 0)) (oS (eV 2)) (oS (eFl cC "at" (eV 0))))))
def kI:Fn:=runF 3 2 mY
def T42:Tb:=T41.m S41 kI
def lR:Sm':=sR (eMt cC "run_of" kI (eV 0) (aC (eC (.s "abcdefghijklmnopqrstuvwxyzABCDEFGHIJKLMNOPQRSTUVWXYZ")) aN))
def eK:Fn:=runF 1 1 lR
def T43:Tb:=T42.m S42 eK
noncomputable def cQ:Sm':=sR (eAn (eCl isinstD (aC (eV 0) (aC (eC (.ty "str")) aN))) (eAn (eOp gtD (eCl lenD (aC (eV 0) aN)) (eC (.i 0))) (eOp leD (eCl lenD (aC (eV 0) aN)) (eC (.i 8)))))
noncomputable def bU:Fn:=runF 1 1 cQ
def T44:Tb:=T43.d S43 bU
def kJ:Sm':=sR (eCl allD (aC (eCo [] (iS (eV 0)) bd1 (fun _=>ret true) (eOp inD (eV 0) (eC (.s "abcdefghijklmnopqrstuvwxyz")))) aN))
def gE:Fn:=runF 1 1 kJ
def T45:Tb:=T44.d S44 gE
def eR:Sm':=sR (eAn (eCl bU (aC (eV 0) aN)) (eAn (eOp inD (eIx (eV 0) (eC (.i 0))) (eC (.s "ABCDEFGHIJKLMNOPQRSTUVWXYZ"))) (eCl gE (aC (eSl (eV 0) (oS (eC (.i 1))) oN) aN))))
def bS:Fn:=runF 1 1 eR
def T46:Tb:=T45.d S45 bS
def mZ:Sm':=sR (eAn (eCl bU (aC (eV 0) aN)) (eAn (eCl gE (aC (eV 0) aN)) (eOp notinD (eV 0) (eC gQ))))
def jE:Fn:=runF 1 1 mZ
def T47:Tb:=T46.d S46 jE
abbrev L47a:Sm':=sI (tCm eqD (eV 3) (eV 1)) (sR (eT (aC (eC (.s "bound")) (aC (eV 2) aN)))) sN
def lB:Sm':=seqS (sF (iEr (aC (eV 0) aN)) (gT 2 (gsC (gN 2) (gsC (gN 3) gsN))) L47a)
   (sR (eT (aC (eC (.s "free")) (aC (eV 1) aN))))
def fN:Fn:=runF 4 2 lB
def T48:Tb:=T47.d S47 fN
def bV:Sm':=seqS (sA (eM0 cC "letters" eK (eV 0)) (gN 2))
   (seqS (sI (tAn (tNo (tVl (eCl bS (aC (eV 2) aN)))) (tNo (tVl (eCl jE (aC (eV 2) aN))))) (sBad) sN)
   (seqS (sA (eT (aC (eIf (tVl (eCl bS (aC (eV 2) aN))) (eC (.s "form")) (eC (.s "call"))) (aC (eV 2) aN))) (gN 3))
   (sI (tVl (eMt cC "sees" aV (eV 0) (aC (eC (.s "(")) aN))) (seqS (sE (eMt cC "skip" eF (eV 0) (aC (eC (.s "(")) aN)))
   (seqS (sA (eIf (tCm eqD (eIx (eV 3) (eC (.i 0))) (eC (.s "call"))) (eL (aC (eT (aC (eC (.s "list")) (aC (eC (.s "term")) (aC (eC (.s ")")) aN)))) aN)) (eL (aC (eT (aC (eC (.s "term")) aN)) (aC (eT (aC (eC (.s "more")) (aC (eC (.s "term")) (aC (eC (.s ")")) (aC (eC (.i 1)) aN))))) aN)))) (gN 4))
   (sE (eMt cC "later" aX (eV 0) (aC (eOp addD (eV 4) (eL (aC (eT (aC (eC (.s "few")) aN)) (aC (eT (aC (eC (.s "make")) (aC (eV 3) (aC (eC (.i 1)) aN)))) aN)))) aN))))) (sE (eBm "list" appendD (eFl cC "made" (eV 0)) (aC (eIf (tCm eqD (eIx (eV 3) (eC (.i 0))) (eC (.s "form"))) (eOp addD (eV 3) (eT (aC (eT aN) aN))) (eCl fN (aC (eFl cC "names" (eV 0)) (aC (eV 2) aN)))) aN))))))
def bW:Fn:=runF 5 2 bV
def T49:Tb:=T48.d S48 bW
def jP:Sm':=seqS (sA (eM0 cC "letters" eK (eV 0)) (gN 1))
   (seqS (sI (tNo (tVl (eCl jE (aC (eV 1) aN)))) (sBad) sN)
   (sR (eV 1)))
def bX:Fn:=runF 2 1 jP
def T50:Tb:=T49.m S49 bX
def dI:Sm':=seqS (sE (eMt cC "skip" eF (eV 0) (aC (eC (.s ": ")) aN)))
   (seqS (sE (eBm "list" appendD (eFl cC "names" (eV 0)) (aC (eV 1) aN)))
   (sE (eMt cC "later" aX (eV 0) (aC (eOp addD (eL (aC (eT (aC (eC (.s "statement")) aN)) (aC (eT (aC (eC (.s "leave")) aN)) aN))) (eIf (tCm isD (eV 2) (eC .no)) (eL aN) (eL (aC (eT (aC (eC (.s "make")) (aC (eV 2) (aC (eC (.i 1)) aN)))) aN)))) aN))))
def bN:Fn:=runF 3 3 dI
def T51:Tb:=T50.d S50 bN
def aR:Sm':=seqS (sI (tVl (eMt cC "sees" aV (eV 0) (aC (eC (.s "(")) aN))) (seqS (sE (eMt cC "skip" eF (eV 0) (aC (eC (.s "(")) aN)))
   (seqS (sE (eMt cC "later" aX (eV 0) (aC (eL (aC (eT (aC (eC (.s "statement")) aN)) (aC (eT (aC (eC (.s "joint")) aN)) aN))) aN)))
   (sR0))) sN)
   (seqS (sA (eFl cC "at" (eV 0)) (gN 2))
   (seqS (sA (eM0 cC "letters" eK (eV 0)) (gN 3))
   (sI (tCm eqD (eV 3) (eC (.s "false"))) (sE (eBm "list" appendD (eFl cC "made" (eV 0)) (aC (eT (aC (eC (.s "false")) aN)) aN))) (sI (tCm inD (eV 3) (eC cJ)) (seqS (sE (eMt cC "skip" eF (eV 0) (aC (eC (.s " ")) aN)))
   (seqS (sA (eM0 cC "next_name" bX (eV 0)) (gN 4))
   (seqS (sE (eMt cC "skip" eF (eV 0) (aC (eC (.s " ")) aN)))
   (sE (eCl bN (aC (eV 0) (aC (eV 4) (aC (eT (aC (eV 3) (aC (eM0 cC "next_name" bX (eV 0)) aN))) aN)))))))) (seqS (sFl cC "at" (eV 0) (eV 2))
   (sE (eMt cC "later" aX (eV 0) (aC (eL (aC (eT (aC (eC (.s "term")) aN)) (aC (eT (aC (eC (.s "same or atom")) aN)) aN))) aN))))))))
def aS:Fn:=runF 5 2 aR
def T52:Tb:=T51.d S51 aS
def kK:Sm':=sE (eCl bN (aC (eV 0) (aC (eM0 cC "next_name" bX (eV 0)) (aC (eC .no) aN))))
def kL:Fn:=runF 2 2 kK
def T53:Tb:=T52.d S52 kL
abbrev L53a:Sm':=sE (eBm "list" extendD (eV 3) (aC (eIf (tCm gtD (eV 4) (eC (.i 0))) (eL (aC (eT (aC (eC (.s "text")) (aC (eC (.s ", ")) aN))) (aC (eT (aC (eV 5) aN)) aN))) (eL (aC (eT (aC (eV 5) aN)) aN))) aN))
def iQ:Sm':=seqS (sA (eL (aC (eT (aC (eC (.s "text")) (aC (eC (.s "(")) aN))) aN)) (gN 3))
   (seqS (sF (iEn (aC (eV 2) aN)) (gT 2 (gsC (gN 4) (gsC (gN 5) gsN))) L53a)
   (sE (eMt cC "later" aX (eV 0) (aC (eOp addD (eV 3) (eL (aC (eT (aC (eC (.s "text")) (aC (eC (.s ")")) aN))) (aC (eT (aC (eC (.s "make")) (aC (eT (aC (eV 1) aN)) (aC (eCl lenD (aC (eV 2) aN)) aN)))) aN)))) aN))))
def dU:Fn:=runF 6 3 iQ
def T54:Tb:=T53.d S53 dU
def eS:Sm':=seqS (sA (eM0 cC "letters" eK (eV 0)) (gN 2))
   (seqS (sI (tCm notinD (eV 2) (eC bC)) (sBad) sN)
   (sE (eCl dU (aC (eV 0) (aC (eV 2) (aC (eIx (eC bC) (eV 2)) aN))))))
def eU:Fn:=runF 3 2 eS
def T55:Tb:=T54.d S54 eU
def eW:Sm':=seqS (sA (eM0 cC "letters" eK (eV 0)) (gN 2))
   (seqS (sI (tCm notinD (eV 2) (eC aO)) (sBad) sN)
   (sE (eCl dU (aC (eV 0) (aC (eV 2) (aC (eIx (eC aO) (eV 2)) aN))))))
def eX:Fn:=runF 3 2 eW
def T56:Tb:=T55.d S55 eX
def kM:Sm':=sE (eBm "list" appendD (eFl cC "made" (eV 0)) (aC (eM0 cC "next_name" bX (eV 0)) aN))
def kN:Fn:=runF 2 2 kM
def T57:Tb:=T56.d S56 kN
def dW:Sm':=seqS (sA (eMt cC "run_of" kI (eV 0) (aC (eC (.s "0123456789")) aN)) (gN 2))
   (seqS (sI (tOo (tCm eqD (eCl lenD (aC (eV 2) aN)) (eC (.i 0))) (tOo (tCm gtD (eCl lenD (aC (eV 2) aN)) (eC (.i 9))) (tAn (tCm eqD (eIx (eV 2) (eC (.i 0))) (eC (.s "0"))) (tCm neD (eV 2) (eC (.s "0")))))) (sBad) sN)
   (sE (eBm "list" appendD (eFl cC "made" (eV 0)) (aC (eCl int2D (aC (eV 2) aN)) aN))))
def dX:Fn:=runF 3 2 dW
def T59:Tb:=T57.d S58 dX
abbrev L59a:Sm':=seqS (sE (eMt cC "skip" eF (eV 0) (aC (eC (.s " ")) aN)))
   (sE (eBm "list" appendD (eV 1) (aC (eM0 cC "next_name" bX (eV 0)) aN)))
abbrev L59b:En→M Bool:=tAn (tVl (eMt cC "sees" aV (eV 0) (aC (eC (.s " ")) aN))) (tNo (tVl (eMt cC "sees" aV (eV 0) (aC (eC (.s " |")) aN))))
def eB:Sm':=seqS (sA (eL aN) (gN 1))
   (seqS (sI (tAn (tCm ltD (eFl cC "at" (eV 0)) (eCl lenD (aC (eFl cC "text" (eV 0)) aN))) (tCm inD (eIx (eFl cC "text" (eV 0)) (eFl cC "at" (eV 0))) (eC (.s "abcdefghijklmnopqrstuvwxyzABCDEFGHIJKLMNOPQRSTUVWXYZ")))) (seqS (sE (eBm "list" appendD (eV 1) (aC (eM0 cC "next_name" bX (eV 0)) aN)))
   (sW L59b L59a)) sN)
   (sR (eV 1)))
def cZ:Fn:=runF 2 1 eB
def T60:Tb:=T59.m S59 cZ
def iR:Sm':=sE (eBm "list" appendD (eFl cC "made" (eV 0)) (aC (eCl tupD (aC (eM0 cC "spaced_names" cZ (eV 0)) aN)) aN))
def iT:Fn:=runF 2 2 iR
def T61:Tb:=T60.d S60 iT
def iA:Sm':=sE (eMt cC "later" aX (eV 0) (aC (eL (aC (eT (aC (eC (.s "text")) (aC (eC (.s "[")) aN))) (aC (eT (aC (eC (.s "list")) (aC (eC (.s "tactic")) (aC (eC (.s "]")) aN)))) aN))) aN))
def iB:Fn:=runF 2 2 iA
def T64:Tb:=T61.d S63 iB
def kO:Sm':=sE (eMt cC "later" aX (eV 0) (aC (eL (aC (eT (aC (eC (.s "text")) (aC (eC (.s "[")) aN))) (aC (eT (aC (eC (.s "list")) (aC (eOp addD (eIx (eV 1) (eC (.i 0))) (eC (.s " row"))) (aC (eC (.s "]")) aN)))) aN))) aN))
def kP:Fn:=runF 2 2 kO
def T65:Tb:=T64.d S64 kP
abbrev L65a:Sm':=sE (eBm "list" extendD (eV 2) (aC (eL (aC (eT (aC (eC (.s "text")) (aC (eC (.s " | ")) aN))) (aC (eV 3) aN))) aN))
def iU:Sm':=seqS (sA (eL (aC (eIx (eV 1) (eC (.i 0))) aN)) (gN 2))
   (seqS (sF (iS (eSl (eV 1) (oS (eC (.i 1))) oN)) (gN 3) L65a)
   (sE (eMt cC "later" aX (eV 0) (aC (eOp addD (eV 2) (eL (aC (eT (aC (eC (.s "make")) (aC (eT aN) (aC (eCl lenD (aC (eV 1) aN)) aN)))) aN))) aN))))
def bL:Fn:=runF 4 2 iU
def T66:Tb:=T65.d S65 bL
def eY:Sm':=sE (eCl bL (aC (eV 0) (aC (eL (aC (eT (aC (eC (.s "spaced")) aN)) (aC (eT (aC (eC (.s "spaced")) aN)) (aC (eT (aC (eC (.s "reason")) aN)) aN)))) aN)))
def eZ:Fn:=runF 2 2 eY
def T67:Tb:=T66.d S66 eZ
def fO:Sm':=sE (eCl bL (aC (eV 0) (aC (eL (aC (eT (aC (eC (.s "spaced")) aN)) (aC (eT (aC (eC (.s "name")) aN)) (aC (eT (aC (eC (.s "reason")) aN)) aN)))) aN)))
def fP:Fn:=runF 2 2 fO
def T68:Tb:=T67.d S67 fP
noncomputable def wX:Sm':=sI (tCm neD (eFl cC "at" (eV 0)) (eCl lenD (aC (eFl cC "text" (eV 0)) aN))) (sBad) sN
noncomputable def uS:Fn:=runF 1 1 wX
def T71:Tb:=T68.m S70 uS
abbrev L71a:Sm':=seqS (sA (eB0 "list" popD (eFl cC "pending" (eV 3))) (gN 4))
   (seqS (sA (eIx (eC gR) (eIx (eV 4) (eC (.i 0)))) (gN 5))
   (sE (eCv (pick T71.dl 5) 5 (aC (eV 3) (aC (eV 4) aN)))))
def nA:Sm':=seqS (sA (eMk cC fM (aC (eV 1) (aC (eCl list2D (aC (eV 2) aN)) aN))) (gN 3))
   (seqS (sE (eMt cC "later" aX (eV 3) (aC (eL (aC (eT (aC (eV 0) aN)) aN)) aN)))
   (seqS (sW (tVl (eFl cC "pending" (eV 3))) L71a)
   (seqS (sE (eM0 cC "end" uS (eV 3)))
   (sR (eIx (eFl cC "made" (eV 3)) (eC (.i 0)))))))
def fQ:Fn:=runF 6 3 nA
def T72:Tb:=T71.d S71 fQ
def kQ:Sm':=sR (eCl fQ (aC (eC (.s "term")) (aC (eV 0) (aC (eL aN) aN))))
def iJ:Fn:=runF 1 1 kQ
def T73:Tb:=T72.d S72 iJ
abbrev L73a:Sm':=seqS (sA (eIx (eL (aC (eC (.s "all")) (aC (eC (.s "some")) aN))) (eCl aF (aC (eV 0) (aC (eC (.i 2)) aN)))) (gN 9))
   (sPar 6 7 (aC (eT (aC (eV 9) (aC (eC (.s "nat")) (aC (eV 6) aN)))) (aC (eOp addD (eOp addD (eOp addD (eOp addD (eV 9) (eC (.s " "))) (eIx (eV 3) (eOp subD (eOp subD (eV 1) (eC (.i 1))) (eV 8)))) (eC (.s " nat: "))) (eV 7)) aN)))
abbrev L73b:Sm':=sA (eOp addD (eV 3) (eCo [4] (iS (eC (.s "xyz"))) bd1 (fun _=>ret true) (eOp addD (eV 0) (eV 1)))) (gN 3)
def cL:Sm':=seqS (sA (eC (.s "abcdefghijklmnopqrstuvwxyz")) (gN 2))
   (seqS (sA (eL aN) (gN 3))
   (seqS (sF (iS (eOp addD (eL (aC (eC (.s "")) aN)) (eCl list2D (aC (eV 2) aN)))) (gN 4) L73b)
   (seqS (sA (eCl aF (aC (eV 0) (aC (eCl max2D (aC (eC (.i 1)) (aC (eV 1) aN))) aN))) (gN 5))
   (seqS (sPar 6 7 (aC (eT (aC (eC (.s "atom")) (aC (eC (.s "p")) (aC (eT (aC (eT (aC (eC (.s "bound")) (aC (eC (.i 0)) aN))) (aC (eT (aC (eC (.s "bound")) (aC (eV 5) aN))) aN))) aN)))) (aC (eOp addD (eOp addD (eOp addD (eOp addD (eC (.s "p(")) (eIx (eV 3) (eOp subD (eV 1) (eC (.i 1))))) (eC (.s ", "))) (eIx (eV 3) (eOp subD (eOp subD (eV 1) (eC (.i 1))) (eV 5)))) (eC (.s ")"))) aN)))
   (seqS (sI (tCm eqD (eV 1) (eC (.i 0))) (sA (eT (aC (eT (aC (eC (.s "false")) aN)) (aC (eC (.s "false")) aN))) (gT 2 (gsC (gN 6) (gsC (gN 7) gsN)))) sN)
   (seqS (sF (iR1 (aC (eV 1) aN)) (gN 8) L73a)
   (sR (eT (aC (eV 6) (aC (eV 7) aN))))))))))
def bT:Fn:=runF 10 2 cL
def T74:Tb:=T73.d S73 bT
abbrev L74a:Sm':=seqS (sA (eCl aF (aC (eV 0) (aC (eC (.i 6)) aN))) (gN 5))
   (seqS (sA (eIx (eL (aC (eC (.s "and")) (aC (eC (.s "or")) (aC (eC (.s "if")) aN)))) (eOp modD (eV 5) (eC (.i 3)))) (gN 6))
   (seqS (sA (eIx (eL (aC (eC (.s " and ")) (aC (eC (.s " or ")) (aC (eC (.s " -> ")) aN)))) (eOp modD (eV 5) (eC (.i 3)))) (gN 7))
   (sI (tCm ltD (eV 5) (eC (.i 3))) (sPar 2 3 (aC (eT (aC (eV 6) (aC (eV 2) (aC (eT (aC (eC (.s "atom")) (aC (eC (.s "q")) (aC (eT aN) aN)))) aN)))) (aC (eOp addD (eOp addD (eOp addD (eC (.s "(")) (eV 3)) (eV 7)) (eC (.s "q())"))) aN))) (sPar 2 3 (aC (eT (aC (eV 6) (aC (eT (aC (eC (.s "atom")) (aC (eC (.s "q")) (aC (eT aN) aN)))) (aC (eV 2) aN)))) (aC (eOp addD (eOp addD (eOp addD (eC (.s "(q()")) (eV 7)) (eV 3)) (eC (.s ")"))) aN))))))
def eG:Sm':=seqS (sA (eT (aC (eT (aC (eC (.s "false")) aN)) (aC (eC (.s "false")) aN))) (gT 2 (gsC (gN 2) (gsC (gN 3) gsN))))
   (seqS (sF (iR1 (aC (eV 1) aN)) (gN 4) L74a)
   (sR (eT (aC (eV 2) (aC (eV 3) aN)))))
def cM:Fn:=runF 8 2 eG
def T75:Tb:=T74.d S74 cM
def dJ:Sm':=sR (eCl fL (aC (eC (.s "statement")) (aC (eV 0) aN)))
def bO:Fn:=runF 1 1 dJ
def T76:Tb:=T75.d S75 bO
def dM:Sm':=sR (eCl fQ (aC (eC (.s "statement")) (aC (eV 0) (aC (eL aN) aN))))
def bP:Fn:=runF 1 1 dM
def T77:Tb:=T76.d S76 bP
abbrev L77a:Sm':=seqS (sA (eCl aF (aC (eV 0) (aC (eC (.i 6)) aN))) (gN 5))
   (sI (tCm ltD (eV 5) (eC (.i 2))) (seqS (sA (eIx (eL (aC (eC (.s "first")) (aC (eC (.s "unlike")) aN))) (eV 5)) (gN 6))
   (sPar 2 3 (aC (eT (aC (eV 6) (aC (eV 2) aN))) (aC (eOp addD (eOp addD (eOp addD (eV 6) (eC (.s "("))) (eV 3)) (eC (.s ")"))) aN)))) (sI (tCm eqD (eV 5) (eC (.i 2))) (sPar 2 3 (aC (eT (aC (eC (.s "give")) (aC (eT (aC (eC (.s "hole")) (aC (eV 4) aN))) (aC (eV 2) aN)))) (aC (eOp addD (eOp addD (eOp addD (eOp addD (eC (.s "give(hole(")) (eCl str1D (aC (eV 4) aN))) (eC (.s "), "))) (eV 3)) (eC (.s ")"))) aN))) (sI (tCm eqD (eV 5) (eC (.i 3))) (sPar 2 3 (aC (eT (aC (eC (.s "into")) (aC (eC (.s "h")) (aC (eT (aC (eC (.s "false")) aN)) (aC (eV 2) aN))))) (aC (eOp addD (eOp addD (eC (.s "into(h, false, ")) (eV 3)) (eC (.s ")"))) aN))) (sI (tCm eqD (eV 5) (eC (.i 4))) (sPar 2 3 (aC (eT (aC (eC (.s "forms")) (aC (eT (aC (eC (.s "free")) (aC (eC (.s "n")) aN))) (aC (eT (aC (eT (aC (eT aN) (aC (eC (.s "h")) (aC (eV 2) aN)))) aN)) aN)))) (aC (eOp addD (eOp addD (eC (.s "forms(n, [ | h | ")) (eV 3)) (eC (.s "])"))) aN))) (seqS (sA (eT (aC (eT (aC (eC (.s "n")) aN)) (aC (eT (aC (eC (.s "g")) (aC (eC (.s "h")) aN))) (aC (eV 2) aN)))) (gN 7))
   (seqS (sA (eT (aC (eC (.s "induct")) (aC (eC (.s "nat")) (aC (eT (aC (eC (.s "atom")) (aC (eC (.s "p")) (aC (eT (aC (eT (aC (eC (.s "bound")) (aC (eC (.i 0)) aN))) aN)) aN)))) (aC (eT (aC (eV 7) aN)) aN))))) (gN 2))
   (sA (eOp addD (eOp addD (eC (.s "induct(nat, x: p(x), [n | g h | ")) (eV 3)) (eC (.s "])"))) (gN 3))))))))
def eH:Sm':=seqS (sA (eT (aC (eT (aC (eC (.s "fact")) (aC (eC (.s "h")) aN))) (aC (eC (.s "fact(h)")) aN))) (gT 2 (gsC (gN 2) (gsC (gN 3) gsN))))
   (seqS (sF (iR1 (aC (eV 1) aN)) (gN 4) L77a)
   (sR (eT (aC (eV 2) (aC (eV 3) aN)))))
def cN:Fn:=runF 8 2 eH
def T78:Tb:=T77.d S77 cN
def iV:Sm':=sR (eCl fL (aC (eC (.s "reason")) (aC (eV 0) aN)))
def fT:Fn:=runF 1 1 iV
def T79:Tb:=T78.d S78 fT
def iW:Sm':=sR (eCl fQ (aC (eC (.s "reason")) (aC (eV 0) (aC (eL aN) aN))))
def fU:Fn:=runF 1 1 iW
def T80:Tb:=T79.d S79 fU
abbrev L80a:Sm':=seqS (sA (eCl aF (aC (eV 0) (aC (eC (.i 4)) aN))) (gN 5))
   (sI (tCm eqD (eV 5) (eC (.i 0))) (sPar 2 3 (aC (eT (aC (eC (.s "then")) (aC (eV 2) (aC (eT (aC (eC (.s "done")) aN)) aN)))) (aC (eOp addD (eOp addD (eC (.s "then(")) (eV 3)) (eC (.s ", done())"))) aN))) (sI (tCm eqD (eV 5) (eC (.i 1))) (sPar 2 3 (aC (eT (aC (eC (.s "first")) (aC (eT (aC (eT (aC (eC (.s "plain")) aN)) (aC (eV 2) aN))) aN))) (aC (eOp addD (eOp addD (eC (.s "first([plain(), ")) (eV 3)) (eC (.s "])"))) aN))) (seqS (sA (eIx (eL (aC (eC (.s "try")) (aC (eC (.s "again")) aN))) (eOp subD (eV 5) (eC (.i 2)))) (gN 6))
   (sPar 2 3 (aC (eT (aC (eV 6) (aC (eV 2) aN))) (aC (eOp addD (eOp addD (eOp addD (eV 6) (eC (.s "("))) (eV 3)) (eC (.s ")"))) aN))))))
def eI:Sm':=seqS (sA (eT (aC (eT (aC (eC (.s "both")) aN)) (aC (eC (.s "both()")) aN))) (gT 2 (gsC (gN 2) (gsC (gN 3) gsN))))
   (seqS (sF (iR1 (aC (eV 1) aN)) (gN 4) L80a)
   (sR (eT (aC (eV 2) (aC (eV 3) aN)))))
def cP:Fn:=runF 7 2 eI
def T81:Tb:=T80.d S80 cP
def iX:Sm':=sR (eCl fL (aC (eC (.s "tactic")) (aC (eV 0) aN)))
def fV:Fn:=runF 1 1 iX
def T82:Tb:=T81.d S81 fV
def iY:Sm':=sR (eCl fQ (aC (eC (.s "tactic")) (aC (eV 0) (aC (eL aN) aN))))
def fW:Fn:=runF 1 1 iY
def T83:Tb:=T82.d S82 fW
abbrev L83a:Sm':=sI (tOo (tCm neD (eCl bO (aC (eV 4) aN)) (eV 3)) (tCm neD (eCl bP (aC (eV 3) aN)) (eV 4))) (sR (eC (.b false))) sN
def aCR:Sm':=seqS (sA (eCl gV (aC (eV 0) aN)) (gN 1))
   (seqS (sA (eCl dH (aC (eV 1) (aC (eCl aF (aC (eV 1) (aC (eC (.i 61)) aN))) aN))) (gT 2 (gsC (gN 2) (gsC (gN 3) gsN))))
   (seqS (sI (tOo (tCm neD (eCl iG (aC (eV 2) aN)) (eV 3)) (tCm neD (eCl iJ (aC (eV 3) aN)) (eV 2))) (sR (eC (.b false))) sN)
   (seqS (sF (iS (eT (aC (eCl bT (aC (eV 1) (aC (eCl aF (aC (eV 1) (aC (eC (.i 60)) aN))) aN))) (aC (eCl cM (aC (eV 1) (aC (eCl aF (aC (eV 1) (aC (eC (.i 61)) aN))) aN))) aN)))) (gT 2 (gsC (gN 4) (gsC (gN 3) gsN))) L83a)
   (seqS (sA (eCl cN (aC (eV 1) (aC (eCl aF (aC (eV 1) (aC (eC (.i 151)) aN))) aN))) (gT 2 (gsC (gN 5) (gsC (gN 3) gsN))))
   (seqS (sI (tOo (tCm neD (eCl fT (aC (eV 5) aN)) (eV 3)) (tCm neD (eCl fU (aC (eV 3) aN)) (eV 5))) (sR (eC (.b false))) sN)
   (seqS (sA (eCl cP (aC (eV 1) (aC (eCl aF (aC (eV 1) (aC (eC (.i 21)) aN))) aN))) (gT 2 (gsC (gN 6) (gsC (gN 3) gsN))))
   (sR (eAn (eOp eqD (eCl fV (aC (eV 6) aN)) (eV 3)) (eOp eqD (eCl fW (aC (eV 3) aN)) (eV 6))))))))))
def yH:Fn:=runF 7 1 aCR
end
end K89
end
section
namespace K89
open PySem PySem.W L2 PyProof.Rows
theorem c0(w:World)(os:OsState)(b:Bool):(rnT rw_.row.prog (wz w b) os 10916).map (fun s=>lk0 vw s)=some (expectedOf vw):=by
 unfold rnT;rw[Fast.te12425933026755589441,Y18];cases b
 ·exact aAS w os
 ·exact aDx w os
theorem c1(w:World)(os:OsState)(b:Bool):(rnT rw_.row.prog (wz w b) os 10916).map (fun s=>((absF s).heap.bltView,lk3 rw_.row.prog s,lk4 vw xt s,pinSeenD vw (drecsOf vw) (absF s),plainSeenD vw loose (absF s),clsSeenW vw loose (absF s),lk9 rw_.row.prog (wz w b).params s))=some ((bltViewBooted,true,true,pinGoodD (drecsOf vw),plainGoodD vw loose,clsGoodW vw loose,true)):=by
 unfold rnT;rw[Fast.te12425933026755589441,Y18];cases b
 ·exact aAT w os
 ·exact aDy w os
theorem c2(w:World)(os:OsState)(b:Bool):(rnT rw_.row.prog (wz w b) os 10916).map (fun s=>lk2 vw loose s)=some (true):=by
 unfold rnT;rw[Fast.te12425933026755589441,Y18];cases b
 ·exact aAU w os
 ·exact aDz w os
theorem c3(w:World)(os:OsState)(b:Bool):(rnT rw_.row.prog (wz w b) os 10916).map (fun s=>tabsOk vw (absF s))=some (true):=by
 unfold rnT;rw[Fast.te12425933026755589441,Y18];cases b
 ·exact tS w os
 ·exact xK w os
theorem c4(w:World)(os:OsState)(b:Bool):(rnT rw_.row.prog (wz w b) os 10916).map (fun s=>plainSeenE vw (looseW vw loose) (absF s))=some (plainGoodE vw (looseW vw loose)):=by
 unfold rnT;rw[Fast.te12425933026755589441,Y18];cases b
 ·exact aAV w os
 ·exact aDA w os
theorem c5(w:World)(os:OsState)(b:Bool):(rnT rw_.row.prog (wz w b) os 10916).map (fun s=>wideSeen vw (absF s))=some (wideGood vw):=by
 unfold rnT;rw[Fast.te12425933026755589441,Y18];cases b
 ·exact aAW w os
 ·exact aDB w os
theorem cY(w:World)(os:OsState)(b:Bool):(rnT rw_.row.prog (wz w b) os 10916).map (fun s=>yf (fragT s.tree s.n []))=some (yv (wz w b)):=by
 unfold rnT;rw[Fast.te12425933026755589441,Y18];cases b
 ·exact aAX w os
 ·exact aDC w os
theorem left:LeftO rw_.row.prog vw loose xt (fun s=>yf (fragOf s.heap)) yv 10916:=wW "special-get-raises" (by kernel_rfl) (by kernel_rfl) (fun _=>rfl) c0 c1 c2 c3 c4 c5 cY
theorem at_{α:Type}{l:List α}{x:α}(i:Nat)(h:l[i]?=some x:=by rfl):x∈l:=W24 h
structure Dk (T:Tb) (s:DSp) (b:Sm'):Prop where
 m:(s.x,s.i)∈fns
 bd:BindOk (top s.i) s.x s.x s.ps
 c:chk cns blt cC fds T (top s.i) s=some b
structure Mt (T:Tb) (s:DSp) (b:Sm'):Prop where
 m:(s.x,("Reader.":Str)++s.x,s.i)∈mths
 bd:BindOk (inCls (top 56) s.i) s.x (("Reader.":Str)++s.x) s.ps
 c:chk cns blt cC fds T (inCls (top 56) s.i) s=some b
theorem dk0:Dk T0 S0 jM:=⟨at_ 0,bo1 (by intros;rfl),by kernel_rfl⟩
theorem dk1:Dk T1 S1 fZ:=⟨at_ 1,bo2 (by intros;rfl),by kernel_rfl⟩
theorem dk2:Dk T2 S2 fH:=⟨at_ 2,bo2 (by intros;rfl),by kernel_rfl⟩
theorem dk3:Dk T3 S3 fI:=⟨at_ 3,bo1 (by intros;rfl),by kernel_rfl⟩
theorem dk4:Dk T4 S4 mW:=⟨at_ 4,bo1 (by intros;rfl),by kernel_rfl⟩
theorem dk5:Dk T5 S5 eO:=⟨at_ 5,bo2 (by intros;rfl),by kernel_rfl⟩
theorem dk6:Dk T6 S6 pN:=⟨at_ 6,bo1 (by intros;rfl),by kernel_rfl⟩
theorem dk7:Dk T7 S7 nN:=⟨at_ 7,bo2 (by intros;rfl),by kernel_rfl⟩
theorem dk8:Dk T8 S8 bZ:=⟨at_ 8,bo2 (by intros;rfl),by kernel_rfl⟩
theorem dk9:Dk T9 S9 kA:=⟨at_ 9,bo1 (by intros;rfl),by kernel_rfl⟩
theorem dk10:Dk T10 S10 kB:=⟨at_ 10,bo1 (by intros;rfl),by kernel_rfl⟩
theorem dk11:Dk T11 S11 hZ:=⟨at_ 11,bo2 (by intros;rfl),by kernel_rfl⟩
theorem dk12:Dk T12 S12 aZ:=⟨at_ 12,bo2 (by intros;rfl),by kernel_rfl⟩
theorem dk13:Dk T13 S13 iM:=⟨at_ 13,bo2 (by intros;rfl),by kernel_rfl⟩
theorem dk14:Dk T14 S14 uR:=⟨at_ 14,bo3 (by intros;rfl),by kernel_rfl⟩
theorem dk15:Dk T15 S15 gI:=⟨at_ 15,bo2 (by intros;rfl),by kernel_rfl⟩
theorem dk16:Dk T16 S16 gK:=⟨at_ 16,bo2 (by intros;rfl),by kernel_rfl⟩
theorem dk17:Dk T17 S17 iO:=⟨at_ 17,bo2 (by intros;rfl),by kernel_rfl⟩
theorem dk18:Dk T18 S18 gM:=⟨at_ 18,bo2 (by intros;rfl),by kernel_rfl⟩
theorem dk19:Dk T19 S19 jS:=⟨at_ 19,bo2 (by intros;rfl),by kernel_rfl⟩
theorem dk22:Dk T20 S22 fJ:=⟨at_ 20,bo2 (by intros;rfl),by kernel_rfl⟩
theorem dk23:Dk T23 S23 gW:=⟨at_ 21,bo1 (by intros;rfl),by kernel_rfl⟩
theorem dk24:Dk T24 S24 gB:=⟨at_ 22,bo2 (by intros;rfl),by kernel_rfl⟩
theorem dk26:Dk T25 S26 mX:=⟨at_ 23,bo2 (by intros;rfl),by kernel_rfl⟩
theorem dk27:Dk T27 S27 kC:=⟨at_ 24,bo1 (by intros;rfl),by kernel_rfl⟩
theorem dk28:Mt T28 S28 kD:=⟨at_ 0,bo3 (by intros;rfl),by kernel_rfl⟩
theorem dk29:Mt T29 S29 pO:=⟨at_ 1,bo2 (by intros;rfl),by kernel_rfl⟩
theorem dk30:Mt T30 S30 sV:=⟨at_ 2,bo2 (by intros;rfl),by kernel_rfl⟩
theorem dk31:Mt T31 S31 sX:=⟨at_ 3,bo2 (by intros;rfl),by kernel_rfl⟩
theorem dk32:Dk T32 S32 kE:=⟨at_ 25,bo2 (by intros;rfl),by kernel_rfl⟩
theorem dk33:Mt T33 S33 sY:=⟨at_ 4,bo3 (by intros;rfl),by kernel_rfl⟩
theorem dk34:Dk T34 S34 kG:=⟨at_ 26,bo2 (by intros;rfl),by kernel_rfl⟩
theorem dk35:Dk T35 S35 iH:=⟨at_ 27,bo2 (by intros;rfl),by kernel_rfl⟩
theorem dk36:Dk T36 S36 iI:=⟨at_ 28,bo2 (by intros;rfl),by kernel_rfl⟩
theorem dk37:Dk T37 S37 lP:=⟨at_ 29,bo2 (by intros;rfl),by kernel_rfl⟩
theorem dk38:Dk T38 S38 jN:=⟨at_ 30,bo2 (by intros;rfl),by kernel_rfl⟩
theorem dk39:Dk T39 S39 eP:=⟨at_ 31,bo2 (by intros;rfl),by kernel_rfl⟩
theorem dk40:Dk T40 S40 dR:=⟨at_ 32,bo2 (by intros;rfl),by kernel_rfl⟩
theorem dk41:Mt T41 S41 mY:=⟨at_ 5,bo2 (by intros;rfl),by kernel_rfl⟩
theorem dk42:Mt T42 S42 lR:=⟨at_ 6,bo1 (by intros;rfl),by kernel_rfl⟩
theorem dk43:Dk T43 S43 cQ:=⟨at_ 33,bo1 (by intros;rfl),by kernel_rfl⟩
theorem dk44:Dk T44 S44 kJ:=⟨at_ 34,bo1 (by intros;rfl),by kernel_rfl⟩
theorem dk45:Dk T45 S45 eR:=⟨at_ 35,bo1 (by intros;rfl),by kernel_rfl⟩
theorem dk46:Dk T46 S46 mZ:=⟨at_ 36,bo1 (by intros;rfl),by kernel_rfl⟩
theorem dk47:Dk T47 S47 lB:=⟨at_ 37,bo2 (by intros;rfl),by kernel_rfl⟩
theorem dk48:Dk T48 S48 bV:=⟨at_ 38,bo2 (by intros;rfl),by kernel_rfl⟩
theorem dk49:Mt T49 S49 jP:=⟨at_ 7,bo1 (by intros;rfl),by kernel_rfl⟩
theorem dk50:Dk T50 S50 dI:=⟨at_ 39,bo3 (by intros;rfl),by kernel_rfl⟩
theorem dk51:Dk T51 S51 aR:=⟨at_ 40,bo2 (by intros;rfl),by kernel_rfl⟩
theorem dk52:Dk T52 S52 kK:=⟨at_ 41,bo2 (by intros;rfl),by kernel_rfl⟩
theorem dk53:Dk T53 S53 iQ:=⟨at_ 42,bo3 (by intros;rfl),by kernel_rfl⟩
theorem dk54:Dk T54 S54 eS:=⟨at_ 43,bo2 (by intros;rfl),by kernel_rfl⟩
theorem dk55:Dk T55 S55 eW:=⟨at_ 44,bo2 (by intros;rfl),by kernel_rfl⟩
theorem dk56:Dk T56 S56 kM:=⟨at_ 45,bo2 (by intros;rfl),by kernel_rfl⟩
theorem dk58:Dk T57 S58 dW:=⟨at_ 46,bo2 (by intros;rfl),by kernel_rfl⟩
theorem dk59:Mt T59 S59 eB:=⟨at_ 8,bo1 (by intros;rfl),by kernel_rfl⟩
theorem dk60:Dk T60 S60 iR:=⟨at_ 47,bo2 (by intros;rfl),by kernel_rfl⟩
theorem dk63:Dk T61 S63 iA:=⟨at_ 48,bo2 (by intros;rfl),by kernel_rfl⟩
theorem dk64:Dk T64 S64 kO:=⟨at_ 49,bo2 (by intros;rfl),by kernel_rfl⟩
theorem dk65:Dk T65 S65 iU:=⟨at_ 50,bo2 (by intros;rfl),by kernel_rfl⟩
theorem dk66:Dk T66 S66 eY:=⟨at_ 51,bo2 (by intros;rfl),by kernel_rfl⟩
theorem dk67:Dk T67 S67 fO:=⟨at_ 52,bo2 (by intros;rfl),by kernel_rfl⟩
theorem dk70:Mt T68 S70 wX:=⟨at_ 9,bo1 (by intros;rfl),by kernel_rfl⟩
theorem dk71:Dk T71 S71 nA:=⟨at_ 53,bo3 (by intros;rfl),by kernel_rfl⟩
theorem dk72:Dk T72 S72 kQ:=⟨at_ 54,bo1 (by intros;rfl),by kernel_rfl⟩
theorem dk73:Dk T73 S73 cL:=⟨at_ 55,bo2 (by intros;rfl),by kernel_rfl⟩
theorem dk74:Dk T74 S74 eG:=⟨at_ 56,bo2 (by intros;rfl),by kernel_rfl⟩
theorem dk75:Dk T75 S75 dJ:=⟨at_ 57,bo1 (by intros;rfl),by kernel_rfl⟩
theorem dk76:Dk T76 S76 dM:=⟨at_ 58,bo1 (by intros;rfl),by kernel_rfl⟩
theorem dk77:Dk T77 S77 eH:=⟨at_ 59,bo2 (by intros;rfl),by kernel_rfl⟩
theorem dk78:Dk T78 S78 iV:=⟨at_ 60,bo1 (by intros;rfl),by kernel_rfl⟩
theorem dk79:Dk T79 S79 iW:=⟨at_ 61,bo1 (by intros;rfl),by kernel_rfl⟩
theorem dk80:Dk T80 S80 eI:=⟨at_ 62,bo2 (by intros;rfl),by kernel_rfl⟩
theorem dk81:Dk T81 S81 iX:=⟨at_ 63,bo1 (by intros;rfl),by kernel_rfl⟩
theorem dk82:Dk T82 S82 iY:=⟨at_ 64,bo1 (by intros;rfl),by kernel_rfl⟩
theorem dk83:Dk T83 S83 aCR:=⟨at_ 65,bo1 (by intros;rfl),by kernel_rfl⟩
theorem sZ{α β:Type}{l:List α}{f g:α→β}(h:l.map f=l.map g){x:α}(m:x∈l):f x=g x:=List.map_inj_left.mp h x m
section
variable{w:World}{K:Frag}{hp:Heap}{mg:Str→Option Value}{P:Program}
theorem fnd(h:yf K=yv w)(x:Str)(i:Nat)(m:(x,i)∈fns):Fnd K x (top i):=aHM (sZ (l:=fns) (f:=fun p=>fnAt K p.1) (g:=fun p=>fnWant p.1 (top p.2)) (congrArg Prod.fst h) m)
theorem mth(h:yf K=yv w)(x qual:Str)(j:Nat)(m:(x,qual,j)∈mths):mthAt K cC x=mthWant x qual (inCls (top 56) j):=sZ (l:=mths) (f:=fun p=>mthAt K cC p.1) (g:=fun p=>mthWant p.1 p.2.1 (inCls (top 56) p.2.2)) (congrArg (fun y=>y.2.2.2.2.1) h) m
theorem csok(X:K.In hp)(G:hp.Ns mainGlobals mg)(h:yf K=yv w):CsOk cns blt cC fds P w K mg where
 cons:=fun x d e=>aHN X G (sZ (l:=cns) (f:=fun p=>cAt K p.1) (g:=fun p=>cWant w p.2) (congrArg (fun y=>y.2.1) h) (Z18 e))
 blt:=fun x e=>mg_none_of X G (sZ (l:=blt) (f:=fun x=>nsIn K mainGlobals x) (g:=fun _=>some none) (congrArg (fun y=>y.2.2.1) h) (by simpa using e))
 cls:=fun _=>(aCO (congrArg (fun y=>y.2.2.2.1) h)).1
 fs:=(aCO (congrArg (fun y=>y.2.2.2.1) h)).2
variable{base:Heap}{T:Tb}{s:DSp}{b:Sm'}
theorem aP(c:CsOk cns blt cC fds P w K mg)(X:K.In hp)(G:hp.Ns mainGlobals mg)(Y:yf K=yv w)(h:Dk T s b)(t:TbOk T cC P w K mg base):TbOk (T.d s (runF s.N.length s.ps.length b)) cC P w K mg base:=by
 obtain⟨h1,h2⟩:=aD h.c;obtain⟨_,_,d⟩:=Fnd.def X G (fnd Y s.x s.i h.m) h.bd;exact t.next c s.N s.k d h1 h2 rfl
theorem tB(hC:Cls K cC)(c:CsOk cns blt cC fds P w K mg)(Y:yf K=yv w)(h:Mt T s b)(t:TbOk T cC P w K mg base):TbOk (T.m s (runF s.N.length s.ps.length b)) cC P w K mg base:=by
 obtain⟨h1,h2⟩:=aD h.c;obtain⟨_,_,d⟩:=aCP (mth Y s.x _ s.i h.m) h.bd;exact t.meth hC c s.N s.k d h1 h2 rfl
theorem aJl(c:CsOk cns blt cC fds P w K mg)(X:K.In hp)(G:hp.Ns mainGlobals mg)(Y:yf K=yv w)(h:Mt T S28 b)(t:TbOk T cC P w K mg base):TbOk (T.c "Reader" S28 (runF S28.N.length S28.ps.length b)) cC P w K mg base:=by
 obtain⟨h1,h2⟩:=aD h.c;obtain⟨_,_,d⟩:=aCP (mth Y S28.x _ S28.i h.m) h.bd;obtain⟨k,y⟩:=aIU X G (congrArg (fun y=>y.2.2.2.2.2) Y) d.m;exact t.make c S28.N S28.k d.F d.b k y h1 h2 rfl
theorem aHP{fa:Addr}(Y:yf K=yv w)(X:K.In hp)(G:hp.Ns mainGlobals mg)(hfa:mg (recOf (top 102)).name=some (.ref fa)):
  ∃ fd:FuncData,(∀ (s:Shared) (v:Value),BindsTo s fd ⟨[v],[]⟩ [("_law_script",v)])∧∀ base:Heap,K.In base→base.Ns mainGlobals mg→FnOk P w K mg base CX0 8 fa fd ["_law_script"] (LF ⟨K,P,w⟩ yH):=by
 obtain⟨f,od,an,sl,oc,kV,dc,pm,cd,ct,a0,l0,c0,k0⟩:=(fnd Y "law" 102 dk83.m).ex;have e:=hfa.symm.trans (mg_of X G a0);cases e;have F:=vZ (st:=top 102) l0 c0 k0;refine⟨fnOf "law" "law" (defArgs (top 102)) (defBody (top 102)) (defScope (top 102)) .none kV dc pm an cd ct,fun s v=>.of_eq rfl,fun base _ _=>?_⟩;have c:CsOk cns blt cC fds P w K mg:=csok X G Y;have hC:Cls K cC:=c.cls rfl;have t:TbOk T0 cC P w K mg base:=TbOk.nil;have t:=aP c X G Y dk0 t;have t:=aP c X G Y dk1 t;have t:=aP c X G Y dk2 t;have t:=aP c X G Y dk3 t;have t:=aP c X G Y dk4 t;have t:=aP c X G Y dk5 t;have t:=aP c X G Y dk6 t;have t:=aP c X G Y dk7 t;have t:=aP c X G Y dk8 t;have t:=aP c X G Y dk9 t;have t:=aP c X G Y dk10 t;have t:=aP c X G Y dk11 t;have t:=aP c X G Y dk12 t;have t:=aP c X G Y dk13 t;have t:=aP c X G Y dk14 t;have t:=aP c X G Y dk15 t;have t:=aP c X G Y dk16 t;have t:=aP c X G Y dk17 t;have t:=aP c X G Y dk18 t;have t:=aP c X G Y dk19 t;have t:=aP c X G Y dk22 t;have t:=aP c X G Y dk23 t;have t:=aP c X G Y dk24 t;have t:=aP c X G Y dk26 t;have t:=aP c X G Y dk27 t;have t:=aJl c X G Y dk28 t;have t:=tB hC c Y dk29 t;have t:=tB hC c Y dk30 t;have t:=tB hC c Y dk31 t;have t:=aP c X G Y dk32 t;have t:=tB hC c Y dk33 t;have t:=aP c X G Y dk34 t;have t:=aP c X G Y dk35 t;have t:=aP c X G Y dk36 t;have t:=aP c X G Y dk37 t;have t:=aP c X G Y dk38 t;have t:=aP c X G Y dk39 t;have t:=aP c X G Y dk40 t;have t:=tB hC c Y dk41 t;have t:=tB hC c Y dk42 t;have t:=aP c X G Y dk43 t;have t:=aP c X G Y dk44 t;have t:=aP c X G Y dk45 t;have t:=aP c X G Y dk46 t;have t:=aP c X G Y dk47 t;have t:=aP c X G Y dk48 t;have t:=tB hC c Y dk49 t;have t:=aP c X G Y dk50 t;have t:=aP c X G Y dk51 t;have t:=aP c X G Y dk52 t;have t:=aP c X G Y dk53 t;have t:=aP c X G Y dk54 t;have t:=aP c X G Y dk55 t;have t:=aP c X G Y dk56 t;have t:=aP c X G Y dk58 t;have t:=tB hC c Y dk59 t;have t:=aP c X G Y dk60 t;have t:=aP c X G Y dk63 t;have t:=aP c X G Y dk64 t;have t:=aP c X G Y dk65 t;have t:=aP c X G Y dk66 t;have t:=aP c X G Y dk67 t;have t:=tB hC c Y dk70 t;have t:=aP c X G Y dk71 t;have t:=aP c X G Y dk72 t;have t:=aP c X G Y dk73 t;have t:=aP c X G Y dk74 t;have t:=aP c X G Y dk75 t;have t:=aP c X G Y dk76 t;have t:=aP c X G Y dk77 t;have t:=aP c X G Y dk78 t;have t:=aP c X G Y dk79 t;have t:=aP c X G Y dk80 t;have t:=aP c X G Y dk81 t;have t:=aP c X G Y dk82 t;obtain⟨h1,h2⟩:=aD dk83.c;exact sU (t.gt c (Y12 7)) F h1 h2
end
end K89
end
section
namespace K89
open PySem L2 PyProof.Rows
def Ext(st st':Sto):Prop:=∀ (l:Nat) c,st[l]?=some c→st'[l]?=some c
def Kp(p:Nat)(st st':Sto):Prop:=∀ (l:Nat) c,l≠p→st[l]?=some c→st'[l]?=some c
theorem Ext.refl(st:Sto):Ext st st:=fun _ _ h=>h
theorem Ext.trans{a b c:Sto}(h:Ext a b)(h':Ext b c):Ext a c:=fun l x e=>h' l x (h l x e)
theorem Ext.app(st x:Sto):Ext st (st++x):=fun l c h=>by rw[Y15 (Z10.mp h).1];exact h
theorem Kp.refl(p:Nat)(st:Sto):Kp p st st:=fun _ _ _ h=>h
theorem Kp.of{p:Nat}{a b:Sto}(h:Ext a b):Kp p a b:=fun l c _ e=>h l c e
theorem Kp.trans{p:Nat}{a b c:Sto}(h:Kp p a b)(h':Kp p b c):Kp p a c:=fun l x n e=>h' l x n (h l x n e)
theorem Kp.set{p:Nat}{a b:Sto}{c:C}(h:Kp p a b):Kp p a (b.set p c):=fun l x n e=>by rw[V21,if_neg (Ne.symm n)];exact h l x n e
theorem cI{st:Sto}{p:Nat}{c c':C}(h:st[p]?=some c):(st.set p c')[p]?=some c':=by
 have:=(Z10.mp h).1;rw[V21,if_pos rfl,if_pos this]
def Sd(p:Nat)(st:Sto):Prop:=∃ (a:Int) (gs:List Int),st[p]?=some (.l (.i a::gs.map D.i))∧0≤a∧a<2305843009213693951∧gs.length<1000
structure Av (p:Nat) (st0 st:Sto):Prop where
 sd:Sd p st
 kp:Kp p st0 st
theorem Av.refl{p:Nat}{st:Sto}(h:Sd p st):Av p st st:=⟨h,Kp.refl _ _⟩
theorem Av.trans{p:Nat}{a b c:Sto}(h:Av p a b)(h':Av p b c):Av p a c:=⟨h'.sd,h.kp.trans h'.kp⟩
theorem aCS{st:Sto}{l:Nat}{xs:List D}{x y:D}(h:st[l]?=some (.l (xs++[x]))):setD (.r l) (.i (-1)) y st=some ((),st.set l (.l (xs++[y]))):=by
 have h1:dcc st l=none:=rfl;have h2:lsc st l=some (xs++[x]):=jJ h;have h3:ixN (xs++[x]).length (-1)=some xs.length:=by
  unfold ixN;rw[if_neg (by decide),if_pos (by simp;omega)];simp
  omega
 unfold setD;dsimp only;rw[h1,h2];dsimp only;rw[h3];simp
section
variable{st:Sto}{p:Nat}
theorem aCT(gs:List Int):gs=[]∨∃ hs g,gs=hs++[g]:=by
 cases h:gs.reverse with
 |nil=>left;simpa using h
 |cons g hs=>right;exact⟨hs.reverse,g,by rw[← List.reverse_reverse gs,h];simp⟩
theorem iC{n:Nat}(h:Sd p st)(hn:0<n)(hn2:n<1000000):∃ (d:Nat) (st':Sto),aF [.r p, .i (n:Nat)] st=some (.i (d:Nat),st')∧d<n∧Av p st st':=by
 obtain⟨a,gs,hs,h0,h1,hl⟩:=h;have hn':(0:Int) < (n:Nat):=by omega
 rcases aCT gs with rfl|⟨gs,g,rfl⟩
 ·have hs:st[p]?=some (.l [.i a]):=hs;have hm:CMul a 1181783497276652981:=.inl ⟨by omega,by omega⟩;generalize hv:(a * 1181783497276652981+12345678910987) % 2305843009213693951=v;have hv0:0≤v:=by rw[← hv];exact U37 _ (by decide)
  have hv1:v<2305843009213693951:=by rw[← hv];exact W34 _ (by decide)
  have hsd:setD (.r p) (.i 0) (.i v) st=some ((),st.set p (.l [.i v])):=aHt (n:=0) hs (by simp);have hs2:(st.set p (.l [.i v]))[p]?=some (.l [.i v]):=cI hs;have hk:Kp p st (st.set p (.l [.i v])):=(Kp.refl _ _).set;generalize st.set p (.l [.i v])=st1 at hsd hs2 hk;have hcv:CDiv v 65537:=⟨by decide,by decide⟩;have hx0:0≤v / 65537:=Int.ediv_nonneg hv0 (by decide);have hx1:v / 65537<2 ^ 64:=Int.lt_of_le_of_lt (Int.ediv_le_self _ hv0) (by omega);have hmm:CMul (v / 65537) (v / 65537):=.inl ⟨by omega,hx1⟩;generalize hy:v / 65537 * (v / 65537) % 2147483629=y;have hc7:CDiv y 7:=⟨by decide,by decide⟩;have hd0:=U37 (y / 7) (show((n:Nat):Int)≠0 by omega);have hd1:=W34 (y / 7) hn';obtain⟨d,hd⟩:∃ d:Nat,y / 7 % ((n:Nat):Int)=(d:Nat):=⟨(y / 7 % ((n:Nat):Int)).toNat,by omega⟩;refine⟨d,st1,?_,by omega,⟨⟨v,[],hs2,hv0,hv1,by simp⟩,hk⟩⟩;rw[← hd];simp[aF,fZ,sP hs,fX hs,hm,hv,hsd,fX hs2,hcv,hmm,hy,hc7,hn',hn]
 ·have hs:st[p]?=some (.l ((.i a::gs.map D.i)++[.i g])):=by rw[hs];simp
  simp at hl;generalize hE:D.i a::gs.map D.i=E at hs;have hEl:(E++[D.i g]).length=gs.length+2:=by rw[← hE];simp
  have hcd:CDiv g (n:Nat):=⟨by omega,by omega⟩;have hd0:=U37 g (show((n:Nat):Int)≠0 by omega);have hd1:=W34 g hn';obtain⟨d,hd⟩:∃ d:Nat,g % ((n:Nat):Int)=(d:Nat):=⟨(g % ((n:Nat):Int)).toNat,by omega⟩;have hsd:setD (.r p) (.i (-1)) (.i (g / (n:Nat))) st=some ((),st.set p (.l (E++[.i (g / (n:Nat))]))):=aCS hs;have hs2:(st.set p (.l (E++[.i (g / (n:Nat))])))[p]?=some (.l (E++[.i (g / (n:Nat))])):=cI hs;have hk:Kp p st (st.set p (.l (E++[.i (g / (n:Nat))]))):=(Kp.refl _ _).set;generalize st.set p (.l (E++[.i (g / (n:Nat))]))=st1 at hsd hs2 hk;have hL:lenD [.r p] st=some (.i ((gs.length+2:Nat):Int),st):=by rw[sP hs,hEl]
  have hlt:(1:Int) < ((gs.length+2:Nat):Int):=by omega
  generalize ((gs.length+2:Nat):Int)=q at hL hlt
  by_cases hz:g / (n:Nat)=0
  ·refine⟨d,st1.set p (.l E),?_,by omega,⟨⟨a,gs,by rw[cI hs2,hE],h0,h1,by omega⟩,hk.set⟩⟩;rw[hz] at hsd hs2;have hpop:popD (.r p) [] st1=some (.i 0,st1.set p (.l E)):=lM hs2;have hck:chkT "list" (.r p) st1=some ((),st1):=bQ hs2;rw[← hd];simp[aF,fZ,hL,hlt,fX hs,oW,hn',hn,hcd,hsd,fX hs2,hz,hpop,hck]
  ·have hz':(g / ((n:Nat):Int)==0)=false:=by simpa using hz
   refine⟨d,st1,?_,by omega,⟨⟨a,gs++[g / (n:Nat)],by rw[hs2,← hE];simp,h0,h1,by simp;omega⟩,hk⟩⟩;rw[← hd];simp[aF,fZ,hL,hlt,fX hs,oW,hn',hn,hcd,hsd,fX hs2,hz']
end
section
variable{st:Sto}{env:En}{t:En→M (List D)}
@[simp] theorem sPar_ap{i j:Nat}:sPar i j t env st=b3 (t env st) (fun xs=>match xs with |[u,v]=>L2.ret (.nx,(env.set i (some u)).set j (some v))|_=>bad):=rfl
variable{α:Type}{m:M α}
@[simp] theorem z1:n3 (1≤sizeLine) m st=m st:=aI (by rw[Y14];decide)
@[simp] theorem z2:n3 (2≤sizeLine) m st=m st:=aI (by rw[Y14];decide)
@[simp] theorem z3:n3 (3≤sizeLine) m st=m st:=aI (by rw[Y14];decide)
@[simp] theorem z4:n3 (4≤sizeLine) m st=m st:=aI (by rw[Y14];decide)
@[simp] theorem z5:n3 (5≤sizeLine) m st=m st:=aI (by rw[Y14];decide)
@[simp] theorem z6:n3 (6≤sizeLine) m st=m st:=aI (by rw[Y14];decide)
@[simp] theorem z7:n3 (7≤sizeLine) m st=m st:=aI (by rw[Y14];decide)
@[simp] theorem z0:n3 (0≤sizeLine) m st=m st:=aI (Z23 _)
end
theorem nB{c:Sto→Prop}{g:D→En→M En}{tb:Sm'}{J:Nat→En→Sto→Prop}(hc:∀ st,c st)(n:Nat)
  (h:∀ i env st,i<n→J i env st→∃ env1 env2 st',g (.i (i:Nat)) env st=some (env1,st)∧tb env1 st=some ((.nx,env2),st')∧J (i+1) env2 st'):
  ∀ (m i:Nat) (env:En) (st:Sto),i+m=n→J i env st→∃ env' st',forD c g tb ((List.range' i m).map fun j:Nat=>D.i (j:Nat)) env st=some ((.nx,env'),st')∧J n env' st'
 |0,i,env,st,e,hJ=>⟨env,st,by show chkM c _ st=_;rw[bG (hc st)];rfl,by rw[← e];exact hJ⟩
 |m+1,i,env,st,e,hJ=>by
  obtain⟨env1,env2,st1,h1,h2,h3⟩:=h i env st (by omega) hJ;obtain⟨env',st',g1,g2⟩:=nB hc n h m (i+1) env2 st1 (by omega) h3;refine⟨env',st',?_,g2⟩;rw[V36,V15];show chkM c _ st=_;rw[bG (hc st)];simp only[gH,h1,jK,h2];exact g1
theorem rng{m:Nat}{st:Sto}(h:m<1000000):rangeD [.i (m:Nat)] st=some (((List.range' 0 m).map fun j:Nat=>D.i (j:Nat),fun _=>True),st):=by
 rw[hY,aI (by constructor<;>omega)];have hx:((List.range m).map fun(k:Nat)=>D.i (0+(k:Int)))=(List.range' 0 m).map fun j:Nat=>D.i (j:Nat):=by rw[U36];simp
 show some (_,st)=_;rw[V29,hx]
noncomputable def tmD:List Bool→D
 |[]=>.t [.s "free", .s "x"]
 |true::l=>.t [.s "call", .s "f", .t [tmD l]]
 |false::l=>.t [.s "form", .s "S", .t [.t [.s "form", .s "Z", .t []],tmD l]]
noncomputable def tmS:List Bool→Str
 |[]=>"x"
 |true::l=>("f(":Str)++tmS l++(")":Str)
 |false::l=>("S(Z, ":Str)++tmS l++(")":Str)
theorem len_app(a b:Str):(a++b).length=a.length+b.length:=by
 show(a.cps++b.cps).size=a.cps.size+b.cps.size;exact Array.size_append
theorem mF:∀ l,(tmS l).length≤1+7 * l.length
 |[]=>by decide
 |true::l=>by
  have:=mF l;rw[tmS,len_app,len_app,show("f(":Str).length=2 by decide,show(")":Str).length=1 by decide];simp;omega
 |false::l=>by
  have:=mF l;rw[tmS,len_app,len_app,show("S(Z, ":Str).length=5 by decide,show(")":Str).length=1 by decide];simp;omega
section
variable{st:Sto}{p:Nat}
theorem uT{m:Nat}(hs:Sd p st)(hm:m<1000):∃ l st',dH [.r p, .i (m:Nat)] st=some (.t [tmD l, .s (tmS l)],st')∧l.length=m∧Av p st st':=by
 have key:=nB (c:=fun _=>True) (g:=gN 4) (tb:=L2a)
  (J:=fun i env st1=>∃ l k,env=[some (.r p),some (.i (m:Nat)),some (tmD l),some (.s (tmS l)),k]∧l.length=i∧Av p st st1) (fun _=>trivial) m ?_ m 0
   [some (.r p),some (.i (m:Nat)),some (tmD []),some (.s (tmS [])),none] st (by omega) ⟨[],none,rfl,rfl, .refl hs⟩
 ·obtain⟨env',st',h1,l,k,rfl,hl,av⟩:=key;refine⟨l,st',?_,hl,av⟩;simp only[tmD,tmS] at h1;simp[dH,fH,-hY,rng (show m<1000000 by omega),h1]
 ·rintro i env st1 hi ⟨l,k,rfl,hl,av⟩;obtain⟨d,st2,e1,e2,e3⟩:=iC (n:=2) av.sd (by omega) (by omega);have e1':aF [.r p, .i 2] st1=some (.i (d:Nat),st2):=e1;have hz:=mF l;have q1:("f(":Str).length+(tmS l).length≤sizeLine:=by rw[Y14,show("f(":Str).length=2 by decide];omega
  have q2:(("f(":Str)++tmS l).length+(")":Str).length≤sizeLine:=by rw[Y14,len_app,show("f(":Str).length=2 by decide,show(")":Str).length=1 by decide];omega
  have q3:("S(Z, ":Str).length+(tmS l).length≤sizeLine:=by rw[Y14,show("S(Z, ":Str).length=5 by decide];omega
  have q4:(("S(Z, ":Str)++tmS l).length+(")":Str).length≤sizeLine:=by rw[Y14,len_app,show("S(Z, ":Str).length=5 by decide,show(")":Str).length=1 by decide];omega
  rcases d with _|_|d
  ·exact⟨[some (.r p),some (.i (m:Nat)),some (tmD l),some (.s (tmS l)),some (.i (i:Nat))],[some (.r p),some (.i (m:Nat)),some (tmD (true::l)),some (.s (tmS (true::l))),some (.i (i:Nat))],st2,by simp,by simp[e1',tmD,tmS,aI q1,aI q2],true::l,some (.i (i:Nat)),rfl,by simp[hl],av.trans e3⟩
  ·exact⟨[some (.r p),some (.i (m:Nat)),some (tmD l),some (.s (tmS l)),some (.i (i:Nat))],[some (.r p),some (.i (m:Nat)),some (tmD (false::l)),some (.s (tmS (false::l))),some (.i (i:Nat))],st2,by simp,by simp[e1',tmD,tmS,aI q3,aI q4],false::l,some (.i (i:Nat)),rfl,by simp[hl],av.trans e3⟩
  ·omega
end
@[simp] theorem ixD_new{st:Sto}{xs:List D}{n:Int}:ixD (.r st.length) (.i n) (st++[.l xs])=opt (atI xs n) (st++[.l xs]):=fX (by simp)
theorem Av.ext{p:Nat}{a b c:Sto}(h:Av p a b)(e:Ext b c):Av p a c:=⟨by obtain⟨x,y,q,r⟩:=h.sd;exact⟨x,y,e _ _ q,r⟩,h.kp.trans (Kp.of e)⟩
theorem zl{n:Nat}(h:n≤100000):n≤sizeLine:=by rw[Y14];omega
theorem n3L{α:Type}{a b:Str}{m:M α}{st:Sto}(h:a.length+b.length≤100000):n3 (a.length+b.length≤sizeLine) m st=m st:=aI (zl h)
noncomputable abbrev qA:D:=.t [.s "atom", .s "q", .t []]
noncomputable def stD:List Nat→D
 |[]=>.t [.s "false"]
 |0::l=>.t [.s "and",stD l,qA]
 |1::l=>.t [.s "or",stD l,qA]
 |2::l=>.t [.s "if",stD l,qA]
 |3::l=>.t [.s "and",qA,stD l]
 |4::l=>.t [.s "or",qA,stD l]
 |_::l=>.t [.s "if",qA,stD l]
noncomputable def stS:List Nat→Str
 |[]=>"false"
 |0::l=>("(":Str)++stS l++(" and ":Str)++("q())":Str)
 |1::l=>("(":Str)++stS l++(" or ":Str)++("q())":Str)
 |2::l=>("(":Str)++stS l++(" -> ":Str)++("q())":Str)
 |3::l=>("(q()":Str)++(" and ":Str)++stS l++(")":Str)
 |4::l=>("(q()":Str)++(" or ":Str)++stS l++(")":Str)
 |_::l=>("(q()":Str)++(" -> ":Str)++stS l++(")":Str)
noncomputable def taD:List Nat→D
 |[]=>.t [.s "both"]
 |0::l=>.t [.s "then",taD l, .t [.s "done"]]
 |1::l=>.t [.s "first", .t [.t [.s "plain"],taD l]]
 |2::l=>.t [.s "try",taD l]
 |_::l=>.t [.s "again",taD l]
noncomputable def taS:List Nat→Str
 |[]=>"both()"
 |0::l=>("then(":Str)++taS l++(", done())":Str)
 |1::l=>("first([plain(), ":Str)++taS l++("])":Str)
 |2::l=>("try":Str)++("(":Str)++taS l++(")":Str)
 |_::l=>("again":Str)++("(":Str)++taS l++(")":Str)
theorem ls3:("(":Str).length=1:=by decide
theorem LS:(" -> ":Str).length=4∧(" and ":Str).length=5∧(" or ":Str).length=4∧("(":Str).length=1∧("(q()":Str).length=4∧(")":Str).length=1∧(", done())":Str).length=9∧("])":Str).length=2∧("again":Str).length=5∧("first([plain(), ":Str).length=16∧("q())":Str).length=4∧("then(":Str).length=5∧("try":Str).length=3∧("), ":Str).length=3∧("first":Str).length=5∧("forms(n, [ | h | ":Str).length=17∧("give(hole(":Str).length=10∧("induct(nat, x: p(x), [n | g h | ":Str).length=32∧("into(h, false, ":Str).length=15∧("unlike":Str).length=6:=by decide
theorem oA:∀ l,(stS l).length≤5+14 * l.length
 |[]=>by decide
 |n::l=>by
  have:=oA l
  match n with
  |0|1|2|3|4|_+5=>simp only[stS,len_app,LS,Z14];omega
theorem oB:∀ l,(taS l).length≤6+20 * l.length
 |[]=>by decide
 |n::l=>by
  have:=oB l
  match n with
  |0|1|2|_+3=>simp only[taS,len_app,LS,Z14];omega
section
variable{st:Sto}{p:Nat}
theorem qL{m:Nat}(hs:Sd p st)(hm:m<200):∃ l st',cP [.r p, .i (m:Nat)] st=some (.t [taD l, .s (taS l)],st')∧l.length=m∧Av p st st':=by
 have key:=nB (c:=fun _=>True) (g:=gN 4) (tb:=L80a)
  (J:=fun i env st1=>∃ l k0 k1 k2,env=[some (.r p),some (.i (m:Nat)),some (taD l),some (.s (taS l)),k0,k1,k2]∧l.length=i∧Av p st st1) (fun _=>trivial) m ?_ m 0
   [some (.r p),some (.i (m:Nat)),some (taD []),some (.s (taS [])),none,none,none] st (by omega) ⟨[],none,none,none,rfl,rfl, .refl hs⟩
 ·obtain⟨env',st',h1,l,k0,k1,k2,rfl,hl,av⟩:=key;refine⟨l,st',?_,hl,av⟩;simp only[taD,taS] at h1;simp[cP,eI,-hY,rng (show m<1000000 by omega),h1]
 ·rintro i env st1 hi ⟨l,k0,k1,k2,rfl,hl,av⟩;obtain⟨d,st2,e1,e2,e3⟩:=iC (n:=4) av.sd (by omega) (by omega);have e1:aF [.r p, .i 4] st1=some (.i (d:Nat),st2):=e1;have hz:=oB l;have fin:=fun(d:Nat) (w:Option D) (s:Sto) (x:Ext st2 s) (h:L80a [some (.r p),some (.i (m:Nat)),some (taD l),some (.s (taS l)),some (.i (i:Nat)),k1,k2] st1=some ((.nx,[some (.r p),some (.i (m:Nat)),some (taD (d::l)),some (.s (taS (d::l))),some (.i (i:Nat)),some (.i (d:Nat)),w]),s))=>(⟨_,_,s,rfl,h,d::l,_,_,_,rfl,by simp[hl],(av.trans e3).ext x⟩:∃ env1 env2 st',gN 4 (.i (i:Nat)) [some (.r p),some (.i (m:Nat)),some (taD l),some (.s (taS l)),k0,k1,k2] st1=some (env1,st1)∧L80a env1 st1=some ((.nx,env2),st')∧∃ l k0 k1 k2,env2=[some (.r p),some (.i (m:Nat)),some (taD l),some (.s (taS l)),k0,k1,k2]∧l.length=i+1∧Av p st st')
  match d,e1,e2 with
  |0,e1,_=>exact fin 0 k2 st2 (.refl _) (by simp(disch:=(simp only[len_app,LS];omega)) [e1,taD,taS,n3L])
  |1,e1,_=>exact fin 1 k2 st2 (.refl _) (by simp(disch:=(simp only[len_app,LS];omega)) [e1,taD,taS,n3L])
  |2,e1,_=>exact fin 2 (some (.s "try")) (st2++[.l [.s "try", .s "again"]]) (Ext.app _ _) (by simp(disch:=(simp only[len_app,LS];omega)) [e1,taD,taS,n3L])
  |3,e1,_=>exact fin 3 (some (.s "again")) (st2++[.l [.s "try", .s "again"]]) (Ext.app _ _) (by simp(disch:=(simp only[len_app,LS];omega)) [e1,taD,taS,n3L];exact⟨rfl,rfl⟩)
  |d+4,_,h=>omega
end
section
variable{st:Sto}{p:Nat}
theorem qM{m:Nat}(hs:Sd p st)(hm:m<200):∃ l st',cM [.r p, .i (m:Nat)] st=some (.t [stD l, .s (stS l)],st')∧l.length=m∧Av p st st':=by
 have key:=nB (c:=fun _=>True) (g:=gN 4) (tb:=L74a)
  (J:=fun i env st1=>∃ l k0 k1 k2 k3,env=[some (.r p),some (.i (m:Nat)),some (stD l),some (.s (stS l)),k0,k1,k2,k3]∧l.length=i∧Av p st st1) (fun _=>trivial) m ?_ m 0
   [some (.r p),some (.i (m:Nat)),some (stD []),some (.s (stS [])),none,none,none,none] st (by omega) ⟨[],none,none,none,none,rfl,rfl, .refl hs⟩
 ·obtain⟨env',st',h1,l,k0,k1,k2,k3,rfl,hl,av⟩:=key;refine⟨l,st',?_,hl,av⟩;simp only[stD,stS] at h1;simp[cM,eG,-hY,rng (show m<1000000 by omega),h1]
 ·rintro i env st1 hi ⟨l,k0,k1,k2,k3,rfl,hl,av⟩;obtain⟨d,st2,e1,e2,e3⟩:=iC (n:=6) av.sd (by omega) (by omega);have e1:aF [.r p, .i 6] st1=some (.i (d:Nat),st2):=e1;have hz:=oA l;have n1:∀ k:Int,ixD (.r (st2.length+1)) (.i k) (st2++[.l [.s "and", .s "or", .s "if"], .l [.s " and ", .s " or ", .s " -> "]])=opt (atI [.s " and ", .s " or ", .s " -> "] k) (st2++[.l [.s "and", .s "or", .s "if"], .l [.s " and ", .s " or ", .s " -> "]]):=fun k=>fX (by simp);have fin:=fun(d:Nat) (w j:Str) (h:L74a [some (.r p),some (.i (m:Nat)),some (stD l),some (.s (stS l)),some (.i (i:Nat)),k1,k2,k3] st1=some ((.nx,[some (.r p),some (.i (m:Nat)),some (stD (d::l)),some (.s (stS (d::l))),some (.i (i:Nat)),some (.i (d:Nat)),some (.s w),some (.s j)]),st2++[.l [.s "and", .s "or", .s "if"], .l [.s " and ", .s " or ", .s " -> "]]))=>(⟨_,_,_,rfl,h,d::l,_,_,_,_,rfl,by simp[hl],(av.trans e3).ext (Ext.app _ _)⟩:∃ env1 env2 st',gN 4 (.i (i:Nat)) [some (.r p),some (.i (m:Nat)),some (stD l),some (.s (stS l)),k0,k1,k2,k3] st1=some (env1,st1)∧L74a env1 st1=some ((.nx,env2),st')∧∃ l k0 k1 k2 k3,env2=[some (.r p),some (.i (m:Nat)),some (stD l),some (.s (stS l)),k0,k1,k2,k3]∧l.length=i+1∧Av p st st')
  match d,e1,e2 with
  |0,e1,_=>exact fin 0 "and" " and " (by simp(disch:=(simp only[len_app,LS];omega)) [e1,stD,stS,n1,n3L])
  |1,e1,_=>exact fin 1 "or" " or " (by simp(disch:=(simp only[len_app,LS];omega)) [e1,stD,stS,n1,n3L])
  |2,e1,_=>exact fin 2 "if" " -> " (by simp(disch:=(simp only[len_app,LS];omega)) [e1,stD,stS,n1,n3L])
  |3,e1,_=>exact fin 3 "and" " and " (by simp(disch:=(simp only[len_app,LS];omega)) [e1,stD,stS,n1,n3L])
  |4,e1,_=>exact fin 4 "or" " or " (by simp(disch:=(simp only[len_app,LS];omega)) [e1,stD,stS,n1,n3L])
  |5,e1,_=>exact fin 5 "if" " -> " (by simp(disch:=(simp only[len_app,LS];omega)) [e1,stD,stS,n1,n3L];exact⟨rfl,rfl⟩)
  |d+6,_,h=>omega
end
noncomputable abbrev numS(k:Nat):Str:=Str.ofString (toString ((k:Nat):Int))
theorem pP:∀ k:Nat,k<200→(numS k).length≤3:=by decide +kernel
noncomputable def reD:List (Nat×Nat)→D
 |[]=>.t [.s "fact", .s "h"]
 |(0,_)::l=>.t [.s "first",reD l]
 |(1,_)::l=>.t [.s "unlike",reD l]
 |(2,k)::l=>.t [.s "give", .t [.s "hole", .i (k:Nat)],reD l]
 |(3,_)::l=>.t [.s "into", .s "h", .t [.s "false"],reD l]
 |(4,_)::l=>.t [.s "forms", .t [.s "free", .s "n"], .t [.t [.t [], .s "h",reD l]]]
 |(_,_)::l=>.t [.s "induct", .s "nat", .t [.s "atom", .s "p", .t [.t [.s "bound", .i 0]]], .t [.t [.t [.s "n"], .t [.s "g", .s "h"],reD l]]]
noncomputable def reS:List (Nat×Nat)→Str
 |[]=>"fact(h)"
 |(0,_)::l=>("first":Str)++("(":Str)++reS l++(")":Str)
 |(1,_)::l=>("unlike":Str)++("(":Str)++reS l++(")":Str)
 |(2,k)::l=>("give(hole(":Str)++numS k++("), ":Str)++reS l++(")":Str)
 |(3,_)::l=>("into(h, false, ":Str)++reS l++(")":Str)
 |(4,_)::l=>("forms(n, [ | h | ":Str)++reS l++("])":Str)
 |(_,_)::l=>("induct(nat, x: p(x), [n | g h | ":Str)++reS l++("])":Str)
theorem oC:∀ l:List (Nat×Nat),(∀ x∈l,x.2<200)→(reS l).length≤7+40 * l.length
 |[],_=>by decide
 |(n,k)::l,h=>by
  have:=oC l fun x hx=>h x (U13 _ hx);have:=pP k (h (n,k) (by simp))
  match n with
  |0|1|2|3|4|_+5=>simp only[reS,len_app,LS,Z14];omega
theorem aFc{st:Sto}{k:Nat}(h:k<200):str1D [.i (k:Nat)] st=some (.s (numS k),st):=by
 have e:((k:Nat):Int).natAbs.log2<1920:=by
  have:∀ k:Nat,k<200→((k:Nat):Int).natAbs.log2<1920:=by decide +kernel
  exact this k h
 show need _ _ st=_;rw[dZ e]
 rfl
section
variable{st:Sto}{p:Nat}
theorem qN{m:Nat}(hs:Sd p st)(hm:m<200):∃ l st',cN [.r p, .i (m:Nat)] st=some (.t [reD l, .s (reS l)],st')∧l.length=m∧(∀ x∈l,x.2<200)∧Av p st st':=by
 have key:=nB (c:=fun _=>True) (g:=gN 4) (tb:=L77a)
  (J:=fun i env st1=>∃ l k0 k1 k2 k3,env=[some (.r p),some (.i (m:Nat)),some (reD l),some (.s (reS l)),k0,k1,k2,k3]∧l.length=i∧(∀ x∈l,x.2<200)∧Av p st st1) (fun _=>trivial) m ?_ m 0
   [some (.r p),some (.i (m:Nat)),some (reD []),some (.s (reS [])),none,none,none,none] st (by omega) ⟨[],none,none,none,none,rfl,rfl,by simp, .refl hs⟩
 ·obtain⟨env',st',h1,l,k0,k1,k2,k3,rfl,hl,hk,av⟩:=key;refine⟨l,st',?_,hl,hk,av⟩;simp only[reD,reS] at h1;simp[cN,eH,-hY,rng (show m<1000000 by omega),h1]
 ·rintro i env st1 hi ⟨l,k0,k1,k2,k3,rfl,hl,hk,av⟩;obtain⟨d,st2,e1,e2,e3⟩:=iC (n:=6) av.sd (by omega) (by omega);have e1:aF [.r p, .i 6] st1=some (.i (d:Nat),st2):=e1;have hz:=oC l hk;have hi2:i<200:=by omega
  have hn:=pP i hi2;have fin:=fun(d:Nat) (w v:Option D) (s:Sto) (x:Ext st2 s) (h:L77a [some (.r p),some (.i (m:Nat)),some (reD l),some (.s (reS l)),some (.i (i:Nat)),k1,k2,k3] st1=some ((.nx,[some (.r p),some (.i (m:Nat)),some (reD ((d,i)::l)),some (.s (reS ((d,i)::l))),some (.i (i:Nat)),some (.i (d:Nat)),w,v]),s))=>(⟨_,_,s,rfl,h,(d,i)::l,_,_,_,_,rfl,by simp[hl],fun x hx=>(W12.mp hx).elim (fun e=>by rw[e];exact hi2) (hk x),(av.trans e3).ext x⟩:∃ env1 env2 st',gN 4 (.i (i:Nat)) [some (.r p),some (.i (m:Nat)),some (reD l),some (.s (reS l)),k0,k1,k2,k3] st1=some (env1,st1)∧L77a env1 st1=some ((.nx,env2),st')∧∃ l k0 k1 k2 k3,env2=[some (.r p),some (.i (m:Nat)),some (reD l),some (.s (reS l)),k0,k1,k2,k3]∧l.length=i+1∧(∀ x∈l,x.2<200)∧Av p st st')
  match d,e1,e2 with
  |0,e1,_=>exact fin 0 (some (.s "first")) k3 (st2++[.l [.s "first", .s "unlike"]]) (Ext.app _ _) (by simp(disch:=(simp only[len_app,LS];omega)) [e1,reD,reS,n3L])
  |1,e1,_=>exact fin 1 (some (.s "unlike")) k3 (st2++[.l [.s "first", .s "unlike"]]) (Ext.app _ _) (by simp(disch:=(simp only[len_app,LS];omega)) [e1,reD,reS,n3L])
  |2,e1,_=>exact fin 2 k2 k3 st2 (.refl _) (by simp(disch:=(simp only[len_app,LS];omega)) [e1,reD,reS,aFc hi2,n3L])
  |3,e1,_=>exact fin 3 k2 k3 st2 (.refl _) (by simp(disch:=(simp only[len_app,LS];omega)) [e1,reD,reS,n3L])
  |4,e1,_=>exact fin 4 k2 k3 st2 (.refl _) (by simp(disch:=(simp only[len_app,LS];omega)) [e1,reD,reS,n3L])
  |5,e1,_=>exact fin 5 k2 (some (.t [.t [.s "n"], .t [.s "g", .s "h"],reD l])) st2 (.refl _) (by simp(disch:=(simp only[len_app,LS];omega)) [e1,reD,reS,n3L];exact⟨rfl,rfl⟩)
  |d+6,_,h=>omega
end
theorem yI{c:Sto→Prop}{g:D→En→M En}{tb:Sm'}{J:En→Sto→Prop}(hc:∀ st,c st):∀ (xs:List D) (env:En) (st:Sto),
  (∀ x∈xs,∀ env st,J env st→∃ env1 env2 st',g x env st=some (env1,st)∧tb env1 st=some ((.nx,env2),st')∧J env2 st')→J env st→∃ env' st',forD c g tb xs env st=some ((.nx,env'),st')∧J env' st'
 |[],env,st,_,hJ=>⟨env,st,by show chkM c _ st=_;rw[bG (hc st)];rfl,hJ⟩
 |x::xs,env,st,h,hJ=>by
  obtain⟨env1,env2,st1,h1,h2,h3⟩:=h x (by simp) env st hJ;obtain⟨env',st',g1,g2⟩:=yI hc xs env2 st1 (fun y hy=>h y (U13 _ hy)) h3;refine⟨env',st',?_,g2⟩;show chkM c _ st=_;rw[bG (hc st)];simp only[gH,h1,jK,h2];exact g1
theorem pQ{c:Sto→Prop}{bd:D→Sto→Option (List D)}{tc:En→M Bool}{te:En→M D}{cap:En}{I:Sto→Prop}{P:D→Prop}:∀ (xs acc:List D) (st:Sto),
  (∀ x∈xs,∀ st,I st→∃ ds b,bd x st=some ds∧tc (ds.map some++cap) st=some (b,st)∧(b=true→∃ z st',te (ds.map some++cap) st=some (z,st')∧P z∧I st'))→(∀ st,I st→c st)→I st→
  ∃ zs st',compD c bd tc te cap xs acc st=some (acc++zs,st')∧I st'∧(∀ z∈zs,P z)∧zs.length≤xs.length
 |[],acc,st,_,hc,hI=>⟨[],st,by rw[compD,bG (hc st hI)];simp,hI,by simp,Y12 _⟩
 |x::xs,acc,st,h,hc,hI=>by
  obtain⟨ds,b,h1,h2,h3⟩:=h x (by simp) st hI;cases b with
  |false=>
   obtain⟨zs,st',g1,g2,g3,g4⟩:=pQ xs acc st (fun y hy=>h y (U13 _ hy)) hc hI;refine⟨zs,st',?_,g2,g3,by simp;omega⟩;rw[compD,bG (hc st hI),h1];dsimp only;rw[aQ h2,if_neg (by decide)];exact g1
  |true=>
   obtain⟨z,st1,h4,h5,h6⟩:=h3 rfl;obtain⟨zs,st',g1,g2,g3,g4⟩:=pQ xs (acc++[z]) st1 (fun y hy=>h y (U13 _ hy)) hc h6;refine⟨z::zs,st',?_,g2,fun w hw=>?_,by simp;omega⟩
   ·rw[compD,bG (hc st hI),h1];dsimp only;rw[aQ h2,if_pos rfl,aQ h4,g1];simp
   ·rcases W12.mp hw with rfl|hw
    ·exact h5
    ·exact g3 w hw
theorem yJ:∀ {zs:List D},(∀ z∈zs,∃ n:Int,z=.i n)→∃ gs:List Int,zs=gs.map D.i
 |[],_=>⟨[],rfl⟩
 |z::zs,h=>by
  obtain⟨n,rfl⟩:=h z (by simp);obtain⟨gs,rfl⟩:=yJ fun y hy=>h y (U13 _ hy);exact⟨n::gs,rfl⟩
theorem aFd{ns:List Int}(hl:ns.length≤63):∃ p st',gV [.f (ns.map D.i)] []=some (.r p,st')∧Sd p st':=by
 obtain⟨env',st',h1,hst,a,k,c,he,ha0,ha1⟩:=yI (c:=fun _=>True) (g:=gT 2 (gsC (gN 2) (gsC (gN 3) gsN))) (tb:=L0a)
  (J:=fun env st=>st=[]∧∃ (a:Int) (k c:Option D),env=[some (.f (ns.map D.i)),some (.i a),k,c,none]∧0≤a∧a<2305843009213693951) (fun _=>trivial) (enumL (ns.map D.i)) [some (.f (ns.map D.i)),some (.i 7),none,none,none] [] (by
   rintro x hx env st ⟨rfl,a,k,c,rfl,ha0,ha1⟩;obtain⟨j,hj⟩:=W36 hx;obtain⟨y,hy,rfl⟩:=mD hj;rw[Z13] at hy;obtain⟨n,_,rfl⟩:=Z12.mp hy;have q1:CMul a 7368787:=.inl ⟨by omega,by omega⟩;have q2:CPow 10 30:=⟨by decide,by decide,by decide⟩;have q3:CMul 13 (j:Nat):=.inl ⟨by decide,by decide⟩;generalize hv:(a * 7368787+n % 10 ^ 30+13 * (j:Nat)+11) % 2305843009213693951=v;have hv0:0≤v:=by rw[← hv];exact U37 _ (by decide)
   have hv1:v<2305843009213693951:=by rw[← hv];exact W34 _ (by decide)
   refine⟨[some (.f (ns.map D.i)),some (.i a),some (.i (j:Nat)),some (.i n),none],[some (.f (ns.map D.i)),some (.i v),some (.i (j:Nat)),some (.i n),none],[],by simp,?_,rfl,v,_,_,rfl,hv0,hv1⟩;rw[← hv];simp[aI q1,aI q2,aI q3,-sO,sO (a:=10) (b:=30)])
  ⟨rfl,7,none,none,rfl,by decide,by decide⟩
 subst hst;subst he;have hcl:(L2.cutD (ns.map D.i) none (some 63)).length≤63:=by
  unfold L2.cutD;rw[U23,Y19,U16]
  omega
 have hcm:∀ x∈L2.cutD (ns.map D.i) none (some 63),∃ n:Int,x=.i n:=fun x hx=>by
  unfold L2.cutD at hx;obtain⟨n,_,rfl⟩:=Y36.mp (List.mem_of_mem_drop (List.mem_of_mem_take hx));exact⟨n,rfl⟩
 generalize hcs:L2.cutD (ns.map D.i) none (some 63)=cs at hcl hcm;have q2:CPow 10 18:=⟨by decide,by decide,by decide⟩;obtain⟨zs,st1,g1,rfl,g3,g4⟩:=pQ (c:=fun st=>st[0]?=some (.l cs)) (bd:=bd1) (tc:=tCm geD (eV 0) (eOp powD (eC (.i 10)) (eC (.i 18)))) (te:=eV 0) (cap:=[]) (I:=fun st=>st=[.l cs]) (P:=fun z=>∃ n:Int,z=.i n) cs [] [.l cs] (by
   rintro x hx st rfl;obtain⟨n,rfl⟩:=hcm x hx;exact⟨[.i n],decide ((10:Int) ^ 18≤n),rfl,by simp[aI q2,-sO,sO (a:=10) (b:=18)],fun _=>⟨.i n,_,by simp,⟨n,rfl⟩,rfl⟩⟩) (by rintro st rfl;rfl) rfl
 obtain⟨gs,rfl⟩:=yJ g3;simp only[U16] at g4;have hsl:slD (.f (ns.map D.i)) none (some 63) []=some (.r 0,[.l cs]):=by
  show some (D.r 0,[C.l (L2.cutD (ns.map D.i) none (some 63))])=_;rw[hcs]
 have hen:enumD [.f (ns.map D.i)] []=some ((enumL (ns.map D.i),fun _=>True),[]):=rfl;have hit:itD (.r 0) [.l cs]=some ((cs,fun st=>st[0]?=some (.l cs)),[.l cs]):=rfl;have hsz:cs.length<sizeLine:=by rw[Y14];omega
 have hrv:lrevD [.r 1] [.l cs, .l (gs.map D.i), .l [.i a]]=some (.r 3,[.l cs, .l (gs.map D.i), .l [.i a], .l (gs.map D.i).reverse]):=rfl;have had:addD (.r 2) (.r 3) [.l cs, .l (gs.map D.i), .l [.i a], .l (gs.map D.i).reverse]=some (.r 4,[.l cs, .l (gs.map D.i), .l [.i a], .l (gs.map D.i).reverse]++[.l ([.i a]++(gs.map D.i).reverse)]):=iL rfl rfl (by rw[Y14];simp;omega);refine⟨4,[.l cs, .l (gs.map D.i), .l [.i a], .l (gs.map D.i).reverse]++[.l ([.i a]++(gs.map D.i).reverse)],?_,a,gs.reverse,by simp,ha0,ha1,by simp;omega⟩;rw[U21] at g1;simp only[List.cons_append,U21] at had ⊢;simp[gV,jM,hen,h1,hsl,hit,hsz,g1,hrv,had,capD]
noncomputable def tri(e:Str):List D:=[.s (("x":Str)++e), .s (("y":Str)++e), .s (("z":Str)++e)]
section
variable{st:Sto}{p:Nat}
theorem aAx:chars "xyz"=[.s "x", .s "y", .s "z"]:=by rfl
theorem aHQ{env:En}{e:Str}(he:e.length≤1)(h:env[4]?=some (some (.s e))):eCo [4] (iS (eC (.s "xyz"))) bd1 (fun _=>L2.ret true) (eOp addD (eV 0) (eV 1)) env st=some (.r st.length,st++[C.l (tri e)]):=by
 have l1:("x":Str).length+e.length≤sizeLine:=zl (by rw[show("x":Str).length=1 by decide];omega);have l2:("y":Str).length+e.length≤sizeLine:=zl (by rw[show("y":Str).length=1 by decide];omega);have l3:("z":Str).length+e.length≤sizeLine:=zl (by rw[show("z":Str).length=1 by decide];omega);have hc:capD [4] env=[some (.s e)]:=by simp[capD,h]
 have hi:itD (.s "xyz") st=some (([.s "x", .s "y", .s "z"],fun _=>True),st):=by
  show some ((chars "xyz",fun _=>True),st)=_;rw[aAx]
 have hz:(3:Nat)<sizeLine:=by rw[Y14];decide
 simp[hi,hc,hz,compD,chkM,bd1,aI l1,aI l2,aI l3,tri]
theorem pR{q:Nat}{X:List D}{a0 a1 a2 a5 a6 a7 a8 a9:Option D}:∀ (es:List Str) (acc:List D) (l:Nat) (e0:Option D) (st:Sto),(∀ e∈es,e.length≤1)→acc.length+3 * es.length≤1000→st[l]?=some (.l acc)→st[q]?=some (.l X)→
  ∃ l' e' st',forD (fun st=>st[q]?=some (.l X)) (gN 4) (sA (eOp addD (eV 3) (eCo [4] (iS (eC (.s "xyz"))) bd1 (fun _=>L2.ret true) (eOp addD (eV 0) (eV 1)))) (gN 3)) (es.map D.s) [a0,a1,a2,some (.r l),e0,a5,a6,a7,a8,a9] st=some ((.nx,[a0,a1,a2,some (.r l'),e',a5,a6,a7,a8,a9]),st')∧st'[l']?=some (.l (acc++es.flatMap tri))∧Ext st st'
 |[],acc,l,e0,st,_,_,hl,hq=>⟨l,e0,st,by show chkM _ _ st=_;rw[bG hq];rfl,by simpa using hl,Ext.refl _⟩
 |e::es,acc,l,e0,st,he,hn,hl,hq=>by
  have h1:=aHQ (st:=st) (env:=[a0,a1,a2,some (.r l),some (.s e),a5,a6,a7,a8,a9]) (he e (by simp)) rfl;simp only[Z14] at hn;have x1:Ext st (st++[C.l (tri e)]):=Ext.app _ _;have h2:addD (.r l) (.r st.length) (st++[C.l (tri e)])=some (.r (st++[C.l (tri e)]).length,(st++[C.l (tri e)])++[C.l (acc++tri e)]):=iL (x1 _ _ hl) (by simp) (zl (by simp[tri];omega));have x2:Ext st ((st++[C.l (tri e)])++[C.l (acc++tri e)]):=x1.trans (Ext.app _ _);have hnew:((st++[C.l (tri e)])++[C.l (acc++tri e)])[(st++[C.l (tri e)]).length]?=some (.l (acc++tri e)):=by simp
  generalize (st++[C.l (tri e)])++[C.l (acc++tri e)]=st2 at h2 x2 hnew;generalize (st++[C.l (tri e)]).length=l2 at h2 hnew;obtain⟨l',e',st',g1,g2,g3⟩:=pR es (acc++tri e) l2 (some (.s e)) st2 (fun y hy=>he y (U13 _ hy)) (by simp[tri];omega) hnew (x2 _ _ hq);refine⟨l',e',st',?_,by rw[g2];simp,x2.trans g3⟩;rw[V15];show chkM _ _ st=_;rw[bG hq];have h3:gN 4 (.s e) [a0,a1,a2,some (.r l),e0,a5,a6,a7,a8,a9] st=some ([a0,a1,a2,some (.r l),some (.s e),a5,a6,a7,a8,a9],st):=by simp
  have h4:sA (eOp addD (eV 3) (eCo [4] (iS (eC (.s "xyz"))) bd1 (fun _=>L2.ret true) (eOp addD (eV 0) (eV 1)))) (gN 3) [a0,a1,a2,some (.r l),some (.s e),a5,a6,a7,a8,a9] st=some ((.nx,[a0,a1,a2,some (.r l2),some (.s e),a5,a6,a7,a8,a9]),st2):=by
   simp only[aIP,aCe,aJk,jK,gH,h1,h2,aIN,aHs,List.set_cons_succ,List.set_cons_zero]
  simp only[gH,h3,jK,h4];exact g1
end
abbrev small:Str:="abcdefghijklmnopqrstuvwxyz"
noncomputable def ends:List Str:=""::small.cps.toList.map fun c=>(⟨#[c]⟩:Str)
noncomputable def nmL:List Str:=ends.flatMap fun e=>[("x":Str)++e,("y":Str)++e,("z":Str)++e]
noncomputable def nm(j:Nat):Str:=nmL.getD j ""
theorem yK:nmL.length=81:=by decide +kernel
theorem fA:∀ j,j<81→(nm j).length≤2:=by decide +kernel
theorem aHR:ends.flatMap tri=nmL.map D.s:=by
 unfold nmL
 induction ends with
 |nil=>rfl
 |cons e es ih=>simp[tri,ih]
theorem yL{j:Nat}(h:j<81):atI (nmL.map D.s) (j:Nat)=some (.s (nm j)):=by
 refine fS ?_;have hj:j<nmL.length:=by rw[yK];exact h
 rw[Z13,nm,V19,U17 hj]
 rfl
theorem aFe:atI (nmL.map D.s) (-1)=some (.s (nm 80)):=by
 have hl:(nmL.map D.s).length=81:=by rw[U16,yK]
 unfold atI ixN;rw[hl,if_neg (by decide),if_pos (by decide)];have:=yL (j:=80) (by decide);unfold atI ixN at this;rw[hl,if_pos (by decide),if_pos (by decide)] at this;exact this
theorem wY:∀ e∈ends,e.length≤1:=by decide +kernel
noncomputable def boD(m far:Nat):List Bool→D
 |[]=>if m=0 then .t [.s "false"] else .t [.s "atom", .s "p", .t [.t [.s "bound", .i 0], .t [.s "bound", .i (far:Nat)]]]
 |true::l=>.t [.s "all", .s "nat",boD m far l]
 |false::l=>.t [.s "some", .s "nat",boD m far l]
noncomputable def boS(m far:Nat):List Bool→Str
 |[]=>if m=0 then "false" else("p(":Str)++nm (m - 1)++(", ":Str)++nm (m - 1 - far)++(")":Str)
 |true::l=>("all":Str)++(" ":Str)++nm (m - 1 - l.length)++(" nat: ":Str)++boS m far l
 |false::l=>("some":Str)++(" ":Str)++nm (m - 1 - l.length)++(" nat: ":Str)++boS m far l
theorem lb1:("all":Str).length=3:=by decide
theorem lb2:("some":Str).length=4:=by decide
theorem lb3:(" ":Str).length=1:=by decide
theorem lb4:(" nat: ":Str).length=6:=by decide
theorem lb5:("p(":Str).length=2:=by decide
theorem lb6:(", ":Str).length=2:=by decide
theorem lb7:(")":Str).length=1:=by decide
theorem mG{m far:Nat}(hm:m<60):∀ l:List Bool,(boS m far l).length≤20+20 * l.length
 |[]=>by
  unfold boS
  split
  ·decide
  ·have:=fA (m - 1) (by omega);have:=fA (m - 1 - far) (by omega);simp only[len_app,lb5,lb6,lb7,W37]
   omega
 |true::l=>by
  have:=mG (far:=far) hm l;have:=fA (m - 1 - l.length) (by omega);simp only[boS,len_app,lb1,lb3,lb4,Z14]
  omega
 |false::l=>by
  have:=mG (far:=far) hm l;have:=fA (m - 1 - l.length) (by omega);simp only[boS,len_app,lb2,lb3,lb4,Z14]
  omega
section
variable{st:Sto}{p:Nat}
theorem uU{m far L:Nat}{a2 a4 a5:Option D}(hm:m<60)(hs:Sd p st)(hL:st[L]?=some (.l (nmL.map D.s)))(hp:L≠p):
  ∃ l st' k8 k9,forD (fun _=>True) (gN 8) L73a ((List.range' 0 m).map fun j:Nat=>D.i (j:Nat))
   [some (.r p),some (.i (m:Nat)),a2,some (.r L),a4,a5,some (boD m far []),some (.s (boS m far [])),none,none] st=some ((.nx,[some (.r p),some (.i (m:Nat)),a2,some (.r L),a4,a5,some (boD m far l),some (.s (boS m far l)),k8,k9]),st')∧l.length=m∧Av p st st':=by
 have key:=nB (c:=fun _=>True) (g:=gN 8) (tb:=L73a)
  (J:=fun i env st1=>∃ l k8 k9,env=[some (.r p),some (.i (m:Nat)),a2,some (.r L),a4,a5,some (boD m far l),some (.s (boS m far l)),k8,k9]∧l.length=i∧Av p st st1) (fun _=>trivial) m ?_ m 0
   [some (.r p),some (.i (m:Nat)),a2,some (.r L),a4,a5,some (boD m far []),some (.s (boS m far [])),none,none] st (by omega) ⟨[],none,none,rfl,rfl, .refl hs⟩
 ·obtain⟨env',st',h1,l,k8,k9,rfl,hl,av⟩:=key;exact⟨l,st',k8,k9,h1,hl,av⟩
 ·rintro i env st1 hi ⟨l,k8,k9,rfl,hl,av⟩;have av1:Av p st (st1++[.l [.s "all", .s "some"]]):=av.ext (Ext.app _ _);obtain⟨d,st2,e1,e2,e3⟩:=iC (n:=2) av1.sd (by omega) (by omega);have e1':aF [.r p, .i 2] (st1++[.l [.s "all", .s "some"]])=some (.i (d:Nat),st2):=e1;have av2:=av1.trans e3;have hpl:p≠st1.length:=by
   obtain⟨x,y,q,_⟩:=av.sd;have:=(Z10.mp q).1
   omega
  have hw:st2[st1.length]?=some (.l [.s "all", .s "some"]):=e3.kp _ _ (Ne.symm hpl) (by simp);have hL2:st2[L]?=some (.l (nmL.map D.s)):=av2.kp _ _ hp hL;have hx:((m:Nat):Int) - 1 - (i:Nat)=((m - 1 - l.length:Nat):Int):=by omega
  have hn:=yL (j:=m - 1 - l.length) (by omega);have hix:ixD (.r L) (.i (((m:Nat):Int) - 1 - (i:Nat))) st2=some (.s (nm (m - 1 - l.length)),st2):=by rw[fX hL2,hx,hn];rfl
  have hz:=mG (far:=far) hm l;have hz2:=fA (m - 1 - l.length) (by omega);rcases d with _|_|d
  ·have q0:("all":Str).length+(" ":Str).length≤sizeLine:=zl (by simp only[lb1,lb3];omega);have q1:(("all":Str)++(" ":Str)).length+(nm (m - 1 - l.length)).length≤sizeLine:=zl (by simp only[len_app,lb1,lb3];omega);have q2:(("all":Str)++(" ":Str)++nm (m - 1 - l.length)).length+(" nat: ":Str).length≤sizeLine:=zl (by simp only[len_app,lb1,lb3,lb4];omega);have q3:(("all":Str)++(" ":Str)++nm (m - 1 - l.length)++(" nat: ":Str)).length+(boS m far l).length≤sizeLine:=zl (by simp only[len_app,lb1,lb3,lb4];omega);have hw':ixD (.r st1.length) (.i 0) st2=some (.s "all",st2):=by rw[fX hw];rfl
   exact⟨[some (.r p),some (.i (m:Nat)),a2,some (.r L),a4,a5,some (boD m far l),some (.s (boS m far l)),some (.i (i:Nat)),k9],[some (.r p),some (.i (m:Nat)),a2,some (.r L),a4,a5,some (boD m far (true::l)),some (.s (boS m far (true::l))),some (.i (i:Nat)),some (.s "all")],st2,by simp,by simp[e1',hw',hix,boD,boS,aI q0,aI q1,aI q2,aI q3],true::l,_,_,rfl,by simp[hl],av2⟩
  ·have q0:("some":Str).length+(" ":Str).length≤sizeLine:=zl (by simp only[lb2,lb3];omega);have q1:(("some":Str)++(" ":Str)).length+(nm (m - 1 - l.length)).length≤sizeLine:=zl (by simp only[len_app,lb2,lb3];omega);have q2:(("some":Str)++(" ":Str)++nm (m - 1 - l.length)).length+(" nat: ":Str).length≤sizeLine:=zl (by simp only[len_app,lb2,lb3,lb4];omega);have q3:(("some":Str)++(" ":Str)++nm (m - 1 - l.length)++(" nat: ":Str)).length+(boS m far l).length≤sizeLine:=zl (by simp only[len_app,lb2,lb3,lb4];omega);have hw':ixD (.r st1.length) (.i 1) st2=some (.s "some",st2):=by rw[fX hw];rfl
   exact⟨[some (.r p),some (.i (m:Nat)),a2,some (.r L),a4,a5,some (boD m far l),some (.s (boS m far l)),some (.i (i:Nat)),k9],[some (.r p),some (.i (m:Nat)),a2,some (.r L),a4,a5,some (boD m far (false::l)),some (.s (boS m far (false::l))),some (.i (i:Nat)),some (.s "some")],st2,by simp,by simp[e1',hw',hix,boD,boS,aI q0,aI q1,aI q2,aI q3],false::l,_,_,rfl,by simp[hl],av2⟩
  ·omega
end
section
variable{st:Sto}{p:Nat}
theorem aFf:ends.map D.s=[.s ""]++signsD small:=by
 unfold ends signsD;rw[V15,List.map_map]
 rfl
theorem qO{m:Nat}(hs:Sd p st)(hm:m<60):∃ far l st',bT [.r p, .i (m:Nat)] st=some (.t [boD m far l, .s (boS m far l)],st')∧l.length=m∧(m≠0→far<m)∧Av p st st':=by
 have hp:p<st.length:=by obtain⟨x,y,q,_⟩:=hs;exact(Z10.mp q).1
 have hsm:(small.cps.size:Nat)≤sizeLine:=zl (by decide);have h1:list2D [.s small] (st++[.l [], .l [.s ""]])=some (.r (st.length+2),st++[.l [], .l [.s ""], .l (signsD small)]):=by
  show need (small.cps.size≤sizeLine) (fun st=>some (D.r st.length,st++[C.l (signsD small)])) _=_;rw[dZ hsm];simp
 have hls:(signsD small).length=26:=by decide +kernel
 have h2:addD (.r (st.length+1)) (.r (st.length+2)) (st++[.l [], .l [.s ""], .l (signsD small)])=some (.r (st.length+3),st++[.l [], .l [.s ""], .l (signsD small), .l (ends.map D.s)]):=by
  rw[iL (xs:=[.s ""]) (ys:=signsD small) (by simp) (by simp) (zl (by rw[hls];decide)),aFf];simp
 have hq:(st++[.l [], .l [.s ""], .l (signsD small), .l (ends.map D.s)])[st.length+3]?=some (C.l (ends.map D.s)):=by simp
 have hl0:(st++[.l [], .l [.s ""], .l (signsD small), .l (ends.map D.s)])[st.length]?=some (C.l []):=by simp
 have x4:Ext st (st++[.l [], .l [.s ""], .l (signsD small), .l (ends.map D.s)]):=Ext.app _ _;have h3:itD (.r (st.length+3)) (st++[.l [], .l [.s ""], .l (signsD small), .l (ends.map D.s)])=some ((ends.map D.s,fun st'=>st'[st.length+3]?=some (.l (ends.map D.s))),st++[.l [], .l [.s ""], .l (signsD small), .l (ends.map D.s)]):=by
  show bnd (getL _) _ _=_;simp[getL,jJ hq]
 generalize st++[.l [], .l [.s ""], .l (signsD small), .l (ends.map D.s)]=st4 at h2 h3 hq hl0 x4;have hel:ends.length=27:=by decide +kernel
 obtain⟨L,e',st5,g1,g2,g3⟩:=pR (q:=st.length+3) (X:=ends.map D.s) (a0:=some (.r p)) (a1:=some (.i (m:Nat))) (a2:=some (.s small)) (a5:=none) (a6:=none) (a7:=none) (a8:=none) (a9:=none) ends [] st.length none st4 wY (by rw[hel];decide) hl0 hq;rw[U21,aHR] at g2;have av5:Av p st st5:=(Av.refl hs).ext (x4.trans g3);obtain⟨far,st6,e1,e2,e3⟩:=iC (n:=max 1 m) av5.sd (by omega) (by omega);have av6:=av5.trans e3;have hLp:L≠p:=by
  intro e;subst e;obtain⟨x,y,q,_⟩:=av5.sd;rw[g2] at q;cases q
 have hmx:max2D [.i 1, .i (m:Nat)] st5=some (.i ((max 1 m:Nat):Int),st5):=by
  show some (D.i (if((m:Nat):Int) > 1 then((m:Nat):Int) else 1),st5)=_;have:(if((m:Nat):Int) > 1 then((m:Nat):Int) else 1)=((max 1 m:Nat):Int):=by split<;>omega
  rw[this]
 have hL6:st6[L]?=some (.l (nmL.map D.s)):=e3.kp _ _ hLp g2;obtain⟨l,st7,k8,k9,b1,b2,b3'⟩:=uU (st:=st6) (m:=m) (far:=far) (a2:=some (.s small)) (a4:=e') (a5:=some (.i (far:Nat))) hm av6.sd hL6 hLp;refine⟨far,l,st7,?_,b2,fun h=>by omega,av6.trans b3'⟩;have r1:=rng (m:=m) (st:=st6) (by omega);rcases Nat.eq_zero_or_pos m with rfl|h0
 ·have hf0:far=0:=by omega
  subst hf0;have hx1:ixD (.r L) (.i (-1)) st6=some (.s (nm 80),st6):=by rw[fX hL6,aFe];rfl
  have n1:=fA 80 (by decide);have q0:("p(":Str).length+(nm 80).length≤sizeLine:=zl (by simp only[lb5];omega);have q1:(("p(":Str)++nm 80).length+(", ":Str).length≤sizeLine:=zl (by simp only[len_app,lb5,lb6];omega);have q2:(("p(":Str)++nm 80++(", ":Str)).length+(nm 80).length≤sizeLine:=zl (by simp only[len_app,lb5,lb6];omega);have q3:(("p(":Str)++nm 80++(", ":Str)++nm 80).length+(")":Str).length≤sizeLine:=zl (by simp only[len_app,lb5,lb6,lb7];omega);obtain rfl:l=[]:=Y27 b2;have r0:rangeD [.i 0] st6=some (([],fun _=>True),st6):=r1;have hst:st6=st7:=by
   simp[boD,boS,forD,chkM] at b1;exact b1.2
  subst hst;simp at g1 hmx e1;simp[bT,cL,-hY,h1,h2,h3,g1,hmx,e1,hx1,aI q0,aI q1,aI q2,aI q3,r0,boD,boS,forD,chkM]
 ·have hx1:ixD (.r L) (.i (((m:Nat):Int) - 1)) st6=some (.s (nm (m - 1)),st6):=by rw[fX hL6,show((m:Nat):Int) - 1=((m - 1:Nat):Int) by omega,yL (by omega)];rfl
  have hx2:ixD (.r L) (.i (((m:Nat):Int) - 1 - (far:Nat))) st6=some (.s (nm (m - 1 - far)),st6):=by rw[fX hL6,show((m:Nat):Int) - 1 - (far:Nat)=((m - 1 - far:Nat):Int) by omega,yL (by omega)];rfl
  have n1:=fA (m - 1) (by omega);have n2:=fA (m - 1 - far) (by omega);have q0:("p(":Str).length+(nm (m - 1)).length≤sizeLine:=zl (by simp only[lb5];omega);have q1:(("p(":Str)++nm (m - 1)).length+(", ":Str).length≤sizeLine:=zl (by simp only[len_app,lb5,lb6];omega);have q2:(("p(":Str)++nm (m - 1)++(", ":Str)).length+(nm (m - 1 - far)).length≤sizeLine:=zl (by simp only[len_app,lb5,lb6];omega);have q3:(("p(":Str)++nm (m - 1)++(", ":Str)++nm (m - 1 - far)).length+(")":Str).length≤sizeLine:=zl (by simp only[len_app,lb5,lb6,lb7];omega);have hm0:m≠0:=by omega
  have hm1:(((m:Nat):Int)==0)=false:=by simpa using hm0
  simp only[boD,boS,if_neg hm0] at b1;simp[bT,cL,-hY,h1,h2,h3,g1,hmx,e1,hx1,hx2,aI q0,aI q1,aI q2,aI q3,hm1,r1,b1]
end
noncomputable def sg(x:Str)(j:Nat):Str:=⟨#[x.cps.toList.getD j 0]⟩
theorem aFg:∀ n,n<81→nm n=sg "xyz" (n % 3)++(if n / 3=0 then("":Str) else sg small (n / 3 - 1)++("":Str)):=by decide +kernel
section
variable{st:Sto}{p:Nat}
theorem aCU{z:Str}{j:Nat}(h:j<z.cps.toList.length)(hz:z.length≤1000):ixD (.s z) (.i (j:Nat)) st=some (.s (sg z j),st):=by
 have e:ixV st (.s z) (.i (j:Nat))=some (.s (sg z j)):=by
  show(if z.length≤sizeLine then(atI z.cps.toList (j:Nat)).map fun c=>D.s ⟨#[c]⟩ else none)=_;rw[if_pos (zl (by omega)),fS (U17 h),sg,V19,U17 h]
  rfl
 unfold ixD;rw[e]
theorem fF{z:Str}{k:Nat}(h:z.length=k)(hk:k≤1000):lenD [.s z] st=some (.i (k:Nat),st):=by
 subst h;have e:lenV st (.s z)=some ((z.length:Nat):Int):=by
  show(if z.length≤sizeLine then some ((z.length:Nat):Int) else none)=_;rw[if_pos (zl (by omega))]
 unfold lenD;dsimp only;rw[e]
theorem wZ{n:Nat}(h:n<81):eJ [.i (n:Nat)] st=some (.s (nm n),st):=by
 have hx:("xyz":Str).length=3:=by decide
 have hs:(small).length=26:=by decide
 have l1:lenD [.s "xyz"] st=some (.i 3,st):=fF (k:=3) hx (by decide);have l2:lenD [.s small] st=some (.i 26,st):=fF (k:=26) hs (by decide);have c1:CDiv ((n:Nat):Int) 3:=⟨by decide,by decide⟩;have d1:((n:Nat):Int) / 3=((n / 3:Nat):Int):=by omega
 have d2:((n:Nat):Int) % 3=((n % 3:Nat):Int):=by omega
 have x1:ixD (.s "xyz") (.i (((n:Nat):Int) % 3)) st=some (.s (sg "xyz" (n % 3)),st):=by rw[d2];exact aCU (by rw[show("xyz":Str).cps.toList.length=3 by decide];omega) (by rw[hx];decide)
 have hw:∃ r,whC (tCm gtD (eV 2) (eC (.i 0))) L9a [some (.i (n:Nat)),some (.s ""),some (.i ((n / 3:Nat):Int))] st=some ((.nx,[some (.i (n:Nat)),some (.s (if n / 3=0 then("":Str) else sg small (n / 3 - 1)++("":Str))),r]),st):=by
  by_cases h0:n / 3=0
  ·rw[if_pos h0,h0];exact⟨_,iE (by simp)⟩
  ·rw[if_neg h0];generalize hk:n / 3 - 1=k;have hk1:((n / 3:Nat):Int)=((k:Nat):Int)+1:=by omega
   have hk2:k<26:=by omega
   have c2:CDiv ((k:Nat):Int) 26:=⟨by decide,by decide⟩;have d3:((k:Nat):Int) % 26=(k:Nat):=by omega
   have d4:((k:Nat):Int) / 26=0:=by omega
   have x2:ixD (.s small) (.i (((k:Nat):Int) % 26)) st=some (.s (sg small k),st):=by rw[d3];exact aCU (by rw[show small.cps.toList.length=26 by decide];omega) (by rw[hs];decide)
   have q1:(sg small k).length+("":Str).length≤sizeLine:=zl (by show 1+0≤_;decide);rw[hk1];refine⟨some (.i 0),jY (env1:=[some (.i (n:Nat)),some (.s (sg small k++"")),some (.i 0)]) (st1:=st) (st2:=st) ?_ ?_ (iE (by simp))⟩
   ·have:(0:Int) < ((k:Nat):Int)+1:=by omega
    simp[this]
   ·have e5:((k:Nat):Int)+1 - 1=(k:Nat):=by omega
    simp[isubD,l2,e5,x2,aI q1,aI c2,d4]
 obtain⟨r,hw⟩:=hw;rw[← d1] at hw;have q2:(sg "xyz" (n % 3)).length+(if n / 3=0 then("":Str) else sg small (n / 3 - 1)++"").length≤sizeLine:=zl (by
  have:(sg "xyz" (n % 3)).length=1:=rfl
  split
  ·rw[this];decide
  ·rw[len_app,this];show 1+(1+0)≤_;decide)
 rw[aFg n h];generalize (if n / 3=0 then("":Str) else sg small (n / 3 - 1)++("":Str))=E at hw q2 ⊢;generalize sg "xyz" (n % 3)=G at x1 q2 ⊢;simp only[eJ,kA,sW];generalize whC _ _=W at hw ⊢;simp[l1,aI c1,hw,x1,aI q2]
end
section
variable{st:Sto}{p:Nat}
theorem tD:∀ ss:List Str,(ss.map D.s).mapM flD=some (ss.map V.str)
 |[]=>rfl
 |s::ss=>by
  rw[V15,List.mapM_cons,tD ss]
  rfl
theorem yM(x:Str):∀ ss:List Str,inV (.str x) (ss.map V.str)=ss.contains x
 |[]=>rfl
 |s::ss=>by
  have ih:=yM x ss;unfold inV at ih ⊢;rw[V15,List.any_cons,ih,List.contains_cons]
  congr 1
  show(s==x)=(x==s);exact BEq.comm
theorem aFz{x:Str}{ss:List Str}:inD (.s x) (.t (ss.map D.s)) st=some (.b (ss.contains x),st):=by
 have e:inB (.s x) (.t (ss.map D.s)) st=some (ss.contains x):=by
  show((flD (.s x)).bind fun a=>((ss.map D.s).mapM flD).map fun vs=>inV a vs)=_;rw[tD];show some (inV (.str x) (ss.map V.str))=_;rw[yM]
 unfold inD;rw[e]
theorem aIV{x:Str}{f:Nat}(h:st[f]?=some (.l [])):inD (.s x) (.r f) st=some (.b false,st):=by
 have h1:dcc st f=none:=rfl;have e:inB (.s x) (.r f) st=some false:=by
  show(match dcc st f with |some kvs=>(keyD (.s x)).map fun k=>(valD kvs k).isSome|none=>match lsc st f with |some xs=>(flD (.s x)).bind fun a=>(xs.mapM flD).map fun vs=>inV a vs|none=>none)=_;rw[h1,jJ h]
  rfl
 unfold inD;rw[e]
theorem aCV:∀ i,i<81→∀ j,j<81→nm i=nm j→i=j:=by decide +kernel
theorem aFA{k n:Nat}(hk:k≤60)(hn:n≤k):((List.range k).map nm).contains (nm n)=decide (n<k):=by
 by_cases h:n<k
 ·rw[V24 h,List.contains_iff_mem];exact Y36.mpr ⟨n,List.mem_range.mpr h,rfl⟩
 ·rw[W17 h];cases hc:((List.range k).map nm).contains (nm n) with
  |false=>rfl
  |true=>
   rw[List.contains_iff_mem] at hc;obtain⟨j,hj,e⟩:=Y36.mp hc;have hj:=List.mem_range.mp hj;have:=aCV j (by omega) n (by omega) e
   omega
theorem rH{k f:Nat}{a:Option D}(hk:k≤60)(hf:st[f]?=some (.l [])):∀ (m n:Nat),n+m=k→whC L10a (sG iaddD 3 (eC (.i 1))) [a,some (.t (((List.range k).map nm).map D.s)),some (.r f),some (.i (n:Nat))] st=some ((.nx,[a,some (.t (((List.range k).map nm).map D.s)),some (.r f),some (.i (k:Nat))]),st)
 |0,n,e=>by
  obtain rfl:n=k:=by omega
  have h1:=aFA hk (Y12 n);have h2:=wZ (st:=st) (n:=n) (by omega);have h3:inD (.s (nm n)) (.t (((List.range n).map nm).map D.s)) st=some (.b false,st):=by rw[aFz,h1];simp
  generalize ((List.range n).map nm).map D.s=X at h3 ⊢;exact iE (by simp[h2,h3,aIV hf])
 |m+1,n,e=>by
  have h1:=aFA hk (show n≤k by omega);have h2:=wZ (st:=st) (n:=n) (by omega);have h3:inD (.s (nm n)) (.t (((List.range k).map nm).map D.s)) st=some (.b true,st):=by rw[aFz,h1,V24 (by omega)]
  have ih:=rH (a:=a) hk hf m (n+1) (by omega);generalize ((List.range k).map nm).map D.s=X at h3 ih ⊢;refine jY (env1:=[a,some (.t X),some (.r f),some (.i ((n+1:Nat):Int))]) (st1:=st) (st2:=st) (by simp[h2,h3]) (by simp[iaddD]) ih
theorem uV{k f:Nat}(hk:k≤60)(hf:st[f]?=some (.l [])):gA [.t [.t (((List.range k).map nm).map D.s), .r f]] st=some (.s (nm k),st):=by
 have h1:=rH (st:=st) (a:=some (.t [.t (((List.range k).map nm).map D.s), .r f])) hk hf k 0 (by omega);have h2:=wZ (st:=st) (n:=k) (by omega);generalize ((List.range k).map nm).map D.s=X at h1 ⊢;have h1':whC L10a (sG iaddD 3 (eC (.i 1))) [some (.t [.t X, .r f]),some (.t X),some (.r f),some (.i 0)] st=some ((.nx,[some (.t [.t X, .r f]),some (.t X),some (.r f),some (.i (k:Nat))]),st):=h1;simp only[gA,kB,sW];generalize whC _ _=W at h1' ⊢;simp[h1',h2]
end
section
variable{env:En}{st:Sto}{a b:En→M D}{t:En→M (List D)}{g:List D→M D}{C:Addr}{f:Str}{l:Nat}{fs:List (Str×D)}{d:D}
@[simp] theorem eFl_ap:eFl C f a env st=b3 (a env st) (fldD C f):=rfl
@[simp] theorem sFl_ap:sFl C f a b env st=b3 (b env st) fun y=>bnd (a env) fun x=>bnd (setF C f x y) fun _=>L2.ret (.nx,env):=rfl
@[simp] theorem sFa_ap{o:D→D→M D}:sFa C f o a b env st=b3 (a env st) fun x=>bnd (fldD C f x) fun w=>bnd (b env) fun y=>bnd (o w y) fun z=>bnd (setF C f x z) fun _=>L2.ret (.nx,env):=rfl
@[simp] theorem eMt_ap:eMt C f g a t env st=b3 (a env st) fun x=>bnd (ofD C f x) fun _=>bnd (t env) fun ds=>g (x::ds):=rfl
@[simp] theorem eM0_ap:eM0 C f g a env st=b3 (a env st) fun x=>bnd (ofD C f x) fun _=>g [x]:=rfl
@[simp] theorem eMk_ap:eMk C g t env st=b3 (t env st) (mkD C g):=rfl
@[simp] theorem eS0_ap:eS0 env st=some (.r st.length,st++[.st []]):=rfl
@[simp] theorem eBad_ap:eBad env st=none:=rfl
@[simp] theorem sBad_ap:sBad env st=none:=rfl
@[simp] theorem iZp_ap:iZp t env st=b3 (t env st) zipD:=rfl
@[simp] theorem iEr_ap:iEr t env st=b3 (t env st) enumRD:=rfl
@[simp] theorem iIt_ap:iIt a env st=b3 (a env st) itemsD:=rfl
@[simp] theorem eRl_ap:eRl a b env st=b3 (a env st) fun x=>bnd (b env) fun y=>revD2 x y:=rfl
@[simp] theorem eCv_ap{tab:List (Str×(List D→M D))}{i:Nat}:eCv tab i t env st=b3 (eV i env st) fun f=>bnd (t env) fun xs=>dispD tab f xs:=rfl
theorem yN{xs:List D}(h:st[l]?=some (.l xs)):revD2 (.r l) (.i (-1)) st=some (.r st.length,st++[.l xs.reverse]):=by
 show need _ _ st=_;rw[dZ rfl,aQ (dF h)]
 rfl
end
def MkL(m:M D)(st:Sto)(xs:List D):Prop:=∃ l st',m st=some (.r l,st')∧Ext st st'∧st'[l]?=some (.l xs)
def Rows(st:Sto):List Nat→List (List D)→Prop
 |[],[]=>True
 |r::rs,w::ws=>st[r]?=some (.l w)∧Rows st rs ws
 |_,_=>False
theorem Rows.ext{st st':Sto}(h:Ext st st'):∀ {rs:List Nat} {ws:List (List D)},Rows st rs ws→Rows st' rs ws
 |[],[],_=>trivial
 |r::rs,w::ws,q=>⟨h _ _ q.1,q.2.ext h⟩
 |[],_::_,q=>q.elim
 |_::_,[],q=>q.elim
theorem Rows.kp{st st':Sto}{p:Nat}(h:Kp p st st'):∀ {rs:List Nat} {ws:List (List D)},Rows st rs ws→(∀ r∈rs,r≠p)→Rows st' rs ws
 |[],[],_,_=>trivial
 |r::rs,w::ws,q,hn=>⟨h _ _ (hn r (by simp)) q.1,Rows.kp h q.2 fun r' hr=>hn r' (by simp[hr])⟩
 |[],_::_,q,_=>q.elim
 |_::_,[],q,_=>q.elim
theorem Rows.lt{st:Sto}:∀ {rs:List Nat} {ws:List (List D)},Rows st rs ws→∀ r∈rs,r<st.length
 |[],[],_,r,h=>by simp at h
 |r::rs,w::ws,q,x,h=>by
  rcases W12.mp h with rfl|h
  ·exact(Z10.mp q.1).1
  ·exact Rows.lt q.2 x h
 |[],_::_,q,_,_=>q.elim
 |_::_,[],q,_,_=>q.elim
noncomputable def cm:Bool→List (List D)→List D
 |_,[]=>[]
 |true,r::rs=>r++cm false rs
 |false,r::rs=>.s ", "::(r++cm false rs)
noncomputable def tot:List (List D)→Nat
 |[]=>0
 |r::rs=>r.length+1+tot rs
section
variable{st:Sto}
theorem mH{xs ys:List D}(h:ys≠[]):(xs++ys).isEmpty=false:=by
 cases xs with
 |nil=>cases ys with
  |nil=>exact absurd rfl h
  |cons y ys=>rfl
 |cons x xs=>rfl
theorem kR{l lm:Nat}{X:List D}{a0:Option D}(hn:l≠lm):∀ (rs:List Nat) (ws:List (List D)) (made:List D) (a2:Option D) (st:Sto),Rows st rs ws→(∀ r∈rs,r≠lm)→st[lm]?=some (.l made)→st[l]?=some (.l X)→made.length+tot ws≤100000→(∀ w∈ws,w≠[])→
  ∃ a2' st',forD (fun st=>st[l]?=some (.l X)) (gN 2) L6a (rs.map D.r) [a0,some (.r lm),a2] st=some ((.nx,[a0,some (.r lm),a2']),st')∧st'[lm]?=some (.l (made++cm made.isEmpty ws))∧Kp lm st st'
 |[],[],made,a2,st,_,_,hm,hX,_,_=>⟨a2,st,by rw[List.map_nil,forD,bG hX];rfl,by simp[cm,hm], .refl _ _⟩
 |r::rs,w::ws,made,a2,st,q,hr,hm,hX,ht,hw=>by
  have hw0:w≠[]:=hw w (by simp);simp only[tot] at ht
  by_cases hmade:made=[]
  ·subst hmade;have h1:extendD (.r lm) [.r r] st=some (.no,st.set lm (.l ([]++w))):=fG hm q.1 (zl (by simp;omega));have h2:(st.set lm (.l ([]++w)))[lm]?=some (.l w):=by rw[cI hm];rfl
   have k2:Kp lm st (st.set lm (.l ([]++w))):=(Kp.refl _ _).set;generalize st.set lm (.l ([]++w))=st1 at h1 h2 k2;obtain⟨a2',st',g1,g2,g3⟩:=kR (a0:=a0) hn rs ws w (some (.r r)) st1 (q.2.kp k2 fun x hx=>hr x (by simp[hx])) (fun x hx=>hr x (by simp[hx])) h2 (k2 _ _ hn hX) (by omega) (fun x hx=>hw x (by simp[hx]));refine⟨a2',st',?_,?_,k2.trans g3⟩
   ·rw[V15,forD,bG hX];have ht1:truD (.r lm) st=some (false,st):=jL hm;have hck:chkT "list" (.r lm) st=some ((),st):=bQ hm;simp[hck,ht1,h1,g1]
   ·rw[g2];have:w.isEmpty=false:=by cases w<;>simp_all
    simp[cm,this]
  ·have hme:made.isEmpty=false:=by cases made<;>simp_all
   have hr0:r<st.length:=(Z10.mp q.1).1;have x1:Ext st (st++[.l [.s ", "]]):=Ext.app _ _;have h0:addD (.r st.length) (.r r) (st++[.l [.s ", "]])=some (.r (st++[C.l [.s ", "]]).length,st++[.l [.s ", "]]++[.l ([.s ", "]++w)]):=iL (by simp) (x1 _ _ q.1) (zl (by simp;omega));have x2:Ext st (st++[.l [.s ", "]]++[.l ([.s ", "]++w)]):=x1.trans (Ext.app _ _);have h3:(st++[.l [.s ", "]]++[.l ([.s ", "]++w)])[(st++[C.l [.s ", "]]).length]?=some (.l ([.s ", "]++w)):=by simp
   generalize st++[.l [.s ", "]]++[.l ([.s ", "]++w)]=st1 at h0 x2 h3;generalize (st++[C.l [.s ", "]]).length=n1 at h0 h3;have h1:extendD (.r lm) [.r n1] st1=some (.no,st1.set lm (.l (made++([.s ", "]++w)))):=fG (x2 _ _ hm) h3 (zl (by simp;omega));have h2:(st1.set lm (.l (made++([.s ", "]++w))))[lm]?=some (.l (made++([.s ", "]++w))):=cI (x2 _ _ hm);have k2:Kp lm st (st1.set lm (.l (made++([.s ", "]++w)))):=(Kp.of x2).set;generalize st1.set lm (.l (made++([.s ", "]++w)))=st2 at h1 h2 k2;obtain⟨a2',st',g1,g2,g3⟩:=kR (a0:=a0) hn rs ws _ (some (.r r)) st2 (q.2.kp k2 fun x hx=>hr x (by simp[hx])) (fun x hx=>hr x (by simp[hx])) h2 (k2 _ _ hn hX) (by simp;omega) (fun x hx=>hw x (by simp[hx]));refine⟨a2',st',?_,?_,k2.trans g3⟩
   ·rw[V15,forD,bG hX];have ht1:truD (.r lm) st=some (true,st):=by rw[jL hm,hme];rfl
    have hck:chkT "list" (.r lm) st=some ((),st):=bQ hm;simp[hck,ht1,h0,h1,g1]
   ·rw[g2];have:(made++([D.s ", "]++w)).isEmpty=false:=mH (by simp);rw[this,hme];simp[cm]
 |[],_::_,_,_,_,q,_,_,_,_,_=>q.elim
 |_::_,[],_,_,_,q,_,_,_,_,_=>q.elim
theorem aCW{l:Nat}{rs:List Nat}{ws:List (List D)}(h:st[l]?=some (.l (rs.map D.r)))(hr:Rows st rs ws)(ht:tot ws≤100000)(hw:∀ w∈ws,w≠[]):MkL (cV [.r l]) st (cm true ws):=by
 have hl:l<st.length:=(Z10.mp h).1;have x1:Ext st (st++[.l []]):=Ext.app _ _;have h1:(st++[C.l []])[st.length]?=some (C.l []):=by simp
 obtain⟨a2',st',g1,g2,g3⟩:=kR (l:=l) (lm:=st.length) (X:=rs.map D.r) (a0:=some (.r l)) (by omega) rs ws [] none (st++[.l []]) (hr.ext x1) (fun r hr'=>by have:=hr.lt r hr';omega) h1 (x1 _ _ h) (by simpa using ht) hw;refine⟨st.length,st',?_,fun i c e=>g3 i c (by have:=(Z10.mp e).1;omega) (x1 i c e),by simpa using g2⟩;have hi:itD (.r l) (st++[.l []])=some ((rs.map D.r,fun st=>st[l]?=some (.l (rs.map D.r))),st++[.l []]):=aFx (x1 _ _ h);simp[cV,pN,hi,g1]
def MkP(m:M D)(st:Sto)(P:Sto→List D→Prop):Prop:=∃ l st' w,m st=some (.r l,st')∧Ext st st'∧st'[l]?=some (.l w)∧P st' w
def All2(st:Sto):List (List D)→List (Sto→List D→Prop)→Prop
 |[],[]=>True
 |w::ws,P::Ps=>P st w∧All2 st ws Ps
 |_,_=>False
def Stab(P:Sto→List D→Prop):Prop:=∀ st st' w,Ext st st'→P st w→P st' w
theorem rJ{c:Sto→Prop}{bd:D→Sto→Option (List D)}{te:En→M D}{cap:En}{st0:Sto}:∀ (xs:List D) (Ps:List (Sto→List D→Prop)) (acc:List D) (st:Sto),Ext st0 st→
  xs.length=Ps.length→(∀ (i:Nat) x P,xs[i]?=some x→Ps[i]?=some P→Stab P∧∀ st,Ext st0 st→∃ ds,bd x st=some ds∧MkP (te (ds.map some++cap)) st P)→(∀ st,Ext st0 st→c st)→
  ∃ rs ws st',compD c bd (fun _=>L2.ret true) te cap xs acc st=some (acc++rs.map D.r,st')∧Ext st st'∧Rows st' rs ws∧All2 st' ws Ps
 |[],[],acc,st,x0,_,_,hc=>⟨[],[],st,by rw[compD,bG (hc st x0)];simp, .refl _,trivial,trivial⟩
 |x::xs,P::Ps,acc,st,x0,hl,h,hc=>by
  obtain⟨hs,h0⟩:=h 0 x P rfl rfl;obtain⟨ds,e1,l,st1,w,e2,x1,e3,e4⟩:=h0 st x0;obtain⟨rs,ws,st',g1,g2,g3,g4⟩:=rJ xs Ps (acc++[.r l]) st1 (x0.trans x1) (by simpa using hl) (fun i x' w' a b=>h (i+1) x' w' (by simpa using a) (by simpa using b)) hc;refine⟨l::rs,w::ws,st',?_,x1.trans g2,⟨g2 _ _ e3,g3⟩,hs _ _ _ g2 e4,g4⟩;rw[compD,bG (hc st x0),e1];dsimp only;rw[aQ (show(L2.ret true:M Bool) st=some (true,st) from rfl),if_pos rfl,aQ e2,g1];simp
 |[],_::_,_,_,_,h,_,_=>by simp at h
 |_::_,[],_,_,_,h,_,_=>by simp at h
theorem aAy{caps:List Nat}{ti:En→M Its'}{bd:D→Sto→Option (List D)}{te:En→M D}{env:En}{its:Its'}{Ps:List (Sto→List D→Prop)}(hi:ti env st=some (its,st))(hl:its.1.length=Ps.length)(hl2:Ps.length≤1000)
  (h:∀ (i:Nat) x P,its.1[i]?=some x→Ps[i]?=some P→Stab P∧∀ st1,Ext st st1→∃ ds,bd x st1=some ds∧MkP (te (ds.map some++capD caps env)) st1 P)(hc:∀ st1,Ext st st1→its.2 st1)(ht:∀ st1 ws,All2 st1 ws Ps→tot ws≤100000∧∀ w∈ws,w≠[]):
  MkP (eCl cV (aC (eCo caps ti bd (fun _=>L2.ret true) te) aN) env) st (fun st1 xs=>∃ st2 ws,Ext st2 st1∧All2 st2 ws Ps∧xs=cm true ws):=by
 obtain⟨rs,ws,st1,g1,g2,g3,g4⟩:=rJ (st0:=st) its.1 Ps [] st (.refl _) hl h hc;have hlt:its.1.length<sizeLine:=by rw[Y14];omega
 obtain⟨ht,hw⟩:=ht st1 ws g4;have x2:Ext st1 (st1++[.l (rs.map D.r)]):=Ext.app _ _;obtain⟨l,st',k1,k2,k3⟩:=aCW (st:=st1++[.l (rs.map D.r)]) (l:=st1.length) (rs:=rs) (ws:=ws) (by simp) (g3.ext x2) ht hw;refine⟨l,st',_,?_,(g2.trans x2).trans k2,k3,st1,ws,x2.trans k2,g4,rfl⟩;simp[hi,aI hlt,g1,k1]
theorem yO{a b:En→M D}{env:En}{P Q:Sto→List D→Prop}(hP:Stab P)(ha:MkP (a env) st P)(hb:∀ st1,Ext st st1→MkP (b env) st1 Q)(hl:∀ s1 xs s2 ys,P s1 xs→Q s2 ys→xs.length+ys.length≤100000)(hQ:Stab Q):MkP (eOp addD a b env) st (fun st1 zs=>∃ xs ys,P st1 xs∧Q st1 ys∧zs=xs++ys):=by
 obtain⟨l,st1,xs,e1,x1,h1,p1⟩:=ha;obtain⟨k,st2,ys,e2,x2,h2,p2⟩:=hb st1 x1;refine⟨st2.length,st2++[.l (xs++ys)],xs++ys,?_,(x1.trans x2).trans (Ext.app _ _),by simp,xs,ys,hP _ _ _ (x2.trans (Ext.app _ _)) p1,hQ _ _ _ (Ext.app _ _) p2,rfl⟩;rw[aCe,e1,jK,gH,e2,jK];exact iL (x2 _ _ h1) h2 (zl (hl _ _ _ _ p1 p2))
theorem xA{t:En→M (List D)}{env:En}{xs:List D}{P:Sto→List D→Prop}(h:t env st=some (xs,st))(hl:xs.length≤1000)(hP:∀ st',Ext st st'→P st' xs):MkP (eL t env) st P:=by
 refine⟨st.length,st++[.l xs],xs,?_,Ext.app _ _,by simp,hP _ (Ext.app _ _)⟩;rw[aIM,h,jK,aEH,aI (zl (by omega)),aEF]
theorem nD{n p:Nat}{e:En→M D}{ds:List D}{P:Sto→List D→Prop}(hp:ds.length=p)(h:MkP (e (ds.map some++List.replicate (n - p) none)) st P):MkP (runF n p (sR e) ds) st P:=by
 obtain⟨l,st1,w,e1,x1,h1⟩:=h;refine⟨l,st1,w,?_,x1,h1⟩;rw[aEE hp,aIO,e1]
 rfl
theorem MkP.imp{m:M D}{P Q:Sto→List D→Prop}(h:MkP m st P)(hq:∀ st' w,Ext st st'→P st' w→Q st' w):MkP m st Q:=by
 obtain⟨l,st1,w,e1,x1,h1,h2⟩:=h;exact⟨l,st1,w,e1,x1,h1,hq _ _ x1 h2⟩
end
def Rc(W:Sm')(e:En)(st:Sto)(e':En)(st':Sto):Prop:=∀ r,W e' st'=some r→W e st=some r
theorem Rc.refl{W:Sm'}{e:En}{st:Sto}:Rc W e st e st:=fun _ h=>h
theorem Rc.trans{W:Sm'}{e e' e2:En}{st st' st2:Sto}(h:Rc W e st e' st')(h':Rc W e' st' e2 st2):Rc W e st e2 st2:=fun r q=>h r (h' r q)
def Fr(p q:Nat)(st st':Sto):Prop:=∀ (l:Nat) c,l≠p→l≠q→st[l]?=some c→st'[l]?=some c
theorem Fr.refl(p q:Nat)(st:Sto):Fr p q st st:=fun _ _ _ _ h=>h
theorem Fr.trans{p q:Nat}{a b c:Sto}(h:Fr p q a b)(h':Fr p q b c):Fr p q a c:=fun l x n m e=>h' l x n m (h l x n m e)
theorem Fr.kp{p q:Nat}{a b:Sto}(h:Kp p a b):Fr p q a b:=fun l c n _ e=>h l c n e
theorem Fr.kq{p q:Nat}{a b:Sto}(h:Kp q a b):Fr p q a b:=fun l c _ n e=>h l c n e
theorem Kp.set1{p:Nat}{a:Sto}{c:C}:Kp p a (a.set p c):=(Kp.refl _ _).set
def bFree:Sm':=L4a
def wFree:Sm':=whC (tVl (eV 2)) bFree
def NFs(ds:List D)(c:Nat):Prop:=ds.length≤c∧∀ (lp:Nat) (rest:List D) (a0 a1 a3:Option D) (st:Sto),st[lp]?=some (.l (rest++ds))→rest.length+c≤50000→∃ a3' st',Rc wFree [a0,a1,some (.r lp),a3] st [a0,a1,some (.r lp),a3'] st'∧st'[lp]?=some (.l rest)∧Kp lp st st'
def NF(d:D)(c:Nat):Prop:=∀ (lp:Nat) (rest:List D) (a0 a1 a3:Option D) (st:Sto),st[lp]?=some (.l (rest++[d]))→rest.length+c≤50000→∃ a3' st',Rc wFree [a0,a1,some (.r lp),a3] st [a0,a1,some (.r lp),a3'] st'∧st'[lp]?=some (.l rest)∧Kp lp st st'
theorem dN:NFs [] 0:=⟨Y12 _,fun lp rest a0 a1 a3 st h _=>⟨a3,st, .refl,by simpa using h, .refl _ _⟩⟩
theorem bD{ds:List D}{d:D}{c c':Nat}(h:NFs ds c)(h':NF d c'):NFs (ds++[d]) (c+c'+1):=by
 refine⟨by have:=h.1;simp;omega,fun lp rest a0 a1 a3 st hs hl=>?_⟩;have:=h.1;obtain⟨b3,st1,g1,g2,g3⟩:=h' lp (rest++ds) a0 a1 a3 st (by rw[hs];simp) (by simp;omega);obtain⟨c3,st2,k1,k2,k3⟩:=h.2 lp rest a0 a1 b3 st1 g2 (by omega);exact⟨c3,st2,g1.trans k1,k2,g3.trans k3⟩
theorem dO{w:Str}{tl ds:List D}{c:Nat}(hw:(w==("free":Str))=false)(hp:∀ st,bR [.t (.s w::tl)] st=some (.t ds,st))(h:NFs ds c):NF (.t (.s w::tl)) (c+1):=by
 intro lp rest a0 a1 a3 st hs hl;have hc:=h.1;have h1:truD (.r lp) st=some (true,st):=by rw[jL hs,mH (by simp)];rfl
 have h2:chkT "list" (.r lp) st=some ((),st):=bQ hs;have h3:popD (.r lp) [] st=some (.t (.s w::tl),st.set lp (.l rest)):=lM hs;have h4:(st.set lp (.l rest))[lp]?=some (.l rest):=cI hs;have k1:Kp lp st (st.set lp (.l rest)):=Kp.set1;generalize st.set lp (.l rest)=st1 at h3 h4 k1;have h5:chkT "list" (.r lp) st1=some ((),st1):=bQ h4;have h6:extendD (.r lp) [.t ds] st1=some (.no,st1.set lp (.l (rest++ds))):=aAd h4 (zl (by omega));have h7:(st1.set lp (.l (rest++ds)))[lp]?=some (.l (rest++ds)):=cI h4;have k2:Kp lp st (st1.set lp (.l (rest++ds))):=k1.set;generalize st1.set lp (.l (rest++ds))=st2 at h6 h7 k2;obtain⟨c3,st3,g1,g2,g3⟩:=h.2 lp rest a0 a1 (some (.t (.s w::tl))) st2 h7 (by omega);refine⟨c3,st3,Rc.trans (fun r hr=>jY (st1:=st) (st2:=st2) (env1:=[a0,a1,some (.r lp),some (.t (.s w::tl))]) ?_ ?_ hr) g1,g2,k2.trans g3⟩
 ·simp[h1]
 ·simp[bFree,h2,h3,hw,h5,hp st1,h6]
theorem aAz{d:D}{c:Nat}(h:NF d c)(hc:c≤50000)(st:Sto):∃ f st',lA [d] st=some (.r f,st')∧Ext st st'∧st.length≤f∧st'[f]?=some (.l []):=by
 have x1:Ext st (st++[.st []]):=Ext.app _ _;have x2:Ext (st++[.st []]) (st++[.st []]++[.l [d]]):=Ext.app _ _;have hs:(st++[C.st []]++[.l [d]])[(st++[C.st []]).length]?=some (.l ([]++[d])):=by simp
 have hs0:(st++[C.st []]++[.l [d]])[st.length]?=some (.st []):=by simp
 obtain⟨a3,st1,g1,g2,g3⟩:=h _ [] (some d) (some (.r st.length)) none _ hs (by simpa using hc);have hn:(st++[C.st []]).length=st.length+1:=by simp
 rw[hn] at g1 g2 g3;have e0:st1[st.length]?=some (.st []):=g3 _ _ (by omega) hs0;have t1:truD (.r (st.length+1)) st1=some (false,st1):=jL g2;have hw:=g1 _ (iE (tb:=bFree) (tc:=tVl (eV 2)) (st1:=st1) (by simp[t1]));have hso:sortedD [.r st.length] st1=some (.r st1.length,st1++[.l []]):=by
  show(match st1[st.length]? with |some (.st [])=>_|_=>none)=_;rw[e0]
 have hl:st.length≤st1.length:=by have:=(Z10.mp e0).1;omega
 refine⟨st1.length,st1++[.l []],?_,fun l c e=>Ext.app _ _ l c (g3 l c (by have:=(Z10.mp e).1;omega) ((x1.trans x2) l c e)),hl,by simp⟩;have hw':whC (tVl (eV 2)) L4a [some d,some (.r st.length),some (.r (st.length+1)),none] (st++[.st []]++[.l [d]])=some ((.nx,[some d,some (.r st.length),some (.r (st.length+1)),a3]),st1):=hw;simp only[lA,mW,sW];generalize whC _ _=W at hw' ⊢;simp at hw';simp[hw',hso]
noncomputable def atHand(sort:Str):Bool:=sort==("statement":Str) || sort==("body":Str)
def ArF(sort:Str)(ar:D):Prop:=if atHand sort then ∃ f,ar=.t [.t [], .r f] else ar=dD
noncomputable def arf:D→Option Nat
 | .t [_, .r f]=>some f
 |_=>none
noncomputable def pf:D→Option Nat
 | .t [_,_,ar]=>arf ar
 |_=>none
theorem jQ{sort:Str}{part:D}{c:Nat}(hN:atHand sort=true→NF part c∧c≤50000)(st:Sto):∃ ar st',aU [.s sort,part] st=some (.t [.s sort,part,ar],st')∧Ext st st'∧ArF sort ar∧∀ f,pf (.t [.s sort,part,ar])=some f→st.length≤f∧st'[f]?=some (.l []):=by
 cases hh:atHand sort with
 |false=>
  refine⟨dD,st,?_, .refl _,by unfold ArF;rw[hh];rfl,fun f h=>by cases h⟩;have h1:(sort==("statement":Str))=false∧(sort==("body":Str))=false:=by
   unfold atHand at hh
   simpa using hh
  simp[aU,eO,h1.1,h1.2]
 |true=>
  obtain⟨f,st',e,x,l,q⟩:=aAz (hN hh).1 (hN hh).2 st;refine⟨.t [.t [], .r f],st',?_,x,by unfold ArF;rw[hh];exact⟨f,rfl⟩,fun g h=>by cases h;exact⟨l,q⟩⟩;unfold atHand at hh;cases h1:(sort==("statement":Str)) with
  |true=>simp[aU,eO,h1,e]
  |false=>
   rw[h1] at hh;have h2:(sort==("body":Str))=true:=by simpa using hh
   simp[aU,eO,h1,h2,e]
abbrev cp(x:Str):List Nat:=x.cps.toList
theorem aE(a b:Str):cp (a++b)=cp a++cp b:=by
 show(a.cps++b.cps).toList=_;simp
theorem xB{a b:Str}(h:cp a=cp b):a=b:=by
 cases a;cases b;simpa using h
noncomputable def cat(us:List Str):List Nat:=us.flatMap cp
theorem yP(a b:List Str):cat (a++b)=cat a++cat b:=by simp[cat]
def bWr:Sm':=L26a
def wWr:Sm':=whC (tVl (eV 2)) bWr
def Gd(lp lt:Nat)(st:Sto)(x:D):Prop:=∀ f,pf x=some f→st[f]?=some (.l [])∧f≠lp∧f≠lt
theorem Gd.fr{lp lt:Nat}{st st':Sto}{x:D}(h:Gd lp lt st x)(k:Fr lp lt st st'):Gd lp lt st' x:=fun f e=>by
 obtain⟨a,b,c⟩:=h f e;exact⟨k f _ b c a,b,c⟩
def Ex(x:D)(s:List Nat)(c:Nat):Prop:=∀ (lp lt:Nat) (a0 a1:Option D) (rest:List D) (ts:List Str) (a4 a5:Option D) (st:Sto),lp≠lt→Gd lp lt st x→st[lp]?=some (.l (rest++[x]))→st[lt]?=some (.l (ts.map D.s))→rest.length+c≤50000→ts.length+c≤50000→
 ∃ us a4' a5' st',Rc wWr [a0,a1,some (.r lp),some (.r lt),a4,a5] st [a0,a1,some (.r lp),some (.r lt),a4',a5'] st'∧st'[lp]?=some (.l rest)∧st'[lt]?=some (.l ((ts++us).map D.s))∧cat us=s∧us.length≤c∧Fr lp lt st st'
def Exs(xs:List D)(s:List Nat)(c:Nat):Prop:=xs.length≤c∧∀ (lp lt:Nat) (a0 a1:Option D) (rest:List D) (ts:List Str) (a4 a5:Option D) (st:Sto),lp≠lt→(∀ x∈xs,Gd lp lt st x)→st[lp]?=some (.l (rest++xs.reverse))→st[lt]?=some (.l (ts.map D.s))→rest.length+c≤50000→ts.length+c≤50000→
 ∃ us a4' a5' st',Rc wWr [a0,a1,some (.r lp),some (.r lt),a4,a5] st [a0,a1,some (.r lp),some (.r lt),a4',a5'] st'∧st'[lp]?=some (.l rest)∧st'[lt]?=some (.l ((ts++us).map D.s))∧cat us=s∧us.length≤c∧Fr lp lt st st'
theorem oE:Exs [] [] 0:=⟨Y12 _,fun lp lt a0 a1 rest ts a4 a5 st _ _ h h' _ _=>⟨[],a4,a5,st, .refl,by simpa using h,by simpa using h',rfl,Y12 _, .refl _ _ _⟩⟩
theorem mI{x:D}{xs:List D}{s s':List Nat}{c c':Nat}(h:Ex x s c)(h':Exs xs s' c'):Exs (x::xs) (s++s') (c+c'+1):=by
 have hc:=h'.1;refine⟨by simp;omega,fun lp lt a0 a1 rest ts a4 a5 st hne hg hp ht h1 h2=>?_⟩;obtain⟨us,b4,b5,st1,g1,g2,g3,g4,g5,g6⟩:=h lp lt a0 a1 (rest++xs.reverse) ts a4 a5 st hne (hg x (by simp)) (by rw[hp];simp) ht (by simp;omega) (by omega);obtain⟨vs,c4,c5,st2,k1,k2,k3,k4,k5,k6⟩:=h'.2 lp lt a0 a1 rest (ts++us) b4 b5 st1 hne (fun y hy=>(hg y (by simp[hy])).fr g6) g2 g3 (by omega) (by simp;omega);exact⟨us++vs,c4,c5,st2,g1.trans k1,k2,by rw[k3];simp,by rw[yP,g4,k4],by simp;omega,g6.trans k6⟩
theorem cE{x:D}{s:List Nat}{c c':Nat}(h:Ex x s c)(hc:c≤c'):Ex x s c':=fun lp lt a0 a1 rest ts a4 a5 st h1 h2 h3 h4 h5 h6=>by
 obtain⟨us,b4,b5,st1,g1,g2,g3,g4,g5,g6⟩:=h lp lt a0 a1 rest ts a4 a5 st h1 h2 h3 h4 (by omega) (by omega);exact⟨us,b4,b5,st1,g1,g2,g3,g4,by omega,g6⟩
theorem lS(x:Str):Ex (.s x) (cp x) 1:=by
 intro lp lt a0 a1 rest ts a4 a5 st hne hg hp ht h1 h2;have e1:truD (.r lp) st=some (true,st):=by rw[jL hp,mH (by simp)];rfl
 have e2:chkT "list" (.r lp) st=some ((),st):=bQ hp;have e3:popD (.r lp) [] st=some (.s x,st.set lp (.l rest)):=lM hp;have e4:(st.set lp (.l rest))[lp]?=some (.l rest):=cI hp;have k1:Kp lp st (st.set lp (.l rest)):=Kp.set1;generalize st.set lp (.l rest)=st1 at e3 e4 k1;have e5:=k1 _ _ hne.symm ht;have e6:chkT "list" (.r lt) st1=some ((),st1):=bQ e5;have e7:appendD (.r lt) [.s x] st1=some (.no,st1.set lt (.l (ts.map D.s++[.s x]))):=jC e5 (by rw[Y14,U16];omega);have e8:(st1.set lt (.l (ts.map D.s++[.s x])))[lt]?=some (.l (ts.map D.s++[.s x])):=cI e5;have k2:Kp lt st1 (st1.set lt (.l (ts.map D.s++[.s x]))):=Kp.set1;generalize st1.set lt (.l (ts.map D.s++[.s x]))=st2 at e7 e8 k2;refine⟨[x],some (.s x),a5,st2,fun r hr=>jY (st1:=st) (st2:=st2) (env1:=[a0,a1,some (.r lp),some (.r lt),some (.s x),a5]) ?_ ?_ hr,k2 _ _ hne e4,by rw[e8];simp,by simp[cat],Y12 _,(Fr.kp k1).trans (Fr.kq k2)⟩
 ·simp[e1]
 ·have e9:isinstD [.s x, .ty "str"] st1=some (.b true,st1):=rfl;simp[bWr,e2,e3,e9,e6,e7]
theorem gX{x:Str}{xs:List D}{s':List Nat}{c':Nat}(h':Exs xs s' c'):Exs (.s x::xs) (cp x++s') (c'+2):=by
 have:=mI (lS x) h'
 rwa [show 1+c'+1=c'+2 by omega] at this
theorem cF{sort:Str}{part ar:D}{fnm:Str}{g:List D→M D}{s:List Nat}{c:Nat}(h1:∀ st,ixD jU (.s sort) st=some (.fn fnm,st))(h2:(pick T25.dl 5).lookup fnm=some g)
  (h:∀ st,(∀ f,pf (.t [.s sort,part,ar])=some f→st[f]?=some (.l []))→MkP (g [part,ar]) st fun st1 xs=>Exs xs s c∧∀ x∈xs,∀ f,pf x=some f→pf (.t [.s sort,part,ar])=some f∨(st.length≤f∧st1[f]?=some (.l []))):Ex (.t [.s sort,part,ar]) s (c+1):=by
 intro lp lt a0 a1 rest ts a4 a5 st hne hg hp ht b1 b2;have hlp:lp<st.length:=(Z10.mp hp).1;have hlt:lt<st.length:=(Z10.mp ht).1;have e1:truD (.r lp) st=some (true,st):=by rw[jL hp,mH (by simp)];rfl
 have e2:chkT "list" (.r lp) st=some ((),st):=bQ hp;have e3:popD (.r lp) [] st=some (.t [.s sort,part,ar],st.set lp (.l rest)):=lM hp;have e4:(st.set lp (.l rest))[lp]?=some (.l rest):=cI hp;have k1:Kp lp st (st.set lp (.l rest)):=Kp.set1;have hl1:(st.set lp (.l rest)).length=st.length:=by simp
 generalize st.set lp (.l rest)=st1 at e3 e4 k1 hl1;obtain⟨l,st2,xs,e5,x2,e6,p1,p2⟩:=h st1 fun f hf=>by obtain⟨q1,q2,q3⟩:=hg f hf;exact k1 _ _ q2 q1
 have e7:=x2 _ _ e4;have e8:chkT "list" (.r lp) st2=some ((),st2):=bQ e7;have hc:=p1.1;have e9:revD2 (.r l) (.i (-1)) st2=some (.r st2.length,st2++[C.l xs.reverse]):=yN e6;have x3:Ext st2 (st2++[C.l xs.reverse]):=Ext.app _ _;have f1:extendD (.r lp) [.r st2.length] (st2++[C.l xs.reverse])=some (.no,(st2++[C.l xs.reverse]).set lp (.l (rest++xs.reverse))):=fG (x3 _ _ e7) (by simp) (zl (by simp;omega));have f2:((st2++[C.l xs.reverse]).set lp (.l (rest++xs.reverse)))[lp]?=some (.l (rest++xs.reverse)):=cI (x3 _ _ e7);have k3:Kp lp st ((st2++[C.l xs.reverse]).set lp (.l (rest++xs.reverse))):=(k1.trans (Kp.of (x2.trans x3))).set;have k4:Kp lp st2 ((st2++[C.l xs.reverse]).set lp (.l (rest++xs.reverse))):=(Kp.of x3).set;have e8':chkT "list" (.r lp) st1=some ((),st1):=bQ e4;generalize (st2++[C.l xs.reverse]).set lp (.l (rest++xs.reverse))=st3 at f1 f2 k3 k4;obtain⟨us,c4,c5,st4,g1,g2,g3,g4,g5,g6⟩:=p1.2 lp lt a0 a1 rest ts (some (.t [.s sort,part,ar])) (some (.fn fnm)) st3 hne (fun x hx f hf=>by
   rcases p2 x hx f hf with q|⟨q1,q2⟩
   ·obtain⟨q1,q2,q3⟩:=hg f q;exact⟨k3 _ _ q2 q1,q2,q3⟩
   ·exact⟨k4 _ _ (by omega) q2,by omega,by omega⟩) f2 (k3 _ _ hne.symm ht) (by omega) (by omega)
 refine⟨us,c4,c5,st4,Rc.trans (fun r hr=>jY (st1:=st) (st2:=st3) (env1:=[a0,a1,some (.r lp),some (.r lt),some (.t [.s sort,part,ar]),some (.fn fnm)]) ?_ ?_ hr) g1,g2,g3,g4,by omega,(Fr.kp k3).trans g6⟩
 ·simp[e1]
 ·have f3:isinstD [.t [.s sort,part,ar], .ty "str"] st1=some (.b false,st1):=by
   show(if "tuple"="str" then some (D.b true,st1) else if("tuple","str")∈notTy then some (D.b false,st1) else none)=_;rw[if_neg (by decide),if_pos (by decide)]
  have f4:dispD (pick T25.dl 5) (.fn fnm) [part,ar] st1=some (.r l,st2):=by
   show(match (pick T25.dl 5).lookup fnm with |some g=>g [part,ar]|none=>bad) st1=_;rw[h2];exact e5
  simp only[bWr,L26a];generalize pick T25.dl 5=TT at f4 ⊢;simp[e2,e3,f3,h1,f4,e9,e8,e8',f1]
theorem Ext.len{st st':Sto}(h:Ext st st'):st.length≤st'.length:=by
 rcases Nat.eq_zero_or_pos st.length with e|e
 ·omega
 ·have:=h (st.length - 1) st[st.length - 1] (U17 (by omega));have:=(Z10.mp this).1
  omega
theorem tE{xs ys:List D}{s s':List Nat}{c c':Nat}(h:Exs xs s c)(h':Exs ys s' c'):Exs (xs++ys) (s++s') (c+c'):=by
 have hc:=h.1;have hc':=h'.1;refine⟨by simp;omega,fun lp lt a0 a1 rest ts a4 a5 st hne hg hp ht h1 h2=>?_⟩;obtain⟨us,b4,b5,st1,g1,g2,g3,g4,g5,g6⟩:=h.2 lp lt a0 a1 (rest++ys.reverse) ts a4 a5 st hne (fun x hx=>hg x (by simp[hx])) (by rw[hp];simp) ht (by simp;omega) (by omega);obtain⟨vs,c4,c5,st2,k1,k2,k3,k4,k5,k6⟩:=h'.2 lp lt a0 a1 rest (ts++us) b4 b5 st1 hne (fun y hy=>(hg y (by simp[hy])).fr g6) g2 g3 (by omega) (by simp;omega);exact⟨us++vs,c4,c5,st2,g1.trans k1,k2,by rw[k3];simp,by rw[yP,g4,k4],by simp;omega,g6.trans k6⟩
theorem fB{x:D}{s:List Nat}{c:Nat}(h:Ex x s c):Exs [x] s (c+1):=by
 have:=mI h oE
 rwa [V12] at this
def RowP(A:Option Nat)(n:Nat)(p:List Nat×Nat):Sto→List D→Prop:=fun st w=>w≠[]∧Exs w p.1 p.2∧∀ x∈w,∀ f,pf x=some f→A=some f∨(n≤f∧st[f]?=some (.l []))
theorem RowP.stab{A:Option Nat}{n:Nat}{p:List Nat×Nat}:Stab (RowP A n p):=fun st st' w x h=>⟨h.1,h.2.1,fun y hy f hf=>(h.2.2 y hy f hf).imp id fun q=>⟨q.1,x _ _ q.2⟩⟩
noncomputable def cmS:Bool→List (List Nat×Nat)→List Nat
 |_,[]=>[]
 |true,r::rs=>r.1++cmS false rs
 |false,r::rs=>cp ", "++(r.1++cmS false rs)
noncomputable def cmC:List (List Nat×Nat)→Nat
 |[]=>0
 |r::rs=>r.2+2+cmC rs
theorem mJ{A:Option Nat}{n:Nat}{st:Sto}:∀ (b:Bool) (ws:List (List D)) (L:List (List Nat×Nat)),All2 st ws (L.map (RowP A n))→Exs (cm b ws) (cmS b L) (cmC L)∧(∀ x∈cm b ws,∀ f,pf x=some f→A=some f∨(n≤f∧st[f]?=some (.l [])))∧tot ws≤cmC L∧∀ w∈ws,w≠[]
 |b,[],[],_=>⟨by cases b<;>exact oE,by cases b<;>simp[cm],Y12 _,by simp⟩
 |true,w::ws,p::L,h=>by
  obtain⟨⟨h1,h2,h3⟩,h4⟩:=h;obtain⟨k1,k2,k3,k4⟩:=mJ false ws L h4;have e:=tE h2 k1;have hc:=h2.1;refine⟨⟨by have:=e.1;simp only[cm,cmC];omega,fun lp lt a0 a1 rest ts a4 a5 st a b c d e1 e2=>?_⟩,?_,by simp only[tot,cmC];omega,by simpa using ⟨h1,k4⟩⟩
  ·obtain⟨us,c4,c5,st2,q1,q2,q3,q4,q5,q6⟩:=e.2 lp lt a0 a1 rest ts a4 a5 st a b c d (by simp only[cmC] at e1;omega) (by simp only[cmC] at e2;omega);exact⟨us,c4,c5,st2,q1,q2,q3,q4,by simp only[cmC];omega,q6⟩
  ·intro x hx;rcases V27.mp hx with hx|hx
   ·exact h3 x hx
   ·exact k2 x hx
 |false,w::ws,p::L,h=>by
  obtain⟨⟨h1,h2,h3⟩,h4⟩:=h;obtain⟨k1,k2,k3,k4⟩:=mJ false ws L h4;have e:=gX (x:=", ") (tE h2 k1);have hc:=h2.1;rw[show p.2+cmC L+2=cmC (p::L) by simp only[cmC];omega] at e;refine⟨e,?_,by simp only[tot,cmC];omega,by simpa using ⟨h1,k4⟩⟩;intro x hx;rcases W12.mp hx with rfl|hx
  ·intro f hf;cases hf
  ·rcases V27.mp hx with hx|hx
   ·exact h3 x hx
   ·exact k2 x hx
 |_,[],_::_,h=>h.elim
 |_,_::_,[],h=>h.elim
def Told(A:Option Nat)(n:Nat)(s:List Nat)(c:Nat):Sto→List D→Prop:=fun st1 xs=>Exs xs s c∧∀ x∈xs,∀ f,pf x=some f→A=some f∨(n≤f∧st1[f]?=some (.l []))
theorem lD{a b:En→M D}{caps:List Nat}{ti:En→M Its'}{bd:D→Sto→Option (List D)}{te:En→M D}{env:En}{st:Sto}{its:Its'}{L:List (List Nat×Nat)}{A:Option Nat}{h t:Str}
  (ha:∀ st,a env st=some (.s h,st))(hb:∀ st,b env st=some (.s t,st))(hi:∀ st1,Ext st st1→ti env st1=some (its,st1))(hc:∀ st1,Ext st st1→its.2 st1)(hl:its.1.length=L.length)
  (hx:∀ (i:Nat) x p,its.1[i]?=some x→L[i]?=some p→∀ st1,Ext st st1→∃ ds,bd x st1=some ds∧MkP (te (ds.map some++capD caps env)) st1 (RowP A st.length p))(hL:cmC L≤50000)(hL2:L.length≤1000):
  MkP (eOp addD (eOp addD (eL (aC a aN)) (eCl cV (aC (eCo caps ti bd (fun _=>L2.ret true) te) aN))) (eL (aC b aN)) env) st (Told A st.length (cp h++(cmS true L++cp t)) (cmC L+4)):=by
 have key:∀ st1,Ext st st1→MkP (eCl cV (aC (eCo caps ti bd (fun _=>L2.ret true) te) aN) env) st1 (fun st2 xs=>xs.length≤cmC L∧Exs xs (cmS true L) (cmC L)∧∀ x∈xs,∀ f,pf x=some f→A=some f∨(st.length≤f∧st2[f]?=some (.l []))):=by
  intro st1 x1;refine(aAy (Ps:=L.map (RowP A st.length)) (hi st1 x1) (by simpa using hl) (by simpa using hL2) ?_ (fun st2 x2=>hc st2 (x1.trans x2)) ?_).imp ?_
  ·intro i x P hx1 hP;rw[Z13] at hP;obtain⟨p,hp,rfl⟩:=Z12.mp hP;exact⟨RowP.stab,fun st2 x2=>hx i x p hx1 hp st2 (x1.trans x2)⟩
  ·intro st2 ws h2;obtain⟨_,_,q3,q4⟩:=mJ true ws L h2;exact⟨by omega,q4⟩
  ·rintro st2 xs x2 ⟨st3,ws,x3,h3,rfl⟩;obtain⟨q1,q2,q3,q4⟩:=mJ true ws L h3;exact⟨q1.1,q1,fun x hx f hf=>(q2 x hx f hf).imp id fun q=>⟨q.1,x3 _ _ q.2⟩⟩
 have hS:Stab (fun st2 xs=>xs.length≤cmC L∧Exs xs (cmS true L) (cmC L)∧∀ x∈xs,∀ f,pf x=some f→A=some f∨(st.length≤f∧st2[f]?=some (.l []))):=fun s1 s2 w x q=>⟨q.1,q.2.1,fun y hy f hf=>(q.2.2 y hy f hf).imp id fun z=>⟨z.1,x _ _ z.2⟩⟩;have hE:∀ xs:List D,Stab (fun _ w=>w=xs):=fun xs s1 s2 w _ q=>q;have hone:∀ (e:En→M D) (z:Str),(∀ st,e env st=some (.s z,st))→∀ st,MkP (eL (aC e aN) env) st (fun _ w=>w=[.s z]):=fun e z he st=>xA (xs:=[.s z]) (by simp[he]) (by simp) fun _ _=>rfl;have p1:=yO (a:=eL (aC a aN)) (b:=eCl cV (aC (eCo caps ti bd (fun _=>L2.ret true) te) aN)) (hE [.s h]) (hone a h ha st) key (by rintro s1 xs s2 ys rfl⟨q,_⟩;simp;omega) hS;refine(yO (Q:=fun _ w=>w=[.s t]) ?_ p1 (fun st1 x1=>hone b t hb st1) ?_ (hE _)).imp ?_
 ·rintro s1 s2 w x ⟨xs,ys,q1,q2,q3⟩;exact⟨xs,ys,q1,hS _ _ _ x q2,q3⟩
 ·rintro s1 xs s2 ys ⟨u,v,rfl,⟨q,_⟩,rfl⟩ rfl;simp;omega
 ·rintro st1 xs x1 ⟨u,v,⟨u1,u2,rfl,⟨q1,q2,q3⟩,rfl⟩,rfl,rfl⟩;refine⟨?_,?_⟩
  ·have:=gX (x:=h) (tE q2 (gX (x:=t) oE));rw[V12] at this
   simpa using this
  ·intro x hx f hf;simp only[List.singleton_append,V27,W12,W15,V18,or_false] at hx;rcases hx with (rfl|hx)|rfl
   ·cases hf
   ·exact q3 x hx f hf
   ·cases hf
theorem dP{A:Option Nat}{n:Nat}{s:List Nat}{c:Nat}{st:Sto}{t:En→M (List D)}{env:En}{xs:List D}(h:t env st=some (xs,st))(hl:xs.length≤1000)(he:Exs xs s c)(hp:∀ x∈xs,∀ f,pf x=some f→A=some f):MkP (eL t env) st (Told A n s c):=
 xA h hl fun _ _=>⟨he,fun x hx f hf=>.inl (hp x hx f hf)⟩
theorem MkP.eq{m m':M D}{st:Sto}{P:Sto→List D→Prop}(h:MkP m st P)(e:m' st=m st):MkP m' st P:=by
 obtain⟨l,st1,w,e1,r⟩:=h;exact⟨l,st1,w,by rw[e,e1],r⟩
theorem Told.mono{A B:Option Nat}{n:Nat}{s:List Nat}{c:Nat}{st:Sto}{xs:List D}(h:Told A n s c st xs)(hA:∀ f,A=some f→B=some f):Told B n s c st xs:=⟨h.1,fun x hx f hf=>(h.2 x hx f hf).imp (hA f) id⟩
theorem mK:(pick T25.dl 5).lookup ("term_pieces":Str)=some cD:=by kernel_rfl
theorem gY:(pick T25.dl 5).lookup ("statement_pieces":Str)=some bA:=by kernel_rfl
theorem aFh:(pick T25.dl 5).lookup ("body_pieces":Str)=some iN:=by kernel_rfl
theorem aAA:(pick T25.dl 5).lookup ("reason_pieces":Str)=some gJ:=by kernel_rfl
theorem aAB:(pick T25.dl 5).lookup ("tactic_pieces":Str)=some gL:=by kernel_rfl
theorem aFi:(pick T25.dl 5).lookup ("name_pieces":Str)=some iP:=by kernel_rfl
theorem aAC:(pick T25.dl 5).lookup ("number_pieces":Str)=some gO:=by kernel_rfl
theorem xC:(pick T25.dl 5).lookup ("tactics_pieces":Str)=some fK:=by kernel_rfl
theorem aFj:(pick T25.dl 5).lookup ("reason_rows_pieces":Str)=some cX:=by kernel_rfl
theorem px{kvs:List (Key×D)}{x:Str}{d:D}(h:valD kvs (.inr x)=some d)(st:Sto):ixD (.dc kvs) (.s x) st=some (d,st):=by
 have e:ixV st (.dc kvs) (.s x)=some d:=h;unfold ixD;rw[e]
section
variable{st:Sto}{ar:D}
theorem yQ{sort x:Str}(h1:∀ st,ixD jU (.s sort) st=some (.fn "name_pieces",st)):Ex (.t [.s sort, .s x,ar]) (cp x) 3:=by
 refine cF (c:=2) h1 aFi fun st _=>?_;unfold iP iO;refine nD rfl (dP (xs:=[.s x]) (by simp) (by simp) (fB (lS x)) ?_);intro y hy f hf;simp at hy;subst hy;cases hf
theorem aAD{k:Nat}(hk:k<200):Ex (.t [.s "number", .i (k:Nat),ar]) (cp (numS k)) 3:=by
 have h2:((k:Nat):Int).natAbs.log2<1920:=by
  have:∀ k:Nat,k<200→((k:Nat):Int).natAbs.log2<1920:=by decide +kernel
  exact this k hk
 have h3:∀ st,str1D [.i (k:Nat)] st=some (.s (numS k),st):=fun st=>by
  show need _ _ st=_;rw[dZ h2]
  rfl
 refine cF (c:=2) (px (by kernel_rfl)) aAC fun st _=>?_;unfold gO gM;refine nD rfl (dP (xs:=[.s (numS k)]) (by simp[h3]) (by simp) (fB (lS _)) ?_);intro y hy f hf;simp at hy;subst hy;cases hf
theorem kS{w nm:Str}{args:List D}{L:List (List Nat×Nat)}(hl:args.length=L.length)(h:∀ (i:Nat) a p,args[i]?=some a→L[i]?=some p→∃ c,p.2=c+1∧Ex (.t [.s "term",a,ar]) p.1 c)(hL:cmC L≤50000)(hL2:L.length≤1000)(hn:nm.length≤1000):
  MkP (cW [.t [.s w, .s nm, .t args],ar]) st (Told (arf ar) st.length (cp (nm++("(":Str))++(cmS true L++cp ")")) (cmC L+4)):=by
 have hq:nm.length+("(":Str).length≤sizeLine:=zl (by rw[ls3];omega);refine nD rfl (lD (its:=(args,fun _=>True)) (fun st=>by simp[aI hq]) (fun st=>by simp) (fun st1 _=>by simp) (fun _ _=>trivial) hl ?_ hL hL2);intro i a p h1 h2 st1 x1;obtain⟨c,hc,he⟩:=h i a p h1 h2;refine⟨[a],rfl,xA (xs:=[.t [.s "term",a,ar]]) (by simp[capD]) (by simp) fun st2 x2=>⟨by simp,by rw[hc];exact fB he,?_⟩⟩;intro x hx f hf;simp at hx;subst hx;exact .inl hf
theorem ex_free{x:Str}:Ex (.t [.s "term", .t [.s "free", .s x],ar]) (cp x) 3:=by
 refine cF (c:=2) (px (by kernel_rfl)) mK fun st _=>?_;refine MkP.eq (m:=eL (aC (eC (.s x)) aN) []) (dP (xs:=[.s x]) (by simp) (by simp) (fB (lS _)) ?_) (by simp[cD,bZ,show(("free":Str)==("free":Str))=true by decide]);intro y hy f hf;simp at hy;subst hy;cases hf
theorem aCX{x:Str}:Ex (.t [.s "term", .t [.s "form", .s x, .t []],ar]) (cp x) 3:=by
 refine cF (c:=2) (px (by kernel_rfl)) mK fun st _=>?_;refine MkP.eq (m:=eL (aC (eC (.s x)) aN) []) (dP (xs:=[.s x]) (by simp) (by simp) (fB (lS _)) ?_) (by simp[cD,bZ,show(("form":Str)==("free":Str))=false by decide,show(("form":Str)==("bound":Str))=false by decide,show(("form":Str)==("form":Str))=true by decide]);intro y hy f hf;simp at hy;subst hy;cases hf
theorem aFk{nm:Str}{args:List D}{L:List (List Nat×Nat)}(h0:args≠[])(hl:args.length=L.length)(h:∀ (i:Nat) a p,args[i]?=some a→L[i]?=some p→∃ c,p.2=c+1∧Ex (.t [.s "term",a,ar]) p.1 c)(hL:cmC L≤50000)(hL2:L.length≤1000)(hn:nm.length≤1000):
  Ex (.t [.s "term", .t [.s "form", .s nm, .t args],ar]) (cp (nm++("(":Str))++(cmS true L++cp ")")) (cmC L+5):=by
 refine cF (c:=cmC L+4) (px (by kernel_rfl)) mK fun st _=>?_;refine MkP.eq (kS (w:="form") hl h hL hL2 hn) ?_;have:(((args.length:Nat):Int)==0)=false:=by
  have:args.length≠0:=fun e=>h0 (Y27 e);simp
  omega
 simp[cD,bZ,show(("form":Str)==("free":Str))=false by decide,show(("form":Str)==("bound":Str))=false by decide,show(("form":Str)==("form":Str))=true by decide,aCf,this];cases cW [.t [.s "form", .s nm, .t args],ar] st<;>rfl
theorem aFl{nm:Str}{args:List D}{L:List (List Nat×Nat)}(hl:args.length=L.length)(h:∀ (i:Nat) a p,args[i]?=some a→L[i]?=some p→∃ c,p.2=c+1∧Ex (.t [.s "term",a,ar]) p.1 c)(hL:cmC L≤50000)(hL2:L.length≤1000)(hn:nm.length≤1000):
  Ex (.t [.s "term", .t [.s "call", .s nm, .t args],ar]) (cp (nm++("(":Str))++(cmS true L++cp ")")) (cmC L+5):=by
 refine cF (c:=cmC L+4) (px (by kernel_rfl)) mK fun st _=>?_;refine MkP.eq (kS (w:="call") hl h hL hL2 hn) ?_;simp[cD,bZ,show(("call":Str)==("free":Str))=false by decide,show(("call":Str)==("bound":Str))=false by decide,show(("call":Str)==("form":Str))=false by decide];cases cW [.t [.s "call", .s nm, .t args],ar] st<;>rfl
noncomputable def nmsD(n:Nat):List D:=((List.range n).map nm).map D.s
theorem aHS{n k:Nat}(hk:k<n):atI (nmsD n) (-1 - (k:Nat))=some (.s (nm (n - 1 - k))):=by
 have hl:(nmsD n).length=n:=by simp[nmsD]
 unfold atI ixN;rw[hl,if_neg (by omega),if_pos (by omega)];have e:(-1 - ((k:Nat):Int)+((n:Nat):Int)).toNat=n - 1 - k:=by omega
 have e2:(((n:Nat):Int)+(-1 - ((k:Nat):Int))).toNat=n - 1 - k:=by omega
 simp[nmsD,e,e2,List.getElem?_range,show n - 1 - k<n by omega]
theorem pS{n k f:Nat}(hk:k<n):Ex (.t [.s "term", .t [.s "bound", .i (k:Nat)], .t [.t (nmsD n), .r f]]) (cp (nm (n - 1 - k))) 3:=by
 refine cF (c:=2) (px (by kernel_rfl)) mK fun st _=>?_;refine MkP.eq (m:=eL (aC (eC (.s (nm (n - 1 - k)))) aN) []) (dP (xs:=[.s (nm (n - 1 - k))]) (by simp) (by simp) (fB (lS _)) ?_) (by simp[cD,bZ,show(("bound":Str)==("free":Str))=false by decide,show(("bound":Str)==("bound":Str))=true by decide,aHS hk]);intro y hy f hf;simp at hy;subst hy;cases hf
end
section
variable{st:Sto}{ar:D}
theorem uW{x:Str}{ss:List Str}:inD (.s x) (.k (ss.map D.s)) st=some (.b (ss.contains x),st):=by
 have e:inB (.s x) (.k (ss.map D.s)) st=some (ss.contains x):=by
  show((flD (.s x)).bind fun a=>((ss.map D.s).mapM flD).map fun vs=>inV a vs)=_;rw[tD];show some (inV (.str x) (ss.map V.str))=_;rw[yM]
 unfold inD;rw[e]
theorem w0:(("atom":Str)==("false":Str))=false:=by decide
theorem w1:(("atom":Str)==("atom":Str))=true:=by decide
theorem pT:Ex (.t [.s "statement", .t [.s "false"],ar]) (cp "false") 3:=by
 refine cF (c:=2) (px (by kernel_rfl)) gY fun st _=>?_;refine MkP.eq (m:=eL (aC (eC (.s "false")) aN) []) (dP (xs:=[.s "false"]) (by simp) (by simp) (fB (lS _)) ?_) (by simp[bA,aZ,show(("false":Str)==("false":Str))=true by decide]);intro y hy f hf;simp at hy;subst hy;cases hf
theorem tF{nm:Str}{args:List D}{L:List (List Nat×Nat)}(hl:args.length=L.length)(h:∀ (i:Nat) a p,args[i]?=some a→L[i]?=some p→∃ c,p.2=c+1∧Ex (.t [.s "term",a,ar]) p.1 c)(hL:cmC L≤50000)(hL2:L.length≤1000)(hn:nm.length≤1000):
  Ex (.t [.s "statement", .t [.s "atom", .s nm, .t args],ar]) (cp (nm++("(":Str))++(cmS true L++cp ")")) (cmC L+5):=by
 refine cF (c:=cmC L+4) (px (by kernel_rfl)) gY fun st _=>?_;refine MkP.eq (kS (w:="atom") hl h hL hL2 hn) ?_;simp[bA,aZ,w0,w1];cases cW [.t [.s "atom", .s nm, .t args],ar] st<;>rfl
theorem kT{A:D}{n f:Nat}(hn:n≤60)(hf:st[f]?=some (.l [])):cH [A, .t [.t (nmsD n), .r f]] st=some (.t [.s (nm n), .t [.s "statement",A, .t [.t (nmsD (n+1)), .r f]]],st):=by
 have h1:gA [.t [.t (nmsD n), .r f]] st=some (.s (nm n),st):=uV hn hf;have h2:nmsD (n+1)=nmsD n++[.s (nm n)]:=by simp[nmsD,V28]
 have h3:(nmsD n).length+1≤sizeLine:=zl (by simp[nmsD];omega);rw[h2];generalize nmsD n=X at h1 h3 ⊢;simp[cH,hZ,h1,aI h3]
theorem aFm{A:D}{f c:Nat}{s:List Nat}(h:Ex (.t [.s "statement",A, .t [.t (nmsD 1), .r f]]) s c):Ex (.t [.s "body",A, .t [.t [], .r f]]) (cp (nm 0++(": ":Str))++s) (c+4):=by
 refine cF (c:=c+3) (px (by kernel_rfl)) aFh fun st hst=>?_;have h1:cH [A, .t [.t [], .r f]] st=some (.t [.s (nm 0), .t [.s "statement",A, .t [.t (nmsD 1), .r f]]],st):=kT (n:=0) (by omega) (hst f rfl);have q:(nm 0).length+(": ":Str).length≤sizeLine:=zl (by decide +kernel);generalize nm 0=N at h1 q ⊢;generalize nmsD 1=X at h1 h ⊢;refine MkP.eq (m:=eL (aC (eC (.s (N++(": ":Str)))) (aC (eC (.t [.s "statement",A, .t [.t X, .r f]])) aN)) []) (dP (xs:=[.s (N++(": ":Str)), .t [.s "statement",A, .t [.t X, .r f]]]) (by simp) (by simp) (gX (fB h)) ?_) ?_
 ·intro y hy g hg;simp at hy;rcases hy with rfl|rfl
  ·cases hg
  ·exact hg
 ·simp[iN,iM,h1,aI q]
theorem oF{n:Nat}:(nmsD n).length=n:=by simp[nmsD]
theorem aFn{w K:Str}{A:D}{n f c:Nat}{s:List Nat}(hw:w="all"∨w="some")(hK:K.length≤100)(hn:n≤60)(h:Ex (.t [.s "statement",A, .t [.t (nmsD (n+1)), .r f]]) s c):Ex (.t [.s "statement", .t [.s w, .s K,A], .t [.t (nmsD n), .r f]]) (cp (w++(" ":Str)++nm n++(" ":Str)++K++(": ":Str))++s) (c+4):=by
 refine cF (c:=c+3) (px (by kernel_rfl)) gY fun st hst=>?_;have h1:=kT (A:=A) hn (hst f rfl);have hnl:=fA n (by omega);have hb:∀ st:Sto,inD (.s w) cJ st=some (.b true,st):=by rcases hw with rfl|rfl<;>(intro st;exact(uW (ss:=["all","some"]) (st:=st)).trans (by rw[show(["all","some"]:List Str).contains _=true by decide]))
 have hwl:w.length≤10:=by rcases hw with rfl|rfl<;>decide
 have w2:(w==("false":Str))=false:=by rcases hw with rfl|rfl<;>decide
 have w3:(w==("atom":Str))=false:=by rcases hw with rfl|rfl<;>decide
 have w4:(w==("same":Str))=false:=by rcases hw with rfl|rfl<;>decide
 have l1:(" ":Str).length=1:=by decide
 have l2:(": ":Str).length=2:=by decide
 have q1:w.length+(" ":Str).length≤sizeLine:=zl (by rw[l1];omega);have q2:(w++(" ":Str)).length+(nm n).length≤sizeLine:=zl (by simp only[len_app,l1];omega);have q3:(w++(" ":Str)++nm n).length+(" ":Str).length≤sizeLine:=zl (by simp only[len_app,l1];omega);have q4:(w++(" ":Str)++nm n++(" ":Str)).length+K.length≤sizeLine:=zl (by simp only[len_app,l1];omega);have q5:(w++(" ":Str)++nm n++(" ":Str)++K).length+(": ":Str).length≤sizeLine:=zl (by simp only[len_app,l1,l2];omega);generalize nm n=N at h1 q2 q3 q4 q5 ⊢;generalize nmsD (n+1)=X at h1 h ⊢;generalize nmsD n=Y at h1 hst ⊢;refine MkP.eq (m:=eL (aC (eC (.s (w++(" ":Str)++N++(" ":Str)++K++(": ":Str)))) (aC (eC (.t [.s "statement",A, .t [.t X, .r f]])) aN)) []) (dP (xs:=[.s (w++(" ":Str)++N++(" ":Str)++K++(": ":Str)), .t [.s "statement",A, .t [.t X, .r f]]]) (by simp) (by simp) (gX (fB h)) ?_) ?_
 ·intro y hy g hg;simp at hy;rcases hy with rfl|rfl
  ·cases hg
  ·exact hg
 ·simp[bA,aZ,w2,w3,w4,hb,h1,aI q1,aI q2,aI q3,aI q4,aI q5]
theorem uX{w j:Str}{A B:D}{c c':Nat}{s s':List Nat}(hw:(w="and"∧j=" and ")∨(w="or"∧j=" or ")∨(w="if"∧j=" -> "))(h:Ex (.t [.s "statement",A,ar]) s c)(h':Ex (.t [.s "statement",B,ar]) s' c'):Ex (.t [.s "statement", .t [.s w,A,B],ar]) (cp "("++(s++(cp j++(s'++cp ")")))) (c+c'+9):=by
 refine cF (c:=c+c'+8) (px (by kernel_rfl)) gY fun st hst=>?_;have hb:∀ st:Sto,inD (.s w) cJ st=some (.b false,st):=by rcases hw with⟨rfl,rfl⟩|⟨rfl,rfl⟩|⟨rfl,rfl⟩<;>(intro st;exact(uW (ss:=["all","some"]) (st:=st)).trans (by rw[show(["all","some"]:List Str).contains _=false by decide]))
 have hj:∀ st:Sto,ixD jT (.s w) st=some (.s j,st):=by rcases hw with⟨rfl,rfl⟩|⟨rfl,rfl⟩|⟨rfl,rfl⟩<;>exact px (by kernel_rfl)
 have w2:(w==("false":Str))=false:=by rcases hw with⟨rfl,rfl⟩|⟨rfl,rfl⟩|⟨rfl,rfl⟩<;>decide
 have w3:(w==("atom":Str))=false:=by rcases hw with⟨rfl,rfl⟩|⟨rfl,rfl⟩|⟨rfl,rfl⟩<;>decide
 have w4:(w==("same":Str))=false:=by rcases hw with⟨rfl,rfl⟩|⟨rfl,rfl⟩|⟨rfl,rfl⟩<;>decide
 have e:=gX (x:="(") (mI h (gX (x:=j) (mI h' (gX (x:=")") oE))));rw[V12,show c+(c'+(0+2)+1+2)+1+2=c+c'+8 by omega] at e;refine MkP.eq (m:=eL (aC (eC (.s "(")) (aC (eC (.t [.s "statement",A,ar])) (aC (eC (.s j)) (aC (eC (.t [.s "statement",B,ar])) (aC (eC (.s ")")) aN))))) []) (dP (xs:=[.s "(", .t [.s "statement",A,ar], .s j, .t [.s "statement",B,ar], .s ")"]) (by simp) (by simp) e ?_) ?_
 ·intro y hy g hg;simp at hy;rcases hy with rfl|rfl|rfl|rfl|rfl<;>first|exact hg|cases hg
 ·simp[bA,aZ,w2,w3,w4,hb,hj]
end
def PartOk(sort:Str)(part:D)(p:List Nat×Nat):Prop:=(atHand sort=true→∃ c,c≤50000∧NF part c)∧∃ c,p.2=c+1∧∀ ar,ArF sort ar→Ex (.t [.s sort,part,ar]) p.1 c
section
variable{st:Sto}{ar:D}
theorem uY{sort:Str}{part:D}{p:List Nat×Nat}{n:Nat}{env:En}{e:En→M D}(h:PartOk sort part p)(st1:Sto)(hn:n≤st1.length)(he:e env st1=aU [.s sort,part] st1):MkP (eL (aC e aN) env) st1 (RowP none n p):=by
 obtain⟨h1,c,hc,h2⟩:=h;have hN:∃ c,atHand sort=true→NF part c∧c≤50000:=by
  cases hh:atHand sort with
  |false=>exact⟨0,fun e=>by cases e⟩
  |true=>obtain⟨c,a,b⟩:=h1 hh;exact⟨c,fun _=>⟨b,a⟩⟩
 obtain⟨c0,hN⟩:=hN;obtain⟨ar,st2,e1,x1,f1,k1⟩:=jQ hN st1;refine⟨st2.length,st2++[.l [.t [.s sort,part,ar]]],[.t [.s sort,part,ar]],?_,x1.trans (Ext.app _ _),by simp,by simp,by rw[hc];exact fB (h2 ar f1),?_⟩
 ·simp[he,e1]
 ·intro x hx f hf;simp at hx;subst hx;obtain⟨q1,q2⟩:=k1 f hf;exact .inr ⟨by omega,Ext.app _ _ _ _ q2⟩
theorem aCY(xs ys:List D)(h:xs.length=ys.length):(zipL xs ys).length=ys.length:=by simp[zipL,h]
theorem uZ{w:Str}{sorts:List Str}{parts:List D}{L:List (List Nat×Nat)}(hs:sorts.length=L.length)(hp:parts.length=L.length)(h:∀ (i:Nat) s d p,sorts[i]?=some s→parts[i]?=some d→L[i]?=some p→PartOk s d p)(hL:cmC L≤50000)(hL2:L.length≤1000)(hw:w.length≤1000):
  MkP (jD [.s w, .k (sorts.map D.s), .t parts]) st (Told none st.length (cp (w++("(":Str))++(cmS true L++cp ")")) (cmC L+4)):=by
 have hq:w.length+("(":Str).length≤sizeLine:=zl (by rw[ls3];omega);have hz:∀ st:Sto,zipD [.k (sorts.map D.s), .t parts] st=some ((zipL (sorts.map D.s) parts,fun _=>True),st):=fun st=>by
  show need _ _ st=_;rw[dZ (by simp;omega)]
  rfl
 refine nD rfl (lD (its:=(zipL (sorts.map D.s) parts,fun _=>True)) (fun st=>by simp[aI hq]) (fun st=>by simp) (fun st1 _=>by simp[hz]) (fun _ _=>trivial) (by rw[aCY _ _ (by simp;omega)];exact hp) ?_ hL hL2);intro i x p h1 h2 st1 x1;obtain⟨a,b,h3,h4,rfl⟩:=yD h1;rw[Z13] at h3;obtain⟨s,h5,rfl⟩:=Z12.mp h3;refine⟨[.s s,b],?_,uY (h i s b p h5 h4 h2) st1 x1.len (by simp[capD])⟩;unfold bdT
 rfl
theorem xD{x:D}{xs:List D}:L2.cutD (x::xs) (some 1) none=xs:=by
 have h1:HT.sIx (x::xs).length 0 (some 1)=1:=by simp[HT.sIx]
 have h2:HT.sIx (x::xs).length (x::xs).length none=(x::xs).length:=by simp[HT.sIx]
 unfold L2.cutD;rw[h1,h2];simp
theorem fR{w:Str}{sorts:List Str}{parts:List D}{L:List (List Nat×Nat)}(hR:∀ st,ixD bC (.s w) st=some (.k (sorts.map D.s),st))(hs:sorts.length=L.length)(hp:parts.length=L.length)(h:∀ (i:Nat) s d p,sorts[i]?=some s→parts[i]?=some d→L[i]?=some p→PartOk s d p)(hL:cmC L≤50000)(hL2:L.length≤1000)(hw:w.length≤1000):
  Ex (.t [.s "reason", .t (.s w::parts),ar]) (cp (w++("(":Str))++(cmS true L++cp ")")) (cmC L+5):=by
 refine cF (c:=cmC L+4) (px (by kernel_rfl)) aAA fun st _=>?_;refine MkP.eq ((uZ (w:=w) (sorts:=sorts) (parts:=parts) hs hp h hL hL2 hw).imp fun st' w' _ q=>q.mono (B:=arf ar) fun f hf=>by cases hf) ?_;simp[gJ,gI,hR,xD];cases jD [.s w, .k (sorts.map D.s), .t parts] st<;>rfl
theorem lE{w:Str}{sorts:List Str}{parts:List D}{L:List (List Nat×Nat)}(hR:∀ st,ixD aO (.s w) st=some (.k (sorts.map D.s),st))(hs:sorts.length=L.length)(hp:parts.length=L.length)(h:∀ (i:Nat) s d p,sorts[i]?=some s→parts[i]?=some d→L[i]?=some p→PartOk s d p)(hL:cmC L≤50000)(hL2:L.length≤1000)(hw:w.length≤1000):
  Ex (.t [.s "tactic", .t (.s w::parts),ar]) (cp (w++("(":Str))++(cmS true L++cp ")")) (cmC L+5):=by
 refine cF (c:=cmC L+4) (px (by kernel_rfl)) aAB fun st _=>?_;refine MkP.eq ((uZ (w:=w) (sorts:=sorts) (parts:=parts) hs hp h hL hL2 hw).imp fun st' w' _ q=>q.mono (B:=arf ar) fun f hf=>by cases hf) ?_;simp[gL,gK,hR,xD];cases jD [.s w, .k (sorts.map D.s), .t parts] st<;>rfl
theorem aCZ{sort:Str}{parts:List D}{L:List (List Nat×Nat)}(hp:parts.length=L.length)(h:∀ (i:Nat) d p,parts[i]?=some d→L[i]?=some p→PartOk sort d p)(hL:cmC L≤50000)(hL2:L.length≤1000):
  MkP (eA [.s sort, .t parts]) st (Told none st.length (cp "["++(cmS true L++cp "]")) (cmC L+4)):=by
 refine nD rfl (lD (its:=(parts,fun _=>True)) (fun st=>by simp) (fun st=>by simp) (fun st1 _=>by simp) (fun _ _=>trivial) hp ?_ hL hL2);intro i x p h1 h2 st1 x1;exact⟨[x],rfl,uY (h i x p h1 h2) st1 x1.len (by simp[capD])⟩
theorem xE{parts:List D}{L:List (List Nat×Nat)}(hp:parts.length=L.length)(h:∀ (i:Nat) d p,parts[i]?=some d→L[i]?=some p→PartOk "tactic" d p)(hL:cmC L≤50000)(hL2:L.length≤1000):
  Ex (.t [.s "tactics", .t parts,ar]) (cp "["++(cmS true L++cp "]")) (cmC L+5):=by
 refine cF (c:=cmC L+4) (px (by kernel_rfl)) xC fun st _=>?_;refine MkP.eq ((aCZ (sort:="tactic") hp h hL hL2).imp fun st' w' _ q=>q.mono (B:=arf ar) fun f hf=>by cases hf) ?_;simp[fK,fJ];cases eA [.s "tactic", .t parts] st<;>rfl
theorem aHT{x y z:D}:L2.cutD [x,y,z] none (some 2)=[x,y]:=by
 have h1:HT.sIx [x,y,z].length 0 none=0:=by simp[HT.sIx]
 have h2:HT.sIx [x,y,z].length [x,y,z].length (some 2)=2:=by simp[HT.sIx]
 unfold L2.cutD;rw[h1,h2];simp
theorem yR{sort:Str}{u v q:D}{j:Str}{p:List Nat×Nat}(hsort:∀ st,ixD jU (.s sort) st=some (.fn "reason_rows_pieces",st))(hj:∀ st,∃ st',cK [.t [u,v]] st=some (.s j,st')∧Ext st st')(hjl:j.length≤1000)(h:PartOk "reason" q p)(hL:p.2≤40000):
  Ex (.t [.s sort, .t [.t [u,v,q]],ar]) (cp "["++((cp (j++(" | ":Str))++p.1)++cp "]")) (p.2+9):=by
 refine cF (c:=cmC [(cp (j++(" | ":Str))++p.1,p.2+2)]+4) hsort aFj fun st _=>?_;have hq:j.length+(" | ":Str).length≤sizeLine:=zl (by rw[show(" | ":Str).length=3 by decide];omega);have key:MkP (cX [.t [.t [u,v,q]],ar]) st (Told none st.length (cp "["++(cmS true [(cp (j++(" | ":Str))++p.1,p.2+2)]++cp "]")) (cmC [(cp (j++(" | ":Str))++p.1,p.2+2)]+4)):=by
  refine nD rfl (lD (its:=([.t [u,v,q]],fun _=>True)) (fun st=>by simp) (fun st=>by simp) (fun st1 _=>by simp) (fun _ _=>trivial) rfl ?_ (by simp[cmC];omega) (by simp));intro i x p' h1 h2 st1 x1;have hi:i=0:=by
   have:=(Z10.mp h1).1
   simpa using this
  subst hi;simp at h1 h2;subst h1 h2;refine⟨[.t [u,v,q]],rfl,?_⟩;obtain⟨st2,e1,x2⟩:=hj st1;obtain⟨_,c,hc,h3⟩:=h;obtain⟨ar',st3,e2,x3,f1,k1⟩:=jQ (sort:="reason") (part:=q) (c:=0) (fun hh=>absurd hh (by decide)) st2;refine⟨st3.length,st3++[.l [.s (j++(" | ":Str)), .t [.s "reason",q,ar']]],[.s (j++(" | ":Str)), .t [.s "reason",q,ar']],?_,(x2.trans x3).trans (Ext.app _ _),by simp,by simp,?_,?_⟩
  ·simp[aHT,e1,aI hq,e2]
  ·have:=gX (x:=j++(" | ":Str)) (fB (h3 ar' f1));rw[hc];exact this
  ·intro x hx f hf;simp at hx;rcases hx with rfl|rfl
   ·cases hf
   ·obtain⟨q1,q2⟩:=k1 f hf;have:=x1.len;have:=x2.len;exact .inr ⟨by omega,Ext.app _ _ _ _ q2⟩
 refine(key.imp fun st' w' _ q=>?_);have q':=q.mono (B:=arf ar) fun f hf=>by cases hf
 simp only[cmS,V12] at q';exact q'
end
noncomputable def aW:List Str:=["form","call","atom"]
noncomputable def pW:List Str:=["same","and","or","if"]
noncomputable def nW:List Str:=["all","some"]
section
variable{st:Sto}
theorem oG{x:Str}{b:Bool}(h:aW.contains x=b):inD (.s x) jH st=some (.b b,st):=by rw[← h];exact uW (ss:=aW)
theorem tG{x:Str}{b:Bool}(h:pW.contains x=b):inD (.s x) jI st=some (.b b,st):=by rw[← h];exact uW (ss:=pW)
theorem oH{x:Str}{b:Bool}(h:nW.contains x=b):inD (.s x) cJ st=some (.b b,st):=by rw[← h];exact uW (ss:=nW)
theorem tH{w:Str}{x:D}{as:List D}(h:aW.contains w=true):bR [.t [.s w,x, .t as]] st=some (.t as,st):=by
 simp only[bR,fI];simp[oG h]
theorem lF{w:Str}{a b:D}(h1:aW.contains w=false)(h:pW.contains w=true):bR [.t [.s w,a,b]] st=some (.t [a,b],st):=by
 simp only[bR,fI];simp[oG h1,tG h]
theorem yS{w:Str}{k a:D}(h1:aW.contains w=false)(h2:pW.contains w=false)(h:nW.contains w=true):bR [.t [.s w,k,a]] st=some (.t [a],st):=by
 simp only[bR,fI];simp[oG h1,tG h2,oH h]
theorem yT{w:Str}{tl:List D}(h1:aW.contains w=false)(h2:pW.contains w=false)(h:nW.contains w=false):bR [.t (.s w::tl)] st=some (.t [],st):=by
 simp only[bR,fI];simp[oG h1,tG h2,oH h]
end
theorem pU:NF (.t [.s "false"]) 1:=dO (by decide) (fun st=>yT (by decide) (by decide) (by decide)) dN
theorem pV{k:Int}:NF (.t [.s "bound", .i k]) 1:=dO (by decide) (fun st=>yT (by decide) (by decide) (by decide)) dN
theorem aAE:NF qA 1:=dO (by decide) (fun st=>tH (by decide)) dN
theorem aIW:NF (.t [.s "atom", .s "p", .t [.t [.s "bound", .i 0]]]) 3:=dO (by decide) (fun st=>tH (by decide)) (bD dN pV)
theorem aIX{k:Int}:NF (.t [.s "atom", .s "p", .t [.t [.s "bound", .i 0], .t [.s "bound", .i k]]]) 5:=dO (by decide) (fun st=>tH (by decide)) (bD (bD dN pV) pV)
theorem NF.le{d:D}{c c':Nat}(h:NF d c)(hc:c≤c'):NF d c':=fun lp rest a0 a1 a3 st h1 h2=>h lp rest a0 a1 a3 st h1 (by omega)
theorem aDa{m far:Nat}:∀ l,NF (boD m far l) (5+2 * l.length)
 |[]=>by
  unfold boD
  split
  ·exact pU.le (by simp)
  ·exact aIX
 |true::l=>(dO (by decide) (fun st=>yS (by decide) (by decide) (by decide)) (bD dN (aDa l))).le (by simp;omega)
 |false::l=>(dO (by decide) (fun st=>yS (by decide) (by decide) (by decide)) (bD dN (aDa l))).le (by simp;omega)
theorem pX:∀ l,NF (stD l) (5+5 * l.length)
 |[]=>pU.le (by simp)
 |0::l=>(dO (by decide) (fun st=>lF (by decide) (by decide)) (bD (bD dN (pX l)) aAE)).le (by simp;omega)
 |1::l=>(dO (by decide) (fun st=>lF (by decide) (by decide)) (bD (bD dN (pX l)) aAE)).le (by simp;omega)
 |2::l=>(dO (by decide) (fun st=>lF (by decide) (by decide)) (bD (bD dN (pX l)) aAE)).le (by simp;omega)
 |3::l=>(dO (by decide) (fun st=>lF (by decide) (by decide)) (bD (bD dN aAE) (pX l))).le (by simp;omega)
 |4::l=>(dO (by decide) (fun st=>lF (by decide) (by decide)) (bD (bD dN aAE) (pX l))).le (by simp;omega)
 |(k+5)::l=>(dO (by decide) (fun st=>lF (by decide) (by decide)) (bD (bD dN aAE) (pX l))).le (by simp;omega)
theorem ar1{α β:Type}{x:α}{p:β}{P:α→β→Prop}(h:P x p)(i:Nat)(a:α)(q:β)(h1:[x][i]?=some a)(h2:[p][i]?=some q):P a q:=by
 match i,h1,h2 with
 |0,h1,h2=>simp at h1 h2;subst h1 h2;exact h
 |i+1,h1,h2=>simp at h1
theorem ar2{α β:Type}{x x':α}{p p':β}{P:α→β→Prop}(h:P x p)(h':P x' p')(i:Nat)(a:α)(q:β)(h1:[x,x'][i]?=some a)(h2:[p,p'][i]?=some q):P a q:=by
 match i,h1,h2 with
 |0,h1,h2=>simp at h1 h2;subst h1 h2;exact h
 |1,h1,h2=>simp at h1 h2;subst h1 h2;exact h'
 |i+2,h1,h2=>simp at h1
theorem cS1:cp ("S"++("(":Str):Str)++(cp "Z"++cp ", ")=cp "S(Z, ":=by decide +kernel
theorem cf1:cp ("f"++("(":Str):Str)=cp "f(":=by decide +kernel
theorem tmE{ar:D}:∀ l:List Bool,l.length≤1000→Ex (.t [.s "term",tmD l,ar]) (cp (tmS l)) (3+14 * l.length)
 |[],_=>ex_free
 |true::l,h=>by
  simp at h;have ih:=tmE (ar:=ar) l (by omega);have e:=aFl (nm:="f") (args:=[tmD l]) (L:=[(cp (tmS l),3+14 * l.length+1)]) (ar:=ar) rfl (ar1 ⟨_,rfl,ih⟩) (by simp[cmC];omega) (by simp) (by decide);simp only[cmS,V12,cf1] at e;rw[tmS,aE,aE,U10];exact cE e (by simp[cmC];omega)
 |false::l,h=>by
  simp at h;have ih:=tmE (ar:=ar) l (by omega);have e:=aFk (nm:="S") (args:=[.t [.s "form", .s "Z", .t []],tmD l]) (L:=[(cp "Z",4),(cp (tmS l),3+14 * l.length+1)]) (ar:=ar) (by simp) rfl (ar2 ⟨_,rfl,aCX⟩ ⟨_,rfl,ih⟩) (by simp[cmC];omega) (by simp) (by decide);simp only[cmS,V12] at e;rw[tmS,aE,aE,U10,← cS1];have q:cp ("S"++("(":Str):Str)++(cp "Z"++(cp ", "++cp (tmS l))++cp ")")=cp ("S"++("(":Str):Str)++(cp "Z"++cp ", ")++(cp (tmS l)++cp ")"):=by simp only[U10]
  rw[q] at e;exact cE e (by simp[cmC];omega)
theorem cb1:cp ("p"++("(":Str):Str)=cp "p(":=by decide +kernel
theorem cb2:cp " nat: "=cp " "++(cp "nat"++cp ": "):=by decide +kernel
theorem boE{m far f:Nat}(hm:m≤60)(hf:m≠0→far<m):∀ l:List Bool,l.length≤m→Ex (.t [.s "statement",boD m far l, .t [.t (nmsD (m - l.length)), .r f]]) (cp (boS m far l)) (17+4 * l.length)
 |[],_=>by
  unfold boD boS
  split
  ·exact cE pT (by simp)
  ·rename_i h0;have hf:=hf h0;have e:=tF (nm:="p") (args:=[.t [.s "bound", .i ((0:Nat):Int)], .t [.s "bound", .i (far:Nat)]]) (L:=[(cp (nm (m - 1 - 0)),4),(cp (nm (m - 1 - far)),4)]) (ar:=.t [.t (nmsD m), .r f]) rfl (ar2 ⟨_,rfl,pS (by omega)⟩ ⟨_,rfl,pS (by omega)⟩) (by simp[cmC]) (by simp) (by decide);simp only[cmS,V12,cb1] at e;have q:cp "p("++(cp (nm (m - 1 - 0))++(cp ", "++cp (nm (m - 1 - far)))++cp ")")=cp (("p(":Str)++nm (m - 1)++(", ":Str)++nm (m - 1 - far)++(")":Str)):=by simp only[aE,U10,Nat.sub_zero]
   rw[q] at e;exact cE e (by simp[cmC])
 |b::l,h=>by
  simp only[Z14] at h;have ih:=boE (f:=f) hm hf l (by omega);rw[show m - l.length=m - (l.length+1)+1 by omega] at ih;have hh:∀ w:Str,w="all"∨w="some"→Ex (.t [.s "statement", .t [.s w, .s "nat",boD m far l], .t [.t (nmsD (m - (l.length+1))), .r f]]) (cp (w++(" ":Str)++nm (m - 1 - l.length)++(" nat: ":Str)++boS m far l)) (17+4 * (l.length+1)):=by
   intro w hw;have e:=aFn (w:=w) (K:="nat") (A:=boD m far l) (n:=m - (l.length+1)) (f:=f) hw (by decide) (by omega) ih;have q:cp (w++(" ":Str)++nm (m - (l.length+1))++(" ":Str)++("nat":Str)++(": ":Str))++cp (boS m far l)=cp (w++(" ":Str)++nm (m - 1 - l.length)++(" nat: ":Str)++boS m far l):=by
    rw[show m - (l.length+1)=m - 1 - l.length by omega];simp only[aE,cb2,U10]
   rw[q] at e;exact cE e (by omega)
  cases b with
  |true=>exact hh "all" (.inl rfl)
  |false=>exact hh "some" (.inr rfl)
theorem cq1:cp ("q"++("(":Str):Str)++([]++cp ")")=cp "q()":=by decide +kernel
theorem exQ{ar:D}:Ex (.t [.s "statement",qA,ar]) (cp "q()") 5:=by
 have e:=tF (nm:="q") (args:=[]) (L:=[]) (ar:=ar) rfl (fun i a p h=>by simp at h) (by simp[cmC]) (by simp) (by decide);simp only[cmS,cq1] at e;exact e
theorem cq2:cp "q())"=cp "q()"++cp ")":=by decide +kernel
theorem cq3:cp "(q()"=cp "("++cp "q()":=by decide +kernel
theorem stE{ar:D}:∀ l:List Nat,Ex (.t [.s "statement",stD l,ar]) (cp (stS l)) (3+14 * l.length)
 |[]=>pT
 |n::l=>by
  have ih:=stE (ar:=ar) l;have h1:∀ w j:Str,((w="and"∧j=" and ")∨(w="or"∧j=" or ")∨(w="if"∧j=" -> "))→Ex (.t [.s "statement", .t [.s w,stD l,qA],ar]) (cp (("(":Str)++stS l++j++("q())":Str))) (3+14 * (l.length+1)):=by
   intro w j hw;have e:=uX (ar:=ar) hw ih exQ;simp only[aE,cq2,U10];exact cE e (by omega)
  have h2:∀ w j:Str,((w="and"∧j=" and ")∨(w="or"∧j=" or ")∨(w="if"∧j=" -> "))→Ex (.t [.s "statement", .t [.s w,qA,stD l],ar]) (cp (("(q()":Str)++j++stS l++(")":Str))) (3+14 * (l.length+1)):=by
   intro w j hw;have e:=uX (ar:=ar) hw exQ ih;simp only[aE,cq3,U10];exact cE e (by omega)
  match n with
  |0=>exact h1 _ _ (.inl ⟨rfl,rfl⟩)
  |1=>exact h1 _ _ (.inr (.inl ⟨rfl,rfl⟩))
  |2=>exact h1 _ _ (.inr (.inr ⟨rfl,rfl⟩))
  |3=>exact h2 _ _ (.inl ⟨rfl,rfl⟩)
  |4=>exact h2 _ _ (.inr (.inl ⟨rfl,rfl⟩))
  |k+5=>exact h2 _ _ (.inr (.inr ⟨rfl,rfl⟩))
theorem bH{sort:Str}{d:D}{s:List Nat}{c:Nat}(h:atHand sort=false)(e:∀ ar,Ex (.t [.s sort,d,ar]) s c):PartOk sort d (s,c+1):=⟨fun q=>(by rw[h] at q;cases q),c,rfl,fun ar _=>e ar⟩
theorem ps1{s:Str}{d:D}{p:List Nat×Nat}(h:PartOk s d p)(i:Nat)(a:Str)(b:D)(q:List Nat×Nat)(h0:[s][i]?=some a)(h1:[d][i]?=some b)(h2:[p][i]?=some q):PartOk a b q:=by
 match i,h0,h1,h2 with
 |0,h0,h1,h2=>simp at h0 h1 h2;subst h0 h1 h2;exact h
 |i+1,h0,h1,h2=>simp at h1
theorem ps2{s s':Str}{d d':D}{p p':List Nat×Nat}(h:PartOk s d p)(h':PartOk s' d' p')(i:Nat)(a:Str)(b:D)(q:List Nat×Nat)(h0:[s,s'][i]?=some a)(h1:[d,d'][i]?=some b)(h2:[p,p'][i]?=some q):PartOk a b q:=by
 match i,h0,h1,h2 with
 |0,h0,h1,h2=>simp at h0 h1 h2;subst h0 h1 h2;exact h
 |1,h0,h1,h2=>simp at h0 h1 h2;subst h0 h1 h2;exact h'
 |i+2,h0,h1,h2=>simp at h1
theorem ps3{s s' s2:Str}{d d' d2:D}{p p' p2:List Nat×Nat}(h:PartOk s d p)(h':PartOk s' d' p')(h3:PartOk s2 d2 p2)(i:Nat)(a:Str)(b:D)(q:List Nat×Nat)(h0:[s,s',s2][i]?=some a)(h1:[d,d',d2][i]?=some b)(h2:[p,p',p2][i]?=some q):PartOk a b q:=by
 match i,h0,h1,h2 with
 |0,h0,h1,h2=>simp at h0 h1 h2;subst h0 h1 h2;exact h
 |1,h0,h1,h2=>simp at h0 h1 h2;subst h0 h1 h2;exact h'
 |2,h0,h1,h2=>simp at h0 h1 h2;subst h0 h1 h2;exact h3
 |i+3,h0,h1,h2=>simp at h1
theorem aIY{x:Str}:PartOk "h" (.s x) (cp x,4):=bH (by decide) fun ar=>yQ (px (by kernel_rfl))
theorem aJm{x:Str}:PartOk "K" (.s x) (cp x,4):=bH (by decide) fun ar=>yQ (px (by kernel_rfl))
theorem aDb:PartOk "statement" (.t [.s "false"]) (cp "false",4):=⟨fun _=>⟨1,by decide,pU⟩,3,rfl,fun ar _=>pT⟩
theorem ce1:cp (nm 0++(": ":Str))++(cp ("p"++("(":Str):Str)++(cp (nm (1 - 1 - 0))++cp ")"))=cp "x: p(x)":=by decide +kernel
theorem aFo:PartOk "body" (.t [.s "atom", .s "p", .t [.t [.s "bound", .i 0]]]) (cp "x: p(x)",16):=by
 refine⟨fun _=>⟨3,by decide,aIW⟩,15,rfl,fun ar h=>?_⟩;obtain⟨f,rfl⟩:∃ f,ar=.t [.t [], .r f]:=h;have e:=aFm (tF (nm:="p") (args:=[.t [.s "bound", .i ((0:Nat):Int)]]) (L:=[(cp (nm (1 - 1 - 0)),4)]) (ar:=.t [.t (nmsD 1), .r f]) rfl (ar1 ⟨_,rfl,pS (by omega)⟩) (by simp[cmC]) (by simp) (by decide));simp only[cmS,V12,ce1] at e;exact e
theorem aDc(st:Sto):∃ st',cK [.t [.t [], .s "h"]] st=some (.s " | h",st')∧Ext st st':=by
 refine⟨st++[.l [.s "", .s "h"]],?_,Ext.app _ _⟩;have h1:isinstD [.t [], .ty "str"] st=some (.b false,st):=by
  show(if "tuple"="str" then some (D.b true,st) else if("tuple","str")∈notTy then some (D.b false,st) else none)=_;rw[if_neg (by decide),if_pos (by decide)]
 have h2:isinstD [.s "h", .ty "str"] st=some (.b true,st):=rfl;have h3:joinD (.s " ") [.t []] st=some (.s "",st):=by
  show need (JoinOk " " []=true) _ st=_;rw[dZ (by decide)]
  rfl
 have h4:(st++[C.l [.s "", .s "h"]])[st.length]?=some (.l [.s "", .s "h"]):=by simp
 have h5:joinD (.s " | ") [.r st.length] (st++[.l [.s "", .s "h"]])=some (.s " | h",st++[.l [.s "", .s "h"]]):=by
  show bnd (getL st.length) _ _=_;rw[aQ (dF h4)];show need (JoinOk " | " ["","h"]=true) _ _=_;rw[dZ (by decide)];have:Txt.join " | " ["","h"]=" | h":=by decide +kernel
  show some (D.s (Txt.join " | " ["","h"]),_)=_;rw[this]
 have hz:(2:Nat)<sizeLine:=by rw[Y14];decide
 simp[cK,gW,compD,bd1,capD,h1,h2,h3,h5,aI hz]
theorem aAF(st:Sto):∃ st',cK [.t [.t [.s "n"], .t [.s "g", .s "h"]]] st=some (.s "n | g h",st')∧Ext st st':=by
 refine⟨st++[.l [.s "n", .s "g h"]],?_,Ext.app _ _⟩;have h1:∀ xs:List D,isinstD [.t xs, .ty "str"] st=some (.b false,st):=fun xs=>by
  show(if "tuple"="str" then some (D.b true,st) else if("tuple","str")∈notTy then some (D.b false,st) else none)=_;rw[if_neg (by decide),if_pos (by decide)]
 have h3:joinD (.s " ") [.t [.s "n"]] st=some (.s "n",st):=by
  show need (JoinOk " " ["n"]=true) _ st=_;rw[dZ (by decide)]
  rfl
 have h3':joinD (.s " ") [.t [.s "g", .s "h"]] st=some (.s "g h",st):=by
  show need (JoinOk " " ["g","h"]=true) _ st=_;rw[dZ (by decide)];have:Txt.join " " ["g","h"]="g h":=by decide +kernel
  show some (D.s (Txt.join " " ["g","h"]),_)=_;rw[this]
 have h4:(st++[C.l [.s "n", .s "g h"]])[st.length]?=some (.l [.s "n", .s "g h"]):=by simp
 have h5:joinD (.s " | ") [.r st.length] (st++[.l [.s "n", .s "g h"]])=some (.s "n | g h",st++[.l [.s "n", .s "g h"]]):=by
  show bnd (getL st.length) _ _=_;rw[aQ (dF h4)];show need (JoinOk " | " ["n","g h"]=true) _ _=_;rw[dZ (by decide)];have:Txt.join " | " ["n","g h"]="n | g h":=by decide +kernel
  show some (D.s (Txt.join " | " ["n","g h"]),_)=_;rw[this]
 have hz:(2:Nat)<sizeLine:=by rw[Y14];decide
 simp[cK,gW,compD,bd1,capD,h1,h3,h3',h5,aI hz]
theorem cr0:cp ("fact"++("(":Str):Str)++(cp "h"++cp ")")=cp "fact(h)":=by decide +kernel
theorem cr1:cp "give(hole("=cp ("give"++("(":Str):Str)++cp ("hole"++("(":Str):Str):=by decide +kernel
theorem cr2:cp "), "=cp ")"++cp ", ":=by decide +kernel
theorem cr3:cp "into(h, false, "=cp ("into"++("(":Str):Str)++(cp "h"++(cp ", "++(cp "false"++cp ", "))):=by decide +kernel
theorem cr4:cp "forms(n, [ | h | "=cp ("forms"++("(":Str):Str)++(cp "n"++(cp ", "++(cp "["++cp (" | h"++(" | ":Str):Str)))):=by decide +kernel
theorem cr5:cp "])"=cp "]"++cp ")":=by decide +kernel
theorem cr6:cp "induct(nat, x: p(x), [n | g h | "=cp ("induct"++("(":Str):Str)++(cp "nat"++(cp ", "++(cp "x: p(x)"++(cp ", "++(cp "["++cp ("n | g h"++(" | ":Str):Str)))))):=by decide +kernel
theorem reE{ar:D}:∀ l:List (Nat×Nat),(∀ x∈l,x.2<200)→l.length≤500→Ex (.t [.s "reason",reD l,ar]) (cp (reS l)) (11+42 * l.length)
 |[],_,_=>by
  have e:=fR (ar:=ar) (w:="fact") (sorts:=["h"]) (parts:=[.s "h"]) (L:=[(cp "h",4)]) (px (by kernel_rfl)) rfl rfl (ps1 aIY) (by simp[cmC]) (by simp) (by decide);simp only[cmS,V12,cr0] at e;exact e
 |(n,k)::l,hk,hl=>by
  simp only[Z14] at hl;have hk0:k<200:=hk (n,k) (by simp);have ih:PartOk "reason" (reD l) (cp (reS l),11+42 * l.length+1):=bH (by decide) fun ar=>reE l (fun x hx=>hk x (U13 _ hx)) (by omega);have one:∀ w:Str,(∀ st,ixD bC (.s w) st=some (.k ((["reason"]:List Str).map D.s),st))→w.length≤1000→Ex (.t [.s "reason", .t [.s w,reD l],ar]) (cp (w++("(":Str)++reS l++(")":Str))) (11+42 * (l.length+1)):=by
   intro w hw hwl;have e:=fR (ar:=ar) (w:=w) (sorts:=["reason"]) (parts:=[reD l]) hw rfl rfl (ps1 ih) (by simp[cmC];omega) (by simp) hwl;simp only[cmS,V12] at e;rw[aE,aE,U10];exact cE e (by simp[cmC];omega)
  match n with
  |0=>exact one "first" (px (by kernel_rfl)) (by decide)
  |1=>exact one "unlike" (px (by kernel_rfl)) (by decide)
  |2=>
   have hh:PartOk "reason" (.t [.s "hole", .i (k:Nat)]) (cp ("hole"++("(":Str):Str)++(cp (numS k)++cp ")"),12):=bH (by decide) fun ar=>by
    have e:=fR (ar:=ar) (w:="hole") (sorts:=["number"]) (parts:=[.i (k:Nat)]) (L:=[(cp (numS k),4)]) (px (by kernel_rfl)) rfl rfl (ps1 (bH (by decide) fun ar=>aAD hk0)) (by simp[cmC]) (by simp) (by decide);simp only[cmS,V12] at e;exact e
   have e:=fR (ar:=ar) (w:="give") (sorts:=["reason","reason"]) (parts:=[.t [.s "hole", .i (k:Nat)],reD l]) (px (by kernel_rfl)) rfl rfl (ps2 hh ih) (by simp[cmC];omega) (by simp) (by decide);simp only[cmS,V12] at e;have q:cp (reS ((2,k)::l))=cp ("give"++("(":Str):Str)++((cp ("hole"++("(":Str):Str)++(cp (numS k)++cp ")"))++(cp ", "++cp (reS l))++cp ")"):=by
    show cp (("give(hole(":Str)++numS k++("), ":Str)++reS l++(")":Str))=_;rw[aE,aE,aE,aE,cr1,cr2];simp only[U10]
   rw[q];exact cE e (by simp[cmC];omega)
  |3=>
   have e:=fR (ar:=ar) (w:="into") (sorts:=["h","statement","reason"]) (parts:=[.s "h", .t [.s "false"],reD l]) (px (by kernel_rfl)) rfl rfl (ps3 aIY aDb ih) (by simp[cmC];omega) (by simp) (by decide);simp only[cmS,V12] at e;have q:cp (reS ((3,k)::l))=cp ("into"++("(":Str):Str)++(cp "h"++(cp ", "++(cp "false"++(cp ", "++cp (reS l))))++cp ")"):=by
    show cp (("into(h, false, ":Str)++reS l++(")":Str))=_;rw[aE,aE,cr3];simp only[U10]
   rw[q];exact cE e (by simp[cmC];omega)
  |4=>
   have hr:PartOk "forms rows" (.t [.t [.t [], .s "h",reD l]]) (cp "["++((cp (" | h"++(" | ":Str):Str)++cp (reS l))++cp "]"),11+42 * l.length+1+9+1):=bH (by decide) fun ar=>yR (px (by kernel_rfl)) aDc (by decide) ih (by show _+1≤_;omega);have e:=fR (ar:=ar) (w:="forms") (sorts:=["term","forms rows"]) (parts:=[.t [.s "free", .s "n"], .t [.t [.t [], .s "h",reD l]]]) (px (by kernel_rfl)) rfl rfl (ps2 (bH (c:=3) (by decide) fun ar=>ex_free) hr) (by simp[cmC];omega) (by simp) (by decide);simp only[cmS,V12] at e;have q:cp (reS ((4,k)::l))=cp ("forms"++("(":Str):Str)++(cp "n"++(cp ", "++(cp "["++((cp (" | h"++(" | ":Str):Str)++cp (reS l))++cp "]")))++cp ")"):=by
    show cp (("forms(n, [ | h | ":Str)++reS l++("])":Str))=_;rw[aE,aE,cr4,cr5];simp only[U10]
   rw[q];exact cE e (by simp[cmC];omega)
  |n+5=>
   have hr:PartOk "induct rows" (.t [.t [.t [.s "n"], .t [.s "g", .s "h"],reD l]]) (cp "["++((cp ("n | g h"++(" | ":Str):Str)++cp (reS l))++cp "]"),11+42 * l.length+1+9+1):=bH (by decide) fun ar=>yR (px (by kernel_rfl)) aAF (by decide) ih (by show _+1≤_;omega);have e:=fR (ar:=ar) (w:="induct") (sorts:=["K","body","induct rows"]) (parts:=[.s "nat", .t [.s "atom", .s "p", .t [.t [.s "bound", .i 0]]], .t [.t [.t [.s "n"], .t [.s "g", .s "h"],reD l]]]) (px (by kernel_rfl)) rfl rfl (ps3 aJm aFo hr) (by simp[cmC];omega) (by simp) (by decide);simp only[cmS,V12] at e;have q:cp (reS ((n+5,k)::l))=cp ("induct"++("(":Str):Str)++(cp "nat"++(cp ", "++(cp "x: p(x)"++(cp ", "++(cp "["++((cp ("n | g h"++(" | ":Str):Str)++cp (reS l))++cp "]")))))++cp ")"):=by
    show cp (("induct(nat, x: p(x), [n | g h | ":Str)++reS l++("])":Str))=_;rw[aE,aE,cr6,cr5];simp only[U10]
   rw[q];exact cE e (by simp[cmC];omega)
theorem ct0:∀ w:Str,cp (w++("(":Str):Str)++([]++cp ")")=cp (w++("(":Str)++(")":Str)):=fun w=>by simp[aE]
theorem ct1:cp "then("=cp ("then"++("(":Str):Str):=by decide +kernel
theorem ct2:cp ", done())"=cp ", "++(cp ("done"++("(":Str)++(")":Str))++cp ")"):=by decide +kernel
theorem ct3:cp "first([plain(), "=cp ("first"++("(":Str):Str)++(cp "["++(cp ("plain"++("(":Str)++(")":Str))++cp ", ")):=by decide +kernel
theorem ct4:cp "both()"=cp ("both"++("(":Str)++(")":Str)):=by decide +kernel
theorem aDd{ar:D}{w:Str}(hw:∀ st,ixD aO (.s w) st=some (.k (([]:List Str).map D.s),st))(hl:w.length≤1000):Ex (.t [.s "tactic", .t [.s w],ar]) (cp (w++("(":Str)++(")":Str))) 5:=by
 have e:=lE (ar:=ar) (w:=w) (sorts:=[]) (parts:=[]) (L:=[]) hw rfl rfl (fun i s d p h=>by simp at h) (by simp[cmC]) (by simp) hl;simp only[cmS,ct0] at e;exact e
theorem taE{ar:D}:∀ l:List Nat,l.length≤500→Ex (.t [.s "tactic",taD l,ar]) (cp (taS l)) (5+30 * l.length)
 |[],_=>by
  show Ex _ (cp "both()") _;rw[ct4];exact aDd (px (by kernel_rfl)) (by decide)
 |n::l,hl=>by
  simp only[Z14] at hl;have ih:PartOk "tactic" (taD l) (cp (taS l),5+30 * l.length+1):=bH (by decide) fun ar=>taE l (by omega);have one:∀ w:Str,(∀ st,ixD aO (.s w) st=some (.k ((["tactic"]:List Str).map D.s),st))→w.length≤1000→Ex (.t [.s "tactic", .t [.s w,taD l],ar]) (cp (w++("(":Str)++taS l++(")":Str))) (5+30 * (l.length+1)):=by
   intro w hw hwl;have e:=lE (ar:=ar) (w:=w) (sorts:=["tactic"]) (parts:=[taD l]) hw rfl rfl (ps1 ih) (by simp[cmC];omega) (by simp) hwl;simp only[cmS,V12] at e;rw[aE,aE,U10];exact cE e (by simp[cmC];omega)
  match n with
  |0=>
   have hd:PartOk "tactic" (.t [.s "done"]) (cp ("done"++("(":Str)++(")":Str)),6):=bH (by decide) fun ar=>aDd (px (by kernel_rfl)) (by decide);have e:=lE (ar:=ar) (w:="then") (sorts:=["tactic","tactic"]) (parts:=[taD l, .t [.s "done"]]) (px (by kernel_rfl)) rfl rfl (ps2 ih hd) (by simp[cmC];omega) (by simp) (by decide);simp only[cmS,V12] at e;have q:cp (taS (0::l))=cp ("then"++("(":Str):Str)++(cp (taS l)++(cp ", "++cp ("done"++("(":Str)++(")":Str)))++cp ")"):=by
    show cp (("then(":Str)++taS l++(", done())":Str))=_;rw[aE,aE,ct1,ct2];simp only[U10]
   rw[q];exact cE e (by simp[cmC];omega)
  |1=>
   have hd:PartOk "tactic" (.t [.s "plain"]) (cp ("plain"++("(":Str)++(")":Str)),6):=bH (by decide) fun ar=>aDd (px (by kernel_rfl)) (by decide);have ht:PartOk "tactics" (.t [.t [.s "plain"],taD l]) (cp "["++(cp ("plain"++("(":Str)++(")":Str))++(cp ", "++cp (taS l))++cp "]"),5+30 * l.length+1+15+1):=bH (by decide) fun ar=>by
    have e:=xE (ar:=ar) (parts:=[.t [.s "plain"],taD l]) rfl (ar2 hd ih) (by simp[cmC];omega) (by simp);simp only[cmS,V12] at e;exact cE e (by simp[cmC];omega)
   have e:=lE (ar:=ar) (w:="first") (sorts:=["tactics"]) (parts:=[.t [.t [.s "plain"],taD l]]) (px (by kernel_rfl)) rfl rfl (ps1 ht) (by simp[cmC];omega) (by simp) (by decide);simp only[cmS,V12] at e;have q:cp (taS (1::l))=cp ("first"++("(":Str):Str)++(cp "["++(cp ("plain"++("(":Str)++(")":Str))++(cp ", "++cp (taS l))++cp "]")++cp ")"):=by
    show cp (("first([plain(), ":Str)++taS l++("])":Str))=_;rw[aE,aE,ct3,cr5];simp only[U10]
   rw[q];exact cE e (by simp[cmC];omega)
  |2=>exact one "try" (px (by kernel_rfl)) (by decide)
  |n+3=>exact one "again" (px (by kernel_rfl)) (by decide)
theorem dC(x:Str):(cp x).length=x.length:=by simp[cp,Str.length]
theorem yU:∀ ts:List Str,cp (Str.join "" ts)=cat ts
 |[]=>rfl
 |[x]=>by simp[Str.join,cat]
 |x::y::r=>by
  have ih:=yU (y::r);show cp (x++("":Str)++Str.join "" (y::r))=_;rw[aE,aE,ih,show cp ("":Str)=[] by decide];simp[cat]
theorem yV:∀ ts:List Str,(ts.map (·.length)).sum=(cat ts).length
 |[]=>rfl
 |x::r=>by
  have ih:=yV r;simp only[V15,List.sum_cons,ih,cat,List.flatMap_cons,Y13,dC]
theorem aDe{ts:List Str}{s:Str}(h:cat ts=cp s)(hs:s.length≤100000):JoinOk "" ts=true∧Txt.join "" ts=s:=by
 have h1:(ts.map (·.length)).sum=s.length:=by rw[yV,h,dC]
 constructor
 ·unfold JoinOk;rw[Z20];have e:ts.toArray.foldl (fun a p=>a+p.length+("":Str).length) 0=s.length:=by
   rw[StrLaws.joinTotal,h1,show("":Str).length=0 by decide];simp
  rw[e];unfold Builtin.Str.tooLong;simp;have:=zl hs
  omega
 ·show Builtin.Str.glued "" ts=s;rw[StrLaws.glued_eq_join];exact xB (by rw[yU,h])
theorem rK:∀ ts:List Str,strsD (ts.map D.s)=some ts
 |[]=>rfl
 |t::ts=>by
  rw[V15];show(strsD (ts.map D.s)).map _=_;rw[rK ts]
  rfl
theorem jF{sort:Str}{d:D}{c k:Nat}{s:Str}(st:Sto)(hN:atHand sort=true→NF d k∧k≤50000)(hE:∀ ar,ArF sort ar→Ex (.t [.s sort,d,ar]) (cp s) c)(hc:c≤50000)(hs:s.length≤100000):∃ st',fL [.s sort,d] st=some (.s s,st')∧Ext st st':=by
 obtain⟨ar,st1,e1,x1,f1,k1⟩:=jQ hN st;have x2:Ext st1 (st1++[.l [.t [.s sort,d,ar]]]):=Ext.app _ _;have x3:Ext (st1++[.l [.t [.s sort,d,ar]]]) (st1++[.l [.t [.s sort,d,ar]]]++[.l []]):=Ext.app _ _;have h1:(st1++[C.l [.t [.s sort,d,ar]]]++[.l []])[st1.length]?=some (.l ([]++[.t [.s sort,d,ar]])):=by simp
 have h2:(st1++[C.l [.t [.s sort,d,ar]]]++[.l []])[st1.length+1]?=some (.l (([]:List Str).map D.s)):=by simp
 obtain⟨us,a4,a5,st2,g1,g2,g3,g4,g5,g6⟩:=hE ar f1 st1.length (st1.length+1) (some (.s sort)) (some d) [] [] none none _ (by omega) (fun f hf=>by
  obtain⟨q1,q2⟩:=k1 f hf;have:=(Z10.mp q2).1;exact⟨(x2.trans x3) _ _ q2,by omega,by omega⟩) h1 h2 (by simpa using hc) (by simpa using hc)
 have t1:truD (.r st1.length) st2=some (false,st2):=jL g2;have hw:=g1 _ (iE (tb:=bWr) (tc:=tVl (eV 2)) (st1:=st2) (by simp[t1]));obtain⟨j1,j2⟩:=aDe g4 hs;rw[U21] at g3;have hj:joinD (.s "") [.r (st1.length+1)] st2=some (.s s,st2):=by
  show bnd (getL (st1.length+1)) _ _=_;rw[aQ (dF g3),aQ (show opt (strsD (us.map D.s)) st2=some (us,st2) by rw[rK];rfl),dZ j1,j2]
  rfl
 refine⟨st2,?_,fun l x e=>g6 l x (by have:=(Z10.mp e).1;have:=x1.len;omega) (by have:=(Z10.mp e).1;have:=x1.len;omega) ((x1.trans (x2.trans x3)) l x e)⟩;have hw':whC (tVl (eV 2)) bWr [some (.s sort),some d,some (.r st1.length),some (.r (st1.length+1)),none,none] (st1++[.l [.t [.s sort,d,ar]]]++[.l []])=some ((.nx,[some (.s sort),some d,some (.r st1.length),some (.r (st1.length+1)),a4,a5]),st2):=hw;have hb:mX=seqS (sA (eL (aC (eCl aU (aC (eV 0) (aC (eV 1) aN))) aN)) (gN 2)) (seqS (sA (eL aN) (gN 3)) (seqS (sW (tVl (eV 2)) bWr) (sR (eBm "str" joinD (eC (.s "")) (aC (eV 3) aN))))):=rfl;simp only[fL,hb,sW];generalize whC _ bWr=W at hw' ⊢;simp at hw';simp[e1,hw',hj]
section
variable{st:Sto}
theorem vA(l:List Bool)(h:l.length≤100):∃ st',iG [tmD l] st=some (.s (tmS l),st')∧Ext st st':=by
 have:=mF l;obtain⟨st',e,x⟩:=jF (sort:="term") (d:=tmD l) (s:=tmS l) (k:=0) st (fun hh=>absurd hh (by decide)) (fun ar _=>tmE l (by omega)) (by omega) (by omega);exact⟨st',by simp[iG,kC,e],x⟩
theorem aAG{m far:Nat}(l:List Bool)(hm:m<60)(hl:l.length=m)(hf:m≠0→far<m):∃ st',bO [boD m far l] st=some (.s (boS m far l),st')∧Ext st st':=by
 have:=mG (far:=far) hm l;obtain⟨st',e,x⟩:=jF (sort:="statement") (d:=boD m far l) (s:=boS m far l) (k:=5+2 * l.length) st (fun _=>⟨aDa l,by omega⟩) (fun ar h=>by
  obtain⟨f,rfl⟩:∃ f,ar=.t [.t [], .r f]:=h;have:=boE (f:=f) (by omega) hf l (by omega);rw[hl,Nat.sub_self] at this;exact this) (by omega) (by omega)
 exact⟨st',by simp[bO,dJ,e],x⟩
theorem aAH(l:List Nat)(hl:l.length≤100):∃ st',bO [stD l] st=some (.s (stS l),st')∧Ext st st':=by
 have:=oA l;obtain⟨st',e,x⟩:=jF (sort:="statement") (d:=stD l) (s:=stS l) (k:=5+5 * l.length) st (fun _=>⟨pX l,by omega⟩) (fun ar h=>stE l) (by omega) (by omega);exact⟨st',by simp[bO,dJ,e],x⟩
theorem aAI(l:List (Nat×Nat))(hk:∀ x∈l,x.2<200)(hl:l.length≤200):∃ st',fT [reD l] st=some (.s (reS l),st')∧Ext st st':=by
 have:=oC l hk;obtain⟨st',e,x⟩:=jF (sort:="reason") (d:=reD l) (s:=reS l) (k:=0) st (fun hh=>absurd hh (by decide)) (fun ar _=>reE l hk (by omega)) (by omega) (by omega);exact⟨st',by simp[fT,iV,e],x⟩
theorem aAJ(l:List Nat)(hl:l.length≤200):∃ st',fV [taD l] st=some (.s (taS l),st')∧Ext st st':=by
 have:=oB l;obtain⟨st',e,x⟩:=jF (sort:="tactic") (d:=taD l) (s:=taS l) (k:=0) st (fun hh=>absurd hh (by decide)) (fun ar _=>taE l (by omega)) (by omega) (by omega);exact⟨st',by simp[fV,iX,e],x⟩
end
theorem pY(xs:List Nat)(a:Nat):∀ k,a+k≤xs.length→((List.range k).map (a+·)).filterMap (fun i=>xs[i]?)=(xs.drop a).take k
 |0,_=>by simp
 |k+1,h=>by
  have ih:=pY xs a k (by omega);rw[V28,List.map_append,U35,ih];have hk:a+k<xs.length:=by omega
  have e:(xs.drop a).take (k+1)=(xs.drop a).take k++[xs[a+k]]:=by
   rw[List.take_add_one]
   congr 1
   rw[List.getElem?_drop,U17 hk]
   rfl
  rw[e]
  congr 1
  simp[U17 hk]
theorem aDf{a b n:Nat}(ha:a≤n)(hab:a≤b):Builtin.Str.strSliceIndices (some (a:Nat)) (some (b:Nat)) 1 n=(List.range (min b n - a)).map (a+·):=by
 unfold Builtin.Str.strSliceIndices sliceRange;simp only[show(1:Int) > 0 by decide,if_true,show ¬ ((a:Nat):Int)<0 by omega,show ¬ ((b:Nat):Int)<0 by omega,if_false];rw[show max (0:Int) (min ((a:Nat):Int) ((n:Nat):Int))=(a:Nat) by omega,show max (0:Int) (min ((b:Nat):Int) ((n:Nat):Int))=((min b n:Nat):Int) by omega];have hc:(if((a:Nat):Int) < ((min b n:Nat):Int) then(((min b n:Nat):Int) - (a:Nat)+1 - 1) / 1 else 0).toNat=min b n - a:=by
  split<;>omega
 rw[hc]
 apply List.map_congr_left
 intro k _
 omega
theorem vB{tx:Str}{a b:Nat}(ha:a≤tx.length)(hab:a≤b):cp (Txt.slice tx (some (a:Nat)) (some (b:Nat)))=((cp tx).drop a).take (b - a):=by
 have hl:(cp tx).length=tx.length:=dC tx;unfold Txt.slice;rw[aDf ha hab]
 split
 ·rename_i h;simp at h;have h0:a=0∨tx.length=0:=by omega
  rcases h0 with h0|h0
  ·subst h0;rw[List.drop_zero,Y35 (by omega)]
  ·have:cp tx=[]:=Y27 (by omega);rw[this];simp
 ·show(List.filterMap _ _).toArray.toList=_;have e:(fun i:Nat=>tx.cps[i]?)=fun i:Nat=>(cp tx)[i]?:=by funext i;simp[cp]
  rw[List.toList_toArray,e,pY _ _ _ (by omega)];have:min b tx.length - a=min (b - a) (tx.length - a):=by omega
  rw[this,← hl,← Y19];exact(List.take_eq_take_min ..).symm
theorem lG{st:Sto}{c:Nat}{x:Str}:inD (.s ⟨#[c]⟩) (.s x) st=some (.b (decide (c∈cp x)),st):=by
 have e:inB (.s ⟨#[c]⟩) (.s x) st=some (decide (c∈cp x)):=by
  show some (!(Builtin.Str.occurrences x ⟨#[c]⟩ 0 x.length 1).isEmpty)=_;rw[StrLaws.found_one]
 unfold inD;rw[e]
structure RA where
 r:Nat
 n:Nat
 m:Nat
 p:Nat
noncomputable def rdF(A:RA)(tx:Str)(a:Nat):List (Str×D):=[("text", .s tx),("at", .i (a:Nat)),("names", .r A.n),("made", .r A.m),("pending", .r A.p)]
noncomputable def rdO(A:RA)(tx:Str)(a:Nat):C:=.o cC (rdF A tx a)
structure Rd (A:RA) (tx:Str) (a:Nat) (ns ms ps:List D) (st:Sto):Prop where
 o:st[A.r]?=some (rdO A tx a)
 n:st[A.n]?=some (.l ns)
 m:st[A.m]?=some (.l ms)
 p:st[A.p]?=some (.l ps)
 nm:A.n≠A.m
 np:A.n≠A.p
 mp:A.m≠A.p
 al:a≤tx.length
 tl:tx.length≤100000
def Fq(A:RA)(st st':Sto):Prop:=∀ (l:Nat) c,l≠A.r→l≠A.n→l≠A.m→l≠A.p→st[l]?=some c→st'[l]?=some c
theorem Fq.refl(A:RA)(st:Sto):Fq A st st:=fun _ _ _ _ _ _ h=>h
theorem Fq.trans{A:RA}{a b c:Sto}(h:Fq A a b)(h':Fq A b c):Fq A a c:=fun l x n1 n2 n3 n4 e=>h' l x n1 n2 n3 n4 (h l x n1 n2 n3 n4 e)
theorem Fq.of{A:RA}{a b:Sto}(h:Ext a b):Fq A a b:=fun l c _ _ _ _ e=>h l c e
section
variable{A:RA}{tx:Str}{a:Nat}{ns ms ps:List D}{st st':Sto}
theorem Rd.rn(h:Rd A tx a ns ms ps st):A.r≠A.n:=fun e=>by have:=h.o;rw[e,h.n] at this;cases this
theorem Rd.rm(h:Rd A tx a ns ms ps st):A.r≠A.m:=fun e=>by have:=h.o;rw[e,h.m] at this;cases this
theorem Rd.rp(h:Rd A tx a ns ms ps st):A.r≠A.p:=fun e=>by have:=h.o;rw[e,h.p] at this;cases this
theorem Rd.ext(h:Rd A tx a ns ms ps st)(x:Ext st st'):Rd A tx a ns ms ps st':=⟨x _ _ h.o,x _ _ h.n,x _ _ h.m,x _ _ h.p,h.nm,h.np,h.mp,h.al,h.tl⟩
theorem bE{l k:Nat}{c:C}(h:l≠k):(st.set k c)[l]?=st[l]?:=by rw[V21,if_neg (Ne.symm h)]
theorem Rd.setp{ps':List D}(h:Rd A tx a ns ms ps st):Rd A tx a ns ms ps' (st.set A.p (.l ps'))∧Fq A st (st.set A.p (.l ps')):=
 ⟨⟨by rw[bE h.rp];exact h.o,by rw[bE h.np];exact h.n,by rw[bE h.mp];exact h.m,cI h.p,h.nm,h.np,h.mp,h.al,h.tl⟩,fun l c _ _ _ n e=>by rw[bE n];exact e⟩
theorem Rd.setm{ms':List D}(h:Rd A tx a ns ms ps st):Rd A tx a ns ms' ps (st.set A.m (.l ms'))∧Fq A st (st.set A.m (.l ms')):=
 ⟨⟨by rw[bE h.rm];exact h.o,by rw[bE h.nm];exact h.n,cI h.m,by rw[bE h.mp.symm];exact h.p,h.nm,h.np,h.mp,h.al,h.tl⟩,fun l c _ _ n _ e=>by rw[bE n];exact e⟩
theorem Rd.setn{ns':List D}(h:Rd A tx a ns ms ps st):Rd A tx a ns' ms ps (st.set A.n (.l ns'))∧Fq A st (st.set A.n (.l ns')):=
 ⟨⟨by rw[bE h.rn];exact h.o,cI h.n,by rw[bE h.nm.symm];exact h.m,by rw[bE h.np.symm];exact h.p,h.nm,h.np,h.mp,h.al,h.tl⟩,fun l c _ n _ _ e=>by rw[bE n];exact e⟩
theorem Rd.seta{b:Nat}(h:Rd A tx a ns ms ps st)(hb:b≤tx.length):Rd A tx b ns ms ps (st.set A.r (rdO A tx b))∧Fq A st (st.set A.r (rdO A tx b)):=
 ⟨⟨cI h.o,by rw[bE h.rn.symm];exact h.n,by rw[bE h.rm.symm];exact h.m,by rw[bE h.rp.symm];exact h.p,h.nm,h.np,h.mp,hb,h.tl⟩,fun l c n _ _ _ e=>by rw[bE n];exact e⟩
theorem Rd.text(h:Rd A tx a ns ms ps st):fldD cC "text" (.r A.r) st=some (.s tx,st):=pE h.o (by kernel_rfl)
theorem Rd.at_(h:Rd A tx a ns ms ps st):fldD cC "at" (.r A.r) st=some (.i (a:Nat),st):=pE h.o (by kernel_rfl)
theorem Rd.names(h:Rd A tx a ns ms ps st):fldD cC "names" (.r A.r) st=some (.r A.n,st):=pE h.o (by kernel_rfl)
theorem Rd.made(h:Rd A tx a ns ms ps st):fldD cC "made" (.r A.r) st=some (.r A.m,st):=pE h.o (by kernel_rfl)
theorem Rd.pend(h:Rd A tx a ns ms ps st):fldD cC "pending" (.r A.r) st=some (.r A.p,st):=pE h.o (by kernel_rfl)
end
section
variable{A:RA}{tx:Str}{a:Nat}{ns ms ps:List D}{st st':Sto}
theorem mL{C:Addr}{mt:Str}{l:Nat}{fs:List (Str×D)}{st:Sto}(h:st[l]?=some (.o C fs))(hf:fs.lookup mt=none):ofD C mt (.r l) st=some ((),st):=by
 unfold ofD;dsimp only;rw[h];dsimp only;rw[if_pos rfl,hf]
theorem Rd.o_sees(h:Rd A tx a ns ms ps st):ofD cC "sees" (.r A.r) st=some ((),st):=mL h.o (by kernel_rfl)
theorem Rd.o_skip(h:Rd A tx a ns ms ps st):ofD cC "skip" (.r A.r) st=some ((),st):=mL h.o (by kernel_rfl)
theorem Rd.o_run(h:Rd A tx a ns ms ps st):ofD cC "run_of" (.r A.r) st=some ((),st):=mL h.o (by kernel_rfl)
theorem Rd.o_letters(h:Rd A tx a ns ms ps st):ofD cC "letters" (.r A.r) st=some ((),st):=mL h.o (by kernel_rfl)
theorem Rd.o_next(h:Rd A tx a ns ms ps st):ofD cC "next_name" (.r A.r) st=some ((),st):=mL h.o (by kernel_rfl)
theorem Rd.o_later(h:Rd A tx a ns ms ps st):ofD cC "later" (.r A.r) st=some ((),st):=mL h.o (by kernel_rfl)
theorem Rd.o_make(h:Rd A tx a ns ms ps st):ofD cC "make" (.r A.r) st=some ((),st):=mL h.o (by kernel_rfl)
theorem Rd.o_spaced(h:Rd A tx a ns ms ps st):ofD cC "spaced_names" (.r A.r) st=some ((),st):=mL h.o (by kernel_rfl)
theorem Rd.o_end(h:Rd A tx a ns ms ps st):ofD cC "end" (.r A.r) st=some ((),st):=mL h.o (by kernel_rfl)
theorem Rd.put(h:Rd A tx a ns ms ps st){b:Nat}:setF cC "at" (.r A.r) (.i (b:Nat)) st=some ((),st.set A.r (rdO A tx b)):=by
 have e:putO "at" (.i (b:Nat)) (rdF A tx a)=rdF A tx b:=by kernel_rfl
 have:=aCi (f:="at") (y:=.i (b:Nat)) h.o (by show 5<1000;decide);rw[e] at this;exact this
theorem aDg{p:Str}(h:Rd A tx a ns ms ps st)(hp:p.length≤1000):aV [.r A.r, .s p] st=some (.b (decide (((cp tx).drop a).take p.length=cp p)),st):=by
 have h1:tx.length≤sizeLine:=zl h.tl;have h2:p.length≤sizeLine:=zl (by omega);have h3:lenD [.s p] st=some (.i (p.length:Nat),st):=L2.fF h2;have h4:cp (Txt.slice tx (some ((a:Nat):Int)) (some (((a:Nat):Int)+(p.length:Nat))))=((cp tx).drop a).take p.length:=by
  have:=vB (tx:=tx) (a:=a) (b:=a+p.length) h.al (by omega);rw[show a+p.length - a=p.length by omega] at this;rw[← this]
  push_cast
  rfl
 have h5:(Txt.slice tx (some ((a:Nat):Int)) (some (((a:Nat):Int)+(p.length:Nat)))==p)=decide (((cp tx).drop a).take p.length=cp p):=by
  rw[← h4]
  by_cases e:Txt.slice tx (some ((a:Nat):Int)) (some (((a:Nat):Int)+(p.length:Nat)))=p
  ·rw[e];simp
  ·rw[W17 fun q=>e (xB q)]
   simpa using e
 generalize decide (((cp tx).drop a).take p.length=cp p)=B at h5 ⊢;simp[aV,sV,h.text,h.at_,h3,aI h1,h5]
theorem dY{p:Str}{tl:List Nat}(h:Rd A tx a ns ms ps st)(hd:(cp tx).drop a=cp p++tl)(hp:p.length≤1000):aV [.r A.r, .s p] st=some (.b true,st):=by
 rw[aDg h hp,hd,V24];rw[← dC p,List.take_left]
theorem eE{p:Str}(h:Rd A tx a ns ms ps st)(hd:((cp tx).drop a).take p.length≠cp p)(hp:p.length≤1000):aV [.r A.r, .s p] st=some (.b false,st):=by
 rw[aDg h hp,W17 hd]
theorem aIZ{u tl:List Nat}(h:a≤tx.length)(hd:(cp tx).drop a=u++tl):a+u.length≤tx.length:=by
 have:=congrArg List.length hd;rw[Y19,dC,Y13] at this
 omega
theorem cG{u tl:List Nat}(hd:(cp tx).drop a=u++tl):(cp tx).drop (a+u.length)=tl:=by
 rw[← List.drop_drop,hd,List.drop_left]
theorem cR{p:Str}{tl:List Nat}(h:Rd A tx a ns ms ps st)(hd:(cp tx).drop a=cp p++tl)(hp:p.length≤1000):∃ st',eF [.r A.r, .s p] st=some (.no,st')∧Rd A tx (a+(cp p).length) ns ms ps st'∧Fq A st st':=by
 have hb:=aIZ h.al hd;obtain⟨k1,k2⟩:=h.seta hb;refine⟨_,?_,k1,k2⟩;have h1:=dY h hd hp;have h3:lenD [.s p] st=some (.i (p.length:Nat),st):=L2.fF (zl (by omega));have h4:setF cC "at" (.r A.r) (.i (((a:Nat):Int)+(p.length:Nat))) st=some ((),st.set A.r (rdO A tx (a+(cp p).length))):=by
  rw[dC,← h.put]
  push_cast
  rfl
 simp[eF,sX,h.o_sees,h1,h.at_,h3,iaddD,h4]
theorem vC{signs:Str}{tl:List Nat}{w0:Option D}(ht:∀ c,tl.head?=some c→c∉cp signs):∀ (u:List Nat) (a:Nat) (st:Sto),Rd A tx a ns ms ps st→(cp tx).drop a=u++tl→(∀ c∈u,c∈cp signs)→
  ∃ st',whC L41a (sFa cC "at" iaddD (eV 0) (eC (.i 1))) [some (.r A.r),some (.s signs),w0] st=some ((.nx,[some (.r A.r),some (.s signs),w0]),st')∧Rd A tx (a+u.length) ns ms ps st'∧Fq A st st'
 |[],a,st,h,hd,hu=>by
  have h1:tx.length≤sizeLine:=zl h.tl;have h3:lenD [.s tx] st=some (.i (tx.length:Nat),st):=L2.fF h1;refine⟨st,iE ?_,by simpa using h, .refl _ _⟩;cases tl with
  |nil=>
   have hl:=congrArg List.length hd;rw[Y19,dC] at hl;have hlt:¬ ((a:Nat):Int) < (tx.length:Nat):=by simp at hl;omega
   simp[h.at_,h.text,h3,hlt]
  |cons c tl=>
   have hl:=congrArg List.length hd;rw[Y19,dC] at hl;have hlt:a<tx.length:=by simp at hl;omega
   have hg:(cp tx)[a]?=some c:=by
    have:=congrArg List.head? hd;rw[List.head?_drop] at this
    simpa using this
   have hx:ixD (.s tx) (.i (a:Nat)) st=some (.s ⟨#[c]⟩,st):=by
    have e:ixV st (.s tx) (.i (a:Nat))=some (.s ⟨#[c]⟩):=by
     show(if tx.length≤sizeLine then(atI tx.cps.toList (a:Nat)).map fun c=>D.s ⟨#[c]⟩ else none)=_;rw[if_pos h1,fS hg]
     rfl
    unfold ixD;rw[e]
   have hn:decide (c∈cp signs)=false:=W17 (ht c rfl);have hi:=lG (st:=st) (c:=c) (x:=signs);rw[hn] at hi;simp[h.at_,h.text,h3,hlt,hx,hi]
 |c::u,a,st,h,hd,hu=>by
  have h1:tx.length≤sizeLine:=zl h.tl;have h3:lenD [.s tx] st=some (.i (tx.length:Nat),st):=L2.fF h1;have hl:=congrArg List.length hd;rw[Y19,dC] at hl;have hlt:a<tx.length:=by simp at hl;omega
  have hg:(cp tx)[a]?=some c:=by
   have:=congrArg List.head? hd;rw[List.head?_drop] at this
   simpa using this
  have hx:ixD (.s tx) (.i (a:Nat)) st=some (.s ⟨#[c]⟩,st):=by
   have e:ixV st (.s tx) (.i (a:Nat))=some (.s ⟨#[c]⟩):=by
    show(if tx.length≤sizeLine then(atI tx.cps.toList (a:Nat)).map fun c=>D.s ⟨#[c]⟩ else none)=_;rw[if_pos h1,fS hg]
    rfl
   unfold ixD;rw[e]
  have hi:=lG (st:=st) (c:=c) (x:=signs);rw[V24 (hu c (by simp))] at hi;obtain⟨k1,k2⟩:=h.seta (b:=a+1) (by omega);have h4:setF cC "at" (.r A.r) (.i (((a:Nat):Int)+1)) st=some ((),st.set A.r (rdO A tx (a+1))):=by
   rw[← h.put]
   push_cast
   rfl
  have hd1:(cp tx).drop (a+1)=u++tl:=by
   rw[← List.drop_drop,hd];simp
  generalize st.set A.r (rdO A tx (a+1))=st1 at h4 k1 k2;obtain⟨st2,g1,g2,g3⟩:=vC ht u (a+1) st1 k1 hd1 fun x hx=>hu x (by simp[hx]);refine⟨st2,jY (st1:=st) (st2:=st1) (env1:=[some (.r A.r),some (.s signs),w0]) ?_ ?_ g1,by rw[Z14,show a+(u.length+1)=a+1+u.length by omega];exact g2,k2.trans g3⟩
  ·simp[h.at_,h.text,h3,hlt,hx,hi]
  ·simp[h.at_,iaddD,h4]
theorem vE{signs w:Str}{tl:List Nat}(h:Rd A tx a ns ms ps st)(hd:(cp tx).drop a=cp w++tl)(hw:∀ c∈cp w,c∈cp signs)(ht:∀ c,tl.head?=some c→c∉cp signs):∃ st',kI [.r A.r, .s signs] st=some (.s w,st')∧Rd A tx (a+(cp w).length) ns ms ps st'∧Fq A st st':=by
 obtain⟨st1,g1,g2,g3⟩:=vC (w0:=some (.i (a:Nat))) ht (cp w) a st h hd hw;have h1:tx.length≤sizeLine:=zl h.tl;refine⟨st1,?_,g2,g3⟩;have h4:Txt.slice tx (some ((a:Nat):Int)) (some ((a+(cp w).length:Nat):Int))=w:=by
  apply xB
  rw[vB h.al (by omega),hd,show a+(cp w).length - a=(cp w).length by omega,List.take_left]
 have g4:=g2.at_;generalize ((a+(cp w).length:Nat):Int)=q at h4 g4;simp only[kI,mY,sW];generalize whC _ _=W at g1 ⊢;simp[h.at_,g1,g2.text,g4,aI h1,h4]
abbrev LET:Str:="abcdefghijklmnopqrstuvwxyzABCDEFGHIJKLMNOPQRSTUVWXYZ"
theorem cS{w:Str}{tl:List Nat}(h:Rd A tx a ns ms ps st)(hd:(cp tx).drop a=cp w++tl)(hw:∀ c∈cp w,c∈cp LET)(ht:∀ c,tl.head?=some c→c∉cp LET):∃ st',eK [.r A.r] st=some (.s w,st')∧Rd A tx (a+(cp w).length) ns ms ps st'∧Fq A st st':=by
 obtain⟨st1,g1,g2,g3⟩:=vE h hd hw ht;exact⟨st1,by simp[eK,lR,h.o_run,g1],g2,g3⟩
theorem tI{l:Nat}{rows:List D}(h:Rd A tx a ns ms ps st)(hl:st[l]?=some (.l rows))(hb:ps.length+rows.length≤100000):∃ st',aX [.r A.r, .r l] st=some (.no,st')∧Rd A tx a ns ms (ps++rows.reverse) st'∧Fq A st st':=by
 have x1:Ext st (st++[C.l rows.reverse]):=Ext.app _ _;have h1:=h.ext x1;have e1:revD2 (.r l) (.i (-1)) st=some (.r st.length,st++[.l rows.reverse]):=yN hl;have e2:extendD (.r A.p) [.r st.length] (st++[C.l rows.reverse])=some (.no,(st++[C.l rows.reverse]).set A.p (.l (ps++rows.reverse))):=fG h1.p (by simp) (zl (by simp;omega));have e3:chkT "list" (.r A.p) st=some ((),st):=bQ h.p;obtain⟨k1,k2⟩:=h1.setp (ps':=ps++rows.reverse);refine⟨_,?_,k1,(Fq.of x1).trans k2⟩;simp[aX,pO,h.pend,e3,e1,e2]
theorem xF{ds hd:List D}(h:Rd A tx a ns (ms++ds) ps st)(hb:ms.length+ds.length+hd.length+1≤100000):∃ st',lO [.r A.r, .t hd, .i (ds.length:Nat)] st=some (.no,st')∧Rd A tx a ns (ms++[.t (hd++ds)]) ps st'∧Fq A st st':=by
 have e0:lenD [.r A.m] st=some (.i ((ms++ds).length:Nat),st):=sP h.m;have e1:(((ms++ds).length:Nat):Int) - ((ds.length:Nat):Int)=(ms.length:Nat):=by simp
 have hc:L2.cutD (ms++ds) (some ((ms.length:Nat):Int)) none=ds:=by
  have h1:HT.sIx (ms++ds).length 0 (some ((ms.length:Nat):Int))=ms.length:=by simp[HT.sIx];omega
  have h2:HT.sIx (ms++ds).length (ms++ds).length none=(ms++ds).length:=by simp[HT.sIx]
  unfold L2.cutD;rw[h1,h2,List.drop_left];simp
 have e2:slD (.r A.m) (some ((ms.length:Nat):Int)) none st=some (.r st.length,st++[.l ds]):=by rw[aFy h.m,hc]
 have x1:Ext st (st++[.l ds]):=Ext.app _ _;have e3:tupD [.r st.length] (st++[.l ds])=some (.t ds,st++[.l ds]):=aCg (by simp);have q1:hd.length+ds.length≤sizeLine:=zl (by omega);have x2:Ext st (st++[C.l ds]++[C.l [D.t (hd++ds)]]):=x1.trans (Ext.app _ _);have h2:=h.ext x2;have hm:A.m<st.length:=(Z10.mp h.m).1;have e4:setSl (.r A.m) (some ((ms.length:Nat):Int)) (.r (st.length+1)) (st++[C.l ds]++[C.l [D.t (hd++ds)]])=some ((),(st++[C.l ds]++[C.l [D.t (hd++ds)]]).set A.m (.l (ms++[.t (hd++ds)]))):=by
  have hn:(st++[C.l ds]++[.l [.t (hd++ds)]])[st.length+1]?=some (.l [.t (hd++ds)]):=by simp
  unfold setSl;dsimp only;rw[h2.m,hn];dsimp only;rw[if_pos ⟨by omega,by omega,by simp;omega,zl (by simp;omega)⟩];simp
 obtain⟨k1,k2⟩:=h2.setm (ms':=ms++[.t (hd++ds)]);refine⟨_,?_,k1,(Fq.of x2).trans k2⟩;rw[U10] at e4 ⊢;generalize (((ms++ds).length:Nat):Int)=n0 at e0 e1;generalize (((ms.length:Nat)):Int)=q at e1 e2 e4;generalize (((ds.length:Nat)):Int)=k0 at e1 ⊢;have e5:fldD cC "made" (.r A.r) (st++[.l ds, .l [.t (hd++ds)]])=some (.r A.m,st++[.l ds, .l [.t (hd++ds)]]):=by
  have:=h2.made
  simpa using this
 simp at e4;simp[lO,sY,h.made,e0,e1,e2,e3,aI q1,gSl,e5,e4]
end
section
variable{st:Sto}
theorem rL{c:Sto→Prop}{te:En→M D}{cap:En}{f:D→D}(hc:c st):∀ (xs acc:List D),(∀ x∈xs,te ([some x]++cap) st=some (f x,st))→compD c bd1 (fun _=>L2.ret true) te cap xs acc st=some (acc++xs.map f,st)
 |[],acc,_=>by rw[compD,bG hc];simp
 |x::xs,acc,h=>by
  have ih:=rL hc xs (acc++[f x]) fun y hy=>h y (U13 _ hy);rw[compD,bG hc];show(bnd (L2.ret true) fun b=>if b=true then bnd (te ([some x]++cap)) fun z=>compD c bd1 (fun _=>L2.ret true) te cap xs (acc++[z]) else _) st=_;rw[aQ (show(L2.ret true:M Bool) st=some (true,st) from rfl),if_pos rfl,aQ (h x (by simp)),ih];simp
theorem rM:∀ bs:List Bool,boolsD (bs.map D.b)=some bs
 |[]=>rfl
 |t::ts=>by
  rw[V15];show(boolsD (ts.map D.b)).map _=_;rw[rM ts]
  rfl
theorem nO{w:Str}(hw:∀ c∈cp w,c∈cp small)(hl:w.length≤1000):∃ st',gE [.s w] st=some (.b true,st')∧Ext st st':=by
 have h1:compD (fun _=>True) bd1 (fun _=>L2.ret true) (eOp inD (eV 0) (eC (.s small))) [] (chars w) [] st=some ([]++(chars w).map (fun _=>D.b true),st):=by
  refine rL trivial _ _ fun x hx=>?_;unfold chars at hx;obtain⟨c,hc,rfl⟩:=Y36.mp hx;have hi:=lG (st:=st) (c:=c) (x:=small);rw[V24 (hw c hc)] at hi;simp[hi]
 have hcl:(chars w).length=w.length:=by simp[chars,Str.length]
 have h2:(chars w).map (fun _=>D.b true)=(List.replicate w.length true).map D.b:=by
  rw[← hcl];generalize chars w=X
  induction X with
  |nil=>rfl
  |cons x xs ih=>simp[ih,U18]
 rw[U21,h2] at h1;refine⟨st++[.l ((List.replicate w.length true).map D.b)],?_,Ext.app _ _⟩;have h3:allD [.r st.length] (st++[.l ((List.replicate w.length true).map D.b)])=some (.b true,st++[.l ((List.replicate w.length true).map D.b)]):=by
  show bnd (getL st.length) _ _=_;rw[aQ (dF (xs:=(List.replicate w.length true).map D.b) (by simp)),aQ (show opt (boolsD _) _=_ by rw[rM];rfl)];show some (D.b _,_)=_
  congr 3
  simp
 have h4:itD (.s w) st=some ((chars w,fun _=>True),st):=rfl;have hz:(chars w).length<sizeLine:=by rw[hcl,Y14];omega
 have h5:∀ env:En,capD [] env=[]:=fun _=>rfl;generalize (List.replicate w.length true).map D.b=Y at h1 h3 ⊢;generalize chars w=X at h1 h4 hz;simp[gE,kJ,h4,h5,aI hz,h1,h3]
noncomputable def keptW:List Str:=["false","all","some","and","or"]
noncomputable def nmB(w:Str):Bool:=decide (0<w.length)&&decide (w.length≤8)&&(cp w).all (fun c=>decide (c∈cp small))&&!keptW.contains w
theorem nE{w:Str}(h:nmB w=true):∃ st',jE [.s w] st=some (.b true,st')∧Ext st st':=by
 unfold nmB at h;simp only[Z11,W18,U20,Z20] at h;obtain⟨⟨⟨h1,h2⟩,h3⟩,h4⟩:=h;obtain⟨st1,e1,x1⟩:=nO (st:=st) h3 (by omega);refine⟨st1,?_,x1⟩;have h5:lenD [.s w] st=some (.i (w.length:Nat),st):=L2.fF (zl (by omega));have h6:isinstD [.s w, .ty "str"] st=some (.b true,st):=rfl;have h7:(0:Int) < (w.length:Nat):=by omega
 have h8:((w.length:Nat):Int)≤8:=by omega
 have h9:notinD (.s w) gQ st1=some (.b true,st1):=by
  have e:inB (.s w) gQ st1=some false:=by
   show((flD (.s w)).bind fun a=>((keptW.map D.s).mapM flD).map fun vs=>inV a vs)=_;rw[tD];show some (inV (.str w) (keptW.map V.str))=_;rw[yM,h4]
  unfold notinD;rw[e]
  rfl
 generalize ((w.length:Nat):Int)=q at h5 h7 h8;simp[jE,mZ,bU,cQ,h6,h5,h7,h8,e1,h9]
theorem ix0{w:Str}{c:Nat}(h:(cp w).head?=some c)(hl:w.length≤1000):ixD (.s w) (.i 0) st=some (.s ⟨#[c]⟩,st):=by
 have e:ixV st (.s w) (.i 0)=some (.s ⟨#[c]⟩):=by
  show(if w.length≤sizeLine then(atI w.cps.toList 0).map fun c=>D.s ⟨#[c]⟩ else none)=_;rw[if_pos (zl (by omega))];cases q:w.cps.toList with
  |nil=>simp[q] at h
  |cons x xs=>simp[q] at h;subst h;simp
 unfold ixD;rw[e]
abbrev great:Str:="ABCDEFGHIJKLMNOPQRSTUVWXYZ"
theorem lH{w:Str}(h:nmB w=true):bS [.s w] st=some (.b false,st):=by
 unfold nmB at h;simp only[Z11,W18,U20,Z20] at h;obtain⟨⟨⟨h1,h2⟩,h3⟩,h4⟩:=h;have h5:lenD [.s w] st=some (.i (w.length:Nat),st):=L2.fF (zl (by omega));have h6:isinstD [.s w, .ty "str"] st=some (.b true,st):=rfl;have h7:(0:Int) < (w.length:Nat):=by omega
 have h8:((w.length:Nat):Int)≤8:=by omega
 obtain⟨c,r,hc⟩:∃ c r,cp w=c::r:=by
  cases q:cp w with
  |nil=>rw[← dC,q] at h1;simp at h1
  |cons c r=>exact⟨c,r,rfl⟩
 have h9:ixD (.s w) (.i 0) st=some (.s ⟨#[c]⟩,st):=ix0 (by rw[hc];rfl) (by omega);have hg:c∉cp great:=by
  have hs:=h3 c (by rw[hc];simp);have:∀ c∈cp small,c∉cp great:=by decide +kernel
  exact this c hs
 have hi:=lG (st:=st) (c:=c) (x:=great);rw[W17 hg] at hi;generalize ((w.length:Nat):Int)=q at h5 h7 h8;simp[bS,eR,bU,cQ,h6,h5,h7,h8,h9,hi]
theorem tJ{w:Str}(h:w="S"∨w="Z"):∃ st',bS [.s w] st=some (.b true,st')∧Ext st st':=by
 obtain⟨st1,e1,x1⟩:=nO (st:=st) (w:="") (by decide) (by decide);refine⟨st1,?_,x1⟩;have hl:w.length=1:=by rcases h with rfl|rfl<;>decide
 have h5:lenD [.s w] st=some (.i 1,st):=by rw[L2.fF (zl (by omega)),hl];rfl
 have h6:isinstD [.s w, .ty "str"] st=some (.b true,st):=rfl;have hs:Txt.slice w (some 1) none="":=by rcases h with rfl|rfl<;>decide +kernel
 have hq:w.length≤sizeLine:=zl (by omega);obtain⟨c,hc,hg⟩:∃ c,(cp w).head?=some c∧c∈cp great:=by rcases h with rfl|rfl<;>exact⟨_,rfl,by decide +kernel⟩
 have h9:ixD (.s w) (.i 0) st=some (.s ⟨#[c]⟩,st):=ix0 hc (by omega);have hi:=lG (st:=st) (c:=c) (x:=great);rw[V24 hg] at hi;simp[bS,eR,bU,cQ,h6,h5,h9,hi,aI hq,hs,e1]
end
section
variable{A:RA}{tx:Str}{a:Nat}{ns ms ps:List D}{st st':Sto}
theorem aAK:∀ c∈cp small,c∈cp LET:=by decide +kernel
theorem lT{w:Str}(h:nmB w=true):∀ c∈cp w,c∈cp LET:=by
 unfold nmB at h;simp only[Z11,W18,U20,Z20] at h;exact fun c hc=>aAK c (h.1.2 c hc)
theorem hU{w:Str}{tl:List Nat}(h:Rd A tx a ns ms ps st)(hd:(cp tx).drop a=cp w++tl)(hw:nmB w=true)(ht:∀ c,tl.head?=some c→c∉cp LET):∃ st',bX [.r A.r] st=some (.s w,st')∧Rd A tx (a+(cp w).length) ns ms ps st'∧Fq A st st':=by
 obtain⟨st1,g1,g2,g3⟩:=cS h hd (lT hw) ht;obtain⟨st2,e1,x1⟩:=nE (st:=st1) hw;exact⟨st2,by simp[bX,jP,h.o_letters,g1,e1],g2.ext x1,g3.trans (.of x1)⟩
theorem rN{c:Sto→Prop}{X:List D}{x:Str}{k:Nat}(hc:c st)(hx:X[k]?=some (.s x))(hne:∀ j,j<k→∃ y:Str,X[j]?=some (.s y)∧(y==x)=false){e0:Option D}:∀ (m i:Nat) (e2 e3:Option D),i≤k→k<i+m→
  ∃ env',forD c (gT 2 (gsC (gN 2) (gsC (gN 3) gsN))) L47a ((List.range' i m).map fun(j:Nat)=>D.t [.i (j:Nat),X.getD j .no]) [e0,some (.s x),e2,e3] st=some ((.rt (.t [.s "bound", .i (k:Nat)]),env'),st)
 |0,i,e2,e3,h1,h2=>by omega
 |m+1,i,e2,e3,h1,h2=>by
  rw[V36,V15,forD,bG hc]
  by_cases h:i=k
  ·subst h;have hg:X.getD i .no=.s x:=by rw[V19,hx];rfl
   rw[hg];exact⟨_,by simp;rfl⟩
  ·obtain⟨y,hy,hb⟩:=hne i (by omega);have hg:X.getD i .no=.s y:=by rw[V19,hy];rfl
   obtain⟨env',ih⟩:=rN hc hx hne (e0:=e0) m (i+1) (some (.i (i:Nat))) (some (.s y)) (by omega) (by omega);rw[hg];refine⟨env',?_⟩;simp[hb];exact ih
theorem jR{n k l:Nat}(hl:st[l]?=some (.l (nmsD n)))(hn:n≤60)(hk:k<n):fN [.r l, .s (nm (n - 1 - k))] st=some (.t [.s "bound", .i (k:Nat)],st):=by
 have hX:∀ j,j<n→(nmsD n).reverse[j]?=some (.s (nm (n - 1 - j))):=fun j hj=>by
  rw[Y22 (by rw[oF];exact hj),oF];simp[nmsD,List.getElem?_range,show n - 1 - j<n by omega]
 have hrl:(nmsD n).reverse.length=n:=by rw[V23,oF]
 obtain⟨env',h1⟩:=rN (c:=fun st=>st[l]?=some (.l (nmsD n))) (X:=(nmsD n).reverse) (x:=nm (n - 1 - k)) (k:=k) (st:=st) (e0:=some (.r l)) hl (hX k hk) (fun j hj=>⟨nm (n - 1 - j),hX j (by omega),by
  have:nm (n - 1 - j)≠nm (n - 1 - k):=fun e=>by
   have:=aCV _ (by omega) _ (by omega) e
   omega
  simpa using this⟩) n 0 none none (by omega) (by omega)
 have h2:enumRD [.r l] st=some ((enumL (nmsD n).reverse,fun st=>st[l]?=some (.l (nmsD n))),st):=by
  show bnd (getL l) _ st=_;rw[aQ (dF hl)]
  rfl
 have h3:enumL (nmsD n).reverse=(List.range' 0 n).map fun(j:Nat)=>D.t [.i (j:Nat),(nmsD n).reverse.getD j .no]:=by
  unfold enumL;rw[hrl,U36]
 rw[h3] at h2;generalize ((List.range' 0 n).map fun(j:Nat)=>D.t [.i (j:Nat),(nmsD n).reverse.getD j .no])=Y at h1 h2;generalize nm (n - 1 - k)=x at h1 ⊢;simp[fN,lB,h2,h1]
theorem nP{l:Nat}{x:Str}(hl:st[l]?=some (.l [])):fN [.r l, .s x] st=some (.t [.s "free", .s x],st):=by
 have h2:enumRD [.r l] st=some (([],fun st=>st[l]?=some (.l [])),st):=by
  show bnd (getL l) _ st=_;rw[aQ (dF hl)]
  rfl
 simp[fN,lB,h2,forD,chkM,hl]
end
def bRd:Sm':=L71a
def wRd:Sm':=whC (tVl (eFl cC "pending" (eV 3))) bRd
noncomputable def okc(c:Nat):Bool:=!decide (c∈cp LET)&&!decide (c∈cp "0123456789")&&c != 40
noncomputable def foB:List Nat→Bool
 |[]=>true
 |c::r=>if c=32 then r.head? != some 61 else okc c
noncomputable def foP:List Nat→Bool
 |[]=>false
 |c::r=>if c=32 then r.head? != some 61&&!r.isEmpty else okc c
theorem aHU{p X:List Nat}(h:foP p=true):foB (p++X)=true:=by
 match p,h with
 |c::r,h=>
  rw[foP] at h;show foB (c::(r++X))=true;rw[foB]
  by_cases hc:c=32
  ·rw[if_pos hc] at h ⊢;cases r with
   |nil=>simp at h
   |cons d r=>simpa using h
  ·rw[if_neg hc] at h ⊢;exact h
theorem tK{tl:List Nat}(h:foB tl=true):∀ c,tl.head?=some c→c∉cp LET:=by
 intro c hc
 match tl,hc with
 |c::r,hc=>
  cases hc;rw[foB] at h
  by_cases h0:c=32
  ·subst h0;decide +kernel
  ·rw[if_neg h0] at h;unfold okc at h;simp only[Z11,Z20,decide_eq_false_iff_not] at h;exact h.1.1
theorem aHV{tl:List Nat}(h:foB tl=true):∀ c,tl.head?=some c→c∉cp "0123456789":=by
 intro c hc
 match tl,hc with
 |c::r,hc=>
  cases hc;rw[foB] at h
  by_cases h0:c=32
  ·subst h0;decide +kernel
  ·rw[if_neg h0] at h;unfold okc at h;simp only[Z11,Z20,decide_eq_false_iff_not] at h;exact h.1.2
theorem aDh{tl:List Nat}(h:foB tl=true):tl.take 1≠[40]:=by
 intro hc
 match tl,hc with
 |c::r,hc=>
  simp at hc;subst hc;rw[foB] at h;rw[if_neg (by decide)] at h
  revert h
  decide +kernel
theorem aJa{tl:List Nat}(h:foB tl=true):tl.take 3≠[32,61,32]:=by
 intro hc
 match tl,hc with
 |c::d::r,hc=>
  simp at hc;obtain⟨rfl,rfl,_⟩:=hc;rw[foB] at h;rw[if_pos rfl] at h
  revert h
  simp
def Rn(b:Bool)(ps:List D)(n m:List D)(s:List Nat)(n' m':List D)(c:Nat):Prop:=ps.length≤c∧m.length≤c∧∀ (A:RA) (tx:Str) (a:Nat) (tl:List Nat) (rest ms:List D) (a0 a1 a2 a4 a5:Option D) (st:Sto),
 Rd A tx a n (ms++m) (rest++ps.reverse) st→(cp tx).drop a=s++tl→(b=true→foB tl=true)→rest.length+c≤50000→ms.length+c≤50000→
 ∃ a4' a5' st',Rc wRd [a0,a1,a2,some (.r A.r),a4,a5] st [a0,a1,a2,some (.r A.r),a4',a5'] st'∧Rd A tx (a+s.length) n' (ms++m') rest st'∧Fq A st st'
theorem Rn.mono{b:Bool}{ps n m:List D}{s:List Nat}{n' m':List D}{c c':Nat}(h:Rn b ps n m s n' m' c)(hc:c≤c'):Rn b ps n m s n' m' c':=⟨by have:=h.1;omega,by have:=h.2.1;omega,fun A tx a tl rest ms a0 a1 a2 a4 a5 st h1 h2 h3 h4 h5=>h.2.2 A tx a tl rest ms a0 a1 a2 a4 a5 st h1 h2 h3 (by omega) (by omega)⟩
theorem aJb{b:Bool}{n m:List D}:Rn b [] n m [] n m m.length:=⟨Z23 _,Y12 _,fun A tx a tl rest ms a0 a1 a2 a4 a5 st h _ _ _ _=>⟨a4,a5,st, .refl,by simpa using h, .refl _ _⟩⟩
theorem bB{b:Bool}{sort:Str}{rw' qs q0 n m:List D}{fnm:Str}{g:List D→M D}{s1 s2:List Nat}{n1 m1 n2 m2:List D}{c:Nat}(h1:∀ st,ixD gR (.s sort) st=some (.fn fnm,st))(h2:(pick T71.dl 5).lookup fnm=some g)(hm:m.length≤c+1)
  (h:∀ (A:RA) (tx:Str) (a:Nat) (tl:List Nat) (rest ms:List D) (st:Sto),Rd A tx a n (ms++m) rest st→(cp tx).drop a=s1++(s2++tl)→(b=true→foB tl=true)→rest.length+qs.length≤60000→ms.length+m.length≤60000→∃ v st',g [.r A.r, .t (.s sort::rw')] st=some (v,st')∧Rd A tx (a+s1.length) n1 (ms++m1) (rest++qs.reverse) st'∧Fq A st st')
  (h':Rn b (qs++q0) n1 m1 s2 n2 m2 c):Rn b (.t (.s sort::rw')::q0) n m (s1++s2) n2 m2 (c+1):=by
 have hc:=h'.1;rw[Y13] at hc;refine⟨by simp;omega,hm,fun A tx a tl rest ms a0 a1 a2 a4 a5 st k1 k2 k3 k4 k5=>?_⟩;have kp:st[A.p]?=some (.l (rest++q0.reverse++[.t (.s sort::rw')])):=by rw[k1.p];simp
 have e1:truD (.r A.p) st=some (true,st):=by rw[jL kp,mH (by simp)];rfl
 have e2:chkT "list" (.r A.p) st=some ((),st):=bQ kp;have e3:popD (.r A.p) [] st=some (.t (.s sort::rw'),st.set A.p (.l (rest++q0.reverse))):=lM kp;obtain⟨q1,q2⟩:=k1.setp (ps':=rest++q0.reverse);generalize st.set A.p (.l (rest++q0.reverse))=st1 at e3 q1 q2;obtain⟨v,st2,e4,q3,q4⟩:=h A tx a tl (rest++q0.reverse) ms st1 q1 (by rw[k2,U10]) k3 (by simp;omega) (by omega);rw[U10,← List.reverse_append] at q3;obtain⟨c4,c5,st3,g1,g2,g3⟩:=h'.2.2 A tx (a+s1.length) tl rest ms a0 a1 a2 (some (.t (.s sort::rw'))) (some (.fn fnm)) st2 q3 (cG (u:=s1) (by rw[k2,U10])) k3 (by omega) (by omega);refine⟨c4,c5,st3,Rc.trans (fun r hr=>jY (st1:=st) (st2:=st2) (env1:=[a0,a1,a2,some (.r A.r),some (.t (.s sort::rw')),some (.fn fnm)]) ?_ ?_ hr) g1,by rw[Y13,← Nat.add_assoc];exact g2,(q2.trans q4).trans g3⟩
 ·simp[k1.pend,e1]
 ·have f4:dispD (pick T71.dl 5) (.fn fnm) [.r A.r, .t (.s sort::rw')] st1=some (v,st2):=by
   show(match (pick T71.dl 5).lookup fnm with |some g=>g [.r A.r, .t (.s sort::rw')]|none=>bad) st1=_;rw[h2];exact e4
  simp only[bRd,L71a];generalize pick T71.dl 5=TT at f4 ⊢;simp[k1.pend,e2,e3,h1,f4]
noncomputable abbrev tR(s:Str):D:=.t [.s s]
noncomputable abbrev txR(p:Str):D:=.t [.s "text", .s p]
noncomputable abbrev mkR(hd:List D)(k:Nat):D:=.t [.s "make", .t hd, .i (k:Nat)]
noncomputable abbrev liR(sort close:Str):D:=.t [.s "list", .s sort, .s close]
noncomputable abbrev moR(sort close:Str)(k:Nat):D:=.t [.s "more", .s sort, .s close, .i (k:Nat)]
section
variable{b:Bool}{q0 n m:List D}{s2:List Nat}{n2 m2:List D}{c:Nat}
theorem aM{p:Str}(hp:p.length≤1000)(h':Rn b q0 n m s2 n2 m2 c):Rn b (txR p::q0) n m (cp p++s2) n2 m2 (c+1):=by
 refine bB (qs:=[]) (px (by kernel_rfl)) (show(pick T71.dl 5).lookup ("read_text":Str)=some kF by kernel_rfl) (by have:=h'.2.1;omega) (fun A tx a tl rest ms st h1 h2 _ _ _=>?_) h';obtain⟨st',e,q1,q2⟩:=cR (p:=p) h1 h2 hp;exact⟨.no,st',by simp[kF,kE,h1.o_skip,e],by simpa using q1,q2⟩
theorem tL{hd ds:List D}(hh:hd.length≤1000)(hc:m.length+ds.length≤c+1)(h':Rn b q0 n (m++[.t (hd++ds)]) s2 n2 m2 c):Rn b (mkR hd ds.length::q0) n (m++ds) s2 n2 m2 (c+1):=by
 refine bB (s1:=[]) (qs:=[]) (px (by kernel_rfl)) (show(pick T71.dl 5).lookup ("read_make":Str)=some kH by kernel_rfl) (by simp;omega) (fun A tx a tl rest ms st h1 h2 _ _ hb=>?_) h';obtain⟨st',e,q1,q2⟩:=xF (ms:=ms++m) (ds:=ds) (hd:=hd) (by rw[U10];exact h1) (by simp at hb ⊢;omega);refine⟨.no,st',?_,by simpa using q1,q2⟩;generalize ((ds.length:Nat):Int)=k0 at e ⊢;simp[kH,kG,h1.o_make,e]
theorem xG{sort close:Str}(hp:close.length≤1000)(hc:m.length≤c+1)(h':Rn b q0 n (m++[.t []]) s2 n2 m2 c):Rn b (liR sort close::q0) n m (cp close++s2) n2 m2 (c+1):=by
 refine bB (qs:=[]) (px (by kernel_rfl)) (show(pick T71.dl 5).lookup ("read_list":Str)=some gC by kernel_rfl) hc (fun A tx a tl rest ms st h1 h2 _ _ hb=>?_) h';have e0:=dY (p:=close) h1 h2 hp;obtain⟨st1,e1,q1,q2⟩:=cR (p:=close) h1 h2 hp;obtain⟨st2,e2,q3,q4⟩:=xF (ms:=ms++m) (ds:=[]) (hd:=[]) (by rw[V12];exact q1) (by simp at hb ⊢;omega);have e2':lO [.r A.r, .t [], .i 0] st1=some (.no,st2):=e2;refine⟨.no,st2,?_,by simpa using q3,q2.trans q4⟩;simp[gC,iH,h1.o_sees,h1.o_skip,e0,e1,q1.o_make,e2']
theorem lI{sort close:Str}(hp:close.length≤1000)(hs:∀ tl,(s2++tl).take close.length≠cp close)(h':Rn b (tR sort::moR sort close 1::q0) n m s2 n2 m2 c):Rn b (liR sort close::q0) n m s2 n2 m2 (c+1):=by
 refine bB (s1:=[]) (qs:=[tR sort,moR sort close 1]) (px (by kernel_rfl)) (show(pick T71.dl 5).lookup ("read_list":Str)=some gC by kernel_rfl) (by have:=h'.2.1;omega) (fun A tx a tl rest ms st h1 h2 _ hb _=>?_) h';have e0:=eE (p:=close) h1 (by rw[h2];exact hs tl) hp;have x1:Ext st (st++[.l [tR sort,moR sort close 1]]):=Ext.app _ _;obtain⟨st1,e1,q1,q2⟩:=tI (l:=st.length) (rows:=[tR sort,moR sort close 1]) (h1.ext x1) (by simp) (by simp at hb ⊢;omega);have e1':aX [.r A.r, .r st.length] (st++[.l [.t [.s sort], .t [.s "more", .s sort, .s close, .i 1]]])=some (.no,st1):=e1;refine⟨.no,st1,?_,by simpa using q1,(Fq.of x1).trans q2⟩;simp[gC,iH,h1.o_sees,e0,h1.o_later,e1']
theorem pZ{sort close:Str}{ds:List D}(hp:close.length≤1000)(hc:m.length+ds.length≤c+1)(h':Rn b q0 n (m++[.t ds]) s2 n2 m2 c):Rn b (moR sort close ds.length::q0) n (m++ds) (cp close++s2) n2 m2 (c+1):=by
 refine bB (qs:=[]) (px (by kernel_rfl)) (show(pick T71.dl 5).lookup ("read_more":Str)=some gD by kernel_rfl) (by simp;omega) (fun A tx a tl rest ms st h1 h2 _ _ hb=>?_) h';have e0:=dY (p:=close) h1 h2 hp;obtain⟨st1,e1,q1,q2⟩:=cR (p:=close) h1 h2 hp;obtain⟨st2,e2,q3,q4⟩:=xF (ms:=ms++m) (ds:=ds) (hd:=[]) (by rw[U10];exact q1) (by simp at hb ⊢;omega);refine⟨.no,st2,?_,by simpa using q3,q2.trans q4⟩;generalize ((ds.length:Nat):Int)=k0 at e2 ⊢;simp[gD,iI,h1.o_sees,h1.o_skip,e0,e1,q1.o_make,e2]
theorem nF{sort close:Str}{k:Nat}(hp:close.length≤1000)(hs:∀ tl,(cp ", "++(s2++tl)).take close.length≠cp close)(h':Rn b (tR sort::moR sort close (k+1)::q0) n m s2 n2 m2 c):Rn b (moR sort close k::q0) n m (cp ", "++s2) n2 m2 (c+1):=by
 refine bB (qs:=[tR sort,moR sort close (k+1)]) (px (by kernel_rfl)) (show(pick T71.dl 5).lookup ("read_more":Str)=some gD by kernel_rfl) (by have:=h'.2.1;omega) (fun A tx a tl rest ms st h1 h2 _ hb _=>?_) h';have e0:=eE (p:=close) h1 (by rw[h2];exact hs tl) hp;obtain⟨st0,e2,q3,q4⟩:=cR (p:=", ") h1 h2 (by decide);have x1:Ext st0 (st0++[.l [tR sort,moR sort close (k+1)]]):=Ext.app _ _;obtain⟨st1,e1,q1,q2⟩:=tI (l:=st0.length) (rows:=[tR sort,moR sort close (k+1)]) (q3.ext x1) (by simp) (by simp at hb ⊢;omega);have e1':aX [.r A.r, .r st0.length] (st0++[.l [.t [.s sort], .t [.s "more", .s sort, .s close, .i (((k:Nat):Int)+1)]]])=some (.no,st1):=e1;refine⟨.no,st1,?_,by simpa using q1,(q4.trans (Fq.of x1)).trans q2⟩;simp[gD,iI,h1.o_sees,e0,h1.o_skip,e2,q3.o_later,e1']
theorem aJc{ds:List D}(hd:ds.length≤4)(hc:m.length+1≤c+1)(h':Rn b q0 n (m++[.t ds]) s2 n2 m2 c):Rn b (tR "few"::q0) n (m++[.t ds]) s2 n2 m2 (c+1):=by
 refine bB (s1:=[]) (qs:=[]) (px (by kernel_rfl)) (show(pick T71.dl 5).lookup ("read_few":Str)=some lQ by kernel_rfl) (by simp;omega) (fun A tx a tl rest ms st h1 h2 _ _ hb=>?_) h';refine⟨.no,st,?_,by simpa using h1, .refl _ _⟩;have e1:ixD (.r A.m) (.i (-1)) st=some (.t ds,st):=by rw[fX h1.m,← U10,oW];rfl
 have e2:¬ (4:Int) < (ds.length:Nat):=by omega
 generalize hk:((ds.length:Nat):Int)=k0 at e2;have e3:lenD [.t ds] st=some (.i k0,st):=by rw[← hk];rfl
 simp[lQ,lP,h1.made,e1,-aCf,e3,e2]
end
section
variable{b:Bool}{q0 n m:List D}{s2:List Nat}{n2 m2:List D}{c:Nat}
abbrev RT(x:Str)(g:List D→M D):Prop:=(pick T71.dl 5).lookup x=some g
theorem oI:RT "read_term_row" bW:=by kernel_rfl
theorem gZ:RT "read_statement_row" aS:=by kernel_rfl
theorem vF{tl:List Nat}:∀ c,(cp "("++tl).head?=some c→c∉cp LET:=by
 intro c hc;rw[show cp "("=[40] by decide +kernel] at hc;simp at hc;subst hc
 decide +kernel
theorem lpar:("(":Str).length=1:=by decide
theorem appd{A:RA}{tx:Str}{a:Nat}{ns ms ps:List D}{st:Sto}{d:D}(h:Rd A tx a ns ms ps st)(hb:ms.length≤60000):∃ st',appendD (.r A.m) [d] st=some (.no,st')∧Rd A tx a ns (ms++[d]) ps st'∧Fq A st st'∧chkT "list" (.r A.m) st=some ((),st):=by
 obtain⟨k1,k2⟩:=h.setm (ms':=ms++[d]);exact⟨_,jC h.m (by rw[Y14];omega),k1,k2,bQ h.m⟩
theorem qB{w:Str}{d:D}(hw:nmB w=true)(hl:∀ st l,st[l]?=some (.l n)→fN [.r l, .s w] st=some (d,st))(hs:∀ tl,(b=true→foB tl=true)→foB (s2++tl)=true)(hc:m.length≤c+1)(h':Rn b q0 n (m++[d]) s2 n2 m2 c):Rn b (tR "term"::q0) n m (cp w++s2) n2 m2 (c+1):=by
 refine bB (qs:=[]) (px (by kernel_rfl)) oI hc (fun A tx a tl rest ms st h1 h2 h3 _ hb=>?_) h';have hf:=hs tl h3;obtain⟨st1,e1,q1,k1⟩:=cS (w:=w) h1 h2 (lT hw) (tK hf);have e2:=lH (st:=st1) hw;obtain⟨st2,e3,x2⟩:=nE (st:=st1) hw;have q2:=q1.ext x2;have e4:aV [.r A.r, .s "("] st2=some (.b false,st2):=eE q2 (by rw[cG h2,lpar];exact aDh hf) (by decide);have e5:=lH (st:=st2) hw;obtain⟨st3,e6,q3,k3,e7⟩:=appd (d:=d) q2 (by simp at hb ⊢;omega);have e8:=hl st2 A.n q2.n;have w1:(("call":Str)==("form":Str))=false:=by decide
 refine⟨.no,st3,?_,by simpa using q3,(k1.trans (.of x2)).trans k3⟩;simp[bW,bV,h1.o_letters,e1,e2,e3,e5,q2.o_sees,e4,q2.made,e7,w1,q2.names,e8,e6]
theorem aFp{w:Str}(hw:w="S"∨w="Z")(hs:∀ tl,(b=true→foB tl=true)→foB (s2++tl)=true)(hc:m.length≤c+1)(h':Rn b q0 n (m++[.t [.s "form", .s w, .t []]]) s2 n2 m2 c):Rn b (tR "term"::q0) n m (cp w++s2) n2 m2 (c+1):=by
 refine bB (qs:=[]) (px (by kernel_rfl)) oI hc (fun A tx a tl rest ms st h1 h2 h3 _ hb=>?_) h';have hf:=hs tl h3;obtain⟨st1,e1,q1,k1⟩:=cS (w:=w) h1 h2 (by rcases hw with rfl|rfl<;>decide +kernel) (tK hf);obtain⟨st2,e2,x2⟩:=tJ (st:=st1) hw;obtain⟨st3,e3,x3⟩:=tJ (st:=st2) hw;have q2:=(q1.ext x2).ext x3;have e4:aV [.r A.r, .s "("] st3=some (.b false,st3):=eE q2 (by rw[cG h2,lpar];exact aDh hf) (by decide);obtain⟨st4,e6,q3,k3,e7⟩:=appd (d:=.t [.s "form", .s w, .t []]) q2 (by simp at hb ⊢;omega);have w1:(("form":Str)==("form":Str))=true:=by decide
 refine⟨.no,st4,?_,by simpa using q3,((k1.trans (.of x2)).trans (.of x3)).trans k3⟩;simp[bW,bV,h1.o_letters,e1,e2,e3,q2.o_sees,e4,q2.made,e7,w1,e6]
theorem latr{A:RA}{tx:Str}{a:Nat}{ns ms ps:List D}{st:Sto}{l:Nat}(rows:List D)(h:Rd A tx a ns ms ps st)(hl:st[l]?=some (.l rows))(hb:ps.length+rows.length≤60000):∃ st',aX [.r A.r, .r l] st=some (.no,st')∧Rd A tx a ns ms (ps++rows.reverse) st'∧Fq A st st':=tI h hl (by omega)
theorem aDi{w:Str}(hw:nmB w=true)(h':Rn b (liR "term" ")"::tR "few"::mkR [.s "call", .s w] 1::q0) n m s2 n2 m2 c):Rn b (tR "term"::q0) n m ((cp w++cp "(")++s2) n2 m2 (c+1):=by
 refine bB (qs:=[liR "term" ")",tR "few",mkR [.s "call", .s w] 1]) (px (by kernel_rfl)) oI (by have:=h'.2.1;omega) (fun A tx a tl rest ms st h1 h2 h3 hb _=>?_) h';rw[U10] at h2;obtain⟨st1,e1,q1,k1⟩:=cS (w:=w) h1 h2 (lT hw) vF;have e2:=lH (st:=st1) hw;obtain⟨st2,e3,x2⟩:=nE (st:=st1) hw;have q2:=q1.ext x2;have e4:aV [.r A.r, .s "("] st2=some (.b true,st2):=dY q2 (cG h2) (by decide);have e5:=lH (st:=st2) hw;obtain⟨st3,e6,q3,k3⟩:=cR (p:="(") q2 (cG h2) (by decide);have x4:Ext st3 (st3++[.l [liR "term" ")"], .l [tR "few",D.t [.s "make", .t [.s "call", .s w], .i 1]], .l [liR "term" ")",tR "few",D.t [.s "make", .t [.s "call", .s w], .i 1]]]):=Ext.app _ _;have e7:addD (.r st3.length) (.r (st3.length+1)) (st3++[.l [liR "term" ")"], .l [tR "few",D.t [.s "make", .t [.s "call", .s w], .i 1]]])=some (.r (st3.length+2),st3++[.l [liR "term" ")"], .l [tR "few",D.t [.s "make", .t [.s "call", .s w], .i 1]], .l [liR "term" ")",tR "few",D.t [.s "make", .t [.s "call", .s w], .i 1]]]):=by
  rw[iL (xs:=[liR "term" ")"]) (ys:=[tR "few",D.t [.s "make", .t [.s "call", .s w], .i 1]]) (by simp) (by simp) (zl (by simp))];simp
 obtain⟨st4,e8,q4,k4⟩:=latr (l:=st3.length+2) [liR "term" ")",tR "few",D.t [.s "make", .t [.s "call", .s w], .i 1]] (q3.ext x4) (by simp) (by simp at hb ⊢;omega);have w1:(("call":Str)==("call":Str))=true:=by decide
 have o1:=(q3.ext (Ext.app st3 [.l [D.t [.s "list", .s "term", .s ")"]]])).o_later;refine⟨.no,st4,?_,?_,((k1.trans (.of x2)).trans k3).trans ((Fq.of x4).trans k4)⟩
 ·simp[bW,bV,h1.o_letters,e1,e2,e3,e5,q2.o_sees,e4,q2.o_skip,e6,w1,o1,e7,e8]
 ·rw[Y13,← Nat.add_assoc];exact q4
theorem aHW{w:Str}(hw:w="S"∨w="Z")(h':Rn b (tR "term"::moR "term" ")" 1::tR "few"::mkR [.s "form", .s w] 1::q0) n m s2 n2 m2 c):Rn b (tR "term"::q0) n m ((cp w++cp "(")++s2) n2 m2 (c+1):=by
 refine bB (qs:=[tR "term",moR "term" ")" 1,tR "few",mkR [.s "form", .s w] 1]) (px (by kernel_rfl)) oI (by have:=h'.2.1;omega) (fun A tx a tl rest ms st h1 h2 h3 hb _=>?_) h';rw[U10] at h2;obtain⟨st1,e1,q1,k1⟩:=cS (w:=w) h1 h2 (by rcases hw with rfl|rfl<;>decide +kernel) vF;obtain⟨st2,e2,x2⟩:=tJ (st:=st1) hw;obtain⟨st2',e3,x3⟩:=tJ (st:=st2) hw;have q2:=(q1.ext x2).ext x3;have e4:aV [.r A.r, .s "("] st2'=some (.b true,st2'):=dY q2 (cG h2) (by decide);obtain⟨st3,e6,q3,k3⟩:=cR (p:="(") q2 (cG h2) (by decide);have x4:Ext st3 (st3++[.l [tR "term",D.t [.s "more", .s "term", .s ")", .i 1]], .l [tR "few",D.t [.s "make", .t [.s "form", .s w], .i 1]], .l [tR "term",D.t [.s "more", .s "term", .s ")", .i 1],tR "few",D.t [.s "make", .t [.s "form", .s w], .i 1]]]):=Ext.app _ _;have e7:addD (.r st3.length) (.r (st3.length+1)) (st3++[.l [tR "term",D.t [.s "more", .s "term", .s ")", .i 1]], .l [tR "few",D.t [.s "make", .t [.s "form", .s w], .i 1]]])=some (.r (st3.length+2),st3++[.l [tR "term",D.t [.s "more", .s "term", .s ")", .i 1]], .l [tR "few",D.t [.s "make", .t [.s "form", .s w], .i 1]], .l [tR "term",D.t [.s "more", .s "term", .s ")", .i 1],tR "few",D.t [.s "make", .t [.s "form", .s w], .i 1]]]):=by
  rw[iL (xs:=[tR "term",D.t [.s "more", .s "term", .s ")", .i 1]]) (ys:=[tR "few",D.t [.s "make", .t [.s "form", .s w], .i 1]]) (by simp) (by simp) (zl (by simp))];simp
 obtain⟨st4,e8,q4,k4⟩:=latr (l:=st3.length+2) [tR "term",D.t [.s "more", .s "term", .s ")", .i 1],tR "few",D.t [.s "make", .t [.s "form", .s w], .i 1]] (q3.ext x4) (by simp) (by simp at hb ⊢;omega);have w1:(("form":Str)==("call":Str))=false:=by decide
 have o1:=(q3.ext (Ext.app st3 [.l [D.t [.s "term"],D.t [.s "more", .s "term", .s ")", .i 1]]])).o_later;refine⟨.no,st4,?_,?_,(((k1.trans (.of x2)).trans (.of x3)).trans k3).trans ((Fq.of x4).trans k4)⟩
 ·simp[bW,bV,h1.o_letters,e1,e2,e3,q2.o_sees,e4,q2.o_skip,e6,w1,o1,e7,e8]
 ·rw[Y13,← Nat.add_assoc];exact q4
theorem aDj(h':Rn b (tR "statement"::tR "joint"::q0) n m s2 n2 m2 c):Rn b (tR "statement"::q0) n m (cp "("++s2) n2 m2 (c+1):=by
 refine bB (qs:=[tR "statement",tR "joint"]) (px (by kernel_rfl)) gZ (by have:=h'.2.1;omega) (fun A tx a tl rest ms st h1 h2 h3 hb _=>?_) h';have e4:aV [.r A.r, .s "("] st=some (.b true,st):=dY h1 h2 (by decide);obtain⟨st3,e6,q3,k3⟩:=cR (p:="(") h1 h2 (by decide);have x4:Ext st3 (st3++[.l [tR "statement",tR "joint"]]):=Ext.app _ _;obtain⟨st4,e8,q4,k4⟩:=latr (l:=st3.length) [tR "statement",tR "joint"] (q3.ext x4) (by simp) (by simp at hb ⊢;omega);refine⟨.no,st4,?_,q4,k3.trans ((Fq.of x4).trans k4)⟩;simp[aS,aR,h1.o_sees,e4,h1.o_skip,e6,q3.o_later,e8]
theorem npar{w:Str}{tl:List Nat}(hw:nmB w=true∨w="false"∨w="all"∨w="some"):(cp w++tl).take 1≠[40]:=by
 have:∃ c r,cp w=c::r∧c∈cp LET:=by
  rcases hw with h|rfl|rfl|rfl
  ·have hl:=lT h;unfold nmB at h;simp only[Z11,W18] at h;cases q:cp w with
   |nil=>have:=h.1.1.1;rw[← dC,q] at this;simp at this
   |cons c r=>exact⟨c,r,rfl,hl c (by rw[q];simp)⟩
  ·exact⟨_,_,rfl,by decide +kernel⟩
  ·exact⟨_,_,rfl,by decide +kernel⟩
  ·exact⟨_,_,rfl,by decide +kernel⟩
 obtain⟨c,r,e,hc⟩:=this;rw[e];intro h;simp at h;subst h
 revert hc
 decide +kernel
theorem lU(hs:∀ tl,(b=true→foB tl=true)→foB (s2++tl)=true)(hc:m.length≤c+1)(h':Rn b q0 n (m++[.t [.s "false"]]) s2 n2 m2 c):Rn b (tR "statement"::q0) n m (cp "false"++s2) n2 m2 (c+1):=by
 refine bB (qs:=[]) (px (by kernel_rfl)) gZ hc (fun A tx a tl rest ms st h1 h2 h3 _ hb=>?_) h';have hf:=hs tl h3;have e4:aV [.r A.r, .s "("] st=some (.b false,st):=eE h1 (by rw[h2,lpar];exact npar (.inr (.inl rfl))) (by decide);obtain⟨st1,e1,q1,k1⟩:=cS (w:="false") h1 h2 (by decide +kernel) (tK hf);obtain⟨st3,e6,q3,k3,e7⟩:=appd (d:=.t [.s "false"]) q1 (by simp at hb ⊢;omega);have w1:(("false":Str)==("false":Str))=true:=by decide
 refine⟨.no,st3,?_,by simpa using q3,k1.trans k3⟩;simp[aS,aR,h1.o_sees,e4,h1.at_,h1.o_letters,e1,w1,q1.made,e7,e6]
theorem nG{w:Str}(hw:nmB w=true)(hn:w≠"false")(h':Rn b (tR "term"::tR "same or atom"::q0) n m ((cp w++cp "(")++s2) n2 m2 c):Rn b (tR "statement"::q0) n m ((cp w++cp "(")++s2) n2 m2 (c+1):=by
 refine bB (s1:=[]) (s2:=(cp w++cp "(")++s2) (qs:=[tR "term",tR "same or atom"]) (px (by kernel_rfl)) gZ (by have:=h'.2.1;omega) (fun A tx a tl rest ms st h1 h2 h3 hb _=>?_) h';simp only[U21,U10] at h2;have e4:aV [.r A.r, .s "("] st=some (.b false,st):=eE h1 (by rw[h2,lpar];exact npar (.inl hw)) (by decide);obtain⟨st1,e1,q1,k1⟩:=cS (w:=w) h1 h2 (lT hw) vF;have w1:(w==("false":Str))=false:=by simpa using hn
 have w2:nW.contains w=false:=by
  unfold nmB at hw;simp only[Z11,Z20] at hw;have:=hw.2;unfold keptW at this;unfold nW;simp only[List.contains_cons,List.contains_nil,Bool.or_false,Bool.or_eq_false_iff] at this ⊢;exact⟨this.2.1,this.2.2.1⟩
 have e5:=oH (st:=st1) w2;obtain⟨q2,k2⟩:=q1.seta (b:=a) h1.al;have e6:=q1.put (b:=a);generalize st1.set A.r (rdO A tx a)=st2 at q2 k2 e6;have x4:Ext st2 (st2++[.l [tR "term",tR "same or atom"]]):=Ext.app _ _;obtain⟨st4,e8,q4,k4⟩:=latr (l:=st2.length) [tR "term",tR "same or atom"] (q2.ext x4) (by simp) (by simp at hb ⊢;omega);refine⟨.no,st4,?_,q4,(k1.trans k2).trans ((Fq.of x4).trans k4)⟩;simp[aS,aR,h1.o_sees,e4,h1.at_,h1.o_letters,e1,w1,e5,e6,q2.o_later,e8]
theorem aDk{tl:List Nat}:∀ c,(cp " "++tl).head?=some c→c∉cp LET:=by
 intro c hc;rw[show cp " "=[32] by decide +kernel] at hc;simp at hc;subst hc
 decide +kernel
theorem aDl{tl:List Nat}:∀ c,(cp ": "++tl).head?=some c→c∉cp LET:=by
 intro c hc;rw[show cp ": "=[58,32] by decide +kernel] at hc;simp at hc;subst hc
 decide +kernel
theorem nQ{A:RA}{tx:Str}{a:Nat}{ns ms ps:List D}{st:Sto}{tl:List Nat}{x:Str}(hd:D)(mk:List D)(hh:(hd=.no∧mk=[])∨(∃ y:List D,hd=.t y∧mk=[.t [.s "make", .t y, .i 1]]))(h1:Rd A tx a ns ms ps st)(h2:(cp tx).drop a=cp ": "++tl)(hn:ns.length≤1000)(hb:ps.length+(2+mk.length)≤60000):
  ∃ v st',bN [.r A.r, .s x,hd] st=some (v,st')∧Rd A tx (a+(cp ": ").length) (ns++[.s x]) ms (ps++([tR "statement",tR "leave"]++mk).reverse) st'∧Fq A st st':=by
 obtain⟨st1,e1,q1,k1⟩:=cR (p:=": ") h1 h2 (by decide);obtain⟨q2,k2⟩:=q1.setn (ns':=ns++[.s x]);have e2:appendD (.r A.n) [.s x] st1=some (.no,st1.set A.n (.l (ns++[.s x]))):=jC q1.n (by rw[Y14];omega);have e3:chkT "list" (.r A.n) st1=some ((),st1):=bQ q1.n;generalize st1.set A.n (.l (ns++[.s x]))=st2 at q2 k2 e2;have x4:Ext st2 (st2++[.l [tR "statement",tR "leave"], .l mk, .l ([tR "statement",tR "leave"]++mk)]):=Ext.app _ _;have hml:mk.length≤1:=by rcases hh with⟨_,rfl⟩|⟨y,_,rfl⟩<;>simp
 have e7:addD (.r st2.length) (.r (st2.length+1)) (st2++[.l [tR "statement",tR "leave"], .l mk])=some (.r (st2.length+2),st2++[.l [tR "statement",tR "leave"], .l mk, .l ([tR "statement",tR "leave"]++mk)]):=by
  rw[iL (xs:=[tR "statement",tR "leave"]) (ys:=mk) (by simp) (by simp) (zl (by simp;omega))];simp
 obtain⟨st4,e8,q4,k4⟩:=latr (l:=st2.length+2) ([tR "statement",tR "leave"]++mk) (q2.ext x4) (by simp) (by simp;omega);refine⟨.no,st4,?_,q4,(k1.trans k2).trans ((Fq.of x4).trans k4)⟩;rcases hh with⟨rfl,rfl⟩|⟨y,rfl,rfl⟩
 ·simp at e7 e8;simp[bN,dI,h1.o_skip,e1,q1.names,e3,e2,q2.o_later,noB,e7,e8]
 ·simp at e7 e8;simp[bN,dI,h1.o_skip,e1,q1.names,e3,e2,q2.o_later,noB,e7,e8]
theorem aAL{w x K:Str}(hw:w="all"∨w="some")(hx:nmB x=true)(hK:nmB K=true)(hn:n.length≤1000)(h':Rn b (tR "statement"::tR "leave"::mkR [.s w, .s K] 1::q0) (n++[.s x]) m s2 n2 m2 c):Rn b (tR "statement"::q0) n m ((cp w++(cp " "++(cp x++(cp " "++(cp K++cp ": ")))))++s2) n2 m2 (c+1):=by
 refine bB (qs:=[tR "statement",tR "leave",mkR [.s w, .s K] 1]) (px (by kernel_rfl)) gZ (by have:=h'.2.1;omega) (fun A tx a tl rest ms st h1 h2 h3 hb _=>?_) h';simp only[U10] at h2;have e4:aV [.r A.r, .s "("] st=some (.b false,st):=eE h1 (by rw[h2,lpar];exact npar (.inr (.inr hw))) (by decide);obtain⟨st1,e1,q1,k1⟩:=cS (w:=w) h1 h2 (by rcases hw with rfl|rfl<;>decide +kernel) aDk;have d1:=cG h2;have w1:(w==("false":Str))=false:=by rcases hw with rfl|rfl<;>decide
 have w2:nW.contains w=true:=by rcases hw with rfl|rfl<;>decide
 have e5:=oH (st:=st1) w2;obtain⟨st2,e2,q2,k2⟩:=cR (p:=" ") q1 d1 (by decide);have d2:=cG d1;obtain⟨st3,e3,q3,k3⟩:=hU (w:=x) q2 d2 hx aDk;have d3:=cG d2;obtain⟨st4,e6,q4,k4⟩:=cR (p:=" ") q3 d3 (by decide);have d4:=cG d3;obtain⟨st5,e7,q5,k5⟩:=hU (w:=K) q4 d4 hK aDl;have d5:=cG d4;obtain⟨v,st6,e8,q6,k6⟩:=nQ (x:=x) (.t [.s w, .s K]) [.t [.s "make", .t [.s w, .s K], .i 1]] (.inr ⟨_,rfl,rfl⟩) q5 d5 hn (by simp at hb ⊢;omega);refine⟨.no,st6,?_,?_,((((k1.trans k2).trans k3).trans k4).trans k5).trans k6⟩
 ·simp[aS,aR,h1.o_sees,e4,h1.at_,h1.o_letters,e1,w1,e5,q1.o_skip,e2,q2.o_next,e3,q3.o_skip,e6,q4.o_next,e7,e8]
 ·have:a+(cp w++(cp " "++(cp x++(cp " "++(cp K++cp ": "))))).length=a+(cp w).length+(cp " ").length+(cp x).length+(cp " ").length+(cp K).length+(cp ": ").length:=by simp only[Y13];omega
  rw[this];exact q6
theorem aHX{x:Str}(hx:nmB x=true)(hn:n.length≤1000)(h':Rn b (tR "statement"::tR "leave"::q0) (n++[.s x]) m s2 n2 m2 c):Rn b (tR "body"::q0) n m ((cp x++cp ": ")++s2) n2 m2 (c+1):=by
 refine bB (qs:=[tR "statement",tR "leave"]) (px (by kernel_rfl)) (show RT "read_body" kL by kernel_rfl) (by have:=h'.2.1;omega) (fun A tx a tl rest ms st h1 h2 h3 hb _=>?_) h';simp only[U10] at h2;obtain⟨st3,e3,q3,k3⟩:=hU (w:=x) h1 h2 hx aDl;have d3:=cG h2;obtain⟨v,st6,e8,q6,k6⟩:=nQ (x:=x) .no [] (.inl ⟨rfl,rfl⟩) q3 d3 hn (by simp at hb ⊢;omega);refine⟨.no,st6,?_,?_,k3.trans k6⟩
 ·simp[kL,kK,h1.o_next,e3,e8]
 ·rw[Y13,← Nat.add_assoc];exact q6
theorem yW{x:D}(h':Rn b q0 n m s2 n2 m2 c):Rn b (tR "leave"::q0) (n++[x]) m s2 n2 m2 (c+1):=by
 refine bB (s1:=[]) (qs:=[]) (px (by kernel_rfl)) (show RT "read_leave" jO by kernel_rfl) (by have:=h'.2.1;omega) (fun A tx a tl rest ms st h1 h2 h3 hb _=>?_) h';obtain⟨q2,k2⟩:=h1.setn (ns':=n);have e2:popD (.r A.n) [] st=some (x,st.set A.n (.l n)):=lM h1.n;have e3:chkT "list" (.r A.n) st=some ((),st):=bQ h1.n;refine⟨.no,_,?_,by simpa using q2,k2⟩;simp[jO,jN,h1.names,e3,e2]
theorem xH{w:Str}{as:List D}(hs:∀ tl,(b=true→foB tl=true)→foB (s2++tl)=true)(hc:m.length+1≤c+1)(h':Rn b q0 n (m++[.t [.s "atom", .s w, .t as]]) s2 n2 m2 c):Rn b (tR "same or atom"::q0) n (m++[.t [.s "call", .s w, .t as]]) s2 n2 m2 (c+1):=by
 refine bB (s1:=[]) (qs:=[]) (px (by kernel_rfl)) (show RT "read_same_or_atom" dS by kernel_rfl) (by simp;omega) (fun A tx a tl rest ms st h1 h2 h3 _ hb=>?_) h';have hf:=hs tl h3;have e4:aV [.r A.r, .s " = "] st=some (.b false,st):=eE h1 (by rw[h2,U21,show(" = ":Str).length=3 by decide,show cp " = "=[32,61,32] by decide +kernel];exact aJa hf) (by decide);have hm:st[A.m]?=some (.l ((ms++m)++[.t [.s "call", .s w, .t as]])):=by rw[h1.m];simp
 have e2:popD (.r A.m) [] st=some (.t [.s "call", .s w, .t as],st.set A.m (.l (ms++m))):=lM hm;have e3:chkT "list" (.r A.m) st=some ((),st):=bQ hm;obtain⟨q2,k2⟩:=h1.setm (ms':=ms++m);generalize st.set A.m (.l (ms++m))=st1 at q2 k2 e2;obtain⟨st3,e6,q3,k3,e7⟩:=appd (d:=.t [.s "atom", .s w, .t as]) q2 (by simp at hb ⊢;omega);have w1:(("call":Str)==("call":Str))=true:=by decide
 refine⟨.no,st3,?_,by simpa using q3,k2.trans k3⟩;simp[dS,dR,h1.o_sees,e4,h1.made,e3,e2,w1,q2.made,e7,e6]
end
section
variable{b:Bool}{q0 n m:List D}{s2:List Nat}{n2 m2:List D}{c:Nat}
theorem la:cp " and "=[32,97,110,100,32]:=by decide +kernel
theorem lo:cp " or "=[32,111,114,32]:=by decide +kernel
theorem li:cp " -> "=[32,45,62,32]:=by decide +kernel
theorem aFq{w j:Str}(hw:(w="and"∧j=" and ")∨(w="or"∧j=" or ")∨(w="if"∧j=" -> "))(h':Rn b (tR "statement"::txR ")"::mkR [.s w] 2::q0) n m s2 n2 m2 c):Rn b (tR "joint"::q0) n m (cp j++s2) n2 m2 (c+1):=by
 refine bB (qs:=[tR "statement",txR ")",mkR [.s w] 2]) (px (by kernel_rfl)) (show RT "read_joint" eQ by kernel_rfl) (by have:=h'.2.1;omega) (fun A tx a tl rest ms st h1 h2 h3 hb _=>?_) h';have hj:j.length≤1000:=by rcases hw with⟨_,rfl⟩|⟨_,rfl⟩|⟨_,rfl⟩<;>decide
 have e4:=dY (p:=j) h1 h2 hj;obtain⟨st3,e6,q3,k3⟩:=cR (p:=j) h1 h2 hj;have x4:Ext st3 (st3++[.l [.t [.s "statement"], .t [.s "text", .s ")"], .t [.s "make", .t [.s w], .i 2]]]):=Ext.app _ _;obtain⟨st4,e8,q4,k4⟩:=latr (l:=st3.length) [.t [.s "statement"], .t [.s "text", .s ")"], .t [.s "make", .t [.s w], .i 2]] (q3.ext x4) (by simp) (by simp at hb ⊢;omega);have hi:itemsD jT st=some (([.t [.s "and", .s " and "], .t [.s "or", .s " or "], .t [.s "if", .s " -> "]],fun _=>True),st):=rfl;refine⟨.no,st4,?_,q4,k3.trans ((Fq.of x4).trans k4)⟩;rcases hw with⟨rfl,rfl⟩|⟨rfl,rfl⟩|⟨rfl,rfl⟩
 ·simp[eQ,eP,hi,forD,h1.o_sees,e4,h1.o_skip,e6,q3.o_later,e8]
 ·have f1:aV [.r A.r, .s " and "] st=some (.b false,st):=eE h1 (by rw[h2,lo,la,show(" and ":Str).length=5 by decide];simp) (by decide);simp[eQ,eP,hi,forD,h1.o_sees,f1,e4,h1.o_skip,e6,q3.o_later,e8]
 ·have f1:aV [.r A.r, .s " and "] st=some (.b false,st):=eE h1 (by rw[h2,li,la,show(" and ":Str).length=5 by decide];simp) (by decide);have f2:aV [.r A.r, .s " or "] st=some (.b false,st):=eE h1 (by rw[h2,li,lo,show(" or ":Str).length=4 by decide];simp) (by decide);simp[eQ,eP,hi,forD,h1.o_sees,f1,f2,e4,h1.o_skip,e6,q3.o_later,e8]
theorem aHY{sort w:Str}(h1:∀ st,ixD gR (.s sort) st=some (.fn "read_name",st))(hw:nmB w=true)(hs:∀ tl,(b=true→foB tl=true)→foB (s2++tl)=true)(hc:m.length≤c+1)(h':Rn b q0 n (m++[.s w]) s2 n2 m2 c):Rn b (tR sort::q0) n m (cp w++s2) n2 m2 (c+1):=by
 refine bB (qs:=[]) h1 (show RT "read_name" kN by kernel_rfl) hc (fun A tx a tl rest ms st h1 h2 h3 _ hb=>?_) h';have hf:=hs tl h3;obtain⟨st1,e1,q1,k1⟩:=hU (w:=w) h1 h2 hw (tK hf);obtain⟨st3,e6,q3,k3,_⟩:=appd (d:=.s w) q1 (by simp at hb ⊢;omega);have e7:chkT "list" (.r A.m) st=some ((),st):=bQ h1.m;refine⟨.no,st3,?_,by simpa using q3,k1.trans k3⟩;simp[kN,kM,h1.made,e7,h1.o_next,e1,e6]
theorem aFr:∀ k:Nat,k<200→∀ c∈cp (numS k),c∈cp "0123456789":=by decide +kernel
theorem aFs:∀ k:Nat,k<200→0 < (numS k).length:=by decide +kernel
theorem aDm:∀ k:Nat,k<200→k=0∨((⟨#[(cp (numS k)).getD 0 0]⟩:Str)==("0":Str))=false:=by decide +kernel
theorem aFt:∀ k:Nat,k<200→PySem.intText? (numS k)=some ((k:Nat):Int):=by decide +kernel
theorem aDn{k:Nat}(hk:k<200)(hs:∀ tl,(b=true→foB tl=true)→foB (s2++tl)=true)(hc:m.length≤c+1)(h':Rn b q0 n (m++[.i (k:Nat)]) s2 n2 m2 c):Rn b (tR "number"::q0) n m (cp (numS k)++s2) n2 m2 (c+1):=by
 refine bB (qs:=[]) (px (by kernel_rfl)) (show RT "read_number" dX by kernel_rfl) hc (fun A tx a tl rest ms st h1 h2 h3 _ hb=>?_) h';have hf:=hs tl h3;obtain⟨st1,e1,q1,k1⟩:=vE (signs:="0123456789") (w:=numS k) h1 h2 (aFr k hk) (aHV hf);obtain⟨st3,e6,q3,k3,e7⟩:=appd (d:=.i (k:Nat)) q1 (by simp at hb ⊢;omega);have hl:=pP k hk;have hp:=aFs k hk;have e2:lenD [.s (numS k)] st1=some (.i ((numS k).length:Nat),st1):=L2.fF (zl (by omega));have e3:((((numS k).length:Nat):Int)==0)=false:=by
  have:(((numS k).length:Nat):Int)≠0:=by omega
  simpa using this
 have e4:¬ (9:Int) < ((numS k).length:Nat):=by omega
 have e5:int2D [.s (numS k)] st1=some (.i (k:Nat),st1):=by
  show need ((numS k).length≤640) _ st1=_;rw[dZ (by omega),aFt k hk]
  rfl
 obtain⟨z,e8,h0⟩:∃ z:Str,ixD (.s (numS k)) (.i 0) st1=some (.s z,st1)∧((z==("0":Str))=false∨(numS k==("0":Str))=true):=by
  refine⟨⟨#[(cp (numS k)).getD 0 0]⟩,ix0 ?_ (by omega),?_⟩
  ·cases q:cp (numS k) with
   |nil=>rw[← dC,q] at hp;simp at hp
   |cons c r=>rfl
  ·rcases aDm k hk with rfl|h0
   ·exact .inr (by decide +kernel)
   ·exact .inl h0
 refine⟨.no,st3,?_,by simpa using q3,k1.trans k3⟩;generalize (((numS k).length:Nat):Int)=L at e2 e3 e4;generalize numS k=F at e1 e2 e5 e8 h0;generalize ((k:Nat):Int)=K at e5 e6;rcases h0 with h0|h0
 ·simp[dX,dW,h1.o_run,e1,e2,e3,e4,e8,h0,q1.made,e7,e5,e6]
 ·cases hz:(z==("0":Str)) with
  |false=>simp[dX,dW,h1.o_run,e1,e2,e3,e4,e8,hz,q1.made,e7,e5,e6]
  |true=>simp[dX,dW,h1.o_run,e1,e2,e3,e4,e8,hz,h0,q1.made,e7,e5,e6]
theorem aAM(h':Rn b (txR "["::liR "tactic" "]"::q0) n m s2 n2 m2 c):Rn b (tR "tactics"::q0) n m s2 n2 m2 (c+1):=by
 refine bB (s1:=[]) (qs:=[txR "[",liR "tactic" "]"]) (px (by kernel_rfl)) (show RT "read_tactics" iB by kernel_rfl) (by have:=h'.2.1;omega) (fun A tx a tl rest ms st h1 h2 h3 hb _=>?_) h';have x4:Ext st (st++[.l [txR "[",liR "tactic" "]"]]):=Ext.app _ _;obtain⟨st4,e8,q4,k4⟩:=latr (l:=st.length) [txR "[",liR "tactic" "]"] (h1.ext x4) (by simp) (by simp at hb ⊢;omega);refine⟨.no,st4,?_,q4,(Fq.of x4).trans k4⟩;simp[iB,iA,h1.o_later,e8]
theorem aDo{sort:Str}(hr:sort="induct rows"∨sort="forms rows")(h':Rn b (txR "["::liR (sort++(" row":Str)) "]"::q0) n m s2 n2 m2 c):Rn b (tR sort::q0) n m s2 n2 m2 (c+1):=by
 refine bB (s1:=[]) (qs:=[txR "[",liR (sort++(" row":Str)) "]"]) (fnm:="read_rows") (by rcases hr with rfl|rfl<;>exact px (by kernel_rfl)) (show RT "read_rows" kP by kernel_rfl) (by have:=h'.2.1;omega) (fun A tx a tl rest ms st h1 h2 h3 hb _=>?_) h';have x4:Ext st (st++[.l [txR "[",liR (sort++(" row":Str)) "]"]]):=Ext.app _ _;obtain⟨st4,e8,q4,k4⟩:=latr (l:=st.length) [txR "[",liR (sort++(" row":Str)) "]"] (h1.ext x4) (by simp) (by simp at hb ⊢;omega);have hz:sort.length+(" row":Str).length≤sizeLine:=zl (by rcases hr with rfl|rfl<;>decide);refine⟨.no,st4,?_,q4,(Fq.of x4).trans k4⟩;simp[kP,kO,h1.o_later,aI hz,e8]
theorem qC{l1 l2:Nat}{X:List D}{a0 a1:Option D}(hn:l2≠l1):∀ (xs made:List D) (a3:Option D) (st:Sto),st[l1]?=some (.l made)→st[l2]?=some (.l X)→made.length+2 * xs.length≤60000→
  ∃ a3' st',forD (fun st=>st[l2]?=some (.l X)) (gN 3) L65a xs [a0,a1,some (.r l1),a3] st=some ((.nx,[a0,a1,some (.r l1),a3']),st')∧st'[l1]?=some (.l (made++xs.flatMap fun x=>[txR " | ",x]))∧Kp l1 st st'
 |[],made,a3,st,h1,h2,_=>⟨a3,st,by rw[forD,bG h2];rfl,by simpa using h1, .refl _ _⟩
 |x::xs,made,a3,st,h1,h2,hb=>by
  simp at hb;have x1:Ext st (st++[.l [txR " | ",x]]):=Ext.app _ _;have e1:chkT "list" (.r l1) st=some ((),st):=bQ h1;have e2:extendD (.r l1) [.r st.length] (st++[.l [txR " | ",x]])=some (.no,(st++[C.l [txR " | ",x]]).set l1 (.l (made++[txR " | ",x]))):=fG (x1 _ _ h1) (by simp) (zl (by simp;omega));have e3:((st++[C.l [txR " | ",x]]).set l1 (.l (made++[txR " | ",x])))[l1]?=some (.l (made++[txR " | ",x])):=cI (x1 _ _ h1);have k1:Kp l1 st ((st++[C.l [txR " | ",x]]).set l1 (.l (made++[txR " | ",x]))):=(Kp.of x1).set;generalize (st++[C.l [txR " | ",x]]).set l1 (.l (made++[txR " | ",x]))=st1 at e2 e3 k1;obtain⟨a3',st',g1,g2,g3⟩:=qC (a0:=a0) (a1:=a1) (X:=X) hn xs (made++[txR " | ",x]) (some x) st1 e3 (k1 _ _ hn h2) (by simp;omega);refine⟨a3',st',?_,by rw[g2];simp,k1.trans g3⟩;rw[forD,bG h2];simp[e1,e2,g1]
theorem aDp{A:RA}{tx:Str}{a:Nat}{ns ms ps:List D}{st:Sto}{l:Nat}{x0:D}{xs:List D}(h1:Rd A tx a ns ms ps st)(hl:st[l]?=some (.l (x0::xs)))(hb:ps.length+(2 * xs.length+2)≤60000)(hx:xs.length≤100):
  ∃ v st',bL [.r A.r, .r l] st=some (v,st')∧Rd A tx a ns ms (ps++(x0::(xs.flatMap (fun x=>[txR " | ",x])++[mkR [] (xs.length+1)])).reverse) st'∧Fq A st st':=by
 have hll:l<st.length:=(Z10.mp hl).1;have x1:Ext st (st++[.l [x0]]):=Ext.app _ _;have e1:ixD (.r l) (.i 0) st=some (x0,st):=by rw[fX hl,aIQ];rfl
 have e2:slD (.r l) (some 1) none (st++[.l [x0]])=some (.r (st.length+1),st++[.l [x0], .l xs]):=by
  rw[aFy (x1 _ _ hl),xD];simp
 have x2:Ext st (st++[.l [x0], .l xs]):=Ext.app _ _;have e3:itD (.r (st.length+1)) (st++[.l [x0], .l xs])=some ((xs,fun s=>s[st.length+1]?=some (.l xs)),st++[.l [x0], .l xs]):=aFx (by simp);obtain⟨a3,st3,g1,g2,g3⟩:=qC (l1:=st.length) (l2:=st.length+1) (X:=xs) (a0:=some (.r A.r)) (a1:=some (.r l)) (by omega) xs [x0] none (st++[.l [x0], .l xs]) (by simp) (by simp) (by simp;omega);have x3:Ext st st3:=fun i c e=>g3 i c (by have:=(Z10.mp e).1;omega) (x2 i c e);have q3:=h1.ext x3;have e4:lenD [.r l] st3=some (.i ((xs.length+1:Nat):Int),st3):=by rw[sP (x3 _ _ hl)];simp
 have hfl:∀ xs:List D,(xs.flatMap fun x=>[txR " | ",x]).length=2 * xs.length:=by
  intro xs
  induction xs with
  |nil=>rfl
  |cons x xs ih=>simp[ih];omega
 have x4:Ext st3 (st3++[.l [mkR [] (xs.length+1)], .l ([x0]++xs.flatMap (fun x=>[txR " | ",x])++[mkR [] (xs.length+1)])]):=Ext.app _ _;have hl1:st.length<st3.length:=(Z10.mp g2).1;have e5:addD (.r st.length) (.r st3.length) (st3++[.l [mkR [] (xs.length+1)]])=some (.r (st3.length+1),st3++[.l [mkR [] (xs.length+1)], .l ([x0]++xs.flatMap (fun x=>[txR " | ",x])++[mkR [] (xs.length+1)])]):=by
  rw[iL (Ext.app _ _ _ _ g2) (ys:=[mkR [] (xs.length+1)]) (by simp) (zl (by simp[hfl];omega))];simp
 obtain⟨st4,e8,q4,k4⟩:=latr (l:=st3.length+1) ([x0]++xs.flatMap (fun x=>[txR " | ",x])++[mkR [] (xs.length+1)]) (q3.ext x4) (by simp) (by simp[hfl];omega);refine⟨.no,st4,?_,by simpa using q4,(Fq.of x3).trans ((Fq.of x4).trans k4)⟩;generalize [x0]++xs.flatMap (fun x=>[txR " | ",x])++[mkR [] (xs.length+1)]=Z at e5 e8;have e5':addD (.r st.length) (.r st3.length) (st3++[.l [.t [.s "make", .t [], .i ((xs.length+1:Nat):Int)]]])=some (.r (st3.length+1),st3++[.l [.t [.s "make", .t [], .i ((xs.length+1:Nat):Int)]], .l Z]):=e5;have e8':aX [.r A.r, .r (st3.length+1)] (st3++[.l [.t [.s "make", .t [], .i ((xs.length+1:Nat):Int)]], .l Z])=some (.no,st4):=e8;generalize ((xs.length+1:Nat):Int)=k0 at e4 e5' e8';simp[bL,iU,e1,e2,e3,g1,q3.o_later,e4,e5',e8']
theorem aDq{sort fnm:Str}{g:List D→M D}{x0 x1 x2:D}(h1:∀ st,ixD gR (.s sort) st=some (.fn fnm,st))(h2:RT fnm g)(hg:∀ (l:Nat) (st:Sto),g [.r l,tR sort] st=b3 (bL [.r l, .r st.length] (st++[.l [x0,x1,x2]])) (fun _=>L2.ret .no))
  (h':Rn b (x0::txR " | "::x1::txR " | "::x2::mkR [] 3::q0) n m s2 n2 m2 c):Rn b (tR sort::q0) n m s2 n2 m2 (c+1):=by
 refine bB (s1:=[]) (qs:=[x0,txR " | ",x1,txR " | ",x2,mkR [] 3]) h1 h2 (by have:=h'.2.1;omega) (fun A tx a tl rest ms st h1 h2 h3 hb _=>?_) h';have x4:Ext st (st++[.l [x0,x1,x2]]):=Ext.app _ _;obtain⟨v,st4,e8,q4,k4⟩:=aDp (l:=st.length) (x0:=x0) (xs:=[x1,x2]) (h1.ext x4) (by simp) (by simp at hb ⊢;omega) (by simp);exact⟨.no,st4,by rw[hg,e8];rfl,q4,(Fq.of x4).trans k4⟩
theorem tM(h':Rn b (tR "spaced"::txR " | "::tR "spaced"::txR " | "::tR "reason"::mkR [] 3::q0) n m s2 n2 m2 c):Rn b (tR "induct rows row"::q0) n m s2 n2 m2 (c+1):=by
 refine aDq (fnm:="read_induct_row") (px (by kernel_rfl)) (show RT "read_induct_row" eZ by kernel_rfl) (fun l st=>?_) h';simp[eZ,eY];cases bL [.r l, .r st.length] (st++[.l [tR "spaced",tR "spaced",tR "reason"]])<;>rfl
theorem vG(h':Rn b (tR "spaced"::txR " | "::tR "name"::txR " | "::tR "reason"::mkR [] 3::q0) n m s2 n2 m2 c):Rn b (tR "forms rows row"::q0) n m s2 n2 m2 (c+1):=by
 refine aDq (fnm:="read_forms_row") (px (by kernel_rfl)) (show RT "read_forms_row" fP by kernel_rfl) (fun l st=>?_) h';simp[fP,fO];cases bL [.r l, .r st.length] (st++[.l [tR "spaced",tR "name",tR "reason"]])<;>rfl
end
noncomputable def spT:List Str→List Nat
 |[]=>[]
 |w::ws=>cp " "++(cp w++spT ws)
noncomputable def spA:List Str→List Nat
 |[]=>[]
 |w::ws=>cp w++spT ws
theorem ci:cp " "=[32]:=by decide +kernel
theorem cv:cp " |"=[32,124]:=by decide +kernel
theorem yX{tl:List Nat}(ht:tl.take 2=[32,124]):∀ ws:List Str,(spT ws++tl).head?=some 32
 |[]=>by
  match tl,ht with
  |x::r,ht=>simp at ht;simp[spT,ht.1]
 |w::ws=>by simp[spT,ci]
section
variable{A:RA}{tx:Str}{a:Nat}{ns ms ps:List D}{st:Sto}
theorem yY{L:Nat}{tl:List Nat}(ht:tl.take 2=[32,124])(hr:L≠A.r)(hn:L≠A.n)(hm:L≠A.m)(hp:L≠A.p):∀ (ws:List Str) (a:Nat) (acc:List D) (st:Sto),Rd A tx a ns ms ps st→st[L]?=some (.l acc)→(cp tx).drop a=spT ws++tl→(∀ w∈ws,nmB w=true)→acc.length+ws.length≤1000→
  ∃ st',whC L59b L59a [some (.r A.r),some (.r L)] st=some ((.nx,[some (.r A.r),some (.r L)]),st')∧Rd A tx (a+(spT ws).length) ns ms ps st'∧st'[L]?=some (.l (acc++ws.map D.s))∧(∀ (l:Nat) c,l≠L→l≠A.r→l≠A.n→l≠A.m→l≠A.p→st[l]?=some c→st'[l]?=some c)
 |[],a,acc,st,h,hL,hd,_,_=>by
  have h2:(cp tx).drop a=cp " |"++tl.drop 2:=by
   rw[hd,cv,← ht];simp[spT]
  have e1:aV [.r A.r, .s " "] st=some (.b true,st):=dY (tl:=124::tl.drop 2) h (by rw[h2,cv,ci];rfl) (by decide);have e2:=dY (p:=" |") h h2 (by decide);exact⟨st,iE (by simp[h.o_sees,e1,e2]),by simpa[spT] using h,by simpa using hL,fun _ _ _ _ _ _ _ e=>e⟩
 |w::ws,a,acc,st,h,hL,hd,hw,hb=>by
  have hw0:=hw w (by simp);simp only[spT,U10] at hd;have e1:=dY (p:=" ") h hd (by decide);have e2:aV [.r A.r, .s " |"] st=some (.b false,st):=eE h (by
   rw[hd,ci,cv,show(" |":Str).length=2 by decide];have hl:=lT hw0;unfold nmB at hw0;simp only[Z11,W18] at hw0;intro hq;cases q:cp w with
   |nil=>have:=hw0.1.1.1;rw[← dC,q] at this;simp at this
   |cons c r=>
    rw[q] at hq;simp at hq;have:=hl c (by rw[q];simp);rw[hq] at this
    revert this
    decide +kernel) (by decide)
  obtain⟨st1,e3,q1,k1⟩:=cR (p:=" ") h hd (by decide);have hd1:=cG hd;obtain⟨st2,e4,q2,k2⟩:=hU (w:=w) q1 hd1 hw0 (by
   intro c hc;rw[yX ht ws] at hc;cases hc
   decide +kernel)
  have hd2:=cG hd1;have hL1:=k1 _ _ hr hn hm hp hL;have hL2:=k2 _ _ hr hn hm hp hL1;have e5:chkT "list" (.r L) st1=some ((),st1):=bQ hL1;simp at hb;have e6:appendD (.r L) [.s w] st2=some (.no,st2.set L (.l (acc++[.s w]))):=jC hL2 (by rw[Y14];omega);have hL3:(st2.set L (.l (acc++[.s w])))[L]?=some (.l (acc++[.s w])):=cI hL2;have q3:Rd A tx (a+(cp " ").length+(cp w).length) ns ms ps (st2.set L (.l (acc++[.s w]))):=⟨by rw[bE hr.symm];exact q2.o,by rw[bE hn.symm];exact q2.n,by rw[bE hm.symm];exact q2.m,by rw[bE hp.symm];exact q2.p,q2.nm,q2.np,q2.mp,q2.al,q2.tl⟩;have k3:∀ (l:Nat) c,l≠L→st2[l]?=some c→(st2.set L (.l (acc++[.s w])))[l]?=some c:=fun l c n e=>by rw[bE n];exact e
  generalize st2.set L (.l (acc++[.s w]))=st3 at e6 hL3 q3 k3;obtain⟨st4,g1,g2,g3,g4⟩:=yY ht hr hn hm hp ws _ _ st3 q3 hL3 hd2 (fun x hx=>hw x (by simp[hx])) (by simp;omega);refine⟨st4,jY (st1:=st) (st2:=st3) (env1:=[some (.r A.r),some (.r L)]) ?_ ?_ g1,?_,by rw[g3];simp,fun l c n0 n1 n2 n3 n4 e=>g4 l c n0 n1 n2 n3 n4 (k3 l c n0 (k2 l c n1 n2 n3 n4 (k1 l c n1 n2 n3 n4 e)))⟩
  ·simp[h.o_sees,e1,e2]
  ·simp[h.o_skip,e3,e5,q1.o_next,e4,e6]
  ·have:a+(spT (w::ws)).length=a+(cp " ").length+(cp w).length+(spT ws).length:=by simp only[spT,Y13];omega
   rw[this];exact g2
theorem Rd.lt(h:Rd A tx a ns ms ps st):A.r<st.length∧A.n<st.length∧A.m<st.length∧A.p<st.length:=⟨(Z10.mp h.o).1,(Z10.mp h.n).1,(Z10.mp h.m).1,(Z10.mp h.p).1⟩
theorem aDr{ws:List Str}{tl:List Nat}(h:Rd A tx a ns ms ps st)(hd:(cp tx).drop a=spA ws++tl)(ht:tl.take 2=[32,124])(hw:∀ w∈ws,nmB w=true)(hb:ws.length≤100):∃ l st',cZ [.r A.r] st=some (.r l,st')∧Rd A tx (a+(spA ws).length) ns ms ps st'∧st'[l]?=some (.l (ws.map D.s))∧Fq A st st':=by
 obtain⟨l1,l2,l3,l4⟩:=h.lt;have x1:Ext st (st++[.l []]):=Ext.app _ _;have h1:=h.ext x1;have hL:(st++[C.l []])[st.length]?=some (.l []):=by simp
 have htl:tx.length≤sizeLine:=zl h.tl;have e0:lenD [.s tx] (st++[.l []])=some (.i (tx.length:Nat),st++[.l []]):=L2.fF htl;generalize hst:st++[.l []]=st0 at x1 h1 hL e0;have hne:(spA ws++tl)≠[]:=by
  intro e;have:tl=[]:=(List.append_eq_nil_iff.mp e).2;subst this;simp at ht
 obtain⟨c0,r0,hc0⟩:=List.exists_cons_of_ne_nil hne;have hlt:a<tx.length:=by
  have:=congrArg List.length hd;rw[hc0,Y19,dC] at this;simp at this
  omega
 have hlt':((a:Nat):Int) < (tx.length:Nat):=by omega
 have hg:(cp tx)[a]?=some c0:=by
  have:=congrArg List.head? hd;rw[List.head?_drop,hc0] at this
  simpa using this
 have hx:ixD (.s tx) (.i (a:Nat)) st0=some (.s ⟨#[c0]⟩,st0):=by
  have e:ixV st0 (.s tx) (.i (a:Nat))=some (.s ⟨#[c0]⟩):=by
   show(if tx.length≤sizeLine then(atI tx.cps.toList (a:Nat)).map fun c=>D.s ⟨#[c]⟩ else none)=_;rw[if_pos htl,fS hg]
   rfl
  unfold ixD;rw[e]
 have hi:=lG (st:=st0) (c:=c0) (x:=LET);cases ws with
 |nil=>
  have hc:c0=32:=by
   match tl,ht with
   |x::r,ht=>
    simp at ht;simp[spA] at hc0;rw[← hc0.1,ht.1]
  subst hc;rw[W17 (by decide +kernel)] at hi;refine⟨st.length,st0,?_,by simpa[spA] using h1,by simpa using hL, .of x1⟩;simp[cZ,eB,hst,h1.at_,h1.text,e0,hlt,hx,hi]
 |cons w ws=>
  have hw0:=hw w (by simp);have hcw:c0∈cp LET:=by
   have hl:=lT hw0;unfold nmB at hw0;simp only[Z11,W18] at hw0;cases q:cp w with
   |nil=>have:=hw0.1.1.1;rw[← dC,q] at this;simp at this
   |cons c r=>
    have hc1:c=c0:=by
     simp only[spA,q,List.cons_append,Y34] at hc0;exact hc0.1
    subst hc1;exact hl c (by rw[q];simp)
  rw[V24 hcw] at hi;simp only[spA,U10] at hd;obtain⟨st2,e4,q2,k2⟩:=hU (w:=w) h1 hd hw0 (by
   intro c hc;rw[yX ht ws] at hc;cases hc
   decide +kernel)
  have hd2:=cG hd;have hL2:=k2 _ _ (by omega) (by omega) (by omega) (by omega) hL;have e5:chkT "list" (.r st.length) st0=some ((),st0):=bQ hL;have e6:appendD (.r st.length) [.s w] st2=some (.no,st2.set st.length (.l ([]++[.s w]))):=jC hL2 (by rw[Y14];decide);have hL3:(st2.set st.length (.l ([]++[.s w])))[st.length]?=some (.l ([]++[.s w])):=cI hL2;have q3:Rd A tx (a+(cp w).length) ns ms ps (st2.set st.length (.l ([]++[.s w]))):=⟨by rw[bE (by omega)];exact q2.o,by rw[bE (by omega)];exact q2.n,by rw[bE (by omega)];exact q2.m,by rw[bE (by omega)];exact q2.p,q2.nm,q2.np,q2.mp,q2.al,q2.tl⟩;have k3:∀ (l:Nat) c,l≠st.length→st2[l]?=some c→(st2.set st.length (.l ([]++[.s w])))[l]?=some c:=fun l c n e=>by rw[bE n];exact e
  generalize st2.set st.length (.l ([]++[.s w]))=st3 at e6 hL3 q3 k3;obtain⟨st4,g1,g2,g3,g4⟩:=yY ht (by omega) (by omega) (by omega) (by omega) ws _ _ st3 q3 hL3 hd2 (fun x hx=>hw x (by simp[hx])) (by simp at hb ⊢;omega);refine⟨st.length,st4,?_,?_,by rw[g3];simp,fun l c n1 n2 n3 n4 e=>?_⟩
  ·simp only[cZ,eB,sW];generalize whC _ _=W at g1 ⊢;simp[hst,h1.at_,h1.text,e0,hlt,hx,hi,e5,h1.o_next,e4,e6,g1]
  ·have:a+(spA (w::ws)).length=a+(cp w).length+(spT ws).length:=by simp only[spA,Y13];omega
   rw[this];exact g2
  ·have hl:=(Z10.mp e).1;exact g4 l c (by omega) n1 n2 n3 n4 (k3 l c (by omega) (k2 l c n1 n2 n3 n4 (x1 l c e)))
end
section
variable{b:Bool}{q0 n m:List D}{s2:List Nat}{n2 m2:List D}{c:Nat}
theorem aDs{ws:List Str}(hw:∀ w∈ws,nmB w=true)(hb:ws.length≤100)(hc:m.length≤c+1)(h':Rn b q0 n (m++[.t (ws.map D.s)]) (cp " | "++s2) n2 m2 c):Rn b (tR "spaced"::q0) n m (spA ws++(cp " | "++s2)) n2 m2 (c+1):=by
 refine bB (qs:=[]) (px (by kernel_rfl)) (show RT "read_spaced" iT by kernel_rfl) hc (fun A tx a tl rest ms st h1 h2 h3 _ hbb=>?_) h';obtain⟨l,st1,e1,q1,e2,k1⟩:=aDr (ws:=ws) h1 h2 (by rw[U10,show cp " | "=[32,124,32] by decide +kernel];rfl) hw hb;obtain⟨st3,e6,q3,k3,_⟩:=appd (d:=.t (ws.map D.s)) q1 (by simp at hbb ⊢;omega);have e7:chkT "list" (.r A.m) st=some ((),st):=bQ h1.m;have e8:tupD [.r l] st1=some (.t (ws.map D.s),st1):=aCg e2;refine⟨.no,st3,?_,by simpa using q3,k1.trans k3⟩;simp[iT,iR,h1.made,e7,h1.o_spaced,e1,e8,e6]
noncomputable def wRs:List Str→List D
 |[]=>[]
 |s::r=>txR ", "::tR s::wRs r
noncomputable def wR:List Str→List D
 |[]=>[]
 |s::r=>tR s::wRs r
theorem yZ:∀ ss:List Str,(wRs ss).length=2 * ss.length
 |[]=>rfl
 |s::r=>by simp[wRs,yZ r];omega
theorem aHZ(ss:List Str):(wR ss).length≤2 * ss.length:=by
 cases ss with
 |nil=>simp[wR]
 |cons s r=>simp[wR,yZ];omega
theorem vH{l1:Nat}{a0 a1 a2:Option D}{S:List Str}:∀ (ss:List Str) (i:Nat) (made:List D) (a4 a5:Option D) (st:Sto),0<i→(∀ j s,ss[j]?=some s→S[i+j]?=some s)→st[l1]?=some (.l made)→made.length+2 * ss.length≤60000→
  ∃ a4' a5' st',forD (fun _=>True) (gT 2 (gsC (gN 4) (gsC (gN 5) gsN))) L53a ((List.range' i ss.length).map fun(k:Nat)=>D.t [.i (k:Nat),(S.map D.s).getD k .no]) [a0,a1,a2,some (.r l1),a4,a5] st=some ((.nx,[a0,a1,a2,some (.r l1),a4',a5']),st')∧st'[l1]?=some (.l (made++wRs ss))∧Kp l1 st st'
 |[],i,made,a4,a5,st,_,_,h1,_=>⟨a4,a5,st,by simp[forD],by simpa[wRs] using h1, .refl _ _⟩
 |s::ss,i,made,a4,a5,st,hi,hS,h1,hb=>by
  simp at hb;have hg:(S.map D.s).getD i .no=.s s:=by
   have:=hS 0 s rfl;rw[V19,Z13,show i=i+0 by omega,this]
   rfl
  have x1:Ext st (st++[.l [txR ", ",tR s]]):=Ext.app _ _;have e1:chkT "list" (.r l1) st=some ((),st):=bQ h1;have e2:extendD (.r l1) [.r st.length] (st++[.l [txR ", ",tR s]])=some (.no,(st++[C.l [txR ", ",tR s]]).set l1 (.l (made++[txR ", ",tR s]))):=fG (x1 _ _ h1) (by simp) (zl (by simp;omega));have e3:((st++[C.l [txR ", ",tR s]]).set l1 (.l (made++[txR ", ",tR s])))[l1]?=some (.l (made++[txR ", ",tR s])):=cI (x1 _ _ h1);have k1:Kp l1 st ((st++[C.l [txR ", ",tR s]]).set l1 (.l (made++[txR ", ",tR s]))):=(Kp.of x1).set;generalize (st++[C.l [txR ", ",tR s]]).set l1 (.l (made++[txR ", ",tR s]))=st1 at e2 e3 k1;obtain⟨b4,b5,st',g1,g2,g3⟩:=vH (a0:=a0) (a1:=a1) (a2:=a2) (S:=S) ss (i+1) (made++[txR ", ",tR s]) (some (.i (i:Nat))) (some (.s s)) st1 (by omega) (fun j s' h=>by have:=hS (j+1) s' (by simpa using h);rw[show i+1+j=i+(j+1) by omega];exact this) e3 (by simp;omega);refine⟨b4,b5,st',?_,by rw[g2];simp[wRs],k1.trans g3⟩;have h0:(0:Int) < (i:Nat):=by omega
  rw[Z14,V36,V15,forD,hg];simp only[aCh];generalize ((List.range' (i+1) ss.length).map fun(k:Nat)=>D.t [.i (k:Nat),(S.map D.s).getD k .no])=Y at g1 ⊢;generalize ((i:Nat):Int)=I at h0 g1 ⊢;simp[e1,h0,e2,g1]
theorem lL{A:RA}{tx:Str}{a:Nat}{ns ms ps:List D}{st:Sto}{w:Str}{ss:List Str}(h1:Rd A tx a ns ms ps st)(hb:ps.length+(wR ss).length+3≤60000)(hx:ss.length≤100):
  ∃ v st',dU [.r A.r, .s w, .k (ss.map D.s)] st=some (v,st')∧Rd A tx a ns ms (ps++(txR "("::(wR ss++[txR ")",mkR [.s w] ss.length])).reverse) st'∧Fq A st st':=by
 have x1:Ext st (st++[.l [txR "("]]):=Ext.app _ _;have hw:=aHZ ss;have key:∃ a4 a5 st3,forD (fun _=>True) (gT 2 (gsC (gN 4) (gsC (gN 5) gsN))) L53a (enumL (ss.map D.s)) [some (.r A.r),some (.s w),some (.k (ss.map D.s)),some (.r st.length),none,none] (st++[.l [txR "("]])=some ((.nx,[some (.r A.r),some (.s w),some (.k (ss.map D.s)),some (.r st.length),a4,a5]),st3)∧st3[st.length]?=some (.l ([txR "("]++wR ss))∧Kp st.length (st++[.l [txR "("]]) st3:=by
  have hel:enumL (ss.map D.s)=(List.range' 0 ss.length).map fun(k:Nat)=>D.t [.i (k:Nat),(ss.map D.s).getD k .no]:=by
   unfold enumL;rw[U16,U36]
  rw[hel];cases hss:ss with
  |nil=>exact⟨none,none,st++[.l [txR "("]],by simp[forD],by simp[wR], .refl _ _⟩
  |cons s r=>
   have h0:(st++[C.l [txR "("]])[st.length]?=some (.l [txR "("]):=by simp
   generalize st++[C.l [txR "("]]=st0 at h0 ⊢;have x2:Ext st0 (st0++[.l [tR s]]):=Ext.app _ _;have e1:chkT "list" (.r st.length) st0=some ((),st0):=bQ h0;have e2:extendD (.r st.length) [.r st0.length] (st0++[.l [tR s]])=some (.no,(st0++[C.l [tR s]]).set st.length (.l ([txR "("]++[tR s]))):=fG (x2 _ _ h0) (by simp) (zl (by simp));have e3:((st0++[C.l [tR s]]).set st.length (.l ([txR "("]++[tR s])))[st.length]?=some (.l ([txR "("]++[tR s])):=cI (x2 _ _ h0);have k1:Kp st.length st0 ((st0++[C.l [tR s]]).set st.length (.l ([txR "("]++[tR s]))):=(Kp.of x2).set;generalize (st0++[C.l [tR s]]).set st.length (.l ([txR "("]++[tR s]))=st1 at e2 e3 k1;rw[hss] at hx;simp at hx;obtain⟨b4,b5,st',g1,g2,g3⟩:=vH (a0:=some (.r A.r)) (a1:=some (.s w)) (a2:=some (.k ((s::r).map D.s))) (S:=s::r) r 1 ([txR "("]++[tR s]) (some (.i 0)) (some (.s s)) st1 (by omega) (fun j s' h=>by rw[show 1+j=j+1 by omega];simpa using h) e3 (by simp;omega);refine⟨b4,b5,st',?_,by rw[g2];simp[wR],k1.trans g3⟩;have hg:((s::r).map D.s).getD 0 .no=.s s:=rfl;rw[Z14,V36,V15,forD,hg];simp only[aCh];rw[show(0:Nat)+1=1 from rfl];generalize ((List.range' 1 r.length).map fun(k:Nat)=>D.t [.i (k:Nat),((s::r).map D.s).getD k .no])=Y at g1 ⊢;generalize (s::r).map D.s=SS at g1 ⊢;simp[e1,e2,g1]
 obtain⟨a4,a5,st3,g1,g2,g3⟩:=key;have x3:Ext st st3:=fun i c e=>g3 i c (by have:=(Z10.mp e).1;omega) (x1 i c e);have q3:=h1.ext x3;have x4:Ext st3 (st3++[.l [txR ")",mkR [.s w] ss.length], .l (([txR "("]++wR ss)++[txR ")",mkR [.s w] ss.length])]):=Ext.app _ _;have e5:addD (.r st.length) (.r st3.length) (st3++[.l [txR ")",mkR [.s w] ss.length]])=some (.r (st3.length+1),st3++[.l [txR ")",mkR [.s w] ss.length], .l (([txR "("]++wR ss)++[txR ")",mkR [.s w] ss.length])]):=by
  rw[iL (Ext.app _ _ _ _ g2) (ys:=[txR ")",mkR [.s w] ss.length]) (by simp) (zl (by simp;omega))];simp
 obtain⟨st4,e8,q4,k4⟩:=latr (l:=st3.length+1) (([txR "("]++wR ss)++[txR ")",mkR [.s w] ss.length]) (q3.ext x4) (by simp) (by simp;omega);refine⟨.no,st4,?_,by simpa using q4,(Fq.of x3).trans ((Fq.of x4).trans k4)⟩;generalize ([txR "("]++wR ss)++[txR ")",mkR [.s w] ss.length]=Z at e5 e8;have hn:enumD [.k (ss.map D.s)] (st++[.l [txR "("]])=some ((enumL (ss.map D.s),fun _=>True),st++[.l [txR "("]]):=rfl;have hk:lenD [.k (ss.map D.s)] st3=some (.i (ss.length:Nat),st3):=by
  show some (D.i (((ss.map D.s).length:Nat):Int),st3)=_;rw[U16]
 have e5':addD (.r st.length) (.r st3.length) (st3++[.l [.t [.s "text", .s ")"], .t [.s "make", .t [.s w], .i ((ss.length:Nat):Int)]]])=some (.r (st3.length+1),st3++[.l [.t [.s "text", .s ")"], .t [.s "make", .t [.s w], .i ((ss.length:Nat):Int)]], .l Z]):=e5;have e8':aX [.r A.r, .r (st3.length+1)] (st3++[.l [.t [.s "text", .s ")"], .t [.s "make", .t [.s w], .i ((ss.length:Nat):Int)]], .l Z])=some (.no,st4):=e8;generalize enumL (ss.map D.s)=Y at g1 hn;generalize ((ss.length:Nat):Int)=K at e5' e8' hk;generalize ss.map D.s=SS at g1 hn hk ⊢;simp[dU,iQ,hn,g1,q3.o_later,hk,e5',e8']
theorem vI{kvs:List (Key×D)}{w:Str}{d:D}{st:Sto}(h:valD kvs (.inr w)=some d):notinD (.s w) (.dc kvs) st=some (.b false,st):=by
 have e:inB (.s w) (.dc kvs) st=some true:=by
  show(keyD (.s w)).map (fun k=>(valD kvs k).isSome)=_;show some (valD kvs (.inr w)).isSome=_;rw[h]
  rfl
 unfold notinD;rw[e]
 rfl
theorem iD{w:Str}{ss:List Str}{kvs:List (Key×D)}(hk:bC=.dc kvs)(hv:valD kvs (.inr w)=some (.k (ss.map D.s)))(hl:∀ c∈cp w,c∈cp LET)(hx:ss.length≤100)(h':Rn b (txR "("::(wR ss++(txR ")"::mkR [.s w] ss.length::q0))) n m (cp "("++s2) n2 m2 c):Rn b (tR "reason"::q0) n m (cp w++(cp "("++s2)) n2 m2 (c+1):=by
 refine bB (qs:=txR "("::(wR ss++[txR ")",mkR [.s w] ss.length])) (px (by kernel_rfl)) (show RT "read_reason_row" eU by kernel_rfl) (by have:=h'.2.1;omega) (fun A tx a tl rest ms st h1 h2 h3 hb _=>?_) (by simpa using h');rw[U10 (cp "(")] at h2;obtain⟨st1,e1,q1,k1⟩:=cS (w:=w) h1 h2 hl vF;obtain⟨v,st2,e2,q2,k2⟩:=lL (w:=w) (ss:=ss) q1 (by simp at hb;omega) hx;have e3:=vI (st:=st1) hv;have e4:=px hv st1;refine⟨.no,st2,?_,q2,k1.trans k2⟩;simp[eU,eS,h1.o_letters,e1,hk,e3,e4,e2]
theorem mM{w:Str}{ss:List Str}{kvs:List (Key×D)}(hk:aO=.dc kvs)(hv:valD kvs (.inr w)=some (.k (ss.map D.s)))(hl:∀ c∈cp w,c∈cp LET)(hx:ss.length≤100)(h':Rn b (txR "("::(wR ss++(txR ")"::mkR [.s w] ss.length::q0))) n m (cp "("++s2) n2 m2 c):Rn b (tR "tactic"::q0) n m (cp w++(cp "("++s2)) n2 m2 (c+1):=by
 refine bB (qs:=txR "("::(wR ss++[txR ")",mkR [.s w] ss.length])) (px (by kernel_rfl)) (show RT "read_tactic_row" eX by kernel_rfl) (by have:=h'.2.1;omega) (fun A tx a tl rest ms st h1 h2 h3 hb _=>?_) (by simpa using h');rw[U10 (cp "(")] at h2;obtain⟨st1,e1,q1,k1⟩:=cS (w:=w) h1 h2 hl vF;obtain⟨v,st2,e2,q2,k2⟩:=lL (w:=w) (ss:=ss) q1 (by simp at hb;omega) hx;have e3:=vI (st:=st1) hv;have e4:=px hv st1;refine⟨.no,st2,?_,q2,k1.trans k2⟩;simp[eX,eW,h1.o_letters,e1,hk,e3,e4,e2]
end
def FO(b:Bool)(s:List Nat):Prop:=∀ tl,(b=true→foB tl=true)→foB (s++tl)=true
theorem cU{b:Bool}{p:Str}{X:List Nat}(h:foP (cp p)=true):FO b (cp p++X):=fun tl _=>by rw[U10];exact aHU h
section
variable{b:Bool}{q0 n m:List D}{s2:List Nat}{n2 m2:List D}{c:Nat}
theorem lenA{d:D}(h':Rn b q0 n (m++[d]) s2 n2 m2 c):m.length+1≤c:=by have:=h'.2.1;simpa using this
theorem fC{hd:List D}{x:D}(hh:hd.length≤1000)(h':Rn b q0 n (m++[.t (hd++[x])]) s2 n2 m2 c):Rn b (mkR hd 1::q0) n (m++[x]) s2 n2 m2 (c+1):=tL (ds:=[x]) hh (by have:=lenA h';simp;omega) h'
theorem oJ{hd:List D}{x y:D}(hh:hd.length≤1000)(h':Rn b q0 n (m++[.t (hd++[x,y])]) s2 n2 m2 c):Rn b (mkR hd 2::q0) n (m++[x]++[y]) s2 n2 m2 (c+2):=by
 rw[U10];exact tL (ds:=[x,y]) (c:=c+1) hh (by have:=lenA h';simp;omega) (h'.mono (by omega))
theorem oK{hd:List D}{x y z:D}(hh:hd.length≤1000)(h':Rn b q0 n (m++[.t (hd++[x,y,z])]) s2 n2 m2 c):Rn b (mkR hd 3::q0) n (m++[x]++[y]++[z]) s2 n2 m2 (c+3):=by
 rw[U10,U10];exact tL (ds:=[x,y,z]) (c:=c+2) hh (by have:=lenA h';simp;omega) (h'.mono (by omega))
theorem oM{sort close:Str}{x:D}(hp:close.length≤1000)(h':Rn b q0 n (m++[.t [x]]) s2 n2 m2 c):Rn b (moR sort close 1::q0) n (m++[x]) (cp close++s2) n2 m2 (c+1):=pZ (ds:=[x]) hp (by have:=lenA h';simp;omega) h'
theorem tN{sort close:Str}{x y:D}(hp:close.length≤1000)(h':Rn b q0 n (m++[.t [x,y]]) s2 n2 m2 c):Rn b (moR sort close 2::q0) n (m++[x]++[y]) (cp close++s2) n2 m2 (c+2):=by
 rw[U10];exact pZ (ds:=[x,y]) (c:=c+1) hp (by have:=lenA h';simp;omega) (h'.mono (by omega))
theorem vJ{ds:List D}(hd:ds.length≤4)(h':Rn b q0 n (m++[.t ds]) s2 n2 m2 c):Rn b (tR "few"::q0) n (m++[.t ds]) s2 n2 m2 (c+1):=aJc hd (by have:=lenA h';omega) h'
theorem qD{u X tl:List Nat}{close:Str}{x:Nat}(h:u.head?=some x)(hc:cp close=[41]∨cp close=[93])(hx:x≠41∧x≠93):((u++X)++tl).take close.length≠cp close:=by
 match u,h with
 |y::r,h=>
  cases h;have hl:close.length=1:=by rcases hc with e|e<;>(rw[← dC,e];rfl)
  rw[hl];rcases hc with e|e<;>(rw[e];simp;first|exact hx.1|exact hx.2)
theorem tO{w:Str}{t:List Nat}(hw:nmB w=true)(ht:∀ tl,(t++tl).take (")":Str).length≠cp ")")(h:Rn b (tR "term"::moR "term" ")" 1::tR "few"::mkR [.s "call", .s w] 1::q0) n m t n2 m2 c):Rn b (tR "term"::q0) n m ((cp w++cp "(")++t) n2 m2 (c+2):=aDi hw (lI (by decide) ht h)
theorem aFu{w:Str}(hw:nmB w=true)(h':Rn b q0 n (m++[.t [.s "call", .s w, .t []]]) s2 n2 m2 c):Rn b (tR "term"::q0) n m ((cp w++cp "(")++(cp ")"++s2)) n2 m2 (c+4):=
 have h1:=fC (hd:=[.s "call", .s w]) (x:=.t []) (by simp) h';have h2:=vJ (ds:=[]) (by simp) h1
 aDi hw (xG (by decide) (by have:=lenA h2;omega) h2)
end
theorem vK:cp ")"=[41]:=by decide +kernel
theorem zA:cp "]"=[93]:=by decide +kernel
theorem fD:foP (cp ")")=true:=by decide +kernel
theorem kU:foP (cp ", ")=true:=by decide +kernel
theorem xI:foP (cp "]")=true:=by decide +kernel
theorem aIa:foP (cp " | ")=true:=by decide +kernel
theorem aJd:∀ l:List Bool,∃ x,(cp (tmS l)).head?=some x∧x≠41∧x≠93
 |[]=>⟨120,by decide +kernel,by decide,by decide⟩
 |true::l=>⟨102,by rw[tmS,aE,aE,show cp "f("=[102,40] by decide +kernel];rfl,by decide,by decide⟩
 |false::l=>⟨83,by rw[tmS,aE,aE,show cp "S(Z, "=[83,40,90,44,32] by decide +kernel];rfl,by decide,by decide⟩
theorem xJ{close:Str}{X:List Nat}(hc:cp close=[41]∨cp close=[93])(tl:List Nat):(cp ", "++(X++tl)).take close.length≠cp close:=by
 rw[← U10];exact qD (x:=44) (by decide +kernel) hc (by decide)
theorem tmR{b:Bool}:∀ (l:List Bool) {q0 m:List D} {s2:List Nat} {n2 m2:List D} {c:Nat},FO b s2→Rn b q0 [] (m++[tmD l]) s2 n2 m2 c→Rn b (tR "term"::q0) [] m (cp (tmS l)++s2) n2 m2 (c+1+8 * l.length)
 |[],q0,m,s2,n2,m2,c,hs,h'=>by
  have:=qB (w:="x") (n:=[]) (d:=tmD []) (by decide +kernel) (fun st l hl=>nP hl) hs (by have:=lenA h';omega) h';exact this
 |true::l,q0,m,s2,n2,m2,c,hs,h'=>by
  have h1:=fC (hd:=[.s "call", .s "f"]) (x:=.t [tmD l]) (by simp) h';have h2:=vJ (ds:=[tmD l]) (by simp) h1;have h3:=oM (sort:="term") (close:=")") (x:=tmD l) (by decide) h2;have h4:=tmR l (cU fD) h3;obtain⟨x,hx,hx2⟩:=aJd l;have h5:=tO (w:="f") (by decide +kernel) (fun tl=>qD hx (.inl vK) hx2) h4;have q:cp (tmS (true::l))++s2=(cp "f"++cp "(")++(cp (tmS l)++(cp ")"++s2)):=by
   rw[tmS,aE,aE,← cf1,aE];simp only[U10]
  rw[q];exact h5.mono (by simp;omega)
 |false::l,q0,m,s2,n2,m2,c,hs,h'=>by
  have h1:=fC (hd:=[.s "form", .s "S"]) (x:=.t [.t [.s "form", .s "Z", .t []],tmD l]) (by simp) h';have h2:=vJ (ds:=[.t [.s "form", .s "Z", .t []],tmD l]) (by simp) h1;have h3:=tN (sort:="term") (close:=")") (x:=.t [.s "form", .s "Z", .t []]) (y:=tmD l) (by decide) h2;have h4:=tmR l (cU fD) h3;have h5:=nF (k:=1) (close:=")") (by decide) (xJ (.inl vK)) h4;have h6:=aFp (w:="Z") (.inr rfl) (cU kU) (by have:=lenA h5;omega) h5;have h7:=aHW (w:="S") (.inl rfl) h6;have q:cp (tmS (false::l))++s2=(cp "S"++cp "(")++(cp "Z"++(cp ", "++(cp (tmS l)++(cp ")"++s2)))):=by
   rw[tmS,aE,aE,← cS1,aE];simp only[U10]
  rw[q];exact h7.mono (by simp;omega)
theorem tP:∀ j,j<81→nmB (nm j)=true:=by decide +kernel
theorem aJe:∀ j,j<81→((cp (nm j)).head?==some 120 || (cp (nm j)).head?==some 121 || (cp (nm j)).head?==some 122)=true:=by decide +kernel
theorem aIb{j:Nat}(h:j<81):∃ x,(cp (nm j)).head?=some x∧x≠41∧x≠93:=by
 have:=aJe j h;simp at this;rcases this with (e|e)|e
 ·exact⟨_,by simpa using e,by decide,by decide⟩
 ·exact⟨_,by simpa using e,by decide,by decide⟩
 ·exact⟨_,by simpa using e,by decide,by decide⟩
theorem mN(j:Nat):nmsD (j+1)=nmsD j++[.s (nm j)]:=by simp[nmsD,V28]
section
variable{b:Bool}{q0 m:List D}{s2:List Nat}{n2 m2:List D}{c:Nat}
theorem p2R{M far:Nat}(hM:M≤60)(h0:0<M)(hf:far<M)(hs:FO b s2)(h':Rn b q0 (nmsD M) (m++[.t [.s "atom", .s "p", .t [.t [.s "bound", .i 0], .t [.s "bound", .i (far:Nat)]]]]) s2 n2 m2 c):
  Rn b (tR "statement"::q0) (nmsD M) m ((cp "p"++cp "(")++(cp (nm (M - 1))++(cp ", "++(cp (nm (M - 1 - far))++(cp ")"++s2))))) n2 m2 (c+11):=by
 have h1:=xH (w:="p") (as:=[.t [.s "bound", .i 0], .t [.s "bound", .i (far:Nat)]]) hs (by have:=lenA h';omega) h';have h2:=fC (hd:=[.s "call", .s "p"]) (x:=.t [.t [.s "bound", .i 0], .t [.s "bound", .i (far:Nat)]]) (by simp) h1;have h3:=vJ (ds:=[.t [.s "bound", .i 0], .t [.s "bound", .i (far:Nat)]]) (by simp) h2;have h4:=tN (sort:="term") (close:=")") (x:=.t [.s "bound", .i 0]) (y:=.t [.s "bound", .i (far:Nat)]) (by decide) h3;have h5:=qB (w:=nm (M - 1 - far)) (tP _ (by omega)) (fun st l hl=>jR hl hM hf) (cU fD) (by have:=lenA h4;omega) h4;have h6:=nF (k:=1) (close:=")") (by decide) (xJ (.inl vK)) h5;have h7:=qB (w:=nm (M - 1 - 0)) (tP _ (by omega)) (fun st l hl=>jR (k:=0) hl hM h0) (cU kU) (by have:=lenA h6;omega) h6;rw[Nat.sub_zero] at h7;obtain⟨x,hx,hx2⟩:=aIb (j:=M - 1) (by omega);have h8:=tO (w:="p") (by decide +kernel) (fun tl=>qD hx (.inl vK) hx2) h7;exact(nG (w:="p") (by decide +kernel) (by decide) h8).mono (by omega)
theorem p1R(hs:FO b s2)(h':Rn b q0 (nmsD 1) (m++[.t [.s "atom", .s "p", .t [.t [.s "bound", .i 0]]]]) s2 n2 m2 c):Rn b (tR "statement"::q0) (nmsD 1) m ((cp "p"++cp "(")++(cp "x"++(cp ")"++s2))) n2 m2 (c+11):=by
 have h1:=xH (w:="p") (as:=[.t [.s "bound", .i 0]]) hs (by have:=lenA h';omega) h';have h2:=fC (hd:=[.s "call", .s "p"]) (x:=.t [.t [.s "bound", .i 0]]) (by simp) h1;have h3:=vJ (ds:=[.t [.s "bound", .i 0]]) (by simp) h2;have h4:=oM (sort:="term") (close:=")") (x:=.t [.s "bound", .i 0]) (by decide) h3;have h7:=qB (w:=nm (1 - 1 - 0)) (tP _ (by omega)) (fun st l hl=>jR (k:=0) hl (by omega) (by omega)) (cU fD) (by have:=lenA h4;omega) h4;rw[show nm (1 - 1 - 0)="x" by decide +kernel] at h7;have h8:=tO (w:="p") (by decide +kernel) (fun tl=>qD (x:=120) (by decide +kernel) (.inl vK) (by decide)) h7;exact(nG (w:="p") (by decide +kernel) (by decide) h8).mono (by omega)
theorem qR(hs:FO b s2)(h':Rn b q0 [] (m++[qA]) s2 n2 m2 c):Rn b (tR "statement"::q0) [] m ((cp "q"++cp "(")++(cp ")"++s2)) n2 m2 (c+7):=by
 have h1:=xH (w:="q") (as:=[]) hs (by have:=lenA h';omega) h';have h2:=aFu (w:="q") (by decide +kernel) h1;exact(nG (w:="q") (by decide +kernel) (by decide) h2).mono (by omega)
end
theorem boR{b:Bool}{M far:Nat}(hM:M≤60)(hf:M≠0→far<M):∀ (l:List Bool) {q0 m:List D} {s2:List Nat} {n2 m2:List D} {c:Nat},l.length≤M→FO b s2→Rn b q0 (nmsD (M - l.length)) (m++[boD M far l]) s2 n2 m2 c→Rn b (tR "statement"::q0) (nmsD (M - l.length)) m (cp (boS M far l)++s2) n2 m2 (c+11+3 * l.length)
 |[],q0,m,s2,n2,m2,c,_,hs,h'=>by
  unfold boD at h';unfold boS
  split at h'
  ·rename_i h0;rw[if_pos h0];exact(lU hs (by have:=lenA h';omega) h').mono (by omega)
  ·rename_i h0;rw[if_neg h0];have h1:=p2R (far:=far) hM (by omega) (hf h0) hs h';have q:cp (("p(":Str)++nm (M - 1)++(", ":Str)++nm (M - 1 - far)++(")":Str))++s2=(cp "p"++cp "(")++(cp (nm (M - 1))++(cp ", "++(cp (nm (M - 1 - far))++(cp ")"++s2)))):=by
    rw[aE,aE,aE,aE,← cb1,aE];simp only[U10]
   rw[q];exact h1.mono (by omega)
 |t::l,q0,m,s2,n2,m2,c,hl,hs,h'=>by
  simp only[Z14] at hl h' ⊢;generalize hj:M - (l.length+1)=j at h' ⊢;have hj1:M - l.length=j+1:=by omega
  have key:∀ w:Str,w="all"∨w="some"→Rn b q0 (nmsD j) (m++[.t [.s w, .s "nat",boD M far l]]) s2 n2 m2 c→Rn b (tR "statement"::q0) (nmsD j) m (cp (w++(" ":Str)++nm (M - 1 - l.length)++(" nat: ":Str)++boS M far l)++s2) n2 m2 (c+11+3 * (l.length+1)):=by
   intro w hw h';have h1:=fC (hd:=[.s w, .s "nat"]) (x:=boD M far l) (by simp) h';have h2:=yW (x:=.s (nm j)) h1;rw[← mN] at h2;have h3:=boR hM hf l (by omega) hs (by rw[hj1];exact h2);rw[hj1,mN] at h3;have h4:=aAL (w:=w) (x:=nm j) (K:="nat") hw (tP j (by omega)) (by decide +kernel) (by rw[oF];omega) h3;have q:cp (w++(" ":Str)++nm (M - 1 - l.length)++(" nat: ":Str)++boS M far l)++s2=(cp w++(cp " "++(cp (nm j)++(cp " "++(cp "nat"++cp ": ")))))++(cp (boS M far l)++s2):=by
    rw[show M - 1 - l.length=j by omega];simp only[aE,cb2,U10]
   rw[q];exact h4.mono (by omega)
  cases t with
  |true=>exact key "all" (.inl rfl) h'
  |false=>exact key "some" (.inr rfl) h'
theorem joR{b:Bool}{q0 m:List D}{s2 sA sB:List Nat}{n2 m2:List D}{c cA cB:Nat}{w j:Str}{dA dB:D}(hw:(w="and"∧j=" and ")∨(w="or"∧j=" or ")∨(w="if"∧j=" -> "))
  (hA:∀ {q0 m:List D} {s2:List Nat} {n2 m2:List D} {c:Nat},FO b s2→Rn b q0 [] (m++[dA]) s2 n2 m2 c→Rn b (tR "statement"::q0) [] m (sA++s2) n2 m2 (c+cA))
  (hB:∀ {q0 m:List D} {s2:List Nat} {n2 m2:List D} {c:Nat},FO b s2→Rn b q0 [] (m++[dB]) s2 n2 m2 c→Rn b (tR "statement"::q0) [] m (sB++s2) n2 m2 (c+cB))
  (h':Rn b q0 [] (m++[.t [.s w,dA,dB]]) s2 n2 m2 c):Rn b (tR "statement"::q0) [] m (cp "("++(sA++(cp j++(sB++(cp ")"++s2))))) n2 m2 (c+cA+cB+5):=by
 have h1:=oJ (hd:=[.s w]) (x:=dA) (y:=dB) (by simp) h';have h2:=aM (p:=")") (by decide) h1;have h3:=hB (cU fD) h2;have h4:=aFq hw h3;have hj:foP (cp j)=true:=by rcases hw with⟨_,rfl⟩|⟨_,rfl⟩|⟨_,rfl⟩<;>decide +kernel
 have h5:=hA (cU hj) h4;exact(aDj h5).mono (by omega)
theorem stR{b:Bool}:∀ (l:List Nat) {q0 m:List D} {s2:List Nat} {n2 m2:List D} {c:Nat},FO b s2→Rn b q0 [] (m++[stD l]) s2 n2 m2 c→Rn b (tR "statement"::q0) [] m (cp (stS l)++s2) n2 m2 (c+(1+13 * l.length))
 |[],q0,m,s2,n2,m2,c,hs,h'=>(lU hs (by have:=lenA h';omega) h').mono (by omega)
 |k::l,q0,m,s2,n2,m2,c,hs,h'=>by
  have hA:∀ {q0 m:List D} {s2:List Nat} {n2 m2:List D} {c:Nat},FO b s2→Rn b q0 [] (m++[stD l]) s2 n2 m2 c→Rn b (tR "statement"::q0) [] m (cp (stS l)++s2) n2 m2 (c+(1+13 * l.length)):=fun hs h'=>stR l hs h';have hQ:∀ {q0 m:List D} {s2:List Nat} {n2 m2:List D} {c:Nat},FO b s2→Rn b q0 [] (m++[qA]) s2 n2 m2 c→Rn b (tR "statement"::q0) [] m (cp "q()"++s2) n2 m2 (c+7):=fun {q0 m s2 n2 m2 c} hs h'=>by
   have:=qR hs h';rw[← U10,U10 (cp "q"),show cp "q"++(cp "("++cp ")")=cp "q()" by decide +kernel] at this;exact this
  have k1:∀ w j:Str,((w="and"∧j=" and ")∨(w="or"∧j=" or ")∨(w="if"∧j=" -> "))→Rn b q0 [] (m++[.t [.s w,stD l,qA]]) s2 n2 m2 c→Rn b (tR "statement"::q0) [] m (cp (("(":Str)++stS l++j++("q())":Str))++s2) n2 m2 (c+(1+13 * (l.length+1))):=by
   intro w j hw h';have e:=joR hw hA hQ h';simp only[aE,cq2,U10];exact e.mono (by omega)
  have k2:∀ w j:Str,((w="and"∧j=" and ")∨(w="or"∧j=" or ")∨(w="if"∧j=" -> "))→Rn b q0 [] (m++[.t [.s w,qA,stD l]]) s2 n2 m2 c→Rn b (tR "statement"::q0) [] m (cp (("(q()":Str)++j++stS l++(")":Str))++s2) n2 m2 (c+(1+13 * (l.length+1))):=by
   intro w j hw h';have e:=joR hw hQ hA h';simp only[aE,cq3,U10];exact e.mono (by omega)
  match k,h' with
  |0,h'=>exact k1 _ _ (.inl ⟨rfl,rfl⟩) h'
  |1,h'=>exact k1 _ _ (.inr (.inl ⟨rfl,rfl⟩)) h'
  |2,h'=>exact k1 _ _ (.inr (.inr ⟨rfl,rfl⟩)) h'
  |3,h'=>exact k2 _ _ (.inl ⟨rfl,rfl⟩) h'
  |4,h'=>exact k2 _ _ (.inr (.inl ⟨rfl,rfl⟩)) h'
  |k+5,h'=>exact k2 _ _ (.inr (.inr ⟨rfl,rfl⟩)) h'
section
variable{b:Bool}{q0 n m:List D}{s2:List Nat}{n2 m2:List D}{c:Nat}
theorem tQ{sort w:Str}(h1:∀ st,ixD gR (.s sort) st=some (.fn "read_name",st))(hw:nmB w=true)(hs:FO b s2)(h':Rn b q0 n (m++[.s w]) s2 n2 m2 c):Rn b (tR sort::q0) n m (cp w++s2) n2 m2 (c+1):=aHY h1 hw hs (by have:=lenA h';omega) h'
theorem qE{ws:List Str}(hw:∀ w∈ws,nmB w=true)(hb:ws.length≤100)(h':Rn b q0 n (m++[.t (ws.map D.s)]) s2 n2 m2 c):Rn b (tR "spaced"::txR " | "::q0) n m (spA ws++(cp " | "++s2)) n2 m2 (c+2):=
 aDs hw hb (by have:=lenA h';omega) (aM (p:=" | ") (by decide) h')
end
theorem aJf:∀ st,ixD gR (.s "h") st=some (.fn "read_name",st):=px (by kernel_rfl)
theorem aJn:∀ st,ixD gR (.s "K") st=some (.fn "read_name",st):=px (by kernel_rfl)
theorem aFv:∀ st,ixD gR (.s "name") st=some (.fn "read_name",st):=px (by kernel_rfl)
theorem sh:spA ["g","h"]=cp "g h":=by decide +kernel
theorem sn:spA ["n"]=cp "n":=by decide +kernel
theorem aIc:nmB "h"=true:=by decide +kernel
theorem aJo:nmB "n"=true:=by decide +kernel
theorem aDt{X tl:List Nat}{close:Str}{u:Str}(hc:cp close=[41]∨cp close=[93])(h:(cp u).head?=some 32∨(cp u).head?=some 110):((cp u++X)++tl).take close.length≠cp close:=by
 rcases h with h|h
 ·exact qD h hc (by decide)
 ·exact qD h hc (by decide)
theorem g1:cp "give(hole("=cp "give"++(cp "("++(cp "hole"++cp "(")):=by decide +kernel
theorem g3:cp "into(h, false, "=cp "into"++(cp "("++(cp "h"++(cp ", "++(cp "false"++cp ", ")))):=by decide +kernel
theorem g4:cp "forms(n, [ | h | "=cp "forms"++(cp "("++(cp "n"++(cp ", "++(cp "["++(cp " | "++(cp "h"++cp " | ")))))):=by decide +kernel
theorem g6:cp "induct(nat, x: p(x), [n | g h | "=cp "induct"++(cp "("++(cp "nat"++(cp ", "++((cp "x"++cp ": ")++((cp "p"++cp "(")++(cp "x"++(cp ")"++(cp ", "++(cp "["++(cp "n"++(cp " | "++(cp "g h"++cp " | ")))))))))))):=by decide +kernel
theorem ir:("induct rows"++(" row":Str):Str)="induct rows row":=by decide +kernel
theorem fr:("forms rows"++(" row":Str):Str)="forms rows row":=by decide +kernel
theorem reR{b:Bool}:∀ (l:List (Nat×Nat)) {q0 m:List D} {s2:List Nat} {n2 m2:List D} {c:Nat},(∀ x∈l,x.2<200)→FO b s2→Rn b q0 [] (m++[reD l]) s2 n2 m2 c→Rn b (tR "reason"::q0) [] m (cp (reS l)++s2) n2 m2 (c+(5+50 * l.length))
 |[],q0,m,s2,n2,m2,c,_,hs,h'=>by
  have h1:=fC (hd:=[.s "fact"]) (x:=.s "h") (by simp) h';have h2:=aM (p:=")") (by decide) h1;have h3:=tQ aJf aIc (cU fD) h2;have h4:=aM (p:="(") (by decide) h3;have h5:=iD (w:="fact") (ss:=["h"]) rfl (by kernel_rfl) (by decide +kernel) (by simp) h4;have q:cp (reS [])++s2=cp "fact"++(cp "("++(cp "h"++(cp ")"++s2))):=by
   show cp "fact(h)"++s2=_;rw[show cp "fact(h)"=cp "fact"++(cp "("++(cp "h"++cp ")")) by decide +kernel];simp only[U10]
  rw[q];exact h5.mono (by simp)
 |(k,i)::l,q0,m,s2,n2,m2,c,hk,hs,h'=>by
  have hi:i<200:=hk (k,i) (by simp);have ih:∀ {q0 m:List D} {s2:List Nat} {n2 m2:List D} {c:Nat},FO b s2→Rn b q0 [] (m++[reD l]) s2 n2 m2 c→Rn b (tR "reason"::q0) [] m (cp (reS l)++s2) n2 m2 (c+(5+50 * l.length)):=fun hs h'=>reR l (fun x hx=>hk x (U13 _ hx)) hs h';have one:∀ (w:Str) (kvs:List (Key×D)),bC=.dc kvs→valD kvs (.inr w)=some (.k ((["reason"]:List Str).map D.s))→(∀ c∈cp w,c∈cp LET)→Rn b q0 [] (m++[.t [.s w,reD l]]) s2 n2 m2 c→Rn b (tR "reason"::q0) [] m (cp (w++("(":Str)++reS l++(")":Str))++s2) n2 m2 (c+(5+50 * (l.length+1))):=by
   intro w kvs e1 e2 e3 h';have h1:=fC (hd:=[.s w]) (x:=reD l) (by simp) h';have h2:=aM (p:=")") (by decide) h1;have h3:=ih (cU fD) h2;have h4:=aM (p:="(") (by decide) h3;have h5:=iD (w:=w) (ss:=["reason"]) e1 e2 e3 (by simp) h4;simp only[aE,U10];exact h5.mono (by omega)
  match k,h' with
  |0,h'=>exact one "first" _ rfl (by kernel_rfl) (by decide +kernel) h'
  |1,h'=>exact one "unlike" _ rfl (by kernel_rfl) (by decide +kernel) h'
  |2,h'=>
   have h1:=oJ (hd:=[.s "give"]) (x:=.t [.s "hole", .i (i:Nat)]) (y:=reD l) (by simp) h';have h2:=aM (p:=")") (by decide) h1;have h3:=ih (cU fD) h2;have h4:=aM (p:=", ") (by decide) h3;have h5:=fC (hd:=[.s "hole"]) (x:=.i (i:Nat)) (by simp) h4;have h6:=aM (p:=")") (by decide) h5;have h7:=aDn hi (cU fD) (by have:=lenA h6;omega) h6;have h8:=aM (p:="(") (by decide) h7;have h9:=iD (w:="hole") (ss:=["number"]) rfl (by kernel_rfl) (by decide +kernel) (by simp) h8;have h10:=aM (p:="(") (by decide) h9;have h11:=iD (w:="give") (ss:=["reason","reason"]) rfl (by kernel_rfl) (by decide +kernel) (by simp) h10;have q:cp (reS ((2,i)::l))++s2=cp "give"++(cp "("++(cp "hole"++(cp "("++(cp (numS i)++(cp ")"++(cp ", "++(cp (reS l)++(cp ")"++s2)))))))):=by
    show cp (("give(hole(":Str)++numS i++("), ":Str)++reS l++(")":Str))++s2=_;rw[aE,aE,aE,aE,g1,cr2];simp only[U10]
   rw[q];exact h11.mono (by simp;omega)
  |3,h'=>
   have h1:=oK (hd:=[.s "into"]) (x:=.s "h") (y:=.t [.s "false"]) (z:=reD l) (by simp) h';have h2:=aM (p:=")") (by decide) h1;have h3:=ih (cU fD) h2;have h4:=aM (p:=", ") (by decide) h3;have h5:=lU (cU kU) (by have:=lenA h4;omega) h4;have h6:=aM (p:=", ") (by decide) h5;have h7:=tQ aJf aIc (cU kU) h6;have h10:=aM (p:="(") (by decide) h7;have h11:=iD (w:="into") (ss:=["h","statement","reason"]) rfl (by kernel_rfl) (by decide +kernel) (by simp) h10;have q:cp (reS ((3,i)::l))++s2=cp "into"++(cp "("++(cp "h"++(cp ", "++(cp "false"++(cp ", "++(cp (reS l)++(cp ")"++s2))))))):=by
    show cp (("into(h, false, ":Str)++reS l++(")":Str))++s2=_;rw[aE,aE,g3];simp only[U10]
   rw[q];exact h11.mono (by simp;omega)
  |4,h'=>
   have h1:=oJ (hd:=[.s "forms"]) (x:=.t [.s "free", .s "n"]) (y:=.t [.t [.t [], .s "h",reD l]]) (by simp) h';have h2:=aM (p:=")") (by decide) h1;have h3:=oM (sort:="forms rows row") (close:="]") (x:=.t [.t [], .s "h",reD l]) (by decide) h2;have h4:=oK (hd:=[]) (x:=.t []) (y:=.s "h") (z:=reD l) (by simp) h3;have h5:=ih (cU xI) h4;have h6:=aM (p:=" | ") (by decide) h5;have h7:=tQ aFv aIc (cU aIa) h6;have h8:=qE (ws:=[]) (by simp) (by simp) h7;have h9:=vG h8;have h10:=lI (sort:="forms rows row") (close:="]") (by decide) (fun tl=>aDt (u:=" | ") (.inr zA) (.inl (by decide +kernel))) h9;have h11:=aM (p:="[") (by decide) h10;rw[← fr] at h11;have h12:=aDo (.inr rfl) h11;have h13:=aM (p:=", ") (by decide) h12;have h14:=qB (w:="n") (n:=[]) (d:=.t [.s "free", .s "n"]) aJo (fun st l hl=>nP hl) (cU kU) (by have:=lenA h13;omega) h13;have h15:=aM (p:="(") (by decide) h14;have h16:=iD (w:="forms") (ss:=["term","forms rows"]) rfl (by kernel_rfl) (by decide +kernel) (by simp) h15;have q:cp (reS ((4,i)::l))++s2=cp "forms"++(cp "("++(cp "n"++(cp ", "++(cp "["++(spA []++(cp " | "++(cp "h"++(cp " | "++(cp (reS l)++(cp "]"++(cp ")"++s2))))))))))):=by
    show cp (("forms(n, [ | h | ":Str)++reS l++("])":Str))++s2=_;rw[aE,aE,g4,cr5];simp only[U10,spA,U21]
   rw[q];exact h16.mono (by simp;omega)
  |k+5,h'=>
   have h1:=oK (hd:=[.s "induct"]) (x:=.s "nat") (y:=.t [.s "atom", .s "p", .t [.t [.s "bound", .i 0]]]) (z:=.t [.t [.t [.s "n"], .t [.s "g", .s "h"],reD l]]) (by simp) h';have h2:=aM (p:=")") (by decide) h1;have h3:=oM (sort:="induct rows row") (close:="]") (x:=.t [.t [.s "n"], .t [.s "g", .s "h"],reD l]) (by decide) h2;have h4:=oK (hd:=[]) (x:=.t [.s "n"]) (y:=.t [.s "g", .s "h"]) (z:=reD l) (by simp) h3;have h5:=ih (cU xI) h4;have h7:=qE (ws:=["g","h"]) (by decide +kernel) (by simp) h5;have h8:=qE (ws:=["n"]) (by decide +kernel) (by simp) h7;have h9:=tM h8;rw[sn,sh] at h9;have h10:=lI (sort:="induct rows row") (close:="]") (by decide) (fun tl=>aDt (u:="n") (.inr zA) (.inr (by decide +kernel))) h9;have h11:=aM (p:="[") (by decide) h10;rw[← ir] at h11;have h12:=aDo (.inl rfl) h11;have h13:=aM (p:=", ") (by decide) h12;have h14:=yW (x:=.s (nm 0)) h13;have h15:=p1R (cU kU) (by rw[mN];exact h14);have h16:=aHX (x:="x") (by decide +kernel) (by simp) (n:=[]) (by rw[mN,show nm 0="x" by decide +kernel] at h15;exact h15);have h17:=aM (p:=", ") (by decide) h16;have h18:=tQ (w:="nat") aJn (by decide +kernel) (cU kU) h17;have h19:=aM (p:="(") (by decide) h18;have h20:=iD (w:="induct") (ss:=["K","body","induct rows"]) rfl (by kernel_rfl) (by decide +kernel) (by simp) h19;have q:cp (reS ((k+5,i)::l))++s2=cp "induct"++(cp "("++(cp "nat"++(cp ", "++((cp "x"++cp ": ")++((cp "p"++cp "(")++(cp "x"++(cp ")"++(cp ", "++(cp "["++(cp "n"++(cp " | "++(cp "g h"++(cp " | "++(cp (reS l)++(cp "]"++(cp ")"++s2)))))))))))))))):=by
    show cp (("induct(nat, x: p(x), [n | g h | ":Str)++reS l++("])":Str))++s2=_;rw[aE,aE,g6,cr5];simp only[U10]
   rw[q];exact h20.mono (by simp;omega)
theorem t0R{b:Bool}{q0 m:List D}{s2:List Nat}{n2 m2:List D}{c:Nat}(w:Str)(kvs:List (Key×D))(e1:aO=.dc kvs)(e2:valD kvs (.inr w)=some (.k (([]:List Str).map D.s)))(e3:∀ c∈cp w,c∈cp LET)(h':Rn b q0 [] (m++[.t [.s w]]) s2 n2 m2 c):Rn b (tR "tactic"::q0) [] m (cp (w++("(":Str)++(")":Str))++s2) n2 m2 (c+4):=by
 have h1:=tL (ds:=[]) (hd:=[.s w]) (m:=m) (by simp) (by have:=lenA h';simp;omega) h';rw[V12] at h1;have h2:=aM (p:=")") (by decide) h1;have h4:=aM (p:="(") (by decide) h2;have h5:=mM (w:=w) (ss:=[]) e1 e2 e3 (by simp) h4;simp only[aE,U10];exact h5.mono (by omega)
theorem u1:cp "then("=cp "then"++cp "(":=by decide +kernel
theorem u3:cp "first([plain(), "=cp "first"++(cp "("++(cp "["++(cp ("plain"++("(":Str)++(")":Str))++cp ", "))):=by decide +kernel
theorem taR{b:Bool}:∀ (l:List Nat) {q0 m:List D} {s2:List Nat} {n2 m2:List D} {c:Nat},FO b s2→Rn b q0 [] (m++[taD l]) s2 n2 m2 c→Rn b (tR "tactic"::q0) [] m (cp (taS l)++s2) n2 m2 (c+(4+30 * l.length))
 |[],q0,m,s2,n2,m2,c,hs,h'=>by
  show Rn b _ [] m (cp "both()"++s2) _ _ _;rw[ct4];exact(t0R "both" _ rfl (by kernel_rfl) (by decide +kernel) h').mono (by simp)
 |k::l,q0,m,s2,n2,m2,c,hs,h'=>by
  have ih:∀ {q0 m:List D} {s2:List Nat} {n2 m2:List D} {c:Nat},FO b s2→Rn b q0 [] (m++[taD l]) s2 n2 m2 c→Rn b (tR "tactic"::q0) [] m (cp (taS l)++s2) n2 m2 (c+(4+30 * l.length)):=fun hs h'=>taR l hs h';have one:∀ (w:Str) (kvs:List (Key×D)),aO=.dc kvs→valD kvs (.inr w)=some (.k ((["tactic"]:List Str).map D.s))→(∀ c∈cp w,c∈cp LET)→Rn b q0 [] (m++[.t [.s w,taD l]]) s2 n2 m2 c→Rn b (tR "tactic"::q0) [] m (cp (w++("(":Str)++taS l++(")":Str))++s2) n2 m2 (c+(4+30 * (l.length+1))):=by
   intro w kvs e1 e2 e3 h';have h1:=fC (hd:=[.s w]) (x:=taD l) (by simp) h';have h2:=aM (p:=")") (by decide) h1;have h3:=ih (cU fD) h2;have h4:=aM (p:="(") (by decide) h3;have h5:=mM (w:=w) (ss:=["tactic"]) e1 e2 e3 (by simp) h4;simp only[aE,U10];exact h5.mono (by omega)
  match k,h' with
  |0,h'=>
   have h1:=oJ (hd:=[.s "then"]) (x:=taD l) (y:=.t [.s "done"]) (by simp) h';have h2:=aM (p:=")") (by decide) h1;have h3:=t0R "done" _ rfl (by kernel_rfl) (by decide +kernel) h2;have h4:=aM (p:=", ") (by decide) h3;have h5:=ih (cU kU) h4;have h6:=aM (p:="(") (by decide) h5;have h7:=mM (w:="then") (ss:=["tactic","tactic"]) rfl (by kernel_rfl) (by decide +kernel) (by simp) h6;have q:cp (taS (0::l))++s2=cp "then"++(cp "("++(cp (taS l)++(cp ", "++(cp ("done"++("(":Str)++(")":Str))++(cp ")"++s2))))):=by
    show cp (("then(":Str)++taS l++(", done())":Str))++s2=_;rw[aE,aE,u1,ct2];simp only[U10]
   rw[q];exact h7.mono (by simp;omega)
  |1,h'=>
   have h1:=fC (hd:=[.s "first"]) (x:=.t [.t [.s "plain"],taD l]) (by simp) h';have h2:=aM (p:=")") (by decide) h1;have h3:=tN (sort:="tactic") (close:="]") (x:=.t [.s "plain"]) (y:=taD l) (by decide) h2;have h4:=ih (cU xI) h3;have h5:=nF (k:=1) (close:="]") (by decide) (xJ (.inr zA)) h4;have h6:=t0R "plain" _ rfl (by kernel_rfl) (by decide +kernel) h5;have h7:=lI (sort:="tactic") (close:="]") (by decide) (fun tl=>qD (x:=112) (by decide +kernel) (.inr zA) (by decide)) h6;have h8:=aM (p:="[") (by decide) h7;have h9:=aAM h8;have h10:=aM (p:="(") (by decide) h9;have h11:=mM (w:="first") (ss:=["tactics"]) rfl (by kernel_rfl) (by decide +kernel) (by simp) h10;have q:cp (taS (1::l))++s2=cp "first"++(cp "("++(cp "["++(cp ("plain"++("(":Str)++(")":Str))++(cp ", "++(cp (taS l)++(cp "]"++(cp ")"++s2))))))):=by
    show cp (("first([plain(), ":Str)++taS l++("])":Str))++s2=_;rw[aE,aE,u3,cr5];simp only[U10]
   rw[q];exact h11.mono (by simp;omega)
  |2,h'=>exact one "try" _ rfl (by kernel_rfl) (by decide +kernel) h'
  |k+3,h'=>exact one "again" _ rfl (by kernel_rfl) (by decide +kernel) h'
section
variable{st:Sto}
theorem kW{f:Str}{y:D}{fs:List (Str×D)}{r:Sto}(h:fs.length<1000):setF cC f (.r st.length) y (st++.o cC fs::r)=some ((),st++.o cC (putO f y fs)::r):=by
 rw[aCi (fs:=fs) (by simp) h];simp
theorem aIe{tx:Str}{ln:Nat}:fM [.r st.length, .s tx, .r ln] (st++[.o cC []])=some (.no,st++[.o cC (rdF ⟨st.length,ln,st.length+1,st.length+2⟩ tx 0), .l [], .l []]):=by
 have h0:isinstD [.s tx, .ty "str"] (st++[.o cC []])=some (.b true,st++[.o cC []]):=rfl;have f1:∀ y:D,putO "text" y []=([("text",y)]:List (Str×D)):=fun y=>by kernel_rfl
 have f2:∀ x y:D,putO "at" y [("text",x)]=([("text",x),("at",y)]:List (Str×D)):=fun x y=>by kernel_rfl
 have f3:∀ x z y:D,putO "names" y [("text",x),("at",z)]=([("text",x),("at",z),("names",y)]:List (Str×D)):=fun x z y=>by kernel_rfl
 have f4:∀ x z w y:D,putO "made" y [("text",x),("at",z),("names",w)]=([("text",x),("at",z),("names",w),("made",y)]:List (Str×D)):=fun x z w y=>by kernel_rfl
 have f5:∀ x z w v y:D,putO "pending" y [("text",x),("at",z),("names",w),("made",v)]=([("text",x),("at",z),("names",w),("made",v),("pending",y)]:List (Str×D)):=fun x z w v y=>by kernel_rfl
 have e1:setF cC "text" (.r st.length) (.s tx) (st++[.o cC []])=some ((),st++[.o cC [("text", .s tx)]]):=by rw[kW (by simp),f1]
 have e2:setF cC "at" (.r st.length) (.i 0) (st++[.o cC [("text", .s tx)]])=some ((),st++[.o cC [("text", .s tx),("at", .i 0)]]):=by rw[kW (by simp),f2]
 have e3:setF cC "names" (.r st.length) (.r ln) (st++[.o cC [("text", .s tx),("at", .i 0)]])=some ((),st++[.o cC [("text", .s tx),("at", .i 0),("names", .r ln)]]):=by rw[kW (by simp),f3]
 have e4:setF cC "made" (.r st.length) (.r (st.length+1)) (st++[.o cC [("text", .s tx),("at", .i 0),("names", .r ln)], .l []])=some ((),st++[.o cC [("text", .s tx),("at", .i 0),("names", .r ln),("made", .r (st.length+1))], .l []]):=by rw[kW (by simp),f4]
 have e5:setF cC "pending" (.r st.length) (.r (st.length+2)) (st++[.o cC [("text", .s tx),("at", .i 0),("names", .r ln),("made", .r (st.length+1))], .l [], .l []])=some ((),st++[.o cC [("text", .s tx),("at", .i 0),("names", .r ln),("made", .r (st.length+1)),("pending", .r (st.length+2))], .l [], .l []]):=by rw[kW (by simp),f5]
 simp[fM,kD,h0,e1,e2,e3,e4,e5]
 rfl
theorem jG{sort tx:Str}{d:D}{c l0:Nat}(hE:Rn true [tR sort] [] [] (cp tx) [] [d] c)(hc:c≤50000)(htx:tx.length≤100000)(h0:st[l0]?=some (.l [])):∃ st',fQ [.s sort, .s tx, .r l0] st=some (d,st')∧Ext st st':=by
 have e1:list2D [.r l0] st=some (.r st.length,st++[.l []]):=aEG h0;have x1:Ext st (st++[.l []]):=Ext.app _ _;generalize hA:(⟨st.length+1,st.length,st.length+2,st.length+3⟩:RA)=A;have e2:mkD cC fM [.s tx, .r st.length] (st++[.l []])=some (.r (st.length+1),st++[.l [],rdO A tx 0, .l [], .l []]):=by
  have:=aIe (st:=st++[.l []]) (tx:=tx) (ln:=st.length);unfold mkD;rw[this,← hA];simp[rdO]
 have q0:Rd A tx 0 [] [] [] (st++[.l [],rdO A tx 0, .l [], .l []]):=by
  subst hA;exact⟨by simp,by simp,by simp,by simp,by simp,by simp,by simp,Z23 _,htx⟩
 have x2:Ext st (st++[.l [],rdO A tx 0, .l [], .l []]):=Ext.app _ _;have hr:A.r=st.length+1:=by rw[← hA]
 have hn:A.n=st.length:=by rw[← hA]
 have hm:A.m=st.length+2:=by rw[← hA]
 have hp:A.p=st.length+3:=by rw[← hA]
 generalize st++[.l [],rdO A tx 0, .l [], .l []]=st2 at e2 q0 x2;have x3:Ext st2 (st2++[.l [tR sort]]):=Ext.app _ _;obtain⟨st3,e3,q3,k3⟩:=latr (l:=st2.length) [tR sort] (q0.ext x3) (by simp) (by simp);obtain⟨a4,a5,st4,g1,g2,g3⟩:=hE.2.2 A tx 0 [] [] [] (some (.s sort)) (some (.s tx)) (some (.r l0)) none none st3 q3 (by simp) (fun _=>rfl) (by simpa using hc) (by simpa using hc);have t1:truD (.r A.p) st4=some (false,st4):=jL g2.p;have hw:=g1 _ (iE (tb:=bRd) (tc:=tVl (eFl cC "pending" (eV 3))) (st1:=st4) (by simp[g2.pend,t1]));have hend:uS [.r A.r] st4=some (.no,st4):=by
  have h1:lenD [.s tx] st4=some (.i (tx.length:Nat),st4):=L2.fF (zl htx);have h2:(((0+(cp tx).length:Nat):Int)==(tx.length:Nat))=true:=by rw[Nat.zero_add,dC];simp
  have h3:=g2.at_;generalize ((0+(cp tx).length:Nat):Int)=q at h2 h3;simp[uS,wX,h3,g2.text,h1,h2]
 have hm0:ixD (.r A.m) (.i 0) st4=some (d,st4):=by rw[fX g2.m];simp
 refine⟨st4,?_,fun l x e=>?_⟩
 ·have hb:nA=seqS (sA (eMk cC fM (aC (eV 1) (aC (eCl list2D (aC (eV 2) aN)) aN))) (gN 3)) (seqS (sE (eMt cC "later" aX (eV 3) (aC (eL (aC (eT (aC (eV 0) aN)) aN)) aN))) (seqS (sW (tVl (eFl cC "pending" (eV 3))) bRd) (seqS (sE (eM0 cC "end" uS (eV 3))) (sR (eIx (eFl cC "made" (eV 3)) (eC (.i 0))))))):=rfl;have hw':whC (tVl (eFl cC "pending" (eV 3))) bRd [some (.s sort),some (.s tx),some (.r l0),some (.r A.r),none,none] st3=some ((.nx,[some (.s sort),some (.s tx),some (.r l0),some (.r A.r),a4,a5]),st4):=hw;rw[← hr] at e2;simp only[fQ,hb,sW];generalize whC _ bRd=W at hw' ⊢;simp[e1,e2,q0.o_later,e3,hw',g2.o_end,hend,g2.made,hm0]
 ·have hl:=(Z10.mp e).1;exact g3 l x (by omega) (by omega) (by omega) (by omega) (k3 l x (by omega) (by omega) (by omega) (by omega) (x3 l x (x2 l x e)))
theorem qF:FO true []:=fun tl h=>h rfl
theorem qG{d:D}:Rn true [] [] ([]++[d]) [] [] [d] 1:=aJb
theorem vL(l:List Bool)(h:l.length≤100):∃ st',iJ [.s (tmS l)] st=some (tmD l,st')∧Ext st st':=by
 have:=mF l;have hE:=tmR l qF (qG (d:=tmD l));rw[V12] at hE;have x1:Ext st (st++[.l []]):=Ext.app _ _;obtain⟨st',e,x⟩:=jG (st:=st++[.l []]) (l0:=st.length) hE (by omega) (by omega) (by simp);exact⟨st',by simp[iJ,kQ,e],x1.trans x⟩
theorem aAN{M far:Nat}(l:List Bool)(hm:M<60)(hl:l.length=M)(hf:M≠0→far<M):∃ st',bP [.s (boS M far l)] st=some (boD M far l,st')∧Ext st st':=by
 have:=mG (far:=far) hm l;have hE:=boR (b:=true) (by omega) hf l (by omega) qF (by rw[hl,Nat.sub_self];exact qG (d:=boD M far l));rw[V12,hl,Nat.sub_self] at hE;have x1:Ext st (st++[.l []]):=Ext.app _ _;obtain⟨st',e,x⟩:=jG (st:=st++[.l []]) (l0:=st.length) hE (by omega) (by omega) (by simp);exact⟨st',by simp[bP,dM,e],x1.trans x⟩
theorem aAO(l:List Nat)(h:l.length≤100):∃ st',bP [.s (stS l)] st=some (stD l,st')∧Ext st st':=by
 have:=oA l;have hE:=stR l qF (qG (d:=stD l));rw[V12] at hE;have x1:Ext st (st++[.l []]):=Ext.app _ _;obtain⟨st',e,x⟩:=jG (st:=st++[.l []]) (l0:=st.length) hE (by omega) (by omega) (by simp);exact⟨st',by simp[bP,dM,e],x1.trans x⟩
theorem aAP(l:List (Nat×Nat))(hk:∀ x∈l,x.2<200)(h:l.length≤200):∃ st',fU [.s (reS l)] st=some (reD l,st')∧Ext st st':=by
 have:=oC l hk;have hE:=reR l hk qF (qG (d:=reD l));rw[V12] at hE;have x1:Ext st (st++[.l []]):=Ext.app _ _;obtain⟨st',e,x⟩:=jG (st:=st++[.l []]) (l0:=st.length) hE (by omega) (by omega) (by simp);exact⟨st',by simp[fU,iW,e],x1.trans x⟩
theorem aAQ(l:List Nat)(h:l.length≤200):∃ st',fW [.s (taS l)] st=some (taD l,st')∧Ext st st':=by
 have:=oB l;have hE:=taR l qF (qG (d:=taD l));rw[V12] at hE;have x1:Ext st (st++[.l []]):=Ext.app _ _;obtain⟨st',e,x⟩:=jG (st:=st++[.l []]) (l0:=st.length) hE (by omega) (by omega) (by simp);exact⟨st',by simp[fW,iY,e],x1.trans x⟩
end
inductive Dp:Nat→D→Prop where
 |s {n:Nat} (x:Str):Dp n (.s x)
 |i {n:Nat} (k:Int):Dp n (.i k)
 |t {n:Nat} {xs:List D}:(∀ x∈xs,Dp n x)→Dp (n+1) (.t xs)
theorem Dp.mono{n m:Nat}{d:D}(h:Dp n d)(hm:n≤m):Dp m d:=by
 induction h generalizing m with
 |s x=>exact .s x
 |i k=>exact .i k
 |t _ ih=>
  obtain⟨m,rfl⟩:∃ k,m=k+1:=⟨m - 1,by omega⟩;exact .t fun x hx=>ih x hx (by omega)
theorem rO{f:D→D→Option Bool}:∀ xs:List D,(∀ x∈xs,f x x=some true)→deqL f xs xs=some true
 |[],_=>rfl
 |x::xs,h=>by
  rw[deqL,h x (by simp),rO xs fun y hy=>h y (by simp[hy])]
  rfl
theorem Dp.eq{st:Sto}{n:Nat}{d:D}(h:Dp n d):deq n st d d=some true:=by
 induction h with
 |@s n x=>
  have:flq (.s x) (.s x)=some true:=by show some (eqV (.str x) (.str x))=_;rw[pA rfl]
  cases n<;>exact this
 |@i n k=>
  have:flq (.i k) (.i k)=some true:=by show some (eqV (.int k) (.int k))=_;rw[pA rfl]
  cases n<;>exact this
 |t _ ih=>exact rO _ ih
theorem ne_self{st:Sto}{n:Nat}{d:D}(h:Dp n d)(hn:n≤900):neD d d st=some (.b false,st):=by
 unfold neD;rw[(h.mono hn).eq]
 rfl
theorem eq_self{st:Sto}{n:Nat}{d:D}(h:Dp n d)(hn:n≤900):eqD d d st=some (.b true,st):=by
 unfold eqD;rw[(h.mono hn).eq]
theorem Dp.t1{n:Nat}{a:D}(h:Dp n a):Dp (n+1) (.t [a]):=.t (by simpa using h)
theorem Dp.t2{n:Nat}{a b:D}(h:Dp n a)(h1:Dp n b):Dp (n+1) (.t [a,b]):=.t (by simpa using ⟨h,h1⟩)
theorem Dp.t3{n:Nat}{a b c:D}(h:Dp n a)(h1:Dp n b)(h2:Dp n c):Dp (n+1) (.t [a,b,c]):=.t (by simpa using ⟨h,h1,h2⟩)
theorem Dp.t4{n:Nat}{a b c d:D}(h:Dp n a)(h1:Dp n b)(h2:Dp n c)(h3:Dp n d):Dp (n+1) (.t [a,b,c,d]):=.t (by simpa using ⟨h,h1,h2,h3⟩)
theorem Dp.t0{n:Nat}:Dp (n+1) (.t []):=.t (by simp)
theorem aDu:∀ l,Dp (3+2 * l.length) (tmD l)
 |[]=>.t2 (.s _) (.s _)
 |true::l=>(Dp.t3 (.s _) (.s _) (.t1 (aDu l))).mono (by simp;omega)
 |false::l=>(Dp.t3 (.s _) (.s _) (.t2 ((Dp.t3 (n:=1) (.s _) (.s _) .t0).mono (by omega)) (aDu l))).mono (by simp;omega)
theorem aAR:Dp 2 qA:=.t3 (.s _) (.s _) .t0
theorem aDv{m far:Nat}:∀ l,Dp (4+l.length) (boD m far l)
 |[]=>by
  unfold boD
  split
  ·exact .t1 (.s _)
  ·exact .t3 (.s _) (.s _) (.t2 (.t2 (.s _) (.i _)) (.t2 (.s _) (.i _)))
 |true::l=>(Dp.t3 (.s _) (.s _) (aDv l)).mono (by simp;omega)
 |false::l=>(Dp.t3 (.s _) (.s _) (aDv l)).mono (by simp;omega)
theorem qH:∀ l,Dp (3+l.length) (stD l)
 |[]=>.t1 (.s _)
 |0::l=>(Dp.t3 (.s _) (qH l) (aAR.mono (by omega))).mono (by simp;omega)
 |1::l=>(Dp.t3 (.s _) (qH l) (aAR.mono (by omega))).mono (by simp;omega)
 |2::l=>(Dp.t3 (.s _) (qH l) (aAR.mono (by omega))).mono (by simp;omega)
 |3::l=>(Dp.t3 (.s _) (aAR.mono (by omega)) (qH l)).mono (by simp;omega)
 |4::l=>(Dp.t3 (.s _) (aAR.mono (by omega)) (qH l)).mono (by simp;omega)
 |(k+5)::l=>(Dp.t3 (.s _) (aAR.mono (by omega)) (qH l)).mono (by simp;omega)
theorem vM:∀ l,Dp (3+2 * l.length) (taD l)
 |[]=>.t1 (.s _)
 |0::l=>(Dp.t3 (.s _) (vM l) ((Dp.t1 (n:=0) (.s _)).mono (by omega))).mono (by simp;omega)
 |1::l=>(Dp.t2 (.s _) (.t2 ((Dp.t1 (n:=0) (.s _)).mono (by omega)) (vM l))).mono (by simp;omega)
 |2::l=>(Dp.t2 (.s _) (vM l)).mono (by simp;omega)
 |(k+3)::l=>(Dp.t2 (.s _) (vM l)).mono (by simp;omega)
theorem aJg:Dp 3 (.t [.s "atom", .s "p", .t [.t [.s "bound", .i 0]]]):=.t3 (.s _) (.s _) (.t1 (.t2 (.s _) (.i _)))
theorem qI:∀ l,Dp (5+3 * l.length) (reD l)
 |[]=>.t2 (.s _) (.s _)
 |(0,_)::l=>(Dp.t2 (.s _) (qI l)).mono (by simp;omega)
 |(1,_)::l=>(Dp.t2 (.s _) (qI l)).mono (by simp;omega)
 |(2,_)::l=>(Dp.t3 (.s _) ((Dp.t2 (n:=0) (.s _) (.i _)).mono (by omega)) (qI l)).mono (by simp;omega)
 |(3,_)::l=>(Dp.t4 (.s _) (.s _) ((Dp.t1 (n:=0) (.s _)).mono (by omega)) (qI l)).mono (by simp;omega)
 |(4,_)::l=>(Dp.t3 (.s _) ((Dp.t2 (n:=0) (.s _) (.s _)).mono (by omega)) (.t1 (.t3 ((Dp.t0 (n:=0)).mono (by omega)) (.s _) (qI l)))).mono (by simp;omega)
 |(k+5,_)::l=>(Dp.t4 (.s _) (.s _) (aJg.mono (by omega)) (.t1 (.t3 ((Dp.t1 (n:=0) (.s _)).mono (by omega)) ((Dp.t2 (n:=0) (.s _) (.s _)).mono (by omega)) (qI l)))).mono (by simp;omega)
theorem aDw{ns:List Int}(hl:ns.length≤63):∃ st',yH [.f (ns.map D.i)] []=some (.b true,st'):=by
 obtain⟨p,s0,e0,d0⟩:=aFd hl;obtain⟨k1,s1,n1,b1,v1⟩:=iC (n:=61) d0 (by omega) (by omega);obtain⟨l1,s2,m1,c1,v2⟩:=uT (m:=k1) v1.sd (by omega);obtain⟨s3,w1,x1⟩:=vA (st:=s2) l1 (by omega);obtain⟨s4,r1,y1⟩:=vL (st:=s3) l1 (by omega);have z1:=aDu l1;have o1:=ne_self (st:=s4) z1 (by omega);have v3:=v2.ext (x1.trans y1);obtain⟨k2,s5,n2,b2,v4⟩:=iC (n:=60) v3.sd (by omega) (by omega);obtain⟨far,l2,s6,m2,c2,f2,v5⟩:=qO (m:=k2) v4.sd (by omega);obtain⟨k3,s7,n3,b3',v6⟩:=iC (n:=61) v5.sd (by omega) (by omega);obtain⟨l3,s8,m3,c3,v7⟩:=qM (m:=k3) v6.sd (by omega);obtain⟨s9,w2,x2⟩:=aAG (st:=s8) l2 (by omega) c2 f2;obtain⟨s10,r2,y2⟩:=aAN (st:=s9) l2 (by omega) c2 f2;have o2:=ne_self (st:=s10) (aDv (m:=k2) (far:=far) l2) (by omega);obtain⟨s11,w3,x3⟩:=aAH (st:=s10) l3 (by omega);obtain⟨s12,r3,y3⟩:=aAO (st:=s11) l3 (by omega);have o3:=ne_self (st:=s12) (qH l3) (by omega);have v8:=v7.ext ((x2.trans y2).trans (x3.trans y3));obtain⟨k4,s13,n4,b4,v9⟩:=iC (n:=151) v8.sd (by omega) (by omega);obtain⟨l4,s14,m4,c4,f4,v10⟩:=qN (m:=k4) v9.sd (by omega);obtain⟨s15,w4,x4⟩:=aAI (st:=s14) l4 f4 (by omega);obtain⟨s16,r4,y4⟩:=aAP (st:=s15) l4 f4 (by omega);have o4:=ne_self (st:=s16) (qI l4) (by omega);have v11:=v10.ext (x4.trans y4);obtain⟨k5,s17,n5,b5,v12⟩:=iC (n:=21) v11.sd (by omega) (by omega);obtain⟨l5,s18,m5,c5,v13⟩:=qL (m:=k5) v12.sd (by omega);obtain⟨s19,w5,x5⟩:=aAJ (st:=s18) l5 (by omega);obtain⟨s20,r5,y5⟩:=aAQ (st:=s19) l5 (by omega);have o5:=eq_self (st:=s20) (vM l5) (by omega);have n1':aF [.r p, .i 61] s0=some (.i (k1:Nat),s1):=n1;have n2':aF [.r p, .i 60] s4=some (.i (k2:Nat),s5):=n2;have n3':aF [.r p, .i 61] s6=some (.i (k3:Nat),s7):=n3;have n4':aF [.r p, .i 151] s12=some (.i (k4:Nat),s13):=n4;have n5':aF [.r p, .i 21] s16=some (.i (k5:Nat),s17):=n5;refine⟨s20,?_⟩;generalize tmD l1=t1 at m1 w1 r1 o1;generalize tmS l1=u1 at m1 w1 r1;generalize boD k2 far l2=t2 at m2 w2 r2 o2;generalize boS k2 far l2=u2 at m2 w2 r2;generalize stD l3=t3 at m3 w3 r3 o3;generalize stS l3=u3 at m3 w3 r3;generalize reD l4=t4 at m4 w4 r4 o4;generalize reS l4=u4 at m4 w4 r4;generalize taD l5=t5 at m5 w5 r5 o5;generalize taS l5=u5 at m5 w5 r5;generalize ns.map D.i=NS at e0 ⊢;simp[yH,aCR,e0,n1',m1,w1,r1,o1,n2',m2,n3',m3,forD,w2,r2,o2,w3,r3,o3,n4',m4,w4,r4,o4,n5',m5,w5,r5,o5]
end K89
end
section
open PySem PySem.W
set_option maxRecDepth 100000 in
theorem PySem.Challenge.cw_tacticwright_k89_deep_texts_holds : PySem.Challenge.rw_tacticwright_k89_deep_texts.Holds :=
 L2.aEZ (l:=PySem.Challenge.rw_tacticwright_k89_deep_texts) (Good:=fun w K=>K89.yf K=K89.yv w) K89.said K89.left (fun _ _ h=>h) K89.hdef K89.hp (by kernel_rfl) (by kernel_rfl) K89.okk K89.hb K89.hw
  (L2.aEY (k:=8) (x:="_law_script") (f:=K89.yH) (by kernel_rfl) (by kernel_rfl) ⟨rfl,by decide,by decide⟩ (fun w K Y mg fa h X G hfa=>K89.aHP Y X G hfa) fun ns hl=>K89.aDw hl)
#print axioms PySem.Challenge.cw_tacticwright_k89_deep_texts_holds
end
